import PyProof.Rows.All
import Wide.All
import OpenK.AllK
import Wide.FinOn
import Lean
import PyProof.EqAt
import PyProof.EqKinds
import PyProof.TupleCall
import PySem.Challenge.RW_sortlore_k61_joints
open List renaming length_map → qa0, length_append → qa1, getElem?_eq_getElem → qa3, map_append → qa4, getElem?_eq_some_iff → qa5, mem_append → qa6, mem_singleton → qa7, mem_map → qa8, mem_cons_of_mem → qa9, mem_cons → qaa, mem_of_getElem? → qab, mem_cons_self → qac, length_cons → qad, length_take → qaf, length_singleton → qag, append_nil → qah, size_toArray → qai, take_length → qaj, map_cons → qak, mem_append_right → qam, mem_append_left → qaq, append_assoc → qas, mem_filter → qat, nodup_cons → qax, mem_iff_getElem → qay, take_append_drop → qaA, length_eq_zero_iff → qaB, getElem?_map → qaC, take_of_length_le → qaF, length_nil → qaG, replicate → qaH, nodup_iff_pairwise_ne → qaI, getD_eq_getElem?_getD → qaJ, flatMap_append → qaK, mem_flatMap → qaP, take_add_one → qaQ, getElem?_append_right → qaR, take_zero → qaU, pairwise_iff_getElem → qaV, length_drop → qaW, nodup_append → qaX, getElem?_append_left → qb2, find?_cons → qb3, idxOf_lt_length_iff → qb4, length → qb5, map_map → qb7, flatMap_cons → qb8, filterMap_cons → qbb, takeWhile_cons_of_pos → qbd, countP_cons → qbe, filter_append → qbf, foldl_append → qbk, flatten_cons → qbl, replicate_succ → qbn, map_congr_left → qbo, filter_cons_of_pos → qbp, filter_cons_of_neg → qbq, any_cons → qbr, filter_eq_nil_iff → qbs, length_filter_le → qbv, map_take → qbx, not_mem_nil → qbz, flatten_append → qbA, filter_eq_self → qbB, mem_filterMap → qbC, map_drop → qbD, getElem_idxOf → qbE, cons → qbF, drop_of_length_le → qbH, range → qbI, mem_range → qbL, getElem_mem → qbN, any_eq_true → qbO
open Nat renaming le_refl → qa2, le_trans → qan, zero_le → qar, lt_of_lt_of_le → qau, ne_of_lt → qaw, le_add_right → qb0, lt_irrefl → qbg, lt_of_le_of_lt → qbu, min_eq_left → qbw
open Bool renaming false_ne_true → qae, and_eq_true → qav, eq_iff_iff → qbc, false_xor → qbh, false_eq_true → qbG, not_eq_true' → qbJ
open PySem.F renaming plainAttrs_list → qal, type_list_append → qao, slot_list_append → qap
open PySem.W renaming findIn → qaz, nsIn → qaD, mg_none_of → qaE, keepIn → qaL, fnOf → qaM, codeIn → qaS, kia_one → qaY, emptyDict → qb1, instObj → qbi, mg_of → qbm, isFn → qby, plainGet → qbK
open PySem.PyData renaming eqv → qaN, strOk → qaO, eqvAll → qb6, depthAll → qbj, depth → qbt
open Int renaming emod_lt_of_pos → qaT, emod_nonneg → qaZ, zero_add → qbM
open Array renaming toList_append → qb9, length_toList → qba
set_option Elab.async false
set_option linter.all false
set_option maxRecDepth 100000
noncomputable section
set_option genInjectivity false in
set_option genSizeOf false in
structure PySem.W.Fast where (tw1549387768642655647 tw10043834355998712976 tw568021113082639731 tw953353656206224268 tw14172904060835273064 tw16516723276105749586 tw11745290331023646084 tw8894190815074228305 tw852193557672531128 tw3589202278921841383 tw8239516926888605860 tw9227739653999751539 tw4073216095344987753 tw8316503487019858188 tw7539544710735594169 tw6710675982100363703 tw12304739149903360972 tw2872162782453690734 tw221536393065185958 tw7075048802961431783 tw9633744501290423317 tw6426361212420906449 tw9164111949619901464 tw12591201925806701626 tw1953554951954370602 tw3777059870447456448 tw11122712829865379873 tw34539019484547971 tw9499904645543332814 tw12751297362964413321 tw8444699370396313191 tw8739599406709506685 tw3209509949203079922 tw6439691742399398412 tw11800962895690151783 tw15065911684477996752 tw12530105652797330581 tw12668049642676227479 tw15512867257441138674
tw1918310549689598756 tw14426748485362234749 tw2974081259536878200 tw8657682397198751049 tw3015033478070931681 tw1259085893956600103 tw15724114603646905104 tw13400404589896683984 tw4396258464118473026 tw9162087927878338200 tw14121732929401839097 tw6526642227988023975 tw5415043481774604965 tw12742600047486432745 tw2065621575564779416 tw11216402907931811484 tw476045839902643117 tw8809959327853376122 tw10805060487140616112 tw13132367049751341055 tw18138859195502995550 tw6481097977223010343 tw5215234198029021116 tw634870449133971552 tw13642284238733643329 tw12166327290239663955 tw12275284774422750976 tw17293567267881720194 tw1151581917176857487 tw1069365068660761912 tw5805722135690276488 tw3844954277365157212 tw933403396774424371 tw9063387880129659546 tw8440713072697408164 tw1188684343317472793 tw4816802728607144912 tw1949252092393743297 tw13126533003517207049 tw1569344122228323415
tw11706022203637584937 tw3301138596543990196 tw11891959847160211815 tw15021803995208105529 tw3980513801985823342 tw6613198916189337506 tw537962115048768257 tw968169505131938307 tw14782659361701432124 tw16281428928496169146 tw10212061290117483001 tw5089477724203785180 tw14945521936472431489 tw4979431017361078562 tw12969577141866557150 tw14456073888092795246 tw3609641888047731801 tw246815612952894459 tw17898561173863419876 tw13390731914548728027 tw13223936104293577651 tw4129208107053202780 tw3465732124149360516 tw10521015119530192564 tw15251146681028221760 tw15041709202939011540 tw18303104007745731201 tw5467229576590176113 tw7161109704407713748 tw16789506847535305401 tw13628391163348466126 tw7847331340600857058 tw6562643788651629513 tw9483840596845408549 tw9724098685321427602 tw11378484774696051209 tw7164032507895206916 tw6690274298110609616 tw16654956538298132887 tw4033528036274498898
tw418825670658410341 tw13189523617130375174 tw3548296285158583729 tw18014310741996519695 tw3743409604689333973 tw1599392267116901587 tw4420015931942767454 tw12689741762956231287 tw15616930680262588090 tw18293781985612993023 tw15066731955133644603 tw8109176785921681799 tw9815349900519758141 tw1781934169653068636 tw2016311409097660703 tw8614271559990852717 tw3079371262727782558 tw8119972054142055802 tw4414169888936033150 tw5944107125060306973 tw2616446279414111565 tw2025724801495475680 tw7147450939471563510 tw10171756720956215949 tw9393072722837924656 tw15047071064476337431 tw7774301403650032203 tw9746631314553310754 tw12565927255687040418 tw7438674873874839567 tw15724989990278244140 tw5015862156959216411 tw17513056703298446487 tw15038530176664430356 tw5591321555315761663 tw12030314677560361284 tw16739756168374498733 tw17395797588740478249 tw8841615926846922413 tw18337061290169168043
tw13097025143334368675 tw9430740016003797698 tw5431732637453708794 tw6868939712910023810 tw8435911529917791791 tw16184369747760398952 tw1035061271146458073 tw16307084444904893484 tw8593423707441629525 tw3030221810812318531 tw12390254309014751063 tw13571945444583042110 tw8888048281937675254 tw12576392386586196303 tw3431318145898278577 tw5389505389974353271 tw14515796088794648595 tw3164618342286131078 tw3960714337309315417 tw10618628290772385126 tw5989514317243236632 tw3207822853087277526 tw13172100047279152781 tw8504896930281180475 tw4349558303416426515 tw13930287723822984444 tw1628866898787363164 tw1106855839148461250 tw12710515678437007208 tw3268075901943508795 tw16955397494642595354 tw4296634500241749979 tw16951813882379873378 tw14958445654735449469 tw8968467445565662625 tw10926843615772097665 tw8342269018787650142 tw8852778378600220256 tw14725168381216355731 tw18267783451113164067
tw1809554475876084824 tw10689012778576769792 tw16500563121295149936 tw4774865306436594334 tw2803611041340420129 tw11565548719947489094 tw6535144974869177354 tw11961430340581229152 tw17385483513243372650 tw1321730073779410338 tw14979147190047161732 tw17949151347154191297 tw10550380247233732743 tw11108414737899102829 tw1799962130355718433 tw15894895804799798510 tw6561135711045443362 tw1379218489467288641 tw4051120164772553930 tw10264989786140351190 tw9060806070700107814 tw194422095547152801 tw14698388108967527802 tw1113621284881965491 tw16579429805867797478 tw6422239824449948544 tw6848731378595599960 tw7430546639542653612 tw18301253800962771062 tw2759260418453217904 tw15073273717047897235 tw5386168337737140400 tw8114607109256551427 tw10738089901858132161 tw9393479001103555755 tw7230752267411974919 tw16567655456011886608 tw17977592545260837564 tw16273969827018377485 tw16186828623836670375
tw3441953618771624360 tw17735457663606358535 tw6241121078038886051 tw6243404918825943501 tw11126570226974184248 tw13874408998059813228 tw10203629108930269490 tw3746943110278347797 tw13206421460508076159 tw8068441619060553872 tw9192403890448106113 tw5286146730321846731 tw8825305507976052767 tw14575037582718895262 tw16780701425581967734 tw1395809039094084187 tw3811609016094231836 tw2075933829597109133 tw10672280728762932954 tw8913112613340939090 tw7705125143659516436 tw12963073988531576928 tw8743754489097255993 tw14358003882056151585 tw5313515946210186529 tw12461876906788327099 tw11011472119783293631 tw15269888674238593663 tw78595726808389249 tw8875137181219643093 tw2983597463224020399 tw12013896204091769548 tw2980107449305959426 tw2514444814942964960 tw14998865133470056280 tw15025851789291407800 tw3844288687081654119 tw4179781416412310280 tw18345482519468896039 tw6252668309019048555
tw13215243498544406088 tw9613039812142957662 tw2836924453881862601 tw11861257658865499114 tw5486940701770093564 tw13686276745940588173 tw161563587496835747 tw458155673589529112 tw16490707336072656482 tw2987775243434860685 tw4904446937745192835 tw10985697083608871541 tw16801595967331749708 tw8422327995084182540 tw9413121067512236241 tw12352190595974508256 tw11083310193295641907 tw687265537798611666 tw6215002607872706471 tw18346035378266098064 tw11702414138150149288 tw14405760411310855437 tw5821994534250508563 tw11218227429899594536 tw10605121739873078888 tw2261225084305782247 tw9714119253929192154 tw15319235594077107739 tw3630000545579992739 tw1627342849923352441 tw12628429260515240305 tw5617834232401604176 tw14455164578590794305 tw7609726826772426282 tw3877818733569833192 tw12386505917123503613 tw5211472166326194367 tw8681318188967289880 tw17658605121314346436 tw16957987782728394570
tw15564778465713606647 tw12131874009754463505 tw14729305937346621250 tw8639772929402989577 tw16207039861501343519 tw1850834863592198176 tw284961062134579552 tw14593534318622073049 tw15700243206869024184 tw14871030013915122534 tw11769964320800556653 tw11128413321932532019 tw7981109581498765190 tw6424985058808705472 tw15823211397073865973 tw13041024608925284619 tw10001645989169026239 tw11424714045967947556 tw8249059729544534260 tw9219453222393159281 tw3818460790257236829 tw4225022251188782837 tw16609793537714753783 tw18028317125876911586 tw5069508541274360807 tw17786724121646711220 tw3028132577720786757 tw14993844556091553606 tw7857594375600607000 tw2792036012496880909 tw4910010658168894319 tw5802804660161467303 tw14435606846925994789 tw11618053303882102728 tw9084729627534676556 tw11035578299800806654 tw2683285120198723374 tw12155417677159561971 tw16675583519462964137 tw16691603307921635255
tw14804022857199790637 tw8866148303454619372 tw14696637336809885161 tw5954693637875416417 tw4153492729179392742 tw3148851553269627106 tw12643010789746394523 tw15979239787247130478 tw9422530734653627433 tw17947837177929021791 tw12442596452084216161 tw11168164494807364265 tw5488357807606891244 tw11233804526211837616 tw14013247230376788004 tw4056527243994448801 tw1928441347312288553 tw13529470857778192665 tw6454770998754955025 tw2242056987413618910 tw3221698552373476938 tw12608935710738469217 tw1202049301996925188 tw11333908189283830371 tw4945804931760453388 tw11119965565724346580 tw9598467015747404014 tw7845884493319909326 tw17470355222795225294 tw11585422191668160167 tw11829233708081700129 tw16581328337451366269 tw1974026197145595365 tw4363553951154354593 tw6354175574171851909 tw3610113395315241459 tw2072033919699681388 tw14037518692443546890 tw314035940036194954 tw15146381496716860030
tw15111619781004771272 tw14767592699107155944 tw12581021810747414126 tw1285157300122244919 tw9496653114836627985 tw10650393122812618094 tw12969617194966404082 tw15367789083408434822 tw25143323154189890 tw12063589924472668301 tw4581910944991998508 tw9244823661609657070 tw4150488398736752657 tw3112037647888154672 tw8855194103984619845 tw1617698380782942783 tw15325460853397858324 tw17983089149835575057 tw2705985721436112450 tw14059396239825433559 tw6342727579112711002 tw5361604828435727983 tw12334319145506001291 tw13427122036925092796 tw2211899119598948924 tw5612216202623880796 tw3983070141737655692 tw6576797393629806676 tw13208932650935510292 tw13461658583263954070 tw817752213582200715 tw12546077225056431757 tw11981809410250077299 tw10579019846761021015 tw4704808562318596519 tw5103733051381162363 tw1941287754798186432 tw14976097362521602922 tw316841927799190723 tw684150171156868571
tw101503959225137613 tw7540503995874333980 tw14370894629966611144 tw13420351922076091641 tw4447545804276211532 tw5240766938494532232 tw4700629811211114194 tw4966373414915518279 tw17245479028913455805 tw2097229336906434730 tw11586318267211206490 tw2049694061785623409 tw11109792666463544528 tw4323184835994675620:Nat)
set_option maxRecDepth 100000
namespace L2
open PySem PySem.Spec PyProof.Rows
noncomputable abbrev Key:=Sum Int Str
noncomputable def keyIs:Key->Value->Bool
 | .inl k,v=>Value.isInt k v
 | .inr x,v=>Value.isStrOf x v
noncomputable def keyH (w:World):Key->Int
 | .inl k=>hashInt k
 | .inr x=>hashStr w x
theorem aaV:∀ {k:Key} {v:Value},keyIs k v=true->(∃ i t,k=Sum.inl i/\v=Value.int i t)\/(∃ x t,k=Sum.inr x/\v=Value.str x t)
 | .inl i,v,h=>by
  obtain ⟨t,e⟩:=Value.isInt_shape (k:=i) (v:=v) h;exact .inl ⟨i,t,rfl,e⟩
 | .inr x,v,h=>by
  obtain ⟨t,e⟩:=Value.isStrOf_shape (x:=x) (v:=v) h;exact .inr ⟨x,t,rfl,e⟩
theorem aie(i:Int)(t:Tok):keyIs (.inl i) (.int i t)=true:=by simp [keyIs,Value.isInt]
theorem acb(x:Str)(t:Tok):keyIs (.inr x) (.str x t)=true:=by simp [keyIs,Value.isStrOf]
theorem amU(a b:Int):decide ((Sum.inl a:Key)=Sum.inl b)=(a==b):=by
 by_cases e:a=b
 ·subst e;simp
 ·have h:¬ (Sum.inl a:Key)=Sum.inl b:=fun q=>e (Sum.inl.inj q)
  rw [decide_eq_false h];exact (beq_eq_false_iff_ne.mpr e).symm
theorem amV(a b:Str):decide ((Sum.inr a:Key)=Sum.inr b)=decide (a=b):=by
 by_cases e:a=b
 ·subst e;simp
 ·have h:¬ (Sum.inr a:Key)=Sum.inr b:=fun q=>e (Sum.inr.inj q)
  rw [decide_eq_false h,decide_eq_false e]
theorem amW(a:Int)(b:Str):decide ((Sum.inl a:Key)=Sum.inr b)=false:=decide_eq_false (fun q=>nomatch q)
theorem amX(a:Str)(b:Int):decide ((Sum.inr a:Key)=Sum.inl b)=false:=decide_eq_false (fun q=>nomatch q)
noncomputable def aaR (prog:Program) (w:World):PySem.KeyKind prog w Key where
 is:=keyIs
 hash:=keyH w
 inj:=fun v a b ha hb=>by
  rcases aaV ha with ⟨i,t,rfl,rfl⟩ | ⟨x,t,rfl,rfl⟩
  ·rcases aaV hb with ⟨j,u,rfl,e⟩ | ⟨y,u,rfl,e⟩
   ·injection e with e1 _;rw [e1]
   ·exact nomatch e
  ·rcases aaV hb with ⟨j,u,rfl,e⟩ | ⟨y,u,rfl,e⟩
   ·exact nomatch e
   ·injection e with e1 _;rw [e1]
 byValue:=fun k v h=>by
  rcases aaV h with ⟨i,t,rfl,rfl⟩ | ⟨x,t,rfl,rfl⟩ <;> rfl
 pyHash:=fun hv h=>by
  rcases aaV hv with ⟨i,t,rfl,rfl⟩ | ⟨x,t,rfl,rfl⟩
  ·exact wpAny_pyHash_int h
  ·exact wpAny_pyHash_str h
 eqBool:=fun hu hv h=>by
  rcases aaV hu with ⟨i,t,rfl,rfl⟩ | ⟨x,t,rfl,rfl⟩
  ·rcases aaV hv with ⟨j,u,rfl,rfl⟩ | ⟨y,u,rfl,rfl⟩
   ·rw [amU] at h;exact wpAny_eqBool_int h
   ·rw [amW] at h;exact SeqAt.EqAt.int_str i t y u _ _ _ _ h
  ·rcases aaV hv with ⟨j,u,rfl,rfl⟩ | ⟨y,u,rfl,rfl⟩
   ·rw [amX] at h;exact SeqAt.EqAt.str_int x t j u _ _ _ _ h
   ·rw [amV] at h;exact wpAny_eqBool_str h
 «strs»:=fun k x t v h=>by
  rcases aaV h with ⟨i,u,rfl,e⟩ | ⟨y,u,rfl,e⟩
  ·exact nomatch e
  ·injection e with e1 _
   subst e1
   cases v <;> rfl
theorem agq(prog:Program)(w:World)(i:Int)(t:Tok):(aaR prog w).is (.inl i) (.int i t)=true:=aie i t
theorem agr(prog:Program)(w:World)(x:Str)(t:Tok):(aaR prog w).is (.inr x) (.str x t)=true:=acb x t
end L2
namespace L2
open PySem PySem.Spec PyProof.Rows
inductive V where
 | non | bl (b:Bool) | int (i:Int) | str (x:Str) | byt (b:Array UInt8) | flt (b:UInt64) | ref (a:Addr) | ty (n:String)
 deriving DecidableEq
noncomputable def RelV:V->Value->Prop
 | .non,u=>u=Value.none
 | .bl b,u=>u=Value.bool b
 | .int i,u=>∃ t,u=Value.int i t
 | .str x,u=>∃ t,u=Value.str x t
 | .byt b,u=>∃ t,u=Value.bytes b t
 | .flt b,u=>∃ t,u=Value.float b t
 | .ref a,u=>u=Value.ref a
 | .ty n,u=>u=Value.type n
noncomputable abbrev Vals:List V->List Value->Prop:=Paired RelV
theorem Vals.length{xs:List V}{us:List Value}(r:Vals xs us):xs.length=us.length:=Paired.length r
theorem Vals.get:∀ {xs:List V} {us:List Value} {i:Nat} {x:V},Vals xs us->xs[i]?=some x->∃ u,us[i]?=some u/\RelV x u
 | _,_,_,_,.nil,e=>by simp at e
 | _,_,0,_,.cons r _,e=>by simp at e;subst e;exact ⟨_,rfl,r⟩
 | _,_,i+1,x,.cons _ t,e=>by
  obtain ⟨u,h1,h2⟩:=Vals.get (i:=i) (x:=x) t (by simpa using e);exact ⟨u,by simpa using h1,h2⟩
theorem Vals.set{x:V}{u:Value}(r:RelV x u):∀ {xs:List V} {us:List Value} (i:Nat),Vals xs us->Vals (xs.set i x) (us.set i u)
 | _,_,_,.nil=>.nil
 | _,_,0,.cons _ t=>.cons r t
 | _,_,i+1,.cons q t=>.cons q (Vals.set r i t)
theorem Vals.append:∀ {xs ys:List V} {us ws:List Value},Vals xs us->Vals ys ws->Vals (xs++ys) (us++ws)
 | _,_,_,_,.nil,s=>s
 | _,_,_,_,.cons r t,s=>.cons r (Vals.append t s)
theorem Vals.take:∀ {xs:List V} {us:List Value} (n:Nat),Vals xs us->Vals (xs.take n) (us.take n)
 | _,_,0,_=>.nil
 | _,_,_+1,.nil=>.nil
 | _,_,n+1,.cons r t=>.cons r (Vals.take n t)
theorem Vals.drop:∀ {xs:List V} {us:List Value} (n:Nat),Vals xs us->Vals (xs.drop n) (us.drop n)
 | _,_,0,r=>r
 | _,_,_+1,.nil=>.nil
 | _,_,n+1,.cons _ t=>Vals.drop n t
theorem Vals.none_of:∀ {xs:List V} {us:List Value} {i:Nat},Vals xs us->xs[i]?=none->us[i]?=none:=fun {xs us i} r e=>by
 have h1:=r.length;have h2:xs.length<=i:=List.getElem?_eq_none_iff.mp e;exact List.getElem?_eq_none_iff.mpr (by omega)
noncomputable def RelO:Option V->Option Value->Prop
 | some v,some u=>RelV v u
 | none,none=>True
 | _,_=>False
noncomputable def KV {κ:Type} : List (κ×V)->List (κ×Value)->Prop:=Paired fun (p:κ×V) (q:κ×Value)=>p.1=q.1/\RelV p.2 q.2
noncomputable def kV:Key->V
 | .inl i=>.int i
 | .inr x=>.str x
inductive HO where
 | lst (xs:List V)
 | tup (xs:List V)
 | dK (kvs:List (Key×V)) | dT (kvs:List (List Key×V))
 | set (S:Int->Bool) (n:Nat)
 | ins (C dx:Addr) (fs:List (Str×V))
 | own (x:Addr)
 | xd (fs:List (Str×V))
 | met (f x:Addr)
 | rng (lo hi:Int)
 | frz (o:Obj) (u:HO)
 | tbl (ps:Array Value)
 | ext (φ:Heap->Prop)
noncomputable abbrev Hp:=Addr->Option HO
noncomputable def upd (H:Hp) (a:Addr) (o:HO):Hp:=fun b=>if b=a then some o else H b
theorem aaa{H:Hp}{a:Addr}{o:HO} : upd H a o a=some o:=by unfold upd;rw [if_pos rfl]
theorem aah{H:Hp}{a b:Addr}{o:HO}(h:b≠a):upd H a o b=H b:=by unfold upd;rw [if_neg h]
theorem ne_of{H:Hp}{a b:Addr}{o u:HO}(h:H a=some o)(h':H b=some u)(d:o≠u):a≠b:=by
 intro e;subst e;rw [h] at h';exact d (Option.some.inj h')
theorem abo{H:Hp}{a b:Addr}{o:HO}(h:H a=some o)(h':H b=none):a≠b:=by
 intro e;subst e;rw [h] at h';cases h'
section
variable (P:Program) (w:World)
noncomputable def ObjOk (H:Hp) (h:Heap) (a:Addr):HO->Prop
 | .lst xs=>xs.length<=sizeLine/\∃ (its:List Value) (n:Nat),Vals xs its/\h.get? a=some { cls:=.type "list",data:=.seq its.toArray n }
 | .tup xs=>xs.length<=sizeLine/\∃ its:List Value,Vals xs its/\IsTup h a its.toArray
 | .dK kvs=>kvs.length<=sizeLine/\(a==sysModules)=false/\∃ vs,KV kvs vs/\h.DictOf (aaR P w) a vs
 | .dT kvs=>kvs.length<=sizeLine/\(a==sysModules)=false/\∃ xs:List (List Key×Addr×Value),
   Paired (fun (p:List Key×V) (q:List Key×Addr×Value)=>p.1=q.1/\H q.2.1=some (.tup (p.1.map kV))/\RelV p.2 q.2.2) kvs xs/\
   ∃ o es ep,h.get? a=some o/\o.ExactDict/\o.data=.dict es ep/\es.toList=xs.map (entryOfKey (tupleKind (aaR P w)))/\(xs.map (·.1)).Nodup
 | .set S n=>h.SetOf (intKind P w) a S n
 | .ins C dx fs=>H dx=some (.own a)/\fs.length<=1000/\dx≠a/\h.get? a=some (qbi C dx)/\
   ∃ mA,h.Ns1 dx mA/\(∀ f,RelO (fs.lookup f) (mA f))/\PySem.Within mA (fs.map (·.1))
 | .own _=>∃ o,h.get? a=some o
 | .xd fs=>∃ mA,h.Ns1 a mA/\∀ f,RelO (fs.lookup f) (mA f)
 | .rng lo hi=>∃ t u v,h.get? a=some { cls:=.type "range",data:=.fields #[.int lo t,.int hi u,.int 1 v] }
 | .frz o u=>h.get? a=some o/\ObjOk H h a u
 | .tbl ps=>h.get? a=some { cls:=.none,data:=.fields ps }
 | .met f x=>h.get? a=some (PySem.W.methodObj (.ref f) (.ref x))
 | .ext φ=>φ h/\(∃ o,h.get? a=some o)/\∀ h1 h2:Heap,φ h1->(∀ o,h1.get? a=some o->h2.get? a=some o)->φ h2
noncomputable def HOk (H:Hp) (h:Heap):Prop:=∀ a o,H a=some o->ObjOk P w H h a o
end
section
variable {P:Program} {w:World} {H H':Hp} {h h':Heap} {a:Addr} {o:HO}
theorem ObjOk.lt(x:ObjOk P w H h a o):a<h.objs.size:=by
 cases o with
 | lst xs=>obtain ⟨_,_,_,_,e⟩:=x;exact Heap.lt_size e
 | tup xs=>obtain ⟨_,_,_,p⟩:=x;exact p.lt
 | dK kvs=>obtain ⟨_,_,_,_,o,_,_,e,_⟩:=x;exact Heap.lt_size e
 | dT kvs=>obtain ⟨_,_,_,_,o,_,_,e,_⟩:=x;exact Heap.lt_size e
 | set S n=>obtain ⟨o,_,_,_,e,_⟩:=x;exact Heap.lt_size e
 | ins C dx fs=>obtain ⟨_,_,_,e,_⟩:=x;exact Heap.lt_size e
 | own y=>obtain ⟨_,e⟩:=x;exact Heap.lt_size e
 | xd fs=>obtain ⟨_,⟨_,_,_,e,_⟩,_⟩:=x;exact Heap.lt_size e
 | rng lo hi=>obtain ⟨_,_,_,e⟩:=x;exact Heap.lt_size e
 | frz ob u=>obtain ⟨e,_⟩:=x;exact Heap.lt_size e
 | tbl ps=>exact Heap.lt_size (show h.get? a=some _ from x)
 | met f y=>exact Heap.lt_size (show h.get? a=some _ from x)
 | ext φ=>obtain ⟨_,⟨_,e⟩,_⟩:=x;exact Heap.lt_size e
theorem uam{α β:Type}{F G:α->β->Prop} : ∀ {l₁:List α} {l₂:List β},Paired F l₁ l₂->(∀ a b,F a b->G a b)->Paired G l₁ l₂
 | _,_,.nil,_=>.nil
 | _,_,.cons r t,f=>.cons (f _ _ r) (uam t f)
theorem ObjOk.stay(x:ObjOk P w H h a o)(k:∀ b u,(b=a\/H b=some (.own a))->h.get? b=some u->h'.get? b=some u)(ho:∀ b,H b=some (.own a)->H' b=some (.own a))(ht:∀ b xs,H b=some (.tup xs)->H' b=some (.tup xs)):ObjOk P w H' h' a o:=by
 induction o with
 | lst xs=>obtain ⟨z,its,n,r,e⟩:=x;exact ⟨z,its,n,r,k _ _ (.inl rfl) e⟩
 | tup xs=>obtain ⟨z,its,r,ob,e,c⟩:=x;exact ⟨z,its,r,ob,k _ _ (.inl rfl) e,c⟩
 | dK kvs=>obtain ⟨z,y,vs,r,ob,es,ep,e,c⟩:=x;exact ⟨z,y,vs,r,ob,es,ep,k _ _ (.inl rfl) e,c⟩
 | dT kvs=>
  obtain ⟨z,y,xs,r,ob,es,ep,e,c⟩:=x;exact ⟨z,y,xs,uam r fun p q z=>⟨z.1,ht _ _ z.2.1,z.2.2⟩,ob,es,ep,k _ _ (.inl rfl) e,c⟩
 | set S n=>obtain ⟨ob,es,ep,t,e,c⟩:=x;exact ⟨ob,es,ep,t,k _ _ (.inl rfl) e,c⟩
 | ins C dx fs=>
  obtain ⟨d,z,ne,e,mA,⟨od,es,ep,e2,c⟩,r⟩:=x;exact ⟨ho _ d,z,ne,k _ _ (.inl rfl) e,mA,⟨od,es,ep,k _ _ (.inr d) e2,c⟩,r⟩
 | own y=>obtain ⟨ob,e⟩:=x;exact ⟨ob,k _ _ (.inl rfl) e⟩
 | xd fs=>obtain ⟨mA,⟨od,es,ep,e,c⟩,r⟩:=x;exact ⟨mA,⟨od,es,ep,k _ _ (.inl rfl) e,c⟩,r⟩
 | rng lo hi=>obtain ⟨t,u,v,e⟩:=x;exact ⟨t,u,v,k _ _ (.inl rfl) e⟩
 | frz ob u ih=>obtain ⟨e,q⟩:=x;exact ⟨k _ _ (.inl rfl) e,ih q⟩
 | tbl ps=>
  have e:h.get? a=some { cls:=.none,data:=.fields ps }:=x;show h'.get? a=some { cls:=.none,data:=.fields ps };exact k a _ (.inl rfl) e
 | met f y=>
  have e:h.get? a=some (PySem.W.methodObj (.ref f) (.ref y)):=x;show h'.get? a=some (PySem.W.methodObj (.ref f) (.ref y));exact k a _ (.inl rfl) e
 | ext φ=>obtain ⟨p,⟨o,e⟩,st⟩:=x;exact ⟨st _ _ p fun o q=>k _ _ (.inl rfl) q,⟨o,k _ _ (.inl rfl) e⟩,st⟩
theorem HOk.lt(x:HOk P w H h)(e:H a=some o):a<h.objs.size:=(x a o e).lt
theorem HOk.fresh(x:HOk P w H h)(e:h.objs.size<=a):H a=none:=by
 cases q:H a with
 | none=>rfl
 | some u=>exact absurd (qau (x.lt q) e) (qbg _)
theorem HOk.kept(x:HOk P w H h)(k:∀ b u,h.get? b=some u->h'.get? b=some u):HOk P w H h':=fun a o e=>
 (x a o e).stay (fun b u _ q=>k b u q) (fun _ q=>q) fun _ _ q=>q
theorem HOk.laid(x:HOk P w H h)(k:∀ b u,h.get? b=some u->h'.get? b=some u)(hp:h.objs.size<=a)(new:ObjOk P w (upd H a o) h' a o):HOk P w (upd H a o) h':=fun b u e=>by
 have hn:=x.fresh hp
 by_cases hb:b=a
 ·subst hb;rw [aaa] at e;cases e;exact new
 ·rw [aah hb] at e;exact (x b u e).stay (fun c v _ q=>k c v q) (fun c q=>by rw [aah (abo q hn)];exact q) fun c xs q=>by rw [aah (abo q hn)];exact q
end
noncomputable def Rd (H:Hp) (a:Addr) (u:HO):Prop:=H a=some u\/∃ o,H a=some (.frz o u)
theorem Rd.of{H:Hp}{a:Addr}{u:HO}(h:H a=some u):Rd H a u:=.inl h
theorem Rd.ok{P:Program}{w:World}{H:Hp}{h:Heap}{a:Addr}{u:HO}(r:Rd H a u)(x:HOk P w H h):ObjOk P w H h a u:=by
 rcases r with r | ⟨o,r⟩
 ·exact x a u r
 ·obtain ⟨_,q⟩:=x a _ r;exact q
noncomputable def Mut:Option HO->Prop
 | some (.lst _)=>True
 | some (.dK _)=>True
 | some (.dT _)=>True
 | some (.set _ _)=>True
 | some (.ins _ _ _)=>True
 | some (.ext _)=>True
 | _=>False
section
variable {P:Program} {w:World} {H:Hp} {h h':Heap} {x e:Addr} {o':HO}
theorem HOk.write(ok:HOk P w H h)(mu:Mut (H x))(he:e=x\/H e=some (.own x))(k:∀ b u,b≠e->h.get? b=some u->h'.get? b=some u)(heo:∃ u,h'.get? e=some u)(new:ObjOk P w (upd H x o') h' x o'):HOk P w (upd H x o') h':=fun b u q=>by
 have nown:∀ c y,H c=some (.own y)->c≠x:=fun c y r z=>by subst z;rw [r] at mu;exact mu
 have ntup:∀ c xs,H c=some (.tup xs)->c≠x:=fun c xs r z=>by subst z;rw [r] at mu;exact mu
 by_cases hb:b=x
 ·subst hb;rw [aaa] at q;cases q;exact new
 ·rw [aah hb] at q
  by_cases hbe:b=e
  ·have q':H b=some (.own x):=by
    rcases he with z | z
    ·exact absurd (hbe.trans z) hb
    ·rw [hbe];exact z
   rw [q] at q';cases q';obtain ⟨v,hv⟩:=heo;exact ⟨v,by rw [hbe];exact hv⟩
  ·refine (ok b u q).stay (fun c v hc r=>k c v ?_ r) (fun c r=>by rw [aah (nown c b r)];exact r) fun c xs r=>by rw [aah (ntup c xs r)];exact r
   rcases hc with rfl | hc
   ·exact hbe
   ·rintro rfl
    rcases he with z | z
    ·exact nown c b hc z
    ·rw [hc] at z;cases z;exact hb rfl
end
structure Un(fs ex:List Addr)(H H':Hp)(h h':Heap):Prop where
 keep:∀ b o,h.get? b=some o->H b=none->b∉fs->b∉ex->h'.get? b=some o
 slot:∀ b o,h.get? b=some o->H b=none->b∈fs->b∉ex->∃ sl,h'.get? b=some { o with slots:=sl }
 free:∀ b o,h.get? b=some o->H b=none->b∉ex->H' b=none
 there:∀ b o,h.get? b=some o->b∉ex->∃ o',h'.get? b=some o'
 tups:∀ b xs,H b=some (.tup xs)->H' b=some (.tup xs)
 frzs:∀ b o u,H b=some (.frz o u)->H' b=some (.frz o u)
 tbls:∀ b ps,H b=some (.tbl ps)->∃ more,H' b=some (.tbl (ps++more))
section
variable {fs fs' ex ex':List Addr} {H H1 H2:Hp} {h h1 h2 h':Heap} {a x e:Addr} {o:HO}
theorem Un.any(u:Un fs ex H H1 h h1){b:Addr}{ob:Obj}(q:h.get? b=some ob)(n:H b=none)(hx:b∉ex):∃ sl,h1.get? b=some { ob with slots:=sl }:=by
 by_cases hb:b∈fs
 ·exact u.slot b ob q n hb hx
 ·exact ⟨ob.slots,u.keep b ob q n hb hx⟩
theorem Un.trans(a:Un fs ex H H1 h h1)(b:Un fs ex H1 H2 h1 h2):Un fs ex H H2 h h2 where
 keep:=fun c ob q n hc hx=>b.keep c ob (a.keep c ob q n hc hx) (a.free c ob q n hx) hc hx
 slot:=fun c ob q n hc hx=>by
  obtain ⟨sl,e1⟩:=a.slot c ob q n hc hx;obtain ⟨sl',e2⟩:=b.slot c _ e1 (a.free c ob q n hx) hc hx;exact ⟨sl',e2⟩
 free:=fun c ob q n hx=>by
  obtain ⟨o',e1⟩:=a.there c ob q hx;exact b.free c o' e1 (a.free c ob q n hx) hx
 there:=fun c ob q hx=>by
  obtain ⟨o',e1⟩:=a.there c ob q hx;exact b.there c o' e1 hx
 tups:=fun c xs q=>b.tups c xs (a.tups c xs q)
 frzs:=fun c ob xs q=>b.frzs c ob xs (a.frzs c ob xs q)
 tbls:=fun c ps q=>by
  obtain ⟨m1,e1⟩:=a.tbls c ps q;obtain ⟨m2,e2⟩:=b.tbls c _ e1;exact ⟨m1++m2,by rw [e2,Array.append_assoc]⟩
theorem Un.kept(k:∀ b u,h.get? b=some u->h'.get? b=some u):Un fs ex H H h h':=
 ⟨fun b ob q _ _ _=>k b ob q,fun b ob q _ _ _=>⟨ob.slots,k b ob q⟩,fun _ _ _ n _=>n,fun b ob q _=>⟨ob,k b ob q⟩,fun _ _ q=>q,fun _ _ _ q=>q,fun _ ps q=>⟨#[],by rw [q];simp⟩⟩
theorem uag:Un fs ex H H h h:=Un.kept fun _ _ q=>q
theorem Un.laid(k:∀ b u,h.get? b=some u->h'.get? b=some u)(hp:h.objs.size<=a)(hn:H a=none):Un fs ex H (upd H a o) h h' where
 keep:=fun b u q _ _ _=>k b u q
 slot:=fun b u q _ _ _=>⟨u.slots,k b u q⟩
 free:=fun b u q n _=>by rw [aah (qaw (qau (Heap.lt_size q) hp))];exact n
 there:=fun b u q _=>⟨u,k b u q⟩
 tups:=fun b xs q=>by rw [aah (abo q hn)];exact q
 frzs:=fun b u xs q=>by rw [aah (abo q hn)];exact q
 tbls:=fun b ps q=>⟨#[],by rw [aah (abo q hn),q];simp⟩
theorem Un.write(mu:Mut (H x))(he:e=x\/H e=some (.own x))(k:∀ b u,b≠e->h.get? b=some u->h'.get? b=some u)(heo:∃ u,h'.get? e=some u):Un fs ex H (upd H x o) h h':=by
 have hx:∀ b,H b=none->b≠x:=fun b n z=>by subst z;rw [n] at mu;exact mu
 have hb:∀ b,H b=none->b≠e:=fun b n z=>by
  subst z
  rcases he with r | r
  ·exact hx b n r
  ·rw [n] at r;cases r
 have hm:∀ b u,H b=some u->¬ Mut (some u)->b≠x:=fun b u q nm z=>by subst z;rw [q] at mu;exact nm mu
 refine ⟨fun b u q n _ _=>k b u (hb b n) q,fun b u q n _ _=>⟨u.slots,k b u (hb b n) q⟩,fun b u q n _=>by rw [aah (hx b n)];exact n,fun b u q _=>?_,
  fun b xs q=>by rw [aah (hm b _ q fun z=>z)];exact q,fun b u xs q=>by rw [aah (hm b _ q fun z=>z)];exact q,fun b ps q=>⟨#[],by rw [aah (hm b _ q fun z=>z),q];simp⟩⟩
 by_cases hbe:b=e
 ·subst hbe;exact heo
 ·exact ⟨u,k b u hbe q⟩
theorem Un.mono(u:Un fs ex H H1 h h1)(hs:∀ b∈fs,b∈fs')(hx:∀ b∈ex,b∈ex'):Un fs' ex' H H1 h h1:=
 ⟨fun b ob q n hb he=>u.keep b ob q n (fun z=>hb (hs b z)) fun z=>he (hx b z),fun _ _ q n _ he=>u.any q n fun z=>he (hx _ z),fun b ob q n he=>u.free b ob q n fun z=>he (hx b z),fun b ob q he=>u.there b ob q fun z=>he (hx b z),u.tups,u.frzs,u.tbls⟩
end
noncomputable def trk (h:Heap) (H:Hp):List Addr:=(qbI h.objs.size).filter fun a=>(H a).isSome
noncomputable def hidT (h:Heap) (H:Hp):Heap:=PySem.W.hideAll h (trk h H)
theorem aif(h:Heap)(H:Hp):(hidT h H).objs.size=h.objs.size:=PySem.W.hideAll_size _ _
theorem ajL{h:Heap}{H:Hp}{b:Addr}{o:Obj}(e:h.get? b=some o)(n:H b=none):(hidT h H).get? b=some o:=
 PySem.W.hideAll_get _ e fun hm=>by
  have q:(H b).isSome=true:=(qat.mp hm).2;rw [n] at q;simp at q
theorem alj{h:Heap}{H:Hp}{b:Addr}{o:Obj}(e:(hidT h H).get? b=some o):h.get? b=some o/\H b=none:=by
 have e':h.get? b=some o:=PySem.W.of_hideAll (trk h H) e;refine ⟨e',?_⟩
 cases q:H b with
 | none=>rfl
 | some x=>
  have hm:b∈trk h H:=qat.mpr ⟨qbL.mpr (Heap.lt_size e'),by simp [q]⟩;have z:(hidT h H).get? b=none:=PySem.W.hideAll_none (trk h H) hm;rw [z] at e;cases e
noncomputable def alk (g h:Heap) (L:Addr):List (Addr×Obj):=(qbI h.objs.size).filterMap fun a=>if a=L\/(g.get? a).isSome=true then none else (h.get? a).map fun o=>(a,o)
noncomputable def rest (g h:Heap) (L d:Addr):List (Addr×Obj):=(alk g h L).filter fun p=>decide (p.1≠d)
end L2
namespace L2
open PySem PySem.Spec PyProof.Rows
structure Mod(K:PySem.W.Frag)(mg:Str->Option Value)(base:Heap):Prop where
 kin:K.In base
 glob:base.Ns mainGlobals mg
 blt:∃ mb,base.Ns builtinsNs mb/\∀ x:Str,x≠"__name__"->mb x=bootBuiltins x
 nolimit:base.NoLimit
structure Cx where
 prog:Program
 w:World
 K:PySem.W.Frag
 mg:Str->Option Value
 base:Heap
 A:Around
 N:List Str
 s₀:Shared
 H₀:Hp
 env:Env
 outer:List Env
 stack:List Env
 ex:List Addr
 fn:Str->Bool
 calm:Bool
 pn:List (Addr×Obj)
 xe:Value->Shared->Prop
noncomputable def frs (l:List Env):List Addr:=l.filterMap (·.frame)
noncomputable abbrev Cx.fs (X:Cx):List Addr:=frs X.outer
noncomputable def Vis (sc:Scope) (x:Str):Prop:=sc.names.lookup x=some .local\/sc.names.lookup x=some .cell\/sc.names.lookup x=some .free
noncomputable def Loc (sc:Scope) (x:Str):Prop:=sc.names.lookup x=some .local\/sc.names.lookup x=some .cell
noncomputable def Look (env:Env) (h:Heap) (m:Str->Option Value) (x:Str) (u:Value):Prop:=
 (env.kindOf x=some .local/\m x=some u)\/((env.kindOf x=some .cell\/env.kindOf x=some .free)/\∃ c,env.cells.lookup x=some c/\h.IsCell c (some u))
structure Cx.Ok(X:Cx):Prop where
 mod:Mod X.K X.mg X.base
 kind:X.env.scope.kind=.function
 glob:X.env.globals=mainGlobals
 blt:X.env.builtins=builtinsNs
 above:X.s₀.heap.objs.size<=X.env.locals
 inj:∀ x y c,X.env.cells.lookup x=some c->X.env.cells.lookup y=some c->x=y
 has:∀ x,(X.env.kindOf x=some .cell\/X.env.kindOf x=some .free)->∃ c,X.env.cells.lookup x=some c
 cab:∀ x c,X.fn x=true->X.env.cells.lookup x=some c->X.s₀.heap.objs.size<=c
 hd:X.calm=true->X.A.handled=none
 frames:X.A.frames=some X.stack
 stk:X.stack=X.outer\/(X.stack=X.env::X.outer/\X.env.frame=some X.env.locals)
 exf:∀ b∈X.ex,b≠X.env.locals/\∀ x c,X.env.cells.lookup x=some c->c≠b
 bs:∀ b o,X.base.get? b=some o->X.s₀.heap.get? b=some o/\X.H₀ b=none
 bsz:X.base.objs.size<=X.s₀.heap.objs.size
 noex:∀ b o,X.base.get? b=some o->b∉X.ex
 exfs:∀ b∈X.ex,b∉X.fs
 funs:X.s₀.heap.FunFrames X.base X.outer
 frf:∀ b∈X.fs,X.H₀ b=none
structure Inv(X:Cx)(pins:List (Addr×Obj))(σ:List (Option V))(H:Hp)(s:Shared):Prop where
 ok:X.Ok
 os:s.os=X.s₀.os
 bare:AllBare s.gens
 base:Un X.fs X.ex X.H₀ H X.s₀.heap s.heap
 loc:∃ m,s.heap.Ns X.env.locals m/\∀ (i:Nat) (x:Str) (v:V),X.N[i]?=some x->σ[i]?=some (some v)->Vis X.env.scope x->∃ u,RelV v u/\Look X.env s.heap m x u
 cell:∀ x c,X.env.cells.lookup x=some c->∃ v,s.heap.IsCell c v
 free:H X.env.locals=none
 freeC:∀ x c,X.env.cells.lookup x=some c->H c=none
 pin:∀ p∈X.pn++pins,s.heap.get? p.1=some p.2/\H p.1=none/\p.1≠X.env.locals/\p.1∉X.fs/\∀ v,p.2.data≠.cell v
 hok:HOk X.prog X.w H s.heap
 len:σ.length=X.N.length
section
variable {X:Cx} {pins:List (Addr×Obj)} {σ:List (Option V)} {H H':Hp} {s:Shared} {h':Heap}
theorem Cx.Ok.nofr(ok:X.Ok){b:Addr}{o:Obj}(e:X.base.get? b=some o):b∉X.fs:=fun hb=>by
 have:=(ok.funs.mem hb).1
 rw [e] at this;cases this
theorem Inv.bs(I:Inv X pins σ H s):∀ b o,X.base.get? b=some o->s.heap.get? b=some o/\H b=none:=fun b o e=>
 ⟨I.base.keep b o (I.ok.bs b o e).1 (I.ok.bs b o e).2 (I.ok.nofr e) (I.ok.noex b o e),I.base.free b o (I.ok.bs b o e).1 (I.ok.bs b o e).2 (I.ok.noex b o e)⟩
theorem Inv.bk(I:Inv X pins σ H s):∀ b o,X.base.get? b=some o->s.heap.get? b=some o:=fun b o e=>(I.bs b o e).1
theorem Inv.mod(I:Inv X pins σ H s):Mod X.K X.mg X.base:=I.ok.mod
theorem Inv.kIn(I:Inv X pins σ H s):X.K.In s.heap:=I.ok.mod.kin.keeps I.bk
theorem Inv.nolimit(I:Inv X pins σ H s):s.heap.NoLimit:=I.ok.mod.nolimit.keeps I.bk
theorem Inv.fr(I:Inv X pins σ H s):∃ m,Fr X.base X.env.locals s.heap m:=
 let ⟨m,hn,_⟩:=I.loc
 ⟨m,hn,I.bk,qan I.ok.bsz I.ok.above⟩
theorem Inv.lt(I:Inv X pins σ H s):X.env.locals<s.heap.objs.size:=let ⟨_,hn,_⟩:=I.loc;hn.lt
theorem Inv.sz(I:Inv X pins σ H s):X.s₀.heap.objs.size<=s.heap.objs.size:=qan I.ok.above (Nat.le_of_lt I.lt)
theorem Inv.nofs(I:Inv X pins σ H s){a:Addr}(h:s.heap.objs.size<=a):a∉X.fs:=fun hb=>by
 obtain ⟨_,o,ho,_⟩:=I.ok.funs.mem hb;exact absurd (qau (Heap.lt_size ho) (qan I.sz h)) (qbg _)
theorem Inv.cne(I:Inv X pins σ H s):∀ x c,X.env.cells.lookup x=some c->c≠X.env.locals:=fun x c e z=>by
 obtain ⟨v,o,ho,hd⟩:=I.cell x c e;obtain ⟨m,⟨o',es,ep,ho',hd',_⟩,_⟩:=I.loc;rw [z,ho'] at ho;cases ho;rw [hd'] at hd;cases hd
theorem Inv.funs(I:Inv X pins σ H s):s.heap.FunFrames X.base X.outer:=by
 have all:∀ (l:List Env),(∀ b∈frs l,b∈X.fs)->X.s₀.heap.FunFrames X.base l->s.heap.FunFrames X.base l:=by
  intro l
  induction l with
  | nil=>intro _ _;trivial
  | cons env r ih=>
   intro hs hl;obtain ⟨hk,⟨L,o,hf,hn,ho,hd⟩,hr⟩:=hl;have hL:L∈X.fs:=hs L (by unfold frs;rw [qbb,hf];exact qac);obtain ⟨sl,e⟩:=I.base.slot L o ho (I.ok.frf L hL) hL fun z=>I.ok.exfs L z hL
   exact ⟨hk,⟨L,_,hf,hn,e,hd⟩,ih (fun b hb=>hs b (by unfold frs;rw [qbb,hf];exact qa9 _ hb)) hr⟩
 exact all X.outer (fun _ hb=>hb) I.ok.funs
theorem Inv.stack(I:Inv X pins σ H s):s.heap.FunFrames X.base X.stack:=by
 rcases I.ok.stk with e | ⟨e,hf⟩
 ·rw [e];exact I.funs
 ·rw [e];obtain ⟨m,hn,_⟩:=I.loc;refine .cons (by rw [I.ok.kind];decide) hf hn ?_ I.funs;exact Heap.get?_none_of_le (qan I.ok.bsz I.ok.above)
theorem Inv.stkSub(I:Inv X pins σ H s):∀ b∈frs X.stack,b∈X.env.locals::X.fs:=fun b hb=>by
 rcases I.ok.stk with e | ⟨e,hf⟩
 ·rw [e] at hb;exact qa9 _ hb
 ·rw [e] at hb;unfold frs at hb;rw [qbb,hf] at hb;exact hb
theorem Inv.stkFree(I:Inv X pins σ H s):∀ b∈frs X.stack,H b=none:=fun b hb=>by
 rcases qaa.mp (I.stkSub b hb) with e | hb
 ·rw [e];exact I.free
 ·obtain ⟨_,o,ho,_⟩:=I.ok.funs.mem hb;exact I.base.free b o ho (I.ok.frf b hb) fun z=>I.ok.exfs b z hb
theorem Inv.step{g':Array GenState}{t':Nat}{d':Drawn}{ch:List Addr}(I:Inv X pins σ H s)(hch:∀ b∈ch,(b∈X.ex\/X.s₀.heap.objs.size<=b)/\b≠X.env.locals/\(∀ x c,X.env.cells.lookup x=some c->c≠b)/\∀ p∈X.pn++pins,p.1≠b)(keep:∀ b o,b≠X.env.locals->b∉X.fs->b∉ch->s.heap.get? b=some o->H b=none->h'.get? b=some o)(slot:∀ b o,b≠X.env.locals->b∈X.fs->b∉ch->s.heap.get? b=some o->H b=none->∃ sl,h'.get? b=some { o with slots:=sl })(free:∀ b o,b∉ch->s.heap.get? b=some o->H b=none->H' b=none)(there:∀ b o,b∉ch->s.heap.get? b=some o->∃ o',h'.get? b=some o')(tups:∀ b xs,H b=some (.tup xs)->H' b=some (.tup xs))(frzs:∀ b o u,H b=some (.frz o u)->H' b=some (.frz o u))(tbls:∀ b ps,H b=some (.tbl ps)->∃ more,H' b=some (.tbl (ps++more)))(ns:∀ m,s.heap.Ns X.env.locals m->h'.Ns X.env.locals m)(hok:HOk X.prog X.w H' h')(hg:AllBare g') :
  Inv X pins σ H' { s with heap:=h',gens:=g',drawn:=d',toks:=t' }:=by
 have neL:∀ b o,X.s₀.heap.get? b=some o->b≠X.env.locals:=fun b o e=>qaw (qau (Heap.lt_size e) I.ok.above)
 have neC:∀ b o,X.s₀.heap.get? b=some o->b∉X.ex->b∉ch:=fun b o e hx hb=>by
  rcases (hch b hb).1 with z | z
  ·exact hx z
  ·exact absurd (qau (Heap.lt_size e) z) (qbg _)
 have cellK:∀ x c,X.env.cells.lookup x=some c->∀ v,s.heap.IsCell c v->h'.IsCell c v:=fun x c e v ⟨o,ho,hd⟩=>by
  have nch:c∉ch:=fun z=>(hch c z).2.2.1 x c e rfl
  by_cases hc:c∈X.fs
  ·obtain ⟨sl,q⟩:=slot c o (I.cne x c e) hc nch ho (I.freeC x c e);exact ⟨_,q,hd⟩
  ·exact ⟨o,keep c o (I.cne x c e) hc nch ho (I.freeC x c e),hd⟩
 refine ⟨I.ok,I.os,hg,⟨fun b o e n hb hx=>?_,fun b o e n hb hx=>?_,fun b o e n hx=>?_,fun b o e hx=>?_,fun b xs e=>tups b xs (I.base.tups b xs e),fun b o xs e=>frzs b o xs (I.base.frzs b o xs e),fun b ps e=>?_⟩,?_,fun x c e=>?_,?_,fun x c e=>?_,fun p hp=>?_,hok,I.len⟩
 ·exact keep b o (neL b o e) hb (neC b o e hx) (I.base.keep b o e n hb hx) (I.base.free b o e n hx)
 ·obtain ⟨sl,e1⟩:=I.base.slot b o e n hb hx;obtain ⟨sl',e2⟩:=slot b _ (neL b o e) hb (neC b o e hx) e1 (I.base.free b o e n hx);exact ⟨sl',e2⟩
 ·obtain ⟨o',e1⟩:=I.base.there b o e hx;exact free b o' (neC b o e hx) e1 (I.base.free b o e n hx)
 ·obtain ⟨o',e1⟩:=I.base.there b o e hx;exact there b o' (neC b o e hx) e1
 ·obtain ⟨m1,e1⟩:=I.base.tbls b ps e;obtain ⟨m2,e2⟩:=tbls b _ e1;exact ⟨m1++m2,by rw [e2,Array.append_assoc]⟩
 ·obtain ⟨m,hn,hl⟩:=I.loc;refine ⟨m,ns m hn,fun i x v e1 e2 e3=>?_⟩;obtain ⟨u,r,l⟩:=hl i x v e1 e2 e3;refine ⟨u,r,?_⟩
  rcases l with l | ⟨k,c,e,z⟩
  ·exact .inl l
  ·exact .inr ⟨k,c,e,cellK x c e _ z⟩
 ·obtain ⟨v,z⟩:=I.cell x c e;exact ⟨v,cellK x c e v z⟩
 ·obtain ⟨m,⟨o,_,_,ho,_⟩,_⟩:=I.loc;exact free _ o (fun z=>(hch _ z).2.1 rfl) ho I.free
 ·obtain ⟨v,o,ho,hd⟩:=I.cell x c e;exact free c o (fun z=>(hch c z).2.2.1 x c e rfl) ho (I.freeC x c e)
 ·obtain ⟨e,n,ne,nf,d⟩:=I.pin p hp;have nch:p.1∉ch:=fun z=>(hch p.1 z).2.2.2 p hp rfl
  exact ⟨keep p.1 p.2 ne nf nch e n,free p.1 p.2 nch e n,ne,nf,d⟩
theorem Inv.un{t':Nat}(I:Inv X pins σ H s)(u:Un X.fs [] H H' s.heap h')(hok:HOk X.prog X.w H' h'):Inv X pins σ H' { s with heap:=h',toks:=t' }:=by
 obtain ⟨m,⟨o,es,ep,ho,r⟩,_⟩:=id I.loc;obtain ⟨sl,hL⟩:=u.any ho I.free (by simp);exact I.step (g':=s.gens) (d':=s.drawn) (ch:=[]) (fun _ z=>nomatch z) (fun b o _ hb _ e n=>u.keep b o e n hb (by simp)) (fun b o _ hb _ e n=>u.slot b o e n hb (by simp)) (fun b o _ e n=>u.free b o e n (by simp)) (fun b o _ e=>u.there b o e (by simp)) u.tups u.frzs u.tbls (fun m' hm=>by
  obtain ⟨o',es',ep',ho',r'⟩:=hm;rw [ho] at ho';cases ho';exact ⟨_,es',ep',hL,r'⟩) hok I.bare
theorem Inv.call{g':Array GenState}{t':Nat}{d':Drawn}{ch:List Addr}(I:Inv X pins σ H s)(u:Un (frs X.stack) ch H H' s.heap h')(hok:HOk X.prog X.w H' h')(hg:AllBare g')(hch:∀ b∈ch,(b∈X.ex\/X.s₀.heap.objs.size<=b)/\b≠X.env.locals/\(∀ x c,X.env.cells.lookup x=some c->c≠b)/\∀ p∈X.pn++pins,p.1≠b) :
  Inv X pins σ H' { s with heap:=h',gens:=g',drawn:=d',toks:=t' }:=by
 obtain ⟨m,⟨o,es,ep,ho,r⟩,_⟩:=id I.loc;obtain ⟨sl,hL⟩:=u.any ho I.free fun z=>(hch _ z).2.1 rfl
 exact I.step (ch:=ch) hch (fun b o hL hb hc e n=>u.keep b o e n (fun z=>(qaa.mp (I.stkSub b z)).elim hL hb) hc) (fun b o _ _ hc e n=>u.any e n hc) (fun b o hc e n=>u.free b o e n hc) (fun b o hc e=>u.there b o e hc) u.tups u.frzs u.tbls (fun m' hm=>by
  obtain ⟨o',es',ep',ho',r'⟩:=hm;rw [ho] at ho';cases ho';exact ⟨_,es',ep',hL,r'⟩) hok hg
theorem Inv.turned{t':Nat}{it:Addr}(I:Inv X pins σ H s)(k:∀ b o,b≠it->s.heap.get? b=some o->h'.get? b=some o)(hn:H it=none)(hL:it≠X.env.locals)(h1:it∈X.ex\/X.s₀.heap.objs.size<=it)(h2:∀ x c,X.env.cells.lookup x=some c->c≠it)(h3:∀ p∈X.pn++pins,p.1≠it):Inv X pins σ H { s with heap:=h',toks:=t' }:=by
 have nit:∀ b u,H b=some u->b≠it:=fun b u e z=>by rw [z,hn] at e;cases e
 refine I.step (g':=s.gens) (d':=s.drawn) (ch:=[it]) (fun b hb=>?_) (fun b o _ _ hc e _=>k b o (fun z=>hc (by simp [z])) e) (fun b o _ _ hc e _=>⟨o.slots,k b o (fun z=>hc (by simp [z])) e⟩) (fun _ _ _ _ n=>n)
  (fun b o hc e=>⟨o,k b o (fun z=>hc (by simp [z])) e⟩) (fun _ _ e=>e) (fun _ _ _ e=>e) (fun b ps e=>⟨#[],by rw [e];simp⟩) (fun m hm=>?_) (fun b u e=>?_) I.bare
 ·have e:b=it:=by simpa using hb
  subst e;exact ⟨h1,hL,h2,h3⟩
 ·obtain ⟨o,es,ep,ho,r⟩:=hm;exact ⟨o,es,ep,k _ o (Ne.symm hL) ho,r⟩
 ·refine (I.hok b u e).stay (fun c v hc q=>k c v ?_ q) (fun _ q=>q) fun _ _ q=>q
  rcases hc with z | z
  ·rw [z];exact nit b u e
  ·exact nit c _ z
theorem Inv.tok(I:Inv X pins σ H s)(t:Nat):Inv X pins σ H { s with toks:=t }:=I.un (h':=s.heap) (t':=t) uag I.hok
theorem Inv.kept{t':Nat}(I:Inv X pins σ H s)(k:∀ b u,s.heap.get? b=some u->h'.get? b=some u):Inv X pins σ H { s with heap:=h',toks:=t' }:=I.un (Un.kept k) (I.hok.kept k)
theorem Inv.laid{a:Addr}{o:HO}{t':Nat}(I:Inv X pins σ H s)(k:∀ b u,s.heap.get? b=some u->h'.get? b=some u)(hp:s.heap.objs.size<=a)(new:ObjOk X.prog X.w (upd H a o) h' a o) :
  Inv X pins σ (upd H a o) { s with heap:=h',toks:=t' }:=I.un (Un.laid k hp (I.hok.fresh hp)) (I.hok.laid k hp new)
theorem Inv.write{x e:Addr}{o:HO}{t':Nat}(I:Inv X pins σ H s)(mu:Mut (H x))(he:e=x\/H e=some (.own x))(k:∀ b u,b≠e->s.heap.get? b=some u->h'.get? b=some u)(heo:∃ u,h'.get? e=some u)(new:ObjOk X.prog X.w (upd H x o) h' x o):Inv X pins σ (upd H x o) { s with heap:=h',toks:=t' }:=I.un (Un.write mu he k heo) (I.hok.write mu he k heo new)
theorem Inv.pins_of{pins':List (Addr×Obj)}(I:Inv X pins σ H s)(h:∀ p∈pins',s.heap.get? p.1=some p.2/\H p.1=none/\p.1≠X.env.locals/\p.1∉X.fs/\∀ v,p.2.data≠.cell v):Inv X pins' σ H s:=
 ⟨I.ok,I.os,I.bare,I.base,I.loc,I.cell,I.free,I.freeC,fun p hp=>(qa6.mp hp).elim (fun z=>I.pin p (qaq _ z)) (h p),I.hok,I.len⟩
theorem ag0{N:List Str}(hN:N.Nodup){i j:Nat}{x:Str}(a:N[i]?=some x)(b:N[j]?=some x):i=j:=by
 obtain ⟨h1,e1⟩:=qa5.mp a;obtain ⟨h2,e2⟩:=qa5.mp b;exact (List.getElem_inj hN).mp (e1.trans e2.symm)
theorem aig{M:Model}{A:Around}{E:Value->Shared->Prop}{i:Nat}{x:Str}{v:V}{u:Value}{Q:Unit->Shared->Prop}(I:Inv X pins σ H s)(hN:X.N.Nodup)(hi:X.N[i]?=some x)(hx:Loc X.env.scope x)(r:RelV v u)(h:∀ s',Inv X pins (σ.set i (some v)) H s'->(∃ a,Heap.SameBut a s.heap s'.heap/\(a=X.env.locals\/X.env.cells.lookup x=some a))->Q () s')(hf:X.fn x=true\/X.env.scope.names.lookup x=some .local:=by first | exact .inl rfl | exact .inr rfl | assumption):wpAny M A (storeName X.env x u) Q E s:=by
 obtain ⟨m,hn,hl⟩:=id I.loc;have hcls:(X.env.scope.kind == .class || (X.env.scope.kind == .module&&X.env.locals != X.env.globals))=false:=by rw [I.ok.kind];rfl
 have hiσ:i<σ.length:=by rw [I.len];exact (qa5.mp hi).1
 have cne:=I.cne;have tracked:∀ {a:Addr} {h':Heap},(∃ o,s.heap.get? a=some o/\H a=none)->Heap.SameBut a s.heap h'->HOk X.prog X.w H h':=fun {a h'} ha hs b ob e=>by
  obtain ⟨_,_,hfree⟩:=ha;refine (I.hok b ob e).stay (fun c w' hc q=>(hs.2 c ?_).trans q) (fun _ q=>q) fun _ _ q=>q
  rintro rfl
  rcases hc with rfl | hc
  ·rw [hfree] at e;cases e
  ·rw [hfree] at hc;cases hc
 rcases hx with hk | hk
 ·refine wpAny_storeName_local hk hn (fun h' hn' hs=>?_) hcls;obtain ⟨oL,_,_,hoL,_⟩:=id hn;refine h _ ⟨I.ok,I.os,I.bare,⟨fun b o e n hb hx=>?_,fun b o e n hb hx=>?_,I.base.free,fun b o e hx=>?_,I.base.tups,I.base.frzs,I.base.tbls⟩,⟨_,hn',fun j y v' e1 e2 e3=>?_⟩,fun y c e=>?_,I.free,I.freeC,fun p hp=>?_,tracked ⟨oL,hoL,I.free⟩ hs,by simpa using I.len⟩ ⟨_,hs,.inl rfl⟩
  ·exact (hs.2 b (qaw (qau (Heap.lt_size e) I.ok.above))).trans (I.base.keep b o e n hb hx)
  ·obtain ⟨sl,e1⟩:=I.base.slot b o e n hb hx;exact ⟨sl,(hs.2 b (qaw (qau (Heap.lt_size e) I.ok.above))).trans e1⟩
  ·obtain ⟨o',e1⟩:=I.base.there b o e hx;exact ⟨o',(hs.2 b (qaw (qau (Heap.lt_size e) I.ok.above))).trans e1⟩
  ·by_cases hj:j=i
   ·subst hj;rw [hi] at e1;cases e1;rw [List.getElem?_set_self hiσ] at e2;cases e2;exact ⟨u,r,.inl ⟨hk,by simp⟩⟩
   ·rw [List.getElem?_set_ne (Ne.symm hj)] at e2;obtain ⟨u',r',q⟩:=hl j y v' e1 e2 e3;refine ⟨u',r',?_⟩
    rcases q with ⟨k,e⟩ | ⟨k,c,e,z⟩
    ·refine .inl ⟨k,?_⟩
     have:y≠x:=fun e=>hj (ag0 hN e1 (e ▸ hi))
     simp [this,e]
    ·exact .inr ⟨k,c,e,z.sameBut hs (cne y c e)⟩
  ·obtain ⟨w',z⟩:=I.cell y c e;exact ⟨w',z.sameBut hs (cne y c e)⟩
  ·obtain ⟨e,n,ne,nf,d⟩:=I.pin p hp;exact ⟨(hs.2 p.1 ne).trans e,n,ne,nf,d⟩
 ·have hfn:X.fn x=true:=by
   rcases hf with z | z
   ·exact z
   ·rw [z] at hk;cases hk
  obtain ⟨c,hc⟩:=I.ok.has x (.inl hk);obtain ⟨w',z⟩:=I.cell x c hc;refine wpAny_storeName_cell I.ok.kind hk hc z (fun h' hc' hs=>?_);obtain ⟨oc,hoc,hocd⟩:=id z;refine h { s with heap:=h' } ⟨I.ok,I.os,I.bare,⟨fun b o e n hb hx=>?_,fun b o e n hb hx=>?_,I.base.free,fun b o e hx=>?_,I.base.tups,I.base.frzs,I.base.tbls⟩,⟨m,hn.sameBut hs (Ne.symm (cne x c hc)),fun j y v' e1 e2 e3=>?_⟩,fun y c' e=>?_,I.free,I.freeC,fun p hp=>?_,tracked ⟨oc,hoc,I.freeC x c hc⟩ hs,by simpa using I.len⟩ ⟨c,hs,.inr hc⟩
  ·exact (hs.2 b (qaw (qau (Heap.lt_size e) (I.ok.cab x c hfn hc)))).trans (I.base.keep b o e n hb hx)
  ·obtain ⟨sl,e1⟩:=I.base.slot b o e n hb hx;exact ⟨sl,(hs.2 b (qaw (qau (Heap.lt_size e) (I.ok.cab x c hfn hc)))).trans e1⟩
  ·obtain ⟨o',e1⟩:=I.base.there b o e hx;exact ⟨o',(hs.2 b (qaw (qau (Heap.lt_size e) (I.ok.cab x c hfn hc)))).trans e1⟩
  ·by_cases hj:j=i
   ·subst hj;rw [hi] at e1;cases e1;rw [List.getElem?_set_self hiσ] at e2;cases e2;exact ⟨u,r,.inr ⟨.inl hk,c,hc,hc'⟩⟩
   ·rw [List.getElem?_set_ne (Ne.symm hj)] at e2;obtain ⟨u',r',q⟩:=hl j y v' e1 e2 e3;refine ⟨u',r',?_⟩
    rcases q with q | ⟨k,c',e,z'⟩
    ·exact .inl q
    ·refine .inr ⟨k,c',e,z'.sameBut hs ?_⟩;rintro rfl;exact hj (ag0 hN e1 (I.ok.inj _ _ _ e hc ▸ hi))
  ·by_cases hcc:c'=c
   ·subst hcc;exact ⟨_,hc'⟩
   ·obtain ⟨w2,z2⟩:=I.cell y c' e;exact ⟨w2,z2.sameBut hs hcc⟩
  ·obtain ⟨e,n,ne,nf,d⟩:=I.pin p hp;refine ⟨(hs.2 p.1 ?_).trans e,n,ne,nf,d⟩;intro q;rw [q,hoc] at e;have q':oc=p.2:=Option.some.inj e;exact d w' (by rw [<- q'];exact hocd)
theorem adJ{M:Model}{A:Around}{E:Value->Shared->Prop}{i:Nat}{x:Str}{v:V}{u:Value}{Q:Unit->Shared->Prop}(I:Inv X pins σ H s)(hN:X.N.Nodup)(hi:X.N[i]?=some x)(hx:Loc X.env.scope x)(r:RelV v u)(h:∀ s',Inv X pins (σ.set i (some v)) H s'->Q () s')(hf:X.fn x=true\/X.env.scope.names.lookup x=some .local:=by first | exact .inl rfl | exact .inr rfl | assumption):wpAny M A (storeName X.env x u) Q E s:=
 aig I hN hi hx r (fun s' I' _=>h s' I') hf
theorem Inv.call'{s':Shared}{ch:List Addr}(I:Inv X pins σ H s)(ho:s'.os=s.os)(u:Un (frs X.stack) ch H H' s.heap s'.heap)(hok:HOk X.prog X.w H' s'.heap)(hg:AllBare s'.gens)(hch:∀ b∈ch,(b∈X.ex\/X.s₀.heap.objs.size<=b)/\b≠X.env.locals/\(∀ x c,X.env.cells.lookup x=some c->c≠b)/\∀ p∈X.pn++pins,p.1≠b):Inv X pins σ H' s':=by
 obtain ⟨h',g',d',t',o'⟩:=s';have e:o'=s.os:=ho;subst e;exact I.call (g':=g') (t':=t') (d':=d') u hok hg hch
end
noncomputable abbrev XK:=Value->Option Addr->Hp->Prop
noncomputable abbrev St:=List (Option V)
noncomputable abbrev VK:=V->Hp->Prop
noncomputable abbrev TE:=St->Hp->VK->Prop
noncomputable abbrev TT:=St->Hp->(Bool->Hp->Prop)->Prop
noncomputable abbrev TA:=St->Hp->(List V->Hp->Prop)->Prop
structure Ends where
 nx:St->Hp->Prop
 rt:VK
 bk:St->Hp->Prop:=fun _ _=>False
 ct:St->Hp->Prop:=fun _ _=>False
noncomputable abbrev TS:=Ends->St->Hp->Prop
noncomputable def EP (X:Cx) (pins:List (Addr×Obj)) (σ:St) (Q:VK) (u:Value) (s':Shared):Prop:=∃ v H',Inv X pins σ H' s'/\RelV v u/\Q v H'
noncomputable def TP (X:Cx) (pins:List (Addr×Obj)) (σ:St) (Q:Bool->Hp->Prop) (b:Bool) (s':Shared):Prop:=∃ H',Inv X pins σ H' s'/\Q b H'
noncomputable def AP (X:Cx) (pins:List (Addr×Obj)) (σ:St) (Q:List V->Hp->Prop) (us:List Value) (s':Shared):Prop:=∃ vs H',Inv X pins σ H' s'/\Vals vs us/\Q vs H'
noncomputable def SP (X:Cx) (pins:List (Addr×Obj)) (D:Ends) (f:Flow) (s':Shared):Prop:=
 match f with
 | .next=>∃ σ' H',Inv X pins σ' H' s'/\D.nx σ' H'
 | .brk=>∃ σ' H',Inv X pins σ' H' s'/\D.bk σ' H'
 | .cont=>∃ σ' H',Inv X pins σ' H' s'/\D.ct σ' H'
 | .ret u=>∃ v σ' H',Inv X pins σ' H' s'/\RelV v u/\D.rt v H'
noncomputable def PE (X:Cx) (e:Expr) (t:TE):Prop:=
 ∀ (pins:List (Addr×Obj)) (s:Shared) (σ:St) (H:Hp) (Q:VK),Inv X pins σ H s->t σ H Q->wpAny (model X.prog X.w) X.A (eval e X.env) (EP X pins σ Q) X.xe s
noncomputable def PT (X:Cx) (e:Expr) (t:TT):Prop:=
 ∀ (pins:List (Addr×Obj)) (s:Shared) (σ:St) (H:Hp) (Q:Bool->Hp->Prop),Inv X pins σ H s->t σ H Q->wpAny (model X.prog X.w) X.A (isTrue e X.env (eval e X.env)) (TP X pins σ Q) X.xe s
noncomputable def PW (X:Cx) (e:Expr) (t:TT):Prop:=
 ∀ (whole:Sem Value) (pins:List (Addr×Obj)) (s:Shared) (σ:St) (H:Hp) (Q:Bool->Hp->Prop),Inv X pins σ H s->t σ H Q->wpAny (model X.prog X.w) X.A (isTrue e X.env whole) (TP X pins σ Q) X.xe s
theorem PW.pt{X:Cx}{e:Expr}{t:TT}(h:PW X e t):PT X e t:=h _
noncomputable def PA (X:Cx) (es:List Expr) (t:TA):Prop:=
 ∀ (pos:Pos) (pins:List (Addr×Obj)) (s:Shared) (σ:St) (H:Hp) (Q:List V->Hp->Prop),Inv X pins σ H s->t σ H Q->wpAny (model X.prog X.w) X.A (spliced (backTo pos (starEach es X.env))) (AP X pins σ Q) X.xe s
noncomputable def PS (X:Cx) (st:Stmt) (t:TS):Prop:=
 ∀ (pins:List (Addr×Obj)) (s:Shared) (σ:St) (H:Hp) (D:Ends),Inv X pins σ H s->t D σ H->wpAny (model X.prog X.w) X.A (exec st X.env) (SP X pins D) X.xe s
noncomputable def PSs (X:Cx) (st:List Stmt) (t:TS):Prop:=
 ∀ (pins:List (Addr×Obj)) (s:Shared) (σ:St) (H:Hp) (D:Ends),Inv X pins σ H s->t D σ H->wpAny (model X.prog X.w) X.A (execs st X.env) (SP X pins D) X.xe s
theorem thn{α:Type}{t:Sem α}{Q Q':α->Shared->Prop}{M:Model}{A:Around}{E:Value->Shared->Prop}{s:Shared}(h:wpAny M A t Q E s)(hQ:∀ a s,Q a s->Q' a s):wpAny M A t Q' E s:=wpAny_mono h hQ fun _ _ x=>x
end L2
namespace L2
open PySem PySem.Spec PyProof.Rows
section
variable {X:Cx}
noncomputable def tVar (i:Nat):TE:=fun σ H Q=>∃ v,σ[i]?=some (some v)/\Q v H
noncomputable def tC (v:V):TE:=fun _ H Q=>Q v H
theorem akV{i:Nat}{x:Str}{pos:Pos}(hN:X.N[i]?=some x)(hv:Vis X.env.scope x)(hd:(x==("__debug__" : Str))=false:=by decide)(hcd:(x==("__classdict__" : Str))=false:=by decide):PE X (.Name x pos) (tVar i):=by
 intro pins s σ H Q I h;obtain ⟨v,e,h⟩:=h;obtain ⟨m,hn,hl⟩:=I.loc;obtain ⟨u,r,l⟩:=hl i x v hN e hv;have fin:EP X pins σ Q u s:=⟨v,H,I,r,h⟩
 rcases l with ⟨hk,hm⟩ | ⟨hk,c,hc,hcell⟩
 ·exact wpAny_Name (wpAny_loadName_local I.ok.kind hk hn hm fin) hd
 ·rcases hk with hk | hk
  ·exact wpAny_Name (wpAny_loadName_cell I.ok.kind hk hc hcell fin) hd
  ·exact wpAny_Name (wpAny_loadName_free I.ok.kind hk hc hcell fin hcd) hd
theorem akW{i j pos} : PE X (.Constant (.int i) j pos) (tC (.int i)):=fun _ _ _ H _ I h=>wpAny_Constant_int ⟨.int i,H,I.tok _,⟨_,rfl⟩,h⟩
theorem pe_bl{b j pos} : PE X (.Constant (.bool b) j pos) (tC (.bl b)):=fun _ _ _ H _ I h=>Constant_bool ⟨.bl b,H,I,rfl,h⟩
theorem amY{x j pos} : PE X (.Constant (.str x) j pos) (tC (.str x)):=fun _ _ _ H _ I h=>Calls.Constant_str ⟨.str x,H,I.tok _,⟨_,rfl⟩,h⟩
noncomputable def Gl (X:Cx) (x:Str):Prop:=X.env.kindOf x=some .globalImplicit
theorem ags{E:Value->Shared->Prop}{pins:List (Addr×Obj)}{s:Shared}{σ:St}{H:Hp}{x:Str}{u:Value}{pos:Pos}{Q:Value->Shared->Prop}(I:Inv X pins σ H s)(hg:Gl X x)(hm:X.mg x=some u)(h:Q u s)(hd:(x==("__debug__" : Str))=false:=by decide):wpAny (model X.prog X.w) X.A (eval (.Name x pos) X.env) Q E s:=
 Calls.Name_function_global I.ok.kind hg (Calls.loadGlobal_global (by rw [I.ok.glob];exact I.mod.glob.keeps I.bk) hm h) hd
theorem adA{E:Value->Shared->Prop}{pins:List (Addr×Obj)}{s:Shared}{σ:St}{H:Hp}{x:Str}{u:Value}{pos:Pos}{Q:Value->Shared->Prop}(I:Inv X pins σ H s)(hg:Gl X x)(hm:X.mg x=none)(hv:bootBuiltins x=some u)(h:Q u s)(hn:x≠"__name__":=by decide)(hd:(x==("__debug__" : Str))=false:=by decide):wpAny (model X.prog X.w) X.A (eval (.Name x pos) X.env) Q E s:=by
 obtain ⟨mb,h1,h2⟩:=I.mod.blt;exact Calls.Name_function_global I.ok.kind hg (Calls.loadGlobal_builtin (by rw [I.ok.glob];exact I.mod.glob.keeps I.bk) hm (by rw [I.ok.blt];exact h1.keeps I.bk) ((h2 x hn).trans hv) h) hd
theorem aih{x:Str}{v:V}{u:Value}{pos:Pos}(hg:Gl X x)(hm:X.mg x=some u)(r:RelV v u)(hd:(x==("__debug__" : Str))=false:=by decide):PE X (.Name x pos) (tC v):=
 fun _ _ _ H _ I h=>ags I hg hm ⟨v,H,I,r,h⟩ hd
theorem alm{x:Str}{v:V}{u:Value}{pos:Pos}(hg:Gl X x)(hm:X.mg x=none)(hv:bootBuiltins x=some u)(r:RelV v u)(hn:x≠"__name__":=by decide)(hd:(x==("__debug__" : Str))=false:=by decide):PE X (.Name x pos) (tC v):=
 fun _ _ _ H _ I h=>adA I hg hm hv ⟨v,H,I,r,h⟩ hn hd
variable {a b:Expr} {ta tb:TE} {pos:Pos}
noncomputable def tB (t:TE):TT:=fun σ H Q=>t σ H fun x H1=>∃ c,x=.bl c/\Q c H1
variable {tA tB':TT} {rest:List Expr}
noncomputable def tAnd (t u:TT):TT:=fun σ H Q=>t σ H fun c H1=>if c=true then u σ H1 Q else Q false H1
noncomputable def tOr (t u:TT):TT:=fun σ H Q=>t σ H fun c H1=>if c=true then Q true H1 else u σ H1 Q
noncomputable def tNot (t:TT):TT:=fun σ H Q=>t σ H fun c H1=>Q (!c) H1
theorem aln(ha:PT X a tA):PW X (.BoolOp .And [a] pos) tA:=by
 intro wh pins s σ H Q I h;refine isTrue_and (thn (ha pins s σ H Q I h) fun c s1 e=>?_)
 cases c with
 | true=>exact isTrue_and_nil e
 | false=>exact e
theorem amZ(ha:PT X a tA):PW X (.BoolOp .Or [a] pos) tA:=by
 intro wh pins s σ H Q I h;refine isTrue_or (thn (ha pins s σ H Q I h) fun c s1 e=>?_)
 cases c with
 | false=>exact isTrue_or_nil e
 | true=>exact e
theorem am0(ha:PT X a tA)(hb:PW X (.BoolOp .And (b::rest) pos) tB'):PW X (.BoolOp .And (a::b::rest) pos) (tAnd tA tB'):=by
 intro wh pins s σ H Q I h;refine isTrue_and (thn (ha pins s σ H _ I h) fun c s1 ⟨H1,I1,q1⟩=>?_)
 cases c with
 | true=>exact hb wh pins s1 σ H1 Q I1 q1
 | false=>exact ⟨H1,I1,q1⟩
theorem pw_or(ha:PT X a tA)(hb:PW X (.BoolOp .Or (b::rest) pos) tB'):PW X (.BoolOp .Or (a::b::rest) pos) (tOr tA tB'):=by
 intro wh pins s σ H Q I h;refine isTrue_or (thn (ha pins s σ H _ I h) fun c s1 ⟨H1,I1,q1⟩=>?_)
 cases c with
 | true=>exact ⟨H1,I1,q1⟩
 | false=>exact hb wh pins s1 σ H1 Q I1 q1
theorem am1(ha:PT X a tA):PT X (.UnaryOp .Not a pos) (tNot tA):=by
 intro pins s σ H Q I h;exact isTrue_not (ha pins s σ H (fun c H1=>Q (!c) H1) I h)
noncomputable def tAndV (ta tb:TE):TE:=fun σ H Q=>ta σ H fun x H1=>∃ c,x=.bl c/\if c=true then tb σ H1 Q else Q (.bl false) H1
noncomputable def tOrV (ta tb:TE):TE:=fun σ H Q=>ta σ H fun x H1=>∃ c,x=.bl c/\if c=true then Q (.bl true) H1 else tb σ H1 Q
noncomputable def tNotV (ta:TE):TE:=fun σ H Q=>ta σ H fun x H1=>∃ c,x=.bl c/\Q (.bl (!c)) H1
theorem am2{op}{t:TE}(h:PE X a t):PE X (.BoolOp op [a] pos) t:=fun pins s σ H Q I hw=>BoolOp_one (h pins s σ H Q I hw)
theorem am3(ha:PE X a ta)(hb:PE X (.BoolOp .And (b::rest) pos) tb):PE X (.BoolOp .And (a::b::rest) pos) (tAndV ta tb):=by
 intro pins s σ H Q I h;refine BoolOp_and (thn (ha pins s σ H _ I h) fun v s1 ⟨x,H1,I1,r1,q1⟩=>?_);obtain ⟨c,rfl,q1⟩:=q1
 cases r1
 refine wpAny_truthy_bool ?_
 cases c with
 | true=>exact hb pins s1 σ H1 Q I1 q1
 | false=>exact ⟨.bl false,H1,I1,rfl,q1⟩
theorem pe_or(ha:PE X a ta)(hb:PE X (.BoolOp .Or (b::rest) pos) tb):PE X (.BoolOp .Or (a::b::rest) pos) (tOrV ta tb):=by
 intro pins s σ H Q I h;refine BoolOp_or (thn (ha pins s σ H _ I h) fun v s1 ⟨x,H1,I1,r1,q1⟩=>?_);obtain ⟨c,rfl,q1⟩:=q1
 cases r1
 refine wpAny_truthy_bool ?_
 cases c with
 | false=>exact hb pins s1 σ H1 Q I1 q1
 | true=>exact ⟨.bl true,H1,I1,rfl,q1⟩
noncomputable def tIf (t:TT) (ta tb:TE):TE:=fun σ H Q=>t σ H fun c H1=>if c=true then ta σ H1 Q else tb σ H1 Q
theorem ajM{c:Expr}(hc:PT X c tA)(ha:PE X a ta)(hb:PE X b tb):PE X (.IfExp c a b pos) (tIf tA ta tb):=by
 intro pins s σ H Q I h;refine wpAny_IfExp (thn (hc pins s σ H _ I h) fun d s1 ⟨H1,I1,q1⟩=>?_)
 cases d with
 | true=>exact ha pins s1 σ H1 Q I1 q1
 | false=>exact hb pins s1 σ H1 Q I1 q1
end
end L2
namespace L2
open PySem PySem.Spec PyProof.Rows
noncomputable def SqL (K:PySem.W.Frag) (H:Hp) (a:Addr) (xs:List V):Prop:=
 Rd H a (.lst xs)\/
  ∃ (o:Obj) (its:Array Value) (n:Nat),K.lookup a=some o/\o.cls=.type "list"/\o.dict=none/\o.data=.seq its n/\its.size<=sizeLine/\Vals xs its.toList
noncomputable def SqT (K:PySem.W.Frag) (H:Hp) (a:Addr) (xs:List V):Prop:=
 Rd H a (.tup xs)\/
  ∃ (o:Obj) (its:Array Value) (n:Nat),K.lookup a=some o/\o.cls=.type "tuple"/\o.data=.seq its n/\its.size<=sizeLine/\Vals xs its.toList
noncomputable def absV:Value->Option V
 | .none=>some .non
 | .bool b=>some (.bl b)
 | .int i _=>some (.int i)
 | .str x _=>some (.str x)
 | .bytes b _=>some (.byt b)
 | .float b _=>some (.flt b)
 | .ref a=>some (.ref a)
 | .type n=>some (.ty n)
 | _=>none
theorem RelV.abs{x:V}{u:Value}(r:RelV x u):absV u=some x:=by
 cases x with
 | non=>cases r;rfl
 | bl _=>cases r;rfl
 | int _=>obtain ⟨t,rfl⟩:=r;rfl
 | str _=>obtain ⟨t,rfl⟩:=r;rfl
 | byt _=>obtain ⟨t,rfl⟩:=r;rfl
 | flt _=>obtain ⟨t,rfl⟩:=r;rfl
 | ref _=>cases r;rfl
 | ty _=>cases r;rfl
theorem RelV.inj{x y:V}{u:Value}(r:RelV x u)(q:RelV y u):x=y:=Option.some.inj (r.abs.symm.trans q.abs)
theorem Vals.inj:∀ {xs ys:List V} {us:List Value},Vals xs us->Vals ys us->xs=ys
 | _,_,_,.nil,.nil=>rfl
 | _,_,_,.cons r t,.cons r' t'=>by rw [r.inj r',Vals.inj t t']
section
variable {X:Cx} {pins:List (Addr×Obj)} {σ:St} {H:Hp} {s:Shared} {a:Addr} {xs ys:List V}
theorem SqL.of{K:PySem.W.Frag}(h:H a=some (.lst xs)):SqL K H a xs:=.inl (.inl h)
theorem SqT.of{K:PySem.W.Frag}(h:H a=some (.tup xs)):SqT K H a xs:=.inl (.inl h)
theorem Inv.list(I:Inv X pins σ H s)(h:SqL X.K H a xs):∃ its:List Value,Vals xs its/\PlainL s.heap a its.toArray/\xs.length<=sizeLine:=by
 rcases h with h | ⟨o,its,n,hk,hc,hd,hs,hz,r⟩
 ·obtain ⟨z,its,n,r,e⟩:=h.ok I.hok;exact ⟨its,r,⟨_,n,e,rfl,rfl,rfl⟩,z⟩
 ·refine ⟨its.toList,r,⟨o,n,I.kIn a o hk,hc,hd,by simpa using hs⟩,?_⟩;have e:=r.length;simp only [qba] at e;omega
theorem Inv.tuple(I:Inv X pins σ H s)(h:SqT X.K H a xs):∃ its:List Value,Vals xs its/\IsTup s.heap a its.toArray/\xs.length<=sizeLine:=by
 rcases h with h | ⟨o,its,n,hk,hc,hs,hz,r⟩
 ·obtain ⟨z,its,r,p⟩:=h.ok I.hok;exact ⟨its,r,p,z⟩
 ·refine ⟨its.toList,r,⟨o,I.kIn a o hk,hc,n,by simpa using hs⟩,?_⟩;have e:=r.length;simp only [qba] at e;omega
theorem Inv.list_inj(I:Inv X pins σ H s)(h:SqL X.K H a xs)(h':SqL X.K H a ys):xs=ys:=by
 obtain ⟨its,r,⟨o,n,e,_,_,d⟩,_⟩:=I.list h;obtain ⟨its',r',⟨o',n',e',_,_,d'⟩,_⟩:=I.list h';rw [e] at e';cases e';rw [d] at d'
 injection d' with d1 _
 have:its=its':=by simpa using congrArg Array.toList d1
 subst this;exact r.inj r'
theorem Inv.tuple_inj(I:Inv X pins σ H s)(h:SqT X.K H a xs)(h':SqT X.K H a ys):xs=ys:=by
 obtain ⟨its,r,⟨o,e,_,n,d⟩,_⟩:=I.tuple h;obtain ⟨its',r',⟨o',e',_,n',d'⟩,_⟩:=I.tuple h';rw [e] at e';cases e';rw [d] at d'
 injection d' with d1 _
 have:its=its':=by simpa using congrArg Array.toList d1
 subst this;exact r.inj r'
end
noncomputable abbrev Cx.wish (X:Cx) (E:Value->Shared->Prop):Cx:={ X with xe:=E }
noncomputable abbrev Cx.nox (X:Cx):Cx:=X.wish fun _ _=>False
theorem Cx.Ok.wish{X:Cx}(ok:X.Ok)(E:Value->Shared->Prop):(X.wish E).Ok:=
 ⟨ok.mod,ok.kind,ok.glob,ok.blt,ok.above,ok.inj,ok.has,ok.cab,ok.hd,ok.frames,ok.stk,ok.exf,ok.bs,ok.bsz,ok.noex,ok.exfs,ok.funs,ok.frf⟩
theorem Cx.Ok.unwish{X:Cx}{E:Value->Shared->Prop}(ok:(X.wish E).Ok):X.Ok:=
 ⟨ok.mod,ok.kind,ok.glob,ok.blt,ok.above,ok.inj,ok.has,ok.cab,ok.hd,ok.frames,ok.stk,ok.exf,ok.bs,ok.bsz,ok.noex,ok.exfs,ok.funs,ok.frf⟩
section
variable {X:Cx} {pins:List (Addr×Obj)} {σ:St} {H:Hp} {s:Shared} {E:Value->Shared->Prop}
theorem Inv.wish(I:Inv X pins σ H s)(E:Value->Shared->Prop):Inv (X.wish E) pins σ H s:=⟨I.ok.wish E,I.os,I.bare,I.base,I.loc,I.cell,I.free,I.freeC,I.pin,I.hok,I.len⟩
theorem Inv.unwish(I:Inv (X.wish E) pins σ H s):Inv X pins σ H s:=⟨I.ok.unwish,I.os,I.bare,I.base,I.loc,I.cell,I.free,I.freeC,I.pin,I.hok,I.len⟩
theorem SP.unwish{D:Ends}{f:Flow}{s':Shared}(h:SP (X.wish E) pins D f s'):SP X pins D f s':=by
 cases f with
 | next=>obtain ⟨σ',H',I,q⟩:=h;exact ⟨σ',H',I.unwish,q⟩
 | brk=>obtain ⟨σ',H',I,q⟩:=h;exact ⟨σ',H',I.unwish,q⟩
 | cont=>obtain ⟨σ',H',I,q⟩:=h;exact ⟨σ',H',I.unwish,q⟩
 | ret u=>obtain ⟨v,σ',H',I,r,q⟩:=h;exact ⟨v,σ',H',I.unwish,r,q⟩
theorem PE.nox{e:Expr}{t:TE}(h:PE X.nox e t):PE X e t:=fun pins s σ H Q I hw=>
 wpAny_mono (h pins s σ H Q (I.wish _) hw) (by rintro _ _ ⟨v,H',I',r,q⟩;exact ⟨v,H',I'.unwish,r,q⟩) fun _ _ z=>False.elim z
theorem PT.nox{e:Expr}{t:TT}(h:PT X.nox e t):PT X e t:=fun pins s σ H Q I hw=>
 wpAny_mono (h pins s σ H Q (I.wish _) hw) (by rintro _ _ ⟨H',I',q⟩;exact ⟨H',I'.unwish,q⟩) fun _ _ z=>False.elim z
theorem PSs.nox{st:List Stmt}{t:TS}(h:PSs X.nox st t):PSs X st t:=fun pins s σ H D I hw=>
 wpAny_mono (h pins s σ H D (I.wish _) hw) (fun _ _ q=>q.unwish) fun _ _ z=>False.elim z
end
section
variable {X:Cx} {st:Stmt} {rest:List Stmt} {t u:TS} {e:Expr} {te:TE} {pos:Pos}
noncomputable def tNext:TS:=fun D σ H=>D.nx σ H
noncomputable def tSeq (t u:TS):TS:=fun D σ H=>t { D with nx:=u D } σ H
theorem alo:PSs X [] tNext:=fun _ _ σ H _ I h=>wpAny_execs_nil ⟨σ,H,I,h⟩
theorem ajN(h1:PS X st t)(h2:PSs X rest u):PSs X (st::rest) (tSeq t u):=by
 intro pins s σ H D I h;refine wpAny_execs_cons (thn (h1 pins s σ H { D with nx:=u D } I h) fun f s1 q=>?_)
 cases f with
 | next=>
  obtain ⟨σ',H',I',q⟩:=q;exact h2 pins s1 σ' H' D I' q
 | ret v=>exact q
 | brk=>exact q
 | cont=>exact q
theorem alp(h1:PS X st t):PSs X [st] t:=by
 intro pins s σ H D I h;refine wpAny_execs_cons (thn (h1 pins s σ H D I h) fun f s1 q=>?_)
 cases f with
 | next=>exact wpAny_execs_nil q
 | ret v=>exact q
 | brk=>exact q
 | cont=>exact q
noncomputable def am4:TS:=fun D σ H=>D.bk σ H
noncomputable def tCont:TS:=fun D σ H=>D.ct σ H
theorem Inv.quiet{pins:List (Addr×Obj)}{σ:St}{H:Hp}{s:Shared}(I:Inv X pins σ H s):interactive X.env=false:=by simp [interactive,I.ok.kind]
noncomputable def tDrop (te:TE):TS:=fun D σ H=>te σ H fun _ H1=>D.nx σ H1
theorem alq(he:PE X e te)(hs:swapsWith e none pos.line X.env=pure false:=by rfl):PS X (.Expr e pos) (tDrop te):=by
 intro pins s σ H D I h;exact wpAny_Expr_any (thn (he pins s σ H _ I h) fun v s1 ⟨x,H1,I1,r1,q1⟩=>⟨σ,H1,I1,q1⟩) I.quiet hs
noncomputable def tRet (te:TE):TS:=fun D σ H=>te σ H D.rt
theorem am5(he:PE X e te):PS X (.Return (some e) pos) (tRet te):=by
 intro pins s σ H D I h;exact wpAny_Return_some (thn (he pins s σ H _ I h) fun v s1 ⟨x,H1,I1,r1,q1⟩=>⟨x,σ,H1,I1,r1,q1⟩)
noncomputable def tRetN:TS:=fun D _ H=>D.rt .non H
noncomputable def tIfS (c:TT) (t u:TS):TS:=fun D σ H=>c σ H fun b H1=>if b=true then t D σ H1 else u D σ H1
theorem ps_if{c:Expr}{a b:List Stmt}{tc:TT}(hc:PT X c tc)(ha:PSs X a t)(hb:PSs X b u):PS X (.If c a b pos) (tIfS tc t u):=by
 intro pins s σ H D I h;refine wpAny_If (thn (hc pins s σ H _ I h) fun d s1 ⟨H1,I1,q1⟩=>?_)
 cases d with
 | true=>exact ha pins s1 σ H1 D I1 q1
 | false=>exact hb pins s1 σ H1 D I1 q1
noncomputable def aii:TS:=fun _ _ _=>False
theorem ajO:PS X st aii:=fun _ _ _ _ _ _ h=>h.elim
end
noncomputable abbrev TG:=V->St->Hp->(St->Hp->Prop)->Prop
noncomputable abbrev TGs:=List V->St->Hp->(St->Hp->Prop)->Prop
noncomputable def PG (X:Cx) (target:Expr) (t:TG):Prop:=
 ∀ (pins:List (Addr×Obj)) (s:Shared) (σ:St) (H:Hp) (v:V) (u:Value) (Q:St->Hp->Prop),Inv X pins σ H s->RelV v u->t v σ H Q->
  wpAny (model X.prog X.w) X.A (assign target X.env u) (fun _ s'=>∃ σ' H',Inv X pins σ' H' s'/\Q σ' H') X.xe s
noncomputable def PGs (X:Cx) (ts:List Expr) (t:TGs):Prop:=
 ∀ (pins:List (Addr×Obj)) (s:Shared) (σ:St) (H:Hp) (vs:List V) (us:List Value) (Q:St->Hp->Prop),Inv X pins σ H s->Vals vs us->t vs σ H Q->
  wpAny (model X.prog X.w) X.A (assignInOrder ((assignEach ts X.env).map (·.2)) us) (fun _ s'=>∃ σ' H',Inv X pins σ' H' s'/\Q σ' H') X.xe s
noncomputable abbrev TSet:=V->V->V->Hp->(Hp->Prop)->Prop
noncomputable abbrev TIp:=V->V->Hp->VK->Prop
noncomputable def PIp (X:Cx) (op:Operator) (t:TIp):Prop:=
 ∀ (pins:List (Addr×Obj)) (s:Shared) (σ:St) (H:Hp) (x y:V) (v u:Value) (Q:VK),Inv X pins σ H s->RelV x v->RelV y u->t x y H Q->
  wpAny (model X.prog X.w) X.A (inplaceOp op v u) (EP X pins σ Q) X.xe s
section
variable {X:Cx} {pos:Pos}
noncomputable def gName (i:Nat):TG:=fun v σ H Q=>Q (σ.set i (some v)) H
theorem alr{i:Nat}{x:Str}(hN:X.N.Nodup)(hi:X.N[i]?=some x)(hx:Loc X.env.scope x)(hf:X.fn x=true\/X.env.scope.names.lookup x=some .local:=by first | exact .inl rfl | exact .inr rfl | assumption):PG X (.Name x pos) (gName i):=by
 intro pins s σ H v u Q I r h;exact wpAny_assign_Name (adJ I hN hi hx r (fun s' I'=>⟨_,H,I',h⟩) hf)
noncomputable def gNil:TGs:=fun vs σ H Q=>vs=[]/\Q σ H
noncomputable def gCons (t:TG) (u:TGs):TGs:=fun vs σ H Q=>∃ v r,vs=v::r/\t v σ H fun σ' H'=>u r σ' H' Q
theorem als:PGs X [] gNil:=by
 intro pins s σ H vs us Q I r h;obtain ⟨e,h⟩:=h;subst e
 cases r
 exact assignInOrder_nil ⟨σ,H,I,h⟩
theorem ajP{e:Expr}{es:List Expr}{t:TG}{u:TGs}(h1:PG X e t)(h2:PGs X es u)(hs:(assignEach (e::es) X.env).map (·.2)=assign e X.env::(assignEach es X.env).map (·.2):=by rfl):PGs X (e::es) (gCons t u):=by
 intro pins s σ H vs us Q I r h;obtain ⟨v,vr,e1,h⟩:=h;subst e1
 cases r with
 | cons r rr=>
  rw [hs];refine assignInOrder_cons (thn (h1 pins s σ H _ _ _ I r h) fun _ s1 ⟨σ1,H1,I1,q1⟩=>?_);exact h2 pins s1 σ1 H1 _ _ Q I1 rr q1
noncomputable def gTup (K:PySem.W.Frag) (n:Nat) (t:TGs):TG:=fun v σ H Q=>∃ a xs,v=.ref a/\SqT K H a xs/\xs.length=n/\t xs σ H Q
theorem am6{es:List Expr}{k:Nat}{t:TGs}{n:Nat}(hc:X.calm=true)(h:PGs X es t)(hn:(assignEach es X.env).length=n:=by rfl)(hst:(assignEach es X.env).findIdx? (·.1)=none:=by rfl):PG X (.Tuple es k pos) (gTup X.K n t):=by
 intro pins s σ H v u Q I r hw;obtain ⟨a,xs,e1,hq,hl,hw⟩:=hw;subst e1
 cases r
 obtain ⟨its,rv,ht,hz⟩:=I.tuple hq;refine assign_Tuple_tuple (I.ok.hd hc) ht (by simp [hn,<- hl,rv.length]) hst fun h' hx=>?_
 have I1:Inv X pins σ H { s with heap:=h' }:=I.kept (t':=s.toks) fun b o e=>hx b o (qaw (Heap.lt_size e)) e
 exact h pins _ σ H xs _ Q I1 (by simpa using rv) hw
noncomputable def gSub (to ti:TE) (t:TSet):TG:=fun v σ H Q=>to σ H fun o H1=>ti σ H1 fun i H2=>t o i v H2 fun H3=>Q σ H3
noncomputable def tAsg (te:TE) (g:TG):TS:=fun D σ H=>te σ H fun x H1=>g x σ H1 D.nx
theorem am7{i:Nat}{x:Str}{e:Expr}{te:TE}{pos':Pos}(hN:X.N.Nodup)(hi:X.N[i]?=some x)(hx:Loc X.env.scope x)(he:PE X e te)(hs:swapsWith e (some (.Name x pos')) pos.line X.env=pure false:=by rfl)(hf:X.fn x=true\/X.env.scope.names.lookup x=some .local:=by first | exact .inl rfl | exact .inr rfl | assumption) :
  PS X (.Assign [.Name x pos'] e pos) (tAsg te (gName i)):=by
 intro pins s σ H D I h;refine wpAny_Assign_Name (thn (he pins s σ H _ I h) fun v s1 ⟨y,H1,I1,r1,q1⟩=>?_) hs;exact adJ I1 hN hi hx r1 (fun s2 I2=>⟨_,H1,I2,q1⟩) hf
noncomputable def tAug (i:Nat) (te:TE) (ti:TIp):TS:=fun D σ H=>∃ x,σ[i]?=some (some x)/\te σ H fun y H1=>ti x y H1 fun z H2=>D.nx (σ.set i (some z)) H2
theorem am8{i:Nat}{x:Str}{e:Expr}{te:TE}{op:Operator}{ti:TIp}{pos':Pos}(hN:X.N.Nodup)(hi:X.N[i]?=some x)(hx:Loc X.env.scope x)(he:PE X e te)(ho:PIp X op ti)(hf:X.fn x=true\/X.env.scope.names.lookup x=some .local:=by first | exact .inl rfl | exact .inr rfl | assumption) :
  PS X (.AugAssign (.Name x pos') op e pos) (tAug i te ti):=by
 intro pins s σ H D I h;obtain ⟨v,e1,h⟩:=h;obtain ⟨m,hn,hl⟩:=I.loc;have vis:Vis X.env.scope x:=by rcases hx with k | k;exact .inl k;exact .inr (.inl k)
 obtain ⟨u,r,l⟩:=hl i x v hi e1 vis;refine wpAny_AugAssign_Name ?_;have go:wpAny (model X.prog X.w) X.A (eval e X.env) (fun w s₂=>wpAny (model X.prog X.w) X.A (inplaceOp op u w) (fun r s₃=>wpAny (model X.prog X.w) X.A (storeName X.env x r) (fun _=>SP X pins D .next) X.xe s₃) X.xe s₂) X.xe s:=by
  refine thn (he pins s σ H _ I h) fun w s1 ⟨y,H1,I1,r1,q1⟩=>?_
  refine thn (ho pins s1 σ H1 v y u w _ I1 r r1 q1) fun z s2 ⟨zv,H2,I2,r2,q2⟩=>?_
  exact adJ I2 hN hi hx r2 (fun s3 I3=>⟨_,H2,I3,q2⟩) hf
 rcases l with ⟨hk,hm⟩ | ⟨hk,c,hc,hcell⟩
 ·exact wpAny_loadName_local I.ok.kind hk hn hm go
 ·rcases hk with hk | hk
  ·exact wpAny_loadName_cell I.ok.kind hk hc hcell go
  ·rcases hx with k | k
   ·have:X.env.scope.names.lookup x=some .free:=hk
    rw [k] at this;cases this
   ·have:X.env.scope.names.lookup x=some .free:=hk
    rw [k] at this;cases this
noncomputable def ipI (f:Int->Int->Int):TIp:=fun x y H Q=>∃ i j,x=.int i/\y=.int j/\Q (.int (f i j)) H
theorem am9:PIp X .Add (ipI fun i j=>i+j):=by
 intro pins s σ H x y v u Q I r1 r2 h;obtain ⟨i,j,e1,e2,q⟩:=h;subst e1;subst e2;obtain ⟨t,rfl⟩:=r1;obtain ⟨t',rfl⟩:=r2;exact iadd_int ⟨.int _,H,I.tok _,⟨_,rfl⟩,q⟩
end
section
variable {X:Cx} {pos:Pos}
noncomputable def ag1 (c:TT) (tb:TS):TS:=fun D σ H=>∃ W:Nat->St->Hp->Prop,(∃ m,W m σ H)/\∀ m σ H,W m σ H->
 c σ H fun b H1=>if b=true then ∃ N:St->Hp->Prop,(∀ σ' H',N σ' H'->∃ m',m'<m/\W m' σ' H')/\tb { D with nx:=N,ct:=N,bk:=D.nx } σ H1 else D.nx σ H1
theorem ajQ{c:Expr}{body:List Stmt}{tc:TT}{tb:TS}(hp:PassesOwn (model X.prog X.w) X.A X.env X.xe)(hc:PT X c tc)(hb:PSs X body tb):PS X (.While c body [] pos) (ag1 tc tb):=by
 intro pins s σ H D I h;obtain ⟨W,⟨m0,w0⟩,turn⟩:=h;refine wpAny_While (codeAny_whileLoop (fun n s'=>∃ σ' H',Inv X pins σ' H' s'/\W n σ' H') ?_ m0 ⟨σ,H,I,w0⟩);rintro n s1 ⟨σ1,H1,I1,w1⟩;refine wpAny_passesOwn hp (thn (hc pins s1 σ1 H1 _ I1 (turn n σ1 H1 w1)) fun b s2 ⟨H2,I2,q2⟩=>?_)
 cases b with
 | true=>
  obtain ⟨N,hN,q2⟩:=q2;rw [if_pos rfl];refine wpAny_passesOwn hp (thn (hb pins s2 σ1 H2 _ I2 q2) fun f s3 q3=>?_)
  cases f with
  | next=>
   obtain ⟨σ3,H3,I3,n3⟩:=q3;obtain ⟨m',hm,w3⟩:=hN σ3 H3 n3;exact ⟨m',hm,σ3,H3,I3,w3⟩
  | cont=>
   obtain ⟨σ3,H3,I3,n3⟩:=q3;obtain ⟨m',hm,w3⟩:=hN σ3 H3 n3;exact ⟨m',hm,σ3,H3,I3,w3⟩
  | brk=>exact q3
  | ret v=>exact q3
 | false=>
  rw [if_neg qae];exact wpAny_execs_nil ⟨σ1,H2,I2,q2⟩
end
structure It where
 go:Nat->Hp->Prop
 yld:Nat->Hp->V->Hp->Prop
 stop:Nat->Hp->Prop
noncomputable def FpOk (X:Cx) (pins:List (Addr×Obj)) (H:Hp) (b:Addr):Prop:=
 H b=none/\b≠X.env.locals/\b∉X.fs/\(b∈X.ex\/X.s₀.heap.objs.size<=b)/\(∀ x c,X.env.cells.lookup x=some c->c≠b)/\∀ p∈X.pn++pins,p.1≠b
theorem Inv.fpOk{X:Cx}{pins:List (Addr×Obj)}{σ:St}{H H':Hp}{s:Shared}{b:Addr}(I:Inv X pins σ H s)(hb:s.heap.objs.size<=b)(hn:H' b=none):FpOk X pins H' b:=by
 refine ⟨hn,Nat.ne_of_gt (qau I.lt hb),I.nofs hb,.inr (qan I.sz hb),fun x c e z=>?_,fun p hp z=>?_⟩
 ·obtain ⟨v,q⟩:=I.cell x c e;exact absurd (qau q.lt (by rw [z];exact hb)) (qbg _)
 ·exact absurd (qau (Heap.lt_size (I.pin p hp).1) (by rw [z];exact hb)) (qbg _)
structure Turn(P:Program)(w:World)(K:PySem.W.Frag)(tg:Expr)(J:It)(fp:List Addr)(it:Addr)(tn:Nat->Heap->Prop):Prop where
 mem:it∈fp
 obj:∀ i h,tn i h->∀ b∈fp,∃ o,h.get? b=some o/\∀ v,o.data≠.cell v
 keep:∀ i h h',tn i h->(∀ b∈fp,∀ o,h.get? b=some o->h'.get? b=some o)->tn i h'
 item:∀ (X:Cx),X.prog=P->X.w=w->X.K=K->X.calm=true->∀ (i:Nat) (pins:List (Addr×Obj)) (s:Shared) (σ:St) (H:Hp) (E:Value->Shared->Prop),Inv X pins σ H s->(∀ b∈fp,FpOk X pins H b)->tn i s.heap->J.go i H->
  wpAny (model P w) X.A (pyNext (.ref it)) (fun r s1=>∃ u,r=some u/\
   wpAny (model P w) X.A (letOwnedTupleGo tg (.ref it) u) (fun _ s2=>∃ x H',Inv X pins σ H' s2/\RelV x u/\J.yld i H x H'/\tn (i+1) s2.heap/\∀ b∈fp,H' b=none) E s1) E s
 done:∀ (X:Cx),X.prog=P->X.w=w->X.K=K->X.calm=true->∀ (i:Nat) (pins:List (Addr×Obj)) (s:Shared) (σ:St) (H:Hp) (E:Value->Shared->Prop),Inv X pins σ H s->(∀ b∈fp,FpOk X pins H b)->tn i s.heap->J.stop i H->
  wpAny (model P w) X.A (pyNext (.ref it)) (fun r s1=>r=none/\Inv X pins σ H s1) E s
 self:∀ (A:Around) (i:Nat) (s:Shared) (Q:Value->Shared->Prop) (E:Value->Shared->Prop),tn i s.heap->Q (.ref it) s->wpAny (model P w) A (pyIter (.ref it)) Q E s
noncomputable abbrev TI:=St->Hp->(It->Hp->Prop)->Prop
noncomputable def PIE (X:Cx) (pins:List (Addr×Obj)) (σ:St) (tg:Expr) (R:It->Hp->Prop) (itv:Value) (s2:Shared):Prop:=
 ∃ (it:Addr) (fp:List Addr) (tn:Nat->Heap->Prop) (J:It) (H':Hp),itv=.ref it/\Inv X pins σ H' s2/\Turn X.prog X.w X.K tg J fp it tn/\tn 0 s2.heap/\(∀ b∈fp,FpOk X pins H' b)/\R J H'
noncomputable def PI (X:Cx) (tg iter:Expr) (wi:TI):Prop:=
 ∀ (pins:List (Addr×Obj)) (s:Shared) (σ:St) (H:Hp) (R:It->Hp->Prop),Inv X pins σ H s->wi σ H R->
  wpAny (model X.prog X.w) X.A (eval iter X.env) (fun v s1=>wpAny (model X.prog X.w) X.A (pyIter v) (PIE X pins σ tg R) X.xe s1) X.xe s
theorem go_of{M : Model}{A : Around}{E : Value -> Shared -> Prop}{s : Shared}{tg : Expr}{it : Addr}{u : Value}{o : Obj}{n : String}{vs : Array Value}{Q : Unit -> Shared -> Prop}(ho : s.heap.get? it = some o)(hc : o.cls = .type n)(hd : o.data = .fields vs)(hn : ["enumerate", "zip", "dict_itemiterator", "dict_reverseitemiterator", "odict_iterator", "itertools.zip_longest", "itertools.pairwise"].contains n = false)(hQ : Q () s) : wpAny M A (letOwnedTupleGo tg (.ref it) u) Q E s := by
  unfold letOwnedTupleGo
  cases tg <;> first
    | exact wpAny_pure hQ
    | (cases u <;> first
        | exact wpAny_pure hQ
        | (refine wpAny_bind (wpAny_load ho ?_)
           rw [hc, hd];show wpAny M A (if (["enumerate", "zip", "dict_itemiterator", "dict_reverseitemiterator", "odict_iterator", "itertools.zip_longest", "itertools.pairwise"].contains n&&vs[0]? == some (rawInt _)) = true then _ else _) Q E s;rw [if_neg (by intro h; rw [hn, Bool.false_and] at h; cases h)];exact wpAny_pure hQ))
noncomputable def Itl (K:PySem.W.Frag) (a:Addr):It:=
 ⟨fun i H=>∃ xs x,SqL K H a xs/\xs[i]?=some x,fun i H x H'=>H'=H/\∀ xs,SqL K H a xs->xs[i]?=some x,fun i H=>∃ xs,SqL K H a xs/\xs.length<=i⟩
noncomputable def Itt (K:PySem.W.Frag) (a:Addr):It:=
 ⟨fun i H=>∃ xs x,SqT K H a xs/\xs[i]?=some x,fun i H x H'=>H'=H/\∀ xs,SqT K H a xs->xs[i]?=some x,fun i H=>∃ xs,SqT K H a xs/\xs.length<=i⟩
noncomputable def Itr (lo:Int) (n:Nat):It:=⟨fun i _=>i<n,fun i H x H'=>H'=H/\x=.int (lo+i),fun i _=>n<=i⟩
theorem aij{P:Program}{w:World}{K:PySem.W.Frag}{tg:Expr}(a it:Addr):Turn P w K tg (Itl K a) [it] it (fun i h=>h.IsListIter it a i) where
 mem:=by simp
 obj:=fun i h st b hb=>by
  have e:b=it:=by simpa using hb
  subst e;obtain ⟨o,e,c,d⟩:=st;exact ⟨o,e,fun v z=>by rw [d] at z;cases z⟩
 keep:=fun i h h' st k=>st.at fun o e=>k it (by simp) o e
 item:=by
  intro X hP hw hK hc i pins s σ H E I hf st hg;subst hP hw hK;obtain ⟨xs,x,hq,hx⟩:=hg;obtain ⟨its,rv,p,hz⟩:=I.list hq;obtain ⟨u,hu,ru⟩:=rv.get hx;obtain ⟨f0,f1,f2,f3,f4,f5⟩:=hf it (by simp);refine wpAny_pyNext_list_item st p.isList (x:=u) (by simpa using hu) fun h' st' sb=>?_
  have I1:Inv X pins σ H { s with heap:=h' }:=I.turned (t':=s.toks) (fun b o hb e=>(sb.2 b hb).trans e) f0 f1 f3 f4 f5;obtain ⟨o,e,c,d⟩:=id st';exact ⟨u,rfl,go_of (s:={ s with heap:=h' }) e c d (by decide) ⟨x,H,I1,ru,⟨rfl,fun ys hy=>by rw [I.list_inj hy hq];exact hx⟩,st',fun b hb=>(hf b hb).1⟩⟩
 done:=by
  intro X hP hw hK hc i pins s σ H E I hf st hg;subst hP hw hK;obtain ⟨xs,hq,hx⟩:=hg;obtain ⟨its,rv,p,hz⟩:=I.list hq;obtain ⟨f0,f1,f2,f3,f4,f5⟩:=hf it (by simp);have hl:=rv.length;exact wpAny_pyNext_list_end (I.ok.hd hc) st p.isList (by simp;omega) fun h' eb=>⟨rfl,I.turned (t':=s.toks) (fun b o hb e=>eb b o hb e) f0 f1 f3 f4 f5⟩
 self:=fun _ _ _ _ _ st h=>wpAny_pyIter_listiter st h
theorem ahB{P:Program}{w:World}{K:PySem.W.Frag}{tg:Expr}(a it:Addr):Turn P w K tg (Itt K a) [it] it (fun i h=>h.IsTupleIter it a i) where
 mem:=by simp
 obj:=fun i h st b hb=>by
  have e:b=it:=by simpa using hb
  subst e;obtain ⟨o,e,c,d⟩:=st;exact ⟨o,e,fun v z=>by rw [d] at z;cases z⟩
 keep:=fun i h h' st k=>st.at fun o e=>k it (by simp) o e
 item:=by
  intro X hP hw hK hc i pins s σ H E I hf st hg;subst hP hw hK;obtain ⟨xs,x,hq,hx⟩:=hg;obtain ⟨its,rv,p,hz⟩:=I.tuple hq;obtain ⟨u,hu,ru⟩:=rv.get hx;obtain ⟨f0,f1,f2,f3,f4,f5⟩:=hf it (by simp);refine wpAny_pyNext_tuple_item st (show s.heap.IsTuple a its.toArray from p) (x:=u) (by simpa using hu) fun h' st' sb=>?_
  have I1:Inv X pins σ H { s with heap:=h' }:=I.turned (t':=s.toks) (fun b o hb e=>(sb.2 b hb).trans e) f0 f1 f3 f4 f5;obtain ⟨o,e,c,d⟩:=id st';exact ⟨u,rfl,go_of (s:={ s with heap:=h' }) e c d (by decide) ⟨x,H,I1,ru,⟨rfl,fun ys hy=>by rw [I.tuple_inj hy hq];exact hx⟩,st',fun b hb=>(hf b hb).1⟩⟩
 done:=by
  intro X hP hw hK hc i pins s σ H E I hf st hg;subst hP hw hK;obtain ⟨xs,hq,hx⟩:=hg;obtain ⟨its,rv,p,hz⟩:=I.tuple hq;obtain ⟨f0,f1,f2,f3,f4,f5⟩:=hf it (by simp);have hl:=rv.length;exact wpAny_pyNext_tuple_end (I.ok.hd hc) st (show s.heap.IsTuple a its.toArray from p) (by simp;omega) fun h' eb=>⟨rfl,I.turned (t':=s.toks) (fun b o hb e=>eb b o hb e) f0 f1 f3 f4 f5⟩
 self:=fun _ _ _ _ _ st h=>wpAny_pyIter_tupleiter st h
theorem ahC{P:Program}{w:World}{K:PySem.W.Frag}{tg:Expr}(it:Addr)(lo:Int)(n:Nat):Turn P w K tg (Itr lo n) [it] it (fun i h=>IsRangeIter h it (lo+(i:Nat)*1) ((n:Int)-(i:Nat)) 1) where
 mem:=by simp
 obj:=fun i h st b hb=>by
  have e:b=it:=by simpa using hb
  subst e;exact ⟨_,st,fun v z=>by
   have z':Data.fields _=Data.cell v:=z
   cases z'⟩
 keep:=fun i h h' st k=>k it (by simp) _ st
 item:=by
  intro X hP hw hK hc i pins s σ H E I hf st hg;subst hP hw hK;obtain ⟨f0,f1,f2,f3,f4,f5⟩:=hf it (by simp);have W:=Walks.range (prog:=X.prog) (w:=X.w) (I.ok.hd hc) it lo 1 n;refine W.item i s _ _ hg st fun v h' tk hv st' kk=>?_
  obtain ⟨t,rfl⟩:=hv;have I1:Inv X pins σ H { s with heap:=h',toks:=tk }:=I.turned (fun b o hb e=>kk b o (by simpa using hb) e) f0 f1 f3 f4 f5;refine ⟨_,rfl,go_of (s:={ s with heap:=h',toks:=tk }) (n:="range_iterator") st' rfl rfl (by decide) ⟨.int (lo+i),H,I1,⟨t,?_⟩,⟨rfl,rfl⟩,st',fun b hb=>(hf b hb).1⟩⟩;rw [Int.mul_one]
 done:=by
  intro X hP hw hK hc i pins s σ H E I hf st hg;subst hP hw hK;obtain ⟨f0,f1,f2,f3,f4,f5⟩:=hf it (by simp);exact wpAny_pyNext_range_end (I.ok.hd hc) st (by have:n<=i:=hg;omega) fun h' eb=>⟨rfl,I.turned (t':=s.toks) (fun b o hb e=>eb b o hb e) f0 f1 f3 f4 f5⟩
 self:=fun _ _ _ _ _ st h=>wpAny_pyIter_rangeiter st h
end L2
namespace L2
open PySem PySem.Spec PyProof.Rows
section
variable {X:Cx} {tg:Expr}
noncomputable def iList (K:PySem.W.Frag) (tl:TE):TI:=fun σ H R=>tl σ H fun x H1=>∃ a,x=.ref a/\(∃ xs,SqL K H1 a xs)/\R (Itl K a) H1
noncomputable def iTup (K:PySem.W.Frag) (tl:TE):TI:=fun σ H R=>tl σ H fun x H1=>∃ a,x=.ref a/\(∃ xs,SqT K H1 a xs)/\R (Itt K a) H1
theorem alt{l:Expr}{tl:TE}(hl:PE X l tl):PI X tg l (iList X.K tl):=by
 intro pins s σ H R I h;refine thn (hl pins s σ H _ I h) fun v s1 ⟨x,H1,I1,r1,q1⟩=>?_
 obtain ⟨a,e,⟨xs,hq⟩,q⟩:=q1;subst e
 cases r1
 obtain ⟨its,rv,p,hz⟩:=I1.list hq;refine wpAny_pyIter_list p.isList ?_;refine ⟨s1.heap.objs.size,[s1.heap.objs.size],_,_,H1,rfl,I1.kept (t':=s1.toks) fun b o e=>Heap.get?_push_of_some _ e,aij a _,⟨_,Heap.get?_push_size _ rfl,rfl,rfl⟩,fun b hb=>?_,q⟩;have e:b=s1.heap.objs.size:=by simpa using hb
 subst e;exact I1.fpOk (qa2 _) (I1.hok.fresh (qa2 _))
theorem ana{l:Expr}{tl:TE}(hl:PE X l tl):PI X tg l (iTup X.K tl):=by
 intro pins s σ H R I h;refine thn (hl pins s σ H _ I h) fun v s1 ⟨x,H1,I1,r1,q1⟩=>?_
 obtain ⟨a,e,⟨xs,hq⟩,q⟩:=q1;subst e
 cases r1
 obtain ⟨its,rv,p,hz⟩:=I1.tuple hq;refine wpAny_pyIter_tuple (show s1.heap.IsTuple a its.toArray from p) ?_;refine ⟨s1.heap.objs.size,[s1.heap.objs.size],_,_,H1,rfl,I1.kept (t':=s1.toks) fun b o e=>Heap.get?_push_of_some _ e,ahB a _,⟨_,Heap.get?_push_size _ rfl,rfl,rfl⟩,fun b hb=>?_,q⟩;have e:b=s1.heap.objs.size:=by simpa using hb
 subst e;exact I1.fpOk (qa2 _) (I1.hok.fresh (qa2 _))
theorem ag2{pins:List (Addr×Obj)}{σ:St}{H:Hp}{s:Shared}{R:It->Hp->Prop}{E:Value->Shared->Prop}{lo hi:Int}{t u v:Tok}{tk:Nat}(I:Inv X pins σ H s)(h1:-(2 ^ 62)<=lo)(h2:lo<2 ^ 62)(h3:-(2 ^ 62)<=hi)(h4:hi<2 ^ 62)(q:R (Itr lo (hi-lo).toNat) H):wpAny (model X.prog X.w) X.A (pyIter (.ref s.heap.objs.size)) (PIE X pins σ tg R) E { s with heap:=s.heap.push { cls:=.type "range",data:=.fields #[.int lo t,.int hi u,.int 1 v] },toks:=tk }:=by
 refine wpAny_pyIter_range (IsRange.new ..) (small_one h1 h2 h3 h4) ?_;have I1:Inv X pins σ H { s with heap:=s.heap.push { cls:=.type "range",data:=.fields #[.int lo t,.int hi u,.int 1 v] },toks:=tk }:=I.kept fun b o e=>Heap.get?_push_of_some _ e
 refine ⟨(s.heap.push { cls:=.type "range",data:=.fields #[.int lo t,.int hi u,.int 1 v] }).objs.size,[(s.heap.push { cls:=.type "range",data:=.fields #[.int lo t,.int hi u,.int 1 v] }).objs.size],_,_,H,rfl,
  I1.kept (t':=tk) fun b o e=>Heap.get?_push_of_some _ e,ahC _ lo (hi-lo).toNat,?_,fun b hb=>?_,q⟩
 ·have e1:lo+((0:Nat):Int)*1=lo:=by simp
  have e2:(((hi-lo).toNat:Nat):Int)-((0:Nat):Int)=Builtin.Range.rangeSize lo hi 1:=by rw [rangeSize_one];split <;> omega
  show IsRangeIter _ _ (lo+((0:Nat):Int)*1) ((((hi-lo).toNat:Nat):Int)-((0:Nat):Int)) 1;rw [e1,e2];exact Heap.get?_push_size _ rfl
 ·have e:b=(s.heap.push { cls:=.type "range",data:=.fields #[.int lo t,.int hi u,.int 1 v] }).objs.size:=by simpa using hb
  subst e;exact I1.fpOk (qa2 _) (I1.hok.fresh (qa2 _))
noncomputable def iRng1 (ta:TA):TI:=fun σ H R=>ta σ H fun vs H1=>∃ j:Int,vs=[.int j]/\-(2 ^ 62)<=j/\j<2 ^ 62/\R (Itr 0 j.toNat) H1
noncomputable def iRng2 (ta:TA):TI:=fun σ H R=>ta σ H fun vs H1=>∃ i j:Int,vs=[.int i,.int j]/\(-(2 ^ 62)<=i/\i<2 ^ 62/\-(2 ^ 62)<=j/\j<2 ^ 62)/\R (Itr i (j-i).toNat) H1
theorem aik{a:Expr}{ta:TA}{p pos:Pos}(hg:Gl X "range")(hm:X.mg "range"=none)(ha:PA X [a] ta)(hs:starEach [a] X.env=[(false,eval a X.env)]:=by rfl):PI X tg (.Call (.Name "range" p) [a] [] pos) (iRng1 ta):=by
 intro pins s σ H R I h;refine Call_ (adA I hg hm boot_range (PyProof.Rows.callWith_type1 (thn (ha pos pins s σ H _ I h) fun us s1 ⟨vs,H1,I1,r1,q1⟩=>?_) hs rfl));obtain ⟨j,e,q1,q2,q⟩:=q1;subst e
 cases r1 with
 | cons r rr=>
  cases rr
  obtain ⟨t,rfl⟩:=r;exact call_range_1 (ag2 I1 (by omega) (by omega) q1 q2 (by simpa using q))
theorem ail{a b:Expr}{ta:TA}{p pos:Pos}(hg:Gl X "range")(hm:X.mg "range"=none)(ha:PA X [a,b] ta)(hs:starEach [a,b] X.env=[(false,eval a X.env),(false,eval b X.env)]:=by rfl)(hs2:starEach [b] X.env=[(false,eval b X.env)]:=by rfl) :
  PI X tg (.Call (.Name "range" p) [a,b] [] pos) (iRng2 ta):=by
 intro pins s σ H R I h;refine Call_ (adA I hg hm boot_range (PyProof.Rows.callWith_type1 (thn (ha pos pins s σ H _ I h) fun us s1 ⟨vs,H1,I1,r1,q1⟩=>?_) (by rw [hs,hs2]) (by rw [hs2];rfl)));obtain ⟨i,j,e,⟨q1,q2,q3,q4⟩,q⟩:=q1;subst e
 cases r1 with
 | cons r rr=>
  cases rr with
  | cons r' rr=>
   cases rr
   obtain ⟨t,rfl⟩:=r;obtain ⟨t',rfl⟩:=r';exact call_range_2 (ag2 I1 q1 q2 q3 q4 q)
noncomputable def tFor (wi:TI) (g:TG) (tb:TS):TS:=fun D σ H=>wi σ H fun J H1=>∃ W:Nat->Nat->St->Hp->Prop,(∃ m,W 0 m σ H1)/\∀ i m σ H,W i m σ H->
 (J.stop i H/\D.nx σ H)\/(J.go i H/\∃ N:St->Hp->Prop,(∀ σ' H',N σ' H'->∃ m',m'<m/\W (i+1) m' σ' H')/\∀ x H',J.yld i H x H'->g x σ H' fun σ2 H2=>tb { D with nx:=N,ct:=N,bk:=D.nx } σ2 H2)
noncomputable def aeD (fp:List Addr) (h:Heap):List (Addr×Obj):=fp.filterMap fun b=>(h.get? b).map fun o=>(b,o)
theorem abX{fp:List Addr}{h:Heap}{b:Addr}{o:Obj}(hb:b∈fp)(e:h.get? b=some o):(b,o)∈aeD fp h:=qbC.mpr ⟨b,hb,by rw [e];rfl⟩
theorem aim{fp:List Addr}{h:Heap}{p:Addr×Obj}(hp:p∈aeD fp h):p.1∈fp/\h.get? p.1=some p.2:=by
 obtain ⟨b,hb,e⟩:=qbC.mp hp
 cases q:h.get? b with
 | none=>rw [q] at e;cases e
 | some o=>
  rw [q] at e;have e':(b,o)=p:=Option.some.inj e;subst e';exact ⟨hb,q⟩
theorem Inv.pinned{pins:List (Addr×Obj)}{σ:St}{H:Hp}{s:Shared}{fp:List Addr}(I:Inv X pins σ H s)(hf:∀ b∈fp,FpOk X pins H b)(ho:∀ b∈fp,∃ o,s.heap.get? b=some o/\∀ v,o.data≠.cell v):Inv X (pins++aeD fp s.heap) σ H s:=
 I.pins_of fun p hp=>(qa6.mp hp).elim (fun z=>I.pin p (qam _ z)) fun z=>by
  obtain ⟨hb,e⟩:=aim z;obtain ⟨f0,f1,f2,_⟩:=hf p.1 hb;obtain ⟨o,e',d⟩:=ho p.1 hb;rw [e] at e';cases e';exact ⟨e,f0,f1,f2,d⟩
theorem Inv.unpinned{pins pl:List (Addr×Obj)}{σ:St}{H:Hp}{s:Shared}(I:Inv X (pins++pl) σ H s):Inv X pins σ H s:=I.pins_of fun p hp=>I.pin p (qam _ (qaq _ hp))
theorem anb{iter:Expr}{body:List Stmt}{wi:TI}{g:TG}{tb:TS}{pos:Pos}(hp:PassesOwn (model X.prog X.w) X.A X.env X.xe)(hc:X.calm=true)(hi:PI X tg iter wi)(hg:PG X tg g)(hb:PSs X body tb)(hs:∀ x,foldedSetIterable iter X.env x=pure x:=by intro _;rfl):PS X (.For tg iter body [] pos) (tFor wi g tb):=by
 intro pins s σ H D I h;refine wpAny_For (thn (hi pins s σ H _ I h) fun v s1 h1=>thn h1 fun itv s2 h2=>?_) hs;obtain ⟨it,fp,tn,J,H2,e,I2,T,st2,f2,W,⟨m0,w0⟩,turn⟩:=h2;subst e;have stat:∀ {H':Hp},(∀ b∈fp,H' b=none)->∀ b∈fp,FpOk X pins H' b:=fun hn b hb=>⟨hn b hb,(f2 b hb).2⟩
 refine codeAny_forLoop_any (fun n s'=>∃ i σ' H',Inv X pins σ' H' s'/\tn i s'.heap/\(∀ b∈fp,H' b=none)/\W i n σ' H') ?_ m0 ⟨0,σ,H2,I2,st2,fun b hb=>(f2 b hb).1,w0⟩;rintro n s3 ⟨i,σ3,H3,I3,st3,fr3,w3⟩
 rcases turn i n σ3 H3 w3 with ⟨stop,qn⟩ | ⟨go,N,hN,step⟩
 ·refine wpAny_passesOwn hp (thn (T.done X rfl rfl rfl hc i pins s3 σ3 H3 X.xe I3 (stat fr3) st3 stop) fun r s4 ⟨hr,I4⟩=>?_);subst hr;exact wpAny_execs_nil ⟨σ3,H3,I4,qn⟩
 ·refine wpAny_passesOwn hp (thn (T.item X rfl rfl rfl hc i pins s3 σ3 H3 X.xe I3 (stat fr3) st3 go) fun r s4 ⟨u,hr,h4⟩=>?_);subst hr;refine wpAny_passesOwn hp (thn h4 fun _ s5 ⟨x,H5,I5,r5,y5,st5,fr5⟩=>?_);have I5':=I5.pinned (stat fr5) (T.obj _ _ st5);refine wpAny_passesOwn hp (thn (hg _ s5 σ3 H5 x u _ I5' r5 (step x H5 y5)) fun _ s6 ⟨σ6,H6,I6,q6⟩=>?_);refine wpAny_passesOwn hp (thn (hb _ s6 σ6 H6 _ I6 q6) fun f s7 q7=>?_);have again:∀ {σ7:St} {H7:Hp},Inv X (pins++aeD fp s5.heap) σ7 H7 s7->N σ7 H7->∃ m,m<n/\∃ i σ' H',Inv X pins σ' H' s7/\tn i s7.heap/\(∀ b∈fp,H' b=none)/\W i m σ' H':=fun {σ7 H7} I7 n7=>by
   obtain ⟨m',hm,w7⟩:=hN σ7 H7 n7;refine ⟨m',hm,i+1,σ7,H7,I7.unpinned,T.keep _ _ _ st5 fun b hb o e=>(I7.pin (b,o) (qam _ (qam _ (abX hb e)))).1,fun b hb=>?_,w7⟩;obtain ⟨o,e,d⟩:=T.obj _ _ st5 b hb;exact (I7.pin (b,o) (qam _ (qam _ (abX hb e)))).2.1
  cases f with
  | next=>obtain ⟨σ7,H7,I7,n7⟩:=q7;exact again I7 n7
  | cont=>obtain ⟨σ7,H7,I7,n7⟩:=q7;exact again I7 n7
  | brk=>obtain ⟨σ7,H7,I7,q7⟩:=q7;exact ⟨σ7,H7,I7.unpinned,q7⟩
  | ret v=>obtain ⟨x7,σ7,H7,I7,r7,q7⟩:=q7;exact ⟨x7,σ7,H7,I7.unpinned,r7,q7⟩
end
theorem ajR{K:PySem.W.Frag}{a:Addr}{xs:List V}{g:TG}{tb:TS}{D:Ends}{σ:St}{H:Hp}(Pv:Nat->St->Hp->Prop)(h0:Pv 0 σ H)(hl:∀ i σ H,i<=xs.length->Pv i σ H->SqL K H a xs)(hs:∀ i x σ H,xs[i]?=some x->Pv i σ H->g x σ H fun σ2 H2=>tb { D with nx:=Pv (i+1),ct:=Pv (i+1),bk:=D.nx } σ2 H2)(hd:∀ σ H,Pv xs.length σ H->D.nx σ H) :
  ∃ W:Nat->Nat->St->Hp->Prop,(∃ m,W 0 m σ H)/\∀ i m σ H,W i m σ H->
   ((Itl K a).stop i H/\D.nx σ H)\/((Itl K a).go i H/\∃ N:St->Hp->Prop,(∀ σ' H',N σ' H'->∃ m',m'<m/\W (i+1) m' σ' H')/\∀ x H',(Itl K a).yld i H x H'->g x σ H' fun σ2 H2=>tb { D with nx:=N,ct:=N,bk:=D.nx } σ2 H2):=by
 refine ⟨fun i m σ H=>m=xs.length-i/\i<=xs.length/\Pv i σ H,⟨xs.length,by simp,qar _,h0⟩,?_⟩;rintro i m σ H ⟨rfl,hi,p⟩;have q:=hl i σ H hi p
 by_cases hlt:i<xs.length
 ·refine .inr ⟨⟨xs,xs[i],q,by simp [hlt]⟩,Pv (i+1),fun σ' H' p'=>⟨xs.length-(i+1),by omega,rfl,hlt,p'⟩,fun x H' y=>?_⟩;obtain ⟨e,y⟩:=y;subst e;exact hs i x σ _ (y xs q) p
 ·have e:i=xs.length:=by omega
  subst e;exact .inl ⟨⟨xs,q,qa2 _⟩,hd σ H p⟩
theorem alu{K:PySem.W.Frag}{a:Addr}{xs:List V}{g:TG}{tb:TS}{D:Ends}{σ:St}{H:Hp}(Pv:Nat->St->Hp->Prop)(h0:Pv 0 σ H)(hl:∀ i σ H,i<=xs.length->Pv i σ H->SqT K H a xs)(hs:∀ i x σ H,xs[i]?=some x->Pv i σ H->g x σ H fun σ2 H2=>tb { D with nx:=Pv (i+1),ct:=Pv (i+1),bk:=D.nx } σ2 H2)(hd:∀ σ H,Pv xs.length σ H->D.nx σ H) :
  ∃ W:Nat->Nat->St->Hp->Prop,(∃ m,W 0 m σ H)/\∀ i m σ H,W i m σ H->
   ((Itt K a).stop i H/\D.nx σ H)\/((Itt K a).go i H/\∃ N:St->Hp->Prop,(∀ σ' H',N σ' H'->∃ m',m'<m/\W (i+1) m' σ' H')/\∀ x H',(Itt K a).yld i H x H'->g x σ H' fun σ2 H2=>tb { D with nx:=N,ct:=N,bk:=D.nx } σ2 H2):=by
 refine ⟨fun i m σ H=>m=xs.length-i/\i<=xs.length/\Pv i σ H,⟨xs.length,by simp,qar _,h0⟩,?_⟩;rintro i m σ H ⟨rfl,hi,p⟩;have q:=hl i σ H hi p
 by_cases hlt:i<xs.length
 ·refine .inr ⟨⟨xs,xs[i],q,by simp [hlt]⟩,Pv (i+1),fun σ' H' p'=>⟨xs.length-(i+1),by omega,rfl,hlt,p'⟩,fun x H' y=>?_⟩;obtain ⟨e,y⟩:=y;subst e;exact hs i x σ _ (y xs q) p
 ·have e:i=xs.length:=by omega
  subst e;exact .inl ⟨⟨xs,q,qa2 _⟩,hd σ H p⟩
theorem ain{lo:Int}{n:Nat}{g:TG}{tb:TS}{D:Ends}{σ:St}{H:Hp}(Pv:Nat->St->Hp->Prop)(h0:Pv 0 σ H)(hs:∀ i σ H,i<n->Pv i σ H->g (.int (lo+i)) σ H fun σ2 H2=>tb { D with nx:=Pv (i+1),ct:=Pv (i+1),bk:=D.nx } σ2 H2)(hd:∀ σ H,Pv n σ H->D.nx σ H) :
  ∃ W:Nat->Nat->St->Hp->Prop,(∃ m,W 0 m σ H)/\∀ i m σ H,W i m σ H->
   ((Itr lo n).stop i H/\D.nx σ H)\/((Itr lo n).go i H/\∃ N:St->Hp->Prop,(∀ σ' H',N σ' H'->∃ m',m'<m/\W (i+1) m' σ' H')/\∀ x H',(Itr lo n).yld i H x H'->g x σ H' fun σ2 H2=>tb { D with nx:=N,ct:=N,bk:=D.nx } σ2 H2):=by
 refine ⟨fun i m σ H=>m=n-i/\i<=n/\Pv i σ H,⟨n,by simp,qar _,h0⟩,?_⟩;rintro i m σ H ⟨rfl,hi,p⟩
 by_cases hlt:i<n
 ·refine .inr ⟨hlt,Pv (i+1),fun σ' H' p'=>⟨n-(i+1),by omega,rfl,hlt,p'⟩,fun x H' y=>?_⟩;obtain ⟨e,y⟩:=y;subst e y;exact hs i σ _ hlt p
 ·have e:i=n:=by omega
  subst e;exact .inl ⟨qa2 _,hd σ H p⟩
end L2
namespace L2
open PySem PySem.Spec PyProof.Rows
noncomputable abbrev R2:=V->V->Hp->VK->Prop
noncomputable def OpR (X:Cx) (f:Value->Value->Sem Value) (r:R2):Prop:=
 ∀ (pins:List (Addr×Obj)) (s:Shared) (σ:St) (H:Hp) (x y:V) (v u:Value) (Q:VK),Inv X pins σ H s->RelV x v->RelV y u->r x y H Q->
  wpAny (model X.prog X.w) X.A (f v u) (EP X pins σ Q) X.xe s
noncomputable def UnR (X:Cx) (f:Value->Sem Value) (r:V->Hp->VK->Prop):Prop:=
 ∀ (pins:List (Addr×Obj)) (s:Shared) (σ:St) (H:Hp) (x:V) (v:Value) (Q:VK),Inv X pins σ H s->RelV x v->r x H Q->
  wpAny (model X.prog X.w) X.A (f v) (EP X pins σ Q) X.xe s
noncomputable def CallR (X:Cx) (f:Value) (r:List V->Hp->VK->Prop):Prop:=
 ∀ (pins:List (Addr×Obj)) (s:Shared) (σ:St) (H:Hp) (xs:List V) (us:List Value) (Q:VK),Inv X pins σ H s->Vals xs us->r xs H Q->
  wpAny (model X.prog X.w) X.A (call f us) (EP X pins σ Q) X.xe s
noncomputable def TruR (X:Cx) (r:V->Hp->(Bool->Hp->Prop)->Prop):Prop:=
 ∀ (pins:List (Addr×Obj)) (s:Shared) (σ:St) (H:Hp) (x:V) (v:Value) (Q:Bool->Hp->Prop),Inv X pins σ H s->RelV x v->r x H Q->
  wpAny (model X.prog X.w) X.A (truthy v) (TP X pins σ Q) X.xe s
noncomputable def tOp (r:R2) (ta tb:TE):TE:=fun σ H Q=>ta σ H fun x H1=>tb σ H1 fun y H2=>r x y H2 Q
noncomputable def tUn (r:V->Hp->VK->Prop) (ta:TE):TE:=fun σ H Q=>ta σ H fun x H1=>r x H1 Q
noncomputable def rI (C:Int->Int->Prop) (g:Int->Int->V):R2:=fun x y H Q=>∃ i j,x=.int i/\y=.int j/\C i j/\Q (g i j) H
noncomputable def rI0 (g:Int->Int->V):R2:=fun x y H Q=>∃ i j,x=.int i/\y=.int j/\Q (g i j) H
noncomputable def rU (g:Int->V):V->Hp->VK->Prop:=fun x H Q=>∃ i,x=.int i/\Q (g i) H
section
variable {X:Cx} {a b c:Expr} {ta tb tc:TE} {pos:Pos}
theorem binT(ha:PE X a ta)(hb:PE X b tb){pins:List (Addr×Obj)}{s:Shared}{σ:St}{H:Hp}{R:V->V->Hp->Prop}(I:Inv X pins σ H s)(h:ta σ H fun x H1=>tb σ H1 fun y H2=>R x y H2){Q:Value->Shared->Prop}{f:Value->Value->Sem Value}(hf:∀ v u s2 x y H2,Inv X pins σ H2 s2->RelV x v->RelV y u->R x y H2->wpAny (model X.prog X.w) X.A (f v u) Q X.xe s2) :
  wpAny (model X.prog X.w) X.A (eval a X.env) (fun v s₁=>wpAny (model X.prog X.w) X.A (eval b X.env) (fun u s₂=>wpAny (model X.prog X.w) X.A (f v u) Q X.xe s₂) X.xe s₁) X.xe s:=by
 refine thn (ha pins s σ H _ I h) fun v s1 ⟨x,H1,I1,r1,q1⟩=>?_
 refine thn (hb pins s1 σ H1 _ I1 q1) fun u s2 ⟨y,H2,I2,r2,q2⟩=>?_
 exact hf v u s2 x y H2 I2 r1 r2 q2
theorem pe_op{op:Operator}{r:R2}(ho:OpR X (binaryOp op) r)(ha:PE X a ta)(hb:PE X b tb):PE X (.BinOp a op b pos) (tOp r ta tb):=by
 intro pins s σ H Q I h;exact wpAny_BinOp (binT ha hb I h fun v u s2 x y H2 I2 rx ry q=>ho pins s2 σ H2 x y v u Q I2 rx ry q)
theorem pe_un{op:UnaryOp}{r:V->Hp->VK->Prop}(ho:UnR X (unaryOp op) r)(ha:PE X a ta):PE X (.UnaryOp op a pos) (tUn r ta):=by
 intro pins s σ H Q I h;exact UnaryOp_ (thn (ha pins s σ H _ I h) fun v s1 ⟨x,H1,I1,r1,q1⟩=>ho pins s1 σ H1 x v Q I1 r1 q1)
theorem opI{f:Value->Value->Sem Value}{C:Int->Int->Prop}{g:Int->Int->Int}(rule:∀ (i j:Int) (t u:Tok) (s:Shared) (Q:Value->Shared->Prop) (E:Value->Shared->Prop),C i j->Q (.int (g i j) s.toks) { s with toks:=s.toks+1 }->wpAny (model X.prog X.w) X.A (f (.int i t) (.int j u)) Q E s) :
  OpR X f (rI C fun i j=>.int (g i j)):=by
 intro pins s σ H x y v u Q I rx ry h;obtain ⟨i,j,rfl,rfl,hc,q⟩:=h;obtain ⟨t,rfl⟩:=rx;obtain ⟨t',rfl⟩:=ry;exact rule i j t t' s _ _ hc ⟨.int (g i j),H,I.tok _,⟨_,rfl⟩,q⟩
theorem opI0{f:Value->Value->Sem Value}{g:Int->Int->Int}(rule:∀ (i j:Int) (t u:Tok) (s:Shared) (Q:Value->Shared->Prop) (E:Value->Shared->Prop),Q (.int (g i j) s.toks) { s with toks:=s.toks+1 }->wpAny (model X.prog X.w) X.A (f (.int i t) (.int j u)) Q E s) :
  OpR X f (rI0 fun i j=>.int (g i j)):=by
 intro pins s σ H x y v u Q I rx ry h;obtain ⟨i,j,rfl,rfl,q⟩:=h;obtain ⟨t,rfl⟩:=rx;obtain ⟨t',rfl⟩:=ry;exact rule i j t t' s _ _ ⟨.int (g i j),H,I.tok _,⟨_,rfl⟩,q⟩
theorem opB0{f:Value->Value->Sem Value}{g:Int->Int->Bool}(rule:∀ (i j:Int) (t u:Tok) (s:Shared) (Q:Value->Shared->Prop) (E:Value->Shared->Prop),Q (.bool (g i j)) s->wpAny (model X.prog X.w) X.A (f (.int i t) (.int j u)) Q E s) :
  OpR X f (rI0 fun i j=>.bl (g i j)):=by
 intro pins s σ H x y v u Q I rx ry h;obtain ⟨i,j,rfl,rfl,q⟩:=h;obtain ⟨t,rfl⟩:=rx;obtain ⟨t',rfl⟩:=ry;exact rule i j t t' s _ _ ⟨.bl (g i j),H,I,rfl,q⟩
noncomputable def CDiv (i j:Int):Prop:=0<j/\j<1073741824
noncomputable def CPow (i j:Int):Prop:=0<=j/\j<=1000000/\i.natAbs<2 ^ 64
noncomputable def CMul (i j:Int):Prop:=(-(2 ^ 64)<i/\i<2 ^ 64)\/(-(2 ^ 64)<j/\j<2 ^ 64)
theorem CMul.ok{i j:Int}(h:CMul i j):IntMulOk i j:=by
 rcases h with ⟨h1,h2⟩ | ⟨h1,h2⟩
 ·exact .of_left (intBits_le_64 h1 h2)
 ·exact .of_right (intBits_le_64 h1 h2)
theorem anc:OpR X (binaryOp .Add) (rI0 fun i j=>.int (i+j)):=opI0 fun _ _ _ _ _ _ _ q=>add_int q
theorem ane:OpR X (binaryOp .Sub) (rI0 fun i j=>.int (i-j)):=opI0 fun _ _ _ _ _ _ _ q=>sub_int q
theorem anf:OpR X (binaryOp .Mult) (rI CMul fun i j=>.int (i*j)):=opI fun _ _ _ _ _ _ _ hc q=>mul_int q hc.ok
theorem alv:OpR X (binaryOp .FloorDiv) (rI CDiv fun i j=>.int (i / j)):=opI fun i j _ _ _ _ _ hc q=>by
 have h1:(0:Int)<j:=hc.1;have h2:j<1073741824:=hc.2;exact floordiv_int (by omega) (by rw [Int.fdiv_eq_ediv_of_nonneg i (by omega)];exact q) (.inl (PyProof.noPylong_small (by omega)))
theorem ang:OpR X (binaryOp .Mod) (rI (fun _ j=>0<j) fun i j=>.int (i % j)):=opI fun i j _ _ _ _ _ hc q=>by
 have h1:(0:Int)<j:=hc;exact mod_int' (by omega) (by rw [Int.fmod_eq_emod_of_nonneg i (by omega)];exact q)
theorem anh:OpR X (binaryOp .Pow) (rI CPow fun i j=>.int (i ^ j.toNat)):=opI fun _ _ _ _ _ _ _ hc q=>pow_int_small hc.1 hc.2.1 hc.2.2 q
theorem unI{f:Value->Sem Value}{g:Int->Int}(rule:∀ (i:Int) (t:Tok) (s:Shared) (Q:Value->Shared->Prop) (E:Value->Shared->Prop),Q (.int (g i) s.toks) { s with toks:=s.toks+1 }->wpAny (model X.prog X.w) X.A (f (.int i t)) Q E s) :
  UnR X f (rU fun i=>.int (g i)):=by
 intro pins s σ H x v Q I rx h;obtain ⟨i,rfl,q⟩:=h;obtain ⟨t,rfl⟩:=rx;exact rule i t s _ _ ⟨.int (g i),H,I.tok _,⟨_,rfl⟩,q⟩
theorem ani:UnR X (unaryOp .USub) (rU fun i=>.int (-i)):=unI fun _ _ _ _ _ q=>neg_int q
end
noncomputable def scal:V->V->Bool
 | .non,.non=>true | .non,.int _=>true | .int _,.non=>true | .non,.bl _=>true | .bl _,.non=>true | .non,.str _=>true | .str _,.non=>true
 | .int _,.int _=>true | .bl _,.bl _=>true | .str _,.str _=>true | .byt _,.byt _=>true
 | .int _,.str _=>true | .str _,.int _=>true | .bl _,.str _=>true | .str _,.bl _=>true
 | _,_=>false
noncomputable def rEq:R2:=fun x y H Q=>scal x y=true/\Q (.bl (decide (x=y))) H
noncomputable def rNe:R2:=fun x y H Q=>scal x y=true/\Q (.bl (!decide (x=y))) H
theorem aio{i j:Int} : decide (V.int i=V.int j)=(i==j):=by
 rw [qbc]
 simp
theorem akX{i j:Bool} : decide (V.bl i=V.bl j)=(i==j):=by
 rw [qbc]
 simp
theorem aip{i j:Str} : decide (V.str i=V.str j)=(i==j):=by
 rw [qbc]
 simp
theorem aiq{i j:Array UInt8} : decide (V.byt i=V.byt j)=(i.toList==j.toList):=by
 rw [qbc]
 cases i
 cases j
 simp
section
variable {X:Cx} {a b c:Expr} {ta tb tc:TE} {pos:Pos}
theorem aaU{pins:List (Addr×Obj)}{σ:St}{H:Hp}{s:Shared}{Q:VK}{k k':Bool}(I:Inv X pins σ H s)(q:Q (.bl k) H)(e:k=k'):EP X pins σ Q (.bool k') s:=by
 subst e;exact ⟨.bl k,H,I,rfl,q⟩
theorem op_eq:OpR X (compareOp .Eq) rEq:=by
 intro pins s σ H x y v u Q I rx ry h;obtain ⟨hs,q⟩:=h
 cases x with
 | non=>
  cases rx
  cases y with
  | non=>cases ry;exact PySem.EqNone.eq_none_none (aaU I q (by simp))
  | bl j=>cases ry;exact PySem.EqNone.eq_none_bool (aaU I q (by simp))
  | int j=>obtain ⟨t',rfl⟩:=ry;exact PySem.EqNone.eq_none_int (aaU I q (by simp))
  | str j=>obtain ⟨t',rfl⟩:=ry;exact PySem.EqNone.eq_none_str (aaU I q (by simp))
  | _=>exact absurd (show false=true from hs) qae
 | bl i=>
  cases rx
  cases y with
  | non=>cases ry;exact PySem.EqNone.eq_bool_none (aaU I q (by simp))
  | bl j=>cases ry;exact eq_bool (aaU I q akX)
  | str j=>obtain ⟨t',rfl⟩:=ry;exact PySem.EqMixed.eq_bool_str (aaU I q (by simp))
  | _=>exact absurd (show false=true from hs) qae
 | int i=>
  obtain ⟨t,rfl⟩:=rx
  cases y with
  | non=>cases ry;exact PySem.EqNone.eq_int_none (aaU I q (by simp))
  | int j=>obtain ⟨t',rfl⟩:=ry;exact eq_int (aaU I q aio)
  | str j=>obtain ⟨t',rfl⟩:=ry;exact PySem.EqMixed.eq_int_str (aaU I q (by simp))
  | _=>exact absurd (show false=true from hs) qae
 | str i=>
  obtain ⟨t,rfl⟩:=rx
  cases y with
  | non=>cases ry;exact PySem.EqNone.eq_str_none (aaU I q (by simp))
  | bl j=>cases ry;exact PySem.EqMixed.eq_str_bool (aaU I q (by simp))
  | int j=>obtain ⟨t',rfl⟩:=ry;exact PySem.EqMixed.eq_str_int (aaU I q (by simp))
  | str j=>obtain ⟨t',rfl⟩:=ry;exact eq_str (aaU I q aip)
  | _=>exact absurd (show false=true from hs) qae
 | byt i=>
  obtain ⟨t,rfl⟩:=rx
  cases y with
  | byt j=>obtain ⟨t',rfl⟩:=ry;exact PySem.W.eq_bytes (aaU I q aiq)
  | _=>exact absurd (show false=true from hs) qae
 | _=>cases y <;> exact absurd (show false=true from hs) qae
theorem op_ne:OpR X (compareOp .NotEq) rNe:=by
 intro pins s σ H x y v u Q I rx ry h;obtain ⟨hs,q⟩:=h
 cases x with
 | non=>
  cases rx
  cases y with
  | non=>cases ry;exact PySem.EqNone.ne_none_none (aaU I q (by simp))
  | bl j=>cases ry;exact PySem.EqNone.ne_none_bool (aaU I q (by simp))
  | int j=>obtain ⟨t',rfl⟩:=ry;exact PySem.EqNone.ne_none_int (aaU I q (by simp))
  | str j=>obtain ⟨t',rfl⟩:=ry;exact PySem.EqNone.ne_none_str (aaU I q (by simp))
  | _=>exact absurd (show false=true from hs) qae
 | bl i=>
  cases rx
  cases y with
  | non=>cases ry;exact PySem.EqNone.ne_bool_none (aaU I q (by simp))
  | bl j=>cases ry;exact ne_bool (aaU I q (congrArg not akX))
  | str j=>obtain ⟨t',rfl⟩:=ry;exact PySem.EqMixed.ne_bool_str (aaU I q (by simp))
  | _=>exact absurd (show false=true from hs) qae
 | int i=>
  obtain ⟨t,rfl⟩:=rx
  cases y with
  | non=>cases ry;exact PySem.EqNone.ne_int_none (aaU I q (by simp))
  | int j=>obtain ⟨t',rfl⟩:=ry;exact ne_int (aaU I q (congrArg not aio))
  | str j=>obtain ⟨t',rfl⟩:=ry;exact PySem.EqMixed.ne_int_str (aaU I q (by simp))
  | _=>exact absurd (show false=true from hs) qae
 | str i=>
  obtain ⟨t,rfl⟩:=rx
  cases y with
  | non=>cases ry;exact PySem.EqNone.ne_str_none (aaU I q (by simp))
  | bl j=>cases ry;exact PySem.EqMixed.ne_str_bool (aaU I q (by simp))
  | int j=>obtain ⟨t',rfl⟩:=ry;exact PySem.EqMixed.ne_str_int (aaU I q (by simp))
  | str j=>obtain ⟨t',rfl⟩:=ry;exact ne_str (aaU I q (congrArg not aip))
  | _=>exact absurd (show false=true from hs) qae
 | byt i=>
  obtain ⟨t,rfl⟩:=rx
  cases y with
  | byt j=>obtain ⟨t',rfl⟩:=ry;exact PySem.W.ne_bytes (aaU I q (congrArg not aiq))
  | _=>exact absurd (show false=true from hs) qae
 | _=>cases y <;> exact absurd (show false=true from hs) qae
theorem op_lt:OpR X (compareOp .Lt) (rI0 fun i j=>.bl (decide (i<j))):=opB0 fun _ _ _ _ _ _ _ q=>lt_int q
theorem op_le:OpR X (compareOp .LtE) (rI0 fun i j=>.bl (decide (i<=j))):=opB0 fun _ _ _ _ _ _ _ q=>le_int q
theorem op_gt:OpR X (compareOp .Gt) (rI0 fun i j=>.bl (decide (j<i))):=opB0 fun _ _ _ _ _ _ _ q=>gt_int q
theorem air:OpR X (compareOp .Lt) (fun x y H Q=>∃ i j,x=.str i/\y=.str j/\Q (.bl (decide (i.cps.toList<j.cps.toList))) H):=by
 intro pins s σ H x y v u Q I rx ry h;obtain ⟨i,j,rfl,rfl,q⟩:=h;obtain ⟨t,rfl⟩:=rx;obtain ⟨t',rfl⟩:=ry;exact lt_str (aaU I q rfl)
theorem ais:OpR X (compareOp .In) (fun x y H Q=>∃ i j,x=.str i/\y=.str j/\Q (.bl (!(Builtin.Str.occurrences j i 0 j.length 1).isEmpty)) H):=by
 intro pins s σ H x y v u Q I rx ry h;obtain ⟨i,j,rfl,rfl,q⟩:=h;obtain ⟨t,rfl⟩:=rx;obtain ⟨t',rfl⟩:=ry;exact in_str (aaU I q rfl)
theorem OpR.or{f:Value->Value->Sem Value}{r r':R2}(h:OpR X f r)(h':OpR X f r'):OpR X f (fun x y H Q=>r x y H Q\/r' x y H Q):=by
 intro pins s σ H x y v u Q I rx ry q
 rcases q with q | q
 ·exact h pins s σ H x y v u Q I rx ry q
 ·exact h' pins s σ H x y v u Q I rx ry q
theorem akY(b:Expr){op:CmpOp}(h:op≠.In:=by decide)(h2:op≠.NotIn:=by decide):behindInMarks op b=false:=by
 have e1:(op==CmpOp.In)=false:=by cases op <;> first | rfl | exact absurd rfl h
 have e2:(op==CmpOp.NotIn)=false:=by cases op <;> first | rfl | exact absurd rfl h2
 cases b <;> simp [behindInMarks,e1,e2]
theorem alw{op:CmpOp}{r:R2}(ho:OpR X (compareOp op) r)(ha:PE X a ta)(hb:PE X b tb)(hm:behindInMarks op b=false):PE X (.Compare a [op] [b] pos) (tOp r ta tb):=by
 intro pins s σ H Q I h;exact wpAny_Compare1 (binT ha hb I h fun v u s2 x y H2 I2 rx ry q=>ho pins s2 σ H2 x y v u Q I2 rx ry q) hm
noncomputable def tTest (t:TE):TT:=fun σ H Q=>t σ H fun x H'=>∃ k,x=.bl k/\Q k H'
theorem alx{op:CmpOp}{r:R2}(ho:OpR X (compareOp op) r)(ha:PE X a ta)(hb:PE X b tb)(hm:behindInMarks op b=false):PT X (.Compare a [op] [b] pos) (tTest (tOp r ta tb)):=by
 intro pins s σ H Q I h;refine wpAny_isTrue_Compare1 (thn (ha pins s σ H _ I h) fun v s1 ⟨x,H1,I1,r1,q1⟩=>thn (hb pins s1 σ H1 _ I1 q1) fun u s2 ⟨y,H2,I2,r2,q2⟩=>
  thn (ho pins s2 σ H2 x y v u _ I2 r1 r2 q2) fun c s3 ⟨z,H3,I3,r3,k,e,q3⟩=>?_) hm
 subst e
 cases r3
 exact wpAny_truthy_bool ⟨H3,I3,q3⟩
noncomputable def ait (r r':R2) (ta tb tc:TE):TE:=fun σ H Q=>ta σ H fun x H1=>tb σ H1 fun y H2=>r x y H2 fun z H3=>∃ k,z=.bl k/\
 (if k=true then tc σ H3 fun w' H4=>r' y w' H4 Q else Q (.bl false) H3)
theorem ajS{op op':CmpOp}{r r':R2}(ho:OpR X (compareOp op) r)(ho':OpR X (compareOp op') r')(ha:PE X a ta)(hb:PE X b tb)(hc:PE X c tc)(hm:lastMarks [op,op'] [b,c]=false:=by with_unfolding_all rfl):PE X (.Compare a [op,op'] [b,c] pos) (ait r r' ta tb tc):=by
 intro pins s σ H Q I h;refine Compare_chain (thn (ha pins s σ H _ I h) fun v s1 ⟨x,H1,I1,r1,q1⟩=>chain_link (thn (hb pins s1 σ H1 _ I1 q1) fun u s2 ⟨y,H2,I2,r2,q2⟩=>
  thn (ho pins s2 σ H2 x y v u _ I2 r1 r2 q2) fun d s3 ⟨z,H3,I3,r3,k,e,q3⟩=>?_)) hm
 subst e
 cases r3
 refine wpAny_truthy_bool ?_
 cases k with
 | false=>exact ite_ff ⟨.bl false,H3,I3,rfl,q3⟩
 | true=>exact ite_tt (chain_last (thn (hc pins s3 σ H3 _ I3 q3) fun w' s4 ⟨z',H4,I4,r4,q4⟩=>ho' pins s4 σ H4 y z' u w' Q I4 r2 r4 q4))
noncomputable def TruV (K:PySem.W.Frag) (x:V) (H:Hp) (k:Bool):Prop:=
 match x with
 | .non=>k=false
 | .bl b=>k=b
 | .int i=>k=(i != 0)
 | .str y=>y.length<=sizeLine/\k=((y.length:Int) != 0)
 | .byt y=>y.size<=sizeLine/\k=((y.size:Int) != 0)
 | .ref p=>(∃ xs,SqL K H p xs/\k=!xs.isEmpty)\/(∃ xs,SqT K H p xs/\k=!xs.isEmpty)\/∃ kvs,H p=some (.dK kvs)/\k=!kvs.isEmpty
 | _=>False
theorem ahD{κ:Type}{kvs:List (κ×V)}{vs:List (κ×Value)}(r:KV kvs vs):(!vs.isEmpty)=!kvs.isEmpty:=by
 cases r <;> rfl
theorem aeE{xs:List V}{its:List Value}(r:Vals xs its):(!its.toArray.isEmpty)=!xs.isEmpty:=by
 cases r <;> simp
theorem afy:(sizeLine:Nat)<2 ^ 63:=by rw [sizeLine_eq];decide
theorem anj:TruR X (fun x H Q=>∃ k,TruV X.K x H k/\Q k H):=by
 intro pins s σ H x v Q I rx h;obtain ⟨k,e,q⟩:=h;have hl:=afy;have hs:sizeLine=16777216:=sizeLine_eq
 cases x with
 | non=>
  cases rx
  have e':k=false:=e;subst e';exact truthy_none ⟨H,I,q⟩
 | bl b=>
  cases rx
  have e':k=b:=e;subst e';exact wpAny_truthy_bool ⟨H,I,q⟩
 | int i=>
  obtain ⟨t,rfl⟩:=rx;have e':k=(i != 0):=e;subst e';exact PySem.P.truthy_int ⟨H,I,q⟩
 | str y=>
  obtain ⟨t,rfl⟩:=rx;obtain ⟨hy,e'⟩:y.length<=sizeLine/\k=((y.length:Int) != 0):=e;subst e';exact PySem.P.truthy_str (by omega) ⟨H,I.tok _,q⟩
 | byt y=>
  obtain ⟨t,rfl⟩:=rx;obtain ⟨hy,e'⟩:y.size<=sizeLine/\k=((y.size:Int) != 0):=e;subst e';exact PySem.W.truthy_bytes (by omega) ⟨H,I.tok _,q⟩
 | ref p=>
  cases rx
  have e':(∃ xs,SqL X.K H p xs/\k=!xs.isEmpty)\/(∃ xs,SqT X.K H p xs/\k=!xs.isEmpty)\/∃ kvs,H p=some (.dK kvs)/\k=!kvs.isEmpty:=e
  rcases e' with ⟨xs,hx,e'⟩ | ⟨xs,hx,e'⟩ | ⟨kvs,hx,e'⟩
  ·subst e';obtain ⟨its,r,pl,hz⟩:=I.list hx;have hlen:=r.length;exact wpAny_truthy_list pl.isList (by simp only [qai];omega) ⟨H,I.tok _,by rw [aeE r];exact q⟩
  ·subst e';obtain ⟨its,r,pl,hz⟩:=I.tuple hx;have hlen:=r.length;exact truthy_tuple pl (by simp only [qai];omega) ⟨H,I.tok _,by rw [aeE r];exact q⟩
  ·subst e';obtain ⟨hz,hS,vs,r,m⟩:kvs.length<=sizeLine/\(p==sysModules)=false/\∃ vs,KV kvs vs/\s.heap.DictOf (aaR X.prog X.w) p vs:=I.hok p _ hx;have hlen:kvs.length=vs.length:=Paired.length r;exact wpAny_truthy_dict hS m (by omega) ⟨H,I.tok _,by rw [ahD r];exact q⟩
 | _=>exact (show False from e).elim
theorem ajT(ha:PE X a ta)(he:∀ whole,isTrue a X.env whole=(do let v <- whole;standAt a.pos;holding [v] (truthy v))) :
  PT X a (fun σ H Q=>ta σ H fun x H'=>∃ k,TruV X.K x H' k/\Q k H'):=by
 intro pins s σ H Q I h;exact isTrue_plain (thn (ha pins s σ H _ I h) fun v s1 ⟨x,H1,I1,r1,q1⟩=>anj pins s1 σ H1 x v Q I1 r1 q1) (he _)
theorem ahE:OpR X (binaryOp .Add) (fun x y H Q=>∃ i j,x=.str i/\y=.str j/\i.length+j.length<=sizeLine/\Q (.str (i++j)) H):=by
 intro pins s σ H x y v u Q I rx ry h;obtain ⟨i,j,rfl,rfl,hz,q⟩:=h;obtain ⟨t,rfl⟩:=rx;obtain ⟨t',rfl⟩:=ry;exact add_str (fun t' tk=>⟨.str (i++j),H,I.tok _,⟨_,rfl⟩,q⟩) hz
theorem vals1{x:V}{us:List Value}(r:Vals [x] us):∃ u,us=[u]/\RelV x u:=by
 cases r with
 | cons r1 r2=>cases r2;exact ⟨_,rfl,r1⟩
theorem vals2{x y:V}{us:List Value}(r:Vals [x,y] us):∃ u w',us=[u,w']/\RelV x u/\RelV y w':=by
 cases r with
 | cons r1 r2=>
  cases r2 with
  | cons r3 r4=>cases r4;exact ⟨_,_,rfl,r1,r3⟩
noncomputable def LenV (K:PySem.W.Frag) (x:V) (H:Hp) (n:Nat):Prop:=
 match x with
 | .str y=>y.length<=sizeLine/\n=y.length
 | .byt y=>y.size<=sizeLine/\n=y.size
 | .ref p=>(∃ xs,SqL K H p xs/\n=xs.length)\/∃ xs,SqT K H p xs/\n=xs.length
 | _=>False
theorem ae2:CallR X (.builtin "len") (fun xs H Q=>∃ x n,xs=[x]/\LenV X.K x H n/\Q (.int n) H):=by
 intro pins s σ H xs us Q I r h;obtain ⟨x,n,rfl,e,q⟩:=h;obtain ⟨u,rfl,rx⟩:=vals1 r;have hl:=afy;have hs:sizeLine=16777216:=sizeLine_eq
 cases x with
 | str y=>
  obtain ⟨t,rfl⟩:=rx;obtain ⟨hy,e'⟩:y.length<=sizeLine/\n=y.length:=e;subst e';exact len_str (by omega) ⟨.int _,H,I.tok _,⟨_,rfl⟩,q⟩
 | byt y=>
  obtain ⟨t,rfl⟩:=rx;obtain ⟨hy,e'⟩:y.size<=sizeLine/\n=y.size:=e;subst e';exact PySem.W.len_bytes (by omega) ⟨.int _,H,I.tok _,⟨_,rfl⟩,q⟩
 | ref p=>
  cases rx
  have e':(∃ xs,SqL X.K H p xs/\n=xs.length)\/∃ xs,SqT X.K H p xs/\n=xs.length:=e
  rcases e' with ⟨xs,hx,e'⟩ | ⟨xs,hx,e'⟩
  ·subst e';obtain ⟨its,r',pl,hz⟩:=I.list hx;have hlen:=r'.length;exact Calls.call_len_list pl.isList (by simp only [qai];omega) ⟨.int xs.length,H,I.tok _,⟨_,by simp only [qai];rw [hlen]⟩,q⟩
  ·subst e';obtain ⟨its,r',pl,hz⟩:=I.tuple hx;have hlen:=r'.length;exact len_tuple pl (by simp only [qai];omega) ⟨.int xs.length,H,I.tok _,⟨_,by simp only [qai];rw [hlen]⟩,q⟩
 | _=>exact (show False from e).elim
end
end L2
namespace L2
open PySem PySem.Spec PyProof.Rows
structure ObjM(h:Heap)(x dx C:Addr)(mA:Str->Option Value):Prop where
 obj:h.get? x=some (qbi C dx)
 ns:h.Ns1 dx mA
 ne:dx≠x
theorem aiu{h:Heap}{dx:Addr}{mA:Str->Option Value}(n:h.Ns1 dx mA):∃ od,h.get? dx=some od/\∀ name,PySem.W.lookIn name od=some (mA name):=by
 obtain ⟨o,es,ep,ho,hd,hk,_,hm⟩:=n;refine ⟨o,ho,fun name=>?_⟩;have e:=hm name;unfold nsFind findBy at e;rw [<- Array.find?_toList] at e;unfold PySem.W.lookIn;rw [hd]
 dsimp only
 split
 ·rename_i y q
  rw [q] at e;exact congrArg some e
 ·rename_i q
  rw [q] at e;have a:es.toList.any (·.refKey)=false:=by
   rw [List.any_eq_false];intro y hy;obtain ⟨z,t,hkey⟩:=hk y (Array.mem_toList_iff.mp hy);simp [DictEntry.refKey,hkey]
  have a':¬ es.toList.any (·.refKey)=true:=by rw [a];exact qae
  rw [if_neg a'];exact congrArg some e
theorem ObjM.look{h:Heap}{x dx C:Addr}{mA:Str->Option Value}(I:ObjM h x dx C mA):∃ od,PySem.W.InstAt h x (qbi C dx) C (some od)/\∀ name,PySem.W.lookIn name od=some (mA name):=
 let ⟨od,ho,hl⟩:=aiu I.ns
 ⟨od,⟨I.obj,rfl,rfl,ho⟩,hl⟩
section
variable {prog:Program} {w:World} {A:Around} {E:Value->Shared->Prop} {s:Shared} {K:PySem.W.Frag} {x dx C f:Addr} {mA:Str->Option Value} {name:Str} {v:Value}
theorem aly{expr:Bool}{Q:Value->Shared->Prop}(X:K.In s.heap)(I:ObjM s.heap x dx C mA)(hg:qbK K C name=true)(hh:PySem.W.hasDictIn K C=true)(ha:qaz K (.ref C) name=some none)(hv:mA name=some v)(hv':PySem.W.handedIn v=true)(h:Q v { s with toks:=s.toks+1 }) :
  wpAny (model prog w) A (getAttr (.ref x) name expr) Q E s:=by
 obtain ⟨od,J,hl⟩:=I.look;exact PySem.W.get_value X J (PySem.W.plainGet_of hg).1 (PySem.W.findObj_own hh ha rfl (by rw [hl,hv])) hv' h
theorem ajU{pl:Sem Bool}{Q:Value×List Value->Shared->Prop}(X:K.In s.heap)(I:ObjM s.heap x dx C mA)(hg:qbK K C name=true)(hf:qaz K (.ref C) name=some (some (.ref f)))(ht:qby K (.ref f)=true)(hv:mA name=none)(h:Q (.ref f,[.ref x]) s) :
  wpAny (model prog w) A (getMethod (.ref x) name pl) Q E s:=by
 obtain ⟨od,J,hl⟩:=I.look;exact PySem.W.method_fn X J (PySem.W.plainGet_of hg).1 (PySem.W.plainGet_of hg).2 hf (beq_iff_eq.mp ht) (by show (PySem.W.lookIn name od).map (·.isSome)=some false;rw [hl,hv];rfl) h
theorem alz{ns:List Str}{Q:Unit->Shared->Prop}(X:K.In s.heap)(I:ObjM s.heap x dx C mA)(hs:qaz K (.ref C) "__setattr__"=some (some (.builtin "object.__setattr__")))(hp:PySem.W.plainOver K C=true)(ht:PySem.W.takerIn K C name=some none)(hh:PySem.W.hasDictIn K C=true)(hw:PySem.Within mA ns)(hsz:ns.length<=sizeLine)(h:∀ h',ObjM h' x dx C (fun y=>if y=name then some v else mA y)->Heap.SameBut dx s.heap h'->Q () { s with heap:=h',toks:=s.toks+2 }) :
  wpAny (model prog w) A (setAttr (.ref x) name v) Q E s:=by
 obtain ⟨od,J,hl⟩:=I.look;refine PySem.W.set_plain X J hs (PySem.W.osa_open (s:={ s with toks:=s.toks+1 }) (r:=none) X J hp ht fun b=>?_);obtain ⟨cd,hc,hd'⟩:=PySem.W.any_some hh;have hx:s.heap.get? x=some ⟨.ref C,some dx,.plain,#[]⟩:=I.obj;refine wpAny_bind (wpAny_pure (wpAny_bind (wpAny_bind (wpAny_loadPart hx (wpAny_bind (PySem.W.Looks.here (s:={ s with toks:=s.toks+1 }) (PySem.W.looks_clsIn X hc) ?_))))));rw [hd'];refine wpAny_pure (a:=some dx) (wpAny_bind (wpAny_pure (wpAny_bind ?_)));refine wpAny_nsSet1 (s:={ s with toks:=s.toks+1 }) I.ns fun h' hn2 hs2=>?_
 obtain ⟨oD,esD,epD,hoD,hdD,hcD⟩:=hn2.count (PySem.Within.cons name v hw);refine wpAny_bind (wpAny_lookBehind hoD (by rw [hdD];exact pastItsLine_dict (qan hcD (by rw [qad];omega))) ?_);exact wpAny_pure (h _ ⟨(hs2.2 _ (Ne.symm I.ne)).trans I.obj,hn2,I.ne⟩ hs2)
theorem ajV{R:Result->Shared->Prop}{vs:List Value}{kw:List (Str×Value)}(X:K.In s.heap)(hm:PySem.W.makesIn K C=true)(hi:qaz K (.ref C) "__init__"=some (some (.ref f)))(hf:PySem.W.typeIn K (.ref f)=some (.type "function"))(h:codeAny (model prog w) (A.under (.builtin "type.__call__" ⟨.ref C::vs,kw⟩)) (.call (.ref f) ⟨.ref (s.heap.objs.size+1)::vs,kw⟩) (PySem.W.InitBack (s.heap.objs.size+1) R)
   { s with heap:=(s.heap.push qb1).push (qbi C s.heap.objs.size) }) :
  codeAny (model prog w) A (.call (.ref C) ⟨vs,kw⟩) R s:=by
 obtain ⟨hh,g,d,t,os⟩:=s;exact PySem.W.make_core (PySem.W.makes_of X hm) (PySem.W.looks_findIn X hi) (fun self=>PySem.W.bind_fn X self hf) (.inl rfl) h
end
noncomputable def putF (f:Str) (v:V):List (Str×V)->List (Str×V)
 | []=>[(f,v)]
 | (g,x)::r=>if g=f then (g,v)::r else (g,x)::putF f v r
theorem aan(f g:Str)(v:V):∀ fs:List (Str×V),(putF f v fs).lookup g=if g=f then some v else fs.lookup g
 | []=>by
  show List.lookup g [(f,v)]=_
  by_cases h:g=f
  ·have hb:(g==f)=true:=beq_iff_eq.mpr h;simp only [List.lookup,hb,if_pos h]
  ·have hb:(g==f)=false:=beq_eq_false_iff_ne.mpr h;simp only [List.lookup,hb,if_neg h]
 | (k,x)::r=>by
  have ih:=aan f g v r;rw [show putF f v ((k,x)::r)=(if k=f then (k,v)::r else (k,x)::putF f v r) from rfl]
  by_cases hk:k=f
  ·rw [if_pos hk]
   by_cases h:g=k
   ·have hb:(g==k)=true:=beq_iff_eq.mpr h;simp only [List.lookup,hb,if_pos (h.trans hk)]
   ·have hb:(g==k)=false:=beq_eq_false_iff_ne.mpr h;simp only [List.lookup,hb,if_neg (fun e:g=f=>h (e.trans hk.symm))]
  ·rw [if_neg hk]
   by_cases h:g=k
   ·have hb:(g==k)=true:=beq_iff_eq.mpr h;simp only [List.lookup,hb,if_neg (fun e:g=f=>hk (h.symm.trans e))]
   ·have hb:(g==k)=false:=beq_eq_false_iff_ne.mpr h;simp only [List.lookup,hb];exact ih
theorem adY(f:Str)(v:V):∀ fs:List (Str×V),f∈(putF f v fs).map (·.1)/\∀ g,g∈fs.map (·.1)->g∈(putF f v fs).map (·.1)
 | []=>⟨by simp [putF],fun g h=>by simp at h⟩
 | (k,x)::r=>by
  obtain ⟨i1,i2⟩:=adY f v r;rw [show putF f v ((k,x)::r)=(if k=f then (k,v)::r else (k,x)::putF f v r) from rfl]
  by_cases hk:k=f
  ·rw [if_pos hk];subst hk;exact ⟨by simp,fun g h=>by simpa using h⟩
  ·rw [if_neg hk];refine ⟨?_,fun g h=>?_⟩
   ·rw [qak];exact qa9 _ i1
   ·rw [qak] at h ⊢
    rcases qaa.mp h with e | e
    ·exact qaa.mpr (.inl e)
    ·exact qa9 _ (i2 g e)
theorem ac6(f:Str)(v:V):∀ fs:List (Str×V),(putF f v fs).length<=fs.length+1
 | []=>by simp [putF]
 | (k,x)::r=>by
  have ih:=ac6 f v r;rw [show putF f v ((k,x)::r)=(if k=f then (k,v)::r else (k,x)::putF f v r) from rfl]
  by_cases hk:k=f
  ·rw [if_pos hk,qad,qad];omega
  ·rw [if_neg hk,qad,qad];omega
theorem uaj{v:V}{o:Option Value}(r:RelO (some v) o):∃ u,o=some u/\RelV v u:=by
 cases o with
 | none=>exact (show False from r).elim
 | some u=>exact ⟨u,rfl,r⟩
theorem RelO.none_of{o:Option Value}(r:RelO none o):o=none:=by
 cases o with
 | none=>rfl
 | some u=>exact (show False from r).elim
theorem aiv{v:V}{u:Value}(r:RelV v u):PySem.W.handedIn u=true:=by
 cases v with
 | non=>cases (show u=Value.none from r);rfl
 | bl b=>cases (show u=Value.bool b from r);rfl
 | int i=>obtain ⟨t,e⟩:=(show ∃ t,u=Value.int i t from r);cases e;rfl
 | str x=>obtain ⟨t,e⟩:=(show ∃ t,u=Value.str x t from r);cases e;rfl
 | byt b=>obtain ⟨t,e⟩:=(show ∃ t,u=Value.bytes b t from r);cases e;rfl
 | flt b=>obtain ⟨t,e⟩:=(show ∃ t,u=Value.float b t from r);cases e;rfl
 | ref a=>cases (show u=Value.ref a from r);rfl
 | ty n=>cases (show u=Value.type n from r);rfl
section
variable {P:Program} {w:World} {H H':Hp} {h h':Heap} {a C dx:Addr} {fs fs':List (Str×V)}
theorem ae3(hok:HOk P w H h)(e:H a=some (.ins C dx fs)):∃ mA,ObjM h a dx C mA/\(∀ f,RelO (fs.lookup f) (mA f))/\PySem.Within mA (fs.map (·.1))/\fs.length<=1000/\H dx=some (.own a):=by
 obtain ⟨d,z,ne,ob,mA,n,r,q⟩:=(show ObjOk P w H h a (.ins C dx fs) from hok a _ e)
 exact ⟨mA,⟨ob,n,ne⟩,r,q,z,d⟩
end
structure Cls(K:PySem.W.Frag)(C:Addr):Prop where
 pg:qbK K C Str.empty=true
 hd:PySem.W.hasDictIn K C=true
 po:PySem.W.plainOver K C=true
 sa:qaz K (.ref C) "__setattr__"=some (some (.builtin "object.__setattr__"))
theorem Cls.get{K:PySem.W.Frag}{C:Addr}(c:Cls K C)(f:Str):qbK K C f=true:=c.pg
noncomputable def NoAttr (K:PySem.W.Frag) (C:Addr) (f:Str):Prop:=qaz K (.ref C) f=some none
theorem NoAttr.taker{K:PySem.W.Frag}{C:Addr}{f:Str}(n:NoAttr K C f):PySem.W.takerIn K C f=some none:=by
 unfold PySem.W.takerIn;rw [show qaz K (.ref C) f=some none from n];rfl
structure Meth(K:PySem.W.Frag)(C:Addr)(m:Str)(f:Addr):Prop where
 at_:qaz K (.ref C) m=some (some (.ref f))
 fn:qby K (.ref f)=true
 kp:qaL K (.ref f)=true
section
variable {X:Cx} {pins:List (Addr×Obj)} {σ:St} {H:Hp} {s:Shared} {a C dx:Addr} {fs:List (Str×V)} {f:Str} {v:V} {A:Around} {E:Value->Shared->Prop}
theorem ahF{b:Bool}{Q:Value->Shared->Prop}(I:Inv X pins σ H s)(e:H a=some (.ins C dx fs))(c:Cls X.K C)(n:NoAttr X.K C f)(l:fs.lookup f=some v)(h:∀ u s',Inv X pins σ H s'->RelV v u->Q u s'):wpAny (model X.prog X.w) A (getAttr (.ref a) f b) Q E s:=by
 obtain ⟨mA,O,r,_,_,_⟩:=ae3 I.hok e;obtain ⟨u,hu,ru⟩:=uaj (v:=v) (o:=mA f) (by rw [<- l];exact r f);exact aly I.kIn O (c.get f) c.hd n hu (aiv ru) (h u _ (I.tok _) ru)
theorem aeF{m:Str}{g:Addr}{pl:Sem Bool}{Q:Value×List Value->Shared->Prop}(I:Inv X pins σ H s)(e:H a=some (.ins C dx fs))(c:Cls X.K C)(k:Meth X.K C m g)(l:fs.lookup m=none)(h:Q (.ref g,[.ref a]) s):wpAny (model X.prog X.w) A (getMethod (.ref a) m pl) Q E s:=by
 obtain ⟨mA,O,r,_,_,_⟩:=ae3 I.hok e;have hn:mA m=none:=RelO.none_of (by rw [<- l];exact r m);exact ajU I.kIn O (c.get m) k.at_ k.fn hn h
theorem ahG{y:V}{u:Value}{Q:Unit->Shared->Prop}(I:Inv X pins σ H s)(e:H a=some (.ins C dx fs))(c:Cls X.K C)(n:NoAttr X.K C f)(hl:fs.length<1000)(ry:RelV y u)(h:∀ s',Inv X pins σ (upd H a (.ins C dx (putF f y fs))) s'->Q () s'):wpAny (model X.prog X.w) A (setAttr (.ref a) f u) Q E s:=by
 obtain ⟨mA,O,r,wi,_,ho⟩:=ae3 I.hok e;have hz:(fs.map (·.1)).length<=sizeLine:=by rw [qa0,sizeLine_eq];omega
 refine alz I.kIn O c.sa c.po n.taker c.hd wi hz fun h' O' sb=>h _ ?_
 have hd:∃ o,h'.get? dx=some o:=let ⟨o,_,_,e',_⟩:=O'.ns;⟨o,e'⟩
 refine I.write (x:=a) (e:=dx) (by rw [e];exact True.intro) (.inr ho) (fun b q hb z=>(sb.2 b hb).trans z) hd ?_;refine ⟨by rw [aah O.ne];exact ho,?_,O.ne,O'.obj,_,O'.ns,fun g=>?_,fun g hg=>?_⟩
 ·have:=ac6 f y fs;omega
 ·show RelO ((putF f y fs).lookup g) (if g=f then some u else mA g);rw [aan]
  by_cases q:g=f
  ·rw [if_pos q,if_pos q];exact ry
  ·rw [if_neg q,if_neg q];exact r g
 ·by_cases q:g=f
  ·rw [q];exact (adY f y fs).1
  ·refine (adY f y fs).2 g (wi g fun z=>hg ?_);show (if g=f then some u else mA g)=none;rw [if_neg q];exact z
theorem Inv.made(I:Inv X pins σ H s):Inv X pins σ (upd (upd H s.heap.objs.size (.own (s.heap.objs.size+1))) (s.heap.objs.size+1) (.ins C s.heap.objs.size []))
  { s with heap:=(s.heap.push qb1).push (qbi C s.heap.objs.size) }:=by
 have e1:(s.heap.push qb1).get? s.heap.objs.size=some qb1:=Heap.get?_push_size s.heap rfl;have e2:((s.heap.push qb1).push (qbi C s.heap.objs.size)).get? (s.heap.objs.size+1)=some (qbi C s.heap.objs.size):=by
  have:=Heap.get?_push_size (s.heap.push qb1) (o:=qbi C s.heap.objs.size) rfl
  rwa [Heap.size_push] at this
 have e3:(s.heap.push qb1).Ns s.heap.objs.size (fun _=>none):=⟨qb1,#[],_,e1,rfl,(fun e he=>absurd he (by simp)),fun _=>rfl⟩
 have I1:=I.laid (a:=s.heap.objs.size) (o:=.own (s.heap.objs.size+1)) (h':=s.heap.push qb1) (t':=s.toks) (fun b u q=>Heap.get?_push_of_some _ q) (qa2 _) ⟨_,e1⟩;refine I1.laid (a:=s.heap.objs.size+1) (o:=.ins C s.heap.objs.size []) (t':=s.toks) (fun b u q=>Heap.get?_push_of_some _ q) (Nat.le_of_eq (Heap.size_push _ _)) ?_;have ne:s.heap.objs.size≠s.heap.objs.size+1:=qaw (Nat.lt_succ_self _);refine ⟨by rw [aah ne,aaa],qar _,ne,e2,fun _=>none,(Heap.Ns1.of_empty e3).at fun o q=>Heap.get?_push_of_some _ q,fun _=>True.intro,fun y hy=>absurd rfl hy⟩
theorem alA{prog:Program}{w:World}{env:Env}{e:Expr}{f:Str}{pos:Pos}{s:Shared}{Q:Value->Shared->Prop}(hb:attributeBase e f env (eval e env)=eval e env)(h:wpAny (model prog w) A (eval e env) (fun o s₁=>wpAny (model prog w) A (getAttr o f true) Q E s₁) E s):wpAny (model prog w) A (eval (.Attribute e f pos) env) Q E s:=
 Attribute_any_ h (by rw [arm_eval_Attribute,hb])
end
noncomputable def tFld (K:PySem.W.Frag) (ta:TE) (f:Str):TE:=fun σ H Q=>ta σ H fun x H1=>∃ a C dx fs v,x=.ref a/\H1 a=some (.ins C dx fs)/\Cls K C/\NoAttr K C f/\fs.lookup f=some v/\Q v H1
noncomputable def sFld (K:PySem.W.Frag) (ta tv:TE) (f:Str):TS:=fun D σ H=>tv σ H fun y H1=>ta σ H1 fun x H2=>∃ a C dx fs,x=.ref a/\H2 a=some (.ins C dx fs)/\Cls K C/\NoAttr K C f/\fs.length<1000/\
 D.nx σ (upd H2 a (.ins C dx (putF f y fs)))
noncomputable def InOp (X:Cx) (op:Operator) (rd:V->V->Hp->VK->Prop):Prop:=
 ∀ (pins:List (Addr×Obj)) (s:Shared) (σ:St) (H:Hp) (x y:V) (u v:Value) (Q:VK),Inv X pins σ H s->RelV x u->RelV y v->rd x y H Q->wpAny (model X.prog X.w) X.A (inplaceOp op u v) (EP X pins σ Q) X.xe s
section
variable {X:Cx} {o e value:Expr} {f:Str} {pos pos' tpos:Pos} {ta tv:TE}
theorem ank(he:PE X e ta)(hb:attributeBase e f X.env (eval e X.env)=eval e X.env):PE X (.Attribute e f pos) (tFld X.K ta f):=by
 intro pins s σ H Q I h;refine alA hb (thn (he pins s σ H _ I h) fun u s1 ⟨x,H1,I1,rx,a,C,dx,fs,v,ex,ea,c,n,l,q⟩=>?_);subst ex;obtain rfl:u=Value.ref a:=rx;exact ahF I1 ea c n l fun u' s2 I2 ru=>⟨v,H1,I2,ru,q⟩
theorem anl(ha:PE X o ta)(hv:PE X value tv)(hs:swapsWith value (some (.Attribute o f pos')) pos.line X.env=pure false):PS X (.Assign [.Attribute o f pos'] value pos) (sFld X.K ta tv f):=by
 intro pins s σ H D I h;refine plainObj_wpAny_Assign_Attribute (thn (hv pins s σ H _ I h) fun u s1 ⟨y,H1,I1,ry,q⟩=>thn (ha pins s1 σ H1 _ I1 q) fun ov s2 ⟨x,H2,I2,rx,a,C,dx,fs,ex,ea,c,n,l,q2⟩=>?_) hs;subst ex;obtain rfl:ov=Value.ref a:=rx;exact ahG I2 ea c n l ry fun s3 I3=>⟨σ,_,I3,q2⟩
noncomputable def rAdd:V->V->Hp->VK->Prop:=fun x y H Q=>∃ i j,x=.int i/\y=.int j/\Q (.int (i+j)) H
noncomputable def rSub:V->V->Hp->VK->Prop:=fun x y H Q=>∃ i j,x=.int i/\y=.int j/\Q (.int (i-j)) H
theorem anm:InOp X .Add rAdd:=by
 rintro pins s σ H x y u v Q I rx ry ⟨i,j,rfl,rfl,q⟩;obtain ⟨t,rfl⟩:=(show ∃ t,u=Value.int i t from rx)
 obtain ⟨t',rfl⟩:=(show ∃ t',v=Value.int j t' from ry)
 exact PyProof.Rows.iadd_int ⟨.int (i+j),H,I.tok _,⟨_,rfl⟩,q⟩
theorem ann:InOp X .Sub rSub:=by
 rintro pins s σ H x y u v Q I rx ry ⟨i,j,rfl,rfl,q⟩;obtain ⟨t,rfl⟩:=(show ∃ t,u=Value.int i t from rx)
 obtain ⟨t',rfl⟩:=(show ∃ t',v=Value.int j t' from ry)
 exact PyProof.Rows.isub_int ⟨.int (i-j),H,I.tok _,⟨_,rfl⟩,q⟩
end
section
variable {X:Cx} {pins:List (Addr×Obj)} {σ:St} {H:Hp} {s:Shared} {A:Around} {E:Value->Shared->Prop} {Q:Value->Shared->Prop} {c:Value} {b:Bool}
inductive TyOf (K:PySem.W.Frag) (H:Hp):V->Value->Prop where
 | non:TyOf K H .non (.type "NoneType")
 | bl (x:Bool):TyOf K H (.bl x) (.type "bool")
 | int (i:Int):TyOf K H (.int i) (.type "int")
 | str (x:Str):TyOf K H (.str x) (.type "str")
 | flt (x:UInt64):TyOf K H (.flt x) (.type "float")
 | lst {a:Addr} {xs:List V} (e:H a=some (.lst xs)):TyOf K H (.ref a) (.type "list")
 | frz {a:Addr} {o:Obj} {xs:List V} (e:H a=some (.frz o (.lst xs))):TyOf K H (.ref a) (.type "list")
 | tup {a:Addr} {xs:List V} (e:H a=some (.tup xs)):TyOf K H (.ref a) (.type "tuple")
 | dK {a:Addr} {kvs:List (Key×V)} (e:H a=some (.dK kvs)):TyOf K H (.ref a) (.type "dict")
 | dT {a:Addr} {kvs:List (List Key×V)} (e:H a=some (.dT kvs)):TyOf K H (.ref a) (.type "dict")
 | ins {a C dx:Addr} {fs:List (Str×V)} (e:H a=some (.ins C dx fs)) (cl:Cls K C) (ha:qaz K (.ref C) "__class__"=some (some (.builtin "object.__class__")))
   (hn:PySem.W.specialIn K (.builtin "object.__class__") "__get__"=some (some (.builtin "getset_descriptor.__get__"))) (htk:PySem.W.takesIn K (.builtin "object.__class__")=some true)
   (hm:PySem.W.mroIn K C (.type "object")=some true):TyOf K H (.ref a) (.ref C)
theorem aiw{x:V}{u t:Value}(I:Inv X pins σ H s)(rx:RelV x u)(ty:TyOf X.K H x t)(e:PySem.W.kitOne X.K t c=some b)(h:∀ tk,Q (.bool b) { s with toks:=tk }) :
  wpAny (model X.prog X.w) A (call (.builtin "isinstance") [u,c]) Q E s:=by
 cases ty with
 | non=>cases (show u=Value.none from rx);exact qaY PySem.W.kitx_none I.kIn True.intro e (fun z=>nomatch z) h
 | bl y=>cases (show u=Value.bool y from rx);exact qaY PySem.W.kitx_bool I.kIn True.intro e (fun z=>nomatch z) h
 | int i=>obtain ⟨t,q⟩:=(show ∃ t,u=Value.int i t from rx);cases q;exact qaY PySem.W.kitx_int I.kIn True.intro e (fun z=>nomatch z) h
 | str y=>obtain ⟨t,q⟩:=(show ∃ t,u=Value.str y t from rx);cases q;exact qaY PySem.W.kitx_str I.kIn True.intro e (fun z=>nomatch z) h
 | flt y=>obtain ⟨t,q⟩:=(show ∃ t,u=Value.float y t from rx);cases q;exact qaY PySem.W.kitx_float I.kIn True.intro e (fun z=>nomatch z) h
 | @lst a xs ea=>
  cases (show u=Value.ref a from rx)
  obtain ⟨_,_,n,_,h1⟩:=(show ObjOk X.prog X.w H s.heap a (.lst xs) from I.hok a _ ea)
  exact qaY PySem.W.kitx_list I.kIn ⟨_,h1,rfl⟩ e (fun z=>nomatch z) h
 | @frz a ob xs ea=>
  cases (show u=Value.ref a from rx)
  obtain ⟨_,_,_,n,_,h1⟩:=(show ObjOk X.prog X.w H s.heap a (.frz ob (.lst xs)) from I.hok a _ ea)
  exact qaY PySem.W.kitx_list I.kIn ⟨_,h1,rfl⟩ e (fun z=>nomatch z) h
 | @tup a xs ea=>
  cases (show u=Value.ref a from rx)
  obtain ⟨_,_,_,p⟩:=(show ObjOk X.prog X.w H s.heap a (.tup xs) from I.hok a _ ea)
  obtain ⟨o,h1,h2,_⟩:=p;exact qaY PySem.W.kitx_tuple I.kIn ⟨o,h1,h2⟩ e (fun z=>nomatch z) h
 | @dK a kvs ea=>
  cases (show u=Value.ref a from rx)
  obtain ⟨_,_,vs,_,p⟩:=(show ObjOk X.prog X.w H s.heap a (.dK kvs) from I.hok a _ ea)
  obtain ⟨o,es,ep,h1,h2,_⟩:=p;exact qaY PySem.W.kitx_dict I.kIn ⟨o,h1,h2.1⟩ e (fun z=>nomatch z) h
 | @dT a kvs ea=>
  cases (show u=Value.ref a from rx)
  obtain ⟨_,_,xs,_,o,es,ep,h1,h2,_⟩:=(show ObjOk X.prog X.w H s.heap a (.dT kvs) from I.hok a _ ea)
  exact qaY PySem.W.kitx_dict I.kIn ⟨o,h1,h2.1⟩ e (fun z=>nomatch z) h
 | @ins a C dx fs ea cl ha hn htk hm=>
  cases (show u=Value.ref a from rx)
  obtain ⟨mA,O,_⟩:=ae3 I.hok ea;obtain ⟨od,J,_⟩:=O.look;exact qaY (PySem.W.kitx_own (cl.get _) cl.hd ha hn htk hm) I.kIn J e (fun z=>nomatch z) h
end
end L2
namespace L2
open PySem PySem.Spec PyProof.Rows
structure Room(k:Nat)(A:Around):Prop where
 hd:A.handled=none
 dp:A.depth+3*k+5<recursionLimit
 un:A.units+16*k+200<cLine
 gd:A.guards=some []
theorem Room.mono{j k:Nat}{A:Around}(r:Room k A)(h:j<=k):Room j A:=⟨r.hd,by have:=r.dp;omega,by have:=r.un;omega,r.gd⟩
theorem Room.deeper{k:Nat}{A:Around}(r:Room (k+1) A)(env:Env):Room k (A.deeper env):=
 ⟨r.hd,by have:=r.dp;show A.depth+1+3*k+5<_;omega,by have:=r.un;show A.units+3+16*k+200<_;omega,r.gd⟩
theorem Room.in1{k:Nat}{A:Around}(r:Room (k+1) A):Room k A.in1:=
 ⟨r.hd,by have:=r.dp;show A.depth+3*k+5<_;omega,by have:=r.un;show A.units+1+16*k+200<_;omega,r.gd⟩
theorem ahH{A:Around}{C:Addr}{us:List Value}{kw:List (Str×Value)} : (A.under (.builtin "type.__call__" ⟨.ref C::us,kw⟩)).depth=A.depth+1:=by
 first | rfl | simp [Around.under,Code.weight,Code.isCreation,Code.isGuard,Code.isCaller,Code.frames,Code.isFrame,guardIds]
theorem ahI{A:Around}{C:Addr}{us:List Value}{kw:List (Str×Value)} : (A.under (.builtin "type.__call__" ⟨.ref C::us,kw⟩)).units=A.units+1:=by
 first | rfl | simp [Around.under,Code.cUnits,Code.frames,Code.isFrame]
theorem Room.make{k:Nat}{A:Around}(r:Room (k+1) A)(C:Addr)(us:List Value)(kw:List (Str×Value)):Room k (A.under (.builtin "type.__call__" ⟨.ref C::us,kw⟩)):=
 ⟨r.hd,by have:=r.dp;rw [ahH];omega,by have:=r.un;rw [ahI];omega,r.gd⟩
theorem Room.depth{k:Nat}{A:Around}(r:Room k A):A.depth<recursionLimit:=by have:=r.dp;omega
theorem Room.units{k:Nat}{A:Around}(r:Room k A):A.units+64<cLine:=by have:=r.un;omega
noncomputable def tNil:TA:=fun _ H Q=>Q [] H
noncomputable def tCons (ta:TE) (tr:TA):TA:=fun σ H Q=>ta σ H fun x H1=>tr σ H1 fun xs H2=>Q (x::xs) H2
section
variable {X:Cx} {e:Expr} {es:List Expr} {te:TE} {t:TA} {pos:Pos}
theorem ano:PA X [] tNil:=fun _ _ _ _ H Q I h=>Calls.spliced_nil ⟨[],H,I,.nil,h⟩
theorem alB(ha:PE X e te)(hr:PA X es t)(hs:starEach (e::es) X.env=(false,eval e X.env)::starEach es X.env:=by rfl):PA X (e::es) (tCons te t):=by
 intro pos pins s σ H Q I h;rw [hs];show wpAny _ _ (spliced ((false,eval e X.env)::backTo pos (starEach es X.env))) _ _ s;refine Calls.spliced_cons (thn (ha pins s σ H _ I h) fun u s1 ⟨x,H1,I1,r1,q1⟩=>?_);exact thn (hr pos pins s1 σ H1 _ I1 q1) fun us s2 ⟨xs,H2,I2,r2,q2⟩=>⟨x::xs,H2,I2,.cons r1 r2,q2⟩
noncomputable def tTup (t:TA):TE:=fun σ H Q=>t σ H fun xs H1=>xs.length<=sizeLine/\∀ p,H1 p=none->Q (.ref p) (upd H1 p (.tup xs))
noncomputable def tLst (t:TA):TE:=fun σ H Q=>t σ H fun xs H1=>xs.length<=sizeLine/\∀ p,H1 p=none->Q (.ref p) (upd H1 p (.lst xs))
theorem anp{x1}(h:PA X es t):PE X (.Tuple es x1 pos) (tTup t):=by
 intro pins s σ H Q I hq;refine wpAny_Tuple_spliced (thn (h pos pins s σ H _ I hq) fun us s1 ⟨xs,H1,I1,r,z,q⟩=>⟨by rw [<- r.length];exact z,?_⟩);have hf:H1 s1.heap.objs.size=none:=I1.hok.fresh (qa2 _);refine ⟨.ref s1.heap.objs.size,upd H1 s1.heap.objs.size (.tup xs),I1.laid (t':=s1.toks) (fun b u e=>Heap.get?_push_of_some _ e) (qa2 _) ?_,rfl,q _ hf⟩;exact ⟨z,us,r,⟨_,Heap.get?_push_size _ rfl,rfl,_,rfl⟩⟩
theorem anq(h:PA X es t):PE X (.List es pos) (tLst t):=by
 intro pins s σ H Q I hq;refine wpAny_List_spliced (thn (h pos pins s σ H _ I hq) fun us s1 ⟨xs,H1,I1,r,z,q⟩=>⟨by rw [<- r.length];exact z,?_⟩);have hf:H1 s1.heap.objs.size=none:=I1.hok.fresh (qa2 _);refine ⟨.ref s1.heap.objs.size,upd H1 s1.heap.objs.size (.lst xs),I1.laid (t':=s1.toks) (fun b u e=>Heap.get?_push_of_some _ e) (qa2 _) ?_,rfl,q _ hf⟩;exact ⟨z,us,0,r,Heap.get?_push_size _ rfl⟩
end
noncomputable abbrev Sp:=List V->Hp->VK->XK->Prop
noncomputable abbrev CXT:=List Env->Hp->Shared->XK->Value->Shared->Prop
structure Env0(P:Program)(w:World)(K:PySem.W.Frag)(mg:Str->Option Value)(base:Heap)(A:Around)(outer:List Env)(s:Shared)(H:Hp):Prop where
 frames:A.frames=some outer
 mod:Mod K mg base
 bs:∀ b o,base.get? b=some o->s.heap.get? b=some o/\H b=none
 bsz:base.objs.size<=s.heap.objs.size
 funs:s.heap.FunFrames base outer
 frf:∀ b∈frs outer,H b=none
 hok:HOk P w H s.heap
 bare:AllBare s.gens
noncomputable def CE (outer:List Env) (P:Program) (w:World) (H:Hp) (s:Shared) (Q:VK) (u:Value) (s':Shared):Prop:=
 ∃ v H',s'.os=s.os/\AllBare s'.gens/\Un (frs outer) [] H H' s.heap s'.heap/\HOk P w H' s'.heap/\RelV v u/\Q v H'
noncomputable def CR (CX:CXT) (outer:List Env) (P:Program) (w:World) (H:Hp) (s:Shared) (Q:VK) (E:XK) (r:Result) (s':Shared):Prop:=
 match r with
 | .ok (.ret u)=>CE outer P w H s Q u s'
 | .ok _=>False
 | .error e=>CX outer H s E e s'
structure FnOk(P:Program)(w:World)(K:PySem.W.Frag)(mg:Str->Option Value)(base:Heap)(CX:CXT)(k:Nat)(f:Addr)(fd:FuncData)(ps:List Str)(sp:Sp):Prop where
 len:∀ vs H Q E,sp vs H Q E->vs.length=ps.length
 run:∀ (A:Around) (outer:List Env) (s:Shared) (H:Hp) (args:Args) (us:List Value) (vs:List V) (Q:VK) (E:XK),Room k A->Env0 P w K mg base A outer s H->BindsTo s fd args (ps.zip us)->Vals vs us->sp vs H Q E->
  codeAny (model P w) A (.call (.ref f) args) (CR CX outer P w H s Q E) s
theorem FnOk.mono{P:Program}{w:World}{K:PySem.W.Frag}{mg:Str->Option Value}{base:Heap}{CX:CXT}{j k:Nat}{f:Addr}{fd:FuncData}{ps:List Str}{sp:Sp}(F:FnOk P w K mg base CX j f fd ps sp)(h:j<=k) :
  FnOk P w K mg base CX k f fd ps sp:=⟨F.len,fun A outer s H args us vs Q E hr=>F.run A outer s H args us vs Q E (hr.mono h)⟩
theorem FnOk.imp{P:Program}{w:World}{K:PySem.W.Frag}{mg:Str->Option Value}{base:Heap}{CX:CXT}{k:Nat}{f:Addr}{fd:FuncData}{ps:List Str}{sp sp':Sp}(F:FnOk P w K mg base CX k f fd ps sp)(h:∀ vs H Q E,sp' vs H Q E->sp vs H Q E):FnOk P w K mg base CX k f fd ps sp':=
 ⟨fun vs H Q E q=>F.len vs H Q E (h _ _ _ _ q),fun A outer s H args us vs Q E hr he hb hv hs=>F.run A outer s H args us vs Q E hr he hb hv (h _ _ _ _ hs)⟩
theorem Env0.make{P:Program}{w:World}{K:PySem.W.Frag}{mg:Str->Option Value}{base:Heap}{A:Around}{outer:List Env}{s:Shared}{H:Hp}(e:Env0 P w K mg base A outer s H)(C:Addr)(us:List Value)(kw:List (Str×Value)) :
  Env0 P w K mg base (A.under (.builtin "type.__call__" ⟨.ref C::us,kw⟩)) outer s H:=⟨by first | exact e.frames | (simpa [Around.under,Code.envs,Code.isFrame,pushEnvs] using e.frames),e.mod,e.bs,e.bsz,e.funs,e.frf,e.hok,e.bare⟩
theorem Env0.in1{P:Program}{w:World}{K:PySem.W.Frag}{mg:Str->Option Value}{base:Heap}{A:Around}{outer:List Env}{s:Shared}{H:Hp}(e:Env0 P w K mg base A outer s H) :
  Env0 P w K mg base A.in1 outer s H:=⟨e.frames,e.mod,e.bs,e.bsz,e.funs,e.frf,e.hok,e.bare⟩
section
variable {X:Cx} {pins:List (Addr×Obj)} {σ:St} {H:Hp} {s s':Shared}
theorem Inv.env0(I:Inv X pins σ H s):Env0 X.prog X.w X.K X.mg X.base X.A X.stack s H:=
 ⟨I.ok.frames,I.ok.mod,I.bs,qan I.ok.bsz I.sz,I.stack,I.stkFree,I.hok,I.bare⟩
theorem Inv.after{Q:VK}{u:Value}(I:Inv X pins σ H s)(h:CE X.stack X.prog X.w H s Q u s'):EP X pins σ Q u s':=by
 obtain ⟨v,H',os,bare,un,hok,r,q⟩:=h;obtain ⟨hh,g,d,t,os'⟩:=s';obtain rfl:os'=s.os:=os;exact ⟨v,H',I.call (h':=hh) (g':=g) (d':=d) (t':=t) (ch:=[]) un hok bare (fun b z=>absurd z (by simp)),r,q⟩
end
noncomputable def tCall (sp:Sp) (dvs:List V) (E:XK) (t:TA):TE:=fun σ H Q=>t σ H fun vs H1=>sp (vs++dvs) H1 Q E
noncomputable def tMeth (C:Addr) (m:Str) (sp:Sp) (dvs:List V) (E:XK) (ta:TE) (t:TA):TE:=fun σ H Q=>ta σ H fun x H1=>∃ a dx fs,x=.ref a/\H1 a=some (.ins C dx fs)/\fs.lookup m=none/\
 t σ H1 fun vs H2=>sp (x::(vs++dvs)) H2 Q E
noncomputable def tMake (C:Addr) (sp:Sp) (dvs:List V) (E:XK) (t:TA):TE:=fun σ H Q=>t σ H fun vs H1=>∀ x dx,H1 x=none->H1 dx=none->dx≠x->
 sp (.ref x::(vs++dvs)) (upd (upd H1 dx (.own x)) x (.ins C dx [])) (fun v H2=>v=.non/\Q (.ref x) H2) E
noncomputable def Binds (K:PySem.W.Frag) (fd:FuncData) (ps:List Str) (ds:List Value):Prop:=
 ∀ (s:Shared) (us:List Value),K.In s.heap->(us++ds).length=ps.length->BindsTo s fd ⟨us,[]⟩ (ps.zip (us++ds))
theorem Binds.all{K:PySem.W.Frag}{fd:FuncData}{ps:List Str}(h:∀ us:List Value,us.length=ps.length->bindArgs fd ⟨us,[]⟩=pure (ps.zip us)):Binds K fd ps []:=fun s us _ hl=>by
 rw [qah] at hl ⊢
 exact .of_eq (h us hl)
noncomputable def adZ (CX:CXT) (X:Cx) (E:XK):Prop:=∀ (pins:List (Addr×Obj)) (σ:St) (H:Hp) (s:Shared) (e:Value) (s':Shared),Inv X pins σ H s->CX X.stack H s E e s'->X.xe e s'
section
variable {X:Cx} {CX:CXT} {k:Nat} {f C:Addr} {fd:FuncData} {ps:List Str} {sp:Sp} {dvs:List V} {ds:List Value} {E:XK} {x m:Str} {p pos apos:Pos} {e o:Expr} {es:List Expr} {ta:TE} {t:TA}
theorem aix{pins:List (Addr×Obj)}{σ:St}{H:Hp}{s:Shared}{Q:VK}{us:List Value}{vs:List V}(F:FnOk X.prog X.w X.K X.mg X.base CX k f fd ps sp)(hr:Room k X.A)(hb:Binds X.K fd ps ds)(hd:Vals dvs ds)(hx:adZ CX X E)(I:Inv X pins σ H s)(r:Vals vs us)(h:sp (vs++dvs) H Q E):wpAny (model X.prog X.w) X.A (call (.ref f) us) (EP X pins σ Q) X.xe s:=by
 have r2:Vals (vs++dvs) (us++ds):=r.append hd;have hl:(us++ds).length=ps.length:=by rw [<- r2.length];exact F.len _ _ _ _ h
 refine wpAny_call (codeAny_mono (F.run X.A X.stack s H ⟨us,[]⟩ (us++ds) (vs++dvs) Q E hr I.env0 (hb s us I.kIn hl) r2 h) fun r s' hq=>?_)
 cases r with
 | error e=>exact hx pins σ H s e s' I hq
 | ok fl=>
  cases fl with
  | ret u=>exact I.after hq
  | next=>exact False.elim hq
  | brk=>exact False.elim hq
  | cont=>exact False.elim hq
theorem alC(F:FnOk X.prog X.w X.K X.mg X.base CX k f fd ps sp)(hr:Room k X.A)(hg:Gl X x)(hm:X.mg x=some (.ref f))(hk:qaL X.K (.ref f)=true)(hb:Binds X.K fd ps ds)(hd:Vals dvs ds)(hx:adZ CX X E)(ha:PA X (e::es) t)(hdb:(x==("__debug__" : Str))=false:=by decide)(he:starEach (e::es) X.env=(false,eval e X.env)::starEach es X.env:=by rfl)(hpl:(backTo pos (starEach es X.env)).any (·.1)=false:=by rfl) :
  PE X (.Call (.Name x p) (e::es) [] pos) (tCall sp dvs E t):=by
 intro pins s σ H Q I h;refine wpAny_Call_Name_kw (ags I hg hm ?_ hdb);refine PySem.W.callWith_K (h₀:=X.base) I.ok.mod.kin hk (thn (ha pos pins s σ H _ I h) fun us s1 ⟨vs,H1,I1,r,q⟩=>⟨I1.kIn,?_⟩) he hpl;exact aix F hr hb hd hx I1 r q
theorem alD{pl:Sem Bool}(he:PE X o ta)(c:Cls X.K C)(hm:Meth X.K C m f)(F:FnOk X.prog X.w X.K X.mg X.base CX k f fd ps sp)(hr:Room k X.A)(hb:Binds X.K fd ps ds)(hd:Vals dvs ds)(hx:adZ CX X E)(ha:PA X (e::es) t)(hst:starEach (e::es) X.env=(false,eval e X.env)::starEach es X.env:=by rfl)(hpl:(backTo pos (starEach es X.env)).any (·.1)=false:=by rfl)(ht:eval (.Call (.Attribute o m apos) (e::es) [] pos) X.env=(do
   let ov <- eval o X.env
   standAt apos.atName
   let (f,first) <- holding [ov] (getMethod ov m pl)
   callWith pos f first (backTo pos (starEach (e::es) X.env)) (backToKw pos (keywordEach [] X.env))):=by rfl) :
  PE X (.Call (.Attribute o m apos) (e::es) [] pos) (tMeth C m sp dvs E ta t):=by
 intro pins s σ H Q I h;refine PySem.W.methodCall_KW (pl:=pl) (thn (he pins s σ H _ I h) fun u s1 ⟨x,H1,I1,rx,a,dx,fs,ex,ea,l,q⟩=>?_) ht;subst ex;obtain rfl:u=Value.ref a:=rx;refine aeF I1 ea c hm l ?_;refine PySem.W.callWith_K (first:=[.ref a]) (h₀:=X.base) I.ok.mod.kin hm.kp (thn (ha pos pins s1 σ H1 _ I1 q) fun us s2 ⟨vs,H2,I2,r,q2⟩=>⟨I2.kIn,?_⟩) hst hpl;exact aix (us:=.ref a::us) (vs:=.ref a::vs) F hr hb hd hx I2 (.cons rfl r) q2
theorem ajW{pl:Sem Bool}(he:PE X o ta)(c:Cls X.K C)(hm:Meth X.K C m f)(F:FnOk X.prog X.w X.K X.mg X.base CX k f fd ps sp)(hr:Room k X.A)(hb:Binds X.K fd ps ds)(hd:Vals dvs ds)(hx:adZ CX X E)(ht:eval (.Call (.Attribute o m apos) [] [] pos) X.env=(do
   let ov <- eval o X.env
   standAt apos.atName
   let (f,first) <- holding [ov] (getMethod ov m pl)
   callWith pos f first (backTo pos (starEach [] X.env)) (backToKw pos (keywordEach [] X.env))):=by rfl) :
  PE X (.Call (.Attribute o m apos) [] [] pos) (tMeth C m sp dvs E ta tNil):=by
 intro pins s σ H Q I h;refine PySem.W.methodCall_KW (pl:=pl) (thn (he pins s σ H _ I h) fun u s1 ⟨x,H1,I1,rx,a,dx,fs,ex,ea,l,q⟩=>?_) ht;subst ex;obtain rfl:u=Value.ref a:=rx;refine aeF I1 ea c hm l ?_;exact PySem.W.callWith_K0 (first:=[.ref a]) I1.kIn hm.kp (aix (us:=[.ref a]) (vs:=[.ref a]) F hr hb hd hx I1 (.cons rfl .nil) q)
structure Mk(K:PySem.W.Frag)(C f:Addr):Prop where
 makes:PySem.W.makesIn K C=true
 init:qaz K (.ref C) "__init__"=some (some (.ref f))
 fn:qby K (.ref f)=true
 kp:qaL K (.ref C)=true
theorem ajX{pins:List (Addr×Obj)}{σ:St}{H:Hp}{s:Shared}{Q:VK}{us:List Value}{vs:List V}(M:Mk X.K C f)(F:FnOk X.prog X.w X.K X.mg X.base CX k f fd ps sp)(hr:Room (k+1) X.A)(hb:Binds X.K fd ps ds)(hd:Vals dvs ds)(hx:adZ CX X E)(I:Inv X pins σ H s)(r:Vals vs us)(h:∀ x dx,H x=none->H dx=none->dx≠x->sp (.ref x::(vs++dvs)) (upd (upd H dx (.own x)) x (.ins C dx [])) (fun v H2=>v=.non/\Q (.ref x) H2) E) :
  wpAny (model X.prog X.w) X.A (call (.ref C) us) (EP X pins σ Q) X.xe s:=by
 have hq:=h (s.heap.objs.size+1) s.heap.objs.size (I.hok.fresh (Nat.le_succ _)) (I.hok.fresh (qa2 _)) (qaw (Nat.lt_succ_self _));have I2:=Inv.made (C:=C) I;have r2:Vals (V.ref (s.heap.objs.size+1)::(vs++dvs)) (Value.ref (s.heap.objs.size+1)::(us++ds)):=.cons rfl (r.append hd);have hl:(Value.ref (s.heap.objs.size+1)::us++ds).length=ps.length:=by
  have e:=r2.length;rw [F.len _ _ _ _ hq] at e;exact e.symm
 refine wpAny_call (ajV (f:=f) I.kIn M.makes M.init (beq_iff_eq.mp M.fn) (codeAny_mono (F.run _ X.stack _ _ ⟨Value.ref (s.heap.objs.size+1)::us,[]⟩ (Value.ref (s.heap.objs.size+1)::(us++ds)) _ _ E (hr.make C us [])
  (I2.env0.make C us []) (hb _ (Value.ref (s.heap.objs.size+1)::us) I2.kIn hl) r2 hq) fun r s' hq'=>?_))
 cases r with
 | error e=>exact hx pins σ _ _ e s' I2 hq'
 | ok fl=>
  cases fl with
  | ret u=>
   obtain ⟨v,H',I3,rv,ev,q3⟩:=I2.after hq';subst ev;exact ⟨rv,⟨V.ref (s.heap.objs.size+1),H',I3,rfl,q3⟩⟩
  | next=>exact False.elim hq'
  | brk=>exact False.elim hq'
  | cont=>exact False.elim hq'
theorem alE(M:Mk X.K C f)(F:FnOk X.prog X.w X.K X.mg X.base CX k f fd ps sp)(hr:Room (k+1) X.A)(hg:Gl X x)(hm:X.mg x=some (.ref C))(hb:Binds X.K fd ps ds)(hd:Vals dvs ds)(hx:adZ CX X E)(ha:PA X (e::es) t)(hdb:(x==("__debug__" : Str))=false:=by decide)(he:starEach (e::es) X.env=(false,eval e X.env)::starEach es X.env:=by rfl)(hpl:(backTo pos (starEach es X.env)).any (·.1)=false:=by rfl) :
  PE X (.Call (.Name x p) (e::es) [] pos) (tMake C sp dvs E t):=by
 intro pins s σ H Q I h;refine wpAny_Call_Name_kw (ags I hg hm ?_ hdb);refine PySem.W.callWith_K (h₀:=X.base) I.ok.mod.kin M.kp (thn (ha pos pins s σ H _ I h) fun us s1 ⟨vs,H1,I1,r,q⟩=>⟨I1.kIn,?_⟩) he hpl;exact ajX M F hr hb hd hx I1 r q
end
noncomputable def PK (X:Cx) (kws:List Keyword) (t:TA):Prop:=
 ∀ (pos:Pos) (pins:List (Addr×Obj)) (s:Shared) (σ:St) (H:Hp) (Q:List V->Hp->Prop),Inv X pins σ H s->t σ H Q->wpAny (model X.prog X.w) X.A (evalAll ((backToKw pos (keywordEach kws X.env)).map (·.2))) (AP X pins σ Q) X.xe s
section
variable {X:Cx} {CX:CXT} {k:Nat} {f C:Addr} {fd:FuncData} {ps ks:List Str} {sp:Sp} {E:XK} {x m:Str} {p pos apos kpos:Pos} {e o:Expr} {es:List Expr} {kws:List Keyword} {te ta:TE} {t tk:TA} {nm:Option Str}
theorem anr:PK X [] tNil:=fun _ _ _ _ H Q I h=>wpAny_evalAll_nil ⟨[],H,I,.nil,h⟩
theorem alF(ha:PE X e te)(hr:PK X kws t):PK X (⟨nm,e,kpos⟩::kws) (tCons te t):=by
 intro pos pins s σ H Q I h;show wpAny _ _ (evalAll ((do let v <- eval e X.env;standAt pos;pure v)::(backToKw pos (keywordEach kws X.env)).map (·.2))) _ _ s;refine wpAny_evalAll_cons (wpAny_bind (thn (ha pins s σ H _ I h) fun u s1 ⟨x,H1,I1,r1,q1⟩=>wpAny_bind (wpAny_standAt (wpAny_pure ?_))));exact thn (hr pos pins s1 σ H1 _ I1 q1) fun us s2 ⟨xs,H2,I2,r2,q2⟩=>⟨x::xs,H2,I2,.cons r1 r2,q2⟩
variable {g:List Value->List Value->List Value} {gV:List V->List V->List V}
end
structure FnScope(N P:List Str)(sc:Scope):Prop where
 kind:sc.kind=.function
 co:sc.isCoroutine=false
 gen:sc.isGenerator=false
 nd:N.Nodup
 pre:N.take P.length=P
 par:∀ x∈P,sc.names.lookup x=some .local\/sc.names.lookup x=some .cell
 nofree:∀ y∈sc.names,y.2≠.free
theorem afz{kindOf:Str->Option NameKind}{x:Str} : ∀ {binds:List (Str×Value)} {m:Str->Option Value},(∀ v,(x,v)∉binds)->bindL kindOf binds m x=m x
 | [],_,_=>rfl
 | (n,v)::r,m,h=>by
  unfold bindL;rw [afz fun w hw=>h w (qa9 _ hw)]
  split
  ·have:x≠n:=by rintro rfl;exact h v qac
   simp [this]
  ·rfl
theorem afA{kindOf:Str->Option NameKind}{x:Str} : ∀ {binds:List (Str×Value)} {m:Str->Option Value},(∀ v,(x,v)∉binds)->bindC kindOf binds m x=m x
 | [],_,_=>rfl
 | (n,v)::r,m,h=>by
  unfold bindC;rw [afA fun w hw=>h w (qa9 _ hw)]
  split
  ·rfl
  ·have:x≠n:=by rintro rfl;exact h v qac
   simp [this]
theorem afB{kindOf:Str->Option NameKind}{x:Str}{v:Value} : ∀ {P:List Str} {vs:List Value} {i:Nat} {m:Str->Option Value},P.Nodup->P[i]?=some x->vs[i]?=some v->kindOf x=some .local->
  bindL kindOf (P.zip vs) m x=some v
 | [],_,_,_,_,h,_,_=>by simp at h
 | _::_,[],_,_,_,_,h,_=>by simp at h
 | p::P,w::vs,0,m,nd,h1,h2,hk=>by
  simp at h1 h2;subst h1;subst h2;show bindL kindOf ((p,w)::P.zip vs) m p=_;unfold bindL;rw [afz fun v hv=>(qax.mp nd).1 (List.of_mem_zip hv).1,if_pos hk]
  simp
 | p::P,w::vs,i+1,m,nd,h1,h2,hk=>by
  show bindL kindOf ((p,w)::P.zip vs) m x=_;unfold bindL;exact afB (i:=i) (qax.mp nd).2 (by simpa using h1) (by simpa using h2) hk
theorem afC{kindOf:Str->Option NameKind}{x:Str}{v:Value} : ∀ {P:List Str} {vs:List Value} {i:Nat} {m:Str->Option Value},P.Nodup->P[i]?=some x->vs[i]?=some v->kindOf x≠some .local->
  bindC kindOf (P.zip vs) m x=some v
 | [],_,_,_,_,h,_,_=>by simp at h
 | _::_,[],_,_,_,_,h,_=>by simp at h
 | p::P,w::vs,0,m,nd,h1,h2,hk=>by
  simp at h1 h2;subst h1;subst h2;show bindC kindOf ((p,w)::P.zip vs) m p=_;unfold bindC;rw [afA fun v hv=>(qax.mp nd).1 (List.of_mem_zip hv).1,if_neg hk]
  simp
 | p::P,w::vs,i+1,m,nd,h1,h2,hk=>by
  show bindC kindOf ((p,w)::P.zip vs) m x=_;unfold bindC;exact afC (i:=i) (qax.mp nd).2 (by simpa using h1) (by simpa using h2) hk
noncomputable def start (N:List Str) (vs:List V):St:=vs.map some++qaH (N.length-vs.length) none
noncomputable def cxOf (CX:CXT) (P:Program) (w:World) (K:PySem.W.Frag) (mg:Str->Option Value) (base:Heap) (N:List Str) (qual:Str) (scope:Scope) (f:Addr) (cd:Value) (A:Around) (outer:List Env) (s:Shared) (H:Hp) (E:XK):Cx where
 prog:=P
 w:=w
 K:=K
 mg:=mg
 base:=base
 A:=A.deeper (envOfC qual scope s.heap.objs.size f cd)
 N:=N
 s₀:=s
 H₀:=H
 env:=envOfC qual scope s.heap.objs.size f cd
 outer:=outer
 stack:=envOfC qual scope s.heap.objs.size f cd::outer
 ex:=[]
 calm:=true
 fn:=fun _=>true
 pn:=[]
 xe:=fun e s'=>wpAny (model P w) (A.deeper (envOfC qual scope s.heap.objs.size f cd)) (leaving (envOfC qual scope s.heap.objs.size f cd) e) (fun _ s''=>CX outer H s E e s'') (fun e' s''=>CX outer H s E e' s'') s'
theorem ag3{sc:Scope}{n:Nat}{x:Str}(h:sc.names.lookup x=some .cell):∃ c,(cellsFrom n sc.names []).lookup x=some c:=by
 have q:=PySem.W.cellsFrom_some sc.names n [] (.inl h);exact Option.isSome_iff_exists.mp q
theorem aiy{CX:CXT}{P:Program}{w:World}{K:PySem.W.Frag}{mg:Str->Option Value}{base:Heap}{N ps:List Str}{qual:Str}{scope:Scope}{f:Addr}{cd:Value}{A:Around}{outer:List Env}{s s1:Shared}{H:Hp}{E:XK}{us:List Value}{vs:List V}(S:FnScope N ps scope)(hd:A.handled=none)(e0:Env0 P w K mg base A outer s H)(hl:vs.length=ps.length)(r:Vals vs us)(x:InCallC s s.heap.objs.size (bindL (envOfC qual scope s.heap.objs.size f cd).kindOf (ps.zip us) fun _=>none) (cellsFrom (s.heap.objs.size+1) scope.names []) (bindC (envOfC qual scope s.heap.objs.size f cd).kindOf (ps.zip us) fun _=>none) s1) :
  Inv (cxOf CX P w K mg base N qual scope f cd A outer s H E) [] (start N vs) H s1:=by
 have hpl:ps.length<=N.length:=by have:=congrArg qb5 S.pre;rw [qaf] at this;omega
 obtain ⟨h1,tk,rfl,hk⟩:=x.done;have noA:∀ b:Addr,b∉(cxOf CX P w K mg base N qual scope f cd A outer s H E).ex:=fun b z=>absurd (show b∈([]:List Addr) from z) (by simp)
 refine ⟨⟨e0.mod,S.kind,rfl,rfl,qa2 _,fun y z c h1 h2=>?_,fun y hy=>?_,fun y c _ h=>?_,fun _=>hd,Around.frames_deeper e0.frames,.inr ⟨rfl,rfl⟩,fun b z=>absurd z (noA b),e0.bs,e0.bsz,fun b _ _=>noA b,fun b z=>absurd z (noA b),e0.funs,e0.frf⟩,
  rfl,e0.bare,Un.kept hk,⟨_,x.toInCall.ns,fun i y v h1 h2 h3=>?_⟩,fun y c h=>⟨_,x.cell y c h⟩,e0.hok.fresh (qa2 _),fun y c h=>?_,fun p hp=>absurd (show p∈([]:List (Addr×Obj)) from hp) (by simp),e0.hok.kept hk,?_⟩
 ·exact name_of_addr x.apart (PySem.mem_of_lookup h1) (PySem.mem_of_lookup h2)
 ·have hy:scope.names.lookup y=some .cell\/scope.names.lookup y=some .free:=hy
  rcases hy with hy | hy
  ·exact ag3 hy
  ·exact absurd rfl (S.nofree _ (PySem.mem_of_lookup hy))
 ·exact Nat.le_of_lt (x.above y c (PySem.mem_of_lookup h))
 ·have hi:i<vs.length:=by
   unfold start at h2
   by_cases hi:i<vs.length
   ·exact hi
   ·rw [qaR (by simpa using hi)] at h2;rw [List.getElem?_replicate] at h2
    split at h2 <;> cases h2
  have ha:vs[i]?=some v:=by
   unfold start at h2;rw [qb2 (by simpa using hi),qaC] at h2;cases e:vs[i]? with
   | none=>rw [e] at h2;cases h2
   | some a=>rw [e] at h2;cases h2;rfl
  obtain ⟨u,hu,rv⟩:=r.get ha;have hp:ps[i]?=some y:=by
   rw [<- S.pre,List.getElem?_take_of_lt (by omega)];exact h1
  have ndP:ps.Nodup:=by rw [<- S.pre];exact S.nd.sublist (List.take_sublist _ _)
  refine ⟨u,rv,?_⟩
  rcases S.par y (qab hp) with k | k
  ·exact .inl ⟨k,afB ndP hp hu k⟩
  ·obtain ⟨c,e⟩:=ag3 (n:=s.heap.objs.size+1) k;refine .inr ⟨.inl k,c,e,?_⟩;have q:=x.cell y c e;rw [afC ndP hp hu (by show scope.names.lookup y≠_;rw [k];decide)] at q;exact q
 ·exact e0.hok.fresh (Nat.le_of_lt (x.above y c (PySem.mem_of_lookup h)))
 ·unfold start;show _=N.length;rw [qa1,qa0,List.length_replicate];omega
theorem fn_of{CX:CXT}{P:Program}{w:World}{K:PySem.W.Frag}{mg:Str->Option Value}{base:Heap}{k:Nat}{f:Addr}{name qual:Str}{params:Arguments}{body:List Stmt}{scope:Scope}{dV kV doc pm cdv ct oc:Value}{an od:Option Addr}{osl:Array (Option Value)}{N ps:List Str}{sp:Sp}(lk:K.lookup f=some ⟨oc,od,.func (qaM name qual params body scope dV kV doc pm an cdv ct),osl⟩)(hcd:qaS K cdv qual=true)(S:FnScope N ps scope)(len:∀ vs H Q E,sp vs H Q E->vs.length=ps.length)(hbody:∀ (A:Around) (outer:List Env) (s:Shared) (H:Hp) (vs:List V) (Q:VK) (E:XK),Room k (A.deeper (envOfC qual scope s.heap.objs.size f cdv))->sp vs H Q E->
   ∃ t,PSs (cxOf CX P w K mg base N qual scope f cdv A outer s H E) body t/\t { nx:=fun _ H'=>Q .non H',rt:=Q } (start N vs) H) :
  FnOk P w K mg base CX (k+1) f (qaM name qual params body scope dV kV doc pm an cdv ct) ps sp:=by
 refine ⟨len,fun A outer s H args us vs Q E hr e0 hb r hsp=>?_⟩;have hl:=len _ _ _ _ hsp;have KX:K.In s.heap:=e0.mod.kin.keeps fun b o e=>(e0.bs b o e).1
 have lim:s.heap.NoLimit:=e0.mod.nolimit.keeps fun b o e=>(e0.bs b o e).1
 have hkind:∀ y∈ps.zip us,scope.names.lookup y.1=some .local\/(scope.names.lookup y.1=some .cell/\((cellsFrom (s.heap.objs.size+1) scope.names []).lookup y.1).isSome=true):=fun ⟨n,v⟩ hy=>by
  rcases S.par n (List.of_mem_zip hy).1 with q | q
  ·exact .inl q
  ·exact .inr ⟨q,PySem.W.cellsFrom_some _ _ _ (.inl q)⟩
 refine codeAny_call_function hr.depth (KX _ _ lk) rfl S.co S.gen rfl (PySem.W.codeRec_of KX hcd) (hb _ _ _ _ ?_);refine wpAny_newFunctionEnv_cells S.kind hkind fun env he s1 x=>?_
 subst he;refine ⟨lim.keeps x.toInCall.keep,codeAny_func ?_⟩;obtain ⟨t,ht,hq⟩:=hbody A outer s H vs Q E (hr.deeper _) hsp;have I:Inv (cxOf CX P w K mg base N qual scope f cdv A outer s H E) [] (start N vs) H s1:=aiy S hr.hd e0 hl r x;refine wpAny_mono (ht [] s1 (start N vs) H _ I hq) (fun fl s' hs=>?_) fun e s' hs=>hs
 have fin:∀ {σ':St} {H':Hp} {v:V} {u:Value},Inv (cxOf CX P w K mg base N qual scope f cdv A outer s H E) [] σ' H' s'->RelV v u->Q v H'->CE outer P w H s Q u s':=
  fun {σ' H' v u} J rv q=>⟨v,H',J.os,J.bare,J.base,J.hok,rv,q⟩
 cases fl with
 | ret u=>
  obtain ⟨v,σ',H',J,rv,q⟩:=hs;exact fin J rv q
 | next=>
  obtain ⟨σ',H',J,q⟩:=hs;exact fin (v:=V.non) (u:=Value.none) J rfl q
 | brk=>
  obtain ⟨_,_,_,q⟩:=hs;exact False.elim q
 | cont=>
  obtain ⟨_,_,_,q⟩:=hs;exact False.elim q
end L2
section
variable {C a b dx f fa it ll md ml r sl:PySem.Addr}{dvs vs xs ys:List L2.V}{Q:L2.VK}{cd ct oc pm u v vl vu:PySem.Value}{ck i j k m n t' x1:Nat}{items:Array PySem.Value}{ns:List Int}{its us:List PySem.Value}{pins:List (PySem.Addr×PySem.Obj)}{σ:L2.St}{H H' H0 H1 H2 H3 H₃:L2.Hp}{s s₃:PySem.Shared}{p q qual z:PySem.Str}{A:PySem.Around}{x y:L2.V}{c:L2.TT}{h h':PySem.Heap}{L M N N' S acc bad g' ks line loose ls ms ps qs ts zs:List PySem.Str}{K:PySem.W.Frag}{mg:PySem.Str->Option PySem.Value}{fd:PySem.FuncData}{sp:L2.Sp}{X:L2.Cx}{st:PySem.Stmt}{kvs:List (L2.Key×L2.V)}{prog:PySem.Program}{E:PySem.Value->PySem.Shared->Prop}{ixs pre:List Nat}{elt iter target tg:PySem.Expr}{elts ifs:List PySem.Expr}{g:L2.TG}{te tl:L2.TE}{fp l₁ rs:List PySem.Addr}{cpos kpos spos tpos:PySem.Pos}{calm fg neg:Bool}{an od:Option PySem.Addr}{tb:L2.TS}{D:L2.Ends}{lo:Int}{o:PySem.Obj}{ta:L2.TA}{ss:Array (Option PySem.Value)}
namespace L2
open PySem PySem.Spec PyProof.Rows
section
variable {X:Cx} {x:Str} {p pos:Pos} {e:Expr} {es:List Expr} {t:TA} {id T:String} {r:List V->Hp->VK->Prop}
noncomputable def tCB (r:List V->Hp->VK->Prop) (t:TA):TE:=fun σ H Q=>t σ H fun vs H1=>r vs H1 Q
theorem ajY(hc:CallR X (.builtin id) r)(hg:Gl X x)(hm:X.mg x=none)(hv:bootBuiltins x=some (.builtin id))(ha:PA X (e::es) t)(hn:x≠"__name__":=by decide)(hdb:(x==("__debug__" : Str))=false:=by decide)(he:starEach (e::es) X.env=(false,eval e X.env)::starEach es X.env:=by rfl)(hpl:(backTo pos (starEach es X.env)).any (·.1)=false:=by rfl):PE X (.Call (.Name x p) (e::es) [] pos) (tCB r t):=by
 intro pins s σ H Q I h;refine wpAny_Call_Name_kw (adA I hg hm hv ?_ hn hdb);exact PyProof.Rows.callWith_builtin1 (thn (ha pos pins s σ H _ I h) fun us s1 ⟨vs,H1,I1,r1,q1⟩=>hc pins s1 σ H1 vs us Q I1 r1 q1) he hpl
theorem aiz(hc:CallR X (.type T) r)(hg:Gl X x)(hm:X.mg x=none)(hv:bootBuiltins x=some (.type T))(ha:PA X (e::es) t)(hn:x≠"__name__":=by decide)(hdb:(x==("__debug__" : Str))=false:=by decide)(he:starEach (e::es) X.env=(false,eval e X.env)::starEach es X.env:=by rfl)(hpl:(backTo pos (starEach es X.env)).any (·.1)=false:=by rfl):PE X (.Call (.Name x p) (e::es) [] pos) (tCB r t):=by
 intro pins s σ H Q I h;refine wpAny_Call_Name_kw (adA I hg hm hv ?_ hn hdb);exact PyProof.Rows.callWith_type1 (thn (ha pos pins s σ H _ I h) fun us s1 ⟨vs,H1,I1,r1,q1⟩=>hc pins s1 σ H1 vs us Q I1 r1 q1) he hpl
end
end L2
namespace HT
open PySem PyProof.Rows
section
open PySem.SeqAt
open PySem.AutoSeq1 (wpAny_loadPart')
open PySem.MeetsSeq PySem.MeetsSeq2 PySem.MeetsSeq3
end
section
variable {prog:Program} {w:World} {A:Around} {E:Value->Shared->Prop} {s:Shared}
theorem cat_tup{t:Addr}{vs ws:List Value}{Q:Value->Shared->Prop}(ht:IsTup s.heap t vs.toArray)(hb:IsTup s.heap b ws.toArray)(hv:vs≠[])(h1:ws=[]->Q (.ref t) s)(h2:ws≠[]->Q (.ref s.heap.objs.size) { s with heap:=s.heap.push { cls:=.type "tuple",data:=.seq (vs++ws).toArray } })(hsz:vs.length+ws.length<=sizeLine):wpAny (model prog w) A (binaryOp .Add (.ref t) (.ref b)) Q E s:=by
 obtain ⟨⟨cls,dd,data,sl⟩,ho,hc,n,hd⟩:=id ht;obtain ⟨⟨cls2,dd2,data2,sl2⟩,ho2,hc2,n2,hd2⟩:=id hb;simp only at hc hd hc2 hd2;subst hc hd hc2 hd2;have e:vs.toArray++ws.toArray=(vs++ws).toArray:=by simp
 by_cases hw:ws=[]
 ·exact concat_meets ⟨_,ho,rfl⟩ ⟨_,ho2,rfl⟩ noFill_tuple_add seq_tuple_add PySem.F.slot_tuple_add PySem.F.entry_tuple_add (PySem.F.args_tuple_add_2 _ _)
   (tuple_addW1 t b vs.toArray ws.toArray n n2 dd dd2 sl sl2 (by simpa using hv) (by simp [hw])) ⟨ho,ho2,h1 hw⟩
 ·refine concat_meets ⟨_,ho,rfl⟩ ⟨_,ho2,rfl⟩ noFill_tuple_add seq_tuple_add PySem.F.slot_tuple_add PySem.F.entry_tuple_add (PySem.F.args_tuple_add_2 _ _)
   (tuple_addW2 t b vs.toArray ws.toArray n n2 dd dd2 sl sl2 (by simpa using hv) (by simpa using hw) (by rw [qai,qai];exact hsz)) ⟨ho,ho2,?_⟩
  rw [e];exact h2 hw
noncomputable def sIx (n d:Nat):Option Int->Nat
 | none=>d
 | some v=>if v<0 then (v+(n:Int)).toNat else min v.toNat n
theorem sIx_nat(n d k:Nat):sIx n d (some (k:Int))=min k n:=by
 show (if (k:Int)<0 then ((k:Int)+(n:Int)).toNat else min (k:Int).toNat n)=min k n;rw [if_neg (by omega),Int.toNat_natCast]
theorem sIx_le(n d:Nat)(hd:d<=n)(o:Option Int):sIx n d o<=n:=by
 cases o with
 | none=>exact hd
 | some v=>
  show (if v<0 then (v+(n:Int)).toNat else min v.toNat n)<=n
  by_cases hv:v<0
  ·rw [if_pos hv];omega
  ·rw [if_neg hv];exact Nat.min_le_right _ _
theorem clip_eq(v:Int)(n d:Nat):(if v<0 then max (v+(n:Int)) 0 else min v (n:Int))=((sIx n d (some v):Nat):Int):=by
 show (if v<0 then max (v+(n:Int)) 0 else min v (n:Int))=(((if v<0 then (v+(n:Int)).toNat else min v.toNat n):Nat):Int)
 by_cases hv:v<0
 ·simp only [if_pos hv];omega
 ·simp only [if_neg hv];omega
theorem ahJ(lo hi:Option Int)(n:Nat):Builtin.Slice.sliceAdjust lo hi 1 (n:Int)=(((sIx n 0 lo:Nat):Int),((sIx n n hi:Nat):Int)):=by
 have h1:¬ ((1:Int)<0):=by omega
 unfold Builtin.Slice.sliceAdjust;simp only [h1,if_false];refine Prod.ext ?_ ?_
 ·cases lo with
  | none=>rfl
  | some v=>exact clip_eq v n 0
 ·cases hi with
  | none=>rfl
  | some v=>exact clip_eq v n n
theorem ahK(i j:Nat):Builtin.Slice.slicePlaces (i:Int) (j:Int) 1=j-i:=by
 unfold Builtin.Slice.slicePlaces;have h1:(1:Int) > 0:=by omega
 simp only [h1,if_true,Int.ediv_one]
 split <;> omega
theorem aeG{o:Option Int}{Q:Option Int->Shared->Prop}(p:IsPart v o)(h:Q o s):wpAny (model prog w) A (Builtin.Slice.slicePartIndex v) Q E s:=by
 cases p with
 | none=>exact slicePart_none h
 | int i t=>exact slicePart_int h
theorem sliceApplied_gen{lo hi:Option Int}{Q:Int×Int×Nat->Shared->Prop}(hs:s.heap.IsSliceOf sl vl vu .none)(pl:IsPart vl lo)(pu:IsPart vu hi)(h:Q (((sIx n 0 lo:Nat):Int),1,sIx n n hi-sIx n 0 lo) s):wpAny (model prog w) A (Builtin.Slice.sliceApplied (.ref sl) (pure (n:Int))) Q E s:=by
 obtain ⟨os,hos,hcs,hds⟩:=id hs;unfold Builtin.Slice.sliceApplied Builtin.Slice.sliceFields;refine wpAny_bind (wpAny_bind (wpAny_field hos hds (x:=vl) rfl (wpAny_bind (wpAny_field hos hds (x:=vu) rfl (wpAny_bind (wpAny_field hos hds (x:=.none) rfl (wpAny_pure ?_)))))));refine wpAny_bind (slicePart_none ?_);show wpAny _ _ (if ((1:Int)==0)=true then _ else _) _ _ s;rw [if_neg (by decide)];refine wpAny_bind (aeG pl (wpAny_bind (aeG pu (wpAny_bind (wpAny_pure ?_)))));show wpAny _ _ (match Builtin.Slice.sliceAdjust lo hi 1 (n:Int) with | (lo,hi)=>pure (lo,(1:Int),Builtin.Slice.slicePlaces lo hi 1)) _ _ s;rw [ahJ lo hi n];show wpAny _ _ (pure (((sIx n 0 lo:Nat):Int),(1:Int),Builtin.Slice.slicePlaces ((sIx n 0 lo:Nat):Int) ((sIx n n hi:Nat):Int) 1)) _ _ s;rw [ahK];exact wpAny_pure h
theorem ajZ(xs:Array Value)(i k:Nat):((qbI k).filterMap fun (m:Nat)=>xs[((i:Int)+(m:Int)*1).toNat]?).toArray=((xs.toList.drop i).take k).toArray:=by
 have e:(fun (m:Nat)=>xs[((i:Int)+(m:Int)*1).toNat]?)=fun m=>xs[i+m]?:=by
  funext m
  have:((i:Int)+(m:Int)*1).toNat=i+m:=by omega
  rw [this]
 rw [e]
 have:=pick_run xs i k
 rw [List.filterMap_map] at this;have e2:((fun x=>xs[x]?)∘fun x=>i+x)=fun m=>xs[i+m]?:=rfl
 rw [e2] at this;rw [this]
theorem getItem_tuple_cut{t:Addr}{lo hi:Option Int}{Q:Value->Shared->Prop}(ht:IsTup s.heap t items)(hs:s.heap.IsSliceOf sl vl vu .none)(pl:IsPart vl lo)(pu:IsPart vu hi)(hw:¬ (sIx items.size 0 lo=0/\sIx items.size items.size hi=items.size))(h:Q (.ref s.heap.objs.size) { s with heap:=s.heap.push { cls:=.type "tuple",data:=.seq ((items.toList.drop (sIx items.size 0 lo)).take (sIx items.size items.size hi-sIx items.size 0 lo)).toArray } })(hsz:items.size<=sizeLine):wpAny (model prog w) A (getItem (.ref t) (.ref sl)) Q E s:=by
 have htake:sizeOk (.seq ((items.toList.drop (sIx items.size 0 lo)).take (sIx items.size items.size hi-sIx items.size 0 lo)).toArray):=by
  show ((items.toList.drop (sIx items.size 0 lo)).take (sIx items.size items.size hi-sIx items.size 0 lo)).toArray.size<=sizeLine;rw [qai,qaf,qaW,qba];omega
 have hj:sIx items.size items.size hi<=items.size:=sIx_le _ _ (qa2 _) hi;obtain ⟨os,hos,hcs,hds⟩:=id hs;have hTs:s.TypeIs (.ref sl) "slice":=⟨os,hos,hcs⟩
 unfold getItem
 try with_reducible refine wpAny_holding ?_
 first | refine wpAny_bind (wpAny_pure ?_) | skip
 refine wpAny_bind (wpAny_sequenceKey ht.typeIs (by decide) ?_);refine wpAny_bind (wpAny_callSpecial?_slot (name:=Str.ofString "__getitem__") ht.typeIs PyProof.Rows.slot_tuple_getitem
  (wpAny_call_entry PyProof.Rows.slot_tuple_getitem ht.typeIs entry_tuple_getitem ?_ (args_tuple_getitem _ _)))
 show wpAny _ _ (Builtin.Tuple.tupleItemsOf (.ref t) >>= _) _ _ s;refine wpAny_bind (tupleItemsOf_ ht ?_);refine wpAny_bind (wpAny_typeOf hTs ?_);rw [if_pos (by decide)];refine wpAny_bind (sliceApplied_gen hs pl pu ?_);have hno:¬ ((((sIx items.size 0 lo:Nat):Int)==0&&(1:Int)==1&&(sIx items.size items.size hi-sIx items.size 0 lo)==items.size)=true):=by
  intro q;rw [qav,qav] at q;have q1:((sIx items.size 0 lo:Nat):Int)=0:=eq_of_beq q.1.1;have q2:sIx items.size items.size hi-sIx items.size 0 lo=items.size:=eq_of_beq q.2;exact hw ⟨by omega,by omega⟩
 show wpAny _ _ (if (((sIx items.size 0 lo:Nat):Int)==0&&(1:Int)==1&&(sIx items.size items.size hi-sIx items.size 0 lo)==items.size)=true then _ else _) _ _ s;rw [if_neg hno,ajZ]
 first
  | exact wpAny_bind (m:=Builtin.Tuple.tupleExact _) (wpAny_newObj_type (wpAny_pure ⟨_,rfl,wpAny_pure h⟩) htake)
  | exact wpAny_bind (m:=Builtin.Tuple.tupleExact _) (wpAny_newObj_type (wpAny_bind (wpAny_pure (wpAny_pure ⟨_,rfl,wpAny_pure h⟩))) htake)
  | exact wpAny_bind (wpAny_bind (m:=Builtin.Tuple.tupleExact _) (wpAny_newObj_type (wpAny_pure (wpAny_pure ⟨_,rfl,wpAny_pure h⟩)) htake))
  | exact wpAny_bind (wpAny_bind (m:=Builtin.Tuple.tupleExact _) (wpAny_newObj_type (wpAny_pure ⟨_,rfl,wpAny_pure h⟩) htake))
end
end HT
namespace L2
open PySem PySem.Spec PyProof.Rows
noncomputable abbrev TO:=St->Hp->(Option Int->Hp->Prop)->Prop
noncomputable def PO (X:Cx) (e:Option Expr) (t:TO):Prop:=
 ∀ (pins:List (Addr×Obj)) (s:Shared) (σ:St) (H:Hp) (Q:Option Int->Hp->Prop),Inv X pins σ H s->t σ H Q->
  wpAny (model X.prog X.w) X.A (evalPart e X.env) (fun u s'=>∃ o H',Inv X pins σ H' s'/\IsPart u o/\Q o H') X.xe s
noncomputable def agt:TO:=fun _ H Q=>Q none H
noncomputable def tPart (t:TE):TO:=fun σ H Q=>t σ H fun x H1=>∃ i,x=.int i/\Q (some i) H1
theorem aeH : ∀ {us:List Value},Vals (ns.map V.int) us->IntsAre us ns:=by
 induction ns with
 | nil=>intro us r;rw [List.map_nil] at r;cases r;exact .nil
 | cons n ns ih=>
  intro us r;rw [qak] at r
  cases r with
  | cons r1 r2=>
   obtain ⟨t,e⟩:=r1;subst e;exact .cons n t (ih r2)
section
variable {X:Cx} {e:Expr} {te:TE} {lo hi:Option Expr} {tl th:TO} {pos p2:Pos}
theorem alG:PO X none agt:=by
 intro pins s σ H Q I h;rw [evalPart_none];exact wpAny_pure ⟨none,H,I,.none,h⟩
theorem alH(h:PE X e te):PO X (some e) (tPart te):=by
 intro pins s σ H Q I hw;rw [evalPart_some];refine thn (h pins s σ H _ I hw) fun u s1 ⟨x,H1,I1,r1,q1⟩=>?_
 obtain ⟨i,rfl,q⟩:=q1;obtain ⟨t,rfl⟩:=r1;exact ⟨some i,H1,I1,.int i t,q⟩
noncomputable def SlR (X:Cx) (r:V->Option Int->Option Int->Hp->VK->Prop):Prop:=
 ∀ (pins:List (Addr×Obj)) (s:Shared) (σ:St) (H:Hp) (x:V) (v vl vu:Value) (lo hi:Option Int) (sl:Addr) (Q:VK),Inv X pins σ H s->RelV x v->s.heap.IsSliceOf sl vl vu .none->IsPart vl lo->IsPart vu hi->r x lo hi H Q->
  ∃ T id,typeLookup (.type T) "__getitem__"=pure (some (.builtin id))/\s.TypeIs v T/\wpAny (model X.prog X.w) X.A (getItem v (.ref sl)) (EP X pins σ Q) X.xe s
theorem SlR.or{r r':V->Option Int->Option Int->Hp->VK->Prop}(h:SlR X r)(h':SlR X r'):SlR X (fun x lo hi H Q=>r x lo hi H Q\/r' x lo hi H Q):=by
 intro pins s σ H x v vl vu lo hi sl Q I rx hs pl pu q
 rcases q with q | q
 ·exact h pins s σ H x v vl vu lo hi sl Q I rx hs pl pu q
 ·exact h' pins s σ H x v vl vu lo hi sl Q I rx hs pl pu q
noncomputable def tSl (r:V->Option Int->Option Int->Hp->VK->Prop) (te:TE) (tl th:TO):TE:=fun σ H Q=>te σ H fun x H1=>tl σ H1 fun l H2=>th σ H2 fun u H3=>r x l u H3 Q
theorem aj0{r:V->Option Int->Option Int->Hp->VK->Prop}(hr:SlR X r)(he:PE X e te)(hl:PO X lo tl)(hu:PO X hi th):PE X (.Subscript e (.Slice lo hi none p2) pos) (tSl r te tl th):=by
 intro pins s σ H Q I h;refine Subscript_ (thn (he pins s σ H _ I h) fun v s1 ⟨x,H1,I1,r1,q1⟩=>?_);refine wpAny_Slice (thn (hl pins s1 σ H1 _ I1 q1) fun vl s2 ⟨l,H2,I2,pl,q2⟩=>thn (hu pins s2 σ H2 _ I2 q2) fun vu s3 ⟨u,H3,I3,pu,q3⟩=>?_);rw [evalPart_none];refine wpAny_pure ?_;have I4:Inv X pins σ H3 { s3 with heap:=s3.heap.push { cls:=.type "slice",data:=.fields #[vl,vu,.none] } }:=I3.kept (t':=s3.toks) fun b ob q=>Heap.get?_push_of_some _ q
 obtain ⟨T,id,hT,ht,hg⟩:=hr pins { s3 with heap:=s3.heap.push { cls:=.type "slice",data:=.fields #[vl,vu,.none] } } σ H3 x v vl vu l u s3.heap.objs.size Q I4 r1 (Heap.IsSliceOf.new ..) pl pu q3;show wpAny (model X.prog X.w) X.A (subscriptTail e (.Slice lo hi none p2) v (.ref s3.heap.objs.size)) (EP X pins σ Q) X.xe { s3 with heap:=s3.heap.push { cls:=.type "slice",data:=.fields #[vl,vu,.none] } };exact tail_any (ops:=[.ref s3.heap.objs.size,v]) ht hT hg (by with_unfolding_all rfl)
noncomputable def cutV (xs:List V) (lo hi:Option Int):List V:=(xs.drop (HT.sIx xs.length 0 lo)).take (HT.sIx xs.length xs.length hi-HT.sIx xs.length 0 lo)
theorem ad0(xs:List V)(lo hi:Option Int):(cutV xs lo hi).length<=xs.length:=by
 unfold cutV;rw [qaf,qaW];omega
noncomputable def rSlT (K:PySem.W.Frag):V->Option Int->Option Int->Hp->VK->Prop:=fun x lo hi H Q=>∃ a xs,x=.ref a/\SqT K H a xs/\
 ¬ (HT.sIx xs.length 0 lo=0/\HT.sIx xs.length xs.length hi=xs.length)/\∀ p,H p=none->Q (.ref p) (upd H p (.tup (cutV xs lo hi)))
theorem ans:SlR X (rSlT X.K):=by
 intro pins s σ H x v vl vu lo hi sl Q I rx hs pl pu h;obtain ⟨a,xs,rfl,hx,hw,q⟩:=h
 cases rx
 obtain ⟨its,r,ht,hz⟩:=I.tuple hx;have hlen:its.toArray.size=xs.length:=by rw [qai];exact r.length.symm
 refine ⟨"tuple",_,PyProof.Rows.slot_tuple_getitem.lookup,ht.typeIs,?_⟩;refine HT.getItem_tuple_cut ht hs pl pu (by rw [hlen];exact hw) ?_ (by rw [hlen];exact hz);rw [hlen];refine ⟨.ref s.heap.objs.size,_,I.laid (t':=s.toks) (o:=.tup (cutV xs lo hi)) (fun b ob q=>Heap.get?_push_of_some _ q) (qa2 _) ?_,rfl,q _ (I.hok.fresh (qa2 _))⟩;exact ⟨qan (ad0 xs lo hi) hz,_,(r.drop (HT.sIx xs.length 0 lo)).take (HT.sIx xs.length xs.length hi-HT.sIx xs.length 0 lo),IsTup.new _ _⟩
noncomputable def rCatT (K:PySem.W.Frag):R2:=fun x y H Q=>∃ a b xs ys,x=.ref a/\y=.ref b/\SqT K H a xs/\SqT K H b ys/\xs≠[]/\xs.length+ys.length<=sizeLine/\
 (ys=[]->Q (.ref a) H)/\(ys≠[]->∀ p,H p=none->Q (.ref p) (upd H p (.tup (xs++ys))))
theorem Vals.nil_iff(r:Vals xs us):us=[]↔xs=[]:=by
 cases r with
 | nil=>simp
 | cons _ _=>simp
theorem alI:OpR X (binaryOp .Add) (rCatT X.K):=by
 intro pins s σ H x y v u Q I rx ry h;obtain ⟨a,b,xs,ys,rfl,rfl,ha,hb,hx,hz,q1,q2⟩:=h
 cases rx
 cases ry
 obtain ⟨its,r1,p1,_⟩:=I.tuple ha;obtain ⟨its2,r2,p2,_⟩:=I.tuple hb;refine HT.cat_tup p1 p2 (fun z=>hx (r1.nil_iff.mp z)) (fun z=>⟨.ref a,H,I,rfl,q1 (r2.nil_iff.mp z)⟩) (fun z=>?_) (by rw [<- r1.length,<- r2.length];exact hz);refine ⟨.ref s.heap.objs.size,_,I.laid (t':=s.toks) (o:=.tup (xs++ys)) (fun b ob q=>Heap.get?_push_of_some _ q) (qa2 _) ?_,rfl,q2 (fun w=>z (r2.nil_iff.mpr w)) _ (I.hok.fresh (qa2 _))⟩;exact ⟨by rw [qa1];exact hz,_,r1.append r2,IsTup.new _ _⟩
end
end L2
namespace L2
open PySem PySem.Spec PyProof.Rows
noncomputable def ixN (n:Nat) (i:Int):Option Nat:=if 0<=i then (if i<n then some i.toNat else none) else if -(n:Int)<=i then some (i+n).toNat else none
noncomputable def atI {α:Type} (xs:List α) (i:Int):Option α:=(ixN xs.length i).bind fun j=>xs[j]?
theorem alJ{i:Int}(h:ixN n i=some j):seqIndex? i n=some j/\j<n/\-(n:Int)<=i/\i<n:=by
 unfold ixN at h
 by_cases h0:0<=i
 ·rw [if_pos h0] at h
  by_cases h1:i<n
  ·rw [if_pos h1] at h;have e:i.toNat=j:=Option.some.inj h;exact ⟨by rw [seqIndex_of h0 h1,e],by omega,by omega,h1⟩
  ·rw [if_neg h1] at h;cases h
 ·rw [if_neg h0] at h
  by_cases h1:-(n:Int)<=i
  ·rw [if_pos h1] at h;have e:(i+n).toNat=j:=Option.some.inj h;exact ⟨by rw [seqIndex_neg (by omega) h1,e],by omega,h1,by omega⟩
  ·rw [if_neg h1] at h;cases h
theorem agu{α:Type}{xs:List α}{i:Int}{v:α}(h:atI xs i=some v):∃ j,seqIndex? i xs.length=some j/\xs[j]?=some v/\j<xs.length/\-(xs.length:Int)<=i/\i<xs.length:=by
 unfold atI at h;cases e:ixN xs.length i with
 | none=>rw [e] at h;cases h
 | some j=>
  rw [e] at h;obtain ⟨h1,h2,h3,h4⟩:=alJ e;exact ⟨j,h1,h,h2,h3,h4⟩
theorem abr{α:Type}{xs:List α}{v:α}(h:xs[j]?=some v):atI xs (j:Int)=some v:=by
 have hj:j<xs.length:=(qa5.mp h).1;have e:ixN xs.length (j:Int)=some j:=by
  unfold ixN;rw [if_pos (by omega),if_pos (by omega)];simp
 unfold atI;rw [e];exact h
theorem ag4{α:Type}(xs:List α)(v:α):atI (xs++[v]) (-1)=some v:=by
 have hl:(xs++[v]).length=xs.length+1:=by simp
 have e:ixN (xs++[v]).length (-1)=some xs.length:=by
  unfold ixN;rw [hl,if_neg (by decide),if_pos (by omega)]
  congr 1
  omega
 unfold atI;rw [e];show (xs++[v])[xs.length]?=some v
 simp
noncomputable def aiA (b:Expr):Prop:=∀ o i,subscripted b false o i=operate [o,i] (getItem o i)
noncomputable def IxR (X:Cx) (r:R2):Prop:=
 ∀ (value slice:Expr) (pins:List (Addr×Obj)) (s:Shared) (σ:St) (H:Hp) (x y:V) (v u:Value) (Q:VK),Inv X pins σ H s->RelV x v->RelV y u->r x y H Q->
  subscripted slice false v u=operate [v,u] (getItem v u)->wpAny (model X.prog X.w) X.A (subscriptTail value slice v u) (EP X pins σ Q) X.xe s
noncomputable def MtR (X:Cx) (id:String) (r:V->List V->Hp->VK->Prop):Prop:=
 ∀ (pins:List (Addr×Obj)) (s:Shared) (σ:St) (H:Hp) (x:V) (xs:List V) (v:Value) (us:List Value) (Q:VK),Inv X pins σ H s->RelV x v->Vals xs us->r x xs H Q->
  wpAny (model X.prog X.w) X.A (call (.builtin id) (v::us)) (EP X pins σ Q) X.xe s
section
variable {X:Cx} {a b:Expr} {ta tb:TE} {pos:Pos}
theorem IxR.or{r r':R2}(h:IxR X r)(h':IxR X r'):IxR X (fun x y H Q=>r x y H Q\/r' x y H Q):=by
 intro value slice pins s σ H x y v u Q I rx ry q hs
 rcases q with q | q
 ·exact h value slice pins s σ H x y v u Q I rx ry q hs
 ·exact h' value slice pins s σ H x y v u Q I rx ry q hs
theorem MtR.or{id:String}{r r':V->List V->Hp->VK->Prop}(h:MtR X id r)(h':MtR X id r'):MtR X id (fun x xs H Q=>r x xs H Q\/r' x xs H Q):=by
 intro pins s σ H x xs v us Q I rx rs q
 rcases q with q | q
 ·exact h pins s σ H x xs v us Q I rx rs q
 ·exact h' pins s σ H x xs v us Q I rx rs q
theorem pe_ix{r:R2}(hr:IxR X r)(ha:PE X a ta)(hb:PE X b tb)(hs:aiA b):PE X (.Subscript a b pos) (tOp r ta tb):=by
 intro pins s σ H Q I h;exact Subscript_ (binT ha hb I h fun v u s2 x y H2 I2 rx ry q=>hr a b pins s2 σ H2 x y v u Q I2 rx ry q (hs _ _))
noncomputable def rIxL (K:PySem.W.Frag):R2:=fun x y H Q=>∃ p xs i v,x=.ref p/\y=.int i/\SqL K H p xs/\atI xs i=some v/\Q v H
noncomputable def rIxT (K:PySem.W.Frag):R2:=fun x y H Q=>∃ p xs i v,x=.ref p/\y=.int i/\SqT K H p xs/\atI xs i=some v/\Q v H
noncomputable def rIxS:R2:=fun x y H Q=>∃ z i c,x=.str z/\y=.int i/\z.length<=sizeLine/\atI z.cps.toList i=some c/\Q (.str ⟨#[c]⟩) H
theorem ix_list:IxR X (rIxL X.K):=by
 intro value slice pins s σ H x y v u Q I rx ry h hs;obtain ⟨p,xs,i,z,rfl,rfl,hq,he,q⟩:=h
 cases rx
 obtain ⟨t,rfl⟩:=ry;obtain ⟨its,r,pl,hz⟩:=I.list hq;obtain ⟨j,h1,h2,h3,h4,h5⟩:=agu he;obtain ⟨w,ew,rw'⟩:=r.get h2;have hl:=r.length;have hn:=afy;have fin:EP X pins σ Q w s:=⟨z,H,I,rw',q⟩
 by_cases h0:0<=i
 ·have hj:i.toNat=j:=by
   rw [seqIndex_of h0 h5] at h1;exact Option.some.inj h1
  exact item_listR pl.isList h0 (by omega) (by rw [hj];simpa using ew) fin hs
 ·have hj:(i+(its.toArray.size:Int)).toNat=j:=by
   rw [seqIndex_neg (by omega) h4] at h1;rw [qai,<- hl];exact Option.some.inj h1
  exact subscriptTail_builtinR (x:=w) pl.isList.typeIs slot_list_getitem.lookup
   (wpAny_getItem_list_neg (Q:=fun r s'=>r=w/\EP X pins σ Q r s') pl.isList (by omega) (by rw [qai] <;> omega) (by omega) (by rw [hj];simpa using ew) ⟨rfl,fin⟩) hs
theorem ix_tup:IxR X (rIxT X.K):=by
 intro value slice pins s σ H x y v u Q I rx ry h hs;obtain ⟨p,xs,i,z,rfl,rfl,hq,he,q⟩:=h
 cases rx
 obtain ⟨t,rfl⟩:=ry;obtain ⟨its,r,pl,hz⟩:=I.tuple hq;obtain ⟨j,h1,h2,h3,h4,h5⟩:=agu he;obtain ⟨w,ew,rw'⟩:=r.get h2;have hl:=r.length;have hn:=afy;have fin:EP X pins σ Q w s:=⟨z,H,I,rw',q⟩
 exact subscriptTail_builtinR (x:=w) pl.typeIs slot_tuple_getitem.lookup
  (getItem_tuple (j:=j) (Q:=fun r s'=>r=w/\EP X pins σ Q r s') pl (by omega) (by omega) (by rw [qai,<- hl];exact h1) (by simpa using ew) ⟨rfl,fin⟩) hs
theorem ant:IxR X rIxS:=by
 intro value slice pins s σ H x y v u Q I rx ry h hs;obtain ⟨z,i,c,rfl,rfl,hz,he,q⟩:=h;obtain ⟨t,rfl⟩:=rx;obtain ⟨t',rfl⟩:=ry;obtain ⟨j,h1,h2,h3,h4,h5⟩:=agu he;have hl:z.cps.toList.length=z.length:=by simp [Str.length]
 rw [hl] at h1 h4 h5;have hn:=afy;exact tail_any (typeIs_str s z t) slot_str_getitem.lookup (getItem_str (c:=c) (by
  have e1:decide (i < -(2 ^ 63:Int))=false:=decide_eq_false (by omega);have e2:decide (i≥2 ^ 63)=false:=decide_eq_false (by omega);rw [e1,e2,Bool.or_false]) (by rw [h1];simpa using h2) ⟨.str ⟨#[c]⟩,H,I.tok _,⟨_,rfl⟩,q⟩) hs
noncomputable def rIx (K:PySem.W.Frag):R2:=fun x y H Q=>rIxL K x y H Q\/rIxT K x y H Q\/rIxS x y H Q
theorem anu:IxR X (rIx X.K):=ix_list.or (ix_tup.or ant)
theorem Inv.lst{p:Addr}(I:Inv X pins σ H s)(h:H p=some (.lst xs)) :
  ∃ (its:List Value) (n:Nat),Vals xs its/\s.heap.get? p=some { cls:=.type "list",data:=.seq its.toArray n }/\xs.length<=sizeLine:=by
 obtain ⟨z,its,n,r,e⟩:=I.hok p _ h;exact ⟨its,n,r,e,z⟩
noncomputable def rSetL:V->V->V->Hp->(Hp->Prop)->Prop:=fun o i v H Q=>∃ p xs k j,o=.ref p/\i=.int k/\H p=some (.lst xs)/\ixN xs.length k=some j/\Q (upd H p (.lst (xs.set j v)))
theorem afD(lo hi:Option Int)(n:Nat):(sliceBounds lo hi none n).1=((HT.sIx n 0 lo:Nat):Int)/\(sliceBounds lo hi none n).2.1=((HT.sIx n n hi:Nat):Int)/\(sliceBounds lo hi none n).2.2=1:=by
 refine ⟨?_,?_,rfl⟩
 ·cases lo with
  | none=>simp [sliceBounds,HT.sIx]
  | some i=>
   simp only [sliceBounds,HT.sIx,Option.getD_none,show (1:Int) > 0 by decide,if_true]
   by_cases h:i<0
   ·simp only [h,if_true] <;> omega
   ·simp only [h,if_false] <;> omega
 ·cases hi with
  | none=>simp [sliceBounds,HT.sIx]
  | some i=>
   simp only [sliceBounds,HT.sIx,Option.getD_none,show (1:Int) > 0 by decide,if_true]
   by_cases h:i<0
   ·simp only [h,if_true] <;> omega
   ·simp only [h,if_false] <;> omega
theorem ae4(its:List Value)(lo hi:Option Int):slicePick its.toArray lo hi none=((its.drop (HT.sIx its.length 0 lo)).take (HT.sIx its.length its.length hi-HT.sIx its.length 0 lo)).toArray:=by
 obtain ⟨h1,h2,h3⟩:=afD lo hi its.toArray.size;unfold slicePick;rw [h1,h2,h3];simp only [sliceRange_one,pick_run,qai] <;> rfl
noncomputable def rSlL (K:PySem.W.Frag):V->Option Int->Option Int->Hp->VK->Prop:=fun x lo hi H Q=>∃ a xs,x=.ref a/\SqL K H a xs/\∀ p,H p=none->Q (.ref p) (upd H p (.lst (cutV xs lo hi)))
theorem alK:SlR X (rSlL X.K):=by
 intro pins s σ H x v vl vu lo hi sl Q I rx hs pl pu h;obtain ⟨a,xs,rfl,hx,q⟩:=h
 cases rx
 obtain ⟨its,r,ht,hz⟩:=I.list hx;have hlen:=r.length;refine ⟨"list",_,slot_list_getitem.lookup,ht.isList.typeIs,?_⟩;refine wpAny_getItem_list_slice ht.isList hs pl pu .none (by simp) ?_ (by rw [qai] <;> omega);rw [ae4,<- hlen];refine ⟨.ref s.heap.objs.size,_,I.laid (t':=s.toks) (o:=.lst (cutV xs lo hi)) (fun b ob q=>Heap.get?_push_of_some _ q) (qa2 _) ?_,rfl,q _ (I.hok.fresh (qa2 _))⟩;exact ⟨qan (ad0 xs lo hi) hz,_,0,(r.drop (HT.sIx xs.length 0 lo)).take (HT.sIx xs.length xs.length hi-HT.sIx xs.length 0 lo),Heap.get?_push_size _ rfl⟩
noncomputable def flatV:V->Bool
 | .non=>true
 | .bl _=>true
 | .int _=>true
 | .str _=>true
 | _=>false
noncomputable def eqV:V->V->Bool
 | .non,.non=>true
 | .bl a,.bl b=>a==b
 | .bl a,.int b=>(if a then 1 else 0)==b
 | .int a,.bl b=>a==(if b then 1 else 0)
 | .int a,.int b=>a==b
 | .str a,.str b=>a==b
 | _,_=>false
theorem anv(ry:RelV y u)(rx:RelV x v)(fy:flatV y=true)(fx:flatV x=true):SeqAt.EqAt A s u v (eqV y x):=by
 cases y with
 | non=>
  cases ry
  cases x with
  | non=>cases rx;exact SeqAt.EqAt.same _
  | bl b=>cases rx;exact SeqAt.EqAt.none_bool b
  | int b=>obtain ⟨t,rfl⟩:=rx;exact SeqAt.EqAt.none_int b t
  | str b=>obtain ⟨t,rfl⟩:=rx;exact SeqAt.EqAt.none_str b t
  | _=>exact absurd (show false=true from fx) qae
 | bl a=>
  cases ry
  cases x with
  | non=>cases rx;exact SeqAt.EqAt.bool_none a
  | bl b=>cases rx;exact SeqAt.EqAt.bool_bool a b
  | int b=>obtain ⟨t,rfl⟩:=rx;exact SeqAt.EqAt.bool_int a b t
  | str b=>obtain ⟨t,rfl⟩:=rx;exact SeqAt.EqAt.bool_str a b t
  | _=>exact absurd (show false=true from fx) qae
 | int a=>
  obtain ⟨t',rfl⟩:=ry
  cases x with
  | non=>cases rx;exact SeqAt.EqAt.int_none a t'
  | bl b=>cases rx;exact SeqAt.EqAt.int_bool a t' b
  | int b=>obtain ⟨t,rfl⟩:=rx;exact SeqAt.EqAt.int_int a t' b t
  | str b=>obtain ⟨t,rfl⟩:=rx;exact SeqAt.EqAt.int_str a t' b t
  | _=>exact absurd (show false=true from fx) qae
 | str a=>
  obtain ⟨t',rfl⟩:=ry
  cases x with
  | non=>cases rx;exact SeqAt.EqAt.str_none a t'
  | bl b=>cases rx;exact SeqAt.EqAt.str_bool a t' b
  | int b=>obtain ⟨t,rfl⟩:=rx;exact SeqAt.EqAt.str_int a t' b t
  | str b=>obtain ⟨t,rfl⟩:=rx;exact SeqAt.EqAt.str_str a t' b t
  | _=>exact absurd (show false=true from fx) qae
 | _=>exact absurd (show false=true from fy) qae
noncomputable def eqU (x:V) (u:Value):Bool:=match u with
 | .none=>eqV .non x
 | .bool b=>eqV (.bl b) x
 | .int i _=>eqV (.int i) x
 | .str z _=>eqV (.str z) x
 | _=>false
theorem akZ(r:RelV y u)(f:flatV y=true):eqU x u=eqV y x:=by
 cases y with
 | non=>cases r;rfl
 | bl b=>cases r;rfl
 | int i=>obtain ⟨t,rfl⟩:=r;rfl
 | str z=>obtain ⟨t,rfl⟩:=r;rfl
 | _=>exact absurd (show false=true from f) qae
theorem ad1 : ∀ {xs:List V} {us:List Value},Vals xs us->xs.all flatV=true->us.any (eqU x)=xs.any fun y=>eqV y x
 | _,_,.nil,_=>rfl
 | y::xs,u::us,.cons r t,f=>by
  rw [List.all_cons,qav] at f;rw [qbr,qbr,akZ r f.1,ad1 t f.2]
theorem ade(rx:RelV x v)(fx:flatV x=true):∀ {xs:List V} {us:List Value},Vals xs us->xs.all flatV=true->∀ u∈us,SeqAt.EqAt A s u v (eqU x u)
 | _,_,.nil,_=>fun u hu=>by cases hu
 | y::xs,u::us,.cons r t,f=>fun u' hu=>by
  rw [List.all_cons,qav] at f
  rcases qaa.mp hu with rfl | hu
  ·rw [akZ r f.1];exact anv r rx f.1 fx
  ·exact ade rx fx t f.2 u' hu
noncomputable def inV (x:V) (xs:List V):Bool:=xs.any fun y=>eqV y x
noncomputable def rIn (K:PySem.W.Frag) (neg:Bool):R2:=fun x y H Q=>∃ p xs,y=.ref p/\(SqL K H p xs\/SqT K H p xs)/\flatV x=true/\xs.all flatV=true/\Q (.bl (if neg then !inV x xs else inV x xs)) H
theorem aiB:OpR X (compareOp .In) (rIn X.K false):=by
 intro pins s σ H x y v u Q I rx ry h;obtain ⟨p,xs,rfl,hq,fx,fs,q⟩:=h
 cases ry
 rcases hq with hq | hq
 ·obtain ⟨its,r,pl,hz⟩:=I.list hq;refine SeqAt.in_listAt (eqU x) pl.isList (fun w hw=>ade rx fx r fs w (by simpa using hw)) ⟨.bl _,H,I,rfl,?_⟩;rw [show its.toArray.any (eqU x)=its.any (eqU x) by simp,ad1 r fs];exact q
 ·obtain ⟨its,r,pl,hz⟩:=I.tuple hq;refine SeqAt.in_tupleAt (eqU x) pl (fun w hw=>ade rx fx r fs w (by simpa using hw)) ⟨.bl _,H,I,rfl,?_⟩;rw [show its.toArray.any (eqU x)=its.any (eqU x) by simp,ad1 r fs];exact q
theorem afE:OpR X (compareOp .NotIn) (rIn X.K true):=by
 intro pins s σ H x y v u Q I rx ry h;obtain ⟨p,xs,rfl,hq,fx,fs,q⟩:=h
 cases ry
 rcases hq with hq | hq
 ·obtain ⟨its,r,pl,hz⟩:=I.list hq;refine SeqAt.notIn_listAt (eqU x) pl.isList (fun w hw=>ade rx fx r fs w (by simpa using hw)) ⟨.bl _,H,I,rfl,?_⟩;rw [show its.toArray.any (eqU x)=its.any (eqU x) by simp,ad1 r fs];exact q
 ·obtain ⟨its,r,pl,hz⟩:=I.tuple hq;refine SeqAt.notIn_tupleAt (eqU x) pl (fun w hw=>ade rx fx r fs w (by simpa using hw)) ⟨.bl _,H,I,rfl,?_⟩;rw [show its.toArray.any (eqU x)=its.any (eqU x) by simp,ad1 r fs];exact q
theorem afF:OpR X (compareOp .NotIn) (fun x y H Q=>∃ i j,x=.str i/\y=.str j/\Q (.bl (!(!(Builtin.Str.occurrences j i 0 j.length 1).isEmpty))) H):=by
 intro pins s σ H x y v u Q I rx ry h;obtain ⟨i,j,rfl,rfl,q⟩:=h;obtain ⟨t,rfl⟩:=rx;obtain ⟨t',rfl⟩:=ry;exact notIn_str ⟨.bl _,H,I,rfl,q⟩
theorem CallR.or{f:Value}{r r':List V->Hp->VK->Prop}(h:CallR X f r)(h':CallR X f r'):CallR X f (fun xs H Q=>r xs H Q\/r' xs H Q):=by
 intro pins s σ H xs us Q I rs q
 rcases q with q | q
 ·exact h pins s σ H xs us Q I rs q
 ·exact h' pins s σ H xs us Q I rs q
theorem afG:CallR X (.type "list") (fun xs H Q=>∃ p ys,xs=[.ref p]/\(SqL X.K H p ys\/SqT X.K H p ys)/\∀ l,H l=none->Q (.ref l) (upd H l (.lst ys))):=by
 intro pins s σ H xs us Q I r h;obtain ⟨p,ys,rfl,hq,q⟩:=h;obtain ⟨u,rfl,rx⟩:=vals1 r
 cases rx
 have fin:∀ (its:List Value),Vals ys its->ys.length<=sizeLine->∀ (h':Heap) (c':Nat),(∀ b o',s.heap.get? b=some o'->h'.get? b=some o')->
   h'.get? s.heap.objs.size=some { cls:=.type "list",dict:=none,data:=.seq its.toArray c',slots:=#[] }->EP X pins σ Q (.ref s.heap.objs.size) { s with heap:=h' }:=fun its r' hz h' c' kp e=>
  ⟨.ref s.heap.objs.size,_,I.laid (t':=s.toks) kp (qa2 _) (show ObjOk X.prog X.w _ h' _ (.lst ys) from ⟨hz,its,c',r',e⟩),rfl,q _ (I.hok.fresh (qa2 _))⟩
 rcases hq with hq | hq
 ·obtain ⟨its,r',pl,hz⟩:=I.list hq;have hlen:=r'.length;obtain ⟨o,ho,hc,n,hd⟩:=pl.isList;exact call_list_seq p (.inl rfl) ho hc hd (fun h' c' kp e=>fin its r' hz h' c' kp e) (by simp only [qai] <;> omega)
 ·obtain ⟨its,r',pl,hz⟩:=I.tuple hq;have hlen:=r'.length;obtain ⟨o,ho,hc,n,hd⟩:=pl;exact call_list_seq p (.inr rfl) ho hc hd (fun h' c' kp e=>fin its r' hz h' c' kp e) (by simp only [qai] <;> omega)
theorem ae5:CallR X (.type "tuple") (fun xs H Q=>∃ p ys,xs=[.ref p]/\((SqL X.K H p ys/\∀ l,H l=none->Q (.ref l) (upd H l (.tup ys)))\/(SqT X.K H p ys/\Q (.ref p) H))):=by
 intro pins s σ H xs us Q I r h;obtain ⟨p,ys,rfl,h⟩:=h;obtain ⟨u,rfl,rx⟩:=vals1 r
 cases rx
 rcases h with ⟨hq,q⟩ | ⟨hq,q⟩
 ·obtain ⟨its,r',pl,hz⟩:=I.list hq;have hlen:=r'.length;refine call_tuple_list pl.isList (fun h' kp=>?_) (by simp only [qai] <;> omega);have I1:Inv X pins σ H { s with heap:=h' }:=I.kept (t':=s.toks) kp;have I2:Inv X pins σ (upd H h'.objs.size (.tup ys)) { s with heap:=h'.push { cls:=.type "tuple",data:=.seq its.toArray } }:=
   I1.laid (t':=s.toks) (fun b o e=>Heap.get?_push_of_some _ e) (qa2 _) (show ObjOk X.prog X.w _ _ _ (.tup ys) from ⟨hz,its,r',IsTup.new _ _⟩)
  exact ⟨.ref h'.objs.size,_,I2,rfl,q _ (I1.hok.fresh (qa2 _))⟩
 ·obtain ⟨its,r',pl,hz⟩:=I.tuple hq;exact call_tuple_same pl ⟨.ref p,H,I,rfl,q⟩
noncomputable def tyV (K:PySem.W.Frag) (T:String) (x:V) (H:Hp):Prop:=match x with
 | .str _=>T="str"
 | .int _=>T="int"
 | .ref p=>(T="list"/\∃ xs,SqL K H p xs)\/(T="tuple"/\∃ o,K.lookup p=some o/\o.cls=.type "tuple"/\o.dict=none)\/
   (T="dict"/\((∃ kvs,H p=some (.dK kvs))\/∃ kvs,H p=some (.dT kvs)))\/(T="set"/\∃ S n,H p=some (.set S n))
 | _=>False
theorem anw{T:String}(I:Inv X pins σ H s)(r:RelV x v)(ty:tyV X.K T x H) :
  s.TypeIs v T/\∀ a,v=.ref a->∃ ob,s.heap.get? a=some ob/\ob.dict=none:=by
 cases x with
 | str z=>
  obtain ⟨t,rfl⟩:=r
  cases (show T="str" from ty)
  exact ⟨typeIs_str s z t,fun _ e=>nomatch e⟩
 | int i=>
  obtain ⟨t,rfl⟩:=r
  cases (show T="int" from ty)
  exact ⟨typeIs_int s i t,fun _ e=>nomatch e⟩
 | ref p=>
  cases r
  rcases ty with ⟨rfl,xs,hq⟩ | ⟨rfl,o,hk,hc,hd⟩ | ⟨rfl,hk⟩ | ⟨rfl,S,n,hk⟩
  ·obtain ⟨its,_,pl,_⟩:=I.list hq;refine ⟨pl.isList.typeIs,fun a e=>?_⟩;cases e;obtain ⟨o,n,e,c,hd,_⟩:=pl;exact ⟨o,e,hd⟩
  ·refine ⟨⟨o,I.kIn p o hk,hc⟩,fun a e=>?_⟩;cases e;exact ⟨o,I.kIn _ o hk,hd⟩
  ·have z:∃ o,s.heap.get? p=some o/\o.ExactDict:=by
    rcases hk with ⟨kvs,hk⟩ | ⟨kvs,hk⟩
    ·obtain ⟨_,_,_,_,o,_,_,e,ex,_⟩:=I.hok p _ hk;exact ⟨o,e,ex⟩
    ·obtain ⟨_,_,_,_,o,_,_,e,ex,_⟩:=I.hok p _ hk;exact ⟨o,e,ex⟩
   obtain ⟨o,e,ex⟩:=z;refine ⟨⟨o,e,ex.1⟩,fun a e2=>?_⟩;cases e2;exact ⟨o,e,ex.2.1⟩
  ·obtain ⟨o,_,_,_,e,ex,_⟩:=I.hok p _ hk;refine ⟨⟨o,e,ex.1⟩,fun a e2=>?_⟩;cases e2;exact ⟨o,e,ex.2.1⟩
 | _=>exact False.elim ty
noncomputable def tBM0 (K:PySem.W.Frag) (T:String) (r:V->List V->Hp->VK->Prop) (to:TE):TE:=fun σ H Q=>to σ H fun x H1=>tyV K T x H1/\r x [] H1 Q
noncomputable def tBM (K:PySem.W.Frag) (T:String) (r:V->List V->Hp->VK->Prop) (to:TE) (t:TA):TE:=fun σ H Q=>to σ H fun x H1=>tyV K T x H1/\t σ H1 fun xs H2=>r x xs H2 Q
variable {o e:Expr} {es:List Expr} {to:TE} {t:TA} {name:Str} {apos cpos:Pos} {T id:String} {r:V->List V->Hp->VK->Prop}
theorem pe_bm(pa:PlainAttrs T)(slot:Slot T name id)(hty:typeOf (.builtin id)=pure (.type "method_descriptor"))(hm:MtR X id r)(ho:PE X o to)(ha:PA X (e::es) t)(hbase:attributeBase o name X.env (eval o X.env)=eval o X.env:=by rfl)(hfew:((backTo cpos (starEach (e::es) X.env)).all (fun x=>!x.1)&&(backToKw cpos (keywordEach [] X.env)).all (fun x=>x.1.isSome)
   && decide ((e::es).length+([]:List Keyword).length+(if ([]:List Keyword).isEmpty then 0 else 1)<30))=true:=by rfl)(hline:(apos.endLine==cpos.line)=true:=by rfl)(hs:starEach (e::es) X.env=(false,eval e X.env)::starEach es X.env:=by rfl)(hplain:(backTo cpos (starEach es X.env)).any (·.1)=false:=by rfl) :
  PE X (.Call (.Attribute o name apos) (e::es) [] cpos) (tBM X.K T r to t):=by
 intro pins s σ H Q I h;refine wpAny_Call_method_late hbase hfew hline rfl (thn (ho pins s σ H _ I h) fun v s1 ⟨x,H1,I1,r1,ty,q1⟩=>?_);obtain ⟨h1,h2⟩:=anw I1 r1 ty;refine ⟨T,id,pa,slot,hty,h1,h2,?_⟩;have hA:=ha cpos pins s1 σ H1 _ I1 q1;rw [hs] at hA ⊢
 refine Calls.callWith_builtin (by show (false || (backTo cpos (starEach es X.env)).any (·.1))=false;rw [hplain] <;> rfl) (Calls.evalArgs_plain ?_);exact thn hA fun us s2 ⟨vs,H2,I2,r2,q2⟩=>hm pins s2 σ H2 x vs v us Q I2 r1 r2 q2
end
end L2
namespace L2
open PySem PySem.Spec PyProof.Rows
noncomputable def MtM (X:Cx) (id:String) (r:V->List V->Hp->VK->Prop):Prop:=
 ∀ (pins:List (Addr×Obj)) (s:Shared) (σ:St) (H:Hp) (x:V) (xs:List V) (v:Value) (us:List Value) (Q:VK),Inv X pins σ H s->RelV x v->Vals xs us->r x xs H Q->
  wpAny (model X.prog X.w) X.A (call (.builtin id) (v::us)) (EP X pins σ Q) X.xe s
theorem Vals.one:∀ {x:V} {us:List Value},Vals [x] us->∃ u,us=[u]/\RelV x u
 | _,_,.cons r .nil=>⟨_,rfl,r⟩
theorem Vals.two:∀ {x y:V} {us:List Value},Vals [x,y] us->∃ u v,us=[u,v]/\RelV x u/\RelV y v
 | _,_,_,.cons r (.cons q .nil)=>⟨_,_,rfl,r,q⟩
theorem Vals.zero:∀ {us:List Value},Vals [] us->us=[]
 | _,.nil=>rfl
theorem Vals.dropLast(h:Vals xs us):Vals xs.dropLast us.dropLast:=by
 induction h with
 | nil=>exact .nil
 | cons r t ih=>
  cases t with
  | nil=>exact .nil
  | cons q t'=>exact .cons r ih
theorem Vals.eraseIdx:∀ {xs:List V} {us:List Value} (i:Nat),Vals xs us->Vals (xs.eraseIdx i) (us.eraseIdx i)
 | _,_,_,.nil=>.nil
 | _,_,0,.cons _ t=>t
 | _,_,i+1,.cons r t=>.cons r (Vals.eraseIdx i t)
theorem Vals.reverse(h:Vals xs us):Vals xs.reverse us.reverse:=by
 induction h with
 | nil=>exact .nil
 | cons r t ih=>rw [List.reverse_cons,List.reverse_cons];exact Vals.append ih (.cons r .nil)
theorem Vals.rep(h:Vals xs us):∀ k:Nat,Vals (qaH k xs).flatten (qaH k us).flatten
 | 0=>.nil
 | k+1=>by
  rw [qbn,qbn,qbl,qbl];exact Vals.append h (Vals.rep h k)
theorem afH(its:List Value):∀ (k:Nat) (acc:List Value),
  List.foldl (fun x1 x2=>x1++x2) acc.toArray (qaH k its.toArray)=(acc++(qaH k its).flatten).toArray
 | 0,acc=>by simp
 | k+1,acc=>by
  have e:acc.toArray++its.toArray=(acc++its).toArray:=by simp
  have e2:(acc++its)++(qaH k its).flatten=acc++(qaH (k+1) its).flatten:=by
   rw [qbn,qbl,qas]
  rw [<- e2,<- afH its k (acc++its),<- e,qbn,List.foldl_cons]
section
variable {X:Cx} {pins:List (Addr×Obj)} {σ:St} {H:Hp} {s:Shared} {l b:Addr} {xs ys zs:List V}
theorem Inv.lset{its':List Value}{f:Array Value->Array Value}(I:Inv X pins σ H s)(hH:H l=some (.lst xs))(e:s.heap.get? l=some { cls:=.type "list",data:=.seq its.toArray n })(hf:f its.toArray=its'.toArray)(hv:Vals ys its')(hz:ys.length<=sizeLine) :
  Inv X pins σ (upd H l (.lst ys)) { s with heap:=s.heap.update l (Obj.mapSeq f),toks:=t' }:=by
 have q:=PySem.IsL.update e f;rw [hf] at q;refine I.write (x:=l) (e:=l) (by rw [hH];exact trivial) (.inl rfl) (fun b' u hb hu=>(Heap.get?_update_other s.heap (Obj.mapSeq f) (Ne.symm hb)).trans hu) ⟨_,q⟩ ?_;exact ⟨hz,its',_,hv,q⟩
theorem Inv.lnew(I:Inv X pins σ H s)(hv:Vals ys its)(hz:ys.length<=sizeLine) :
  Inv X pins σ (upd H s.heap.objs.size (.lst ys)) { s with heap:=s.heap.push { cls:=.type "list",data:=.seq its.toArray },toks:=t' }:=
 I.laid (fun _ _ q=>Heap.get?_push_of_some _ q) (qa2 _) ⟨hz,its,0,hv,Heap.get?_push_size _ rfl⟩
theorem Inv.fresh(I:Inv X pins σ H s):H s.heap.objs.size=none:=I.hok.fresh (qa2 _)
theorem Inv.lstM(I:Inv X pins σ H s)(hH:H l=some (.lst xs)):xs.length<=sizeLine/\∃ (its:List Value) (n:Nat),Vals xs its/\xs.length=its.length/\s.heap.get? l=some { cls:=.type "list",data:=.seq its.toArray n }:=by
 obtain ⟨z,its,n,r,e⟩:=I.hok l _ hH;exact ⟨z,its,n,r,r.length,e⟩
theorem adK(h:n<=sizeLine):Builtin.List.listTooLong n=false:=by
 unfold Builtin.List.listTooLong;exact decide_eq_false (by omega)
end
section
variable {X:Cx}
noncomputable def ad2:V->List V->Hp->VK->Prop:=fun x vs H Q=>∃ l xs y,x=.ref l/\vs=[y]/\H l=some (.lst xs)/\xs.length<sizeLine/\Q .non (upd H l (.lst (xs++[y])))
theorem afI:MtM X "list.append" ad2:=by
 intro pins s σ H x vs v us Q I rx rv h;obtain ⟨l,xs,y,rfl,rfl,hH,hz,q⟩:=h
 cases rx
 obtain ⟨u,rfl,ru⟩:=rv.one;obtain ⟨z,its,n,r,hl,e⟩:=I.lstM hH;refine call_meets F.slot_list_append ⟨_,e,rfl⟩ F.entry_list_append (F.args_list_append_2 _ _) (PySem.list_append l its.toArray n u (by rw [qai];omega)) ⟨e,?_⟩;refine ⟨.non,_,I.lset (its':=its++[u]) hH e (by simp) (r.append (.cons ru .nil)) ?_,rfl,q⟩;rw [qa1,qag];omega
noncomputable def rCat:R2:=fun x y H Q=>∃ l b xs zs,x=.ref l/\y=.ref b/\H l=some (.lst xs)/\H b=some (.lst zs)/\xs.length+zs.length<=sizeLine/\∀ p,H p=none->Q (.ref p) (upd H p (.lst (xs++zs)))
theorem anx:OpR X (binaryOp .Add) rCat:=by
 intro pins s σ H x y v u Q I rx ry h;obtain ⟨l,b,xs,zs,rfl,rfl,hH,hB,hz,q⟩:=h
 cases rx
 cases ry
 obtain ⟨z,its,n,r,hl,e⟩:=I.lstM hH;obtain ⟨z2,its2,n2,r2,hl2,e2⟩:=I.lstM hB;refine PySem.P.add_list e e2 ?_ (by rw [qai,qai];omega);have ea:its.toArray++its2.toArray=(its++its2).toArray:=by simp
 rw [ea];exact ⟨.ref _,_,I.lnew (t':=s.toks) (r.append r2) (by rw [qa1];omega),rfl,q _ I.fresh⟩
noncomputable def rRep:R2:=fun x y H Q=>∃ l k xs,x=.ref l/\y=.int k/\H l=some (.lst xs)/\-(2 ^ 63)<=k/\k<2 ^ 63/\xs.length*k.toNat<=sizeLine/\
 ∀ p,H p=none->Q (.ref p) (upd H p (.lst (qaH k.toNat xs).flatten))
theorem alL{α:Type}(xs:List α)(k:Nat):(qaH k xs).flatten.length=k*xs.length:=by
 induction k with
 | zero=>simp
 | succ k ih=>rw [qbn,qbl,qa1,ih,Nat.succ_mul,Nat.add_comm]
theorem anz:OpR X (binaryOp .Mult) rRep:=by
 intro pins s σ H x y v u Q I rx ry h;obtain ⟨l,k,xs,rfl,rfl,hH,h1,h2,hz,q⟩:=h
 cases rx
 obtain ⟨t,rfl⟩:=ry;obtain ⟨z,its,n,r,hl,e⟩:=I.lstM hH;have hlen:its.toArray.size*k.toNat<=sizeLine:=by rw [qai,<- hl];exact hz
 have hcap:¬ its.toArray.size*k.toNat > (2 ^ 63-1) / 8:=by
  have:(sizeLine:Nat)<=(2 ^ 63-1) / 8:=by decide
  omega
 have hfit:¬ (!Builtin.List.listFitsIndex k)=true:=by
  rw [fitsIndex_both h1 h2];exact qae
 have hlong:¬ Builtin.List.listTooLong (its.toArray.size*k.toNat)=true:=by
  rw [adK hlen];exact qae
 have hnew:List.foldl (fun x1 x2=>x1++x2) #[] (qaH (if its.toArray.isEmpty=true then 0 else k.toNat) its.toArray)=(qaH k.toNat its).flatten.toArray:=by
  have f0:∀ m:Nat,List.foldl (fun x1 x2=>x1++x2) #[] (qaH m its.toArray)=(qaH m its).flatten.toArray:=fun m=>by
   have:=afH its m []
   rw [List.nil_append] at this;exact this
  rw [f0]
  cases its with
  | nil=>simp
  | cons a r'=>rw [if_neg (by simp)]
 refine wpAny_binaryOp_repeat_ref (T:="list") (U:="int") (by decide) ⟨_,e,rfl⟩ (fun s'=>typeIs_int s' k t) noFill_list_mul F.fills_int_mul F.slot_int_rmul repeat_list F.slot_int_index.lookup
  (call_meets F.slot_int_rmul (typeIs_int s k t) F.entry_int_rmul (F.args_int_rmul_2 _ _) (int___rmul___int_list k t l its.toArray n)
   ⟨e,rfl,⟨_,e,rfl⟩,call_meets F.slot_list_mul ⟨_,e,rfl⟩ F.entry_list_mul (F.args_list_mul_2 _ _) (AutoListH.list___mul___list_int_3 l its.toArray n k t hfit hcap hlong) ⟨e,?_⟩⟩)
 rw [hnew];exact ⟨.ref _,_,I.lnew (t':=s.toks) (r.rep k.toNat) (by rw [alL,Nat.mul_comm];exact hz),rfl,q _ I.fresh⟩
end
section
variable {prog:Program} {w:World} {A:Around} {E:Value->Shared->Prop} {s:Shared}
theorem ahL{a c:Nat}(hac:a<=c)(hc:c<=n):sliceBounds (some (a:Int)) (some (c:Int)) none n=((a:Int),(c:Int),1):=by
 simp only [sliceBounds,Option.getD_none];have h1:¬ ((a:Int)<0):=by omega
 have h2:¬ ((c:Int)<0):=by omega
 simp only [h1,h2,if_false,show (1:Int) > 0 by decide,if_true]
 congr 1
 ·omega
 ·congr 1;omega
set_option maxRecDepth 100000 in
theorem aj1{l: Addr}{new: Array Value}{n2: Nat}{a c : Nat}{Q : Unit -> Shared -> Prop}(e : s.heap.get? l = some { cls := .type "list", data := .seq items n })(e2 : s.heap.get? b = some { cls := .type "list", data := .seq new n2 })(hne : l ≠ b)(hs : s.heap.IsSliceOf sl vl vu .none)(pl : IsPart vl (some (a : Int)))(pu : IsPart vu (some (c : Int)))(hac : a <= c)(hc : c <= items.size)(hsz : items.size+new.size <= sizeLine)(h : Q () { s with heap := s.heap.update l (Obj.mapSeq fun xs => xs.extract 0 a ++ new ++ xs.extract c xs.size) }) :
    wpAny (model prog w) A (setItem (.ref l) (.ref sl) (.ref b)) Q E s := by
  have hl : s.heap.IsList l items := PySem.IsL.isList e;have hb : s.heap.IsList b new := PySem.IsL.isList e2;obtain ⟨os, hos, hcs, hds⟩ := id hs;have hTs : s.TypeIs (.ref sl) "slice" := ⟨os, hos, hcs⟩
  have hstep : ¬ ((rawPart none==rawInt 0) = true) := qae;have hsame : Builtin.List.listSameRef (.ref l) (.ref b) = false := by
    unfold Builtin.List.listSameRef;exact beq_eq_false_iff_ne.mpr hne
  have hmax : (max (a : Int) (c : Int)).toNat = c := by omega
  have hz' : ((fun xs : Array Value => xs.extract 0 a ++ new ++ xs.extract c xs.size) items).size <= sizeLine+1 := by
    simp only [Array.size_append, Array.size_extract];omega
  unfold setItem
  try with_reducible refine wpAny_holding ?_
  first | refine wpAny_bind (wpAny_pure ?_) | skip
  refine wpAny_bind (wpAny_sequenceKey hl.typeIs (by decide) ?_);refine wpAny_bind (wpAny_callSpecial?_slot (name := Str.ofString "__setitem__") hl.typeIs slot_list_setitem
    (wpAny_call_entry slot_list_setitem hl.typeIs entry_list_setitem ?_ (args_list_setitem _ _ _)))
  show wpAny _ _ (Builtin.List.listSubscript? (.ref sl) >>= _) _ _ s;refine wpAny_bind ?_;unfold Builtin.List.listSubscript?;refine wpAny_bind (wpAny_specialOf hTs slice_no_index ?_);simp only [Option.isNone_none, if_true];refine wpAny_pure ?_;show wpAny _ _ (typeOf (.ref sl) >>= _) _ _ s;refine wpAny_bind (wpAny_typeOf hTs ?_)
  first
    | rw [if_neg (by decide)]
    | refine PySem.W.KFB.if_not (by decide) ?_
  rw [listSliceParts_eq];refine wpAny_bind (wpAny_bind (wpAny_field hos hds (x := .none) rfl (wpAny_bind (wpAny_listPart .none ?_))));rw [if_neg hstep];refine wpAny_bind (wpAny_field hos hds (x := vl) rfl (wpAny_bind (wpAny_listPart pl ?_)));refine wpAny_bind (wpAny_field hos hds (x := vu) rfl (wpAny_bind (wpAny_listPart pu (wpAny_pure ?_))))
  first
    | simp only [hsame, qbG, if_false]
    | refine PySem.W.KFB.if_not hsame ?_
    | (dsimp only
       rw [if_neg (by rw [hsame]; exact qae)])
  refine wpAny_bind (m := Builtin.List.listAllItems (.ref b) "must assign iterable to extended slice") ?_;unfold Builtin.List.listAllItems;refine wpAny_bind (wpAny_typeOf hb.typeIs ?_)
  first
    | refine PySem.W.KFB.if_so (by decide) ?_
    | rw [if_pos (by decide)]
    | simp only [beq_self_eq_true, Bool.true_or, if_true]
  unfold Builtin.List.listItems;refine wpAny_bind (wpAny_seqItems e2 rfl (wpAny_pure ?_));refine wpAny_bind (wpAny_bind (wpAny_seqItems e rfl (wpAny_pure ?_)));refine wpAny_bind (wpAny_of_eq ((sliceIndices_raw (some (a : Int)) (some (c : Int)) none items.size (by simp)).trans (congrArg (pure : Int × Int × Int -> Sem (Int × Int × Int)) (ahL hac hc))) ?_);show wpAny _ _ (if ((1 : Int)==1) = true then _ else _) _ _ s;rw [if_pos (by decide)];refine wpAny_bind (wpAny_rule ?_)
  first
    | simp only [adK hsz, qbG, if_false]
    | refine PySem.W.KFB.if_not (adK hsz) ?_
  first | refine wpAny_bind (wpAny_pure ?_) | skip
  show wpAny _ _ (updateSeq l (fun xs => xs.extract 0 ((a : Int)).toNat ++ new ++ xs.extract (max (a : Int) (c : Int)).toNat xs.size) >>= _) _ _ s;rw [hmax, Int.toNat_natCast];refine wpAny_bind (wpAny_updateSeq (hz := qan (qb0 _ _) hsz) (_hz' := hz') e rfl ?_);refine wpAny_bind (wpAny_letGo ?_)
  first
    | exact wpAny_bind (wpAny_pure (wpAny_pure ⟨.none, rfl, wpAny_pure h⟩))
    | exact wpAny_pure ⟨.none, rfl, wpAny_pure h⟩
end
section
variable {X:Cx}
end
end L2
namespace Att
open PySem PySem.W PySem.Calls PyProof.Rows
theorem ad3{P:Params} : ∀ (ns:List Int) (vs:List Value),WellAll P h vs (ns.map WData.int)->IntsAre vs ns:=by
 intro ns
 induction ns with
 | nil=>
  intro vs w;rw [List.map_nil] at w
  cases w
  exact .nil
 | cons n ns ih=>
  intro vs w;rw [qak] at w
  cases w with
  | cons a b=>
   cases a
   exact .cons _ _ (ih _ b)
theorem aiC{l:OpenLaw}(hn:l.most=some n){P:Params}{args:List WData}{vals:List Value}(hpre:l.row.toRowW.claim.pre args=true)(hwl:WellAll P h vals args) :
  ∃ a vs ns,vals=[Value.ref a]/\args=[WData.list (ns.map WData.int)]/\h.get? a=some { cls:=.type "list",data:=.seq vs.toArray }/\IntsAre vs ns/\ns.length<=n:=by
 have hsh:WShape.hasAll [] args [.list .int]=true:=(pre_splitW hpre).1;have hc:l.pre.holds [] { args:=args }=true:=(pre_splitW hpre).2;obtain ⟨d,r,rfl,h1,h2⟩:=hasAllW_cons hsh;obtain rfl:=hasAllW_nil h2;obtain ⟨xs,rfl,h3⟩:=hasW_list h1;obtain ⟨ns,rfl⟩:=items_int h3;have hlen:ns.length<=n:=by
  unfold OpenLaw.pre at hc;have h4:(WTm.not (.lt (.lit (.int (n:Int))) (.len (.arg 0)))).holds [] { args:=[.list (ns.map .int)] }=true:=by
   have h4:=(holds_andW hc).1;rw [hn] at h4;exact h4
  have h5:=condW_of h4 (w_not (w_lt w_lit (w_len_list (w_arg rfl))));rw [qa0] at h5;refine Nat.le_of_not_lt fun q=>?_
  have q':(n:Int)<((ns.length:Nat):Int):=by omega
  first
   | (rw [decide_eq_true q'] at h5;exact absurd h5 (by decide))
   | (simp at h5;omega)
 cases hwl with
 | cons w1 w2=>
  cases w2
  cases w1 with
  | list ho hall=>exact ⟨_,_,ns,rfl,rfl,ho,ad3 ns _ hall,hlen⟩
theorem aiD(l:OpenLaw)(args:List WData):l.row.toRowW.claim.post args (.bool true) args=true:=
 postW_of (r:=l.row.toRowW) (X:=(true==true))
  (show WShape.has [] (.bool true) .bool=true by first | rfl | decide | simp [WShape.has,WShape.arms,WShape.armsAll])
  (show (WTm.eq .res (.lit (.bool true))).value [] { args:=args,res:=some (.bool true),after:=args }=some (.bool (true==true)) from w_eq_bool (w_res rfl) w_lit) rfl
theorem attach_call{l:OpenLaw}{q:Program}{XP:(Str->Option Value)->Heap->Prop}{YP:World->Heap->Prop}{d:DefRec}(hn:l.most=some n)(hdf:d.params.defaults=[])(call:∀ (w:World) (s₀ s₁:Shared) (mg mb:Str->Option Value) (fa:Addr) (o:Obj) (pm cd doc:Value) (a:Addr) (vs:List Value) (ns:List Int),
   Ground q loose [] XP w s₀ mg mb s₁.heap->YP w s₁.heap->
   s₁.heap.get? fa=some o->o.data=.func (docDef d.name d.params d.body d.scope pm cd doc)->s₁.heap.CodeRec cd d.name->mg d.name=some (.ref fa)->
   s₁.heap.get? a=some { cls:=.type "list",data:=.seq vs.toArray }->IntsAre vs ns->ns.length<=n->s₁.gens=#[]->
   codeAny (model l.prog w) callerA (.call (.ref fa) ⟨[.ref a],[]⟩) (fun r s'=>r=.ok (.ret (.bool true))/\OldK s₁.heap s'.heap/\s'.os=s₁.os/\AllBare s'.gens) s₁) :
  WalkO q loose XP YP l.row.toRowW d [] (fun f vs=>PySem.call f vs):=by
 intro w s₀ s₁ mg mb G Y fa o pm cd doc dV kV ho hd hcd hD hmg hg args vals as hpre hlay hrd hwl hlo;obtain rfl:dV=.none:=Dflts.none hD hdf;obtain rfl:kV=.none:=Dflts.noKw hD;obtain ⟨a,vs,ns,rfl,rfl,hobj,hints,hlen⟩:=aiC hn hpre hwl;refine enter_call (codeAny_mono (call w s₀ s₁ mg mb fa o pm cd doc a vs ns G Y ho (fd_plain hd) hcd hmg hobj hints hlen hg) fun r s' hq=>?_);obtain ⟨rfl,h2,h3,h4⟩:=hq;exact ⟨.inl ⟨.bool true,.bool true,[],rfl,fun _=>rfl,.bool true,aiD l _,fun _=>⟨List.Pairwise.nil,fun _ hm=>(nomatch hm)⟩⟩,h2,h3,h4⟩
section
variable {prog:Program} {w:World} {A:Around} {E:Value->Shared->Prop} {s:Shared} {K:Frag}
end
end Att
namespace L2
open PySem PySem.Spec PyProof.Rows
theorem afJ:∀ {vs:List Value} {ns:List Int},IntsAre vs ns->Vals (ns.map V.int) vs
 | _,_,.nil=>.nil
 | _,_,.cons n t h=>.cons ⟨t,rfl⟩ (afJ h)
noncomputable def Only (H:Hp):Prop:=∀ b,H b=none\/∃ o xs,H b=some (.frz o (.lst xs))
theorem aj2{P:Program}{w:World}{mb:Str->Option Value}{CX:CXT}{x:Str}{s₁:Shared}{vs:List Value}(KX:K.In s₁.heap)(hns:s₁.heap.Ns mainGlobals mg)(hb:s₁.heap.Ns builtinsNs mb)(hbb:∀ x:Str,x≠"__name__"->mb x=bootBuiltins x)(hlim:s₁.heap.NoLimit)(hg:s₁.gens=#[])(ha:s₁.heap.get? a=some { cls:=.type "list",data:=.seq vs.toArray })(hi:IntsAre vs ns)(hl:ns.length<=sizeLine)(hr:Room k callerA)(F:∀ base:Heap,K.In base->base.Ns mainGlobals mg->FnOk P w K mg base CX k fa fd [x] sp)(hbind:∀ (s:Shared) (u:Value),BindsTo s fd ⟨[u],[]⟩ [(x,u)])(hsp:∀ H:Hp,Only H->SqL K H a (ns.map V.int)->sp [.ref a] H (fun v _=>v=.bl true) fun _ _ _=>False)(hCX:∀ H e s',CX [] H s₁ (fun _ _ _=>False) e s'->False) :
  codeAny (model P w) callerA (.call (.ref fa) ⟨[.ref a],[]⟩) (fun r s'=>r=.ok (.ret (.bool true))/\OldK s₁.heap s'.heap/\s'.os=s₁.os/\AllBare s'.gens) s₁:=by
 have rv:=afJ hi;have lenV:=hi.length;have core:∀ H:Hp,Only H->SqL K H a (ns.map V.int)->HOk P w H s₁.heap->(∀ b,H b≠none->b=a)->(H a≠none->K.lookup a=none)->
   codeAny (model P w) callerA (.call (.ref fa) ⟨[.ref a],[]⟩) (fun r s'=>r=.ok (.ret (.bool true))/\OldK s₁.heap s'.heap/\s'.os=s₁.os/\AllBare s'.gens) s₁:=by
  intro H hO hS hok hA hK;have base_of:∀ {b:Addr} {o:Obj},s₁.heap.get? b=some o->H b=none->(hidT s₁.heap H).get? b=some o:=fun e n=>ajL e n
  have noA:∀ {b:Addr} {o:Obj} {es:Array DictEntry} {ep:Nat},s₁.heap.get? b=some o->o.data=.dict es ep->H b=none:=fun {b o es ep} e d=>by
   cases q:H b with
   | none=>rfl
   | some u=>
    have e':b=a:=hA b (by rw [q];simp);subst e';rw [ha] at e;cases e;have d':Data.seq vs.toArray _=Data.dict es ep:=d
    cases d'
  have nsK:∀ {b:Addr} {m:Str->Option Value},s₁.heap.Ns b m->(hidT s₁.heap H).Ns b m:=fun {b m} ⟨o,es,ep,e,d,r⟩=>⟨o,es,ep,base_of e (noA e d),d,r⟩
  have hKb:K.In (hidT s₁.heap H):=fun b o e=>base_of (KX b o e) (by
   cases q:H b with
   | none=>rfl
   | some u=>
    have e':b=a:=hA b (by rw [q];simp);subst e';rw [hK (by rw [q];simp)] at e;cases e)
  have hM:Mod K mg (hidT s₁.heap H):=⟨hKb,nsK hns,⟨mb,nsK hb,hbb⟩,let ⟨mc,h1,h2⟩:=hlim;⟨mc,nsK h1,h2⟩⟩
  have e0:Env0 P w K mg (hidT s₁.heap H) callerA [] s₁ H:=⟨rfl,hM,fun b o e=>alj e,Nat.le_of_eq (aif _ _),trivial,fun b hb=>absurd (show b∈([]:List Addr) from hb) (by simp),hok,.of_eq hg⟩
  refine codeAny_mono ((F _ hKb (nsK hns)).run callerA [] s₁ H ⟨[.ref a],[]⟩ [.ref a] [.ref a] _ _ hr e0 (hbind s₁ (.ref a)) (.cons rfl .nil) (hsp H hO hS)) fun r s' h=>?_
  cases r with
  | error e=>exact (hCX H e s' h).elim
  | ok fl=>
   cases fl with
   | next=>exact False.elim h
   | brk=>exact False.elim h
   | cont=>exact False.elim h
   | ret u=>
    obtain ⟨v,H',os,bare,un,hok',r',q⟩:=h;have q':v=.bl true:=q;subst q';obtain rfl:u=Value.bool true:=r';refine ⟨rfl,OldK.of_keep fun b o e=>?_,os,bare⟩
    cases q:H b with
    | none=>exact un.keep b o e q (by intro z;exact absurd (show b∈([]:List Addr) from z) (by simp)) (by simp)
    | some u=>
     rcases hO b with z | ⟨ob,xs,z⟩
     ·rw [q] at z;cases z
     ·have z2:=un.frzs b ob _ z;obtain ⟨e1,_⟩:=hok b _ z;obtain ⟨e2,_⟩:=hok' b _ z2;rw [e] at e1;cases e1;exact e2
 cases hk:K.lookup a with
 | some o=>
  have e:=KX a o hk;rw [ha] at e;cases e;refine core (fun _=>none) (fun _=>.inl rfl) (.inr ⟨_,vs.toArray,_,hk,rfl,rfl,rfl,by rw [qai,lenV];exact hl,by simpa using rv⟩) (fun b u z=>by have z':(none:Option HO)=some u:=z;cases z') (fun b z=>absurd rfl z) fun z=>absurd rfl z
 | none=>
  refine core (fun b=>if b=a then some (.frz { cls:=.type "list",data:=.seq vs.toArray } (.lst (ns.map V.int))) else none) (fun b=>?_) (.inl (.inr ⟨{ cls:=.type "list",data:=.seq vs.toArray },if_pos rfl⟩)) (fun b u z=>?_) (fun b z=>?_) fun _=>hk
  ·by_cases hb:b=a
   ·exact .inr ⟨_,_,if_pos hb⟩
   ·exact .inl (if_neg hb)
  ·by_cases hb:b=a
   ·have z':=(if_pos hb).symm.trans z
    cases z'
    subst hb;exact ⟨ha,by rw [qa0];exact hl,vs,_,rv,ha⟩
   ·have z':=(if_neg hb).symm.trans z
    cases z'
  ·by_cases hb:b=a
   ·exact hb
   ·exact absurd (if_neg hb) z
end L2
namespace L2
open PySem PySem.Spec PyProof.Rows
theorem walk_of{l:PySem.W.OpenLaw}{q:Program}{XP:(Str->Option Value)->Heap->Prop}{YP:World->Heap->Prop}{d:DefRec}{K:Params->PySem.W.Frag}{CX:World->CXT}{sp:World->Sp}{x:Str}(hn:l.most=some n)(hn2:n<=sizeLine)(hdf:d.params.defaults=[])(hr:Room k callerA)(hY:∀ (w:World) (h:Heap),YP w h->(K w.params).In h)(F:∀ (w:World) (mg:Str->Option Value) (fa:Addr) (h:Heap),(K w.params).In h->h.Ns mainGlobals mg->mg d.name=some (.ref fa)->
   ∃ fd:FuncData,(∀ (s:Shared) (u:Value),BindsTo s fd ⟨[u],[]⟩ [(x,u)])/\
    ∀ base:Heap,(K w.params).In base->base.Ns mainGlobals mg->FnOk l.prog w (K w.params) mg base (CX w) k fa fd [x] (sp w))(hsp:∀ (w:World) (H:Hp) (a:Addr) (ns:List Int),ns.length<=n->Only H->SqL (K w.params) H a (ns.map V.int)->sp w [.ref a] H (fun v _=>v=.bl true) fun _ _ _=>False)(hCX:∀ (w:World) (H:Hp) (s:Shared) (e:Value) (s':Shared),CX w [] H s (fun _ _ _=>False) e s'->False) :
  PySem.W.WalkO q loose XP YP l.row.toRowW d [] (fun f vs=>PySem.call f vs):=by
 refine Att.attach_call hn hdf fun w s₀ s₁ mg mb fa o pm cd doc a vs ns G Y ho hd hcd hmg hobj hints hlen hg=>?_
 have KX:=hY w _ Y;obtain ⟨fd,hb,hF⟩:=F w mg fa _ KX G.T.g hmg;exact aj2 KX G.T.g G.T.b G.T.builtins G.T.nolimit hg hobj hints (qan hlen hn2) hr hF hb (fun H hO hS=>hsp w H a ns hlen hO hS) fun H e s'=>hCX w H s₁ e s'
end L2
namespace L2
open PySem PySem.Spec PyProof.Rows
noncomputable def ad4 (s:Stmt) (j:Nat):Stmt:=match s with
 | .ClassDef _ _ _ body _ _ _ _ _ _ _=>body.getD j (.Pass ⟨0,0,0,0⟩)
 | _=>.Pass ⟨0,0,0,0⟩
noncomputable def abt (s:Stmt):Arguments:=match s with
 | .FunctionDef _ a _ _ _ _ _ _ _ _=>a
 | _=>{ posonlyargs:=[],args:=[],vararg:=none,kwonlyargs:=[],kw_defaults:=[],kwarg:=none,defaults:=[] }
noncomputable def abh (s:Stmt):List Stmt:=match s with
 | .FunctionDef _ _ b _ _ _ _ _ _ _=>b
 | _=>[]
noncomputable def aaf (s:Stmt):Scope:=match s with
 | .FunctionDef _ _ _ _ _ _ sc _ _ _=>sc
 | _=>{ kind:=.function,names:=[],isGenerator:=false,isCoroutine:=false }
noncomputable abbrev CX0:CXT:=fun _ _ _ _ _ _=>False
noncomputable abbrev E0:XK:=fun _ _ _=>False
theorem pass0 : adZ CX0 X E0:=fun _ _ _ _ _ _ _ h=>h.elim
structure Fun(K:PySem.W.Frag)(x qual:Str)(st:Stmt)(f:Addr)(fd:FuncData):Prop where
 ex:∃ (oc:Value) (od:Option Addr) (kV doc pm:Value) (an:Option Addr) (cdv ct:Value) (osl:Array (Option Value)),
  fd=qaM x qual (abt st) (abh st) (aaf st) .none kV doc pm an cdv ct/\K.lookup f=some ⟨oc,od,.func fd,osl⟩/\qaS K cdv qual=true
 kp:qaL K (.ref f)=true
section
variable {P:Program} {w:World} {K:PySem.W.Frag} {mg:Str->Option Value} {base:Heap}
theorem Fun.ok{x:Str}(F:Fun K x qual st f fd)(S:FnScope N ps (aaf st))(len:∀ vs H Q E,sp vs H Q E->vs.length=ps.length)(hbody:∀ (cdv:Value) (A:Around) (outer:List Env) (s:Shared) (H:Hp) (vs:List V) (Q:VK) (E:XK),Room k (A.deeper (envOfC qual (aaf st) s.heap.objs.size f cdv))->sp vs H Q E->
   ∃ t,PSs (cxOf CX0 P w K mg base N qual (aaf st) f cdv A outer s H E).nox (abh st) t/\t { nx:=fun _ H'=>Q .non H',rt:=Q } (start N vs) H):FnOk P w K mg base CX0 (k+1) f fd ps sp:=by
 obtain ⟨oc,od,kV,doc,pm,an,cdv,ct,osl,rfl,lk,hcd⟩:=F.ex;refine fn_of lk hcd S len fun A outer s H vs Q E hr hsp=>?_
 obtain ⟨t,h,q⟩:=hbody cdv A outer s H vs Q E hr hsp;exact ⟨t,h.nox,q⟩
theorem Fun.binds{x:Str}(F:Fun K x qual st f fd)(h:∀ (kV doc pm:Value) (an:Option Addr) (cdv ct:Value) (us:List Value),us.length=ps.length->bindArgs (qaM x qual (abt st) (abh st) (aaf st) .none kV doc pm an cdv ct) ⟨us,[]⟩=pure (ps.zip us)):Binds K fd ps []:=by
 obtain ⟨oc,od,kV,doc,pm,an,cdv,ct,osl,rfl,lk,hcd⟩:=F.ex;exact .all (h kV doc pm an cdv ct)
end
theorem hu_of(hr:Room k A):A.units+1<cLine:=qbu (Nat.add_le_add_left (by decide:1<=64) _) hr.units
section
variable {X:Cx}
end
theorem iteF{A B:Prop}(h:B):if false=true then A else B:=by
 rw [if_neg qae];exact h
theorem iteT{A B:Prop}(h:A):if true=true then A else B:=by
 rw [if_pos rfl];exact h
noncomputable def Same (H H':Hp):Prop:=∀ b o,H b=some o->H' b=some o
theorem uah(H:Hp):Same H H:=fun _ _ h=>h
theorem Same.trans(a:Same H H1)(b:Same H1 H2):Same H H2:=fun c o h=>b c o (a c o h)
theorem Same.free(e:Same H H'){l:Addr}(h:H' l=Option.none):H l=Option.none:=by
 cases q:H l with
 | none=>rfl
 | some o=>
  rw [e l o q] at h;cases h
theorem Same.seq(e:Same H H')(h:SqL K H a xs):SqL K H' a xs:=by
 rcases h with (h | ⟨o,h⟩) | h
 ·exact .inl (.inl (e _ _ h))
 ·exact .inl (.inr ⟨o,e _ _ h⟩)
 ·exact .inr h
end L2
set_option maxRecDepth 100000
namespace L2
open PySem PySem.Spec PyProof.Rows
section
variable {κ:Type} [DecidableEq κ]
noncomputable def valV (kvs:List (κ×V)) (k:κ):Option V:=(kvs.find? fun kv=>decide (kv.1=k)).map (·.2)
noncomputable def putK (kvs:List (κ×V)) (k:κ) (v:V):List (κ×V):=
 if (kvs.any fun kv=>decide (kv.1=k))=true then kvs.map (fun kv=>if kv.1=k then (kv.1,v) else kv) else kvs++[(k,v)]
noncomputable def dropK (kvs:List (κ×V)) (k:κ):List (κ×V):=kvs.filter fun kv=>decide (kv.1≠k)
theorem adL{p:κ×V}{r:List (κ×V)}{k:κ}(e:p.1=k):valV (p::r) k=some p.2:=by simp [valV,qb3,e]
theorem abS{p:κ×V}{r:List (κ×V)}{k:κ}(e:¬ p.1=k):valV (p::r) k=valV r k:=by simp [valV,qb3,e]
theorem ae6(k:κ):∀ kvs:List (κ×V),(kvs.any fun kv=>decide (kv.1=k))=(valV kvs k).isSome
 | []=>rfl
 | p::r=>by
  rw [qbr]
  by_cases e:p.1=k
  ·simp only [adL e,decide_eq_true e,Bool.true_or,Option.isSome_some]
  ·rw [abS e,decide_eq_false e,Bool.false_or];exact ae6 k r
theorem ac7(kvs:List (κ×V))(k:κ)(v:V):(putK kvs k v).length<=kvs.length+1:=by
 unfold putK
 split
 ·rw [qa0];omega
 ·rw [qa1,qad,qaG];omega
theorem aj3{kvs:List (κ×V)}{k:κ}(v:V)(h:valV kvs k=none):putK kvs k v=kvs++[(k,v)]:=by
 unfold putK;rw [ae6,h];exact if_neg (by decide)
theorem RelO.isSome_eq{o:Option V}{u:Option Value}(r:RelO o u):o.isSome=u.isSome:=by
 cases o with
 | none=>cases u with
  | none=>rfl
  | some _=>exact (show False from r).elim
 | some _=>cases u with
  | none=>exact (show False from r).elim
  | some _=>rfl
theorem RelO.getD{o:Option V}{u:Option Value}{d:V}{d':Value}(r:RelO o u)(rd:RelV d d'):RelV (o.getD d) (u.getD d'):=by
 cases o with
 | none=>cases u with
  | none=>exact rd
  | some _=>exact (show False from r).elim
 | some _=>cases u with
  | none=>exact (show False from r).elim
  | some _=>exact r
theorem KV.val{kvs:List (κ×V)}{vs:List (κ×Value)}(r:KV kvs vs)(k:κ):RelO (valV kvs k) (valueAt vs k):=by
 unfold KV at r
 induction r with
 | nil=>exact True.intro
 | @cons p q ps qs h t ih=>
  obtain ⟨h1,h2⟩:=h
  by_cases e:p.1=k
  ·have e':q.1=k:=h1.symm.trans e;have b:valueAt (q::qs) k=some q.2:=by simp [valueAt,qb3,e']
   rw [adL e,b];exact h2
  ·have e':¬ q.1=k:=fun z=>e (h1.trans z)
   have b:valueAt (q::qs) k=valueAt qs k:=by simp [valueAt,qb3,e']
   rw [abS e,b];exact ih
theorem KV.any{kvs:List (κ×V)}{vs:List (κ×Value)}(r:KV kvs vs)(k:κ):(kvs.any fun kv=>decide (kv.1=k))=vs.any fun kv=>decide (kv.1=k):=by
 unfold KV at r
 induction r with
 | nil=>rfl
 | cons h t ih=>rw [qbr,qbr,ih,h.1]
theorem KV.repl{kvs:List (κ×V)}{vs:List (κ×Value)}(r:KV kvs vs)(k:κ)(ry:RelV y u) :
  KV (kvs.map fun kv=>if kv.1=k then (kv.1,y) else kv) (vs.map fun kv=>if kv.1=k then (kv.1,u) else kv):=by
 unfold KV at r ⊢
 induction r with
 | nil=>exact .nil
 | @cons p q ps qs h t ih=>
  rw [qak,qak];refine .cons ?_ ih;obtain ⟨h1,h2⟩:=h
  by_cases e:p.1=k
  ·rw [if_pos e,if_pos (h1.symm.trans e)];exact ⟨h1,ry⟩
  ·rw [if_neg e,if_neg (fun z=>e (h1.trans z))];exact ⟨h1,h2⟩
theorem KV.put{kvs:List (κ×V)}{vs:List (κ×Value)}(r:KV kvs vs)(k:κ)(ry:RelV y u):KV (putK kvs k y) (stored vs k u):=by
 unfold putK stored;rw [r.any k]
 by_cases e:(vs.any fun kv=>decide (kv.1=k))=true
 ·rw [if_pos e,if_pos e];exact r.repl k ry
 ·rw [if_neg e,if_neg e];exact Paired.snoc r ⟨rfl,ry⟩
theorem KV.drop{kvs:List (κ×V)}{vs:List (κ×Value)}(r:KV kvs vs)(k:κ):KV (dropK kvs k) (without vs k):=by
 unfold KV at r ⊢
 unfold dropK without
 induction r with
 | nil=>exact .nil
 | @cons p q ps qs h t ih=>
  obtain ⟨h1,h2⟩:=h;rw [List.filter_cons,List.filter_cons]
  by_cases e:p.1=k
  ·have a:¬ decide (p.1≠k)=true:=by simp [e]
   have b:¬ decide (q.1≠k)=true:=by simp [h1.symm.trans e]
   rw [if_neg a,if_neg b];exact ih
  ·have e':¬ q.1=k:=fun z=>e (h1.trans z)
   have a:decide (p.1≠k)=true:=by simp [e]
   have b:decide (q.1≠k)=true:=by simp [e']
   rw [if_pos a,if_pos b];exact .cons ⟨h1,h2⟩ ih
theorem KV.keys{kvs:List (κ×V)}{vs:List (κ×Value)}(r:KV kvs vs):kvs.map (·.1)=vs.map (·.1):=by
 unfold KV at r
 induction r with
 | nil=>rfl
 | cons h t ih=>rw [qak,qak,ih,h.1]
theorem KV.length{kvs:List (κ×V)}{vs:List (κ×Value)}(r:KV kvs vs):kvs.length=vs.length:=Paired.length r
end
theorem kV_is{P:Program}{w:World}{k:Key}(r:RelV (kV k) u):(aaR P w).is k u=true:=by
 cases k with
 | inl i=>obtain ⟨t,e⟩:=(show ∃ t,u=Value.int i t from r);subst e;exact agq P w i t
 | inr x=>obtain ⟨t,e⟩:=(show ∃ t,u=Value.str x t from r);subst e;exact agr P w x t
theorem afK{P:Program}{w:World} : ∀ {ks:List Key} {us:List Value},Vals (ks.map kV) us->ItemsAre (aaR P w) ks us
 | [],_,r=>by rw [List.map_nil] at r;cases r;exact .nil
 | k::ks,_,r=>by
  rw [qak] at r
  cases r with
  | cons h t=>exact .cons (kV_is h) (afK t)
noncomputable abbrev KT (H:Hp):List (List Key×V)->List (List Key×Addr×Value)->Prop:=Paired fun p q=>p.1=q.1/\H q.2.1=some (.tup (p.1.map kV))/\RelV p.2 q.2.2
theorem KT.val{kvs:List (List Key×V)}{xs:List (List Key×Addr×Value)}(r:KT H kvs xs)(k:List Key):RelO (valV kvs k) ((atKey xs k).map (·.2)):=by
 induction r with
 | nil=>exact True.intro
 | @cons p q ps qs h t ih=>
  obtain ⟨h1,_,h2⟩:=h
  by_cases e:p.1=k
  ·have e':q.1=k:=h1.symm.trans e;have b:atKey (q::qs) k=some q.2:=by simp [atKey,qb3,e']
   rw [adL e,b];exact h2
  ·have e':¬ q.1=k:=fun z=>e (h1.trans z)
   have b:atKey (q::qs) k=atKey qs k:=by simp [atKey,qb3,e']
   rw [abS e,b];exact ih
theorem KT.repl{kvs:List (List Key×V)}{xs:List (List Key×Addr×Value)}(r:KT H kvs xs)(k:List Key)(ry:RelV y u) :
  KT H (kvs.map fun kv=>if kv.1=k then (kv.1,y) else kv) (xs.map (putAt k u)):=by
 induction r with
 | nil=>exact .nil
 | @cons p q ps qs h t ih=>
  rw [qak,qak];refine .cons ?_ ih;obtain ⟨h1,h2,h3⟩:=h;unfold putAt
  by_cases e:p.1=k
  ·rw [if_pos e,if_pos (h1.symm.trans e)];exact ⟨h1,h2,ry⟩
  ·rw [if_neg e,if_neg (fun z=>e (h1.trans z))];exact ⟨h1,h2,h3⟩
theorem KT.put{kvs:List (List Key×V)}{xs:List (List Key×Addr×Value)}(r:KT H kvs xs)(k:List Key)(hb:H b=some (.tup (k.map kV)))(ry:RelV y u) :
  KT H (putK kvs k y) (storedH xs k b u):=by
 have e:(kvs.any fun kv=>decide (kv.1=k))=(atKey xs k).isSome:=by
  rw [ae6,(r.val k).isSome_eq,Option.isSome_map]
 unfold putK storedH;rw [e]
 by_cases q:(atKey xs k).isSome=true
 ·rw [if_pos q,if_pos q];exact r.repl k ry
 ·rw [if_neg q,if_neg q];exact Paired.snoc r ⟨rfl,hb,ry⟩
theorem KT.keeps{kvs:List (List Key×V)}{xs:List (List Key×Addr×Value)}(r:KT H kvs xs)(ht:∀ b ys,H b=some (.tup ys)->H' b=some (.tup ys)):KT H' kvs xs:=
 uam r fun _ _ z=>⟨z.1,ht _ _ z.2.1,z.2.2⟩
section
variable {P:Program} {w:World} {H:Hp} {h:Heap} {a:Addr}
theorem rd_of{u:HO}(ok:HOk P w H h)(e:Rd H a u):ObjOk P w H h a u:=e.ok ok
theorem dk_rd(ok:HOk P w H h)(e:Rd H a (.dK kvs)):kvs.length<=sizeLine/\(a==sysModules)=false/\∃ vs,KV kvs vs/\h.DictOf (aaR P w) a vs:=
 show ObjOk P w H h a (.dK kvs) from rd_of ok e
theorem dk_of(ok:HOk P w H h)(e:H a=some (.dK kvs)):kvs.length<=sizeLine/\(a==sysModules)=false/\∃ vs,KV kvs vs/\h.DictOf (aaR P w) a vs:=dk_rd ok (.inl e)
theorem aeI{ks:List Key}(ok:HOk P w H h)(e:H a=some (.tup (ks.map kV))):(tupleKind (aaR P w)).is h ks a:=by
 obtain ⟨_,its,r,o,h1,h2,n,h3⟩:=(show ObjOk P w H h a (.tup (ks.map kV)) from ok a _ e)
 exact ⟨o,its.toArray,n,h1,h2,h3,by simpa using afK r⟩
theorem dt_rd{kvs:List (List Key×V)}(ok:HOk P w H h)(e:Rd H a (.dT kvs)):kvs.length<=sizeLine/\(a==sysModules)=false/\
  ∃ xs,KT H kvs xs/\h.DictOfH (tupleKind (aaR P w)) a xs:=by
 obtain ⟨z,y,xs,r,o,es,ep,h1,h2,h3,h4,h5⟩:=(show ObjOk P w H h a (.dT kvs) from rd_of ok e)
 refine ⟨z,y,xs,r,o,es,ep,h1,h2,h3,h4,fun x hx=>?_,h5⟩;have all:∀ {l:List (List Key×V)} {m:List (List Key×Addr×Value)},KT H l m->∀ x∈m,(tupleKind (aaR P w)).is h x.1 x.2.1:=by
  intro l m q
  induction q with
  | nil=>intro x hx;exact nomatch hx
  | @cons p q ps qs hq t ih=>
   intro x hx
   rcases qaa.mp hx with e | hx
   ·subst e;exact aeI ok (by rw [<- hq.1];exact hq.2.1)
   ·exact ih x hx
 exact all r x hx
theorem dt_of{kvs:List (List Key×V)}(ok:HOk P w H h)(e:H a=some (.dT kvs)):kvs.length<=sizeLine/\(a==sysModules)=false/\
  ∃ xs,KT H kvs xs/\h.DictOfH (tupleKind (aaR P w)) a xs:=dt_rd ok (.inl e)
end
noncomputable def DGet (H:Hp) (a:Addr) (y:V) (r:Option V):Prop:=
 (∃ kvs k,Rd H a (.dK kvs)/\y=kV k/\r=valV kvs k)\/∃ kvs k b,Rd H a (.dT kvs)/\y=.ref b/\H b=some (.tup (k.map kV))/\r=valV kvs k
noncomputable def DPut (H:Hp) (a:Addr) (y v:V) (H':Hp):Prop:=
 (∃ kvs k,H a=some (.dK kvs)/\y=kV k/\kvs.length<sizeLine/\H'=upd H a (.dK (putK kvs k v)))\/
 ∃ kvs k b,H a=some (.dT kvs)/\y=.ref b/\H b=some (.tup (k.map kV))/\kvs.length<sizeLine/\H'=upd H a (.dT (putK kvs k v))
theorem ual{k:Key}(e:H a=some (.dK kvs)):DGet H a (kV k) (valV kvs k):=.inl ⟨kvs,k,.inl e,rfl,rfl⟩
theorem DGet.t{kvs:List (List Key×V)}{k:List Key}(e:H a=some (.dT kvs))(eb:H b=some (.tup (k.map kV))):DGet H a (.ref b) (valV kvs k):=.inr ⟨kvs,k,b,.inl e,rfl,eb,rfl⟩
theorem uab{k:Key}{v:V}(e:H a=some (.dK kvs))(hl:kvs.length<sizeLine):DPut H a (kV k) v (upd H a (.dK (putK kvs k v))):=.inl ⟨kvs,k,e,rfl,hl,rfl⟩
theorem DPut.t{kvs:List (List Key×V)}{k:List Key}{v:V}(e:H a=some (.dT kvs))(eb:H b=some (.tup (k.map kV)))(hl:kvs.length<sizeLine) :
  DPut H a (.ref b) v (upd H a (.dT (putK kvs k v))):=.inr ⟨kvs,k,b,e,rfl,eb,hl,rfl⟩
section
variable {X:Cx} {pins:List (Addr×Obj)} {σ:St} {H:Hp} {s:Shared} {a:Addr} {y v:V} {u r:Value} {o:Option V} {A:Around} {E:Value->Shared->Prop}
theorem Inv.big(I:Inv X pins σ H s):sysModules<s.heap.objs.size:=by
 have h:mainGlobals<s.heap.objs.size:=(I.mod.glob.keeps I.bk).lt;exact Nat.lt_trans (by decide) h
theorem afL{Q:Value->Shared->Prop}(hu:A.units+1<cLine)(I:Inv X pins σ H s)(g:DGet H a y (some v))(ry:RelV y u)(h:∀ w' s',Inv X pins σ H s'->RelV v w'->Q w' s') :
  wpAny (model X.prog X.w) A (getItem (.ref a) u) Q E s:=by
 rcases g with ⟨kvs,k,e,ey,l⟩ | ⟨kvs,k,b,e,ey,eb,l⟩
 ·subst ey;obtain ⟨z,hd,vs,rel,dd⟩:=dk_rd I.hok e;obtain ⟨w',hw,rw'⟩:=uaj (v:=v) (o:=valueAt vs k) (by rw [l];exact rel.val k);exact wpAny_getItem_of (kV_is ry) dd.mapOf hw (h w' _ (I.tok _) rw')
 ·subst ey
  cases (show u=Value.ref b from ry)
  obtain ⟨z,hd,xs,rel,dd⟩:=dt_rd I.hok e;obtain ⟨w',hw,rw'⟩:=uaj (v:=v) (o:=(atKey xs k).map (·.2)) (by rw [l];exact rel.val k);obtain ⟨p,hp,hp2⟩:=Option.map_eq_some_iff.mp hw;refine wpAny_getItem_heap (tupleKind_room_in1 hu) (aeI I.hok eb) dd hp ?_;rw [hp2];exact h w' _ (I.tok _) rw'
theorem d_in{Q:Value->Shared->Prop}(hu:A.units+1<cLine)(I:Inv X pins σ H s)(g:DGet H a y o)(ry:RelV y u)(h:∀ s',Inv X pins σ H s'->Q (.bool o.isSome) s') :
  wpAny (model X.prog X.w) A (compareOp .In u (.ref a)) Q E s:=by
 rcases g with ⟨kvs,k,e,ey,l⟩ | ⟨kvs,k,b,e,ey,eb,l⟩
 ·subst ey;obtain ⟨z,hd,vs,rel,dd⟩:=dk_rd I.hok e;refine wpAny_in_of (kV_is ry) hd dd.mapOf ?_;rw [<- (rel.val k).isSome_eq,<- l];exact h _ (I.tok _)
 ·subst ey
  cases (show u=Value.ref b from ry)
  obtain ⟨z,hd,xs,rel,dd⟩:=dt_rd I.hok e;refine wpAny_in_heap (tupleKind_room_in1 hu) (aeI I.hok eb) hd dd ?_;have q:=(rel.val k).isSome_eq;rw [Option.isSome_map] at q;rw [<- q,<- l];exact h _ (I.tok _)
theorem alM{Q:Value->Shared->Prop}(hu:A.units+1<cLine)(I:Inv X pins σ H s)(g:DGet H a y o)(ry:RelV y u)(h:∀ s',Inv X pins σ H s'->Q (.bool (!o.isSome)) s') :
  wpAny (model X.prog X.w) A (compareOp .NotIn u (.ref a)) Q E s:=by
 rcases g with ⟨kvs,k,e,ey,l⟩ | ⟨kvs,k,b,e,ey,eb,l⟩
 ·subst ey;obtain ⟨z,hd,vs,rel,dd⟩:=dk_rd I.hok e;refine wpAny_notIn_of (kV_is ry) hd dd.mapOf ?_;rw [<- (rel.val k).isSome_eq,<- l];exact h _ (I.tok _)
 ·subst ey
  cases (show u=Value.ref b from ry)
  obtain ⟨z,hd,xs,rel,dd⟩:=dt_rd I.hok e;refine wpAny_notIn_heap (tupleKind_room_in1 hu) (aeI I.hok eb) hd dd ?_;have q:=(rel.val k).isSome_eq;rw [Option.isSome_map] at q;rw [<- q,<- l];exact h _ (I.tok _)
theorem agv{ob:HO}(I:Inv X pins σ H s)(mu:Mut (H a))(hs:Heap.SameBut a s.heap h')(he:∃ q,h'.get? a=some q)(new:ObjOk X.prog X.w (upd H a ob) h' a ob) :
  Inv X pins σ (upd H a ob) { s with heap:=h',toks:=t' }:=
 I.write (x:=a) (e:=a) mu (.inl rfl) (fun b q hb z=>(hs.2 b hb).trans z) he new
theorem aiE{P:Program}{w:World}{vs:List (Key×Value)}(z:kvs.length<=sizeLine)(hd:(a==sysModules)=false)(rel:KV kvs vs)(dd:h'.DictOf (aaR P w) a vs) :
  ObjOk P w H' h' a (.dK kvs):=⟨z,hd,vs,rel,dd⟩
theorem afM{Q:Unit->Shared->Prop}(hu:A.units+1<cLine)(I:Inv X pins σ H s)(g:DPut H a y v H')(ry:RelV y u)(rv:RelV v r)(h:∀ s',Inv X pins σ H' s'->Q () s') :
  wpAny (model X.prog X.w) A (setItem (.ref a) u r) Q E s:=by
 rcases g with ⟨kvs,k,e,ey,l,eH⟩ | ⟨kvs,k,b,e,ey,eb,l,eH⟩
 ·subst ey eH;obtain ⟨z,hd,vs,rel,dd⟩:=dk_of I.hok e;have hz:vs.length<=sizeLine:=by rw [<- rel.length];exact z
  have hl:(putK kvs k v).length<=sizeLine:=by have:=ac7 kvs k v;omega
  refine wpAny_setItem_pairs (hsz:=hz) (kV_is ry) dd fun h' dd' hs=>h _ ?_
  have he:∃ q,h'.get? a=some q:=let ⟨q,_,_,hq,_⟩:=dd';⟨q,hq⟩
  exact agv I (by rw [e];exact True.intro) hs he (aiE hl hd (rel.put k rv) dd')
 ·subst ey eH
  cases (show u=Value.ref b from ry)
  obtain ⟨z,hd,xs,rel,dd⟩:=dt_of I.hok e;have hz:xs.length<=sizeLine:=by rw [<- Paired.length rel];exact z
  have hl:(putK kvs k v).length<=sizeLine:=by have:=ac7 kvs k v;omega
  refine wpAny_setItem_heap (hsz:=hz) (tupleKind_room_in1 hu) (aeI I.hok eb) dd fun h' dd' hs=>h _ ?_
  obtain ⟨q,es,ep,hq,h2,h3,h4,_,h5⟩:=dd';refine agv I (by rw [e];exact True.intro) hs ⟨q,hq⟩ ⟨hl,hd,_,(rel.put k eb rv).keeps fun c ys ec=>?_,q,es,ep,hq,h2,h3,h4,h5⟩;rw [aah (ne_of ec e (fun z=>nomatch z))];exact ec
end
section
variable {X:Cx} {pins:List (Addr×Obj)} {σ:St} {H:Hp} {s:Shared} {a:Addr} {kvs:List (Key×V)} {k:Key} {u:Value} {A:Around} {E:Value->Shared->Prop}
theorem d_len{Q:Value->Shared->Prop}(I:Inv X pins σ H s)(e:Rd H a (.dK kvs))(h:∀ t s',Inv X pins σ H s'->Q (.int kvs.length t) s'):wpAny (model X.prog X.w) A (call (.builtin "len") [.ref a]) Q E s:=by
 obtain ⟨z,hd,vs,rel,dd⟩:=dk_rd I.hok e;refine call_len_dict hd dd (by rw [<- rel.length];rw [sizeLine_eq] at z;omega) ?_;rw [<- rel.length];exact h _ _ (I.tok _)
end
noncomputable def NoSl (i:Expr):Prop:=∀ ov iv,subscripted i false ov iv=operate [ov,iv] (getItem ov iv)
theorem aiF{w:World}{env:Env}{value slice:Expr}{pos:Pos}{T id:String}{Q:Value->Shared->Prop}(hl:typeLookup (.type T) "__getitem__"=pure (some (.builtin id)))(hs:NoSl slice)(h:wpAny (model prog w) A (eval value env) (fun o s₁=>wpAny (model prog w) A (eval slice env) (fun i s₂=>s₂.TypeIs o T/\wpAny (model prog w) A (getItem o i) Q E s₂) E s₁) E s) :
  wpAny (model prog w) A (eval (.Subscript value slice pos) env) Q E s:=by
 refine Subscript_ (wpAny_mono h (fun o s₁ h₁=>wpAny_mono h₁ (fun i s₂ h₂=>?_) fun _ _ x=>x) fun _ _ x=>x);obtain ⟨hT,h₂⟩:=h₂;unfold subscriptTail;refine wpAny_bind ?_;rw [getitemInPython_of_ne hT.not_modules];refine wpAny_bind (wpAny_specialOf hT hl ?_);have fin:wpAny (model prog w) A (subscripted slice false o i) (fun r s₃=>wpAny (model prog w) A (letTemporaryGo value o r >>= fun _=>pure r) Q E s₃) E s₂:=by
  rw [hs o i];exact wpAny_operating (wpAny_mono h₂ (fun r s₃ h₃=>wpAny_bind (wpAny_letTemporaryGo (wpAny_pure h₃))) fun _ _ x=>x)
 first
  | exact wpAny_pure (wpAny_bind fin)
  | exact wpAny_bind (wpAny_pure (wpAny_bind fin))
  | exact wpAny_bind fin
theorem agw{o:Option V}(I:Inv X pins σ H s)(g:DGet H a y o):s.TypeIs (.ref a) "dict":=by
 rcases g with ⟨kvs,k,e,_,_⟩ | ⟨kvs,k,b,e,_,_,_⟩
 ·obtain ⟨_,_,vs,_,dd⟩:=dk_rd I.hok e;exact dd.typeIs
 ·obtain ⟨_,_,xs,_,dd⟩:=dt_rd I.hok e;exact dd.typeIs
noncomputable def tDGet (td ty:TE):TE:=fun σ H Q=>td σ H fun x H1=>ty σ H1 fun y H2=>∃ a v,x=.ref a/\DGet H2 a y (some v)/\Q v H2
noncomputable def sDPut (td ty tv:TE):TS:=fun D σ H=>tv σ H fun v H1=>td σ H1 fun x H2=>ty σ H2 fun y H3=>∃ a H4,x=.ref a/\DPut H3 a y v H4/\D.nx σ H4
noncomputable def sDAug (td ty tv:TE) (rd:V->V->Hp->VK->Prop):TS:=fun D σ H=>td σ H fun x H1=>ty σ H1 fun y H2=>∃ a v,x=.ref a/\DGet H2 a y (some v)/\
 tv σ H2 fun y2 H3=>rd v y2 H3 fun z H4=>∃ H5,DPut H4 a y z H5/\D.nx σ H5
section
variable {X:Cx} {o i e value:Expr} {pos pos' tpos:Pos} {td ty tv:TE}
theorem alN(hu:X.A.units+1<cLine)(ho:PE X o td)(hi:PE X i ty)(hs:NoSl i):PE X (.Subscript o i pos) (tDGet td ty):=by
 intro pins s σ H Q I h;refine aiF PySem.F.slot_dict_getitem.lookup hs (thn (ho pins s σ H _ I h) fun u s1 ⟨x,H1,I1,rx,q1⟩=>thn (hi pins s1 σ H1 _ I1 q1) fun iv s2 ⟨y,H2,I2,ry,a,v,ex,g,q2⟩=>?_);subst ex;obtain rfl:u=Value.ref a:=rx;exact ⟨agw I2 g,afL hu I2 g ry fun w' s3 I3 rw'=>⟨v,H2,I3,rw',q2⟩⟩
theorem alO(hu:X.A.units+1<cLine)(ho:PE X o td)(hi:PE X i ty)(hv:PE X value tv)(hs:swapsWith value (some (.Subscript o i pos')) pos.line X.env=pure false) :
  PS X (.Assign [.Subscript o i pos'] value pos) (sDPut td ty tv):=by
 intro pins s σ H D I h;refine wpAny_Assign_Subscript (thn (hv pins s σ H _ I h) fun r s1 ⟨v,H1,I1,rv,q1⟩=>thn (ho pins s1 σ H1 _ I1 q1) fun u s2 ⟨x,H2,I2,rx,q2⟩=>thn (hi pins s2 σ H2 _ I2 q2) fun iv s3 ⟨y,H3,I3,ry,a,H4,ex,g,q3⟩=>?_) hs;subst ex;obtain rfl:u=Value.ref a:=rx;exact afM hu I3 g ry rv fun s4 I4=>⟨σ,H4,I4,q3⟩
theorem alP{op:Operator}{rd:V->V->Hp->VK->Prop}(hu:X.A.units+1<cLine)(ho:PE X o td)(hi:PE X i ty)(hv:PE X value tv)(hop:InOp X op rd)(ha:∀ ov iv new,augStore i ov iv new=(do holding [new,ov,iv] (setItem ov iv new);release [new,ov,iv] [];pure .next)):PS X (.AugAssign (.Subscript o i tpos) op value pos) (sDAug td ty tv rd):=by
 intro pins s σ H D I h;refine wpAny_AugAssign_SubscriptAny (thn (ho pins s σ H _ I h) fun u s1 ⟨x,H1,I1,rx,q1⟩=>thn (hi pins s1 σ H1 _ I1 q1) fun iv s2 ⟨y,H2,I2,ry,a,v,ex,g,q2⟩=>?_) ha;subst ex;obtain rfl:u=Value.ref a:=rx;refine afL hu I2 g ry fun w' s3 I3 rw'=>thn (hv pins s3 σ H2 _ I3 q2) fun w2 s4 ⟨y2,H3,I4,ry2,q3⟩=>thn (hop pins s4 σ H3 v y2 w' w2 _ I4 rw' ry2 q3) fun w3 s5 ⟨z,H4,I5,rz,H5,g5,q4⟩=>?_
 exact afM hu I5 g5 ry rz fun s6 I6=>⟨σ,H5,I6,q4⟩
end
theorem aj4{P:Program}{w:World}(h:Heap)(hb:sysModules<h.objs.size):ObjOk P w H (h.push { cls:=.type "dict",data:=.dict #[] }) h.objs.size (.dK []):=
 ⟨qar _,beq_eq_false_iff_ne.mpr (Ne.symm (qaw hb)),[],.nil,Heap.DictOf.new h⟩
noncomputable def aiG:TE:=fun _ H Q=>∀ p,H p=none->Q (.ref p) (upd H p (.dK []))
section
variable {X:Cx} {pos:Pos}
theorem aj5:PE X (.Dict [] [] pos) aiG:=fun pins s σ H Q I h=>
 wpAny_Dict_empty ⟨.ref s.heap.objs.size,_,I.laid (a:=s.heap.objs.size) (o:=.dK []) (t':=s.toks) (fun _ _ q=>Heap.get?_push_of_some _ q) (qa2 _) (aj4 s.heap I.big),rfl,h _ (I.hok.fresh (qa2 _))⟩
end
noncomputable def aeJ:List (TE×TE)->St->Hp->(List (V×V)->Hp->Prop)->Prop
 | [],_,H,Q=>Q [] H
 | (tk,tv)::r,σ,H,Q=>tk σ H fun x H1=>tv σ H1 fun y H2=>aeJ r σ H2 fun ps H3=>Q ((x,y)::ps) H3
noncomputable def abR (kvs more:List (Key×V)):List (Key×V):=more.foldl (fun acc kv=>putK acc kv.1 kv.2) kvs
theorem adf:∀ (more kvs:List (Key×V)),(abR kvs more).length<=kvs.length+more.length
 | [],kvs=>by show kvs.length<=kvs.length+0;omega
 | p::r,kvs=>by
  have h1:=adf r (putK kvs p.1 p.2);have h2:=ac7 kvs p.1 p.2;show (abR (putK kvs p.1 p.2) r).length<=_;rw [qad];omega
noncomputable def tDisp (trs:List (TE×TE)):TE:=fun σ H Q=>∀ p,H p=none->aeJ trs σ (upd H p (.dK [])) fun ps H2=>H2 p=some (.dK [])/\∃ kvs:List (Key×V),ps=kvs.map (fun kv=>(kV kv.1,kv.2))/\kvs.length<=15/\Q (.ref p) (upd H2 p (.dK (abR [] kvs)))
structure M1(X:Cx)(o:Expr)(m:Str)(apos:Pos)(e:Expr)(cpos:Pos):Prop where
 base:attributeBase o m X.env (eval o X.env)=eval o X.env
 few:((backTo cpos (starEach [e] X.env)).all (fun x=>!x.1)&&(backToKw cpos (keywordEach [] X.env)).all (fun x=>x.1.isSome)
  && decide (([e]:List Expr).length+([]:List Keyword).length+(if ([]:List Keyword).isEmpty then 0 else 1)<30))=true
 line:(apos.endLine==cpos.line)=true
 trees:backTo cpos (starEach [e] X.env)=[(false,eval e X.env)]
structure M2(X:Cx)(o:Expr)(m:Str)(apos:Pos)(e f:Expr)(cpos:Pos):Prop where
 base:attributeBase o m X.env (eval o X.env)=eval o X.env
 few:((backTo cpos (starEach [e,f] X.env)).all (fun x=>!x.1)&&(backToKw cpos (keywordEach [] X.env)).all (fun x=>x.1.isSome)
  && decide (([e,f]:List Expr).length+([]:List Keyword).length+(if ([]:List Keyword).isEmpty then 0 else 1)<30))=true
 line:(apos.endLine==cpos.line)=true
 trees:backTo cpos (starEach [e,f] X.env)=[(false,eval e X.env),(false,eval f X.env)]
noncomputable def IsD (H:Hp) (a:Addr):Prop:=(∃ kvs,Rd H a (.dK kvs))\/∃ kvs,Rd H a (.dT kvs)
theorem ak0(I:Inv X pins σ H s)(d:IsD H a) :
  s.TypeIs (.ref a) "dict"/\(∀ b,Value.ref a=.ref b->∃ ob,s.heap.get? b=some ob/\ob.dict=none)/\(a==sysModules)=false:=by
 rcases d with ⟨kvs,e⟩ | ⟨kvs,e⟩
 ·obtain ⟨_,hd,vs,_,dd⟩:=dk_rd I.hok e;refine ⟨dd.typeIs,fun b q=>?_,hd⟩
  cases q
  obtain ⟨ob,_,_,h1,h2,_⟩:=dd;exact ⟨ob,h1,h2.2.1⟩
 ·obtain ⟨_,hd,xs,_,dd⟩:=dt_rd I.hok e;refine ⟨dd.typeIs,fun b q=>?_,hd⟩
  cases q
  obtain ⟨ob,_,_,h1,h2,_⟩:=dd;exact ⟨ob,h1,h2.2.1⟩
section
variable {X:Cx} {pins:List (Addr×Obj)} {σ:St} {H:Hp} {s:Shared} {a:Addr} {y d:V} {u r:Value} {o:Option V} {A:Around} {E:Value->Shared->Prop}
theorem anA{Q:Value->Shared->Prop}(hu:A.units+1<cLine)(I:Inv X pins σ H s)(g:DGet H a y o)(ry:RelV y u)(h:∀ w' s',Inv X pins σ H s'->RelV (o.getD .non) w'->Q w' s') :
  wpAny (model X.prog X.w) A (call (.builtin "dict.get") [.ref a,u]) Q E s:=by
 rcases g with ⟨kvs,k,e,ey,l⟩ | ⟨kvs,k,b,e,ey,eb,l⟩
 ·subst ey;obtain ⟨z,hd,vs,rel,dd⟩:=dk_rd I.hok e;refine call_meetsIn PySem.F.slot_dict_get dd.typeIs PySem.F.entry_dict_get (PySem.F.args_dict_get_2 _ _) (meets_dict_get (aaR X.prog X.w) a (kV_is ry) hd) ⟨_,dd.mapOf,h _ _ (I.tok _) ?_⟩;rw [l];exact (rel.val k).getD rfl
 ·subst ey
  cases (show u=Value.ref b from ry)
  obtain ⟨z,hd,xs,rel,dd⟩:=dt_rd I.hok e;refine call_meetsIn PySem.F.slot_dict_get dd.typeIs PySem.F.entry_dict_get (PySem.F.args_dict_get_2 _ _) (meetsH_dict_get (tupleKind (aaR X.prog X.w)) a b hd) ⟨tupleKind_room_in1 hu,k,xs,aeI I.hok eb,dd,h _ _ (I.tok _) ?_⟩;rw [l];exact (rel.val k).getD rfl
end
noncomputable def aiH (td ty:TE):TE:=fun σ H Q=>td σ H fun x H1=>∃ a,x=.ref a/\IsD H1 a/\ty σ H1 fun y H2=>∃ o,DGet H2 a y o/\Q (o.getD .non) H2
noncomputable def anB (td ty tx:TE):TE:=fun σ H Q=>td σ H fun x H1=>∃ a,x=.ref a/\IsD H1 a/\ty σ H1 fun y H2=>tx σ H2 fun z H3=>∃ o,DGet H3 a y o/\Q (o.getD z) H3
section
variable {X:Cx} {o e f:Expr} {apos cpos:Pos} {td ty tx:TE}
theorem aj6(hu:X.A.units+1<cLine)(ho:PE X o td)(he:PE X e ty)(m:M1 X o "get" apos e cpos):PE X (.Call (.Attribute o "get" apos) [e] [] cpos) (aiH td ty):=by
 intro pins s σ H Q I h;refine wpAny_Call_method m.base m.few m.line PySem.F.plainAttrs_dict PySem.F.slot_dict_get PySem.F.type_dict_get (thn (ho pins s σ H _ I h) fun u s1 ⟨x,H1,I1,rx,a,ex,d,q1⟩=>?_);subst ex;obtain rfl:u=Value.ref a:=rx;obtain ⟨t1,t2,_⟩:=ak0 I1 d;refine ⟨t1,t2,?_⟩;rw [m.trees];refine Calls.callWith_builtin rfl (Calls.evalArgs_plain (Calls.spliced_cons (thn (he pins s1 σ H1 _ I1 q1) fun iv s2 ⟨y,H2,I2,ry,ov,g,q2⟩=>Calls.spliced_nil ?_)));exact anA hu I2 g ry fun w' s3 I3 rw'=>⟨_,H2,I3,rw',q2⟩
end
section
variable {X:Cx} {pins:List (Addr×Obj)} {σ:St} {H:Hp} {s:Shared} {a:Addr} {kvs:List (Key×V)} {A:Around} {E:Value->Shared->Prop}
end
section
variable {X:Cx} {pins:List (Addr×Obj)} {σ:St} {H:Hp} {s:Shared} {a:Addr} {y:V} {u:Value} {A:Around} {E:Value->Shared->Prop}
end
end L2
namespace L2
open PySem PySem.Spec PyProof.Rows
section
variable {X:Cx}
end
section
variable {κ:Type} [DecidableEq κ]
theorem ad5:∀ {l:List κ} {k:κ},l.Nodup->¬ k∈l->(l++[k]).Nodup
 | [],k,_,_=>by simp
 | a::r,k,h,hk=>by
  obtain ⟨h1,h2⟩:=qax.mp h;show (a::(r++[k])).Nodup;refine qax.mpr ⟨fun m=>?_,ad5 h2 fun m=>hk (qaa.mpr (Or.inr m))⟩
  rcases qa6.mp m with q | q
  ·exact h1 q
  ·exact hk (qaa.mpr (Or.inl (qa7.mp q).symm))
end
end L2
set_option maxRecDepth 100000
namespace L2
open PySem PySem.Spec PyProof.Rows
noncomputable def cloOf (cells:List (Str×Addr)):List (Str×NameKind)->List (Str×Addr)->List (Str×Addr)
 | [],acc=>acc
 | (n,k)::r,acc=>if k=.free then cloOf cells r ((n,(cells.lookup n).getD 0)::acc) else cloOf cells r acc
theorem ad6{env:Env} : ∀ (names:List (Str×NameKind)) (acc:List (Str×Addr)),(∀ x∈names,x.2=.free->∃ c,env.cells.lookup x.1=some c)->
  (forIn names acc fun (x:Str×NameKind) (cs:List (Str×Addr))=>(if (x.2==NameKind.free)=true then do
   let c <- cellOf env x.1
   pure (ForInStep.yield ((x.1,c)::cs)) else pure (ForInStep.yield cs):Sem (ForInStep (List (Str×Addr)))))=(pure (cloOf env.cells names acc):Sem (List (Str×Addr)))
 | [],acc,_=>rfl
 | (n,k)::r,acc,h=>by
  rw [List.forIn_cons];have hr:∀ x∈r,x.2=.free->∃ c,env.cells.lookup x.1=some c:=fun x hx=>h x (qa9 _ hx)
  by_cases hk:k=.free
  ·subst hk;obtain ⟨c,hc⟩:=h (n,.free) qac rfl;have e1:cellOf env n=pure c:=by unfold cellOf;rw [show env.cells.lookup n=some c from hc]
   simp only [beq_self_eq_true,if_true];rw [e1];show (forIn r ((n,c)::acc) _:Sem _)=_;rw [ad6 r _ hr];show _=pure (if NameKind.free=.free then cloOf env.cells r ((n,(env.cells.lookup n).getD 0)::acc) else _);rw [if_pos rfl,show env.cells.lookup n=some c from hc];rfl
  ·have hb:(k==NameKind.free)=false:=by simpa using hk
   simp only [hb,qbG,if_false];show (forIn r acc _:Sem _)=_;rw [ad6 r _ hr];show _=pure (if k=.free then _ else cloOf env.cells r acc);rw [if_neg hk]
theorem ac4{scope:Scope}{env:Env}(h:∀ x∈scope.names,x.2=.free->∃ c,env.cells.lookup x.1=some c):closureFor scope env=pure (cloOf env.cells scope.names []):=by
 simp only [closureFor];have e:=ad6 (env:=env) scope.names [] h;rw [e];rfl
theorem acR{cells:List (Str×Addr)}{x:Str} : ∀ (names:List (Str×NameKind)) (acc:List (Str×Addr)),
  (cloOf cells names acc).lookup x=if (x,NameKind.free)∈names then some ((cells.lookup x).getD 0) else acc.lookup x
 | [],acc=>by simp [cloOf]
 | (n,k)::r,acc=>by
  show (if k=.free then cloOf cells r ((n,(cells.lookup n).getD 0)::acc) else cloOf cells r acc).lookup x=_
  by_cases hk:k=.free
  ·subst hk;rw [if_pos rfl,acR r]
   by_cases hm:(x,NameKind.free)∈r
   ·rw [if_pos hm,if_pos (qa9 _ hm)]
   ·rw [if_neg hm,List.lookup_cons]
    by_cases hx:x=n
    ·subst hx;rw [if_pos qac]
     simp
    ·have e:(x==n)=false:=by simpa using hx
     rw [e,if_neg];intro z
     rcases qaa.mp z with z | z
     ·exact hx (Prod.mk.inj z).1
     ·exact hm z
  ·rw [if_neg hk,acR r]
   by_cases hm:(x,NameKind.free)∈r
   ·rw [if_pos hm,if_pos (qa9 _ hm)]
   ·rw [if_neg hm,if_neg];intro z
    rcases qaa.mp z with z | z
    ·exact hk (Prod.mk.inj z).2.symm
    ·exact hm z
theorem ac8{α:Type}{x:Str} : ∀ {l:List (Str×α)} {k:α},l.lookup x=some k->(x,k)∈l
 | [],_,h=>by simp at h
 | (n,a)::r,k,h=>by
  rw [List.lookup_cons] at h
  by_cases hx:x=n
  ·subst hx;simp at h;subst h;exact qac
  ·have e:(x==n)=false:=by simpa using hx
   rw [e] at h;exact qa9 _ (ac8 h)
theorem adB{sc:Scope}{env:Env}{x:Str}{k:NameKind}(hc:∀ y∈sc.names,y.2≠.cell)(h:(relabel sc env).names.lookup x=some k)(hk:k=.cell\/k=.free):(x,NameKind.free)∈sc.names:=by
 have m:=ac8 h;unfold relabel at m;obtain ⟨⟨n,k'⟩,hm,e⟩:=qa8.mp m;have hne:=hc _ hm
 by_cases hf:k'=.free
 ·subst hf
  have:n=x:=by
   dsimp only at e
   split at e
   ·exact (Prod.mk.inj e).1
   ·exact (Prod.mk.inj e).1
  subst this;exact hm
 ·have hb:(k'==NameKind.free)=false:=by simpa using hf
  simp only [hb,Bool.false_and,qbG,if_false] at e;obtain ⟨e1,e2⟩:=Prod.mk.inj e;subst e1 e2
  rcases hk with z | z
  ·exact absurd z hne
  ·subst z;exact absurd rfl hf
structure CompOk(N:List Str)(kn:List (Str×NameKind))(sc:Scope)(N':List Str)(k:Nat)(ixs:List Nat):Prop where
 kind:sc.kind=.function
 cell:∀ x∈sc.names,x.2≠.cell
 names:∀ x∈sc.names,x.2=.local->sc.names.lookup x.1=some .local
 free:∀ x∈sc.names,x.2=.free->kn.lookup x.1=some .cell\/kn.lookup x.1=some .free
 clean:∀ x∈sc.names,x.2=.free->sc.names.lookup x.1=some .free
 len:N'.length=k+ixs.length
 at_:ixs.map (fun i=>N[i]?)=(N'.drop k).map some
 fr:∀ x∈N'.drop k,(x,NameKind.free)∈sc.names
noncomputable def blk (X:Cx) (sc:Scope) (N':List Str) (C:Addr) (s₃:Shared) (H₃:Hp) (fp:List Addr) (pins:List (Addr×Obj)):Cx:=
 {prog:=X.prog,w:=X.w,K:=X.K,mg:=X.mg,base:=X.base,A:=X.A,N:=N',s₀:=s₃,H₀:=H₃,
  env:=compEnvC sc (cloOf X.env.cells sc.names []) C X.env,outer:=X.stack,stack:=X.stack,ex:=fp,fn:=fun _=>false,calm:=X.calm,
  pn:=X.pn++pins,xe:=fun _ _=>False }
noncomputable def compStart (k:Nat) (ixs:List Nat) (σ:St):St:=qaH k none++ixs.map fun i=>(σ[i]?).join
theorem ae7 : (compStart k ixs σ).length=k+ixs.length:=by simp [compStart]
section
variable {X:Cx} {sc:Scope} {N':List Str} {k:Nat} {ixs:List Nat} {pins:List (Addr×Obj)} {σ:St} {H:Hp} {s:Shared} {fp:List Addr}
theorem acS(C:CompOk X.N X.env.scope.names sc N' k ixs)(I:Inv X pins σ H s){x:Str}{c:Addr}(e:(cloOf X.env.cells sc.names []).lookup x=some c):X.env.cells.lookup x=some c/\(x,NameKind.free)∈sc.names:=by
 rw [acR] at e
 by_cases hm:(x,NameKind.free)∈sc.names
 ·rw [if_pos hm] at e;obtain ⟨c',hc'⟩:=I.ok.has x (C.free _ hm rfl);rw [hc'] at e;exact ⟨hc'.trans e,hm⟩
 ·rw [if_neg hm] at e;cases e
theorem aiI(C:CompOk X.N X.env.scope.names sc N' k ixs)(I:Inv X pins σ H s){x:Str}(hm:(x,NameKind.free)∈sc.names):∃ c,(cloOf X.env.cells sc.names []).lookup x=some c/\X.env.cells.lookup x=some c:=by
 obtain ⟨c',hc'⟩:=I.ok.has x (C.free _ hm rfl);refine ⟨c',?_,hc'⟩;rw [acR,if_pos hm,hc'];rfl
theorem anC(C:CompOk X.N X.env.scope.names sc N' k ixs)(I:Inv X pins σ H s)(hf:∀ b∈fp,FpOk X pins H b)(ho:∀ b∈fp,∃ o,s.heap.get? b=some o):(blk X sc N' s.heap.objs.size s H fp pins).Ok where
 mod:=I.ok.mod
 kind:=C.kind
 glob:=I.ok.glob
 blt:=I.ok.blt
 above:=qa2 _
 inj:=fun x y c e1 e2=>I.ok.inj x y c (acS C I e1).1 (acS C I e2).1
 has:=fun x hx=>by
  have hm:(x,NameKind.free)∈sc.names:=by
   rcases hx with z | z
   ·exact adB C.cell z (.inl rfl)
   ·exact adB C.cell z (.inr rfl)
  obtain ⟨c,h1,_⟩:=aiI C I hm;exact ⟨c,h1⟩
 cab:=fun x c h _=>by cases h
 hd:=I.ok.hd
 frames:=I.ok.frames
 stk:=.inl rfl
 exf:=fun b hb=>by
  obtain ⟨o,e⟩:=ho b hb;exact ⟨qaw (Heap.lt_size e),fun x c e1=>(hf b hb).2.2.2.2.1 x c (acS C I e1).1⟩
 bs:=I.bs
 bsz:=qan I.ok.bsz I.sz
 noex:=fun b o e hb=>by
  rcases (hf b hb).2.2.2.1 with z | z
  ·exact I.ok.noex b o e z
  ·exact absurd (qau (Heap.lt_size e) (qan I.ok.bsz z)) (qbg _)
 exfs:=fun b hb hm=>by
  rcases qaa.mp (I.stkSub b hm) with z | z
  ·exact (hf b hb).2.1 z
  ·exact (hf b hb).2.2.1 z
 funs:=I.stack
 frf:=I.stkFree
theorem alQ(C:CompOk X.N X.env.scope.names sc N' k ixs)(I:Inv X pins σ H s)(hf:∀ b∈fp,FpOk X pins H b)(ho:∀ b∈fp,∃ o,s.heap.get? b=some o){m:Str->Option Value}(hn:h'.Ns s.heap.objs.size m)(hk:∀ b o,s.heap.get? b=some o->h'.get? b=some o):Inv (blk X sc N' s.heap.objs.size s H fp pins) [] (compStart k ixs σ) H { s with heap:=h',toks:=t' } where
 ok:=anC C I hf ho
 os:=rfl
 bare:=I.bare
 base:=Un.kept hk
 loc:=by
  refine ⟨m,hn,fun i x v e1 e2 e3=>?_⟩;unfold compStart at e2
  by_cases hi:i<k
  ·rw [qb2 (by simpa using hi)] at e2;rw [List.getElem?_replicate_of_lt hi] at e2;cases e2
  ·rw [qaR (by simpa using hi),List.length_replicate] at e2;rw [qaC] at e2;cases e4:ixs[i-k]? with
   | none=>rw [e4] at e2;cases e2
   | some j=>
    rw [e4] at e2;have e5:(σ[j]?).join=some v:=Option.some.inj e2;have e6:σ[j]?=some (some v):=by
     cases e7:σ[j]? with
     | none=>rw [e7] at e5;cases e5
     | some o=>rw [e7] at e5;exact congrArg some e5
    have e1':N'[i]?=some x:=e1;have ed:(N'.drop k)[i-k]?=some x:=by rw [List.getElem?_drop,show k+(i-k)=i by omega];exact e1'
    have n3:(x,NameKind.free)∈sc.names:=C.fr x (qab ed);have n2:X.N[j]?=some x:=by
     have q:=congrArg (fun l=>l[i-k]?) C.at_;simp only [qaC,e4,ed,Option.map_some] at q;exact Option.some.inj q
    obtain ⟨m0,hn0,hl0⟩:=I.loc;have hvis:X.env.scope.names.lookup x=some .cell\/X.env.scope.names.lookup x=some .free:=C.free _ n3 rfl;obtain ⟨u,r,l⟩:=hl0 j x v n2 e6 (.inr hvis);refine ⟨u,r,.inr ?_⟩
    rcases l with ⟨l,_⟩ | ⟨_,c,hc,hcell⟩
    ·have l':X.env.scope.names.lookup x=some .local:=l
     rcases hvis with z | z
     ·rw [l'] at z;cases z
     ·rw [l'] at z;cases z
    ·obtain ⟨c',h1,h2⟩:=aiI C I n3;rw [hc] at h2;cases h2;refine ⟨?_,c,h1,?_⟩
     ·have e3':(relabel sc X.env).names.lookup x=some .local\/(relabel sc X.env).names.lookup x=some .cell\/(relabel sc X.env).names.lookup x=some .free:=e3
      rcases e3' with z | z
      ·exfalso
       have mm:=ac8 z;unfold relabel at mm;obtain ⟨⟨n,k'⟩,hm,e⟩:=qa8.mp mm;have hkl:k'=.local/\n=x:=by
        dsimp only at e
        split at e
        ·obtain ⟨_,q⟩:=Prod.mk.inj e
         cases q
        ·exact ⟨(Prod.mk.inj e).2,(Prod.mk.inj e).1⟩
       obtain ⟨z1,z2⟩:=hkl;subst z1 z2;have q1:=C.names _ hm rfl;rw [C.clean _ n3 rfl] at q1
       cases q1
      ·exact z
     ·exact hcell.keeps hk
 cell:=fun x c e=>by
  obtain ⟨v,z⟩:=I.cell x c (acS C I e).1;exact ⟨v,z.keeps hk⟩
 free:=I.hok.fresh (qa2 _)
 freeC:=fun x c e=>I.freeC x c (acS C I e).1
 pin:=fun p hp=>by
  have hp':p∈X.pn++pins:=by simpa [blk] using hp
  obtain ⟨e,n,ne,nf,d⟩:=I.pin p hp';refine ⟨hk _ _ e,n,qaw (Heap.lt_size e),fun hm=>?_,d⟩
  rcases qaa.mp (I.stkSub _ hm) with z | z
  ·exact ne z
  ·exact nf z
 hok:=I.hok.kept hk
 len:=by rw [ae7];exact C.len.symm
end
section
variable {prog:Program} {w:World} {A:Around} {R:Result->Shared->Prop} {s:Shared}
theorem afN{scope:Scope}{pos:Pos}{it acc:Value}{env:Env}(I:Nat->Shared->Prop)(turn:∀ n s,I n s->wpAny (model prog w) A (pyNext it) (fun r s₁=>match r with
   | none=>R (.ok .next) s₁
   | some v=>wpAny (model prog w) A (letOwnedTupleGo target it v) (fun _ s₁=>wpAny (model prog w) A (assign target env v) (fun _ s₂=>
     wpAny (model prog w) A (forIn ifs true fun c r=>if r=true then do let ok <- isTrue c env (eval c env);pure (ForInStep.yield ok) else pure (ForInStep.yield r)) (fun ok s₃=>
      if ok=true then wpAny (model prog w) A (eval elt env) (fun x s₄=>
       wpAny (model prog w) A (call (.builtin "list.append") [acc,x]) (fun _ s₅=>∃ m,m<n/\I m s₅) (notedBy (model prog w) A env fun e s'=>R (.error e) s') s₄) (notedBy (model prog w) A env fun e s'=>R (.error e) s') s₃
      else ∃ m,m<n/\I m s₃) (notedBy (model prog w) A env fun e s'=>R (.error e) s') s₂) (notedBy (model prog w) A env fun e s'=>R (.error e) s') s₁) (notedBy (model prog w) A env fun e s'=>R (.error e) s') s₁) (notedBy (model prog w) A env fun e s'=>R (.error e) s') s)(n:Nat)(h:I n s) :
  codeAny (model prog w) A (.compLoop (.ListComp elt [⟨target,iter,ifs,0⟩] scope pos) 0 it acc env) R s:=by
 refine codeAny_loop rfl I (fun n s hI=>?_) n h;show wpAny _ A ((compTurn (.ListComp elt [⟨target,iter,ifs,0⟩] scope pos) 0 it acc env).onRaise (fun x=>do noteFrame x env;theTreesLotGoes x)) _ _ s;refine wpAny_noted ?_;rw [compTurn_list];refine wpAny_bind (wpAny_standAt (wpAny_bind (wpAny_mono (turn n s hI) (fun r s₁ h₁=>?_) fun _ _ h'=>h')))
 cases r with
 | none=>exact wpAny_pure h₁
 | some v=>
  refine wpAny_bind (wpAny_mono h₁ (fun _ s₁ h₁=>?_) fun _ _ h'=>h');refine wpAny_bind (wpAny_mono h₁ (fun _ s₂ h₂=>wpAny_bind (wpAny_mono h₂ (fun ok s₃ h₃=>?_) fun _ _ h'=>h')) fun _ _ h'=>h')
  cases ok with
  | false=>exact wpAny_pure ⟨rfl,h₃⟩
  | true=>
   exact wpAny_bind (wpAny_bind (wpAny_mono h₃ (fun x s₄ h₄=>wpAny_bind (wpAny_mono h₄ (fun _ s₅ h₅=>wpAny_pure (wpAny_pure ⟨rfl,h₅⟩)) fun _ _ h'=>h')) fun _ _ h'=>h'))
end
noncomputable def PIfs (X:Cx) (ifs:List Expr) (t:TT):Prop:=
 ∀ (pins:List (Addr×Obj)) (s:Shared) (σ:St) (H:Hp) (Q:Bool->Hp->Prop),Inv X pins σ H s->t σ H Q->
  wpAny (model X.prog X.w) X.A (forIn ifs true fun c r=>if r=true then do let ok <- isTrue c X.env (eval c X.env);pure (ForInStep.yield ok) else pure (ForInStep.yield r)) (TP X pins σ Q) X.xe s
noncomputable def tYes:TT:=fun _ H Q=>Q true H
theorem aj7 : PIfs X [] tYes:=fun _ _ _ H _ I h=>wpAny_tests_nil ⟨H,I,h⟩
theorem aj8{c:Expr}{t:TT}(hc:PT X c t):PIfs X [c] t:=fun pins s σ H Q I h=>wpAny_tests_one (hc pins s σ H Q I h)
noncomputable def tComp (wi:TI) (k:Nat) (ixs:List Nat) (g:TG) (c:TT) (te:TE):TE:=fun σ H Q=>wi σ H fun J H1=>∀ D,H1 D=none->
 ∃ (n:Nat) (W:Nat->List V->St->Hp->Prop),W 0 [] (compStart k ixs σ) (upd H1 D (.lst []))/\∀ i ys σ2 H2,W i ys σ2 H2->H2 D=some (.lst ys)->
  (J.stop i H2/\Q (.ref D) H2)\/
  (i<n/\J.go i H2/\∀ x H',J.yld i H2 x H'->g x σ2 H' fun σ3 H3=>c σ3 H3 fun b H4=>
   if b=true then te σ3 H4 fun y H5=>H5 D=some (.lst ys)/\ys.length<sizeLine/\W (i+1) (ys++[y]) σ3 (upd H5 D (.lst (ys++[y])))
   else H4 D=some (.lst ys)/\W (i+1) ys σ3 H4)
section
variable {X:Cx} {sc:Scope} {N':List Str} {k:Nat} {ixs:List Nat}
theorem aeK{pos:Pos}{J:It}(C:CompOk X.N X.env.scope.names sc N' k ixs)(hcalm:X.calm=true)(hg:∀ C s₃ H₃ fp pins,PG (blk X sc N' C s₃ H₃ fp pins) target g)(hc:∀ C s₃ H₃ fp pins,PIfs (blk X sc N' C s₃ H₃ fp pins) ifs c)(he:∀ C s₃ H₃ fp pins,PE (blk X sc N' C s₃ H₃ fp pins) elt te){tn:Nat->Heap->Prop}(I:Inv X pins σ H s)(T:Turn X.prog X.w X.K target J fp it tn)(st:tn 0 s.heap)(hf:∀ b∈fp,FpOk X pins H b)(h:∀ D,H D=none->∃ (n:Nat) (W:Nat->List V->St->Hp->Prop),W 0 [] (compStart k ixs σ) (upd H D (.lst []))/\∀ i ys σ2 H2,W i ys σ2 H2->H2 D=some (.lst ys)->
   (J.stop i H2/\Q (.ref D) H2)\/
   (i<n/\J.go i H2/\∀ x H',J.yld i H2 x H'->g x σ2 H' fun σ3 H3=>c σ3 H3 fun b H4=>
    if b=true then te σ3 H4 fun y H5=>H5 D=some (.lst ys)/\ys.length<sizeLine/\W (i+1) (ys++[y]) σ3 (upd H5 D (.lst (ys++[y])))
    else H4 D=some (.lst ys)/\W (i+1) ys σ3 H4)){RR:Value->Addr->Result->Shared->Prop}(hRR:∀ D Cc (H':Hp) (s':Shared) (o:Obj) m,Inv X pins σ H' s'->Inv X (pins++[(Cc,o)]) σ H' s'->s'.heap.get? Cc=some o->s'.heap.Ns Cc m->H' Cc=none->Cc≠X.env.locals->X.s₀.heap.objs.size<=Cc->
   (∀ x c,X.env.cells.lookup x=some c->c≠Cc)->(∀ p∈X.pn++pins,p.1≠Cc)->Q (.ref D) H'->RR (.ref D) Cc (.ok .next) s') :
  wpAny (model X.prog X.w) X.A (newList []) (fun acc s₃=>wpAny (model X.prog X.w) X.A (newFunctionEnv sc X.env.globals (cloOf X.env.cells sc.names []) [] X.env.qual none .none (some X.env)) (fun cenv s₄=>
   codeAny (model X.prog X.w) X.A (.compStart (.ListComp elt [⟨target,iter,ifs,0⟩] sc pos) 0 (.ref it) acc { cenv with scope:=relabel sc X.env }) (RR acc cenv.locals) s₄) E s₃) E s:=by
 have fresh:=I.hok.fresh (qa2 s.heap.objs.size);obtain ⟨n,W,w0,turn⟩:=h s.heap.objs.size fresh;have hfD:∀ b∈fp,b≠s.heap.objs.size:=fun b hb z=>by
  obtain ⟨o,e,_⟩:=T.obj _ _ st b hb;rw [z] at e;exact absurd (Heap.lt_size e) (qbg _)
 have hf3:∀ b∈fp,FpOk X pins (upd H s.heap.objs.size (.lst [])) b:=fun b hb=>⟨by rw [aah (hfD b hb)];exact (hf b hb).1,(hf b hb).2⟩
 have main:∀ (s3:Shared) (h₁:Heap) (t1:Nat),Inv X pins σ (upd H s.heap.objs.size (.lst [])) s3->(∀ b o,s.heap.get? b=some o->s3.heap.get? b=some o)->h₁.Ns s3.heap.objs.size (fun x=>([]:List (Str×Value)).reverse.lookup x)->
   (∀ b o,s3.heap.get? b=some o->h₁.get? b=some o)->
   tn 0 h₁/\codeAny (model X.prog X.w) X.A (.compLoop (.ListComp elt [⟨target,iter,ifs,0⟩] sc pos) 0 (.ref it) (.ref s.heap.objs.size) (blk X sc N' s3.heap.objs.size s3 (upd H s.heap.objs.size (.lst [])) fp pins).env) (RR (.ref s.heap.objs.size) s3.heap.objs.size) { s3 with heap:=h₁,toks:=t1 }:=by
  intro s3 h₁ t1 I3 k3 hns keep3;have st3:tn 0 s3.heap:=T.keep _ _ _ st fun b hb o e=>k3 b o e
  have ho3:∀ b∈fp,∃ o,s3.heap.get? b=some o:=fun b hb=>let ⟨o,e,_⟩:=T.obj _ _ st3 b hb;⟨o,e⟩
  have st1:tn 0 h₁:=T.keep _ _ _ st3 fun b hb o e=>keep3 b o e
  have B0:Inv (blk X sc N' s3.heap.objs.size s3 (upd H s.heap.objs.size (.lst [])) fp pins) [] (compStart k ixs σ) (upd H s.heap.objs.size (.lst [])) { s3 with heap:=h₁,toks:=t1 }:=alQ C I3 hf3 ho3 hns keep3;refine ⟨st1,?_⟩;have fpX:∀ {H':Hp},(∀ b∈fp,H' b=none)->∀ b∈fp,FpOk (blk X sc N' s3.heap.objs.size s3 (upd H s.heap.objs.size (.lst [])) fp pins) [] H' b:=fun {H'} hn b hb=>by
   obtain ⟨o,eo⟩:=ho3 b hb;refine ⟨hn b hb,qaw (Heap.lt_size eo),?_,.inl hb,?_,?_⟩
   ·intro hm
    rcases qaa.mp (I3.stkSub b hm) with z | z
    ·exact (hf b hb).2.1 z
    ·exact (hf b hb).2.2.1 z
   ·intro x cc ec;exact (hf b hb).2.2.2.2.1 x cc (acS C I3 ec).1
   ·intro p hp;exact (hf b hb).2.2.2.2.2 p (by simpa [blk] using hp)
  refine afN (fun m s'=>∃ i ys σ' H',m=n-i/\Inv (blk X sc N' s3.heap.objs.size s3 (upd H s.heap.objs.size (.lst [])) fp pins) [] σ' H' s'/\tn i s'.heap/\(∀ b∈fp,H' b=none)/\H' s.heap.objs.size=some (.lst ys)/\W i ys σ' H') ?_ n ⟨0,[],_,_,rfl,B0,st1,fun b hb=>(hf3 b hb).1,aaa,w0⟩;rintro m s4 ⟨i,ys,σ4,H4,rfl,I4,st4,fr4,hD4,w4⟩;have again:∀ {i':Nat} {ys':List V} {σ7:St} {H7:Hp} {s6 s7:Shared},i<n->i'=i+1->tn i' s6.heap->Inv (blk X sc N' s3.heap.objs.size s3 (upd H s.heap.objs.size (.lst [])) fp pins) ([]++aeD fp s6.heap) σ7 H7 s7->H7 s.heap.objs.size=some (.lst ys')->W i' ys' σ7 H7->
    ∃ m,m<n-i/\∃ i ys σ' H',m=n-i/\Inv (blk X sc N' s3.heap.objs.size s3 (upd H s.heap.objs.size (.lst [])) fp pins) [] σ' H' s7/\tn i s7.heap/\(∀ b∈fp,H' b=none)/\H' s.heap.objs.size=some (.lst ys)/\W i ys σ' H':=fun {i' ys' σ7 H7 s6 s7} hlt ei st6 I7 hD w=>by
   subst ei;refine ⟨n-(i+1),by omega,i+1,ys',σ7,H7,rfl,I7.unpinned,T.keep _ _ _ st6 fun b hb o e=>(I7.pin (b,o) (qam _ (qam _ (abX hb e)))).1,fun b hb=>?_,hD,w⟩;obtain ⟨o,e,_⟩:=T.obj _ _ st6 b hb;exact (I7.pin (b,o) (qam _ (qam _ (abX hb e)))).2.1
  rcases turn i ys σ4 H4 w4 hD4 with ⟨stop,q⟩ | ⟨hlt,go,step⟩
  ·refine thn (T.done (blk X sc N' s3.heap.objs.size s3 (upd H s.heap.objs.size (.lst [])) fp pins) rfl rfl rfl hcalm i [] s4 σ4 H4 _ I4 (fpX fr4) st4 stop) fun r s5 hr5=>?_
   obtain ⟨hr,I5⟩:=hr5;subst hr;have back:Inv X pins σ H4 s5:=I3.call' (ch:=fp) I5.os I5.base I5.hok I5.bare fun b hb=>⟨(hf b hb).2.2.2.1,(hf b hb).2.1,(hf b hb).2.2.2.2.1,(hf b hb).2.2.2.2.2⟩
   obtain ⟨mm,hn5,_⟩:=I5.loc;obtain ⟨o,es,ep,ho,hd,hrest⟩:=id hn5;have hC:s3.heap.objs.size≠X.env.locals:=Nat.ne_of_gt I3.lt;refine hRR s.heap.objs.size s3.heap.objs.size H4 s5 o mm back ?_ ho hn5 I5.free hC I3.sz ?_ ?_ q
   ·refine back.pins_of fun p hp=>?_
    rcases qa6.mp hp with z | z
    ·exact back.pin p (qam _ z)
    ·have e:p=(s3.heap.objs.size,o):=by simpa using z
     subst e;exact ⟨ho,I5.free,hC,I3.nofs (qa2 _),fun v z=>by rw [hd] at z;cases z⟩
   ·intro x c e z;obtain ⟨v,q⟩:=I3.cell x c e
    have:=q.lt
    rw [z] at this;exact qbg _ this
   ·intro p hp z
    have:=Heap.lt_size (I3.pin p hp).1
    rw [z] at this;exact qbg _ this
  ·refine thn (T.item (blk X sc N' s3.heap.objs.size s3 (upd H s.heap.objs.size (.lst [])) fp pins) rfl rfl rfl hcalm i [] s4 σ4 H4 _ I4 (fpX fr4) st4 go) fun r s5 hr5=>?_
   obtain ⟨u,hr,h5⟩:=hr5;subst hr;refine thn h5 fun _ s6 h6=>?_
   obtain ⟨x,H6,I6,r6,y6,st6,fr6⟩:=h6;have I6':=I6.pinned (fpX fr6) (T.obj _ _ st6);refine wpAny_mono (hg _ _ _ _ _ _ s6 σ4 H6 x u _ I6' r6 (step x H6 y6)) (fun _ s7 h7=>?_) fun _ _ z=>False.elim z
   obtain ⟨σ7,H7,I7,q7⟩:=h7;refine wpAny_mono (hc _ _ _ _ _ _ s7 σ7 H7 _ I7 q7) (fun ok s8 h8=>?_) fun _ _ z=>False.elim z
   obtain ⟨H8,I8,q8⟩:=h8
   cases ok with
   | false=>
    rw [if_neg qae] at q8 ⊢
    exact again hlt rfl st6 I8 q8.1 q8.2
   | true=>
    rw [if_pos rfl] at q8 ⊢
    refine wpAny_mono (he _ _ _ _ _ _ s8 σ7 H8 _ I8 q8) (fun y s9 h9=>?_) fun _ _ z=>False.elim z
    obtain ⟨yv,H9,I9,r9,hD9,hz9,w9⟩:=h9;refine wpAny_mono (afI (X:=(blk X sc N' s3.heap.objs.size s3 (upd H s.heap.objs.size (.lst [])) fp pins)) _ s9 σ7 H9 (.ref s.heap.objs.size) [yv] (.ref s.heap.objs.size) [y] (fun _ H'=>H'=upd H9 s.heap.objs.size (.lst (ys++[yv]))) I9 rfl (.cons r9 .nil) ⟨_,ys,yv,rfl,rfl,hD9,hz9,rfl⟩) (fun _ s10 h10=>?_) fun _ _ z=>False.elim z
    obtain ⟨_,H10,I10,_,e10⟩:=h10;subst e10;exact again hlt rfl st6 I10 aaa w9
 have I3:=I.lnew (ys:=[]) (its:=[]) (t':=s.toks) .nil (qar _);refine wpAny_newObj_type (wpAny_newFunctionEnv C.cell (by intro y hy;simp at hy) (fun h₁ hns₁ hsb₁=>?_) C.kind);obtain ⟨st1,loop⟩:=main _ h₁ (s.toks+([]:List (Str×Value)).length) I3 (fun b o e=>Heap.get?_push_of_some _ e) hns₁ fun b o e=>hsb₁.extBut b o (qaw (Heap.lt_size e)) (Heap.get?_push_of_some _ e)
 exact codeAny_compStart_list loop (T.self X.A 0 _ _ _ st1 loop)
theorem alR{pos:Pos}{wi:TI}(C:CompOk X.N X.env.scope.names sc N' k ixs)(hcalm:X.calm=true)(hi:PI X target iter wi)(hg:∀ C s₃ H₃ fp pins,PG (blk X sc N' C s₃ H₃ fp pins) target g)(hc:∀ C s₃ H₃ fp pins,PIfs (blk X sc N' C s₃ H₃ fp pins) ifs c)(he:∀ C s₃ H₃ fp pins,PE (blk X sc N' C s₃ H₃ fp pins) elt te)(hs:∀ x,foldedSetIterable iter X.env x=pure x:=by intro _;rfl):PE X (.ListComp elt [⟨target,iter,ifs,0⟩] sc pos) (tComp wi k ixs g c te):=by
 intro pins s σ H Q I h;rw [eval_ListComp];refine wpAny_comprehension_free (use:=none) rfl hs (ac4 fun x hx hf=>I.ok.has x.1 (C.free x hx hf)) C.kind C.names (thn (hi pins s σ H _ I h) fun v s1 h1=>thn h1 fun itv s2 h2=>?_);obtain ⟨it,fp,tn,J,H2,e,I2,T,st2,f2,q2⟩:=h2;subst e;refine aeK (RR:=fun acc C=>compPost (model X.prog X.w) X.A X.xe none (EP X pins σ Q) acc C) C hcalm hg hc he I2 T st2 f2 q2 ?_;intro D Cc H' s' o m I' _ ho hn hC hL hab hcell hpin q;exact ⟨m,hn,fun h'' hs''=>⟨.ref D,H',I'.turned (t':=s'.toks) (fun b o hb e=>hs''.extBut b o hb e) hC hL (.inr hab) hcell hpin,rfl,q⟩⟩
theorem ahM{pos py:Pos}{wi:TI}{y:Str}(hN:X.N.Nodup)(hiN:X.N[i]?=some y)(hx:Loc X.env.scope y)(C:CompOk X.N X.env.scope.names sc N' k ixs)(hcalm:X.calm=true)(hi:PI X target iter wi)(hg:∀ C s₃ H₃ fp pins,PG (blk X sc N' C s₃ H₃ fp pins) target g)(hc:∀ C s₃ H₃ fp pins,PIfs (blk X sc N' C s₃ H₃ fp pins) ifs c)(he:∀ C s₃ H₃ fp pins,PE (blk X sc N' C s₃ H₃ fp pins) elt te)(hsw:swapsWith (.ListComp elt [⟨target,iter,ifs,0⟩] sc pos) (some (.Name y py)) spos.line X.env=pure true:=by rfl)(hf:X.fn y=true\/X.env.scope.names.lookup y=some .local:=by first | exact .inl rfl | exact .inr rfl | assumption)(hs:∀ x,foldedSetIterable iter X.env x=pure x:=by intro _;rfl):PS X (.Assign [.Name y py] (.ListComp elt [⟨target,iter,ifs,0⟩] sc pos) spos) (tAsg (tComp wi k ixs g c te) (gName i)):=by
 intro pins s σ H D I h;rw [exec_Assign_Name_used _ _ _ _ hsw];refine wpAny_bind (wpAny_standAt (wpAny_bind ?_));show wpAny _ X.A (do let _ <- comprehension (.ListComp elt [⟨target,iter,ifs,0⟩] sc pos) sc X.env _ (newList []) false (eval iter X.env) (some (assign (.Name y py) X.env))) _ _ s;refine wpAny_bind (wpAny_mono (wpAny_comprehension_free (use:=some (assign (.Name y py) X.env)) (Q:=fun _ s'=>SP X pins D .next s') rfl hs (ac4 fun x hx hf=>I.ok.has x.1 (C.free x hx hf)) C.kind C.names
  (thn (hi pins s σ H _ I h) fun v s1 h1=>thn h1 fun itv s2 h2=>?_)) (fun _ s' hq=>wpAny_pure (wpAny_pure hq)) fun _ _ e=>e)
 obtain ⟨it,fp,tn,J,H2,e,I2,T,st2,f2,q2⟩:=h2;subst e;refine aeK (Q:=fun x H1=>gName i x σ H1 D.nx) (RR:=fun acc C=>compPost (model X.prog X.w) X.A X.xe (some (assign (.Name y py) X.env)) (fun _ s'=>SP X pins D .next s') acc C) C hcalm hg hc he I2 T st2 f2 q2 ?_;intro Da Cc H' s' o m _ Ip ho hn hC hL hab hcell hpin q;show wpAny _ X.A (assign (.Name y py) X.env (.ref Da)) _ _ _;refine wpAny_assign_Name (adJ (v:=.ref Da) Ip hN hiN hx rfl (fun s'' I''=>?_) hf);have hC2:=(I''.pin (Cc,o) (qam _ (qam _ (qa7.mpr rfl)))).1;refine ⟨m,hn.at' fun o' e'=>?_,fun h'' hs''=>?_⟩
 ·rw [ho] at e';cases e';exact hC2
 ·have I3:Inv X pins (σ.set i (some (.ref Da))) H' s'':=I''.unpinned;exact ⟨_,H',I3.turned (t':=s''.toks) (fun b o hb e=>hs''.extBut b o hb e) hC hL (.inr hab) hcell hpin,q⟩
end
end L2
end
set_option maxRecDepth 100000
namespace L2
open PySem PySem.Spec PyProof.Rows
section
variable {X:Cx} {a b:Expr} {ta tb:TE} {pos:Pos} {rest:List Expr}
noncomputable def tTru (K:PySem.W.Frag) (te:TE):TT:=fun σ H Q=>te σ H fun x H1=>∃ k,TruV K x H1 k/\Q k H1
theorem anD(ha:PE X a ta)(he:∀ whole,isTrue a X.env whole=(do let v <- whole;standAt a.pos;holding [v] (truthy v)):=by intro _;rfl):PT X a (tTru X.K ta):=ajT ha he
noncomputable def tNotT (K:PySem.W.Frag) (te:TE):TE:=fun σ H Q=>te σ H fun x H1=>∃ k,TruV K x H1 k/\Q (.bl (!k)) H1
end
mutual
inductive Dn (K:PySem.W.Frag) (H:Hp):V->PyData->Prop
 | non:Dn K H .non .none
 | bl (b):Dn K H (.bl b) (.bool b)
 | int (i):Dn K H (.int i) (.int i)
 | str (x):qaO x=true->Dn K H (.str x) (.str x)
 | lst {a xs ds} : SqL K H a xs->DnAll K H xs ds->Dn K H (.ref a) (.list ds)
 | tup {a xs ds} : SqT K H a xs->DnAll K H xs ds->Dn K H (.ref a) (.tuple ds)
inductive DnAll (K:PySem.W.Frag) (H:Hp):List V->List PyData->Prop
 | nil:DnAll K H [] []
 | cons {x xs d ds} : Dn K H x d->DnAll K H xs ds->DnAll K H (x::xs) (d::ds)
end
section
variable {X:Cx} {pins:List (Addr×Obj)} {σ:St} {H:Hp} {s:Shared}
mutual
theorem Dn.reads{K:PySem.W.Frag}{x:V}{d:PyData}(I:Inv X pins σ H s)(hK:X.K=K):Dn K H x d->∀ {u:Value},RelV x u->d.canLay0=true/\∃ as,Reads s.heap u d as
 | .non,u,r=>by cases r;exact ⟨rfl,_,.none⟩
 | .bl b,u,r=>by cases r;exact ⟨rfl,_,.bool b⟩
 | .int i,u,r=>by obtain ⟨t,rfl⟩:=r;exact ⟨rfl,_,.int i t⟩
 | .str x hx,u,r=>by obtain ⟨t,rfl⟩:=r;exact ⟨hx,_,.str x t⟩
 | .lst (a:=a) q hs,u,r=>by
  cases r
  subst hK;obtain ⟨its,rv,⟨o,n,e,c,_,dd⟩,_⟩:=I.list q;obtain ⟨h1,as,h2⟩:=DnAll.reads I rfl hs rv;exact ⟨h1,_,.list e c dd (by simpa using h2)⟩
 | .tup (a:=a) q hs,u,r=>by
  cases r
  subst hK;obtain ⟨its,rv,⟨o,e,c,n,dd⟩,_⟩:=I.tuple q;obtain ⟨h1,as,h2⟩:=DnAll.reads I rfl hs rv;exact ⟨h1,_,.tuple e c dd (by simpa using h2)⟩
theorem DnAll.reads{K:PySem.W.Frag}{xs:List V}{ds:List PyData}(I:Inv X pins σ H s)(hK:X.K=K):DnAll K H xs ds->∀ {us:List Value},Vals xs us->PyData.canLayAll0 ds=true/\∃ as,ReadsAll s.heap us ds as
 | .nil,us,r=>by cases r;exact ⟨rfl,_,.nil⟩
 | .cons h t,us,r=>by
  cases r with
  | cons r1 r2=>
   obtain ⟨c1,a1,q1⟩:=Dn.reads I hK h r1;obtain ⟨c2,a2,q2⟩:=DnAll.reads I hK t r2;exact ⟨by simp [PyData.canLayAll0,c1,c2],_,.cons q1 q2⟩
end
end
mutual
theorem Dn.same{K:PySem.W.Frag}{H H':Hp}(hs:Same H H'){x:V}{d:PyData} : Dn K H x d->Dn K H' x d
 | .non=>.non
 | .bl b=>.bl b
 | .int i=>.int i
 | .str x h=>.str x h
 | .lst q h=>.lst (hs.seq q) (DnAll.same hs h)
 | .tup (a:=a) (xs:=xs) q h=>.tup (by
   rcases q with (q | ⟨o,q⟩) | q
   ·exact .inl (.inl (hs _ _ q))
   ·exact .inl (.inr ⟨o,hs _ _ q⟩)
   ·exact .inr q) (DnAll.same hs h)
theorem DnAll.same{K:PySem.W.Frag}{H H':Hp}(hs:Same H H'){xs:List V}{ds:List PyData} : DnAll K H xs ds->DnAll K H' xs ds
 | .nil=>.nil
 | .cons h t=>.cons (Dn.same hs h) (DnAll.same hs t)
end
theorem Same.tup{K:PySem.W.Frag}{H H':Hp}{a:Addr}{xs:List V}(e:Same H H')(h:SqT K H a xs):SqT K H' a xs:=by
 rcases h with (h | ⟨o,h⟩) | h
 ·exact .inl (.inl (e _ _ h))
 ·exact .inl (.inr ⟨o,e _ _ h⟩)
 ·exact .inr h
theorem uad{K:PySem.W.Frag}{H:Hp} : ∀ {zs:List Str},(∀ z∈zs,qaO z=true)->DnAll K H (zs.map V.str) (zs.map PyData.str)
 | [],_=>.nil
 | z::zs,h=>.cons (.str z (h z qac)) (uad fun y hy=>h y (qa9 _ hy))
theorem uae{K:PySem.W.Frag}{H:Hp} : ∀ {zs:List Int},DnAll K H (zs.map V.int) (zs.map PyData.int)
 | []=>.nil
 | z::zs=>.cons (.int z) uae
theorem ac9:∀ (xs ys:List Str),qb6 (xs.map PyData.str) (ys.map PyData.str)=decide (xs=ys)
 | [],[]=>by simp [qb6]
 | [],_::_=>by simp [qb6]
 | _::_,[]=>by simp [qb6]
 | x::xs,y::ys=>by
  rw [qak,qak,qb6,ac9 xs ys];rw [show qaN (.str x) (.str y)=(x==y) by simp [qaN]]
  by_cases h1:x=y
  ·subst h1;simp
  ·simp [h1]
theorem acp:∀ (xs ys:List Int),qb6 (xs.map PyData.int) (ys.map PyData.int)=decide (xs=ys)
 | [],[]=>by simp [qb6]
 | [],_::_=>by simp [qb6]
 | _::_,[]=>by simp [qb6]
 | x::xs,y::ys=>by
  rw [qak,qak,qb6,acp xs ys];rw [show qaN (.int x) (.int y)=(x==y) by simp [qaN]]
  by_cases h1:x=y
  ·subst h1;simp
  ·simp [h1]
noncomputable def rAddR (K:PySem.W.Frag) (a b:Addr) (H:Hp) (Q:VK):Prop:=rCat (.ref a) (.ref b) H Q\/rCatT K (.ref a) (.ref b) H Q
theorem rAddR.l{K:PySem.W.Frag}{a b:Addr}{H:Hp}{Q:VK}{xs ys:List V}(h1:H a=some (.lst xs))(h2:H b=some (.lst ys))(h3:xs.length+ys.length<=sizeLine)(h:∀ p,H p=none->Q (.ref p) (upd H p (.lst (xs++ys)))):rAddR K a b H Q:=.inl ⟨a,b,xs,ys,rfl,rfl,h1,h2,h3,h⟩
theorem rAddR.t{K:PySem.W.Frag}{a b:Addr}{H:Hp}{Q:VK}{xs ys:List V}(h1:SqT K H a xs)(h2:SqT K H b ys)(h0:xs≠[])(h3:xs.length+ys.length<=sizeLine)(he:ys=[]->Q (.ref a) H)(h:ys≠[]->∀ p,H p=none->Q (.ref p) (upd H p (.tup (xs++ys)))):rAddR K a b H Q:=.inr ⟨a,b,xs,ys,rfl,rfl,h1,h2,h0,h3,he,h⟩
noncomputable def rAddU (K:PySem.W.Frag):V->V->Hp->VK->Prop
 | .int i,.int j,H,Q=>Q (.int (i+j)) H
 | .str i,.str j,H,Q=>i.length+j.length<=sizeLine/\Q (.str (i++j)) H
 | .ref a,.ref b,H,Q=>rAddR K a b H Q
 | _,_,_,_=>False
noncomputable def rMulU:V->V->Hp->VK->Prop
 | .int i,.int j,H,Q=>CMul i j/\Q (.int (i*j)) H
 | .ref a,.int j,H,Q=>rRep (.ref a) (.int j) H Q
 | _,_,_,_=>False
noncomputable def rEqU (K:PySem.W.Frag):V->V->Hp->VK->Prop
 | .int i,.int j,H,Q=>Q (.bl (decide (i=j))) H
 | .str i,.str j,H,Q=>Q (.bl (decide (i=j))) H
 | .bl i,.bl j,H,Q=>Q (.bl (decide (i=j))) H
 | x,y,H,Q=>∃ d e,Dn K H x d/\Dn K H y e/\min d.depth e.depth<=60/\Q (.bl (qaN d e)) H
noncomputable def rNeU (K:PySem.W.Frag):V->V->Hp->VK->Prop
 | .int i,.int j,H,Q=>Q (.bl (!decide (i=j))) H
 | .str i,.str j,H,Q=>Q (.bl (!decide (i=j))) H
 | .bl i,.bl j,H,Q=>Q (.bl (!decide (i=j))) H
 | x,y,H,Q=>∃ d e,Dn K H x d/\Dn K H y e/\min d.depth e.depth<=60/\Q (.bl (!PyData.eqv d e)) H
noncomputable def rLtU:V->V->Hp->VK->Prop
 | .int i,.int j,H,Q=>Q (.bl (decide (i<j))) H
 | .str i,.str j,H,Q=>Q (.bl (decide (i.cps.toList<j.cps.toList))) H
 | _,_,_,_=>False
noncomputable def rLeU:V->V->Hp->VK->Prop
 | .int i,.int j,H,Q=>Q (.bl (decide (i<=j))) H
 | .str i,.str j,H,Q=>Q (.bl (!decide (j.cps.toList<i.cps.toList))) H
 | _,_,_,_=>False
noncomputable def rGtU:V->V->Hp->VK->Prop
 | .int i,.int j,H,Q=>Q (.bl (decide (j<i))) H
 | .str i,.str j,H,Q=>Q (.bl (decide (j.cps.toList<i.cps.toList))) H
 | _,_,_,_=>False
noncomputable def rGeU:V->V->Hp->VK->Prop
 | .int i,.int j,H,Q=>Q (.bl (decide (j<=i))) H
 | .str i,.str j,H,Q=>Q (.bl (!decide (i.cps.toList<j.cps.toList))) H
 | _,_,_,_=>False
noncomputable def rInR (K:PySem.W.Frag) (neg:Bool) (x:V) (p:Addr) (H:Hp) (Q:VK):Prop:=rIn K neg x (.ref p) H Q\/∃ o,DGet H p x o/\Q (.bl (neg.xor o.isSome)) H
theorem rInR.l{K:PySem.W.Frag}{neg:Bool}{x:V}{p:Addr}{H:Hp}{Q:VK}{xs:List V}(h1:SqL K H p xs\/SqT K H p xs)(h2:flatV x=true)(h3:xs.all flatV=true)(h:Q (.bl (neg.xor (inV x xs))) H):rInR K neg x p H Q:=.inl ⟨p,xs,rfl,h1,h2,h3,by cases neg <;> simpa using h⟩
theorem rInR.d{K:PySem.W.Frag}{neg:Bool}{x:V}{p:Addr}{H:Hp}{Q:VK}{o:Option V}(h1:DGet H p x o)(h:Q (.bl (neg.xor o.isSome)) H):rInR K neg x p H Q:=.inr ⟨o,h1,h⟩
noncomputable def rInU (K:PySem.W.Frag) (neg:Bool) (x:V):V->Hp->VK->Prop
 | .str j,H,Q=>∃ i,x=.str i/\Q (.bl (neg.xor (!(Builtin.Str.occurrences j i 0 j.length 1).isEmpty))) H
 | .ref p,H,Q=>rInR K neg x p H Q
 | _,_,_=>False
section
variable {X:Cx} {pins:List (Addr×Obj)} {σ:St} {H:Hp} {s:Shared}
theorem p_add:OpR X (binaryOp .Add) (rAddU X.K):=by
 intro pins s σ H x y v u Q I rx ry h
 cases x <;> cases y <;> try exact h.elim
 ·exact anc pins s σ H _ _ v u Q I rx ry ⟨_,_,rfl,rfl,h⟩
 ·exact ahE pins s σ H _ _ v u Q I rx ry ⟨_,_,rfl,rfl,h⟩
 ·rcases h with h | h
  ·exact anx pins s σ H _ _ v u Q I rx ry h
  ·exact alI pins s σ H _ _ v u Q I rx ry h
theorem p_sub:OpR X (binaryOp .Sub) (rI0 fun i j=>.int (i-j)):=ane
theorem p_mul:OpR X (binaryOp .Mult) rMulU:=by
 intro pins s σ H x y v u Q I rx ry h
 cases x <;> cases y <;> try exact h.elim
 ·exact anf pins s σ H _ _ v u Q I rx ry ⟨_,_,rfl,rfl,h⟩
 ·exact anz pins s σ H _ _ v u Q I rx ry h
theorem anE:OpR X (binaryOp .FloorDiv) (rI CDiv fun i j=>.int (i / j)):=alv
theorem p_mod:OpR X (binaryOp .Mod) (rI (fun _ j=>0<j) fun i j=>.int (i % j)):=ang
theorem ag5(hu:X.A.units+64<cLine){x y:V}{v u:Value}{Q:VK}(I:Inv X pins σ H s)(rx:RelV x v)(ry:RelV y u)(h:∃ d e,Dn X.K H x d/\Dn X.K H y e/\min d.depth e.depth<=60/\Q (.bl (qaN d e)) H):wpAny (model X.prog X.w) X.A (compareOp .Eq v u) (EP X pins σ Q) X.xe s:=by
 obtain ⟨d,e,h1,h2,hd,q⟩:=h;obtain ⟨c1,as,r1⟩:=h1.reads I rfl rx;obtain ⟨c2,bs,r2⟩:=h2.reads I rfl ry;exact SeqAt.compareEq_reads r1 r2 c1 c2 (by omega) ⟨.bl _,H,I,rfl,q⟩
theorem ag6(hu:X.A.units+64<cLine){x y:V}{v u:Value}{Q:VK}(I:Inv X pins σ H s)(rx:RelV x v)(ry:RelV y u)(h:∃ d e,Dn X.K H x d/\Dn X.K H y e/\min d.depth e.depth<=60/\Q (.bl (!PyData.eqv d e)) H):wpAny (model X.prog X.w) X.A (compareOp .NotEq v u) (EP X pins σ Q) X.xe s:=by
 obtain ⟨d,e,h1,h2,hd,q⟩:=h;obtain ⟨c1,as,r1⟩:=h1.reads I rfl rx;obtain ⟨c2,bs,r2⟩:=h2.reads I rfl ry;exact SeqAt.compareNe_reads r1 r2 c1 c2 (by omega) ⟨.bl _,H,I,rfl,q⟩
theorem p_eq(hu:X.A.units+64<cLine):OpR X (compareOp .Eq) (rEqU X.K):=by
 intro pins s σ H x y v u Q I rx ry h;have sc:∀ {x y:V},rEq x y H Q->RelV x v->RelV y u->wpAny (model X.prog X.w) X.A (compareOp .Eq v u) (EP X pins σ Q) X.xe s:=fun {x y} h rx ry=>op_eq pins s σ H x y v u Q I rx ry h
 cases x with
 | int i=>cases y with
  | int j=>exact sc (x:=.int i) (y:=.int j) ⟨rfl,by simpa using (show Q (.bl (decide (i=j))) H from h)⟩ rx ry
  | _=>exact ag5 hu I rx ry h
 | str i=>cases y with
  | str j=>exact sc (x:=.str i) (y:=.str j) ⟨rfl,by simpa using (show Q (.bl (decide (i=j))) H from h)⟩ rx ry
  | _=>exact ag5 hu I rx ry h
 | bl i=>cases y with
  | bl j=>exact sc (x:=.bl i) (y:=.bl j) ⟨rfl,by simpa using (show Q (.bl (decide (i=j))) H from h)⟩ rx ry
  | _=>exact ag5 hu I rx ry h
 | _=>cases y <;> exact ag5 hu I rx ry h
theorem p_ne(hu:X.A.units+64<cLine):OpR X (compareOp .NotEq) (rNeU X.K):=by
 intro pins s σ H x y v u Q I rx ry h;have sc:∀ {x y:V},rNe x y H Q->RelV x v->RelV y u->wpAny (model X.prog X.w) X.A (compareOp .NotEq v u) (EP X pins σ Q) X.xe s:=fun {x y} h rx ry=>op_ne pins s σ H x y v u Q I rx ry h
 cases x with
 | int i=>cases y with
  | int j=>exact sc (x:=.int i) (y:=.int j) ⟨rfl,by simpa using (show Q (.bl (!decide (i=j))) H from h)⟩ rx ry
  | _=>exact ag6 hu I rx ry h
 | str i=>cases y with
  | str j=>exact sc (x:=.str i) (y:=.str j) ⟨rfl,by simpa using (show Q (.bl (!decide (i=j))) H from h)⟩ rx ry
  | _=>exact ag6 hu I rx ry h
 | bl i=>cases y with
  | bl j=>exact sc (x:=.bl i) (y:=.bl j) ⟨rfl,by simpa using (show Q (.bl (!decide (i=j))) H from h)⟩ rx ry
  | _=>exact ag6 hu I rx ry h
 | _=>cases y <;> exact ag6 hu I rx ry h
theorem p_lt:OpR X (compareOp .Lt) rLtU:=by
 intro pins s σ H x y v u Q I rx ry h
 cases x <;> cases y <;> try exact h.elim
 ·exact op_lt pins s σ H _ _ v u Q I rx ry ⟨_,_,rfl,rfl,h⟩
 ·exact air pins s σ H _ _ v u Q I rx ry ⟨_,_,rfl,rfl,h⟩
theorem p_le:OpR X (compareOp .LtE) rLeU:=by
 intro pins s σ H x y v u Q I rx ry h
 cases x <;> cases y <;> try exact h.elim
 ·exact op_le pins s σ H _ _ v u Q I rx ry ⟨_,_,rfl,rfl,h⟩
 ·obtain ⟨t,rfl⟩:=rx;obtain ⟨t',rfl⟩:=ry;exact PySem.P.le_str ⟨.bl _,H,I,by simp [RelV],h⟩
theorem p_gt:OpR X (compareOp .Gt) rGtU:=by
 intro pins s σ H x y v u Q I rx ry h
 cases x <;> cases y <;> try exact h.elim
 ·exact op_gt pins s σ H _ _ v u Q I rx ry ⟨_,_,rfl,rfl,h⟩
 ·obtain ⟨t,rfl⟩:=rx;obtain ⟨t',rfl⟩:=ry;exact PySem.P.gt_str ⟨.bl _,H,I,rfl,h⟩
theorem p_in(hu:X.A.units+64<cLine):OpR X (compareOp .In) (rInU X.K false):=by
 intro pins s σ H x y v u Q I rx ry h
 cases y with
 | str j=>
  obtain ⟨i,rfl,q⟩:=h;exact ais pins s σ H _ _ v u Q I rx ry ⟨i,j,rfl,rfl,by simpa using q⟩
 | ref p=>
  rcases h with h | ⟨o,g,q⟩
  ·exact aiB pins s σ H _ _ v u Q I rx ry h
  ·obtain rfl:u=Value.ref p:=ry;exact d_in (by omega) I g rx fun s3 I3=>⟨.bl o.isSome,H,I3,rfl,by simpa using q⟩
 | _=>exact h.elim
theorem alS(hu:X.A.units+64<cLine):OpR X (compareOp .NotIn) (rInU X.K true):=by
 intro pins s σ H x y v u Q I rx ry h
 cases y with
 | str j=>
  obtain ⟨i,rfl,q⟩:=h;exact afF pins s σ H _ _ v u Q I rx ry ⟨i,j,rfl,rfl,by simpa using q⟩
 | ref p=>
  rcases h with h | ⟨o,g,q⟩
  ·exact afE pins s σ H _ _ v u Q I rx ry h
  ·obtain rfl:u=Value.ref p:=ry;exact alM (by omega) I g rx fun s3 I3=>⟨.bl (!o.isSome),H,I3,rfl,by simpa using q⟩
 | _=>exact h.elim
noncomputable def cutS (x:Str) (lo hi:Option Int):Str:=⟨((x.cps.toList.drop (HT.sIx x.length 0 lo)).take (HT.sIx x.length x.length hi-HT.sIx x.length 0 lo)).toArray⟩
noncomputable def rSlS:V->Option Int->Option Int->Hp->VK->Prop:=fun x lo hi H Q=>∃ z,x=.str z/\z.length<=sizeLine/\Q (.str (cutS z lo hi)) H
end
end L2
variable {C a b dx f fa it ll md ml r sl:PySem.Addr}{dvs vs xs ys:List L2.V}{Q:L2.VK}{cd ct oc pm u v vl vu:PySem.Value}{ck i j k m n t' x1:Nat}{items:Array PySem.Value}{ns:List Int}{its us:List PySem.Value}{pins:List (PySem.Addr×PySem.Obj)}{σ:L2.St}{H H' H0 H1 H2 H3 H₃:L2.Hp}{s s₃:PySem.Shared}{p q qual z:PySem.Str}{A:PySem.Around}{x y:L2.V}{c:L2.TT}{h h':PySem.Heap}{L M N N' S acc bad g' ks line loose ls ms ps qs ts zs:List PySem.Str}{K:PySem.W.Frag}{mg:PySem.Str->Option PySem.Value}{fd:PySem.FuncData}{sp:L2.Sp}{X:L2.Cx}{st:PySem.Stmt}{kvs:List (L2.Key×L2.V)}{prog:PySem.Program}{E:PySem.Value->PySem.Shared->Prop}{ixs pre:List Nat}{elt iter target tg:PySem.Expr}{elts ifs:List PySem.Expr}{g:L2.TG}{te tl:L2.TE}{fp l₁ rs:List PySem.Addr}{cpos kpos spos tpos:PySem.Pos}{calm fg neg:Bool}{an od:Option PySem.Addr}{tb:L2.TS}{D:L2.Ends}{lo:Int}{o:PySem.Obj}{ta:L2.TA}{ss:Array (Option PySem.Value)}
set_option maxRecDepth 100000
namespace L2
open PySem PySem.Spec PyProof.Rows
section
variable {X:Cx}
theorem aiJ(x:Str)(lo hi:Option Int):Txt.slice x lo hi=cutS x lo hi:=by
 have c1:∀ (o:Option Int) (d:Nat),(match o with | none=>(d:Int) | some i=>if (1:Int) > 0 then max 0 (min (if i<0 then i+(x.length:Int) else i) (x.length:Int)) else max (-1) (min (if i<0 then i+(x.length:Int) else i) ((x.length:Int)-1)))=((HT.sIx x.length d o:Nat):Int):=by
  intro o d
  cases o with
  | none=>rfl
  | some i=>
   rw [<- HT.clip_eq i x.length d];simp only [show ((1:Int) > 0)=True by simp,if_true]
   split <;> omega
 have h2:Builtin.Str.strSliceIndices lo hi 1 x.length=Builtin.Str.strSliceIndices (some ((HT.sIx x.length 0 lo:Nat):Int)) (some ((HT.sIx x.length x.length hi:Nat):Int)) 1 x.length:=by
  have e1:=c1 lo 0;have e2:=c1 hi x.length;have e3:=c1 (some ((HT.sIx x.length 0 lo:Nat):Int)) 0;have e4:=c1 (some ((HT.sIx x.length x.length hi:Nat):Int)) x.length;have l1:=HT.sIx_le x.length 0 (qar _) lo;have l2:=HT.sIx_le x.length x.length (qa2 _) hi;rw [HT.sIx_nat,qbw l1] at e3;rw [HT.sIx_nat,qbw l2] at e4;unfold Builtin.Str.strSliceIndices
  dsimp only at e3 e4 ⊢
  rw [e3,e4];clear e3 e4 l1 l2;refine congr (congr (congrArg sliceRange ?_) ?_) rfl
  ·cases lo with
   | none=>exact e1
   | some i=>exact e1
  ·cases hi with
   | none=>exact e2
   | some i=>exact e2
 have l1:=HT.sIx_le x.length 0 (qar _) lo;have l2:=HT.sIx_le x.length x.length (qa2 _) hi;unfold Txt.slice cutS;rw [h2];generalize HT.sIx x.length 0 lo=a at *;generalize HT.sIx x.length x.length hi=b at *;have len:x.length=x.cps.toList.length:=by simp [Str.length]
 by_cases hab:a<=b
 ·rw [StrLaws.sliced_plain x hab l2,StrLaws.strSliceIndices_plain hab l2]
  split
  ·rename_i hc
   have hc':b-a=x.length:=by simpa using hc
   have ha:a=0:=by omega
   subst ha;rw [List.drop_zero,qaF (by omega)]
  ·rfl
 ·have e:Builtin.Str.strSliceIndices (some (a:Int)) (some (b:Int)) 1 x.length=[]:=by
   have h1:¬ ((a:Int)<0):=by omega
   have h2:¬ ((b:Int)<0):=by omega
   have e1:max (0:Int) (min (a:Int) (x.length:Int))=a:=by omega
   have e2:max (0:Int) (min (b:Int) (x.length:Int))=b:=by omega
   simp only [Builtin.Str.strSliceIndices,sliceRange,h1,h2,if_false,e1,e2,show ((1:Int) > 0)=True from by simp,if_true];rw [if_neg (by omega)];rfl
  rw [e,show b-a=0 by omega,qaU]
  split
  ·rename_i hc
   have hc':0=x.length:=by simpa using hc
   have:x.cps.toList=[]:=List.eq_nil_of_length_eq_zero (by omega)
   obtain ⟨⟨l⟩⟩:=x;simp at this;subst this;rfl
  ·rfl
theorem anF:SlR X rSlS:=by
 intro pins s σ H x v vl vu lo hi sl Q I rx hs pl pu h;obtain ⟨z,rfl,hz,q⟩:=h;obtain ⟨t,rfl⟩:=rx;refine ⟨"str",_,F.slot_str_getitem.lookup,typeIs_str _ _ _,?_⟩;rw [<- aiJ] at q;have part:∀ {u:Value} {o:Option Int},IsPart u o->∃ l:Option (Int×Tok),u=partValue l/\l.map (·.1)=o:=fun {u o} p=>by
  cases p with
  | none=>exact ⟨none,rfl,rfl⟩
  | int i t=>exact ⟨some (i,t),rfl,rfl⟩
 obtain ⟨l,rfl,el⟩:=part pl;obtain ⟨u,rfl,eu⟩:=part pu;subst el eu;refine wpAny_getItem_str_slice (l:=l) (u:=u) (st:=none) hs rfl ?_;exact post_val_or_str ⟨qan (Txt.slice_le z _ _) hz,fun t' k=>⟨.str _,H,I.tok _,⟨t',rfl⟩,q⟩⟩
theorem adm{w:World}{t:Addr}{lo hi:Option Int}{Q:Value->Shared->Prop}(ht:IsTup s.heap t items)(hs:s.heap.IsSliceOf sl vl vu .none)(pl:IsPart vl lo)(pu:IsPart vu hi)(hw:HT.sIx items.size 0 lo=0/\HT.sIx items.size items.size hi=items.size)(h:Q (.ref t) s):wpAny (model prog w) A (getItem (.ref t) (.ref sl)) Q E s:=by
 obtain ⟨os,hos,hcs,hds⟩:=id hs;have hTs:s.TypeIs (.ref sl) "slice":=⟨os,hos,hcs⟩
 unfold getItem
 try with_reducible refine wpAny_holding ?_
 first | refine wpAny_bind (wpAny_pure ?_) | skip
 refine wpAny_bind (wpAny_sequenceKey ht.typeIs (by decide) ?_);refine wpAny_bind (wpAny_callSpecial?_slot (name:=Str.ofString "__getitem__") ht.typeIs PyProof.Rows.slot_tuple_getitem
  (wpAny_call_entry PyProof.Rows.slot_tuple_getitem ht.typeIs PyProof.Rows.entry_tuple_getitem ?_ (PyProof.Rows.args_tuple_getitem _ _)))
 show wpAny _ _ (Builtin.Tuple.tupleItemsOf (.ref t) >>= _) _ _ s;refine wpAny_bind (PyProof.Rows.tupleItemsOf_ ht ?_);refine wpAny_bind (wpAny_typeOf hTs ?_);rw [if_pos (by decide)];refine wpAny_bind (HT.sliceApplied_gen hs pl pu ?_);have hyes:((((HT.sIx items.size 0 lo:Nat):Int)==0&&(1:Int)==1&&(HT.sIx items.size items.size hi-HT.sIx items.size 0 lo)==items.size)=true):=by
  rw [hw.1,hw.2]
  simp
 show wpAny _ _ (if (((HT.sIx items.size 0 lo:Nat):Int)==0&&(1:Int)==1&&(HT.sIx items.size items.size hi-HT.sIx items.size 0 lo)==items.size)=true then _ else _) _ _ s;rw [if_pos hyes];refine wpAny_bind ?_;show wpAny _ _ (typeOf (.ref t) >>= fun v=>pure (v == .type "tuple")) _ _ s;refine wpAny_bind (wpAny_typeOf ht.typeIs (wpAny_pure ?_));rw [if_pos (by decide)];refine wpAny_bind (wpAny_rule ?_);exact wpAny_pure ⟨_,rfl,wpAny_pure h⟩
noncomputable def rSlW (K:PySem.W.Frag):V->Option Int->Option Int->Hp->VK->Prop:=fun x lo hi H Q=>∃ a xs,x=.ref a/\SqT K H a xs/\(HT.sIx xs.length 0 lo=0/\HT.sIx xs.length xs.length hi=xs.length)/\Q (.ref a) H
theorem anG:SlR X (rSlW X.K):=by
 intro pins s σ H x v vl vu lo hi sl Q I rx hs pl pu h;obtain ⟨a,xs,rfl,hx,hw,q⟩:=h
 cases rx
 obtain ⟨its,r,ht,hz⟩:=I.tuple hx;have hlen:its.toArray.size=xs.length:=by rw [qai];exact r.length.symm
 refine ⟨"tuple",_,PyProof.Rows.slot_tuple_getitem.lookup,ht.typeIs,?_⟩;exact adm ht hs pl pu (by rw [hlen];exact hw) ⟨.ref a,H,I,rfl,q⟩
noncomputable def rSlR (K:PySem.W.Frag) (a:Addr) (lo hi:Option Int) (H:Hp) (Q:VK):Prop:=rSlL K (.ref a) lo hi H Q\/rSlT K (.ref a) lo hi H Q\/rSlW K (.ref a) lo hi H Q
theorem rSlR.l{lo hi:Option Int}(h1:SqL K H a xs)(h:∀ p,H p=none->Q (.ref p) (upd H p (.lst (cutV xs lo hi)))):rSlR K a lo hi H Q:=.inl ⟨a,xs,rfl,h1,h⟩
theorem rSlR.t{lo hi:Option Int}(h1:SqT K H a xs)(h2:¬ (HT.sIx xs.length 0 lo=0/\HT.sIx xs.length xs.length hi=xs.length))(h:∀ p,H p=none->Q (.ref p) (upd H p (.tup (cutV xs lo hi)))):rSlR K a lo hi H Q:=.inr (.inl ⟨a,xs,rfl,h1,h2,h⟩)
theorem rSlR.w{lo hi:Option Int}(h1:SqT K H a xs)(h2:HT.sIx xs.length 0 lo=0/\HT.sIx xs.length xs.length hi=xs.length)(h:Q (.ref a) H):rSlR K a lo hi H Q:=.inr (.inr ⟨a,xs,rfl,h1,h2,h⟩)
noncomputable def rSlU (K:PySem.W.Frag):V->Option Int->Option Int->Hp->VK->Prop
 | .str z,lo,hi,H,Q=>z.length<=sizeLine/\Q (.str (cutS z lo hi)) H
 | .ref a,lo,hi,H,Q=>rSlR K a lo hi H Q
 | _,_,_,_,_=>False
theorem p_sl:SlR X (rSlU X.K):=by
 intro pins s σ H x v vl vu lo hi sl Q I rx hs pl pu h
 cases x with
 | str z=>exact anF pins s σ H _ v vl vu lo hi sl Q I rx hs pl pu ⟨z,rfl,h⟩
 | ref a=>
  rcases h with h | h | h
  ·exact alK pins s σ H _ v vl vu lo hi sl Q I rx hs pl pu h
  ·exact ans pins s σ H _ v vl vu lo hi sl Q I rx hs pl pu h
  ·exact anG pins s σ H _ v vl vu lo hi sl Q I rx hs pl pu h
 | _=>exact h.elim
noncomputable def LenR (K:PySem.W.Frag) (H:Hp) (p:Addr) (n:Nat):Prop:=(∃ xs,SqL K H p xs/\n=xs.length)\/(∃ xs,SqT K H p xs/\n=xs.length)\/∃ kvs,Rd H p (.dK kvs)/\n=kvs.length
noncomputable def rLenU (K:PySem.W.Frag):List V->Hp->VK->Prop
 | [.str z],H,Q=>z.length<=sizeLine/\Q (.int z.length) H
 | [.ref p],H,Q=>∃ n:Nat,LenR K H p n/\Q (.int n) H
 | _,_,_=>False
theorem p_len:CallR X (.builtin "len") (rLenU X.K):=by
 intro pins s σ H xs us Q I r h
 match xs,h with
 | [.str z],h=>exact ae2 pins s σ H _ us Q I r ⟨.str z,z.length,rfl,⟨h.1,rfl⟩,h.2⟩
 | [.ref p],⟨n,l,q⟩=>
  rcases l with ⟨xs,l,rfl⟩ | ⟨xs,l,rfl⟩ | ⟨kvs,l,rfl⟩
  ·exact ae2 pins s σ H _ us Q I r ⟨.ref p,_,rfl,.inl ⟨xs,l,rfl⟩,q⟩
  ·exact ae2 pins s σ H _ us Q I r ⟨.ref p,_,rfl,.inr ⟨xs,l,rfl⟩,q⟩
  ·obtain ⟨u,rfl,ru⟩:=vals1 r
   cases ru
   exact d_len I l fun t s' I'=>⟨.int kvs.length,H,I',⟨t,rfl⟩,q⟩
theorem aeu(hc:X.calm=true):CallR X (.type "list") (fun xs H Q=>∃ d kvs,xs=[.ref d]/\Rd H d (.dK kvs)/\∀ l,H l=none->Q (.ref l) (upd H l (.lst (kvs.map fun kv=>kV kv.1)))):=by
 intro pins s σ H xs us Q I r h;obtain ⟨d,kvs,rfl,e,q⟩:=h;obtain ⟨u,rfl,rx⟩:=vals1 r
 cases rx
 obtain ⟨z,hd,vs,rel,dd⟩:=dk_rd I.hok e;obtain ⟨ep,hat⟩:=dd.dictAt;have hl:=rel.length;refine PySem.W.kdl_call (PySem.W.kdl_dict (knd:=aaR X.prog X.w) (kvs:=vs) (ep:=ep) hd) (I.ok.hd hc) hat (by omega) fun h' tk acc c' kp hD hacc=>?_
 have hv:Vals (kvs.map fun kv=>kV kv.1) acc.toList:=by
  have hk:=rel.keys;have hlen:acc.toList.length=kvs.length:=by rw [qba,hacc.1,hl]
  have key:∀ (ks:List Key) (us:List Value),us.length=ks.length->(∀ (j:Nat) (v:Value),us[j]?=some v->∃ k,ks[j]?=some k/\keyIs k v=true)->Vals (ks.map kV) us:=by
   intro ks
   induction ks with
   | nil=>intro us h1 _;cases us with
    | nil=>exact .nil
    | cons _ _=>simp at h1
   | cons k ks ih=>
    intro us h1 h2
    cases us with
    | nil=>simp at h1
    | cons u us=>
     obtain ⟨k',e1,e2⟩:=h2 0 u rfl;simp at e1;subst e1;refine .cons ?_ (ih us (by simpa using h1) fun j v hj=>by simpa using h2 (j+1) v (by simpa using hj))
     rcases aaV e2 with ⟨i,t,rfl,rfl⟩ | ⟨x,t,rfl,rfl⟩
     ·exact ⟨t,rfl⟩
     ·exact ⟨t,rfl⟩
  rw [show (kvs.map fun kv=>kV kv.1)=(kvs.map (·.1)).map kV by rw [qb7];rfl];refine key _ _ (by rw [hlen,qa0]) fun j v hj=>?_
  obtain ⟨k,x,hx,hk'⟩:=hacc.2 j v (by rw [<- Array.getElem?_toList];exact hj);refine ⟨k,?_,hk'⟩;rw [hk,qaC,hx];rfl
 refine ⟨.ref s.heap.objs.size,_,I.laid (t':=tk) kp (qa2 _) (show ObjOk X.prog X.w _ h' _ (.lst (kvs.map fun kv=>kV kv.1)) from ⟨by rw [qa0];exact z,acc.toList,c',hv,by simpa using hD⟩),rfl,q _ (I.hok.fresh (qa2 _))⟩
noncomputable def rListR (K:PySem.W.Frag) (calm:Bool) (p:Addr) (H:Hp) (Q:VK):Prop:=(∃ ys,(SqL K H p ys\/SqT K H p ys)/\∀ l,H l=none->Q (.ref l) (upd H l (.lst ys)))\/(calm=true/\∃ kvs,Rd H p (.dK kvs)/\∀ l,H l=none->Q (.ref l) (upd H l (.lst (kvs.map fun kv=>kV kv.1))))
theorem rListR.l{p:Addr}(h1:SqL K H p ys\/SqT K H p ys)(h:∀ l,H l=none->Q (.ref l) (upd H l (.lst ys))):rListR K calm p H Q:=.inl ⟨ys,h1,h⟩
theorem rListR.d{p:Addr}(h1:Rd H p (.dK kvs))(h:∀ l,H l=none->Q (.ref l) (upd H l (.lst (kvs.map fun kv=>kV kv.1)))):rListR K true p H Q:=.inr ⟨rfl,kvs,h1,h⟩
noncomputable def aiK (K:PySem.W.Frag) (calm:Bool):List V->Hp->VK->Prop
 | [.ref p],H,Q=>rListR K calm p H Q
 | _,_,_=>False
theorem anH:CallR X (.type "list") (aiK X.K X.calm):=by
 intro pins s σ H xs us Q I r h
 match xs,h with
 | [.ref p],h=>
  rcases h with ⟨ys,h1,h2⟩ | ⟨hc,kvs,h1,h2⟩
  ·exact afG pins s σ H _ us Q I r ⟨p,ys,rfl,h1,h2⟩
  ·exact aeu hc pins s σ H _ us Q I r ⟨p,kvs,rfl,h1,h2⟩
noncomputable def rAllB (calm:Bool):List V->Hp->VK->Prop
 | [.ref p],H,Q=>∃ bs:List Bool,calm=true/\H p=some (.lst (bs.map V.bl))/\Q (.bl (bs.all id)) H
 | _,_,_=>False
noncomputable def tyS (H:Hp):V->Option String
 | .non=>some "NoneType"
 | .bl _=>some "bool"
 | .int _=>some "int"
 | .str _=>some "str"
 | .ref a=>match H a with
  | some (.lst _)=>some "list"
  | some (.frz _ (.lst _))=>some "list"
  | some (.tup _)=>some "tuple"
  | some (.dK _)=>some "dict"
  | _=>none
 | _=>none
noncomputable def isB (T n:String):Bool:=T==n || (T == "bool" && n == "int")
noncomputable def isTys:List String:=["str", "int", "bool", "list", "tuple", "dict"]
noncomputable def rIsi:List V->Hp->VK->Prop
 | [x,.ty n],H,Q=>∃ T,tyS H x=some T/\isTys.contains n=true/\Q (.bl (isB T n)) H
 | _,_,_=>False
theorem anI{T:String}(h:tyS H x=some T):TyOf K H x (.type T)/\["NoneType", "bool", "int", "str", "list", "tuple", "dict"].contains T=true:=by
 cases x with
 | non=>cases h;exact ⟨.non,by decide⟩
 | bl b=>cases h;exact ⟨.bl b,by decide⟩
 | int i=>cases h;exact ⟨.int i,by decide⟩
 | str z=>cases h;exact ⟨.str z,by decide⟩
 | ref a=>
  unfold tyS at h
  dsimp only at h
  cases e:H a with
  | none=>rw [e] at h;cases h
  | some o=>
   rw [e] at h
   cases o with
   | lst xs=>cases h;exact ⟨.lst e,by decide⟩
   | tup xs=>cases h;exact ⟨.tup e,by decide⟩
   | dK kvs=>cases h;exact ⟨.dK e,by decide⟩
   | frz ob u=>
    cases u with
    | lst xs=>cases h;exact ⟨.frz e,by decide⟩
    | _=>cases h
   | _=>cases h
 | _=>cases h
theorem alT(K:PySem.W.Frag):∀ T∈["NoneType", "bool", "int", "str", "list", "tuple", "dict"],∀ n∈isTys,PySem.W.kitOne K (.type T) (.type n)=some (isB T n):=by
 intro T hT n hn;simp only [qaa,qbz,or_false,isTys] at hT hn
 rcases hT with rfl | rfl | rfl | rfl | rfl | rfl | rfl <;> rcases hn with rfl | rfl | rfl | rfl | rfl | rfl <;> rfl
theorem aj9:CallR X (.builtin "isinstance") rIsi:=by
 intro pins s σ H xs us Q I r h
 match xs,h with
 | [x,.ty n],⟨T,h1,h2,q⟩=>
  obtain ⟨u,c,rfl,ru,rc⟩:=vals2 r;obtain rfl:c=Value.type n:=rc;obtain ⟨h3,h4⟩:=anI (K:=X.K) h1;exact aiw I ru h3 (alT X.K T (by simpa using h4) n (by simpa using h2)) fun tk=>⟨.bl _,H,I.tok tk,rfl,q⟩
noncomputable def rOrd:List V->Hp->VK->Prop
 | [.str z],H,Q=>z.length=1/\Q (.int (z.cps.getD 0 0:Nat)) H
 | _,_,_=>False
noncomputable def Its (x:Str):It:=⟨fun i _=>i<x.cps.size,fun i H v H'=>H'=H/\∃ c,x.cps.toList[i]?=some c/\v=.str ⟨#[c]⟩,fun i _=>x.cps.size<=i⟩
theorem aka{P:Program}{w:World}{ty:String}(hty:ty="str_ascii_iterator"\/ty="str_iterator")(it:Addr)(x:Str)(t:Tok):Turn P w K tg (Its x) [it] it (fun i h=>h.IsStrIter it ty x t i) where
 mem:=by simp
 obj:=fun i h st b hb=>by
  have e:b=it:=by simpa using hb
  subst e;obtain ⟨o,e,c,d⟩:=st;exact ⟨o,e,fun v z=>by rw [d] at z;cases z⟩
 keep:=fun i h h' st k=>let ⟨o,e,r⟩:=st;⟨o,k it (by simp) o e,r⟩
 item:=by
  intro X hP hw hK hc i pins s σ H E I hf st hg;subst hP hw hK;obtain ⟨f0,f1,f2,f3,f4,f5⟩:=hf it (by simp);have hg':i<x.cps.size:=hg;have go:∀ h',h'.IsStrIter it ty x t (i+1)->Heap.SameBut it s.heap h'->∃ u,some (Value.str ⟨#[x.cps[i]]⟩ s.toks)=some u/\
    wpAny (model X.prog X.w) X.A (letOwnedTupleGo tg (.ref it) u) (fun _ s2=>∃ y H',Inv X pins σ H' s2/\RelV y u/\(Its x).yld i H y H'/\s2.heap.IsStrIter it ty x t (i+1)/\∀ b∈[it],H' b=none) E { s with heap:=h',toks:=s.toks+1 }:=by
   intro h' st' sb;have I1:Inv X pins σ H { s with heap:=h',toks:=s.toks+1 }:=I.turned (t':=s.toks+1) (fun b o hb e=>(sb.2 b hb).trans e) f0 f1 f3 f4 f5;obtain ⟨o,e,c,d⟩:=id st';refine ⟨_,rfl,go_of (s:={ s with heap:=h',toks:=s.toks+1 }) e c d (by rcases hty with rfl | rfl <;> decide) ⟨.str ⟨#[x.cps[i]]⟩,H,I1,⟨_,rfl⟩,⟨rfl,x.cps[i],?_,rfl⟩,st',fun b hb=>(hf b hb).1⟩⟩;simp [hg']
  rcases hty with rfl | rfl
  ·exact wpAny_pyNext_ascii_item st (c:=x.cps[i]) (by simp [hg']) go
  ·exact wpAny_pyNext_wide_item st (c:=x.cps[i]) (by simp [hg']) go
 done:=by
  intro X hP hw hK hc i pins s σ H E I hf st hg;subst hP hw hK;obtain ⟨f0,f1,f2,f3,f4,f5⟩:=hf it (by simp);have hg':x.cps.size<=i:=hg;have fin:∀ h',Heap.ExtBut it s.heap h'->(none:Option Value)=none/\Inv X pins σ H { s with heap:=h' }:=fun h' eb=>⟨rfl,I.turned (t':=s.toks) (fun b o hb e=>eb b o hb e) f0 f1 f3 f4 f5⟩
  rcases hty with rfl | rfl
  ·exact wpAny_pyNext_ascii_end (I.ok.hd hc) st (by simp [hg']) fin
  ·exact wpAny_pyNext_wide_end (I.ok.hd hc) st (by simp [hg']) fin
 self:=fun A i s Q E st h=>by
  rcases hty with rfl | rfl
  ·exact wpAny_pyIter_striter_ascii st h
  ·exact wpAny_pyIter_striter_wide st h
noncomputable def iStr (tl:TE):TI:=fun σ H R=>tl σ H fun x H1=>∃ z,x=.str z/\R (Its z) H1
variable {tg:Expr}
theorem anJ{l:Expr}(hl:PE X l tl):PI X tg l (iStr tl):=by
 intro pins s σ H R I h;refine thn (hl pins s σ H _ I h) fun v s1 ⟨x,H1,I1,r1,q1⟩=>?_
 obtain ⟨z,rfl,q⟩:=q1;obtain ⟨t,rfl⟩:=r1;have fin:∀ (ty:String) (hty:ty="str_ascii_iterator"\/ty="str_iterator"),PIE X pins σ tg R (.ref s1.heap.objs.size) { s1 with heap:=s1.heap.push { cls:=.type ty,data:=.fields #[.str z t,.int 0 0] } }:=fun ty hty=>by
  refine ⟨s1.heap.objs.size,[s1.heap.objs.size],_,_,H1,rfl,I1.kept (t':=s1.toks) fun b o e=>Heap.get?_push_of_some _ e,aka hty s1.heap.objs.size z t,⟨_,Heap.get?_push_size _ rfl,rfl,rfl⟩,fun b hb=>?_,q⟩;have e:b=s1.heap.objs.size:=by simpa using hb
  subst e;exact I1.fpOk (qa2 _) (I1.hok.fresh (qa2 _))
 cases ha:z.cps.all (· < 128)
 ·exact wpAny_pyIter_wide ha (fin _ (.inr rfl))
 ·exact wpAny_pyIter_ascii ha (fin _ (.inl rfl))
end
end L2
set_option maxRecDepth 100000
namespace L2
open PySem PySem.Spec PyProof.Rows
noncomputable def aaN:Expr->Bool
 | .Starred _ _=>true
 | _=>false
noncomputable def abu (es:List Expr):Bool:=es.all fun e=>!aaN e
theorem aay{e:Expr}{es:List Expr}{env:Env}(h:aaN e=false):starEach (e::es) env=(false,eval e env)::starEach es env:=by
 cases e <;> first | rfl | cases h
theorem acq{pos:Pos}{env:Env} : ∀ {es:List Expr},abu es=true->(backTo pos (starEach es env)).any (·.1)=false
 | [],_=>rfl
 | e::es,h=>by
  have h':(!aaN e&&abu es)=true:=h;rw [qav] at h';rw [aay (by simpa using h'.1)];have ih:=acq (pos:=pos) (env:=env) h'.2;unfold backTo at ih ⊢
  rw [qak,qbr,ih];rfl
theorem ag7{pos:Pos}{env:Env} : ∀ {es:List Expr},abu es=true->(backTo pos (starEach es env)).all (fun x=>!x.1)=true
 | [],_=>rfl
 | e::es,h=>by
  have h':(!aaN e&&abu es)=true:=h;rw [qav] at h';rw [aay (by simpa using h'.1)];have ih:=ag7 (pos:=pos) (env:=env) h'.2;unfold backTo at ih ⊢
  rw [qak,List.all_cons,ih];rfl
section
variable {X:Cx} {e:Expr} {es:List Expr} {te:TE} {t:TA} {x:Str} {p pos:Pos} {id T:String} {r:List V->Hp->VK->Prop}
theorem pa_c(ha:PE X e te)(hr:PA X es t)(h:aaN e=false:=by rfl):PA X (e::es) (tCons te t):=alB ha hr (aay h)
theorem pe_cB(hc:CallR X (.builtin id) r)(hg:Gl X x)(hm:X.mg x=none)(hv:bootBuiltins x=some (.builtin id))(ha:PA X (e::es) t)(h1:aaN e=false:=by rfl)(h2:abu es=true:=by rfl)(hn:x≠"__name__":=by decide)(hdb:(x==("__debug__" : Str))=false:=by decide) :
  PE X (.Call (.Name x p) (e::es) [] pos) (tCB r t):=ajY hc hg hm hv ha hn hdb (aay h1) (acq h2)
theorem pe_cT(hc:CallR X (.type T) r)(hg:Gl X x)(hm:X.mg x=none)(hv:bootBuiltins x=some (.type T))(ha:PA X (e::es) t)(h1:aaN e=false:=by rfl)(h2:abu es=true:=by rfl)(hn:x≠"__name__":=by decide)(hdb:(x==("__debug__" : Str))=false:=by decide) :
  PE X (.Call (.Name x p) (e::es) [] pos) (tCB r t):=aiz hc hg hm hv ha hn hdb (aay h1) (acq h2)
variable {o:Expr} {to:TE} {name:Str} {apos cpos:Pos} {rm:V->List V->Hp->VK->Prop}
theorem pe_mB(pa:PlainAttrs T)(slot:Slot T name id)(hty:typeOf (.builtin id)=pure (.type "method_descriptor"))(hm:MtR X id rm)(ho:PE X o to)(ha:PA X (e::es) t)(h1:aaN e=false:=by rfl)(h2:abu es=true:=by rfl)(h3:decide ((e::es).length<30)=true:=by rfl)(hbase:attributeBase o name X.env (eval o X.env)=eval o X.env:=by rfl)(hline:(apos.endLine==cpos.line)=true:=by rfl):PE X (.Call (.Attribute o name apos) (e::es) [] cpos) (tBM X.K T rm to t):=
 pe_bm pa slot hty hm ho ha hbase (by
  rw [ag7 (show abu (e::es)=true by show (!aaN e&&abu es)=true;rw [h1,h2];rfl)];have h3':(e::es).length<30:=of_decide_eq_true h3;simp only [List.isEmpty_nil,if_true,qaG,Nat.add_zero,Bool.true_and];rw [decide_eq_true h3'];rfl) hline (aay h1) (acq h2)
variable {tg a b:Expr} {ta:TA}
theorem pi_r1(hg:Gl X "range")(hm:X.mg "range"=none)(ha:PA X [a] ta)(h1:aaN a=false:=by rfl):PI X tg (.Call (.Name "range" p) [a] [] pos) (iRng1 ta):=aik hg hm ha (by rw [aay h1];rfl)
theorem pi_r2(hg:Gl X "range")(hm:X.mg "range"=none)(ha:PA X [a,b] ta)(h1:aaN a=false:=by rfl)(h2:aaN b=false:=by rfl):PI X tg (.Call (.Name "range" p) [a,b] [] pos) (iRng2 ta):=ail hg hm ha (by rw [aay h1,aay h2];rfl) (by rw [aay h2];rfl)
end
noncomputable def FO (P:Program) (w:World) (K:PySem.W.Frag) (mg:Str->Option Value) (base:Heap) (k:Nat) (x:Str) (ps:List Str) (dvs:List V) (sp:Sp):Prop:=
 ∃ f fd,FnOk P w K mg base CX0 k f fd ps sp/\mg x=some (.ref f)/\qaL K (.ref f)=true/\∃ ds,Binds K fd ps ds/\Vals dvs ds
structure FunD(K:PySem.W.Frag)(x qual:Str)(st:Stmt)(f:Addr)(fd:FuncData):Prop where
 ex:∃ (oc:Value) (od:Option Addr) (dV kV doc pm:Value) (an:Option Addr) (cdv ct:Value) (osl:Array (Option Value)),
  fd=qaM x qual (abt st) (abh st) (aaf st) dV kV doc pm an cdv ct/\K.lookup f=some ⟨oc,od,.func fd,osl⟩/\qaS K cdv qual=true
section
variable {P:Program} {w:World} {K:PySem.W.Frag} {mg:Str->Option Value} {base:Heap}
theorem FunD.ok{x:Str}(F:FunD K x qual st f fd)(S:FnScope N ps (aaf st))(len:∀ vs H Q E,sp vs H Q E->vs.length=ps.length)(hbody:∀ (cdv:Value) (A:Around) (outer:List Env) (s:Shared) (H:Hp) (vs:List V) (Q:VK) (E:XK),Room k (A.deeper (envOfC qual (aaf st) s.heap.objs.size f cdv))->sp vs H Q E->
   ∃ t,PSs (cxOf CX0 P w K mg base N qual (aaf st) f cdv A outer s H E).nox (abh st) t/\t { nx:=fun _ H'=>Q .non H',rt:=Q } (start N vs) H):FnOk P w K mg base CX0 (k+1) f fd ps sp:=by
 obtain ⟨oc,od,dV,kV,doc,pm,an,cdv,ct,osl,rfl,lk,hcd⟩:=F.ex;refine fn_of lk hcd S len fun A outer s H vs Q E hr hsp=>?_
 obtain ⟨t,h,q⟩:=hbody cdv A outer s H vs Q E hr hsp;exact ⟨t,h.nox,q⟩
theorem acC{x:Str}{osl:Array (Option Value)}{dV kV doc cdv:Value}(l:K.lookup f=some ⟨oc,od,.func (qaM x qual (abt st) (abh st) (aaf st) dV kV doc pm an cdv ct),osl⟩)(c:qaS K cdv qual=true):FunD K x qual st f (qaM x qual (abt st) (abh st) (aaf st) dV kV doc pm an cdv ct):=⟨oc,od,dV,kV,doc,pm,an,cdv,ct,osl,rfl,l,c⟩
end
section
variable {X:Cx} {k:Nat} {ps:List Str} {sp:Sp} {dvs:List V} {x:Str} {p pos:Pos} {e:Expr} {es:List Expr} {t:TA}
theorem akb(G:FO X.prog X.w X.K X.mg X.base k x ps dvs sp)(hr:Room k X.A)(ha:PA X (e::es) t)(hg:Gl X x:=by rfl)(h1:aaN e=false:=by rfl)(h2:abu es=true:=by rfl)(hdb:(x==("__debug__" : Str))=false:=by decide):PE X (.Call (.Name x p) (e::es) [] pos) (tCall sp dvs E0 t):=by
 obtain ⟨f,fd,F,hm,hk,ds,hb,hd⟩:=G;exact alC F hr hg hm hk hb hd pass0 ha hdb (aay h1) (acq h2)
theorem akc{i:Int}(h:∃ t,X.mg x=some (.int i t))(hg:Gl X x:=by rfl)(hd:(x==("__debug__" : Str))=false:=by decide):PE X (.Name x p) (tC (.int i)):=by
 obtain ⟨t,h⟩:=h;exact aih hg h ⟨t,rfl⟩ hd
theorem akd(h:X.mg x=some (.ref a))(hg:Gl X x:=by rfl)(hd:(x==("__debug__" : Str))=false:=by decide):PE X (.Name x p) (tC (.ref a)):=aih hg h rfl hd
end
section
variable {σ:St} {H:Hp} {Q:VK} {B:Bool->Hp->Prop} {ta tb tc te:TE} {t u:TS} {tt uu:TT} {D:Ends} {i:Nat} {v:V} {r r':R2} {K:PySem.W.Frag} {taa:TA} {R:List V->Hp->Prop} {g:TG}
theorem ak1:tVar i σ H Q=∃ v,(σ[i]?).join=some v/\Q v H:=by
 unfold tVar;refine propext ⟨fun ⟨v,h,q⟩=>⟨v,by rw [h];rfl,q⟩,fun ⟨v,h,q⟩=>⟨v,?_,q⟩⟩;cases e:σ[i]? with
 | none=>rw [e] at h;cases h
 | some o=>rw [e] at h;exact congrArg some h
theorem ap_c:tC v σ H Q=Q v H:=rfl
theorem ap_op:tOp r ta tb σ H Q=ta σ H fun x H1=>tb σ H1 fun y H2=>r x y H2 Q:=rfl
theorem ap_un{ru:V->Hp->VK->Prop} : tUn ru ta σ H Q=ta σ H fun x H1=>ru x H1 Q:=rfl
theorem ap_rU{f:Int->V} : rU f x H Q=∃ i,x=.int i/\Q (f i) H:=rfl
theorem alU:tTest ta σ H B=ta σ H fun x H'=>∃ k,x=.bl k/\B k H':=rfl
theorem ap_tB:tB ta σ H B=ta σ H fun x H'=>∃ k,x=.bl k/\B k H':=rfl
theorem alV:tTru K ta σ H B=ta σ H fun x H'=>∃ k,TruV K x H' k/\B k H':=rfl
theorem alW:tNotT K ta σ H Q=ta σ H fun x H'=>∃ k,TruV K x H' k/\Q (.bl (!k)) H':=rfl
theorem ake:ait r r' ta tb tc σ H Q=ta σ H fun x H1=>tb σ H1 fun y H2=>r x y H2 fun z H3=>∃ k,z=.bl k/\(if k=true then tc σ H3 fun w' H4=>r' y w' H4 Q else Q (.bl false) H3):=rfl
theorem anK:tAnd tt uu σ H B=tt σ H fun c H1=>if c=true then uu σ H1 B else B false H1:=rfl
theorem ap_or:tOr tt uu σ H B=tt σ H fun c H1=>if c=true then B true H1 else uu σ H1 B:=rfl
theorem anL:tNot tt σ H B=tt σ H fun c H1=>B (!c) H1:=rfl
theorem alX:tAndV ta tb σ H Q=ta σ H fun x H1=>∃ c,x=.bl c/\if c=true then tb σ H1 Q else Q (.bl false) H1:=rfl
theorem anM:tOrV ta tb σ H Q=ta σ H fun x H1=>∃ c,x=.bl c/\if c=true then Q (.bl true) H1 else tb σ H1 Q:=rfl
theorem alY:tNotV ta σ H Q=ta σ H fun x H1=>∃ c,x=.bl c/\Q (.bl (!c)) H1:=rfl
theorem ap_if:tIf tt ta tb σ H Q=tt σ H fun c H1=>if c=true then ta σ H1 Q else tb σ H1 Q:=rfl
theorem alZ:tNext D σ H=D.nx σ H:=rfl
theorem anN:tSeq t u D σ H=t { D with nx:=u D } σ H:=rfl
theorem akf:am4 D σ H=D.bk σ H:=rfl
theorem al0:tCont D σ H=D.ct σ H:=rfl
theorem al1:tDrop te D σ H=te σ H fun _ H1=>D.nx σ H1:=rfl
theorem anO:tRet te D σ H=te σ H D.rt:=rfl
theorem al2:tRetN D σ H=D.rt .non H:=rfl
theorem anP:tIfS tt t u D σ H=tt σ H fun b H1=>if b=true then t D σ H1 else u D σ H1:=rfl
theorem akg:aii D σ H=False:=rfl
theorem al3{Z:St->Hp->Prop} : gName i v σ H Z=Z (σ.set i (some v)) H:=rfl
theorem al4{Z:St->Hp->Prop} : gNil vs σ H Z=(vs=[]/\Z σ H):=rfl
theorem akh{us:TGs}{Z:St->Hp->Prop} : gCons g us vs σ H Z=∃ v r,vs=v::r/\g v σ H fun σ' H'=>us r σ' H' Z:=rfl
theorem al5{us:TGs}{Z:St->Hp->Prop} : gTup K n us v σ H Z=∃ a xs,v=.ref a/\SqT K H a xs/\xs.length=n/\us xs σ H Z:=rfl
theorem al6{ts:TSet}{Z:St->Hp->Prop} : gSub ta tb ts v σ H Z=ta σ H fun o H1=>tb σ H1 fun i H2=>ts o i v H2 fun H3=>Z σ H3:=rfl
theorem anQ:tAsg te g D σ H=te σ H fun x H1=>g x σ H1 D.nx:=rfl
theorem anR{ti:TIp} : tAug i te ti D σ H=∃ x,(σ[i]?).join=some x/\te σ H fun y H1=>ti x y H1 fun z H2=>D.nx (σ.set i (some z)) H2:=ak1 (Q:=fun x H=>te σ H fun y H1=>ti x y H1 fun z H2=>D.nx (σ.set i (some z)) H2)
theorem anS{f:Int->Int->Int} : ipI f x y H Q=∃ i j,x=.int i/\y=.int j/\Q (.int (f i j)) H:=rfl
theorem al7:tCons te taa σ H R=te σ H fun x H1=>taa σ H1 fun xs H2=>R (x::xs) H2:=rfl
theorem anT:tNil σ H R=R [] H:=rfl
theorem al8{E:XK} : tCall sp dvs E taa σ H Q=taa σ H fun vs H1=>sp (vs++dvs) H1 Q E:=rfl
theorem ap_cb{rc:List V->Hp->VK->Prop} : tCB rc taa σ H Q=taa σ H fun vs H1=>rc vs H1 Q:=rfl
theorem anU:tTup taa σ H Q=taa σ H fun xs H1=>xs.length<=sizeLine/\∀ p,H1 p=none->Q (.ref p) (upd H1 p (.tup xs)):=rfl
theorem anV:tLst taa σ H Q=taa σ H fun xs H1=>xs.length<=sizeLine/\∀ p,H1 p=none->Q (.ref p) (upd H1 p (.lst xs)):=rfl
theorem ap_sl{rs:V->Option Int->Option Int->Hp->VK->Prop}{tl th:TO} : tSl rs te tl th σ H Q=te σ H fun x H1=>tl σ H1 fun l H2=>th σ H2 fun u H3=>rs x l u H3 Q:=rfl
theorem aiL{O:Option Int->Hp->Prop} : agt σ H O=O none H:=rfl
theorem al9{O:Option Int->Hp->Prop} : tPart te σ H O=te σ H fun x H1=>∃ i,x=.int i/\O (some i) H1:=rfl
theorem ap_bm{T:String}{rm:V->List V->Hp->VK->Prop} : tBM K T rm te taa σ H Q=te σ H fun x H1=>tyV K T x H1/\taa σ H1 fun xs H2=>rm x xs H2 Q:=rfl
theorem anW{T:String}{rm:V->List V->Hp->VK->Prop} : tBM0 K T rm te σ H Q=te σ H fun x H1=>tyV K T x H1/\rm x [] H1 Q:=rfl
theorem anX:tYes σ H B=B true H:=rfl
theorem ama:aiG σ H Q=∀ p,H p=none->Q (.ref p) (upd H p (.dK [])):=rfl
theorem amb:tDGet ta tb σ H Q=ta σ H fun x H1=>tb σ H1 fun y H2=>∃ a v,x=.ref a/\DGet H2 a y (some v)/\Q v H2:=rfl
theorem amc:sDPut ta tb tc D σ H=tc σ H fun v H1=>ta σ H1 fun x H2=>tb σ H2 fun y H3=>∃ a H4,x=.ref a/\DPut H3 a y v H4/\D.nx σ H4:=rfl
theorem amd{rd:V->V->Hp->VK->Prop} : sDAug ta tb tc rd D σ H=ta σ H fun x H1=>tb σ H1 fun y H2=>∃ a v,x=.ref a/\DGet H2 a y (some v)/\tc σ H2 fun y2 H3=>rd v y2 H3 fun z H4=>∃ H5,DPut H4 a y z H5/\D.nx σ H5:=rfl
theorem ame : rI0 (fun i j=>V.int (i-j)) x y H Q=∃ i j,x=.int i/\y=.int j/\Q (.int (i-j)) H:=rfl
theorem aki : rI CDiv (fun i j=>V.int (i / j)) x y H Q=∃ i j,x=.int i/\y=.int j/\(0<j/\j<1073741824)/\Q (.int (i / j)) H:=rfl
theorem amf : rI (fun _ j=>0<j) (fun i j=>V.int (i % j)) x y H Q=∃ i j,x=.int i/\y=.int j/\0<j/\Q (.int (i % j)) H:=rfl
theorem amg : tyV K "str" (.str z) H=True:=by simp [tyV]
noncomputable def ForIt (J:It) (g:TG) (tb:TS) (D:Ends) (σ:St) (H1:Hp):Prop:=∃ W:Nat->Nat->St->Hp->Prop,(∃ m,W 0 m σ H1)/\∀ i m σ H,W i m σ H->
 (J.stop i H/\D.nx σ H)\/(J.go i H/\∃ N:St->Hp->Prop,(∀ σ' H',N σ' H'->∃ m',m'<m/\W (i+1) m' σ' H')/\∀ x H',J.yld i H x H'->g x σ H' fun σ2 H2=>tb { D with nx:=N,ct:=N,bk:=D.nx } σ2 H2)
theorem anY{wi:TI}{tbs:TS} : tFor wi g tbs D σ H=wi σ H fun J H1=>ForIt J g tbs D σ H1:=rfl
theorem akj{Z:It->Hp->Prop} : iList K te σ H Z=te σ H fun x H1=>∃ a,x=.ref a/\(∃ xs,SqL K H1 a xs)/\Z (Itl K a) H1:=rfl
theorem amh{Z:It->Hp->Prop} : iTup K te σ H Z=te σ H fun x H1=>∃ a,x=.ref a/\(∃ xs,SqT K H1 a xs)/\Z (Itt K a) H1:=rfl
theorem ami{Z:It->Hp->Prop} : iStr te σ H Z=te σ H fun x H1=>∃ z,x=.str z/\Z (Its z) H1:=rfl
theorem akk{Z:It->Hp->Prop} : iRng1 taa σ H Z=taa σ H fun vs H1=>∃ j:Int,vs=[.int j]/\-(2 ^ 62)<=j/\j<2 ^ 62/\Z (Itr 0 j.toNat) H1:=rfl
theorem akl{Z:It->Hp->Prop} : iRng2 taa σ H Z=taa σ H fun vs H1=>∃ i j:Int,vs=[.int i,.int j]/\(-(2 ^ 62)<=i/\i<2 ^ 62/\-(2 ^ 62)<=j/\j<2 ^ 62)/\Z (Itr i (j-i).toNat) H1:=rfl
noncomputable def ad7 (J:It) (k:Nat) (ixs:List Nat) (g:TG) (c:TT) (te:TE) (σ:St) (Q:VK) (H1:Hp):Prop:=∀ D,H1 D=none->
 ∃ (n:Nat) (W:Nat->List V->St->Hp->Prop),W 0 [] (compStart k ixs σ) (upd H1 D (.lst []))/\∀ i ys σ2 H2,W i ys σ2 H2->H2 D=some (.lst ys)->
  (J.stop i H2/\Q (.ref D) H2)\/
  (i<n/\J.go i H2/\∀ x H',J.yld i H2 x H'->g x σ2 H' fun σ3 H3=>c σ3 H3 fun b H4=>
   if b=true then te σ3 H4 fun y H5=>H5 D=some (.lst ys)/\ys.length<sizeLine/\W (i+1) (ys++[y]) σ3 (upd H5 D (.lst (ys++[y])))
   else H4 D=some (.lst ys)/\W (i+1) ys σ3 H4)
theorem amj{wi:TI} : tComp wi k ixs g tt te σ H Q=wi σ H fun J H1=>ad7 J k ixs g tt te σ Q H1:=rfl
end
theorem amk{b k:Bool} : TruV K (.bl b) H k=(k=b):=rfl
theorem akm{i:Int}{k:Bool} : TruV K (.int i) H k=(k=(i != 0)):=rfl
theorem akn{k:Bool} : TruV K (.str z) H k=(z.length<=sizeLine/\k=((z.length:Int) != 0)):=rfl
theorem ako{k:Bool} : TruV K .non H k=(k=false):=rfl
theorem akp : start N vs=vs.map some++qaH (N.length-vs.length) none:=rfl
theorem afO : compStart k ixs σ=qaH k none++ixs.map fun i=>(σ[i]?).join:=rfl
theorem aml{i:Int} : rIx K (.str z) (.int i) H Q=∃ c,z.length<=sizeLine/\atI z.cps.toList i=some c/\Q (.str ⟨#[c]⟩) H:=by
 simp only [rIx,rIxL,rIxT,rIxS];refine propext ⟨fun h=>?_,fun ⟨c,h⟩=>.inr (.inr ⟨z,i,c,rfl,rfl,h⟩)⟩
 rcases h with ⟨p,xs,j,v,e,_⟩ | ⟨p,xs,j,v,e,_⟩ | ⟨z',i',c,e1,e2,h⟩
 ·cases e
 ·cases e
 ·cases e1;cases e2;exact ⟨c,h⟩
theorem amm{p:Addr}{i:Int} : rIx K (.ref p) (.int i) H Q=∃ xs v,(SqL K H p xs\/SqT K H p xs)/\atI xs i=some v/\Q v H:=by
 simp only [rIx,rIxL,rIxT,rIxS];refine propext ⟨fun h=>?_,fun ⟨xs,v,h,r⟩=>?_⟩
 ·rcases h with ⟨p',xs,j,v,e1,e2,h1,h2⟩ | ⟨p',xs,j,v,e1,e2,h1,h2⟩ | ⟨z',i',c,e1,e2,h⟩
  ·cases e1;cases e2;exact ⟨xs,v,.inl h1,h2⟩
  ·cases e1;cases e2;exact ⟨xs,v,.inr h1,h2⟩
  ·cases e1
 ·rcases h with h | h
  ·exact .inl ⟨p,xs,i,v,rfl,rfl,h,r⟩
  ·exact .inr (.inl ⟨p,xs,i,v,rfl,rfl,h,r⟩)
theorem aeL{α:Type}{xs:List α}{i:Int}(h0:0<=i)(h1:i<xs.length):∃ v,atI xs i=some v/\v∈xs:=by
 have hlt:i.toNat<xs.length:=by omega
 refine ⟨xs[i.toNat],?_,qbN hlt⟩;unfold atI ixN;rw [if_pos h0,if_pos h1];simp [hlt]
theorem abw:bootBuiltins "len"=some (.builtin "len"):=by decide +kernel
theorem acr:bootBuiltins "isinstance"=some (.builtin "isinstance"):=by decide +kernel
theorem ak2:bootBuiltins "any"=some (.builtin "any"):=by decide +kernel
theorem anZ:bootBuiltins "min"=some (.builtin "min"):=by decide +kernel
theorem acs:bootBuiltins "list"=some (.type "list"):=by decide +kernel
theorem adM:bootBuiltins "tuple"=some (.type "tuple"):=by decide +kernel
theorem aiM:bootBuiltins "dict"=some (.type "dict"):=by decide +kernel
theorem an0:bootBuiltins "str"=some (.type "str"):=by decide +kernel
theorem an1:bootBuiltins "int"=some (.type "int"):=by decide +kernel
theorem amn:bootBuiltins "bool"=some (.type "bool"):=by decide +kernel
section
variable {K:PySem.W.Frag} {H:Hp} {Q:VK} {i j:Int} {x y:Str} {u v:V} {b c:Bool} {p q:Addr} {lo hi:Option Int} {cm:Bool}
theorem ad_ii:rAddU K (.int i) (.int j) H Q=Q (.int (i+j)) H:=rfl
theorem ad_ss:rAddU K (.str x) (.str y) H Q=(x.length+y.length<=sizeLine/\Q (.str (x++y)) H):=rfl
theorem ad_rr:rAddU K (.ref p) (.ref q) H Q=rAddR K p q H Q:=rfl
theorem mu_ii:rMulU (.int i) (.int j) H Q=(CMul i j/\Q (.int (i*j)) H):=rfl
theorem mu_ri:rMulU (.ref p) (.int j) H Q=rRep (.ref p) (.int j) H Q:=rfl
theorem eq_ii:rEqU K (.int i) (.int j) H Q=Q (.bl (decide (i=j))) H:=rfl
theorem eq_ss:rEqU K (.str x) (.str y) H Q=Q (.bl (decide (x=y))) H:=rfl
theorem eq_bb:rEqU K (.bl b) (.bl c) H Q=Q (.bl (decide (b=c))) H:=rfl
theorem eq_rx:rEqU K (.ref p) v H Q=∃ d e,Dn K H (.ref p) d/\Dn K H v e/\min d.depth e.depth<=60/\Q (.bl (qaN d e)) H:=by cases v <;> rfl
theorem eq_xr:rEqU K v (.ref p) H Q=∃ d e,Dn K H v d/\Dn K H (.ref p) e/\min d.depth e.depth<=60/\Q (.bl (qaN d e)) H:=by cases v <;> rfl
theorem ne_ii:rNeU K (.int i) (.int j) H Q=Q (.bl (!decide (i=j))) H:=rfl
theorem ne_ss:rNeU K (.str x) (.str y) H Q=Q (.bl (!decide (x=y))) H:=rfl
theorem ne_bb:rNeU K (.bl b) (.bl c) H Q=Q (.bl (!decide (b=c))) H:=rfl
theorem ne_rx:rNeU K (.ref p) v H Q=∃ d e,Dn K H (.ref p) d/\Dn K H v e/\min d.depth e.depth<=60/\Q (.bl (!PyData.eqv d e)) H:=by cases v <;> rfl
theorem ne_xr:rNeU K v (.ref p) H Q=∃ d e,Dn K H v d/\Dn K H (.ref p) e/\min d.depth e.depth<=60/\Q (.bl (!PyData.eqv d e)) H:=by cases v <;> rfl
theorem lt_ii:rLtU (.int i) (.int j) H Q=Q (.bl (decide (i<j))) H:=rfl
theorem lt_ss:rLtU (.str x) (.str y) H Q=Q (.bl (decide (x.cps.toList<y.cps.toList))) H:=rfl
theorem le_ii:rLeU (.int i) (.int j) H Q=Q (.bl (decide (i<=j))) H:=rfl
theorem le_ss:rLeU (.str x) (.str y) H Q=Q (.bl (!decide (y.cps.toList<x.cps.toList))) H:=rfl
theorem gt_ii:rGtU (.int i) (.int j) H Q=Q (.bl (decide (j<i))) H:=rfl
theorem gt_ss:rGtU (.str x) (.str y) H Q=Q (.bl (decide (y.cps.toList<x.cps.toList))) H:=rfl
theorem ge_ii:rGeU (.int i) (.int j) H Q=Q (.bl (decide (j<=i))) H:=rfl
theorem ge_ss:rGeU (.str x) (.str y) H Q=Q (.bl (!decide (x.cps.toList<y.cps.toList))) H:=rfl
theorem in_xs:rInU K b u (.str x) H Q=∃ i,u=.str i/\Q (.bl (b.xor (!(Builtin.Str.occurrences x i 0 x.length 1).isEmpty))) H:=rfl
theorem in_xr:rInU K b u (.ref p) H Q=rInR K b u p H Q:=rfl
theorem sl_s:rSlU K (.str x) lo hi H Q=(x.length<=sizeLine/\Q (.str (cutS x lo hi)) H):=rfl
theorem sl_r:rSlU K (.ref p) lo hi H Q=rSlR K p lo hi H Q:=rfl
theorem len_s:rLenU K [.str x] H Q=(x.length<=sizeLine/\Q (.int x.length) H):=rfl
theorem len_r:rLenU K [.ref p] H Q=∃ n:Nat,LenR K H p n/\Q (.int n) H:=rfl
theorem an2:aiK K cm [.ref p] H Q=rListR K cm p H Q:=rfl
theorem all_r:rAllB cm [.ref p] H Q=∃ bs:List Bool,cm=true/\H p=some (.lst (bs.map V.bl))/\Q (.bl (bs.all id)) H:=rfl
theorem isi_t{n:String} : rIsi [u,.ty n] H Q=∃ T,tyS H u=some T/\isTys.contains n=true/\Q (.bl (isB T n)) H:=rfl
theorem ord_s:rOrd [.str x] H Q=(x.length=1/\Q (.int (x.cps.getD 0 0:Nat)) H):=rfl
end
theorem forL(Pv:Nat->St->Hp->Prop)(h0:Pv 0 σ H)(hl:∀ i σ H,i<=xs.length->Pv i σ H->SqL K H a xs)(hs:∀ i x σ H,xs[i]?=some x->Pv i σ H->g x σ H fun σ2 H2=>tb { D with nx:=Pv (i+1),ct:=Pv (i+1),bk:=D.nx } σ2 H2)(hd:∀ σ H,Pv xs.length σ H->D.nx σ H):ForIt (Itl K a) g tb D σ H:=ajR Pv h0 hl hs hd
theorem forT(Pv:Nat->St->Hp->Prop)(h0:Pv 0 σ H)(hl:∀ i σ H,i<=xs.length->Pv i σ H->SqT K H a xs)(hs:∀ i x σ H,xs[i]?=some x->Pv i σ H->g x σ H fun σ2 H2=>tb { D with nx:=Pv (i+1),ct:=Pv (i+1),bk:=D.nx } σ2 H2)(hd:∀ σ H,Pv xs.length σ H->D.nx σ H):ForIt (Itt K a) g tb D σ H:=alu Pv h0 hl hs hd
theorem forR(Pv:Nat->St->Hp->Prop)(h0:Pv 0 σ H)(hs:∀ i σ H,i<n->Pv i σ H->g (.int (lo+i)) σ H fun σ2 H2=>tb { D with nx:=Pv (i+1),ct:=Pv (i+1),bk:=D.nx } σ2 H2)(hd:∀ σ H,Pv n σ H->D.nx σ H):ForIt (Itr lo n) g tb D σ H:=ain Pv h0 hs hd
noncomputable def CW (n:Nat) (fr:St) (Pv:Nat->List V->Hp->Prop) (i:Nat) (ys:List V) (σ2:St) (H2:Hp):Prop:=i<=n/\ys.length<=i/\(∃ v,σ2=v::fr)/\Pv i ys H2
theorem CW.put{fr:St}{Pv:Nat->List V->Hp->Prop}{o:Option V}(hi:i<n)(hy:ys.length<=i)(p:Pv (i+1) (ys++[y]) H):CW n fr Pv (i+1) (ys++[y]) (o::fr) H:=
 ⟨hi,by rw [qa1,qag];omega,⟨_,rfl⟩,p⟩
theorem uaa{fr:St}{Pv:Nat->List V->Hp->Prop}{o:Option V}(hi:i<n)(hy:ys.length<=i)(p:Pv (i+1) ys H):CW n fr Pv (i+1) ys (o::fr) H:=⟨hi,Nat.le_succ_of_le hy,⟨_,rfl⟩,p⟩
theorem compL(fr:St)(hfr:compStart 1 ixs σ=none::fr)(Pv:Addr->Nat->List V->Hp->Prop)(h0:∀ D,H1 D=none->Pv D 0 [] (upd H1 D (.lst [])))(hl:∀ D i ys H,H1 D=none->i<=xs.length->Pv D i ys H->SqL K H a xs)(hs:∀ D i x ys H,H1 D=none->i<xs.length->xs[i]?=some x->Pv D i ys H->H D=some (.lst ys)->ys.length<=i->c (some x::fr) H fun b H4=>
   if b=true then te (some x::fr) H4 fun y H5=>H5 D=some (.lst ys)/\ys.length<sizeLine/\CW xs.length fr (Pv D) (i+1) (ys++[y]) (some x::fr) (upd H5 D (.lst (ys++[y])))
   else H4 D=some (.lst ys)/\CW xs.length fr (Pv D) (i+1) ys (some x::fr) H4)(hd:∀ D ys H,H1 D=none->Pv D xs.length ys H->H D=some (.lst ys)->ys.length<=xs.length->Q (.ref D) H):ad7 (Itl K a) 1 ixs (gName 0) c te σ Q H1:=by
 intro D hD;refine ⟨xs.length,CW xs.length fr (Pv D),⟨qar _,qar _,⟨none,hfr⟩,h0 D hD⟩,?_⟩;rintro i ys σ2 H2 ⟨hi,hy,⟨v,rfl⟩,p⟩ hDy;have q:=hl D i ys H2 hD hi p
 by_cases hlt:i<xs.length
 ·refine .inr ⟨hlt,⟨xs,xs[i],q,by simp [hlt]⟩,fun x H' y=>?_⟩;obtain ⟨e,y⟩:=y;subst e;exact hs D i x ys _ hD hlt (y xs q) p hDy hy
 ·have e:i=xs.length:=by omega
  subst e;exact .inl ⟨⟨xs,q,qa2 _⟩,hd D ys H2 hD p hDy hy⟩
theorem compT(fr:St)(hfr:compStart 1 ixs σ=none::fr)(Pv:Addr->Nat->List V->Hp->Prop)(h0:∀ D,H1 D=none->Pv D 0 [] (upd H1 D (.lst [])))(hl:∀ D i ys H,H1 D=none->i<=xs.length->Pv D i ys H->SqT K H a xs)(hs:∀ D i x ys H,H1 D=none->i<xs.length->xs[i]?=some x->Pv D i ys H->H D=some (.lst ys)->ys.length<=i->c (some x::fr) H fun b H4=>
   if b=true then te (some x::fr) H4 fun y H5=>H5 D=some (.lst ys)/\ys.length<sizeLine/\CW xs.length fr (Pv D) (i+1) (ys++[y]) (some x::fr) (upd H5 D (.lst (ys++[y])))
   else H4 D=some (.lst ys)/\CW xs.length fr (Pv D) (i+1) ys (some x::fr) H4)(hd:∀ D ys H,H1 D=none->Pv D xs.length ys H->H D=some (.lst ys)->ys.length<=xs.length->Q (.ref D) H):ad7 (Itt K a) 1 ixs (gName 0) c te σ Q H1:=by
 intro D hD;refine ⟨xs.length,CW xs.length fr (Pv D),⟨qar _,qar _,⟨none,hfr⟩,h0 D hD⟩,?_⟩;rintro i ys σ2 H2 ⟨hi,hy,⟨v,rfl⟩,p⟩ hDy;have q:=hl D i ys H2 hD hi p
 by_cases hlt:i<xs.length
 ·refine .inr ⟨hlt,⟨xs,xs[i],q,by simp [hlt]⟩,fun x H' y=>?_⟩;obtain ⟨e,y⟩:=y;subst e;exact hs D i x ys _ hD hlt (y xs q) p hDy hy
 ·have e:i=xs.length:=by omega
  subst e;exact .inl ⟨⟨xs,q,qa2 _⟩,hd D ys H2 hD p hDy hy⟩
theorem compS(fr:St)(hfr:compStart 1 ixs σ=none::fr)(Pv:Addr->Nat->List V->Hp->Prop)(h0:∀ D,H1 D=none->Pv D 0 [] (upd H1 D (.lst [])))(hs:∀ D i x ys H,H1 D=none->i<z.cps.size->z.cps.toList[i]?=some x->Pv D i ys H->H D=some (.lst ys)->ys.length<=i->c (some (.str ⟨#[x]⟩)::fr) H fun b H4=>
   if b=true then te (some (.str ⟨#[x]⟩)::fr) H4 fun y H5=>H5 D=some (.lst ys)/\ys.length<sizeLine/\CW z.cps.size fr (Pv D) (i+1) (ys++[y]) (some (.str ⟨#[x]⟩)::fr) (upd H5 D (.lst (ys++[y])))
   else H4 D=some (.lst ys)/\CW z.cps.size fr (Pv D) (i+1) ys (some (.str ⟨#[x]⟩)::fr) H4)(hd:∀ D ys H,H1 D=none->Pv D z.cps.size ys H->H D=some (.lst ys)->ys.length<=z.cps.size->Q (.ref D) H):ad7 (Its z) 1 ixs (gName 0) c te σ Q H1:=by
 intro D hD;refine ⟨z.cps.size,CW z.cps.size fr (Pv D),⟨qar _,qar _,⟨none,hfr⟩,h0 D hD⟩,?_⟩;rintro i ys σ2 H2 ⟨hi,hy,⟨v,rfl⟩,p⟩ hDy
 by_cases hlt:i<z.cps.size
 ·refine .inr ⟨hlt,hlt,fun x H' y=>?_⟩;obtain ⟨e,c,hc,rfl⟩:=y;subst e;exact hs D i c ys _ hD hlt hc p hDy hy
 ·have e:i=z.cps.size:=by omega
  subst e;exact .inl ⟨qa2 _,hd D ys H2 hD p hDy hy⟩
theorem compR(fr:St)(hfr:compStart 1 ixs σ=none::fr)(Pv:Addr->Nat->List V->Hp->Prop)(h0:∀ D,H1 D=none->Pv D 0 [] (upd H1 D (.lst [])))(hs:∀ D i ys H,H1 D=none->i<n->Pv D i ys H->H D=some (.lst ys)->ys.length<=i->c (some (.int (lo+i))::fr) H fun b H4=>
   if b=true then te (some (.int (lo+i))::fr) H4 fun y H5=>H5 D=some (.lst ys)/\ys.length<sizeLine/\CW n fr (Pv D) (i+1) (ys++[y]) (some (.int (lo+i))::fr) (upd H5 D (.lst (ys++[y])))
   else H4 D=some (.lst ys)/\CW n fr (Pv D) (i+1) ys (some (.int (lo+i))::fr) H4)(hd:∀ D ys H,H1 D=none->Pv D n ys H->H D=some (.lst ys)->ys.length<=n->Q (.ref D) H):ad7 (Itr lo n) 1 ixs (gName 0) c te σ Q H1:=by
 intro D hD;refine ⟨n,CW n fr (Pv D),⟨qar _,qar _,⟨none,hfr⟩,h0 D hD⟩,?_⟩;rintro i ys σ2 H2 ⟨hi,hy,⟨v,rfl⟩,p⟩ hDy
 by_cases hlt:i<n
 ·refine .inr ⟨hlt,hlt,fun x H' y=>?_⟩;obtain ⟨e,y⟩:=y;subst e y;exact hs D i ys _ hD hlt p hDy hy
 ·have e:i=n:=by omega
  subst e;exact .inl ⟨qa2 _,hd D ys H2 hD p hDy hy⟩
theorem aag{p q:Addr}{o u:HO}(h:H p=some o)(n:H q=none):upd H q u p=some o:=by rw [aah (abo h n)];exact h
theorem Same.new{q:Addr}{u:HO}(n:H q=none):Same H (upd H q u):=fun _ _ h=>aag h n
theorem Same.put{q:Addr}{u:HO}(s:Same H0 H)(n:H0 q=none):Same H0 (upd H q u):=fun b o h=>by rw [aah (abo h n)];exact s b o h
end L2
set_option maxRecDepth 100000
namespace L2
open PySem PySem.Spec PyProof.Rows
theorem cxK{CX:CXT}{P:Program}{w:World}{base:Heap}{sc:Scope}{o:List Env}{E:XK} : (cxOf CX P w K mg base N q sc f cd A o s H E).K=K:=rfl
theorem cxKn : X.nox.K=X.K:=rfl
theorem cxKb{sc:Scope} : (blk X sc N' C s₃ H₃ fp pins).K=X.K:=rfl
theorem cxC{CX:CXT}{P:Program}{w:World}{base:Heap}{sc:Scope}{o:List Env}{E:XK} : (cxOf CX P w K mg base N q sc f cd A o s H E).calm=true:=rfl
theorem cxCn : X.nox.calm=X.calm:=rfl
theorem cxCb{sc:Scope} : (blk X sc N' C s₃ H₃ fp pins).calm=X.calm:=rfl
theorem iteD{c A B:Prop}[Decidable c](h1:c->A)(h2:¬ c->B):if decide c=true then A else B:=by
 by_cases h:c
 ·rw [decide_eq_true h,if_pos rfl];exact h1 h
 ·rw [decide_eq_false h,if_neg qae];exact h2 h
theorem iteN{c A B:Prop}[Decidable c](h1:¬ c->A)(h2:c->B):if (!decide c)=true then A else B:=by
 by_cases h:c
 ·rw [decide_eq_true h];exact iteF (h2 h)
 ·rw [decide_eq_false h];exact iteT (h1 h)
theorem tyL{p:Addr}(h:H p=some (.lst xs)):tyV K "list" (.ref p) H:=.inl ⟨rfl,_,SqL.of h⟩
theorem appOk{l:Addr}(h:H l=some (.lst xs))(hz:xs.length<sizeLine)(q:Q .non (upd H l (.lst (xs++[y])))):ad2 (.ref l) [y] H Q:=⟨l,xs,y,rfl,rfl,h,hz,q⟩
theorem aaq(h:n<=1000000):n<sizeLine:=qbu h (by decide)
theorem aax(h:n<=1000000):n<=sizeLine:=Nat.le_of_lt (aaq h)
noncomputable def signB (c:Nat):Bool:=decide (33<=c)&&decide (c<=126)&&decide (c≠37)
noncomputable def afP (z:Str):Bool:=decide (1<=z.length)&&decide (z.length<=2)&&z.cps.toList.all signB
theorem ab1(h:afP z=true):qaO z=true/\1<=z.length/\z.length<=2:=by
 unfold afP at h;simp only [qav,decide_eq_true_eq] at h;refine ⟨?_,h.1.1,h.1.2⟩;unfold qaO;rw [Array.all_eq_true_iff_forall_mem];intro c hc
 have:=List.all_eq_true.mp h.2 c (Array.mem_toList_iff.mpr hc)
 unfold signB at this;simp only [qav,decide_eq_true_eq] at this;simp only [decide_eq_true_eq];omega
noncomputable def SG:List Nat:=[33,34,35,36]++(qbI 89).map (· + 38)
structure IsRows(H:Hp)(a:Addr)(rs:List Addr)(zss:List (List Str)):Prop where
 top:H a=some (.lst (rs.map V.ref))
 row:Paired (fun r (zs:List Str)=>H r=some (.lst (zs.map V.str))) rs zss
theorem IsRows.same{zss:List (List Str)}(R:IsRows H a rs zss)(s:Same H H'):IsRows H' a rs zss:=⟨s _ _ R.top,uam R.row fun _ _ h=>s _ _ h⟩
theorem Paired.at{α β:Type}{F:α->β->Prop} : ∀ {l₁:List α} {l₂:List β} {i:Nat} {a:α},Paired F l₁ l₂->l₁[i]?=some a->∃ b,l₂[i]?=some b/\F a b
 | _,_,_,_,.nil,h=>by simp at h
 | _,_,0,_,.cons h t,e=>by simp at e;subst e;exact ⟨_,rfl,h⟩
 | _,_,i+1,_,.cons h t,e=>by
  obtain ⟨b,h1,h2⟩:=Paired.at (i:=i) t (by simpa using e);exact ⟨b,by simpa using h1,h2⟩
theorem acd:∀ zs:List Str,qbj (zs.map PyData.str)=0
 | []=>rfl
 | z::zs=>by rw [qak,qbj,acd zs,qbt];rfl
theorem acT:∀ zs:List Int,qbj (zs.map PyData.int)=0
 | []=>rfl
 | z::zs=>by rw [qak,qbj,acT zs,qbt];rfl
theorem ag8(xs ys:List Str):qaN (.list (xs.map .str)) (.list (ys.map .str))=decide (xs=ys):=by rw [qaN,ac9]
noncomputable def dd (acc:List Str) (z:Str):List Str:=if z∈acc then acc else acc++[z]
noncomputable def dds (acc zs:List Str):List Str:=zs.foldl dd acc
noncomputable def toldL (zss:List (List Str)):List Str:=zss.foldl dds []
theorem acD(zs:List Str):∀ acc:List Str,(dds acc zs).length<=acc.length+zs.length:=by
 induction zs with
 | nil=>intro acc;exact qa2 _
 | cons z zs ih=>
  intro acc;have h1:=ih (dd acc z);have h2:(dd acc z).length<=acc.length+1:=by
   unfold dd
   split
   ·omega
   ·simp
  show (dds (dd acc z) zs).length<=_;rw [qad];omega
theorem akq(h:zs[j]?=some z):dds acc (zs.take (j+1))=dd (dds acc (zs.take j)) z:=by
 rw [qaQ,h];simp [dds,qbk]
theorem aiN{zss:List (List Str)}(h:zss[i]?=some zs):toldL (zss.take (i+1))=dds (toldL (zss.take i)) zs:=by
 rw [qaQ,h];simp [toldL,qbk]
theorem acU(zss:List (List Str)):∀ acc,zss.foldl dds acc=dds acc zss.flatten:=by
 induction zss with
 | nil=>intro acc;rfl
 | cons zs zss ih=>
  intro acc;rw [List.foldl_cons,ih,qbl];unfold dds;rw [qbk]
theorem adg(zss:List (List Str)):(toldL zss).length<=zss.flatten.length:=by
 unfold toldL;rw [acU]
 have:=acD zss.flatten []
 simpa using this
noncomputable def kvOf (zs:List Str):List (Key×V):=zs.map fun z=>(Sum.inr z,V.bl true)
theorem ae8(z:Str):∀ acc:List Str,((kvOf acc).any fun kv=>decide (kv.1=(Sum.inr z:Key)))=decide (z∈acc)
 | []=>by simp [kvOf]
 | y::acc=>by
  have ih:=ae8 z acc;unfold kvOf at ih ⊢
  rw [qak,qbr,ih]
  by_cases e:y=z
  ·subst e
   simp
  ·have e1:decide ((Sum.inr y:Key)=Sum.inr z)=false:=decide_eq_false fun q=>e (Sum.inr.inj q)
   have e2:decide (z∈y::acc)=decide (z∈acc):=by
    by_cases h:z∈acc
    ·rw [decide_eq_true h,decide_eq_true (qa9 _ h)]
    ·rw [decide_eq_false h,decide_eq_false];intro q
     rcases qaa.mp q with q | q
     ·exact e q.symm
     ·exact h q
   rw [e2];simp only [e1,Bool.false_or]
theorem afQ(acc:List Str)(z:Str):putK (kvOf acc) (Sum.inr z:Key) (.bl true)=kvOf (dd acc z):=by
 unfold putK dd;rw [ae8]
 by_cases h:z∈acc
 ·rw [decide_eq_true h,if_pos rfl,if_pos h];unfold kvOf;rw [qb7];refine qbo fun y _=>?_
  show (if (Sum.inr y:Key)=Sum.inr z then ((Sum.inr y:Key),V.bl true) else (Sum.inr y,V.bl true))=_
  split <;> rfl
 ·rw [decide_eq_false h,if_neg qae,if_neg h];unfold kvOf;rw [qa4];rfl
theorem aiO(acc:List Str):((kvOf acc).map fun kv=>kV kv.1)=acc.map V.str:=by
 unfold kvOf;rw [qb7];rfl
theorem adN(z:Str):∀ acc:List Str,inV (.str z) (acc.map V.str)=decide (z∈acc)
 | []=>by simp [inV]
 | y::acc=>by
  have ih:=adN z acc;unfold inV at ih ⊢
  rw [qak,qbr,ih];show ((y==z) || decide (z∈acc))=_
  by_cases e:y=z
  ·subst e
   simp
  ·have e1:(y==z)=false:=by simpa using e
   rw [e1,Bool.false_or]
   by_cases h:z∈acc
   ·rw [decide_eq_true h,decide_eq_true (qa9 _ h)]
   ·rw [decide_eq_false h,decide_eq_false];intro q
    rcases qaa.mp q with q | q
    ·exact e q.symm
    ·exact h q
theorem afR:∀ acc:List Str,(acc.map V.str).all flatV=true
 | []=>rfl
 | _::acc=>by rw [qak,List.all_cons,afR acc];rfl
theorem aaE{α β:Type}{f:α->β}{l:List α}{y:β}(h:(l.map f)[i]?=some y):∃ x,l[i]?=some x/\y=f x:=by
 rw [qaC] at h;cases e:l[i]? with
 | none=>rw [e] at h;cases h
 | some x=>rw [e] at h;exact ⟨x,rfl,(Option.some.inj h).symm⟩
noncomputable def SS:Str:=Str.ofString "!\"#$&'()*+,-./0123456789:;<=>?@ABCDEFGHIJKLMNOPQRSTUVWXYZ[\\]^_`"++Str.ofString "abcdefghijklmnopqrstuvwxyz{|}~"
theorem drawn{i:Int}(hx:∀ x∈xs,∃ n,x=V.int n)(h0:0<=i)(h1:i<xs.length):∃ n,atI xs i=some (V.int n):=by
 obtain ⟨v,h2,h3⟩:=aeL h0 h1;obtain ⟨n,rfl⟩:=hx v h3;exact ⟨n,h2⟩
theorem uao{α β:Type}{F:α->β->Prop}{a:α}{b:β} : ∀ {l₁:List α} {l₂:List β},Paired F (l₁++[a]) (l₂++[b])->Paired F l₁ l₂/\F a b
 | [],[],.cons h _=>⟨.nil,h⟩
 | [],y::l₂,h=>by
  have:=Paired.length h
  simp at this
 | x::l₁,[],h=>by
  have:=Paired.length h
  simp at this
 | x::l₁,y::l₂,.cons h t=>by
  obtain ⟨h1,h2⟩:=uao (l₁:=l₁) (l₂:=l₂) t;exact ⟨.cons h h1,h2⟩
theorem uan{α β:Type}{F G:α->β->Prop} : ∀ {l₁:List α} {l₂:List β},Paired F l₁ l₂->(∀ a∈l₁,∀ b,F a b->G a b)->Paired G l₁ l₂
 | _,_,.nil,_=>.nil
 | _,_,.cons h t,k=>.cons (k _ qac _ h) (uan t fun a ha b hb=>k a (qa9 _ ha) b hb)
structure RowsAt(H0 H:Hp)(a:Addr)(rs:List Addr)(zss:List (List Str)):Prop where
 rows:IsRows H a rs zss
 nd:(a::rs).Nodup
 new:∀ r∈a::rs,H0 r=none
 same:Same H0 H
theorem RowsAt.live{zss:List (List Str)}(R:RowsAt H0 H a rs zss)(h:r∈a::rs):∃ o,H r=some o:=by
 rcases qaa.mp h with h | h
 ·subst h;exact ⟨_,R.rows.top⟩
 ·obtain ⟨i,hi,rfl⟩:=qay.mp h;obtain ⟨zs,_,h2⟩:=Paired.at R.rows.row (i:=i) (a:=rs[i]) (by simp [hi]);exact ⟨_,h2⟩
theorem RowsAt.adds{q:Addr}{zss:List (List Str)}(R:RowsAt H0 H a rs zss)(hq:H q=none)(zs:List Str):RowsAt H0 (upd (upd H q (.lst (zs.map V.str))) a (.lst (rs.map V.ref++[V.ref q]))) a (rs++[q]) (zss++[zs]):=by
 have nq:∀ r∈a::rs,r≠q:=fun r hr z=>by
  obtain ⟨o,e⟩:=R.live hr;rw [z,hq] at e;cases e
 obtain ⟨na,_⟩:=qax.mp R.nd;refine ⟨⟨by rw [aaa,qa4];rfl,?_⟩,?_,?_,?_⟩
 ·refine Paired.snoc (uan R.rows.row fun r hr zs h=>?_) ?_
  ·rw [aah (fun z:r=a=>na (by rw [<- z];exact hr)),aah (nq r (qa9 _ hr))];exact h
  ·rw [aah (nq a qac).symm,aaa]
 ·show (a::(rs++[q])).Nodup;exact ad5 R.nd fun h=>nq q h rfl
 ·intro r hr
  rcases qaa.mp hr with h | h
  ·exact R.new r (by rw [h];exact qac)
  ·rcases qa6.mp h with h | h
   ·exact R.new r (qa9 _ h)
   ·rw [qa7.mp h];exact R.same.free hq
 ·exact (R.same.put (R.same.free hq)).put (R.new a qac)
theorem RowsAt.add{q:Addr}{zss:List (List Str)}(R:RowsAt H0 H a rs zss)(hq:H q=none):RowsAt H0 (upd (upd H q (.lst [])) a (.lst (rs.map V.ref++[V.ref q]))) a (rs++[q]) (zss++[[]]):=R.adds hq []
theorem RowsAt.app{zss:List (List Str)}(R:RowsAt H0 H a (rs++[r]) (zss++[zs]))(z:Str):RowsAt H0 (upd H r (.lst (zs.map V.str++[V.str z]))) a (rs++[r]) (zss++[zs++[z]]):=by
 obtain ⟨na,ndr⟩:=qax.mp R.nd;obtain ⟨h1,h2⟩:=uao R.rows.row;have nr:∀ b∈rs,b≠r:=fun b hb z=>by
  subst z;obtain ⟨_,_,h3⟩:=qaX.mp ndr;exact h3 b hb b (qa7.mpr rfl) rfl
 refine ⟨⟨?_,?_⟩,R.nd,R.new,R.same.put (R.new r (qa9 _ (qam _ (qa7.mpr rfl))))⟩
 ·rw [aah (fun z=>na (by rw [z];exact qam _ (qa7.mpr rfl)))];exact R.rows.top
 ·refine Paired.snoc (uan h1 fun b hb zs h=>?_) ?_
  ·rw [aah (nr b hb)];exact h
  ·rw [aaa,qa4];rfl
theorem afS(x:Str)(lo hi:Option Int):(cutS x lo hi).cps.toList=(x.cps.toList.drop (HT.sIx x.length 0 lo)).take (HT.sIx x.length x.length hi-HT.sIx x.length 0 lo):=by
 unfold cutS
 simp
theorem amo{p:Addr}(h:H p=some (.lst xs)):tyS H (.ref p)=some "list":=by unfold tyS;simp only [h]
end L2
set_option maxRecDepth 100000
namespace L2
open PySem PySem.Spec PyProof.Rows
structure QE(X:Cx)(e:Expr)(t:TE):Prop where
 out:PE X e t
structure QT(X:Cx)(e:Expr)(t:TT):Prop where
 out:PT X e t
structure QW(X:Cx)(e:Expr)(t:TT):Prop where
 out:PW X e t
structure QA(X:Cx)(es:List Expr)(t:TA):Prop where
 out:PA X es t
structure QS(X:Cx)(st:Stmt)(t:TS):Prop where
 out:PS X st t
structure QSs(X:Cx)(st:List Stmt)(t:TS):Prop where
 out:PSs X st t
structure QG(X:Cx)(tg:Expr)(t:TG):Prop where
 out:PG X tg t
structure QGs(X:Cx)(tg:List Expr)(t:TGs):Prop where
 out:PGs X tg t
structure QI(X:Cx)(tg iter:Expr)(wi:TI):Prop where
 out:PI X tg iter wi
structure QO(X:Cx)(e:Option Expr)(t:TO):Prop where
 out:PO X e t
structure QIfs(X:Cx)(ifs:List Expr)(t:TT):Prop where
 out:PIfs X ifs t
structure QOp(X:Cx)(f:Value->Value->Sem Value)(r:R2):Prop where
 out:OpR X f r
structure QUn(X:Cx)(f:Value->Sem Value)(r:V->Hp->VK->Prop):Prop where
 out:UnR X f r
structure QCall(X:Cx)(f:Value)(r:List V->Hp->VK->Prop):Prop where
 out:CallR X f r
structure QMt(X:Cx)(id:String)(r:V->List V->Hp->VK->Prop):Prop where
 out:MtR X id r
structure QIp(X:Cx)(op:Operator)(t:TIp):Prop where
 out:PIp X op t
structure QIn(X:Cx)(op:Operator)(t:V->V->Hp->VK->Prop):Prop where
 out:InOp X op t
section
variable {X:Cx} {a b c e o i value:Expr} {es:List Expr} {ta tb tc te to ti tv:TE} {tA tB':TT} {t u:TS} {tl:TA} {pos p pos' tpos:Pos} {rest:List Expr} {r r':R2} {x:Str}
theorem aad{i j} : QE X (.Constant (.int i) j pos) (tC (.int i)):=⟨akW⟩
theorem qe_bl{b j} : QE X (.Constant (.bool b) j pos) (tC (.bl b)):=⟨pe_bl⟩
theorem aaA{x j} : QE X (.Constant (.str x) j pos) (tC (.str x)):=⟨amY⟩
theorem qe_v(hN:X.N[n]?=some x)(hv:Vis X.env.scope x)(hd:(x==("__debug__" : Str))=false)(hcd:(x==("__classdict__" : Str))=false):QE X (.Name x pos) (tVar n):=⟨akV hN hv hd hcd⟩
theorem qv(n:Nat)(hN:X.N[n]?=some x:=by rfl)(hv:Vis X.env.scope x:=by first | exact Or.inl rfl | exact Or.inr (Or.inl rfl) | exact Or.inr (Or.inr rfl))(hd:(x==("__debug__" : Str))=false:=by decide)(hcd:(x==("__classdict__" : Str))=false:=by decide):QE X (.Name x pos) (tVar n):=⟨akV hN hv hd hcd⟩
theorem ae9{i:Int}(h:∃ t,X.mg x=some (.int i t))(hg:Gl X x:=by rfl)(hd:(x==("__debug__" : Str))=false:=by decide):QE X (.Name x p) (tC (.int i)):=⟨akc h hg hd⟩
theorem adO{a:Addr}(h:X.mg x=some (.ref a))(hg:Gl X x:=by rfl)(hd:(x==("__debug__" : Str))=false:=by decide):QE X (.Name x p) (tC (.ref a)):=⟨akd h hg hd⟩
theorem qe_ty{n:String}(hm:X.mg x=none)(hv:bootBuiltins x=some (.type n))(hg:Gl X x:=by rfl)(hn:x≠"__name__":=by decide)(hd:(x==("__debug__" : Str))=false:=by decide):QE X (.Name x p) (tC (.ty n)):=⟨alm hg hm hv rfl hn hd⟩
theorem qe_op{op:Operator}(ho:QOp X (binaryOp op) r)(ha:QE X a ta)(hb:QE X b tb):QE X (.BinOp a op b pos) (tOp r ta tb):=⟨pe_op ho.out ha.out hb.out⟩
theorem qe_un{op:UnaryOp}{r:V->Hp->VK->Prop}(ho:QUn X (unaryOp op) r)(ha:QE X a ta):QE X (.UnaryOp op a pos) (tUn r ta):=⟨pe_un ho.out ha.out⟩
theorem aiP{op}(ha:QE X a ta):QE X (.BoolOp op [a] pos) ta:=⟨am2 ha.out⟩
theorem ak3(ha:QE X a ta)(hb:QE X (.BoolOp .And (b::rest) pos) tb):QE X (.BoolOp .And (a::b::rest) pos) (tAndV ta tb):=⟨am3 ha.out hb.out⟩
theorem qe_or(ha:QE X a ta)(hb:QE X (.BoolOp .Or (b::rest) pos) tb):QE X (.BoolOp .Or (a::b::rest) pos) (tOrV ta tb):=⟨pe_or ha.out hb.out⟩
theorem acE{op:CmpOp}(ho:QOp X (compareOp op) r)(ha:QE X a ta)(hb:QE X b tb)(hm:behindInMarks op b=false:=by first | exact akY _ | rfl):QE X (.Compare a [op] [b] pos) (tOp r ta tb):=⟨alw ho.out ha.out hb.out hm⟩
theorem akr{op op':CmpOp}(ho:QOp X (compareOp op) r)(ho':QOp X (compareOp op') r')(ha:QE X a ta)(hb:QE X b tb)(hc:QE X c tc)(hm:lastMarks [op,op'] [b,c]=false:=by with_unfolding_all rfl):QE X (.Compare a [op,op'] [b,c] pos) (ait r r' ta tb tc):=⟨ajS ho.out ho'.out ha.out hb.out hc.out hm⟩
theorem aks(hc:QT X c tA)(ha:QE X a ta)(hb:QE X b tb):QE X (.IfExp c a b pos) (tIf tA ta tb):=⟨ajM hc.out ha.out hb.out⟩
theorem aac:QA X [] tNil:=⟨ano⟩
theorem qa_c(ha:QE X e te)(hr:QA X es tl)(h:aaN e=false:=by rfl):QA X (e::es) (tCons te tl):=⟨pa_c ha.out hr.out h⟩
theorem aa5(h:QA X es tl):QE X (.List es pos) (tLst tl):=⟨anq h.out⟩
theorem abd{x1}(h:QA X es tl):QE X (.Tuple es x1 pos) (tTup tl):=⟨anp h.out⟩
theorem act:QE X (.Dict [] [] pos) aiG:=⟨aj5⟩
theorem abv:QO X none agt:=⟨alG⟩
theorem aaC(h:QE X e te):QO X (some e) (tPart te):=⟨alH h.out⟩
theorem aaD{lo hi:Option Expr}{tlo thi:TO}{p2:Pos}(he:QE X e te)(hl:QO X lo tlo)(hu:QO X hi thi)(hK:X.K=K:=by rfl):QE X (.Subscript e (.Slice lo hi none p2) pos) (tSl (rSlU K) te tlo thi):=by subst hK;exact ⟨aj0 p_sl he.out hl.out hu.out⟩
theorem abH(hu:X.A.units+1<cLine)(ho:QE X o to)(hi:QE X i ti)(hs:NoSl i:=by exact fun _ _=>rfl):QE X (.Subscript o i pos) (tDGet to ti):=⟨alN hu ho.out hi.out hs⟩
theorem qe_ix(ha:QE X a ta)(hb:QE X b tb)(hs:aiA b:=by exact fun _ _=>rfl)(hK:X.K=K:=by rfl):QE X (.Subscript a b pos) (tOp (rIx K) ta tb):=by subst hK;exact ⟨pe_ix anu ha.out hb.out hs⟩
theorem qe_cB{id:String}{rc:List V->Hp->VK->Prop}(hc:QCall X (.builtin id) rc)(hm:X.mg x=none)(hv:bootBuiltins x=some (.builtin id))(ha:QA X (e::es) tl)(hg:Gl X x:=by rfl)(h1:aaN e=false:=by rfl)(h2:abu es=true:=by rfl)(hn:x≠"__name__":=by decide)(hdb:(x==("__debug__" : Str))=false:=by decide) :
  QE X (.Call (.Name x p) (e::es) [] pos) (tCB rc tl):=⟨pe_cB hc.out hg hm hv ha.out h1 h2 hn hdb⟩
theorem qe_cT{T:String}{rc:List V->Hp->VK->Prop}(hc:QCall X (.type T) rc)(hm:X.mg x=none)(hv:bootBuiltins x=some (.type T))(ha:QA X (e::es) tl)(hg:Gl X x:=by rfl)(h1:aaN e=false:=by rfl)(h2:abu es=true:=by rfl)(hn:x≠"__name__":=by decide)(hdb:(x==("__debug__" : Str))=false:=by decide) :
  QE X (.Call (.Name x p) (e::es) [] pos) (tCB rc tl):=⟨pe_cT hc.out hg hm hv ha.out h1 h2 hn hdb⟩
theorem qe_mB{T id:String}{name:Str}{apos:Pos}{rm:V->List V->Hp->VK->Prop}(pa:PlainAttrs T)(slot:Slot T name id)(hty:typeOf (.builtin id)=pure (.type "method_descriptor"))(hm:QMt X id rm)(ho:QE X o to)(ha:QA X (e::es) tl)(h1:aaN e=false:=by rfl)(h2:abu es=true:=by rfl)(h3:decide ((e::es).length<30)=true:=by rfl)(hbase:attributeBase o name X.env (eval o X.env)=eval o X.env:=by rfl)(hline:(apos.endLine==cpos.line)=true:=by rfl)(hK:X.K=K:=by rfl):QE X (.Call (.Attribute o name apos) (e::es) [] cpos) (tBM K T rm to tl):=by subst hK;exact ⟨pe_mB pa slot hty hm.out ho.out ha.out h1 h2 h3 hbase hline⟩
theorem aai(G:FO X.prog X.w X.K X.mg X.base k x ps dvs sp)(hr:Room k X.A)(ha:QA X (e::es) tl)(hg:Gl X x:=by rfl)(h1:aaN e=false:=by rfl)(h2:abu es=true:=by rfl)(hdb:(x==("__debug__" : Str))=false:=by decide) :
  QE X (.Call (.Name x p) (e::es) [] pos) (tCall sp dvs E0 tl):=⟨akb G hr ha.out hg h1 h2 hdb⟩
theorem aao{op:CmpOp}(ho:QOp X (compareOp op) r)(ha:QE X a ta)(hb:QE X b tb)(hm:behindInMarks op b=false:=by first | exact akY _ | rfl):QT X (.Compare a [op] [b] pos) (tTest (tOp r ta tb)):=⟨alx ho.out ha.out hb.out hm⟩
theorem ak4(ha:QT X a tA):QT X (.UnaryOp .Not a pos) (tNot tA):=⟨am1 ha.out⟩
theorem acF(ha:QT X a tA):QW X (.BoolOp .And [a] pos) tA:=⟨aln ha.out⟩
theorem ag9(ha:QT X a tA):QW X (.BoolOp .Or [a] pos) tA:=⟨amZ ha.out⟩
theorem adC(ha:QT X a tA)(hb:QW X (.BoolOp .And (b::rest) pos) tB'):QW X (.BoolOp .And (a::b::rest) pos) (tAnd tA tB'):=⟨am0 ha.out hb.out⟩
theorem qw_or(ha:QT X a tA)(hb:QW X (.BoolOp .Or (b::rest) pos) tB'):QW X (.BoolOp .Or (a::b::rest) pos) (tOr tA tB'):=⟨pw_or ha.out hb.out⟩
theorem QW.pt(h:QW X a tA):QT X a tA:=⟨h.out.pt⟩
theorem ab7(ha:QE X a ta)(he:∀ whole,isTrue a X.env whole=(do let v <- whole;standAt a.pos;holding [v] (truthy v)):=by intro _;rfl)(hK:X.K=K:=by rfl):QT X a (tTru K ta):=by subst hK;exact ⟨anD ha.out he⟩
variable {st:Stmt} {sts:List Stmt}
theorem aav:QSs X [] tNext:=⟨alo⟩
theorem aae(h:QS X st t):QSs X [st] t:=⟨alp h.out⟩
theorem aab(h:QS X st t)(h2:QSs X sts u):QSs X (st::sts) (tSeq t u):=⟨ajN h.out h2.out⟩
theorem aaz(he:QE X e te):QS X (.Return (some e) pos) (tRet te):=⟨am5 he.out⟩
theorem adP:QS X st aii:=⟨ajO⟩
theorem aam(hN:X.N.Nodup)(hi:X.N[n]?=some x)(hx:Loc X.env.scope x)(he:QE X e te)(hs:swapsWith e (some (.Name x pos')) pos.line X.env=pure false:=by rfl)(hf:X.fn x=true:=by rfl):QS X (.Assign [.Name x pos'] e pos) (tAsg te (gName n)):=⟨am7 hN hi hx he.out hs (.inl hf)⟩
theorem aeM{f:Str}(ho:QE X o to)(hv:QE X value tv)(hs:swapsWith value (some (.Attribute o f pos')) pos.line X.env=pure false:=by rfl)(hK:X.K=K:=by rfl):QS X (.Assign [.Attribute o f pos'] value pos) (sFld K to tv f):=by subst hK;exact ⟨anl ho.out hv.out hs⟩
theorem adD{f:Str}(ho:QE X o to)(hb:attributeBase o f X.env (eval o X.env)=eval o X.env:=by rfl)(hK:X.K=K:=by rfl):QE X (.Attribute o f pos) (tFld K to f):=by subst hK;exact ⟨ank ho.out hb⟩
theorem aby(hu:X.A.units+1<cLine)(ho:QE X o to)(hi:QE X i ti)(hv:QE X value tv)(hs:swapsWith value (some (.Subscript o i pos')) pos.line X.env=pure false:=by rfl):QS X (.Assign [.Subscript o i pos'] value pos) (sDPut to ti tv):=⟨alO hu ho.out hi.out hv.out hs⟩
theorem aiQ{op:Operator}{rd:V->V->Hp->VK->Prop}(hu:X.A.units+1<cLine)(ho:QE X o to)(hi:QE X i ti)(hv:QE X value tv)(hop:QIn X op rd)(ha:∀ ov iv new,augStore i ov iv new=(do holding [new,ov,iv] (setItem ov iv new);release [new,ov,iv] [];pure .next):=by exact fun _ _ _=>rfl) :
  QS X (.AugAssign (.Subscript o i tpos) op value pos) (sDAug to ti tv rd):=⟨alP hu ho.out hi.out hv.out hop.out ha⟩
theorem ak5{op:Operator}{tip:TIp}(hN:X.N.Nodup)(hi:X.N[n]?=some x)(hx:Loc X.env.scope x)(he:QE X e te)(ho:QIp X op tip)(hf:X.fn x=true:=by rfl):QS X (.AugAssign (.Name x pos') op e pos) (tAug n te tip):=⟨am8 hN hi hx he.out ho.out (.inl hf)⟩
theorem aa0(he:QE X e te)(hs:swapsWith e none pos.line X.env=pure false:=by rfl):QS X (.Expr e pos) (tDrop te):=⟨alq he.out hs⟩
theorem qs_if{sa sb:List Stmt}(hc:QT X c tA)(ha:QSs X sa t)(hb:QSs X sb u):QS X (.If c sa sb pos) (tIfS tA t u):=⟨ps_if hc.out ha.out hb.out⟩
theorem adh{body:List Stmt}(hp:PassesOwn (model X.prog X.w) X.A X.env X.xe)(hc:QT X c tA)(hb:QSs X body t):QS X (.While c body [] pos) (ag1 tA t):=⟨ajQ hp hc.out hb.out⟩
theorem aaW{body:List Stmt}{wi:TI}(hp:PassesOwn (model X.prog X.w) X.A X.env X.xe)(hi:QI X tg iter wi)(hg:QG X tg g)(hb:QSs X body t)(hc:X.calm=true:=by rfl)(hs:∀ x,foldedSetIterable iter X.env x=pure x:=by intro _;rfl):QS X (.For tg iter body [] pos) (tFor wi g t):=⟨anb hp hc hi.out hg.out hb.out hs⟩
theorem aal(hN:X.N.Nodup)(hi:X.N[n]?=some x)(hx:Loc X.env.scope x)(hf:X.fn x=true\/X.env.scope.names.lookup x=some .local:=by first | exact .inl rfl | exact .inr rfl | assumption):QG X (.Name x pos) (gName n):=⟨alr hN hi hx hf⟩
theorem acG:QGs X [] gNil:=⟨als⟩
theorem aa4{gs:TGs}(h1:QG X e g)(h2:QGs X es gs)(hs:(assignEach (e::es) X.env).map (·.2)=assign e X.env::(assignEach es X.env).map (·.2):=by rfl):QGs X (e::es) (gCons g gs):=⟨ajP h1.out h2.out hs⟩
theorem adE{gs:TGs}(h:QGs X es gs)(hc:X.calm=true:=by rfl)(hn:(assignEach es X.env).length=n:=by rfl)(hst:(assignEach es X.env).findIdx? (·.1)=none:=by rfl)(hK:X.K=K:=by rfl):QG X (.Tuple es k pos) (gTup K n gs):=by subst hK;exact ⟨am6 hc h.out hn hst⟩
variable {tg:Expr}
theorem aa1(h:QE X e te)(hK:X.K=K:=by rfl):QI X tg e (iList K te):=by subst hK;exact ⟨alt h.out⟩
theorem aeN(h:QE X e te)(hK:X.K=K:=by rfl):QI X tg e (iTup K te):=by subst hK;exact ⟨ana h.out⟩
theorem an3(h:QE X e te):QI X tg e (iStr te):=⟨anJ h.out⟩
theorem qi_r1(hm:X.mg "range"=none)(ha:QA X [a] tl)(hg:Gl X "range":=by rfl)(h1:aaN a=false:=by rfl):QI X tg (.Call (.Name "range" p) [a] [] pos) (iRng1 tl):=⟨pi_r1 hg hm ha.out h1⟩
theorem qi_r2(hm:X.mg "range"=none)(ha:QA X [a,b] tl)(hg:Gl X "range":=by rfl)(h1:aaN a=false:=by rfl)(h2:aaN b=false:=by rfl):QI X tg (.Call (.Name "range" p) [a,b] [] pos) (iRng2 tl):=⟨pi_r2 hg hm ha.out h1 h2⟩
theorem abT:QIfs X [] tYes:=⟨aj7⟩
theorem acV(h:QT X c tA):QIfs X [c] tA:=⟨aj8 h.out⟩
variable {sc:Scope} {N':List Str} {k:Nat} {ixs:List Nat} {ifs:List Expr} {wi:TI} {g:TG} {elt:Expr}
theorem aca(C:CompOk X.N X.env.scope.names sc N' k ixs)(hi:QI X tg e wi)(hg:∀ C s₃ H₃ fp pins,QG (blk X sc N' C s₃ H₃ fp pins) tg g)(hc:∀ C s₃ H₃ fp pins,QIfs (blk X sc N' C s₃ H₃ fp pins) ifs tA)(he:∀ C s₃ H₃ fp pins,QE (blk X sc N' C s₃ H₃ fp pins) elt te)(hcalm:X.calm=true:=by rfl)(hs:∀ x,foldedSetIterable e X.env x=pure x:=by intro _;rfl):QE X (.ListComp elt [⟨tg,e,ifs,0⟩] sc pos) (tComp wi k ixs g tA te):=
 ⟨alR C hcalm hi.out (fun _ _ _ _ _=>(hg _ _ _ _ _).out) (fun _ _ _ _ _=>(hc _ _ _ _ _).out) (fun _ _ _ _ _=>(he _ _ _ _ _).out) hs⟩
theorem ace(hN:X.N.Nodup)(hiN:X.N[n]?=some x)(hx:Loc X.env.scope x)(C:CompOk X.N X.env.scope.names sc N' k ixs)(hi:QI X tg e wi)(hg:∀ C s₃ H₃ fp pins,QG (blk X sc N' C s₃ H₃ fp pins) tg g)(hc:∀ C s₃ H₃ fp pins,QIfs (blk X sc N' C s₃ H₃ fp pins) ifs tA)(he:∀ C s₃ H₃ fp pins,QE (blk X sc N' C s₃ H₃ fp pins) elt te)(hsw:swapsWith (.ListComp elt [⟨tg,e,ifs,0⟩] sc pos) (some (.Name x pos')) spos.line X.env=pure true:=by rfl)(hcalm:X.calm=true:=by rfl)(hf:X.fn x=true:=by rfl)(hs:∀ x,foldedSetIterable e X.env x=pure x:=by intro _;rfl) :
  QS X (.Assign [.Name x pos'] (.ListComp elt [⟨tg,e,ifs,0⟩] sc pos) spos) (tAsg (tComp wi k ixs g tA te) (gName n)):=
 ⟨ahM hN hiN hx C hcalm hi.out (fun _ _ _ _ _=>(hg _ _ _ _ _).out) (fun _ _ _ _ _=>(hc _ _ _ _ _).out) (fun _ _ _ _ _=>(he _ _ _ _ _).out) hsw (.inl hf) hs⟩
theorem q_add(hK:X.K=K:=by rfl):QOp X (binaryOp .Add) (rAddU K):=by subst hK;exact ⟨p_add⟩
theorem q_sub:QOp X (binaryOp .Sub) (rI0 fun i j=>.int (i-j)):=⟨p_sub⟩
theorem q_mul:QOp X (binaryOp .Mult) rMulU:=⟨p_mul⟩
theorem aaO:QOp X (binaryOp .FloorDiv) (rI CDiv fun i j=>.int (i / j)):=⟨anE⟩
theorem q_mod:QOp X (binaryOp .Mod) (rI (fun _ j=>0<j) fun i j=>.int (i % j)):=⟨p_mod⟩
theorem q_eq(hu:X.A.units+64<cLine)(hK:X.K=K:=by rfl):QOp X (compareOp .Eq) (rEqU K):=by subst hK;exact ⟨p_eq hu⟩
theorem q_ne(hu:X.A.units+64<cLine)(hK:X.K=K:=by rfl):QOp X (compareOp .NotEq) (rNeU K):=by subst hK;exact ⟨p_ne hu⟩
theorem q_lt:QOp X (compareOp .Lt) rLtU:=⟨p_lt⟩
theorem q_le:QOp X (compareOp .LtE) rLeU:=⟨p_le⟩
theorem q_gt:QOp X (compareOp .Gt) rGtU:=⟨p_gt⟩
theorem q_in(hu:X.A.units+64<cLine)(hK:X.K=K:=by rfl):QOp X (compareOp .In) (rInU K false):=by subst hK;exact ⟨p_in hu⟩
theorem afa(hu:X.A.units+64<cLine)(hK:X.K=K:=by rfl):QOp X (compareOp .NotIn) (rInU K true):=by subst hK;exact ⟨alS hu⟩
theorem q_neg:QUn X (unaryOp .USub) (rU fun i=>.int (-i)):=⟨ani⟩
theorem q_len(hK:X.K=K:=by rfl):QCall X (.builtin "len") (rLenU K):=by subst hK;exact ⟨p_len⟩
theorem q_isi:QCall X (.builtin "isinstance") rIsi:=⟨aj9⟩
theorem adF(hK:X.K=K:=by rfl)(hcm:X.calm=calm:=by rfl):QCall X (.type "list") (aiK K calm):=by subst hK;subst hcm;exact ⟨anH⟩
theorem aaZ:QMt X "list.append" ad2:=⟨fun pins s σ H x xs v us Q I rx rv h=>afI pins s σ H x xs v us Q I rx rv h⟩
theorem ak6:QIp X .Add (ipI fun i j=>i+j):=⟨am9⟩
theorem an4:QIn X .Add rAdd:=⟨anm⟩
theorem an5:QIn X .Sub rSub:=⟨ann⟩
end
end L2
set_option maxRecDepth 100000
namespace L2
open PySem PySem.Spec PyProof.Rows
noncomputable def ModD (P:Program) (w:World) (K:PySem.W.Frag) (a:Addr) (kvs:List (Key×V)):Prop:=(a==sysModules)=false/\∀ h:Heap,K.In h->∃ vs,KV kvs vs/\h.DictOf (aaR P w) a vs
noncomputable abbrev ModE (w:World):List DictEntry->List (Key×V)->Prop:=Paired fun e kv=>keyIs kv.1 e.key=true/\e.hash=keyH w kv.1/\RelV kv.2 e.val
theorem ModE.pairs{P:Program}{w:World} : ∀ {es:List DictEntry} {kvs:List (Key×V)},ModE w es kvs->∃ vs:List (Key×Value),KV kvs vs/\Pairs (aaR P w) es vs/\(∀ e∈es,∃ k,(aaR P w).is k e.key=true/\e.hash=(aaR P w).hash k)/\vs.map (·.1)=kvs.map (·.1)
 | _,_,.nil=>⟨[],.nil,.nil,fun e h=>(nomatch h),rfl⟩
 | e::es,kv::kvs,.cons ⟨h1,h2,h3⟩ t=>by
  obtain ⟨vs,a1,a2,a3,a4⟩:=ModE.pairs (P:=P) t;refine ⟨(kv.1,e.val)::vs,.cons ⟨rfl,h3⟩ a1,.cons h1 rfl a2,fun e' he=>?_,by rw [qak,qak,a4]⟩
  rcases qaa.mp he with z | z
  ·rw [z];exact ⟨kv.1,h1,h2⟩
  ·exact a3 e' z
theorem amp{P:Program}{w:World}{es:Array DictEntry}{ep:Nat}(l:K.lookup a=some { cls:=.type "dict",dict:=none,data:=.dict es ep,slots:=#[] })(hs:(a==sysModules)=false)(he:ModE w es.toList kvs)(hn:(kvs.map (·.1)).Nodup):ModD P w K a kvs:=by
 refine ⟨hs,fun h X=>?_⟩;obtain ⟨vs,a1,a2,a3,a4⟩:=he.pairs (P:=P);exact ⟨vs,a1,_,es,ep,X a _ l,⟨rfl,rfl,rfl⟩,rfl,fun e h=>a3 e (Array.mem_toList_iff.mpr h),a2,by rw [a4];exact hn⟩
noncomputable def rInM (neg:Bool) (a:Addr) (kvs:List (Key×V)):R2:=fun x y H Q=>y=.ref a/\∃ k,x=kV k/\Q (.bl (neg.xor (valV kvs k).isSome)) H
noncomputable def ak7 (a:Addr) (kvs:List (Key×V)) (to ti:TE):TE:=fun σ H Q=>to σ H fun x H1=>ti σ H1 fun y H2=>x=.ref a/\∃ k v,y=kV k/\valV kvs k=some v/\Q v H2
section
variable {X:Cx} {a:Addr} {kvs:List (Key×V)} {o i:Expr} {to ti:TE} {pos:Pos}
theorem q_inM(M:ModD X.prog X.w X.K a kvs):QOp X (compareOp .In) (rInM false a kvs):=⟨by
 intro pins s σ H x y v u Q I rx ry h;obtain ⟨rfl,k,rfl,q⟩:=h;obtain rfl:u=Value.ref a:=ry;obtain ⟨hd,M⟩:=M;obtain ⟨vs,rel,dd⟩:=M s.heap I.kIn;refine wpAny_in_of (kV_is rx) hd dd.mapOf ?_;rw [<- (rel.val k).isSome_eq];exact ⟨.bl _,H,I.tok _,rfl,by simpa using q⟩⟩
theorem aha(M:ModD X.prog X.w X.K a kvs)(ho:QE X o to)(hi:QE X i ti)(hs:NoSl i:=by exact fun _ _=>rfl):QE X (.Subscript o i pos) (ak7 a kvs to ti):=⟨by
 intro pins s σ H Q I h;refine aiF PySem.F.slot_dict_getitem.lookup hs (thn (ho.out pins s σ H _ I h) fun u s1 ⟨x,H1,I1,rx,q1⟩=>thn (hi.out pins s1 σ H1 _ I1 q1) fun iv s2 ⟨y,H2,I2,ry,ex,k,v,ey,l,q2⟩=>?_);subst ex ey;obtain rfl:u=Value.ref a:=rx;obtain ⟨hd,M⟩:=M;obtain ⟨vs,rel,dd⟩:=M s2.heap I2.kIn;obtain ⟨w',hw,rw'⟩:=uaj (v:=v) (o:=valueAt vs k) (by rw [<- l];exact rel.val k);exact ⟨dd.typeIs,wpAny_getItem_of (kV_is ry) dd.mapOf hw ⟨v,H2,I2.tok _,rw',q2⟩⟩⟩
end
theorem ak8{k:Key} : (V.str z=kV k)=(k=Sum.inr z):=by
 cases k with
 | inl i=>exact propext ⟨fun h=>(by cases h),fun h=>(by cases h)⟩
 | inr x=>exact propext ⟨fun h=>(by cases h;rfl),fun h=>(by cases h;rfl)⟩
theorem an6 : rInM neg a kvs (.str z) (.ref b) H Q=(V.ref b=V.ref a/\Q (.bl (neg.xor (valV kvs (Sum.inr z)).isSome)) H):=by
 unfold rInM;simp only [ak8,exists_eq_left]
theorem akt{to ti:TE} : ak7 a kvs to ti σ H Q=to σ H fun x H1=>ti σ H1 fun y H2=>x=.ref a/\∃ k v,y=kV k/\valV kvs k=some v/\Q v H2:=rfl
noncomputable def aiR (c:TT) (tb:TS) (D:Ends) (σ:St) (H:Hp):Prop:=ag1 c tb D σ H
theorem aku : ag1 c tb D σ H=aiR c tb D σ H:=rfl
theorem afT(Pv:Nat->St->Hp->Prop)(m:Nat)(h0:Pv m σ H)(hs:∀ m σ H,Pv m σ H->c σ H fun b H1=>if b=true then ∃ N:St->Hp->Prop,(∀ σ' H',N σ' H'->∃ m',m'<m/\Pv m' σ' H')/\tb { D with nx:=N,ct:=N,bk:=D.nx } σ H1 else D.nx σ H1):aiR c tb D σ H:=⟨Pv,⟨m,h0⟩,hs⟩
noncomputable def rTupR (K:PySem.W.Frag) (p:Addr) (H:Hp) (Q:VK):Prop:=∃ ys,(SqL K H p ys/\∀ l,H l=none->Q (.ref l) (upd H l (.tup ys)))\/(SqT K H p ys/\Q (.ref p) H)
theorem rTupR.l{p:Addr}(h1:SqL K H p ys)(h:∀ l,H l=none->Q (.ref l) (upd H l (.tup ys))):rTupR K p H Q:=⟨ys,.inl ⟨h1,h⟩⟩
theorem rTupR.t{p:Addr}(h1:SqT K H p ys)(h:Q (.ref p) H):rTupR K p H Q:=⟨ys,.inr ⟨h1,h⟩⟩
noncomputable def rTupU (K:PySem.W.Frag):List V->Hp->VK->Prop
 | [.ref p],H,Q=>rTupR K p H Q
 | _,_,_=>False
theorem tup_r{p:Addr} : rTupU K [.ref p] H Q=rTupR K p H Q:=rfl
theorem afb(hK:X.K=K:=by rfl):QCall X (.type "tuple") (rTupU K):=by
 subst hK;refine ⟨fun pins s σ H xs us Q I r h=>?_⟩
 match xs,h with
 | [.ref p],⟨ys,h⟩=>exact ae5 pins s σ H _ us Q I r ⟨p,ys,rfl,h⟩
noncomputable def rMin:List V->Hp->VK->Prop:=fun xs H Q=>∃ i j,xs=[.int i,.int j]/\Q (.int (if j<i then j else i)) H
noncomputable def rMax:List V->Hp->VK->Prop:=fun xs H Q=>∃ i j,xs=[.int i,.int j]/\Q (.int (if j > i then j else i)) H
theorem an7{i j:Int} : rMin [.int i,.int j] H Q=Q (.int (if j<i then j else i)) H:=propext ⟨fun ⟨_,_,e,q⟩=>(by cases e;exact q),fun q=>⟨_,_,rfl,q⟩⟩
theorem an8{i j:Int} : rMax [.int i,.int j] H Q=Q (.int (if j > i then j else i)) H:=propext ⟨fun ⟨_,_,e,q⟩=>(by cases e;exact q),fun q=>⟨_,_,rfl,q⟩⟩
noncomputable def rCalm (calm:Bool) (r:List V->Hp->VK->Prop):List V->Hp->VK->Prop:=fun xs H Q=>calm=true/\r xs H Q
theorem amq{r:List V->Hp->VK->Prop} : rCalm true r xs H Q=r xs H Q:=propext ⟨fun h=>h.2,fun h=>⟨rfl,h⟩⟩
end L2
set_option maxRecDepth 100000
namespace L2
open PySem PySem.Spec PyProof.Rows
open PySem.Builtin PySem.Builtin.Str PySem.StrLaws
noncomputable def tSeqM (t u:TS):TS:=fun D σ H=>∃ M:St->Hp->Prop,t { D with nx:=M } σ H/\∀ σ' H',M σ' H'->u D σ' H'
theorem abi{rest:List Stmt}{t u:TS}(h1:QS X st t)(h2:QSs X rest u):QSs X (st::rest) (tSeqM t u):=⟨by
 intro pins s σ H D I h;obtain ⟨M,h,hm⟩:=h;refine wpAny_execs_cons (thn (h1.out pins s σ H { D with nx:=M } I h) fun f s1 q=>?_)
 cases f with
 | next=>
  obtain ⟨σ',H',I',q⟩:=q;exact h2.out pins s1 σ' H' D I' (hm _ _ q)
 | ret v=>exact q
 | brk=>exact q
 | cont=>exact q⟩
theorem mid{t u:TS}(M:St->Hp->Prop)(h:t { D with nx:=M } σ H)(h2:∀ σ' H',M σ' H'->u D σ' H'):tSeqM t u D σ H:=⟨M,h,h2⟩
theorem aiS{p:Addr}(h:H p=some (.lst xs)):TruV K (.ref p) H (!xs.isEmpty):=.inl ⟨xs,.of h,rfl⟩
theorem abC(xs:List V)(k:Nat):cutV xs (some (k:Int)) none=xs.drop k:=by
 unfold cutV;have e1:HT.sIx xs.length 0 (some (k:Int))=min k xs.length:=by unfold HT.sIx;simp;omega
 have e2:HT.sIx xs.length xs.length none=xs.length:=rfl;rw [e1,e2,qaF (by rw [qaW];exact qa2 _)]
 by_cases h:k<=xs.length
 ·rw [qbw h]
 ·rw [Nat.min_eq_right (by omega),qbH (qa2 _),qbH (by omega)]
theorem afc(xs:List V)(k:Nat):cutV xs none (some (k:Int))=xs.take k:=by
 unfold cutV;have e1:HT.sIx xs.length xs.length (some (k:Int))=min k xs.length:=by unfold HT.sIx;simp;omega
 have e2:HT.sIx xs.length 0 none=0:=rfl;rw [e1,e2,List.drop_zero,Nat.sub_zero]
 by_cases h:k<=xs.length
 ·rw [qbw h]
 ·rw [Nat.min_eq_right (by omega),qaF (qa2 _),qaF (by omega)]
theorem ad8(x:V)(xs:List V):cutV (x::xs) (some 1) none=xs:=abC (x::xs) 1
theorem aaS{α:Type}(x:α)(xs:List α):atI (x::xs) 0=some x:=by
 have e:ixN (x::xs).length 0=some 0:=by unfold ixN;rw [if_pos (Int.le_refl 0),if_pos (by rw [qad];omega)];rfl
 unfold atI;rw [e];rfl
theorem amr{trs:List (TE×TE)} : tDisp trs σ H Q=∀ p,H p=none->aeJ trs σ (upd H p (.dK [])) fun ps H2=>H2 p=some (.dK [])/\∃ kvs:List (Key×V),ps=kvs.map (fun kv=>(kV kv.1,kv.2))/\kvs.length<=15/\Q (.ref p) (upd H2 p (.dK (abR [] kvs))):=rfl
theorem ams{Q:List (V×V)->Hp->Prop} : aeJ [] σ H Q=Q [] H:=rfl
theorem akv{tk tv:TE}{r:List (TE×TE)}{Q:List (V×V)->Hp->Prop} : aeJ ((tk,tv)::r) σ H Q=tk σ H fun x H1=>tv σ H1 fun y H2=>aeJ r σ H2 fun ps H3=>Q ((x,y)::ps) H3:=rfl
theorem akw{td ty tx:TE} : anB td ty tx σ H Q=td σ H fun x H1=>∃ a,x=.ref a/\IsD H1 a/\ty σ H1 fun y H2=>tx σ H2 fun z H3=>∃ o,DGet H3 a y o/\Q (o.getD z) H3:=rfl
theorem acH:∀ {zs:List Str} {us:List Value},Vals (zs.map V.str) us->StrsAre us zs
 | [],_,.nil=>.nil
 | z::zs,_::_,.cons ⟨t,h⟩ r=>by subst h;exact .cons _ _ (acH r)
noncomputable def rJoin (K:PySem.W.Frag):V->List V->Hp->VK->Prop:=fun x vs H Q=>∃ (z:Str) (b:Addr) (zs:List Str),x=.str z/\vs=[.ref b]/\(SqL K H b (zs.map V.str)\/SqT K H b (zs.map V.str))/\z.length<=16/\(zs.map (·.length)).sum+zs.length<=1048576/\Q (.str (Str.join z zs)) H
theorem an9(hK:X.K=K:=by rfl):QMt X "str.join" (rJoin K):=⟨by
 subst hK;intro pins s σ H x vs v us Q I rx rv h;obtain ⟨z,b,zs,rfl,rfl,hb,h1,h2,q⟩:=h;obtain ⟨t,rfl⟩:=rx;obtain ⟨u,rfl,ru⟩:=vals1 rv
 cases ru
 have e:Txt.join z zs=Str.join z zs:=glued_eq_join z zs
 rcases hb with hb | hb
 ·obtain ⟨its,r',pl,hz⟩:=I.list hb;exact join_listW pl.isList (by simpa using acH r') h1 h2 fun t' k=>⟨.str (Str.join z zs),H,I.tok k,⟨t',by rw [e]⟩,q⟩
 ·obtain ⟨its,r',pl,hz⟩:=I.tuple hb;exact join_tupleW pl (by simpa using acH r') h1 h2 fun t' k=>⟨.str (Str.join z zs),H,I.tok k,⟨t',by rw [e]⟩,q⟩⟩
theorem aiT{x:Str}{c:Nat} : subAt x ⟨#[c]⟩ i=(x.cps.toList[i]? == some c):=by
 rw [subAt_eq];show ((x.cps.toList.drop i).take 1==[c])=_;rw [qbc,take1_drop,beq_iff_eq]
end L2
set_option maxRecDepth 100000
namespace L2
open PySem PySem.Spec PyProof.Rows
theorem acI:entryFor table "dict.update.loop"=some Builtin.«dict.update.loop»:=entryFor_of_tree (by kernel_rfl)
theorem abD:plainId "dict.update.loop"=true:=by decide +kernel
section
variable {prog:Program} {w:World} {A:Around} {R:Result->Shared->Prop} {I:Addr} {fp wr:List Addr} {G:Array GenState->Array GenState->Prop} {n:Nat} {P:Nat->Value->Prop} {St:Nat->Shared->Prop}
variable {K:Type} [DecidableEq K] {knd:KeyKind prog w K}
noncomputable def ab2 (ks:Nat->K) (vl:Nat->Value):Nat->List (K×Value)
 | 0=>[]
 | i+1=>stored (ab2 ks vl i) (ks i) (vl i)
theorem ad9(ks:Nat->K)(vl:Nat->Value):∀ i,(ab2 ks vl i).length<=i
 | 0=>qa2 _
 | i+1=>by
  have h1:=ad9 ks vl i;have h2:(stored (ab2 ks vl i) (ks i) (vl i)).length<=(ab2 ks vl i).length+1:=by
   unfold stored
   split
   ·rw [qa0];omega
   ·rw [qa1];exact qa2 _
  show (stored (ab2 ks vl i) (ks i) (vl i)).length<=i+1;omega
theorem aiU(W:WalksS prog w A.in1 I fp wr G n P St)(d:Addr)(hdf:d∉fp)(tp:Nat->Addr)(ky vl:Nat->Value)(ks:Nat->K)(hP:∀ i v,P i v->v=.ref (tp i))(hk:∀ i,i<n->knd.is (ks i) (ky i)=true)(ht:∀ i,i<n->tp i≠d/\tp i∉wr)(hn:n<=sizeLine) :
  ∀ (k i:Nat) (s:Shared) (j:Int) (t:Tok),n-i=k->i<=n->St i s->(∀ i,i<n->IsTup s.heap (tp i) #[ky i,vl i])->s.heap.DictOf knd d (ab2 ks vl i)->
   (∀ s',Moved (d::wr) G s s'->s'.heap.DictOf knd d (ab2 ks vl n)->R (.ok (.ret .none)) s')->
   codeAny (model prog w) A (.builtin "dict.update.loop" ⟨[.ref d,.ref I,.int j t,.none],[]⟩) R s:=by
 have hdw:d∉wr:=fun h=>hdf (W.sub _ h)
 have hsub:∀ b∈wr,b∈d::wr:=fun b hb=>qa9 _ hb
 intro k
 induction k with
 | zero=>
  intro i s j t hk' hi hst hT hD hR;have hin:i=n:=by omega
  subst hin;refine codeAny_builtin acI ?_;rw [Around.under_plainId abD _];show wpAny _ A.in1 (pyNext (.ref I) >>= _) _ _ s;refine wpAny_bind (W.done s _ _ hst fun s' hm=>?_);have e0:Builtin.Dict.addKeywords d []=pure ():=rfl;show wpAny _ A.in1 (Builtin.Dict.addKeywords d [] >>= fun _=>ret Value.none) _ _ s';rw [e0];refine wpAny_bind (wpAny_pure (wpAny_pure (hR s' (hm.mono hsub) ?_)));obtain ⟨o,es,ep,ho,rest⟩:=hD;exact ⟨o,es,ep,hm.heap d _ hdw ho,rest⟩
 | succ k ih=>
  intro i s j t hk' hi hst hT hD hR;have hlt:i<n:=by omega
  refine codeAny_builtin acI ?_;rw [Around.under_plainId abD _];show wpAny _ A.in1 (pyNext (.ref I) >>= _) _ _ s;refine wpAny_bind (W.item i s _ _ hlt hst fun v s' hv hst' hm=>?_);obtain rfl:=hP i v hv;have hD':s'.heap.DictOf knd d (ab2 ks vl i):=by
   obtain ⟨o,es,ep,ho,rest⟩:=hD;exact ⟨o,es,ep,hm.heap d _ hdw ho,rest⟩
  have hT':∀ i,i<n->IsTup s'.heap (tp i) #[ky i,vl i]:=fun i hi=>by
   obtain ⟨o,ho,rest⟩:=hT i hi;exact ⟨o,hm.heap _ _ (ht i hi).2 ho,rest⟩
  have hTi:=hT' i hlt;obtain ⟨o,ho,hoc,n0,hod⟩:=id hTi;refine wpAny_bind (wpAny_holding (wpAny_bind (wpAny_tryCatch ?_)));unfold Builtin.Dict.pairItems;refine wpAny_bind (wpAny_typeOf hTi.typeIs ?_);rw [if_pos (by decide)];refine wpAny_bind (wpAny_seqItems ho hod ?_);refine wpAny_pure ?_;show wpAny _ _ (holding [ky i,vl i] (dictSet d (ky i) (vl i))) _ _ s';have hl:=ad9 ks vl i;refine wpAny_holding (wpAny_dictSet_pairs (hk i hlt) hD' (fun h' hD2 hsb=>?_) (by omega));refine wpAny_pure ⟨plainId_quiet abD _,ih (i+1) _ (j+1) 0 (by omega) hlt (W.frame _ s' _ _ hst' (Nat.le_succ _) fun b hb o e=>?_) (fun i hi=>?_) hD2 fun s'' hm'' hD''=>?_⟩
  ·rw [hsb.2 b (fun h:b=d=>hdf (by rw [<- h];exact hb))];exact e
  ·obtain ⟨o,ho,rest⟩:=hT' i hi;exact ⟨o,(hsb.2 _ (ht i hi).1).trans ho,rest⟩
  ·refine hR s'' (Moved.trans W.gtrans ((hm.mono hsub).then_heap (Nat.le_succ _) fun b o hb e=>?_) hm'') hD'';rw [hsb.2 b (fun h:b=d=>hb (by rw [h];exact qac))];exact e
end
theorem ahN:typeLookup (.type "list") "__getattribute__"=pure (some (.builtin "list.__getattribute__")):=by rw [typeLookup_type,builtinLookup_eq_fast];kernel_rfl
theorem afU:typeLookup (.type "list") "keys"=pure none:=by rw [typeLookup_type,builtinLookup_eq_fast];kernel_rfl
theorem afV:typeLookup (.type "list") "__getattr__"=pure none:=by rw [typeLookup_type,builtinLookup_eq_fast];kernel_rfl
theorem afW{w:World}{l:Addr}{xs:Array Value}{Q:Option Value->Shared->Prop}(hx:s.heap.get? l=some o)(hc:o.cls=.type "list")(hdat:o.data=.seq xs k)(hd:o.dict=none)(hA:A.handled=none)(h:∀ h' tk,(∀ b o,s.heap.get? b=some o->h'.get? b=some o)->Q none { s with heap:=h',toks:=tk }):wpAny (model prog w) A (getAttr? (.ref l) "keys") Q E s:=by
 obtain ⟨c,dct,dat,sl⟩:=o;simp only at hc hdat hd;subst hc hdat hd;obtain ⟨hp,g,d,tk,os⟩:=s;have hT:∀ tk',(⟨hp,g,d,tk',os⟩:Shared).TypeIs (.ref l) "list":=fun _=>⟨_,hx,rfl⟩
 have f4:=F.slot_list_getattribute.bind (.ref l);unfold getAttr? getAttrBy? getAttrBy;refine wpAny_bind (wpAny_mkText (wpAny_bind (wpAny_attempt (wpAny_holding (wpAny_bind (wpAny_typeOf (hT _) ?_))))));rw [ahN];refine wpAny_bind (wpAny_pure ?_);show wpAny _ _ (getAttrByItsOwn _ _ _ _ _ _) _ _ _;unfold getAttrByItsOwn;refine wpAny_bind (wpAny_pure ?_);refine wpAny_bind (wpAny_attempt (wpAny_holding ?_));show wpAny _ _ (boundAndCalled _ _ _) _ _ _;unfold boundAndCalled;rw [f4];refine wpAny_bind (wpAny_pure ?_);refine call_meets F.slot_list_getattribute (hT _) am_entry_list_getattribute (F.args_list_getattribute_2 _ _) (meets_getattribute_miss_list l xs k sl "keys" _ afU (by decide +kernel) (by decide +kernel)) ⟨hx,hA,fun h' tk' e new=>?_⟩;obtain ⟨t',u',he⟩:=new.there;have hTe:∀ tk',(⟨h',g,d,tk',os⟩:Shared).TypeIs (.ref e) "AttributeError":=fun _=>⟨_,he,rfl⟩
 show wpAny _ _ (getattributeRaised _ _ _ _ _ _ _) _ _ _;unfold getattributeRaised;refine wpAny_bind (wpAny_isInstance (hTe _) sub_AttributeError ?_);rw [if_pos rfl];show wpAny _ _ (hookBehind _ _ >>= _) _ _ _;unfold hookBehind;rw [if_neg (by decide),afV];refine wpAny_bind (wpAny_pure ?_);unfold hookOrError attributeErrorLeaves;show wpAny _ _ (if (!false)=true then _ else _) _ _ _;rw [if_pos (by decide)];refine wpAny_bind (wpAny_throw ?_);show wpAny _ _ (isInstance _ _ >>= _) _ _ _;refine wpAny_bind (wpAny_isInstance (hTe _) sub_AttributeError ?_);rw [if_pos rfl];exact wpAny_pure (h h' tk' new.keeps)
section
variable {prog:Program} {w:World} {A:Around} {E:Value->Shared->Prop} {s:Shared} {K:Type} [DecidableEq K] {knd:KeyKind prog w K}
theorem aea{l:Addr}{Q:Value->Shared->Prop}(hl:PlainL s.heap l items)(hA:A.handled=none)(tp:Nat->Addr)(ky vl:Nat->Value)(ks:Nat->K)(hP:∀ (i:Nat) (v:Value),items[i]?=some v->v=Value.ref (tp i))(hk:∀ i,i<items.size->knd.is (ks i) (ky i)=true)(hT:∀ i,i<items.size->IsTup s.heap (tp i) #[ky i,vl i])(hn:items.size<=sizeLine)(h:∀ h' tk,(∀ b o,s.heap.get? b=some o->h'.get? b=some o)->h'.DictOf knd s.heap.objs.size (ab2 ks vl items.size)->Q (.ref s.heap.objs.size) { s with heap:=h',toks:=tk }) :
  wpAny (model prog w) A (call (.type "dict") [.ref l]) Q E s:=by
 refine callType_codes (Q₁:=fun obj s₁=>obj=.ref s.heap.objs.size/\s₁={ s with heap:=s.heap.push { cls:=.type "dict",data:=.dict #[] } }) F.kt_called_dict (F.kt_typeCall_dict_1 _) F.entry_dict_init (kt_code_dict_new _ ⟨rfl,rfl⟩) ?_;rintro obj s₁ ⟨rfl,rfl⟩;have hnew:(s.heap.push { cls:=.type "dict",data:=.dict #[] }).DictOf knd s.heap.objs.size []:=Heap.DictOf.new s.heap;obtain ⟨ol,nl,hol,hlc,hld,hldat⟩:=hl;have hol1:(s.heap.push { cls:=.type "dict",data:=.dict #[] }).get? l=some ol:=Heap.get?_push_of_some _ hol;have hlt:l<s.heap.objs.size:=Heap.lt_size hol;refine ⟨hnew.typeIs,F.args_dict_init_2 _ _,?_⟩;unfold Builtin.«dict.__init__»;refine wpAny_bind ?_;unfold Builtin.Dict.selfAndRest;refine wpAny_bind (wpAny_notOrdered_dict hnew.typeIs ?_);show wpAny _ _ (pure (s.heap.objs.size,[Value.ref l])) _ _ _;refine wpAny_pure ?_;show wpAny _ _ (Builtin.Dict.updateFrom "dict.__init__" s.heap.objs.size (.ref l) [] .none) _ _ _;unfold Builtin.Dict.updateFrom;refine wpAny_bind (wpAny_typeOf (T:="list") ⟨_,hol1,hlc⟩ ?_);rw [if_pos (by decide)];refine wpAny_bind (afW hol1 hlc hldat hld (by simp [hA]) fun h2 tk2 keep2=>?_);rw [if_pos (show (none:Option Value).isNone=true from rfl)];refine wpAny_bind (wpAny_rule ?_);have hl2:h2.IsList l items:=⟨ol,keep2 _ _ hol1,hlc,nl,hldat⟩
 refine wpAny_bind (wpAny_pyIter_list hl2 ?_);obtain ⟨od,es,ep,hod,restd⟩:=hnew;have hdlt:s.heap.objs.size<h2.objs.size:=Heap.lt_size (keep2 _ _ hod);have hne:l≠h2.objs.size:=qaw (Nat.lt_trans hlt hdlt);have hh:A.in1.in1.handled=none:=by simp [hA]
 have hdf:s.heap.objs.size∉[h2.objs.size,l]:=by
  simp only [qaa,qbz,or_false,not_or];exact ⟨qaw hdlt,Nat.ne_of_gt hlt⟩
 have htl:∀ i,i<items.size->tp i<s.heap.objs.size:=fun i hi=>by
  obtain ⟨o,ho,_⟩:=hT i hi;exact Heap.lt_size ho
 refine wpAny_pure ⟨plainId_quiet abD _,aiU ((Walks.list hh _ l hne items).toS) s.heap.objs.size hdf tp ky vl ks hP hk (fun i hi=>⟨qaw (htl i hi),?_⟩) hn (items.size-0) 0 _ 0 0 (by omega) (qar _) ⟨⟨_,Heap.get?_push_size _ rfl,rfl,rfl⟩,hl2.push _⟩ (fun i hi=>?_) ?_ fun s' hm hD'=>?_⟩
 ·simp only [qaa,qbz,or_false];exact qaw (Nat.lt_trans (htl i hi) hdlt)
 ·obtain ⟨o,ho,rest⟩:=hT i hi;exact ⟨o,Heap.get?_push_of_some _ (keep2 _ _ (Heap.get?_push_of_some _ ho)),rest⟩
 ·exact ⟨od,es,ep,Heap.get?_push_of_some _ (keep2 _ _ hod),restd⟩
 ·obtain ⟨h',g',d',tk',os'⟩:=s';have eg:g'=s.gens:=hm.gens;have ed:d'=s.drawn:=hm.drawn;have eo:os'=s.os:=hm.os;subst eg ed eo;refine ⟨rfl,h h' tk' (fun b o hb=>hm.heap b o ?_ (Heap.get?_push_of_some _ (keep2 _ _ (Heap.get?_push_of_some _ hb)))) hD'⟩;have hblt:b<s.heap.objs.size:=Heap.lt_size hb;simp only [qaa,qbz,or_false,not_or];exact ⟨qaw hblt,qaw (Nat.lt_trans hblt hdlt)⟩
end
noncomputable def aoa (K:PySem.W.Frag) (calm:Bool):List V->Hp->VK->Prop:=fun xs H Q=>calm=true/\∃ (p:Addr) (ts:List Addr) (kxs:List (Key×V)),xs=[.ref p]/\SqL K H p (ts.map V.ref)/\Paired (fun t kx=>SqT K H t [kV kx.1,kx.2]) ts kxs/\∀ d,H d=none->Q (.ref d) (upd H d (.dK (abR [] kxs)))
theorem ahb(I:Inv X pins σ H s):∀ {ts:List Addr} {kxs:List (Key×V)},Paired (fun t kx=>SqT X.K H t [kV kx.1,kx.2]) ts kxs->
  ∃ ws:List (Value×Value),Paired (fun t w=>IsTup s.heap t #[w.1,w.2]) ts ws/\Paired (fun (kx:Key×V) (w:Value×Value)=>keyIs kx.1 w.1=true/\RelV kx.2 w.2) kxs ws
 | _,_,.nil=>⟨[],.nil,.nil⟩
 | _,_,.cons h t=>by
  obtain ⟨ws,h1,h2⟩:=ahb I t;obtain ⟨its,r,ht,_⟩:=I.tuple h;obtain ⟨u1,u2,rfl,r1,r2⟩:=vals2 r;exact ⟨(u1,u2)::ws,.cons ht h1,.cons ⟨kV_is (P:=X.prog) (w:=X.w) r1,r2⟩ h2⟩
theorem aiV:∀ {ts:List Addr} {us:List Value},Vals (ts.map V.ref) us->us=ts.map Value.ref
 | [],_,.nil=>rfl
 | t::ts,_::_,.cons h r=>by
  rw [qak,<- aiV r];cases h;rfl
theorem aiW(hK:X.K=K:=by rfl)(hc:X.calm=calm:=by rfl):QCall X (.type "dict") (aoa K calm):=⟨by
 subst hK;intro pins s σ H xs us Q I r h;obtain ⟨hcm,p,ts,kxs,rfl,hp,hP,q⟩:=h;obtain ⟨u,rfl,rx⟩:=vals1 r
 cases rx
 obtain ⟨its,r',pl,hz⟩:=I.list hp;have hits:=aiV r';obtain ⟨ws,h1,h2⟩:=ahb I hP;have hl1:ts.length=ws.length:=Paired.length h1;have hl2:kxs.length=ws.length:=Paired.length h2;rw [qa0] at hz;have hsz:its.toArray.size=ts.length:=by rw [qai,hits,qa0]
 have hrel:∀ i,i<=ts.length->KV (abR [] (kxs.take i)) (ab2 (fun i=>(kxs.getD i (Sum.inl 0,.non)).1) (fun i=>(ws.getD i (.none,.none)).2) i):=by
  intro i
  induction i with
  | zero=>intro _;exact .nil
  | succ i ih=>
   intro hi;have hi1:i<kxs.length:=by omega
   obtain ⟨w',hw,hr⟩:=Paired.at h2 (qa3 hi1);have e1:abR [] (kxs.take (i+1))=putK (abR [] (kxs.take i)) kxs[i].1 kxs[i].2:=by
    unfold abR;rw [qaQ,qa3 hi1,Option.toList_some,qbk];rfl
   rw [e1];show KV _ (stored _ (kxs.getD i (Sum.inl 0,.non)).1 (ws.getD i (.none,.none)).2);have e2:(kxs.getD i (Sum.inl 0,.non))=kxs[i]:=by rw [qaJ,qa3 hi1];rfl
   have e3:(ws.getD i (.none,.none))=w':=by rw [qaJ,hw];rfl
   rw [e2,e3];exact (ih (by omega)).put _ hr.2
 refine aea (knd:=aaR X.prog X.w) pl (I.ok.hd (hc.trans hcm)) (fun i=>ts.getD i 0) (fun i=>(ws.getD i (.none,.none)).1) (fun i=>(ws.getD i (.none,.none)).2) (fun i=>(kxs.getD i (Sum.inl 0,.non)).1) (fun i v hv=>?_) (fun i hi=>?_) (fun i hi=>?_) (by omega) fun h' tk keep hD=>?_
 ·rw [<- Array.getElem?_toList,hits,qaC] at hv;rw [qaJ];cases e:ts[i]? with
  | none=>rw [e] at hv;cases hv
  | some t=>rw [e] at hv;cases hv;rfl
 ·obtain ⟨w',hw,hr⟩:=Paired.at h2 (qa3 (show i<kxs.length by omega));have e2:(kxs.getD i (Sum.inl 0,.non))=kxs[i]'(by omega):=by rw [qaJ,qa3 (show i<kxs.length by omega)];rfl
  have e3:(ws.getD i (.none,.none))=w':=by rw [qaJ,hw];rfl
  rw [e2,e3];exact hr.1
 ·have hi':i<ts.length:=by omega
  obtain ⟨w',hw,hr⟩:=Paired.at h1 (qa3 hi');have e3:(ws.getD i (.none,.none))=w':=by rw [qaJ,hw];rfl
  have e4:ts.getD i 0=ts[i]:=by rw [qaJ,qa3 hi'];rfl
  rw [e3,e4];exact hr
 ·have hD2:KV (abR [] kxs) (ab2 (fun i=>(kxs.getD i (Sum.inl 0,.non)).1) (fun i=>(ws.getD i (.none,.none)).2) its.toArray.size):=by
   have:=hrel ts.length (qa2 _)
   rw [qaF (by omega)] at this;rw [hsz];exact this
  have hlen:=adf kxs [];rw [qaG] at hlen;exact ⟨.ref s.heap.objs.size,_,I.laid (t':=tk) keep (qa2 _) (aiE (by omega) (beq_eq_false_iff_ne.mpr (Ne.symm (qaw I.big))) hD2 hD),rfl,q _ (I.hok.fresh (qa2 _))⟩⟩
end L2
set_option maxRecDepth 100000
namespace L2
open PySem PySem.Spec PyProof.Rows
section
variable {X:Cx} {pins:List (Addr×Obj)} {σ:St} {H:Hp} {s:Shared} {h':Heap}
theorem Inv.turnNew{ch:List Addr}{T:Addr}{o:HO}(I:Inv X pins σ H s)(hf:∀ b∈ch,FpOk X pins H b)(k:∀ b u,b∉ch->s.heap.get? b=some u->h'.get? b=some u)(hT:s.heap.objs.size<=T)(new:ObjOk X.prog X.w (upd H T o) h' T o):Inv X pins σ (upd H T o) { s with heap:=h',toks:=t' }:=by
 have hn:H T=none:=I.hok.fresh hT;have nch:∀ b u,H b=some u->b∉ch:=fun b u e z=>by rw [(hf b z).1] at e;cases e
 have neT:∀ b u,s.heap.get? b=some u->b≠T:=fun b u e=>qaw (qau (Heap.lt_size e) hT)
 refine I.step (g':=s.gens) (d':=s.drawn) (ch:=ch) (fun b hb=>?_) (fun b u _ _ hc e _=>k b u hc e) (fun b u _ _ hc e _=>⟨u.slots,k b u hc e⟩) (fun b u _ e n=>by rw [aah (neT b u e)];exact n)
  (fun b u hc e=>⟨u,k b u hc e⟩) (fun b xs e=>aag e hn) (fun b ob u e=>aag e hn) (fun b ps e=>⟨#[],by rw [aag e hn];simp⟩) (fun m hm=>?_) (fun b u e=>?_) I.bare
 ·obtain ⟨f0,f1,f2,f3,f4,f5⟩:=hf b hb;exact ⟨f3,f1,f4,f5⟩
 ·obtain ⟨ob,es,ep,ho,r⟩:=hm;exact ⟨ob,es,ep,k _ ob (fun z=>(hf _ z).2.1 rfl) ho,r⟩
 ·by_cases hb:b=T
  ·subst hb;rw [aaa] at e;cases e;exact new
  ·rw [aah hb] at e;refine (I.hok b u e).stay (fun c v hc q=>k c v ?_ q) (fun c q=>aag q hn) fun c xs q=>aag q hn
   rcases hc with z | z
   ·rw [z];exact nch b u e
   ·exact nch c _ z
end
theorem acA{a b:Nat}(h:a<b\/b<a):(show Addr from a)≠(show Addr from b):=fun e=>by
 have e:a=b:=e;omega
noncomputable def Itz (l1 l2 : Addr) : It :=
  ⟨fun i H => ∃ xs ys x y, H l1 = some (.lst xs) /\ H l2 = some (.lst ys) /\ xs[i]? = some x /\ ys[i]? = some y,
   fun i H v H' => ∃ t xs ys x y, H l1 = some (.lst xs) /\ H l2 = some (.lst ys) /\ xs[i]? = some x /\ ys[i]? = some y /\ H t = none /\ v = .ref t /\ H' = upd H t (.tup [x, y]),
   fun i H => ∃ xs ys, H l1 = some (.lst xs) /\ H l2 = some (.lst ys) /\ (xs.length <= i \/ ys.length <= i)⟩
theorem akx{P:Program}{w:World}{pos:Pos}(z TI TO i1 i2 l1 l2:Addr)(a1:TI≠z)(a2:TO≠z)(a3:i1≠z)(a4:i2≠z)(a5:TI≠TO)(a6:TI≠i1)(a7:TI≠i2)(a8:TO≠i1)(a9:TO≠i2)(a10:i1≠i2) :
  Turn P w K (.Tuple elts x1 pos) (Itz l1 l2) [z,TO,i1,i2,TI] z (fun i h=>IsZip h z TI TO .none/\IsPair h TI (.ref i1) (.ref i2)/\(∃ a b,IsPair h TO a b)/\h.IsListIter i1 l1 i/\h.IsListIter i2 l2 i) where
 mem:=by simp
 obj:=fun i h ⟨hz,hTI,⟨a,b,hTO⟩,h1,h2⟩ c hc=>by
  have e:c=z\/c=TO\/c=i1\/c=i2\/c=TI:=by simpa using hc
  rcases e with rfl | rfl | rfl | rfl | rfl
  ·exact ⟨_,hz,fun v q=>by cases q⟩
  ·exact ⟨_,hTO,fun v q=>by cases q⟩
  ·obtain ⟨o,e,c,d⟩:=h1;exact ⟨o,e,fun v z=>by rw [d] at z;cases z⟩
  ·obtain ⟨o,e,c,d⟩:=h2;exact ⟨o,e,fun v z=>by rw [d] at z;cases z⟩
  ·exact ⟨_,hTI,fun v q=>by cases q⟩
 keep:=fun i h h' ⟨hz,hTI,⟨a,b,hTO⟩,h1,h2⟩ k=>⟨k z (by simp) _ hz,k TI (by simp) _ hTI,⟨a,b,k TO (by simp) _ hTO⟩,h1.at fun o e=>k i1 (by simp) o e,h2.at fun o e=>k i2 (by simp) o e⟩
 item:=by
  intro X hP hw hK hc i pins s σ H E I hf ⟨hz,hTI,⟨a,b,hTO⟩,h1,h2⟩ hg;subst hP hw hK;obtain ⟨xs,ys,x,y,e1,e2,hx,hy⟩:=hg;obtain ⟨its1,rv1,p1,_⟩:=I.list (SqL.of (K:=X.K) e1);obtain ⟨its2,rv2,p2,_⟩:=I.list (SqL.of (K:=X.K) e2);obtain ⟨u1,hu1,r1⟩:=rv1.get hx;obtain ⟨u2,hu2,r2⟩:=rv2.get hy;have nl:∀ c∈[z,TO,i1,i2,TI],l1≠c/\l2≠c:=fun c hc=>⟨fun q=>(by rw [q,(hf c hc).1] at e1;cases e1),fun q=>(by rw [q,(hf c hc).1] at e2;cases e2)⟩
  have D:ZipApart z TI TO i1 i2 l1 l2:=⟨a1,a2,a3,a4,a5,a6,a7,a8,a9,a10,(nl z (by simp)).1,(nl TO (by simp)).1,(nl i1 (by simp)).1,(nl i2 (by simp)).1,(nl z (by simp)).2,(nl TO (by simp)).2,(nl i1 (by simp)).2,(nl i2 (by simp)).2⟩
  refine wpAny_pyNext_zip_item D hz hTI hTO h1 h2 p1.isList p2.isList (x:=u1) (y:=u2) (by simpa using hu1) (by simpa using hu2) fun h' b1 b2 b3 b4 b5 b6 b7=>⟨_,rfl,wpAny_letOwnedTupleGo_zip b1 fun h2' c1 c2=>?_⟩
  have hzl:z<s.heap.objs.size:=Heap.lt_size hz;have up:∀ c o,c≠z->h'.get? c=some o->h2'.get? c=some o:=fun c o hc e=>(c2.2 c hc).trans e
  have nT:∀ c∈[z,TO,i1,i2,TI],c≠s.heap.objs.size:=fun c hc=>by
   have e:c=z\/c=TO\/c=i1\/c=i2\/c=TI:=by simpa using hc
   refine qaw ?_
   rcases e with rfl | rfl | rfl | rfl | rfl
   ·exact Heap.lt_size hz
   ·exact Heap.lt_size hTO
   ·obtain ⟨o,e,_⟩:=h1;exact Heap.lt_size e
   ·obtain ⟨o,e,_⟩:=h2;exact Heap.lt_size e
   ·exact Heap.lt_size hTI
  have hT:=up _ _ (Nat.ne_of_gt hzl) b5;refine ⟨.ref s.heap.objs.size,upd H s.heap.objs.size (.tup [x,y]),I.turnNew (t':=s.toks) (ch:=[z,TO,i1,i2,TI]) hf (fun c u hc e=>?_) (qa2 _) ⟨by show 2<=sizeLine;decide,[u1,u2],.cons r1 (.cons r2 .nil),?_⟩,rfl,⟨_,xs,ys,x,y,e1,e2,hx,hy,I.fresh,rfl,rfl⟩,
   ⟨c1,up _ _ a1 (b7 _ _ a1 a5 a6 a7 hTI),⟨_,_,up _ _ a2 b2⟩,b3.at fun o e=>up _ o a3 e,b4.at fun o e=>up _ o a4 e⟩,fun c hc=>by rw [aah (nT c hc)];exact (hf c hc).1⟩
  ·have q:c≠z/\c≠TO/\c≠i1/\c≠i2:=by
    refine ⟨fun q=>hc (by simp [q]),fun q=>hc (by simp [q]),fun q=>hc (by simp [q]),fun q=>hc (by simp [q])⟩
   exact up c u q.1 (b7 c u q.1 q.2.1 q.2.2.1 q.2.2.2 e)
  ·exact ⟨_,hT,rfl,_,rfl⟩
 done:=by
  intro X hP hw hK hc i pins s σ H E I hf ⟨hz,hTI,⟨a,b,hTO⟩,h1,h2⟩ hg;subst hP hw hK;obtain ⟨xs,ys,e1,e2,hend⟩:=hg;obtain ⟨its1,rv1,p1,_⟩:=I.list (SqL.of (K:=X.K) e1);obtain ⟨its2,rv2,p2,_⟩:=I.list (SqL.of (K:=X.K) e2);have q1:=rv1.length;have q2:=rv2.length;have nl:∀ c∈[z,TO,i1,i2,TI],l1≠c/\l2≠c:=fun c hc=>⟨fun q=>(by rw [q,(hf c hc).1] at e1;cases e1),fun q=>(by rw [q,(hf c hc).1] at e2;cases e2)⟩
  have D:ZipApart z TI TO i1 i2 l1 l2:=⟨a1,a2,a3,a4,a5,a6,a7,a8,a9,a10,(nl z (by simp)).1,(nl TO (by simp)).1,(nl i1 (by simp)).1,(nl i2 (by simp)).1,(nl z (by simp)).2,(nl TO (by simp)).2,(nl i1 (by simp)).2,(nl i2 (by simp)).2⟩
  refine wpAny_pyNext_zip_end (I.ok.hd hc) D hz hTI hTO h1 h2 p1.isList p2.isList (by rcases hend with q | q <;> simp <;> omega) fun h' k=>⟨rfl,?_⟩
  refine I.step (h':=h') (t':=s.toks) (g':=s.gens) (d':=s.drawn) (ch:=[z,TO,i1,i2,TI]) (fun b hb=>?_) (fun b u _ _ hc e _=>?_) (fun b u _ _ hc e _=>⟨u.slots,?_⟩) (fun b u _ e n=>n)
   (fun b u hc e=>⟨u,?_⟩) (fun b xs e=>e) (fun b ob u e=>e) (fun b ps e=>⟨#[],by rw [e];simp⟩) (fun m hm=>?_) (fun b u e=>?_) I.bare
  ·obtain ⟨f0,f1,f2,f3,f4,f5⟩:=hf b hb;exact ⟨f3,f1,f4,f5⟩
  ·exact k b u (fun q=>hc (by simp [q])) (fun q=>hc (by simp [q])) (fun q=>hc (by simp [q])) (fun q=>hc (by simp [q])) e
  ·exact k b u (fun q=>hc (by simp [q])) (fun q=>hc (by simp [q])) (fun q=>hc (by simp [q])) (fun q=>hc (by simp [q])) e
  ·exact k b u (fun q=>hc (by simp [q])) (fun q=>hc (by simp [q])) (fun q=>hc (by simp [q])) (fun q=>hc (by simp [q])) e
  ·obtain ⟨ob,es,ep,ho,r⟩:=hm;have nL:∀ c∈[z,TO,i1,i2,TI],X.env.locals≠c:=fun c hc q=>(hf c hc).2.1 q.symm
   exact ⟨ob,es,ep,k _ ob (nL z (by simp)) (nL TO (by simp)) (nL i1 (by simp)) (nL i2 (by simp)) ho,r⟩
  ·have nch:∀ b u,H b=some u->∀ c∈[z,TO,i1,i2,TI],b≠c:=fun b u e c hc q=>by rw [q,(hf c hc).1] at e;cases e
   refine (I.hok b u e).stay (fun c v hc q=>?_) (fun c q=>q) fun c xs q=>q
   have:∀ d∈[z,TO,i1,i2,TI],c≠d:=by
    rcases hc with z | z
    ·rw [z];exact nch b u e
    ·exact nch c _ z
   exact k c v (this z (by simp)) (this TO (by simp)) (this i1 (by simp)) (this i2 (by simp)) q
 self:=fun _ _ _ _ _ st h=>wpAny_pyIter_zip st.1 h
section
variable {X:Cx}
noncomputable def iZip (ta:TA):TI:=fun σ H R=>ta σ H fun vs H1=>∃ (l1 l2:Addr) (xs ys:List V),vs=[.ref l1,.ref l2]/\H1 l1=some (.lst xs)/\H1 l2=some (.lst ys)/\R (Itz l1 l2) H1
theorem aob{a b:Expr}{p pos:Pos}(hg:Gl X "zip")(hm:X.mg "zip"=none)(ha:PA X [a,b] ta)(h1:aaN a=false:=by rfl)(h2:aaN b=false:=by rfl) :
  PI X (.Tuple elts x1 tpos) (.Call (.Name "zip" p) [a,b] [] pos) (iZip ta):=by
 intro pins s σ H R I h;refine Call_ (adA I hg hm boot_zip (PyProof.Rows.callWith_type1 (thn (ha pos pins s σ H _ I h) fun us s1 ⟨vs,H1,I1,r1,q1⟩=>?_) (aay h1) (by rw [aay h2];rfl)));obtain ⟨l1,l2,xs,ys,rfl,e1,e2,q⟩:=q1;obtain ⟨u1,u2,rfl,ru1,ru2⟩:=vals2 r1
 cases ru1
 cases ru2
 obtain ⟨its1,rv1,p1,_⟩:=I1.list (SqL.of (K:=X.K) e1);obtain ⟨its2,rv2,p2,_⟩:=I1.list (SqL.of (K:=X.K) e2);refine call_zip_2 p1.isList p2.isList fun h' z1 z2 z3 z4 z5 z6 z7=>wpAny_pyIter_zip z1 ?_
 refine ⟨s1.heap.objs.size+4,[s1.heap.objs.size+4,s1.heap.objs.size+3,s1.heap.objs.size,s1.heap.objs.size+1,s1.heap.objs.size+2],_,_,H1,rfl,I1.kept (t':=s1.toks) z7,
  akx _ (s1.heap.objs.size+2) (s1.heap.objs.size+3) s1.heap.objs.size (s1.heap.objs.size+1) l1 l2 (acA (by omega)) (acA (by omega)) (acA (by omega)) (acA (by omega)) (acA (by omega)) (acA (by omega)) (acA (by omega)) (acA (by omega)) (acA (by omega)) (acA (by omega)),⟨z1,z2,⟨_,_,z3⟩,z4,z5⟩,fun b hb=>?_,q⟩
 have hb':s1.heap.objs.size<=b:=by
  have e:b=s1.heap.objs.size+4\/b=s1.heap.objs.size+3\/b=s1.heap.objs.size\/b=s1.heap.objs.size+1\/b=s1.heap.objs.size+2:=by simpa using hb
  rcases e with rfl | rfl | rfl | rfl | rfl
  ·exact qb0 _ _
  ·exact qb0 _ _
  ·exact qa2 _
  ·exact qb0 _ _
  ·exact qb0 _ _
 exact I1.fpOk hb' (I1.hok.fresh hb')
theorem aoc{a b:Expr}{p pos:Pos}(hm:X.mg "zip"=none)(ha:QA X [a,b] ta)(hg:Gl X "zip":=by rfl)(h1:aaN a=false:=by rfl)(h2:aaN b=false:=by rfl) :
  QI X (.Tuple elts x1 tpos) (.Call (.Name "zip" p) [a,b] [] pos) (iZip ta):=⟨aob hg hm ha.out h1 h2⟩
end
theorem amt{R:It->Hp->Prop} : iZip ta σ H R=ta σ H fun vs H1=>∃ (l1 l2:Addr) (xs ys:List V),vs=[.ref l1,.ref l2]/\H1 l1=some (.lst xs)/\H1 l2=some (.lst ys)/\R (Itz l1 l2) H1:=rfl
theorem forZ{l1 l2:Addr}(Pv:Nat->St->Hp->Prop)(h0:Pv 0 σ H)(hl:∀ i σ H,Pv i σ H->H l1=some (.lst xs)/\H l2=some (.lst ys))(hs:∀ i x y t σ H,xs[i]?=some x->ys[i]?=some y->Pv i σ H->H t=none->g (.ref t) σ (upd H t (.tup [x,y])) fun σ2 H2=>tb { D with nx:=Pv (i+1),ct:=Pv (i+1),bk:=D.nx } σ2 H2)(hd:∀ σ H,Pv (min xs.length ys.length) σ H->D.nx σ H):ForIt (Itz l1 l2) g tb D σ H:=by
 refine ⟨fun i m σ H=>m=min xs.length ys.length-i/\i<=min xs.length ys.length/\Pv i σ H,⟨min xs.length ys.length,by simp,qar _,h0⟩,?_⟩;rintro i m σ H ⟨rfl,hi,p⟩;obtain ⟨e1,e2⟩:=hl i σ H p
 by_cases hlt:i<min xs.length ys.length
 ·refine .inr ⟨⟨xs,ys,xs[i]'(by omega),ys[i]'(by omega),e1,e2,by simp,by simp⟩,Pv (i+1),fun σ' H' p'=>⟨_,by omega,rfl,hlt,p'⟩,fun v H' y=>?_⟩;obtain ⟨t,xs',ys',x,y',f1,f2,hx,hy,ht,rfl,rfl⟩:=y;rw [e1] at f1;cases f1;rw [e2] at f2;cases f2;exact hs i x y' t σ H hx hy p ht
 ·have e:i=min xs.length ys.length:=by omega
  subst e;exact .inl ⟨⟨xs,ys,e1,e2,by omega⟩,hd σ H p⟩
noncomputable def Itr3 (lo st:Int) (n:Nat):It:=⟨fun i _=>i<n,fun i H x H'=>H'=H/\x=.int (lo+i*st),fun i _=>n<=i⟩
theorem afX{α β:Type}(f:α->β):∀ (l:List α) (i:Nat),(l.eraseIdx i).map f=(l.map f).eraseIdx i
 | [],_=>rfl
 | _::_,0=>rfl
 | x::l,i+1=>by
  show f x::(l.eraseIdx i).map f=f x::(l.map f).eraseIdx i;rw [afX f l i]
noncomputable def aiX (td ty tx:TE):TE:=fun σ H Q=>td σ H fun x H1=>∃ a,x=.ref a/\IsD H1 a/\ty σ H1 fun y H2=>tx σ H2 fun z H3=>∃ kvs k,H3 a=some (.dK kvs)/\kvs.length<sizeLine/\y=kV k/\
 (∀ v,valV kvs k=some v->Q v H3)/\(valV kvs k=none->Q z (upd H3 a (.dK (putK kvs k z))))
section
variable {X:Cx} {o e f:Expr} {apos cpos:Pos} {td ty tx:TE} {pins:List (Addr×Obj)} {σ:St} {H:Hp} {s:Shared} {a:Addr} {A:Around} {E:Value->Shared->Prop}
theorem aod{k:Key}{z:V}{r:Value}{Q:Value->Shared->Prop}(I:Inv X pins σ H s)(e:H a=some (.dK kvs))(hl:kvs.length<sizeLine)(ry:RelV (kV k) u)(rz:RelV z r)(h1:∀ v w' s',valV kvs k=some v->Inv X pins σ H s'->RelV v w'->Q w' s')(h2:∀ s',valV kvs k=none->Inv X pins σ (upd H a (.dK (putK kvs k z))) s'->Q r s') :
  wpAny (model X.prog X.w) A (call (.builtin "dict.setdefault") [.ref a,u,r]) Q E s:=by
 obtain ⟨hz,hd,vs,rel,dd⟩:=dk_of I.hok e;have hlen:=rel.length;refine call_meetsIn PySem.F.slot_dict_setdefault dd.typeIs PySem.F.entry_dict_setdefault (PySem.F.args_dict_setdefault_3 _ _ _) (kt_meets_setdefault (aaR X.prog X.w) a (kV_is ry) hd r) ⟨vs,dd,by omega,fun v hv=>?_,fun hn h' hm hs=>?_⟩
 ·have:=rel.val k
  rw [hv] at this;cases hvv:valV kvs k with
  | none=>rw [hvv] at this;exact this.elim
  | some x=>rw [hvv] at this;exact h1 x v _ hvv (I.tok _) this
 ·have:=rel.val k
  rw [hn] at this;cases hvv:valV kvs k with
  | some x=>rw [hvv] at this;exact this.elim
  | none=>
   have hpl:(putK kvs k z).length<=sizeLine:=by rw [aj3 z hvv,qa1,qag];omega
   obtain ⟨ob,_,_,ho,_⟩:=id hm;exact h2 _ hvv (agv (t':=s.toks+1) I (by rw [e];exact trivial) hs ⟨ob,ho⟩ (aiE hpl hd (rel.put k rz) hm))
theorem aky(ho:PE X o td)(he:PE X e ty)(hf:PE X f tx)(m:M2 X o "setdefault" apos e f cpos):PE X (.Call (.Attribute o "setdefault" apos) [e,f] [] cpos) (aiX td ty tx):=by
 intro pins s σ H Q I h;refine wpAny_Call_method m.base m.few m.line PySem.F.plainAttrs_dict PySem.F.slot_dict_setdefault PySem.F.type_dict_setdefault (thn (ho pins s σ H _ I h) fun u s1 ⟨x,H1,I1,rx,a,ex,d,q1⟩=>?_);subst ex;obtain rfl:u=Value.ref a:=rx;obtain ⟨t1,t2,_⟩:=ak0 I1 d;refine ⟨t1,t2,?_⟩;rw [m.trees];refine Calls.callWith_builtin rfl (Calls.evalArgs_plain (Calls.spliced_cons (thn (he pins s1 σ H1 _ I1 q1) fun iv s2 ⟨y,H2,I2,ry,q2⟩=>
  Calls.spliced_cons (thn (hf pins s2 σ H2 _ I2 q2) fun fv s3 ⟨z,H3,I3,rz,kvs,k,e3,hl,ey,q3,q4⟩=>Calls.spliced_nil ?_))))
 subst ey;exact aod I3 e3 hl ry rz (fun v w' s4 hv I4 rw'=>⟨v,H3,I4,rw',q3 v hv⟩) fun s4 hn I4=>⟨z,_,I4,rz,q4 hn⟩
theorem akz(ho:QE X o td)(he:QE X e ty)(hf:QE X f tx)(h1:aaN e=false:=by rfl)(h2:aaN f=false:=by rfl)(hbase:attributeBase o "setdefault" X.env (eval o X.env)=eval o X.env:=by rfl)(hline:(apos.endLine==cpos.line)=true:=by rfl):QE X (.Call (.Attribute o "setdefault" apos) [e,f] [] cpos) (aiX td ty tx):=
 ⟨aky ho.out he.out hf.out ⟨hbase,by rw [aay h1,aay h2];rfl,hline,by rw [aay h1,aay h2];rfl⟩⟩
theorem akA:aiX td ty tx σ H Q=td σ H fun x H1=>∃ a,x=.ref a/\IsD H1 a/\ty σ H1 fun y H2=>tx σ H2 fun z H3=>∃ kvs k,H3 a=some (.dK kvs)/\kvs.length<sizeLine/\y=kV k/\
 (∀ v,valV kvs k=some v->Q v H3)/\(valV kvs k=none->Q z (upd H3 a (.dK (putK kvs k z)))):=rfl
end
section
variable {X:Cx} {tg:Expr}
noncomputable def rsz (i j k:Int):Nat:=(if i<j then (j-i-1) / k+1 else 0).toNat
noncomputable def iRng3 (ta:TA):TI:=fun σ H R=>ta σ H fun vs H1=>∃ i j k:Int,vs=[.int i,.int j,.int k]/\(-(2 ^ 60)<=i/\i<2 ^ 60/\-(2 ^ 60)<=j/\j<2 ^ 60/\0<k/\k<1000000)/\R (Itr3 i k (rsz i j k)) H1
end
theorem akB{R:It->Hp->Prop} : iRng3 ta σ H R=ta σ H fun vs H1=>∃ i j k:Int,vs=[.int i,.int j,.int k]/\(-(2 ^ 60)<=i/\i<2 ^ 60/\-(2 ^ 60)<=j/\j<2 ^ 60/\0<k/\k<1000000)/\R (Itr3 i k (rsz i j k)) H1:=rfl
section
variable {X:Cx} {pins:List (Addr×Obj)} {σ:St} {H:Hp} {s:Shared} {a:Addr}
theorem Inv.swap{u u':HO}(I:Inv X pins σ H s)(e:H a=some u)(n1:∀ xs,u≠.tup xs)(n2:∀ x,u≠.own x)(n3:∀ ps,u≠.tbl ps)(n4:∀ o v,X.H₀ a≠some (.frz o v))(new:ObjOk X.prog X.w H s.heap a u'):Inv X pins σ (upd H a u') s:=by
 have ne:∀ b,H b=none->b≠a:=fun b h q=>by rw [q,e] at h;cases h
 have own:∀ c x,H c=some (.own x)->upd H a u' c=some (.own x):=fun c x q=>by
  rw [aah (fun z=>by rw [z,e] at q;exact n2 x (Option.some.inj q))];exact q
 have tup:∀ c xs,H c=some (.tup xs)->upd H a u' c=some (.tup xs):=fun c x q=>by
  rw [aah (fun z=>by rw [z,e] at q;exact n1 x (Option.some.inj q))];exact q
 refine ⟨I.ok,I.os,I.bare,⟨I.base.keep,I.base.slot,fun b o h1 h2 h3=>?_,I.base.there,fun b xs h=>tup b xs (I.base.tups b xs h),fun b o v h=>?_,fun b ps h=>?_⟩,I.loc,I.cell,?_,fun x c h=>?_,fun p hp=>?_,fun b v h=>?_,I.len⟩
 ·have:=I.base.free b o h1 h2 h3
  rw [aah (ne b this)];exact this
 ·rw [aah (fun z=>n4 o v (by rw [<- z];exact h))];exact I.base.frzs b o v h
 ·obtain ⟨m,q⟩:=I.base.tbls b ps h;exact ⟨m,by rw [aah (fun z=>by rw [z,e] at q;exact n3 _ (Option.some.inj q))];exact q⟩
 ·rw [aah (ne _ I.free)];exact I.free
 ·rw [aah (ne _ (I.freeC x c h))];exact I.freeC x c h
 ·obtain ⟨h1,h2,h3⟩:=I.pin p hp;exact ⟨h1,by rw [aah (ne _ h2)];exact h2,h3⟩
 ·by_cases hb:b=a
  ·subst hb;rw [aaa] at h;cases h;exact new.stay (fun _ _ _ q=>q) (fun c q=>own c _ q) fun c xs q=>tup c xs q
  ·rw [aah hb] at h;exact (I.hok b v h).stay (fun _ _ _ q=>q) (fun c q=>own c _ q) fun c xs q=>tup c xs q
end
noncomputable def Itd (a:Addr) (o:Obj) (kvs:List (Key×V)):It:=
 ⟨fun i H=>H a=some (.frz o (.dK kvs))/\i<kvs.length,fun i H x H'=>H'=H/\∃ k v,kvs[i]?=some (k,v)/\x=kV k,fun i H=>H a=some (.frz o (.dK kvs))/\kvs.length<=i⟩
theorem aiY{P:Program}{w:World}(a it:Addr)(o:Obj)(kvs:List (Key×V))(vs:List (Key×Value))(ep:Nat)(hat:∀ h:Heap,h.get? a=some o->h.DictAt (aaR P w) a vs ep)(rel:KV kvs vs):Turn P w K tg (Itd a o kvs) [it] it (fun i h=>h.IsKeyIter it a i vs.length ep) where
 mem:=by simp
 obj:=fun i h st b hb=>by
  have e:b=it:=by simpa using hb
  subst e;obtain ⟨o,e,c,d⟩:=st;exact ⟨o,e,fun v z=>by rw [d] at z;cases z⟩
 keep:=fun i h h' st k=>st.at fun o e=>k it (by simp) o e
 item:=by
  intro X hP hw hK hc i pins s σ H E I hf st hg;subst hP hw hK;obtain ⟨f0,f1,f2,f3,f4,f5⟩:=hf it (by simp);obtain ⟨hga,hgi⟩:=hg;have hd:=hat s.heap (I.hok a _ hga).1;have hvl:i<vs.length:=by rw [<- rel.length];exact hgi
  refine wpAny_pyNext_dict_item st hd (k:=vs[i].1) (v:=vs[i].2) (by rw [qa3 hvl]) fun key h' hkey hit' hs'=>?_
  have I1:Inv X pins σ H { s with heap:=h' }:=I.turned (t':=s.toks) (fun b o hb e=>(hs'.2 b hb).trans e) f0 f1 f3 f4 f5;obtain ⟨oi,e,c,d⟩:=id hit';have hk:kvs[i].1=vs[i].1:=by
   have:=congrArg (·[i]?) rel.keys
   simpa [hgi,hvl] using this
  have rk:RelV (kV kvs[i].1) key:=by
   rw [hk];have hkey:keyIs vs[i].1 key=true:=hkey;generalize vs[i].1=kk at hkey
   rcases aaV hkey with ⟨j,t,rfl,rfl⟩ | ⟨x,t,rfl,rfl⟩
   ·exact ⟨t,rfl⟩
   ·exact ⟨t,rfl⟩
  exact ⟨key,rfl,go_of (s:={ s with heap:=h' }) e c d (by decide) ⟨kV kvs[i].1,H,I1,rk,⟨rfl,kvs[i].1,kvs[i].2,by rw [qa3 hgi],rfl⟩,hit',fun b hb=>(hf b hb).1⟩⟩
 done:=by
  intro X hP hw hK hc i pins s σ H E I hf st hg;subst hP hw hK;obtain ⟨f0,f1,f2,f3,f4,f5⟩:=hf it (by simp);obtain ⟨hga,hgi⟩:=hg;have hd:=hat s.heap (I.hok a _ hga).1;exact wpAny_pyNext_dict_end (I.ok.hd hc) st hd (by rw [List.getElem?_eq_none_iff,<- rel.length];exact hgi) fun h' eb=>⟨rfl,I.turned (t':=s.toks) (fun b o hb e=>eb b o hb e) f0 f1 f3 f4 f5⟩
 self:=fun _ _ _ _ _ st h=>wpAny_pyIter_keyiter st h
noncomputable def Ends.thaw (D:Ends) (a:Addr) (kvs:List (Key×V)):Ends where
 nx:=fun σ H=>(∃ o,H a=some (.frz o (.dK kvs)))/\D.nx σ (upd H a (.dK kvs))
 rt:=fun v H=>(∃ o,H a=some (.frz o (.dK kvs)))/\D.rt v (upd H a (.dK kvs))
noncomputable def tForD (tl:TE) (g:TG) (tb:TS):TS:=fun D σ H=>tl σ H fun x H1=>∃ a kvs,x=.ref a/\H1 a=some (.dK kvs)/\∀ o,ForIt (Itd a o kvs) g tb (D.thaw a kvs) σ (upd H1 a (.frz o (.dK kvs)))
theorem amu{l:Expr}{body:List Stmt}{pos:Pos}(hp:PassesOwn (model X.prog X.w) X.A X.env X.xe)(hc:X.calm=true)(hl:PE X l tl)(hg:PG X tg g)(hb:PSs X body tb)(hs:∀ x,foldedSetIterable l X.env x=pure x):PS X (.For tg l body [] pos) (tForD tl g tb):=by
 intro pins s σ H D I h;refine wpAny_For (thn (hl pins s σ H _ I h) fun v s1 ⟨x,H1,I1,r1,q1⟩=>?_) hs;obtain ⟨a,kvs,rfl,e,q⟩:=q1
 cases r1
 obtain ⟨z,hd,vs,rel,dd⟩:=dk_of I1.hok e;obtain ⟨ep,hat⟩:=dd.dictAt;obtain ⟨o,es,ho,hrest⟩:=id hat;refine wpAny_pyIter_dict hd hat ?_;have NF:∀ o' v',X.H₀ a≠some (.frz o' v'):=fun o' v' z=>by
  have:=I1.base.frzs _ _ _ z
  rw [e] at this;cases this
 have I1':Inv X pins σ H1 { s1 with heap:=s1.heap.push { cls:=.type "dict_keyiterator",data:=.fields #[.ref a,.int 0 0,.int vs.length 0,.int ep 0] } }:=I1.kept (t':=s1.toks) fun b u e=>Heap.get?_push_of_some _ e
 have I2:=I1'.swap (u':=.frz o (.dK kvs)) e (fun _ q=>by cases q) (fun _ q=>by cases q) (fun _ q=>by cases q) NF ⟨Heap.get?_push_of_some _ ho,I1'.hok a _ e⟩;have thaw:∀ {σ':St} {H':Hp} {s':Shared},Inv X pins σ' H' s'->(∃ o,H' a=some (.frz o (.dK kvs)))->Inv X pins σ' (upd H' a (.dK kvs)) s':=fun {σ' H' s'} I' ⟨o',e'⟩=>
  I'.swap e' (fun _ q=>by cases q) (fun _ q=>by cases q) (fun _ q=>by cases q) NF (I'.hok a _ e').2
 have T:Turn X.prog X.w X.K tg (Itd a o kvs) [s1.heap.objs.size] s1.heap.objs.size (fun i h=>h.IsKeyIter s1.heap.objs.size a i vs.length ep):=aiY a _ o kvs vs ep (fun h e=>⟨o,es,e,hrest⟩) rel;have hfr:upd H1 a (.frz o (.dK kvs)) s1.heap.objs.size=none:=by rw [aah (fun q=>by rw [<- q,I1.fresh] at e;cases e)];exact I1.fresh
 have f2:∀ b∈[s1.heap.objs.size],FpOk X pins (upd H1 a (.frz o (.dK kvs))) b:=fun b hb=>by
  have e:b=s1.heap.objs.size:=by simpa using hb
  subst e;exact I1.fpOk (qa2 _) hfr
 obtain ⟨W,⟨m0,w0⟩,turn⟩:=q o;have stat:∀ {H':Hp},(∀ b∈[s1.heap.objs.size],H' b=none)->∀ b∈[s1.heap.objs.size],FpOk X pins H' b:=fun hn b hb=>⟨hn b hb,(f2 b hb).2⟩
 refine codeAny_forLoop_any (fun n s'=>∃ i σ' H',Inv X pins σ' H' s'/\s'.heap.IsKeyIter s1.heap.objs.size a i vs.length ep/\(∀ b∈[s1.heap.objs.size],H' b=none)/\W i n σ' H') ?_ m0 ⟨0,σ,_,I2,⟨_,Heap.get?_push_size _ rfl,rfl,rfl⟩,fun b hb=>(f2 b hb).1,w0⟩;rintro n s3 ⟨i,σ3,H3,I3,st3,fr3,w3⟩
 rcases turn i n σ3 H3 w3 with ⟨stop,qn⟩ | ⟨go,N,hN,step⟩
 ·refine wpAny_passesOwn hp (thn (T.done X rfl rfl rfl hc i pins s3 σ3 H3 X.xe I3 (stat fr3) st3 stop) fun r s4 ⟨hr,I4⟩=>?_);subst hr;exact wpAny_execs_nil ⟨σ3,_,thaw I4 qn.1,qn.2⟩
 ·refine wpAny_passesOwn hp (thn (T.item X rfl rfl rfl hc i pins s3 σ3 H3 X.xe I3 (stat fr3) st3 go) fun r s4 ⟨u,hr,h4⟩=>?_);subst hr;refine wpAny_passesOwn hp (thn h4 fun _ s5 ⟨x,H5,I5,r5,y5,st5,fr5⟩=>?_);have I5':=I5.pinned (stat fr5) (T.obj _ _ st5);refine wpAny_passesOwn hp (thn (hg _ s5 σ3 H5 x u _ I5' r5 (step x H5 y5)) fun _ s6 ⟨σ6,H6,I6,q6⟩=>?_);refine wpAny_passesOwn hp (thn (hb _ s6 σ6 H6 _ I6 q6) fun f s7 q7=>?_);have again:∀ {σ7:St} {H7:Hp},Inv X (pins++aeD [s1.heap.objs.size] s5.heap) σ7 H7 s7->N σ7 H7->∃ m,m<n/\∃ i σ' H',Inv X pins σ' H' s7/\s7.heap.IsKeyIter s1.heap.objs.size a i vs.length ep/\(∀ b∈[s1.heap.objs.size],H' b=none)/\W i m σ' H':=fun {σ7 H7} I7 n7=>by
   obtain ⟨m',hm,w7⟩:=hN σ7 H7 n7;refine ⟨m',hm,i+1,σ7,H7,I7.unpinned,T.keep _ _ _ st5 fun b hb o e=>(I7.pin (b,o) (qam _ (qam _ (abX hb e)))).1,fun b hb=>?_,w7⟩;obtain ⟨o,e,d⟩:=T.obj _ _ st5 b hb;exact (I7.pin (b,o) (qam _ (qam _ (abX hb e)))).2.1
  cases f with
  | next=>obtain ⟨σ7,H7,I7,n7⟩:=q7;exact again I7 n7
  | cont=>obtain ⟨σ7,H7,I7,n7⟩:=q7;exact again I7 n7
  | brk=>obtain ⟨σ7,H7,I7,q7⟩:=q7;exact ⟨σ7,_,thaw I7.unpinned q7.1,q7.2⟩
  | ret v=>obtain ⟨x7,σ7,H7,I7,r7,q7⟩:=q7;exact ⟨x7,σ7,_,thaw I7.unpinned q7.1,r7,q7.2⟩
theorem agx{l:Expr}{body:List Stmt}{pos:Pos}(hp:PassesOwn (model X.prog X.w) X.A X.env X.xe)(hl:QE X l tl)(hg:QG X tg g)(hb:QSs X body tb)(hc:X.calm=true:=by rfl)(hs:∀ x,foldedSetIterable l X.env x=pure x:=by intro _;rfl):QS X (.For tg l body [] pos) (tForD tl g tb):=⟨amu hp hc hl.out hg.out hb.out hs⟩
theorem amv : tForD tl g tb D σ H=tl σ H fun x H1=>∃ a kvs,x=.ref a/\H1 a=some (.dK kvs)/\∀ o,ForIt (Itd a o kvs) g tb (D.thaw a kvs) σ (upd H1 a (.frz o (.dK kvs))):=rfl
theorem forD(Pv:Nat->St->Hp->Prop)(h0:Pv 0 σ H)(hl:∀ i σ H,Pv i σ H->H a=some (.frz o (.dK kvs)))(hs:∀ i k v σ H,kvs[i]?=some (k,v)->Pv i σ H->g (kV k) σ H fun σ2 H2=>tb { D.thaw a kvs with nx:=Pv (i+1),ct:=Pv (i+1),bk:=(D.thaw a kvs).nx } σ2 H2)(hd:∀ σ H,Pv kvs.length σ H->D.nx σ (upd H a (.dK kvs))):ForIt (Itd a o kvs) g tb (D.thaw a kvs) σ H:=by
 refine ⟨fun i m σ H=>m=kvs.length-i/\i<=kvs.length/\Pv i σ H,⟨kvs.length,by simp,qar _,h0⟩,?_⟩;rintro i m σ H ⟨rfl,hi,p⟩;have e:=hl i σ H p
 by_cases hlt:i<kvs.length
 ·refine .inr ⟨⟨e,hlt⟩,Pv (i+1),fun σ' H' p'=>⟨_,by omega,rfl,hlt,p'⟩,fun v H' y=>?_⟩;obtain ⟨rfl,k,v',hk,rfl⟩:=y;exact hs i k v' σ _ hk p
 ·have e2:i=kvs.length:=by omega
  subst e2;exact .inl ⟨⟨e,qa2 _⟩,⟨o,e⟩,hd σ H p⟩
end L2
set_option maxRecDepth 100000
namespace L2
open PySem PySem.Spec PyProof.Rows
noncomputable def abz (row:List Str):List (Str×Str):=row.zip row.tail
noncomputable def edges (rows:List (List Str)):List (Str×Str):=rows.flatMap abz
noncomputable def fol (E:List (Str×Str)) (p:Str):List Str:=(E.filter fun e=>decide (e.1=p)).map (·.2)
noncomputable def cnt (E:List (Str×Str)) (line:List Str) (q:Str):Nat:=E.countP fun e=>decide (e.2=q) && !decide (e.1∈line)
noncomputable def cntIn (E:List (Str×Str)) (S:List Str) (q:Str):Nat:=E.countP fun e=>decide (e.2=q)&&decide (e.1∈S)
theorem akC(E:List (Str×Str))(a b p:Str):fol (E++[(a,b)]) p=if a=p then fol E p++[b] else fol E p:=by
 unfold fol;rw [qbf,qa4]
 by_cases h:a=p
 ·rw [if_pos h,qbp (by simpa using h)];rfl
 ·rw [if_neg h,qbq (by simpa using h)];simp
theorem afY(E:List (Str×Str))(p q:Str):(fol E p).count q=E.countP fun e=>decide (e.2=q)&&decide (e.1=p):=by
 induction E with
 | nil=>rfl
 | cons e E ih=>
  unfold fol at ih ⊢
  by_cases h:e.1=p
  ·rw [qbp (by simpa using h),qak,List.count_cons,ih,qbe]
   by_cases h2:e.2=q
   ·simp [h,h2]
   ·simp [h,h2]
  ·rw [qbq (by simpa using h),ih,qbe];simp [h]
theorem ahO{E:List (Str×Str)}(h:p∉S):cntIn E (S++[p]) q=cntIn E S q+(fol E p).count q:=by
 rw [afY];unfold cntIn
 induction E with
 | nil=>rfl
 | cons e E ih=>
  rw [qbe,qbe,qbe,ih]
  by_cases h2:e.2=q
  ·by_cases h1:e.1=p
   ·have:e.1∉S:=by rw [h1];exact h
    simp [h2,h1,h];omega
   ·by_cases h3:e.1∈S
    ·simp [h2,h1,h3];omega
    ·simp [h2,h1,h3]
  ·simp [h2]
theorem ahc{E:List (Str×Str)}(h:p∉line):cnt E line q=cnt E (line++[p]) q+(fol E p).count q:=by
 rw [afY];unfold cnt
 induction E with
 | nil=>rfl
 | cons e E ih=>
  rw [qbe,qbe,qbe,ih]
  by_cases h2:e.2=q
  ·by_cases h1:e.1=p
   ·simp [h2,h1,h];omega
   ·by_cases h3:e.1∈line
    ·simp [h2,h1,h3]
    ·simp [h2,h1,h3];omega
  ·simp [h2]
theorem aiZ{E:List (Str×Str)}(h:∀ e∈E,e.1∈S)(q:Str):cntIn E S q=cnt E [] q:=by
 unfold cntIn cnt;refine List.countP_congr fun e he=>?_
 simp [h e he]
theorem ai0(E:List (Str×Str))(q:Str):cntIn E [] q=0:=by
 unfold cntIn
 simp
theorem cnt_zero{E:List (Str×Str)} : cnt E line q=0↔∀ e∈E,e.2=q->e.1∈line:=by
 unfold cnt;rw [List.countP_eq_zero]
 constructor
 ·intro h e he h2
  have:=h e he
  simpa [h2] using this
 ·intro h e he
  by_cases h2:e.2=q
  ·simp [h2,h e he h2]
  ·simp [h2]
noncomputable def nextP (E:List (Str×Str)) (ts pre:List Str):Option Str:=(ts.filter fun p=>!decide (p∈pre)).find? fun p=>decide (cnt E pre p=0)
noncomputable def Run (E:List (Str×Str)) (ts line:List Str):Prop:=∀ pre q post,line=pre++q::post->nextP E ts pre=some q
theorem Run.nil(E:List (Str×Str))(ts:List Str):Run E ts []:=fun pre q post h=>by
 have:=congrArg qb5 h
 simp at this
theorem Run.snoc{E:List (Str×Str)}(r:Run E ts line)(h:nextP E ts line=some p):Run E ts (line++[p]):=fun pre q post e=>by
 rcases List.append_eq_append_iff.mp e with ⟨m,h1,h2⟩ | ⟨m,h1,h2⟩
 ·cases m with
  | nil=>
   rw [qah] at h1;rw [List.nil_append] at h2
   cases (qbF.inj h2).1
   rw [h1];exact h
  | cons a m=>
   have:=congrArg qb5 h2
   simp at this
 ·cases m with
  | nil=>
   rw [qah] at h1;rw [List.nil_append] at h2
   cases (qbF.inj h2).1
   rw [<- h1];exact h
  | cons a m=>
   rw [List.cons_append] at h2;have h3:=(qbF.inj h2).1;exact r pre q m (by rw [h1,h3])
theorem acu{E:List (Str×Str)}{pre:List Str}(h:nextP E ts pre=some q):q∈ts/\q∉pre/\cnt E pre q=0:=by
 have h1:=List.mem_of_find?_eq_some h;have h2:=List.find?_some h;rw [qat] at h1;exact ⟨h1.1,by simpa using h1.2,by simpa using h2⟩
theorem Run.nodup{E:List (Str×Str)} : ∀ {line:List Str},Run E ts line->line.Nodup:=by
 intro line r;rw [qaI,qaV];intro i j hi hj hij e;have e1:line=line.take j++line[j]::line.drop (j+1):=by rw [<- List.drop_eq_getElem_cons hj,qaA]
 have:=(acu (r _ _ _ e1)).2.1
 exact this (qay.mpr ⟨i,by rw [qaf];omega,by rw [List.getElem_take];exact e⟩)
theorem Run.sub{E:List (Str×Str)}(r:Run E ts line)(h:q∈line):q∈ts:=by
 obtain ⟨pre,post,e⟩:=List.append_of_mem h;exact (acu (r pre q post e)).1
theorem ahd{E:List (Str×Str)}{rank:Str->Nat}(hr:∀ e∈E,rank e.1<rank e.2)(hE:∀ e∈E,e.1∈ts)(hw:∃ p∈ts,p∉line):∃ q,nextP E ts line=some q:=by
 have key:∀ n p,rank p<=n->p∈ts->p∉line->∃ q∈ts,q∉line/\cnt E line q=0:=by
  intro n
  induction n with
  | zero=>
   intro p hp ht hl;refine ⟨p,ht,hl,cnt_zero.mpr fun e he h2=>?_⟩
   have:=hr e he
   rw [h2] at this;omega
  | succ n ih=>
   intro p hp ht hl
   by_cases hc:cnt E line p=0
   ·exact ⟨p,ht,hl,hc⟩
   ·have:∃ e∈E,e.2=p/\e.1∉line:=by
     refine Classical.byContradiction fun hn=>hc (cnt_zero.mpr fun e he h2=>Classical.byContradiction fun h3=>hn ⟨e,he,h2,h3⟩)
    obtain ⟨e,he,h2,h3⟩:=this;have h4:=hr e he;rw [h2] at h4;exact ih e.1 (by omega) (hE e he) h3
 obtain ⟨p,hp,hl⟩:=hw;obtain ⟨q,h1,h2,h3⟩:=key (rank p) p (qa2 _) hp hl;cases h:nextP E ts line with
 | some q=>exact ⟨q,rfl⟩
 | none=>
  have:=List.find?_eq_none.mp h q (qat.mpr ⟨h1,by simpa using h2⟩)
  simp [h3] at this
theorem adQ{E:List (Str×Str)}(nd:ts.Nodup)(r:Run E ts line)(h:∀ p∈ts,p∈line):line.length=ts.length:=
 ((List.perm_ext_iff_of_nodup r.nodup nd).mpr fun a=>⟨r.sub,h a⟩).length_eq
theorem aeO(E:List (Str×Str))(pre:List Str):∀ ts:List Str,nextP E ts pre=ts.find? fun p=>!decide (p∈pre)&&decide (∀ e∈E,e.2=p->e.1∈pre)
 | []=>rfl
 | t::ts=>by
  have ih:=aeO E pre ts;unfold nextP at ih ⊢
  by_cases h:t∈pre
  ·rw [qbq (by simpa using h),qb3,ih];simp [h]
  ·rw [qbp (by simpa using h),qb3,qb3,ih]
   by_cases h2:cnt E pre t=0
   ·have:=cnt_zero.mp h2
    rw [decide_eq_true h2,decide_eq_true this];simp [h]
   ·have:¬ ∀ e∈E,e.2=t->e.1∈pre:=fun z=>h2 (cnt_zero.mpr z)
    rw [decide_eq_false h2,decide_eq_false this];simp [h]
theorem ahP{row:List Str}{e:Str×Str}(h:e∈abz row):e.1∈row/\e.2∈row:=by
 unfold abz at h;exact ⟨(List.of_mem_zip h).1,List.mem_of_mem_tail (List.of_mem_zip h).2⟩
theorem afZ{rows:List (List Str)}{e:Str×Str}(h:e∈edges rows):e.1∈rows.flatten/\e.2∈rows.flatten:=by
 unfold edges at h;obtain ⟨row,h1,h2⟩:=qaP.mp h
 have:=ahP h2
 exact ⟨List.mem_flatten.mpr ⟨row,h1,this.1⟩,List.mem_flatten.mpr ⟨row,h1,this.2⟩⟩
noncomputable def kvN (ts:List Str) (f:Str->V):List (Key×V):=ts.map fun t=>(Sum.inr t,f t)
theorem agy(f:Str->V)(z:Str):∀ ts:List Str,((kvN ts f).any fun kv=>decide (kv.1=(Sum.inr z:Key)))=decide (z∈ts)
 | []=>by simp [kvN]
 | y::ts=>by
  have ih:=agy f z ts;unfold kvN at ih ⊢
  rw [qak,qbr,ih]
  by_cases e:y=z
  ·subst e
   simp
  ·have e1:decide ((Sum.inr y:Key)=Sum.inr z)=false:=decide_eq_false fun q=>e (Sum.inr.inj q)
   rw [e1,Bool.false_or]
   by_cases h:z∈ts
   ·rw [decide_eq_true h,decide_eq_true (qa9 _ h)]
   ·rw [decide_eq_false h,decide_eq_false];intro q
    rcases qaa.mp q with q | q
    ·exact e q.symm
    ·exact h q
theorem aaQ(f:Str->V)(z:Str):∀ ts:List Str,valV (kvN ts f) (Sum.inr z)=if z∈ts then some (f z) else none
 | []=>rfl
 | y::ts=>by
  have ih:=aaQ f z ts;unfold kvN at ih ⊢
  rw [qak]
  by_cases e:y=z
  ·subst e;rw [adL rfl,if_pos qac]
  ·rw [abS (fun q=>e (Sum.inr.inj q)),ih]
   by_cases h:z∈ts
   ·rw [if_pos h,if_pos (qa9 _ h)]
   ·rw [if_neg h,if_neg];intro q
    rcases qaa.mp q with q | q
    ·exact e q.symm
    ·exact h q
theorem aeb{f:Str->V}(v:V)(h:z∈ts):putK (kvN ts f) (Sum.inr z:Key) v=kvN ts fun t=>if t=z then v else f t:=by
 unfold putK;rw [agy,decide_eq_true h,if_pos rfl];unfold kvN;rw [qb7];refine qbo fun y _=>?_
 show (if (Sum.inr y:Key)=Sum.inr z then ((Sum.inr y:Key),v) else (Sum.inr y,f y))=((Sum.inr y:Key),if y=z then v else f y)
 by_cases e:y=z
 ·rw [if_pos (by rw [e]),if_pos e]
 ·rw [if_neg (fun q=>e (Sum.inr.inj q)),if_neg e]
theorem acJ{f:Str->V}(v:V)(h:z∉ts):putK (kvN ts f) (Sum.inr z:Key) v=kvN (ts++[z]) fun t=>if t=z then v else f t:=by
 unfold putK;rw [agy,decide_eq_false h,if_neg qae];unfold kvN;rw [qa4]
 congr 1
 ·refine qbo fun y hy=>?_
  show _=((Sum.inr y:Key),if y=z then v else f y);rw [if_neg (fun e:y=z=>h (by rw [<- e];exact hy))]
 ·simp
theorem aaF{f g:Str->V}(h:∀ t∈ts,f t=g t):kvN ts f=kvN ts g:=by
 unfold kvN;exact qbo fun t ht=>by rw [h t ht]
theorem abO(f:Str->V)(ts:List Str):(kvN ts f).length=ts.length:=by unfold kvN;rw [qa0]
theorem ak9{f:Str->V}{k:Key}{v:V}(h:(kvN ts f)[i]?=some (k,v)):∃ t,ts[i]?=some t/\k=Sum.inr t/\v=f t:=by
 unfold kvN at h;obtain ⟨t,h1,h2⟩:=aaE h;cases h2;exact ⟨t,h1,rfl,rfl⟩
theorem akD(f:Str->V)(ts:List Str):((kvN ts f).map fun kv=>kV kv.1)=ts.map V.str:=by
 unfold kvN;rw [qb7];rfl
structure DL(H0 H:Hp)(ts:List Str)(ad:Str->Addr)(F:Str->List Str):Prop where
 row:∀ t∈ts,H (ad t)=some (.lst ((F t).map V.str))
 inj:∀ t∈ts,∀ u∈ts,ad t=ad u->t=u
 new:∀ t∈ts,H0 (ad t)=none
theorem DL.same{ad:Str->Addr}{F:Str->List Str}(x:DL H0 H ts ad F)(s:Same H H'):DL H0 H' ts ad F:=⟨fun t h=>s _ _ (x.row t h),x.inj,x.new⟩
theorem DL.app{ad:Str->Addr}{F:Str->List Str}(x:DL H0 H ts ad F)(hz:z∈ts)(ys:List Str):DL H0 (upd H (ad z) (.lst (ys.map V.str))) ts ad fun t=>if t=z then ys else F t:=by
 refine ⟨fun t ht=>?_,x.inj,x.new⟩;show _=some (HO.lst ((if t=z then ys else F t).map V.str))
 by_cases e:t=z
 ·subst e;rw [aaa,if_pos rfl]
 ·rw [aah (fun q=>e (x.inj t ht z hz q)),if_neg e];exact x.row t ht
theorem DL.more{ad:Str->Addr}{F:Str->List Str}(x:DL H0 H ts ad F)(hz:z∉ts){p:Addr}(np:H p=none)(n0:H0 p=none):DL H0 (upd H p (.lst [])) (ts++[z]) (fun t=>if t=z then p else ad t) fun t=>if t=z then [] else F t:=by
 have ne:∀ t∈ts,t≠z:=fun t ht e=>hz (by rw [<- e];exact ht)
 have nad:∀ t∈ts,ad t≠p:=fun t ht e=>by have:=x.row t ht;rw [e,np] at this;cases this
 have cases':∀ t,t∈ts++[z]->(t∈ts/\t≠z)\/t=z:=fun t ht=>by
  rcases qa6.mp ht with h | h
  ·exact .inl ⟨h,ne t h⟩
  ·exact .inr (qa7.mp h)
 refine ⟨fun t ht=>?_,fun t ht u hu e=>?_,fun t ht=>?_⟩
 ·show upd H p (.lst []) (if t=z then p else ad t)=some (.lst ((if t=z then [] else F t).map V.str))
  rcases cases' t ht with ⟨h1,h2⟩ | rfl
  ·rw [if_neg h2,if_neg h2,aah (nad t h1)];exact x.row t h1
  ·rw [if_pos rfl,if_pos rfl,aaa];rfl
 ·have e:(if t=z then p else ad t)=(if u=z then p else ad u):=e
  rcases cases' t ht with ⟨h1,h2⟩ | rfl <;> rcases cases' u hu with ⟨h3,h4⟩ | rfl
  ·rw [if_neg h2,if_neg h4] at e;exact x.inj t h1 u h3 e
  ·rw [if_neg h2,if_pos rfl] at e;exact absurd e (nad t h1)
  ·rw [if_pos rfl,if_neg h4] at e;exact absurd e.symm (nad u h3)
  ·rfl
 ·show H0 (if t=z then p else ad t)=none
  rcases cases' t ht with ⟨h1,h2⟩ | rfl
  ·rw [if_neg h2];exact x.new t h1
  ·rw [if_pos rfl];exact n0
theorem akE(h:acc.Nodup)(z:Str):(dd acc z).Nodup:=by
 unfold dd
 split
 ·exact h
 ·rename_i hz
  rw [qaX];refine ⟨h,by simp,fun a ha b hb e=>hz ?_⟩;rw [<- qa7.mp hb,<- e];exact ha
theorem aec:∀ {zs acc:List Str},acc.Nodup->(dds acc zs).Nodup
 | [],_,h=>h
 | z::zs,acc,h=>aec (zs:=zs) (akE h z)
theorem abY(zss:List (List Str)):(toldL zss).Nodup:=by
 unfold toldL;rw [acU];exact aec (by simp)
theorem abP(x:Str):∀ (zs acc:List Str),x∈dds acc zs↔x∈acc\/x∈zs
 | [],acc=>by simp [dds]
 | z::zs,acc=>by
  show x∈dds (dd acc z) zs↔_;rw [abP x zs];unfold dd
  by_cases h:z∈acc
  ·rw [if_pos h,qaa]
   constructor
   ·rintro (h1 | h1)
    ·exact .inl h1
    ·exact .inr (.inr h1)
   ·rintro (h1 | rfl | h1)
    ·exact .inl h1
    ·exact .inl h
    ·exact .inr h1
  ·rw [if_neg h,qa6,qa7,qaa,or_assoc]
theorem afd(x:Str)(zss:List (List Str)):x∈toldL zss↔x∈zss.flatten:=by
 unfold toldL;rw [acU,abP]
 simp
theorem adn{zss:List (List Str)}{e:Str×Str}(h:e∈edges zss):e.1∈toldL zss/\e.2∈toldL zss:=⟨(afd _ _).mpr (afZ h).1,(afd _ _).mpr (afZ h).2⟩
theorem ahQ{zss:List (List Str)}(h:zss[i]?=some zs):edges (zss.take (i+1))=edges (zss.take i)++abz zs:=by
 rw [qaQ,h];unfold edges;rw [qaK]
 simp
theorem ado(zs:List Str):(abz zs).length=min zs.length zs.tail.length:=by unfold abz;rw [List.length_zip]
theorem af0{x y:Str}(h1:zs[j]?=some x)(h2:zs.tail[j]?=some y):(abz zs)[j]?=some (x,y):=by
 unfold abz;rw [List.getElem?_zip_eq_some];exact ⟨h1,h2⟩
theorem af1(zss:List (List Str)):(edges zss).length<=zss.flatten.length:=by
 induction zss with
 | nil=>exact qa2 _
 | cons zs zss ih=>
  unfold edges at ih ⊢
  rw [qb8,qa1,qbl,qa1,ado];omega
theorem DL.put{ad:Str->Addr}{F:Str->List Str}(x:DL H0 H ts ad F){o u:HO}(hb:H0 b=some u):DL H0 (upd H b o) ts ad F:=
 ⟨fun t ht=>by rw [aah (fun e=>by have:=x.new t ht;rw [e,hb] at this;cases this)];exact x.row t ht,x.inj,x.new⟩
theorem DL.congr{ad:Str->Addr}{F G:Str->List Str}(x:DL H0 H ts ad F)(h:∀ t∈ts,F t=G t):DL H0 H ts ad G:=⟨fun t ht=>by rw [<- h t ht];exact x.row t ht,x.inj,x.new⟩
theorem DL.old{H00:Hp}{ad:Str->Addr}{F:Str->List Str}(x:DL H0 H ts ad F)(s:Same H00 H0):DL H00 H ts ad F:=⟨x.row,x.inj,fun t ht=>s.free (x.new t ht)⟩
theorem afe(nd:ts.Nodup)(h:ts[i]?=some z):z∉ts.take i:=fun hm=>by
 obtain ⟨hi,e⟩:=qa5.mp h;obtain ⟨j,hj,e2⟩:=qay.mp hm;rw [qaf] at hj;rw [List.getElem_take] at e2
 have:=(qaI.mp nd)
 rw [qaV] at this;exact this j i (by omega) hi (by omega) (e2.trans e.symm)
theorem aap{α:Type}{ts:List α}{z:α}(h:ts[i]?=some z):ts.take (i+1)=ts.take i++[z]:=by rw [qaQ,h];rfl
noncomputable def SameBut (d:Addr) (H H':Hp):Prop:=∀ b o,b≠d->H b=some o->H' b=some o
theorem SameBut.put{d q:Addr}{u:HO}(s:SameBut d H0 H)(n:H0 q=none):SameBut d H0 (upd H q u):=fun b o hb h=>by rw [aah (abo h n)];exact s b o hb h
theorem SameBut.thaw{d:Addr}{u:HO}(s:SameBut d H0 H)(h:H0 d=some u):Same H0 (upd H d u):=fun b o hb=>by
 by_cases e:b=d
 ·subst e;rw [aaa,<- hb,h]
 ·rw [aah e];exact s b o e hb
theorem RowsAt.grow{q:Addr}{zss:List (List Str)}(R:RowsAt H0 H a rs zss)(S:Same H H')(hq:H q=none)(hq':H' q=some (.lst (zs.map V.str))):RowsAt H0 (upd H' a (.lst (rs.map V.ref++[V.ref q]))) a (rs++[q]) (zss++[zs]):=by
 have nq:∀ r∈a::rs,r≠q:=fun r hr z=>by
  obtain ⟨o,e⟩:=R.live hr;rw [z,hq] at e;cases e
 obtain ⟨na,_⟩:=qax.mp R.nd;refine ⟨⟨by rw [aaa,qa4];rfl,?_⟩,?_,?_,?_⟩
 ·refine Paired.snoc (uan R.rows.row fun r hr zs h=>?_) ?_
  ·rw [aah (fun z:r=a=>na (by rw [<- z];exact hr))];exact S _ _ h
  ·rw [aah (nq a qac).symm];exact hq'
 ·show (a::(rs++[q])).Nodup;exact ad5 R.nd fun h=>nq q h rfl
 ·intro r hr
  rcases qaa.mp hr with h | h
  ·exact R.new r (by rw [h];exact qac)
  ·rcases qa6.mp h with h | h
   ·exact R.new r (qa9 _ h)
   ·rw [qa7.mp h];exact R.same.free hq
 ·exact (R.same.trans S).put (R.new a qac)
noncomputable def spFol:Sp:=fun vs H Q _=>∃ (a:Addr) (rs:List Addr) (zss:List (List Str)),vs=[.ref a]/\IsRows H a rs zss/\zss.flatten.length<=100000/\
 ∀ (d:Addr) (ad:Str->Addr) (H':Hp),H d=none->Same H H'->H' d=some (.dK (kvN (toldL zss) fun t=>.ref (ad t)))->DL H H' (toldL zss) ad (fol (edges zss))->Q (.ref d) H'
noncomputable def ai1:Sp:=fun vs H Q _=>∃ (d:Addr) (ts:List Str) (ad:Str->Addr) (E:List (Str×Str)),vs=[.ref d]/\H d=some (.dK (kvN ts fun t=>.ref (ad t)))/\ts.Nodup/\ts.length<=100000/\E.length<=100000/\
 (∀ t∈ts,H (ad t)=some (.lst ((fol E t).map V.str)))/\(∀ e∈E,e.1∈ts/\e.2∈ts)/\∀ c H',H c=none->Same H H'->H' c=some (.dK (kvN ts fun t=>.int (cnt E [] t:Nat)))->Q (.ref c) H'
theorem af2:∀ {l m:List Str},l.Nodup->(∀ x∈l,x∈m)->l.length<=m.length
 | [],_,_,_=>qar _
 | x::l,m,nd,h=>by
  obtain ⟨n1,n2⟩:=qax.mp nd;have hx:=h x qac
  have:=af2 (l:=l) (m:=m.erase x) n2 fun y hy=>(List.mem_erase_of_ne (fun e=>n1 (by rw [<- e];exact hy))).mpr (h y (qa9 _ hy))
  rw [List.length_erase_of_mem hx] at this;have hpos:=List.length_pos_of_mem hx;rw [qad];omega
noncomputable def ai2:Sp:=fun vs H Q _=>∃ (a:Addr) (rs:List Addr) (zss:List (List Str)) (rank:Str->Nat),vs=[.ref a]/\IsRows H a rs zss/\zss.flatten.length<=100000/\(∀ e∈edges zss,rank e.1<rank e.2)/\
 ∀ (l:Addr) (line:List Str) (H':Hp),H l=none->Same H H'->H' l=some (.lst (line.map V.str))->Run (edges zss) (toldL zss) line->(∀ p∈toldL zss,p∈line)->Q (.ref l) H'
theorem SameBut.free{d p:Addr}(s:SameBut d H0 H)(n:H p=none)(h:p≠d):H0 p=none:=by
 cases e:H0 p with
 | none=>rfl
 | some o=>
  have:=s p o h e
  rw [n] at this;cases this
theorem SameBut.same{d:Addr}(s:SameBut d H1 H2)(S:Same H H1)(n:H d=none):Same H H2:=fun b o h=>s b o (abo h n) (S b o h)
theorem uak(d:Addr)(H:Hp):SameBut d H H:=fun _ _ _ h=>h
theorem SameBut.at{d:Addr}{o:HO}(s:SameBut d H H'):SameBut d H (upd H' d o):=fun b u hb h=>by rw [aah hb];exact s b u hb h
noncomputable def one (c:Nat):Str:=⟨#[c]⟩
noncomputable def two (c d:Nat):Str:=⟨#[c,d]⟩
end L2
set_option maxRecDepth 100000
namespace L2
open PySem PySem.Spec PyProof.Rows
section
variable {X:Cx}
noncomputable def rAnyB (calm:Bool):List V->Hp->VK->Prop
 | [.ref p],H,Q=>∃ bs:List Bool,calm=true/\H p=some (.lst (bs.map V.bl))/\Q (.bl (bs.any id)) H
 | _,_,_=>False
theorem p_any:CallR X (.builtin "any") (rAnyB X.calm):=by
 intro pins s σ H xs us Q I r h
 match xs,h with
 | [.ref p],⟨bs,hc,hp,q⟩=>
  obtain ⟨u,rfl,rx⟩:=vals1 r
  cases rx
  obtain ⟨z,its,n,rv,hl,e⟩:=I.lstM hp;have pl:s.heap.IsList p its.toArray:=⟨_,e,rfl,n,rfl⟩
  refine call_any_walk (wpAny_pyIter_list pl ?_);have hne:p≠s.heap.objs.size:=qaw (Heap.lt_size e);have hk:∀ b o,s.heap.get? b=some o->(s.heap.push { cls:=.type "list_iterator",data:=.fields #[.ref p,.int 0 0] }).get? b=some o:=fun b o q=>Heap.get?_push_of_some _ q
  refine ⟨_,_,_,_,_,_,fun i=>(bs[i]?).getD false,rfl,Walks.list (show X.A.in1.handled=none from I.ok.hd hc) s.heap.objs.size p hne its.toArray,⟨⟨_,Heap.get?_push_size _ rfl,rfl,rfl⟩,pl.at fun o q=>hk p o q⟩,?_,?_⟩
  ·intro i v s' Q' E' hv hq;have hv':its[i]?=some v:=by simpa using hv
   have hb:∃ b,bs[i]?=some b/\v=.bool b:=by
    cases eb:(bs.map V.bl)[i]? with
    | none=>
     have:=rv.none_of eb
     rw [hv'] at this
     cases this
    | some y=>
     obtain ⟨u,h1,h2⟩:=rv.get eb;rw [hv'] at h1;cases h1;rw [qaC] at eb;cases e3:bs[i]? with
     | none=>rw [e3] at eb;cases eb
     | some b=>
      rw [e3] at eb;cases eb;exact ⟨b,rfl,h2⟩
   obtain ⟨b,e1,rfl⟩:=hb;have hq:Q' ((bs[i]?).getD false) s':=hq;rw [e1] at hq;exact wpAny_truthy_bool hq
  ·intro h' tk hkeep;have e1:(qbI its.toArray.size).any (fun i=>(bs[i]?).getD false)=bs.any id:=by
    have hlen:its.toArray.size=bs.length:=by
     rw [qai,<- hl,qa0]
    rw [hlen,qbc,qbO,qbO]
    constructor
    ·rintro ⟨i,hi,hb⟩;rw [qbL] at hi;rw [qa3 hi,Option.getD_some] at hb;exact ⟨bs[i],qbN hi,hb⟩
    ·rintro ⟨b,hb,ht⟩;obtain ⟨i,hi,rfl⟩:=qay.mp hb;exact ⟨i,qbL.mpr hi,by rw [qa3 hi];exact ht⟩
   rw [e1];have I1:Inv X pins σ H { s with heap:=h',toks:=tk }:=I.kept fun b o q=>hkeep b o (by
    intro hm
    have:b=s.heap.objs.size:=by simpa using hm
    rw [this] at q;exact absurd (Heap.lt_size q) (qbg _)) (hk b o q)
   exact ⟨.bl _,H,I1,rfl,q⟩
theorem q_any(hcm:X.calm=calm:=by rfl):QCall X (.builtin "any") (rAnyB calm):=by subst hcm;exact ⟨p_any⟩
theorem any_r{cm:Bool}{p:Addr} : rAnyB cm [.ref p] H Q=∃ bs:List Bool,cm=true/\H p=some (.lst (bs.map V.bl))/\Q (.bl (bs.any id)) H:=rfl
end
noncomputable def Ite (l : Addr) : It :=
  ⟨fun i H => ∃ xs x, H l = some (.lst xs) /\ xs[i]? = some x,
   fun i H v H' => ∃ t xs x, H l = some (.lst xs) /\ xs[i]? = some x /\ H t = none /\ v = .ref t /\ H' = upd H t (.tup [.int i, x]),
   fun i H => ∃ xs, H l = some (.lst xs) /\ xs.length <= i⟩
theorem ai3{P:Program}{w:World}{pos:Pos}(e it l:Addr)(hne:e≠it) :
  Turn P w K (.Tuple elts x1 pos) (Ite l) [e,it] e (fun i h=>(∃ old,IsEnum h e it ((i:Nat):Int) old)/\h.IsListIter it l i) where
 mem:=by simp
 obj:=fun i h ⟨⟨old,he⟩,hi⟩ c hc=>by
  have q:c=e\/c=it:=by simpa using hc
  rcases q with rfl | rfl
  ·exact ⟨_,he,fun v q=>by cases q⟩
  ·obtain ⟨o,e,c,d⟩:=hi;exact ⟨o,e,fun v z=>by rw [d] at z;cases z⟩
 keep:=fun i h h' ⟨⟨old,he⟩,hi⟩ k=>⟨⟨old,k e (by simp) _ he⟩,hi.at fun o q=>k it (by simp) o q⟩
 item:=by
  intro X hP hw hK hc i pins s σ H E I hf ⟨⟨old,he⟩,hi⟩ hg;subst hP hw hK;obtain ⟨xs,x,e1,hx⟩:=hg;obtain ⟨its1,rv1,p1,_⟩:=I.list (SqL.of (K:=X.K) e1);obtain ⟨u1,hu1,r1⟩:=rv1.get hx;refine wpAny_pyNext_enum_item he hi p1.isList (x:=u1) (by simpa using hu1) hne fun h' b1 b2 b3 b4 b5=>⟨_,rfl,wpAny_letOwnedTupleGo_enum b1 fun h2' c1 c2=>?_⟩
  have hel:e<s.heap.objs.size:=Heap.lt_size he;have up:∀ c o,c≠e->h'.get? c=some o->h2'.get? c=some o:=fun c o hc q=>(c2.2 c hc).trans q
  have hT:=up _ _ (Nat.ne_of_gt hel) b3;have nT:∀ c∈[e,it],c≠s.heap.objs.size:=fun c hc=>by
   have q:c=e\/c=it:=by simpa using hc
   refine qaw ?_
   rcases q with rfl | rfl
   ·exact hel
   ·obtain ⟨o,q,_⟩:=hi;exact Heap.lt_size q
  refine ⟨.ref s.heap.objs.size,upd H s.heap.objs.size (.tup [.int i,x]),I.turnNew (t':=s.toks+1) (ch:=[e,it]) hf (fun c u hc q=>?_) (qa2 _) ⟨by show 2<=sizeLine;decide,[.int i s.toks,u1],.cons ⟨_,rfl⟩ (.cons r1 .nil),?_⟩,rfl,⟨_,xs,x,e1,hx,I.fresh,rfl,rfl⟩,
   ⟨⟨_,c1⟩,b2.at fun o q=>up _ o hne.symm q⟩,fun c hc=>by rw [aah (nT c hc)];exact (hf c hc).1⟩
  ·have q1:c≠e/\c≠it:=⟨fun q=>hc (by simp [q]),fun q=>hc (by simp [q])⟩
   exact up c u q1.1 (b5 c u q1.1 q1.2 q)
  ·exact ⟨_,hT,rfl,_,rfl⟩
 done:=by
  intro X hP hw hK hc i pins s σ H E I hf ⟨⟨old,he⟩,hi⟩ hg;subst hP hw hK;obtain ⟨xs,e1,hend⟩:=hg;obtain ⟨its1,rv1,p1,_⟩:=I.list (SqL.of (K:=X.K) e1);have q1:=rv1.length;obtain ⟨f0,f1,f2,f3,f4,f5⟩:=hf it (by simp);exact wpAny_pyNext_enum_end (I.ok.hd hc) he hi p1.isList (by simp;omega) fun h' eb=>⟨rfl,I.turned (t':=s.toks) (fun b o hb q=>eb b o hb q) f0 f1 f3 f4 f5⟩
 self:=fun _ _ _ _ _ st h=>by
  obtain ⟨⟨old,he⟩,_⟩:=st;exact wpAny_pyIter_enum he h
section
variable {X:Cx}
noncomputable def iEnum (ta:TA):TI:=fun σ H R=>ta σ H fun vs H1=>∃ (l:Addr) (xs:List V),vs=[.ref l]/\H1 l=some (.lst xs)/\R (Ite l) H1
theorem amw{a:Expr}{p pos:Pos}(hg:Gl X "enumerate")(hm:X.mg "enumerate"=none)(ha:PA X [a] ta)(h1:aaN a=false:=by rfl) :
  PI X (.Tuple elts x1 tpos) (.Call (.Name "enumerate" p) [a] [] pos) (iEnum ta):=by
 intro pins s σ H R I h;refine Call_ (adA I hg hm boot_enumerate (PyProof.Rows.callWith_type1 (thn (ha pos pins s σ H _ I h) fun us s1 ⟨vs,H1,I1,r1,q1⟩=>?_) (aay h1) rfl));obtain ⟨l,xs,rfl,e1,q⟩:=q1;obtain ⟨u1,rfl,ru1⟩:=vals1 r1
 cases ru1
 obtain ⟨its1,rv1,p1,_⟩:=I1.list (SqL.of (K:=X.K) e1);refine call_enumerate_list p1.isList fun h' z1 z2 z3 z4=>wpAny_pyIter_enum z1 ?_
 refine ⟨s1.heap.objs.size+1,[s1.heap.objs.size+1,s1.heap.objs.size],_,_,H1,rfl,I1.kept (t':=s1.toks) z4,ai3 _ s1.heap.objs.size l (acA (by omega)),⟨⟨_,z1⟩,z2⟩,fun b hb=>?_,q⟩;have hb':s1.heap.objs.size<=b:=by
  have e:b=s1.heap.objs.size+1\/b=s1.heap.objs.size:=by simpa using hb
  rcases e with rfl | rfl
  ·exact qb0 _ _
  ·exact qa2 _
 exact I1.fpOk hb' (I1.hok.fresh hb')
theorem adp{a:Expr}{p pos:Pos}(hm:X.mg "enumerate"=none)(ha:QA X [a] ta)(hg:Gl X "enumerate":=by rfl)(h1:aaN a=false:=by rfl) :
  QI X (.Tuple elts x1 tpos) (.Call (.Name "enumerate" p) [a] [] pos) (iEnum ta):=⟨amw hg hm ha.out h1⟩
end
theorem akF{R:It->Hp->Prop} : iEnum ta σ H R=ta σ H fun vs H1=>∃ (l:Addr) (xs:List V),vs=[.ref l]/\H1 l=some (.lst xs)/\R (Ite l) H1:=rfl
theorem forE{l:Addr}(Pv:Nat->St->Hp->Prop)(h0:Pv 0 σ H)(hl:∀ i σ H,Pv i σ H->H l=some (.lst xs))(hs:∀ i x t σ H,xs[i]?=some x->Pv i σ H->H t=none->g (.ref t) σ (upd H t (.tup [.int i,x])) fun σ2 H2=>tb { D with nx:=Pv (i+1),ct:=Pv (i+1),bk:=D.nx } σ2 H2)(hd:∀ σ H,Pv xs.length σ H->D.nx σ H):ForIt (Ite l) g tb D σ H:=by
 refine ⟨fun i m σ H=>m=xs.length-i/\i<=xs.length/\Pv i σ H,⟨xs.length,by simp,qar _,h0⟩,?_⟩;rintro i m σ H ⟨rfl,hi,p⟩;have e1:=hl i σ H p
 by_cases hlt:i<xs.length
 ·refine .inr ⟨⟨xs,xs[i],e1,by simp⟩,Pv (i+1),fun σ' H' p'=>⟨_,by omega,rfl,hlt,p'⟩,fun v H' y=>?_⟩;obtain ⟨t,xs',x,f1,hx,ht,rfl,rfl⟩:=y;rw [e1] at f1;cases f1;exact hs i x t σ H hx p ht
 ·have e:i=xs.length:=by omega
  subst e;exact .inl ⟨⟨xs,e1,by omega⟩,hd σ H p⟩
noncomputable def MO (P:Program) (w:World) (K:PySem.W.Frag) (mg:Str->Option Value) (base:Heap) (k:Nat) (C:Addr) (m:Str) (ps:List Str) (sp:Sp):Prop:=
 ∃ f fd,FnOk P w K mg base CX0 k f fd ps sp/\Cls K C/\Meth K C m f/\Binds K fd ps []
noncomputable def KO (P:Program) (w:World) (K:PySem.W.Frag) (mg:Str->Option Value) (base:Heap) (k:Nat) (C:Addr) (x:Str) (ps:List Str) (sp:Sp):Prop:=
 ∃ f fd,FnOk P w K mg base CX0 k f fd ps sp/\Mk K C f/\mg x=some (.ref C)/\Binds K fd ps []
section
variable {X:Cx} {k:Nat} {C:Addr} {ps:List Str} {sp:Sp} {x m:Str} {p pos apos:Pos} {e o:Expr} {es:List Expr} {ta:TE} {t:TA}
theorem amx(G:KO X.prog X.w X.K X.mg X.base k C x ps sp)(hr:Room (k+1) X.A)(ha:QA X (e::es) t)(hg:Gl X x:=by rfl)(h1:aaN e=false:=by rfl)(h2:abu es=true:=by rfl)(hdb:(x==("__debug__" : Str))=false:=by decide) :
  QE X (.Call (.Name x p) (e::es) [] pos) (tMake C sp [] E0 t):=by
 obtain ⟨f,fd,F,M,hm,hb⟩:=G;exact ⟨alE M F hr hg hm hb .nil pass0 ha.out hdb (aay h1) (acq h2)⟩
theorem amy(ho:QE X o ta)(G:MO X.prog X.w X.K X.mg X.base k C m ps sp)(hr:Room k X.A)(ha:QA X (e::es) t)(h1:aaN e=false:=by rfl)(h2:abu es=true:=by rfl){pl:Sem Bool}(ht:eval (.Call (.Attribute o m apos) (e::es) [] pos) X.env=(do
   let ov <- eval o X.env
   standAt apos.atName
   let (f,first) <- holding [ov] (getMethod ov m pl)
   callWith pos f first (backTo pos (starEach (e::es) X.env)) (backToKw pos (keywordEach [] X.env))):=by rfl) :
  QE X (.Call (.Attribute o m apos) (e::es) [] pos) (tMeth C m sp [] E0 ta t):=by
 obtain ⟨f,fd,F,c,hm,hb⟩:=G;exact ⟨alD ho.out c hm F hr hb .nil pass0 ha.out (aay h1) (acq h2) ht⟩
theorem akG(ho:QE X o ta)(G:MO X.prog X.w X.K X.mg X.base k C m ps sp)(hr:Room k X.A){pl:Sem Bool}(ht:eval (.Call (.Attribute o m apos) [] [] pos) X.env=(do
   let ov <- eval o X.env
   standAt apos.atName
   let (f,first) <- holding [ov] (getMethod ov m pl)
   callWith pos f first (backTo pos (starEach [] X.env)) (backToKw pos (keywordEach [] X.env))):=by rfl) :
  QE X (.Call (.Attribute o m apos) [] [] pos) (tMeth C m sp [] E0 ta tNil):=by
 obtain ⟨f,fd,F,c,hm,hb⟩:=G;exact ⟨ajW ho.out c hm F hr hb .nil pass0 ht⟩
end
section
variable {C:Addr} {m f:Str} {sp:Sp} {K:PySem.W.Frag} {ta tv:TE} {t:TA} {σ:St} {H:Hp} {Q:VK} {D:Ends}
theorem amz:tMake C sp [] E0 t σ H Q=t σ H fun vs H1=>∀ x dx,H1 x=none->H1 dx=none->dx≠x->sp (.ref x::(vs++[])) (upd (upd H1 dx (.own x)) x (.ins C dx [])) (fun v H2=>v=.non/\Q (.ref x) H2) E0:=rfl
theorem amA:tMeth C m sp [] E0 ta t σ H Q=ta σ H fun x H1=>∃ a dx fs,x=.ref a/\H1 a=some (.ins C dx fs)/\fs.lookup m=none/\t σ H1 fun vs H2=>sp (x::(vs++[])) H2 Q E0:=rfl
theorem aoe:tFld K ta f σ H Q=ta σ H fun x H1=>∃ a C dx fs v,x=.ref a/\H1 a=some (.ins C dx fs)/\Cls K C/\NoAttr K C f/\fs.lookup f=some v/\Q v H1:=rfl
theorem amB:sFld K ta tv f D σ H=tv σ H fun y H1=>ta σ H1 fun x H2=>∃ a C dx fs,x=.ref a/\H2 a=some (.ins C dx fs)/\Cls K C/\NoAttr K C f/\fs.length<1000/\D.nx σ (upd H2 a (.ins C dx (putF f y fs))):=rfl
end
section
variable {X:Cx} {o e:Expr} {apos cpos:Pos} {td ty:TE}
theorem adR(hu:X.A.units+1<cLine)(ho:QE X o td)(he:QE X e ty)(h1:aaN e=false:=by rfl)(hbase:attributeBase o "get" X.env (eval o X.env)=eval o X.env:=by rfl)(hline:(apos.endLine==cpos.line)=true:=by rfl):QE X (.Call (.Attribute o "get" apos) [e] [] cpos) (aiH td ty):=
 ⟨aj6 hu ho.out he.out ⟨hbase,by rw [aay h1];rfl,hline,by rw [aay h1];rfl⟩⟩
theorem akH : aiH td ty σ H Q=td σ H fun x H1=>∃ a,x=.ref a/\IsD H1 a/\ty σ H1 fun y H2=>∃ o,DGet H2 a y o/\Q (o.getD .non) H2:=rfl
end
end L2
set_option maxRecDepth 100000
namespace L2
open PySem PySem.Spec PyProof.Rows
noncomputable abbrev Rl:=Str×List Str
noncomputable def tupR (z:Rl):HO:=.tup ((z.1::z.2).map V.str)
structure IsRules(H:Hp)(a:Addr)(rs:List Addr)(R:List Rl):Prop where
 top:H a=some (.lst (rs.map V.ref))
 row:Paired (fun r z=>H r=some (tupR z)) rs R
theorem IsRules.same{R:List Rl}(h:IsRules H a rs R)(s:Same H H'):IsRules H' a rs R:=⟨s _ _ h.top,uam h.row fun _ _ e=>s _ _ e⟩
theorem IsRules.cat{l:Addr}{ts us:List Addr}{A B:List Rl}(x:IsRules H a ts A)(y:IsRules H b us B)(n:H l=none):IsRules (upd H l (.lst (ts.map V.ref++us.map V.ref))) l (ts++us) (A++B):=by
 refine ⟨by rw [aaa,qa4],?_⟩;have ap:∀ {l₁ l₃:List Addr} {l₂ l₄:List Rl},Paired (fun r z=>upd H l (.lst (ts.map V.ref++us.map V.ref)) r=some (tupR z)) l₁ l₂->Paired (fun r z=>upd H l (.lst (ts.map V.ref++us.map V.ref)) r=some (tupR z)) l₃ l₄->Paired (fun r z=>upd H l (.lst (ts.map V.ref++us.map V.ref)) r=some (tupR z)) (l₁++l₃) (l₂++l₄):=by
  intro l₁ l₃ l₂ l₄ h
  induction h with
  | nil=>intro h';exact h'
  | cons h t ih=>intro h';exact .cons h (ih h')
 exact ap (uam x.row fun r z h=>aag h n) (uam y.row fun r z h=>aag h n)
theorem IsRules.len{R:List Rl}(h:IsRules H a rs R):rs.length=R.length:=Paired.length h.row
noncomputable def aaM (z:Rl):List Str:=if z.1=("great" : Str) then z.2.drop 1 else if z.1=("as" : Str) then z.2.take 1 else if z.1=("row" : Str)\/z.1=("marks" : Str)\/z.1=("over" : Str) then z.2 else []
noncomputable def jobD (w:Str):Str:=if w=("row" : Str) then "letter" else if w=("marks" : Str) then "mark" else w
noncomputable def aaj (R:List Rl):List (Str×Str):=R.flatMap fun z=>(aaM z).map fun p=>(p,jobD z.1)
noncomputable def hasW (R:List Rl) (w:Str):Bool:=R.any fun z=>decide (z.1=w)
noncomputable def figO (c:Nat):Bool:=decide (48<=c)&&decide (c<=57)
noncomputable def af3:List Str:=["letter", "mark", "over"]
noncomputable def NC (figs:Bool) (g:Str->Str) (PL:List (Str×Str)):Prop:=∀ i p j,PL[i]?=some (p,j)->j=g p/\(p∈(PL.take i).map (·.1)->j∈af3)/\(figs=true->∀ c∈p.cps.toList,figO c=false)/\p.length<=1000
noncomputable def keysP (PL:List (Str×Str)):List Str:=dds [] (PL.map (·.1))
theorem aeP{R:List Rl}{z:Rl}(h:R[i]?=some z):aaj (R.take (i+1))=aaj (R.take i)++(aaM z).map fun p=>(p,jobD z.1):=by
 rw [qaQ,h];unfold aaj;rw [qaK]
 simp
theorem aed(R:List Rl)(i:Nat):∃ more,aaj R=aaj (R.take i)++more:=⟨aaj (R.drop i),by
 unfold aaj;rw [<- qaK,qaA]⟩
theorem ahR(PL:List (Str×Str))(p j:Str):keysP (PL++[(p,j)])=dd (keysP PL) p:=by
 unfold keysP dds;rw [qa4,qbk];rfl
theorem acf(x:Str)(PL:List (Str×Str)):x∈keysP PL↔x∈PL.map (·.1):=by
 unfold keysP;rw [abP]
 simp
theorem aee(PL:List (Str×Str)):(keysP PL).length<=PL.length:=by
 have:=acD (PL.map (·.1)) []
 rw [qa0] at this
 simpa [keysP] using this
noncomputable def rowsW (R:List Rl) (w:Str):List (List Str):=(R.filter fun z=>decide (z.1=w)).map (·.2)
theorem adq{R:List Rl}{z:Rl}{w:Str}(h:R[i]?=some z):rowsW (R.take (i+1)) w=if z.1=w then rowsW (R.take i) w++[z.2] else rowsW (R.take i) w:=by
 rw [qaQ,h];unfold rowsW;rw [qbf,qa4]
 by_cases e:z.1=w
 ·rw [if_pos e,Option.toList_some,qbp (by simpa using e)];rfl
 ·rw [if_neg e,Option.toList_some,qbq (by simpa using e)];simp
theorem aaI{hi:Option Int}(hk:1<=k)(hn:1<=n):¬ (HT.sIx n 0 (some (k:Int))=0/\HT.sIx n n hi=n):=fun h=>by
 have:=h.1
 rw [HT.sIx_nat] at this;omega
noncomputable abbrev jobsL:List (Key×V):=[((Sum.inr ("row" : Str):Key),V.str "letter"),(Sum.inr ("marks" : Str),V.str "mark"),(Sum.inr ("great" : Str),V.str "great"),(Sum.inr ("as" : Str),V.str "as"),(Sum.inr ("over" : Str),V.str "over")]
noncomputable def ada (w:Str):Prop:=w=("row" : Str)\/w=("marks" : Str)\/w=("great" : Str)\/w=("as" : Str)\/w=("over" : Str)
theorem agz{w:Str}(h:ada w):valV jobsL (Sum.inr w)=some (.str (jobD w)):=by
 rcases h with rfl | rfl | rfl | rfl | rfl <;> decide +kernel
theorem akI{w:Str}(h:¬ ada w):valV jobsL (Sum.inr w)=none:=by
 unfold ada at h;have n:∀ u:Str,w≠u->¬ ((Sum.inr u:Key)=Sum.inr w):=fun u hu e=>hu (Sum.inr.inj e).symm
 rw [abS (n _ (fun e=>h (.inl e))),abS (n _ (fun e=>h (.inr (.inl e)))),abS (n _ (fun e=>h (.inr (.inr (.inl e))))),abS (n _ (fun e=>h (.inr (.inr (.inr (.inl e)))))),abS (n _ (fun e=>h (.inr (.inr (.inr (.inr e))))))];rfl
theorem abI{z:Rl}(h:p∈aaM z):ada z.1:=by
 unfold aaM at h;unfold ada
 split at h
 ·rename_i e;exact .inr (.inr (.inl e))
 ·split at h
  ·rename_i e;exact .inr (.inr (.inr (.inl e)))
  ·split at h
   ·rename_i e
    rcases e with e | e | e
    ·exact .inl e
    ·exact .inr (.inl e)
    ·exact .inr (.inr (.inr (.inr e)))
   ·cases h
theorem aof{R:List Rl}{z:Rl}(hz:R[i]?=some z)(hp:(aaM z)[j]?=some p) :
  (aaj R)[(aaj (R.take i)).length+j]?=some (p,jobD z.1)/\(aaj R).take ((aaj (R.take i)).length+j)=aaj (R.take i)++((aaM z).take j).map fun p=>(p,jobD z.1):=by
 obtain ⟨more,e⟩:=aed R (i+1);rw [aeP hz,qas] at e;have hj:j<(aaM z).length:=(qa5.mp hp).1;rw [e]
 constructor
 ·rw [qaR (qb0 _ _),Nat.add_sub_cancel_left,qb2 (by rw [qa0];exact hj),qaC,hp];rfl
 ·rw [List.take_append,qaF (qb0 _ _),Nat.add_sub_cancel_left,List.take_append_of_le_length (by rw [qa0];omega),qbx]
theorem aog{c d:Nat} : (([c]:List Nat)<[d])↔c<d:=by
 constructor
 ·intro h;cases h with
  | rel h=>exact h
  | cons h=>cases h
 ·intro h;exact List.Lex.rel h
theorem SqT.same(e:Same H H')(h:SqT K H a xs):SqT K H' a xs:=by
 rcases h with (h | ⟨o,h⟩) | h
 ·exact .inl (.inl (e _ _ h))
 ·exact .inl (.inr ⟨o,e _ _ h⟩)
 ·exact .inr h
theorem SqT.dput{d:Addr}{o:HO}(hd:H d=some (.dK kvs))(h:SqT K H a xs):SqT K (upd H d o) a xs:=by
 rcases h with (h | ⟨o,h⟩) | h
 ·exact .inl (.inl (by rw [aah (fun e=>by rw [e,hd] at h;cases h)];exact h))
 ·exact .inl (.inr ⟨o,by rw [aah (fun e=>by rw [e,hd] at h;cases h)];exact h⟩)
 ·exact .inr h
noncomputable def spHas (K:PySem.W.Frag):Sp:=fun vs H Q _=>∃ (a:Addr) (ts:List Addr) (R:List Rl) (w:Str),vs=[.ref a,.str w]/\IsRules H a ts R/\R.length<=1000/\∀ H',Same H H'->Q (.bl (hasW R w)) H'
noncomputable def ai4 (K:PySem.W.Frag):Sp:=fun vs H Q _=>∃ (t:Addr) (z:Rl),vs=[.ref t]/\H t=some (tupR z)/\∀ p H',Same H H'->SqT K H' p ((aaM z).map V.str)->Q (.ref p) H'
noncomputable def ai5:Sp:=fun vs H Q _=>∃ (d:Addr) (p j:Str) (fg:Bool) (ks:List Str) (g:Str->Str),vs=[.ref d,.str p,.str j,.bl fg]/\H d=some (.dK (kvN ks fun t=>.str (g t)))/\p.length<=1000/\(p∈ks->g p=j/\j∈af3)/\(fg=true->∀ c∈p.cps.toList,figO c=false)/\
 ∀ H',Same H H'->Q (.bl false) H'
noncomputable def aa2 (R:List Rl):List Str:=if hasW R "blanks"=true then [" "] else []
noncomputable def jobG (g:Str->Str):Str->V:=fun t=>if t=(" " : Str) then .str "over" else .str (g t)
noncomputable def ala (K:PySem.W.Frag):Sp:=fun vs H Q _=>∃ (a:Addr) (ts:List Addr) (R:List Rl) (g:Str->Str),vs=[.ref a]/\IsRules H a ts R/\R.length<=1000/\(aaj R).length<=10000/\NC (hasW R "figures") g (aaj R)/\(" " : Str)∉(aaj R).map (·.1)/\
 ∀ d H',H d=none->Same H H'->H' d=some (.dK (kvN (keysP (aaj R)++aa2 R) (jobG g)))->Q (.ref d) H'
noncomputable def ordF (f b:Bool) (j ll ml md:Addr):List (Str×V):=putF "made" (.ref md) (putF "mark_line" (.ref ml) (putF "letter_line" (.ref ll) (putF "jobs" (.ref j) (putF "behind" (.bl b) (putF "figures" (.bl f) [])))))
theorem af4(f b:Bool)(j ll ml md:Addr):(ordF f b j ll ml md).lookup ("figures" : Str)=some (V.bl f):=by
 unfold ordF;rw [aan,if_neg (by decide +kernel),aan,if_neg (by decide +kernel),aan,if_neg (by decide +kernel),aan,if_neg (by decide +kernel),aan,if_neg (by decide +kernel),aan,if_pos rfl]
theorem af5(f b:Bool)(j ll ml md:Addr):(ordF f b j ll ml md).lookup ("jobs" : Str)=some (V.ref j):=by
 unfold ordF;rw [aan,if_neg (by decide +kernel),aan,if_neg (by decide +kernel),aan,if_neg (by decide +kernel),aan,if_pos rfl]
theorem af6(f b:Bool)(j ll ml md:Addr):(ordF f b j ll ml md).lookup ("letter_line" : Str)=some (V.ref ll):=by
 unfold ordF;rw [aan,if_neg (by decide +kernel),aan,if_neg (by decide +kernel),aan,if_pos rfl]
theorem ahS(f b:Bool)(j ll ml md:Addr):(ordF f b j ll ml md).lookup ("mark_line" : Str)=some (V.ref ml):=by
 unfold ordF;rw [aan,if_neg (by decide +kernel),aan,if_pos rfl]
theorem ai6(f b:Bool)(j ll ml md:Addr){m:Str}(h:m∉(["made", "mark_line", "letter_line", "jobs", "behind", "figures"]:List Str)):(ordF f b j ll ml md).lookup m=none:=by
 unfold ordF;have n:∀ u∈(["made", "mark_line", "letter_line", "jobs", "behind", "figures"]:List Str),¬ m=u:=fun u hu e=>h (by rw [e];exact hu)
 rw [aan,if_neg (n _ (by simp)),aan,if_neg (n _ (by simp)),aan,if_neg (n _ (by simp)),aan,if_neg (n _ (by simp)),aan,if_neg (n _ (by simp)),aan,if_neg (n _ (by simp))];rfl
theorem IsRules.but{x:Addr}{R:List Rl}(h:IsRules H a rs R)(s:SameBut x H H'){fs:List (Str×V)}(hx:H x=some (.ins C dx fs)):IsRules H' a rs R:=
 ⟨s _ _ (fun e=>by have:=h.top;rw [e,hx] at this;cases this) h.top,uam h.row fun t z e=>s _ _ (fun q=>by rw [q,hx] at e;cases e) e⟩
theorem SameBut.trans{x:Addr}(a:SameBut x H H1)(b:SameBut x H1 H2):SameBut x H H2:=fun c o hc h=>b c o hc (a c o hc h)
theorem Same.but{x:Addr}(a:Same H H1):SameBut x H H1:=fun c o _ h=>a c o h
noncomputable def abj (R:List Rl) (w:Str) (L:List Str):Prop:=Run (edges (rowsW R w)) (toldL (rowsW R w)) L/\∀ p∈toldL (rowsW R w),p∈L
structure IsOrder(C:Addr)(H:Hp)(x:Addr)(g:Str->Str)(R:List Rl)(L M:List Str):Prop where
 ob:∃ dx j ll ml md,H x=some (.ins C dx (ordF (hasW R "figures") (hasW R "behind") j ll ml md))/\H j=some (.dK (kvN (keysP (aaj R)++aa2 R) (jobG g)))/\H ll=some (.lst (L.map V.str))/\H ml=some (.lst (M.map V.str))
 l1:abj R "row" L
 l2:abj R "marks" M
theorem IsOrder.same{x:Addr}{g:Str->Str}{R:List Rl}(h:IsOrder C H x g R L M)(s:Same H H'):IsOrder C H' x g R L M:=
 let ⟨dx,j,ll,ml,md,h1,h2,h3,h4⟩:=h.ob
 ⟨⟨dx,j,ll,ml,md,s _ _ h1,s _ _ h2,s _ _ h3,s _ _ h4⟩,h.l1,h.l2⟩
noncomputable def alb (K:PySem.W.Frag):Sp:=fun vs H Q _=>∃ (a:Addr) (ts:List Addr) (R:List Rl) (w:Str) (rank:Str->Nat),vs=[.ref a,.str w]/\IsRules H a ts R/\R.length<=1000/\(rowsW R w).flatten.length<=100000/\(∀ e∈edges (rowsW R w),rank e.1<rank e.2)/\
 ∀ (l:Addr) (line:List Str) (H':Hp),H l=none->Same H H'->H' l=some (.lst (line.map V.str))->Run (edges (rowsW R w)) (toldL (rowsW R w)) line->(∀ p∈toldL (rowsW R w),p∈line)->Q (.ref l) H'
noncomputable def cellF (ns:List Int) (k:Int):Int:=if k<(ns.length:Int) then ns.getD k.toNat 0 else 0
noncomputable def adr (K:PySem.W.Frag):Sp:=fun vs H Q _=>∃ (a:Addr) (ns:List Int) (k:Int),vs=[.ref a,.int k]/\SqL K H a (ns.map V.int)/\0<=k/\Q (.int (cellF ns k)) H
noncomputable def SA:Str:=Str.ofString "!\"#$&'()*+,-./:;<=>?@ABCDEFGHIJKLMNOPQRSTUVWXYZ[\\]^_`abcdefghijklmnopqrstuvwxyz{|}~"
noncomputable def LA:List Nat:=SG.filter fun c=>!figO c
noncomputable def LB:List Nat:=LA++[48,49,50,51,52,53,54,55,56,57]
theorem SA_eq:SA.cps.toList=LA:=by decide +kernel
theorem SB_eq:(SA++Str.ofString "0123456789").cps.toList=LB:=by decide +kernel
theorem aoh:LA.length=83:=by decide +kernel
theorem aoi:LB.length=93:=by decide +kernel
theorem LA_nd:LA.Nodup:=by decide +kernel
theorem LB_nd:LB.Nodup:=by decide +kernel
theorem LA_ok:∀ c∈LA,signB c=true/\figO c=false:=by decide +kernel
theorem LB_ok:∀ c∈LB,signB c=true:=by decide +kernel
noncomputable def listF (d:Bool):List Nat:=if d=true then LB else LA
noncomputable def lenF (d:Bool):Int:=if d=true then 93 else 83
theorem adi(d:Bool):((listF d).length:Int)=lenF d:=by
 cases d
 ·show ((LA.length:Nat):Int)=83;rw [aoh];rfl
 ·show ((LB.length:Nat):Int)=93;rw [aoi];rfl
noncomputable def dgO (ns:List Int):Bool:=decide (cellF ns 1 / 12 % 2=0)
noncomputable def stepO:List Int:=[1,2,4,5,7,8,10,11,13,23,44,80]
noncomputable def stO (ns:List Int):Int:=(atI stepO (cellF ns 1 % 12)).getD 0
noncomputable def sgO (ns:List Int) (k:Int):Nat:=(atI (listF (dgO ns)) ((cellF ns 0+k*stO ns) % lenF (dgO ns))).getD 33
theorem aff(d:Bool):0<lenF d/\lenF d<=93:=by cases d <;> decide
theorem ai7(ns:List Int):atI (stepO.map V.int) (cellF ns 1 % 12)=some (.int (stO ns))/\stO ns∈stepO:=by
 obtain ⟨v,h1,h2⟩:=aeL (xs:=stepO) (i:=cellF ns 1 % 12) (by omega) (by show _<((12:Nat):Int);omega);have e:stO ns=v:=by unfold stO;rw [h1];rfl
 rw [e];refine ⟨?_,h2⟩;obtain ⟨u,h3,h4⟩:=aeL (xs:=stepO.map V.int) (i:=cellF ns 1 % 12) (by omega) (by show _<((12:Nat):Int);omega);have ei:(((cellF ns 1 % 12).toNat:Nat):Int)=cellF ns 1 % 12:=by omega
 have hi:(cellF ns 1 % 12).toNat<stepO.length:=by show _<12;omega
 have a1:=abr (xs:=stepO) (j:=(cellF ns 1 % 12).toNat) (v:=stepO[(cellF ns 1 % 12).toNat]) (qa3 hi);rw [ei,h1] at a1;have a2:=abr (xs:=stepO.map V.int) (j:=(cellF ns 1 % 12).toNat) (v:=V.int stepO[(cellF ns 1 % 12).toNat]) (by rw [qaC,qa3 hi];rfl);rw [ei] at a2;rw [a2,<- Option.some.inj a1]
theorem amC(ns:List Int):0<stO ns/\stO ns<=80:=by
 have:=(ai7 ns).2
 simp only [stepO,qaa,qbz,or_false] at this;omega
theorem aoj{l:List Nat}(nd:l.Nodup){i j:Int}(h0:0<=i)(h1:i<l.length)(h2:0<=j)(h3:j<l.length)(h:(atI l i).getD 33=(atI l j).getD 33):i=j:=by
 have li:i.toNat<l.length:=by omega
 have lj:j.toNat<l.length:=by omega
 have a1:atI l i=some l[i.toNat]:=by
  have:=abr (xs:=l) (j:=i.toNat) (v:=l[i.toNat]) (qa3 li)
  rw [show ((i.toNat:Nat):Int)=i by omega] at this;exact this
 have a2:atI l j=some l[j.toNat]:=by
  have:=abr (xs:=l) (j:=j.toNat) (v:=l[j.toNat]) (qa3 lj)
  rw [show ((j.toNat:Nat):Int)=j by omega] at this;exact this
 rw [a1,a2] at h
 have:=(qaI.mp nd)
 rw [qaV] at this
 rcases Nat.lt_trichotomy i.toNat j.toNat with z | z | z
 ·exact absurd h (this _ _ li lj z)
 ·omega
 ·exact absurd h.symm (this _ _ lj li z)
theorem alc(ns:List Int)(k:Int):atI (listF (dgO ns)) ((cellF ns 0+k*stO ns) % lenF (dgO ns))=some (sgO ns k)/\sgO ns k∈listF (dgO ns):=by
 have hp:=aff (dgO ns);obtain ⟨v,h1,h2⟩:=aeL (xs:=listF (dgO ns)) (i:=(cellF ns 0+k*stO ns) % lenF (dgO ns)) (qaZ _ (by omega)) (by rw [adi];exact qaT _ hp.1);have e:sgO ns k=v:=by unfold sgO;rw [h1];rfl
 rw [e];exact ⟨h1,h2⟩
theorem ahe(ns:List Int)(k:Int):signB (sgO ns k)=true/\(dgO ns=false->figO (sgO ns k)=false):=by
 have h:=(alc ns k).2;cases hd:dgO ns with
 | false=>
  rw [hd] at h
  have:=LA_ok _ h
  exact ⟨this.1,fun _=>this.2⟩
 | true=>
  rw [hd] at h;exact ⟨LB_ok _ h,fun z=>by cases z⟩
theorem ahT{m s t b k l:Int}(ht:s*t % m=1)(e:(b+k*s) % m=(b+l*s) % m)(h0:0<=k)(h1:k<m)(h2:0<=l)(h3:l<m):k=l:=by
 have d1:m ∣ (k-l)*s:=by
  have:=Int.dvd_of_emod_eq_zero (Int.emod_eq_emod_iff_emod_sub_eq_zero.mp e)
  rwa [show (b+k*s)-(b+l*s)=(k-l)*s by rw [Int.sub_mul];omega] at this
 have d3:m ∣ (k-l)*(s*t):=by rw [<- Int.mul_assoc];exact Int.dvd_mul_of_dvd_left d1
 have d4:m ∣ s*t-1:=⟨s*t / m,by have:=Int.emod_add_mul_ediv (s*t) m;omega⟩
 have d5:m ∣ (k-l)*(s*t-1):=Int.dvd_mul_of_dvd_right d4;have d6:=Int.dvd_sub d3 d5;rw [show (k-l)*(s*t)-(k-l)*(s*t-1)=k-l by rw [Int.mul_sub,Int.mul_one];omega] at d6;have d7:=Int.emod_eq_emod_iff_emod_sub_eq_zero.mpr (Int.emod_eq_zero_of_dvd d6)
 rwa [Int.emod_eq_of_lt h0 h1,Int.emod_eq_of_lt h2 h3] at d7
theorem akJ(d:Bool):∀ s∈stepO,∃ t∈(qbI 93).map Int.ofNat,s*t % lenF d=1:=by cases d <;> decide +kernel
theorem amD{k l:Int}(h0:0<=k)(h1:k<83)(h2:0<=l)(h3:l<83)(h:sgO ns k=sgO ns l):k=l:=by
 have hp:=aff (dgO ns);have hq:83<=lenF (dgO ns):=by cases dgO ns <;> decide
 have nd:(listF (dgO ns)).Nodup:=by
  cases dgO ns
  ·exact LA_nd
  ·exact LB_nd
 have e:=aoj nd (qaZ _ (by omega)) (by rw [adi];exact qaT _ hp.1) (qaZ _ (by omega)) (by rw [adi];exact qaT _ hp.1) h;obtain ⟨t,_,ht⟩:=akJ (dgO ns) _ (ai7 ns).2;exact ahT ht e h0 (by omega) h2 (by omega)
noncomputable def spSgn (K:PySem.W.Frag):Sp:=fun vs H Q _=>∃ (a:Addr) (ns:List Int) (k:Int),vs=[.ref a,.int k]/\SqL K H a (ns.map V.int)/\0<=k/\∀ H',Same H H'->Q (.str (one (sgO ns k))) H'
end L2
set_option maxRecDepth 100000
namespace L2
open PySem PySem.Spec PyProof.Rows
open AutoSeq1 (wpAny_loadPart' idx_int)
noncomputable abbrev bareL (ys:Array Value) (k:Nat):Obj:=⟨.type "list",none,.seq ys k,#[]⟩
noncomputable abbrev anyT (dd:Option Addr) (ys:Array Value) (k:Nat) (ss:Array (Option Value)):Obj:=⟨.type "tuple",dd,.seq ys k,ss⟩
theorem aef{l:Addr}{ys zs:Array Value}{k2:Nat}{dd:Option Addr}(short:¬ (!ys.isEmpty&&Builtin.List.listTooLong (ys.size+zs.size))=true)(h1:ys.size<=sizeLine)(h2:ys.size+zs.size<=sizeLine+1) :
  Meets (Builtin.«list.extend» ⟨[.ref l,.ref b],[]⟩) (fun _ R s=>s.heap.get? l=some (bareL ys k)/\s.heap.get? b=some (anyT dd zs k2 ss)/\R (.ok (.ret .none)) { s with heap:=s.heap.update l (Obj.mapSeq (·++zs)),toks:=s.toks }):=by
 refine .of_wp fun _ _ _ R s ⟨gl,gb,fin⟩=>?_
 rcases s with ⟨hp,gens,dr,tk,sys⟩
 have c1:=idx_int;have c2:=AutoSeq1.sub_tuple_tuple;have c3:=AutoSeq1.sub_list_list;have c4:=AutoSeq1.sub_tuple_list;have c5:=AutoSeq1.sub_list_tuple;have room:(ys++zs).size<=sizeLine+1:=Array.size_append ▸ h2
 wp_walk using (wpAny_updateSeq gl rfl (hz:=h1) (_hz':=room)),wpAny_loadPart' gl,wpAny_loadPart' gb
 exact ⟨_,rfl,fin⟩
section
variable {X:Cx}
noncomputable def ahf (K:PySem.W.Frag):V->List V->Hp->VK->Prop:=fun x vs H Q=>∃ l b xs zs,x=.ref l/\vs=[.ref b]/\H l=some (.lst xs)/\SqT K H b zs/\xs.length+zs.length<=sizeLine/\Q .non (upd H l (.lst (xs++zs)))
theorem ahU:MtM X "list.extend" (ahf X.K):=by
 intro pins s σ H x vs v us Q I rx rv h;obtain ⟨l,b,xs,zs,rfl,rfl,hH,hB,hz,q⟩:=h
 cases rx
 obtain ⟨u,rfl,ru⟩:=rv.one
 cases ru
 obtain ⟨z,its,n,r,hl,e⟩:=I.lstM hH;obtain ⟨its2,r2,⟨⟨c,dct,dt,sl⟩,e2,hc,n2,hd⟩,hl2⟩:=I.tuple hB
 replace hc:c=.type "tuple":=hc
 replace hd:dt=.seq its2.toArray n2:=hd
 subst hc hd;have q1:=r2.length;have hsz:its.toArray.size+its2.toArray.size<=sizeLine:=by rw [qai,qai];omega
 have hlong:¬ (!its.toArray.isEmpty&&Builtin.List.listTooLong (its.toArray.size+its2.toArray.size))=true:=by
  rw [adK hsz,Bool.and_false];exact qae
 refine call_meets F.slot_list_extend ⟨_,e,rfl⟩ F.entry_list_extend (F.args_list_extend_2 _ _)
  (aef (k:=n) (k2:=n2) (dd:=dct) (ss:=sl) hlong (by rw [qai];omega) (by omega)) ⟨e,e2,?_⟩
 refine ⟨.non,_,I.lset (its':=its++its2) hH e (by simp) (r.append r2) ?_,rfl,q⟩;rw [qa1];omega
theorem ai8(hK:X.K=K:=by rfl):QMt X "list.extend" (ahf K):=by subst hK;exact ⟨fun pins s σ H x xs v us Q I rx rv h=>ahU pins s σ H x xs v us Q I rx rv h⟩
end
noncomputable def Itv (l : Addr) (n : Nat) : It :=
  ⟨fun i H => ∃ xs x, H l = some (.lst xs) /\ i<n /\ xs[n-1-i]? = some x,
   fun i H v H' => H' = H /\ ∀ xs, H l = some (.lst xs) -> xs[n-1-i]? = some v,
   fun i H => ∃ xs, H l = some (.lst xs) /\ n <= i⟩
section
variable {X:Cx}
noncomputable def iRev (ta:TA):TI:=fun σ H R=>ta σ H fun vs H1=>∃ (l:Addr) (xs:List V),vs=[.ref l]/\H1 l=some (.lst xs)/\R (Itv l xs.length) H1
end
theorem amE{R:It->Hp->Prop} : iRev ta σ H R=ta σ H fun vs H1=>∃ (l:Addr) (xs:List V),vs=[.ref l]/\H1 l=some (.lst xs)/\R (Itv l xs.length) H1:=rfl
noncomputable abbrev itO (l:Addr):Obj:={ cls:=.type "list_iterator",data:=.fields #[.ref l,.int 0 0] }
noncomputable abbrev enO (it:Addr) (i:Int):Obj:={ cls:=.type "enumerate",data:=.fields #[.none,.bool false,.ref it,rawInt i,.none,.none] }
noncomputable abbrev anyL (dd:Option Addr) (ys:Array Value) (k:Nat) (ss:Array (Option Value)):Obj:=⟨.type "list",dd,.seq ys k,ss⟩
set_option maxHeartbeats 4000000 in
theorem aev{l:Addr}{ys:Array Value}{dd:Option Addr}{i:Int}{t:Tok}(fits:Builtin.SmallTypes.fitsIndex i=true) :
  Meets (Builtin.«enumerate.__new__» ⟨[.type "enumerate",.ref l],[("start",.int i t)]⟩) (fun _ R s=>s.heap.get? l=some (anyL dd ys k ss)/\
   R (.ok (.ret (.ref (s.heap.push (itO l)).objs.size))) { s with heap:=(s.heap.push (itO l)).push (enO s.heap.objs.size i) }):=by
 refine .of_wp fun _ _ _ R s ⟨gl,fin⟩=>?_
 rcases s with ⟨hp,gens,dr,tk,sys⟩
 have c1:=sub_enumerate;have isl:Heap.IsList (Shared.heap ⟨hp,gens,dr,tk,sys⟩) l ys:=⟨_,gl,rfl,k,rfl⟩
 wp_walk using wpAny_loadPart' gl
 refine wpAny_stack_any fun _=>wpAny_pure ?_
 split
 case h_1 c _ _ _ _ _=>
  generalize (c==Value.type "enumerate")=truth
  cases truth <;> (wp_walk using wpAny_loadPart' gl,wpAny_pyIter_list isl;exact ⟨_,rfl,fin⟩)
 case h_2=>(wp_walk using wpAny_loadPart' gl,wpAny_pyIter_list isl;exact ⟨_,rfl,fin⟩)
theorem ahV(a b:Value):checkTypeCall "enumerate" ⟨[a],[("start",b)]⟩=pure ():=by kernel_rfl
theorem ai9(a b:Value):checkBuiltinCall "enumerate.__new__" ⟨[.type "enumerate",a],[("start",b)]⟩=pure ():=by kernel_rfl
theorem ahW(a b c:Value):argsOk "object.__init__" ⟨[a,b],[("start",c)]⟩:=by
 unfold argsOk;rw [signature?_of (id:="object.__init__") (n:="__init__".toList.reverse) (o:="object".toList.reverse) (by kernel_rfl) F.owner_object]
 kernel_rfl
theorem aja{self b c:Value} : Meets (Builtin.«object.__init__» ⟨[self,b],[("start",c)]⟩) (fun _ R s=>s.TypeIs self "enumerate"/\R (.ok (.ret .none)) s):=by
 have c1:=F.called_enumerate.init.lookup;have c2:=F.called_enumerate.made;refine .of_wp fun _ _ _ R s ⟨isT,fin⟩=>?_
 repeat (any_goals (first | assumption | wp_step))
 exact ⟨_,rfl,fin⟩
section
variable {prog:Program} {w:World} {A:Around} {E:Value->Shared->Prop} {s:Shared}
theorem aeg{l:Addr}{ys:Array Value}{i:Int}{t:Tok}{Q:Value->Shared->Prop}(isl:s.heap.IsList l ys)(fits:Builtin.SmallTypes.fitsIndex i=true)(fin:∀ h',IsEnum h' (s.heap.objs.size+1) s.heap.objs.size i .none->h'.IsListIter s.heap.objs.size l 0->(∀ b o,s.heap.get? b=some o->h'.get? b=some o)->Q (.ref (s.heap.objs.size+1)) { s with heap:=h' }) :
  wpAny (model prog w) A (call (.type "enumerate") [.ref l] [("start",.int i t)]) Q E s:=by
 obtain ⟨⟨c,dd,dt,ss⟩,gl,hc,k,hd⟩:=isl;obtain rfl:c=.type "list":=hc;obtain rfl:dt=.seq ys k:=hd;obtain ⟨hd0,tl,c1⟩:=F.called_enumerate.mro;have c2:=F.called_enumerate.made;have c3:=F.called_enumerate.sub;have c4:=F.called_enumerate.notType;have c5:=F.called_enumerate.canCreate;have c6:=F.called_enumerate.init.lookup;have c7:=ahV (.ref l) (.int i t);refine wpAny_call (codeAny_of_tree (show wpAny _ _ (callAny (.type "enumerate") _) _ _ _ from wpAny_pure ⟨Code.quiet_builtin _ (by decide +kernel),codeAny_builtin F.entry_type_call ?_⟩));rw [Around.under_plain (weight_type_call_type "enumerate" [.ref l] [("start",.int i t)]) (units_type_call_type "enumerate" [.ref l] [("start",.int i t)])]
 repeat (any_goals (first | assumption | wp_step))
 have z:(s.heap.push (itO l)).objs.size=s.heap.objs.size+1:=Heap.size_push ..;have made:IsEnum ((s.heap.push (itO l)).push (enO s.heap.objs.size i)) (s.heap.objs.size+1) s.heap.objs.size i .none:=by
  have g:=Heap.get?_push_size (s.heap.push (itO l)) (o:=enO s.heap.objs.size i) rfl;rw [z] at g;exact g
 have done:=fin _ made ⟨_,Heap.get?_push_of_some _ (Heap.get?_push_size _ rfl),rfl,rfl⟩ fun b o g=>Heap.get?_push_of_some _ (Heap.get?_push_of_some _ g)
 refine codeAny_mono (codeAny_call_builtin F.called_enumerate.plain F.entry_enumerate_new (wpAny_of_eq (ai9 _ _) (aev (dd:=dd) (k:=k) (ss:=ss) fits prog w A.in1 (wants (fun v s2=>v=.ref (s.heap.objs.size+1)/\s2={ s with heap:=(s.heap.push (itO l)).push (enO s.heap.objs.size i) }) E) s ⟨gl,?_,?_⟩))) ?_
 ·rw [z]
 ·rfl
 ·intro r s1 hr
  rcases r with e | fl
  ·exact hr
  ·cases fl with
   | ret v=>
    obtain ⟨rfl,rfl⟩:=hr;have isT:Shared.TypeIs { s with heap:=(s.heap.push (itO l)).push (enO s.heap.objs.size i) } (.ref (s.heap.objs.size+1)) "enumerate":=⟨_,made,rfl⟩
    have c8:=F.called_enumerate.init.bind (.ref (s.heap.objs.size+1))
    repeat (any_goals (first | assumption | wp_step))
    have ran:=aja (self:=.ref (s.heap.objs.size+1)) (b:=.ref l) (c:=.int i t) prog w A.in1 (wants (fun v s2=>v=.none/\s2={ s with heap:=(s.heap.push (itO l)).push (enO s.heap.objs.size i) }) E) _ ⟨isT,rfl,rfl⟩;refine codeAny_mono (codeAny_call_builtin F.called_enumerate.init.plain F.entry_object_init (F.called_enumerate.init.check _ _ _ _ _ _ _ _ isT (ahW _ _ _) ran)) fun r s2 hr=>?_
    rcases r with e | fl
    ·exact hr
    ·cases fl with
     | ret v=>
      obtain ⟨rfl,rfl⟩:=hr
      repeat (any_goals (first | assumption | wp_step))
     | next=>exact hr.elim
     | brk=>exact hr.elim
     | cont=>exact hr.elim
   | next=>exact hr.elim
   | brk=>exact hr.elim
   | cont=>exact hr.elim
end
theorem aok{w:World}(calm:A.handled=none){l:Addr}(apart:l≠it)(ys:Array Value) :
  Draws prog w A it [it,l] (ys.size+1) (fun i v=>1<=i/\ys[i-1]?=some v) (fun i h=>1<=i/\h.IsListIter it l (i-1)/\h.IsList l ys):=by
 have D:=Draws.list (prog:=prog) (w:=w) calm it l apart ys;refine ⟨fun i h st=>D.live (i-1) h st.2,fun i h h' st same=>⟨st.1,D.frame (i-1) h h' st.2 same⟩,fun i s Q E hi st fin=>?_,fun s Q E st fin=>D.done s Q E st.2 fin⟩;refine D.item (i-1) s Q E (by have:=st.1;omega) st.2 fun x h' tk px st' sb=>fin x h' tk ⟨st.1,px⟩ ⟨by omega,?_⟩ sb
 rw [show i+1-1=i-1+1 by have:=st.1;omega];exact st'
theorem aol{w : World}(calm : A.handled = none){l: Addr}{ys : Array Value}(none : ys[i]? = none) :
    Draws prog w A it [it, l] (i+1) (fun _ _ => True) (fun k h => k = i+1 /\ h.IsListIter it l i /\ h.IsList l ys) :=
  ⟨fun _ _ st => let ⟨o, ho, _⟩ := st.2.1; ⟨o, ho⟩, fun _ _ _ st same => ⟨st.1, st.2.1.at fun o g => same it (by simp) o g, st.2.2.at fun o g => same l (by simp) o g⟩,
   fun k s Q E hk st => absurd st.1 (by omega), fun s Q E st fin => wpAny_nextOf_list_end calm st.2.1 st.2.2 none fin⟩
noncomputable def Ite1 (l : Addr) : It :=
  ⟨fun i H => ∃ xs x, H l = some (.lst xs) /\ xs[i]? = some x,
   fun i H v H' => ∃ t xs x, H l = some (.lst xs) /\ xs[i]? = some x /\ H t = none /\ v = .ref t /\ H' = upd H t (.tup [.int (i+1 : Nat), x]),
   fun i H => ∃ xs, H l = some (.lst xs) /\ xs.length <= i⟩
theorem ahX{P:Program}{w:World}{pos:Pos}(e it l:Addr)(hne:e≠it) :
  Turn P w K (.Tuple elts x1 pos) (Ite1 l) [e,it] e (fun i h=>(∃ old,IsEnum h e it ((i+1:Nat):Int) old)/\h.IsListIter it l i) where
 mem:=by simp
 obj:=fun i h ⟨⟨old,he⟩,hi⟩ c hc=>by
  have q:c=e\/c=it:=by simpa using hc
  rcases q with rfl | rfl
  ·exact ⟨_,he,fun v q=>by cases q⟩
  ·obtain ⟨o,e,c,d⟩:=hi;exact ⟨o,e,fun v z=>by rw [d] at z;cases z⟩
 keep:=fun i h h' ⟨⟨old,he⟩,hi⟩ k=>⟨⟨old,k e (by simp) _ he⟩,hi.at fun o q=>k it (by simp) o q⟩
 item:=by
  intro X hP hw hK hc i pins s σ H E I hf ⟨⟨old,he⟩,hi⟩ hg;subst hP hw hK;obtain ⟨xs,x,e1,hx⟩:=hg;obtain ⟨its1,rv1,p1,_⟩:=I.list (SqL.of (K:=X.K) e1);obtain ⟨u1,hu1,r1⟩:=rv1.get hx;have hlt:i<its1.length:=(qa5.mp hu1).1;obtain ⟨ol,gl,cl,_⟩:=p1.isList;have nli:l≠it:=fun q=>by
   obtain ⟨oi,gi,ci,_⟩:=hi;rw [q,gi] at gl
   cases gl
   rw [ci] at cl;exact absurd cl (by decide)
  have nle:e≠l:=fun q=>by
   rw [<- q,he] at gl
   cases gl
   exact absurd (show Value.type "enumerate"=Value.type "list" from cl) (by decide)
  refine wpAny_pyNext_enum_itemD (i:=i+1) (aok (A:=X.A.in1) (show X.A.in1.handled=none from I.ok.hd hc) nli its1.toArray) he ⟨by omega,by simpa using hi,p1.isList⟩ (by simp;omega) hne (by simp [hne,nle]) fun y h' tk py b1 b2 b3 b4 b5=>?_
  obtain rfl:u1=y:=by
   have:=py.2
   simp [hu1] at this;exact this
  refine ⟨_,rfl,wpAny_letOwnedTupleGo_enum b1 fun h2' c1 c2=>?_⟩;have hel:e<s.heap.objs.size:=Heap.lt_size he;have up:∀ c o,c≠e->h'.get? c=some o->h2'.get? c=some o:=fun c o hc q=>(c2.2 c hc).trans q
  have hT:=up _ _ (Nat.ne_of_gt hel) b3;have nT:∀ c∈[e,it],c≠s.heap.objs.size:=fun c hc=>by
   have q:c=e\/c=it:=by simpa using hc
   refine qaw ?_
   rcases q with rfl | rfl
   ·exact hel
   ·obtain ⟨o,q,_⟩:=hi;exact Heap.lt_size q
  refine ⟨.ref s.heap.objs.size,upd H s.heap.objs.size (.tup [.int (i+1:Nat),x]),I.turnNew (t':=tk+1) (ch:=[e,it]) hf (fun c u hc q=>?_) (qa2 _) ⟨by show 2<=sizeLine;decide,[.int (i+1:Nat) tk,u1],.cons ⟨_,rfl⟩ (.cons r1 .nil),?_⟩,rfl,⟨_,xs,x,e1,hx,I.fresh,rfl,rfl⟩,
   ⟨⟨_,c1⟩,(show h'.IsListIter it l (i+1) by simpa using b2.2.1).at fun o q=>up _ o hne.symm q⟩,fun c hc=>by rw [aah (nT c hc)];exact (hf c hc).1⟩
  ·have q1:c≠e/\c≠it:=⟨fun q=>hc (by simp [q]),fun q=>hc (by simp [q])⟩
   exact up c u q1.1 (b5 c u q1.1 q1.2 q)
  ·exact ⟨_,hT,rfl,_,rfl⟩
 done:=by
  intro X hP hw hK hc i pins s σ H E I hf ⟨⟨old,he⟩,hi⟩ hg;subst hP hw hK;obtain ⟨xs,e1,hend⟩:=hg;obtain ⟨its1,rv1,p1,_⟩:=I.list (SqL.of (K:=X.K) e1);have q1:=rv1.length;obtain ⟨f0,f1,f2,f3,f4,f5⟩:=hf it (by simp);exact wpAny_pyNext_enum_endD (aol (A:=X.A.in1) (show X.A.in1.handled=none from I.ok.hd hc) (ys:=its1.toArray) (i:=i) (by simp;omega)) he ⟨rfl,hi,p1.isList⟩ fun h' eb=>⟨rfl,I.turned (t':=s.toks) (fun b o hb q=>eb b o hb q) f0 f1 f3 f4 f5⟩
 self:=fun _ _ _ _ _ st h=>by
  obtain ⟨⟨old,he⟩,_⟩:=st;exact wpAny_pyIter_enum he h
theorem ajb:bootBuiltins "enumerate"=some (.type "enumerate"):=by decide +kernel
section
variable {X:Cx}
noncomputable def ajc (ta:TA):TI:=fun σ H R=>ta σ H fun vs H1=>∃ (l:Addr) (xs:List V),vs=[.ref l]/\H1 l=some (.lst xs)/\R (Ite1 l) H1
theorem akK{a:Expr}{p pos:Pos}(hg:Gl X "enumerate")(hm:X.mg "enumerate"=none)(ha:PA X [a] ta)(h1:aaN a=false:=by rfl) :
  PI X (.Tuple elts x1 tpos) (.Call (.Name "enumerate" p) [a] [⟨some "start",.Constant (.int 1) ck cpos,kpos⟩] pos) (ajc ta):=by
 intro pins s σ H R I h;refine wpAny_Call_Name_kw (adA I hg hm ajb (PySem.W.callWith_of (P:=fun _=>True) ?_ (fun _ _=>⟨_,.inr (.inl rfl),PySem.W.Looks.of_pure rfl⟩) (PyProof.Rows.evalArgs_kw2 rfl (thn (ha pos pins s σ H _ I h) fun us s1 ⟨vs,H1,I1,r1,q1⟩=>?_) (aay h1))))
 ·rw [aay h1];rfl
 have kw:PK X [⟨some "start",.Constant (.int 1) ck cpos,kpos⟩] (tCons (tC (.int 1)) tNil):=alF akW anr;refine thn (kw pos pins s1 σ H1 (fun zs H2=>zs=[.int 1]/\H2=H1) I1 ⟨rfl,rfl⟩) fun ws s2 ⟨zs,H2,I2,rz,e1,e2⟩=>⟨trivial,?_⟩
 subst e1 e2;obtain ⟨l,xs,rfl,e1,q⟩:=q1;obtain ⟨u1,rfl,ru1⟩:=vals1 r1
 cases ru1
 obtain ⟨u2,rfl,ru2⟩:=vals1 rz;obtain ⟨t,rfl⟩:=ru2;obtain ⟨its1,rv1,p1,_⟩:=I2.list (SqL.of (K:=X.K) e1);refine aeg p1.isList (by decide) fun h' z1 z2 z4=>wpAny_pyIter_enum z1 ?_
 refine ⟨s2.heap.objs.size+1,[s2.heap.objs.size+1,s2.heap.objs.size],_,_,H2,rfl,I2.kept (t':=s2.toks) z4,ahX _ s2.heap.objs.size l (acA (by omega)),⟨⟨_,z1⟩,z2⟩,fun b hb=>?_,q⟩;have hb':s2.heap.objs.size<=b:=by
  have e:b=s2.heap.objs.size+1\/b=s2.heap.objs.size:=by simpa using hb
  rcases e with rfl | rfl
  ·exact qb0 _ _
  ·exact qa2 _
 exact I2.fpOk hb' (I2.hok.fresh hb')
theorem akL{a:Expr}{p pos:Pos}(hm:X.mg "enumerate"=none)(ha:QA X [a] ta)(hg:Gl X "enumerate":=by rfl)(h1:aaN a=false:=by rfl) :
  QI X (.Tuple elts x1 tpos) (.Call (.Name "enumerate" p) [a] [⟨some "start",.Constant (.int 1) ck cpos,kpos⟩] pos) (ajc ta):=⟨akK hg hm ha.out h1⟩
end
theorem ajd{R:It->Hp->Prop} : ajc ta σ H R=ta σ H fun vs H1=>∃ (l:Addr) (xs:List V),vs=[.ref l]/\H1 l=some (.lst xs)/\R (Ite1 l) H1:=rfl
theorem forE1{l:Addr}(Pv:Nat->St->Hp->Prop)(h0:Pv 0 σ H)(hl:∀ i σ H,Pv i σ H->H l=some (.lst xs))(hs:∀ i x t σ H,xs[i]?=some x->Pv i σ H->H t=none->g (.ref t) σ (upd H t (.tup [.int (i+1:Nat),x])) fun σ2 H2=>tb { D with nx:=Pv (i+1),ct:=Pv (i+1),bk:=D.nx } σ2 H2)(hd:∀ σ H,Pv xs.length σ H->D.nx σ H):ForIt (Ite1 l) g tb D σ H:=by
 refine ⟨fun i m σ H=>m=xs.length-i/\i<=xs.length/\Pv i σ H,⟨xs.length,by simp,qar _,h0⟩,?_⟩;rintro i m σ H ⟨rfl,hi,p⟩;have e1:=hl i σ H p
 by_cases hlt:i<xs.length
 ·refine .inr ⟨⟨xs,xs[i],e1,by simp⟩,Pv (i+1),fun σ' H' p'=>⟨_,by omega,rfl,hlt,p'⟩,fun v H' y=>?_⟩;obtain ⟨t,xs',x,f1,hx,ht,rfl,rfl⟩:=y;rw [e1] at f1;cases f1;exact hs i x t σ H hx p ht
 ·have e:i=xs.length:=by omega
  subst e;exact .inl ⟨⟨xs,e1,by omega⟩,hd σ H p⟩
end L2
set_option maxRecDepth 100000
namespace L2
open PySem PySem.Spec PyProof.Rows
noncomputable def afg:V->List V->Hp->VK->Prop:=fun x vs H Q=>∃ (l:Addr) (zs:List Int) (z:Int),x=.ref l/\vs=[.int z]/\H l=some (.lst (zs.map V.int))/\z∈zs/\Q .non (upd H l (.lst ((zs.erase z).map V.int)))
theorem aeQ:∀ {vs:List Value} {zs:List Int},IntsAre vs zs->∀ {j:Nat} {z:Int},zs[j]?=some z->∃ t,vs[j]?=some (.int z t)
 | _,_,.nil,_,_,h=>by simp at h
 | _,_,.cons _ _ _,0,_,h=>by simp at h;subst h;exact ⟨_,rfl⟩
 | _,_,.cons _ _ r,j+1,z,h=>by
  obtain ⟨t,q⟩:=aeQ r (j:=j) (z:=z) (by simpa using h);exact ⟨t,by simpa using q⟩
theorem ahY : MtM X "list.remove" afg:=by
 intro pins s σ H x vs v us Q I rx rv h;obtain ⟨l,zs,zz,rfl,rfl,hH,hm,q⟩:=h
 cases rx
 obtain ⟨u,rfl,ru⟩:=rv.one;obtain ⟨t,rfl⟩:=ru;obtain ⟨z,its,n,r,hl,e⟩:=I.lstM hH;have sa:=aeH r;have hj:zs.idxOf zz<zs.length:=qb4.mpr hm;rw [qa0] at hl;have hat:∀ (j:Nat) (hj:j<its.toArray.size),∃ y t',zs[j]?=some y/\its.toArray[j]=.int y t':=fun j hj'=>by
  have hj2:j<zs.length:=by rw [hl];simpa using hj'
  obtain ⟨t',ht⟩:=aeQ sa (j:=j) (z:=zs[j]) (by simp);refine ⟨zs[j],t',by simp,?_⟩
  have:=(qa5.mp ht).2
  simpa using this
 have hsz:zs.idxOf zz<its.toArray.size:=by rw [qai,<- hl];exact hj
 refine call_meets F.slot_list_remove ⟨_,e,rfl⟩ F.entry_list_remove (F.args_list_remove_2 _ _)
  (MeetsSeq.list_remove l its.toArray n (.int zz t) (isInt zz) (fun y hy=>eq_isInt zz t sa y (by simpa using hy)) (zs.idxOf zz) hsz ?_ (fun m hm2 hlt=>?_) (by rw [qai,<- hl];rw [qa0] at z;exact z)) ⟨e,?_⟩
 ·obtain ⟨y,t',h1,h2⟩:=hat _ hsz;rw [h2]
  have:y=zz:=by
   have:=qbE hj
   rw [qa3 hj,this] at h1;exact (Option.some.inj h1).symm
  subst this;simp [isInt]
 ·obtain ⟨y,t',h1,h2⟩:=hat _ hm2;rw [h2]
  have:y≠zz:=fun q=>by
   obtain ⟨h3,h4⟩:=qa5.mp h1
   have:=List.not_of_lt_findIdx (show m<zs.findIdx (· == zz) from hlt)
   rw [h4] at this;simp [q] at this
  simp [isInt,this]
 ·refine ⟨.non,_,I.lset (its':=its.eraseIdx (zs.idxOf zz)) hH e ?_ ?_ ?_,rfl,q⟩
  ·show its.toArray.eraseIdxIfInBounds (zs.idxOf zz)=_;rw [List.eraseIdxIfInBounds_toArray]
  ·rw [List.erase_eq_eraseIdx_of_idxOf (l:=zs) (a:=zz) (w:=rfl),afX];exact r.eraseIdx _
  ·rw [qa0,List.length_erase_of_mem hm];rw [qa0] at z;omega
theorem aje : QMt X "list.remove" afg:=⟨fun pins s σ H x xs v us Q I rx rv h=>ahY pins s σ H x xs v us Q I rx rv h⟩
theorem aom{l:Addr}{zs:List Int}{z:Int}(h:H l=some (.lst (zs.map V.int)))(hm:z∈zs)(q:Q .non (upd H l (.lst ((zs.erase z).map V.int)))):afg (.ref l) [.int z] H Q:=⟨l,zs,z,rfl,rfl,h,hm,q⟩
noncomputable def rMinL:List V->Hp->VK->Prop:=fun xs H Q=>∃ (p:Addr) (ns:List Int),xs=[.ref p]/\H p=some (.lst (ns.map V.int))/\ns≠[]/\∀ M:Int,M∈ns->(∀ a∈ns,M<=a)->Q (.int M) H
theorem ajf(hc:X.calm=true):CallR X (.builtin "min") rMinL:=by
 intro pins s σ H xs us Q I r h;obtain ⟨p,ns,rfl,hH,hne,q⟩:=h;obtain ⟨u,rfl,ru⟩:=vals1 r
 cases ru
 obtain ⟨z,its,n,rr,hl,e⟩:=I.lstM hH;have hi:=aeH rr;have hL:s.heap.IsList p its.toArray:=⟨_,e,rfl,n,rfl⟩
 obtain ⟨ys,e2⟩:=hi.allInts.items;have hns:ns=ys.toList.map (·.1):=by rw [<- hi.numsOf,<- nums_intItems,<- e2]
 have hsz:0<ys.size:=by
  have h3:=List.length_pos_iff.mpr hne;rw [hns,qa0,qba] at h3;exact h3
 rw [e2] at hL;refine min_intList (I.ok.hd hc) hL hsz fun v h' tk hv hk=>?_
 obtain ⟨t,rfl⟩:=intItems_at hv;obtain ⟨h1,h2⟩:=argBest_lt (numAt ys) (ys.size-1);refine ⟨.int _,H,I.kept hk,⟨t,rfl⟩,q _ ?_ fun a ha=>?_⟩
 ·rw [hns,numAt_eq];exact getD_mem (by rw [qa0,qba];omega)
 ·rw [hns] at ha;obtain ⟨j,hj,rfl⟩:=mem_getD ha;rw [qa0,qba] at hj;rw [<- numAt_eq];exact h2 j (by omega)
theorem aon(hc:X.calm=calm:=by rfl):QCall X (.builtin "min") (rCalm calm rMinL):=⟨fun pins s σ H xs us Q I r h=>ajf (hc.trans h.1) pins s σ H xs us Q I r h.2⟩
theorem aoo{p:Addr} : rMinL [.ref p] H Q=∃ ns:List Int,H p=some (.lst (ns.map V.int))/\ns≠[]/\∀ M:Int,M∈ns->(∀ a∈ns,M<=a)->Q (.int M) H:=
 propext ⟨fun ⟨_,ns,e,h⟩=>(by cases e;exact ⟨ns,h⟩),fun ⟨ns,h⟩=>⟨p,ns,rfl,h⟩⟩
noncomputable def CW2 (n:Nat) (fr:St) (Pv:Nat->List V->Hp->Prop) (i:Nat) (ys:List V) (σ2:St) (H2:Hp):Prop:=i<=n/\ys.length<=i/\(∃ v w,σ2=v::w::fr)/\Pv i ys H2
theorem CW2.put{fr:St}{Pv:Nat->List V->Hp->Prop}{o o2:Option V}(hi:i<n)(hy:ys.length<=i)(p:Pv (i+1) (ys++[y]) H):CW2 n fr Pv (i+1) (ys++[y]) (o::o2::fr) H:=
 ⟨hi,by rw [qa1,qag];omega,⟨_,_,rfl⟩,p⟩
theorem compE{l:Addr}(fr:St)(hfr:compStart 2 ixs σ=none::none::fr)(Pv:Addr->Nat->List V->Hp->Prop)(h0:∀ D,H1 D=none->Pv D 0 [] (upd H1 D (.lst [])))(hl:∀ D i ys H,H1 D=none->i<=xs.length->Pv D i ys H->H l=some (.lst xs))(hs:∀ D i x t ys H,H1 D=none->i<xs.length->xs[i]?=some x->Pv D i ys H->H D=some (.lst ys)->ys.length<=i->H t=none->c (some (.int i)::some x::fr) (upd H t (.tup [.int i,x])) fun b H4=>
   if b=true then te (some (.int i)::some x::fr) H4 fun y H5=>H5 D=some (.lst ys)/\ys.length<sizeLine/\CW2 xs.length fr (Pv D) (i+1) (ys++[y]) (some (.int i)::some x::fr) (upd H5 D (.lst (ys++[y])))
   else H4 D=some (.lst ys)/\CW2 xs.length fr (Pv D) (i+1) ys (some (.int i)::some x::fr) H4)(hd:∀ D ys H,H1 D=none->Pv D xs.length ys H->H D=some (.lst ys)->ys.length<=xs.length->Q (.ref D) H):ad7 (Ite l) 2 ixs (gTup K 2 (gCons (gName 0) (gCons (gName 1) gNil))) c te σ Q H1:=by
 intro D hD;refine ⟨xs.length,CW2 xs.length fr (Pv D),⟨qar _,qar _,⟨none,none,hfr⟩,h0 D hD⟩,?_⟩;rintro i ys σ2 H2 ⟨hi,hy,⟨v,w,rfl⟩,p⟩ hDy;have q:=hl D i ys H2 hD hi p
 by_cases hlt:i<xs.length
 ·refine .inr ⟨hlt,⟨xs,xs[i],q,by simp [hlt]⟩,fun x H' y=>?_⟩;obtain ⟨t,xs',x',f1,hx,ht,rfl,rfl⟩:=y;rw [q] at f1;cases f1;exact ⟨t,_,rfl,SqT.of aaa,rfl,_,_,rfl,_,_,rfl,rfl,hs D i x' t ys H2 hD hlt hx p hDy hy ht⟩
 ·have e:i=xs.length:=by omega
  subst e;exact .inl ⟨⟨xs,q,qa2 _⟩,hd D ys H2 hD p hDy hy⟩
end L2
set_option maxRecDepth 100000
namespace L2
open PySem PySem.Spec PyProof.Rows
section
variable {X:Cx} {o value:Expr} {to tv:TE} {pos tpos:Pos} {st:Stmt} {t:TS} {h₀:ExceptHandler} {hs:List ExceptHandler}
end
end L2
set_option maxRecDepth 100000
namespace L2
open PySem PySem.Spec PyProof.Rows
theorem aop{p:Addr}{k:Int}{v:V}{Q:Hp->Prop} : rSetL (.ref p) (.int k) v H Q=∃ xs j,H p=some (.lst xs)/\ixN xs.length k=some j/\Q (upd H p (.lst (xs.set j v))):=
 propext ⟨fun ⟨_,xs,_,j,e1,e2,h⟩=>(by cases e1;cases e2;exact ⟨xs,j,h⟩),fun ⟨xs,j,h⟩=>⟨p,xs,k,j,rfl,rfl,h⟩⟩
end L2
set_option maxRecDepth 100000
namespace L2
open PySem PySem.Spec PyProof.Rows
noncomputable def FS (ts bad:List Str) (z:Str->Prop) (fr:List Int):Prop:=fr.Nodup/\∀ n:Int,n∈fr↔∃ (m:Nat) (q:Str),n=(m:Int)/\ts[m]?=some q/\q∉bad/\z q
theorem FS.nil(z:Str->Prop):FS [] [] z []:=⟨by simp,fun n=>by simp⟩
theorem FS.snoc{fr:List Int}{z:Str->Prop}(h:FS ts bad z fr)(hi:i=ts.length)(hb:q∉bad):(z q->FS (ts++[q]) bad z (fr++[(i:Int)]))/\(¬ z q->FS (ts++[q]) bad z fr):=by
 have hin:∀ (m:Nat) (x:Str),(ts++[q])[m]?=some x↔(ts[m]?=some x\/(m=i/\x=q)):=fun m x=>by
  rcases Nat.lt_trichotomy m ts.length with hm | hm | hm
  ·rw [qb2 hm]
   constructor
   ·exact .inl
   ·rintro (h | ⟨h,_⟩)
    ·exact h
    ·omega
  ·subst hm;rw [qaR (qa2 _),Nat.sub_self]
   have:ts[ts.length]?=none:=by simp
   rw [this];simp [hi,eq_comm]
  ·have h1:ts[m]?=none:=by simp;omega
   have h2:(ts++[q])[m]?=none:=by simp;omega
   rw [h1,h2]
   simp
   omega
 have hno:(i:Int)∉fr:=fun hm=>by
  obtain ⟨m,x,e,h1,_⟩:=(h.2 _).mp hm
  have:=(qa5.mp h1).1
  omega
 refine ⟨fun hz=>⟨?_,fun n=>?_⟩,fun hz=>⟨h.1,fun n=>?_⟩⟩
 ·rw [qaX];refine ⟨h.1,by simp,fun x hx y hy e=>hno ?_⟩;rw [<- qa7.mp hy,<- e];exact hx
 ·rw [qa6,h.2,qa7]
  constructor
  ·rintro (⟨m,x,e,h1,h2,h3⟩ | rfl)
   ·exact ⟨m,x,e,(hin m x).mpr (.inl h1),h2,h3⟩
   ·exact ⟨i,q,rfl,(hin i q).mpr (.inr ⟨rfl,rfl⟩),hb,hz⟩
  ·rintro ⟨m,x,e,h1,h2,h3⟩
   rcases (hin m x).mp h1 with h1 | ⟨rfl,rfl⟩
   ·exact .inl ⟨m,x,e,h1,h2,h3⟩
   ·exact .inr e
 ·rw [h.2]
  constructor
  ·rintro ⟨m,x,e,h1,h2,h3⟩;exact ⟨m,x,e,(hin m x).mpr (.inl h1),h2,h3⟩
  ·rintro ⟨m,x,e,h1,h2,h3⟩
   rcases (hin m x).mp h1 with h1 | ⟨rfl,rfl⟩
   ·exact ⟨m,x,e,h1,h2,h3⟩
   ·exact absurd h3 hz
theorem ahg(nd:ts.Nodup)(h1:ts[i]?=some q)(h2:ts[j]?=some q):i=j:=by
 obtain ⟨a1,b1⟩:=qa5.mp h1;obtain ⟨a2,b2⟩:=qa5.mp h2
 have:=qaI.mp nd
 rw [qaV] at this
 rcases Nat.lt_trichotomy i j with hl | hl | hl
 ·exact absurd (b1.trans b2.symm) (this i j a1 a2 hl)
 ·exact hl
 ·exact absurd (b2.trans b1.symm) (this j i a2 a1 hl)
theorem FS.take{fr:List Int}{z:Str->Prop}(nd:ts.Nodup)(h:FS ts bad z fr){M:Nat}(hp:ts[M]?=some p):FS ts (bad++[p]) z (fr.erase (M:Int)):=by
 refine ⟨h.1.erase _,fun n=>?_⟩;rw [h.1.mem_erase_iff,h.2]
 constructor
 ·rintro ⟨hne,m,x,e,h1,h2,h3⟩;refine ⟨m,x,e,h1,fun hm=>?_,h3⟩
  rcases qa6.mp hm with hm | hm
  ·exact h2 hm
  ·rw [qa7.mp hm] at h1;exact hne (by rw [e,ahg nd h1 hp])
 ·rintro ⟨m,x,e,h1,h2,h3⟩;refine ⟨fun e2=>h2 ?_,m,x,e,h1,fun hm=>h2 (qaq _ hm),h3⟩
  have:m=M:=by omega
  subst this;rw [hp] at h1;cases h1
  simp
theorem FS.turn{fr:List Int}{z z':Str->Prop}(nd:ts.Nodup)(h:FS ts bad z fr){y:Str}(hne:∀ q,q≠y->(z' q↔z q))(hy:¬ z y)(hm:ts[m]?=some y)(hb:y∉bad):(z' y->FS ts bad z' (fr++[(m:Int)]))/\(¬ z' y->FS ts bad z' fr):=by
 have hno:(m:Int)∉fr:=fun h1=>by
  obtain ⟨k,x,e,h2,_,h3⟩:=(h.2 _).mp h1
  have:k=m:=by omega
  subst this;rw [hm] at h2;cases h2;exact hy h3
 have hcase:∀ (k:Nat) (x:Str),ts[k]?=some x->x≠y\/(k=m/\x=y):=fun k x hk=>by
  by_cases e:x=y
  ·subst e;exact .inr ⟨ahg nd hk hm,rfl⟩
  ·exact .inl e
 refine ⟨fun hz=>⟨?_,fun n=>?_⟩,fun hz=>⟨h.1,fun n=>?_⟩⟩
 ·rw [qaX];refine ⟨h.1,by simp,fun x hx w hw e=>hno ?_⟩;rw [<- qa7.mp hw,<- e];exact hx
 ·rw [qa6,h.2,qa7]
  constructor
  ·rintro (⟨k,x,e,h1,h2,h3⟩ | rfl)
   ·rcases hcase k x h1 with c | ⟨_,rfl⟩
    ·exact ⟨k,x,e,h1,h2,(hne x c).mpr h3⟩
    ·exact absurd h3 hy
   ·exact ⟨m,y,rfl,hm,hb,hz⟩
  ·rintro ⟨k,x,e,h1,h2,h3⟩
   rcases hcase k x h1 with c | ⟨rfl,rfl⟩
   ·exact .inl ⟨k,x,e,h1,h2,(hne x c).mp h3⟩
   ·exact .inr e
 ·rw [h.2]
  constructor
  ·rintro ⟨k,x,e,h1,h2,h3⟩
   rcases hcase k x h1 with c | ⟨_,rfl⟩
   ·exact ⟨k,x,e,h1,h2,(hne x c).mpr h3⟩
   ·exact absurd h3 hy
  ·rintro ⟨k,x,e,h1,h2,h3⟩
   rcases hcase k x h1 with c | ⟨_,rfl⟩
   ·exact ⟨k,x,e,h1,h2,(hne x c).mp h3⟩
   ·exact absurd h3 hz
theorem FS.congr{fr:List Int}{z z':Str->Prop}(h:FS ts bad z fr)(e:∀ q,z' q↔z q):FS ts bad z' fr:=⟨h.1,fun n=>by rw [h.2];exact ⟨fun ⟨m,x,a,b,c,d⟩=>⟨m,x,a,b,c,(e x).mpr d⟩,fun ⟨m,x,a,b,c,d⟩=>⟨m,x,a,b,c,(e x).mp d⟩⟩⟩
theorem agA{E:List (Str×Str)}{fr:List Int}(h:FS ts line (fun q=>cnt E line q=0) fr){M:Int}(hM:M∈fr)(hmin:∀ a∈fr,M<=a):∃ (m:Nat) (p:Str),M=(m:Int)/\ts[m]?=some p/\nextP E ts line=some p:=by
 obtain ⟨m,p,e,h1,h2,h3⟩:=(h.2 M).mp hM;refine ⟨m,p,e,h1,?_⟩;rw [aeO];obtain ⟨hm,rfl⟩:=qa5.mp h1;have e1:ts=ts.take m++ts[m]::ts.drop (m+1):=by rw [<- List.drop_eq_getElem_cons hm,qaA]
 generalize hP:(fun p=>!decide (p∈line)&&decide (∀ e∈E,e.2=p->e.1∈line))=P;have hp:P ts[m]=true:=by
  rw [<- hP];simp only [qav,qbJ,decide_eq_false_iff_not,decide_eq_true_eq];exact ⟨h2,cnt_zero.mp h3⟩
 have hnone:(ts.take m).find? P=none:=by
  rw [List.find?_eq_none];intro x hx hxP;obtain ⟨k,hk,rfl⟩:=qay.mp hx;rw [qaf] at hk;rw [List.getElem_take,<- hP] at hxP;simp only [qav,qbJ,decide_eq_false_iff_not,decide_eq_true_eq] at hxP
  have:=hmin (k:Int) ((h.2 _).mpr ⟨k,ts[k],rfl,by simp,hxP.1,cnt_zero.mpr hxP.2⟩)
  omega
 conv=>lhs;rw [e1]
 rw [List.find?_append,hnone,qb3,hp];rfl
theorem akM{E:List (Str×Str)}(r:Run E ts line)(h:q∈line):cnt E line q=0:=by
 obtain ⟨pre,post,rfl⟩:=List.append_of_mem h
 have:=(acu (r pre q post rfl)).2.2
 rw [cnt_zero] at this ⊢
 intro e he h2;exact qaq _ (this e he h2)
theorem af7{f:Str->V} : ∀ {ts pre:List Str},(pre++ts).Nodup->abR (kvN pre f) (kvN ts f)=kvN (pre++ts) f
 | [],pre,_=>by rw [qah];rfl
 | t::ts,pre,h=>by
  have ht:t∉pre:=fun hm=>(qaX.mp h).2.2 t hm t qac rfl
  show abR (putK (kvN pre f) (Sum.inr t) (f t)) (kvN ts f)=_;rw [acJ _ ht,show kvN (pre++[t]) (fun x=>if x=t then f t else f x)=kvN (pre++[t]) f from aaF fun x _=>by
   by_cases e:x=t
   ·rw [if_pos e,e]
   ·rw [if_neg e]]
  rw [af7 (pre:=pre++[t]) (by simpa using h)]
  simp
theorem aeR:∀ {l m:List Int},l.Nodup->(∀ x∈l,x∈m)->l.length<=m.length
 | [],_,_,_=>qar _
 | x::l,m,nd,h=>by
  obtain ⟨n1,n2⟩:=qax.mp nd;have hx:=h x qac
  have:=aeR (l:=l) (m:=m.erase x) n2 fun y hy=>(List.mem_erase_of_ne (fun e=>n1 (by rw [<- e];exact hy))).mpr (h y (qa9 _ hy))
  rw [List.length_erase_of_mem hx] at this;have hpos:=List.length_pos_of_mem hx;rw [qad];omega
theorem ahh{f:Str->V} : ∀ {qs:List Addr} {ts:List Str},Paired (fun q t=>H q=some (.tup [.str t,f t])) qs ts->Paired (fun q (kx:Key×V)=>SqT K H q [kV kx.1,kx.2]) qs (kvN ts f)
 | _,_,.nil=>.nil
 | _,_,.cons h t=>.cons (.of h) (ahh t)
noncomputable def ald:Sp:=fun vs H Q _=>∃ (a:Addr) (rs:List Addr) (zss:List (List Str)),vs=[.ref a]/\IsRows H a rs zss/\zss.flatten.length<=100000/\
 ∀ l H',H l=none->Same H H'->H' l=some (.lst ((toldL zss).map V.str))->Q (.ref l) H'
noncomputable def af8:Sp:=fun vs H Q _=>∃ c,vs=[.str ⟨#[c]⟩]/\Q (.bl (figO c)) H
noncomputable def aaK (R:List Rl):List (Str×List Str):=R.filterMap fun z=>if z.1=("great" : Str) then z.2.head?.map fun y=>(y,z.2.drop 1) else none
noncomputable def aar (R:List Rl):List Str:=dds [] ((aaK R).map (·.1))
noncomputable def aak (R:List Rl) (y:Str):List Str:=((aaK R).filter fun e=>decide (e.1=y)).flatMap (·.2)
theorem abJ(A B:List Rl):aaK (A++B)=aaK A++aaK B:=by
 unfold aaK;rw [List.filterMap_append]
theorem acv{R:List Rl}{z:Rl}(h:R[i]?=some z):aaK (R.take (i+1))=aaK (R.take i)++aaK [z]:=by
 rw [aap h,abJ]
theorem acg{z:Rl}(h:z.1≠("great" : Str)):aaK [z]=[]:=by
 unfold aaK;rw [qbb,if_neg h];rfl
theorem acW{y:Str}{fs:List Str} : aaK [(("great" : Str),y::fs)]=[(y,fs)]:=by
 unfold aaK;rw [qbb,if_pos rfl];rfl
theorem abZ{A:List Rl}{y:Str}{fs:List Str}(x:Str):aak (A++[(("great" : Str),y::fs)]) x=if x=y then aak A x++fs else aak A x:=by
 unfold aak;rw [abJ,acW,qbf,qaK]
 by_cases h:x=y
 ·subst h;simp
 ·have:¬ (y=x):=fun e=>h e.symm
  simp [this,h]
theorem acw{A:List Rl}{y:Str}{fs:List Str} : aar (A++[(("great" : Str),y::fs)])=dd (aar A) y:=by
 unfold aar dds;rw [abJ,acW,qa4,qbk];rfl
noncomputable def ahi (K:PySem.W.Frag):Sp:=fun vs H Q _=>∃ (a:Addr) (ts:List Addr) (R:List Rl),vs=[.ref a]/\IsRules H a ts R/\(∀ z∈R,z.1=("great" : Str)->z.2≠[])/\R.length<=1000/\(∀ i y,(aak (R.take i) y).length<=10000)/\
 ∀ d ad H',H d=none->Same H H'->H' d=some (.dK (kvN (aar R) fun y=>.ref (ad y)))->DL H H' (aar R) ad (aak R)->Q (.ref d) H'
theorem afh(xs:List V)(h:i<=j):cutV xs (some (i:Int)) (some (j:Int))=(xs.drop i).take (j-i):=by
 unfold cutV;rw [HT.sIx_nat,HT.sIx_nat]
 by_cases hi:i<=xs.length
 ·rw [qbw hi]
  by_cases hj:j<=xs.length
  ·rw [qbw hj]
  ·rw [Nat.min_eq_right (by omega),qaF (by rw [qaW];exact qa2 _),qaF (by rw [qaW];omega)]
 ·rw [Nat.min_eq_right (by omega:xs.length<=i),qbH (qa2 _),qbH (by omega),List.take_nil,List.take_nil]
structure Used(ks:List Str)(g:Str->V)(z:Rl):Prop where
 gr:z.1=("great" : Str)->∀ p∈z.2.take 1,p∈ks/\g p=.str "letter"
 a1:z.1=("as" : Str)->∀ p∈(z.2.drop 1).take 1,p∈ks/\g p=.str "letter"
 a2:z.1=("as" : Str)->∀ p∈z.2.drop 2,p∈ks/\(g p=.str "letter"\/g p=.str "mark")
noncomputable def ale (K:PySem.W.Frag):Sp:=fun vs H Q _=>∃ (t d:Addr) (z:Rl) (ks:List Str) (g:Str->V),vs=[.ref t,.ref d]/\H t=some (tupR z)/\H d=some (.dK (kvN ks g))/\Used ks g z/\z.2.length<=1000/\∀ p H',H p=none->Same H H'->H' p=some (.lst [])->Q (.ref p) H'
noncomputable def ahj (K:PySem.W.Frag):Sp:=fun vs H Q _=>∃ (a d:Addr) (ts:List Addr) (R:List Rl) (ks:List Str) (g:Str->V),vs=[.ref a,.ref d]/\IsRules H a ts R/\H d=some (.dK (kvN ks g))/\(∀ z∈R,Used ks g z/\z.2.length<=1000)/\∀ H',Same H H'->Q .non H'
noncomputable abbrev Tr:=Int×Int×Int
noncomputable def tupT (s:Tr):HO:=.tup [.int s.1,.int s.2.1,.int s.2.2]
structure StepAt(H:Hp)(r:Addr)(ss:List Tr):Prop where
 ex:∃ ts:List Addr,H r=some (.tup (ts.map V.ref))/\Paired (fun t s=>H t=some (tupT s)) ts ss
theorem StepAt.same{ss:List Tr}(h:StepAt H r ss)(S:Same H H'):StepAt H' r ss:=
 let ⟨ts,h1,h2⟩:=h.ex
 ⟨ts,S _ _ h1,uam h2 fun _ _ e=>S _ _ e⟩
theorem StepAt.put{d:Addr}{ss:List Tr}{o o':HO}(h:StepAt H r ss)(hd:H d=some o')(hn:∀ xs,o'≠.tup xs):StepAt (upd H d o) r ss:=by
 obtain ⟨ts,h1,h2⟩:=h.ex;refine ⟨ts,?_,uam h2 fun t s e=>?_⟩
 ·rw [aah (fun e=>by rw [e,hd] at h1;exact hn _ (Option.some.inj h1))];exact h1
 ·rw [aah (fun q=>by rw [q,hd] at e;exact hn _ (Option.some.inj e))];exact e
theorem StepAt.one{t:Addr}{s:Tr}(h1:H r=some (.tup [.ref t]))(h2:H t=some (tupT s)):StepAt H r [s]:=⟨[t],h1,.cons h2 .nil⟩
noncomputable def IsMade (H:Hp) (d:Addr) (ks:List Str) (F:Str->List Tr):Prop:=∃ ad:Str->Addr,H d=some (.dK (kvN ks fun y=>.ref (ad y)))/\∀ y∈ks,StepAt H (ad y) (F y)
theorem IsMade.same{d:Addr}{F:Str->List Tr}(h:IsMade H d ks F)(S:Same H H'):IsMade H' d ks F:=
 let ⟨ad,h1,h2⟩:=h
 ⟨ad,S _ _ h1,fun y hy=>(h2 y hy).same S⟩
theorem IsMade.put{d:Addr}{F:Str->List Tr}{ad:Str->Addr}(h1:H d=some (.dK (kvN ks fun y=>.ref (ad y))))(h2:∀ y∈ks,StepAt H (ad y) (F y)){l:Str}{p:Addr}(hp:StepAt H p (F l)) :
  IsMade (upd H d (.dK (putK (kvN ks fun y=>.ref (ad y)) (Sum.inr l) (.ref p)))) d (dd ks l) F:=by
 refine ⟨fun y=>if y=l then p else ad y,?_,fun y hy=>?_⟩
 ·rw [aaa];have e:∀ t,(if t=l then V.ref p else V.ref (ad t))=V.ref (if t=l then p else ad t):=fun t=>by
   by_cases h:t=l
   ·rw [if_pos h,if_pos h]
   ·rw [if_neg h,if_neg h]
  unfold dd
  by_cases hl:l∈ks
  ·rw [if_pos hl,aeb _ hl];exact congrArg (fun x=>some (HO.dK x)) (aaF fun t _=>e t)
  ·rw [if_neg hl,acJ _ hl];exact congrArg (fun x=>some (HO.dK x)) (aaF fun t _=>e t)
 ·by_cases h:y=l
  ·subst h;show StepAt _ (if y=y then p else ad y) _;rw [if_pos rfl];exact hp.put h1 (by intro xs e;cases e)
  ·show StepAt _ (if y=l then p else ad y) _;rw [if_neg h];refine (h2 y ?_).put h1 (by intro xs e;cases e);unfold dd at hy
   by_cases hl:l∈ks
   ·rw [if_pos hl] at hy;exact hy
   ·rw [if_neg hl] at hy
    rcases qa6.mp hy with q | q
    ·exact q
    ·exact absurd (qa7.mp q) h
structure StI(H H2:Hp)(d:Addr)(P:List Str)(F:Str->List Tr):Prop where
 same:Same H H2
 made:IsMade H2 d (dds [] P) F
theorem afi(P:List Str)(x:Str):dds [] (P++[x])=dd (dds [] P) x:=by
 unfold dds;rw [qbk];rfl
theorem StI.putX{d:Addr}{P:List Str}{F:Str->List Tr}(nd:H d=none)(h:StI H H2 d P F)(hP:P.length<100000){l:Str}{p:Addr}(hp:StepAt H2 p (F l)) :
  ∃ kvs o,H2 d=some (.dK kvs)/\DPut H2 d (V.str l) (V.ref p) (upd H2 d o)/\StI H (upd H2 d o) d (P++[l]) F:=by
 obtain ⟨ad,h1,h2⟩:=h.made;have hl:=acD P [];rw [qaG,Nat.zero_add] at hl;refine ⟨_,_,h1,uab (k:=Sum.inr l) h1 (by rw [abO];exact aaq (by omega)),h.same.put nd,?_⟩;rw [afi];exact IsMade.put h1 h2 hp
theorem StI.put{d:Addr}{P:List Str}{F:Str->List Tr}(nd:H d=none)(h:StI H H2 d P F)(hP:P.length<100000){l:Str}{p:Addr}(hp:StepAt H2 p (F l)) :
  ∃ x,DPut H2 d (V.str l) (V.ref p) x/\StI H x d (P++[l]) F:=
 let ⟨_,_,_,h1,h2⟩:=h.putX nd hP hp
 ⟨_,h1,h2⟩
theorem StI.more{d:Addr}{P:List Str}{F:Str->List Tr}(h:StI H H2 d P F)(S:Same H2 H3):StI H H3 d P F:=⟨h.same.trans S,h.made.same S⟩
theorem StI.frz{d:Addr}{P:List Str}{F:Str->List Tr}{o:HO}(h:StI H H2 d P F)(hf:H2 f=some (.dK kvs))(n:H f=none)(nf:f≠d):StI H (upd H2 f o) d P F:=
 let ⟨ad,h1,h2⟩:=h.made
 ⟨h.same.put n,ad,by rw [aah nf.symm];exact h1,fun y hy=>(h2 y hy).put hf (by intro xs e;cases e)⟩
theorem StI.thaw{d:Addr}{P:List Str}{F:Str->List Tr}{q:Obj}{o o':HO}(h:StI H H2 d P F)(hf:H2 f=some (.frz q o'))(n:H f=none)(nf:f≠d):StI H (upd H2 f o) d P F:=
 let ⟨ad,h1,h2⟩:=h.made
 ⟨h.same.put n,ad,by rw [aah nf.symm];exact h1,fun y hy=>(h2 y hy).put hf (by intro xs e;cases e)⟩
structure FoI(H H2:Hp)(d f:Addr)(o:Obj)(ts:List Str)(af:Str->Addr)(G:Str->List Str)(P:List Str)(F:Str->List Tr):Prop where
 frz:H2 f=some (.frz o (.dK (kvN ts fun y=>.ref (af y))))
 rows:∀ y∈ts,H2 (af y)=some (.lst ((G y).map V.str))
 st:StI H H2 d P F
theorem FoI.more{d:Addr}{af:Str->Addr}{G:Str->List Str}{P:List Str}{F:Str->List Tr}(h:FoI H H2 d f o ts af G P F)(S:Same H2 H3):FoI H H3 d f o ts af G P F:=⟨S _ _ h.frz,fun y hy=>S _ _ (h.rows y hy),h.st.more S⟩
theorem FoI.put{d:Addr}{af:Str->Addr}{G:Str->List Str}{P:List Str}{F:Str->List Tr}(nd:H d=none)(h:FoI H H2 d f o ts af G P F)(hP:P.length<100000){l:Str}{p:Addr}(hp:StepAt H2 p (F l)) :
  ∃ x,DPut H2 d (V.str l) (V.ref p) x/\FoI H x d f o ts af G (P++[l]) F:=by
 obtain ⟨kvs,o',h0,h1,h2⟩:=h.st.putX nd hP hp;refine ⟨_,h1,?_,fun y hy=>?_,h2⟩
 ·rw [aah (fun e=>by have:=h.frz;rw [e,h0] at this;cases this)];exact h.frz
 ·rw [aah (fun e=>by have:=h.rows y hy;rw [e,h0] at this;cases this)];exact h.rows y hy
theorem StI.putL{d:Addr}{P:List Str}{F:Str->List Tr}{o:HO}(h:StI H H2 d P F)(hf:H2 f=some (.lst xs))(n:H f=none):StI H (upd H2 f o) d P F:=
 let ⟨ad,h1,h2⟩:=h.made
 ⟨h.same.put n,ad,by rw [aah (fun e=>by rw [e,hf] at h1;cases h1)];exact h1,fun y hy=>(h2 y hy).put hf (by intro xs e;cases e)⟩
structure AsI(H H7 H2:Hp)(d:Addr)(P:List Str)(F:Str->List Tr)(ts:List Addr)(ss:List Tr):Prop where
 st:StI H H2 d P F
 pr:Paired (fun t s=>H2 t=some (tupT s)) ts ss
 sm:Same H7 H2
theorem AsI.putL{H7:Hp}{d:Addr}{P:List Str}{F:Str->List Tr}{ts:List Addr}{ss:List Tr}{o:HO}(h:AsI H H7 H2 d P F ts ss)(hf:H2 f=some (.lst xs))(n:H f=none)(n7:H7 f=none):AsI H H7 (upd H2 f o) d P F ts ss:=
 ⟨h.st.putL hf n,uam h.pr fun t s e=>by rw [aah (fun q=>by rw [q,hf] at e;cases e)];exact e,h.sm.put n7⟩
noncomputable def asKs (R:List Rl):List Str:=R.filterMap fun z=>if z.1=("as" : Str) then z.2.head? else none
theorem adj{R:List Rl}{z:Rl}(h:R[i]?=some z):asKs (R.take (i+1))=asKs (R.take i)++asKs [z]:=by
 rw [aap h];unfold asKs;rw [List.filterMap_append]
theorem agB{z:Rl}(h:z.1≠("as" : Str)):asKs [z]=[]:=by
 unfold asKs;rw [qbb,if_neg h];rfl
theorem afj{y:Str}{fs:List Str} : asKs [(("as" : Str),y::fs)]=[y]:=by
 unfold asKs;rw [qbb,if_pos rfl];rfl
theorem afk(R:List Rl):(asKs R).length<=R.length:=List.length_filterMap_le _ _
structure Made(R:List Rl)(L M:List Str)(F:Str->List Tr):Prop where
 lt:∀ (i:Nat) y,L[i]?=some y->F y=[(2,(i:Int),0)]
 mr:∀ (i:Nat) y,M[i]?=some y->F y=[(0,(i:Int),0)]
 gl:∀ y∈aar R,y∈L
 gr:∀ y∈aar R,∀ (c:Nat) f,(aak R y)[c]?=some f->F f=[(2,(L.idxOf y:Int),((c+1:Nat):Int))]
 ne:∀ z∈R,z.1=("as" : Str)\/z.1=("great" : Str)->z.2≠[]
 pt:∀ z∈R,z.1=("as" : Str)->∀ q∈z.2.drop 1,q∈L\/q∈M
 as:∀ z∈R,z.1=("as" : Str)->∀ p qs,z.2=p::qs->F p=qs.map fun q=>(F q).headD (0,0,0)
noncomputable def allKs (R:List Rl) (L M:List Str):List Str:=L++M++(aar R).flatMap (aak R)++asKs R
theorem Made.base{R:List Rl}{F:Str->List Tr}(m:Made R L M F)(h:q∈L\/q∈M):∃ s,F q=[s]:=by
 rcases h with h | h
 ·obtain ⟨i,hi,e⟩:=qay.mp h;exact ⟨_,m.lt i q (by rw [qa3 hi,e])⟩
 ·obtain ⟨i,hi,e⟩:=qay.mp h;exact ⟨_,m.mr i q (by rw [qa3 hi,e])⟩
theorem Made.letter{R:List Rl}{F:Str->List Tr}(m:Made R L M F)(h:q∈L):F q=[(2,(L.idxOf q:Int),0)]:=by
 have hi:=qb4.mpr h;exact m.lt (L.idxOf q) q (by rw [qa3 hi,qbE])
noncomputable def ahk (K:PySem.W.Frag):Sp:=fun vs H Q _=>∃ (a b c:Addr) (ts:List Addr) (R:List Rl) (L M:List Str) (F:Str->List Tr),vs=[.ref a,.ref b,.ref c]/\IsRules H a ts R/\Made R L M F/\H b=some (.lst (L.map V.str))/\H c=some (.lst (M.map V.str))/\(∀ z∈R,z.2.length<=1000)/\R.length<=1000/\(∀ i y,(aak (R.take i) y).length<=10000)/\(allKs R L M).length<=50000/\
 ∀ d H',H d=none->Same H H'->IsMade H' d (dds [] (allKs R L M)) F->Q (.ref d) H'
noncomputable def baseT (L M:List Str) (q:Str):Tr:=if q∈L then (2,(L.idxOf q:Int),0) else (0,(M.idxOf q:Int),0)
noncomputable def ajg (L M:List Str) (R:List Rl):List (Str×List Tr):=R.filterMap fun z=>if z.1=("as" : Str) then z.2.head?.map fun p=>(p,(z.2.drop 1).map (baseT L M)) else none
noncomputable def putsL (R:List Rl) (L M:List Str):List (Str×List Tr):=
 (L.zipIdx.map fun e=>(e.1,[((2:Int),(e.2:Int),(0:Int))]))++(M.zipIdx.map fun e=>(e.1,[((0:Int),(e.2:Int),(0:Int))]))++((aar R).flatMap fun y=>(aak R y).zipIdx.map fun e=>(e.1,[((2:Int),(L.idxOf y:Int),((e.2+1:Nat):Int))]))++ajg L M R
noncomputable def stepF (R:List Rl) (L M:List Str) (p:Str):List Tr:=((putsL R L M).lookup p).getD []
theorem ajh{s:List Tr} : ∀ {l:List (Str×List Tr)},(l.map (·.1)).Nodup->(p,s)∈l->l.lookup p=some s
 | [],_,h=>by cases h
 | (y,t)::l,nd,h=>by
  rw [qak,qax] at nd;rw [List.lookup_cons]
  rcases qaa.mp h with h | h
  ·obtain ⟨rfl,rfl⟩:=Prod.mk.inj h
   simp
  ·have:p≠y:=fun e=>nd.1 (qa8.mpr ⟨_,h,e⟩)
   have e:(p==y)=false:=by simpa using this
   rw [e];exact ajh nd.2 h
theorem af9(R:List Rl)(L M:List Str):(putsL R L M).map (·.1)=allKs R L M:=by
 have z:∀ (l:List Str) (f:Nat->List Tr),(l.zipIdx.map fun e=>(e.1,f e.2)).map (·.1)=l:=fun l f=>by
  rw [qb7];exact List.zipIdx_map_fst 0 l
 have a:(ajg L M R).map (·.1)=asKs R:=by
  unfold ajg asKs;rw [List.map_filterMap]
  congr 1
  funext z
  by_cases h:z.1=("as" : Str)
  ·rw [if_pos h,if_pos h]
   cases z.2 <;> rfl
  ·rw [if_neg h,if_neg h];rfl
 unfold putsL allKs;rw [qa4,qa4,qa4,z L fun i=>[(2,(i:Int),0)],z M fun i=>[(0,(i:Int),0)],a,List.map_flatMap]
 congr 2
 congr 1
 funext y
 exact z (aak R y) fun i=>[(2,(L.idxOf y:Int),((i+1:Nat):Int))]
theorem acX{R:List Rl}(nd:(allKs R L M).Nodup){s:List Tr}(h:(p,s)∈putsL R L M):stepF R L M p=s:=by
 unfold stepF;rw [ajh (by rw [af9];exact nd) h];rfl
theorem amF{R:List Rl}(nd:(allKs R L M).Nodup)(gl:∀ y∈aar R,y∈L)(ne:∀ z∈R,z.1=("as" : Str)\/z.1=("great" : Str)->z.2≠[])(pt:∀ z∈R,z.1=("as" : Str)->∀ q∈z.2.drop 1,q∈L\/q∈M):Made R L M (stepF R L M):=by
 have m1:∀ (i:Nat) y,L[i]?=some y->(y,[((2:Int),(i:Int),(0:Int))])∈putsL R L M:=fun i y h=>by
  refine qaq _ (qaq _ (qaq _ (qa8.mpr ⟨(y,i),?_,rfl⟩)));rw [List.mem_zipIdx_iff_getElem?];exact h
 have m2:∀ (i:Nat) y,M[i]?=some y->(y,[((0:Int),(i:Int),(0:Int))])∈putsL R L M:=fun i y h=>by
  refine qaq _ (qaq _ (qam _ (qa8.mpr ⟨(y,i),?_,rfl⟩)));rw [List.mem_zipIdx_iff_getElem?];exact h
 have hb:∀ q,q∈L\/q∈M->stepF R L M q=[baseT L M q]:=fun q hq=>by
  unfold baseT
  by_cases h:q∈L
  ·rw [if_pos h];have hi:=qb4.mpr h;exact acX nd (m1 (L.idxOf q) q (by rw [qa3 hi,qbE]))
  ·rw [if_neg h];have hm:=hq.resolve_left h;have hi:=qb4.mpr hm;exact acX nd (m2 (M.idxOf q) q (by rw [qa3 hi,qbE]))
 refine ⟨fun i y h=>acX nd (m1 i y h),fun i y h=>acX nd (m2 i y h),gl,fun y hy c f h=>acX nd ?_,ne,pt,fun z hz e p qs ez=>?_⟩
 ·refine qaq _ (qam _ (qaP.mpr ⟨y,hy,qa8.mpr ⟨(f,c),?_,rfl⟩⟩));rw [List.mem_zipIdx_iff_getElem?];exact h
 ·have:(p,qs.map (baseT L M))∈putsL R L M:=qam _ (qbC.mpr ⟨z,hz,by rw [if_pos e,ez];rfl⟩)
  rw [acX nd this];refine qbo fun q hq=>?_
  rw [hb q (pt z hz e q (by rw [ez];exact hq))];rfl
theorem amG{g:Str->Str}{PL:List (Str×Str)}(nc:NC fg g PL):PL.Pairwise fun a b=>a.1=b.1->b.2∈af3:=by
 rw [qaV];intro i j hi hj hij e;refine (nc j PL[j].1 PL[j].2 (by rw [qa3 hj])).2.1 ?_;rw [<- e];refine qa8.mpr ⟨PL[i],?_,rfl⟩;rw [List.mem_take_iff_getElem];exact ⟨i,by omega,rfl⟩
theorem aeh{g:Str->Str}{PL:List (Str×Str)}(nc:NC fg g PL){j:Str}(h:(p,j)∈PL):g p=j:=by
 obtain ⟨i,hi,e⟩:=qay.mp h;exact (nc i p j (by rw [qa3 hi,e])).1.symm
theorem aji{g:Str->Str}{PL:List (Str×Str)}(nc:NC fg g PL){j:Str}(hj:j∉af3):((PL.filter fun e=>decide (e.2=j)).map (·.1)).Nodup:=by
 rw [qaI,List.pairwise_map];refine List.Pairwise.imp_of_mem ?_ ((amG nc).filter _);intro a b _ hb h e
 have:=h e
 have hb2:b.2=j:=by simpa using (qat.mp hb).2
 rw [hb2] at this;exact hj this
theorem acK{w:Str}(h:ada w):(jobD w=("great" : Str)↔w="great")/\(jobD w=("as" : Str)↔w="as")/\(jobD w=("letter" : Str)↔w="row")/\(jobD w=("mark" : Str)↔w="marks")/\(jobD w=("over" : Str)↔w="over"):=by
 rcases h with rfl | rfl | rfl | rfl | rfl <;> decide +kernel
theorem mem_pairs{R:List Rl}{j:Str} : (p,j)∈aaj R↔∃ z∈R,p∈aaM z/\jobD z.1=j:=by
 unfold aaj;rw [qaP]
 constructor
 ·rintro ⟨z,hz,h⟩;obtain ⟨q,hq,e⟩:=qa8.mp h;obtain ⟨rfl,rfl⟩:=Prod.mk.inj e;exact ⟨z,hz,hq,rfl⟩
 ·rintro ⟨z,hz,hp,rfl⟩;exact ⟨z,hz,qa8.mpr ⟨p,hp,rfl⟩⟩
theorem acY(z:Rl)(R:List Rl):aaj (z::R)=((aaM z).map fun p=>(p,jobD z.1))++aaj R:=by
 unfold aaj;rw [qb8]
theorem aaT{z:Rl} : (z.1=("great" : Str)->aaM z=z.2.drop 1)/\(z.1=("as" : Str)->aaM z=z.2.take 1)/\(z.1=("row" : Str)\/z.1=("marks" : Str)\/z.1=("over" : Str)->aaM z=z.2):=by
 unfold aaM;refine ⟨fun h=>by rw [if_pos h],fun h=>?_,fun h=>?_⟩
 ·rw [if_neg (by rw [h];decide +kernel),if_pos h]
 ·rw [if_neg,if_neg,if_pos h]
  ·rcases h with h | h | h <;> rw [h] <;> decide +kernel
  ·rcases h with h | h | h <;> rw [h] <;> decide +kernel
theorem aa3:∀ R:List Rl,((aaj R).filter fun e=>decide (e.2=("great" : Str))).map (·.1)=(aaK R).flatMap (·.2)
 | []=>rfl
 | z::R=>by
  rw [acY,qbf,qa4,aa3 R];have e:aaK (z::R)=aaK [z]++aaK R:=abJ [z] R;rw [e,qaK]
  congr 1
  by_cases h:z.1=("great" : Str)
  ·obtain ⟨w,ps⟩:=z;obtain rfl:w=("great" : Str):=h;rw [aaT.1 rfl,qbB.mpr,qb7]
   ·cases ps with
    | nil=>simp [aaK]
    | cons y fs=>
     rw [acW];show List.map _ fs=_;simp [Function.comp_def]
   ·intro a ha;obtain ⟨q,_,rfl⟩:=qa8.mp ha;exact decide_eq_true (show jobD "great"=("great" : Str) by decide +kernel)
  ·rw [acg h,qbs.mpr]
   ·rfl
   ·intro a ha;obtain ⟨q,hq,rfl⟩:=qa8.mp ha
    have:=(acK (abI hq)).1
    simp only [decide_eq_true_eq];exact fun e=>h (this.mp e)
theorem acx:∀ R:List Rl,((aaj R).filter fun e=>decide (e.2=("as" : Str))).map (·.1)=asKs R
 | []=>rfl
 | z::R=>by
  rw [acY,qbf,qa4,acx R];have e:asKs (z::R)=asKs [z]++asKs R:=by unfold asKs;rw [<- List.filterMap_append];rfl
  rw [e]
  congr 1
  by_cases h:z.1=("as" : Str)
  ·obtain ⟨w,ps⟩:=z;obtain rfl:w=("as" : Str):=h;rw [aaT.2.1 rfl,qbB.mpr,qb7]
   ·cases ps with
    | nil=>simp [asKs]
    | cons y fs=>
     rw [afj];rfl
   ·intro a ha;obtain ⟨q,_,rfl⟩:=qa8.mp ha;exact decide_eq_true (show jobD "as"=("as" : Str) by decide +kernel)
  ·rw [agB h,qbs.mpr]
   ·rfl
   ·intro a ha;obtain ⟨q,hq,rfl⟩:=qa8.mp ha
    have:=(acK (abI hq)).2.1
    simp only [decide_eq_true_eq];exact fun e=>h (this.mp e)
theorem mem_rowsW{R:List Rl}{w:Str} : p∈(rowsW R w).flatten↔∃ z∈R,z.1=w/\p∈z.2:=by
 unfold rowsW;rw [List.mem_flatten]
 constructor
 ·rintro ⟨l,hl,hp⟩;obtain ⟨z,hz,rfl⟩:=qa8.mp hl;obtain ⟨h1,h2⟩:=qat.mp hz;exact ⟨z,h1,by simpa using h2,hp⟩
 ·rintro ⟨z,hz,e,hp⟩;exact ⟨z.2,qa8.mpr ⟨z,qat.mpr ⟨hz,by simpa using e⟩,rfl⟩,hp⟩
theorem mem_letter{R:List Rl} : (p,("letter" : Str))∈aaj R↔p∈(rowsW R "row").flatten:=by
 rw [mem_pairs,mem_rowsW]
 constructor
 ·rintro ⟨z,hz,hp,e⟩
  have:=(acK (abI hp)).2.2.1.mp e
  exact ⟨z,hz,this,by rw [aaT.2.2 (.inl this)] at hp;exact hp⟩
 ·rintro ⟨z,hz,e,hp⟩;exact ⟨z,hz,by rw [aaT.2.2 (.inl e)];exact hp,by rw [e];decide +kernel⟩
theorem mem_mark{R:List Rl} : (p,("mark" : Str))∈aaj R↔p∈(rowsW R "marks").flatten:=by
 rw [mem_pairs,mem_rowsW]
 constructor
 ·rintro ⟨z,hz,hp,e⟩
  have:=(acK (abI hp)).2.2.2.1.mp e
  exact ⟨z,hz,this,by rw [aaT.2.2 (.inr (.inl this))] at hp;exact hp⟩
 ·rintro ⟨z,hz,e,hp⟩;exact ⟨z,hz,by rw [aaT.2.2 (.inr (.inl e))];exact hp,by rw [e];decide +kernel⟩
theorem aei{zss:List (List Str)} : p∈toldL zss↔p∈zss.flatten:=by
 unfold toldL;rw [acU,abP]
 simp
theorem abx{R:List Rl}{w:Str}(h:abj R w L) : p∈L↔p∈(rowsW R w).flatten:=by
 rw [<- aei];exact ⟨h.1.sub,h.2 p⟩
structure GoodR(g:Str->Str)(r1 r2:Str->Nat)(R:List Rl):Prop where
 len:R.length<=1000
 plen:(aaj R).length<=10000
 nc:NC (hasW R "figures") g (aaj R)
 nb:(" " : Str)∉(aaj R).map (·.1)
 zl:∀ z∈R,z.2.length<=1000
 ne:∀ z∈R,z.1=("as" : Str)\/z.1=("great" : Str)->z.2≠[]
 gl:∀ z∈R,z.1=("great" : Str)->∀ p∈z.2.take 1,(p,("letter" : Str))∈aaj R
 al:∀ z∈R,z.1=("as" : Str)->∀ p∈(z.2.drop 1).take 1,(p,("letter" : Str))∈aaj R
 am:∀ z∈R,z.1=("as" : Str)->∀ p∈z.2.drop 2,(p,("letter" : Str))∈aaj R\/(p,("mark" : Str))∈aaj R
 f1:(rowsW R "row").flatten.length<=10000
 f2:(rowsW R "marks").flatten.length<=10000
 a1:∀ e∈edges (rowsW R "row"),r1 e.1<r1 e.2
 a2:∀ e∈edges (rowsW R "marks"),r2 e.1<r2 e.2
theorem GoodR.job{g:Str->Str}{r1 r2:Str->Nat}{R:List Rl}(h:GoodR g r1 r2 R){j:Str}(hp:(p,j)∈aaj R):p∈keysP (aaj R)++aa2 R/\jobG g p=.str j:=by
 have hm:p∈(aaj R).map (·.1):=qa8.mpr ⟨_,hp,rfl⟩;refine ⟨qaq _ ((acf _ _).mpr hm),?_⟩;unfold jobG;rw [if_neg (fun e=>h.nb (by rw [<- e];exact hm)),aeh h.nc hp]
theorem GoodR.used{g:Str->Str}{r1 r2:Str->Nat}{R:List Rl}(h:GoodR g r1 r2 R){z:Rl}(hz:z∈R):Used (keysP (aaj R)++aa2 R) (jobG g) z:=
 ⟨fun e p hp=>h.job (h.gl z hz e p hp),fun e p hp=>h.job (h.al z hz e p hp),fun e p hp=>(h.am z hz e p hp).elim (fun q=>⟨(h.job q).1,.inl (h.job q).2⟩) fun q=>⟨(h.job q).1,.inr (h.job q).2⟩⟩
theorem forms_mem{R:List Rl}{y f:Str} : f∈aak R y↔∃ e∈aaK R,e.1=y/\f∈e.2:=by
 unfold aak;rw [qaP]
 constructor
 ·rintro ⟨e,he,hf⟩;obtain ⟨h1,h2⟩:=qat.mp he;exact ⟨e,h1,by simpa using h2,hf⟩
 ·rintro ⟨e,he,h,hf⟩;exact ⟨e,qat.mpr ⟨he,by simpa using h⟩,hf⟩
theorem mem_formKs{R:List Rl}{y:Str} : y∈aar R↔∃ e∈aaK R,e.1=y:=by
 unfold aar;rw [abP,qa8]
 simp
theorem alf{g:Str->Str}{r1 r2:Str->Nat}{R:List Rl}(h:GoodR g r1 r2 R)(hL:abj R "row" L)(hM:abj R "marks" M):(allKs R L M).Nodup:=by
 have Z:((aaK R).flatMap (·.2)).Nodup:=by rw [<- aa3];exact aji h.nc (by decide +kernel)
 have jl:∀ p∈L,g p="letter":=fun p hp=>aeh h.nc (mem_letter.mpr ((abx hL).mp hp))
 have jm:∀ p∈M,g p="mark":=fun p hp=>aeh h.nc (mem_mark.mpr ((abx hM).mp hp))
 have jf:∀ p∈(aar R).flatMap (aak R),g p="great":=fun p hp=>by
  obtain ⟨y,_,hp⟩:=qaP.mp hp;obtain ⟨e,he,_,hf⟩:=forms_mem.mp hp
  have:p∈(aaK R).flatMap (·.2):=qaP.mpr ⟨e,he,hf⟩
  rw [<- aa3] at this;obtain ⟨⟨q,j⟩,hq,rfl⟩:=qa8.mp this;obtain ⟨h1,h2⟩:=qat.mp hq;have h2:j=("great" : Str):=by simpa using h2
  subst h2;exact aeh h.nc h1
 have ja:∀ p∈asKs R,g p="as":=fun p hp=>by
  rw [<- acx] at hp;obtain ⟨⟨q,j⟩,hq,rfl⟩:=qa8.mp hp;obtain ⟨h1,h2⟩:=qat.mp hq;have h2:j=("as" : Str):=by simpa using h2
  subst h2;exact aeh h.nc h1
 have nf:((aar R).flatMap (aak R)).Nodup:=by
  rw [qaI,List.pairwise_flatMap] at Z ⊢
  obtain ⟨z1,z2⟩:=Z;refine ⟨fun y _=>?_,?_⟩
  ·unfold aak;rw [List.pairwise_flatMap];exact ⟨fun e he=>z1 e (qat.mp he).1,z2.filter _⟩
  ·have nk:(aar R).Nodup:=by unfold aar;exact aec (by simp)
   refine List.Pairwise.imp ?_ (qaI.mp nk);intro y y' hyy f hf f' hf' e;subst e;obtain ⟨e1,h1,r1,f1⟩:=forms_mem.mp hf;obtain ⟨e2,h2,r2,f2⟩:=forms_mem.mp hf';obtain ⟨i,hi,q1⟩:=qay.mp h1;obtain ⟨j,hj,q2⟩:=qay.mp h2;rw [qaV] at z2
   rcases Nat.lt_trichotomy i j with c | c | c
   ·exact z2 i j hi hj c f (by rw [q1];exact f1) f (by rw [q2];exact f2) rfl
   ·subst c;exact hyy (by rw [<- r1,<- r2,<- q1,<- q2])
   ·exact z2 j i hj hi c f (by rw [q2];exact f2) f (by rw [q1];exact f1) rfl
 have na:(asKs R).Nodup:=by rw [<- acx];exact aji h.nc (by decide +kernel)
 have n1:("letter" : Str)≠"mark"/\("letter" : Str)≠"great"/\("letter" : Str)≠"as"/\("mark" : Str)≠"great"/\("mark" : Str)≠"as"/\("great" : Str)≠"as":=by decide +kernel
 unfold allKs;rw [qaX,qaX,qaX];refine ⟨⟨⟨hL.1.nodup,hM.1.nodup,fun a ha b hb e=>?_⟩,nf,fun a ha b hb e=>?_⟩,na,fun a ha b hb e=>?_⟩
 ·subst e;exact n1.1 ((jl a ha).symm.trans (jm a hb))
 ·subst e
  rcases qa6.mp ha with ha | ha
  ·exact n1.2.1 ((jl a ha).symm.trans (jf a hb))
  ·exact n1.2.2.2.1 ((jm a ha).symm.trans (jf a hb))
 ·subst e
  rcases qa6.mp ha with ha | ha
  ·rcases qa6.mp ha with ha | ha
   ·exact n1.2.2.1 ((jl a ha).symm.trans (ja a hb))
   ·exact n1.2.2.2.2.1 ((jm a ha).symm.trans (ja a hb))
  ·exact n1.2.2.2.2.2 ((jf a ha).symm.trans (ja a hb))
theorem agC{g:Str->Str}{r1 r2:Str->Nat}{R:List Rl}(h:GoodR g r1 r2 R)(hL:abj R "row" L)(hM:abj R "marks" M):Made R L M (stepF R L M):=by
 refine amF (alf h hL hM) (fun y hy=>?_) h.ne fun z hz e q hq=>?_
 ·obtain ⟨e,he,rfl⟩:=mem_formKs.mp hy;unfold aaK at he;obtain ⟨z,hz,hh⟩:=qbC.mp he
  by_cases hg:z.1=("great" : Str)
  ·rw [if_pos hg] at hh;obtain ⟨w,ps⟩:=z
   cases ps with
   | nil=>cases hh
   | cons y fs=>
    have hh:=Option.some.inj hh;rw [<- hh];exact (abx hL).mpr (mem_letter.mp (h.gl _ hz hg y (by simp)))
  ·rw [if_neg hg] at hh;cases hh
 ·rw [<- qaA 1 (z.2.drop 1)] at hq
  rcases qa6.mp hq with hq | hq
  ·exact .inl ((abx hL).mpr (mem_letter.mp (h.al z hz e q hq)))
  ·rw [List.drop_drop] at hq
   rcases h.am z hz e q hq with h1 | h1
   ·exact .inl ((abx hL).mpr (mem_letter.mp h1))
   ·exact .inr ((abx hM).mpr (mem_mark.mp h1))
theorem amH{g:Str->Str}{r1 r2:Str->Nat}{R:List Rl}(h:GoodR g r1 r2 R)(hL:abj R "row" L)(hM:abj R "marks" M):(allKs R L M).length<=10000:=by
 refine qan ?_ h.plen
 have:=List.Nodup.length_le_of_subset (l₂:=(aaj R).map (·.1)) (alf h hL hM) fun p hp=>by
  unfold allKs at hp
  rcases qa6.mp hp with hp | hp
  ·rcases qa6.mp hp with hp | hp
   ·rcases qa6.mp hp with hp | hp
    ·exact qa8.mpr ⟨_,mem_letter.mpr ((abx hL).mp hp),rfl⟩
    ·exact qa8.mpr ⟨_,mem_mark.mpr ((abx hM).mp hp),rfl⟩
   ·obtain ⟨y,_,hp⟩:=qaP.mp hp;obtain ⟨e,he,_,hf⟩:=forms_mem.mp hp
    have:p∈(aaK R).flatMap (·.2):=qaP.mpr ⟨e,he,hf⟩
    rw [<- aa3] at this;obtain ⟨q,hq,rfl⟩:=qa8.mp this;exact qa8.mpr ⟨q,(qat.mp hq).1,rfl⟩
  ·rw [<- acx] at hp;obtain ⟨q,hq,rfl⟩:=qa8.mp hp;exact qa8.mpr ⟨q,(qat.mp hq).1,rfl⟩
 rw [qa0] at this;exact this
theorem ajj{g:Str->Str}{r1 r2:Str->Nat}{R:List Rl}(h:GoodR g r1 r2 R)(i:Nat)(y:Str):(aak (R.take i) y).length<=10000:=by
 refine qan ?_ h.plen;have h1:(aak (R.take i) y).length<=((aaK (R.take i)).flatMap (·.2)).length:=by
  unfold aak;generalize aaK (R.take i)=E
  induction E with
  | nil=>exact qa2 _
  | cons e E ih=>
   rw [List.filter_cons]
   split
   ·rw [qb8,qb8,qa1,qa1];omega
   ·rw [qb8,qa1];omega
 have h2:((aaK (R.take i)).flatMap (·.2)).length<=(aaj (R.take i)).length:=by
  rw [<- aa3,qa0];exact qbv _ _
 obtain ⟨more,e⟩:=aed R i;rw [e,qa1];omega
theorem IsMade.mod{d:Addr}{F:Str->List Tr}{o o':HO}(h:IsMade H d ks F)(ha:H a=some o')(hn:∀ xs,o'≠.tup xs)(nd:d≠a):IsMade (upd H a o) d ks F:=
 let ⟨ad,h1,h2⟩:=h
 ⟨ad,by rw [aah nd];exact h1,fun y hy=>(h2 y hy).put ha hn⟩
structure IsOrd(C:Addr)(H:Hp)(x j ll ml md:Addr)(g:Str->Str)(R:List Rl)(L M:List Str):Prop where
 ob:∃ dx,H x=some (.ins C dx (ordF (hasW R "figures") (hasW R "behind") j ll ml md))
 jobs:H j=some (.dK (kvN (keysP (aaj R)++aa2 R) (jobG g)))
 lets:H ll=some (.lst (L.map V.str))
 mrks:H ml=some (.lst (M.map V.str))
 made:IsMade H md (dds [] (allKs R L M)) (stepF R L M)
 l1:abj R "row" L
 l2:abj R "marks" M
theorem IsOrd.same{x j:Addr}{g:Str->Str}{R:List Rl}(h:IsOrd C H x j ll ml md g R L M)(s:Same H H'):IsOrd C H' x j ll ml md g R L M:=
 ⟨let ⟨dx,e⟩:=h.ob;⟨dx,s _ _ e⟩,s _ _ h.jobs,s _ _ h.lets,s _ _ h.mrks,h.made.same s,h.l1,h.l2⟩
theorem IsOrd.mod{x j:Addr}{g:Str->Str}{R:List Rl}(h:IsOrd C H x j ll ml md g R L M){o o':HO}(ha:H a=some o')(hn:∀ xs,o'≠.tup xs)(n1:x≠a)(n2:j≠a)(n3:ll≠a)(n4:ml≠a)(n5:md≠a):IsOrd C (upd H a o) x j ll ml md g R L M:=
 ⟨let ⟨dx,e⟩:=h.ob;⟨dx,by rw [aah n1];exact e⟩,by rw [aah n2];exact h.jobs,by rw [aah n3];exact h.lets,by rw [aah n4];exact h.mrks,h.made.mod ha hn n5,h.l1,h.l2⟩
noncomputable def agD (C:Addr):Sp:=fun vs H Q _=>∃ (x dx a:Addr) (ts:List Addr) (R:List Rl) (g:Str->Str) (r1 r2:Str->Nat),vs=[.ref x,.ref a]/\H x=some (.ins C dx [])/\IsRules H a ts R/\GoodR g r1 r2 R/\
 ∀ j ll ml md L M H',H j=none->H ll=none->H ml=none->H md=none->SameBut x H H'->IsOrd C H' x j ll ml md g R L M->Q .non H'
noncomputable def ajk (C:Addr):Sp:=fun vs H Q _=>∃ (x j ll ml md:Addr) (g:Str->Str) (R:List Rl) (L M:List Str),vs=[.ref x]/\IsOrd C H x j ll ml md g R L M/\∀ l,H l=none->Q (.ref l) (upd H l (.lst (L.map V.str)))
noncomputable def ahl (C:Addr):Sp:=fun vs H Q _=>∃ (x j ll ml md:Addr) (g:Str->Str) (R:List Rl) (L M:List Str),vs=[.ref x]/\IsOrd C H x j ll ml md g R L M/\∀ l,H l=none->Q (.ref l) (upd H l (.lst (M.map V.str)))
noncomputable def ajl (C:Addr):Sp:=fun vs H Q _=>∃ (x j ll ml md:Addr) (p:Str) (g:Str->Str) (R:List Rl) (L M:List Str),vs=[.ref x,.str p]/\IsOrd C H x j ll ml md g R L M/\Q (if p∈keysP (aaj R)++aa2 R then jobG g p else .non) H
end L2
set_option maxRecDepth 100000
namespace L2
open PySem PySem.Spec PyProof.Rows
structure RulesAt(H0 H:Hp)(a:Addr)(ts:List Addr)(R:List Rl):Prop where
 rows:IsRules H a ts R
 nd:(a::ts).Nodup
 new:∀ r∈a::ts,H0 r=none
 same:Same H0 H
theorem RulesAt.live{R:List Rl}(h:RulesAt H0 H a rs R)(hr:r∈a::rs):∃ o,H r=some o:=by
 rcases qaa.mp hr with h' | h'
 ·subst h';exact ⟨_,h.rows.top⟩
 ·obtain ⟨i,hi,rfl⟩:=qay.mp h';obtain ⟨zs,_,h2⟩:=Paired.at h.rows.row (i:=i) (a:=rs[i]) (by simp [hi]);exact ⟨_,h2⟩
theorem RulesAt.grow{q:Addr}{R:List Rl}(h:RulesAt H0 H a rs R)(S:Same H H')(hq:H q=none){z:Rl}(hq':H' q=some (tupR z)):RulesAt H0 (upd H' a (.lst (rs.map V.ref++[V.ref q]))) a (rs++[q]) (R++[z]):=by
 have nq:∀ r∈a::rs,r≠q:=fun r hr e=>by
  obtain ⟨o,e'⟩:=h.live hr;rw [e,hq] at e';cases e'
 obtain ⟨na,_⟩:=qax.mp h.nd;refine ⟨⟨by rw [aaa,qa4];rfl,?_⟩,?_,?_,?_⟩
 ·refine Paired.snoc (uan h.rows.row fun r hr zs h=>?_) ?_
  ·rw [aah (fun e:r=a=>na (by rw [<- e];exact hr))];exact S _ _ h
  ·rw [aah (nq a qac).symm];exact hq'
 ·show (a::(rs++[q])).Nodup;exact ad5 h.nd fun e=>nq q e rfl
 ·intro r hr
  rcases qaa.mp hr with e | e
  ·exact h.new r (by rw [e];exact qac)
  ·rcases qa6.mp e with e | e
   ·exact h.new r (qa9 _ e)
   ·rw [qa7.mp e];exact h.same.free hq
 ·exact (h.same.trans S).put (h.new a qac)
theorem RulesAt.put{ts:List Addr}{R:List Rl}{o:HO}(h:RulesAt H0 H a ts R)(hr:r∉a::ts)(n:H0 r=none):RulesAt H0 (upd H r o) a ts R:=
 ⟨⟨by rw [aah (fun e=>hr (by rw [<- e];exact qac))];exact h.rows.top,uan h.rows.row fun t ht z e=>by rw [aah (fun q=>hr (by rw [<- q];exact qa9 _ ht))];exact e⟩,h.nd,h.new,h.same.put n⟩
theorem aga{R:List Rl}{w:Str}(h:∀ z∈R,z.1=w):rowsW R w=R.map (·.2):=by
 unfold rowsW;rw [qbB.mpr fun z hz=>by simpa using h z hz]
theorem acZ{R:List Rl}{w:Str}(h:∀ z∈R,z.1≠w):rowsW R w=[]:=by
 unfold rowsW;rw [qbs.mpr fun z hz=>by simpa using h z hz];rfl
theorem abk(A B:List Rl)(w:Str):rowsW (A++B) w=rowsW A w++rowsW B w:=by
 unfold rowsW;rw [qbf,qa4]
theorem acL(A B:List Rl):aaj (A++B)=aaj A++aaj B:=by
 unfold aaj;rw [qaK]
theorem adS(A B:List Rl)(w:Str):hasW (A++B) w=(hasW A w || hasW B w):=by
 unfold hasW;rw [List.any_append]
theorem agE{F:Addr->Rl->Prop}{l₂:List Rl}(h:Paired F l₁ l₂):∀ k,Paired F (l₁.take k) (l₂.take k):=by
 induction h with
 | nil=>intro k;rw [List.take_nil,List.take_nil];exact .nil
 | cons h t ih=>intro k;cases k with
  | zero=>exact .nil
  | succ k=>exact .cons h (ih k)
theorem agF{F:Addr->Rl->Prop}{l₂:List Rl}(h:Paired F l₁ l₂):∀ k,Paired F (l₁.drop k) (l₂.drop k):=by
 induction h with
 | nil=>intro k;rw [List.drop_nil,List.drop_nil];exact .nil
 | cons h t ih=>intro k;cases k with
  | zero=>exact .cons h t
  | succ k=>exact ih k
theorem amI{l:Addr}{ts:List Addr}{R:List Rl}(h:IsRules H b ts R)(k:Nat)(n:H l=none):IsRules (upd H l (.lst ((ts.take k).map V.ref))) l (ts.take k) (R.take k):=⟨aaa,agE (uam h.row fun _ _ e=>aag e n) k⟩
theorem ajm{l:Addr}{ts:List Addr}{R:List Rl}(h:IsRules H b ts R)(k:Nat)(n:H l=none):IsRules (upd H l (.lst ((ts.drop k).map V.ref))) l (ts.drop k) (R.drop k):=⟨aaa,agF (uam h.row fun _ _ e=>aag e n) k⟩
theorem ahZ{E:List (Str×Str)}(r:Run E ts line){e:Str×Str}(he:e∈E)(h2:e.2∈line):line.idxOf e.1<line.idxOf e.2:=by
 obtain ⟨pre,post,el⟩:=List.append_of_mem h2;obtain ⟨h3,h4,h5⟩:=acu (r pre e.2 post el);have h6:=cnt_zero.mp h5 e he rfl;rw [el,List.idxOf_append,if_pos h6,List.idxOf_append,if_neg h4]
 have:=qb4.mpr h6
 omega
theorem ajn{E:List (Str×Str)}(nd:ps.Nodup)(tnd:ts.Nodup)(r:Run E ts line)(cov:∀ p∈ts,p∈line)(hm:∀ p,p∈ts↔p∈ps)(hE:∀ e∈abz ps,e∈E):line=ps:=by
 have hl:line.length=ps.length:=by
  rw [adQ tnd r cov];exact ((List.perm_ext_iff_of_nodup tnd nd).mpr fun a=>hm a).length_eq
 have hin:∀ p∈ps,p∈line:=fun p hp=>cov p ((hm p).mpr hp)
 have hlt:∀ i (h:i<ps.length),line.idxOf ps[i]<ps.length:=fun i h=>by
  rw [<- hl];exact qb4.mpr (hin _ (qbN h))
 have step:∀ i (h:i+1<ps.length),line.idxOf ps[i]<line.idxOf ps[i+1]:=fun i h=>by
  have he:(ps[i],ps[i+1])∈abz ps:=by
   have:=af0 (zs:=ps) (j:=i) (x:=ps[i]) (y:=ps[i+1]) (qa3 (by omega)) (by rw [List.getElem?_tail];exact qa3 h)
   exact qab this
  exact ahZ r (hE _ he) (hin _ (qbN h))
 have up:∀ i (h:i<ps.length),i<=line.idxOf ps[i]:=by
  intro i
  induction i with
  | zero=>intro h;exact qar _
  | succ i ih=>
   intro h
   have:=ih (by omega)
   have:=step i h
   omega
 have down:∀ d i (h:i<ps.length),ps.length-1-i=d->line.idxOf ps[i]<=i:=by
  intro d
  induction d with
  | zero=>
   intro i h e
   have:=hlt i h
   omega
  | succ d ih=>
   intro i h e;have h1:=ih (i+1) (by omega) (by omega);have h2:=step i (by omega);omega
 refine List.ext_getElem hl fun i h1 h2=>?_
 have e:line.idxOf ps[i]=i:=Nat.le_antisymm (down _ i h2 rfl) (up i h2)
 have:=qbE (x:=ps[i]) (xs:=line) (by rw [e];exact h1)
 simp only [e] at this;exact this
noncomputable def ruleD (z:Rl):PyData:=.tuple ((z.1::z.2).map .str)
theorem ah0(z:Rl):(ruleD z).depth<=1:=by
 unfold ruleD;rw [qbt,acd];decide
theorem adb:∀ R:List Rl,qbj (R.map ruleD)<=1
 | []=>qar _
 | z::R=>by
  rw [qak,qbj];have h1:=ah0 z;have h2:=adb R;omega
theorem aej : ∀ {rs:List Addr} {R:List Rl},Paired (fun r z=>H r=some (tupR z)) rs R->(∀ z∈R,∀ y∈z.1::z.2,qaO y=true)->DnAll K H (rs.map V.ref) (R.map ruleD)
 | _,_,.nil,_=>.nil
 | _,_,.cons h t,hz=>.cons (.tup (.of h) (uad (hz _ qac))) (aej t fun z hz'=>hz z (qa9 _ hz'))
theorem ahm{R:List Rl}(h:IsRules H a rs R)(hz:∀ z∈R,∀ y∈z.1::z.2,qaO y=true):Dn K H (.ref a) (.list (R.map ruleD)):=.lst (.of h.top) (aej h.row hz)
noncomputable def PcI (ns:List Int) (k:Int) (p:Str):Prop:=∃ rest:List Nat,p.cps.toList=sgO ns k::rest/\rest.length<=1/\∀ c∈rest,∃ m:Int,c=sgO ns m
noncomputable def PcS (ns:List Int) (S:Int->Prop) (p:Str):Prop:=∃ k,S k/\PcI ns k p
theorem PcI.inj{k l:Int}(h:PcI ns k p)(h':PcI ns l p)(k0:0<=k)(k1:k<83)(l0:0<=l)(l1:l<83):k=l:=by
 obtain ⟨r,e,_⟩:=h;obtain ⟨r',e',_⟩:=h';rw [e] at e';exact amD k0 k1 l0 l1 (qbF.inj e').1
theorem uac(ns:List Int)(k:Int):PcI ns k (one (sgO ns k)):=⟨[],rfl,by simp,by simp⟩
theorem uai(ns:List Int)(k m:Int):PcI ns k (one (sgO ns k)++one (sgO ns m)):=⟨[sgO ns m],rfl,by simp,fun c hc=>⟨m,qa7.mp hc⟩⟩
theorem PcI.ok{k:Int}(h:PcI ns k p):afP p=true/\(dgO ns=false->∀ c∈p.cps.toList,figO c=false):=by
 obtain ⟨r,e,hl,hr⟩:=h;have hc:∀ c∈p.cps.toList,∃ m:Int,c=sgO ns m:=fun c hc=>by
  rw [e] at hc
  rcases qaa.mp hc with q | q
  ·exact ⟨k,q⟩
  ·exact hr c q
 have el:p.length=r.length+1:=by
  have:p.length=p.cps.toList.length:=by simp [Str.length]
  rw [this,e];rfl
 refine ⟨?_,fun hd c h=>?_⟩
 ·unfold afP;rw [el,qav,qav];refine ⟨⟨decide_eq_true (by omega),decide_eq_true (by omega)⟩,List.all_eq_true.mpr fun c h=>?_⟩;obtain ⟨m,rfl⟩:=hc c h;exact (ahe ns m).1
 ·obtain ⟨m,rfl⟩:=hc c h;exact (ahe ns m).2 hd
structure Dis(ns:List Int)(S:Int->Prop)(ps:List Str):Prop where
 nd:ps.Nodup
 pc:∀ p∈ps,PcS ns S p
 uq:∀ p∈ps,∀ q∈ps,∀ k:Int,20<=k->k<83->PcI ns k p->PcI ns k q->p=q
theorem Dis.cat{S T:Int->Prop}(h:Dis ns S ps)(h':Dis ns T qs)(hS:∀ k,S k->0<=k/\k<83)(hT:∀ k,T k->0<=k/\k<83)(n:∀ k,S k->¬ T k):Dis ns (fun k=>S k\/T k) (ps++qs):=by
 have ap:∀ p∈ps,∀ q∈qs,∀ k:Int,0<=k->k<83->PcI ns k p->PcI ns k q->False:=fun p hp q hq k k0 k1 pk qk=>by
  obtain ⟨i,hi,pi⟩:=h.pc p hp;obtain ⟨l,hl,pl⟩:=h'.pc q hq;have e1:=pk.inj pi k0 k1 (hS i hi).1 (hS i hi).2;have e2:=qk.inj pl k0 k1 (hT l hl).1 (hT l hl).2;subst e1 e2;exact n _ hi hl
 refine ⟨qaX.mpr ⟨h.nd,h'.nd,fun a ha b hb e=>?_⟩,fun p hp=>?_,fun p hp q hq k k0 k1 pk qk=>?_⟩
 ·subst e;obtain ⟨k,hk,pk⟩:=h.pc a ha;exact ap a ha a hb k (hS k hk).1 (hS k hk).2 pk pk
 ·rcases qa6.mp hp with hp | hp
  ·obtain ⟨k,hk,pk⟩:=h.pc p hp;exact ⟨k,.inl hk,pk⟩
  ·obtain ⟨k,hk,pk⟩:=h'.pc p hp;exact ⟨k,.inr hk,pk⟩
 ·rcases qa6.mp hp with hp | hp <;> rcases qa6.mp hq with hq | hq
  ·exact h.uq p hp q hq k k0 k1 pk qk
  ·exact (ap p hp q hq k (by omega) k1 pk qk).elim
  ·exact (ap q hq p hp k (by omega) k1 qk pk).elim
  ·exact h'.uq p hp q hq k k0 k1 pk qk
theorem Dis.wide{S T:Int->Prop}(h:Dis ns S ps)(w:∀ k,S k->T k):Dis ns T ps:=⟨h.nd,fun p hp=>let ⟨k,hk,pk⟩:=h.pc p hp;⟨k,w k hk,pk⟩,h.uq⟩
theorem uaf{k:Int}(h:PcI ns k p):Dis ns (fun l=>l=k) [p]:=⟨by simp,fun q hq=>by rw [qa7.mp hq];exact ⟨k,rfl,h⟩,fun a ha b hb _ _ _ _ _=>by rw [qa7.mp ha,qa7.mp hb]⟩
theorem Dis.nil{S:Int->Prop} : Dis ns S []:=⟨List.nodup_nil,by simp,by simp⟩
theorem mul3(h:i<3):∃ m:Int,atI [V.int 48271,V.int 69621,V.int 16807] (0+(i:Int))=some (V.int m)/\0<m/\m<100000:=by
 obtain rfl | rfl | rfl:i=0\/i=1\/i=2:=by omega
 ·exact ⟨_,rfl,by decide,by decide⟩
 ·exact ⟨_,rfl,by decide,by decide⟩
 ·exact ⟨_,rfl,by decide,by decide⟩
noncomputable def LetS (k:Int):Prop:=0<=k/\k<16
noncomputable def sgL (ns:List Int) (n:Nat):List Str:=(qbI n).map fun (k:Nat)=>one (sgO ns (k:Int))
theorem ahn(ns:List Int)(i:Nat):sgL ns (i+1)=sgL ns i++[one (sgO ns (i:Int))]:=by
 unfold sgL;rw [List.range_succ,qa4];rfl
theorem ajo(ns:List Int)(n:Nat):(sgL ns n).length=n:=by unfold sgL;rw [qa0,List.length_range]
theorem ajp(ns:List Int):∀ n:Nat,n<=83->Dis ns (fun k=>0<=k/\k<(n:Int)) (sgL ns n)
 | 0,_=>Dis.nil
 | n+1,h=>by
  rw [ahn];refine ((ajp ns n (by omega)).cat (uaf (uac ns (n:Int))) (fun k hk=>by omega) (fun k hk=>by omega) (fun k hk e=>by omega)).wide fun k hk=>by
   rcases hk with hk | hk <;> omega
structure LetW(ns:List Int)(n:Int)(ps:List Str):Prop where
 n0:2<=n
 n1:n<=16
 all:∀ k:Int,0<=k->k<n->one (sgO ns k)∈ps
 each:∀ p∈ps,∃ k:Int,0<=k/\k<n/\(p=one (sgO ns k)\/∃ m:Int,0<=m/\m<n/\p=one (sgO ns k)++one (sgO ns m))
structure LetI(ns:List Int)(H H2:Hp)(l:Addr)(ps:List Str)(n:Nat):Prop where
 new:H l=none
 same:Same H H2
 lst:H2 l=some (.lst (ps.map V.str))
 dis:Dis ns LetS ps
 wd:∃ n,LetW ns n ps
 lo:2<=ps.length
 hi:ps.length<=16+n
theorem alg{n:Int}(h0:2<=n)(h1:n<=16):LetW ns n (sgL ns n.toNat):=by
 refine ⟨h0,h1,fun k k0 k1=>?_,fun p hp=>?_⟩
 ·refine qa8.mpr ⟨k.toNat,qbL.mpr (by omega),?_⟩;rw [show ((k.toNat:Nat):Int)=k by omega]
 ·obtain ⟨k,hk,rfl⟩:=qa8.mp hp
  have:=qbL.mp hk
  exact ⟨k,by omega,by omega,.inl rfl⟩
theorem LetW.ins{n:Int}{t:Nat}(h:LetW ns n ps)(hp:∃ k:Int,0<=k/\k<n/\(p=one (sgO ns k)\/∃ m:Int,0<=m/\m<n/\p=one (sgO ns k)++one (sgO ns m))):LetW ns n (ps.take t++[p]++ps.drop t):=by
 have hm:∀ x,x∈ps.take t++[p]++ps.drop t↔x=p\/x∈ps:=fun x=>by
  have:x∈ps↔x∈ps.take t\/x∈ps.drop t:=by rw [<- qa6,qaA]
  rw [qas,qa6,qa6,qa7,this]
  constructor
  ·rintro (h | h | h)
   ·exact .inr (.inl h)
   ·exact .inl h
   ·exact .inr (.inr h)
  ·rintro (h | h | h)
   ·exact .inr (.inl h)
   ·exact .inl h
   ·exact .inr (.inr h)
 refine ⟨h.n0,h.n1,fun k k0 k1=>(hm _).mpr (.inr (h.all k k0 k1)),fun x hx=>?_⟩
 rcases (hm x).mp hx with e | e
 ·rw [e];exact hp
 ·exact h.each x e
noncomputable def aeS (K:PySem.W.Frag):Sp:=fun vs H Q _=>∃ (a:Addr) (ns:List Int),vs=[.ref a]/\SqL K H a (ns.map V.int)/\∀ l ps H',LetI ns H H' l ps 3->Q (.ref l) H'
noncomputable def alh (K:PySem.W.Frag):Sp:=fun vs H Q _=>∃ (l m:Addr) (n:Int) (b:Bool) (ls ms:List Str),vs=[.ref l,.ref m,.int n,.bl b]/\H l=some (.lst (ls.map V.str))/\H m=some (.lst (ms.map V.str))/\1<=ls.length/\ls.length<=1000/\ms.length<=1000/\(∀ p∈ms,qaO p=true)/\
 ∀ p H',Same H H'->(p∈ls\/(b=false/\p∈ms))->Q (.str p) H'
theorem pickA(n:Int)(h1:1<=zs.length):∃ p∈zs,atI (zs.map V.str) (n % (zs.length:Int))=some (V.str p):=by
 obtain ⟨v,e,hm⟩:=aeL (xs:=zs.map V.str) (i:=n % (zs.length:Int)) (qaZ _ (by omega)) (by rw [qa0];exact qaT _ (by omega));obtain ⟨p,hp,rfl⟩:=qa8.mp hm;exact ⟨p,hp,e⟩
theorem pickL{u:Addr}{n:Int}(h:H u=some (.lst (zs.map V.str)))(h1:1<=zs.length)(q:∀ p∈zs,Q (.str p) H) :
  ∃ m:Nat,LenR K H u m/\0<(m:Int)/\∃ xs,(SqL K H u xs\/SqT K H u xs)/\∃ x,atI xs (n % (m:Int))=some x/\Q x H:=by
 obtain ⟨v,e,hm⟩:=aeL (xs:=zs.map V.str) (i:=n % (zs.length:Int)) (qaZ _ (by omega)) (by rw [qa0];exact qaT _ (by omega));obtain ⟨p,hp,rfl⟩:=qa8.mp hm;exact ⟨zs.length,.inl ⟨_,.of h,by rw [qa0]⟩,by omega,_,.inl (.of h),_,e,q p hp⟩
noncomputable def spTwo (K:PySem.W.Frag):Sp:=fun vs H Q _=>∃ (a:Addr) (ns:List Int) (k c:Int),vs=[.ref a,.int k,.int c]/\SqL K H a (ns.map V.int)/\0<=k/\∀ p H',Same H H'->PcI ns k p->Q (.str p) H'
noncomputable def OthZ (ls ms:List Str) (z:Rl):Prop:=(z.1=("great" : Str)/\∃ l fs,z.2=l::fs/\l∈ls/\1<=fs.length/\fs.length<=2)\/(z.1=("as" : Str)/\∃ p q qs,z.2=p::q::qs/\q∈ls/\(∀ r∈qs,r∈ls\/r∈ms)/\qs.length<=2)\/(z.1=("over" : Str)/\z.2.length<=2)
structure OthI(ns:List Int)(ls ms:List Str)(S:Int->Prop)(n:Nat)(R:List Rl):Prop where
 dis:Dis ns S ((aaj R).map (·.1))
 each:∀ z∈R,OthZ ls ms z
 len:R.length<=n
noncomputable def GS (i:Nat) (k:Int):Prop:=(30<=k/\k<30+(i:Int))\/(34<=k/\k<34+(i:Int))
noncomputable def AS (i:Nat) (k:Int):Prop:=GS 3 k\/(40<=k/\k<40+(i:Int))
noncomputable def OS (k:Int):Prop:=AS 3 k\/(50<=k/\k<52)
theorem aek(z:Rl):(aaj [z]).map (·.1)=aaM z:=by
 unfold aaj;rw [qb8,List.flatMap_nil,qah,qb7];exact List.map_id' _
theorem OthI.add{S T U:Int->Prop}{R:List Rl}(h:OthI ns ls ms S n R){z:Rl}(hz:OthZ ls ms z)(hd:Dis ns T (aaM z))(hS:∀ k,S k->0<=k/\k<83)(hT:∀ k,T k->0<=k/\k<83)(no:∀ k,S k->¬ T k)(w:∀ k,S k\/T k->U k):OthI ns ls ms U (n+1) (R++[z]):=by
 refine ⟨?_,fun y hy=>?_,by rw [qa1,qag];have:=h.len;omega⟩
 ·rw [acL,qa4,aek];exact (h.dis.cat hd hS hT no).wide w
 ·rcases qa6.mp hy with hy | hy
  ·exact h.each y hy
  ·rw [qa7.mp hy];exact hz
structure AsR(ls ms:List Str)(H0 H:Hp)(t:Addr)(p:Str)(qs:List Str)(j:Nat):Prop where
 same:Same H0 H
 tup:H t=some (tupR ("as",p::qs))
 new:H0 t=none
 len:qs.length=j
 ok:∀ i q,qs[i]?=some q->q∈ls\/(0<i/\q∈ms)
theorem AsR.oth{t:Addr}(h:AsR ls ms H0 H t p qs j)(h1:1<=j)(h3:j<=3):OthZ ls ms ("as",p::qs):=by
 refine .inr (.inl ⟨rfl,?_⟩);have hl:=h.len;have ok:=h.ok
 cases qs with
 | nil=>simp at hl;omega
 | cons q qs=>
  refine ⟨p,q,qs,rfl,(ok 0 q rfl).elim id fun e=>absurd e.1 (by decide),fun r hr=>?_,by simp at hl;omega⟩;obtain ⟨i,hi,e⟩:=qay.mp hr;exact (ok (i+1) r (by rw [List.getElem?_cons_succ,qa3 hi,e])).imp id (·.2)
theorem ajq{l f:Str}{fs:List Str}(hl:l∈ls)(hf:fs=[f]\/∃ f2,fs=[f,f2]):OthZ ls ms ("great",l::fs):=by
 refine .inl ⟨rfl,l,fs,rfl,hl,?_⟩
 rcases hf with rfl | ⟨f2,rfl⟩ <;> simp
theorem ajr{i:Int}{l f:Str}{fs:List Str}(h0:0<=i)(h1:i<3)(hp:PcI ns (30+i) f)(hf:fs=[f]\/∃ f2,fs=[f,f2]/\PcI ns (34+i) f2):Dis ns (fun k=>k=30+i\/k=34+i) (aaM ("great",l::fs)):=by
 rw [aaT.1 rfl];show Dis ns _ fs
 rcases hf with rfl | ⟨f2,rfl,h2⟩
 ·exact (uaf hp).wide fun k hk=>.inl hk
 ·exact (uaf hp).cat (uaf h2) (fun k hk=>by omega) (fun k hk=>by omega) (fun k hk e=>by omega)
noncomputable def aho (K:PySem.W.Frag):Sp:=fun vs H Q _=>∃ (a b c:Addr) (ns:List Int) (ls ms:List Str),vs=[.ref a,.ref b,.ref c]/\SqL K H a (ns.map V.int)/\H b=some (.lst (ls.map V.str))/\H c=some (.lst (ms.map V.str))/\1<=ls.length/\ls.length<=1000/\ms.length<=1000/\(∀ p∈ms,qaO p=true)/\
 ∀ l ts R H',RulesAt H H' l ts R->OthI ns ls ms OS 7 R->Q (.ref l) H'
theorem Dis.ins{S:Int->Prop}(hS:∀ k,S k->0<=k/\k<20)(h:Dis ns S ps)(hp:PcS ns S p)(hn:p∉ps):Dis ns S (ps.take n++[p]++ps.drop n):=by
 have hm:∀ x,x∈ps.take n++[p]++ps.drop n↔x=p\/x∈ps:=fun x=>by
  rw [qas,qa6,qa6,qa7]
  have:x∈ps↔x∈ps.take n\/x∈ps.drop n:=by rw [<- qa6,qaA]
  rw [this]
  constructor
  ·rintro (h | h | h)
   ·exact .inr (.inl h)
   ·exact .inl h
   ·exact .inr (.inr h)
  ·rintro (h | h | h)
   ·exact .inr (.inl h)
   ·exact .inl h
   ·exact .inr (.inr h)
 have pcs:∀ x∈ps.take n++[p]++ps.drop n,PcS ns S x:=fun x hx=>by
  rcases (hm x).mp hx with e | e
  ·rw [e];exact hp
  ·exact h.pc x e
 refine ⟨?_,pcs,fun x hx y hy k k0 k1 pk _=>?_⟩
 ·have e:(ps.take n++[p]++ps.drop n).Perm (p::ps):=by
   rw [qas];refine List.perm_middle.trans ?_;exact List.Perm.of_eq (congrArg (qbF p) (qaA n ps))
  rw [e.nodup_iff,qax];exact ⟨hn,h.nd⟩
 ·obtain ⟨i,hi,q⟩:=pcs x hx
  have:=hS i hi
  have:=pk.inj q (by omega) k1 (by omega) (by omega)
  omega
noncomputable def MarkS (k:Int):Prop:=20<=k/\k<25
noncomputable def flagW (w:Str):Prop:=w=("figures" : Str)\/w=("behind" : Str)\/w=("blanks" : Str)
theorem flagW.no{w:Str}(h:flagW w):w≠"row"/\w≠"marks"/\w≠"great"/\w≠"as"/\w≠"over":=by
 rcases h with rfl | rfl | rfl <;> decide +kernel
theorem ads{w:Str}(h:flagW w):aaM (w,[])=[]:=by
 obtain ⟨n1,n2,n3,n4,n5⟩:=h.no;unfold aaM;rw [if_neg n3,if_neg n4]
 split <;> rfl
structure RulP(ns:List Int)(ls ms:List Str)(b:Bool)(n:Nat)(R:List Rl):Prop where
 dis:Dis ns (fun k=>LetS k\/OS k\/(b=true/\MarkS k)) ((aaj R).map (·.1))
 row:rowsW R "row"=[ls]
 mrk:rowsW R "marks"=if b=true then [ms] else []
 each:∀ z∈R,z=(("row" : Str),ls)\/(z=(("marks" : Str),ms)/\b=true)\/OthZ ls ms z\/(z.2=[]/\flagW z.1)
 len:R.length<=n
 fig:hasW R "figures"=true->dgO ns=false
 oi:∀ z∈R,OthZ ls ms z->∀ p∈aaM z,PcS ns OS p
theorem OthZ.word{z:Rl}(h:OthZ ls ms z):z.1≠"row"/\z.1≠"marks"/\z.1≠"figures"/\z.1≠"blanks":=by
 rcases h with h | h | h <;> rw [h.1] <;> decide +kernel
theorem OS_lt{k:Int}(h:OS k):30<=k/\k<52:=by
 unfold OS AS GS at h;omega
theorem amJ{R:List Rl}(hl:Dis ns LetS ls)(h:OthI ns ls ms OS 7 R):RulP ns ls ms false 8 ((("row" : Str),ls)::R):=by
 have t1:aaM (("row" : Str),ls)=ls:=aaT.2.2 (.inl rfl);refine ⟨?_,?_,?_,fun z hz=>?_,by rw [qad];have:=h.len;omega,fun e=>?_,fun z hz ho p hp=>?_⟩
 ·rw [acY,qa4,qb7,t1];have e:(ls.map ((fun x:Str×Str=>x.1)∘fun p=>(p,jobD "row")))=ls:=List.map_id' _;rw [e];exact (hl.cat h.dis (fun k hk=>by unfold LetS at hk;omega) (fun k hk=>by have:=OS_lt hk;omega) (fun k hk e=>by have:=OS_lt e;unfold LetS at hk;omega)).wide fun k hk=>hk.elim .inl fun q=>.inr (.inl q)
 ·have:rowsW R "row"=[]:=acZ fun z hz=>(h.each z hz).word.1
  show rowsW ([(("row" : Str),ls)]++R) "row"=_;rw [abk,this,aga (w:="row") (by simp)];rfl
 ·have:rowsW R "marks"=[]:=acZ fun z hz=>(h.each z hz).word.2.1
  show rowsW ([(("row" : Str),ls)]++R) "marks"=_;rw [abk,this,acZ (R:=[(("row" : Str),ls)]) (by simp;decide +kernel)];rfl
 ·rcases qaa.mp hz with e | e
  ·exact .inl e
  ·exact .inr (.inr (.inl (h.each z e)))
 ·exfalso
  unfold hasW at e;rw [qbO] at e;obtain ⟨z,hz,q⟩:=e;have q:z.1=("figures" : Str):=by simpa using q
  rcases qaa.mp hz with e | e
  ·rw [e] at q;exact absurd (show Str.ofString "row"=_ from q) (by decide +kernel)
  ·exact (h.each z e).word.2.2.1 q
 ·rcases qaa.mp hz with e | e
  ·rw [e] at ho;exact absurd rfl ho.word.1
  ·exact h.dis.pc p (qa8.mpr ⟨_,mem_pairs.mpr ⟨z,e,hp,rfl⟩,rfl⟩)
theorem RulP.marks{R:List Rl}(h:RulP ns ls ms false n R)(hm:Dis ns MarkS ms):RulP ns ls ms true (n+1) (R++[(("marks" : Str),ms)]):=by
 have t1:aaM (("marks" : Str),ms)=ms:=aaT.2.2 (.inr (.inl rfl));refine ⟨?_,?_,?_,fun z hz=>?_,by rw [qa1,qag];have:=h.len;omega,fun e=>?_,fun z hz ho=>?_⟩
 ·rw [acL,qa4,aek,t1];refine (h.dis.cat hm (fun k hk=>?_) (fun k hk=>by unfold MarkS at hk;omega) (fun k hk e=>?_)).wide fun k hk=>?_
  ·rcases hk with hk | hk | hk
   ·unfold LetS at hk;omega
   ·have:=OS_lt hk;omega
   ·exact absurd hk.1 (by decide)
  ·unfold MarkS at e
   rcases hk with hk | hk | hk
   ·unfold LetS at hk;omega
   ·have:=OS_lt hk;omega
   ·exact absurd hk.1 (by decide)
  ·rcases hk with (hk | hk | hk) | hk
   ·exact .inl hk
   ·exact .inr (.inl hk)
   ·exact absurd hk.1 (by decide)
   ·exact .inr (.inr ⟨rfl,hk⟩)
 ·rw [abk,h.row,acZ (R:=[(("marks" : Str),ms)]) (by simp;decide +kernel)];rfl
 ·rw [abk,h.mrk,aga (R:=[(("marks" : Str),ms)]) (w:="marks") (by simp)];rfl
 ·rcases qa6.mp hz with e | e
  ·rcases h.each z e with q | q | q | q
   ·exact .inl q
   ·exact absurd q.2 (by decide)
   ·exact .inr (.inr (.inl q))
   ·exact .inr (.inr (.inr q))
  ·exact .inr (.inl ⟨qa7.mp e,rfl⟩)
 ·rw [adS,Bool.or_eq_true] at e
  rcases e with e | e
  ·exact h.fig e
  ·exact absurd e (by simp [hasW];decide +kernel)
 ·rcases qa6.mp hz with e | e
  ·exact h.oi z e ho
  ·rw [qa7.mp e] at ho;exact absurd rfl ho.word.2.1
theorem RulP.flag{b:Bool}{R:List Rl}(h:RulP ns ls ms b n R){w:Str}(hw:flagW w)(hf:w=("figures" : Str)->dgO ns=false):RulP ns ls ms b (n+1) (R++[(w,[])]):=by
 obtain ⟨n1,n2,n3,n4,n5⟩:=hw.no;refine ⟨?_,?_,?_,fun z hz=>?_,by rw [qa1,qag];have:=h.len;omega,fun e=>?_,fun z hz ho p hp=>?_⟩
 ·rw [acL,qa4,aek,ads hw,qah];exact h.dis
 ·rw [abk,h.row,acZ (R:=[(w,[])]) (by simpa using n1)];rfl
 ·rw [abk,h.mrk,acZ (R:=[(w,[])]) (by simpa using n2),qah]
 ·rcases qa6.mp hz with e | e
  ·exact h.each z e
  ·rw [qa7.mp e];exact .inr (.inr (.inr ⟨rfl,hw⟩))
 ·rw [adS,Bool.or_eq_true] at e
  rcases e with e | e
  ·exact h.fig e
  ·exact hf (by simpa [hasW] using e)
 ·rcases qa6.mp hz with e | e
  ·exact h.oi z e ho p hp
  ·rw [qa7.mp e,ads hw] at hp;cases hp
theorem RulP.wide{b:Bool}{R:List Rl}(h:RulP ns ls ms b n R)(l:n<=m):RulP ns ls ms b m R:=⟨h.dis,h.row,h.mrk,h.each,qan h.len l,h.fig,h.oi⟩
theorem ahp{α:Type}{a b:List α}{x:α}(h:a++b=[x]):b++a=[x]:=by
 cases a with
 | nil=>simpa using h
 | cons y a=>
  simp only [List.cons_append,qbF.injEq,List.append_eq_nil_iff] at h;obtain ⟨rfl,rfl,rfl⟩:=h;rfl
theorem RulP.turn{b:Bool}{R:List Rl}(h:RulP ns ls ms b n R)(k:Nat):RulP ns ls ms b n (R.drop k++R.take k):=by
 have e:R.take k++R.drop k=R:=qaA k R;have hm:∀ z,z∈R.drop k++R.take k↔z∈R:=fun z=>by
  conv=>rhs;rw [<- e]
  rw [qa6,qa6,or_comm]
 refine ⟨?_,?_,?_,fun z hz=>h.each z ((hm z).mp hz),?_,fun q=>h.fig ?_,fun z hz=>h.oi z ((hm z).mp hz)⟩
 ·have p:((aaj (R.drop k++R.take k)).map (·.1)).Perm ((aaj R).map (·.1)):=by
   conv=>rhs;rw [<- e]
   rw [acL,acL];exact List.Perm.map _ List.perm_append_comm
  exact ⟨p.nodup_iff.mpr h.dis.nd,fun x hx=>h.dis.pc x (p.mem_iff.mp hx),fun x hx y hy=>h.dis.uq x (p.mem_iff.mp hx) y (p.mem_iff.mp hy)⟩
 ·have:=h.row
  rw [<- e,abk] at this;rw [abk];exact ahp this
 ·have:=h.mrk
  rw [<- e,abk] at this;rw [abk]
  by_cases hb:b=true
  ·rw [if_pos hb] at this ⊢;exact ahp this
  ·rw [if_neg hb] at this ⊢
   obtain ⟨h1,h2⟩:=List.append_eq_nil_iff.mp this;rw [h1,h2];rfl
 ·have:=h.len
  have e2:=congrArg qb5 e;rw [qa1] at e2 ⊢
  omega
 ·rw [<- e,adS];rw [adS] at q;rw [Bool.or_comm];exact q
theorem lookN{s:Str} : ∀ {l:List (Str×Str)},(l.map (·.1)).Nodup->(p,s)∈l->l.lookup p=some s
 | [],_,h=>by cases h
 | (y,t)::l,nd,h=>by
  rw [qak,qax] at nd;rw [List.lookup_cons]
  rcases qaa.mp h with h | h
  ·obtain ⟨rfl,rfl⟩:=Prod.mk.inj h
   simp
  ·have:p≠y:=fun e=>nd.1 (qa8.mpr ⟨_,h,e⟩)
   have e:(p==y)=false:=by simpa using this
   rw [e];exact lookN nd.2 h
noncomputable def gOf (R:List Rl) (p:Str):Str:=((aaj R).lookup p).getD ""
theorem ajs(z:Rl):(aaM z).length<=z.2.length:=by
 unfold aaM
 split
 ·rw [qaW];omega
 ·split
  ·rw [qaf];omega
  ·split
   ·exact qa2 _
   ·exact qar _
theorem ael : ∀ {R:List Rl},(∀ z∈R,z.2.length<=n)->(aaj R).length<=n*R.length
 | [],_=>qar _
 | z::R,h=>by
  rw [acY,qa1,qa0,qad,Nat.mul_add,Nat.mul_one];have h1:=ajs z;have h2:=h z qac;have h3:=ael fun y hy=>h y (qa9 _ hy)
  omega
theorem agb(nd:ps.Nodup){e:Str×Str}(he:e∈abz ps):ps.idxOf e.1<ps.idxOf e.2:=by
 unfold abz at he;obtain ⟨i,hi,e1⟩:=qay.mp he;rw [List.getElem_zip] at e1;have hi2:i+1<ps.length:=by rw [List.length_zip,List.length_tail] at hi;omega
 have hi3:i<ps.tail.length:=by rw [List.length_tail];omega
 have e3:ps.tail[i]'hi3=ps[i+1]:=List.getElem_tail hi3;have f1:ps[i]=e.1:=congrArg Prod.fst e1;have f2:ps[i+1]=e.2:=e3.symm.trans (congrArg Prod.snd e1);have a1:ps.idxOf ps[i]=i:=List.Nodup.idxOf_getElem nd i (by omega);have a2:ps.idxOf ps[i+1]=i+1:=List.Nodup.idxOf_getElem nd (i+1) hi2;rw [<- f1,<- f2,a1,a2];omega
theorem PcI.blank{k:Int}(h:PcI ns k " "):False:=by
 have:=h.ok.1
 exact absurd this (by decide +kernel)
structure RulG(ns:List Int)(ls ms:List Str)(R:List Rl):Prop where
 p:∃ b,RulP ns ls ms b 12 R/\(b=false->ms=[])
 l0:2<=ls.length
 l1:ls.length<=19
 ld:Dis ns LetS ls
 lw:∃ n,LetW ns n ls
 m1:ms.length<=4
 md:Dis ns MarkS ms
theorem RulG.pc{R:List Rl}(h:RulG ns ls ms R)(hp:p∈(aaj R).map (·.1)):∃ k,PcI ns k p:=by
 obtain ⟨b,h,_⟩:=h.p;obtain ⟨k,_,q⟩:=h.dis.pc p hp;exact ⟨k,q⟩
theorem RulG.nd{R:List Rl}(h:RulG ns ls ms R):((aaj R).map (·.1)).Nodup:=by
 obtain ⟨b,h,_⟩:=h.p;exact h.dis.nd
theorem RulG.row{R:List Rl}(h:RulG ns ls ms R):rowsW R "row"=[ls]:=by
 obtain ⟨b,h,_⟩:=h.p;exact h.row
theorem RulG.mrk{R:List Rl}(h:RulG ns ls ms R):(rowsW R "marks").flatten=ms/\(edges (rowsW R "marks")=abz ms):=by
 obtain ⟨b,h,hb⟩:=h.p;rw [h.mrk]
 cases b with
 | true=>simp [edges]
 | false=>rw [hb rfl];exact ⟨rfl,rfl⟩
theorem RulG.len{R:List Rl}(h:RulG ns ls ms R):R.length<=12:=by
 obtain ⟨b,h,_⟩:=h.p;exact h.len
theorem RulG.each{R:List Rl}(h:RulG ns ls ms R){z:Rl}(hz:z∈R):z=(("row" : Str),ls)\/z=(("marks" : Str),ms)\/OthZ ls ms z\/(z.2=[]/\flagW z.1):=by
 obtain ⟨b,h,_⟩:=h.p
 rcases h.each z hz with q | q | q | q
 ·exact .inl q
 ·exact .inr (.inl q.1)
 ·exact .inr (.inr (.inl q))
 ·exact .inr (.inr (.inr q))
theorem RulG.zl{R:List Rl}(h:RulG ns ls ms R){z:Rl}(hz:z∈R):z.2.length<=19:=by
 have h1:=h.l1;have h2:=h.m1
 rcases h.each hz with rfl | rfl | q | q
 ·exact h1
 ·show ms.length<=19;omega
 ·rcases q with ⟨_,l,fs,e,_,_,q⟩ | ⟨_,p,q,qs,e,_,_,l⟩ | ⟨_,l⟩
  ·rw [e,qad];omega
  ·rw [e,qad,qad];omega
  ·omega
 ·rw [q.1];exact qar _
theorem RulG.job{R:List Rl}(h:RulG ns ls ms R){j:Str}(hp:(p,j)∈aaj R):gOf R p=j:=by
 unfold gOf;rw [lookN h.nd hp];rfl
theorem RulG.letter{R:List Rl}(h:RulG ns ls ms R) : (p,("letter" : Str))∈aaj R↔p∈ls:=by
 rw [mem_letter,h.row];simp
theorem RulG.mark{R:List Rl}(h:RulG ns ls ms R) : (p,("mark" : Str))∈aaj R↔p∈ms:=by
 rw [mem_mark,h.mrk.1]
theorem RulG.good{R:List Rl}(h:RulG ns ls ms R):GoodR (gOf R) (ls.idxOf ·) (ms.idxOf ·) R:=by
 have hl:=h.len;have hpl:=ael (n:=19) fun z hz=>h.zl hz
 refine ⟨by omega,by omega,fun i p j hi=>⟨?_,fun hm=>?_,fun hf=>?_,?_⟩,fun hb=>?_,fun z hz=>by have:=h.zl hz;omega,fun z hz hw=>?_,fun z hz hw p hp=>?_,fun z hz hw p hp=>?_,fun z hz hw p hp=>?_,?_,?_,fun e he=>?_,fun e he=>?_⟩
 ·exact (h.job (qab hi)).symm
 ·exfalso
  obtain ⟨⟨p',j'⟩,hm',rfl⟩:=qa8.mp hm;obtain ⟨k,hk,e⟩:=List.mem_take_iff_getElem.mp hm';have hi2:=(qa5.mp hi)
  obtain ⟨hi2,e2⟩:=hi2;have nd:=h.nd;rw [qaI,List.pairwise_map,qaV] at nd;refine nd k i (by omega) hi2 (by omega) ?_;rw [e,e2]
 ·obtain ⟨b,hP,_⟩:=h.p;obtain ⟨k,hk⟩:=h.pc (qa8.mpr ⟨_,qab hi,rfl⟩);exact hk.ok.2 (hP.fig hf)
 ·obtain ⟨k,hk⟩:=h.pc (qa8.mpr ⟨_,qab hi,rfl⟩)
  have:p.length<=2:=(ab1 hk.ok.1).2.2
  omega
 ·obtain ⟨k,hk⟩:=h.pc hb;exact hk.blank
 ·rcases h.each hz with rfl | rfl | q | q
  ·rcases hw with hw | hw <;> exact absurd (show Str.ofString "row"=_ from hw) (by decide +kernel)
  ·rcases hw with hw | hw <;> exact absurd (show Str.ofString "marks"=_ from hw) (by decide +kernel)
  ·rcases q with ⟨_,l,fs,e,_⟩ | ⟨_,p,q,qs,e,_⟩ | ⟨e,_⟩
   ·rw [e];simp
   ·rw [e];simp
   ·rw [e] at hw;rcases hw with hw | hw <;> exact absurd hw (by decide +kernel)
  ·have:=q.2.no
   rcases hw with hw | hw
   ·exact absurd hw this.2.2.2.1
   ·exact absurd hw this.2.2.1
 ·rcases h.each hz with rfl | rfl | q | q
  ·exact absurd (show Str.ofString "row"=_ from hw) (by decide +kernel)
  ·exact absurd (show Str.ofString "marks"=_ from hw) (by decide +kernel)
  ·rcases q with ⟨_,l,fs,e,hl,_⟩ | ⟨e,_⟩ | ⟨e,_⟩
   ·rw [e] at hp
    have:p=l:=by simpa using hp
    rw [this];exact h.letter.mpr hl
   ·rw [e] at hw;exact absurd hw (by decide +kernel)
   ·rw [e] at hw;exact absurd hw (by decide +kernel)
  ·exact absurd hw q.2.no.2.2.1
 ·rcases h.each hz with rfl | rfl | q | q
  ·exact absurd (show Str.ofString "row"=_ from hw) (by decide +kernel)
  ·exact absurd (show Str.ofString "marks"=_ from hw) (by decide +kernel)
  ·rcases q with ⟨e,_⟩ | ⟨_,x,q,qs,e,hq,_⟩ | ⟨e,_⟩
   ·rw [e] at hw;exact absurd hw (by decide +kernel)
   ·rw [e] at hp
    have:p=q:=by simpa using hp
    rw [this];exact h.letter.mpr hq
   ·rw [e] at hw;exact absurd hw (by decide +kernel)
  ·exact absurd hw q.2.no.2.2.2.1
 ·rcases h.each hz with rfl | rfl | q | q
  ·exact absurd (show Str.ofString "row"=_ from hw) (by decide +kernel)
  ·exact absurd (show Str.ofString "marks"=_ from hw) (by decide +kernel)
  ·rcases q with ⟨e,_⟩ | ⟨_,x,q,qs,e,_,hq,_⟩ | ⟨e,_⟩
   ·rw [e] at hw;exact absurd hw (by decide +kernel)
   ·rw [e] at hp;have hp:p∈qs:=by simpa using hp
    exact (hq p hp).imp h.letter.mpr h.mark.mpr
   ·rw [e] at hw;exact absurd hw (by decide +kernel)
  ·exact absurd hw q.2.no.2.2.2.1
 ·rw [h.row];have:=h.l1;simp;omega
 ·rw [h.mrk.1];have:=h.m1;omega
 ·rw [h.row] at he;have he:e∈abz ls:=by simpa [edges] using he
  exact agb h.ld.nd he
 ·rw [h.mrk.2] at he;exact agb h.md.nd he
theorem RulG.lets{R:List Rl}(h:RulG ns ls ms R)(hL:abj R "row" L):L=ls:=by
 refine ajn h.ld.nd (abY _) hL.1 hL.2 (fun p=>?_) fun e he=>?_
 ·rw [aei,h.row];simp
 ·rw [h.row];simpa [edges] using he
theorem RulG.mrks{R:List Rl}(h:RulG ns ls ms R)(hM:abj R "marks" M):M=ms:=by
 refine ajn h.md.nd (abY _) hM.1 hM.2 (fun p=>?_) fun e he=>?_
 ·rw [aei,h.mrk.1]
 ·rw [h.mrk.2];exact he
theorem RulesAt.more{ts:List Addr}{R:List Rl}(h:RulesAt H0 H a ts R)(S:Same H H'):RulesAt H0 H' a ts R:=⟨h.rows.same S,h.nd,h.new,h.same.trans S⟩
theorem agG{b:Bool}{R:List Rl}{H8:Hp}{ts:List Addr}{w:Str}(RA:RulesAt H H8 r ts R)(P:RulP ns ls ms b n R)(hn:n<=100)(hw:flagW w)(hf:w=("figures" : Str)->dgO ns=false) :
  tyV K "list" (V.ref r) H8/\1<=sizeLine/\∀ p:Addr,H8 p=none->ad2 (V.ref r) [V.ref p] (upd H8 p (HO.tup [V.str w])) fun x H1=>∃ ts R,RulesAt H H1 r ts R/\RulP ns ls ms b (n+1) R:=by
 refine ⟨tyL RA.rows.top,by decide,fun p np=>?_⟩;have S:Same H8 (upd H8 p (HO.tup [V.str w])):=Same.new np;have hl:=P.len;exact appOk (S _ _ RA.rows.top) (by rw [qa0,RA.rows.len];exact aaq (by omega)) ⟨_,_,RA.grow S np (z:=(w,[])) aaa,P.flag hw hf⟩
theorem RulG.name_letter{R:List Rl}(h:RulG ns ls ms R)(hp:p∈(aaj R).map (·.1)){k:Int}(k0:0<=k)(k1:k<16)(hk:PcI ns k p):p∈ls:=by
 obtain ⟨b,P,hb⟩:=h.p;obtain ⟨⟨q,j⟩,hq,rfl⟩:=qa8.mp hp;obtain ⟨z,hz,ht,_⟩:=mem_pairs.mp hq
 rcases P.each z hz with rfl | ⟨rfl,_⟩ | ho | ⟨e,hw⟩
 ·rw [aaT.2.2 (.inl rfl)] at ht;exact ht
 ·rw [aaT.2.2 (.inr (.inl rfl))] at ht;obtain ⟨i,hi,pi⟩:=h.md.pc _ ht;unfold MarkS at hi
  have:=hk.inj pi k0 (by omega) (by omega) (by omega)
  omega
 ·obtain ⟨i,hi,pi⟩:=P.oi z hz ho _ ht;have hi:=OS_lt hi
  have:=hk.inj pi k0 (by omega) (by omega) (by omega)
  omega
 ·obtain ⟨w,ps⟩:=z;obtain rfl:ps=[]:=e;rw [ads hw] at ht;cases ht
theorem abQ(c d:Nat):(two c d).cps.toList=[c,d]:=rfl
theorem adc(c:Nat):(one c).cps.toList=[c]:=rfl
theorem RulG.closed{R:List Rl}(h:RulG ns ls ms R){c d e:Nat}(h1:one c∈(aaj R).map (·.1))(h2:two c d∈(aaj R).map (·.1))(h3:two d e∈(aaj R).map (·.1)):one e∈(aaj R).map (·.1):=by
 obtain ⟨b,P,hb⟩:=h.p;obtain ⟨n,W⟩:=h.lw;have pair:∀ {x y:Nat},two x y∈ls->∃ m:Int,0<=m/\m<n/\y=sgO ns m:=fun {x y} hm=>by
  obtain ⟨k,_,_,q | ⟨m,m0,m1,q⟩⟩:=W.each _ hm
  ·have:=congrArg (fun z:Str=>z.cps.toList.length) q
   simp [abQ,adc] at this
  ·refine ⟨m,m0,m1,?_⟩
   have:=congrArg (fun z:Str=>z.cps.toList) q
   rw [abQ] at this;have e2:(one (sgO ns k)++one (sgO ns m)).cps.toList=[sgO ns k,sgO ns m]:=rfl;rw [e2] at this
   simpa using (qbF.inj this).2
 obtain ⟨k,hk,pk⟩:=P.dis.pc _ h2;have hkk:0<=k/\k<83:=by
  rcases hk with q | q | q
  ·unfold LetS at q;omega
  ·have:=OS_lt q;omega
  ·have:=q.2;unfold MarkS at this;omega
 have ek:c=sgO ns k:=by
  obtain ⟨r,e1,_⟩:=pk;rw [abQ] at e1;exact (qbF.inj e1).1
 have pc1:PcI ns k (one c):=⟨[],by rw [<- ek];rfl,by simp,by simp⟩
 have k16:k<16:=by
  rcases hk with q | q | q
  ·exact q.2
  ·exfalso
   have:=P.dis.uq _ h1 _ h2 k (by have:=OS_lt q;omega) hkk.2 pc1 pk
   have:=congrArg (fun z:Str=>z.cps.toList.length) this
   simp [abQ,adc] at this
  ·exfalso
   have q2:=q.2;unfold MarkS at q2
   have:=P.dis.uq _ h1 _ h2 k (by omega) hkk.2 pc1 pk
   have:=congrArg (fun z:Str=>z.cps.toList.length) this
   simp [abQ,adc] at this
 obtain ⟨m,m0,m1,ed⟩:=pair (h.name_letter h2 hkk.1 k16 pk);have n1:=W.n1;obtain ⟨k3,hk3,pk3⟩:=P.dis.pc _ h3;have pm:PcI ns m (two d e):=by
  obtain ⟨r,e1,hr,hr2⟩:=pk3;rw [abQ] at e1;refine ⟨[e],by rw [<- ed];rfl,by simp,fun x hx=>hr2 x ?_⟩;rw [<- (qbF.inj e1).2];exact hx
 obtain ⟨m',m0',m1',ee⟩:=pair (h.name_letter h3 m0 (by omega) pm);rw [ee]
 have:=h.letter.mpr (W.all m' m0' m1')
 exact qa8.mpr ⟨_,this,rfl⟩
theorem RulG.str{R:List Rl}(h:RulG ns ls ms R):∀ z∈R,∀ y∈z.1::z.2,qaO y=true:=fun z hz y hy=>by
 have pl:∀ p∈ls,qaO p=true:=fun p hp=>by obtain ⟨k,_,q⟩:=h.ld.pc p hp;exact (ab1 q.ok.1).1
 have pm:∀ p∈ms,qaO p=true:=fun p hp=>by obtain ⟨k,_,q⟩:=h.md.pc p hp;exact (ab1 q.ok.1).1
 have pt:∀ p∈aaM z,qaO p=true:=fun p hp=>by
  obtain ⟨k,q⟩:=h.pc (qa8.mpr ⟨_,mem_pairs.mpr ⟨z,hz,hp,rfl⟩,rfl⟩);exact (ab1 q.ok.1).1
 have pw:∀ w:Str,(w="row"\/w="marks"\/w="great"\/w="as"\/w="over"\/w="figures"\/w="behind"\/w="blanks")->qaO w=true:=fun w hw=>by
  rcases hw with rfl | rfl | rfl | rfl | rfl | rfl | rfl | rfl <;> decide +kernel
 rcases h.each hz with rfl | rfl | q | q
 ·rcases qaa.mp hy with rfl | hy
  ·exact pw _ (.inl rfl)
  ·exact pl y hy
 ·rcases qaa.mp hy with rfl | hy
  ·exact pw _ (.inr (.inl rfl))
  ·exact pm y hy
 ·rcases q with ⟨w,l,fs,e,hl,_⟩ | ⟨w,p,q,qs,e,hq,hqs,_⟩ | ⟨w,_⟩
  ·rw [aaT.1 w,e] at pt;rw [w,e] at hy
   rcases qaa.mp hy with rfl | hy
   ·exact pw _ (.inr (.inr (.inl rfl)))
   ·rcases qaa.mp hy with rfl | hy
    ·exact pl _ hl
    ·exact pt y hy
  ·rw [aaT.2.1 w,e] at pt;rw [w,e] at hy
   rcases qaa.mp hy with rfl | hy
   ·exact pw _ (.inr (.inr (.inr (.inl rfl))))
   ·rcases qaa.mp hy with rfl | hy
    ·exact pt _ (by simp)
    ·rcases qaa.mp hy with rfl | hy
     ·exact pl _ hq
     ·exact (hqs y hy).elim (pl y) (pm y)
  ·rw [aaT.2.2 (.inr (.inr w))] at pt;rw [w] at hy
   rcases qaa.mp hy with rfl | hy
   ·exact pw _ (.inr (.inr (.inr (.inr (.inl rfl)))))
   ·exact pt y hy
 ·rw [q.1] at hy;have hy:y=z.1:=by simpa using hy
  rw [hy]
  rcases q.2 with e | e | e <;> rw [e] <;> decide +kernel
theorem SqL.but{x:Addr}{fs:List (Str×V)}(s:SameBut x H H')(hx:H x=some (.ins C dx fs))(h:SqL K H a xs):SqL K H' a xs:=by
 rcases h with (h | ⟨o,h⟩) | h
 ·exact .inl (.inl (s _ _ (fun e=>by rw [e,hx] at h;cases h) h))
 ·exact .inl (.inr ⟨o,s _ _ (fun e=>by rw [e,hx] at h;cases h) h⟩)
 ·exact .inr h
noncomputable def spLaw (K:PySem.W.Frag):Sp:=fun vs H Q _=>∃ (a:Addr) (ns:List Int),vs=[.ref a]/\SqL K H a (ns.map V.int)/\ns.length<=63/\∀ H',Q (.bl true) H'
noncomputable def ahq (K:PySem.W.Frag):Sp:=fun vs H Q _=>∃ (a:Addr) (ns:List Int),vs=[.ref a]/\SqL K H a (ns.map V.int)/\∀ l ts R ls ms H',Same H H'->H l=none->IsRules H' l ts R->RulG ns ls ms R->Q (.ref l) H'
end L2
set_option maxRecDepth 100000
namespace L2
open PySem PySem.Spec PyProof.Rows
noncomputable def rIntU:List V->Hp->VK->Prop
 | [.bl b],H,Q=>Q (.int (if b then 1 else 0)) H
 | [.str x],H,Q=>PySem.NumText.AllDigits x.cps.toList/\1<=x.length/\x.length<=640/\Q (.int ((PySem.NumText.digitsVal x.cps.toList:Nat):Int)) H
 | _,_,_=>False
theorem aoq{b:Bool} : rIntU [.bl b] H Q=Q (.int (if b then 1 else 0)) H:=rfl
theorem aor{x:Str} : rIntU [.str x] H Q=(PySem.NumText.AllDigits x.cps.toList/\1<=x.length/\x.length<=640/\Q (.int ((PySem.NumText.digitsVal x.cps.toList:Nat):Int)) H):=rfl
noncomputable def rInD (K:PySem.W.Frag) (x y:V) (H:Hp) (Q:VK):Prop:=∃ (d:PyData) (ds:List PyData),Dn K H x d/\Dn K H y (.list ds)/\min (qbj ds) d.depth<=60/\Q (.bl (ds.any fun e=>qaN e d)) H
theorem q_inD(hu:X.A.units+64<cLine)(hK:X.K=K:=by rfl):QOp X (compareOp .In) (rInD K):=by
 subst hK;refine ⟨?_⟩;intro pins s σ H x y v u Q I rx ry h;obtain ⟨d,ds,h1,h2,h3,q⟩:=h;obtain ⟨c1,as1,r1⟩:=h1.reads I rfl rx;obtain ⟨c2,as2,r2⟩:=h2.reads I rfl ry;exact SeqAt.in_list_reads r2 r1 c2 c1 (by omega) ⟨.bl _,H,I,rfl,q⟩
theorem aos : rInD K x y H Q=∃ (d:PyData) (ds:List PyData),Dn K H x d/\Dn K H y (.list ds)/\min (qbj ds) d.depth<=60/\Q (.bl (ds.any fun e=>qaN e d)) H:=rfl
end L2
set_option maxRecDepth 100000
namespace L2
open PySem PySem.Spec PyProof.Rows
open PySem.Builtin PySem.Builtin.Str PySem.StrLaws
theorem adT{s sub:Str}{hi:Nat}(h1:sub.length=1):∀ (n a:Nat) (st:Array Nat×Nat),st.snd<=a->
  (forIn (List.range' a n) st (occBody s sub hi 1)).run.fst.toList.isEmpty=(st.fst.toList.isEmpty&&(List.range' a n).all fun i=>!(decide (i+1<=hi)&&subAt s sub i))
 | 0,a,st,_=>by simp
 | n+1,a,st,h2=>by
  rw [List.range'_succ,List.forIn_cons,List.all_cons];unfold occBody
  by_cases hc:a+1<=hi/\subAt s sub a=true
  ·have e0:(!(decide (a+1<=hi)&&subAt s sub a))=false:=by rw [decide_eq_true hc.1,hc.2];rfl
   rw [e0,Bool.false_and,Bool.and_false]
   by_cases hs:st.fst.size<1
   ·rw [if_pos ⟨⟨⟨hs,h2⟩,by omega⟩,hc.2⟩]
    have:=adT (s:=s) (hi:=hi) h1 n (a+1) (st.fst.push a,a+sub.length) (by simp only;omega)
    refine this.trans ?_;rw [Array.toList_push]
    simp
   ·rw [if_neg (fun h=>hs h.1.1.1)]
    have:=adT (s:=s) (hi:=hi) h1 n (a+1) (st.fst,st.snd) (by simp only;omega)
    refine this.trans ?_;have e1:st.fst.toList.isEmpty=false:=by
     cases e:st.fst.toList with
     | nil=>
      have:=congrArg qb5 e
      simp at this;rw [this] at hs;simp at hs
     | cons x r=>rfl
    rw [e1];rfl
  ·rw [if_neg (fun h=>hc ⟨by omega,h.2⟩)]
   have:=adT (s:=s) (hi:=hi) h1 n (a+1) (st.fst,st.snd) (by simp only;omega)
   refine this.trans ?_;have e0:(!(decide (a+1<=hi)&&subAt s sub a))=true:=by
    cases e:(decide (a+1<=hi)&&subAt s sub a) with
    | false=>rfl
    | true=>rw [qav,decide_eq_true_eq] at e;exact absurd e hc
   rw [e0,Bool.true_and]
theorem amK(x:Str)(c:Nat):(!(occurrences x ⟨#[c]⟩ 0 x.length 1).isEmpty)=decide (c∈x.cps.toList):=by
 rw [occ_eq,adT rfl _ _ _ (qa2 0)];rw [qbc,decide_eq_true_eq];have hl:x.cps.toList.length=x.length:=by simp [Str.length]
 constructor
 ·intro h;rw [qbJ,Bool.and_eq_false_iff] at h
  rcases h with h | h
  ·cases h
  ·rw [List.all_eq_false] at h;obtain ⟨i,_,h⟩:=h;rw [Bool.not_not_eq,qav,aiT,beq_iff_eq] at h;exact qab h.2
 ·intro h;obtain ⟨i,hi⟩:=List.mem_iff_getElem?.mp h;have hlt:i<x.length:=by rw [<- hl];exact (qa5.mp hi).1
  rw [qbJ,Bool.and_eq_false_iff];refine .inr (List.all_eq_false.mpr ⟨i,by simp [List.mem_range'];omega,?_⟩);rw [aiT,hi,decide_eq_true (by omega)]
  simp
noncomputable def aot:List V->Hp->VK->Prop:=fun xs H Q=>∃ n,xs=[.int n]/\n.natAbs.log2<1920/\Q (.str (Str.ofString (toString n))) H
theorem amL : QCall X (.type "str") aot:=⟨by
 intro pins s σ H xs us Q I r h;obtain ⟨n,rfl,hn,q⟩:=h
 cases r with
 | cons r1 r2=>
  cases r2
  obtain ⟨t,rfl⟩:=r1;exact PySem.P.str_of_int hn ⟨.str _,H,I.tok _,⟨_,rfl⟩,q⟩⟩
theorem aem:∀ (k fuel n:Nat) (ds:List Char),n<10 ^ (k+1)->(Nat.toDigitsCore 10 fuel n ds).length<=k+1+ds.length
 | k,0,n,ds,_=>by simp [Nat.toDigitsCore]
 | 0,fuel+1,n,ds,h=>by
  unfold Nat.toDigitsCore
  have:n / 10=0:=by omega
  simp only [this,if_true,qad];omega
 | k+1,fuel+1,n,ds,h=>by
  unfold Nat.toDigitsCore;simp only
  split
  ·simp;omega
  ·have:=aem k fuel (n / 10) (Nat.digitChar (n % 10)::ds) (by rw [Nat.div_lt_iff_lt_mul (by decide)];rw [Nat.pow_succ] at h;exact h)
   simp at this ⊢
   omega
noncomputable def D5S:Str:=Str.ofString "0123456789"
theorem akN:D5S.cps.toList=[48,49,50,51,52,53,54,55,56,57]:=by decide +kernel
theorem amM(c:Nat):decide (c∈D5S.cps.toList)=figO c:=by
 rw [akN];unfold figO;rw [qbc,qav,decide_eq_true_eq,decide_eq_true_eq,decide_eq_true_eq];simp only [qaa,qbz,or_false];omega
theorem ajt(c:Nat):(!(occurrences (Str.ofString "0123456789") ⟨#[c]⟩ 0 (Str.ofString "0123456789").length 1).isEmpty)=figO c:=by
 rw [amK];exact amM c
noncomputable def rTupA (K:PySem.W.Frag):R2:=fun x y H Q=>∃ a b xs ys,x=.ref a/\y=.ref b/\SqT K H a xs/\SqT K H b ys/\ys≠[]/\xs.length+ys.length<=sizeLine/\∀ p H',Same H H'->SqT K H' p (xs++ys)->(H' p=some (.tup (xs++ys))\/xs=[]/\p=b)->Q (.ref p) H'
theorem aou : rTupA K (.ref a) (.ref b) H Q=∃ xs ys,SqT K H a xs/\SqT K H b ys/\ys≠[]/\xs.length+ys.length<=sizeLine/\∀ p H',Same H H'->SqT K H' p (xs++ys)->(H' p=some (.tup (xs++ys))\/xs=[]/\p=b)->Q (.ref p) H':=
 propext ⟨fun ⟨_,_,xs,ys,e1,e2,h⟩=>(by cases e1;cases e2;exact ⟨xs,ys,h⟩),fun ⟨xs,ys,h⟩=>⟨a,b,xs,ys,rfl,rfl,h⟩⟩
end L2
set_option maxRecDepth 100000
namespace L2
open PySem PySem.Spec PyProof.Rows
theorem aov{d:Value}(h:(us++[d]).length=3):∃ u1 u2,us=[u1,u2]:=by
 match us,h with
 | [a,b],_=>exact ⟨a,b,rfl⟩
 | [],h=>simp at h
 | [_],h=>simp at h
 | _::_::_::r,h=>simp at h
theorem ac0(g:List Str)(z:Str):(valV (kvOf g) (Sum.inr z)).isSome=decide (z∈g):=by
 rw [<- ae8];unfold valV;rw [Option.isSome_map,List.isSome_find?]
theorem aen{y rest:List Nat}(h:z.cps.toList=pre++(y++rest)):cutS z (some (pre.length:Int)) (some ((pre.length:Int)+(y.length:Int)))=⟨y.toArray⟩:=by
 have hl:z.length=pre.length+(y.length+rest.length):=by
  have:=congrArg qb5 h
  simp [Str.length] at this ⊢
  omega
 apply Str.ext'
 apply Array.toList_inj.mp
 rw [afS,h];have e1:HT.sIx z.length 0 (some (pre.length:Int))=pre.length:=by rw [HT.sIx_nat];omega
 have e2:HT.sIx z.length z.length (some ((pre.length:Int)+(y.length:Int)))=pre.length+y.length:=by
  rw [show (pre.length:Int)+(y.length:Int)=((pre.length+y.length:Nat):Int) by omega,HT.sIx_nat];omega
 rw [e1,e2,List.drop_left,show pre.length+y.length-pre.length=y.length by omega,List.take_left]
theorem adk{c:Nat}(h:z.cps.toList=pre++[c]):cutS z (some (pre.length:Int)) (some ((pre.length:Int)+2))=one c:=by
 have hl:z.length=pre.length+1:=by
  have:=congrArg qb5 h
  simp [Str.length] at this ⊢
  omega
 apply Str.ext'
 apply Array.toList_inj.mp
 rw [afS,h];have e1:HT.sIx z.length 0 (some (pre.length:Int))=pre.length:=by rw [HT.sIx_nat];omega
 have e2:HT.sIx z.length z.length (some ((pre.length:Int)+2))=pre.length+1:=by
  rw [show (pre.length:Int)+2=((pre.length+2:Nat):Int) by omega,HT.sIx_nat];omega
 rw [e1,e2,List.drop_left,show pre.length+1-pre.length=1 by omega];rfl
theorem afl{r:List Nat}{c:Nat} : atI (pre++c::r) (pre.length:Int)=some c:=abr (by rw [qaR (qa2 _),Nat.sub_self];rfl)
theorem aeT:∀ (zs acc:List Str),abR (kvOf acc) (kvOf zs)=kvOf (dds acc zs)
 | [],acc=>rfl
 | z::zs,acc=>by
  show abR (putK (kvOf acc) (Sum.inr z) (.bl true)) (kvOf zs)=kvOf (dds (dd acc z) zs);rw [afQ,aeT zs]
noncomputable def aju:Sp:=fun vs H Q _=>∃ (z:Str) (pre rest:List Nat),vs=[.str z,.int pre.length]/\z.length<=1000/\z.cps.toList=pre++rest/\Q (.str ⟨(rest.takeWhile figO).toArray⟩) H
theorem akO(h:(us++[]).length=3):∃ u1 u2 u3,us=[u1,u2,u3]:=by
 match us,h with
 | [a,b,c],_=>exact ⟨a,b,c,rfl⟩
 | [],h=>simp at h
 | [_],h=>simp at h
 | [_,_],h=>simp at h
 | _::_::_::_::r,h=>simp at h
theorem lenL(z:Str):z.cps.toList.length=z.length:=by simp [Str.length]
noncomputable def partG (g:List Str):List Nat->Option Str
 | []=>none
 | [c]=>if one c∈g then some (one c) else none
 | c::d::_=>if two c d∈g then some (two c d) else if one c∈g then some (one c) else none
theorem ab3(g:List Str)(c:Nat):partG g [c]=if one c∈g then some (one c) else none:=rfl
theorem abe(g:List Str)(c d:Nat)(r:List Nat):partG g (c::d::r)=if two c d∈g then some (two c d) else if one c∈g then some (one c) else none:=rfl
noncomputable def partF (w:Bool) (g:List Str):List Nat->Option Str
 | []=>none
 | c::r=>if (w&&figO c)=true then some ⟨((c::r).takeWhile figO).toArray⟩ else partG g (c::r)
theorem abK(w:Bool)(g:List Str)(c:Nat)(r:List Nat):partF w g (c::r)=if (w&&figO c)=true then some ⟨((c::r).takeWhile figO).toArray⟩ else partG g (c::r):=rfl
theorem ah1{g:List Str}{y:Str} : ∀ {l:List Nat},partG g l=some y->∃ rest,l=y.cps.toList++rest/\1<=y.length
 | [],h=>by cases h
 | [c],h=>by
  rw [ab3] at h
  by_cases hc:one c∈g
  ·rw [if_pos hc] at h;cases h;exact ⟨[],rfl,by show 1<=1;decide⟩
  ·rw [if_neg hc] at h;cases h
 | c::d::r,h=>by
  rw [abe] at h
  by_cases h2:two c d∈g
  ·rw [if_pos h2] at h;cases h;exact ⟨r,rfl,by show 1<=2;decide⟩
  ·rw [if_neg h2] at h
   by_cases hc:one c∈g
   ·rw [if_pos hc] at h;cases h;exact ⟨d::r,rfl,by show 1<=1;decide⟩
   ·rw [if_neg hc] at h;cases h
theorem agH{g:List Str}(h:∀ x,x∈g↔x∈g'):∀ l,partG g l=partG g' l
 | []=>rfl
 | [c]=>by
  rw [ab3,ab3]
  by_cases hc:one c∈g
  ·rw [if_pos hc,if_pos ((h _).mp hc)]
  ·rw [if_neg hc,if_neg (fun z=>hc ((h _).mpr z))]
 | c::d::r=>by
  rw [abe,abe]
  by_cases h2:two c d∈g
  ·rw [if_pos h2,if_pos ((h _).mp h2)]
  ·rw [if_neg h2,if_neg (fun z=>h2 ((h _).mpr z))]
   by_cases hc:one c∈g
   ·rw [if_pos hc,if_pos ((h _).mp hc)]
   ·rw [if_neg hc,if_neg (fun z=>hc ((h _).mpr z))]
theorem agI{w:Bool}{g:List Str}(h:∀ x,x∈g↔x∈g')(l:List Nat):partF w g l=partF w g' l:=by
 cases l with
 | nil=>rfl
 | cons c r=>rw [abK,abK,agH h]
theorem aeU{w:Bool}{g:List Str}{y:Str}{l:List Nat}(h:partF w g l=some y):∃ rest,l=y.cps.toList++rest/\1<=y.length:=by
 cases l with
 | nil=>cases h
 | cons c r=>
  rw [abK] at h
  by_cases hw:(w&&figO c)=true
  ·rw [if_pos hw] at h;cases h;rw [qav] at hw;refine ⟨(c::r).dropWhile figO,(List.takeWhile_append_dropWhile).symm,?_⟩;show 1<=((c::r).takeWhile figO).length;rw [qbd hw.2]
   simp
  ·rw [if_neg hw] at h;exact ah1 h
noncomputable def cutFn (w:Bool) (g:List Str):Nat->List Nat->Nat×List Str
 | 0,_=>(0,[])
 | n+1,l=>match partF w g l with
  | none=>(0,[])
  | some y=>((cutFn w g n (l.drop y.length)).1+y.length,y::(cutFn w g n (l.drop y.length)).2)
noncomputable def cutF (w:Bool) (g:List Str) (l:List Nat):Nat×List Str:=cutFn w g l.length l
theorem aeV(w:Bool)(g:List Str):∀ (n m:Nat) (l:List Nat),l.length<=n->l.length<=m->cutFn w g n l=cutFn w g m l
 | 0,0,_,_,_=>rfl
 | 0,m+1,l,h,_=>by
  have:l=[]:=qaB.mp (by omega)
  subst this;rfl
 | n+1,0,l,_,h=>by
  have:l=[]:=qaB.mp (by omega)
  subst this;rfl
 | n+1,m+1,l,h1,h2=>by
  cases e:partF w g l with
  | none=>show (match partF w g l with | none=>_ | some y=>_)=(match partF w g l with | none=>_ | some y=>_);rw [e]
  | some y=>
   obtain ⟨rest,e1,e2⟩:=aeU e;have hd:(l.drop y.length).length=l.length-y.length:=qaW
   have:=aeV w g n m (l.drop y.length) (by omega) (by omega)
   show (match partF w g l with | none=>_ | some y=>_)=(match partF w g l with | none=>_ | some y=>_);rw [e]
   dsimp only
   rw [this]
theorem ach{w:Bool}{g:List Str}{l:List Nat}(h:partF w g l=none):cutF w g l=(0,[]):=by
 unfold cutF;cases hl:l.length with
 | zero=>rfl
 | succ n=>
  show (match partF w g l with | none=>_ | some y=>_)=_;rw [h]
theorem ac1(w:Bool)(g:List Str):cutF w g []=(0,[]):=rfl
theorem ab4{w:Bool}{g:List Str}{y:Str}{l:List Nat}(h:partF w g l=some y):∃ rest,l=y.cps.toList++rest/\cutF w g l=((cutF w g rest).1+y.length,y::(cutF w g rest).2)/\1<=y.length:=by
 obtain ⟨rest,e1,e2⟩:=aeU h;refine ⟨rest,e1,?_,e2⟩;have el:l.length=y.length+rest.length:=by rw [e1,qa1,lenL]
 have ed:l.drop y.length=rest:=by rw [e1,<- lenL,List.drop_left]
 unfold cutF;cases hl:l.length with
 | zero=>omega
 | succ k=>
  show (match partF w g l with | none=>_ | some y=>_)=_;rw [h]
  dsimp only
  rw [ed,aeV w g k rest.length rest (by omega) (qa2 _)]
theorem aeW{w:Bool}{g:List Str}(h:∀ x,x∈g↔x∈g')(l:List Nat):cutF w g l=cutF w g' l:=by
 have:∀ n l,cutFn w g n l=cutFn w g' n l:=by
  intro n
  induction n with
  | zero=>intro l;rfl
  | succ n ih=>
   intro l;show (match partF w g l with | none=>_ | some y=>_)=(match partF w g' l with | none=>_ | some y=>_);rw [agI h]
   cases partF w g' l with
   | none=>rfl
   | some y=>dsimp only;rw [ih]
 exact this _ _
theorem adt{w:Bool}{g:List Str} : ∀ (n:Nat) (l:List Nat),l.length<=n->(cutF w g l).1<=l.length/\(cutF w g l).2.length<=l.length/\∀ y∈(cutF w g l).2,∀ c∈y.cps.toList,c∈l
 | 0,l,h=>by
  have:l=[]:=qaB.mp (by omega)
  subst this;rw [ac1];exact ⟨qa2 _,qa2 _,by simp⟩
 | n+1,l,h=>by
  cases e:partF w g l with
  | none=>rw [ach e];exact ⟨qar _,qar _,by simp⟩
  | some y=>
   obtain ⟨rest,e1,e2,e3⟩:=ab4 e;have hl:l.length=y.length+rest.length:=by rw [e1,qa1,lenL]
   obtain ⟨a,b,c⟩:=adt (w:=w) (g:=g) n rest (by omega);rw [e2];refine ⟨by dsimp only;omega,by dsimp only;rw [qad];omega,fun z hz x hx=>?_⟩;rw [e1]
   rcases qaa.mp hz with r | r
   ·rw [r] at hx;exact qa6.mpr (.inl hx)
   ·exact qa6.mpr (.inr (c z r x hx))
noncomputable def aci (w:Bool) (g:List Str) (z:Str):Prop:=(cutF w g z.cps.toList).1=z.length
noncomputable def ajv:Sp:=fun vs H Q _=>∃ (d:Addr) (z:Str) (g:List Str) (pre:List Nat) (c:Nat) (r:List Nat) (w:Bool) (y:Str),vs=[.ref d,.str z,.int pre.length,.bl w]/\H d=some (.dK (kvOf g))/\z.length<=1000/\z.cps.toList=pre++c::r/\partF w g (c::r)=some y/\Q (.str y) H
noncomputable def ahr (K:PySem.W.Frag):Sp:=fun vs H Q _=>∃ (a:Addr) (z:Str) (ks:List Str) (w:Bool),vs=[.ref a,.str z,.bl w]/\SqL K H a (ks.map V.str)/\ks.length<=1000/\z.length<=1000/\aci w ks z/\
 ∀ l H',H l=none->Same H H'->H' l=some (.lst ((cutF w ks z.cps.toList).2.map V.str))->Q (.ref l) H'
noncomputable abbrev Elt:=Int×Int×List Int×Int
noncomputable def UnAt (H:Hp) (e:Addr×Addr) (u:Elt):Prop:=H e.1=some (.tup [.int u.1,.int u.2.1,.ref e.2,.int u.2.2.2])/\H e.2=some (.lst (u.2.2.1.map V.int))
structure UnI(H0 H:Hp)(l:Addr)(es:List (Addr×Addr))(U:List Elt):Prop where
 top:H l=some (.lst (es.map fun e=>V.ref e.1))
 row:Paired (UnAt H) es U
 nd:(l::es.map (·.2)).Nodup
 new:∀ a∈l::es.map (·.2),H0 a=none
 same:Same H0 H
theorem UnI.more{l:Addr}{es:List (Addr×Addr)}{U:List Elt}(h:UnI H0 H l es U)(S:Same H H'):UnI H0 H' l es U:=⟨S _ _ h.top,uam h.row fun _ _ e=>⟨S _ _ e.1,S _ _ e.2⟩,h.nd,h.new,h.same.trans S⟩
theorem UnI.live{l:Addr}{es:List (Addr×Addr)}{U:List Elt}(h:UnI H0 H l es U)(ha:a∈es.map (·.2)):∃ xs,H a=some (.lst xs):=by
 obtain ⟨e,he,rfl⟩:=qa8.mp ha;obtain ⟨i,hi,q⟩:=qay.mp he;obtain ⟨u,_,hu⟩:=Paired.at h.row (i:=i) (a:=e) (by rw [qa3 hi,q]);exact ⟨_,hu.2⟩
theorem UnI.push{l m t:Addr}{es:List (Addr×Addr)}{U:List Elt}(h:UnI H0 H l es U)(nm:H m=none){k w c:Int}(nt:upd H m (.lst []) t=none) :
  UnI H0 (upd (upd (upd H m (.lst [])) t (.tup [.int k,.int w,.ref m,.int c])) l (.lst ((es.map fun e=>V.ref e.1)++[V.ref t]))) l (es++[(t,m)]) (U++[(k,w,[],c)]):=by
 have nlm:l≠m:=fun e=>by have:=h.top;rw [e,nm] at this;cases this
 have nmt:m≠t:=fun e=>by rw [<- e,aaa] at nt;cases nt
 have S:Same H (upd (upd H m (.lst [])) t (.tup [.int k,.int w,.ref m,.int c])):=(Same.new nm).trans (Same.new nt);have hl:=S _ _ h.top;have nlt:l≠t:=fun e=>by rw [<- e,(Same.new nm) _ _ h.top] at nt;cases nt
 have hnd:=qax.mp h.nd;refine ⟨by rw [aaa,qa4];rfl,Paired.snoc (uan h.row fun e he u hu=>⟨?_,?_⟩) ⟨?_,?_⟩,?_,fun a ha=>?_,(h.same.trans S).put (h.new l qac)⟩
 ·rw [aah (fun q=>by have:=S _ _ hu.1;rw [q,hl] at this;cases this)];exact S _ _ hu.1
 ·rw [aah (fun q=>hnd.1 (by rw [<- q];exact qa8.mpr ⟨e,he,rfl⟩))];exact S _ _ hu.2
 ·rw [aah nlt.symm,aaa]
 ·rw [aah nlm.symm,aah nmt,aaa];rfl
 ·rw [qa4];exact ad5 h.nd fun q=>by
   rcases qaa.mp q with q | q
   ·exact nlm q.symm
   ·obtain ⟨xs,hx⟩:=h.live q;rw [nm] at hx;cases hx
 ·rw [qa4] at ha
  rcases qaa.mp ha with q | q
  ·rw [q];exact h.new l qac
  ·rcases qa6.mp q with q | q
   ·exact h.new a (qa9 _ q)
   ·rw [qa7.mp q];exact h.same.free nm
theorem UnI.mark{l:Addr}{es:List (Addr×Addr)}{e:Addr×Addr}{U:List Elt}{u:Elt}(h:UnI H0 H l (es++[e]) (U++[u]))(p:Int) :
  UnI H0 (upd H e.2 (.lst (u.2.2.1.map V.int++[V.int p]))) l (es++[e]) (U++[(u.1,u.2.1,u.2.2.1++[p],u.2.2.2)]):=by
 obtain ⟨hr,he⟩:=uao h.row;have hnd:=h.nd;have nl:l≠e.2:=fun q=>(qax.mp hnd).1 (by rw [q];simp)
 have nn:∀ x∈es,x.2≠e.2:=fun x hx q=>by
  have:=(qax.mp hnd).2
  rw [qa4,qaX] at this;exact this.2.2 x.2 (qa8.mpr ⟨x,hx,rfl⟩) e.2 (by simp) q
 have nt:∀ {x:Addr×Addr} {v:Elt},UnAt H x v->x.1≠e.2:=fun {x v} hx q=>by
  have:=hx.1;rw [q,he.2] at this;cases this
 refine ⟨by rw [aah nl];exact h.top,Paired.snoc (uan hr fun x hx v hv=>⟨?_,?_⟩) ⟨?_,?_⟩,h.nd,h.new,h.same.put (h.new _ (qa9 _ (by simp)))⟩
 ·rw [aah (nt hv)];exact hv.1
 ·rw [aah (nn x hx)];exact hv.2
 ·rw [aah (nt he)];exact he.1
 ·rw [aaa,qa4];rfl
noncomputable def IsUn (H:Hp) (l:Addr) (U:List Elt):Prop:=∃ es:List (Addr×Addr),H l=some (.lst (es.map fun e=>V.ref e.1))/\Paired (fun e (u:Elt)=>H e.1=some (.tup [.int u.1,.int u.2.1,.ref e.2,.int u.2.2.2])/\H e.2=some (.tup (u.2.2.1.map V.int))) es U
theorem IsUn.same{l:Addr}{U:List Elt}(h:IsUn H l U)(S:Same H H'):IsUn H' l U:=
 let ⟨es,h1,h2⟩:=h
 ⟨es,S _ _ h1,uam h2 fun _ _ e=>⟨S _ _ e.1,S _ _ e.2⟩⟩
noncomputable def aaB (R:List Rl):List Str:=keysP (aaj R)++aa2 R
noncomputable def afm (C:Addr):Sp:=fun vs H Q _=>∃ (x j ll ml md:Addr) (g:Str->Str) (R:List Rl) (L M:List Str),vs=[.ref x]/\IsOrd C H x j ll ml md g R L M/\∀ l,H l=none->Q (.ref l) (upd H l (.lst ((aaB R).map V.str)))
noncomputable def ahs (C:Addr):Sp:=fun vs H Q _=>∃ (x j ll ml md:Addr) (z:Str) (g:Str->Str) (R:List Rl) (L M:List Str),vs=[.ref x,.str z]/\IsOrd C H x j ll ml md g R L M/\(aaB R).length<=1000/\z.length<=1000/\aci (hasW R "figures") (aaB R) z/\
 ∀ l H',H l=none->Same H H'->H' l=some (.lst ((cutF (hasW R "figures") (aaB R) z.cps.toList).2.map V.str))->Q (.ref l) H'
theorem aeX{R:List Rl}(h:p∉allKs R L M):stepF R L M p=[]:=by
 unfold stepF
 have:(putsL R L M).lookup p=none:=by
  rw [List.lookup_eq_none_iff];intro e he
  have:e.1∈allKs R L M:=by rw [<- af9];exact qa8.mpr ⟨e,he,rfl⟩
  have ne:p≠e.1:=fun q=>h (by rw [q];exact this)
  simpa using ne
 rw [this];rfl
noncomputable def cutH (H:Hp) (as:List Addr):Hp:=fun a=>if a∈as then none else H a
theorem aeo(H:Hp)(as:List Addr):Same (cutH H as) H:=fun a o h=>by
 unfold cutH at h
 by_cases q:a∈as
 ·rw [if_pos q] at h;cases h
 ·rw [if_neg q] at h;exact h
theorem UnI.base{l:Addr}{es:List (Addr×Addr)}{U:List Elt}(S:Same H0 H1)(h:UnI H1 H l es U):UnI H0 H l es U:=⟨h.top,h.row,h.nd,fun a ha=>S.free (h.new a ha),S.trans h.same⟩
theorem UnI.cut{l:Addr}{es:List (Addr×Addr)}{U:List Elt}(h:UnI H0 H l es U):∃ H1,Same H0 H1/\UnI H1 H l es U/\∀ a xs,H a=some (.tup xs)->H1 a=some (.tup xs):=by
 refine ⟨cutH H (l::es.map (fun e=>e.2)),fun a o ha=>?_,⟨h.top,h.row,h.nd,fun a ha=>by unfold cutH;exact if_pos ha,aeo _ _⟩,fun a xs ha=>?_⟩
 ·unfold cutH;rw [if_neg (fun q=>by rw [h.new a q] at ha;cases ha)];exact h.same _ _ ha
 ·unfold cutH;rw [if_neg fun q=>?_]
  ·exact ha
  ·rcases qaa.mp q with q | q
   ·rw [q,h.top] at ha;cases ha
   ·obtain ⟨ys,hy⟩:=h.live q;rw [hy] at ha;cases ha
theorem amN{α:Type}{l:List α}(h:l≠[]):∃ l' x,l=l'++[x]:=⟨l.dropLast,l.getLast h,(List.dropLast_concat_getLast h).symm⟩
theorem afn{w:Bool}{g:List Str} : ∀ (n:Nat) (l:List Nat),l.length<=n->∀ y∈(cutF w g l).2,1<=y.length
 | 0,l,h,y,hy=>by
  have:l=[]:=qaB.mp (by omega)
  subst this;rw [ac1] at hy;cases hy
 | n+1,l,h,y,hy=>by
  cases e:partF w g l with
  | none=>rw [ach e] at hy;cases hy
  | some x=>
   obtain ⟨rest,e1,e2,e3⟩:=ab4 e;rw [e2] at hy
   rcases qaa.mp hy with q | q
   ·rw [q];exact e3
   ·refine afn n rest ?_ y q
    have:=congrArg qb5 e1
    rw [qa1,lenL] at this;omega
theorem aep{w:Bool}{g:List Str} : ∀ (n:Nat) (l:List Nat),l.length<=n->∀ y∈(cutF w g l).2,y.length<=l.length
 | 0,l,h,y,hy=>by
  have:l=[]:=qaB.mp (by omega)
  subst this;rw [ac1] at hy;cases hy
 | n+1,l,h,y,hy=>by
  cases e:partF w g l with
  | none=>rw [ach e] at hy;cases hy
  | some x=>
   obtain ⟨rest,e1,e2,e3⟩:=ab4 e;rw [e2] at hy;have hl:=congrArg qb5 e1;rw [qa1,lenL] at hl
   rcases qaa.mp hy with q | q
   ·rw [q];omega
   ·have:=aep n rest (by omega) y q
    omega
theorem agc:∀ zs:List Str,(Str.join ⟨#[]⟩ zs).cps.toList=zs.flatMap fun p=>p.cps.toList
 | []=>by simp [Str.join,Str.empty]
 | [z]=>by simp [Str.join]
 | z::y::r=>by
  have e:(Str.join ⟨#[]⟩ (z::y::r)).cps.toList=z.cps.toList++(Str.join ⟨#[]⟩ (y::r)).cps.toList:=by
   show (z++⟨#[]⟩++Str.join ⟨#[]⟩ (y::r)).cps.toList=_;simp only [Str.cps_append,qb9]
   simp
  rw [e,agc (y::r)];rfl
theorem ah2{k:Int}(h:PcI ns k p):(∃ c,p=one c)\/∃ c d,p=two c d:=by
 obtain ⟨r,e,hl,_⟩:=h;have ext:∀ q:Str,p.cps.toList=q.cps.toList->p=q:=fun q h=>Str.ext' (Array.toList_inj.mp h)
 match r,hl with
 | [],_=>exact .inl ⟨_,ext (one _) e⟩
 | [d],_=>exact .inr ⟨_,d,ext (two _ d) e⟩
end L2
variable {F:PySem.Str->List L2.Tr}{R:List L2.Rl}{es:List (PySem.Addr×PySem.Addr)}{U:List L2.Elt}
set_option maxRecDepth 100000
namespace L2
open PySem PySem.Spec PyProof.Rows
structure StepL(H:Hp)(r:Addr)(ss:List Tr):Prop where
 ex:∃ ts:List Addr,H r=some (.lst (ts.map V.ref))/\Paired (fun t s=>H t=some (tupT s)) ts ss
theorem StepL.same{ss:List Tr}(h:StepL H r ss)(S:Same H H'):StepL H' r ss:=
 let ⟨ts,h1,h2⟩:=h.ex
 ⟨ts,S _ _ h1,uam h2 fun _ _ e=>S _ _ e⟩
theorem StepL.dput{d:Addr}{ss:List Tr}{o:HO}(h:StepL H r ss)(hd:H d=some (.dK kvs)):StepL (upd H d o) r ss:=by
 obtain ⟨ts,h1,h2⟩:=h.ex;refine ⟨ts,?_,uam h2 fun t s e=>?_⟩
 ·rw [aah (fun e=>by rw [e,hd] at h1;cases h1)];exact h1
 ·rw [aah (fun q=>by rw [q,hd] at e;cases e)];exact e
theorem StepL.one{t:Addr}{s:Tr}(h1:H r=some (.lst [.ref t]))(h2:H t=some (tupT s)):StepL H r [s]:=⟨[t],h1,.cons h2 .nil⟩
noncomputable def IsMk (H:Hp) (d:Addr) (ks:List Str) (F:Str->List Tr):Prop:=∃ ad:Str->Addr,H d=some (.dK (kvN ks fun y=>.ref (ad y)))/\∀ y∈ks,StepL H (ad y) (F y)
theorem IsMk.same{d:Addr}(h:IsMk H d ks F)(S:Same H H'):IsMk H' d ks F:=
 let ⟨ad,h1,h2⟩:=h
 ⟨ad,S _ _ h1,fun y hy=>(h2 y hy).same S⟩
structure MkI(H H2:Hp)(d:Addr)(P:List Str)(F:Str->List Tr):Prop where
 same:Same H H2
 made:IsMk H2 d (dds [] P) F
theorem MkI.more{d:Addr}{P:List Str}(h:MkI H H2 d P F)(S:Same H2 H3):MkI H H3 d P F:=⟨h.same.trans S,h.made.same S⟩
theorem MkI.put{d:Addr}{P:List Str}(nd:H d=none)(h:MkI H H2 d P F)(hP:P.length<100000){l:Str}{p:Addr}(hp:StepL H2 p (F l)) :
  ∃ x,DPut H2 d (V.str l) (V.ref p) x/\MkI H x d (P++[l]) F:=by
 obtain ⟨ad,h1,h2⟩:=h.made;have hl:=acD P [];rw [qaG,Nat.zero_add] at hl;refine ⟨_,uab (k:=Sum.inr l) h1 (by rw [abO];exact aaq (by omega)),h.same.put nd,?_⟩;rw [afi];refine ⟨fun y=>if y=l then p else ad y,?_,fun y hy=>?_⟩
 ·rw [aaa];have e:∀ t,(if t=l then V.ref p else V.ref (ad t))=V.ref (if t=l then p else ad t):=fun t=>by
   by_cases h:t=l
   ·rw [if_pos h,if_pos h]
   ·rw [if_neg h,if_neg h]
  unfold dd
  by_cases hl:l∈dds [] P
  ·rw [if_pos hl,aeb _ hl];exact congrArg (fun x=>some (HO.dK x)) (aaF fun t _=>e t)
  ·rw [if_neg hl,acJ _ hl];exact congrArg (fun x=>some (HO.dK x)) (aaF fun t _=>e t)
 ·by_cases h:y=l
  ·subst h;show StepL _ (if y=y then p else ad y) _;rw [if_pos rfl];exact hp.dput h1
  ·show StepL _ (if y=l then p else ad y) _;rw [if_neg h];refine (h2 y ?_).dput h1;unfold dd at hy
   by_cases hl:l∈dds [] P
   ·rw [if_pos hl] at hy;exact hy
   ·rw [if_neg hl] at hy
    rcases qa6.mp hy with q | q
    ·exact q
    ·exact absurd (qa7.mp q) h
noncomputable def afo (K:PySem.W.Frag):Sp:=fun vs H Q _=>∃ (a:Addr) (ts:List Addr) (R:List Rl) (w:Str),vs=[.ref a,.str w]/\IsRules H a ts R/\R.length<=100/\(∀ z∈R,z.2.length<=100)/\∀ l H',H l=none->Same H H'->H' l=some (.lst ((rowsW R w).flatten.map V.str))->Q (.ref l) H'
theorem aeY{w:Str}{z:Rl}(h:R[i]?=some z):(rowsW (R.take (i+1)) w).flatten=if z.1=w then (rowsW (R.take i) w).flatten++z.2 else (rowsW (R.take i) w).flatten:=by
 rw [adq h]
 by_cases e:z.1=w
 ·rw [if_pos e,if_pos e,qbA];simp
 ·rw [if_neg e,if_neg e]
noncomputable def aa6 (R:List Rl):List Str:=(aaK R).flatMap (·.2)
theorem aeq{z:Rl}(h:R[i]?=some z):aa6 (R.take (i+1))=aa6 (R.take i)++aa6 [z]:=by
 unfold aa6;rw [acv h,qaK]
theorem sl2{t:Addr}(hT:SqT K H t xs)(q:∀ p H',Same H H'->SqT K H' p (xs.take 2)->Q (.ref p) H'):rSlR K t none (some 2) H Q:=by
 by_cases h:xs.length<=2
 ·refine rSlR.w hT ⟨rfl,?_⟩ (q t H (uah H) (by rw [qaF h];exact hT));rw [show ((2:Int))=((2:Nat):Int) from rfl,HT.sIx_nat];omega
 ·refine rSlR.t hT (fun e=>?_) fun p np=>q p _ (Same.new np) (.of ?_)
  ·have:=e.2
   rw [show ((2:Int))=((2:Nat):Int) from rfl,HT.sIx_nat] at this;omega
  ·rw [aaa,show cutV xs none (some 2)=_ from afc xs 2]
theorem aht(xs ys:List Str):qaN (.tuple (xs.map .str)) (.tuple (ys.map .str))=decide (xs=ys):=by rw [qaN,ac9]
theorem ah3{l:Str}{fs:List Str} : aa6 [(("great" : Str),l::fs)]=fs:=by
 unfold aa6;rw [acW]
 simp
theorem ajw{z:Rl}(h:z.1≠("great" : Str)):aa6 [z]=[]:=by
 unfold aa6;rw [acg h];rfl
theorem agJ{z:Rl}{l:Str}(h:(z.1::z.2).take 2=[("great" : Str),l]):∃ fs,z=(("great" : Str),l::fs):=by
 obtain ⟨w,ps⟩:=z
 cases ps with
 | nil=>simp at h
 | cons y fs=>
  simp at h;obtain ⟨rfl,rfl⟩:=h;exact ⟨fs,rfl⟩
theorem afp{A:List Rl}{z:Rl}{l:Str}(h:(z.1::z.2).take 2≠[("great" : Str),l]):aak (A++[z]) l=aak A l:=by
 by_cases hg:z.1=("great" : Str)
 ·obtain ⟨w,ps⟩:=z;obtain rfl:w=("great" : Str):=hg
  cases ps with
  | nil=>
   unfold aak;rw [abJ,show aaK [(("great" : Str),[])]=[] by simp [aaK],qah]
  | cons y fs=>
   rw [abZ,if_neg (fun e=>h (by rw [e];rfl))]
 ·unfold aak;rw [abJ,acg hg,qah]
theorem MkI.base{d:Addr}{P:List Str}(S:Same H H1)(h:MkI H1 H2 d P F):MkI H H2 d P F:=⟨S.trans h.same,h.made⟩
theorem MkI.cut{d:Addr}{P:List Str}(nd:H d=none)(h:MkI H H2 d P F):∃ B,Same H B/\B d=none/\MkI B H2 d P F/\∀ a o,a≠d->H2 a=some o->B a=some o:=by
 refine ⟨cutH H2 [d],fun a o ha=>?_,by unfold cutH;exact if_pos (by simp),⟨aeo _ _,h.made⟩,fun a o ne ha=>?_⟩
 ·unfold cutH;rw [if_neg (fun e=>by rw [qa7.mp e,nd] at ha;cases ha)];exact h.same _ _ ha
 ·unfold cutH;rw [if_neg (fun e=>ne (qa7.mp e))];exact ha
theorem RulG.over(G:RulG ns ls ms R)(hL:abj R "row" ls)(hM:abj R "marks" ms)(hp:p∈(rowsW R "over").flatten):stepF R ls ms p=[]:=by
 refine aeX fun h=>?_
 obtain ⟨z,hz,e,hpz⟩:=mem_rowsW.mp hp;have ho:(p,("over" : Str))∈aaj R:=mem_pairs.mpr ⟨z,hz,by rw [aaT.2.2 (.inr (.inr e))];exact hpz,by rw [e];decide +kernel⟩;have jo:=aeh G.good.nc ho;have n1:("letter" : Str)≠"over"/\("mark" : Str)≠"over"/\("great" : Str)≠"over"/\("as" : Str)≠"over":=by decide +kernel
 have fin:∀ {j:Str},(p,j)∈aaj R->j≠"over"->False:=fun {j} hj hn=>hn ((aeh G.good.nc hj).symm.trans jo)
 unfold allKs at h
 rcases qa6.mp h with h | h
 ·rcases qa6.mp h with h | h
  ·rcases qa6.mp h with h | h
   ·exact fin (mem_letter.mpr ((abx hL).mp h)) n1.1
   ·exact fin (mem_mark.mpr ((abx hM).mp h)) n1.2.1
  ·obtain ⟨y,_,hq⟩:=qaP.mp h;obtain ⟨e2,he,_,hf⟩:=forms_mem.mp hq
   have:p∈(aaK R).flatMap (·.2):=qaP.mpr ⟨e2,he,hf⟩
   rw [<- aa3] at this;obtain ⟨⟨q,j⟩,hq2,rfl⟩:=qa8.mp this;obtain ⟨h1,h2⟩:=qat.mp hq2;exact fin h1 (by rw [show j=("great" : Str) by simpa using h2];exact n1.2.2.1)
 ·rw [<- acx] at h;obtain ⟨⟨q,j⟩,hq,rfl⟩:=qa8.mp h;obtain ⟨h1,h2⟩:=qat.mp hq;exact fin h1 (by rw [show j=("as" : Str) by simpa using h2];exact n1.2.2.2)
theorem RulG.blank(G:RulG ns ls ms R)(hL:abj R "row" ls)(hM:abj R "marks" ms):stepF R ls ms " "=[]:=by
 refine aeX fun h=>?_
 have hsub:∀ p∈allKs R ls ms,p∈(aaj R).map (·.1):=fun p hp=>by
  unfold allKs at hp
  rcases qa6.mp hp with hp | hp
  ·rcases qa6.mp hp with hp | hp
   ·rcases qa6.mp hp with hp | hp
    ·exact qa8.mpr ⟨_,mem_letter.mpr ((abx hL).mp hp),rfl⟩
    ·exact qa8.mpr ⟨_,mem_mark.mpr ((abx hM).mp hp),rfl⟩
   ·obtain ⟨y,_,hp⟩:=qaP.mp hp;obtain ⟨e,he,_,hf⟩:=forms_mem.mp hp
    have:p∈(aaK R).flatMap (·.2):=qaP.mpr ⟨e,he,hf⟩
    rw [<- aa3] at this;obtain ⟨q,hq,rfl⟩:=qa8.mp this;exact qa8.mpr ⟨q,(qat.mp hq).1,rfl⟩
  ·rw [<- acx] at hp;obtain ⟨q,hq,rfl⟩:=qa8.mp hp;exact qa8.mpr ⟨q,(qat.mp hq).1,rfl⟩
 exact G.good.nb (hsub _ h)
theorem ajx(R:List Rl)(w:Str)(hf:∀ z∈R,z.1=w->z.2=[]):((R.map ruleD).any fun e=>qaN e (ruleD (w,[])))=hasW R w:=by
 unfold hasW;rw [List.any_map,qbc,qbO,qbO];have key:∀ z:Rl,qaN (ruleD z) (ruleD (w,[]))=decide (z.1::z.2=[w]):=fun z=>by
  unfold ruleD;exact aht _ _
 constructor
 ·rintro ⟨z,hz,h⟩;refine ⟨z,hz,?_⟩;have h:qaN (ruleD z) (ruleD (w,[]))=true:=h;rw [key,decide_eq_true_eq] at h;exact decide_eq_true (qbF.inj h).1
 ·rintro ⟨z,hz,h⟩;have h:z.1=w:=by simpa using h
  refine ⟨z,hz,?_⟩;show qaN (ruleD z) (ruleD (w,[]))=true;rw [key,decide_eq_true_eq,h,hf z hz h]
theorem RulG.flag(G:RulG ns ls ms R){w:Str}(hw:flagW w):∀ z∈R,z.1=w->z.2=[]:=fun z hz e=>by
 have n:=hw.no
 rcases G.each hz with rfl | rfl | o | o
 ·exact absurd e.symm n.1
 ·exact absurd e.symm n.2.1
 ·rcases o with ⟨e2,_⟩ | ⟨e2,_⟩ | ⟨e2,_⟩
  ·exact absurd (e.symm.trans e2) n.2.2.1
  ·exact absurd (e.symm.trans e2) n.2.2.2.1
  ·exact absurd (e.symm.trans e2) n.2.2.2.2
 ·exact o.1
theorem RulG.names(G:RulG ns ls ms R)(p:Str):p∈(aaj R).map (·.1)↔p∈ls++ms++asKs R++aa6 R++(rowsW R "over").flatten:=by
 have app:p∈ls++ms++asKs R++aa6 R++(rowsW R "over").flatten↔p∈ls\/p∈ms\/p∈asKs R\/p∈aa6 R\/p∈(rowsW R "over").flatten:=by
  simp only [qa6,or_assoc]
 rw [app];have gA:∀ q,q∈aa6 R↔(q,("great" : Str))∈aaj R:=fun q=>by
  unfold aa6;rw [<- aa3,qa8]
  constructor
  ·rintro ⟨⟨x,j⟩,hx,rfl⟩;obtain ⟨h1,h2⟩:=qat.mp hx;rw [show j=("great" : Str) by simpa using h2] at h1;exact h1
  ·exact fun h=>⟨_,qat.mpr ⟨h,by simp⟩,rfl⟩
 have aA:∀ q,q∈asKs R↔(q,("as" : Str))∈aaj R:=fun q=>by
  rw [<- acx,qa8]
  constructor
  ·rintro ⟨⟨x,j⟩,hx,rfl⟩;obtain ⟨h1,h2⟩:=qat.mp hx;rw [show j=("as" : Str) by simpa using h2] at h1;exact h1
  ·exact fun h=>⟨_,qat.mpr ⟨h,by simp⟩,rfl⟩
 constructor
 ·intro h;obtain ⟨⟨q,j⟩,hq,rfl⟩:=qa8.mp h;obtain ⟨z,hz,ht,rfl⟩:=mem_pairs.mp hq;have jw:=acK (abI ht)
  rcases abI ht with e | e | e | e | e
  ·rw [jw.2.2.1.mpr e] at hq;exact .inl (G.letter.mp hq)
  ·rw [jw.2.2.2.1.mpr e] at hq;exact .inr (.inl (G.mark.mp hq))
  ·rw [jw.1.mpr e] at hq;exact .inr (.inr (.inr (.inl ((gA _).mpr hq))))
  ·rw [jw.2.1.mpr e] at hq;exact .inr (.inr (.inl ((aA _).mpr hq)))
  ·exact .inr (.inr (.inr (.inr (mem_rowsW.mpr ⟨z,hz,e,by rw [aaT.2.2 (.inr (.inr e))] at ht;exact ht⟩))))
 ·rintro (h | h | h | h | h)
  ·exact qa8.mpr ⟨_,G.letter.mpr h,rfl⟩
  ·exact qa8.mpr ⟨_,G.mark.mpr h,rfl⟩
  ·exact qa8.mpr ⟨_,(aA p).mp h,rfl⟩
  ·exact qa8.mpr ⟨_,(gA p).mp h,rfl⟩
  ·obtain ⟨z,hz,e,hp⟩:=mem_rowsW.mp h;exact qa8.mpr ⟨(p,jobD z.1),mem_pairs.mpr ⟨z,hz,by rw [aaT.2.2 (.inr (.inr e))];exact hp,rfl⟩,rfl⟩
theorem akP{w:Str} : (∀ z∈R,z.2.length<=n)->(rowsW R w).flatten.length<=n*R.length:=by
 intro h
 induction R with
 | nil=>exact qar _
 | cons z R ih=>
  have i1:=ih fun y hy=>h y (qa9 _ hy)
  have i2:=h z qac;have e:rowsW (z::R) w=rowsW [z] w++rowsW R w:=abk [z] R w;rw [e,qbA,qa1,qad,Nat.mul_add,Nat.mul_one]
  have:(rowsW [z] w).flatten.length<=n:=by
   unfold rowsW
   by_cases hz:z.1=w
   ·rw [qbp (by simpa using hz)];simpa using i2
   ·rw [qbq (by simpa using hz)];simp
  omega
noncomputable def ahu:Sp:=fun vs H Q _=>∃ (d:Addr) (z:Str) (ks:List Str) (f:Str->V) (w:Bool),vs=[.ref d,.bl w,.str z]/\H d=some (.dK (kvN ks f))/\z.length<=500/\aci w ks z/\∀ l H',H l=none->Same H H'->H' l=some (.lst ((cutF w ks z.cps.toList).2.map V.str))->Q (.ref l) H'
noncomputable def UnT (H:Hp) (e:Addr×Addr) (u:Elt):Prop:=H e.1=some (.tup [.int u.1,.int u.2.1,.ref e.2,.int u.2.2.2])/\H e.2=some (.tup (u.2.2.1.map V.int))
structure UnJ(H0 H:Hp)(l:Addr)(es:List (Addr×Addr))(U:List Elt):Prop where
 same:Same H0 H
 new:H0 l=none
 top:H l=some (.lst (es.map fun e=>V.ref e.1))
 row:Paired (UnT H) es U
theorem UnJ.out{l:Addr}(h:UnJ H0 H l es U):IsUn H l U:=⟨es,h.top,h.row⟩
theorem UnT.same{e:Addr×Addr}{u:Elt}(h:UnT H e u)(S:Same H H'):UnT H' e u:=⟨S _ _ h.1,S _ _ h.2⟩
theorem UnJ.more{l:Addr}(h:UnJ H0 H l es U)(S:Same H H'):UnJ H0 H' l es U:=⟨h.same.trans S,h.new,S _ _ h.top,uam h.row fun _ _ e=>e.same S⟩
theorem UnJ.base{l:Addr}(S:Same H0 H1)(h:UnJ H1 H l es U):UnJ H0 H l es U:=⟨S.trans h.same,S.free h.new,h.top,h.row⟩
theorem UnJ.cut{l:Addr}(h:UnJ H0 H l es U):∃ B,Same H0 B/\UnJ B H l es U/\∀ a o,a≠l->H a=some o->B a=some o:=by
 refine ⟨cutH H [l],fun a o ha=>?_,⟨aeo _ _,by unfold cutH;exact if_pos (by simp),h.top,h.row⟩,fun a o ne ha=>?_⟩
 ·unfold cutH;rw [if_neg (fun e=>by rw [qa7.mp e,h.new] at ha;cases ha)];exact h.same _ _ ha
 ·unfold cutH;rw [if_neg (fun e=>ne (qa7.mp e))];exact ha
noncomputable def ajy (K:PySem.W.Frag):Sp:=fun vs H Q _=>∃ (a:Addr) (ts:List Addr) (R:List Rl) (ns:List Int) (ls ms:List Str),vs=[.ref a]/\IsRules H a ts R/\RulG ns ls ms R/\abj R "row" ls/\abj R "marks" ms/\
 ∀ d ks H',H d=none->Same H H'->IsMk H' d ks (stepF R ls ms)->(∀ p,p∈ks↔p∈aaB R)->ks.length<=100000->Q (.ref d) H'
noncomputable def agd (K:PySem.W.Frag):Sp:=fun vs H Q _=>∃ (a d:Addr) (ts:List Addr) (R:List Rl) (ns:List Int) (ls ms P:List Str) (H0:Hp),vs=[.ref a,.ref d]/\H0 d=none/\IsRules H a ts R/\IsRules H0 a ts R/\RulG ns ls ms R/\abj R "row" ls/\abj R "marks" ms/\MkI H0 H d P (stepF R ls ms)/\(∀ p∈ls,p∈P)/\P.length<=10000/\
 ∀ H',MkI H0 H' d (P++aa6 R) (stepF R ls ms)->Q .non H'
noncomputable def RunP (p:Str):Prop:=p.cps.toList≠[]/\∀ c∈p.cps.toList,figO c=true
noncomputable def PcW (w:Bool) (ks:List Str) (p:Str):Prop:=p∈ks\/w=true/\RunP p
noncomputable def PcL (w:Bool) (ks:List Str) (p:Str):Prop:=p∈ks\/(w=true/\RunP p)/\p.length<=14
noncomputable abbrev flatP (ps:List Str):List Nat:=ps.flatMap fun p=>p.cps.toList
theorem acj(p:Str)(ps:List Str):flatP (p::ps)=p.cps.toList++flatP ps:=rfl
theorem age{w:Bool}(hkf:w=true->∀ p∈ks,∀ c∈p.cps.toList,figO c=false)(h2:∀ p∈ks,(∃ c,p=one c)\/∃ c d,p=two c d)(hw:w=true):∀ ps:List Str,(∀ p∈ps,PcW w ks p)->∃ qs:List Str,(∀ p∈qs,PcW w ks p)/\(flatP ps).dropWhile figO=flatP qs
 | [],_=>⟨[],by simp,rfl⟩
 | p::ps,h=>by
  rcases h p qac with hp | ⟨_,hr⟩
  ·refine ⟨p::ps,h,?_⟩
   have:=hkf hw p hp
   rcases h2 p hp with ⟨c,rfl⟩ | ⟨c,d,rfl⟩
   ·show (c::flatP ps).dropWhile figO=_;rw [List.dropWhile_cons_of_neg (by rw [this c (by show c∈[c];simp)];simp)];rfl
   ·show (c::d::flatP ps).dropWhile figO=_;rw [List.dropWhile_cons_of_neg (by rw [this c (by rw [abQ];simp)];simp)];rfl
  ·obtain ⟨qs,h3,h4⟩:=age hkf h2 hw ps fun q hq=>h q (qa9 _ hq)
   refine ⟨qs,h3,?_⟩;rw [acj,List.dropWhile_append_of_pos hr.2];exact h4
theorem aeZ{w:Bool}(hkf:w=true->∀ p∈ks,∀ c∈p.cps.toList,figO c=false)(P:∀ c d e,one c∈ks->two c d∈ks->two d e∈ks->one e∈ks)(h2:∀ p∈ks,(∃ c,p=one c)\/∃ c d,p=two c d):∀ (n:Nat) (ps:List Str),(∀ p∈ps,PcW w ks p)->(flatP ps).length<=n->(cutF w ks (flatP ps)).1=(flatP ps).length
 | n,[],_,_=>by rw [show flatP []=[] from rfl,ac1];rfl
 | 0,p::ps,hp,hn=>by
  exfalso
  rw [acj,qa1] at hn
  rcases hp p qac with h | ⟨_,h,_⟩
  ·rcases h2 p h with ⟨c,rfl⟩ | ⟨c,d,rfl⟩
   ·rw [adc] at hn;simp at hn
   ·rw [abQ] at hn;simp at hn
  ·have:=List.length_pos_iff.mpr h
   omega
 | n+1,p::ps,hp,hn=>by
  have go:∀ (y:Str) (qs:List Str),(∀ q∈qs,PcW w ks q)->1<=y.length->flatP (p::ps)=y.cps.toList++flatP qs->partF w ks (flatP (p::ps))=some y->(cutF w ks (flatP (p::ps))).1=(flatP (p::ps)).length:=fun y qs hq hyl el hpf=>by
   obtain ⟨rest,e1,e2,e3⟩:=ab4 hpf;have er:rest=flatP qs:=List.append_cancel_left (e1.symm.trans el);have ln:=congrArg qb5 el;rw [qa1,lenL] at ln;have i1:=aeZ hkf P h2 n qs hq (by omega);rw [e2,er];show (cutF w ks _).1+y.length=_;rw [i1];omega
  have pF:∀ c l,one c∈ks\/(∃ d,two c d∈ks)->partF w ks (c::l)=partG ks (c::l):=fun c l h=>by
   rw [abK,if_neg];intro q;rw [qav] at q
   rcases h with h | ⟨d,h⟩
   ·rw [hkf q.1 _ h c (by show c∈[c];simp)] at q;exact absurd q.2 (by simp)
   ·rw [hkf q.1 _ h c (by rw [abQ];simp)] at q;exact absurd q.2 (by simp)
  have hps:∀ q∈ps,PcW w ks q:=fun q hq=>hp q (qa9 _ hq)
  rcases hp p qac with hpk | ⟨hwt,hr⟩
  ·rcases h2 p hpk with ⟨c,rfl⟩ | ⟨c,d,rfl⟩
   ·have ef:flatP (one c::ps)=c::flatP ps:=rfl
    cases ps with
    | nil=>exact go (one c) [] (by simp) (qa2 1) rfl (by rw [ef,show flatP []=[] from rfl,pF c [] (.inl hpk),ab3,if_pos hpk])
    | cons p2 qs=>
     have hqs:∀ q∈qs,PcW w ks q:=fun q hq=>hps q (qa9 _ hq)
     rcases hps p2 qac with hp2 | ⟨hwt,hr⟩
     ·rcases h2 p2 hp2 with ⟨d,rfl⟩ | ⟨d,e,rfl⟩
      ·have ef2:flatP (one c::one d::qs)=c::d::flatP qs:=rfl
       by_cases hcd:two c d∈ks
       ·exact go (two c d) qs hqs (by show 1<=2;decide) rfl (by rw [ef2,pF _ _ (.inl hpk),abe,if_pos hcd])
       ·exact go (one c) (one d::qs) hps (qa2 1) rfl (by rw [ef2,pF _ _ (.inl hpk),abe,if_neg hcd,if_pos hpk])
      ·have ef2:flatP (one c::two d e::qs)=c::d::e::flatP qs:=rfl
       by_cases hcd:two c d∈ks
       ·have he:=P c d e hpk hcd hp2;exact go (two c d) (one e::qs) (fun q hq=>by rcases qaa.mp hq with h | h;rw [h];exact .inl he;exact hqs q h) (by show 1<=2;decide) rfl (by rw [ef2,pF _ _ (.inl hpk),abe,if_pos hcd])
       ·exact go (one c) (two d e::qs) hps (qa2 1) rfl (by rw [ef2,pF _ _ (.inl hpk),abe,if_neg hcd,if_pos hpk])
     ·obtain ⟨f,rr,hf⟩:∃ f rr,p2.cps.toList=f::rr:=by
       cases e:p2.cps.toList with
       | nil=>exact absurd e hr.1
       | cons f rr=>exact ⟨f,rr,rfl⟩
      have hff:figO f=true:=hr.2 f (by rw [hf];simp);have ef2:flatP (one c::p2::qs)=c::f::(rr++flatP qs):=by rw [acj,acj,hf];rfl
      have hcd:two c f∉ks:=fun h=>by
       have:=hkf hwt _ h f (by rw [abQ];simp)
       rw [hff] at this;cases this
      exact go (one c) (p2::qs) hps (qa2 1) rfl (by rw [ef2,pF _ _ (.inl hpk),abe,if_neg hcd,if_pos hpk])
   ·have ef:flatP (two c d::ps)=c::d::flatP ps:=rfl;exact go (two c d) ps hps (by show 1<=2;decide) rfl (by rw [ef,pF _ _ (.inr ⟨d,hpk⟩),abe,if_pos hpk])
  ·obtain ⟨qs,h3,h4⟩:=age hkf h2 hwt (p::ps) hp;obtain ⟨f,rr,hf⟩:∃ f rr,p.cps.toList=f::rr:=by
    cases e:p.cps.toList with
    | nil=>exact absurd e hr.1
    | cons f rr=>exact ⟨f,rr,rfl⟩
   have hff:figO f=true:=hr.2 f (by rw [hf];simp);have ef:flatP (p::ps)=f::(rr++flatP ps):=by rw [acj,hf];rfl
   refine go ⟨((flatP (p::ps)).takeWhile figO).toArray⟩ qs h3 ?_ ?_ ?_
   ·rw [<- lenL];show 1<=((flatP (p::ps)).takeWhile figO).length;rw [ef,qbd hff]
    simp
   ·show flatP (p::ps)=(flatP (p::ps)).takeWhile figO++flatP qs;rw [<- h4,List.takeWhile_append_dropWhile]
   ·rw [ef,abK,hwt,hff,Bool.and_self,if_pos rfl]
theorem ab5(hp:p∈aaB R):p=" "\/p∈(aaj R).map (·.1):=by
 unfold aaB aa2 at hp
 rcases qa6.mp hp with h | h
 ·exact .inr ((acf _ _).mp h)
 ·by_cases hb:hasW R "blanks"=true
  ·rw [if_pos hb] at h;exact .inl (qa7.mp h)
  ·rw [if_neg hb] at h;cases h
theorem adU(hp:p∈(aaj R).map (·.1)):p∈aaB R:=qaq _ ((acf _ _).mpr hp)
theorem adl:(" " : Str)=one 32:=by decide +kernel
theorem agf(G:RulG ns ls ms R):∀ p∈aaB R,(∃ c,p=one c)\/∃ c d,p=two c d:=fun p hp=>by
 rcases ab5 hp with rfl | h
 ·exact .inl ⟨32,adl⟩
 ·obtain ⟨k,hk⟩:=G.pc h;exact ah2 hk
theorem ahv{c d:Nat}(h:two c d∈aaB R):two c d∈(aaj R).map (·.1):=by
 rcases ab5 h with e | h
 ·rw [adl] at e
  have:=congrArg (fun q:Str=>q.cps.toList.length) e
  simp [abQ,adc] at this
 ·exact h
theorem agg(G:RulG ns ls ms R):∀ c d e,one c∈aaB R->two c d∈aaB R->two d e∈aaB R->one e∈aaB R:=fun c d e h1 h2 h3=>by
 have h2:=ahv h2;have h3:=ahv h3
 rcases ab5 h1 with q | h1
 ·exfalso
  rw [adl] at q
  have:c=32:=by
   have:=congrArg (fun q:Str=>q.cps.toList) q
   simpa [adc] using this
  subst this;obtain ⟨k,hk⟩:=G.pc h2;have ok:=hk.ok.1;unfold afP at ok;rw [qav,List.all_eq_true] at ok
  have:=ok.2 32 (by rw [abQ];simp)
  exact absurd this (by decide)
 ·exact adU (G.closed h1 h2 h3)
theorem ajz(G:RulG ns ls ms R):hasW R "figures"=true->∀ p∈aaB R,∀ c∈p.cps.toList,figO c=false:=fun hw p hp c hc=>by
 rcases ab5 hp with rfl | h
 ·rw [adl,adc] at hc;rw [qa7.mp hc];decide
 ·obtain ⟨⟨q,j⟩,hq,rfl⟩:=qa8.mp h;obtain ⟨i,hi,e⟩:=qay.mp hq;exact (G.good.nc i q j (by rw [qa3 hi,e])).2.2.1 hw c hc
theorem ae0(G:RulG ns ls ms R)(hz:z.cps.toList=flatP ps)(hp:∀ p∈ps,PcW (hasW R "figures") (aaB R) p):aci (hasW R "figures") (aaB R) z:=by
 unfold aci;rw [hz,aeZ (ajz G) (agg G) (agf G) _ ps hp (qa2 _),<- hz,lenL]
theorem amO(h:n<10 ^ 12){y:Str}(hy:y.length<=2)(hyf:∀ c∈y.cps.toList,figO c=true):RunP (y++Str.ofString (toString (n:Int)))/\(y++Str.ofString (toString (n:Int))).length<=14:=by
 have e:(y++Str.ofString (toString (n:Int))).cps.toList=y.cps.toList++(Nat.toDigits 10 n).map Char.toNat:=by
  have e1:(Str.ofString (toString (n:Int))).cps.toList=(Nat.toDigits 10 n).map Char.toNat:=by
   rw [Str.ofString_eq_toList];show (toString (n:Int)).toList.map Char.toNat=_
   have:toString (n:Int)=Nat.repr n:=rfl
   rw [this];simp [Nat.repr]
  rw [Str.cps_append,qb9,e1]
 have hl:=aem 11 (n+1) n [] h;refine ⟨⟨?_,fun c hc=>?_⟩,?_⟩
 ·rw [e];intro q
  have:=(List.append_eq_nil_iff.mp q).2
  exact absurd (List.map_eq_nil_iff.mp this) Nat.toDigits_ne_nil
 ·rw [e] at hc
  rcases qa6.mp hc with hc | hc
  ·exact hyf c hc
  ·obtain ⟨x,hx,rfl⟩:=qa8.mp hc;have hd:=Nat.isDigit_of_mem_toDigits (by decide) (by decide) hx;unfold Char.isDigit at hd;unfold figO;simp only [qav,decide_eq_true_eq,ge_iff_le] at hd ⊢
   exact ⟨hd.1,hd.2⟩
 ·rw [<- lenL,e,qa1,qa0,lenL]
  have:(Nat.toDigits 10 n).length<=12:=by simpa [Nat.toDigits] using hl
  omega
theorem q_pow : QOp X (binaryOp .Pow) (rI CPow fun i j=>.int (i ^ j.toNat)):=⟨anh⟩
noncomputable def ahw (K:PySem.W.Frag):Sp:=fun vs H Q _=>∃ (d c:Addr) (w:Bool) (ks:List Str) (f:Str->V) (cs:List Int),vs=[.ref d,.bl w,.ref c]/\H d=some (.dK (kvN ks f))/\1<=ks.length/\ks.length<=100000/\SqL K H c (cs.map V.int)/\cs.length<=30/\
 ∀ l H' (ps:List Str),H l=none->Same H H'->H' l=some (.lst (ps.map V.str))->(∀ p∈ps,PcL w ks p)->ps.length<=cs.length->Q (.ref l) H'
theorem ajA{E:List (Str×Str)}{rank:Str->Nat}(hr:∀ e∈E,rank e.1<rank e.2)(hE:∀ e∈E,e.1∈ts):∀ (n:Nat) (line:List Str),(ts.filter fun p=>!decide (p∈line)).length<=n->Run E ts line->∃ L,Run E ts L/\∀ p∈ts,p∈L:=by
 intro n
 induction n with
 | zero=>
  intro line h r;refine ⟨line,r,fun p hp=>?_⟩;have h0:=qaB.mp (Nat.le_zero.mp h)
  have:=qbs.mp h0 p hp
  simpa using this
 | succ n ih=>
  intro line h r
  by_cases hw:∃ p∈ts,p∉line
  ·obtain ⟨q,hq⟩:=ahd hr hE hw;obtain ⟨h1,h2,_⟩:=acu hq;refine ih (line++[q]) ?_ (r.snoc hq);have e:(ts.filter fun p=>!decide (p∈line++[q]))=(ts.filter fun p=>!decide (p∈line)).filter fun p=>!decide (p=q):=by
    rw [List.filter_filter];refine List.filter_congr fun p _=>?_
    by_cases a:p∈line <;> by_cases b:p=q <;> simp [a,b]
   have hin:q∈ts.filter fun p=>!decide (p∈line):=qat.mpr ⟨h1,by simp [h2]⟩
   have:((ts.filter fun p=>!decide (p∈line)).filter fun p=>!decide (p=q)).length<(ts.filter fun p=>!decide (p∈line)).length:=by
    refine Nat.lt_of_le_of_ne (qbv _ _) fun e2=>?_
    have:=qbB.mp ((List.length_filter_eq_length_iff (p:=fun p=>!decide (p=q))).mp e2 |> fun h=>qbB.mpr h) q hin
    simp at this
   rw [e];omega
  ·exact ⟨line,r,fun p hp=>Classical.byContradiction fun h=>hw ⟨p,hp,h⟩⟩
theorem RulG.lines(G:RulG ns ls ms R):abj R "row" ls/\abj R "marks" ms:=by
 have g:=G.good;obtain ⟨L,h1,h2⟩:=ajA (rank:=fun x=>ls.idxOf x) g.a1 (fun e he=>(adn he).1) _ [] (qa2 _) (Run.nil _ (toldL (rowsW R "row")));obtain ⟨M,h3,h4⟩:=ajA (rank:=fun x=>ms.idxOf x) g.a2 (fun e he=>(adn he).1) _ [] (qa2 _) (Run.nil _ (toldL (rowsW R "marks")));have e1:=G.lets ⟨h1,h2⟩;have e2:=G.mrks ⟨h3,h4⟩;rw [<- e1,<- e2];exact ⟨⟨h1,h2⟩,h3,h4⟩
end L2
set_option maxRecDepth 100000
namespace L2
open PySem PySem.Spec PyProof.Rows
noncomputable def tRev (K:PySem.W.Frag) (te:TE) (tk:TO):TE:=fun σ H Q=>te σ H fun x H1=>tk σ H1 fun k H2=>k=some (-1)/\∃ a xs,x=.ref a/\SqL K H2 a xs/\∀ p,H2 p=none->Q (.ref p) (upd H2 p (.lst xs.reverse))
theorem amP{tk:TO} : tRev K te tk σ H Q=te σ H fun x H1=>tk σ H1 fun k H2=>k=some (-1)/\∃ a xs,x=.ref a/\SqL K H2 a xs/\∀ p,H2 p=none->Q (.ref p) (upd H2 p (.lst xs.reverse)):=rfl
end L2
set_option maxRecDepth 100000
namespace PySem
section
variable {prog:Program} {w:World} {A:Around} {E:Value->Shared->Prop} {s:Shared}
end
end PySem
namespace L2
open PySem PySem.Spec PyProof.Rows
noncomputable def tLRev (ta:TA):TE:=fun σ H Q=>ta σ H fun vs H1=>∃ (l:Addr) (xs:List V),vs=[.ref l]/\H1 l=some (.lst xs)/\∀ p,H1 p=none->Q (.ref p) (upd H1 p (.lst xs.reverse))
theorem amQ : tLRev ta σ H Q=ta σ H fun vs H1=>∃ (l:Addr) (xs:List V),vs=[.ref l]/\H1 l=some (.lst xs)/\∀ p,H1 p=none->Q (.ref p) (upd H1 p (.lst xs.reverse)):=rfl
end L2
set_option maxRecDepth 100000
namespace L2
open PySem PySem.Spec PyProof.Rows
theorem ajB(G:RulG ns ls ms R)(hks:∀ x,x∈ks↔x∈aaB R)(hps:∀ p∈ps,PcL (hasW R "figures") ks p) :
  (ps.map (·.length)).sum<=14*ps.length/\(Str.join (Str.ofString "") ps).length<=14*ps.length/\(Str.join (Str.ofString "") ps).cps.toList=flatP ps/\aci (hasW R "figures") (aaB R) (Str.join (Str.ofString "") ps):=by
 have hpl2:∀ p∈ps,PcL (hasW R "figures") (aaB R) p:=fun p hp=>(hps p hp).imp (hks p).mp id
 have hpk:∀ p∈ps,PcW (hasW R "figures") (aaB R) p:=fun p hp=>(hpl2 p hp).imp id And.left
 have hp14:∀ p,PcL (hasW R "figures") (aaB R) p->p.length<=14:=fun p hp=>by
  rcases hp with h | ⟨_,h⟩
  ·rcases agf G p h with ⟨c,rfl⟩ | ⟨c,d,rfl⟩
   ·show 1<=14;decide
   ·show 2<=14;decide
  ·exact h
 have hsum:(ps.map (·.length)).sum<=14*ps.length:=by
  clear hps hpk
  induction ps with
  | nil=>exact qa2 _
  | cons p ps ih=>
   have:=ih fun q hq=>hpl2 q (qa9 _ hq)
   have:=hp14 p (hpl2 p qac)
   simp only [qak,List.sum_cons,qad];omega
 have hzj:(Str.join (Str.ofString "") ps).cps.toList=flatP ps:=agc ps;have hfl:(flatP ps).length=(ps.map (·.length)).sum:=by
  rw [List.length_flatMap];exact congrArg List.sum (qbo fun p _=>lenL p)
 exact ⟨hsum,by rw [<- lenL,hzj,hfl];exact hsum,hzj,ae0 G hzj hpk⟩
theorem RulG.known_len(G:RulG ns ls ms R):(aaB R).length<=1000:=by
 unfold aaB;rw [qa1];have h1:=aee (aaj R);have h2:=ael (n:=19) fun z hz=>G.zl hz
 have h3:(aa2 R).length<=1:=by unfold aa2;split <;> simp
 have h4:=G.len;omega
theorem RulG.known_pos(G:RulG ns ls ms R)(hks:∀ x,x∈ks↔x∈aaB R):1<=ks.length:=by
 have h0:=G.l0;obtain ⟨l,hl⟩:∃ l,l∈ls:=by
  cases ls with
  | nil=>simp at h0
  | cons l r=>exact ⟨l,qac⟩
 have:=(hks l).mpr (adU (qa8.mpr ⟨_,G.letter.mpr hl,rfl⟩))
 exact List.length_pos_of_mem this
end L2
local macro_rules | `(tactic| walk_at "o")=>`(tactic| first | lia | omega)
open L2 in
local macro_rules | `(tactic| walk_at "rd")=>`(tactic| simp only [↓ak1,↓ap_c,↓alZ,↓anN,↓akf,↓al0,↓al1,↓anO,↓al2,↓anP,↓anQ,↓al3,↓ap_op,↓alU,↓ap_tB,↓anL,↓anK,↓ap_or,↓alX,↓anM,↓alY,↓alW,↓ap_if,↓ake,↓ap_cb,↓al7,↓anT,↓al8,↓anU,↓anV,↓ap_sl,↓aiL,↓al9,↓anY,↓amj,↓akj,↓amh,↓ami,↓akk,↓akl,↓ap_bm,↓anW,↓anR,↓al5,↓al4,↓akh,↓al6,↓ap_un,↓ap_rU,↓anS,↓anX,↓ama,↓amb,↓amc,↓amd,↓akg,↓ame,↓aki,↓amf,↓alV,amg,amk,akm,akn,ako,↓ad_ii,↓ad_ss,↓ad_rr,↓mu_ii,↓mu_ri,↓eq_ii,↓eq_ss,↓eq_bb,↓eq_rx,↓eq_xr,↓ne_ii,↓ne_ss,↓ne_bb,↓ne_rx,↓ne_xr,↓L2.lt_ii,↓L2.lt_ss,↓le_ii,↓le_ss,↓gt_ii,↓gt_ss,↓ge_ii,↓ge_ss,↓in_xs,↓in_xr,↓sl_s,↓sl_r,↓len_s,↓len_r,↓an2,↓all_r,↓isi_t,↓ord_s,↓an6,↓akt,ak8,↓aku,↓tup_r,↓amq,↓an7,↓an8,↓amr,↓ams,↓akv,↓akw,↓aml,↓amm,↓amP,↓amQ,↓aou,↓aop,↓aoo,↓amE,↓ajd,↓aoq,↓aor,↓aos,↓any_r,↓akF,↓amz,↓amA,↓aoe,↓amB,↓akH,↓amt,↓akB,↓amv,↓akA,akp,afO,cxK,cxKn,cxKb,cxC,cxCn,cxCb,qak,List.map_nil,qad,qaG,Nat.sub_self,Nat.reduceAdd,Nat.reduceSub,Nat.zero_add,Nat.add_one_sub_one,List.replicate_zero,qbn,qah,List.nil_append,List.cons_append,List.getElem?_cons_zero,List.getElem?_cons_succ,List.set_cons_zero,List.set_cons_succ,Option.some.injEq,Option.join_some,Option.join_none,exists_eq_left',exists_eq_left,exists_eq',exists_eq,reduceCtorEq,false_and,and_false,exists_false,exists_const,false_or,or_false,true_and,and_true,V.str.injEq,V.int.injEq,V.bl.injEq,V.ref.injEq,V.ty.injEq,qbF.injEq,exists_and_left,exists_and_right,and_assoc,if_true,if_false,qbG,Bool.not_true,Bool.not_false,ite_true,ite_false,Int.reduceLT,Int.reduceLE,qar])
namespace K61
open PySem PySem.Spec PyProof.Rows L2
set_option maxRecDepth 100000
set_option maxHeartbeats 4000000
noncomputable def top (i:Nat):Stmt:=PySem.Challenge.pw_sortlore_k61_joints.main.body.getD i (.Pass ⟨0,0,0,0⟩)
noncomputable abbrev ac5:Stmt:=top 13
noncomputable abbrev aaG:Stmt:=top 14
noncomputable abbrev aaL:Stmt:=top 17
noncomputable abbrev aau:Stmt:=top 20
noncomputable abbrev acy:Stmt:=top 7
noncomputable abbrev ack:Stmt:=top 26
noncomputable abbrev abU:Stmt:=top 27
noncomputable abbrev abA:Stmt:=top 28
noncomputable abbrev abf:Stmt:=top 29
noncomputable abbrev abE:Stmt:=top 30
noncomputable abbrev aaH:Stmt:=top 31
noncomputable abbrev acM:Stmt:=top 32
noncomputable abbrev abB:Stmt:=top 33
noncomputable abbrev aas:Stmt:=top 34
noncomputable abbrev aaJ:Stmt:=ad4 (top 35) 0
noncomputable abbrev aaX:Stmt:=ad4 (top 35) 1
noncomputable abbrev abb:Stmt:=ad4 (top 35) 2
noncomputable abbrev abl:Stmt:=ad4 (top 35) 3
noncomputable abbrev abm:Stmt:=top 8
noncomputable abbrev abF:Stmt:=top 9
noncomputable abbrev s_cut:Stmt:=top 10
noncomputable abbrev abc:Stmt:=ad4 (top 35) 4
noncomputable abbrev acl:Stmt:=top 37
noncomputable abbrev ab8:Stmt:=top 11
noncomputable abbrev ab0:Stmt:=top 39
noncomputable abbrev ab9:Stmt:=top 40
noncomputable abbrev ab6:Stmt:=top 42
noncomputable abbrev abV:Stmt:=top 43
noncomputable abbrev aaw:Stmt:=top 44
noncomputable abbrev acz:Stmt:=top 45
noncomputable abbrev adu:Stmt:=top 46
noncomputable abbrev aat:Stmt:=top 47
noncomputable abbrev aaY:Stmt:=top 48
noncomputable abbrev abp:Stmt:=top 49
noncomputable abbrev aa7:Stmt:=top 50
noncomputable abbrev aa8:Stmt:=top 51
noncomputable abbrev abg:Stmt:=top 52
noncomputable abbrev aaP:Stmt:=top 53
noncomputable abbrev abL:Stmt:=top 54
noncomputable abbrev s_law:Stmt:=top 55
noncomputable def visB (S:Scope) (x:Str):Bool:=decide (S.names.lookup x=some .local) || decide (S.names.lookup x=some .cell) || decide (S.names.lookup x=some .free)
theorem qvd{pos:Pos}{S:Scope}{x:Str}(hN:X.N=N)(hs:X.env.scope=S)(h:(decide (N[n]?=some x)&&visB S x && !(x==("__debug__" : Str)) && !(x==("__classdict__" : Str)))=true):QE X (.Name x pos) (tVar n):=by
 subst hN hs;simp only [visB,qav,Bool.or_eq_true,decide_eq_true_eq,qbJ] at h;exact qe_v h.1.1.1 (h.1.1.2.elim (fun z=>z.elim .inl fun z=>.inr (.inl z)) fun z=>.inr (.inr z)) h.1.2 h.2
theorem len1{α:Type}{F:List α->Prop}(h:∀ a,F [a]):∀ us:List α,us.length=1->F us
 | [a],_=>h a
theorem len2{α:Type}{F:List α->Prop}(h:∀ a b,F [a,b]):∀ us:List α,us.length=2->F us
 | [a,b],_=>h a b
theorem len3{α:Type}{F:List α->Prop}(h:∀ a b c,F [a,b,c]):∀ us:List α,us.length=3->F us
 | [a,b,c],_=>h a b c
theorem len4{α:Type}{F:List α->Prop}(h:∀ a b c d,F [a,b,c,d]):∀ us:List α,us.length=4->F us
 | [a,b,c,d],_=>h a b c d
theorem len5{α:Type}{F:List α->Prop}(h:∀ a b c d e,F [a,b,c,d,e]):∀ us:List α,us.length=5->F us
 | [a,b,c,d,e],_=>h a b c d e
theorem fsc{Q:List Str}{sc:Scope}(h1:sc.kind=.function:=by rfl)(h2:sc.isCoroutine=false:=by rfl)(h3:sc.isGenerator=false:=by rfl)(h4:N.Nodup:=by decide +kernel)(h5:N.take Q.length=Q:=by rfl)(h6:∀ x∈Q,sc.names.lookup x=some .local\/sc.names.lookup x=some .cell:=by decide +kernel)(h7:∀ y∈sc.names,y.2≠.free:=by decide +kernel):FnScope N Q sc:=⟨h1,h2,h3,h4,h5,h6,h7⟩
theorem cok{kn:List (Str×NameKind)}{sc:Scope}(h1:sc.kind=.function:=by rfl)(h2:∀ x∈sc.names,x.2≠.cell:=by decide +kernel)(h3:∀ x∈sc.names,x.2=.local->sc.names.lookup x.1=some .local:=by decide +kernel)(h4:∀ x∈sc.names,x.2=.free->kn.lookup x.1=some .cell\/kn.lookup x.1=some .free:=by decide +kernel)(h5:∀ x∈sc.names,x.2=.free->sc.names.lookup x.1=some .free:=by decide +kernel)(h6:N'.length=k+ixs.length:=by rfl)(h7:ixs.map (fun i=>N[i]?)=(N'.drop k).map some:=by decide +kernel)(h8:∀ x∈N'.drop k,(x,NameKind.free)∈sc.names:=by decide +kernel):CompOk N kn sc N' k ixs:=⟨h1,h2,h3,h4,h5,h6,h7,h8⟩
theorem hm(r:Room k A)(h:j<=k:=by decide):Room j A:=r.mono h
structure DF(K:PySem.W.Frag)(n:Str)(s:Stmt):Prop where
 ex:∃ (f:Addr) (oc:Value) (od:Option Addr) (kV dc pm:Value) (an:Option Addr) (cd ct:Value) (sl:Array (Option Value)),qaD K mainGlobals n=some (some (.ref f))/\K.lookup f=some ⟨oc,od,.func (qaM n n (abt s) (abh s) (aaf s) .none kV dc pm an cd ct),sl⟩/\qaS K cd n=true/\qaL K (.ref f)=true
theorem df_mk{n:Str}{s:Stmt}{kV dc:Value}{sl:Array (Option Value)}(a:qaD K mainGlobals n=some (some (.ref f)))(l:K.lookup f=some ⟨oc,od,.func (qaM n n (abt s) (abh s) (aaf s) .none kV dc pm an cd ct),sl⟩)(c:qaS K cd n=true)(k:qaL K (.ref f)=true):DF K n s:=⟨f,oc,od,kV,dc,pm,an,cd,ct,sl,a,l,c,k⟩
theorem DF.go{P:Program}{w:World}{base:Heap}{n:Str}{s:Stmt}(d:DF K n s)(X:K.In h)(G:h.Ns mainGlobals mg)(_:K.In base)(ok:∀ {f fd},FunD K n n s f fd->FnOk P w K mg base CX0 k f fd ps sp)(hl:∀ (kV dc pm:Value) (an:Option Addr) (cd ct:Value) (us:List Value),us.length=ps.length->bindArgs (qaM n n (abt s) (abh s) (aaf s) .none kV dc pm an cd ct) ⟨us,[]⟩=pure (ps.zip us):=by first | exact fun _ _ _ _ _ _=>len1 fun _=>rfl | exact fun _ _ _ _ _ _=>len2 fun _ _=>rfl | exact fun _ _ _ _ _ _=>len3 fun _ _ _=>rfl | exact fun _ _ _ _ _ _=>len4 fun _ _ _ _=>rfl | exact fun _ _ _ _ _ _=>len5 fun _ _ _ _ _=>rfl):FO P w K mg base k n ps [] sp:=by
 obtain ⟨f,oc,od,kV,dc,pm,an,cd,ct,sl,a,l,c,kp⟩:=d.ex;exact ⟨_,_,ok (acC (st:=s) l c),qbm X G a,kp,[],.all (hl kV dc pm an cd ct),.nil⟩
structure Txt(P:Program)(w:World)(K:PySem.W.Frag)(mg:Str->Option Value)(C:Addr):Prop where
 cl:Cls K C
 na_figures:NoAttr K C "figures"
 na_behind:NoAttr K C "behind"
 na_jobs:NoAttr K C "jobs"
 na_letter_line:NoAttr K C "letter_line"
 na_mark_line:NoAttr K C "mark_line"
 na_made:NoAttr K C "made"
 b_any:mg "any"=none
 b_bool:mg "bool"=none
 b_dict:mg "dict"=none
 b_enumerate:mg "enumerate"=none
 b_int:mg "int"=none
 b_isinstance:mg "isinstance"=none
 b_len:mg "len"=none
 b_list:mg "list"=none
 b_min:mg "min"=none
 b_range:mg "range"=none
 b_str:mg "str"=none
 b_tuple:mg "tuple"=none
 b_zip:mg "zip"=none
 g_MARK:∃ t,mg "MARK"=some (.int 0 t)
 g_LETTER:∃ t,mg "LETTER"=some (.int 2 t)
 x_JOBS:∃ a,mg "JOBS"=some (.ref a)/\ModD P w K a [((Sum.inr ("row" : Str):Key),V.str "letter"),((Sum.inr ("marks" : Str):Key),V.str "mark"),((Sum.inr ("great" : Str):Key),V.str "great"),((Sum.inr ("as" : Str):Key),V.str "as"),((Sum.inr ("over" : Str):Key),V.str "over")]
 x_AGAIN:∃ a,mg "AGAIN"=some (.ref a)/\∀ H:Hp,SqT K H a [V.str "letter",V.str "mark",V.str "over"]
noncomputable def tot (zs:List Str):Nat:=(zs.map (·.length)).sum
theorem afq(h:zs[i]?=some z):tot (zs.take (i+1))=tot (zs.take i)+z.length:=by
 unfold tot;rw [aap h,qa4,List.sum_append]
 simp
noncomputable def plN (zs:List Str) (n:Nat):List Int:=(qbI n).map fun k=>((tot (zs.take k):Nat):Int)
theorem ahx(zs:List Str)(n:Nat):plN zs (n+1)=plN zs n++[((tot (zs.take n):Nat):Int)]:=by
 unfold plN;rw [List.range_succ,qa4];rfl
theorem ajC(zs:List Str)(n:Nat):(plN zs n).length=n:=by unfold plN;rw [qa0,List.length_range]
theorem aow(zs:List Str)(h:k<n):(plN zs n)[k]?=some ((tot (zs.take k):Nat):Int):=by
 unfold plN;rw [qaC,List.getElem?_range h];rfl
noncomputable def ahy (K:PySem.W.Frag):Sp:=fun vs H Q _=>∃ (a:Addr) (zs:List Str),vs=[.ref a]/\SqL K H a (zs.map V.str)/\zs.length<=1000/\(∀ z∈zs,z.length<=1000)/\∀ l H',H l=none->Same H H'->H' l=some (.lst ((plN zs (zs.length+1)).map V.int))->Q (.ref l) H'
noncomputable def dueB (ms zs:List Str) (i:Nat):Bool:=match zs[i]? with
 | some z=>!decide (z∈ms)
 | none=>false
noncomputable def dueL (ms zs:List Str):Nat->List Int
 | 0=>[0]
 | i+1=>if (dueB ms zs i&&decide (0<i))=true then dueL ms zs i++[((tot (zs.take i):Nat):Int)] else dueL ms zs i
noncomputable def dueF (ms zs:List Str):List Int:=if zs.length=0 then [0] else dueL ms zs zs.length++[((tot zs:Nat):Int)]
theorem adV(ms zs:List Str):∀ i,(dueL ms zs i).length<=i+1
 | 0=>qa2 _
 | i+1=>by
  unfold dueL
  have:=adV ms zs i
  split
  ·rw [qa1,qag];walk_at "o"
  ·walk_at "o"
noncomputable def jntB (ms zs:List Str) (i:Nat):Bool:=decide (i=0) || decide (i=zs.length) || dueB ms zs i
noncomputable def jntL (ms zs:List Str):Nat->List Int
 | 0=>[]
 | i+1=>if jntB ms zs i=true then jntL ms zs i++[((tot (zs.take i):Nat):Int)] else jntL ms zs i
theorem ahz(ms zs:List Str):∀ i,(jntL ms zs i).length<=i
 | 0=>qa2 _
 | i+1=>by
  unfold jntL
  have:=ahz ms zs i
  split
  ·rw [qa1,qag];walk_at "o"
  ·walk_at "o"
theorem ajD(ms zs:List Str):∀ i,i<zs.length->jntL ms zs (i+1)=dueL ms zs (i+1)
 | 0,h=>by
  unfold jntL dueL;rw [if_pos (by simp [jntB]),if_neg (by simp)];rfl
 | i+1,h=>by
  have ih:=ajD ms zs i (by walk_at "o");unfold jntL dueL;rw [ih];have e:jntB ms zs (i+1)=(dueB ms zs (i+1)&&decide (0<i+1)):=by
   unfold jntB;rw [decide_eq_false (by walk_at "o"),decide_eq_false (by walk_at "o"),decide_eq_true (by walk_at "o")]
   simp
  rw [e]
theorem amR(ms zs:List Str):jntL ms zs (zs.length+1)=dueF ms zs:=by
 unfold dueF
 by_cases h:zs.length=0
 ·rw [if_pos h,h];unfold jntL;rw [if_pos (by simp [jntB])]
  have:zs=[]:=qaB.mp h
  subst this;rfl
 ·rw [if_neg h];obtain ⟨n,hn⟩:∃ n,zs.length=n+1:=⟨zs.length-1,by walk_at "o"⟩
  have:=ajD ms zs n (by walk_at "o")
  rw [<- hn] at this;rw [jntL,if_pos (by simp [jntB]),this,qaj]
theorem akQ(ms zs:List Str):(dueF ms zs).length<=zs.length+2:=by
 unfold dueF
 have:=adV ms zs zs.length
 split
 ·simp
 ·rw [qa1,qag];walk_at "o"
theorem akR(G:RulG ns ls ms R)(p:Str):(if p∈keysP (aaj R)++aa2 R then jobG (gOf R) p else V.non)=V.str "mark"↔p∈ms:=by
 constructor
 ·intro h
  by_cases hk:p∈keysP (aaj R)++aa2 R
  ·rw [if_pos hk] at h;unfold jobG at h
   by_cases hb:p=" "
   ·rw [if_pos hb] at h;exact absurd (V.str.inj h) (by decide +kernel)
   ·rw [if_neg hb] at h
    rcases ab5 hk with e | hp
    ·exact absurd e hb
    ·obtain ⟨⟨q,j⟩,hq,rfl⟩:=qa8.mp hp;rw [G.job hq] at h
     have:j="mark":=V.str.inj h
     subst this;exact G.mark.mp hq
  ·rw [if_neg hk] at h;cases h
 ·intro h;have hp:=G.mark.mpr h;have hm:p∈(aaj R).map (·.1):=qa8.mpr ⟨_,hp,rfl⟩;have hk:p∈keysP (aaj R)++aa2 R:=adU hm;have hb:p≠" ":=fun e=>by
   obtain ⟨k,hk⟩:=G.pc hm;rw [e] at hk;exact hk.blank
  rw [if_pos hk];unfold jobG;rw [if_neg hb,G.job hp]
theorem afn{w:Bool}{g:List Str} : ∀ (n:Nat) (l:List Nat),l.length<=n->∀ y∈(cutF w g l).2,1<=y.length
 | n,l,h=>by
  intro y hy;cases e:partF w g l with
  | none=>rw [ach e] at hy;cases hy
  | some z=>
   obtain ⟨rest,h1,h2,h3⟩:=ab4 e;rw [h2] at hy;have hl:z.length+rest.length=l.length:=by rw [h1,qa1,lenL]
   rcases qaa.mp hy with rfl | hy
   ·exact h3
   ·match n,h with
    | 0,h=>walk_at "o"
    | n+1,h=>exact afn n rest (by walk_at "o") y hy
theorem amS(h:∀ z∈zs,1<=z.length)(hi:i<=zs.length):0<tot (zs.take i)↔0<i:=by
 constructor
 ·intro h0
  rcases Nat.eq_zero_or_pos i with rfl | h1
  ·exact absurd h0 (by simp [tot])
  ·exact h1
 ·intro h0;obtain ⟨k,rfl⟩:∃ k,i=k+1:=⟨i-1,by walk_at "o"⟩
  have hk:zs[k]?=some zs[k]:=qa3 (by walk_at "o");rw [afq hk]
  have:=h zs[k] (qbN _)
  walk_at "o"
noncomputable def spIsJ (C:Addr):Sp:=fun vs H Q _=>∃ (x j ll ml md a:Addr) (i:Nat) (zs:List Str) (ns:List Int) (R:List Rl) (L M:List Str),vs=[.ref x,.ref a,.int i]/\IsOrd C H x j ll ml md (gOf R) R L M/\RulG ns L M R/\H a=some (.lst (zs.map V.str))/\i<=zs.length/\Q (.bl (jntB M zs i)) H
noncomputable def afr (C:Addr):Sp:=fun vs H Q _=>∃ (x j ll ml md:Addr) (z:Str) (ns:List Int) (R:List Rl) (L M:List Str),vs=[.ref x,.str z]/\IsOrd C H x j ll ml md (gOf R) R L M/\RulG ns L M R/\z.length<=500/\aci (hasW R "figures") (aaB R) z/\
 ∀ l H',H l=none->Same H H'->H' l=some (.lst ((dueF M (cutF (hasW R "figures") (aaB R) z.cps.toList).2).map V.int))->Q (.ref l) H'
noncomputable def ajE (K:PySem.W.Frag):Sp:=fun vs H Q _=>∃ (r a:Addr) (ts:List Addr) (R:List Rl) (ns:List Int) (ls ms zs:List Str),vs=[.ref r,.ref a]/\IsRules H r ts R/\RulG ns ls ms R/\H a=some (.lst (zs.map V.str))/\zs.length<=1000/\(∀ z∈zs,1<=z.length/\z.length<=1000)/\
 ∀ l H',H l=none->Same H H'->H' l=some (.lst ((dueF ms zs).map V.int))->Q (.ref l) H'
section
variable {P:Program} {w:World} {K:PySem.W.Frag} {mg:Str->Option Value} {base:Heap} {C:Addr}
theorem sc_told:FnScope ["rows", "seen", "row", "piece"] ["rows"] (aaf ac5):=fsc
abbrev VS(N:List Str)(s:Stmt)(x:Str)(n:Nat):Prop:=∀ {X:Cx} {pos:Pos},X.N=N->X.env.scope=aaf s->QE X (.Name x pos) (tVar n)
theorem vq{s:Stmt}{x:Str}(h:(decide (N[n]?=some x)&&visB (aaf s) x && !(x==("__debug__" : Str)) && !(x==("__classdict__" : Str)))=true:=by decide +kernel):VS N s x n:=fun hN hs=>qvd hN hs h
theorem vi{s:Stmt}{x:Str}{pos:Pos}(h:VS N s x n)(h1:X.N=N:=by rfl)(h2:X.env.scope=aaf s:=by rfl):QE X (.Name x pos) (tVar n):=h h1 h2
abbrev LS(s:Stmt)(x:Str):Prop:=Loc (aaf s) x
theorem lq{s:Stmt}{x:Str}(h:(aaf s).names.lookup x=some .local\/(aaf s).names.lookup x=some .cell:=by decide +kernel):LS s x:=h
abbrev ahA:List Str:=["rows", "seen", "row", "piece"]
theorem vaa:VS ahA ac5 "rows" 0:=vq
theorem vab:VS ahA ac5 "seen" 1:=vq
theorem vac:VS ahA ac5 "row" 2:=vq
theorem vad:VS ahA ac5 "piece" 3:=vq
theorem vae:LS ac5 "seen":=lq
theorem vaf:LS ac5 "row":=lq
theorem vag:LS ac5 "piece":=lq
theorem amT(F:FunD K "told" "told" ac5 f fd)(T:Txt P w K mg C):FnOk P w K mg base CX0 1 f fd ["rows"] ald:=by
 refine F.ok sc_told ?_ ?_
 ·rintro _ _ _ _ ⟨a,rs,zss,rfl,_⟩;rfl
 ·intro cdv A outer s H vs Q E hr h;have hu1:=hu_of hr;have hu:=hr.units;refine ⟨_,QSs.out (aab (aam (n:=1) sc_told.nd rfl vae act)
   (aab (aaW PassesOwn.never (aa1 (K:=K) (vi vaa)) (aal (n:=2) sc_told.nd rfl vaf (.inl rfl)) (aae (aaW PassesOwn.never (aa1 (K:=K) (vi vac)) (aal (n:=3) sc_told.nd rfl vag (.inl rfl)) (aae (aby hu1 (vi vab) (vi vad) qe_bl)))))
   (aae (aaz (qe_cT (adF (K:=K) (calm:=true)) T.b_list acs (qa_c (vi vab) aac)))))),?_⟩
  obtain ⟨a,rs,zss,rfl,hR,hz,q⟩:=h;walk_at "rd";intro d nd;have hlz:∀ n:Nat,n<=100000->n<sizeLine:=fun n h=>aaq (by walk_at "o")
  refine ⟨⟨_,.of (aag hR.top nd)⟩,forL (xs:=rs.map V.ref) (fun i σ H2=>∃ (u v:Option V),σ=[some (.ref a),some (.ref d),u,v]/\Same H H2/\H2 d=some (.dK (kvOf (toldL (zss.take i)))))
   ⟨none,none,rfl,Same.new nd,by rw [aaa];rfl⟩ (by rintro i σ H2 _ ⟨_,_,_,S,_⟩;exact .of (S _ _ hR.top)) ?_ ?_⟩
  ·rintro i x σ H2 hx ⟨u,v,rfl,S,hd⟩;obtain ⟨r,hr,rfl⟩:=aaE hx;obtain ⟨zs,hzs,hrow⟩:=Paired.at hR.row hr;have hcount:(toldL (zss.take i)).length+zs.length<=100000:=by
    have h1:zss.take (i+1)=zss.take i++[zs]:=by rw [qaQ,hzs];rfl
    have h2:=adg (zss.take i);have h3:(zss.take (i+1)).flatten.length<=zss.flatten.length:=by
     conv=>rhs;rw [<- qaA (i+1) zss]
     rw [qbA,qa1];walk_at "o"
    rw [h1,qbA,qa1] at h3;simp at h3;simp at h2 hz h3 ⊢
    walk_at "o"
   walk_at "rd";refine ⟨⟨_,.of (S _ _ hrow)⟩,forL (xs:=zs.map V.str) (fun j σ H3=>∃ (v:Option V),σ=[some (.ref a),some (.ref d),some (.ref r),v]/\Same H H3/\H3 d=some (.dK (kvOf (dds (toldL (zss.take i)) (zs.take j)))))
    ⟨v,rfl,S,hd⟩ (by rintro j σ H3 _ ⟨_,_,S3,_⟩;exact .of (S3 _ _ hrow)) ?_ ?_⟩
   ·rintro j y σ H3 hy ⟨v,rfl,S3,hd3⟩;obtain ⟨z,hz',rfl⟩:=aaE hy;walk_at "rd";refine ⟨_,uab (k:=Sum.inr z) hd3 ?_,S3.put nd,?_⟩
    ·unfold kvOf;rw [qa0];refine hlz _ ?_
     have:=acD (zs.take j) (toldL (zss.take i))
     rw [qaf] at this;walk_at "o"
    ·rw [aaa,afQ,akq hz']
   ·rintro σ H3 ⟨v,rfl,S3,hd3⟩;walk_at "rd";refine ⟨S3,?_⟩;rw [hd3,aiN hzs,qa0,qaj]
  ·rintro σ H2 ⟨u,v,rfl,S,hd⟩;walk_at "rd";refine rListR.d (.of hd) fun l nl=>?_
   refine q l _ (S.free nl) (fun b o h=>aag (S b o h) nl) ?_;rw [aaa,aiO,qa0];rw [show rs.length=zss.length from Paired.length hR.row,qaj]
theorem sc_followers:FnScope ["rows", "after", "piece", "row", "one", "other"] ["rows"] (aaf aaG):=fsc
abbrev abM:List Str:=["rows", "after", "piece", "row", "one", "other"]
theorem vah:VS abM aaG "rows" 0:=vq
theorem vai:VS abM aaG "after" 1:=vq
theorem vaj:VS abM aaG "piece" 2:=vq
theorem vak:VS abM aaG "row" 3:=vq
theorem vam:VS abM aaG "one" 4:=vq
theorem van:VS abM aaG "other" 5:=vq
theorem vao:LS aaG "after":=lq
theorem vap:LS aaG "piece":=lq
theorem vaq:LS aaG "row":=lq
theorem var:LS aaG "one":=lq
theorem vas:LS aaG "other":=lq
theorem agh(F:FunD K "followers" "followers" aaG f fd)(T:Txt P w K mg C)(G_told:FO P w K mg base 1 "told" ["rows"] [] ald):FnOk P w K mg base CX0 2 f fd ["rows"] spFol:=by
 refine F.ok sc_followers ?_ ?_
 ·rintro _ _ _ _ ⟨a,rs,zss,rfl,_⟩;rfl
 ·intro cdv A outer s H vs Q E hr h;have hu1:=hu_of hr;have hu:=hr.units;refine ⟨_,QSs.out (aab (aam (n:=1) sc_followers.nd rfl vao act)
   (aab (aaW PassesOwn.never (aa1 (K:=K) (aai G_told (hm hr) (qa_c (vi vah) aac))) (aal (n:=2) sc_followers.nd rfl vap (.inl rfl)) (aae (aby hu1 (vi vai) (vi vaj) (aa5 aac))))
   (aab (aaW PassesOwn.never (aa1 (K:=K) (vi vah)) (aal (n:=3) sc_followers.nd rfl vaq (.inl rfl)) (aae (aaW PassesOwn.never (aoc T.b_zip (qa_c (vi vak) (qa_c (aaD (K:=K) (vi vak) (aaC aad) abv) aac))) (adE (K:=K) (n:=2) (aa4 ((aal (n:=4) sc_followers.nd rfl var (.inl rfl))) (aa4 ((aal (n:=5) sc_followers.nd rfl vas (.inl rfl))) acG))) (aae (aa0 (qe_mB (K:=K) qal qap qao aaZ (abH hu1 (vi vai) (vi vam)) (qa_c (vi van) aac)))))))
   (aae (aaz (vi vai)))))),?_⟩
  obtain ⟨a,rs,zss,rfl,hR,hz,q⟩:=h;walk_at "rd";intro d nd;have S0:Same H (upd H d (.dK [])):=Same.new nd;refine ⟨a,rs,zss,rfl,hR.same S0,hz,fun l H1 nl S1 hl=>?_⟩;have hd1:H1 d=some (.dK []):=S1 _ _ aaa;have S01:=S0.trans S1;have hlen:(toldL zss).length<=100000:=qan (adg zss) hz;have tnd:=abY zss;refine ⟨l,rfl,⟨_,.of hl⟩,forL (xs:=(toldL zss).map V.str) (fun i σ H2=>∃ (u v w x:Option V) (ad:Str->Addr),σ=[some (.ref a),some (.ref d),u,v,w,x]/\SameBut d H1 H2/\H2 d=some (.dK (kvN ((toldL zss).take i) fun t=>.ref (ad t)))/\DL H1 H2 ((toldL zss).take i) ad fun _=>[])
   ⟨none,none,none,none,fun _=>0,rfl,uak _ _,hd1,⟨fun t h=>by simp at h,fun t h=>by simp at h,fun t h=>by simp at h⟩⟩ (fun i σ H2 _ ⟨_,_,_,_,_,_,S,_⟩=>.of (S _ _ (fun e=>by rw [e,hd1] at hl;cases hl) hl)) ?_ ?_⟩
  ·rintro i x σ H2 hx ⟨u,v,w,y,ad,rfl,S,hd,dl⟩;obtain ⟨z,hk,rfl⟩:=aaE hx;have hi:i<(toldL zss).length:=(qa5.mp hk).1;have hnew:=afe tnd hk;walk_at "rd";refine fun p np=>⟨_,uab (k:=Sum.inr z) (aag hd np) (by rw [abO,qaf];exact aaq (by walk_at "o")),?_⟩
   have n1:H1 p=none:=S.free np (fun e=>by rw [e,hd] at np;cases np);refine ⟨(S.put n1).at,fun t=>if t=z then p else ad t,?_,?_⟩
   ·rw [aaa,acJ _ hnew,aap hk];have e:(fun t=>if t=z then V.ref p else V.ref (ad t))=fun t=>V.ref (if t=z then p else ad t):=by funext t;split <;> rfl
    rw [e]
   ·rw [aap hk];exact ((dl.more hnew np n1).congr fun t _=>by split <;> rfl).put hd1
  ·rintro σ H2 ⟨u,v,w,y,ad,rfl,S,hd,dl⟩;rw [qa0,qaj] at hd dl;have S2:Same H H2:=S.same S01 nd;walk_at "rd";have dl0:DL H H2 (toldL zss) ad fun _=>[]:=dl.old S01
   refine ⟨⟨_,.of (S2 _ _ hR.top)⟩,forL (xs:=rs.map V.ref) (fun i σ H3=>∃ (v w x:Option V),σ=[some (.ref a),some (.ref d),u,v,w,x]/\Same H H3/\H3 d=some (.dK (kvN (toldL zss) fun t=>.ref (ad t)))/\DL H H3 (toldL zss) ad (fol (edges (zss.take i))))
    ⟨v,w,y,rfl,S2,hd,dl0⟩ (by rintro i σ H3 _ ⟨_,_,_,_,S,_⟩;exact .of (S _ _ hR.top)) ?_ ?_⟩
   ·rintro i x σ H3 hx ⟨v,w,y,rfl,S3,hd3,dl3⟩;obtain ⟨r,hr,rfl⟩:=aaE hx;obtain ⟨zs,hzs,hrow⟩:=Paired.at hR.row hr;have hrow3:=S3 _ _ hrow;have hin:∀ x∈zs,x∈toldL zss:=fun x hx=>(afd _ _).mpr (List.mem_flatten.mpr ⟨zs,qab hzs,hx⟩)
    walk_at "rd";refine rSlR.l (.of hrow3) fun p np=>?_
    have ecut:cutV (zs.map V.str) (some 1) none=zs.tail.map V.str:=by
     have:=abC (zs.map V.str) 1
     rw [show ((1:Nat):Int)=1 from rfl] at this;rw [this,<- qbD,List.drop_one]
    rw [ecut];have np0:H p=none:=S3.free np;have nad:∀ t∈toldL zss,ad t≠p:=fun t ht e=>by have:=dl3.row t ht;rw [e,np] at this;cases this
    have nadr:∀ t∈toldL zss,ad t≠r:=fun t ht e=>by have:=dl3.new t ht;rw [e,hrow] at this;cases this
    have ndp:d≠p:=fun e=>by rw [<- e,hd3] at np;cases np
    have nadd:∀ t∈toldL zss,ad t≠d:=fun t ht e=>by have:=dl3.row t ht;rw [e,hd3] at this;cases this
    refine ⟨p,rfl,⟨_,aag hrow3 np⟩,⟨_,aaa⟩,forZ (xs:=zs.map V.str) (ys:=zs.tail.map V.str) (fun j σ H4=>∃ (w x:Option V),σ=[some (.ref a),some (.ref d),u,some (.ref r),w,x]/\Same H H4/\H4 p=some (.lst (zs.tail.map V.str))/\H4 d=some (.dK (kvN (toldL zss) fun t=>.ref (ad t)))/\DL H H4 (toldL zss) ad (fol (edges (zss.take i)++(abz zs).take j)))
     ⟨w,y,rfl,S3.put np0,aaa,aag hd3 np,?_⟩ (by rintro j σ H4 ⟨_,_,_,S,hp,_⟩;exact ⟨S _ _ hrow,hp⟩) ?_ ?_⟩
    ·rw [qaU,qah];exact dl3.same (Same.new np)
    ·rintro j xv yv t σ H4 hxv hyv ⟨w,v,rfl,S4,hp4,hd4,dl4⟩ nt;obtain ⟨x,hx,rfl⟩:=aaE hxv;obtain ⟨y,hy,rfl⟩:=aaE hyv;have hxt:=hin x (qab hx);have nt0:H t=none:=S4.free nt;have hlx:=dl4.row x hxt;have hE:(abz zs)[j]?=some (x,y):=af0 hx hy;walk_at "rd";refine ⟨_,.of aaa,rfl,_,_,rfl,_,_,rfl,rfl,V.ref (ad x),.inl ⟨_,Sum.inr x,.inl (aag hd4 nt),rfl,by rw [aaQ,if_pos hxt]⟩,tyL (aag hlx nt),appOk (aag hlx nt) ?_ ⟨(S4.put nt0).put (dl4.new x hxt),?_,?_,?_⟩⟩
     ·rw [qa0];refine aaq ?_;have h1:(fol (edges (zss.take i)++(abz zs).take j) x).length<=(edges (zss.take i)++(abz zs).take j).length:=by
       unfold fol;rw [qa0];exact qbv _ _
      have h2:=af1 (zss.take i);have h3:(zss.take i).flatten.length<=zss.flatten.length:=by
       conv=>rhs;rw [<- qaA i zss]
       rw [qbA,qa1];walk_at "o"
      have h4:zs.length<=zss.flatten.length:=List.Sublist.length_le (List.sublist_flatten_of_mem (qab hzs));rw [qa1,qaf,ado] at h1;walk_at "o"
     ·rw [aah (nad x hxt).symm];exact aag hp4 nt
     ·rw [aah (nadd x hxt).symm];exact aag hd4 nt
     ·have h1:=(dl4.same (Same.new (u:=.tup [V.str x,V.str y]) nt)).app hxt (fol (edges (zss.take i)++(abz zs).take j) x++[y]);rw [qa4] at h1;refine h1.congr fun t _=>?_
      rw [aap hE,<- qas,akC]
      by_cases e:t=x
      ·rw [if_pos e,if_pos e.symm,e]
      ·rw [if_neg e,if_neg (fun z=>e z.symm)]
    ·rintro σ H4 ⟨w,x,rfl,S4,hp4,hd4,dl4⟩;walk_at "rd";refine ⟨S4,hd4,?_⟩;rw [ahQ hzs];rw [qaF (l:=abz zs) (by rw [ado,qa0,qa0];exact qa2 _)] at dl4;exact dl4
   ·rintro σ H3 ⟨v,w,y,rfl,S3,hd3,dl3⟩;rw [qa0,show rs.length=zss.length from Paired.length hR.row,qaj] at dl3;walk_at "rd";exact q d ad H3 nd S3 hd3 dl3
theorem sc_count_ahead:FnScope ["after", "ahead", "piece", "other"] ["after"] (aaf aaL):=fsc
abbrev abW:List Str:=["after", "ahead", "piece", "other"]
theorem vat:VS abW aaL "after" 0:=vq
theorem vau:VS abW aaL "ahead" 1:=vq
theorem vav:VS abW aaL "piece" 2:=vq
theorem vaw:VS abW aaL "other" 3:=vq
theorem vax:LS aaL "ahead":=lq
theorem vay:LS aaL "piece":=lq
theorem vaz:LS aaL "other":=lq
theorem aew(F:FunD K "count_ahead" "count_ahead" aaL f fd)(T:Txt P w K mg C):FnOk P w K mg base CX0 1 f fd ["after"] ai1:=by
 refine F.ok sc_count_ahead ?_ ?_
 ·rintro _ _ _ _ ⟨d,ts,ad,E,rfl,_⟩;rfl
 ·intro cdv A outer s H vs Q E hr h;have hu1:=hu_of hr;have hu:=hr.units;refine ⟨_,QSs.out (aab (aam (n:=1) sc_count_ahead.nd rfl vax act)
   (aab (agx PassesOwn.never (vi vat) (aal (n:=2) sc_count_ahead.nd rfl vay (.inl rfl)) (aae (aby hu1 (vi vau) (vi vav) aad)))
   (aab (agx PassesOwn.never (vi vat) (aal (n:=2) sc_count_ahead.nd rfl vay (.inl rfl)) (aae (aaW PassesOwn.never (aa1 (K:=K) (abH hu1 (vi vat) (vi vav))) (aal (n:=3) sc_count_ahead.nd rfl vaz (.inl rfl)) (aae (aiQ hu1 (vi vau) (vi vaw) aad an4)))))
   (aae (aaz (vi vau)))))),?_⟩
  obtain ⟨d,ts,ad,E,rfl,hd,tnd,hlen,hElen,hrow,hE,q⟩:=h;walk_at "rd";intro c nc;have ndc:d≠c:=fun e=>by rw [e,nc] at hd;cases hd
  refine ⟨_,aag hd nc,fun o=>forD (fun i σ H2=>∃ (u v:Option V),σ=[some (.ref d),some (.ref c),u,v]/\H2 d=some (.frz o (.dK (kvN ts fun t=>.ref (ad t))))/\SameBut d H H2/\H2 c=some (.dK (kvN (ts.take i) fun _=>.int 0)))
   ⟨none,none,rfl,aaa,(SameBut.put (uak _ _) nc).at,by rw [aah ndc.symm,aaa];rfl⟩ (by rintro i σ H2 ⟨_,_,_,h,_⟩;exact h) ?_ ?_⟩
  ·rintro i k v σ H2 hk ⟨u,w,rfl,hf,S,hc⟩;obtain ⟨t,ht,rfl,rfl⟩:=ak9 hk;have hi:i<ts.length:=(qa5.mp ht).1;walk_at "rd";refine ⟨_,uab (k:=Sum.inr t) hc (by rw [abO,qaf];exact aaq (by walk_at "o")),?_,S.put nc,?_⟩
   ·rw [aah ndc];exact hf
   ·rw [aaa,acJ _ (afe tnd ht),aap ht];exact congrArg (fun x=>some (HO.dK x)) (aaF fun t _=>by split <;> rfl)
  ·rintro σ H2 ⟨u,w,rfl,hf,S,hc⟩;rw [abO,qaj] at hc;have S2:Same H (upd H2 d (.dK (kvN ts fun t=>.ref (ad t)))):=S.thaw hd;have hd2:upd H2 d (.dK (kvN ts fun t=>.ref (ad t))) d=some (.dK (kvN ts fun t=>.ref (ad t))):=aaa;have hc2:upd H2 d (.dK (kvN ts fun t=>.ref (ad t))) c=some (.dK (kvN ts fun _=>.int 0)):=by rw [aah ndc.symm];exact hc
   generalize upd H2 d (.dK (kvN ts fun t=>.ref (ad t)))=H3 at S2 hd2 hc2;walk_at "rd";refine ⟨_,hd2,fun o=>forD (fun i σ H4=>∃ (u v:Option V),σ=[some (.ref d),some (.ref c),u,v]/\H4 d=some (.frz o (.dK (kvN ts fun t=>.ref (ad t))))/\SameBut d H H4/\H4 c=some (.dK (kvN ts fun t=>.int (cntIn E (ts.take i) t:Nat))))
    ⟨u,w,rfl,aaa,fun b o hb h=>by rw [aah hb];exact S2 b o h,?_⟩ (by rintro i σ H2 ⟨_,_,_,h,_⟩;exact h) ?_ ?_⟩
   ·rw [aah ndc.symm,hc2];exact congrArg (fun x=>some (HO.dK x)) (aaF fun t _=>by rw [qaU,ai0];rfl)
   ·rintro i k v σ H4 hk ⟨u,w,rfl,hf,S4,hc4⟩;obtain ⟨t,ht,rfl,rfl⟩:=ak9 hk;have htm:t∈ts:=qab ht;have hl4:H4 (ad t)=some (.lst ((fol E t).map V.str)):=S4 _ _ (fun e=>by have:=hrow t htm;rw [e,hd] at this;cases this) (hrow t htm);walk_at "rd";refine ⟨V.ref (ad t),.inl ⟨_,Sum.inr t,.inr ⟨o,hf⟩,rfl,by rw [aaQ,if_pos htm]⟩,ad t,rfl,⟨_,.of hl4⟩,forL (xs:=(fol E t).map V.str) (fun j σ H5=>∃ (v:Option V),σ=[some (.ref d),some (.ref c),some (kV (Sum.inr t)),v]/\H5 d=some (.frz o (.dK (kvN ts fun t=>.ref (ad t))))/\SameBut d H H5/\
     H5 c=some (.dK (kvN ts fun q=>.int (cntIn E (ts.take i) q+((fol E t).take j).count q:Nat)))) ⟨w,rfl,hf,S4,by rw [hc4];rfl⟩ (fun j σ H5 _ ⟨_,_,_,S5,_⟩=>.of (S5 _ _ (fun e=>by have:=hrow t htm;rw [e,hd] at this;cases this) (hrow t htm))) ?_ ?_⟩
    ·rintro j v5 σ H5 hv5 ⟨v,rfl,hf5,S5,hc5⟩;obtain ⟨y,hy2,rfl⟩:=aaE hv5;have hyt:y∈ts:=by
      have:=qab hy2
      unfold fol at this;obtain ⟨e,he,rfl⟩:=qa8.mp this;exact (hE e (qat.mp he).1).2
     walk_at "rd";refine ⟨V.int (cntIn E (ts.take i) y+((fol E t).take j).count y:Nat),.inl ⟨_,Sum.inr y,.inl hc5,rfl,by rw [aaQ,if_pos hyt]⟩,_,_,rfl,rfl,_,uab (k:=Sum.inr y) hc5 (by rw [abO];exact aaq (by walk_at "o")),?_,S5.put nc,?_⟩
     ·rw [aah ndc];exact hf5
     ·rw [aaa,aeb _ hyt];refine congrArg (fun x=>some (HO.dK x)) (aaF fun q _=>?_);rw [aap hy2,List.count_append,List.count_singleton]
      by_cases e:q=y
      ·rw [if_pos e,e,if_pos (by simp)];exact congrArg V.int (by walk_at "o")
      ·rw [if_neg e,if_neg (by simpa using fun z:y=q=>e z.symm)];rfl
    ·rintro σ H5 ⟨v,rfl,hf5,S5,hc5⟩;walk_at "rd";refine ⟨hf5,S5,?_⟩;rw [qa0,qaj] at hc5;rw [hc5];refine congrArg (fun x=>some (HO.dK x)) (aaF fun q _=>?_);rw [aap ht,ahO (afe tnd ht)]
   ·rintro σ H4 ⟨u,w,rfl,hf,S4,hc4⟩;rw [abO,qaj] at hc4;walk_at "rd";refine q c _ nc (S4.thaw hd) ?_;rw [aah ndc.symm,hc4];exact congrArg (fun x=>some (HO.dK x)) (aaF fun t _=>by rw [aiZ (fun e he=>(hE e he).1)])
theorem sc_lined_up:FnScope ["rows", "after", "ahead", "pieces", "numbers", "free", "line", "number", "other"] ["rows"] (aaf aau):=fsc
abbrev abq:List Str:=["rows", "after", "ahead", "pieces", "numbers", "free", "line", "number", "other"]
theorem vaA:VS abq aau "rows" 0:=vq
theorem vaB:VS abq aau "after" 1:=vq
theorem vaC:VS abq aau "ahead" 2:=vq
theorem vaD:VS abq aau "pieces" 3:=vq
theorem vaE:VS abq aau "numbers" 4:=vq
theorem vaF:VS abq aau "free" 5:=vq
theorem vaG:VS abq aau "line" 6:=vq
theorem vaH:VS abq aau "number" 7:=vq
theorem vaI:VS abq aau "other" 8:=vq
theorem vaJ:LS aau "after":=lq
theorem vaK:LS aau "ahead":=lq
theorem vaL:LS aau "pieces":=lq
theorem vaM:LS aau "numbers":=lq
theorem vaN:LS aau "free":=lq
theorem vaO:LS aau "line":=lq
theorem vaP:LS aau "number":=lq
theorem vaQ:LS aau "other":=lq
theorem agK(F:FunD K "lined_up" "lined_up" aau f fd)(T:Txt P w K mg C)(G_followers:FO P w K mg base 2 "followers" ["rows"] [] spFol)(G_count_ahead:FO P w K mg base 1 "count_ahead" ["after"] [] ai1):FnOk P w K mg base CX0 3 f fd ["rows"] ai2:=by
 refine F.ok sc_lined_up ?_ ?_
 ·rintro _ _ _ _ ⟨a,rs,zss,rank,rfl,_⟩;rfl
 ·intro cdv A outer s H vs Q E hr h;have hu1:=hu_of hr;have hu:=hr.units;refine ⟨_,QSs.out (aab (aam (n:=1) sc_lined_up.nd rfl vaJ (aai G_followers (hm hr) (qa_c (vi vaA) aac)))
   (aab (aam (n:=2) sc_lined_up.nd rfl vaK (aai G_count_ahead (hm hr) (qa_c (vi vaB) aac)))
   (aab (aam (n:=3) sc_lined_up.nd rfl vaL (qe_cT (adF (K:=K) (calm:=true)) T.b_list acs (qa_c (vi vaB) aac)))
   (aab (aam (n:=4) sc_lined_up.nd rfl vaM (qe_cT (aiW (K:=K) (calm:=true)) T.b_dict aiM (qa_c (aca  (cok:CompOk ["rows", "after", "ahead", "pieces", "numbers", "free", "line", "number", "other"] (aaf aau).names _ ["number", "piece"] 2 []) (adp T.b_enumerate (qa_c (vi vaD) aac)) (fun _ _ _ _ _=>(adE (K:=K) (n:=2) (aa4 (aal (n:=0) (show List.Nodup (["number", "piece"]:List Str) by decide +kernel) rfl (Or.inl rfl)) (aa4 (aal (n:=1) (show List.Nodup (["number", "piece"]:List Str) by decide +kernel) rfl (Or.inl rfl)) acG)))) (fun _ _ _ _ _=>abT) (fun _ _ _ _ _=>(abd (qa_c (qv 1) (qa_c (qv 0) aac))))) aac)))
   (aab (ace (n:=5) sc_lined_up.nd rfl vaN (cok:CompOk ["rows", "after", "ahead", "pieces", "numbers", "free", "line", "number", "other"] (aaf aau).names _ ["piece", "numbers", "ahead"] 1 [4,2]) (aa1 (K:=K) (vi vaD)) (fun _ _ _ _ _=>aal (n:=0) (show List.Nodup (["piece", "numbers", "ahead"]:List Str) by decide +kernel) rfl (Or.inl rfl)) (fun _ _ _ _ _=>(acV (aao (q_eq (K:=K) hu) (abH hu1 (qv 2) (qv 0)) aad))) (fun _ _ _ _ _=>(abH hu1 (qv 1) (qv 0))))
   (aab (aam (n:=6) sc_lined_up.nd rfl vaO (aa5 aac))
   (aab (adh PassesOwn.never (ab7 (K:=K) (vi vaF)) (aab (aam (n:=7) sc_lined_up.nd rfl vaP (qe_cB (aon (calm:=true)) T.b_min anZ (qa_c (vi vaF) aac)))
   (aab (aa0 (qe_mB (K:=K) qal PySem.F.slot_list_remove PySem.F.type_list_remove aje (vi vaF) (qa_c (vi vaH) aac)))
   (aab (aa0 (qe_mB (K:=K) qal qap qao aaZ (vi vaG) (qa_c (qe_ix (K:=K) (vi vaD) (vi vaH)) aac)))
   (aae (aaW PassesOwn.never (aa1 (K:=K) (abH hu1 (vi vaB) (qe_ix (K:=K) (vi vaD) (vi vaH)))) (aal (n:=8) sc_lined_up.nd rfl vaQ (.inl rfl)) (aab (aiQ hu1 (vi vaC) (vi vaI) aad an5)
   (aae (qs_if (aao (q_eq (K:=K) hu) (abH hu1 (vi vaC) (vi vaI)) aad) (aae (aa0 (qe_mB (K:=K) qal qap qao aaZ (vi vaF) (qa_c (abH hu1 (vi vaE) (vi vaI)) aac)))) aav)))))))))
   (aab (qs_if (aao q_lt (qe_cB (q_len (K:=K)) T.b_len abw (qa_c (vi vaG) aac)) (qe_cB (q_len (K:=K)) T.b_len abw (qa_c (vi vaD) aac))) (aae adP) aav)
   (aae (aaz (vi vaG))))))))))),?_⟩
  obtain ⟨a,rs,zss,rank,rfl,hR,hz,hrank,q⟩:=h;walk_at "rd";have hlen:(toldL zss).length<=100000:=qan (adg zss) hz;have hElen:(edges zss).length<=100000:=qan (af1 zss) hz;have tnd:=abY zss;have etold:∀ e∈edges zss,e.1∈toldL zss/\e.2∈toldL zss:=fun e he=>adn he
  refine ⟨a,rs,zss,rfl,hR,hz,fun d ad H1 nd S1 hd dl=>?_⟩;generalize hts:toldL zss=ts at *;generalize hEE:edges zss=E at *;refine ⟨d,ts,ad,E,rfl,hd,tnd,hlen,hElen,dl.row,etold,fun c H2 nc S2 hc=>?_⟩;walk_at "rd";refine rListR.d (.of (S2 _ _ hd)) fun w nw=>?_
  rw [akD];have S12:=S1.trans S2;have ncH:H c=none:=S1.free nc;have hd2:=S2 _ _ hd;have ncd:c≠d:=fun e=>by rw [e,hd] at nc;cases nc
  have nac:∀ t∈ts,ad t≠c:=fun t ht e=>by have:=dl.row t ht;rw [e,nc] at this;cases this
  have hw0:upd H2 w (.lst (ts.map V.str)) w=some (.lst (ts.map V.str)):=aaa;have Sw:Same H2 (upd H2 w (.lst (ts.map V.str))):=Same.new nw;generalize upd H2 w (.lst (ts.map V.str))=H3 at hw0 Sw ⊢
  have idx:∀ {i:Nat} {z:Str},ts[i]?=some z->ts.idxOf z=i:=fun {i z} h=>by
   obtain ⟨hi,rfl⟩:=qa5.mp h;exact List.Nodup.idxOf_getElem tnd i hi
  refine ⟨w,rfl,⟨_,hw0⟩,compE (xs:=ts.map V.str) [] rfl (fun D i ys H4=>∃ qs:List Addr,ys=qs.map V.ref/\Same H3 H4/\Paired (fun q t=>H4 q=some (.tup [.str t,.int (ts.idxOf t:Nat)])) qs (ts.take i)) (fun D nD=>⟨[],rfl,Same.new nD,.nil⟩) (by rintro D i ys H4 nD _ ⟨_,_,S,_⟩;exact S _ _ hw0) ?_ ?_⟩
  ·rintro D i x t ys H4 nD hi hx ⟨qs,rfl,S,P4⟩ hD hy nt;obtain ⟨z,hz,rfl⟩:=aaE hx;rw [qa0] at hi hy;walk_at "rd";refine ⟨by decide,fun p np=>⟨aag (aag hD nt) np,by rw [qa0];exact aaq (by walk_at "o"),CW2.put (by rw [qa0];exact hi) (by rw [qa0];exact hy) ⟨qs++[p],by rw [qa4];rfl,((S.trans (Same.new nt)).trans (Same.new np)).put nD,?_⟩⟩⟩;rw [aap hz];refine Paired.snoc (uam P4 fun q t' h=>?_) ?_
   ·rw [aah (fun e=>by rw [e,hD] at h;cases h)];exact aag (aag h nt) np
   ·rw [aah (fun e=>by rw [e,aag hD nt] at np;cases np),aaa,idx hz]
  rintro D ys H4 nD ⟨qs,rfl,S34,P4⟩ hD hy;rw [qa0,qaj] at P4;refine ⟨rfl,D,qs,_,rfl,.of hD,ahh (f:=fun t=>.int (ts.idxOf t:Nat)) P4,fun nm nnm=>?_⟩;rw [show abR [] (kvN ts fun t=>V.int (ts.idxOf t:Nat))=kvN ts fun t=>V.int (ts.idxOf t:Nat) from af7 (pre:=[]) (by simpa using tnd)];have S5:Same H2 (upd H4 nm (.dK (kvN ts fun t=>V.int (ts.idxOf t:Nat)))):=(Sw.trans S34).trans (Same.new nnm);have hw5:upd H4 nm (.dK (kvN ts fun t=>V.int (ts.idxOf t:Nat))) w=some (.lst (ts.map V.str)):=aag (S34 _ _ hw0) nnm;have hnm:upd H4 nm (.dK (kvN ts fun t=>V.int (ts.idxOf t:Nat))) nm=some (.dK (kvN ts fun t=>V.int (ts.idxOf t:Nat))):=aaa;have hc4:H4 c=some (.dK (kvN ts fun t=>.int (cnt E [] t:Nat))):=S34 _ _ (Sw _ _ hc);have ncn:c≠nm:=fun e=>by rw [<- e,hc4] at nnm;cases nnm
  generalize upd H4 nm (.dK (kvN ts fun t=>V.int (ts.idxOf t:Nat)))=H5 at S5 hw5 hnm ⊢
  have hc5:=S5 _ _ hc;have hd5:=S5 _ _ hd2;have hr5:∀ t∈ts,H5 (ad t)=some (.lst ((fol E t).map V.str)):=fun t ht=>S5 _ _ (S2 _ _ (dl.row t ht))
  have S05:=S12.trans S5;have ncw:c≠w:=fun e=>by rw [e,hw5] at hc5;cases hc5
  refine ⟨w,rfl,⟨_,.of hw5⟩,compL (xs:=ts.map V.str) [some (.ref nm),some (.ref c)] rfl (fun D i ys H6=>∃ fr:List Int,ys=fr.map V.int/\Same H5 H6/\FS (ts.take i) [] (fun q=>cnt E [] q=0) fr) (fun D nD=>⟨[],rfl,Same.new nD,FS.nil _⟩) (by rintro D i ys H6 nD _ ⟨_,_,S,_⟩;exact .of (S _ _ hw5)) ?_ ?_⟩
  ·rintro D i x ys H6 nD hi hx ⟨fr,rfl,S,F⟩ hD hy;obtain ⟨z,hz,rfl⟩:=aaE hx;have hzt:z∈ts:=qab hz;have hil:i<ts.length:=(qa5.mp hz).1;rw [qa0] at hy;have hs:=F.snoc (i:=i) (q:=z) (by rw [qaf];walk_at "o") (by simp);rw [<- aap hz] at hs;walk_at "rd";refine ⟨V.int (cnt E [] z:Nat),.inl ⟨_,Sum.inr z,.inl (S _ _ hc5),rfl,by rw [aaQ,if_pos hzt]⟩,?_⟩
   try walk_at "rd"
   refine iteD (fun h0=>⟨V.int (ts.idxOf z:Nat),.inl ⟨_,Sum.inr z,.inl (S _ _ hnm),rfl,by rw [aaQ,if_pos hzt]⟩,hD,by rw [qa0];exact aaq (by walk_at "o"),CW.put hi (by rw [qa0];exact hy) ⟨fr++[(i:Int)],by rw [qa4,idx hz];rfl,S.put nD,hs.1 (by walk_at "o")⟩⟩) fun h0=>⟨hD,uaa hi (by rw [qa0];exact hy) ⟨fr,rfl,S,hs.2 (by walk_at "o")⟩⟩
  rintro f ys H6 nf ⟨fr,rfl,S56,F0⟩ hf6 hy;rw [qa0,qaj] at F0;intro ln nln;have nln5:H5 ln=none:=S56.free nln;have hfl:f≠ln:=fun e=>by rw [e,nln] at hf6;cases hf6
  have frlen:∀ {line fr z},FS ts line z fr->fr.length<=ts.length:=fun {line fr z} F=>by
   have h1:∀ n∈fr,n∈(qbI ts.length).map fun (n:Nat)=>(n:Int):=fun n hn=>by
    obtain ⟨m,q,e,h2,_⟩:=(F.2 n).mp hn;exact qa8.mpr ⟨m,qbL.mpr (qa5.mp h2).1,e.symm⟩
   have:=aeR F.1 h1
   simpa using this
  refine afT (fun m σ H7=>∃ (u v:Option V) (line:List Str) (fr:List Int),σ=[some (.ref a),some (.ref d),some (.ref c),some (.ref w),some (.ref nm),some (.ref f),some (.ref ln),u,v]/\SameBut c H5 H7/\
    H7 c=some (.dK (kvN ts fun t=>.int (cnt E line t:Nat)))/\H7 f=some (.lst (fr.map V.int))/\FS ts line (fun q=>cnt E line q=0) fr/\H7 ln=some (.lst (line.map V.str))/\Run E ts line/\m=ts.length-line.length) ts.length
   ⟨none,none,[],fr,rfl,fun b o _ h=>aag (S56 _ _ h) nln,aag (S56 _ _ hc5) nln,aag hf6 nln,F0,aaa,Run.nil _ _,rfl⟩ ?_
  rintro m σ H7 ⟨u,v,line,fr,rfl,B7,hc7,hf7,F,hl7,run,rfl⟩;have S07:Same H H7:=B7.same S05 ncH;walk_at "rd";refine ⟨_,aiS hf7,?_⟩
  by_cases hemp:fr=[]
  ·have hall:∀ p∈ts,p∈line:=fun p hp=>Classical.byContradiction fun hn=>by
    obtain ⟨q',hq⟩:=ahd (line:=line) hrank (fun e he=>(etold e he).1) ⟨p,hp,hn⟩;obtain ⟨h1,h2,h3⟩:=acu hq;obtain ⟨k,hk⟩:=List.mem_iff_getElem?.mp h1
    have:=(F.2 (k:Int)).mpr ⟨k,q',rfl,hk,h2,h3⟩
    rw [hemp] at this
    cases this
   have hsl:=adQ tnd run hall;rw [hemp];refine iteF ?_
   try walk_at "rd"
   refine ⟨line.length,.inl ⟨_,.of hl7,by rw [qa0]⟩,ts.length,.inl ⟨_,.of (B7 _ _ ncw.symm hw5),by rw [qa0]⟩,?_⟩
   try walk_at "rd"
   exact iteD (fun h=>absurd h (by walk_at "o")) fun _=>q ln line H7 (S05.free nln5) S07 hl7 run hall
  rw [show (!(fr.map V.int).isEmpty)=true by cases fr with | nil=>exact absurd rfl hemp | cons=>rfl];refine iteT ⟨fun σ' H'=>∃ (u v:Option V) (line':List Str) (fr:List Int),σ'=[some (.ref a),some (.ref d),some (.ref c),some (.ref w),some (.ref nm),some (.ref f),some (.ref ln),u,v]/\SameBut c H5 H'/\
    H' c=some (.dK (kvN ts fun t=>.int (cnt E line' t:Nat)))/\H' f=some (.lst (fr.map V.int))/\FS ts line' (fun q=>cnt E line' q=0) fr/\H' ln=some (.lst (line'.map V.str))/\Run E ts line'/\ts.length-line'.length<ts.length-line.length,?_,?_⟩
  ·rintro σ' H' ⟨u,v,line',fr',rfl,h1,h2,h3,h4,h5,h6,h7⟩;exact ⟨_,h7,⟨_,_,rfl⟩,h1,line',h2,fr',h3,h4,h5,h6,rfl⟩
  try walk_at "rd"
  refine ⟨fr,hf7,hemp,fun M hM hmin=>?_⟩;obtain ⟨mm,p,rfl,hpm,hnext⟩:=agA F hM hmin;obtain ⟨hp1,hp2,hp3⟩:=acu hnext;have hll:line.length<ts.length:=by
   have h1:(line++[p]).Nodup:=(run.snoc hnext).nodup;have h3:=af2 h1 fun x hx=>(run.snoc hnext).sub hx
   rw [qa1,qag] at h3;walk_at "o"
  have F1:=F.take tnd hpm
  try walk_at "rd"
  refine ⟨tyL hf7,aom hf7 hM ?_⟩;have hwf:w≠f:=fun e=>by rw [e,nf] at hw5;cases hw5
  have hcf:c≠f:=fun e=>by rw [e,nf] at hc5;cases hc5
  have hcl:c≠ln:=fun e=>by rw [e,nln5] at hc5;cases hc5
  have B8:SameBut c H5 (upd H7 f (.lst ((fr.erase (mm:Int)).map V.int))):=B7.put nf;have hl8:upd H7 f (.lst ((fr.erase (mm:Int)).map V.int)) ln=some (.lst (line.map V.str)):=by rw [aah hfl.symm];exact hl7
  have hf8:upd H7 f (.lst ((fr.erase (mm:Int)).map V.int)) f=some (.lst ((fr.erase (mm:Int)).map V.int)):=aaa;have hc8:upd H7 f (.lst ((fr.erase (mm:Int)).map V.int)) c=some (.dK (kvN ts fun t=>.int (cnt E line t:Nat))):=by rw [aah hcf];exact hc7
  generalize upd H7 f (.lst ((fr.erase (mm:Int)).map V.int))=H8 at B8 hl8 hf8 hc8 ⊢
  have atp:atI (ts.map V.str) (mm:Int)=some (V.str p):=abr (by rw [qaC,hpm];rfl);refine ⟨tyL hl8,_,.inl (.of (B8 _ _ ncw.symm hw5)),V.str p,atp,appOk hl8 (by rw [qa0];exact aaq (by walk_at "o")) ?_⟩;have B9:SameBut c H5 (upd H8 ln (.lst (line.map V.str++[V.str p]))):=B8.put nln5;have hl9:upd H8 ln (.lst (line.map V.str++[V.str p])) ln=some (.lst ((line++[p]).map V.str)):=by rw [aaa,qa4];rfl
  have hf9:upd H8 ln (.lst (line.map V.str++[V.str p])) f=some (.lst ((fr.erase (mm:Int)).map V.int)):=by rw [aah hfl];exact hf8
  have hc9:upd H8 ln (.lst (line.map V.str++[V.str p])) c=some (.dK (kvN ts fun t=>.int (cnt E line t:Nat))):=by rw [aah hcl];exact hc8
  generalize upd H8 ln (.lst (line.map V.str++[V.str p]))=H9 at B9 hl9 hf9 hc9 ⊢
  refine ⟨_,.inl (.of (B9 _ _ ncw.symm hw5)),V.str p,atp,V.ref (ad p),.inl ⟨_,Sum.inr p,.inl (B9 _ _ ncd.symm hd5),rfl,by rw [aaQ,if_pos hp1]⟩,ad p,rfl,⟨_,.of (B9 _ _ (nac p hp1) (hr5 p hp1))⟩,
   forL (xs:=(fol E p).map V.str) (fun j σ H7=>∃ (x:Option V) (fr:List Int),σ=[some (.ref a),some (.ref d),some (.ref c),some (.ref w),some (.ref nm),some (.ref f),some (.ref ln),some (.int (mm:Int)),x]/\SameBut c H5 H7/\
    H7 c=some (.dK (kvN ts fun t=>.int ((cnt E line t:Nat)-(((fol E p).take j).count t:Nat))))/\H7 f=some (.lst (fr.map V.int))/\FS ts (line++[p]) (fun q=>cnt E line q=((fol E p).take j).count q) fr/\H7 ln=some (.lst ((line++[p]).map V.str)))
   ⟨v,_,rfl,B9,?_,hf9,F1.congr fun q=>(by simp),hl9⟩ (by rintro j σ H7 _ ⟨_,_,_,B,_⟩;exact .of (B _ _ (nac p hp1) (hr5 p hp1))) ?_ ?_⟩
  ·rw [hc9];exact congrArg (fun x=>some (HO.dK x)) (aaF fun t _=>congrArg V.int (by simp))
  ·rintro j v5 σ H10 hv5 ⟨x,fr,rfl,B,hc10,hf10,F,hl10⟩;obtain ⟨y,hy,rfl⟩:=aaE hv5;have hyt:y∈ts:=by
    have:=qab hy
    unfold fol at this;obtain ⟨e,he,rfl⟩:=qa8.mp this;exact (etold e (qat.mp he).1).2
   have hpos:((fol E p).take j).count y<cnt E line y:=by
    have h1:=ahc (E:=E) (q:=y) hp2;have h2:(fol E p).count y=((fol E p).take (j+1)).count y+((fol E p).drop (j+1)).count y:=by rw [<- List.count_append,qaA]
    rw [aap hy,List.count_append,List.count_singleton,if_pos (by simp)] at h2;walk_at "o"
   have hyb:y∉line++[p]:=fun hm=>by
    rcases qa6.mp hm with hm | hm
    ·have:=akM run hm;walk_at "o"
    ·rw [qa7.mp hm] at hpos;walk_at "o"
   obtain ⟨my,hmy⟩:=List.mem_iff_getElem?.mp hyt;have hcnt:∀ q,((fol E p).take (j+1)).count q=((fol E p).take j).count q+if y=q then 1 else 0:=fun q=>by
    rw [aap hy,List.count_append,List.count_singleton]
    by_cases e:y=q
    ·rw [if_pos e,if_pos (by simpa using e)]
    ·rw [if_neg e,if_neg (by simpa using e)]
   have turn:=F.turn (z':=fun q=>cnt E line q=((fol E p).take (j+1)).count q) tnd (y:=y) (fun q hq=>by rw [hcnt,if_neg (fun e=>hq e.symm),Nat.add_zero]) (by walk_at "o") hmy hyb;have hnew:kvN ts (fun t=>V.int (if t=y then (cnt E line y:Nat)-(((fol E p).take j).count y:Nat)-1 else (cnt E line t:Nat)-(((fol E p).take j).count t:Nat)))=kvN ts (fun t=>V.int ((cnt E line t:Nat)-(((fol E p).take (j+1)).count t:Nat))):=aaF fun q _=>by
    rw [hcnt]
    by_cases e:q=y
    ·rw [if_pos e,e,if_pos rfl];exact congrArg V.int (by walk_at "o")
    ·rw [if_neg e,if_neg (fun z=>e z.symm)];exact congrArg V.int (by walk_at "o")
   walk_at "rd";refine ⟨_,.inl ⟨_,Sum.inr y,.inl hc10,rfl,by rw [aaQ,if_pos hyt]⟩,_,_,rfl,rfl,_,uab (k:=Sum.inr y) hc10 (by rw [abO];exact aaq (by walk_at "o")),?_⟩;have hc11:upd H10 c (.dK (putK (kvN ts fun t=>V.int ((cnt E line t:Nat)-(((fol E p).take j).count t:Nat))) (Sum.inr y) (V.int ((cnt E line y:Nat)-(((fol E p).take j).count y:Nat)-1)))) c=some (.dK (kvN ts (fun t=>V.int ((cnt E line t:Nat)-(((fol E p).take (j+1)).count t:Nat))))):=by
    rw [aaa,aeb _ hyt,<- hnew];refine congrArg (fun x=>some (HO.dK x)) (aaF fun q _=>?_)
    by_cases e:q=y
    ·rw [if_pos e,if_pos e]
    ·rw [if_neg e,if_neg e]
   have B11:SameBut c H5 (upd H10 c (.dK (putK (kvN ts fun t=>V.int ((cnt E line t:Nat)-(((fol E p).take j).count t:Nat))) (Sum.inr y) (V.int ((cnt E line y:Nat)-(((fol E p).take j).count y:Nat)-1))))):=B.at;have hf11:upd H10 c (.dK (putK (kvN ts fun t=>V.int ((cnt E line t:Nat)-(((fol E p).take j).count t:Nat))) (Sum.inr y) (V.int ((cnt E line y:Nat)-(((fol E p).take j).count y:Nat)-1)))) f=some (.lst (fr.map V.int)):=by rw [aah hcf.symm];exact hf10
   have hl11:upd H10 c (.dK (putK (kvN ts fun t=>V.int ((cnt E line t:Nat)-(((fol E p).take j).count t:Nat))) (Sum.inr y) (V.int ((cnt E line y:Nat)-(((fol E p).take j).count y:Nat)-1)))) ln=some (.lst ((line++[p]).map V.str)):=by rw [aah hcl.symm];exact hl10
   generalize upd H10 c (.dK (putK (kvN ts fun t=>V.int ((cnt E line t:Nat)-(((fol E p).take j).count t:Nat))) (Sum.inr y) (V.int ((cnt E line y:Nat)-(((fol E p).take j).count y:Nat)-1))))=H11 at hc11 B11 hf11 hl11 ⊢
   refine ⟨V.int ((cnt E line y:Nat)-(((fol E p).take (j+1)).count y:Nat)),.inl ⟨_,Sum.inr y,.inl hc11,rfl,by rw [aaQ,if_pos hyt]⟩,?_⟩
   try walk_at "rd"
   have hfl2:=frlen F;refine iteD (fun h0=>⟨tyL hf11,V.int (ts.idxOf y:Nat),.inl ⟨_,Sum.inr y,.inl (B11 _ _ ncn.symm hnm),rfl,by rw [aaQ,if_pos hyt]⟩,appOk hf11 (by rw [qa0];exact aaq (by walk_at "o")) ?_⟩) fun h0=>?_
   ·refine ⟨B11.put nf,?_,fr++[(my:Int)],?_,turn.1 (by walk_at "o"),?_⟩
    ·rw [aah hcf];exact hc11
    ·rw [aaa,qa4,idx hmy];rfl
    ·rw [aah hfl.symm];exact hl11
   ·exact ⟨B11,hc11,fr,hf11,turn.2 (by walk_at "o"),hl11⟩
  ·rintro σ H10 ⟨x,fr,rfl,B,hc10,hf10,F,hl10⟩;rw [qa0,qaj] at hc10 F;have hstep:∀ q,cnt E line q=cnt E (line++[p]) q+(fol E p).count q:=fun q=>ahc (E:=E) (q:=q) hp2
   refine ⟨⟨_,_,rfl⟩,B,line++[p],?_,fr,hf10,F.congr fun q=>?_,hl10,run.snoc hnext,by rw [qa1,qag];walk_at "o"⟩
   ·rw [hc10];exact congrArg (fun x=>some (HO.dK x)) (aaF fun q _=>congrArg V.int (by have:=hstep q;walk_at "o"))
   ·have:=hstep q
    walk_at "o"
theorem agi:FnScope ["sign"] ["sign"] (aaf acy):=fsc
abbrev agL:List Str:=["sign"]
theorem vaR:VS agL acy "sign" 0:=vq
theorem agj(F:FunD K "is_figure" "is_figure" acy f fd)(T:Txt P w K mg C):FnOk P w K mg base CX0 1 f fd ["sign"] af8:=by
 refine F.ok agi ?_ ?_
 ·rintro _ _ _ _ ⟨c,rfl,_⟩;rfl
 ·intro cdv A outer s H vs Q E hr h;have hu1:=hu_of hr;have hu:=hr.units;refine ⟨_,QSs.out (aae (aaz (akr q_le q_le aaA (vi vaR) aaA))),?_⟩;obtain ⟨c,rfl,q⟩:=h;walk_at "rd";have e1:(Str.ofString "0").cps.toList=[48]:=by decide +kernel
  have e2:(Str.ofString "9").cps.toList=[57]:=by decide +kernel
  rw [e1,e2];simp only [aog];refine iteN (fun h1=>?_) fun h1=>?_
  ·have e:figO c=!decide (57<c):=by
    unfold figO;rw [decide_eq_true (by walk_at "o":48<=c)]
    by_cases h2:c<=57
    ·rw [decide_eq_true h2,decide_eq_false (by walk_at "o":¬ 57<c)];rfl
    ·rw [decide_eq_false h2,decide_eq_true (by walk_at "o":57<c)];rfl
   rw [e] at q;exact q
  ·have e:figO c=false:=by unfold figO;rw [decide_eq_false (by walk_at "o":¬ 48<=c)];rfl
   rw [e] at q;exact q
theorem agM:FnScope ["rules", "word"] ["rules", "word"] (aaf ack):=fsc
abbrev ah4:List Str:=["rules", "word"]
theorem vaS:VS ah4 ack "rules" 0:=vq
theorem agN(F:FunD K "has_rule" "has_rule" ack f fd)(T:Txt P w K mg C):FnOk P w K mg base CX0 1 f fd ["rules", "word"] (spHas K):=by
 refine F.ok agM ?_ ?_
 ·rintro _ _ _ _ ⟨a,ts,R,w,rfl,_⟩;rfl
 ·intro cdv A outer s H vs Q E hr h;have hu1:=hu_of hr;have hu:=hr.units;refine ⟨_,QSs.out (aae (aaz (qe_cB (q_any (calm:=true)) T.b_any ak2 (qa_c (aca  (cok:CompOk ["rules", "word"] (aaf ack).names _ ["rule", "word"] 1 [1]) (aa1 (K:=K) (vi vaS)) (fun _ _ _ _ _=>aal (n:=0) (show List.Nodup (["rule", "word"]:List Str) by decide +kernel) rfl (Or.inl rfl)) (fun _ _ _ _ _=>abT) (fun _ _ _ _ _=>(acE (q_eq (K:=K) hu) (qe_ix (K:=K) (qv 0) aad) (qv 1)))) aac)))),?_⟩;obtain ⟨a,ts,R,w,rfl,hR,hl,q⟩:=h;walk_at "rd";refine ⟨⟨_,.of hR.top⟩,compL (xs:=ts.map V.ref) [some (.str w)] rfl (fun D i ys H4=>ys=((R.take i).map fun z=>decide (z.1=w)).map V.bl/\Same H H4) (fun D nD=>⟨rfl,Same.new nD⟩) (by rintro D i ys H4 nD _ ⟨_,S⟩;exact .of (S _ _ hR.top)) ?_ ?_⟩
  ·rintro D i x ys H4 nD hi hx ⟨rfl,S⟩ hD hy;obtain ⟨t,ht,rfl⟩:=aaE hx;obtain ⟨z,hz,hrow⟩:=Paired.at hR.row ht;have hi2:i<R.length:=(qa5.mp hz).1;walk_at "rd";refine ⟨_,.inr (.of (S _ _ hrow)),V.str z.1,aaS _ _,?_⟩;walk_at "rd";refine ⟨hD,by rw [qa0,qa0,qaf];exact aaq (by walk_at "o"),CW.put hi hy ⟨?_,S.put nD⟩⟩;rw [qaQ,hz]
   simp
  rintro D ys H4 nD ⟨rfl,S⟩ hD hy;rw [qa0,hR.len,qaj] at hD;refine ⟨_,rfl,hD,?_⟩;have e:((R.map fun z=>decide (z.1=w)).any id)=hasW R w:=by
   unfold hasW;rw [List.any_map];rfl
  rw [e];exact q H4 S
theorem aex:FnScope ["rule"] ["rule"] (aaf abU):=fsc
abbrev afs:List Str:=["rule"]
theorem vaT:VS afs abU "rule" 0:=vq
theorem aey(F:FunD K "pieces_told" "pieces_told" abU f fd)(T:Txt P w K mg C):FnOk P w K mg base CX0 1 f fd ["rule"] (ai4 K):=by
 refine F.ok aex ?_ ?_
 ·rintro _ _ _ _ ⟨t,z,rfl,_⟩;rfl
 ·intro cdv A outer s H vs Q E hr h;have hu1:=hu_of hr;have hu:=hr.units;obtain ⟨a_JOBS,m_JOBS,M_JOBS⟩:=T.x_JOBS;refine ⟨_,QSs.out (aab (qs_if (aao (q_eq (K:=K) hu) (qe_ix (K:=K) (vi vaT) aad) aaA) (aae (aaz (aaD (K:=K) (vi vaT) (aaC aad) abv))) aav)
   (aab (qs_if (aao (q_eq (K:=K) hu) (qe_ix (K:=K) (vi vaT) aad) aaA) (aae (aaz (aaD (K:=K) (vi vaT) (aaC aad) (aaC aad)))) aav)
   (aae (aaz (aks (aao (q_inM M_JOBS) (qe_ix (K:=K) (vi vaT) aad) (adO m_JOBS)) (aaD (K:=K) (vi vaT) (aaC aad) abv) (abd aac)))))),?_⟩
  obtain ⟨t,z,rfl,ht,q⟩:=h;have hT:SqT K H t ((z.1::z.2).map V.str):=.of ht;have hlen:1<=((z.1::z.2).map V.str).length:=by rw [qa0,qad];walk_at "o"
  walk_at "rd";refine ⟨_,.inr hT,V.str z.1,aaS _ _,?_⟩;walk_at "rd";refine iteD (fun e=>?_) fun n1=>⟨_,.inr hT,V.str z.1,aaS _ _,?_⟩
  ·refine rSlR.t hT (aaI (k:=2) (by decide) hlen) fun p np=>q p _ (Same.new np) (.of ?_)
   rw [aaa,show ((2:Int))=((2:Nat):Int) from rfl,abC,qak,List.drop_succ_cons,<- qbD];unfold aaM;rw [if_pos e]
  walk_at "rd";refine iteD (fun e=>?_) fun n2=>⟨_,.inr hT,V.str z.1,aaS _ _,?_⟩
  ·refine rSlR.t hT (aaI (k:=1) (by decide) hlen) fun p np=>q p _ (Same.new np) (.of ?_)
   have ecut:cutV ((z.1::z.2).map V.str) (some 1) (some 2)=(z.2.take 1).map V.str:=by
    unfold cutV
    cases z.2 with
    | nil=>rfl
    | cons y r=>
     have e1:HT.sIx ((z.1::y::r).map V.str).length 0 (some 1)=1:=by
      rw [show ((1:Int))=((1:Nat):Int) from rfl,HT.sIx_nat,qa0,qad,qad];walk_at "o"
     have e2:HT.sIx ((z.1::y::r).map V.str).length ((z.1::y::r).map V.str).length (some 2)=2:=by
      rw [show ((2:Int))=((2:Nat):Int) from rfl,HT.sIx_nat,qa0,qad,qad];walk_at "o"
     rw [e1,e2];rfl
   rw [aaa,ecut];unfold aaM;rw [if_neg n1,if_pos e]
  walk_at "rd"
  by_cases hj:ada z.1
  ·rw [agz hj];refine iteT (rSlR.t hT (aaI (k:=1) (by decide) hlen) fun p np=>q p _ (Same.new np) (.of ?_));rw [aaa,qak,ad8];unfold aaM;have h3:z.1=("row" : Str)\/z.1=("marks" : Str)\/z.1=("over" : Str):=by
    rcases hj with h | h | h | h | h
    ·exact .inl h
    ·exact .inr (.inl h)
    ·exact absurd h n1
    ·exact absurd h n2
    ·exact .inr (.inr h)
   rw [if_neg n1,if_neg n2,if_pos h3]
  ·rw [akI hj];refine iteF fun p np=>q p _ (Same.new np) (.of ?_)
   rw [aaa];unfold aaM;rw [if_neg n1,if_neg n2,if_neg (fun h=>hj (by
    rcases h with h | h | h
    ·exact .inl h
    ·exact .inr (.inl h)
    ·exact .inr (.inr (.inr (.inr h)))))]
   rfl
theorem agO:FnScope ["jobs", "piece", "job", "figures"] ["jobs", "piece", "job", "figures"] (aaf abA):=fsc
abbrev ac2:List Str:=["jobs", "piece", "job", "figures"]
theorem vaU:VS ac2 abA "jobs" 0:=vq
theorem vaV:VS ac2 abA "piece" 1:=vq
theorem vaW:VS ac2 abA "job" 2:=vq
theorem vaX:VS ac2 abA "figures" 3:=vq
theorem agP(F:FunD K "is_clash" "is_clash" abA f fd)(T:Txt P w K mg C)(G_is_figure:FO P w K mg base 1 "is_figure" ["sign"] [] af8):FnOk P w K mg base CX0 2 f fd ["jobs", "piece", "job", "figures"] ai5:=by
 refine F.ok agO ?_ ?_
 ·rintro _ _ _ _ ⟨d,p,j,fg,ks,g,rfl,_⟩;rfl
 ·intro cdv A outer s H vs Q E hr h;have hu1:=hu_of hr;have hu:=hr.units;obtain ⟨a_AGAIN,m_AGAIN,M_AGAIN⟩:=T.x_AGAIN;refine ⟨_,QSs.out (aab (qs_if (QW.pt (adC (aao (q_in (K:=K) hu) (vi vaV) (vi vaU)) (acF (QW.pt (qw_or (aao (q_ne (K:=K) hu) (abH hu1 (vi vaU) (vi vaV)) (vi vaW)) (ag9 (aao (afa (K:=K) hu) (vi vaW) (adO m_AGAIN)))))))) (aae (aaz qe_bl)) aav)
   (aae (aaz (ak3 (vi vaX) (aiP (qe_cB (q_any (calm:=true)) T.b_any ak2 (qa_c (aca  (cok:CompOk ["jobs", "piece", "job", "figures"] (aaf abA).names _ ["sign"] 1 []) (an3 (vi vaV)) (fun _ _ _ _ _=>aal (n:=0) (show List.Nodup (["sign"]:List Str) by decide +kernel) rfl (Or.inl rfl)) (fun _ _ _ _ _=>abT) (fun _ _ _ _ _=>(aai G_is_figure (hm hr) (qa_c (qv 0) aac)))) aac))))))),?_⟩
  obtain ⟨d,p,j,fg,ks,g,rfl,hd,hp,h1,h2,q⟩:=h;walk_at "rd";have tail:(if fg=true then ad7 (Its p) 1 [] (gName 0) tYes (tCall af8 [] E0 (tCons (tVar 0) tNil)) [some (V.ref d),some (V.str p),some (V.str j),some (V.bl fg)] (fun x H1=>rAnyB true [x] H1 Q) H else Q (V.bl false) H):=by
   by_cases hf:fg=true
   ·rw [if_pos hf];refine compS [] rfl (fun D i ys H4=>ys=((p.cps.toList.take i).map figO).map V.bl/\Same H H4) (fun D nD=>⟨rfl,Same.new nD⟩) ?_ ?_
    ·rintro D i x ys H4 nD hi hx ⟨rfl,S⟩ hD hy;walk_at "rd";refine ⟨x,rfl,hD,?_,CW.put hi hy ⟨?_,S.put nD⟩⟩
     ·rw [qa0,qa0,qaf];exact aaq (by have:p.cps.size=p.length:=rfl;walk_at "o")
     ·rw [qaQ,hx]
      simp
    ·rintro D ys H4 nD ⟨rfl,S⟩ hD hy;walk_at "rd";refine ⟨_,hD,?_⟩;have e:((p.cps.toList.take p.cps.size).map figO).any id=false:=by
      rw [List.any_eq_false];intro b hb;obtain ⟨c,hc,rfl⟩:=qa8.mp hb;rw [h2 hf c (List.mem_of_mem_take hc)];decide
     rw [e];exact q H4 S
   ·rw [if_neg hf];exact q H (uah H)
  refine rInR.d (ual (k:=Sum.inr p) hd) ⟨_,rfl,?_⟩;rw [aaQ,qbh]
  by_cases hk:p∈ks
  ·obtain ⟨e1,e2⟩:=h1 hk;rw [if_pos hk];refine iteT ⟨V.str (g p),.inl ⟨_,Sum.inr p,.inl hd,rfl,by rw [aaQ,if_pos hk]⟩,?_⟩;walk_at "rd";rw [decide_eq_true e1];refine iteF (rInR.l (.inr (M_AGAIN _)) rfl rfl ⟨_,rfl,?_⟩);have e3:inV (.str j) [V.str "letter",V.str "mark",V.str "over"]=true:=by
    have:=adN j af3
    rw [decide_eq_true e2] at this;exact this
   rw [e3];exact iteF tail
  ·rw [if_neg hk];exact iteF tail
theorem sc_jobs_of:FnScope ["rules", "figures", "jobs", "rule", "piece"] ["rules"] (aaf abf):=fsc
abbrev acN:List Str:=["rules", "figures", "jobs", "rule", "piece"]
theorem vaY:VS acN abf "rules" 0:=vq
theorem vaZ:VS acN abf "figures" 1:=vq
theorem va0:VS acN abf "jobs" 2:=vq
theorem va1:VS acN abf "rule" 3:=vq
theorem va2:VS acN abf "piece" 4:=vq
theorem va3:LS abf "figures":=lq
theorem va4:LS abf "jobs":=lq
theorem va5:LS abf "rule":=lq
theorem va6:LS abf "piece":=lq
theorem ah5(F:FunD K "jobs_of" "jobs_of" abf f fd)(T:Txt P w K mg C)(G_has_rule:FO P w K mg base 1 "has_rule" ["rules", "word"] [] (spHas K))(G_pieces_told:FO P w K mg base 1 "pieces_told" ["rule"] [] (ai4 K))(G_is_clash:FO P w K mg base 2 "is_clash" ["jobs", "piece", "job", "figures"] [] ai5):FnOk P w K mg base CX0 3 f fd ["rules"] (ala K):=by
 refine F.ok sc_jobs_of ?_ ?_
 ·rintro _ _ _ _ ⟨a,ts,R,g,rfl,_⟩;rfl
 ·intro cdv A outer s H vs Q E hr h;have hu1:=hu_of hr;have hu:=hr.units;obtain ⟨a_JOBS,m_JOBS,M_JOBS⟩:=T.x_JOBS;refine ⟨_,QSs.out (aab (aam (n:=1) sc_jobs_of.nd rfl va3 (aai G_has_rule (hm hr) (qa_c (vi vaY) (qa_c aaA aac))))
   (aab (aam (n:=2) sc_jobs_of.nd rfl va4 act)
   (aab (aaW PassesOwn.never (aa1 (K:=K) (vi vaY)) (aal (n:=3) sc_jobs_of.nd rfl va5 (.inl rfl)) (aae (aaW PassesOwn.never (aeN (K:=K) (aai G_pieces_told (hm hr) (qa_c (vi va1) aac))) (aal (n:=4) sc_jobs_of.nd rfl va6 (.inl rfl)) (aab (qs_if (ab7 (K:=K) (aai G_is_clash (hm hr) (qa_c (vi va0) (qa_c (vi va2) (qa_c (aha M_JOBS (adO m_JOBS) (qe_ix (K:=K) (vi va1) aad)) (qa_c (vi vaZ) aac)))))) (aae adP) aav)
   (aae (aby hu1 (vi va0) (vi va2) (aha M_JOBS (adO m_JOBS) (qe_ix (K:=K) (vi va1) aad))))))))
   (aab (qs_if (ab7 (K:=K) (aai G_has_rule (hm hr) (qa_c (vi vaY) (qa_c aaA aac)))) (aae (aby hu1 (vi va0) aaA aaA)) aav)
   (aae (aaz (vi va0))))))),?_⟩
  obtain ⟨a,ts,R,g,rfl,hR,hl,hpl,hnc,hbl,q⟩:=h;walk_at "rd";refine ⟨a,ts,R, "figures",rfl,hR,hl,fun H1 S1=>?_⟩;generalize hasW R "figures"=fg at hnc;intro d nd;have nd0:H d=none:=S1.free nd;have S2:Same H (upd H1 d (.dK [])):=fun b o h=>aag (S1 b o h) nd
  refine ⟨⟨_,.of (S2 _ _ hR.top)⟩,forL (xs:=ts.map V.ref) (fun i σ H2=>∃ (u v:Option V),σ=[some (.ref a),some (.bl fg),some (.ref d),u,v]/\Same H H2/\H2 d=some (.dK (kvN (keysP (aaj (R.take i))) fun t=>.str (g t))))
   ⟨none,none,rfl,S2,by rw [aaa];rfl⟩ (by rintro i σ H2 _ ⟨_,_,_,S,_⟩;exact .of (S _ _ hR.top)) ?_ ?_⟩
  ·rintro i x σ H2 hx ⟨u,v,rfl,S,hd⟩;obtain ⟨t,ht,rfl⟩:=aaE hx;obtain ⟨z,hz,hrow⟩:=Paired.at hR.row ht;walk_at "rd";refine ⟨t,z,rfl,S _ _ hrow,fun p H3 S3 hp=>⟨p,rfl,⟨_,hp⟩,forT (xs:=(aaM z).map V.str) (fun j σ H4=>∃ (v:Option V),σ=[some (.ref a),some (.bl fg),some (.ref d),some (.ref t),v]/\SqT K H4 p ((aaM z).map V.str)/\Same H H4/\H4 d=some (.dK (kvN (keysP (aaj (R.take i)++((aaM z).take j).map fun p=>(p,jobD z.1))) fun t=>.str (g t))))
    ⟨v,rfl,hp,S.trans S3,by rw [qaU,List.map_nil,qah];exact S3 _ _ hd⟩ (by rintro j σ H4 _ ⟨_,_,h,_⟩;exact h) ?_ ?_⟩⟩
   ·rintro j x σ H4 hx4 ⟨v,rfl,hp4,S4,hd4⟩;obtain ⟨pc,hpc,rfl⟩:=aaE hx4;obtain ⟨e1,e2⟩:=aof hz hpc;obtain ⟨n1,n2,n3,n4⟩:=hnc _ _ _ e1;rw [e2] at n2;have hw:=abI (qab hpc);have hrow4:SqT K H4 t ((z.1::z.2).map V.str):=.of (S4 _ _ hrow);have hkl:(keysP (aaj (R.take i)++((aaM z).take j).map fun p=>(p,jobD z.1))).length<=10000:=by
     have h1:=aee (aaj (R.take i)++((aaM z).take j).map fun p=>(p,jobD z.1));have h2:=congrArg qb5 e2;rw [qaf] at h2;walk_at "o"
    walk_at "rd";refine ⟨_,.inr hrow4,V.str z.1,aaS _ _,Sum.inr z.1,rfl,V.str (jobD z.1),agz hw,d,pc,jobD z.1,fg,_,g,rfl,hd4,n4,fun hk=>⟨n1.symm,n2 ((acf _ _).mp hk)⟩,n3,fun H5 S5=>⟨false,rfl,iteF ⟨_,.inr (hrow4.same S5),V.str z.1,aaS _ _,Sum.inr z.1,rfl,V.str (jobD z.1),agz hw,_,uab (k:=Sum.inr pc) (S5 _ _ hd4) (by rw [abO];exact aaq (by walk_at "o")),(hp4.same S5).dput (S5 _ _ hd4),(S4.trans S5).put nd0,?_⟩⟩⟩;rw [aaa,aap hpc,qa4,<- qas];rw [show ([pc].map fun p=>(p,jobD z.1))=[(pc,jobD z.1)] from rfl,ahR];unfold dd
    by_cases hin:pc∈keysP (aaj (R.take i)++((aaM z).take j).map fun p=>(p,jobD z.1))
    ·rw [if_pos hin,aeb _ hin];refine congrArg (fun x=>some (HO.dK x)) (aaF fun t _=>?_)
     by_cases e:t=pc
     ·rw [if_pos e,e,n1]
     ·rw [if_neg e]
    ·rw [if_neg hin,acJ _ hin];refine congrArg (fun x=>some (HO.dK x)) (aaF fun t _=>?_)
     by_cases e:t=pc
     ·rw [if_pos e,e,n1]
     ·rw [if_neg e]
   ·rintro σ H4 ⟨v,rfl,hp4,S4,hd4⟩;walk_at "rd";refine ⟨S4,?_⟩;rw [aeP hz];rw [qa0,qaj] at hd4;exact hd4
  ·rintro σ H2 ⟨u,v,rfl,S,hd⟩;rw [qa0,hR.len,qaj] at hd;walk_at "rd";refine ⟨a,ts,R, "blanks",rfl,hR.same S,hl,fun H3 S3=>⟨hasW R "blanks",rfl,?_⟩⟩;have hd3:=S3 _ _ hd;have hkn:(" " : Str)∉keysP (aaj R):=fun h=>hbl ((acf _ _).mp h)
   have hkl:=aee (aaj R);have hg:∀ t∈keysP (aaj R),V.str (g t)=jobG g t:=fun t ht=>by
    unfold jobG;rw [if_neg (fun e=>hkn (by rw [<- e];exact ht))]
   by_cases hb:hasW R "blanks"=true
   ·rw [hb];refine iteT ⟨_,uab (k:=Sum.inr (" " : Str)) hd3 (by rw [abO];exact aaq (by walk_at "o")),q d _ nd0 ((S.trans S3).put nd0) ?_⟩;rw [aaa,acJ _ hkn];unfold aa2;rw [if_pos hb];refine congrArg (fun x=>some (HO.dK x)) (aaF fun t ht=>?_);unfold jobG
    by_cases e:t=(" " : Str)
    ·simp only [if_pos e]
    ·simp only [if_neg e]
   ·rw [Bool.not_eq_true] at hb;rw [hb];refine iteF (q d _ nd0 (S.trans S3) ?_);unfold aa2;rw [hb,if_neg qae,qah,hd3];exact congrArg (fun x=>some (HO.dK x)) (aaF hg)
theorem sc_misused:FnScope ["rule", "jobs", "first"] ["rule", "jobs"] (aaf abE):=fsc
abbrev agk:List Str:=["rule", "jobs", "first"]
theorem va7:VS agk abE "rule" 0:=vq
theorem va8:VS agk abE "first" 2:=vq
theorem va9:LS abE "first":=lq
theorem ah6(F:FunD K "misused" "misused" abE f fd)(T:Txt P w K mg C):FnOk P w K mg base CX0 1 f fd ["rule", "jobs"] (ale K):=by
 refine F.ok sc_misused ?_ ?_
 ·rintro _ _ _ _ ⟨t,d,z,ks,g,rfl,_⟩;rfl
 ·intro cdv A outer s H vs Q E hr h;have hu1:=hu_of hr;have hu:=hr.units;refine ⟨_,QSs.out (aab (qs_if (aao (q_eq (K:=K) hu) (qe_ix (K:=K) (vi va7) aad) aaA) (aae (aaz (aca  (cok:CompOk ["rule", "jobs", "first"] (aaf abE).names _ ["piece", "jobs"] 1 [1]) (aeN (K:=K) (aaD (K:=K) (vi va7) (aaC aad) (aaC aad))) (fun _ _ _ _ _=>aal (n:=0) (show List.Nodup (["piece", "jobs"]:List Str) by decide +kernel) rfl (Or.inl rfl)) (fun _ _ _ _ _=>(acV (aao (q_ne (K:=K) hu) (adR hu1 (qv 1) (qv 0)) aaA))) (fun _ _ _ _ _=>(qv 0))))) aav)
   (aab (qs_if (aao (q_eq (K:=K) hu) (qe_ix (K:=K) (vi va7) aad) aaA) (aab (ace (n:=2) sc_misused.nd rfl va9 (cok:CompOk ["rule", "jobs", "first"] (aaf abE).names _ ["piece", "jobs"] 1 [1]) (aeN (K:=K) (aaD (K:=K) (vi va7) (aaC aad) (aaC aad))) (fun _ _ _ _ _=>aal (n:=0) (show List.Nodup (["piece", "jobs"]:List Str) by decide +kernel) rfl (Or.inl rfl)) (fun _ _ _ _ _=>(acV (aao (q_ne (K:=K) hu) (adR hu1 (qv 1) (qv 0)) aaA))) (fun _ _ _ _ _=>(qv 0)))
   (aae (aaz (qe_op (q_add (K:=K)) (vi va8) (aca  (cok:CompOk ["rule", "jobs", "first"] (aaf abE).names _ ["piece", "jobs"] 1 [1]) (aeN (K:=K) (aaD (K:=K) (vi va7) (aaC aad) abv)) (fun _ _ _ _ _=>aal (n:=0) (show List.Nodup (["piece", "jobs"]:List Str) by decide +kernel) rfl (Or.inl rfl)) (fun _ _ _ _ _=>(acV (aao (afa (K:=K) hu) (adR hu1 (qv 1) (qv 0)) (abd (qa_c aaA (qa_c aaA aac)))))) (fun _ _ _ _ _=>(qv 0))))))) aav)
   (aae (aaz (aa5 aac))))),?_⟩
  obtain ⟨t,d,z,ks,g,rfl,ht,hd,us,hl,q⟩:=h;have hT:SqT K H t ((z.1::z.2).map V.str):=.of ht;walk_at "rd";refine ⟨_,.inr hT,V.str z.1,aaS _ _,?_⟩;walk_at "rd"
  by_cases h1:z.1=("great" : Str)
  ·rw [decide_eq_true h1];have hlen:1<=((z.1::z.2).map V.str).length:=by rw [qa0,qad];walk_at "o"
   refine iteT (rSlR.t hT (aaI (k:=1) (by decide) hlen) fun s ns=>?_);have ecut:cutV ((z.1::z.2).map V.str) (some 1) (some 2)=(z.2.take 1).map V.str:=by
    rw [show cutV ((z.1::z.2).map V.str) (some 1) (some 2)=_ from afh ((z.1::z.2).map V.str) (i:=1) (j:=2) (by decide),qak,List.drop_succ_cons,List.drop_zero,<- qbx]
   rw [ecut];have S1:Same H (upd H s (.tup ((z.2.take 1).map V.str))):=Same.new ns;have hs:upd H s (.tup ((z.2.take 1).map V.str)) s=some (.tup ((z.2.take 1).map V.str)):=aaa;generalize upd H s (.tup ((z.2.take 1).map V.str))=H1 at S1 hs;refine ⟨s,rfl,⟨_,.of hs⟩,compT (xs:=(z.2.take 1).map V.str) [some (.ref d)] rfl (fun D i ys H2=>ys=[]/\Same H1 H2) (fun D nD=>⟨rfl,Same.new nD⟩) (by rintro D i ys H2 nD _ ⟨_,S⟩;exact .of (S _ _ hs)) ?_ ?_⟩
   ·rintro D i y ys H2 nD hi hy ⟨rfl,S⟩ hD hyl;obtain ⟨p,hp,rfl⟩:=aaE hy;obtain ⟨m1,m2⟩:=us.gr h1 p (qab hp);have hd2:=S _ _ (S1 _ _ hd);walk_at "rd";refine ⟨.inl ⟨_,.inl hd2⟩,_,ual (k:=Sum.inr p) hd2,?_⟩;rw [aaQ,if_pos m1,Option.getD_some,m2];refine ⟨_,rfl,?_⟩;rw [show ∀ v:Str,(!decide (v=v))=false by intro v;simp];exact iteF ⟨hD,hi,qar _,⟨_,rfl⟩,rfl,S⟩
   ·rintro D ys H2 nD ⟨rfl,S⟩ hD hyl;exact q D H2 (S1.free nD) (S1.trans S) hD
  rw [decide_eq_false h1];refine iteF ⟨_,.inr hT,V.str z.1,aaS _ _,?_⟩;walk_at "rd"
  by_cases h2:z.1=("as" : Str)
  ·rw [decide_eq_true h2];have hlen:1<=((z.1::z.2).map V.str).length:=by rw [qa0,qad];walk_at "o"
   refine iteT (rSlR.t hT (aaI (k:=2) (by decide) hlen) fun s ns=>?_);have ecut:cutV ((z.1::z.2).map V.str) (some 2) (some 3)=((z.2.drop 1).take 1).map V.str:=by
    rw [show cutV ((z.1::z.2).map V.str) (some 2) (some 3)=_ from afh ((z.1::z.2).map V.str) (i:=2) (j:=3) (by decide),qak,List.drop_succ_cons,<- qbD,<- qbx]
   rw [ecut];have S1:Same H (upd H s (.tup (((z.2.drop 1).take 1).map V.str))):=Same.new ns;have hs:upd H s (.tup (((z.2.drop 1).take 1).map V.str)) s=some (.tup (((z.2.drop 1).take 1).map V.str)):=aaa;generalize upd H s (.tup (((z.2.drop 1).take 1).map V.str))=H1 at S1 hs;refine ⟨s,rfl,⟨_,.of hs⟩,compT (xs:=((z.2.drop 1).take 1).map V.str) [some (.ref d)] rfl (fun D i ys H2=>ys=[]/\Same H1 H2) (fun D nD=>⟨rfl,Same.new nD⟩) (by rintro D i ys H2 nD _ ⟨_,S⟩;exact .of (S _ _ hs)) ?_ ?_⟩
   ·rintro D i y ys H2 nD hi hy ⟨rfl,S⟩ hD hyl;obtain ⟨p,hp,rfl⟩:=aaE hy;obtain ⟨m1,m2⟩:=us.a1 h2 p (qab hp);have hd2:=S _ _ (S1 _ _ hd);walk_at "rd";refine ⟨.inl ⟨_,.inl hd2⟩,_,ual (k:=Sum.inr p) hd2,?_⟩;rw [aaQ,if_pos m1,Option.getD_some,m2];refine ⟨_,rfl,?_⟩;rw [show ∀ v:Str,(!decide (v=v))=false by intro v;simp];exact iteF ⟨hD,hi,qar _,⟨_,rfl⟩,rfl,S⟩
   rintro D ys H2 nD ⟨rfl,S⟩ hD hyl;have S2:=S1.trans S;have hT2:SqT K H2 t ((z.1::z.2).map V.str):=.of (S2 _ _ ht);refine rSlR.t hT2 (aaI (k:=3) (by decide) hlen) fun s2 ns2=>?_
   have ecut2:cutV ((z.1::z.2).map V.str) (some 3) none=(z.2.drop 2).map V.str:=by
    rw [show cutV ((z.1::z.2).map V.str) (some 3) none=_ from abC ((z.1::z.2).map V.str) 3,qak,List.drop_succ_cons,<- qbD]
   rw [ecut2];have S3:Same H2 (upd H2 s2 (.tup ((z.2.drop 2).map V.str))):=Same.new ns2;have hs2:upd H2 s2 (.tup ((z.2.drop 2).map V.str)) s2=some (.tup ((z.2.drop 2).map V.str)):=aaa;generalize upd H2 s2 (.tup ((z.2.drop 2).map V.str))=H3 at S3 hs2;refine ⟨s2,rfl,⟨_,.of hs2⟩,compT (xs:=(z.2.drop 2).map V.str) [some (.ref d)] rfl (fun D i ys H4=>ys=[]/\Same H3 H4) (fun D nD=>⟨rfl,Same.new nD⟩) (by rintro D i ys H4 nD _ ⟨_,S⟩;exact .of (S _ _ hs2)) ?_ ?_⟩
   ·rintro D2 i y ys H4 nD2 hi hy ⟨rfl,S4⟩ hD2 hyl2;obtain ⟨p,hp,rfl⟩:=aaE hy;obtain ⟨m1,m2⟩:=us.a2 h2 p (qab hp);have hd4:=S4 _ _ (S3 _ _ (S2 _ _ hd));walk_at "rd";refine ⟨.inl ⟨_,.inl hd4⟩,_,ual (k:=Sum.inr p) hd4,?_⟩;rw [aaQ,if_pos m1,Option.getD_some];refine ⟨by decide,fun v nv=>?_⟩;have fin:inV (g p) [V.str (Str.ofString "letter"),V.str (Str.ofString "mark")]=true/\flatV (g p)=true:=by
     rcases m2 with m2 | m2 <;> rw [m2] <;> exact ⟨by decide +kernel,rfl⟩
    refine rInR.l (.inr (.of aaa)) fin.2 rfl ?_;rw [fin.1,Bool.true_xor];exact ⟨_,rfl,iteF ⟨aag hD2 nv,hi,qar _,⟨_,rfl⟩,rfl,S4.trans (Same.new nv)⟩⟩
   rintro D2 ys H4 nD2 ⟨rfl,S4⟩ hD2 hyl2;have hD4:=S4 _ _ (S3 _ _ hD);refine rAddR.l hD4 hD2 (by decide) fun l nl=>?_
   exact q l _ ((S2.trans (S3.trans S4)).free nl) ((S2.trans (S3.trans S4)).trans (Same.new nl)) aaa
  rw [decide_eq_false h2];exact iteF fun p np=>q p _ np (Same.new np) aaa
theorem sc_check_letters:FnScope ["rules", "jobs", "rule", "wrong"] ["rules", "jobs"] (aaf aaH):=fsc
abbrev abG:List Str:=["rules", "jobs", "rule", "wrong"]
theorem vba:VS abG aaH "rules" 0:=vq
theorem vbb:VS abG aaH "jobs" 1:=vq
theorem vbc:VS abG aaH "rule" 2:=vq
theorem vbd:VS abG aaH "wrong" 3:=vq
theorem vbe:LS aaH "rule":=lq
theorem vbf:LS aaH "wrong":=lq
theorem adG(F:FunD K "check_letters" "check_letters" aaH f fd)(T:Txt P w K mg C)(G_misused:FO P w K mg base 1 "misused" ["rule", "jobs"] [] (ale K)):FnOk P w K mg base CX0 2 f fd ["rules", "jobs"] (ahj K):=by
 refine F.ok sc_check_letters ?_ ?_
 ·rintro _ _ _ _ ⟨a,d,ts,R,ks,g,rfl,_⟩;rfl
 ·intro cdv A outer s H vs Q E hr h;have hu1:=hu_of hr;have hu:=hr.units;refine ⟨_,QSs.out (aae (aaW PassesOwn.never (aa1 (K:=K) (vi vba)) (aal (n:=2) sc_check_letters.nd rfl vbe (.inl rfl)) (aab (aam (n:=3) sc_check_letters.nd rfl vbf (aai G_misused (hm hr) (qa_c (vi vbc) (qa_c (vi vbb) aac))))
   (aae (qs_if (ab7 (K:=K) (vi vbd)) (aae adP) aav))))),?_⟩
  obtain ⟨a,d,ts,R,ks,g,rfl,hR,hd,hw,q⟩:=h;walk_at "rd";refine ⟨⟨_,.of hR.top⟩,forL (xs:=ts.map V.ref) (fun i σ H2=>∃ (u v:Option V),σ=[some (.ref a),some (.ref d),u,v]/\Same H H2) ⟨none,none,rfl,uah H⟩ (by rintro i σ H2 _ ⟨_,_,_,S⟩;exact .of (S _ _ hR.top)) ?_ ?_⟩
  ·rintro i x σ H2 hx ⟨u,v,rfl,S⟩;obtain ⟨t,ht,rfl⟩:=aaE hx;obtain ⟨z,hz,hrow⟩:=Paired.at hR.row ht;obtain ⟨n1,n2⟩:=hw z (qab hz);walk_at "rd";refine ⟨t,d,z,ks,g,rfl,S _ _ hrow,S _ _ hd,n1,n2,fun p H3 np S3 hp=>⟨_,aiS hp,iteF (S.trans S3)⟩⟩
  ·rintro σ H2 ⟨u,v,rfl,S⟩;exact q H2 S
theorem ah7:FnScope ["rules", "word"] ["rules", "word"] (aaf acM):=fsc
abbrev ajF:List Str:=["rules", "word"]
theorem vbg:VS ajF acM "rules" 0:=vq
theorem ah8(F:FunD K "line_of" "line_of" acM f fd)(T:Txt P w K mg C)(G_lined_up:FO P w K mg base 3 "lined_up" ["rows"] [] ai2):FnOk P w K mg base CX0 4 f fd ["rules", "word"] (alb K):=by
 refine F.ok ah7 ?_ ?_
 ·rintro _ _ _ _ ⟨a,ts,R,w,rank,rfl,_⟩;rfl
 ·intro cdv A outer s H vs Q E hr h;have hu1:=hu_of hr;have hu:=hr.units;refine ⟨_,QSs.out (aae (aaz (aai G_lined_up (hm hr) (qa_c (aca  (cok:CompOk ["rules", "word"] (aaf acM).names _ ["rule", "word"] 1 [1]) (aa1 (K:=K) (vi vbg)) (fun _ _ _ _ _=>aal (n:=0) (show List.Nodup (["rule", "word"]:List Str) by decide +kernel) rfl (Or.inl rfl)) (fun _ _ _ _ _=>(acV (aao (q_eq (K:=K) hu) (qe_ix (K:=K) (qv 0) aad) (qv 1)))) (fun _ _ _ _ _=>(qe_cT (adF (K:=K) (calm:=true)) T.b_list acs (qa_c (aaD (K:=K) (qv 0) (aaC aad) abv) aac)))) aac)))),?_⟩;obtain ⟨a,ts,R,w,rank,rfl,hR,hl,hfl,hrank,q⟩:=h;walk_at "rd";refine ⟨⟨_,.of hR.top⟩,compL (xs:=ts.map V.ref) [some (.str w)] rfl (fun D i ys H4=>∃ qs:List Addr,ys=qs.map V.ref/\RowsAt H H4 D qs (rowsW (R.take i) w)) (fun D nD=>⟨[],rfl,⟨⟨aaa,.nil⟩,by simp,fun r hr=>by rw [qa7.mp hr];exact nD,Same.new nD⟩⟩)
   (by rintro D i ys H4 nD _ ⟨qs,_,RA⟩;exact .of (RA.same _ _ hR.top)) ?_ ?_⟩
  ·rintro D i x ys H4 nD hi hx ⟨qs,rfl,RA⟩ hD hy;obtain ⟨t,ht,rfl⟩:=aaE hx;obtain ⟨z,hz,hrow⟩:=Paired.at hR.row ht;have hi2:i<R.length:=(qa5.mp hz).1;have hrow4:SqT K H4 t ((z.1::z.2).map V.str):=.of (RA.same _ _ hrow);have hlen:1<=((z.1::z.2).map V.str).length:=by rw [qa0,qad];walk_at "o"
   walk_at "rd";refine ⟨_,.inr hrow4,V.str z.1,aaS _ _,?_⟩;walk_at "rd";refine iteD (fun e=>rSlR.t hrow4 (aaI (k:=1) (by decide) hlen) fun p np=>?_) fun e=>⟨hD,uaa hi hy ⟨qs,rfl,?_⟩⟩
   ·rw [qak,ad8];walk_at "rd";refine rListR.l (.inr (.of aaa)) fun p2 np2=>⟨aag (aag hD np) np2,?_,CW.put hi hy ⟨qs++[p2],by rw [qa4];rfl,?_⟩⟩
    ·rw [qa0] at hy;rw [qa0];exact aaq (by walk_at "o")
    ·rw [adq hz,if_pos e];have n2:H4 p2=none:=(Same.new np).free np2;exact RA.grow (fun b o h=>aag (aag h np) np2) n2 aaa
   ·rw [adq hz,if_neg e];exact RA
  rintro D ys H4 nD ⟨qs,rfl,RA⟩ hD hy;rw [qa0,hR.len,qaj] at RA;refine ⟨D,qs,rowsW R w,rank,rfl,RA.rows,hfl,hrank,fun l line H5 nl S5 hl5 run cov=>?_⟩;exact q l line H5 (RA.same.free nl) (RA.same.trans S5) hl5 run cov
theorem sc_forms_of:FnScope ["rules", "forms", "rule"] ["rules"] (aaf abB):=fsc
abbrev adv:List Str:=["rules", "forms", "rule"]
theorem vbh:VS adv abB "rules" 0:=vq
theorem vbi:VS adv abB "forms" 1:=vq
theorem vbj:VS adv abB "rule" 2:=vq
theorem vbk:LS abB "forms":=lq
theorem vbl:LS abB "rule":=lq
theorem agQ(F:FunD K "forms_of" "forms_of" abB f fd)(T:Txt P w K mg C):FnOk P w K mg base CX0 1 f fd ["rules"] (ahi K):=by
 refine F.ok sc_forms_of ?_ ?_
 ·rintro _ _ _ _ ⟨a,ts,R,rfl,_⟩;rfl
 ·intro cdv A outer s H vs Q E hr h;have hu1:=hu_of hr;have hu:=hr.units;refine ⟨_,QSs.out (aab (aam (n:=1) sc_forms_of.nd rfl vbk act)
   (aab (aaW PassesOwn.never (aa1 (K:=K) (vi vbh)) (aal (n:=2) sc_forms_of.nd rfl vbl (.inl rfl)) (aae (qs_if (aao (q_eq (K:=K) hu) (qe_ix (K:=K) (vi vbj) aad) aaA) (aae (aa0 (qe_mB (K:=K) qal PySem.F.slot_list_extend PySem.F.type_list_extend (ai8 (K:=K)) (akz (vi vbi) (qe_ix (K:=K) (vi vbj) aad) (aa5 aac)) (qa_c (aaD (K:=K) (vi vbj) (aaC aad) abv) aac)))) aav)))
   (aae (aaz (vi vbi))))),?_⟩
  obtain ⟨a,ts,R,rfl,hR,hg,hl,hf,q⟩:=h;walk_at "rd";intro d nd;refine ⟨⟨_,.of (aag hR.top nd)⟩,forL (xs:=ts.map V.ref) (fun i σ H2=>∃ (u:Option V) (ad:Str->Addr),σ=[some (.ref a),some (.ref d),u]/\Same H H2/\H2 d=some (.dK (kvN (aar (R.take i)) fun y=>.ref (ad y)))/\DL (upd H d (.dK [])) H2 (aar (R.take i)) ad (aak (R.take i))) ⟨none,fun _=>d,rfl,Same.new nd,aaa,⟨by simp [aar,aaK,dds],by simp [aar,aaK,dds],by simp [aar,aaK,dds]⟩⟩ (by rintro i σ H2 _ ⟨_,_,_,S,_⟩;exact .of (S _ _ hR.top)) ?_ ?_⟩
  ·rintro i x σ H2 hx ⟨u,ad,rfl,S,hd,dl⟩;obtain ⟨t,ht,rfl⟩:=aaE hx;obtain ⟨z,hz,hrow⟩:=Paired.at hR.row ht;have hT:SqT K H2 t ((z.1::z.2).map V.str):=.of (S _ _ hrow);walk_at "rd";refine ⟨_,.inr hT,V.str z.1,aaS _ _,?_⟩;walk_at "rd"
   by_cases hz1:z.1=("great" : Str)
   ·rw [decide_eq_true hz1];refine iteT ?_;obtain ⟨w,ps⟩:=z;obtain rfl:w=("great" : Str):=hz1;obtain ⟨y,fs,rfl⟩:∃ y fs,ps=y::fs:=by
     cases ps with
     | nil=>exact absurd rfl (hg _ (qab hz) rfl)
     | cons y fs=>exact ⟨y,fs,rfl⟩
    have etk:R.take (i+1)=R.take i++[(("great" : Str),y::fs)]:=aap hz;have hfl:(aak (R.take i) y).length+fs.length<=10000:=by
     have:=hf (i+1) y
     rw [etk,abZ,if_pos rfl,qa1] at this;exact this
    have hkl:(kvN (aar (R.take i)) fun y=>V.ref (ad y)).length<=1000:=by
     rw [abO];unfold aar;have h1:=acD ((aaK (R.take i)).map (·.1)) [];have h2:(aaK (R.take i)).length<=(R.take i).length:=List.length_filterMap_le _ _;rw [qa0,qaG] at h1;rw [qaf] at h2;walk_at "o"
    have hat:atI (((("great" : Str),y::fs).1::(("great" : Str),y::fs).2).map V.str) 1=some (V.str y):=abr (j:=1) rfl;have hcut:cutV (((("great" : Str),y::fs).1::(("great" : Str),y::fs).2).map V.str) (some 2) none=fs.map V.str:=abC _ 2;refine ⟨.inl ⟨_,.inl hd⟩,_,.inr hT,V.str y,hat,fun p np=>⟨_,aag hd np,qbu hkl (by decide),Sum.inr y,rfl,fun v hv=>?_,fun hn=>?_⟩⟩
    ·rw [aaQ] at hv
     by_cases hy:y∈aar (R.take i)
     ·rw [if_pos hy] at hv;cases hv;have hrowy:=dl.row y hy;have ndy:ad y≠d:=fun e=>by have:=dl.new y hy;rw [e,aaa] at this;cases this
      have nHy:H (ad y)=none:=by have:=dl.new y hy;rw [aah ndy] at this;exact this
      have T1:Same H2 (upd H2 p (.lst [])):=Same.new np;generalize upd H2 p (.lst [])=H3 at T1;refine ⟨tyL (T1 _ _ hrowy),rSlR.t (hT.same T1) (aaI (k:=2) (by decide) (by simp)) fun s ns=>?_⟩;rw [hcut];have T2:Same H3 (upd H3 s (.tup (fs.map V.str))):=Same.new ns;have hs:upd H3 s (.tup (fs.map V.str)) s=some (.tup (fs.map V.str)):=aaa;generalize upd H3 s (.tup (fs.map V.str))=H4 at T2 hs;have T:=T1.trans T2;refine ⟨ad y,s,_,_,rfl,rfl,T _ _ hrowy,.of hs,by rw [qa0,qa0];exact aax (by walk_at "o"),(S.trans T).put nHy,ad,?_,?_⟩
      ·rw [aah ndy.symm,T _ _ hd,etk,acw];unfold dd;rw [if_pos hy]
      ·rw [etk,acw];unfold dd;rw [if_pos hy,<- qa4];refine ((dl.same T).app hy (aak (R.take i) y++fs)).congr fun x _=>?_
       rw [abZ]
       by_cases hxy:x=y
       ·subst hxy;simp
       ·simp [hxy]
     ·rw [if_neg hy] at hv;cases hv
    ·have hy:y∉aar (R.take i):=fun hy=>by rw [aaQ,if_pos hy] at hn;cases hn
     have ndp:d≠p:=fun e=>by rw [<- e,hd] at np;cases np
     have n0:upd H d (.dK []) p=none:=by rw [aah ndp.symm];exact S.free np
     have dl2:=dl.more hy np n0;have dl3:=dl2.put (b:=d) (o:=.dK (kvN (aar (R.take i)++[y]) fun t=>if t=y then V.ref p else V.ref (ad t))) (u:=.dK []) aaa;rw [acJ (V.ref p) hy];have hp3:upd (upd H2 p (.lst [])) d (.dK (kvN (aar (R.take i)++[y]) fun t=>if t=y then V.ref p else V.ref (ad t))) p=some (.lst []):=by rw [aah ndp.symm,aaa]
     have hd3:upd (upd H2 p (.lst [])) d (.dK (kvN (aar (R.take i)++[y]) fun t=>if t=y then V.ref p else V.ref (ad t))) d=some (.dK (kvN (aar (R.take i)++[y]) fun t=>if t=y then V.ref p else V.ref (ad t))):=aaa;have S3:Same H (upd (upd H2 p (.lst [])) d (.dK (kvN (aar (R.take i)++[y]) fun t=>if t=y then V.ref p else V.ref (ad t)))):=(S.trans (Same.new np)).put nd;generalize upd (upd H2 p (.lst [])) d (.dK (kvN (aar (R.take i)++[y]) fun t=>if t=y then V.ref p else V.ref (ad t)))=H3 at dl3 hp3 hd3 S3;have hT3:SqT K H3 t (((("great" : Str),y::fs).1::(("great" : Str),y::fs).2).map V.str):=.of (S3 _ _ hrow);refine ⟨tyL hp3,rSlR.t hT3 (aaI (k:=2) (by decide) (by simp)) fun s ns=>?_⟩;rw [hcut];have T2:Same H3 (upd H3 s (.tup (fs.map V.str))):=Same.new ns;have hs:upd H3 s (.tup (fs.map V.str)) s=some (.tup (fs.map V.str)):=aaa;generalize upd H3 s (.tup (fs.map V.str))=H4 at T2 hs;refine ⟨p,s,_,_,rfl,rfl,T2 _ _ hp3,.of hs,by rw [qa0];exact aax (by simp;walk_at "o"),(S3.trans T2).put (S.free np),fun t=>if t=y then p else ad t,?_,?_⟩
     ·rw [aah ndp,T2 _ _ hd3,etk,acw];unfold dd;rw [if_neg hy];refine congrArg (fun z=>some (HO.dK z)) (aaF fun x _=>?_);show (if x=y then V.ref p else V.ref (ad x))=V.ref (if x=y then p else ad x)
      by_cases hxy:x=y
      ·rw [if_pos hxy,if_pos hxy]
      ·rw [if_neg hxy,if_neg hxy]
     ·rw [etk,acw];unfold dd;rw [if_neg hy,List.nil_append]
      have:=((dl3.same T2).app (z:=y) (by simp) fs).congr (G:=aak (R.take i++[(("great" : Str),y::fs)])) fun x _=>by
       rw [abZ]
       by_cases hxy:x=y
       ·subst hxy;have e0:aak (R.take i) x=[]:=by
         unfold aak;rw [qbs.mpr fun e he=>?_]
         ·rfl
         ·intro h;have h:e.1=x:=by simpa using h
          refine hy ?_;unfold aar;rw [abP];exact .inr (qa8.mpr ⟨e,he,h⟩)
        simp [e0]
       ·simp [hxy]
      rw [if_pos rfl] at this;exact this
   ·rw [decide_eq_false hz1];refine iteF ⟨S,ad,?_,?_⟩
    ·rw [show aar (R.take (i+1))=aar (R.take i) by unfold aar;rw [acv hz,acg hz1,qah]];exact hd
    ·rw [show aar (R.take (i+1))=aar (R.take i) by unfold aar;rw [acv hz,acg hz1,qah]];refine dl.congr fun x _=>?_
     unfold aak;rw [acv hz,acg hz1,qah]
  ·rintro σ H2 ⟨u,ad,rfl,S,hd,dl⟩;walk_at "rd";rw [qa0,hR.len,qaj] at hd dl;exact q d ad H2 nd S hd (dl.old (Same.new nd))
theorem sc_steps_of:FnScope ["rules", "letters", "marks", "steps", "place", "letter", "mark", "forms", "case", "form", "rule"] ["rules", "letters", "marks"] (aaf aas):=fsc
abbrev aa9:List Str:=["rules", "letters", "marks", "steps", "place", "letter", "mark", "forms", "case", "form", "rule"]
theorem vbm:VS aa9 aas "rules" 0:=vq
theorem vbn:VS aa9 aas "letters" 1:=vq
theorem vbo:VS aa9 aas "marks" 2:=vq
theorem vbp:VS aa9 aas "steps" 3:=vq
theorem vbq:VS aa9 aas "place" 4:=vq
theorem vbr:VS aa9 aas "letter" 5:=vq
theorem vbs:VS aa9 aas "mark" 6:=vq
theorem vbt:VS aa9 aas "forms" 7:=vq
theorem vbu:VS aa9 aas "case" 8:=vq
theorem vbv:VS aa9 aas "form" 9:=vq
theorem vbw:VS aa9 aas "rule" 10:=vq
theorem vbx:LS aas "steps":=lq
theorem vby:LS aas "place":=lq
theorem vbz:LS aas "letter":=lq
theorem vbA:LS aas "mark":=lq
theorem vbB:LS aas "forms":=lq
theorem vbC:LS aas "case":=lq
theorem vbD:LS aas "form":=lq
theorem vbE:LS aas "rule":=lq
theorem agR(F:FunD K "steps_of" "steps_of" aas f fd)(T:Txt P w K mg C)(G_forms_of:FO P w K mg base 1 "forms_of" ["rules"] [] (ahi K)):FnOk P w K mg base CX0 2 f fd ["rules", "letters", "marks"] (ahk K):=by
 refine F.ok sc_steps_of ?_ ?_
 ·rintro _ _ _ _ ⟨a,b,c,ts,R,L,M,F,rfl,_⟩;rfl
 ·intro cdv A outer s H vs Q E hr h;have hu1:=hu_of hr;have hu:=hr.units;refine ⟨_,QSs.out (aab (aam (n:=3) sc_steps_of.nd rfl vbx act)
   (aab (aaW PassesOwn.never (adp T.b_enumerate (qa_c (vi vbn) aac)) (adE (K:=K) (n:=2) (aa4 ((aal (n:=4) sc_steps_of.nd rfl vby (.inl rfl))) (aa4 ((aal (n:=5) sc_steps_of.nd rfl vbz (.inl rfl))) acG))) (aae (aby hu1 (vi vbp) (vi vbr) (abd (qa_c (abd (qa_c (ae9 T.g_LETTER) (qa_c (vi vbq) (qa_c aad aac)))) aac)))))
   (aab (aaW PassesOwn.never (adp T.b_enumerate (qa_c (vi vbo) aac)) (adE (K:=K) (n:=2) (aa4 ((aal (n:=4) sc_steps_of.nd rfl vby (.inl rfl))) (aa4 ((aal (n:=6) sc_steps_of.nd rfl vbA (.inl rfl))) acG))) (aae (aby hu1 (vi vbp) (vi vbs) (abd (qa_c (abd (qa_c (ae9 T.g_MARK) (qa_c (vi vbq) (qa_c aad aac)))) aac)))))
   (aab (aam (n:=7) sc_steps_of.nd rfl vbB (aai G_forms_of (hm hr) (qa_c (vi vbm) aac)))
   (aab (agx PassesOwn.never (vi vbt) (aal (n:=5) sc_steps_of.nd rfl vbz (.inl rfl)) (aae (aaW PassesOwn.never (akL T.b_enumerate (qa_c (abH hu1 (vi vbt) (vi vbr)) aac)) (adE (K:=K) (n:=2) (aa4 ((aal (n:=8) sc_steps_of.nd rfl vbC (.inl rfl))) (aa4 ((aal (n:=9) sc_steps_of.nd rfl vbD (.inl rfl))) acG))) (aae (aby hu1 (vi vbp) (vi vbv) (abd (qa_c (abd (qa_c (ae9 T.g_LETTER) (qa_c (qe_ix (K:=K) (qe_ix (K:=K) (abH hu1 (vi vbp) (vi vbr)) aad) aad) (qa_c (vi vbu) aac)))) aac)))))))
   (aab (aaW PassesOwn.never (aa1 (K:=K) (vi vbm)) (aal (n:=10) sc_steps_of.nd rfl vbE (.inl rfl)) (aae (qs_if (aao (q_eq (K:=K) hu) (qe_ix (K:=K) (vi vbw) aad) aaA) (aae (aby hu1 (vi vbp) (qe_ix (K:=K) (vi vbw) aad) (qe_cT (afb (K:=K)) T.b_tuple adM (qa_c (aca  (cok:CompOk ["rules", "letters", "marks", "steps", "place", "letter", "mark", "forms", "case", "form", "rule"] (aaf aas).names _ ["part", "steps"] 1 [3]) (aeN (K:=K) (aaD (K:=K) (vi vbw) (aaC aad) abv)) (fun _ _ _ _ _=>aal (n:=0) (show List.Nodup (["part", "steps"]:List Str) by decide +kernel) rfl (Or.inl rfl)) (fun _ _ _ _ _=>abT) (fun _ _ _ _ _=>(qe_ix (K:=K) (abH hu1 (qv 1) (qv 0)) aad))) aac)))) aav)))
   (aae (aaz (vi vbp))))))))),?_⟩
  obtain ⟨a,b,c,ts,R,L,M,F,rfl,hR,md,hb,hc,hzl,hRl,hfl,hal,q⟩:=h;have hlen:L.length+M.length+((aar R).flatMap (aak R)).length+(asKs R).length<=50000:=by
   unfold allKs at hal;simp only [qa1] at hal;exact hal
  walk_at "rd";intro d nd;have ndR:∀ {x:Addr} {o:HO},H x=some o->x≠d:=fun h e=>by rw [e,nd] at h;cases h
  refine ⟨⟨_,aag hb nd⟩,forE (xs:=L.map V.str) (fun i σ H2=>∃ (u v w x y z r:Option V),σ=[some (.ref a),some (.ref b),some (.ref c),some (.ref d),u,v,w,x,y,z,r]/\StI H H2 d (L.take i) F)
   ⟨none,none,none,none,none,none,none,rfl,Same.new nd,fun _=>d,aaa,by simp [dds]⟩ (by rintro i σ H2 ⟨_,_,_,_,_,_,_,_,S⟩;exact S.same _ _ hb) ?_ ?_⟩
  ·rintro i x t σ H2 hx ⟨u,v,w,x',y,z,r,rfl,S⟩ nt;obtain ⟨l,hl,rfl⟩:=aaE hx;have hi:i<L.length:=(qa5.mp hl).1;walk_at "rd";refine ⟨_,.of aaa,rfl,_,_,rfl,_,_,rfl,rfl,by decide,fun p np=>⟨by decide,fun p1 np1=>?_⟩⟩;rw [aap hl];exact StI.put nd (((S.more (Same.new nt)).more (Same.new np)).more (Same.new np1)) (by rw [qaf];walk_at "o") (by
    rw [md.lt i l hl];exact StepAt.one aaa (aag aaa np1))
  rintro σ H2 ⟨u,v,w,x',y,z,r,rfl,S⟩;rw [qa0,qaj] at S;walk_at "rd";refine ⟨⟨_,S.same _ _ hc⟩,forE (xs:=M.map V.str) (fun i σ H2=>∃ (u v w x y z r:Option V),σ=[some (.ref a),some (.ref b),some (.ref c),some (.ref d),u,v,w,x,y,z,r]/\StI H H2 d (L++M.take i) F)
   ⟨u,v,w,x',y,z,r,rfl,by rw [qaU,qah];exact S⟩ (by rintro i σ H2 ⟨_,_,_,_,_,_,_,_,S⟩;exact S.same _ _ hc) ?_ ?_⟩
  ·clear S;rintro i x t σ H2 hx ⟨u,v,w,x',y,z,r,rfl,S⟩ nt;obtain ⟨l,hl,rfl⟩:=aaE hx;have hi:i<M.length:=(qa5.mp hl).1;walk_at "rd";refine ⟨_,.of aaa,rfl,_,_,rfl,_,_,rfl,rfl,by decide,fun p np=>⟨by decide,fun p1 np1=>?_⟩⟩;rw [aap hl,<- qas];exact StI.put nd (((S.more (Same.new nt)).more (Same.new np)).more (Same.new np1)) (by rw [qa1,qaf];walk_at "o") (by
    rw [md.mr i l hl];exact StepAt.one aaa (aag aaa np1))
  clear S H2 u v w x' y z r;rintro σ H2 ⟨u,v,w,x',y,z,r,rfl,S⟩;rw [qa0,qaj] at S;walk_at "rd";refine ⟨a,ts,R,rfl,hR.same S.same,fun z hz e=>md.ne z hz (.inr e),hRl,hfl,fun fd af H3 nfd S3 hfd dl=>?_⟩;have nf0:H fd=none:=S.same.free nfd;have nf1:fd≠d:=fun e=>by
   obtain ⟨ad,h1,_⟩:=S.made;rw [<- e,nfd] at h1;cases h1
  have S':=S.more S3;have hrow:=dl.row;clear S S3 dl nfd H2;refine ⟨fd,rfl,_,hfd,fun o=>forD (fun i σ H4=>∃ (u v w y z r:Option V),σ=[some (.ref a),some (.ref b),some (.ref c),some (.ref d),u,v,w,some (.ref fd),y,z,r]/\FoI H H4 d fd o (aar R) af (aak R) (L++M++((aar R).take i).flatMap (aak R)) F)
   ⟨u,v,w,y,z,r,rfl,⟨aaa,fun y hy=>by rw [aah (fun e=>by have:=hrow y hy;rw [e,hfd] at this;cases this)];exact hrow y hy,by rw [qaU,List.flatMap_nil,qah];exact S'.frz hfd nf0 nf1⟩⟩ (by rintro i σ H4 ⟨_,_,_,_,_,_,_,h⟩;exact h.frz) ?_ ?_⟩
  ·rintro i k v' σ H4 hk ⟨u,v,w,y,z,r,rfl,J⟩;obtain ⟨l,hl,e⟩:=aaE (f:=fun t=>((Sum.inr t:Key),V.ref (af t))) hk;obtain ⟨rfl,rfl⟩:=Prod.mk.inj e;have hlm:l∈aar R:=qab hl;have hlL:=md.gl l hlm;have hfl2:(((aar R).take i).flatMap (aak R)).length+(aak R l).length<=((aar R).flatMap (aak R)).length:=by
    have e:(aar R).flatMap (aak R)=((aar R).take i).flatMap (aak R)++aak R l++((aar R).drop (i+1)).flatMap (aak R):=by
     have:=qaA (i+1) (aar R)
     rw [aap hl] at this;rw [<- this,qaK,qaK,qb8,List.flatMap_nil,qah];rw [this]
    rw [e,qa1,qa1];walk_at "o"
   walk_at "rd";refine ⟨V.ref (af l),.inl ⟨_,Sum.inr l,.inr ⟨o,J.frz⟩,rfl,by rw [aaQ,if_pos hlm]⟩,af l,rfl,⟨_,J.rows l hlm⟩,forE1 (xs:=(aak R l).map V.str) (fun j σ H5=>∃ (y z r:Option V),σ=[some (.ref a),some (.ref b),some (.ref c),some (.ref d),u,some (kV (Sum.inr l)),w,some (.ref fd),y,z,r]/\FoI H H5 d fd o (aar R) af (aak R) (L++M++((aar R).take i).flatMap (aak R)++(aak R l).take j) F) ⟨y,z,r,rfl,by rw [qaU,qah];exact J⟩ (by rintro j σ H5 ⟨_,_,_,_,h⟩;exact h.rows l hlm) ?_ ?_⟩
   ·clear J y z r;rintro j x t σ H5 hx ⟨y,z,r,rfl,J⟩ nt;obtain ⟨f,hf,rfl⟩:=aaE hx;have hj:j<(aak R l).length:=(qa5.mp hf).1;have T1:Same H5 (upd H5 t (.tup [.int ((j+1:Nat):Int),.str f])):=Same.new nt;have ht:upd H5 t (.tup [.int ((j+1:Nat):Int),.str f]) t=some (.tup [.int ((j+1:Nat):Int),.str f]):=aaa;generalize upd H5 t (.tup [.int ((j+1:Nat):Int),.str f])=H6 at T1 ht ⊢
    have J6:=J.more T1;obtain ⟨ad,h1,h2⟩:=J6.st.made;have hin:l∈dds [] (L++M++((aar R).take i).flatMap (aak R)++(aak R l).take j):=by
     rw [abP];exact .inr (qaq _ (qaq _ (qaq _ hlL)))
    obtain ⟨tt,e1,e2⟩:=(h2 l hin).ex;rw [md.letter hlL] at e2;obtain ⟨t0,rfl,e3⟩:∃ t0,tt=[t0]/\H6 t0=some (tupT (2,(L.idxOf l:Int),0)):=by
     cases e2 with
     | cons h t=>cases t;exact ⟨_,rfl,h⟩
    walk_at "rd";refine ⟨_,.of ht,rfl,_,_,rfl,_,_,rfl,rfl,V.ref (ad l),.inl ⟨_,Sum.inr l,.inl h1,rfl,by rw [aaQ,if_pos hin]⟩,?_⟩;walk_at "rd";refine ⟨_,.inr (.of e1),V.ref t0,aaS _ _,?_⟩;walk_at "rd";refine ⟨_,.inr (.of e3),V.int (L.idxOf l:Int),abr (j:=1) rfl,by decide,fun p np=>⟨by decide,fun p1 np1=>?_⟩⟩;rw [aap hf,<- qas];exact FoI.put nd ((J6.more (Same.new np)).more (Same.new np1)) (by simp only [qa1,qaf];walk_at "o") (by
     rw [md.gr l hlm j f hf];exact StepAt.one aaa (aag aaa np1))
   ·rintro σ H5 ⟨y,z,r,rfl,J⟩;rw [qa0,qaj] at J;refine ⟨⟨_,_,_,_,_,_,rfl⟩,?_⟩;rw [aap hl,qaK,qb8,List.flatMap_nil,qah,<- qas];exact J
  rintro σ H4 ⟨u,v,w,y,z,r,rfl,J⟩;rw [abO,qaj] at J;have S5:=J.st.thaw (o:=.dK (kvN (aar R) fun y=>V.ref (af y))) J.frz nf0 nf1;generalize upd H4 fd (.dK (kvN (aar R) fun y=>V.ref (af y)))=H5 at S5 ⊢
  clear J hfd hrow;walk_at "rd";refine ⟨⟨_,.of (S5.same _ _ hR.top)⟩,forL (xs:=ts.map V.ref) (fun i σ H6=>∃ (r:Option V),σ=[some (.ref a),some (.ref b),some (.ref c),some (.ref d),u,v,w,some (.ref fd),y,z,r]/\StI H H6 d (L++M++(aar R).flatMap (aak R)++asKs (R.take i)) F) ⟨r,rfl,by rw [qaU];rw [show asKs []=[] from rfl,qah];exact S5⟩ (by rintro i σ H6 _ ⟨_,_,S⟩;exact .of (S.same _ _ hR.top)) ?_ ?_⟩
  ·clear S5 r;rintro i x σ H6 hx ⟨r,rfl,S⟩;obtain ⟨t,ht,rfl⟩:=aaE hx;obtain ⟨zz,hz,hrow⟩:=Paired.at hR.row ht;have hzm:=qab hz;have hT:SqT K H6 t ((zz.1::zz.2).map V.str):=.of (S.same _ _ hrow);walk_at "rd";refine ⟨_,.inr hT,V.str zz.1,aaS _ _,?_⟩;walk_at "rd"
   by_cases has:zz.1=("as" : Str)
   ·rw [decide_eq_true has];refine iteT ?_;obtain ⟨w1,ps⟩:=zz;obtain rfl:w1=("as" : Str):=has;obtain ⟨p,qs,rfl⟩:∃ p qs,ps=p::qs:=by
     cases ps with
     | nil=>exact absurd rfl (md.ne _ hzm (.inl rfl))
     | cons p qs=>exact ⟨p,qs,rfl⟩
    have hcut:cutV (((("as" : Str),p::qs).1::(("as" : Str),p::qs).2).map V.str) (some 2) none=qs.map V.str:=abC _ 2;have hql:qs.length<=1000:=by have:=hzl _ hzm;simp only [qad] at this;walk_at "o"
    have hasl:=afk (R.take i);rw [qaf] at hasl;refine rSlR.t hT (aaI (k:=2) (by decide) (by simp)) fun s ns=>?_
    rw [hcut];have T1:Same H6 (upd H6 s (.tup (qs.map V.str))):=Same.new ns;have hs:upd H6 s (.tup (qs.map V.str)) s=some (.tup (qs.map V.str)):=aaa;generalize upd H6 s (.tup (qs.map V.str))=H7 at T1 hs;have S7:=S.more T1;have hT7:SqT K H7 t (((("as" : Str),p::qs).1::(("as" : Str),p::qs).2).map V.str):=SqT.same T1 hT;clear hT S;refine ⟨s,rfl,⟨_,.of hs⟩,compT (xs:=qs.map V.str) [some (.ref d)] rfl (fun D j ys H8=>∃ ts8:List Addr,ys=ts8.map V.ref/\AsI H H7 H8 d (L++M++(aar R).flatMap (aak R)++asKs (R.take i)) F ts8 ((qs.take j).map fun q=>(F q).headD (0,0,0))) (fun D nD=>⟨[],rfl,S7.more (Same.new nD),.nil,Same.new nD⟩) (by rintro D j ys H8 nD _ ⟨_,_,h⟩;exact .of (h.sm _ _ hs)) ?_ ?_⟩
    ·rintro D j yv ys H8 nD hi hy ⟨ts8,rfl,J⟩ hD hyl;obtain ⟨qq,hq,rfl⟩:=aaE hy;have hqb:=md.pt _ hzm rfl qq (qab hq);obtain ⟨st,hst⟩:=md.base hqb;obtain ⟨ad,h1,h2⟩:=J.st.made;have hin:qq∈dds [] (L++M++(aar R).flatMap (aak R)++asKs (R.take i)):=by
      rw [abP];refine .inr (qaq _ (qaq _ (qa6.mpr hqb)))
     obtain ⟨tt,e1,e2⟩:=(h2 qq hin).ex;rw [hst] at e2;obtain ⟨t0,rfl,e3⟩:∃ t0,tt=[t0]/\H8 t0=some (tupT st):=by
      cases e2 with
      | cons h t=>cases t;exact ⟨_,rfl,h⟩
     walk_at "rd";refine ⟨V.ref (ad qq),.inl ⟨_,Sum.inr qq,.inl h1,rfl,by rw [aaQ,if_pos hin]⟩,?_⟩;walk_at "rd";have hl8:ts8.length<=1000:=by
      have:=Paired.length J.pr
      rw [qa0,qaf] at this;walk_at "o"
     refine ⟨_,.inr (.of e1),V.ref t0,aaS _ _,hD,by rw [qa0];exact aaq (by walk_at "o"),CW.put hi hyl ⟨ts8++[t0],by rw [qa4];rfl,?_⟩⟩;refine AsI.putL (f:=D) ⟨J.st,?_,J.sm⟩ hD (S7.same.free nD) nD;rw [aap hq,qa4];refine Paired.snoc J.pr ?_;show H8 t0=some (tupT ((F qq).headD (0,0,0)));rw [hst];exact e3
    rintro D ys H8 nD ⟨ts8,rfl,J⟩ hD hyl;rw [qa0,qaj] at J;rw [tup_r];refine rTupR.l (.of hD) fun p1 np1=>?_
    have hat:atI (((("as" : Str),p::qs).1::(("as" : Str),p::qs).2).map V.str) 1=some (V.str p):=abr (j:=1) rfl;have S8:Same H8 (upd H8 p1 (.tup (ts8.map V.ref))):=Same.new np1;refine ⟨_,.inr (SqT.same (J.sm.trans S8) hT7),V.str p,hat,?_⟩;rw [adj hz,afj,<- qas];refine StI.put nd (J.st.more S8) (by simp only [qa1];walk_at "o") ?_;rw [md.as _ hzm rfl p qs rfl];exact ⟨ts8,aaa,uam J.pr fun t s e=>S8 _ _ e⟩
   ·rw [decide_eq_false has];refine iteF ?_;rw [adj hz,agB has,qah];exact S
  rintro σ H6 ⟨r,rfl,S⟩;rw [qa0,hR.len,qaj] at S;walk_at "rd";exact q d H6 nd S.same S.made
theorem adw:FnScope ["self", "rules"] ["self", "rules"] (aaf aaJ):=fsc
abbrev acB:List Str:=["self", "rules"]
theorem vbF:VS acB aaJ "self" 0:=vq
theorem vbG:VS acB aaJ "rules" 1:=vq
theorem adx(F:FunD K "__init__" "Order.__init__" aaJ f fd)(T:Txt P w K mg C)(G_has_rule:FO P w K mg base 1 "has_rule" ["rules", "word"] [] (spHas K))(G_jobs_of:FO P w K mg base 3 "jobs_of" ["rules"] [] (ala K))(G_check_letters:FO P w K mg base 2 "check_letters" ["rules", "jobs"] [] (ahj K))(G_line_of:FO P w K mg base 4 "line_of" ["rules", "word"] [] (alb K))(G_steps_of:FO P w K mg base 2 "steps_of" ["rules", "letters", "marks"] [] (ahk K)):FnOk P w K mg base CX0 5 f fd ["self", "rules"] (agD C):=by
 refine F.ok adw ?_ ?_
 ·rintro _ _ _ _ ⟨x,dx,a,ts,R,g,r1,r2,rfl,_⟩;rfl
 ·intro cdv A outer s H vs Q E hr h;have hu1:=hu_of hr;have hu:=hr.units;refine ⟨_,QSs.out (aab (aeM (K:=K) (vi vbF) (aai G_has_rule (hm hr) (qa_c (vi vbG) (qa_c aaA aac))))
   (aab (aeM (K:=K) (vi vbF) (aai G_has_rule (hm hr) (qa_c (vi vbG) (qa_c aaA aac))))
   (aab (aeM (K:=K) (vi vbF) (aai G_jobs_of (hm hr) (qa_c (vi vbG) aac)))
   (aab (aa0 (aai G_check_letters (hm hr) (qa_c (vi vbG) (qa_c (adD (K:=K) (vi vbF)) aac))))
   (aab (aeM (K:=K) (vi vbF) (aai G_line_of (hm hr) (qa_c (vi vbG) (qa_c aaA aac))))
   (aab (aeM (K:=K) (vi vbF) (aai G_line_of (hm hr) (qa_c (vi vbG) (qa_c aaA aac))))
   (aae (aeM (K:=K) (vi vbF) (aai G_steps_of (hm hr) (qa_c (vi vbG) (qa_c (adD (K:=K) (vi vbF)) (qa_c (adD (K:=K) (vi vbF)) aac)))))))))))),?_⟩
  obtain ⟨x,dx,a,ts,R,g,r1,r2,rfl,hx,hR,pl,q⟩:=h;have lp:∀ (f:Str) (y:V) (fs:List (Str×V)),(putF f y fs).length<=fs.length+1:=ac6;walk_at "rd";refine ⟨a,ts,R, "figures",rfl,hR,pl.len,fun H1 S1=>⟨C,dx,[],S1 _ _ hx,T.cl,T.na_figures,by decide,?_⟩⟩;generalize hF1:putF (Str.ofString "figures") (V.bl (hasW R (Str.ofString "figures"))) []=F1;have l1:F1.length<=1:=by rw [<- hF1];exact lp _ _ _
  have B2:SameBut x H (upd H1 x (.ins C dx F1)):=(Same.but S1).at;have hx2:upd H1 x (.ins C dx F1) x=some (.ins C dx F1):=aaa;generalize upd H1 x (.ins C dx F1)=H2 at B2 hx2;have hR2:=hR.but B2 hx;refine ⟨a,ts,R, "behind",rfl,hR2,pl.len,fun H3 S3=>⟨C,dx,F1,S3 _ _ hx2,T.cl,T.na_behind,by walk_at "o",?_⟩⟩;generalize hF2:putF (Str.ofString "behind") (V.bl (hasW R (Str.ofString "behind"))) F1=F2;have l2:F2.length<=2:=by rw [<- hF2];exact qan (lp _ _ _) (by walk_at "o")
  have B4:SameBut x H2 (upd H3 x (.ins C dx F2)):=(Same.but S3).at;have hx4:upd H3 x (.ins C dx F2) x=some (.ins C dx F2):=aaa;generalize upd H3 x (.ins C dx F2)=H4 at B4 hx4;have hR4:=hR2.but B4 hx2;refine ⟨a,ts,R,g,rfl,hR4,pl.len,pl.plen,pl.nc,pl.nb,fun j H5 nj S5 hj=>?_⟩;have njx:j≠x:=fun e=>by rw [e,hx4] at nj;cases nj
  generalize hF3:putF (Str.ofString "jobs") (V.ref j) F2=F3;have l3:F3.length<=3:=by rw [<- hF3];exact qan (lp _ _ _) (by walk_at "o")
  have k3:F3.lookup (Str.ofString "jobs")=some (V.ref j):=by rw [<- hF3,aan,if_pos rfl]
  refine ⟨C,dx,F2,S5 _ _ hx4,T.cl,T.na_jobs,by walk_at "o",?_⟩;rw [hF3];have B6:SameBut x H4 (upd H5 x (.ins C dx F3)):=(Same.but S5).at;have hx6:upd H5 x (.ins C dx F3) x=some (.ins C dx F3):=aaa;have hj6:upd H5 x (.ins C dx F3) j=some (.dK (kvN (keysP (aaj R)++aa2 R) (jobG g))):=by rw [aah njx];exact hj
  generalize upd H5 x (.ins C dx F3)=H6 at B6 hx6 hj6;have hR6:=hR4.but B6 hx4;refine ⟨C,dx,F3,hx6,T.cl,T.na_jobs,_,k3,a,j,ts,R,_,_,rfl,hR6,hj6,fun z hz=>⟨pl.used hz,pl.zl z hz⟩,fun H7 S7=>?_⟩;refine ⟨a,ts,R, "row",r1,rfl,hR6.same S7,pl.len,qan pl.f1 (by decide),pl.a1,fun ll L H8 nll S8 hll run cov=>?_⟩;have hx8:=S8 _ _ (S7 _ _ hx6);have nlx:ll≠x:=fun e=>by rw [e,S7 _ _ hx6] at nll;cases nll
  have llen:L.length<=10000:=by
   rw [adQ (abY _) run cov];exact qan (adg _) pl.f1
  generalize hF4:putF (Str.ofString "letter_line") (V.ref ll) F3=F4;have l4:F4.length<=4:=by rw [<- hF4];exact qan (lp _ _ _) (by walk_at "o")
  refine ⟨C,dx,F3,hx8,T.cl,T.na_letter_line,by walk_at "o",?_⟩;rw [hF4];have B9:SameBut x H6 (upd H8 x (.ins C dx F4)):=(Same.but (S7.trans S8)).at;have hx9:upd H8 x (.ins C dx F4) x=some (.ins C dx F4):=aaa;have hll9:upd H8 x (.ins C dx F4) ll=some (.lst (L.map V.str)):=by rw [aah nlx];exact hll
  generalize upd H8 x (.ins C dx F4)=H9 at B9 hx9 hll9;have hR9:=hR6.but B9 hx6;refine ⟨a,ts,R, "marks",r2,rfl,hR9,pl.len,qan pl.f2 (by decide),pl.a2,fun ml M H10 nml S10 hml run2 cov2=>?_⟩;have nmx:ml≠x:=fun e=>by rw [e,hx9] at nml;cases nml
  have mlen:M.length<=10000:=by
   rw [adQ (abY _) run2 cov2];exact qan (adg _) pl.f2
  generalize hF5:putF (Str.ofString "mark_line") (V.ref ml) F4=F5;have l5:F5.length<=5:=by rw [<- hF5];exact qan (lp _ _ _) (by walk_at "o")
  refine ⟨C,dx,F4,S10 _ _ hx9,T.cl,T.na_mark_line,by walk_at "o",?_⟩;rw [hF5];have B11:SameBut x H9 (upd H10 x (.ins C dx F5)):=(Same.but S10).at;have hx11:upd H10 x (.ins C dx F5) x=some (.ins C dx F5):=aaa;have hml11:upd H10 x (.ins C dx F5) ml=some (.lst (M.map V.str)):=by rw [aah nmx];exact hml
  have hll11:upd H10 x (.ins C dx F5) ll=some (.lst (L.map V.str)):=by rw [aah nlx];exact S10 _ _ hll9
  generalize upd H10 x (.ins C dx F5)=H11 at B11 hx11 hml11 hll11;have hR11:=hR9.but B11 hx9;have kl:F5.lookup (Str.ofString "letter_line")=some (V.ref ll):=by rw [<- hF5,aan,if_neg (by decide +kernel),<- hF4,aan,if_pos rfl]
  have km:F5.lookup (Str.ofString "mark_line")=some (V.ref ml):=by rw [<- hF5,aan,if_pos rfl]
  refine ⟨C,dx,F5,hx11,T.cl,T.na_letter_line,_,kl,C,dx,F5,hx11,T.cl,T.na_mark_line,_,km,a,ll,ml,ts,R,L,M,stepF R L M,rfl,hR11,agC pl ⟨run,cov⟩ ⟨run2,cov2⟩,hll11,hml11,pl.zl,pl.len,ajj pl,qan (amH pl ⟨run,cov⟩ ⟨run2,cov2⟩) (by decide),fun md H12 nmd S12 hmd=>⟨C,dx,F5,S12 _ _ hx11,T.cl,T.na_made,by walk_at "o",?_⟩⟩;have nmdx:md≠x:=fun e=>by rw [e,hx11] at nmd;cases nmd
  have B:SameBut x H (upd H12 x (.ins C dx (putF (Str.ofString "made") (V.ref md) F5))):=((B2.trans B4).trans ((B6.trans B9).trans (B11.trans (Same.but S12)))).at;have fr:∀ {H':Hp} {y:Addr},SameBut x H H'->H' y=none->y≠x->H y=none:=fun {H' y} b n nx=>by
   cases e:H y with
   | none=>rfl
   | some o=>have:=b _ _ nx e;rw [n] at this;cases this
  have B44:=B2.trans B4;refine q j ll ml md L M _ (fr B44 nj njx) (fr ((B44.trans B6).trans (Same.but S7)) nll nlx) (fr ((B44.trans B6).trans B9) nml nmx) (fr (((B44.trans B6).trans B9).trans B11) nmd nmdx) B ⟨⟨dx,?_⟩,?_,?_,?_,hmd.mod (S12 _ _ hx11) (by intro xs e;cases e) nmdx,⟨run,cov⟩,⟨run2,cov2⟩⟩
  ·rw [aaa,<- hF5,<- hF4,<- hF3,<- hF2,<- hF1];rfl
  ·rw [aah njx];exact S12 _ _ (B11 _ _ njx (B9 _ _ njx hj6))
  ·rw [aah nlx];exact S12 _ _ hll11
  ·rw [aah nmx];exact S12 _ _ hml11
theorem adH:FnScope ["self"] ["self"] (aaf aaX):=fsc
abbrev aer:List Str:=["self"]
theorem vbH:VS aer aaX "self" 0:=vq
theorem adI(F:FunD K "letters" "Order.letters" aaX f fd)(T:Txt P w K mg C):FnOk P w K mg base CX0 1 f fd ["self"] (ajk C):=by
 refine F.ok adH ?_ ?_
 ·rintro _ _ _ _ ⟨x,j,ll,ml,md,g,R,L,M,rfl,_⟩;rfl
 ·intro cdv A outer s H vs Q E hr h;have hu1:=hu_of hr;have hu:=hr.units;refine ⟨_,QSs.out (aae (aaz (qe_cT (adF (K:=K) (calm:=true)) T.b_list acs (qa_c (adD (K:=K) (vi vbH)) aac)))),?_⟩;obtain ⟨x,j,ll,ml,md,g,R,L,M,rfl,hO,q⟩:=h;obtain ⟨dx,h1⟩:=hO.ob;walk_at "rd";refine ⟨_,_,_,h1,T.cl,T.na_letter_line,_,af6 _ _ _ _ _ _,?_⟩;walk_at "rd";exact rListR.l (.inl (.of hO.lets)) fun l nl=>q l nl
theorem aez:FnScope ["self"] ["self"] (aaf abb):=fsc
abbrev aft:List Str:=["self"]
theorem vbI:VS aft abb "self" 0:=vq
theorem aeA(F:FunD K "marks" "Order.marks" abb f fd)(T:Txt P w K mg C):FnOk P w K mg base CX0 1 f fd ["self"] (ahl C):=by
 refine F.ok aez ?_ ?_
 ·rintro _ _ _ _ ⟨x,j,ll,ml,md,g,R,L,M,rfl,_⟩;rfl
 ·intro cdv A outer s H vs Q E hr h;have hu1:=hu_of hr;have hu:=hr.units;refine ⟨_,QSs.out (aae (aaz (qe_cT (adF (K:=K) (calm:=true)) T.b_list acs (qa_c (adD (K:=K) (vi vbI)) aac)))),?_⟩;obtain ⟨x,j,ll,ml,md,g,R,L,M,rfl,hO,q⟩:=h;obtain ⟨dx,h1⟩:=hO.ob;walk_at "rd";refine ⟨_,_,_,h1,T.cl,T.na_mark_line,_,ahS _ _ _ _ _ _,?_⟩;walk_at "rd";exact rListR.l (.inl (.of hO.mrks)) fun l nl=>q l nl
theorem agl:FnScope ["self", "piece"] ["self", "piece"] (aaf abl):=fsc
abbrev aes:List Str:=["self", "piece"]
theorem vbJ:VS aes abl "self" 0:=vq
theorem vbK:VS aes abl "piece" 1:=vq
theorem agm(F:FunD K "job" "Order.job" abl f fd)(T:Txt P w K mg C):FnOk P w K mg base CX0 1 f fd ["self", "piece"] (ajl C):=by
 refine F.ok agl ?_ ?_
 ·rintro _ _ _ _ ⟨x,j,ll,ml,md,p,g,R,L,M,rfl,_⟩;rfl
 ·intro cdv A outer s H vs Q E hr h;have hu1:=hu_of hr;have hu:=hr.units;refine ⟨_,QSs.out (aae (aaz (adR hu1 (adD (K:=K) (vi vbJ)) (vi vbK)))),?_⟩;obtain ⟨x,j,ll,ml,md,p,g,R,L,M,rfl,hO,q⟩:=h;obtain ⟨dx,h1⟩:=hO.ob;walk_at "rd";refine ⟨_,_,_,h1,T.cl,T.na_jobs,_,af5 _ _ _ _ _ _,j,rfl,.inl ⟨_,.inl hO.jobs⟩,_,ual (k:=Sum.inr p) hO.jobs,?_⟩;rw [aaQ]
  by_cases hp:p∈keysP (aaj R)++aa2 R
  ·rw [if_pos hp] at q ⊢
   exact q
  ·rw [if_neg hp] at q ⊢
   exact q
theorem sc_figures_at:FnScope ["text", "at", "end"] ["text", "at"] (aaf abm):=fsc
abbrev acO:List Str:=["text", "at", "end"]
theorem vbL:VS acO abm "text" 0:=vq
theorem vbM:VS acO abm "at" 1:=vq
theorem vbN:VS acO abm "end" 2:=vq
theorem vbO:LS abm "end":=lq
theorem afu(F:FunD K "figures_at" "figures_at" abm f fd)(T:Txt P w K mg C)(G_is_figure:FO P w K mg base 1 "is_figure" ["sign"] [] af8):FnOk P w K mg base CX0 2 f fd ["text", "at"] aju:=by
 refine F.ok sc_figures_at ?_ ?_
 ·rintro _ _ _ _ ⟨z,pre,rest,rfl,_⟩;rfl
 ·intro cdv A outer s H vs Q E hr h;have hu1:=hu_of hr;have hu:=hr.units;refine ⟨_,QSs.out (aab (aam (n:=2) sc_figures_at.nd rfl vbO (vi vbM))
   (aab (adh PassesOwn.never (QW.pt (adC (aao q_lt (vi vbN) (qe_cB (q_len (K:=K)) T.b_len abw (qa_c (vi vbL) aac))) (acF (ab7 (K:=K) (aai G_is_figure (hm hr) (qa_c (qe_ix (K:=K) (vi vbL) (vi vbN)) aac)))))) (aae (ak5 (n:=2) sc_figures_at.nd rfl vbO aad ak6)))
   (aae (aaz (aaD (K:=K) (vi vbL) (aaC (vi vbM)) (aaC (vi vbN))))))),?_⟩
  obtain ⟨z,pre,rest,rfl,hz,hzl,q⟩:=h;walk_at "rd";have hlen:z.length=pre.length+rest.length:=by
   have:=congrArg qb5 hzl
   simp [Str.length] at this ⊢
   walk_at "o"
  have hsz:z.length<=sizeLine:=aax (by walk_at "o");refine afT (fun m σ H2=>∃ (run left:List Nat),σ=[some (.str z),some (.int pre.length),some (.int ((pre++run).length:Nat))]/\H2=H/\rest=run++left/\rest.takeWhile figO=run++left.takeWhile figO/\m=left.length) rest.length ⟨[],rest,by simp,rfl,rfl,rfl,rfl⟩ ?_;rintro m σ H2 ⟨run,left,rfl,rfl,hr,htw,rfl⟩;have hzl':z.cps.toList=pre++(run++left):=by rw [hzl,hr]
  have hrl:rest.length=run.length+left.length:=by rw [hr,qa1]
  have ecut:cutS z (some (pre.length:Int)) (some (((pre++run).length:Nat):Int))=⟨run.toArray⟩:=by
   have:=aen (y:=run) (rest:=left) hzl'
   rw [show (((pre++run).length:Nat):Int)=(pre.length:Int)+(run.length:Int) by rw [qa1];walk_at "o"];exact this
  have hpr:(pre++run).length=pre.length+run.length:=qa1;walk_at "rd";refine ⟨hsz,iteD (fun hlt=>⟨hsz,?_⟩) fun hge=>⟨hsz,?_⟩⟩
  ·cases left with
   | nil=>simp at hrl;walk_at "o"
   | cons c l2=>
    refine ⟨c,?_,c,rfl,figO c,rfl,?_⟩
    ·rw [hzl',<- qas];exact afl
    by_cases hf:figO c=true
    ·rw [hf];refine iteT ⟨_,fun _ _ h=>h,l2.length,by simp,run++[c],by simp;walk_at "o",rfl,l2,by rw [hr];simp,?_,rfl⟩;rw [htw,qbd hf]
     simp
    ·rw [Bool.not_eq_true] at hf;rw [hf];refine iteF ⟨hsz,?_⟩;rw [ecut];rw [htw,List.takeWhile_cons_of_neg (by simp [hf]),qah] at q;exact q
  ·have hl0:left=[]:=qaB.mp (by walk_at "o");rw [htw,hl0,List.takeWhile_nil,qah] at q;rw [ecut];exact q
theorem sc_part_at:FnScope ["known", "text", "at", "figures", "two"] ["known", "text", "at", "figures"] (aaf abF):=fsc
abbrev acP:List Str:=["known", "text", "at", "figures", "two"]
theorem vbP:VS acP abF "known" 0:=vq
theorem vbQ:VS acP abF "text" 1:=vq
theorem vbR:VS acP abF "at" 2:=vq
theorem vbS:VS acP abF "figures" 3:=vq
theorem vbT:VS acP abF "two" 4:=vq
theorem vbU:LS abF "two":=lq
theorem ah9(F:FunD K "part_at" "part_at" abF f fd)(T:Txt P w K mg C)(G_is_figure:FO P w K mg base 1 "is_figure" ["sign"] [] af8)(G_figures_at:FO P w K mg base 2 "figures_at" ["text", "at"] [] aju):FnOk P w K mg base CX0 3 f fd ["known", "text", "at", "figures"] ajv:=by
 refine F.ok sc_part_at ?_ ?_
 ·rintro _ _ _ _ ⟨d,z,g,pre,c,r,w,y,rfl,_⟩;rfl
 ·intro cdv A outer s H vs Q E hr h;have hu1:=hu_of hr;have hu:=hr.units;refine ⟨_,QSs.out (aab (qs_if (QW.pt (adC (ab7 (K:=K) (vi vbS)) (acF (ab7 (K:=K) (aai G_is_figure (hm hr) (qa_c (qe_ix (K:=K) (vi vbQ) (vi vbR)) aac)))))) (aae (aaz (aai G_figures_at (hm hr) (qa_c (vi vbQ) (qa_c (vi vbR) aac))))) aav)
   (aab (aam (n:=4) sc_part_at.nd rfl vbU (aaD (K:=K) (vi vbQ) (aaC (vi vbR)) (aaC (qe_op (q_add (K:=K)) (vi vbR) aad))))
   (aab (qs_if (aao (q_in (K:=K) hu) (vi vbT) (vi vbP)) (aae (aaz (vi vbT))) aav)
   (aab (qs_if (aao (q_in (K:=K) hu) (qe_ix (K:=K) (vi vbQ) (vi vbR)) (vi vbP)) (aae (aaz (qe_ix (K:=K) (vi vbQ) (vi vbR)))) aav)
   (aae adP))))),?_⟩
  obtain ⟨d,z,g,pre,c,r,w,y,rfl,hd,hz,hzl,hp,q⟩:=h;have hsz:z.length<=sizeLine:=aax (by walk_at "o");have ha:atI z.cps.toList (pre.length:Int)=some c:=by rw [hzl];exact afl
  rw [abK] at hp
  cases w with
  | false=>
   rw [Bool.false_and,if_neg qae] at hp;walk_at "rd"
   cases r with
   | nil=>
    rw [ab3] at hp
    by_cases h1:one c∈g
    ·rw [if_pos h1] at hp;obtain rfl:=Option.some.inj hp;rw [adk hzl];refine ⟨hsz,rInR.d (ual (k:=Sum.inr (one c)) hd) ⟨_,rfl,?_⟩⟩;rw [ac0,qbh,decide_eq_true h1];exact iteT q
    ·rw [if_neg h1] at hp;cases hp
   | cons e r=>
    rw [abe] at hp;have ec:cutS z (some (pre.length:Int)) (some ((pre.length:Int)+2))=two c e:=aen (y:=[c,e]) (rest:=r) hzl;rw [ec];refine ⟨hsz,rInR.d (ual (k:=Sum.inr (two c e)) hd) ⟨_,rfl,?_⟩⟩;rw [ac0,qbh];refine iteD (fun h=>?_) fun h=>⟨hsz,c,ha,rInR.d (ual (k:=Sum.inr (one c)) hd) ⟨_,rfl,?_⟩⟩
    ·rw [if_pos h] at hp;obtain rfl:=Option.some.inj hp;exact q
    ·rw [if_neg h] at hp
     by_cases h1:one c∈g
     ·rw [if_pos h1] at hp;obtain rfl:=Option.some.inj hp;rw [ac0,qbh,decide_eq_true h1];exact iteT ⟨hsz,c,ha,q⟩
     ·rw [if_neg h1] at hp;cases hp
  | true=>
   rw [Bool.true_and] at hp;walk_at "rd";refine ⟨hsz,c,ha,c,rfl,figO c,rfl,?_⟩
   by_cases hf:figO c=true
   ·rw [hf];rw [if_pos hf] at hp;obtain rfl:=Option.some.inj hp;exact iteT ⟨z,pre,c::r,rfl,hz,hzl,q⟩
   rw [if_neg hf] at hp;rw [Bool.not_eq_true] at hf;rw [hf];refine iteF ?_
   cases r with
   | nil=>
    rw [ab3] at hp
    by_cases h1:one c∈g
    ·rw [if_pos h1] at hp;obtain rfl:=Option.some.inj hp;rw [adk hzl];refine ⟨hsz,rInR.d (ual (k:=Sum.inr (one c)) hd) ⟨_,rfl,?_⟩⟩;rw [ac0,qbh,decide_eq_true h1];exact iteT q
    ·rw [if_neg h1] at hp;cases hp
   | cons e r=>
    rw [abe] at hp;have ec:cutS z (some (pre.length:Int)) (some ((pre.length:Int)+2))=two c e:=aen (y:=[c,e]) (rest:=r) hzl;rw [ec];refine ⟨hsz,rInR.d (ual (k:=Sum.inr (two c e)) hd) ⟨_,rfl,?_⟩⟩;rw [ac0,qbh];refine iteD (fun h=>?_) fun h=>⟨hsz,c,ha,rInR.d (ual (k:=Sum.inr (one c)) hd) ⟨_,rfl,?_⟩⟩
    ·rw [if_pos h] at hp;obtain rfl:=Option.some.inj hp;exact q
    ·rw [if_neg h] at hp
     by_cases h1:one c∈g
     ·rw [if_pos h1] at hp;obtain rfl:=Option.some.inj hp;rw [ac0,qbh,decide_eq_true h1];exact iteT ⟨hsz,c,ha,q⟩
     ·rw [if_neg h1] at hp;cases hp
theorem sc_cut:FnScope ["known", "text", "figures", "pieces", "parts", "at", "part"] ["known", "text", "figures"] (aaf s_cut):=fsc
abbrev n_cut:List Str:=["known", "text", "figures", "pieces", "parts", "at", "part"]
theorem vbV:VS n_cut s_cut "known" 0:=vq
theorem vbW:VS n_cut s_cut "text" 1:=vq
theorem vbX:VS n_cut s_cut "figures" 2:=vq
theorem vbY:VS n_cut s_cut "pieces" 3:=vq
theorem vbZ:VS n_cut s_cut "parts" 4:=vq
theorem vb0:VS n_cut s_cut "at" 5:=vq
theorem vb1:VS n_cut s_cut "part" 6:=vq
theorem vb2:LS s_cut "pieces":=lq
theorem vb3:LS s_cut "parts":=lq
theorem vb4:LS s_cut "at":=lq
theorem vb5:LS s_cut "part":=lq
theorem ali(F:FunD K "cut" "cut" s_cut f fd)(T:Txt P w K mg C)(G_part_at:FO P w K mg base 3 "part_at" ["known", "text", "at", "figures"] [] ajv):FnOk P w K mg base CX0 4 f fd ["known", "text", "figures"] (ahr K):=by
 refine F.ok sc_cut ?_ ?_
 ·rintro _ _ _ _ ⟨a,z,ks,w,rfl,_⟩;rfl
 ·intro cdv A outer s H vs Q E hr h;have hu1:=hu_of hr;have hu:=hr.units;refine ⟨_,QSs.out (aab (aam (n:=3) sc_cut.nd rfl vb2 (qe_cT (aiW (K:=K) (calm:=true)) T.b_dict aiM (qa_c (aca  (cok:CompOk ["known", "text", "figures", "pieces", "parts", "at", "part"] (aaf s_cut).names _ ["piece"] 1 []) (aa1 (K:=K) (vi vbV)) (fun _ _ _ _ _=>aal (n:=0) (show List.Nodup (["piece"]:List Str) by decide +kernel) rfl (Or.inl rfl)) (fun _ _ _ _ _=>abT) (fun _ _ _ _ _=>(abd (qa_c (qv 0) (qa_c qe_bl aac))))) aac)))
   (aab (aam (n:=4) sc_cut.nd rfl vb3 (aa5 aac))
   (aab (aam (n:=5) sc_cut.nd rfl vb4 aad)
   (aab (adh PassesOwn.never (aao q_lt (vi vb0) (qe_cB (q_len (K:=K)) T.b_len abw (qa_c (vi vbW) aac))) (aab (aam (n:=6) sc_cut.nd rfl vb5 (aai G_part_at (hm hr) (qa_c (vi vbY) (qa_c (vi vbW) (qa_c (vi vb0) (qa_c (vi vbX) aac))))))
   (aab (aa0 (qe_mB (K:=K) qal qap qao aaZ (vi vbZ) (qa_c (vi vb1) aac)))
   (aae (ak5 (n:=5) sc_cut.nd rfl vb4 (qe_cB (q_len (K:=K)) T.b_len abw (qa_c (vi vb1) aac)) ak6)))))
   (aae (aaz (vi vbZ))))))),?_⟩
  obtain ⟨a,z,ks,w,rfl,hS,hkl,hz,hw,q⟩:=h;walk_at "rd";refine ⟨⟨_,hS⟩,compL (xs:=ks.map V.str) [] rfl (fun D i ys H4=>∃ ts:List Addr,ys=ts.map V.ref/\Paired (fun t k=>H4 t=some (.tup [V.str k,V.bl true])) ts (ks.take i)/\Same H H4) (fun D nD=>⟨[],rfl,.nil,Same.new nD⟩) (by rintro D i ys H4 nD _ ⟨_,_,_,S⟩;exact S.seq hS) ?_ ?_⟩
  ·rintro D i x ys H4 nD hi hx ⟨ts,rfl,P,S⟩ hD hy;obtain ⟨k,hk,rfl⟩:=aaE hx;rw [qa0] at hi;walk_at "rd";refine ⟨by decide,fun t nt=>⟨aag hD nt,aaq (by walk_at "o"),CW.put (by rw [qa0];exact hi) hy ⟨ts++[t],by rw [qa4];rfl,?_,Same.put (fun b o h=>aag (S b o h) nt) nD⟩⟩⟩;have hDt:D≠t:=fun e=>by rw [e,nt] at hD;cases hD
   rw [qaQ,hk,Option.toList_some];refine Paired.snoc (uam P fun r k h=>?_) (by rw [aah hDt.symm,aaa]);rw [aah (fun e=>by rw [e,hD] at h;cases h)];exact aag h nt
  rintro D ys H4 nD ⟨ts,rfl,P,S⟩ hD hy;rw [qa0,qaj] at P;have P2:Paired (fun t (kx:Key×V)=>SqT K H4 t [kV kx.1,kx.2]) ts (kvOf ks):=by
   clear hD hy nD S hkl hS q hw
   induction P with
   | nil=>exact .nil
   | cons h t ih=>exact .cons (.of h) ih
  refine ⟨rfl,D,ts,kvOf ks,rfl,.of hD,P2,fun d nd=>?_⟩;rw [show abR [] (kvOf ks)=kvOf (dds [] ks) from aeT ks []];have S1:Same H (upd H4 d (.dK (kvOf (dds [] ks)))):=fun b o h=>aag (S b o h) nd
  have hd:upd H4 d (.dK (kvOf (dds [] ks))) d=some (.dK (kvOf (dds [] ks))):=aaa;generalize upd H4 d (.dK (kvOf (dds [] ks)))=H5 at S1 hd;have hcg:∀ l,cutF w (dds [] ks) l=cutF w ks l:=aeW fun x=>by rw [abP];simp
  generalize dds [] ks=g at hd hcg;refine fun p np=>afT (fun m σ H6=>∃ (pre rest:List Nat) (ps:List Str) (u:Option V),σ=[some (.ref a),some (.str z),some (.bl w),some (.ref d),some (.ref p),some (.int pre.length),u]/\Same H5 H6/\H6 p=some (.lst (ps.map V.str))/\z.cps.toList=pre++rest/\(cutF w g z.cps.toList).1=pre.length+(cutF w g rest).1/\(cutF w g z.cps.toList).2=ps++(cutF w g rest).2/\ps.length<=pre.length/\m=rest.length) z.cps.toList.length
   ⟨[],z.cps.toList,[],none,rfl,Same.new np,aaa,rfl,by simp,rfl,qar _,rfl⟩ ?_
  rintro m σ H6 ⟨pre,rest,ps,u,rfl,S6,h6,hzl,hc1,hc2,hpl,rfl⟩;have hlen:z.length=pre.length+rest.length:=by
   have:=congrArg qb5 hzl
   simp [Str.length] at this ⊢
   walk_at "o"
  walk_at "rd";refine ⟨aax (by walk_at "o"),iteD (fun hlt=>?_) fun hge=>?_⟩
  ·cases rest with
   | nil=>simp at hlen;walk_at "o"
   | cons c r=>
    cases hy:partF w g (c::r) with
    | none=>
     exfalso
     rw [ach hy] at hc1;have hw2:=hw;unfold aci at hw2;rw [<- hcg,hc1] at hw2;simp at hlen hw2;walk_at "o"
    | some y=>
     refine ⟨_,fun _ _ h=>h,d,z,g,pre,c,r,w,y,rfl,S6 _ _ hd,hz,hzl,hy,?_⟩;obtain ⟨rest',e1,e2,e3⟩:=ab4 hy;rw [e2] at hc1 hc2;have el:y.cps.toList.length=y.length:=by simp [Str.length]
     have erl:(c::r).length=y.length+rest'.length:=by rw [e1,qa1,el]
     refine ⟨tyL h6,appOk h6 (by rw [qa0];exact aaq (by walk_at "o")) ?_⟩;walk_at "rd";refine ⟨aax (by walk_at "o"),rest'.length,by rw [qad] at erl;walk_at "o",pre++y.cps.toList,by rw [qa1,el];walk_at "o",S6.put np,rest',ps++[y],by rw [aaa,qa4];rfl,hzl.trans (by rw [qas];exact congrArg (pre++·) e1),by rw [qa1,el,hc1];dsimp only;walk_at "o",by rw [hc2,qas];rfl,by rw [qa1,qa1,el,qag];walk_at "o",rfl⟩
  ·have hr:rest=[]:=qaB.mp (by walk_at "o");rw [hr] at hc1 hc2;refine q p H6 (S1.free np) (S1.trans S6) ?_;rw [h6,<- hcg,hc2];show some (HO.lst (ps.map V.str))=some (HO.lst ((ps++[]).map V.str));rw [qah]
theorem aeB:FnScope ["self"] ["self"] (aaf abc):=fsc
abbrev afv:List Str:=["self"]
theorem vb6:VS afv abc "self" 0:=vq
theorem aeC(F:FunD K "known" "Order.known" abc f fd)(T:Txt P w K mg C):FnOk P w K mg base CX0 1 f fd ["self"] (afm C):=by
 refine F.ok aeB ?_ ?_
 ·rintro _ _ _ _ ⟨x,j,ll,ml,md,g,R,L,M,rfl,_⟩;rfl
 ·intro cdv A outer s H vs Q E hr h;have hu1:=hu_of hr;have hu:=hr.units;refine ⟨_,QSs.out (aae (aaz (qe_cT (adF (K:=K) (calm:=true)) T.b_list acs (qa_c (adD (K:=K) (vi vb6)) aac)))),?_⟩;obtain ⟨x,j,ll,ml,md,g,R,L,M,rfl,hO,q⟩:=h;obtain ⟨dx,h1⟩:=hO.ob;walk_at "rd";refine ⟨_,_,_,h1,T.cl,T.na_jobs,_,af5 _ _ _ _ _ _,?_⟩;walk_at "rd";refine rListR.d (.of hO.jobs) fun l nl=>?_
  rw [show (kvN (keysP (aaj R)++aa2 R) (jobG g)).map (fun kv=>kV kv.1)=(aaB R).map V.str by unfold kvN aaB;rw [qb7];rfl];exact q l nl
theorem agS:FnScope ["order", "text"] ["order", "text"] (aaf acl):=fsc
abbrev ae1:List Str:=["order", "text"]
theorem vb7:VS ae1 acl "order" 0:=vq
theorem vb8:VS ae1 acl "text" 1:=vq
theorem agT(F:FunD K "parts_of" "parts_of" acl f fd)(T:Txt P w K mg C)(G3_cut:FO P w K mg base 4 "cut" ["known", "text", "figures"] [] (ahr K))(G_Order_known:MO P w K mg base 1 C "known" ["self"] (afm C)):FnOk P w K mg base CX0 5 f fd ["order", "text"] (ahs C):=by
 refine F.ok agS ?_ ?_
 ·rintro _ _ _ _ ⟨x,j,ll,ml,md,z,g,R,L,M,rfl,_⟩;rfl
 ·intro cdv A outer s H vs Q E hr h;have hu1:=hu_of hr;have hu:=hr.units;refine ⟨_,QSs.out (aae (aaz (aai G3_cut (hm hr) (qa_c (akG (vi vb7) G_Order_known (hm hr)) (qa_c (vi vb8) (qa_c (adD (K:=K) (vi vb7)) aac)))))),?_⟩;obtain ⟨x,j,ll,ml,md,z,g,R,L,M,rfl,hO,hk,hz,hw,q⟩:=h;obtain ⟨dx,h1⟩:=hO.ob;walk_at "rd";refine ⟨_,_,h1,ai6 _ _ _ _ _ _ (by decide +kernel),x,j,ll,ml,md,g,R,L,M,rfl,hO,fun l nl=>?_⟩;have S:Same H (upd H l (.lst ((aaB R).map V.str))):=Same.new nl;exact ⟨_,_,_,S _ _ h1,T.cl,T.na_figures,_,af4 _ _ _ _ _ _,l,z,aaB R,_,rfl,.of aaa,hk,hz,hw,fun l2 H2 n2 S2 h2=>q l2 H2 (S.free n2) (S.trans S2) h2⟩
theorem sc_starts:FnScope ["parts", "places", "part"] ["parts"] (aaf ab8):=fsc
abbrev afw:List Str:=["parts", "places", "part"]
theorem vb9:VS afw ab8 "parts" 0:=vq
theorem vca:VS afw ab8 "places" 1:=vq
theorem vcb:VS afw ab8 "part" 2:=vq
theorem vcc:LS ab8 "places":=lq
theorem vcd:LS ab8 "part":=lq
theorem ajG(F:FunD K "starts" "starts" ab8 f fd)(T:Txt P w K mg C):FnOk P w K mg base CX0 1 f fd ["parts"] (ahy K):=by
 refine F.ok sc_starts ?_ ?_
 ·rintro _ _ _ _ ⟨a,zs,rfl,_⟩;rfl
 ·intro cdv A outer s H vs Q E hr h;have hu1:=hu_of hr;have hu:=hr.units;refine ⟨_,QSs.out (aab (aam (n:=1) sc_starts.nd rfl vcc (aa5 (qa_c aad aac)))
   (aab (aaW PassesOwn.never (aa1 (K:=K) (vi vb9)) (aal (n:=2) sc_starts.nd rfl vcd (.inl rfl)) (aae (aa0 (qe_mB (K:=K) qal qap qao aaZ (vi vca) (qa_c (qe_op (q_add (K:=K)) (qe_ix (K:=K) (vi vca) (qe_un q_neg aad)) (qe_cB (q_len (K:=K)) T.b_len abw (qa_c (vi vcb) aac))) aac)))))
   (aae (aaz (vi vca))))),?_⟩
  obtain ⟨a,zs,rfl,hS,hl,hz,q⟩:=h;walk_at "rd";refine ⟨by decide,fun p np=>⟨⟨_,(Same.new np).seq hS⟩,forL (xs:=zs.map V.str) (fun i σ H2=>∃ u:Option V,σ=[some (.ref a),some (.ref p),u]/\Same H H2/\H2 p=some (.lst ((plN zs (i+1)).map V.int))) ⟨none,rfl,Same.new np,aaa⟩ (by rintro i σ H2 _ ⟨_,_,S,_⟩;exact S.seq hS) ?_ ?_⟩⟩
  ·rintro i x σ H2 hx ⟨u,rfl,S,hp⟩;obtain ⟨z,hk,rfl⟩:=aaE hx;have hi:i<zs.length:=(qa5.mp hk).1;have hzl:=hz z (qab hk);walk_at "rd";refine ⟨tyL hp,_,.inl (.of hp),V.int (tot (zs.take i):Nat),?_,aax (by walk_at "o"),?_⟩
   ·rw [ahx,qa4];exact ag4 _ _
   ·walk_at "rd";refine appOk hp (by rw [qa0,ajC];exact aaq (by walk_at "o")) ⟨S.put np,?_⟩;rw [aaa,ahx zs (i+1),qa4,afq hk];rfl
  ·rintro σ H2 ⟨u,rfl,S,hp⟩;rw [qa0] at hp;walk_at "rd";exact q p H2 np S hp
theorem agU:FnScope ["order", "parts", "at"] ["order", "parts", "at"] (aaf ab0):=fsc
abbrev ady:List Str:=["order", "parts", "at"]
theorem vce:VS ady ab0 "order" 0:=vq
theorem vcf:VS ady ab0 "parts" 1:=vq
theorem vcg:VS ady ab0 "at" 2:=vq
theorem agV(F:FunD K "is_joint" "is_joint" ab0 f fd)(T:Txt P w K mg C)(G_Order_job:MO P w K mg base 1 C "job" ["self", "piece"] (ajl C)):FnOk P w K mg base CX0 2 f fd ["order", "parts", "at"] (spIsJ C):=by
 refine F.ok agU ?_ ?_
 ·rintro _ _ _ _ ⟨x,j,ll,ml,md,a,i,zs,ns,R,L,M,rfl,_⟩;rfl
 ·intro cdv A outer s H vs Q E hr h;have hu1:=hu_of hr;have hu:=hr.units;refine ⟨_,QSs.out (aae (aaz (qe_or (acE (q_eq (K:=K) hu) (vi vcg) aad) (qe_or (acE (q_eq (K:=K) hu) (vi vcg) (qe_cB (q_len (K:=K)) T.b_len abw (qa_c (vi vcf) aac))) (aiP (acE (q_ne (K:=K) hu) (amy (vi vce) G_Order_job (hm hr) (qa_c (qe_ix (K:=K) (vi vcf) (vi vcg)) aac)) aaA)))))),?_⟩;obtain ⟨x,j,ll,ml,md,a,i,zs,ns,R,L,M,rfl,hO,G,ha,hi,q⟩:=h;obtain ⟨dx,h1⟩:=hO.ob;walk_at "rd";refine iteD (fun h0=>?_) fun h0=>⟨zs.length,.inl ⟨_,.of ha,by rw [qa0]⟩,iteD (fun h2=>?_) fun h2=>?_⟩
  ·have e:i=0:=by walk_at "o"
   rw [show jntB M zs i=true by simp [jntB,e]] at q;exact q
  ·have e:i=zs.length:=by walk_at "o"
   rw [show jntB M zs i=true by simp [jntB,e]] at q;exact q
  have hil:i<zs.length:=by walk_at "o"
  obtain ⟨w,hw⟩:∃ w,zs[i]?=some w:=⟨_,qa3 hil⟩
  refine ⟨_,_,h1,ai6 _ _ _ _ _ _ (by decide +kernel),_,.inl (.of ha),V.str w,abr (by rw [qaC,hw];rfl),x,j,ll,ml,md,w,gOf R,R,L,M,rfl,hO,?_⟩;rw [show jntB M zs i=!decide (w∈M) by
   unfold jntB dueB;rw [hw,decide_eq_false (by walk_at "o"),decide_eq_false (by walk_at "o")]
   simp] at q
  have hj:=akR G w
  by_cases hk:w∈keysP (aaj R)++aa2 R
  ·rw [if_pos hk] at hj ⊢
   obtain ⟨s,hs⟩:∃ s,jobG (gOf R) w=V.str s:=by
    unfold jobG
    split
    ·exact ⟨_,rfl⟩
    ·exact ⟨_,rfl⟩
   rw [hs] at hj ⊢
   show Q (.bl (!decide (s=Str.ofString "mark"))) H;rw [show decide (s=Str.ofString "mark")=decide (w∈M) from decide_eq_decide.mpr ⟨fun e=>hj.mp (by rw [e]),fun h=>V.str.inj (hj.mpr h)⟩];exact q
  ·rw [if_neg hk] at hj ⊢
   have hm:w∉M:=fun h=>by cases hj.mpr h
   rw [decide_eq_false hm] at q;exact ⟨_,_,.non,.str _ (by decide +kernel),by decide,q⟩
theorem sc_joints:FnScope ["order", "text", "parts"] ["order", "text"] (aaf ab9):=fsc
abbrev afx:List Str:=["order", "text", "parts"]
theorem vch:VS afx ab9 "order" 0:=vq
theorem vci:VS afx ab9 "text" 1:=vq
theorem vcj:VS afx ab9 "parts" 2:=vq
theorem vck:LS ab9 "parts":=lq
theorem ajH(F:FunD K "joints" "joints" ab9 f fd)(T:Txt P w K mg C)(G_parts_of:FO P w K mg base 5 "parts_of" ["order", "text"] [] (ahs C))(G_starts:FO P w K mg base 1 "starts" ["parts"] [] (ahy K))(G_is_joint:FO P w K mg base 2 "is_joint" ["order", "parts", "at"] [] (spIsJ C)):FnOk P w K mg base CX0 6 f fd ["order", "text"] (afr C):=by
 refine F.ok sc_joints ?_ ?_
 ·rintro _ _ _ _ ⟨x,j,ll,ml,md,z,ns,R,L,M,rfl,_⟩;rfl
 ·intro cdv A outer s H vs Q E hr h;have hu1:=hu_of hr;have hu:=hr.units;refine ⟨_,QSs.out (aab (aam (n:=2) sc_joints.nd rfl vck (aai G_parts_of (hm hr) (qa_c (vi vch) (qa_c (vi vci) aac))))
   (aae (aaz (aca  (cok:CompOk ["order", "text", "parts"] (aaf ab9).names _ ["at", "place", "order", "parts"] 2 [0,2]) (adp T.b_enumerate (qa_c (aai G_starts (hm hr) (qa_c (vi vcj) aac)) aac)) (fun _ _ _ _ _=>(adE (K:=K) (n:=2) (aa4 (aal (n:=0) (show List.Nodup (["at", "place", "order", "parts"]:List Str) by decide +kernel) rfl (Or.inl rfl)) (aa4 (aal (n:=1) (show List.Nodup (["at", "place", "order", "parts"]:List Str) by decide +kernel) rfl (Or.inl rfl)) acG)))) (fun _ _ _ _ _=>(acV (ab7 (K:=K) (aai G_is_joint (hm hr) (qa_c (qv 2) (qa_c (qv 3) (qa_c (qv 0) aac))))))) (fun _ _ _ _ _=>(qv 1)))))),?_⟩
  obtain ⟨x,j,ll,ml,md,z,ns,R,L,M,rfl,hO,G,hz,hw,q⟩:=h;have hf:=(adt (w:=hasW R "figures") (g:=aaB R) _ z.cps.toList (qa2 _)).2.1;have hy:=aep (w:=hasW R "figures") (g:=aaB R) _ z.cps.toList (qa2 _);rw [lenL] at hf hy;walk_at "rd";refine ⟨x,j,ll,ml,md,z,gOf R,R,L,M,rfl,hO,G.known_len,by walk_at "o",hw,fun a H1 na S1 ha=>?_⟩;generalize (cutF (hasW R "figures") (aaB R) z.cps.toList).2=zs at hf hy ha q;refine ⟨a,zs,rfl,.of ha,by walk_at "o",fun y hy2=>by have:=hy y hy2;walk_at "o",fun l H2 nl S2 hl=>?_⟩;have ha2:=S2 _ _ ha;have hpl:=ajC zs (zs.length+1);walk_at "rd";refine ⟨⟨_,hl⟩,compE (xs:=(plN zs (zs.length+1)).map V.int) [some (.ref x),some (.ref a)] rfl (fun D i ys H3=>Same H2 H3/\ys=(jntL M zs i).map V.int) (fun D nD=>⟨Same.new nD,rfl⟩) (by rintro D i ys H3 nD _ ⟨S,_⟩;exact S _ _ hl) ?_ ?_⟩
  ·rintro D i y t ys H3 nD hi hy3 ⟨S3,rfl⟩ hD hyl nt;obtain ⟨v,hv,rfl⟩:=aaE hy3;have hi2:i<zs.length+1:=by rw [qa0,hpl] at hi;exact hi
   rw [aow zs hi2] at hv;obtain rfl:=Option.some.inj hv;have S4:Same H3 (upd H3 t (.tup [V.int i,V.int ((tot (zs.take i):Nat):Int)])):=Same.new nt;generalize upd H3 t (.tup [V.int i,V.int ((tot (zs.take i):Nat):Int)])=H4 at S4;have S04:=S1.trans (S2.trans (S3.trans S4));have hjl:=ahz M zs i;walk_at "rd";refine ⟨x,j,ll,ml,md,a,i,zs,ns,R,L,M,rfl,hO.same S04,G,S4 _ _ (S3 _ _ ha2),by walk_at "o",_,rfl,?_⟩
   by_cases hb:jntB M zs i=true
   ·rw [if_pos hb];refine ⟨S4 _ _ hD,by rw [qa0];exact aaq (by walk_at "o"),CW2.put hi hyl ⟨(S3.trans S4).put nD,?_⟩⟩;rw [jntL,if_pos hb,qa4];rfl
   ·rw [if_neg hb];exact ⟨S4 _ _ hD,hi,Nat.le_succ_of_le hyl,⟨_,_,rfl⟩,S3.trans S4,by rw [jntL,if_neg hb]⟩
  rintro D ys H3 nD ⟨S3,rfl⟩ hD _;rw [qa0,hpl,amR] at hD;exact q D H3 ((S1.trans S2).free nD) (S1.trans (S2.trans S3)) hD
theorem agn:FnScope ["_law_script", "_law_k"] ["_law_script", "_law_k"] (aaf ab6):=fsc
abbrev aet:List Str:=["_law_script", "_law_k"]
theorem vcl:VS aet ab6 "_law_script" 0:=vq
theorem vcm:VS aet ab6 "_law_k" 1:=vq
theorem ago(F:FunD K "_law_cell_at" "_law_cell_at" ab6 f fd)(T:Txt P w K mg C):FnOk P w K mg base CX0 1 f fd ["_law_script", "_law_k"] (adr K):=by
 refine F.ok agn ?_ ?_
 ·rintro _ _ _ _ ⟨a,ns,k,rfl,_⟩;rfl
 ·intro cdv A outer s H vs Q E hr h;have hu1:=hu_of hr;have hu:=hr.units;refine ⟨_,QSs.out (aab (qs_if (aao q_lt (vi vcm) (qe_cB (q_len (K:=K)) T.b_len abw (qa_c (vi vcl) aac))) (aae (aaz (qe_ix (K:=K) (vi vcl) (vi vcm)))) aav)
   (aae (aaz aad))),?_⟩
  obtain ⟨a,ns,k,rfl,hS,hk,q⟩:=h;walk_at "rd";unfold cellF at q;refine ⟨ns.length,.inl ⟨_,hS,by rw [qa0]⟩,iteD (fun hlt=>?_) fun hge=>?_⟩
  ·rw [if_pos hlt] at q;have hi:k.toNat<ns.length:=by walk_at "o"
   refine ⟨_,.inl hS,V.int (ns.getD k.toNat 0),?_,q⟩;have e:((k.toNat:Nat):Int)=k:=by walk_at "o"
   have h1:atI (ns.map V.int) ((k.toNat:Nat):Int)=some (V.int (ns.getD k.toNat 0)):=abr (by rw [qaC,qaJ,qa3 hi];rfl);rw [e] at h1;exact h1
  ·rw [if_neg hge] at q;exact q
theorem sc_l_sign:FnScope ["_law_script", "_law_k", "_law_some", "_law_step"] ["_law_script", "_law_k"] (aaf abV):=fsc
abbrev adW:List Str:=["_law_script", "_law_k", "_law_some", "_law_step"]
theorem vcn:VS adW abV "_law_script" 0:=vq
theorem vco:VS adW abV "_law_k" 1:=vq
theorem vcp:VS adW abV "_law_some" 2:=vq
theorem vcq:VS adW abV "_law_step" 3:=vq
theorem vcr:LS abV "_law_some":=lq
theorem vcs:LS abV "_law_step":=lq
theorem ajI(F:FunD K "_law_sign" "_law_sign" abV f fd)(T:Txt P w K mg C)(G_l_cell_at:FO P w K mg base 1 "_law_cell_at" ["_law_script", "_law_k"] [] (adr K)):FnOk P w K mg base CX0 2 f fd ["_law_script", "_law_k"] (spSgn K):=by
 refine F.ok sc_l_sign ?_ ?_
 ·rintro _ _ _ _ ⟨a,ns,k,rfl,_⟩;rfl
 ·intro cdv A outer s H vs Q E hr h;have hu1:=hu_of hr;have hu:=hr.units;refine ⟨_,QSs.out (aab (aam (n:=2) sc_l_sign.nd rfl vcr aaA)
   (aab (aam (n:=3) sc_l_sign.nd rfl vcs (qe_ix (K:=K) (aa5 (qa_c aad (qa_c aad (qa_c aad (qa_c aad (qa_c aad (qa_c aad (qa_c aad (qa_c aad (qa_c aad (qa_c aad (qa_c aad (qa_c aad aac))))))))))))) (qe_op q_mod (aai G_l_cell_at (hm hr) (qa_c (vi vcn) (qa_c aad aac))) aad)))
   (abi (qs_if (aao (q_eq (K:=K) hu) (qe_op q_mod (qe_op aaO (aai G_l_cell_at (hm hr) (qa_c (vi vcn) (qa_c aad aac))) aad) aad) aad) (aae (aam (n:=2) sc_l_sign.nd rfl vcr (qe_op (q_add (K:=K)) (vi vcp) aaA))) aav)
   (aae (aaz (qe_ix (K:=K) (vi vcp) (qe_op q_mod (qe_op (q_add (K:=K)) (aai G_l_cell_at (hm hr) (qa_c (vi vcn) (qa_c aad aac))) (qe_op q_mul (vi vco) (vi vcq))) (qe_cB (q_len (K:=K)) T.b_len abw (qa_c (vi vcp) aac))))))))),?_⟩
  obtain ⟨a,ns,k,rfl,hS,hk,q⟩:=h;walk_at "rd";refine ⟨by decide,fun p np=>⟨a,ns,1,rfl,(Same.new np).seq hS,by decide,_,rfl,_,.inl (.of aaa),V.int (stO ns),(ai7 ns).1,mid (fun σ H2=>∃ z:Str,σ=[some (.ref a),some (.int k),some (.str z),some (.int (stO ns))]/\Same H H2/\z.cps.toList=listF (dgO ns)) ?_ ?_⟩⟩
  ·walk_at "rd";refine ⟨a,ns,1,rfl,(Same.new np).seq hS,by decide,_,rfl,iteD (fun e=>⟨by decide,Same.new np,?_⟩) fun e=>⟨Same.new np,?_⟩⟩
   ·unfold dgO;rw [decide_eq_true e];exact SB_eq
   ·unfold dgO;rw [decide_eq_false e];exact SA_eq
  rintro σ H2 ⟨z,rfl,S,hz⟩;have hst:=amC ns;have hzl:(z.length:Int)=lenF (dgO ns):=by rw [<- adi,<- hz];simp [Str.length]
  have hp:=aff (dgO ns);have hat:=(alc ns k).1;rw [<- hz,<- hzl] at hat;have hsz:z.length<=sizeLine:=aax (by walk_at "o");walk_at "rd";refine ⟨a,ns,0,rfl,S.seq hS,by decide,.inr ⟨by walk_at "o",by walk_at "o"⟩,?_⟩;walk_at "rd";exact ⟨hsz,by walk_at "o",hsz,_,hat,q _ S⟩
theorem sc_l_letters:FnScope ["_law_script", "_law_cell", "_law_many", "_law_found", "_law_k", "_law_number", "_law_piece", "_law_at"] ["_law_script"] (aaf aaw):=fsc
abbrev abn:List Str:=["_law_script", "_law_cell", "_law_many", "_law_found", "_law_k", "_law_number", "_law_piece", "_law_at"]
theorem vct:VS abn aaw "_law_script" 0:=vq
theorem vcu:VS abn aaw "_law_cell" 1:=vq
theorem vcv:VS abn aaw "_law_many" 2:=vq
theorem vcw:VS abn aaw "_law_found" 3:=vq
theorem vcx:VS abn aaw "_law_k" 4:=vq
theorem vcy:VS abn aaw "_law_number" 5:=vq
theorem vcz:VS abn aaw "_law_piece" 6:=vq
theorem vcA:VS abn aaw "_law_at" 7:=vq
theorem vcB:LS aaw "_law_cell":=lq
theorem vcC:LS aaw "_law_many":=lq
theorem vcD:LS aaw "_law_found":=lq
theorem vcE:LS aaw "_law_k":=lq
theorem vcF:LS aaw "_law_number":=lq
theorem vcG:LS aaw "_law_piece":=lq
theorem vcH:LS aaw "_law_at":=lq
theorem agp(F:FunD K "_law_letters" "_law_letters" aaw f fd)(T:Txt P w K mg C)(G_l_cell_at:FO P w K mg base 1 "_law_cell_at" ["_law_script", "_law_k"] [] (adr K))(G_l_sign:FO P w K mg base 2 "_law_sign" ["_law_script", "_law_k"] [] (spSgn K)):FnOk P w K mg base CX0 3 f fd ["_law_script"] (aeS K):=by
 refine F.ok sc_l_letters ?_ ?_
 ·rintro _ _ _ _ ⟨a,ns,rfl,_⟩;rfl
 ·intro cdv A outer s H vs Q E hr h;have hu1:=hu_of hr;have hu:=hr.units;refine ⟨_,QSs.out (aab (aam (n:=1) sc_l_letters.nd rfl vcB (aai G_l_cell_at (hm hr) (qa_c (vi vct) (qa_c aad aac))))
   (aab (aam (n:=2) sc_l_letters.nd rfl vcC (qe_op (q_add (K:=K)) aad (qe_op q_mod (vi vcu) aad)))
   (abi (qs_if (aao (q_eq (K:=K) hu) (qe_op q_mod (qe_op aaO (vi vcu) aad) aad) aad) (aae (aam (n:=2) sc_l_letters.nd rfl vcC (qe_op (q_add (K:=K)) (vi vcv) aad))) aav)
   (aab (ace (n:=3) sc_l_letters.nd rfl vcD (cok:CompOk ["_law_script", "_law_cell", "_law_many", "_law_found", "_law_k", "_law_number", "_law_piece", "_law_at"] (aaf aaw).names _ ["_law_k", "_law_script"] 1 [0]) (qi_r1 T.b_range (qa_c (vi vcv) aac)) (fun _ _ _ _ _=>aal (n:=0) (show List.Nodup (["_law_k", "_law_script"]:List Str) by decide +kernel) rfl (Or.inl rfl)) (fun _ _ _ _ _=>abT) (fun _ _ _ _ _=>(aai G_l_sign (hm hr) (qa_c (qv 1) (qa_c (qv 0) aac)))))
   (aab (aaW PassesOwn.never (qi_r1 T.b_range (qa_c (qe_op q_mod (qe_op aaO (vi vcu) aad) aad) aac)) (aal (n:=4) sc_l_letters.nd rfl vcE (.inl rfl)) (aab (aam (n:=5) sc_l_letters.nd rfl vcF (qe_op q_mod (qe_op q_mul (qe_op aaO (vi vcu) aad) (qe_ix (K:=K) (aa5 (qa_c aad (qa_c aad (qa_c aad aac)))) (vi vcx))) aad))
   (aab (aam (n:=6) sc_l_letters.nd rfl vcG (qe_op (q_add (K:=K)) (aai G_l_sign (hm hr) (qa_c (vi vct) (qa_c (qe_op q_mod (vi vcy) (vi vcv)) aac))) (aai G_l_sign (hm hr) (qa_c (vi vct) (qa_c (qe_op q_mod (qe_op aaO (vi vcy) aad) (vi vcv)) aac)))))
   (aab (aam (n:=7) sc_l_letters.nd rfl vcH (qe_op q_mod (qe_op aaO (vi vcy) aad) (qe_op (q_add (K:=K)) (qe_cB (q_len (K:=K)) T.b_len abw (qa_c (vi vcw) aac)) aad)))
   (aae (qs_if (aao (afa (K:=K) hu) (vi vcz) (vi vcw)) (aae (aam (n:=3) sc_l_letters.nd rfl vcD (qe_op (q_add (K:=K)) (qe_op (q_add (K:=K)) (aaD (K:=K) (vi vcw) abv (aaC (vi vcA))) (aa5 (qa_c (vi vcz) aac))) (aaD (K:=K) (vi vcw) (aaC (vi vcA)) abv)))) aav))))))
   (aae (aaz (vi vcw)))))))),?_⟩
  obtain ⟨a,ns,rfl,hS,q⟩:=h;walk_at "rd";refine ⟨a,ns,2,rfl,hS,by decide,?_⟩;generalize cellF ns 2=c;walk_at "rd";refine mid (fun σ H2=>∃ n:Int,σ=[some (.ref a),some (.int c),some (.int n),none,none,none,none,none]/\H2=H/\2<=n/\n<=16) ?_ ?_
  ·walk_at "rd";exact iteD (fun _=>by walk_at "o") fun _=>by walk_at "o"
  rintro σ H2 ⟨n,rfl,rfl,hn0,hn1⟩;walk_at "rd";refine ⟨by walk_at "o",by walk_at "o",compR [some (.ref a)] rfl (fun D j ys H4=>ys=(sgL ns j).map V.str/\Same H2 H4) (fun D nD=>⟨rfl,Same.new nD⟩) ?_ ?_⟩
  ·rintro D i ys H4 nD hi ⟨rfl,S4⟩ hD hyl;walk_at "rd";refine ⟨a,ns,_,rfl,S4.seq hS,by walk_at "o",fun H5 S5=>⟨S5 _ _ hD,qbu hyl (qau hi (aax (by walk_at "o"))),⟨hi,by rw [qa1,qag];walk_at "o",⟨_,rfl⟩,by rw [ahn,qa4,qbM];rfl,(S4.trans S5).put nD⟩⟩⟩
  rintro D ys H4 nD ⟨rfl,S4⟩ hD hyl;refine ⟨by walk_at "o",by walk_at "o",forR (fun i σ H5=>∃ (l:Addr) (ps:List Str) (u v w x:Option V),σ=[some (.ref a),some (.int c),some (.int n),some (.ref l),u,v,w,x]/\LetI ns H2 H5 l ps i/\LetW ns n ps) ⟨D,_,none,none,none,none,rfl,⟨nD,S4,hD,(ajp ns n.toNat (by walk_at "o")).wide fun k hk=>⟨hk.1,by walk_at "o"⟩,⟨n,alg hn0 hn1⟩,by rw [ajo];walk_at "o",by rw [ajo];walk_at "o"⟩,alg hn0 hn1⟩ ?_ ?_⟩
  ·rintro i σ H5 hi ⟨l,ps,u,v,w,x,rfl,J,JW⟩;walk_at "rd";obtain ⟨m,hm,hm0⟩:=mul3 (i:=i) (by walk_at "o");refine ⟨by decide,fun p np=>⟨_,.inl (.of aaa),V.int m,hm,?_⟩⟩;have S6:Same H5 (upd H5 p (HO.lst [V.int 48271,V.int 69621,V.int 16807])):=Same.new np;generalize upd H5 p (HO.lst [V.int 48271,V.int 69621,V.int 16807])=H6 at S6 ⊢
   walk_at "rd";refine ⟨.inr ⟨by walk_at "o",by walk_at "o"⟩,?_⟩;generalize c / 20*m % 2147483647=N;have a1:=qaZ N (show n≠0 by walk_at "o");have a2:=qaT N (show 0<n by walk_at "o");have b1:=qaZ (N / 7) (show n≠0 by walk_at "o");have b2:=qaT (N / 7) (show 0<n by walk_at "o");have S6':=J.same.trans S6;refine ⟨by walk_at "o",a,ns,_,rfl,S6'.seq hS,a1,fun H7 S7=>⟨by walk_at "o",a,ns,_,rfl,(S6'.trans S7).seq hS,b1,fun H8 S8=>?_⟩⟩;have h8:=S8 _ _ (S7 _ _ (S6 _ _ J.lst));have S8':=S6'.trans (S7.trans S8);have hpc:PcS ns LetS (one (sgO ns (N % n))++one (sgO ns (N / 7 % n))):=⟨N % n,⟨a1,by walk_at "o"⟩,uai ns _ _⟩
   have hjl:=J.hi;obtain ⟨t,ht,htl⟩:∃ t:Nat,N / 49 % ((ps.length:Int)+1)=(t:Int)/\t<=ps.length:=⟨(N / 49 % ((ps.length:Int)+1)).toNat,by
    have:=qaZ (N / 49) (show (ps.length:Int)+1≠0 by walk_at "o")
    walk_at "o",by
    have:=qaT (N / 49) (show 0<(ps.length:Int)+1 by walk_at "o")
    walk_at "o"⟩
   walk_at "rd";refine ⟨by show 1+1<=sizeLine;decide,ps.length,.inl ⟨_,.of h8,by rw [qa0]⟩,by walk_at "o",rInR.l (.inl (.of h8)) rfl (afR _) ⟨_,rfl,?_⟩⟩;rw [adN,Bool.true_xor,ht];have hpw:∃ k:Int,0<=k/\k<n/\(one (sgO ns (N % n))++one (sgO ns (N / 7 % n))=one (sgO ns k)\/∃ m:Int,0<=m/\m<n/\one (sgO ns (N % n))++one (sgO ns (N / 7 % n))=one (sgO ns k)++one (sgO ns m)):=⟨N % n,a1,a2,.inr ⟨N / 7 % n,b1,b2,rfl⟩⟩
   generalize one (sgO ns (N % n))++one (sgO ns (N / 7 % n))=pc at hpc hpw ⊢
   refine iteN (fun hnew=>rSlR.l (.of h8) fun q2 nq2=>?_) fun hold=>⟨ps,⟨J.new,S8',h8,J.dis,J.wd,J.lo,by walk_at "o"⟩,JW⟩
   rw [afc,<- qbx];refine ⟨by decide,fun q3 nq3=>?_⟩;walk_at "rd";refine rAddR.l (aag aaa nq3) aaa (by rw [qa0,qaf,qag];exact aax (by walk_at "o")) fun q4 nq4=>?_
   refine rSlR.l (.of (aag (aag (aag h8 nq2) nq3) nq4)) fun q5 nq5=>?_
   rw [abC,<- qbD];walk_at "rd";refine rAddR.l (aag aaa nq5) aaa (by rw [qa1,qa0,qa0,qaf,qaW,qag];exact aax (by walk_at "o")) fun q6 nq6=>?_
   have S9:=S8'.trans ((Same.new nq2).trans ((Same.new nq3).trans ((Same.new nq4).trans (Same.new (u:=HO.lst ((ps.drop t).map V.str)) nq5))));refine ⟨q6,rfl,ps.take t++[pc]++ps.drop t,⟨S9.free nq6,S9.trans (Same.new nq6),?_,Dis.ins (fun k hk=>by unfold LetS at hk;walk_at "o") J.dis hpc hnew,⟨n,JW.ins hpw⟩,?_,?_⟩,JW.ins hpw⟩
   ·rw [aaa,qa4,qa4];rfl
   ·have:=J.lo
    simp only [qa1,qaf,qaW,qag];walk_at "o"
   ·simp only [qa1,qaf,qaW,qag];walk_at "o"
  rintro σ H5 ⟨l,ps,u,v,w,x,rfl,J,_⟩;walk_at "rd";exact q l ps H5 ⟨J.new,J.same,J.lst,J.dis,J.wd,J.lo,by have:=J.hi;walk_at "o"⟩
theorem ajJ:FnScope ["_law_letters_here", "_law_marks", "_law_number", "_law_first"] ["_law_letters_here", "_law_marks", "_law_number", "_law_first"] (aaf acz):=fsc
abbrev adX:List Str:=["_law_letters_here", "_law_marks", "_law_number", "_law_first"]
theorem vcI:VS adX acz "_law_letters_here" 0:=vq
theorem vcJ:VS adX acz "_law_marks" 1:=vq
theorem vcK:VS adX acz "_law_number" 2:=vq
theorem vcL:VS adX acz "_law_first" 3:=vq
theorem ajK(F:FunD K "_law_part" "_law_part" acz f fd)(T:Txt P w K mg C):FnOk P w K mg base CX0 1 f fd ["_law_letters_here", "_law_marks", "_law_number", "_law_first"] (alh K):=by
 refine F.ok ajJ ?_ ?_
 ·rintro _ _ _ _ ⟨l,m,n,b,ls,ms,rfl,_⟩;rfl
 ·intro cdv A outer s H vs Q E hr h;have hu1:=hu_of hr;have hu:=hr.units;refine ⟨_,QSs.out (aab (qs_if (QW.pt (qw_or (ab7 (K:=K) (vi vcL)) (qw_or (aao (q_eq (K:=K) hu) (vi vcJ) (aa5 aac)) (ag9 (aao (q_eq (K:=K) hu) (qe_op q_mod (vi vcK) aad) aad))))) (aae (aaz (qe_ix (K:=K) (vi vcI) (qe_op q_mod (qe_op aaO (vi vcK) aad) (qe_cB (q_len (K:=K)) T.b_len abw (qa_c (vi vcI) aac)))))) aav)
   (aae (aaz (qe_ix (K:=K) (vi vcJ) (qe_op q_mod (qe_op aaO (vi vcK) aad) (qe_cB (q_len (K:=K)) T.b_len abw (qa_c (vi vcJ) aac))))))),?_⟩
  obtain ⟨l,m,n,b,ls,ms,rfl,hl,hm,h1,h2,h3,hok,q⟩:=h;walk_at "rd"
  cases b with
  | true=>exact pickL hl h1 fun p hp=>q p H (uah H) (.inl hp)
  | false=>
   intro p np;have S:Same H (upd H p (.lst [])):=Same.new np;have hp:upd H p (.lst []) p=some (.lst (([]:List Str).map V.str)):=aaa;generalize upd H p (.lst [])=H1 at S hp ⊢
   refine ⟨_,.lst (.of (S _ _ hm)) (uad hok),_,.lst (.of hp) (uad (by simp)),by rw [qbt,acd];exact qan (Nat.min_le_left _ _) (by decide),?_⟩;rw [ag8];refine iteD (fun e=>pickL (S _ _ hl) h1 fun p hp=>q p H1 S (.inl hp)) fun e=>iteD (fun _=>pickL (S _ _ hl) h1 fun p hp=>q p H1 S (.inl hp)) fun _=>pickL (S _ _ hm) ?_ fun p hp=>q p H1 S (.inr ⟨rfl,hp⟩)
   cases ms with
   | nil=>exact absurd rfl e
   | cons x xs=>simp
theorem akS:FnScope ["_law_script", "_law_k", "_law_cell"] ["_law_script", "_law_k", "_law_cell"] (aaf adu):=fsc
abbrev agW:List Str:=["_law_script", "_law_k", "_law_cell"]
theorem vcM:VS agW adu "_law_script" 0:=vq
theorem vcN:VS agW adu "_law_k" 1:=vq
theorem vcO:VS agW adu "_law_cell" 2:=vq
theorem akT(F:FunD K "_law_two" "_law_two" adu f fd)(T:Txt P w K mg C)(G_l_sign:FO P w K mg base 2 "_law_sign" ["_law_script", "_law_k"] [] (spSgn K)):FnOk P w K mg base CX0 3 f fd ["_law_script", "_law_k", "_law_cell"] (spTwo K):=by
 refine F.ok akS ?_ ?_
 ·rintro _ _ _ _ ⟨a,ns,k,c,rfl,_⟩;rfl
 ·intro cdv A outer s H vs Q E hr h;have hu1:=hu_of hr;have hu:=hr.units;refine ⟨_,QSs.out (aab (qs_if (aao (q_eq (K:=K) hu) (qe_op q_mod (qe_op aaO (vi vcO) (qe_op (q_add (K:=K)) (qe_op q_mod (vi vcN) aad) aad)) aad) aad) (aae (aaz (qe_op (q_add (K:=K)) (aai G_l_sign (hm hr) (qa_c (vi vcM) (qa_c (vi vcN) aac))) (aai G_l_sign (hm hr) (qa_c (vi vcM) (qa_c (qe_op q_mod (qe_op aaO (vi vcO) aad) aad) aac)))))) aav)
   (aae (aaz (aai G_l_sign (hm hr) (qa_c (vi vcM) (qa_c (vi vcN) aac)))))),?_⟩
  obtain ⟨a,ns,k,c,rfl,hS,hk,q⟩:=h;walk_at "rd";refine ⟨by walk_at "o",by walk_at "o",iteD (fun _=>⟨a,ns,_,rfl,hS,hk,fun H1 S1=>⟨a,ns,_,rfl,S1.seq hS,by walk_at "o",fun H2 S2=>?_⟩⟩) fun _=>⟨a,ns,_,rfl,hS,hk,fun H1 S1=>q _ H1 S1 (uac ns k)⟩⟩;walk_at "rd";exact ⟨by show 1+1<=sizeLine;decide,q _ H2 (S1.trans S2) (uai ns k _)⟩
theorem sc_l_others:FnScope ["_law_script", "_law_letters_here", "_law_marks", "_law_cell", "_law_rules_here", "_law_k", "_law_form", "_law_rule", "_law_j", "_law_number", "_law_pieces_here"] ["_law_script", "_law_letters_here", "_law_marks"] (aaf aat):=fsc
abbrev aba:List Str:=["_law_script", "_law_letters_here", "_law_marks", "_law_cell", "_law_rules_here", "_law_k", "_law_form", "_law_rule", "_law_j", "_law_number", "_law_pieces_here"]
theorem vcP:VS aba aat "_law_script" 0:=vq
theorem vcQ:VS aba aat "_law_letters_here" 1:=vq
theorem vcR:VS aba aat "_law_marks" 2:=vq
theorem vcS:VS aba aat "_law_cell" 3:=vq
theorem vcT:VS aba aat "_law_rules_here" 4:=vq
theorem vcU:VS aba aat "_law_k" 5:=vq
theorem vcV:VS aba aat "_law_form" 6:=vq
theorem vcW:VS aba aat "_law_rule" 7:=vq
theorem vcX:VS aba aat "_law_j" 8:=vq
theorem vcY:VS aba aat "_law_number" 9:=vq
theorem vcZ:VS aba aat "_law_pieces_here" 10:=vq
theorem vc0:LS aat "_law_cell":=lq
theorem vc1:LS aat "_law_rules_here":=lq
theorem vc2:LS aat "_law_k":=lq
theorem vc3:LS aat "_law_form":=lq
theorem vc4:LS aat "_law_rule":=lq
theorem vc5:LS aat "_law_j":=lq
theorem vc6:LS aat "_law_number":=lq
theorem vc7:LS aat "_law_pieces_here":=lq
theorem agX(F:FunD K "_law_others" "_law_others" aat f fd)(T:Txt P w K mg C)(G_l_cell_at:FO P w K mg base 1 "_law_cell_at" ["_law_script", "_law_k"] [] (adr K))(G_l_sign:FO P w K mg base 2 "_law_sign" ["_law_script", "_law_k"] [] (spSgn K))(G_l_part:FO P w K mg base 1 "_law_part" ["_law_letters_here", "_law_marks", "_law_number", "_law_first"] [] (alh K))(G_l_two:FO P w K mg base 3 "_law_two" ["_law_script", "_law_k", "_law_cell"] [] (spTwo K)):FnOk P w K mg base CX0 4 f fd ["_law_script", "_law_letters_here", "_law_marks"] (aho K):=by
 refine F.ok sc_l_others ?_ ?_
 ·rintro _ _ _ _ ⟨a,b,c,ns,ls,ms,rfl,_⟩;rfl
 ·intro cdv A outer s H vs Q E hr h;have hu1:=hu_of hr;have hu:=hr.units;refine ⟨_,QSs.out (aab (aam (n:=3) sc_l_others.nd rfl vc0 (qe_op aaO (aai G_l_cell_at (hm hr) (qa_c (vi vcP) (qa_c aad aac))) aad))
   (aab (aam (n:=4) sc_l_others.nd rfl vc1 (aa5 aac))
   (aab (aaW PassesOwn.never (qi_r1 T.b_range (qa_c (qe_op q_mod (vi vcS) aad) aac)) (aal (n:=5) sc_l_others.nd rfl vc2 (.inl rfl)) (aab (aam (n:=6) sc_l_others.nd rfl vc3 (aai G_l_sign (hm hr) (qa_c (vi vcP) (qa_c (qe_op (q_add (K:=K)) aad (vi vcU)) aac))))
   (abi (qs_if (aao (q_eq (K:=K) hu) (qe_op q_mod (qe_op aaO (qe_op aaO (vi vcS) aad) (qe_op (q_add (K:=K)) (vi vcU) aad)) aad) aad) (aae (aam (n:=6) sc_l_others.nd rfl vc3 (qe_op (q_add (K:=K)) (vi vcV) (aai G_l_sign (hm hr) (qa_c (vi vcP) (qa_c (qe_op q_mod (qe_op aaO (vi vcS) aad) aad) aac)))))) aav)
   (aab (aam (n:=7) sc_l_others.nd rfl vc4 (abd (qa_c aaA (qa_c (qe_ix (K:=K) (vi vcQ) (qe_op q_mod (qe_op aaO (qe_op aaO (vi vcS) aad) (qe_op (q_add (K:=K)) (vi vcU) aad)) (qe_cB (q_len (K:=K)) T.b_len abw (qa_c (vi vcQ) aac)))) (qa_c (vi vcV) aac)))))
   (abi (qs_if (aao (q_eq (K:=K) hu) (qe_op q_mod (qe_op aaO (qe_op aaO (vi vcS) aad) (qe_op (q_add (K:=K)) (vi vcU) aad)) aad) aad) (aae (aam (n:=7) sc_l_others.nd rfl vc4 (qe_op (q_add (K:=K)) (vi vcW) (abd (qa_c (aai G_l_sign (hm hr) (qa_c (vi vcP) (qa_c (qe_op (q_add (K:=K)) aad (vi vcU)) aac))) aac))))) aav)
   (aae (aa0 (qe_mB (K:=K) qal qap qao aaZ (vi vcT) (qa_c (vi vcW) aac)))))))))
   (aab (aam (n:=3) sc_l_others.nd rfl vc0 (aai G_l_cell_at (hm hr) (qa_c (vi vcP) (qa_c aad aac))))
   (aab (aaW PassesOwn.never (qi_r1 T.b_range (qa_c (qe_op q_mod (vi vcS) aad) aac)) (aal (n:=5) sc_l_others.nd rfl vc2 (.inl rfl)) (aab (aam (n:=7) sc_l_others.nd rfl vc4 (abd (qa_c aaA (qa_c (aai G_l_two (hm hr) (qa_c (vi vcP) (qa_c (qe_op (q_add (K:=K)) aad (vi vcU)) (qa_c (qe_op aaO (vi vcS) aad) aac)))) aac))))
   (aab (aaW PassesOwn.never (qi_r1 T.b_range (qa_c (qe_op (q_add (K:=K)) aad (qe_op q_mod (qe_op aaO (qe_op aaO (vi vcS) aad) (qe_op (q_add (K:=K)) (vi vcU) aad)) aad)) aac)) (aal (n:=8) sc_l_others.nd rfl vc5 (.inl rfl)) (aab (aam (n:=9) sc_l_others.nd rfl vc6 (qe_op q_mod (qe_op q_mul (qe_op aaO (vi vcS) aad) (qe_ix (K:=K) (aa5 (qa_c aad (qa_c aad (qa_c aad aac)))) (vi vcX))) (qe_op q_sub aad (vi vcU))))
   (aae (aam (n:=7) sc_l_others.nd rfl vc4 (qe_op (q_add (K:=K)) (vi vcW) (abd (qa_c (aai G_l_part (hm hr) (qa_c (vi vcQ) (qa_c (vi vcR) (qa_c (vi vcY) (qa_c (acE (q_eq (K:=K) hu) (vi vcX) aad) aac))))) aac)))))))
   (aae (aa0 (qe_mB (K:=K) qal qap qao aaZ (vi vcT) (qa_c (vi vcW) aac)))))))
   (abi (qs_if (aao q_gt (qe_op q_mod (qe_op aaO (vi vcS) aad) aad) aad) (aab (ace (n:=10) sc_l_others.nd rfl vc7 (cok:CompOk ["_law_script", "_law_letters_here", "_law_marks", "_law_cell", "_law_rules_here", "_law_k", "_law_form", "_law_rule", "_law_j", "_law_number", "_law_pieces_here"] (aaf aat).names _ ["_law_k", "_law_script", "_law_cell"] 1 [0,3]) (qi_r1 T.b_range (qa_c (qe_op q_mod (qe_op aaO (vi vcS) aad) aad) aac)) (fun _ _ _ _ _=>aal (n:=0) (show List.Nodup (["_law_k", "_law_script", "_law_cell"]:List Str) by decide +kernel) rfl (Or.inl rfl)) (fun _ _ _ _ _=>abT) (fun _ _ _ _ _=>(aai G_l_two (hm hr) (qa_c (qv 1) (qa_c (qe_op (q_add (K:=K)) aad (qv 0)) (qa_c (qe_op aaO (qv 2) aad) aac))))))
   (aae (aa0 (qe_mB (K:=K) qal qap qao aaZ (vi vcT) (qa_c (qe_op (q_add (K:=K)) (abd (qa_c aaA aac)) (qe_cT (afb (K:=K)) T.b_tuple adM (qa_c (vi vcZ) aac))) aac))))) aav)
   (aae (aaz (vi vcT))))))))),?_⟩
  obtain ⟨a,b,c,ns,ls,ms,rfl,hS,hb,hc,h1,h2,h3,hok,q⟩:=h;walk_at "rd";refine ⟨a,ns,3,rfl,hS,by decide,_,rfl,fun r nr=>?_⟩;generalize cellF ns 3 / 5=c3;refine ⟨by walk_at "o",by walk_at "o",forR (fun i σ H2=>∃ (v w x y z z2:Option V) (ts:List Addr) (R:List Rl),σ=[some (.ref a),some (.ref b),some (.ref c),some (.int c3),some (.ref r),v,w,x,y,z,z2]/\RulesAt H H2 r ts R/\OthI ns ls ms (GS i) i R)
   ⟨none,none,none,none,none,none,[],[],rfl,⟨⟨aaa,.nil⟩,by simp,fun t ht=>by rw [qa7.mp ht];exact nr,Same.new nr⟩,⟨Dis.nil,by simp,by simp⟩⟩ ?_ ?_⟩
  ·rintro i σ H2 hi ⟨v,w,x,y,z,z2,ts,R,rfl,RA,J⟩;walk_at "rd";refine ⟨a,ns,_,rfl,RA.same.seq hS,by walk_at "o",fun H3 S3=>mid (fun σ H4=>∃ f:Str,σ=[some (.ref a),some (.ref b),some (.ref c),some (.int c3),some (.ref r),some (.int (0+(i:Int))),some (.str f),x,y,z,z2]/\Same H3 H4/\PcI ns (30+(0+(i:Int))) f) ?_ ?_⟩
   ·walk_at "rd";refine ⟨by walk_at "o",by walk_at "o",iteD (fun _=>⟨a,ns,_,rfl,(RA.same.trans S3).seq hS,by walk_at "o",fun H4 S4=>?_⟩) fun _=>⟨uah _,uac ns _⟩⟩;walk_at "rd";exact ⟨by show 1+1<=sizeLine;decide,S4,uai ns _ _⟩
   rintro σ H4 ⟨f,rfl,S4,hf⟩;have S24:=S3.trans S4;walk_at "rd";obtain ⟨l,hl,hat⟩:=pickA (c3 / 4 / (0+(i:Int)+2)) h1;have hb4:=RA.same.trans S24 _ _ hb;refine ⟨by walk_at "o",by walk_at "o",ls.length,.inl ⟨_,.of hb4,by rw [qa0]⟩,by walk_at "o",_,.inl (.of hb4),_,hat,by decide,fun t nt=>mid (fun σ H5=>∃ (t:Addr) (fs:List Str),σ=[some (.ref a),some (.ref b),some (.ref c),some (.int c3),some (.ref r),some (.int (0+(i:Int))),some (.str f),some (.ref t),y,z,z2]/\Same H4 H5/\H5 t=some (tupR ("great",l::fs))/\H4 t=none/\(fs=[f]\/∃ f2,fs=[f,f2]/\PcI ns (34+(0+(i:Int))) f2)) ?_ ?_⟩
   ·have S5:Same H4 (upd H4 t (HO.tup [V.str (Str.ofString "great"),V.str l,V.str f])):=Same.new nt;have ht:upd H4 t (HO.tup [V.str (Str.ofString "great"),V.str l,V.str f]) t=some (HO.tup [V.str (Str.ofString "great"),V.str l,V.str f]):=aaa;generalize upd H4 t (HO.tup [V.str (Str.ofString "great"),V.str l,V.str f])=H5 at S5 ht ⊢
    walk_at "rd";refine ⟨by walk_at "o",by walk_at "o",iteD (fun _=>⟨a,ns,_,rfl,(RA.same.trans (S24.trans S5)).seq hS,by walk_at "o",fun H6 S6=>⟨by decide,fun p np=>rAddR.t (.of (aag (S6 _ _ ht) np)) (.of aaa) (by simp) (by show 3+1<=sizeLine;decide) (by simp) fun _ t2 nt2=>?_⟩⟩) fun _=>⟨S5,[f],ht,nt,.inl rfl⟩⟩;have S7:=S5.trans (S6.trans (Same.new (u:=HO.tup [V.str (one (sgO ns (34+(0+(i:Int)))))]) np));exact ⟨t2,rfl,S7.trans (Same.new nt2),[f,one (sgO ns (34+(0+(i:Int))))],aaa,S7.free nt2,.inr ⟨_,rfl,uac ns _⟩⟩
   rintro σ H5 ⟨t,fs,rfl,S5,ht,nt,hfs⟩;have hr5:=S5 _ _ (S24 _ _ RA.rows.top);have hjl:=J.len;walk_at "rd";refine ⟨tyL hr5,appOk hr5 (by rw [qa0,RA.rows.len];exact aaq (by walk_at "o")) ⟨_,_,RA.grow (S24.trans S5) (S24.free nt) ht,?_⟩⟩;rw [qbM] at hf hfs;refine J.add (ajq hl (hfs.imp id fun ⟨f2,e,_⟩=>⟨f2,e⟩)) (ajr (by walk_at "o") (by walk_at "o") hf hfs) (fun k hk=>?_) (fun k hk=>by walk_at "o") (fun k hk e=>?_) fun k hk=>?_
   ·unfold GS at hk;walk_at "o"
   ·unfold GS at hk;walk_at "o"
   ·unfold GS at hk ⊢;walk_at "o"
  rintro σ H2 ⟨v,w,x,y,z,z2,ts,R,rfl,RA,J⟩;have J:OthI ns ls ms (AS 0) 3 R:=⟨J.dis.wide fun k hk=>by unfold AS;unfold GS at hk ⊢;walk_at "o",J.each,by have:=J.len;walk_at "o"⟩
  walk_at "rd";refine ⟨a,ns,4,rfl,RA.same.seq hS,by decide,?_⟩;generalize cellF ns 4=c4;walk_at "rd";refine ⟨by walk_at "o",by walk_at "o",forR (fun i σ H3=>∃ (v w x y z z2:Option V) (ts:List Addr) (R:List Rl),σ=[some (.ref a),some (.ref b),some (.ref c),some (.int c4),some (.ref r),v,w,x,y,z,z2]/\RulesAt H H3 r ts R/\OthI ns ls ms (AS i) (3+i) R) ⟨v,w,x,y,z,z2,ts,R,rfl,RA,J⟩ ?_ ?_⟩
  ·clear RA J v w x y z z2;rintro i σ H3 hi ⟨v,w,x,y,z,z2,ts,R,rfl,RA,J⟩;walk_at "rd";refine ⟨a,ns,_,_,rfl,RA.same.seq hS,by walk_at "o",fun p H4 S4 hp=>⟨by decide,fun t nt=>?_⟩⟩;refine ⟨by walk_at "o",by walk_at "o",by walk_at "o",by walk_at "o",forR (fun j σ H5=>∃ (t:Addr) (qs:List Str) (y z:Option V),σ=[some (.ref a),some (.ref b),some (.ref c),some (.int c4),some (.ref r),some (.int (0+(i:Int))),w,some (.ref t),y,z,z2]/\AsR ls ms H4 H5 t p qs j) ⟨t,[],y,z,rfl,Same.new nt,aaa,nt,rfl,by simp⟩ ?_ ?_⟩
   ·rintro j σ H5 hj ⟨t,qs,y,z,rfl,A⟩;walk_at "rd";obtain ⟨m,hm,hm0⟩:=mul3 (i:=j) (by walk_at "o");refine ⟨by decide,fun p1 np=>⟨_,.inl (.of aaa),V.int m,hm,?_⟩⟩;have S6:Same H5 (upd H5 p1 (HO.lst [V.int 48271,V.int 69621,V.int 16807])):=Same.new np;generalize upd H5 p1 (HO.lst [V.int 48271,V.int 69621,V.int 16807])=H6 at S6 ⊢
    walk_at "rd";have SS:=RA.same.trans (S4.trans (A.same.trans S6));have hql:=A.len;refine ⟨.inr ⟨by walk_at "o",by walk_at "o"⟩,by walk_at "o",b,c,_,_,ls,ms,rfl,SS _ _ hb,SS _ _ hc,h1,h2,h3,hok,fun q H7 S7 hq=>⟨by decide,fun p2 np2=>?_⟩⟩;have ht7:upd H7 p2 (HO.tup [V.str q]) t=some (tupR ("as",p::qs)):=aag (S7 _ _ (S6 _ _ A.tup)) np2;have S8:Same H5 (upd H7 p2 (HO.tup [V.str q])):=S6.trans (S7.trans (Same.new np2));have hp2:upd H7 p2 (HO.tup [V.str q]) p2=some (HO.tup [V.str q]):=aaa;generalize upd H7 p2 (HO.tup [V.str q])=H8 at ht7 S8 hp2 ⊢
    refine rAddR.t (.of ht7) (.of hp2) (by simp) (by simp only [qa0,qad,qaG];exact aax (by walk_at "o")) (by simp) fun _ t2 nt2=>⟨t2,rfl,qs++[q],A.same.trans (S8.trans (Same.new nt2)),?_,(A.same.trans S8).free nt2,by rw [qa1,hql];rfl,fun k x hk=>?_⟩
    ·rw [aaa];show some (HO.tup _)=some (HO.tup _)
     simp
    ·by_cases hkl:k<qs.length
     ·rw [qb2 hkl] at hk;exact A.ok k x hk
     ·rw [qaR (by walk_at "o")] at hk;have hk1:k-qs.length=0:=by
       have:=(qa5.mp hk).1
       rw [qag] at this;walk_at "o"
      rw [hk1] at hk;have hx:q=x:=by simpa using hk
      subst hx;refine hq.imp id fun ⟨e,hm⟩=>⟨?_,hm⟩
      have:¬ (0+(j:Int)=0):=by simpa using e
      walk_at "o"
   rintro σ H5 ⟨t,qs,y,z,rfl,A⟩;have hr5:=A.same _ _ (S4 _ _ RA.rows.top);have hjl:=J.len;walk_at "rd";refine ⟨tyL hr5,appOk hr5 (by rw [qa0,RA.rows.len];exact aaq (by walk_at "o")) ⟨_,_,RA.grow (S4.trans A.same) (S4.free A.new) A.tup,?_⟩⟩;rw [qbM] at hp;refine J.add (A.oth (by walk_at "o") (by walk_at "o")) (T:=fun k=>k=40+(i:Int)) (by rw [aaT.2.1 rfl];exact uaf hp) (fun k hk=>?_) (fun k hk=>by walk_at "o") (fun k hk e=>?_) fun k hk=>?_
   ·unfold AS GS at hk;walk_at "o"
   ·unfold AS GS at hk;walk_at "o"
   ·rcases hk with (hk | hk) | hk
    ·exact .inl hk
    ·exact .inr ⟨by walk_at "o",by walk_at "o"⟩
    ·exact .inr ⟨by walk_at "o",by walk_at "o"⟩
  rintro σ H3 ⟨v,w,x,y,z,z2,ts,R,rfl,RA,J⟩;walk_at "rd";refine mid (fun σ H4=>∃ (v w x y z z2:Option V) (ts:List Addr) (R:List Rl),σ=[some (.ref a),some (.ref b),some (.ref c),some (.int c4),some (.ref r),v,w,x,y,z,z2]/\RulesAt H H4 r ts R/\OthI ns ls ms OS 7 R) ?_ ?_
  ·walk_at "rd";have hjl:=J.len;have J3:OthI ns ls ms (AS 3) 6 R:=⟨J.dis.wide fun k hk=>hk.imp id fun h=>⟨h.1,by walk_at "o"⟩,J.each,by walk_at "o"⟩
   refine iteD (fun _=>⟨by walk_at "o",by walk_at "o",compR [some (.ref a),some (.int c4)] rfl (fun D j ys H4=>∃ ps:List Str,ys=ps.map V.str/\Same H3 H4/\Dis ns (fun k=>50<=k/\k<50+(j:Int)) ps/\ps.length=j) (fun D nD=>⟨[],rfl,Same.new nD,Dis.nil,rfl⟩) ?_ ?_⟩) fun _=>⟨ts,R,RA,⟨J3.dis.wide fun k hk=>.inl hk,J3.each,by walk_at "o"⟩⟩
   ·rintro D i ys H4 nD hi ⟨ps,rfl,S4,ds,hpl⟩ hD hyl;walk_at "rd";refine ⟨a,ns,_,_,rfl,(RA.same.trans S4).seq hS,by walk_at "o",fun p H5 S5 hp=>⟨S5 _ _ hD,qbu hyl (qau hi (aax (by walk_at "o"))),⟨hi,by rw [qa1,qag];walk_at "o",⟨_,rfl⟩,ps++[p],by rw [qa4];rfl,(S4.trans S5).put nD,?_,by rw [qa1,hpl];rfl⟩⟩⟩;rw [qbM] at hp;exact (ds.cat (uaf hp) (fun k hk=>by walk_at "o") (fun k hk=>by walk_at "o") (fun k hk e=>by walk_at "o")).wide fun k hk=>by
     rcases hk with hk | hk <;> walk_at "o"
   rintro D ys H4 nD ⟨ps,rfl,S4,ds,hpl⟩ hD hyl;have hr4:=S4 _ _ RA.rows.top;refine ⟨tyL hr4,by decide,fun p np=>?_⟩;have S5:Same H4 (upd H4 p (HO.tup [V.str (Str.ofString "over")])):=Same.new np;have hp5:upd H4 p (HO.tup [V.str (Str.ofString "over")]) p=some (HO.tup [V.str (Str.ofString "over")]):=aaa;generalize upd H4 p (HO.tup [V.str (Str.ofString "over")])=H5 at S5 hp5 ⊢
   walk_at "rd";refine rTupR.l (.of (S5 _ _ hD)) fun t2 nt2=>?_
   walk_at "rd";have hpn:ps≠[]:=fun e=>by rw [e] at hpl;simp at hpl;walk_at "o"
   refine rAddR.t (.of (aag hp5 nt2)) (.of aaa) (by simp) (by simp only [qa0,qad,qaG];exact aax (by walk_at "o")) (fun e=>absurd (List.map_eq_nil_iff.mp e) hpn) fun _ t3 nt3=>?_
   have S6:=S4.trans (S5.trans (Same.new (u:=HO.tup (ps.map V.str)) nt2));have S7:=S6.trans (Same.new (u:=HO.tup ([V.str (Str.ofString "over")]++ps.map V.str)) nt3);refine appOk (S7 _ _ RA.rows.top) (by rw [qa0,RA.rows.len];exact aaq (by walk_at "o")) ⟨_,_,RA.grow S7 (S6.free nt3) (z:=("over",ps)) aaa,?_⟩;refine J3.add (.inr (.inr ⟨rfl,by show ps.length<=2;walk_at "o"⟩)) (T:=fun k=>50<=k/\k<52) (by rw [aaT.2.2 (.inr (.inr rfl))];exact ds.wide fun k hk=>⟨hk.1,by walk_at "o"⟩) (fun k hk=>?_) (fun k hk=>by walk_at "o") (fun k hk e=>?_) fun k hk=>hk
   ·unfold AS GS at hk;walk_at "o"
   ·unfold AS GS at hk;walk_at "o"
  rintro σ H4 ⟨v,w,x,y,z,z2,ts,R,rfl,RA,J⟩;walk_at "rd";exact q r ts R H4 RA J
theorem sc_l_rules:FnScope ["_law_script", "_law_letters_here", "_law_cell", "_law_marks", "_law_rules_here", "_law_at"] ["_law_script"] (aaf aaY):=fsc
abbrev acm:List Str:=["_law_script", "_law_letters_here", "_law_cell", "_law_marks", "_law_rules_here", "_law_at"]
theorem vc8:VS acm aaY "_law_script" 0:=vq
theorem vc9:VS acm aaY "_law_letters_here" 1:=vq
theorem vda:VS acm aaY "_law_cell" 2:=vq
theorem vdb:VS acm aaY "_law_marks" 3:=vq
theorem vdc:VS acm aaY "_law_rules_here" 4:=vq
theorem vdd:VS acm aaY "_law_at" 5:=vq
theorem vde:LS aaY "_law_letters_here":=lq
theorem vdf:LS aaY "_law_cell":=lq
theorem vdg:LS aaY "_law_marks":=lq
theorem vdh:LS aaY "_law_rules_here":=lq
theorem vdi:LS aaY "_law_at":=lq
theorem aia(F:FunD K "_law_rules" "_law_rules" aaY f fd)(T:Txt P w K mg C)(G_l_cell_at:FO P w K mg base 1 "_law_cell_at" ["_law_script", "_law_k"] [] (adr K))(G_l_letters:FO P w K mg base 3 "_law_letters" ["_law_script"] [] (aeS K))(G_l_two:FO P w K mg base 3 "_law_two" ["_law_script", "_law_k", "_law_cell"] [] (spTwo K))(G_l_others:FO P w K mg base 4 "_law_others" ["_law_script", "_law_letters_here", "_law_marks"] [] (aho K)):FnOk P w K mg base CX0 5 f fd ["_law_script"] (ahq K):=by
 refine F.ok sc_l_rules ?_ ?_
 ·rintro _ _ _ _ ⟨a,ns,rfl,_⟩;rfl
 ·intro cdv A outer s H vs Q E hr h;have hu1:=hu_of hr;have hu:=hr.units;refine ⟨_,QSs.out (aab (aam (n:=1) sc_l_rules.nd rfl vde (aai G_l_letters (hm hr) (qa_c (vi vc8) aac)))
   (aab (aam (n:=2) sc_l_rules.nd rfl vdf (aai G_l_cell_at (hm hr) (qa_c (vi vc8) (qa_c aad aac))))
   (aab (ace (n:=3) sc_l_rules.nd rfl vdg (cok:CompOk ["_law_script", "_law_letters_here", "_law_cell", "_law_marks", "_law_rules_here", "_law_at"] (aaf aaY).names _ ["_law_k", "_law_script", "_law_cell"] 1 [0,2]) (qi_r1 T.b_range (qa_c (qe_op q_mod (vi vda) aad) aac)) (fun _ _ _ _ _=>aal (n:=0) (show List.Nodup (["_law_k", "_law_script", "_law_cell"]:List Str) by decide +kernel) rfl (Or.inl rfl)) (fun _ _ _ _ _=>abT) (fun _ _ _ _ _=>(aai G_l_two (hm hr) (qa_c (qv 1) (qa_c (qe_op (q_add (K:=K)) aad (qv 0)) (qa_c (qe_op aaO (qv 2) aad) aac))))))
   (aab (aam (n:=4) sc_l_rules.nd rfl vdh (qe_op (q_add (K:=K)) (aa5 (qa_c (qe_op (q_add (K:=K)) (abd (qa_c aaA aac)) (qe_cT (afb (K:=K)) T.b_tuple adM (qa_c (vi vc9) aac))) aac)) (aai G_l_others (hm hr) (qa_c (vi vc8) (qa_c (vi vc9) (qa_c (vi vdb) aac))))))
   (abi (qs_if (aao (q_ne (K:=K) hu) (vi vdb) (aa5 aac)) (aae (aa0 (qe_mB (K:=K) qal qap qao aaZ (vi vdc) (qa_c (qe_op (q_add (K:=K)) (abd (qa_c aaA aac)) (qe_cT (afb (K:=K)) T.b_tuple adM (qa_c (vi vdb) aac))) aac)))) aav)
   (aab (aam (n:=2) sc_l_rules.nd rfl vdf (aai G_l_cell_at (hm hr) (qa_c (vi vc8) (qa_c aad aac))))
   (abi (qs_if (aao (q_eq (K:=K) hu) (qe_op q_mod (qe_op aaO (aai G_l_cell_at (hm hr) (qa_c (vi vc8) (qa_c aad aac))) aad) aad) aad) (aae (aa0 (qe_mB (K:=K) qal qap qao aaZ (vi vdc) (qa_c (abd (qa_c aaA aac)) aac)))) aav)
   (abi (qs_if (aao (q_eq (K:=K) hu) (qe_op q_mod (vi vda) aad) aad) (aae (aa0 (qe_mB (K:=K) qal qap qao aaZ (vi vdc) (qa_c (abd (qa_c aaA aac)) aac)))) aav)
   (abi (qs_if (aao (q_eq (K:=K) hu) (qe_op q_mod (qe_op aaO (vi vda) aad) aad) aad) (aae (aa0 (qe_mB (K:=K) qal qap qao aaZ (vi vdc) (qa_c (abd (qa_c aaA aac)) aac)))) aav)
   (aab (aam (n:=5) sc_l_rules.nd rfl vdi (qe_op q_mod (qe_op aaO (vi vda) aad) (qe_cB (q_len (K:=K)) T.b_len abw (qa_c (vi vdc) aac))))
   (aae (aaz (qe_op (q_add (K:=K)) (aaD (K:=K) (vi vdc) (aaC (vi vdd)) abv) (aaD (K:=K) (vi vdc) abv (aaC (vi vdd)))))))))))))))),?_⟩
  obtain ⟨a,ns,rfl,hS,q⟩:=h;walk_at "rd";refine ⟨a,ns,rfl,hS,fun b ls H1 JL=>⟨a,ns,3,rfl,JL.same.seq hS,by decide,?_⟩⟩;generalize cellF ns 3=c3;walk_at "rd";refine ⟨by walk_at "o",by walk_at "o",compR [some (.ref a),some (.int c3)] rfl (fun D j ys H4=>∃ ps:List Str,ys=ps.map V.str/\Same H1 H4/\Dis ns (fun k=>20<=k/\k<20+(j:Int)) ps/\ps.length=j) (fun D nD=>⟨[],rfl,Same.new nD,Dis.nil,rfl⟩) ?_ ?_⟩
  ·rintro D i ys H4 nD hi ⟨ps,rfl,S4,ds,hpl⟩ hD hyl;walk_at "rd";refine ⟨a,ns,_,_,rfl,(JL.same.trans S4).seq hS,by walk_at "o",fun p H5 S5 hp=>⟨S5 _ _ hD,qbu hyl (qau hi (aax (by walk_at "o"))),⟨hi,by rw [qa1,qag];walk_at "o",⟨_,rfl⟩,ps++[p],by rw [qa4];rfl,(S4.trans S5).put nD,?_,by rw [qa1,hpl];rfl⟩⟩⟩;rw [qbM] at hp;exact (ds.cat (uaf hp) (fun k hk=>by walk_at "o") (fun k hk=>by walk_at "o") (fun k hk e=>by walk_at "o")).wide fun k hk=>by
    rcases hk with hk | hk <;> walk_at "o"
  rintro c ys H2 nc ⟨ms,rfl,S2,ds,hpl⟩ hc hyl;have hmd:Dis ns MarkS ms:=ds.wide fun k hk=>⟨hk.1,by walk_at "o"⟩
  have hml:ms.length<=4:=by walk_at "o"
  clear ds hpl hyl;have hb2:=S2 _ _ JL.lst;have S02:=JL.same.trans S2;have h0:=JL.lo;have h1:=JL.hi;have hmok:∀ p∈ms,qaO p=true:=fun p hp=>by
   obtain ⟨k,_,hk⟩:=hmd.pc p hp;exact (ab1 hk.ok.1).1
  have hln:ls≠[]:=fun e=>by rw [e] at h0;simp at h0
  refine ⟨by decide,fun p np=>?_⟩;have S3:Same H2 (upd H2 p (HO.tup [V.str (Str.ofString "row")])):=Same.new np;have hp3:upd H2 p (HO.tup [V.str (Str.ofString "row")]) p=some (HO.tup [V.str (Str.ofString "row")]):=aaa;generalize upd H2 p (HO.tup [V.str (Str.ofString "row")])=H3 at S3 hp3 ⊢
  refine rTupR.l (.of (S3 _ _ hb2)) fun t nt=>?_
  walk_at "rd";refine rAddR.t (.of (aag hp3 nt)) (.of aaa) (by simp) (by simp only [qa0,qad,qaG];exact aax (by walk_at "o")) (fun e=>absurd (List.map_eq_nil_iff.mp e) hln) fun _ t2 nt2=>⟨by decide,fun l1 nl1=>?_⟩
  have S4:=S3.trans (Same.new (u:=HO.tup (ls.map V.str)) nt);have nt20:H t2=none:=(S02.trans S4).free nt2;have S5:=(S4.trans (Same.new (u:=HO.tup ([V.str (Str.ofString "row")]++ls.map V.str)) nt2)).trans (Same.new (u:=HO.lst [V.ref t2]) nl1);have ht5:=aag (u:=HO.lst [V.ref t2]) (aaa (H:=upd H3 t (HO.tup (ls.map V.str))) (a:=t2) (o:=HO.tup ([V.str (Str.ofString "row")]++ls.map V.str))) nl1;have hl5:=aaa (H:=upd (upd H3 t (HO.tup (ls.map V.str))) t2 (HO.tup ([V.str (Str.ofString "row")]++ls.map V.str))) (a:=l1) (o:=HO.lst [V.ref t2]);generalize upd (upd (upd H3 t (HO.tup (ls.map V.str))) t2 (HO.tup ([V.str (Str.ofString "row")]++ls.map V.str))) l1 (HO.lst [V.ref t2])=H5 at S5 ht5 hl5 ⊢
  have S05:=S02.trans S5;refine ⟨a,b,c,ns,ls,ms,rfl,S05.seq hS,S5 _ _ hb2,S5 _ _ hc,by walk_at "o",by walk_at "o",by walk_at "o",hmok,fun l2 ts R H6 RA OI=>?_⟩;walk_at "rd";have hol:=OI.len;refine rAddR.l (RA.same _ _ hl5) RA.rows.top (by rw [qa0,RA.rows.len,qag];exact aax (by walk_at "o")) fun r nr=>?_
  have RB:RulesAt H (upd H6 r (HO.lst ([V.ref t2]++ts.map V.ref))) r (t2::ts) ((("row" : Str),ls)::R):=by
   have n2:t2∉ts:=fun e=>by have:=RA.new t2 (qa9 _ e);rw [ht5] at this;cases this
   have n3:∀ x∈t2::ts,r≠x:=fun x hx e=>by
    rcases qaa.mp hx with q | q
    ·rw [e,q,RA.same _ _ ht5] at nr;cases nr
    ·obtain ⟨o,ho⟩:=RA.live (qa9 _ q);rw [e,ho] at nr;cases nr
   refine ⟨⟨aaa,.cons (aag (RA.same _ _ ht5) nr) (uam RA.rows.row fun x z e=>aag e nr)⟩,qax.mpr ⟨fun e=>n3 r e rfl,qax.mpr ⟨n2,(qax.mp RA.nd).2⟩⟩,fun x hx=>?_,(S05.trans RA.same).trans (Same.new nr)⟩
   rcases qaa.mp hx with q | q
   ·rw [q];exact (S05.trans RA.same).free nr
   ·rcases qaa.mp q with q | q
    ·rw [q];exact nt20
    ·exact S05.free (RA.new x (qa9 _ q))
  have hc7:upd H6 r (HO.lst ([V.ref t2]++ts.map V.ref)) c=some (HO.lst (ms.map V.str)):=aag (RA.same _ _ (S5 _ _ hc)) nr;have P0:=amJ JL.dis OI;generalize upd H6 r (HO.lst ([V.ref t2]++ts.map V.ref))=H7 at RB hc7 ⊢
  generalize (("row" : Str),ls)::R=R at RB P0;generalize t2::ts=ts at RB;refine mid (fun σ H8=>∃ (bb:Bool) (ts:List Addr) (R:List Rl),σ=[some (.ref a),some (.ref b),some (.int c3),some (.ref c),some (.ref r),none]/\RulesAt H H8 r ts R/\RulP ns ls ms bb 9 R/\(bb=false->ms=[])) ?_ ?_
  ·walk_at "rd";intro e ne;have S8:Same H7 (upd H7 e (.lst [])):=Same.new ne;have he8:upd H7 e (.lst []) e=some (.lst (([]:List Str).map V.str)):=aaa;generalize upd H7 e (.lst [])=H8 at S8 he8 ⊢
   refine ⟨_,.lst (.of (S8 _ _ hc7)) (uad hmok),_,.lst (.of he8) (uad (by simp)),by rw [qbt,acd];exact qan (Nat.min_le_left _ _) (by decide),?_⟩;rw [ag8];have RC:=RB.more S8;have hpl:=P0.len;refine iteN (fun hne=>⟨tyL RC.rows.top,by decide,fun p np=>?_⟩) fun he=>⟨false,ts,R,RC,P0.wide (by walk_at "o"),fun _=>he⟩
   have S9:Same H8 (upd H8 p (HO.tup [V.str (Str.ofString "marks")])):=Same.new np;have hp9:upd H8 p (HO.tup [V.str (Str.ofString "marks")]) p=some (HO.tup [V.str (Str.ofString "marks")]):=aaa;generalize upd H8 p (HO.tup [V.str (Str.ofString "marks")])=H9 at S9 hp9 ⊢
   refine rTupR.l (.of (S9 _ _ (S8 _ _ hc7))) fun t nt=>?_
   walk_at "rd";refine rAddR.t (.of (aag hp9 nt)) (.of aaa) (by simp) (by simp only [qa0,qad,qaG];exact aax (by walk_at "o")) (fun e=>absurd (List.map_eq_nil_iff.mp e) hne) fun _ t3 nt3=>?_
   have S10:=S9.trans (Same.new (u:=HO.tup (ms.map V.str)) nt);have S11:=S10.trans (Same.new (u:=HO.tup ([V.str (Str.ofString "marks")]++ms.map V.str)) nt3);exact appOk (S11 _ _ RC.rows.top) (by rw [qa0,RC.rows.len];exact aaq (by walk_at "o")) ⟨true,_,_,RC.grow S11 (S10.free nt3) (z:=("marks",ms)) aaa,P0.marks hmd,by simp⟩
  rintro σ H8 ⟨bb,ts,R,rfl,RA,P,hbb⟩;walk_at "rd";refine ⟨a,ns,5,rfl,RA.same.seq hS,by decide,?_⟩;generalize cellF ns 5=c5;refine mid (fun σ H8=>∃ (ts:List Addr) (R:List Rl),σ=[some (.ref a),some (.ref b),some (.int c5),some (.ref c),some (.ref r),none]/\RulesAt H H8 r ts R/\RulP ns ls ms bb 10 R) ?_ ?_
  ·walk_at "rd";refine ⟨a,ns,1,rfl,RA.same.seq hS,by decide,_,rfl,iteD (fun e=>agG RA P (by decide) (.inl rfl) fun _=>?_) fun _=>⟨ts,R,RA,P.wide (by decide)⟩⟩;unfold dgO;exact decide_eq_false (by walk_at "o")
  clear RA P ts R;rintro σ H9 ⟨ts,R,rfl,RA,P⟩;refine mid (fun σ H8=>∃ (ts:List Addr) (R:List Rl),σ=[some (.ref a),some (.ref b),some (.int c5),some (.ref c),some (.ref r),none]/\RulesAt H H8 r ts R/\RulP ns ls ms bb 11 R) ?_ ?_
  ·walk_at "rd";exact iteD (fun e=>agG RA P (by decide) (.inr (.inl rfl)) fun e=>absurd e (by decide +kernel)) fun _=>⟨ts,R,RA,P.wide (by decide)⟩
  clear RA P ts R;rintro σ H10 ⟨ts,R,rfl,RA,P⟩;refine mid (fun σ H8=>∃ (ts:List Addr) (R:List Rl),σ=[some (.ref a),some (.ref b),some (.int c5),some (.ref c),some (.ref r),none]/\RulesAt H H8 r ts R/\RulP ns ls ms bb 12 R) ?_ ?_
  ·walk_at "rd";exact iteD (fun e=>agG RA P (by decide) (.inr (.inr rfl)) fun e=>absurd e (by decide +kernel)) fun _=>⟨ts,R,RA,P.wide (by decide)⟩
  clear RA P ts R;rintro σ H11 ⟨ts,R,rfl,RA,P⟩;have hl:=P.len;have hrl:=RA.rows.len;have hR1:1<=R.length:=by
   have:=P.row
   cases R with
   | nil=>exact absurd this (by simp [rowsW])
   | cons z R=>simp
  walk_at "rd";obtain ⟨t,ht,htl⟩:∃ t:Nat,c5 / 6 % (R.length:Int)=(t:Int)/\t<R.length:=⟨(c5 / 6 % (R.length:Int)).toNat,by
   have:=qaZ (c5 / 6) (show (R.length:Int)≠0 by walk_at "o")
   walk_at "o",by
   have:=qaT (c5 / 6) (show 0<(R.length:Int) by walk_at "o")
   walk_at "o"⟩
  refine ⟨R.length,.inl ⟨_,.of RA.rows.top,by rw [qa0,hrl]⟩,by walk_at "o",?_⟩;rw [ht];refine rSlR.l (.of RA.rows.top) fun l1 nl1=>rSlR.l (.of (aag RA.rows.top nl1)) fun l2 nl2=>?_
  rw [abC,<- qbD] at nl2 ⊢
  rw [afc,<- qbx];walk_at "rd";have A1:=ajm RA.rows t nl1;have A2:=amI (RA.rows.same (Same.new (u:=HO.lst ((ts.drop t).map V.ref)) nl1)) t nl2;have A1':=A1.same (Same.new (u:=HO.lst ((ts.take t).map V.ref)) nl2);have S12:Same H11 (upd (upd H11 l1 (HO.lst ((ts.drop t).map V.ref))) l2 (HO.lst ((ts.take t).map V.ref))):=(Same.new nl1).trans (Same.new nl2);generalize upd (upd H11 l1 (HO.lst ((ts.drop t).map V.ref))) l2 (HO.lst ((ts.take t).map V.ref))=H12 at A2 A1' S12 ⊢
  refine rAddR.l A1'.top A2.top (by simp only [qa0,qaW,qaf];exact aax (by walk_at "o")) fun l3 nl3=>?_
  refine q l3 _ _ ls ms _ ((RA.same.trans S12).trans (Same.new nl3)) ((RA.same.trans S12).free nl3) (A1'.cat A2 nl3) ⟨⟨bb,P.turn t,hbb⟩,h0,by walk_at "o",JL.dis,JL.wd,hml,hmd⟩
theorem sc_l_row_of:FnScope ["_law_rules_here", "_law_word", "_law_found", "_law_rule"] ["_law_rules_here", "_law_word"] (aaf abp):=fsc
abbrev ac3:List Str:=["_law_rules_here", "_law_word", "_law_found", "_law_rule"]
theorem vdj:VS ac3 abp "_law_rules_here" 0:=vq
theorem vdk:VS ac3 abp "_law_word" 1:=vq
theorem vdl:VS ac3 abp "_law_found" 2:=vq
theorem vdm:VS ac3 abp "_law_rule" 3:=vq
theorem vdn:LS abp "_law_found":=lq
theorem vdo:LS abp "_law_rule":=lq
theorem agY(F:FunD K "_law_row_of" "_law_row_of" abp f fd)(T:Txt P w K mg C):FnOk P w K mg base CX0 1 f fd ["_law_rules_here", "_law_word"] (afo K):=by
 refine F.ok sc_l_row_of ?_ ?_
 ·rintro _ _ _ _ ⟨a,ts,R,w,rfl,_⟩;rfl
 ·intro cdv A outer s H vs Q E hr h;have hu1:=hu_of hr;have hu:=hr.units;refine ⟨_,QSs.out (aab (aam (n:=2) sc_l_row_of.nd rfl vdn (aa5 aac))
   (aab (aaW PassesOwn.never (aa1 (K:=K) (vi vdj)) (aal (n:=3) sc_l_row_of.nd rfl vdo (.inl rfl)) (aae (qs_if (aao (q_eq (K:=K) hu) (qe_ix (K:=K) (vi vdm) aad) (vi vdk)) (aae (aam (n:=2) sc_l_row_of.nd rfl vdn (qe_op (q_add (K:=K)) (vi vdl) (qe_cT (adF (K:=K) (calm:=true)) T.b_list acs (qa_c (aaD (K:=K) (vi vdm) (aaC aad) abv) aac))))) aav)))
   (aae (aaz (vi vdl))))),?_⟩
  obtain ⟨a,ts,R,w,rfl,hR,hl,hz,q⟩:=h;walk_at "rd";intro f nf;refine ⟨⟨_,.of (aag hR.top nf)⟩,forL (xs:=ts.map V.ref) (fun i σ H2=>∃ (l:Addr) (u:Option V),σ=[some (.ref a),some (.str w),some (.ref l),u]/\Same H H2/\H l=none/\H2 l=some (.lst ((rowsW (R.take i) w).flatten.map V.str))/\(rowsW (R.take i) w).flatten.length<=100*i) ⟨f,none,rfl,Same.new nf,nf,aaa,qar _⟩ (by rintro i σ H2 _ ⟨_,_,_,S,_⟩;exact .of (S _ _ hR.top)) ?_ ?_⟩
  ·rintro i x σ H2 hx ⟨l,u,rfl,S,nl,hl2,hle⟩;obtain ⟨t,ht,rfl⟩:=aaE hx;obtain ⟨z,hzz,hrow⟩:=Paired.at hR.row ht;have hzl:=hz z (qab hzz);have hi:i<R.length:=(qa5.mp hzz).1;have hT:SqT K H2 t ((z.1::z.2).map V.str):=.of (S _ _ hrow);walk_at "rd";refine ⟨_,.inr hT,V.str z.1,aaS _ _,?_⟩;walk_at "rd";refine iteD (fun e=>rSlR.t hT (aaI (k:=1) (by decide) (by simp)) fun s ns=>?_) fun e=>?_
   ·rw [qak,ad8];walk_at "rd";refine rListR.l (.inr (.of aaa)) fun s2 ns2=>?_
    walk_at "rd";refine rAddR.l (aag (aag hl2 ns) ns2) aaa (by rw [qa0,qa0];exact aax (by walk_at "o")) fun s3 ns3=>?_
    have S2:=S.trans ((Same.new (u:=HO.tup (z.2.map V.str)) ns).trans (Same.new (u:=HO.lst (z.2.map V.str)) ns2));rw [aeY hzz,if_pos e];exact ⟨s3,rfl,S2.trans (Same.new ns3),S2.free ns3,by rw [aaa,qa4],by rw [qa1];walk_at "o"⟩
   ·rw [aeY hzz,if_neg e];exact ⟨S,nl,hl2,by walk_at "o"⟩
  rintro σ H2 ⟨l,u,rfl,S,nl,hl2,hle⟩;rw [qa0,hR.len,qaj] at hl2;walk_at "rd";exact q l H2 nl S hl2
theorem sc_l_forms:FnScope ["_law_rules_here", "_law_makes_here", "_law_k", "_law_case", "_law_other", "_law_j"] ["_law_rules_here", "_law_makes_here"] (aaf aa7):=fsc
abbrev acn:List Str:=["_law_rules_here", "_law_makes_here", "_law_k", "_law_case", "_law_other", "_law_j"]
theorem vdp:VS acn aa7 "_law_rules_here" 0:=vq
theorem vdq:VS acn aa7 "_law_makes_here" 1:=vq
theorem vdr:VS acn aa7 "_law_k" 2:=vq
theorem vds:VS acn aa7 "_law_case" 3:=vq
theorem vdt:VS acn aa7 "_law_other" 4:=vq
theorem vdu:VS acn aa7 "_law_j" 5:=vq
theorem vdv:LS aa7 "_law_k":=lq
theorem vdw:LS aa7 "_law_case":=lq
theorem vdx:LS aa7 "_law_other":=lq
theorem vdy:LS aa7 "_law_j":=lq
theorem aib(F:FunD K "_law_forms" "_law_forms" aa7 f fd)(T:Txt P w K mg C):FnOk P w K mg base CX0 1 f fd ["_law_rules_here", "_law_makes_here"] (agd K):=by
 refine F.ok sc_l_forms ?_ ?_
 ·rintro _ _ _ _ ⟨a,d,ts,R,ns,ls,ms,P,H0,rfl,_⟩;rfl
 ·intro cdv A outer s H vs Q E hr h;have hu1:=hu_of hr;have hu:=hr.units;refine ⟨_,QSs.out (aae (aaW PassesOwn.never (qi_r1 T.b_range (qa_c (qe_cB (q_len (K:=K)) T.b_len abw (qa_c (vi vdp) aac)) aac)) (aal (n:=2) sc_l_forms.nd rfl vdv (.inl rfl)) (aae (qs_if (aao (q_eq (K:=K) hu) (qe_ix (K:=K) (qe_ix (K:=K) (vi vdp) (vi vdr)) aad) aaA) (aab (aam (n:=3) sc_l_forms.nd rfl vdw aad)
   (aab (aaW PassesOwn.never (aa1 (K:=K) (aaD (K:=K) (vi vdp) abv (aaC (vi vdr)))) (aal (n:=4) sc_l_forms.nd rfl vdx (.inl rfl)) (aae (qs_if (aao (q_eq (K:=K) hu) (aaD (K:=K) (vi vdt) abv (aaC aad)) (aaD (K:=K) (qe_ix (K:=K) (vi vdp) (vi vdr)) abv (aaC aad))) (aae (aam (n:=3) sc_l_forms.nd rfl vdw (qe_op q_sub (qe_op (q_add (K:=K)) (vi vds) (qe_cB (q_len (K:=K)) T.b_len abw (qa_c (vi vdt) aac))) aad))) aav)))
   (aae (aaW PassesOwn.never (qi_r2 T.b_range (qa_c aad (qa_c (qe_cB (q_len (K:=K)) T.b_len abw (qa_c (qe_ix (K:=K) (vi vdp) (vi vdr)) aac)) aac))) (aal (n:=5) sc_l_forms.nd rfl vdy (.inl rfl)) (aae (aby hu1 (vi vdq) (qe_ix (K:=K) (qe_ix (K:=K) (vi vdp) (vi vdr)) (vi vdu)) (aa5 (qa_c (abd (qa_c aad (qa_c (qe_ix (K:=K) (qe_ix (K:=K) (abH hu1 (vi vdq) (qe_ix (K:=K) (qe_ix (K:=K) (vi vdp) (vi vdr)) aad)) aad) aad) (qa_c (qe_op q_sub (qe_op (q_add (K:=K)) (vi vds) (vi vdu)) aad) aac)))) aac)))))))) aav)))),?_⟩
  obtain ⟨a,d,ts,R,ns,ls,ms,P,H0,rfl,nd,hR,hR0,G,hL,hM,J,hlP,hPl,q⟩:=h;have md:=agC G.good hL hM;have hRl:=G.len;have hfA:∀ n,(aa6 (R.take n)).length<=10000:=fun n=>by
   have h1:(aa6 (R.take n)).length<=(aaj (R.take n)).length:=by
    unfold aa6;rw [<- aa3,qa0];exact qbv _ _
   obtain ⟨more,e⟩:=aed R n;have h2:=G.good.plen;rw [e,qa1] at h2;walk_at "o"
  have hgr:∀ z∈R,z.1=("great" : Str)->∃ l fs,z=(("great" : Str),l::fs)/\l∈ls:=fun z hz e=>by
   rcases G.each hz with rfl | rfl | o | o
   ·exact absurd (show Str.ofString "row"=_ from e) (by decide +kernel)
   ·exact absurd (show Str.ofString "marks"=_ from e) (by decide +kernel)
   ·rcases o with ⟨_,l,fs,e2,hl,_⟩ | ⟨e2,_⟩ | ⟨e2,_⟩
    ·exact ⟨l,fs,Prod.ext e e2,hl⟩
    ·rw [e2] at e;exact absurd e (by decide +kernel)
    ·rw [e2] at e;exact absurd e (by decide +kernel)
   ·exact absurd e o.2.no.2.2.1
  walk_at "rd";refine ⟨R.length,.inl ⟨_,.of hR.top,by rw [qa0,hR.len]⟩,by walk_at "o",by walk_at "o",forR (fun i σ H2=>∃ (u v w x:Option V),σ=[some (.ref a),some (.ref d),u,v,w,x]/\MkI H0 H2 d (P++aa6 (R.take i)) (stepF R ls ms)) ⟨none,none,none,none,rfl,by rw [qaU,show aa6 []=[] from rfl,qah];exact J⟩ ?_ ?_⟩
  ·clear J;rintro i σ H2 hi ⟨u,v,w,x,rfl,J⟩;have hi:i<R.length:=by walk_at "o"
   have hit:i<ts.length:=by rw [hR.len];exact hi
   have hz:R[i]?=some R[i]:=qa3 hi;have htt:ts[i]?=some ts[i]:=qa3 hit;generalize hzz:R[i]=z at hz;generalize ts[i]=t at htt;obtain ⟨z',hz',hrow⟩:=Paired.at hR0.row htt;rw [hz] at hz';cases hz';have hzm:=qab hz;have hat:atI (ts.map V.ref) (0+(i:Int))=some (V.ref t):=by rw [qbM];exact abr (by rw [qaC,htt];rfl)
   have hT:SqT K H2 t ((z.1::z.2).map V.str):=.of (J.same _ _ hrow);walk_at "rd";refine ⟨_,.inl (.of (J.same _ _ hR0.top)),_,hat,?_⟩;walk_at "rd";refine ⟨_,.inr hT,V.str z.1,aaS _ _,?_⟩;walk_at "rd";refine iteD (fun e=>?_) fun e=>by rw [aeq hz,ajw e,qah];exact J
   obtain ⟨l,fs,rfl,hl⟩:=hgr z hzm e;have hlm:l∈aar R:=mem_formKs.mpr ⟨(l,fs),qbC.mpr ⟨_,hzm,by rw [if_pos rfl];rfl⟩,rfl⟩;refine rSlR.l (.of (J.same _ _ hR0.top)) fun s ns2=>?_
   rw [show cutV (ts.map V.ref) none (some (0+(i:Int)))=(ts.take i).map V.ref by rw [qbM,afc,qbx]];have S3:Same H2 (upd H2 s (.lst ((ts.take i).map V.ref))):=Same.new ns2;have hs3:upd H2 s (.lst ((ts.take i).map V.ref)) s=some (.lst ((ts.take i).map V.ref)):=aaa;generalize upd H2 s (.lst ((ts.take i).map V.ref))=H3 at S3 hs3;have J3:=J.more S3;clear hT J;refine ⟨s,rfl,⟨_,.of hs3⟩,forL (xs:=(ts.take i).map V.ref) (fun m σ H4=>∃ (w:Option V),σ=[some (.ref a),some (.ref d),some (.int (0+(i:Int))),some (.int (1+((aak (R.take m) l).length:Int))),w,x]/\Same H3 H4) ⟨w,by rfl,uah _⟩ (by rintro m σ H4 _ ⟨_,_,S⟩;exact .of (S _ _ hs3)) ?_ ?_⟩
   ·rintro m y σ H4 hy ⟨w,rfl,S4⟩;obtain ⟨t2,ht2,rfl⟩:=aaE hy;have hmi:m<i:=by
     have:=(qa5.mp ht2).1
     rw [qaf] at this;walk_at "o"
    rw [List.getElem?_take_of_lt hmi] at ht2;obtain ⟨z2,hz2,hrow2⟩:=Paired.at hR0.row ht2;have hz2m:=qab hz2;have J4:=J3.more S4;have hT2:SqT K H4 t2 ((z2.1::z2.2).map V.str):=.of (J4.same _ _ hrow2);walk_at "rd";refine sl2 hT2 fun p1 H5 S5 hp1=>?_
    have J5:=J4.more S5;have hT5:SqT K H5 t (((("great" : Str),l::fs).1::(("great" : Str),l::fs).2).map V.str):=.of (J5.same _ _ hrow);refine ⟨_,.inl (.of (J5.same _ _ hR0.top)),_,hat,?_⟩
    try walk_at "rd"
    refine sl2 hT5 fun p2 H6 S6 hp2=>?_
    rw [<- qbx] at hp1 hp2;have ok1:∀ y∈(z2.1::z2.2).take 2,qaO y=true:=fun y hy=>G.str z2 hz2m y (List.mem_of_mem_take hy)
    have ok2:∀ y∈(("great" : Str)::l::fs).take 2,qaO y=true:=fun y hy=>G.str _ hzm y (List.mem_of_mem_take hy)
    try walk_at "rd"
    refine ⟨_,.tup (SqT.same S6 hp1) (uad ok1),_,.tup hp2 (uad ok2),by rw [qbt,acd];exact qan (Nat.min_le_left _ _) (by decide),?_⟩;rw [aht];have S36:=S4.trans (S5.trans S6);refine iteD (fun ee=>?_) fun ee=>?_
    ·obtain ⟨fs2,rfl⟩:=agJ (show (z2.1::z2.2).take 2=[("great" : Str),l] from ee);have hT6:SqT K H6 t2 (((("great" : Str),l::fs2).1::(("great" : Str),l::fs2).2).map V.str):=SqT.same (S5.trans S6) hT2;refine ⟨fs2.length+2,.inr (.inl ⟨_,hT6,by simp⟩),?_⟩;rw [aap hz2,abZ,if_pos rfl,qa1];exact ⟨by walk_at "o",S36⟩
    ·have e0:aak (R.take (m+1)) l=aak (R.take m) l:=by rw [aap hz2];exact afp ee
     rw [e0];exact ⟨rfl,S36⟩
   rintro σ H4 ⟨w,rfl,S4⟩;rw [qa0,qaf,qbw (by walk_at "o":i<=ts.length)];have J4:=J3.more S4;have hT4:SqT K H4 t (((("great" : Str),l::fs).1::(("great" : Str),l::fs).2).map V.str):=.of (J4.same _ _ hrow);walk_at "rd";refine ⟨_,.inl (.of (J4.same _ _ hR0.top)),_,hat,?_⟩;walk_at "rd";refine ⟨fs.length+2,.inr (.inl ⟨_,hT4,by simp⟩),?_⟩;have hfl:fs.length<=100:=by have:=G.zl hzm;simp only [qad] at this;walk_at "o"
   have hfAi:=hfA i;have est:aak (R.take (i+1)) l=aak (R.take i) l++fs:=by rw [aap hz,abZ,if_pos rfl]
   have hfa:∀ j,j<fs.length->(aak R l)[(aak (R.take i) l).length+j]?=fs[j]?:=fun j hj=>by
    have e1:aak R l=aak (R.take (i+1)) l++aak (R.drop (i+1)) l:=by
     unfold aak;rw [<- qaK,<- qbf,<- abJ,qaA]
    rw [e1,est,qas,qaR (qb0 _ _),Nat.add_sub_cancel_left,qb2 hj]
   refine ⟨by decide,by decide,by walk_at "o",by walk_at "o",forR (fun jj σ H5=>∃ (x:Option V),σ=[some (.ref a),some (.ref d),some (.int (0+(i:Int))),some (.int (1+((aak (R.take i) l).length:Int))),w,x]/\MkI H0 H5 d (P++aa6 (R.take i)++fs.take jj) (stepF R ls ms)) ⟨x,rfl,by rw [qaU,qah];exact J4⟩ ?_ ?_⟩
   ·clear J4 hT4;rintro jj σ H5 hjj ⟨x,rfl,J5⟩;have hjj:jj<fs.length:=by walk_at "o"
    have hf:fs[jj]?=some fs[jj]:=qa3 hjj;generalize fs[jj]=f at hf;have hT5:SqT K H5 t (((("great" : Str),l::fs).1::(("great" : Str),l::fs).2).map V.str):=.of (J5.same _ _ hrow);obtain ⟨ad,h1,h2⟩:=J5.made;have hin:l∈dds [] (P++aa6 (R.take i)++fs.take jj):=(abP _ _ _).mpr (.inr (qaq _ (qaq _ (hlP l hl))));obtain ⟨tt,e1,e2⟩:=(h2 l hin).ex;rw [md.letter hl] at e2;obtain ⟨t0,rfl,e3⟩:∃ t0,tt=[t0]/\H5 t0=some (tupT (2,(ls.idxOf l:Int),0)):=by
     cases e2 with
     | cons h t=>cases t;exact ⟨_,rfl,h⟩
    have hat2:atI (((("great" : Str),l::fs).1::(("great" : Str),l::fs).2).map V.str) (2+(jj:Int))=some (V.str f):=by
     rw [show (2+(jj:Int))=((jj+2:Nat):Int) by walk_at "o"];exact abr (by rw [qaC];show (fs[jj]?).map V.str=_;rw [hf];rfl)
    walk_at "rd";refine ⟨_,.inl (.of (J5.same _ _ hR0.top)),_,hat,?_⟩;walk_at "rd";refine ⟨_,.inr hT5,V.str l,abr (j:=1) rfl,V.ref (ad l),.inl ⟨_,Sum.inr l,.inl h1,rfl,by rw [aaQ,if_pos hin]⟩,?_⟩;walk_at "rd";refine ⟨_,.inl (.of e1),V.ref t0,aaS _ _,?_⟩;walk_at "rd";refine ⟨_,.inr (.of e3),V.int (ls.idxOf l:Int),abr (j:=1) rfl,by decide,fun p1 np1=>⟨by decide,fun p2 np2=>?_⟩⟩;have S6:Same H5 (upd (upd H5 p1 (.tup [V.int 2,V.int (ls.idxOf l:Int),V.int (1+((aak (R.take i) l).length:Int)+(2+(jj:Int))-2)])) p2 (.lst [V.ref p1])):=(Same.new np1).trans (Same.new np2);have hst:StepL (upd (upd H5 p1 (.tup [V.int 2,V.int (ls.idxOf l:Int),V.int (1+((aak (R.take i) l).length:Int)+(2+(jj:Int))-2)])) p2 (.lst [V.ref p1])) p2 (stepF R ls ms f):=by
     rw [md.gr l hlm ((aak (R.take i) l).length+jj) f (by rw [hfa jj hjj];exact hf)];refine StepL.one aaa ?_;rw [show ((((aak (R.take i) l).length+jj+1:Nat)):Int)=1+((aak (R.take i) l).length:Int)+(2+(jj:Int))-2 by walk_at "o"];exact aag aaa np2
    generalize upd (upd H5 p1 (.tup [V.int 2,V.int (ls.idxOf l:Int),V.int (1+((aak (R.take i) l).length:Int)+(2+(jj:Int))-2)])) p2 (.lst [V.ref p1])=H6 at S6 hst;have J6:=J5.more S6;refine ⟨_,.inl (.of (J6.same _ _ hR0.top)),_,hat,?_⟩;walk_at "rd";refine ⟨_,.inr (SqT.same S6 hT5),V.str f,hat2,?_⟩;rw [aap hf,<- qas];exact J6.put nd (by simp only [qa1,qaf];walk_at "o") hst
   ·rintro σ H5 ⟨x,rfl,J5⟩;rw [show (((fs.length+2:Nat):Int)-2).toNat=fs.length by walk_at "o",qaj] at J5;refine ⟨⟨_,_,_,_,rfl⟩,?_⟩;rw [aeq hz,ah3,<- qas];exact J5
  rintro σ H2 ⟨u,v,w,x,rfl,J⟩;rw [show ((R.length:Int)).toNat=R.length by walk_at "o",qaj] at J;exact q H2 J
theorem sc_l_makes:FnScope ["_law_rules_here", "_law_makes_here", "_law_place", "_law_piece", "_law_rule"] ["_law_rules_here"] (aaf aa8):=fsc
abbrev acQ:List Str:=["_law_rules_here", "_law_makes_here", "_law_place", "_law_piece", "_law_rule"]
theorem vdz:VS acQ aa8 "_law_rules_here" 0:=vq
theorem vdA:VS acQ aa8 "_law_makes_here" 1:=vq
theorem vdB:VS acQ aa8 "_law_place" 2:=vq
theorem vdC:VS acQ aa8 "_law_piece" 3:=vq
theorem vdD:VS acQ aa8 "_law_rule" 4:=vq
theorem vdE:LS aa8 "_law_makes_here":=lq
theorem vdF:LS aa8 "_law_place":=lq
theorem vdG:LS aa8 "_law_piece":=lq
theorem vdH:LS aa8 "_law_rule":=lq
theorem aic(F:FunD K "_law_makes" "_law_makes" aa8 f fd)(T:Txt P w K mg C)(G_l_row_of:FO P w K mg base 1 "_law_row_of" ["_law_rules_here", "_law_word"] [] (afo K))(G_l_forms:FO P w K mg base 1 "_law_forms" ["_law_rules_here", "_law_makes_here"] [] (agd K)):FnOk P w K mg base CX0 2 f fd ["_law_rules_here"] (ajy K):=by
 refine F.ok sc_l_makes ?_ ?_
 ·rintro _ _ _ _ ⟨a,ts,R,ns,ls,ms,rfl,_⟩;rfl
 ·intro cdv A outer s H vs Q E hr h;have hu1:=hu_of hr;have hu:=hr.units;refine ⟨_,QSs.out (aab (aam (n:=1) sc_l_makes.nd rfl vdE act)
   (aab (aaW PassesOwn.never (adp T.b_enumerate (qa_c (aai G_l_row_of (hm hr) (qa_c (vi vdz) (qa_c aaA aac))) aac)) (adE (K:=K) (n:=2) (aa4 ((aal (n:=2) sc_l_makes.nd rfl vdF (.inl rfl))) (aa4 ((aal (n:=3) sc_l_makes.nd rfl vdG (.inl rfl))) acG))) (aae (aby hu1 (vi vdA) (vi vdC) (aa5 (qa_c (abd (qa_c aad (qa_c (vi vdB) (qa_c aad aac)))) aac)))))
   (aab (aaW PassesOwn.never (adp T.b_enumerate (qa_c (aai G_l_row_of (hm hr) (qa_c (vi vdz) (qa_c aaA aac))) aac)) (adE (K:=K) (n:=2) (aa4 ((aal (n:=2) sc_l_makes.nd rfl vdF (.inl rfl))) (aa4 ((aal (n:=3) sc_l_makes.nd rfl vdG (.inl rfl))) acG))) (aae (aby hu1 (vi vdA) (vi vdC) (aa5 (qa_c (abd (qa_c aad (qa_c (vi vdB) (qa_c aad aac)))) aac)))))
   (aab (aaW PassesOwn.never (aa1 (K:=K) (vi vdz)) (aal (n:=4) sc_l_makes.nd rfl vdH (.inl rfl)) (aae (qs_if (aao (q_eq (K:=K) hu) (qe_ix (K:=K) (vi vdD) aad) aaA) (aae (aby hu1 (vi vdA) (qe_ix (K:=K) (vi vdD) aad) (aca  (cok:CompOk ["_law_rules_here", "_law_makes_here", "_law_place", "_law_piece", "_law_rule"] (aaf aa8).names _ ["_law_part_here", "_law_makes_here"] 1 [1]) (aeN (K:=K) (aaD (K:=K) (vi vdD) (aaC aad) abv)) (fun _ _ _ _ _=>aal (n:=0) (show List.Nodup (["_law_part_here", "_law_makes_here"]:List Str) by decide +kernel) rfl (Or.inl rfl)) (fun _ _ _ _ _=>abT) (fun _ _ _ _ _=>(qe_ix (K:=K) (abH hu1 (qv 1) (qv 0)) aad))))) aav)))
   (aab (aa0 (aai G_l_forms (hm hr) (qa_c (vi vdz) (qa_c (vi vdA) aac))))
   (aab (aaW PassesOwn.never (aa1 (K:=K) (aai G_l_row_of (hm hr) (qa_c (vi vdz) (qa_c aaA aac)))) (aal (n:=3) sc_l_makes.nd rfl vdG (.inl rfl)) (aae (aby hu1 (vi vdA) (vi vdC) (aa5 aac))))
   (aab (qs_if (aao (q_inD (K:=K) hu) (abd (qa_c aaA aac)) (vi vdz)) (aae (aby hu1 (vi vdA) aaA (aa5 aac))) aav)
   (aae (aaz (vi vdA)))))))))),?_⟩
  obtain ⟨a,ts,R,ns,ls,ms,rfl,hR,G,hL,hM,q⟩:=h;have md:=agC G.good hL hM;have hRl:=G.len;have hzl:=fun z hz=>qan (G.zl (z:=z) hz) (by decide:19<=100)
  have hl1:=G.l1;have hm1:=G.m1;walk_at "rd";intro d nd;have J0:MkI H (upd H d (.dK [])) d [] (stepF R ls ms):=⟨Same.new nd,fun _=>d,aaa,by simp [dds]⟩
  generalize upd H d (.dK [])=H1 at J0;refine ⟨a,ts,R, "row",rfl,hR.same J0.same,by walk_at "o",hzl,fun l1 H2 nl1 S2 hl1'=>?_⟩;rw [G.row,qbl,List.flatten_nil,qah] at hl1';have nl1d:l1≠d:=fun e=>by obtain ⟨_,h1,_⟩:=J0.made;rw [<- e,nl1] at h1;cases h1
  obtain ⟨B,SB,nB,JB,kB⟩:=(J0.more S2).cut nd;have hB1:=kB _ _ nl1d hl1';refine ⟨l1,rfl,⟨_,hl1'⟩,forE (xs:=ls.map V.str) (fun i σ H3=>∃ (u v w:Option V),σ=[some (.ref a),some (.ref d),u,v,w]/\MkI B H3 d (ls.take i) (stepF R ls ms)) ⟨none,none,none,rfl,JB⟩ (by rintro i σ H3 ⟨_,_,_,_,h⟩;exact h.same _ _ hB1) ?_ ?_⟩
  ·rintro i x t σ H3 hx ⟨u,v,w,rfl,J⟩ nt;obtain ⟨l,hl,rfl⟩:=aaE hx;walk_at "rd";refine ⟨_,.of aaa,rfl,_,_,rfl,_,_,rfl,rfl,by decide,fun p np=>⟨by decide,fun p1 np1=>?_⟩⟩;rw [aap hl];exact MkI.put nB (((J.more (Same.new nt)).more (Same.new np)).more (Same.new np1)) (by rw [qaf];walk_at "o") (by
    rw [md.lt i l hl];exact StepL.one aaa (aag aaa np1))
  rintro σ H3 ⟨u,v,w,rfl,J⟩;rw [qa0,qaj] at J;have J3:=J.base SB;clear J JB hB1 kB nB SB B J0 nl1 S2 hl1' nl1d l1 H2 H1;walk_at "rd";refine ⟨a,ts,R, "marks",rfl,hR.same J3.same,by walk_at "o",hzl,fun l2 H4 nl2 S4 hl2=>?_⟩;rw [G.mrk.1] at hl2;have nl2d:l2≠d:=fun e=>by obtain ⟨_,h1,_⟩:=J3.made;rw [<- e,nl2] at h1;cases h1
  obtain ⟨B,SB,nB,JB,kB⟩:=(J3.more S4).cut nd;have hB1:=kB _ _ nl2d hl2;refine ⟨l2,rfl,⟨_,hl2⟩,forE (xs:=ms.map V.str) (fun i σ H3=>∃ (u v w:Option V),σ=[some (.ref a),some (.ref d),u,v,w]/\MkI B H3 d (ls++ms.take i) (stepF R ls ms)) ⟨u,v,w,rfl,by rw [qaU,qah];exact JB⟩ (by rintro i σ H3 ⟨_,_,_,_,h⟩;exact h.same _ _ hB1) ?_ ?_⟩
  ·rintro i x t σ H3 hx ⟨u,v,w,rfl,J⟩ nt;obtain ⟨l,hl,rfl⟩:=aaE hx;walk_at "rd";refine ⟨_,.of aaa,rfl,_,_,rfl,_,_,rfl,rfl,by decide,fun p np=>⟨by decide,fun p1 np1=>?_⟩⟩;rw [aap hl,<- qas];exact MkI.put nB (((J.more (Same.new nt)).more (Same.new np)).more (Same.new np1)) (by rw [qa1,qaf];walk_at "o") (by
    rw [md.mr i l hl];exact StepL.one aaa (aag aaa np1))
  clear J3;rintro σ H5 ⟨u,v,w,rfl,J⟩;rw [qa0,qaj] at J;have J5:=J.base SB;clear J JB hB1 kB nB SB B nl2 S4 hl2 nl2d l2 H4 H3;walk_at "rd";refine ⟨⟨_,.of (J5.same _ _ hR.top)⟩,forL (xs:=ts.map V.ref) (fun i σ H6=>∃ (w:Option V),σ=[some (.ref a),some (.ref d),u,v,w]/\MkI H H6 d (ls++ms++asKs (R.take i)) (stepF R ls ms)) ⟨w,rfl,by rw [qaU,show asKs []=[] from rfl,qah];exact J5⟩ (by rintro i σ H6 _ ⟨_,_,h⟩;exact .of (h.same _ _ hR.top)) ?_ ?_⟩
  ·clear J5;rintro i x σ H6 hx ⟨w,rfl,J⟩;obtain ⟨t,ht,rfl⟩:=aaE hx;obtain ⟨zz,hz,hrow⟩:=Paired.at hR.row ht;have hzm:=qab hz;have hasl:=afk (R.take i);rw [qaf] at hasl;have hT:SqT K H6 t ((zz.1::zz.2).map V.str):=.of (J.same _ _ hrow);walk_at "rd";refine ⟨_,.inr hT,V.str zz.1,aaS _ _,?_⟩;walk_at "rd";refine iteD (fun has=>?_) fun has=>by rw [adj hz,agB has,qah];exact J
   have hne:=md.ne _ hzm (.inl has);have hql:=hzl _ hzm;have hpt:=md.pt _ hzm has;have hasF:=md.as _ hzm has;obtain ⟨w1,ps⟩:=zz;obtain rfl:w1=("as" : Str):=has;obtain ⟨p,qs,rfl⟩:∃ p qs,ps=p::qs:=by
    cases ps with
    | nil=>exact absurd rfl hne
    | cons p qs=>exact ⟨p,qs,rfl⟩
   have hcut:cutV (((("as" : Str),p::qs).1::(("as" : Str),p::qs).2).map V.str) (some 2) none=qs.map V.str:=abC _ 2;simp only [qad] at hql;refine rSlR.t hT (aaI (k:=2) (by decide) (by simp)) fun s ns2=>?_
   rw [hcut];have S7:Same H6 (upd H6 s (.tup (qs.map V.str))):=Same.new ns2;have hs:upd H6 s (.tup (qs.map V.str)) s=some (.tup (qs.map V.str)):=aaa;generalize upd H6 s (.tup (qs.map V.str))=H7 at S7 hs;have J7:=J.more S7;obtain ⟨ad,h1,h2⟩:=J7.made;refine ⟨s,rfl,⟨_,.of hs⟩,compT (xs:=qs.map V.str) [some (.ref d)] rfl (fun D j ys H8=>∃ ts8:List Addr,ys=ts8.map V.ref/\Same H7 H8/\Paired (fun t s=>H7 t=some (tupT s)) ts8 ((qs.take j).map fun q=>(stepF R ls ms q).headD (0,0,0))) (fun D nD=>⟨[],rfl,Same.new nD,.nil⟩) (by rintro D j ys H8 nD _ ⟨_,_,S,_⟩;exact .of (S _ _ hs)) ?_ ?_⟩
   ·rintro D j yv ys H8 nD hi hy ⟨ts8,rfl,S8,P8⟩ hD hyl;obtain ⟨qq,hq,rfl⟩:=aaE hy;have hqb:=hpt qq (qab hq);obtain ⟨st,hst⟩:=md.base hqb;have hin:qq∈dds [] (ls++ms++asKs (R.take i)):=(abP _ _ _).mpr (.inr (qaq _ (qa6.mpr hqb)));obtain ⟨tt,e1,e2⟩:=(h2 qq hin).ex;rw [hst] at e2;obtain ⟨t0,rfl,e3⟩:∃ t0,tt=[t0]/\H7 t0=some (tupT st):=by
     cases e2 with
     | cons h t=>cases t;exact ⟨_,rfl,h⟩
    walk_at "rd";refine ⟨V.ref (ad qq),.inl ⟨_,Sum.inr qq,.inl (S8 _ _ h1),rfl,by rw [aaQ,if_pos hin]⟩,?_⟩;walk_at "rd";have hl8:ts8.length<=1000:=by
     have:=Paired.length P8
     rw [qa0,qaf] at this;walk_at "o"
    refine ⟨_,.inl (.of (S8 _ _ e1)),V.ref t0,aaS _ _,hD,by rw [qa0];exact aaq (by walk_at "o"),CW.put hi hyl ⟨ts8++[t0],by rw [qa4];rfl,S8.put nD,?_⟩⟩;rw [aap hq,qa4];refine Paired.snoc P8 ?_;show H7 t0=some (tupT ((stepF R ls ms qq).headD (0,0,0)));rw [hst];exact e3
   rintro D ys H8 nD ⟨ts8,rfl,S8,P8⟩ hD hyl;rw [qa0,qaj] at P8;have hat:atI (((("as" : Str),p::qs).1::(("as" : Str),p::qs).2).map V.str) 1=some (V.str p):=abr (j:=1) rfl;refine ⟨_,.inr (SqT.same (S7.trans S8) hT),V.str p,hat,?_⟩;rw [adj hz,afj,<- qas];refine MkI.put nd (J7.more S8) (by simp only [qa1];walk_at "o") ?_;rw [hasF p qs rfl];exact ⟨ts8,hD,uam P8 fun t s e=>S8 _ _ e⟩
  clear J5;rintro σ H6 ⟨w,rfl,J⟩;rw [qa0,hR.len,qaj] at J;have hasl:=afk R;walk_at "rd";refine ⟨a,d,ts,R,ns,ls,ms,_,H,rfl,nd,hR.same J.same,hR,G,hL,hM,J,fun p hp=>qaq _ (qaq _ hp),by simp only [qa1];walk_at "o",fun H7 J7=>?_⟩;clear J;refine ⟨a,ts,R, "over",rfl,hR.same J7.same,by walk_at "o",hzl,fun l3 H8 nl3 S8 hl3=>?_⟩;have nl3d:l3≠d:=fun e=>by obtain ⟨_,h1,_⟩:=J7.made;rw [<- e,nl3] at h1;cases h1
  obtain ⟨B,SB,nB,JB,kB⟩:=(J7.more S8).cut nd;have hB1:=kB _ _ nl3d hl3;have hfl:(aa6 R).length<=10000:=by
   have h1:(aa6 R).length<=(aaj R).length:=by
    unfold aa6;rw [<- aa3,qa0];exact qbv _ _
   have:=G.good.plen
   walk_at "o"
  have hov:=akP (w:="over") hzl;generalize hos:(rowsW R "over").flatten=os at hl3 hB1 hov;have hov2:os.length<=2000:=by walk_at "o"
  refine ⟨l3,rfl,⟨_,.of hl3⟩,forL (xs:=os.map V.str) (fun i σ H3=>∃ (v:Option V),σ=[some (.ref a),some (.ref d),u,v,w]/\MkI B H3 d (ls++ms++asKs R++aa6 R++os.take i) (stepF R ls ms)) ⟨v,rfl,by rw [qaU,qah];exact JB⟩ (by rintro i σ H3 _ ⟨_,_,h⟩;exact .of (h.same _ _ hB1)) ?_ ?_⟩
  ·rintro i x σ H3 hx ⟨v,rfl,J⟩;obtain ⟨l,hl,rfl⟩:=aaE hx;have hlo:stepF R ls ms l=[]:=G.over hL hM (by rw [hos];exact qab hl);walk_at "rd";intro p np;rw [aap hl,<- qas];exact MkI.put nB (J.more (Same.new np)) (by simp only [qa1,qaf];walk_at "o") (by
    rw [hlo];exact ⟨[],aaa,.nil⟩)
  rintro σ H9 ⟨v,rfl,J⟩;rw [qa0,qaj] at J;have J9:=J.base SB;clear J JB hB1 kB nB SB B J7;walk_at "rd";have kin:∀ p,p∈dds [] (ls++ms++asKs R++aa6 R++os)↔p∈keysP (aaj R):=fun p=>by
   rw [abP,acf,G.names p,hos]
   simp
  refine ⟨by decide,fun p np=>?_⟩;have S10:Same H9 (upd H9 p (.tup [V.str (Str.ofString "blanks")])):=Same.new np;have hp10:upd H9 p (.tup [V.str (Str.ofString "blanks")]) p=some (.tup ((("blanks" : Str)::[]).map V.str)):=aaa;generalize upd H9 p (.tup [V.str (Str.ofString "blanks")])=H10 at S10 hp10;have J10:=J9.more S10;refine ⟨ruleD ("blanks",[]),.tup (.of hp10) (uad (by intro y hy;rw [qa7.mp hy];decide +kernel)),R.map ruleD,ahm (hR.same J10.same) G.str,qan (Nat.min_le_left _ _) (qan (adb R) (by decide)),?_⟩;rw [ajx R "blanks" (G.flag (.inr (.inr rfl)))]
  by_cases hb:hasW R "blanks"=true
  ·rw [if_pos hb];intro p1 np1;obtain ⟨x,hx,J11⟩:=MkI.put (l:=" ") (p:=p1) nd (J10.more (Same.new (u:=.lst []) np1)) (by simp only [qa1];walk_at "o") (by rw [G.blank hL hM];exact ⟨[],aaa,.nil⟩);refine ⟨x,hx,q d _ x nd J11.same J11.made (fun p=>?_) (qan (acD _ []) (by simp only [qa1,qaG,qag];walk_at "o"))⟩;rw [afi];unfold aaB aa2;rw [if_pos hb,qa6,<- kin p];unfold dd
   by_cases hbl:(" " : Str)∈dds [] (ls++ms++asKs R++aa6 R++os)
   ·rw [if_pos hbl];exact ⟨.inl,fun h=>h.elim id fun e=>by rw [qa7.mp e];exact hbl⟩
   ·rw [if_neg hbl,qa6]
  ·rw [if_neg hb];refine q d _ H10 nd J10.same J10.made (fun p=>?_) (qan (acD _ []) (by simp only [qa1,qaG];walk_at "o"));unfold aaB aa2;rw [if_neg hb,qah];exact kin p
theorem sc_l_parts:FnScope ["_law_makes_here", "_law_worth", "_law_text", "_law_parts_here", "_law_at", "_law_end"] ["_law_makes_here", "_law_worth", "_law_text"] (aaf abg):=fsc
abbrev aco:List Str:=["_law_makes_here", "_law_worth", "_law_text", "_law_parts_here", "_law_at", "_law_end"]
theorem vdI:VS aco abg "_law_makes_here" 0:=vq
theorem vdJ:VS aco abg "_law_worth" 1:=vq
theorem vdK:VS aco abg "_law_text" 2:=vq
theorem vdL:VS aco abg "_law_parts_here" 3:=vq
theorem vdM:VS aco abg "_law_at" 4:=vq
theorem vdN:VS aco abg "_law_end" 5:=vq
theorem vdO:LS abg "_law_parts_here":=lq
theorem vdP:LS abg "_law_at":=lq
theorem vdQ:LS abg "_law_end":=lq
theorem aid(F:FunD K "_law_parts" "_law_parts" abg f fd)(T:Txt P w K mg C):FnOk P w K mg base CX0 1 f fd ["_law_makes_here", "_law_worth", "_law_text"] ahu:=by
 refine F.ok sc_l_parts ?_ ?_
 ·rintro _ _ _ _ ⟨d,z,ks,f,w,rfl,_⟩;rfl
 ·intro cdv A outer s H vs Q E hr h;have hu1:=hu_of hr;have hu:=hr.units;refine ⟨_,QSs.out (aab (aam (n:=3) sc_l_parts.nd rfl vdO (aa5 aac))
   (aab (aam (n:=4) sc_l_parts.nd rfl vdP aad)
   (aab (adh PassesOwn.never (aao q_lt (vi vdM) (qe_cB (q_len (K:=K)) T.b_len abw (qa_c (vi vdK) aac))) (aab (aam (n:=5) sc_l_parts.nd rfl vdQ (qe_op (q_add (K:=K)) (vi vdM) aad))
   (abi (qs_if (QW.pt (adC (ab7 (K:=K) (vi vdJ)) (acF (aao (q_in (K:=K) hu) (qe_ix (K:=K) (vi vdK) (vi vdM)) aaA)))) (aae (adh PassesOwn.never (QW.pt (adC (aao q_lt (vi vdN) (qe_cB (q_len (K:=K)) T.b_len abw (qa_c (vi vdK) aac))) (acF (aao (q_in (K:=K) hu) (qe_ix (K:=K) (vi vdK) (vi vdN)) aaA)))) (aae (aam (n:=5) sc_l_parts.nd rfl vdQ (qe_op (q_add (K:=K)) (vi vdN) aad))))) (aae (qs_if (aao (q_in (K:=K) hu) (aaD (K:=K) (vi vdK) (aaC (vi vdM)) (aaC (qe_op (q_add (K:=K)) (vi vdM) aad))) (vi vdI)) (aae (aam (n:=5) sc_l_parts.nd rfl vdQ (qe_op (q_add (K:=K)) (vi vdM) aad))) aav)))
   (aab (aa0 (qe_mB (K:=K) qal qap qao aaZ (vi vdL) (qa_c (aaD (K:=K) (vi vdK) (aaC (vi vdM)) (aaC (vi vdN))) aac)))
   (aae (aam (n:=4) sc_l_parts.nd rfl vdP (vi vdN)))))))
   (aae (aaz (vi vdL)))))),?_⟩
  obtain ⟨d,z,ks,f,w,rfl,hd,hz,hw,q⟩:=h;have hsz:z.length<=sizeLine:=aax (by walk_at "o");walk_at "rd";refine fun p np=>afT (fun m σ H6=>∃ (pre rest:List Nat) (ps:List Str) (n:Nat) (u:Option V),σ=[some (.ref d),some (.bl w),some (.str z),some (.ref p),some (.int n),u]/\Same H H6/\H6 p=some (.lst (ps.map V.str))/\z.cps.toList=pre++rest/\(rest≠[]->n=pre.length)/\(rest=[]->z.length<=n)/\(cutF w ks z.cps.toList).1=pre.length+(cutF w ks rest).1/\(cutF w ks z.cps.toList).2=ps++(cutF w ks rest).2/\ps.length<=pre.length/\m=rest.length) z.cps.toList.length
   ⟨[],z.cps.toList,[],0,none,rfl,Same.new np,aaa,rfl,fun _=>rfl,fun e=>by rw [<- lenL,e];exact qa2 _,by simp,rfl,qar _,rfl⟩ ?_
  rintro m σ H6 ⟨pre,rest,ps,n,u,rfl,S6,h6,hzl,hn1,hn2,hc1,hc2,hpl,rfl⟩;have hlen:z.length=pre.length+rest.length:=by
   have:=congrArg qb5 hzl
   rw [lenL,qa1] at this;exact this
  walk_at "rd";refine ⟨hsz,iteD (fun hlt=>?_) fun hge=>?_⟩
  ·cases rest with
   | nil=>
    exfalso
    have:=hn2 rfl
    walk_at "o"
   | cons c r=>
    have hn:=hn1 (by simp);subst hn;have hsub:=hw;cases hy:partF w ks (c::r) with
    | none=>
     exfalso
     rw [ach hy] at hc1;unfold aci at hsub;rw [hc1] at hsub;simp at hlen hsub;walk_at "o"
    | some y=>
     obtain ⟨rest',e1,e2,e3⟩:=ab4 hy;rw [e2] at hc1 hc2;have el:y.cps.toList.length=y.length:=by simp [Str.length]
     have erl:(c::r).length=y.length+rest'.length:=by rw [e1,qa1,el]
     have ha:atI z.cps.toList (pre.length:Int)=some c:=by rw [hzl];exact afl
     refine ⟨_,fun _ _ h=>h,mid (fun σ H2=>∃ (e:Nat),σ=[some (.ref d),some (.bl w),some (.str z),some (.ref p),some (.int pre.length),some (.int e)]/\H2=H6/\(e=pre.length+y.length\/(y=one c/\r=[]/\e=pre.length+2))) ?_ ?_⟩
     ·have hd6:=S6 _ _ hd;have fin:partG ks (c::r)=some y->z.length<=sizeLine/\rInR K false (V.str (cutS z (some (pre.length:Int)) (some ((pre.length:Int)+2)))) d H6 fun x H'=>∃ k,x=V.bl k/\if k=true then ∃ e:Nat,(pre.length:Int)+2=(e:Int)/\H'=H6/\(e=pre.length+y.length\/y=one c/\r=[]/\e=pre.length+2) else ∃ e:Nat,(pre.length:Int)+1=(e:Int)/\H'=H6/\(e=pre.length+y.length\/y=one c/\r=[]/\e=pre.length+2):=fun hp=>by
       cases r with
       | nil=>
        rw [ab3] at hp
        by_cases h1:one c∈ks
        ·rw [if_pos h1] at hp;obtain rfl:=Option.some.inj hp;rw [adk hzl];refine ⟨hsz,rInR.d (ual (k:=Sum.inr (one c)) hd6) ⟨_,rfl,?_⟩⟩;rw [aaQ,if_pos h1];exact iteT ⟨pre.length+2,by walk_at "o",rfl,.inr ⟨rfl,rfl,rfl⟩⟩
        ·rw [if_neg h1] at hp;cases hp
       | cons e r=>
        rw [abe] at hp;have ec:cutS z (some (pre.length:Int)) (some ((pre.length:Int)+2))=two c e:=aen (y:=[c,e]) (rest:=r) hzl;rw [ec];refine ⟨hsz,rInR.d (ual (k:=Sum.inr (two c e)) hd6) ⟨_,rfl,?_⟩⟩;rw [aaQ]
        by_cases h2:two c e∈ks
        ·rw [if_pos h2] at hp ⊢
         obtain rfl:=Option.some.inj hp;exact iteT ⟨pre.length+2,by walk_at "o",rfl,.inl rfl⟩
        ·rw [if_neg h2] at hp ⊢
         by_cases h1:one c∈ks
         ·rw [if_pos h1] at hp;obtain rfl:=Option.some.inj hp;exact iteF ⟨pre.length+1,by walk_at "o",rfl,.inl rfl⟩
         ·rw [if_neg h1] at hp;cases hp
      rw [abK] at hy;walk_at "rd"
      cases w with
      | false=>
       rw [Bool.false_and,if_neg qae] at hy;exact iteF (fin hy)
      | true=>
       rw [Bool.true_and] at hy;refine iteT ⟨hsz,c,ha,?_⟩;rw [ajt,qbh]
       by_cases hf:figO c=true
       ·rw [if_pos hf] at hy ⊢
        obtain rfl:=Option.some.inj hy;refine afT (fun m σ H2=>∃ (run left:List Nat),σ=[some (.ref d),some (.bl true),some (.str z),some (.ref p),some (.int pre.length),some (.int ((pre++run).length:Nat))]/\H2=H6/\c::r=run++left/\(c::r).takeWhile figO=run++left.takeWhile figO/\m=left.length) r.length ⟨[c],r,by simp,rfl,rfl,by rw [qbd hf];rfl,rfl⟩ ?_;rintro m σ H2 ⟨run,left,rfl,rfl,hr,htw,rfl⟩;have hzl':z.cps.toList=pre++(run++left):=by rw [hzl,hr]
        have hrl:(c::r).length=run.length+left.length:=by rw [hr,qa1]
        have hpr:(pre++run).length=pre.length+run.length:=qa1;have hout:left.takeWhile figO=[]->(pre++run).length=pre.length+(⟨((c::r).takeWhile figO).toArray⟩:Str).length:=fun h=>by
         rw [<- lenL];show _=pre.length+((c::r).takeWhile figO).length;rw [htw,h,qah,hpr]
        walk_at "rd";refine ⟨hsz,iteD (fun hlt=>⟨hsz,?_⟩) fun hge=>?_⟩
        ·cases left with
         | nil=>
          rw [qaG] at hrl;walk_at "o"
         | cons x l2=>
          refine ⟨x,by rw [hzl',<- qas];exact afl,?_⟩;rw [ajt,qbh]
          by_cases hx:figO x=true
          ·rw [hx];refine iteT ⟨_,fun _ _ h=>h,l2.length,by simp,run++[x],by simp;walk_at "o",rfl,l2,by rw [hr];simp,?_,rfl⟩;rw [htw,qbd hx]
           simp
          ·rw [Bool.not_eq_true] at hx;rw [hx];exact iteF ⟨_,rfl,.inl (hout (List.takeWhile_cons_of_neg (by simp [hx])))⟩
        ·have hl0:left=[]:=qaB.mp (by walk_at "o");exact ⟨_,rfl,.inl (hout (by rw [hl0];rfl))⟩
       ·rw [if_neg hf] at hy ⊢
        exact fin hy
     ·rintro σ H2 ⟨e,rfl,rfl,he⟩;have ec:cutS z (some (pre.length:Int)) (some (e:Int))=y:=by
       rcases he with rfl | ⟨rfl,rfl,rfl⟩
       ·have:=aen (y:=y.cps.toList) (rest:=rest') (pre:=pre) (z:=z) (hzl.trans (by rw [e1]))
        rw [el] at this;exact this
       ·exact adk hzl
      walk_at "rd";rw [ec];refine ⟨tyL h6,hsz,appOk h6 (by rw [qa0];exact aaq (by walk_at "o")) ⟨rest'.length,by rw [qad] at erl;walk_at "o",pre++y.cps.toList,rest',ps++[y],e,rfl,S6.put np,by rw [aaa,qa4];rfl,hzl.trans (by rw [qas];exact congrArg (pre++·) e1),fun hne=>?_,fun h0=>?_,by rw [qa1,el,hc1];dsimp only;walk_at "o",by rw [hc2,qas];rfl,by rw [qa1,qa1,el,qag];walk_at "o",rfl⟩⟩
      ·rw [qa1,el]
       rcases he with rfl | ⟨rfl,rfl,rfl⟩
       ·rfl
       ·have:rest'.length=0:=by
         have h1:(one c).length=1:=rfl;rw [h1,qag] at erl;walk_at "o"
        exact absurd (qaB.mp this) hne
      ·rw [h0,qaG] at erl
       rcases he with rfl | ⟨rfl,rfl,rfl⟩
       ·walk_at "o"
       ·simp at hlen;walk_at "o"
  ·have hr:rest=[]:=by
    cases rest with
    | nil=>rfl
    | cons c r=>have:=hn1 (by simp);simp at hlen;walk_at "o"
   rw [hr] at hc1 hc2;refine q p H6 np S6 ?_;rw [h6,hc2];show some (HO.lst (ps.map V.str))=some (HO.lst ((ps++[]).map V.str));rw [qah]
theorem sc_l_pieces:FnScope ["_law_makes_here", "_law_worth", "_law_cells", "_law_known", "_law_parts_here", "_law_cell", "_law_run"] ["_law_makes_here", "_law_worth", "_law_cells"] (aaf aaP):=fsc
abbrev abN:List Str:=["_law_makes_here", "_law_worth", "_law_cells", "_law_known", "_law_parts_here", "_law_cell", "_law_run"]
theorem vdR:VS abN aaP "_law_makes_here" 0:=vq
theorem vdS:VS abN aaP "_law_worth" 1:=vq
theorem vdT:VS abN aaP "_law_cells" 2:=vq
theorem vdU:VS abN aaP "_law_known" 3:=vq
theorem vdV:VS abN aaP "_law_parts_here" 4:=vq
theorem vdW:VS abN aaP "_law_cell" 5:=vq
theorem vdX:VS abN aaP "_law_run" 6:=vq
theorem vdY:LS aaP "_law_known":=lq
theorem vdZ:LS aaP "_law_parts_here":=lq
theorem vd0:LS aaP "_law_cell":=lq
theorem vd1:LS aaP "_law_run":=lq
theorem agZ(F:FunD K "_law_pieces" "_law_pieces" aaP f fd)(T:Txt P w K mg C):FnOk P w K mg base CX0 1 f fd ["_law_makes_here", "_law_worth", "_law_cells"] (ahw K):=by
 refine F.ok sc_l_pieces ?_ ?_
 ·rintro _ _ _ _ ⟨d,c,w,ks,f,cs,rfl,_⟩;rfl
 ·intro cdv A outer s H vs Q E hr h;have hu1:=hu_of hr;have hu:=hr.units;refine ⟨_,QSs.out (aab (aam (n:=3) sc_l_pieces.nd rfl vdY (qe_cT (adF (K:=K) (calm:=true)) T.b_list acs (qa_c (vi vdR) aac)))
   (aab (aam (n:=4) sc_l_pieces.nd rfl vdZ (aa5 aac))
   (aab (aaW PassesOwn.never (aa1 (K:=K) (vi vdT)) (aal (n:=5) sc_l_pieces.nd rfl vd0 (.inl rfl)) (aae (qs_if (QW.pt (adC (ab7 (K:=K) (vi vdS)) (acF (aao (q_eq (K:=K) hu) (qe_op q_mod (vi vdW) aad) aad)))) (aab (aam (n:=6) sc_l_pieces.nd rfl vd1 (qe_cT amL T.b_str an0 (qa_c (qe_op q_mod (qe_op aaO (vi vdW) aad) (qe_ix (K:=K) (aa5 (qa_c aad (qa_c (qe_op q_pow aad aad) aac))) (qe_op q_mod (qe_op aaO (vi vdW) aad) aad))) aac)))
   (aae (aa0 (qe_mB (K:=K) qal qap qao aaZ (vi vdV) (qa_c (qe_op (q_add (K:=K)) (qe_ix (K:=K) (aa5 (qa_c aaA (qa_c aaA (qa_c aaA aac)))) (qe_op q_mod (qe_op aaO (vi vdW) aad) aad)) (vi vdX)) aac))))) (aae (aa0 (qe_mB (K:=K) qal qap qao aaZ (vi vdV) (qa_c (qe_ix (K:=K) (vi vdU) (qe_op q_mod (qe_op aaO (vi vdW) aad) (qe_cB (q_len (K:=K)) T.b_len abw (qa_c (vi vdU) aac)))) aac)))))))
   (aae (aaz (vi vdV)))))),?_⟩
  obtain ⟨d,c,w,ks,f,cs,rfl,hd,hk1,hk2,hc,hcl,q⟩:=h;walk_at "rd";refine rListR.d (.of hd) fun k nk=>?_
  rw [show (kvN ks f).map (fun kv=>kV kv.1)=ks.map V.str by unfold kvN;rw [qb7];rfl];have S1:Same H (upd H k (.lst (ks.map V.str))):=Same.new nk;have hk:upd H k (.lst (ks.map V.str)) k=some (.lst (ks.map V.str)):=aaa;generalize upd H k (.lst (ks.map V.str))=H1 at S1 hk;intro p np;have np0:=S1.free np;have hp2:upd H1 p (.lst []) p=some (.lst []):=aaa;have S2:Same H1 (upd H1 p (.lst [])):=Same.new np;generalize upd H1 p (.lst [])=H2 at hp2 S2;refine ⟨⟨_,S2.seq (S1.seq hc)⟩,forL (xs:=cs.map V.int) (fun i σ H3=>∃ (u v:Option V) (ps:List Str),σ=[some (.ref d),some (.bl w),some (.ref c),some (.ref k),some (.ref p),u,v]/\Same H1 H3/\H3 p=some (.lst (ps.map V.str))/\(∀ x∈ps,PcL w ks x)/\ps.length=i) ⟨none,none,[],rfl,S2,hp2,by simp,rfl⟩ (by rintro i σ H3 _ ⟨_,_,_,_,S,_⟩;exact S.seq (S1.seq hc)) ?_ ?_⟩
  ·rintro i v σ H3 hv ⟨u1,u2,ps,rfl,S3,hp3,hps,hpl⟩;obtain ⟨n,hn,rfl⟩:=aaE hv;have hi:i<cs.length:=(qa5.mp hn).1;have hk3:=S3 _ _ hk;have hlen:(ps.map V.str).length<sizeLine:=by rw [qa0];exact aaq (by walk_at "o")
   have put:∀ {H4:Hp} {x:Str},Same H3 H4->PcL w ks x->Same H1 (upd H4 p (.lst (ps.map V.str++[V.str x])))/\upd H4 p (.lst (ps.map V.str++[V.str x])) p=some (.lst ((ps++[x]).map V.str))/\(∀ y∈ps++[x],PcL w ks y)/\(ps++[x]).length=i+1:=fun {H4 x} S4 hx=>⟨(S3.trans S4).put np,by rw [aaa,qa4];rfl,fun y hy=>by
    rcases qa6.mp hy with h | h
    ·exact hps y h
    ·rw [qa7.mp h];exact hx,by rw [qa1,hpl];rfl⟩
   have els:∃ m:Nat,LenR K H3 k m/\0<(m:Int)/\∃ xs,(SqL K H3 k xs\/SqT K H3 k xs)/\∃ x,atI xs (n / 5 % (m:Int))=some x/\ad2 (V.ref p) [x] H3 fun x H4=>Same H1 H4/\∃ x:List Str,H4 p=some (HO.lst (x.map V.str))/\(∀ y∈x,PcL w ks y)/\x.length=i+1:=by
    obtain ⟨x,hx,hat⟩:=pickA (zs:=ks) (n / 5) hk1;obtain ⟨p1,p2,p3,p4⟩:=put (uah H3) (.inl hx);exact ⟨ks.length,.inl ⟨_,.of hk3,by rw [qa0]⟩,by walk_at "o",_,.inl (.of hk3),_,hat,appOk hp3 hlen ⟨p1,_,p2,p3,p4⟩⟩
   walk_at "rd"
   cases w with
   | false=>exact iteF ⟨tyL hp3,els⟩
   | true=>
    refine iteT (iteD (fun _=>?_) fun _=>⟨tyL hp3,els⟩);refine ⟨10,12,rfl,rfl,⟨by decide,by decide,by decide⟩,by decide,fun p1 np1=>?_⟩;have S4:Same H3 (upd H3 p1 (.lst [V.int 10,V.int ((10:Int) ^ (12:Int).toNat)])):=Same.new np1;have hp1:upd H3 p1 (.lst [V.int 10,V.int ((10:Int) ^ (12:Int).toNat)]) p1=some (.lst [V.int 10,V.int ((10:Int) ^ (12:Int).toNat)]):=aaa;generalize upd H3 p1 (.lst [V.int 10,V.int ((10:Int) ^ (12:Int).toNat)])=H4 at S4 hp1;obtain ⟨m,hm,hm0,hm1⟩:∃ m:Int,atI [V.int 10,V.int ((10:Int) ^ (12:Int).toNat)] (n / 150 % 2)=some (V.int m)/\0<m/\m<=10 ^ 12:=by
     have h0:n / 150 % 2=0\/n / 150 % 2=1:=by walk_at "o"
     rcases h0 with e | e
     ·rw [e];exact ⟨10,rfl,by decide,by decide⟩
     ·rw [e];exact ⟨_,rfl,by decide,by decide⟩
    obtain ⟨v,hv,hvl⟩:∃ v:Nat,n / 15 % m=(v:Int)/\v<10 ^ 12:=⟨(n / 15 % m).toNat,by
     have:=qaZ (n / 15) (show m≠0 by walk_at "o")
     walk_at "o",by
     have h1:=qaZ (n / 15) (show m≠0 by walk_at "o");have h2:=qaT (n / 15) hm0;have h3:((10 ^ 12:Nat):Int)=10 ^ 12:=by decide
     walk_at "o"⟩
    refine ⟨_,.inl (.of hp1),_,hm,m,rfl,hm0,_,rfl,?_,tyL (S4 _ _ hp3),by decide,fun p2 np2=>?_⟩
    ·rw [hv];show v.log2<1920
     by_cases h0:v=0
     ·rw [h0];decide
     ·rw [Nat.log2_lt h0];exact qau hvl (by decide +kernel)
    rw [hv];have S5:Same H4 (upd H4 p2 (.lst [V.str (Str.ofString ""),V.str (Str.ofString "0"),V.str (Str.ofString "00")])):=Same.new np2;have hp5:upd H4 p2 (.lst [V.str (Str.ofString ""),V.str (Str.ofString "0"),V.str (Str.ofString "00")]) p2=some (.lst (([Str.ofString "",Str.ofString "0",Str.ofString "00"]:List Str).map V.str)):=aaa;generalize upd H4 p2 (.lst [V.str (Str.ofString ""),V.str (Str.ofString "0"),V.str (Str.ofString "00")])=H5 at S5 hp5;obtain ⟨y,hy,hat⟩:=pickA (zs:=[Str.ofString "",Str.ofString "0",Str.ofString "00"]) (n / 5) (by decide);have hy2:∀ y∈([Str.ofString "",Str.ofString "0",Str.ofString "00"]:List Str),y.length<=2/\∀ c∈y.cps.toList,figO c=true:=by decide +kernel
    obtain ⟨hyl,hyf⟩:=hy2 y hy;have hr:=amO hvl hyl hyf;have hrl:=hr.2;refine ⟨_,.inl (.of hp5),_,hat,?_⟩;obtain ⟨p1',p2',p3',p4'⟩:=put (S4.trans S5) (.inr ⟨⟨rfl,hr.1⟩,hr.2⟩);walk_at "rd";refine ⟨?_,appOk ((S4.trans S5) _ _ hp3) hlen ⟨p1',_,p2',p3',p4'⟩⟩;have e:(y++Str.ofString (toString (v:Int))).length=y.length+(Str.ofString (toString (v:Int))).length:=by
     rw [<- lenL,<- lenL,<- lenL,Str.cps_append,qb9,qa1]
    exact aax (by walk_at "o")
  rintro σ H3 ⟨u1,u2,ps,rfl,S3,hp3,hps,hpl⟩;rw [qa0] at hpl;walk_at "rd";exact q p H3 ps np0 (S1.trans S3) hp3 hps (by walk_at "o")
theorem sc_l_due:FnScope ["_law_rules_here", "_law_parts_here", "_law_marks", "_law_due_here", "_law_at", "_law_part_here"] ["_law_rules_here", "_law_parts_here"] (aaf abL):=fsc
abbrev adz:List Str:=["_law_rules_here", "_law_parts_here", "_law_marks", "_law_due_here", "_law_at", "_law_part_here"]
theorem vd2:VS adz abL "_law_rules_here" 0:=vq
theorem vd3:VS adz abL "_law_parts_here" 1:=vq
theorem vd4:VS adz abL "_law_marks" 2:=vq
theorem vd5:VS adz abL "_law_due_here" 3:=vq
theorem vd6:VS adz abL "_law_at" 4:=vq
theorem vd7:VS adz abL "_law_part_here" 5:=vq
theorem vd8:LS abL "_law_marks":=lq
theorem vd9:LS abL "_law_due_here":=lq
theorem vea:LS abL "_law_at":=lq
theorem veb:LS abL "_law_part_here":=lq
theorem akU(F:FunD K "_law_due" "_law_due" abL f fd)(T:Txt P w K mg C)(G_l_row_of:FO P w K mg base 1 "_law_row_of" ["_law_rules_here", "_law_word"] [] (afo K)):FnOk P w K mg base CX0 2 f fd ["_law_rules_here", "_law_parts_here"] (ajE K):=by
 refine F.ok sc_l_due ?_ ?_
 ·rintro _ _ _ _ ⟨r,a,ts,R,ns,ls,ms,zs,rfl,_⟩;rfl
 ·intro cdv A outer s H vs Q E hr h;have hu1:=hu_of hr;have hu:=hr.units;refine ⟨_,QSs.out (aab (aam (n:=2) sc_l_due.nd rfl vd8 (aai G_l_row_of (hm hr) (qa_c (vi vd2) (qa_c aaA aac))))
   (aab (aam (n:=3) sc_l_due.nd rfl vd9 (aa5 (qa_c aad aac)))
   (aab (aam (n:=4) sc_l_due.nd rfl vea aad)
   (aab (aaW PassesOwn.never (aa1 (K:=K) (vi vd3)) (aal (n:=5) sc_l_due.nd rfl veb (.inl rfl)) (aab (qs_if (QW.pt (adC (aao (afa (K:=K) hu) (vi vd7) (vi vd4)) (acF (aao q_gt (vi vd6) aad)))) (aae (aa0 (qe_mB (K:=K) qal qap qao aaZ (vi vd5) (qa_c (vi vd6) aac)))) aav)
   (aae (aam (n:=4) sc_l_due.nd rfl vea (qe_op (q_add (K:=K)) (vi vd6) (qe_cB (q_len (K:=K)) T.b_len abw (qa_c (vi vd7) aac)))))))
   (aab (qs_if (aao q_gt (vi vd6) aad) (aae (aa0 (qe_mB (K:=K) qal qap qao aaZ (vi vd5) (qa_c (vi vd6) aac)))) aav)
   (aae (aaz (vi vd5)))))))),?_⟩
  obtain ⟨r,a,ts,R,ns,ls,ms,zs,rfl,hR,G,ha,hzl,hzs,q⟩:=h;have hRl:=G.len;walk_at "rd";refine ⟨r,ts,R, "marks",rfl,hR,by walk_at "o",fun z hz=>qan (G.zl hz) (by decide),fun m H1 nm S1 hm=>?_⟩;rw [G.mrk.1] at hm;refine ⟨by decide,fun p np=>?_⟩;have S2:Same H1 (upd H1 p (.lst [V.int 0])):=Same.new np;have hp2:upd H1 p (.lst [V.int 0]) p=some (.lst ((dueL ms zs 0).map V.int)):=aaa;generalize upd H1 p (.lst [V.int 0])=H2 at S2 hp2;have hmp:m≠p:=fun e=>by rw [e,np] at hm;cases hm
  have hap:a≠p:=fun e=>by have:=S1 _ _ ha;rw [e,np] at this;cases this
  have tp:=fun i=>amS (zs:=zs) (fun z hz=>(hzs z hz).1) (i:=i)
  refine ⟨⟨_,.of (S2 _ _ (S1 _ _ ha))⟩,forL (xs:=zs.map V.str) (fun i σ H'=>∃ u:Option V,σ=[some (.ref r),some (.ref a),some (.ref m),some (.ref p),some (.int ((tot (zs.take i):Nat):Int)),u]/\Same H1 H'/\H' p=some (.lst ((dueL ms zs i).map V.int))) ⟨none,rfl,S2,hp2⟩ (by rintro i σ H' _ ⟨_,_,S,_⟩;exact .of (S _ _ (S1 _ _ ha))) ?_ ?_⟩
  ·rintro i y σ H' hy ⟨u,rfl,S',hp'⟩;obtain ⟨z,hz,rfl⟩:=aaE hy;have hi:i<zs.length:=(qa5.mp hz).1;have hz2:=hzs z (qab hz);have hdl:=adV ms zs i;have hti:=tp i (by walk_at "o");have eB:dueB ms zs i=!decide (z∈ms):=by unfold dueB;rw [hz]
   have eD:dueL ms zs (i+1)=if (!decide (z∈ms)&&decide (0<i))=true then dueL ms zs i++[((tot (zs.take i):Nat):Int)] else dueL ms zs i:=by rw [dueL,eB]
   walk_at "rd";refine rInR.l (.inl (.of (S' _ _ hm))) rfl (by simp [flatV]) ⟨_,rfl,?_⟩;rw [adN,Bool.true_xor];have hsz:z.length<=sizeLine:=aax (by walk_at "o");have htt:((tot (zs.take i):Nat):Int)+(z.length:Int)=((tot (zs.take (i+1)):Nat):Int):=by rw [afq hz];walk_at "o"
   by_cases hm2:z∈ms
   ·rw [if_neg (by simp [hm2])];refine ⟨hsz,htt,S',?_⟩;rw [eD,if_neg (by simp [hm2])];exact hp'
   ·rw [if_pos (by simp [hm2])];refine iteD (fun h0=>⟨tyL hp',appOk hp' (by rw [qa0];exact aaq (by walk_at "o")) ⟨hsz,htt,S'.put np,?_⟩⟩) fun h0=>⟨hsz,htt,S',?_⟩
    ·rw [aaa,eD,if_pos (by simp [hm2];walk_at "o"),qa4];rfl
    ·rw [eD,if_neg (by simp;walk_at "o")];exact hp'
  rintro σ H' ⟨u,rfl,S',hp'⟩;rw [qa0] at hp';have hdl:=adV ms zs zs.length;have hti:=tp zs.length (qa2 _);rw [qaj] at hti;walk_at "rd";rw [qa0,qaj];unfold dueF at q
  by_cases h0:zs.length=0
  ·rw [if_pos h0] at q;refine iteD (fun h=>?_) fun h=>?_
   ·walk_at "o"
   ·rw [h0] at hp';exact q p H' (S1.free np) (S1.trans S') hp'
  ·rw [if_neg h0] at q;refine iteD (fun h=>⟨tyL hp',appOk hp' (by rw [qa0];exact aaq (by walk_at "o")) (q p _ (S1.free np) (S1.trans (S'.put np)) ?_)⟩) fun h=>?_
   ·rw [aaa,qa4];rfl
   ·walk_at "o"
theorem sc_law:FnScope ["_law_script", "_law_rules_here", "_law_makes_here", "_law_worth", "_law_text", "_law_marks", "_law_due_here", "_law_order", "_law_places", "_law_place"] ["_law_script"] (aaf s_law):=fsc
abbrev n_law:List Str:=["_law_script", "_law_rules_here", "_law_makes_here", "_law_worth", "_law_text", "_law_marks", "_law_due_here", "_law_order", "_law_places", "_law_place"]
theorem vec:VS n_law s_law "_law_script" 0:=vq
theorem ved:VS n_law s_law "_law_rules_here" 1:=vq
theorem vee:VS n_law s_law "_law_makes_here" 2:=vq
theorem vef:VS n_law s_law "_law_worth" 3:=vq
theorem veg:VS n_law s_law "_law_text" 4:=vq
theorem veh:VS n_law s_law "_law_marks" 5:=vq
theorem vei:VS n_law s_law "_law_due_here" 6:=vq
theorem vej:VS n_law s_law "_law_order" 7:=vq
theorem vek:VS n_law s_law "_law_places" 8:=vq
theorem vel:VS n_law s_law "_law_place" 9:=vq
theorem vem:LS s_law "_law_rules_here":=lq
theorem ven:LS s_law "_law_makes_here":=lq
theorem veo:LS s_law "_law_worth":=lq
theorem vep:LS s_law "_law_text":=lq
theorem veq:LS s_law "_law_marks":=lq
theorem ver:LS s_law "_law_due_here":=lq
theorem ves:LS s_law "_law_order":=lq
theorem vet:LS s_law "_law_places":=lq
theorem veu:LS s_law "_law_place":=lq
theorem aox(F:FunD K "law" "law" s_law f fd)(T:Txt P w K mg C)(G_Order___init__:KO P w K mg base 5 C "Order" ["self", "rules"] (agD C))(G_joints:FO P w K mg base 6 "joints" ["order", "text"] [] (afr C))(G_l_cell_at:FO P w K mg base 1 "_law_cell_at" ["_law_script", "_law_k"] [] (adr K))(G_l_rules:FO P w K mg base 5 "_law_rules" ["_law_script"] [] (ahq K))(G_l_row_of:FO P w K mg base 1 "_law_row_of" ["_law_rules_here", "_law_word"] [] (afo K))(G_l_makes:FO P w K mg base 2 "_law_makes" ["_law_rules_here"] [] (ajy K))(G_l_parts:FO P w K mg base 1 "_law_parts" ["_law_makes_here", "_law_worth", "_law_text"] [] ahu)(G_l_pieces:FO P w K mg base 1 "_law_pieces" ["_law_makes_here", "_law_worth", "_law_cells"] [] (ahw K))(G_l_due:FO P w K mg base 2 "_law_due" ["_law_rules_here", "_law_parts_here"] [] (ajE K)):FnOk P w K mg base CX0 7 f fd ["_law_script"] (spLaw K):=by
 refine F.ok sc_law ?_ ?_
 ·rintro _ _ _ _ ⟨a,ns,rfl,_⟩;rfl
 ·intro cdv A outer s H vs Q E hr h;have hu1:=hu_of hr;have hu:=hr.units;refine ⟨_,QSs.out (aab (aam (n:=1) sc_law.nd rfl vem (aai G_l_rules (hm hr) (qa_c (vi vec) aac)))
   (aab (aam (n:=2) sc_law.nd rfl ven (aai G_l_makes (hm hr) (qa_c (vi ved) aac)))
   (aab (aam (n:=3) sc_law.nd rfl veo (acE (q_inD (K:=K) hu) (abd (qa_c aaA aac)) (vi ved)))
   (aab (aam (n:=4) sc_law.nd rfl vep (qe_mB (K:=K) PySem.F.plainAttrs_str PySem.F.slot_str_join PySem.F.type_str_join (an9 (K:=K)) aaA (qa_c (aai G_l_pieces (hm hr) (qa_c (vi vee) (qa_c (vi vef) (qa_c (aaD (K:=K) (vi vec) (aaC aad) (aaC aad)) aac)))) aac)))
   (aab (aam (n:=5) sc_law.nd rfl veq (aai G_l_row_of (hm hr) (qa_c (vi ved) (qa_c aaA aac))))
   (abi (qs_if (QW.pt (adC (aao (q_ne (K:=K) hu) (vi veh) (aa5 aac)) (acF (aao (q_eq (K:=K) hu) (qe_op q_mod (qe_op aaO (aai G_l_cell_at (hm hr) (qa_c (vi vec) (qa_c aad aac))) aad) aad) aad)))) (aae (aam (n:=4) sc_law.nd rfl vep (qe_op (q_add (K:=K)) (qe_op (q_add (K:=K)) (qe_ix (K:=K) (vi veh) aad) (qe_ix (K:=K) (vi veh) (qe_un q_neg aad))) (vi veg)))) aav)
   (aab (aam (n:=6) sc_law.nd rfl ver (aai G_l_due (hm hr) (qa_c (vi ved) (qa_c (aai G_l_parts (hm hr) (qa_c (vi vee) (qa_c (vi vef) (qa_c (vi veg) aac)))) aac))))
   (aab (aam (n:=7) sc_law.nd rfl ves (amx G_Order___init__ (hm hr) (qa_c (vi ved) aac)))
   (aab (aam (n:=8) sc_law.nd rfl vet (aai G_joints (hm hr) (qa_c (vi vej) (qa_c (vi veg) aac))))
   (aab (qs_if (QW.pt (qw_or (ak4 (ab7 (K:=K) (qe_cB q_isi T.b_isinstance acr (qa_c (vi vek) (qa_c (qe_ty T.b_list acs) aac))))) (ag9 (aao (q_ne (K:=K) hu) (vi vek) (vi vei))))) (aae (aaz qe_bl)) aav)
   (aab (aaW PassesOwn.never (aa1 (K:=K) (vi vek)) (aal (n:=9) sc_law.nd rfl veu (.inl rfl)) (aae (qs_if (QW.pt (qw_or (ak4 (ab7 (K:=K) (qe_cB q_isi T.b_isinstance acr (qa_c (vi vel) (qa_c (qe_ty T.b_int an1) aac))))) (ag9 (ab7 (K:=K) (qe_cB q_isi T.b_isinstance acr (qa_c (vi vel) (qa_c (qe_ty T.b_bool amn) aac))))))) (aae (aaz qe_bl)) aav)))
   (aab (aa0 (qe_mB (K:=K) qal qap qao aaZ (vi vek) (qa_c aad aac)))
   (aae (aaz (ak3 (acE (q_eq (K:=K) hu) (aai G_joints (hm hr) (qa_c (vi vej) (qa_c (vi veg) aac))) (vi vei)) (aiP (acE (q_eq (K:=K) hu) (aai G_joints (hm hr) (qa_c (vi vej) (qa_c aaA aac))) (aa5 (qa_c aad aac))))))))))))))))))),?_⟩
  obtain ⟨a,ns,rfl,hS,hlen,q⟩:=h;walk_at "rd";refine ⟨a,ns,rfl,hS,fun r ts R ls ms H1 S1 nr hR G=>?_⟩;obtain ⟨hL,hM⟩:=G.lines;have hRl:=G.len;refine ⟨r,ts,R,ns,ls,ms,rfl,hR,G,hL,hM,fun d ks H2 nd S2 hd hks hkl=>?_⟩;have hR2:=hR.same S2;have hS2:=(S1.trans S2).seq hS;clear hR S1 S2 nr nd hS;have eqk:∀ l,cutF (hasW R "figures") ks l=cutF (hasW R "figures") (aaB R) l:=fun l=>aeW hks l
  refine ⟨by decide,fun p np=>?_⟩;have S3:Same H2 (upd H2 p (.tup [V.str (Str.ofString "figures")])):=Same.new np;have hp3:upd H2 p (.tup [V.str (Str.ofString "figures")]) p=some (.tup ((("figures" : Str)::[]).map V.str)):=aaa;generalize upd H2 p (.tup [V.str (Str.ofString "figures")])=H3 at S3 hp3;refine ⟨ruleD ("figures",[]),.tup (.of hp3) (uad (by intro y hy;rw [qa7.mp hy];decide +kernel)),R.map ruleD,ahm (hR2.same S3) G.str,qan (Nat.min_le_left _ _) (qan (adb R) (by decide)),?_⟩;rw [ajx R "figures" (G.flag (.inl rfl))];refine rSlR.l (S3.seq hS2) fun c nc=>?_
  rw [show cutV (ns.map V.int) (some 6) (some 24)=((ns.drop 6).take 18).map V.int by rw [show cutV (ns.map V.int) (some 6) (some 24)=_ from afh _ (i:=6) (j:=24) (by decide),<- qbD,<- qbx]];have hcl:((ns.drop 6).take 18).length<=18:=by rw [qaf];walk_at "o"
  generalize (ns.drop 6).take 18=cs at hcl;have S4:Same H3 (upd H3 c (.lst (cs.map V.int))):=Same.new nc;have hc4:upd H3 c (.lst (cs.map V.int)) c=some (.lst (cs.map V.int)):=aaa;generalize upd H3 c (.lst (cs.map V.int))=H4 at S4 hc4;have hd4:=hd.same (S3.trans S4);obtain ⟨ad,hd1,hd2⟩:=hd4;refine ⟨d,c,_,ks,_,cs,rfl,hd1,G.known_pos hks,hkl,.of hc4,by walk_at "o",fun l H5 ps nl S5 hl5 hps hpl=>?_⟩;obtain ⟨s1,s2,s3,s4⟩:=ajB G hks hps;have hpk:∀ p∈ps,PcW (hasW R "figures") (aaB R) p:=fun p hp=>(hps p hp).imp (hks p).mp And.left
  have hR5:=hR2.same (S3.trans (S4.trans S5));have hS5:=(S3.trans (S4.trans S5)).seq hS2;have hd5:=S5 _ _ hd1;clear hd hd1 hd2 hR2 hS2 S3 S4 S5 nl hc4 nc hp3 np;refine ⟨_,l,ps,rfl,rfl,.inl (.of hl5),by decide,by walk_at "o",?_⟩;have hz1:(Str.join (Str.ofString "") ps).length<=300:=by walk_at "o"
  generalize Str.join (Str.ofString "") ps=z at hz1 s3 s4;refine ⟨r,ts,R, "marks",rfl,hR5,by walk_at "o",fun z hz=>qan (G.zl hz) (by decide),fun m H6 nm S6 hm=>?_⟩;rw [G.mrk.1] at hm;have hmk:∀ x∈ms,x∈aaB R:=fun x hx=>adU (qa8.mpr ⟨_,G.mark.mpr hx,rfl⟩)
  have hmok:∀ x∈ms,qaO x=true/\x.length<=2:=fun x hx=>by
   obtain ⟨k,hk⟩:=G.pc (qa8.mpr ⟨_,G.mark.mpr hx,rfl⟩);exact ⟨(ab1 hk.ok.1).1,(ab1 hk.ok.1).2.2⟩
  refine mid (fun σ H'=>∃ z:Str,σ=[some (.ref a),some (.ref r),some (.ref d),some (.bl (hasW R "figures")),some (.str z),some (.ref m),none,none,none,none]/\Same H6 H'/\z.length<=400/\aci (hasW R "figures") (aaB R) z) ?_ ?_
  ·walk_at "rd";intro p np;have S7:Same H6 (upd H6 p (.lst [])):=Same.new np;have hp7:upd H6 p (.lst []) p=some (.lst []):=aaa;generalize upd H6 p (.lst [])=H7 at S7 hp7;have hm7:=S7 _ _ hm;refine ⟨_,.lst (.of hm7) (uad fun x hx=>(hmok x hx).1),_,.lst (.of hp7) .nil,qan (Nat.min_le_right _ _) (by decide),?_⟩
   by_cases hme:ms=[]
   ·subst hme;rw [if_neg (by simp [qaN,qb6])];exact ⟨S7,by walk_at "o",s4⟩
   rw [if_pos (by
    cases ms with
    | nil=>exact absurd rfl hme
    | cons x r=>rfl)]
   refine ⟨a,ns,5,rfl,(S6.trans S7).seq hS5,by decide,_,rfl,iteD (fun _=>?_) fun _=>⟨S7,by walk_at "o",s4⟩⟩;obtain ⟨m0,mr,e0⟩:∃ x r,ms=x::r:=by
    cases ms with
    | nil=>exact absurd rfl hme
    | cons x r=>exact ⟨x,r,rfl⟩
   obtain ⟨mi,ml,e1⟩:=amN hme;have h0:m0∈ms:=by rw [e0];exact qac
   have h1:ml∈ms:=by rw [e1];simp
   have a0:atI (ms.map V.str) 0=some (V.str m0):=by rw [e0];exact aaS _ _
   have a1:atI (ms.map V.str) (-1)=some (V.str ml):=by rw [e1,qa4];exact ag4 _ _
   have l0:=(hmok m0 h0).2;have l1:=(hmok ml h1).2;refine ⟨_,.inl (.of hm7),_,a0,_,.inl (.of hm7),_,a1,?_⟩;walk_at "rd";have e2:(m0++ml).length=m0.length+ml.length:=by rw [<- lenL,<- lenL,<- lenL,Str.cps_append,qb9,qa1]
   have e3:(m0++ml++z).length=(m0++ml).length+z.length:=by rw [<- lenL,<- lenL,<- lenL,Str.cps_append (m0++ml),qb9,qa1]
   refine ⟨aax (by walk_at "o"),aax (by walk_at "o"),S7,by walk_at "o",ae0 G (ps:=m0::ml::ps) ?_ fun p hp=>?_⟩
   ·rw [Str.cps_append,Str.cps_append,qb9,qb9,s3];simp [flatP]
   ·rcases qaa.mp hp with rfl | hp
    ·exact .inl (hmk _ h0)
    rcases qaa.mp hp with rfl | hp
    ·exact .inl (hmk _ h1)
    ·exact hpk p hp
  rintro σ H7 ⟨z,rfl,S7,hz,hw⟩;have S57:=S6.trans S7;have hR7:=hR5.same S57;have hd7:=S57 _ _ hd5;clear s1 s2 s3 s4 hz1 hps hpl hpk hl5 hmk hmok hm nm S6 S7 hR5 hd5 hS5 S57;have hf:=(adt (w:=hasW R "figures") (g:=aaB R) _ z.cps.toList (qa2 _)).2.1;have hy:=aep (w:=hasW R "figures") (g:=aaB R) _ z.cps.toList (qa2 _);have hn:=afn (w:=hasW R "figures") (g:=aaB R) _ z.cps.toList (qa2 _);rw [lenL] at hf hy;walk_at "rd";refine ⟨d,z,ks,_,_,rfl,hd7,by walk_at "o",by unfold aci at hw ⊢;rw [eqk];exact hw,fun l2 H8 nl2 S8 hl8=>?_⟩
  rw [eqk] at hl8;have hdl:=akQ ms (cutF (hasW R "figures") (aaB R) z.cps.toList).2;refine ⟨r,l2,ts,R,ns,ls,ms,_,rfl,hR7.same S8,G,hl8,by walk_at "o",fun y hy2=>⟨hn y hy2,by have:=hy y hy2;walk_at "o"⟩,fun l3 H9 nl3 S9 hl9=>?_⟩;have hR9:=hR7.same (S8.trans S9);clear hR7 hd7 S8 hl8 nl2;intro x dx nx ndx ndxx;have SA:Same H9 (upd (upd H9 dx (.own x)) x (.ins C dx [])):=(Same.new ndx).trans (Same.new (by rw [aah ndxx.symm];exact nx));have hxA:upd (upd H9 dx (.own x)) x (.ins C dx []) x=some (.ins C dx []):=aaa;generalize upd (upd H9 dx (.own x)) x (.ins C dx [])=HA at SA hxA;refine ⟨x,dx,r,ts,R,gOf R,_,_,rfl,hxA,hR9.same SA,G.good,fun j ll ml md L M HB nj nll nml nmd BB hO=>?_⟩;obtain rfl:=G.lets hO.l1;obtain rfl:=G.mrks hO.l2;have S9B:Same H9 HB:=fun b o hb=>BB _ _ (fun e=>by rw [e,nx] at hb;cases hb) (SA _ _ hb)
  have hlB:=S9B _ _ hl9;clear hl9 S9B BB SA hxA nj nll nml nmd nx ndx ndxx hR9 S9 nl3;have jn:∀ {H':Hp} {y:Str} {Z:VK},Same HB H'->y.length<=500->aci (hasW R "figures") (aaB R) y->(∀ l H'',H' l=none->Same H' H''->H'' l=some (.lst ((dueF M (cutF (hasW R "figures") (aaB R) y.cps.toList).2).map V.int))->Z (.ref l) H'')->afr C [V.ref x,V.str y] H' Z E0:=fun S hy hw hZ=>
   ⟨x,j,ll,ml,md,_,ns,R,L,M,rfl,hO.same S,G,hy,hw,hZ⟩
  have jz:=fun {H':Hp} {Z:VK} (S:Same HB H')=>jn (Z:=Z) (y:=z) S (by walk_at "o") hw
  generalize dueF M (cutF (hasW R "figures") (aaB R) z.cps.toList).2=du at hdl hlB jz;refine ⟨rfl,jz (uah _) fun l4 HC nl4 SC hl4=>?_⟩;refine ⟨"list",amo hl4,rfl,?_⟩;rw [if_neg (by decide)];walk_at "rd";refine ⟨_,.lst (.of hl4) uae,_,.lst (.of (SC _ _ hlB)) uae,by rw [qbt,acT];decide,?_⟩;rw [qaN,acp,decide_eq_true rfl];refine iteF ⟨⟨_,.of hl4⟩,forL (xs:=du.map V.int) (fun i σ H'=>(∃ u:Option V,σ=[some (.ref a),some (.ref r),some (.ref d),some (.bl (hasW R "figures")),some (.str z),some (.ref m),some (.ref l3),some (.ref x),some (.ref l4),u])/\H'=HC) ⟨⟨none,rfl⟩,rfl⟩ (fun i σ H' _ ⟨_,e⟩=>by rw [e];exact .of hl4) ?_ ?_⟩
  ·rintro i y σ H' hy ⟨⟨u,rfl⟩,rfl⟩;obtain ⟨n,hn,rfl⟩:=aaE hy;walk_at "rd";refine ⟨"int",rfl,rfl,?_⟩;rw [if_neg (by decide)];refine ⟨"int",rfl,rfl,?_⟩;rw [if_neg (by decide)]
   trivial
  rintro σ H' ⟨⟨u,rfl⟩,rfl⟩;walk_at "rd";refine ⟨tyL hl4,appOk hl4 (by rw [qa0];exact aaq (by walk_at "o")) ?_⟩;have SD:Same HB (upd H' l4 (.lst (du.map V.int++[V.int 1]))):=SC.put nl4;generalize upd H' l4 (.lst (du.map V.int++[V.int 1]))=HD at SD;refine jz SD fun l5 HE nl5 SE hl5=>?_
  refine ⟨_,.lst (.of hl5) uae,_,.lst (.of (SE _ _ (SD _ _ hlB))) uae,by rw [qbt,acT];decide,?_⟩;rw [qaN,acp,decide_eq_true rfl];refine iteT (jn (y:=Str.ofString "") (SD.trans SE) (by decide) (by unfold aci;rw [show (Str.ofString "").cps.toList=[] from rfl,ac1];rfl) fun l6 HF nl6 SF hl6=>?_);rw [show (Str.ofString "").cps.toList=[] from rfl,ac1] at hl6;have hl7:HF l6=some (.lst (([0]:List Int).map V.int)):=hl6;refine ⟨by decide,fun p8 np8=>?_⟩;refine ⟨_,.lst (.of (aag hl7 np8)) uae,_,.lst (xs:=([0]:List Int).map V.int) (.of aaa) uae,by rw [qbt,acT];decide,?_⟩;rw [qaN,acp,decide_eq_true rfl];exact q _
end
theorem all_mk{l:PySem.W.OpenLaw}{w:World}(X:K.In h)(G:h.Ns mainGlobals mg)(hfa:mg "law"=some (.ref fa))(d0:DF K "told" ac5)(d1:DF K "followers" aaG)(d2:DF K "count_ahead" aaL)(d3:DF K "lined_up" aau)(d4:DF K "is_figure" acy)(d5:DF K "has_rule" ack)(d6:DF K "pieces_told" abU)(d7:DF K "is_clash" abA)(d8:DF K "jobs_of" abf)(d9:DF K "misused" abE)(d10:DF K "check_letters" aaH)(d11:DF K "line_of" acM)(d12:DF K "forms_of" abB)(d13:DF K "steps_of" aas){f14:Addr}{od14 an14:Option Addr}{sl14:Array (Option Value)}{oc14 kV14 dc14 pm14 cd14 ct14:Value}(a14:qaz K (.ref C) "__init__"=some (some (.ref f14)))(i14:qby K (.ref f14)=true)(l14:K.lookup f14=some ⟨oc14,od14,.func (qaM "__init__" "Order.__init__" (abt aaJ) (abh aaJ) (aaf aaJ) .none kV14 dc14 pm14 an14 cd14 ct14),sl14⟩)(c14:qaS K cd14 "Order.__init__"=true)(k14:qaL K (.ref f14)=true){f15:Addr}{od15 an15:Option Addr}{sl15:Array (Option Value)}{oc15 kV15 dc15 pm15 cd15 ct15:Value}(a15:qaz K (.ref C) "letters"=some (some (.ref f15)))(i15:qby K (.ref f15)=true)(l15:K.lookup f15=some ⟨oc15,od15,.func (qaM "letters" "Order.letters" (abt aaX) (abh aaX) (aaf aaX) .none kV15 dc15 pm15 an15 cd15 ct15),sl15⟩)(c15:qaS K cd15 "Order.letters"=true)(k15:qaL K (.ref f15)=true){f16:Addr}{od16 an16:Option Addr}{sl16:Array (Option Value)}{oc16 kV16 dc16 pm16 cd16 ct16:Value}(a16:qaz K (.ref C) "marks"=some (some (.ref f16)))(i16:qby K (.ref f16)=true)(l16:K.lookup f16=some ⟨oc16,od16,.func (qaM "marks" "Order.marks" (abt abb) (abh abb) (aaf abb) .none kV16 dc16 pm16 an16 cd16 ct16),sl16⟩)(c16:qaS K cd16 "Order.marks"=true)(k16:qaL K (.ref f16)=true){f17:Addr}{od17 an17:Option Addr}{sl17:Array (Option Value)}{oc17 kV17 dc17 pm17 cd17 ct17:Value}(a17:qaz K (.ref C) "job"=some (some (.ref f17)))(i17:qby K (.ref f17)=true)(l17:K.lookup f17=some ⟨oc17,od17,.func (qaM "job" "Order.job" (abt abl) (abh abl) (aaf abl) .none kV17 dc17 pm17 an17 cd17 ct17),sl17⟩)(c17:qaS K cd17 "Order.job"=true)(k17:qaL K (.ref f17)=true)(d18:DF K "figures_at" abm)(d19:DF K "part_at" abF){f20:Addr}{od20 an20:Option Addr}{sl20:Array (Option Value)}{oc20 kV20 dc20 pm20 cd20 ct20:Value}{tD20:Addr}{nD20:Nat}{cD20:Value}{oD20:Option Addr}{sD20:Array (Option Value)}(dl20:K.lookup tD20=some ⟨cD20,oD20,.seq #[.bool false] nD20,sD20⟩)(a20:qaD K mainGlobals "cut"=some (some (.ref f20)))(l20:K.lookup f20=some ⟨oc20,od20,.func (qaM "cut" "cut" (abt s_cut) (abh s_cut) (aaf s_cut) (.ref tD20) kV20 dc20 pm20 an20 cd20 ct20),sl20⟩)(c20:qaS K cd20 "cut"=true)(k20:qaL K (.ref f20)=true){f21:Addr}{od21 an21:Option Addr}{sl21:Array (Option Value)}{oc21 kV21 dc21 pm21 cd21 ct21:Value}(a21:qaz K (.ref C) "known"=some (some (.ref f21)))(i21:qby K (.ref f21)=true)(l21:K.lookup f21=some ⟨oc21,od21,.func (qaM "known" "Order.known" (abt abc) (abh abc) (aaf abc) .none kV21 dc21 pm21 an21 cd21 ct21),sl21⟩)(c21:qaS K cd21 "Order.known"=true)(k21:qaL K (.ref f21)=true)(d22:DF K "parts_of" acl)(d23:DF K "starts" ab8)(d24:DF K "is_joint" ab0)(d25:DF K "joints" ab9)(d26:DF K "_law_cell_at" ab6)(d27:DF K "_law_sign" abV)(d28:DF K "_law_letters" aaw)(d29:DF K "_law_part" acz)(d30:DF K "_law_two" adu)(d31:DF K "_law_others" aat)(d32:DF K "_law_rules" aaY)(d33:DF K "_law_row_of" abp)(d34:DF K "_law_forms" aa7)(d35:DF K "_law_makes" aa8)(d36:DF K "_law_parts" abg)(d37:DF K "_law_pieces" aaP)(d38:DF K "_law_due" abL){f39:Addr}{od39 an39:Option Addr}{sl39:Array (Option Value)}{oc39 kV39 dc39 pm39 cd39 ct39:Value}(a39:qaD K mainGlobals "law"=some (some (.ref f39)))(l39:K.lookup f39=some ⟨oc39,od39,.func (qaM "law" "law" (abt s_law) (abh s_law) (aaf s_law) .none kV39 dc39 pm39 an39 cd39 ct39),sl39⟩)(c39:qaS K cd39 "law"=true)(k39:qaL K (.ref f39)=true)(aC:qaD K mainGlobals "Order"=some (some (.ref C)))(pgC:qbK K C Str.empty=true)(hdC:PySem.W.hasDictIn K C=true)(poC:PySem.W.plainOver K C=true)(saC:qaz K (.ref C) "__setattr__"=some (some (.builtin "object.__setattr__")))(mkC:PySem.W.makesIn K C=true)(kcC:qaL K (.ref C)=true)(nC_figures:qaz K (.ref C) "figures"=some none)(nC_behind:qaz K (.ref C) "behind"=some none)(nC_jobs:qaz K (.ref C) "jobs"=some none)(nC_letter_line:qaz K (.ref C) "letter_line"=some none)(nC_mark_line:qaz K (.ref C) "mark_line"=some none)(nC_made:qaz K (.ref C) "made"=some none)(z_any:qaD K mainGlobals "any"=some none)(z_bool:qaD K mainGlobals "bool"=some none)(z_dict:qaD K mainGlobals "dict"=some none)(z_enumerate:qaD K mainGlobals "enumerate"=some none)(z_int:qaD K mainGlobals "int"=some none)(z_isinstance:qaD K mainGlobals "isinstance"=some none)(z_len:qaD K mainGlobals "len"=some none)(z_list:qaD K mainGlobals "list"=some none)(z_min:qaD K mainGlobals "min"=some none)(z_range:qaD K mainGlobals "range"=some none)(z_str:qaD K mainGlobals "str"=some none)(z_tuple:qaD K mainGlobals "tuple"=some none)(z_zip:qaD K mainGlobals "zip"=some none){a_JOBS:Addr}{ep_JOBS:Nat}{h_JOBS_0:Int}{t_JOBS_0 u_JOBS_0:Tok}{h_JOBS_1:Int}{t_JOBS_1 u_JOBS_1:Tok}{h_JOBS_2:Int}{t_JOBS_2 u_JOBS_2:Tok}{h_JOBS_3:Int}{t_JOBS_3 u_JOBS_3:Tok}{h_JOBS_4:Int}{t_JOBS_4 u_JOBS_4:Tok}(y_JOBS:qaD K mainGlobals "JOBS"=some (some (.ref a_JOBS)))(d_JOBS:K.lookup a_JOBS=some { cls:=.type "dict",dict:=none,data:=.dict #[⟨h_JOBS_0,.str "row" t_JOBS_0,.str "letter" u_JOBS_0⟩,⟨h_JOBS_1,.str "marks" t_JOBS_1,.str "mark" u_JOBS_1⟩,⟨h_JOBS_2,.str "great" t_JOBS_2,.str "great" u_JOBS_2⟩,⟨h_JOBS_3,.str "as" t_JOBS_3,.str "as" u_JOBS_3⟩,⟨h_JOBS_4,.str "over" t_JOBS_4,.str "over" u_JOBS_4⟩] ep_JOBS,slots:=#[] })(s_JOBS:(a_JOBS==sysModules)=false)(e_JOBS_0:h_JOBS_0=keyH w (Sum.inr ("row" : Str)))(e_JOBS_1:h_JOBS_1=keyH w (Sum.inr ("marks" : Str)))(e_JOBS_2:h_JOBS_2=keyH w (Sum.inr ("great" : Str)))(e_JOBS_3:h_JOBS_3=keyH w (Sum.inr ("as" : Str)))(e_JOBS_4:h_JOBS_4=keyH w (Sum.inr ("over" : Str))){a_AGAIN:Addr}{n_AGAIN:Nat}{od_AGAIN:Option Addr}{sl_AGAIN:Array (Option Value)}{t_AGAIN_0:Tok}{t_AGAIN_1:Tok}{t_AGAIN_2:Tok}(y_AGAIN:qaD K mainGlobals "AGAIN"=some (some (.ref a_AGAIN)))(d_AGAIN:K.lookup a_AGAIN=some ⟨.type "tuple",od_AGAIN,.seq #[.str "letter" t_AGAIN_0,.str "mark" t_AGAIN_1,.str "over" t_AGAIN_2] n_AGAIN,sl_AGAIN⟩){tMARK tLETTER:Tok}(y_MARK:qaD K mainGlobals "MARK"=some (some (.int 0 tMARK)))(y_LETTER:qaD K mainGlobals "LETTER"=some (some (.int 2 tLETTER)))
  : ∃ fd:FuncData,(∀ (s:Shared) (v:Value),BindsTo s fd ⟨[v],[]⟩ [("_law_script",v)])/\∀ base:Heap,K.In base->base.Ns mainGlobals mg->FnOk l.prog w K mg base CX0 7 fa fd ["_law_script"] (spLaw K):=by
 have e:=hfa.symm.trans (qbm X G a39);cases e;have T:Txt l.prog w K mg C:=⟨⟨pgC,hdC,poC,saC⟩,nC_figures,nC_behind,nC_jobs,nC_letter_line,nC_mark_line,nC_made,qaE X G z_any,qaE X G z_bool,qaE X G z_dict,qaE X G z_enumerate,qaE X G z_int,qaE X G z_isinstance,qaE X G z_len,qaE X G z_list,qaE X G z_min,qaE X G z_range,qaE X G z_str,qaE X G z_tuple,qaE X G z_zip,⟨_,qbm X G y_MARK⟩,⟨_,qbm X G y_LETTER⟩,⟨_,qbm X G y_JOBS,amp d_JOBS s_JOBS (.cons ⟨acb _ _,e_JOBS_0,⟨_,rfl⟩⟩ ( .cons ⟨acb _ _,e_JOBS_1,⟨_,rfl⟩⟩ ( .cons ⟨acb _ _,e_JOBS_2,⟨_,rfl⟩⟩ ( .cons ⟨acb _ _,e_JOBS_3,⟨_,rfl⟩⟩ ( .cons ⟨acb _ _,e_JOBS_4,⟨_,rfl⟩⟩ ( .nil)))))) (by decide +kernel)⟩,⟨_,qbm X G y_AGAIN,fun H=>.inr ⟨_,_,_,d_AGAIN,rfl,rfl,(by show 3<=sizeLine;decide),.cons ⟨_,rfl⟩ ( .cons ⟨_,rfl⟩ ( .cons ⟨_,rfl⟩ ( .nil)))⟩⟩⟩
 have F14:=acC (st:=aaJ) l14 c14;have F15:=acC (st:=aaX) l15 c15;have F16:=acC (st:=abb) l16 c16;have F17:=acC (st:=abl) l17 c17;have F20:=acC (st:=s_cut) l20 c20;have F21:=acC (st:=abc) l21 c21;have F39:=acC (st:=s_law) l39 c39;refine ⟨qaM "law" "law" (abt s_law) (abh s_law) (aaf s_law) .none kV39 dc39 pm39 an39 cd39 ct39,fun s v=>.of_eq rfl,fun base hb hn=>?_⟩;have G_told:=d0.go X G hb fun F=>amT F T
 have G_followers:=d1.go X G hb fun F=>agh F T G_told
 have G_count_ahead:=d2.go X G hb fun F=>aew F T
 have G_lined_up:=d3.go X G hb fun F=>agK F T G_followers G_count_ahead
 have G_is_figure:=d4.go X G hb fun F=>agj F T
 have G_has_rule:=d5.go X G hb fun F=>agN F T
 have G_pieces_told:=d6.go X G hb fun F=>aey F T
 have G_is_clash:=d7.go X G hb fun F=>agP F T G_is_figure
 have G_jobs_of:=d8.go X G hb fun F=>ah5 F T G_has_rule G_pieces_told G_is_clash
 have G_misused:=d9.go X G hb fun F=>ah6 F T
 have G_check_letters:=d10.go X G hb fun F=>adG F T G_misused
 have G_line_of:=d11.go X G hb fun F=>ah8 F T G_lined_up
 have G_forms_of:=d12.go X G hb fun F=>agQ F T
 have G_steps_of:=d13.go X G hb fun F=>agR F T G_forms_of
 have G_Order___init__:KO l.prog w K mg base 5 C "Order" ["self", "rules"] (agD C):=⟨_,_,adx F14 T G_has_rule G_jobs_of G_check_letters G_line_of G_steps_of,⟨mkC,a14,i14,kcC⟩,qbm X G aC,.all (len2 fun _ _=>rfl)⟩
 have G_Order_letters:MO l.prog w K mg base 1 C "letters" ["self"] (ajk C):=⟨_,_,adI F15 T,T.cl,⟨a15,i15,k15⟩,.all (len1 fun _=>rfl)⟩
 have G_Order_marks:MO l.prog w K mg base 1 C "marks" ["self"] (ahl C):=⟨_,_,aeA F16 T,T.cl,⟨a16,i16,k16⟩,.all (len1 fun _=>rfl)⟩
 have G_Order_job:MO l.prog w K mg base 1 C "job" ["self", "piece"] (ajl C):=⟨_,_,agm F17 T,T.cl,⟨a17,i17,k17⟩,.all (len2 fun _ _=>rfl)⟩
 have G_figures_at:=d18.go X G hb fun F=>afu F T G_is_figure
 have G_part_at:=d19.go X G hb fun F=>ah9 F T G_is_figure G_figures_at
 have G_cut:FO l.prog w K mg base 4 "cut" ["known", "text", "figures"] [.bl false] (ahr K):=⟨_,_,ali F20 T G_part_at,qbm X G a20,k20,[.bool false],(fun s us hin hl=>by obtain ⟨u1,u2,rfl⟩:=aov hl;exact PySem.W.binds_K hin rfl dl20 rfl rfl rfl),.cons rfl .nil⟩
 have G3_cut:FO l.prog w K mg base 4 "cut" ["known", "text", "figures"] [] (ahr K):=⟨_,_,ali F20 T G_part_at,qbm X G a20,k20,[],(fun s us hin hl=>by obtain ⟨u1,u2,u3,rfl⟩:=akO hl;exact PySem.W.binds_K hin rfl dl20 rfl rfl rfl),.nil⟩
 have G_Order_known:MO l.prog w K mg base 1 C "known" ["self"] (afm C):=⟨_,_,aeC F21 T,T.cl,⟨a21,i21,k21⟩,.all (len1 fun _=>rfl)⟩
 have G_parts_of:=d22.go X G hb fun F=>agT F T G3_cut G_Order_known
 have G_starts:=d23.go X G hb fun F=>ajG F T
 have G_is_joint:=d24.go X G hb fun F=>agV F T G_Order_job
 have G_joints:=d25.go X G hb fun F=>ajH F T G_parts_of G_starts G_is_joint
 have G_l_cell_at:=d26.go X G hb fun F=>ago F T
 have G_l_sign:=d27.go X G hb fun F=>ajI F T G_l_cell_at
 have G_l_letters:=d28.go X G hb fun F=>agp F T G_l_cell_at G_l_sign
 have G_l_part:=d29.go X G hb fun F=>ajK F T
 have G_l_two:=d30.go X G hb fun F=>akT F T G_l_sign
 have G_l_others:=d31.go X G hb fun F=>agX F T G_l_cell_at G_l_sign G_l_part G_l_two
 have G_l_rules:=d32.go X G hb fun F=>aia F T G_l_cell_at G_l_letters G_l_two G_l_others
 have G_l_row_of:=d33.go X G hb fun F=>agY F T
 have G_l_forms:=d34.go X G hb fun F=>aib F T
 have G_l_makes:=d35.go X G hb fun F=>aic F T G_l_row_of G_l_forms
 have G_l_parts:=d36.go X G hb fun F=>aid F T
 have G_l_pieces:=d37.go X G hb fun F=>agZ F T
 have G_l_due:=d38.go X G hb fun F=>akU F T G_l_row_of
 exact aox F39 T G_Order___init__ G_joints G_l_cell_at G_l_rules G_l_row_of G_l_makes G_l_parts G_l_pieces G_l_due
theorem walk{l:PySem.W.OpenLaw}{q:Program}{XP:(Str->Option Value)->Heap->Prop}{YP:World->Heap->Prop}{d:DefRec}{K:Params->PySem.W.Frag}(hn:l.most=some 63)(hdf:d.params.defaults=[])(hY:∀ (w:World) (h:Heap),YP w h->(K w.params).In h)(F:∀ (w:World) (mg:Str->Option Value) (fa:Addr) (h:Heap),(K w.params).In h->h.Ns mainGlobals mg->mg d.name=some (.ref fa)->
   ∃ fd:FuncData,(∀ (s:Shared) (u:Value),BindsTo s fd ⟨[u],[]⟩ [("_law_script",u)])/\∀ base:Heap,(K w.params).In base->base.Ns mainGlobals mg->FnOk l.prog w (K w.params) mg base CX0 7 fa fd ["_law_script"] (spLaw (K w.params))) :
  PySem.W.WalkO q loose XP YP l.row.toRowW d [] (fun f vs=>PySem.call f vs):=
 L2.walk_of (n:=63) (k:=7) (x:="_law_script") (CX:=fun _=>CX0) (sp:=fun w=>spLaw (K w.params)) hn (by decide) hdf ⟨rfl,by decide,by decide,rfl⟩ hY F (fun _ _ a ns hl _ hS=>⟨a,ns,rfl,hS,hl,fun _=>rfl⟩) fun _ _ _ _ _ z=>z
end K61
open PySem PySem.W PyProof.Rows
set_option maxRecDepth 100000 in
set_option maxHeartbeats 0 in
theorem PySem.Challenge.cw_sortlore_k61_joints_holds : PySem.Challenge.rw_sortlore_k61_joints.Holds := by
 w_on;o_law;k_head;(case hw=>w_witness2)
 k_fill
 refine K61.walk (l:=PySem.Challenge.rw_sortlore_k61_joints) rfl rfl (fun w h Y=>PySem.W.kIn_of Y) ?F
 case F=>
  intro w mg fa h KX G hmg
  refine' K61.all_mk KX G hmg ?d0 ?d1 ?d2 ?d3 ?d4 ?d5 ?d6 ?d7 ?d8 ?d9 ?d10 ?d11 ?d12 ?d13 ?a14 ?i14 ?l14 ?c14 ?k14 ?a15 ?i15 ?l15 ?c15 ?k15 ?a16 ?i16 ?l16 ?c16 ?k16 ?a17 ?i17 ?l17 ?c17 ?k17 ?d18 ?d19 ?dl20 ?a20 ?l20 ?c20 ?k20 ?a21 ?i21 ?l21 ?c21 ?k21 ?d22 ?d23 ?d24 ?d25 ?d26 ?d27 ?d28 ?d29 ?d30 ?d31 ?d32 ?d33 ?d34 ?d35 ?d36 ?d37 ?d38 ?a39 ?l39 ?c39 ?k39 ?aC ?pgC ?hdC ?poC ?saC ?mkC ?kcC ?nC_figures ?nC_behind ?nC_jobs ?nC_letter_line ?nC_mark_line ?nC_made ?z_any ?z_bool ?z_dict ?z_enumerate ?z_int ?z_isinstance ?z_len ?z_list ?z_min ?z_range ?z_str ?z_tuple ?z_zip ?y_JOBS ?d_JOBS ?s_JOBS ?e_JOBS_0 ?e_JOBS_1 ?e_JOBS_2 ?e_JOBS_3 ?e_JOBS_4 ?y_AGAIN ?d_AGAIN ?y_MARK ?y_LETTER
  any_goals (refine' K61.df_mk ?da ?dl ?dc ?dk;(case da=>k_is);(case dl=>k_is);(case dc=>k_is);(case dk=>k_is))
  (case aC=>k_is)
  (case a14=>k_is)
  (case i14=>k_is)
  (case l14=>k_is)
  (case c14=>k_is)
  (case k14=>k_is)
  (case a15=>k_is)
  (case i15=>k_is)
  (case l15=>k_is)
  (case c15=>k_is)
  (case k15=>k_is)
  (case a16=>k_is)
  (case i16=>k_is)
  (case l16=>k_is)
  (case c16=>k_is)
  (case k16=>k_is)
  (case a17=>k_is)
  (case i17=>k_is)
  (case l17=>k_is)
  (case c17=>k_is)
  (case k17=>k_is)
  (case a20=>k_is)
  (case l20=>k_is)
  (case c20=>k_is)
  (case k20=>k_is)
  (case a21=>k_is)
  (case i21=>k_is)
  (case l21=>k_is)
  (case c21=>k_is)
  (case k21=>k_is)
  (case a39=>k_is)
  (case l39=>k_is)
  (case c39=>k_is)
  (case k39=>k_is)
  (case pgC=>k_is)
  (case hdC=>k_is)
  (case poC=>k_is)
  (case saC=>k_is)
  (case mkC=>k_is)
  (case kcC=>k_is)
  (case nC_figures=>k_is)
  (case nC_behind=>k_is)
  (case nC_jobs=>k_is)
  (case nC_letter_line=>k_is)
  (case nC_mark_line=>k_is)
  (case nC_made=>k_is)
  (case z_any=>k_is)
  (case z_bool=>k_is)
  (case z_dict=>k_is)
  (case z_enumerate=>k_is)
  (case z_int=>k_is)
  (case z_isinstance=>k_is)
  (case z_len=>k_is)
  (case z_list=>k_is)
  (case z_min=>k_is)
  (case z_range=>k_is)
  (case z_str=>k_is)
  (case z_tuple=>k_is)
  (case z_zip=>k_is)
  (case y_JOBS=>k_is)
  (case d_JOBS=>k_is)
  (case s_JOBS=>rfl)
  (case e_JOBS_0=>rfl)
  (case e_JOBS_1=>rfl)
  (case e_JOBS_2=>rfl)
  (case e_JOBS_3=>rfl)
  (case e_JOBS_4=>rfl)
  (case y_AGAIN=>k_is)
  (case d_AGAIN=>k_is)
  (case y_MARK=>k_is)
  (case y_LETTER=>k_is)
  (case dl20=>k_is)
