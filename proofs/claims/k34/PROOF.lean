import PyProof.Rows.All
import Wide.All
import OpenK.AllK
import Wide.FinOn
import Lean
import PyProof.EqAt
import PyProof.EqKinds
import PyProof.TupleCall
import PySem.Challenge.RW_sortlore_k34_from_behind
set_option compiler.extract_closed false
open List renaming length_map → A8, length_append → C8, mem_singleton → E6, getElem?_eq_some_iff → K0, map_append → D9, getElem?_eq_getElem → M5, size_toArray → G4, mem_cons_self → K1, length_cons → G5, mem_append → F9, mem_cons → E8, mem_map → E1, mem_cons_of_mem → M6, mem_append_right → N3, take_length → K4, length_take → K5, mem_of_getElem? → N7, mem_append_left → N8, map_cons → G6, append_nil → M0, length_singleton → T9, nodup_append → Q1, flatMap_cons → U0, flatMap_append → V8, nodup_iff_pairwise_ne → j8, mem_iff_getElem → X1, take_append_drop → Y5, getElem?_map → U9, mem_filter → U1, take_of_length_le → j9, nodup_cons → V0, append_assoc → X2, replicate → U3, getD_eq_getElem?_getD → w6, mem_flatMap → X3, length_nil → V9, foldl_append → Y6, take_add_one → b9, length_eq_zero_iff → w8, pairwise_iff_getElem → bC, length_drop → k5, filterMap_cons → x0, find?_cons → k6, idxOf_lt_length_iff → cZ, length → W0, filter_cons_of_neg → dA, length_reverse → bD, getElem?_append_right → fN, countP_cons → x3, any_cons → k7, take_zero → o7, replicate_succ → dB, filter_cons_of_pos → fO, flatMap_nil → bE, mem_filterMap → dC, filter_append → dD, nil_append → bF, map_map → o8, reverse_cons → dE, range → c9, flatten_cons → dF, getElem?_append_left → jR, getElem_mem → dG, map_congr_left → fP, getElem_idxOf → fQ, foldl_cons → dH, drop_of_length_le → jS, lookup → x4, filterMap_append → jT, map_reverse → fR, lookup_cons → fS
open Nat renaming le_refl → C3, zero_le → G3, ne_of_lt → K8, le_trans → M8, lt_of_lt_of_le → U4, lt_irrefl → Y7, le_add_right → o9, min_eq_left → dI
open Bool renaming false_ne_true → K6, and_eq_true → Y8, false_xor → bG, false_eq_true → fT, not_eq_true → fU
open PySem.F renaming plainAttrs_list → O5, type_list_append → R1, slot_list_append → R3, slot_dict_get → dJ, type_list_extend → jU, slot_list_extend → jV, entry_dict_get → jW
open PySem.W renaming findIn → O6, nsIn → O2, keepIn → R4, mg_none_of → Y9, fnOf → Q5, codeIn → V1, emptyDict → p3, mg_of → Z0, instObj → x5, isFn → p4, plainGet → fV
open Array renaming length_toList → x6
open PySem.NumText renaming digitsVal → fW
open Int renaming natCast_nonneg → bH, le_refl → x8
open PySem.PyData renaming eqv → X4, eqvAll → bI, depthAll → dL, int → p5
set_option Elab.async false
set_option linter.all false
set_option maxRecDepth 100000
noncomputable section
set_option genInjectivity false in
set_option genSizeOf false in
structure PySem.W.Fast where (tw16084525013090484408 tw1805882663001008071 tw11573647289051630476 tw12664546528759551347 tw4669951005179622639 tw7686558599085438341 tw1447344928881867643 tw14714801828494401710 tw11572453307833493919 tw14271358454075586800 tw891486079448059867 tw11130578631806175116 tw8047544000733147158 tw2789801351904961011 tw6579303733606473158 tw14113221180743985696 tw8069037464185101491 tw17823043745604664593 tw14255000752031622105 tw9033869316228169456 tw4920835816925115842 tw13536410054956333870 tw2382584500360624063 tw14622318285930403869 tw6596745547009307565 tw8102596503267476887 tw12174284294470333150 tw16708881547027028732 tw9020417307460730033 tw11962314463214767350 tw12541531085295099248 tw14053421793911540698 tw15082227013530361573 tw8182024266006042355 tw6348349265413642864 tw16019684323782917383 tw4477880323278763842 tw370304531571529920 tw15993555960262259685
tw17576985503963940187 tw11347293689001131738 tw4383254083633848159 tw2699685521786387894 tw18213724206294951838 tw6087189415385113392 tw3227486596138375495 tw3274667289000804359 tw17172916487752977045 tw996517216787598143 tw2520930645881326854 tw7988842184513618352 tw3590267733978149298 tw10501329170816211094 tw1907769767520248895 tw978691564294957539 tw14032839486136643626 tw11027611691058368349 tw873880244068402343 tw8825135684661683288 tw1702743642853806753 tw3545096886321030704 tw15533688661010533187 tw3650632313385673719 tw12566036577814440638 tw15361063511107648428 tw10110196934953344215 tw2282852443760796373 tw2843148518823114824 tw14420775938567507743 tw2895621311847228879 tw15990287802239042467 tw10780185818584510796 tw4214694461770529085 tw15314694519039933915 tw16328510070541845734 tw3042945941345590791 tw17122032102299620670 tw11253750848138288758 tw9277487190991634304
tw13003405942047110870 tw15234040492411115851 tw5630585455682134128 tw14721438343646806598 tw1560755719718247953 tw15467968479611353653 tw1249408921015726974 tw11011532135309682300 tw6100879278156474307 tw17288497977324735901 tw736051514148157702 tw12737544792184973091 tw2579023396601187582 tw1794702124447289525 tw12256434677252113441 tw16737295798506732817 tw18130552618932505126 tw14480888649340829444 tw10292014654791193371 tw8917926656887917988 tw2686270148376021708 tw12720180935481488291 tw10880360886283295099 tw1163201783160957515 tw2861880755056611607 tw5877776906405582507 tw16255414719871511550 tw4738050679249982350 tw2153821486605002923 tw2684002766883286470 tw4908968165763765937 tw9612753295673627765 tw9391319854308236598 tw2165357988891850034 tw2923850784870882245 tw11139988524011740790 tw17306944892131417339 tw8406929287253789447 tw14126716248411026624 tw8738939469864177285
tw6238433586599076466 tw17939146027858016505 tw9654077162638774478 tw5765520596531972808 tw8640694683372750210 tw15764484578372082732 tw15775486822284424609 tw2526358893743567328 tw9068395627942864797 tw13785450607872991832 tw591459980671689028 tw18261493252132639312 tw7158025612902490778 tw12940230977888134563 tw729365906597239608 tw3108707747745628650 tw14638138950420551137 tw7134465362181908061 tw6246164240507259649 tw8370691226298625082 tw468886599422058250 tw807085438197315191 tw1659035799903391113 tw16697179143847962954 tw3408340316263237927 tw524120271935721280 tw15994541758009902772 tw10456772043245184437 tw1197749434830257205 tw5342992366414512584 tw16373907759595645907 tw14648855571406893028 tw14366045299564048320 tw14540376621250026475 tw5685410883577836120 tw5766796994796592955 tw3298644354774132266 tw4602851481139022806 tw4198709774336555818 tw7932052775193448404
tw3901247023066911580 tw3727302120115433749 tw13816744873972004317 tw15188980002917104085 tw11143904449760791976 tw11076539391591221743 tw12534475183930100390 tw2513195583413634259 tw16752074538776783618 tw11240616904578127804 tw12075177827740586624 tw8354741475855148737 tw18087074746526986889 tw9157282303740838664 tw17039786826763260366 tw8765705262022070496 tw16253170407059972204 tw17369313805761821561 tw5491626128645670694 tw3359742315097551769 tw5655224178171113663 tw13441882264133504809 tw17447911257302349130 tw5217423906728385348 tw1923778192993153132 tw11316066182890391939 tw7232104315414192035 tw2977708130407792405 tw5384381036005009135 tw16409910112449368388 tw17170725087411539389 tw3550889636493746340 tw15455208928662171637 tw4470780025563513342 tw408710424818243745 tw226711694453265911 tw5873399134403997932 tw8931868430381127132 tw4720462958458236927 tw11892696803375737047
tw5494062229595547751 tw5881225885030585313 tw8596200933727705822 tw14289320322066427705 tw11417462975701082701 tw8159242874320540151 tw17462774900527673325 tw15680916855762060341 tw10722943976504957819 tw11985103538693076286 tw357408133997693264 tw8897083671321973738 tw9882130826141294558 tw10913610222176191377 tw16808696449362780853 tw5547194251272547518 tw1984679538019471117 tw3066003715201955881 tw3186250800296795737 tw8986532927321460574 tw5382829499291776605 tw9265240678372543692 tw5895317230590274841 tw5864507336747515991 tw46370542946076159 tw4525228864993007187 tw4094395176256970761 tw5821155205789564775 tw13761294219595387884 tw15412199764258514343 tw14294015186534421628 tw8522417825194771006 tw2109060962516696020 tw8789187719795370192 tw15057001036561010247 tw1761540216330008131 tw10897672106871769802 tw14572147174553636016 tw2810884890295857711 tw14745679088919543760
tw17108650188027204700 tw14377660223435517066 tw8104573647370506527 tw877651886140402963 tw3288678149963255077 tw3789827432607014338 tw11515308975999656920 tw12557072772450761671 tw14462190405555221502 tw4932390297055727924 tw10907468693176931896 tw2429160639236823521 tw5750539409487383817 tw17507644095388436303 tw7515545757505716281 tw17091518058382607396 tw11156114046348510051 tw2787162036911818314 tw8022738819733214589 tw11875459256036653189 tw329906437682546411 tw14721787227162041335 tw4777048197475462214 tw8357500786483906782 tw2386340951091850206 tw7366613953475342788 tw3997356130378055448 tw13427686285591699928 tw8800926355425167358 tw10755826952576718210 tw16703681738354533928 tw12122607799845465011 tw10200185492779248213 tw8963050450478952823 tw14423749452287586047 tw6166673824680719007 tw14731019357670107760 tw5331655866755916111 tw9820556773212929328 tw11439317738037276820
tw5099911405045749135 tw17432890764466220705 tw16688314530455459638 tw12422262041714674285 tw2756442652542485635 tw273873762695458122 tw12965684213835176028 tw10772358848773810623 tw11728289586164354549 tw14544511479389571914 tw14562895387574257404 tw15741067821535314914 tw13383092947617478963 tw334241657195298035 tw10123231651308114478 tw16558686502503661431 tw18446639183764759372 tw2829524568912746757 tw11863997356507774640 tw16158439483073891527 tw9364098857367702831 tw8520147080933070538 tw10811794810102705516 tw8779357819576518319 tw2191178631843976687 tw11307873302224864240 tw12545248821918392701 tw12345243320090178276 tw4952037700276003932 tw16141849198712441734 tw7656955452893094286 tw3517844080818472327 tw3852844188685270718 tw3350322242312256941 tw5190773986734036335 tw15117825622366907994 tw6369692555671019800 tw14519459000465975231 tw9159800744343728827 tw681067426052930701
tw13520739220212274272 tw16900138416705233262 tw966293461909130389 tw9166566652961002614 tw10267009375237934392 tw8162094886682545079 tw6892032443495873783 tw9869313631058935718 tw186889013210408607 tw14833893804396369305 tw9754291279909173226 tw4976463958878109516 tw4384743312362146681 tw10329051368204735127 tw12843150293053409634 tw759433784020565364 tw7512077850154935576 tw13938694554368203099 tw2566565402332085643 tw1365781205202944654 tw13995495809781243514 tw14278020409569783650 tw14974862526261794144 tw12887752710120132725 tw13419407600363679216 tw5902828095507960139 tw2552830758918903058 tw3034727812464346937 tw2313904302929154751 tw12346766904461412042 tw15952624421130846952 tw17674242912322882224 tw1491014547879226162 tw4407589898544486927 tw6385647252089895987 tw843247880344466305 tw17152505958976776657 tw17109276846934353420 tw2292751824388103510 tw8388190148876500000
tw5716684779883917226 tw5874528786737848211 tw7474671337860001942 tw2525188076767367966 tw1461907141357649945 tw9705959537038621557 tw11064289144023008100 tw1549360971105734417 tw7047691135854804694 tw10378180499758174328 tw3749415391438669598 tw4044826347354882134 tw12287292831851289491 tw2134456496649893799 tw9904979799896714843 tw8061283470220658014 tw15114055342908646870 tw17239682435813326822 tw11996567629188241262 tw1636565667801451041 tw18040217893525345165 tw15844938959319426846 tw10838856245486008827 tw13521804283784401948 tw16876336626794761203 tw3824902076609625515 tw10444322606732244881 tw18425038790696247473 tw10390366507252393393 tw7513763006401453488 tw16324294868638774238 tw14024136969167607002 tw3696674934299893234 tw1156952465053601630 tw17474171372320270162 tw7678968515158575372 tw21956724759408659 tw5861536836780248909 tw17443913544256412621 tw6064828960480083457
tw11399747019659551247 tw4823113721305955439 tw2468577029464662545 tw7299950341396427424 tw7818815382543279726 tw8867124079935484177 tw615426244947445733 tw6603353489225663097 tw16537928590820600725 tw11488229545239636810 tw3419783730469484243 tw3308956118187132305 tw16920629387271358574 tw8485801898584890919 tw6419115026381589266 tw14287832410390667672 tw9096050810497403115 tw4382301961044641646 tw16325733968086164373 tw4618900178193186304 tw2322307415057849085 tw12442922658779502056 tw14381671597263219956 tw13756453772031946563 tw10571486676253388483 tw16991128419739026595 tw5599668367534473131 tw8121880690613279603 tw6897453756115154475 tw7592824272260118234 tw13058394536081924585 tw13889849510085865204 tw14595493328573711690 tw5373436306210453132 tw1370995781812657536 tw17244277602035651558 tw1029934338865355645 tw9308140001229514273 tw7521537416257076710 tw14233079678120259335
tw182795833557393668 tw11491881585307296906 tw10994869823981554531 tw2869692231771404559 tw16640074018667344902 tw453959877955832115 tw1956989260841297114 tw629321800218359753 tw16366636091387744011 tw12653532057118493545 tw11129573608934029736 tw16849951104041191165 tw3776388230483103630 tw6999564814461669522 tw7335668172335353910:Nat)
set_option maxRecDepth 100000
namespace L2
open PySem PySem.Spec PyProof.Rows
abbrev C5:=Sum Int Str
def keyIs:C5->Value->Bool
 | .inl k,v=>Value.isInt k v
 | .inr x,v=>Value.isStrOf x v
def keyH(w:World):C5->Int
 | .inl k=>hashInt k
 | .inr x=>hashStr w x
theorem e8:∀ {k:C5} {v:Value},keyIs k v=true->(∃ i t,k=Sum.inl i/\v=Value.int i t)\/(∃ x t,k=Sum.inr x/\v=Value.str x t)
 | .inl i,v,h=>by
  obtain ⟨t,e⟩:=Value.isInt_shape (k:=i) (v:=v) h;exact .inl ⟨i,t,rfl,e⟩
 | .inr x,v,h=>by
  obtain ⟨t,e⟩:=Value.isStrOf_shape (x:=x) (v:=v) h;exact .inr ⟨x,t,rfl,e⟩
theorem ah9(i:Int)(t:Tok):keyIs (.inl i) (.int i t)=true:=by simp [keyIs,Value.isInt]
theorem dM(x:Str)(t:Tok):keyIs (.inr x) (.str x t)=true:=by simp [keyIs,Value.isStrOf]
theorem amV(a b:Int):decide ((Sum.inl a:C5)=Sum.inl b)=(a==b):=by
 by_cases e:a=b
 .subst e;simp
 .have h:¬ (Sum.inl a:C5)=Sum.inl b:=fun q=>e (Sum.inl.inj q)
  rw [decide_eq_false h];exact (beq_eq_false_iff_ne.mpr e).symm
theorem amW(a b:Str):decide ((Sum.inr a:C5)=Sum.inr b)=decide (a=b):=by
 by_cases e:a=b
 .subst e;simp
 .have h:¬ (Sum.inr a:C5)=Sum.inr b:=fun q=>e (Sum.inr.inj q)
  rw [decide_eq_false h,decide_eq_false e]
theorem amX(a:Int)(b:Str):decide ((Sum.inl a:C5)=Sum.inr b)=false:=decide_eq_false (fun q=>nomatch q)
theorem amY(a:Str)(b:Int):decide ((Sum.inr a:C5)=Sum.inl b)=false:=decide_eq_false (fun q=>nomatch q)
def N1(prog:Program)(w:World):PySem.KeyKind prog w C5 where
 is:=keyIs
 hash:=keyH w
 inj:=fun v a b ha hb=>by
  rcases e8 ha with ⟨i,t,rfl,rfl⟩ | ⟨x,t,rfl,rfl⟩
  .rcases e8 hb with ⟨j,u,rfl,e⟩ | ⟨y,u,rfl,e⟩
   .injection e with e1 _;rw [e1]
   .exact nomatch e
  .rcases e8 hb with ⟨j,u,rfl,e⟩ | ⟨y,u,rfl,e⟩
   .exact nomatch e
   .injection e with e1 _;rw [e1]
 byValue:=fun k v h=>by
  rcases e8 h with ⟨i,t,rfl,rfl⟩ | ⟨x,t,rfl,rfl⟩ <;> rfl
 pyHash:=fun hv h=>by
  rcases e8 hv with ⟨i,t,rfl,rfl⟩ | ⟨x,t,rfl,rfl⟩
  .exact wpAny_pyHash_int h
  .exact wpAny_pyHash_str h
 eqBool:=fun hu hv h=>by
  rcases e8 hu with ⟨i,t,rfl,rfl⟩ | ⟨x,t,rfl,rfl⟩
  .rcases e8 hv with ⟨j,u,rfl,rfl⟩ | ⟨y,u,rfl,rfl⟩
   .rw [amV] at h;exact wpAny_eqBool_int h
   .rw [amX] at h;exact SeqAt.EqAt.int_str i t y u _ _ _ _ h
  .rcases e8 hv with ⟨j,u,rfl,rfl⟩ | ⟨y,u,rfl,rfl⟩
   .rw [amY] at h;exact SeqAt.EqAt.str_int x t j u _ _ _ _ h
   .rw [amW] at h;exact wpAny_eqBool_str h
 «strs»:=fun k x t v h=>by
  rcases e8 h with ⟨i,u,rfl,e⟩ | ⟨y,u,rfl,e⟩
  .exact nomatch e
  .injection e with e1 _
   subst e1
   cases v <;> rfl
theorem age(prog:Program)(w:World)(i:Int)(t:Tok):(N1 prog w).is (.inl i) (.int i t)=true:=ah9 i t
theorem agf(prog:Program)(w:World)(x:Str)(t:Tok):(N1 prog w).is (.inr x) (.str x t)=true:=dM x t
end L2
namespace L2
open PySem PySem.Spec PyProof.Rows
inductive V where
 | non | bl (b:Bool) | int (i:Int) | str (x:Str) | byt (b:Array UInt8) | flt (b:UInt64) | ref (a:Addr) | ty (n:String)
 deriving DecidableEq
def RelV:V->Value->Prop
 | .non,u=>u=Value.none
 | .bl b,u=>u=Value.bool b
 | .int i,u=>∃ t,u=Value.int i t
 | .str x,u=>∃ t,u=Value.str x t
 | .byt b,u=>∃ t,u=Value.bytes b t
 | .flt b,u=>∃ t,u=Value.float b t
 | .ref a,u=>u=Value.ref a
 | .ty n,u=>u=Value.type n
abbrev Vals:List V->List Value->Prop:=Paired RelV
theorem Vals.length{xs:List V}{us:List Value}(r:Vals xs us):xs.length=us.length:=Paired.length r
theorem Vals.get:∀ {xs:List V} {us:List Value} {i:Nat} {x:V},Vals xs us->xs[i]?=some x->∃ u,us[i]?=some u/\RelV x u
 | _,_,_,_,.nil,e=>by simp at e
 | _,_,0,_,.cons r _,e=>by simp at e;subst e;exact ⟨_,rfl,r⟩
 | _,_,i+1,x,.cons _ t,e=>by
  obtain ⟨u,h1,h2⟩:=Vals.get (i:=i) (x:=x) t (by simpa using e);exact ⟨u,by simpa using h1,h2⟩
theorem Vals.set{x:V}{u:Value}(r:RelV x u):∀ {xs:List V} {us:List Value} (i:Nat),Vals xs us->Vals (xs.set i x) (us.set i u)
 | _,_,_,.nil=>.nil
 | _,_,0,.cons _ t=>.cons r t
 | _,_,i+1,.cons q t=>.cons q (Vals.set r i t)
theorem Vals.append:∀ {xs ys:List V} {us ws:List Value},Vals xs us->Vals ys ws->Vals (xs++ys) (us++ws)
 | _,_,_,_,.nil,s=>s
 | _,_,_,_,.cons r t,s=>.cons r (Vals.append t s)
theorem Vals.take:∀ {xs:List V} {us:List Value} (n:Nat),Vals xs us->Vals (xs.take n) (us.take n)
 | _,_,0,_=>.nil
 | _,_,_+1,.nil=>.nil
 | _,_,n+1,.cons r t=>.cons r (Vals.take n t)
theorem Vals.drop:∀ {xs:List V} {us:List Value} (n:Nat),Vals xs us->Vals (xs.drop n) (us.drop n)
 | _,_,0,r=>r
 | _,_,_+1,.nil=>.nil
 | _,_,n+1,.cons _ t=>Vals.drop n t
theorem Vals.none_of:∀ {xs:List V} {us:List Value} {i:Nat},Vals xs us->xs[i]?=none->us[i]?=none:=fun {xs us i} r e=>by
 have h1:=r.length;have h2:xs.length<=i:=List.getElem?_eq_none_iff.mp e;exact List.getElem?_eq_none_iff.mpr (by lia)
def RelO:Option V->Option Value->Prop
 | some v,some u=>RelV v u
 | none,none=>True
 | _,_=>False
def KV{κ:Type} : List (κ×V)->List (κ×Value)->Prop:=Paired fun (p:κ×V) (q:κ×Value)=>p.1=q.1/\RelV p.2 q.2
def kV:C5->V
 | .inl i=>.int i
 | .inr x=>.str x
inductive HO where
 | lst (xs:List V)
 | tup (xs:List V)
 | dK (kvs:List (C5×V)) | dT (kvs:List (List C5×V))
 | set (S:Int->Bool) (n:Nat)
 | ins (C dx:Addr) (fs:List (Str×V))
 | own (x:Addr)
 | xd (fs:List (Str×V))
 | met (f x:Addr)
 | rng (lo hi:Int)
 | frz (o:Obj) (u:HO)
 | tbl (ps:Array Value)
 | ext (φ:Heap->Prop)
abbrev Hp:=Addr->Option HO
def A0(H:Hp)(a:Addr)(o:HO):Hp:=fun b=>if b=a then some o else H b
theorem A6{H:Hp}{a:Addr}{o:HO} : A0 H a o a=some o:=by unfold A0;rw [if_pos rfl]
theorem A9{H:Hp}{a b:Addr}{o:HO}(h:b≠a):A0 H a o b=H b:=by unfold A0;rw [if_neg h]
theorem ne_of{H:Hp}{a b:Addr}{o u:HO}(h:H a=some o)(h':H b=some u)(d:o≠u):a≠b:=by
 intro e;subst e;rw [h] at h';exact d (Option.some.inj h')
theorem p6{H:Hp}{a b:Addr}{o:HO}(h:H a=some o)(h':H b=none):a≠b:=by
 intro e;subst e;rw [h] at h';cases h'
section
variable (P:Program) (w:World)
def ObjOk(H:Hp)(h:Heap)(a:Addr):HO->Prop
 | .lst xs=>xs.length<=sizeLine/\∃ (its:List Value) (n:Nat),Vals xs its/\h.get? a=some { cls:=.type "list",data:=.seq its.toArray n }
 | .tup xs=>xs.length<=sizeLine/\∃ its:List Value,Vals xs its/\IsTup h a its.toArray
 | .dK kvs=>kvs.length<=sizeLine/\(a==sysModules)=false/\∃ vs,KV kvs vs/\h.DictOf (N1 P w) a vs
 | .dT kvs=>kvs.length<=sizeLine/\(a==sysModules)=false/\∃ xs:List (List C5×Addr×Value),
   Paired (fun (p:List C5×V) (q:List C5×Addr×Value)=>p.1=q.1/\H q.2.1=some (.tup (p.1.map kV))/\RelV p.2 q.2.2) kvs xs/\
   ∃ o es ep,h.get? a=some o/\o.ExactDict/\o.data=.dict es ep/\es.toList=xs.map (entryOfKey (tupleKind (N1 P w)))/\(xs.map (·.1)).Nodup
 | .set S n=>h.SetOf (intKind P w) a S n
 | .ins C dx fs=>H dx=some (.own a)/\fs.length<=1000/\dx≠a/\h.get? a=some (x5 C dx)/\
   ∃ mA,h.Ns1 dx mA/\(∀ f,RelO (fs.lookup f) (mA f))/\PySem.Within mA (fs.map (·.1))
 | .own _=>∃ o,h.get? a=some o
 | .xd fs=>∃ mA,h.Ns1 a mA/\∀ f,RelO (fs.lookup f) (mA f)
 | .rng lo hi=>∃ t u v,h.get? a=some { cls:=.type "range",data:=.fields #[.int lo t,.int hi u,.int 1 v] }
 | .frz o u=>h.get? a=some o/\ObjOk H h a u
 | .tbl ps=>h.get? a=some { cls:=.none,data:=.fields ps }
 | .met f x=>h.get? a=some (PySem.W.methodObj (.ref f) (.ref x))
 | .ext φ=>φ h/\(∃ o,h.get? a=some o)/\∀ h1 h2:Heap,φ h1->(∀ o,h1.get? a=some o->h2.get? a=some o)->φ h2
def L5(H:Hp)(h:Heap):Prop:=∀ a o,H a=some o->ObjOk P w H h a o
end
section
variable {P:Program} {w:World} {H H':Hp} {h h':Heap} {a:Addr} {o:HO}
theorem ObjOk.lt(x:ObjOk P w H h a o):a<h.objs.size:=by
 cases o with
 | lst xs=>obtain ⟨_,_,_,_,e⟩:=x;exact Heap.lt_size e
 | tup xs=>obtain ⟨_,_,_,p⟩:=x;exact p.lt
 | dK kvs=>obtain ⟨_,_,_,_,o,_,_,e,_⟩:=x;exact Heap.lt_size e
 | dT kvs=>obtain ⟨_,_,_,_,o,_,_,e,_⟩:=x;exact Heap.lt_size e
 | set S n=>obtain ⟨o,_,_,_,e,_⟩:=x;exact Heap.lt_size e
 | ins C dx fs=>obtain ⟨_,_,_,e,_⟩:=x;exact Heap.lt_size e
 | own y=>obtain ⟨_,e⟩:=x;exact Heap.lt_size e
 | xd fs=>obtain ⟨_,⟨_,_,_,e,_⟩,_⟩:=x;exact Heap.lt_size e
 | rng lo hi=>obtain ⟨_,_,_,e⟩:=x;exact Heap.lt_size e
 | frz ob u=>obtain ⟨e,_⟩:=x;exact Heap.lt_size e
 | tbl ps=>exact Heap.lt_size (show h.get? a=some _ from x)
 | met f y=>exact Heap.lt_size (show h.get? a=some _ from x)
 | ext φ=>obtain ⟨_,⟨_,e⟩,_⟩:=x;exact Heap.lt_size e
theorem M9{α β:Type}{F G:α->β->Prop} : ∀ {l₁:List α} {l₂:List β},Paired F l₁ l₂->(∀ a b,F a b->G a b)->Paired G l₁ l₂
 | _,_,.nil,_=>.nil
 | _,_,.cons r t,f=>.cons (f _ _ r) (M9 t f)
theorem ObjOk.stay(x:ObjOk P w H h a o)(k:∀ b u,(b=a\/H b=some (.own a))->h.get? b=some u->h'.get? b=some u)(ho:∀ b,H b=some (.own a)->H' b=some (.own a))(ht:∀ b xs,H b=some (.tup xs)->H' b=some (.tup xs)):ObjOk P w H' h' a o:=by
 induction o with
 | lst xs=>obtain ⟨z,its,n,r,e⟩:=x;exact ⟨z,its,n,r,k _ _ (.inl rfl) e⟩
 | tup xs=>obtain ⟨z,its,r,ob,e,c⟩:=x;exact ⟨z,its,r,ob,k _ _ (.inl rfl) e,c⟩
 | dK kvs=>obtain ⟨z,y,vs,r,ob,es,ep,e,c⟩:=x;exact ⟨z,y,vs,r,ob,es,ep,k _ _ (.inl rfl) e,c⟩
 | dT kvs=>
  obtain ⟨z,y,xs,r,ob,es,ep,e,c⟩:=x;exact ⟨z,y,xs,M9 r fun p q z=>⟨z.1,ht _ _ z.2.1,z.2.2⟩,ob,es,ep,k _ _ (.inl rfl) e,c⟩
 | set S n=>obtain ⟨ob,es,ep,t,e,c⟩:=x;exact ⟨ob,es,ep,t,k _ _ (.inl rfl) e,c⟩
 | ins C dx fs=>
  obtain ⟨d,z,ne,e,mA,⟨od,es,ep,e2,c⟩,r⟩:=x;exact ⟨ho _ d,z,ne,k _ _ (.inl rfl) e,mA,⟨od,es,ep,k _ _ (.inr d) e2,c⟩,r⟩
 | own y=>obtain ⟨ob,e⟩:=x;exact ⟨ob,k _ _ (.inl rfl) e⟩
 | xd fs=>obtain ⟨mA,⟨od,es,ep,e,c⟩,r⟩:=x;exact ⟨mA,⟨od,es,ep,k _ _ (.inl rfl) e,c⟩,r⟩
 | rng lo hi=>obtain ⟨t,u,v,e⟩:=x;exact ⟨t,u,v,k _ _ (.inl rfl) e⟩
 | frz ob u ih=>obtain ⟨e,q⟩:=x;exact ⟨k _ _ (.inl rfl) e,ih q⟩
 | tbl ps=>
  have e:h.get? a=some { cls:=.none,data:=.fields ps }:=x;show h'.get? a=some { cls:=.none,data:=.fields ps };exact k a _ (.inl rfl) e
 | met f y=>
  have e:h.get? a=some (PySem.W.methodObj (.ref f) (.ref y)):=x;show h'.get? a=some (PySem.W.methodObj (.ref f) (.ref y));exact k a _ (.inl rfl) e
 | ext φ=>obtain ⟨p,⟨o,e⟩,st⟩:=x;exact ⟨st _ _ p fun o q=>k _ _ (.inl rfl) q,⟨o,k _ _ (.inl rfl) e⟩,st⟩
theorem L5.lt(x:L5 P w H h)(e:H a=some o):a<h.objs.size:=(x a o e).lt
theorem L5.fresh(x:L5 P w H h)(e:h.objs.size<=a):H a=none:=by
 cases q:H a with
 | none=>rfl
 | some u=>exact absurd (U4 (x.lt q) e) (Y7 _)
theorem L5.kept(x:L5 P w H h)(k:∀ b u,h.get? b=some u->h'.get? b=some u):L5 P w H h':=fun a o e=>
 (x a o e).stay (fun b u _ q=>k b u q) (fun _ q=>q) fun _ _ q=>q
theorem L5.laid(x:L5 P w H h)(k:∀ b u,h.get? b=some u->h'.get? b=some u)(hp:h.objs.size<=a)(new:ObjOk P w (A0 H a o) h' a o):L5 P w (A0 H a o) h':=fun b u e=>by
 have hn:=x.fresh hp
 by_cases hb:b=a
 .subst hb;rw [A6] at e;cases e;exact new
 .rw [A9 hb] at e;exact (x b u e).stay (fun c v _ q=>k c v q) (fun c q=>by rw [A9 (p6 q hn)];exact q) fun c xs q=>by rw [A9 (p6 q hn)];exact q
end
def Rd(H:Hp)(a:Addr)(u:HO):Prop:=H a=some u\/∃ o,H a=some (.frz o u)
theorem Rd.of{H:Hp}{a:Addr}{u:HO}(h:H a=some u):Rd H a u:=.inl h
theorem Rd.ok{P:Program}{w:World}{H:Hp}{h:Heap}{a:Addr}{u:HO}(r:Rd H a u)(x:L5 P w H h):ObjOk P w H h a u:=by
 rcases r with r | ⟨o,r⟩
 .exact x a u r
 .obtain ⟨_,q⟩:=x a _ r;exact q
def fX:Option HO->Prop
 | some (.lst _)=>True
 | some (.dK _)=>True
 | some (.dT _)=>True
 | some (.set _ _)=>True
 | some (.ins _ _ _)=>True
 | some (.ext _)=>True
 | _=>False
section
variable {P:Program} {w:World} {H:Hp} {h h':Heap} {x e:Addr} {o':HO}
theorem L5.write(ok:L5 P w H h)(mu:fX (H x))(he:e=x\/H e=some (.own x))(k:∀ b u,b≠e->h.get? b=some u->h'.get? b=some u)(eX:∃ u,h'.get? e=some u)(new:ObjOk P w (A0 H x o') h' x o'):L5 P w (A0 H x o') h':=fun b u q=>by
 have nown:∀ c y,H c=some (.own y)->c≠x:=fun c y r z=>by subst z;rw [r] at mu;exact mu
 have ntup:∀ c xs,H c=some (.tup xs)->c≠x:=fun c xs r z=>by subst z;rw [r] at mu;exact mu
 by_cases hb:b=x
 .subst hb;rw [A6] at q;cases q;exact new
 .rw [A9 hb] at q
  by_cases cF:b=e
  .have q':H b=some (.own x):=by
    rcases he with z | z
    .exact absurd (cF.trans z) hb
    .rw [cF];exact z
   rw [q] at q';cases q';obtain ⟨v,hv⟩:=eX;exact ⟨v,by rw [cF];exact hv⟩
  .refine (ok b u q).stay (fun c v hc r=>k c v ?_ r) (fun c r=>by rw [A9 (nown c b r)];exact r) fun c xs r=>by rw [A9 (ntup c xs r)];exact r
   rcases hc with rfl | hc
   .exact cF
   .rintro rfl
    rcases he with z | z
    .exact nown c b hc z
    .rw [hc] at z;cases z;exact hb rfl
end
structure Un(fs ex:List Addr)(H H':Hp)(h h':Heap):Prop where
 keep:∀ b o,h.get? b=some o->H b=none->b∉fs->b∉ex->h'.get? b=some o
 slot:∀ b o,h.get? b=some o->H b=none->b∈fs->b∉ex->∃ sl,h'.get? b=some { o with slots:=sl }
 free:∀ b o,h.get? b=some o->H b=none->b∉ex->H' b=none
 there:∀ b o,h.get? b=some o->b∉ex->∃ o',h'.get? b=some o'
 tups:∀ b xs,H b=some (.tup xs)->H' b=some (.tup xs)
 frzs:∀ b o u,H b=some (.frz o u)->H' b=some (.frz o u)
 tbls:∀ b ps,H b=some (.tbl ps)->∃ more,H' b=some (.tbl (ps++more))
section
variable {fs fs' ex ex':List Addr} {H H1 H2:Hp} {h h1 h2 h':Heap} {a x e:Addr} {o:HO}
theorem Un.any(u:Un fs ex H H1 h h1){b:Addr}{ob:Obj}(q:h.get? b=some ob)(n:H b=none)(hx:b∉ex):∃ sl,h1.get? b=some { ob with slots:=sl }:=by
 by_cases hb:b∈fs
 .exact u.slot b ob q n hb hx
 .exact ⟨ob.slots,u.keep b ob q n hb hx⟩
theorem Un.kept(k:∀ b u,h.get? b=some u->h'.get? b=some u):Un fs ex H H h h':=
 ⟨fun b ob q _ _ _=>k b ob q,fun b ob q _ _ _=>⟨ob.slots,k b ob q⟩,fun _ _ _ n _=>n,fun b ob q _=>⟨ob,k b ob q⟩,fun _ _ q=>q,fun _ _ _ q=>q,fun _ ps q=>⟨#[],by rw [q];simp⟩⟩
theorem Un.refl:Un fs ex H H h h:=Un.kept fun _ _ q=>q
theorem Un.laid(k:∀ b u,h.get? b=some u->h'.get? b=some u)(hp:h.objs.size<=a)(hn:H a=none):Un fs ex H (A0 H a o) h h' where
 keep:=fun b u q _ _ _=>k b u q
 slot:=fun b u q _ _ _=>⟨u.slots,k b u q⟩
 free:=fun b u q n _=>by rw [A9 (K8 (U4 (Heap.lt_size q) hp))];exact n
 there:=fun b u q _=>⟨u,k b u q⟩
 tups:=fun b xs q=>by rw [A9 (p6 q hn)];exact q
 frzs:=fun b u xs q=>by rw [A9 (p6 q hn)];exact q
 tbls:=fun b ps q=>⟨#[],by rw [A9 (p6 q hn),q];simp⟩
theorem Un.write(mu:fX (H x))(he:e=x\/H e=some (.own x))(k:∀ b u,b≠e->h.get? b=some u->h'.get? b=some u)(eX:∃ u,h'.get? e=some u):Un fs ex H (A0 H x o) h h':=by
 have hx:∀ b,H b=none->b≠x:=fun b n z=>by subst z;rw [n] at mu;exact mu
 have hb:∀ b,H b=none->b≠e:=fun b n z=>by
  subst z
  rcases he with r | r
  .exact hx b n r
  .rw [n] at r;cases r
 have hm:∀ b u,H b=some u->¬ fX (some u)->b≠x:=fun b u q nm z=>by subst z;rw [q] at mu;exact nm mu
 refine ⟨fun b u q n _ _=>k b u (hb b n) q,fun b u q n _ _=>⟨u.slots,k b u (hb b n) q⟩,fun b u q n _=>by rw [A9 (hx b n)];exact n,fun b u q _=>?_,
  fun b xs q=>by rw [A9 (hm b _ q fun z=>z)];exact q,fun b u xs q=>by rw [A9 (hm b _ q fun z=>z)];exact q,fun b ps q=>⟨#[],by rw [A9 (hm b _ q fun z=>z),q];simp⟩⟩
 by_cases cF:b=e
 .subst cF;exact eX
 .exact ⟨u,k b u cF q⟩
end
def jX(h:Heap)(H:Hp):List Addr:=(c9 h.objs.size).filter fun a=>(H a).isSome
def hidT(h:Heap)(H:Hp):Heap:=PySem.W.hideAll h (jX h H)
theorem aia(h:Heap)(H:Hp):(hidT h H).objs.size=h.objs.size:=PySem.W.hideAll_size _ _
theorem ajA{h:Heap}{H:Hp}{b:Addr}{o:Obj}(e:h.get? b=some o)(n:H b=none):(hidT h H).get? b=some o:=
 PySem.W.hideAll_get _ e fun hm=>by
  have q:(H b).isSome=true:=(U1.mp hm).2;rw [n] at q;simp at q
theorem alo{h:Heap}{H:Hp}{b:Addr}{o:Obj}(e:(hidT h H).get? b=some o):h.get? b=some o/\H b=none:=by
 have e':h.get? b=some o:=PySem.W.of_hideAll (jX h H) e;refine ⟨e',?_⟩
 cases q:H b with
 | none=>rfl
 | some x=>
  have hm:b∈jX h H:=U1.mpr ⟨List.mem_range.mpr (Heap.lt_size e'),by simp [q]⟩;have z:(hidT h H).get? b=none:=PySem.W.hideAll_none (jX h H) hm;rw [z] at e;cases e
def alp(g h:Heap)(L:Addr):List (Addr×Obj):=(c9 h.objs.size).filterMap fun a=>if a=L\/(g.get? a).isSome=true then none else (h.get? a).map fun o=>(a,o)
def rest(g h:Heap)(L d:Addr):List (Addr×Obj):=(alp g h L).filter fun p=>decide (p.1≠d)
end L2
namespace L2
open PySem PySem.Spec PyProof.Rows
structure Mod(K:PySem.W.Frag)(mg:Str->Option Value)(base:Heap):Prop where
 kin:K.In base
 glob:base.Ns mainGlobals mg
 blt:∃ mb,base.Ns builtinsNs mb/\∀ x:Str,x≠"__name__"->mb x=bootBuiltins x
 nolimit:base.NoLimit
structure Cx where
 prog:Program
 w:World
 K:PySem.W.Frag
 mg:Str->Option Value
 base:Heap
 A:Around
 N:List Str
 s₀:Shared
 H₀:Hp
 env:Env
 outer:List Env
 stack:List Env
 ex:List Addr
 fn:Str->Bool
 calm:Bool
 pn:List (Addr×Obj)
 xe:Value->Shared->Prop
def f6(l:List Env):List Addr:=l.filterMap (·.frame)
abbrev Cx.fs(X:Cx):List Addr:=f6 X.outer
def fY(sc:Scope)(x:Str):Prop:=sc.names.lookup x=some .local\/sc.names.lookup x=some .cell\/sc.names.lookup x=some .free
def f7(sc:Scope)(x:Str):Prop:=sc.names.lookup x=some .local\/sc.names.lookup x=some .cell
def Look(env:Env)(h:Heap)(m:Str->Option Value)(x:Str)(u:Value):Prop:=
 (env.kindOf x=some .local/\m x=some u)\/((env.kindOf x=some .cell\/env.kindOf x=some .free)/\∃ c,env.cells.lookup x=some c/\h.IsCell c (some u))
structure Cx.Ok(X:Cx):Prop where
 mod:Mod X.K X.mg X.base
 kind:X.env.scope.kind=.function
 glob:X.env.globals=mainGlobals
 blt:X.env.builtins=builtinsNs
 above:X.s₀.heap.objs.size<=X.env.locals
 inj:∀ x y c,X.env.cells.lookup x=some c->X.env.cells.lookup y=some c->x=y
 has:∀ x,(X.env.kindOf x=some .cell\/X.env.kindOf x=some .free)->∃ c,X.env.cells.lookup x=some c
 cab:∀ x c,X.fn x=true->X.env.cells.lookup x=some c->X.s₀.heap.objs.size<=c
 hd:X.calm=true->X.A.handled=none
 frames:X.A.frames=some X.stack
 stk:X.stack=X.outer\/(X.stack=X.env::X.outer/\X.env.frame=some X.env.locals)
 exf:∀ b∈X.ex,b≠X.env.locals/\∀ x c,X.env.cells.lookup x=some c->c≠b
 bs:∀ b o,X.base.get? b=some o->X.s₀.heap.get? b=some o/\X.H₀ b=none
 bsz:X.base.objs.size<=X.s₀.heap.objs.size
 noex:∀ b o,X.base.get? b=some o->b∉X.ex
 exfs:∀ b∈X.ex,b∉X.fs
 funs:X.s₀.heap.FunFrames X.base X.outer
 frf:∀ b∈X.fs,X.H₀ b=none
structure Inv(X:Cx)(pins:List (Addr×Obj))(O:List (Option V))(H:Hp)(s:Shared):Prop where
 ok:X.Ok
 os:s.os=X.s₀.os
 bare:AllBare s.gens
 base:Un X.fs X.ex X.H₀ H X.s₀.heap s.heap
 loc:∃ m,s.heap.Ns X.env.locals m/\∀ (i:Nat) (x:Str) (v:V),X.N[i]?=some x->O[i]?=some (some v)->fY X.env.scope x->∃ u,RelV v u/\Look X.env s.heap m x u
 cell:∀ x c,X.env.cells.lookup x=some c->∃ v,s.heap.IsCell c v
 free:H X.env.locals=none
 freeC:∀ x c,X.env.cells.lookup x=some c->H c=none
 pin:∀ p∈X.pn++pins,s.heap.get? p.1=some p.2/\H p.1=none/\p.1≠X.env.locals/\p.1∉X.fs/\∀ v,p.2.data≠.cell v
 hok:L5 X.prog X.w H s.heap
 len:O.length=X.N.length
section
variable {X:Cx} {pins:List (Addr×Obj)} {O:List (Option V)} {H H':Hp} {s:Shared} {h':Heap}
theorem Cx.Ok.nofr(ok:X.Ok){b:Addr}{o:Obj}(e:X.base.get? b=some o):b∉X.fs:=fun hb=>by
 have:=(ok.funs.mem hb).1
 rw [e] at this;cases this
theorem Inv.bs(I:Inv X pins O H s):∀ b o,X.base.get? b=some o->s.heap.get? b=some o/\H b=none:=fun b o e=>
 ⟨I.base.keep b o (I.ok.bs b o e).1 (I.ok.bs b o e).2 (I.ok.nofr e) (I.ok.noex b o e),I.base.free b o (I.ok.bs b o e).1 (I.ok.bs b o e).2 (I.ok.noex b o e)⟩
theorem Inv.bk(I:Inv X pins O H s):∀ b o,X.base.get? b=some o->s.heap.get? b=some o:=fun b o e=>(I.bs b o e).1
theorem Inv.mod(I:Inv X pins O H s):Mod X.K X.mg X.base:=I.ok.mod
theorem Inv.kIn(I:Inv X pins O H s):X.K.In s.heap:=I.ok.mod.kin.keeps I.bk
theorem Inv.lt(I:Inv X pins O H s):X.env.locals<s.heap.objs.size:=let ⟨_,hn,_⟩:=I.loc;hn.lt
theorem Inv.sz(I:Inv X pins O H s):X.s₀.heap.objs.size<=s.heap.objs.size:=M8 I.ok.above (Nat.le_of_lt I.lt)
theorem Inv.nofs(I:Inv X pins O H s){a:Addr}(h:s.heap.objs.size<=a):a∉X.fs:=fun hb=>by
 obtain ⟨_,o,ho,_⟩:=I.ok.funs.mem hb;exact absurd (U4 (Heap.lt_size ho) (M8 I.sz h)) (Y7 _)
theorem Inv.cne(I:Inv X pins O H s):∀ x c,X.env.cells.lookup x=some c->c≠X.env.locals:=fun x c e z=>by
 obtain ⟨v,o,ho,hd⟩:=I.cell x c e;obtain ⟨m,⟨o',es,ep,i6,rQ,_⟩,_⟩:=I.loc;rw [z,i6] at ho;cases ho;rw [rQ] at hd;cases hd
theorem Inv.funs(I:Inv X pins O H s):s.heap.FunFrames X.base X.outer:=by
 have all:∀ (l:List Env),(∀ b∈f6 l,b∈X.fs)->X.s₀.heap.FunFrames X.base l->s.heap.FunFrames X.base l:=by
  intro l
  induction l with
  | nil=>intro _ _;trivial
  | cons env r ih=>
   intro hs hl;obtain ⟨hk,⟨L,o,hf,hn,ho,hd⟩,hr⟩:=hl;have hL:L∈X.fs:=hs L (by unfold f6;rw [x0,hf];exact K1);obtain ⟨sl,e⟩:=I.base.slot L o ho (I.ok.frf L hL) hL fun z=>I.ok.exfs L z hL
   exact ⟨hk,⟨L,_,hf,hn,e,hd⟩,ih (fun b hb=>hs b (by unfold f6;rw [x0,hf];exact M6 _ hb)) hr⟩
 exact all X.outer (fun _ hb=>hb) I.ok.funs
theorem Inv.stack(I:Inv X pins O H s):s.heap.FunFrames X.base X.stack:=by
 rcases I.ok.stk with e | ⟨e,hf⟩
 .rw [e];exact I.funs
 .rw [e];obtain ⟨m,hn,_⟩:=I.loc;refine .cons (by rw [I.ok.kind];decide) hf hn ?_ I.funs;exact Heap.get?_none_of_le (M8 I.ok.bsz I.ok.above)
theorem Inv.stkSub(I:Inv X pins O H s):∀ b∈f6 X.stack,b∈X.env.locals::X.fs:=fun b hb=>by
 rcases I.ok.stk with e | ⟨e,hf⟩
 .rw [e] at hb;exact M6 _ hb
 .rw [e] at hb;unfold f6 at hb;rw [x0,hf] at hb;exact hb
theorem Inv.stkFree(I:Inv X pins O H s):∀ b∈f6 X.stack,H b=none:=fun b hb=>by
 rcases E8.mp (I.stkSub b hb) with e | hb
 .rw [e];exact I.free
 .obtain ⟨_,o,ho,_⟩:=I.ok.funs.mem hb;exact I.base.free b o ho (I.ok.frf b hb) fun z=>I.ok.exfs b z hb
theorem Inv.step{g':Array GenState}{t':Nat}{d':Drawn}{ch:List Addr}(I:Inv X pins O H s)(n8:∀ b∈ch,(b∈X.ex\/X.s₀.heap.objs.size<=b)/\b≠X.env.locals/\(∀ x c,X.env.cells.lookup x=some c->c≠b)/\∀ p∈X.pn++pins,p.1≠b)(keep:∀ b o,b≠X.env.locals->b∉X.fs->b∉ch->s.heap.get? b=some o->H b=none->h'.get? b=some o)(slot:∀ b o,b≠X.env.locals->b∈X.fs->b∉ch->s.heap.get? b=some o->H b=none->∃ sl,h'.get? b=some { o with slots:=sl })(free:∀ b o,b∉ch->s.heap.get? b=some o->H b=none->H' b=none)(there:∀ b o,b∉ch->s.heap.get? b=some o->∃ o',h'.get? b=some o')(tups:∀ b xs,H b=some (.tup xs)->H' b=some (.tup xs))(frzs:∀ b o u,H b=some (.frz o u)->H' b=some (.frz o u))(tbls:∀ b ps,H b=some (.tbl ps)->∃ more,H' b=some (.tbl (ps++more)))(ns:∀ m,s.heap.Ns X.env.locals m->h'.Ns X.env.locals m)(hok:L5 X.prog X.w H' h')(hg:AllBare g') :
  Inv X pins O H' { s with heap:=h',gens:=g',drawn:=d',toks:=t' }:=by
 have neL:∀ b o,X.s₀.heap.get? b=some o->b≠X.env.locals:=fun b o e=>K8 (U4 (Heap.lt_size e) I.ok.above)
 have neC:∀ b o,X.s₀.heap.get? b=some o->b∉X.ex->b∉ch:=fun b o e hx hb=>by
  rcases (n8 b hb).1 with z | z
  .exact hx z
  .exact absurd (U4 (Heap.lt_size e) z) (Y7 _)
 have cellK:∀ x c,X.env.cells.lookup x=some c->∀ v,s.heap.IsCell c v->h'.IsCell c v:=fun x c e v ⟨o,ho,hd⟩=>by
  have nch:c∉ch:=fun z=>(n8 c z).2.2.1 x c e rfl
  by_cases hc:c∈X.fs
  .obtain ⟨sl,q⟩:=slot c o (I.cne x c e) hc nch ho (I.freeC x c e);exact ⟨_,q,hd⟩
  .exact ⟨o,keep c o (I.cne x c e) hc nch ho (I.freeC x c e),hd⟩
 refine ⟨I.ok,I.os,hg,⟨fun b o e n hb hx=>?_,fun b o e n hb hx=>?_,fun b o e n hx=>?_,fun b o e hx=>?_,fun b xs e=>tups b xs (I.base.tups b xs e),fun b o xs e=>frzs b o xs (I.base.frzs b o xs e),fun b ps e=>?_⟩,?_,fun x c e=>?_,?_,fun x c e=>?_,fun p hp=>?_,hok,I.len⟩
 .exact keep b o (neL b o e) hb (neC b o e hx) (I.base.keep b o e n hb hx) (I.base.free b o e n hx)
 .obtain ⟨sl,e1⟩:=I.base.slot b o e n hb hx;obtain ⟨sl',e2⟩:=slot b _ (neL b o e) hb (neC b o e hx) e1 (I.base.free b o e n hx);exact ⟨sl',e2⟩
 .obtain ⟨o',e1⟩:=I.base.there b o e hx;exact free b o' (neC b o e hx) e1 (I.base.free b o e n hx)
 .obtain ⟨o',e1⟩:=I.base.there b o e hx;exact there b o' (neC b o e hx) e1
 .obtain ⟨m1,e1⟩:=I.base.tbls b ps e;obtain ⟨m2,e2⟩:=tbls b _ e1;exact ⟨m1++m2,by rw [e2,Array.append_assoc]⟩
 .obtain ⟨m,hn,hl⟩:=I.loc;refine ⟨m,ns m hn,fun i x v e1 e2 e3=>?_⟩;obtain ⟨u,r,l⟩:=hl i x v e1 e2 e3;refine ⟨u,r,?_⟩
  rcases l with l | ⟨k,c,e,z⟩
  .exact .inl l
  .exact .inr ⟨k,c,e,cellK x c e _ z⟩
 .obtain ⟨v,z⟩:=I.cell x c e;exact ⟨v,cellK x c e v z⟩
 .obtain ⟨m,⟨o,_,_,ho,_⟩,_⟩:=I.loc;exact free _ o (fun z=>(n8 _ z).2.1 rfl) ho I.free
 .obtain ⟨v,o,ho,hd⟩:=I.cell x c e;exact free c o (fun z=>(n8 c z).2.2.1 x c e rfl) ho (I.freeC x c e)
 .obtain ⟨e,n,ne,nf,d⟩:=I.pin p hp;have nch:p.1∉ch:=fun z=>(n8 p.1 z).2.2.2 p hp rfl
  exact ⟨keep p.1 p.2 ne nf nch e n,free p.1 p.2 nch e n,ne,nf,d⟩
theorem Inv.un{t':Nat}(I:Inv X pins O H s)(u:Un X.fs [] H H' s.heap h')(hok:L5 X.prog X.w H' h'):Inv X pins O H' { s with heap:=h',toks:=t' }:=by
 obtain ⟨m,⟨o,es,ep,ho,r⟩,_⟩:=id I.loc;obtain ⟨sl,hL⟩:=u.any ho I.free (by simp);exact I.step (g':=s.gens) (d':=s.drawn) (ch:=[]) (fun _ z=>nomatch z) (fun b o _ hb _ e n=>u.keep b o e n hb (by simp)) (fun b o _ hb _ e n=>u.slot b o e n hb (by simp)) (fun b o _ e n=>u.free b o e n (by simp)) (fun b o _ e=>u.there b o e (by simp)) u.tups u.frzs u.tbls (fun m' hm=>by
  obtain ⟨o',es',ep',i6,r'⟩:=hm;rw [ho] at i6;cases i6;exact ⟨_,es',ep',hL,r'⟩) hok I.bare
theorem Inv.call{g':Array GenState}{t':Nat}{d':Drawn}{ch:List Addr}(I:Inv X pins O H s)(u:Un (f6 X.stack) ch H H' s.heap h')(hok:L5 X.prog X.w H' h')(hg:AllBare g')(n8:∀ b∈ch,(b∈X.ex\/X.s₀.heap.objs.size<=b)/\b≠X.env.locals/\(∀ x c,X.env.cells.lookup x=some c->c≠b)/\∀ p∈X.pn++pins,p.1≠b) :
  Inv X pins O H' { s with heap:=h',gens:=g',drawn:=d',toks:=t' }:=by
 obtain ⟨m,⟨o,es,ep,ho,r⟩,_⟩:=id I.loc;obtain ⟨sl,hL⟩:=u.any ho I.free fun z=>(n8 _ z).2.1 rfl
 exact I.step (ch:=ch) n8 (fun b o hL hb hc e n=>u.keep b o e n (fun z=>(E8.mp (I.stkSub b z)).elim hL hb) hc) (fun b o _ _ hc e n=>u.any e n hc) (fun b o hc e n=>u.free b o e n hc) (fun b o hc e=>u.there b o e hc) u.tups u.frzs u.tbls (fun m' hm=>by
  obtain ⟨o',es',ep',i6,r'⟩:=hm;rw [ho] at i6;cases i6;exact ⟨_,es',ep',hL,r'⟩) hok hg
theorem Inv.turned{t':Nat}{it:Addr}(I:Inv X pins O H s)(k:∀ b o,b≠it->s.heap.get? b=some o->h'.get? b=some o)(hn:H it=none)(hL:it≠X.env.locals)(h1:it∈X.ex\/X.s₀.heap.objs.size<=it)(h2:∀ x c,X.env.cells.lookup x=some c->c≠it)(h3:∀ p∈X.pn++pins,p.1≠it):Inv X pins O H { s with heap:=h',toks:=t' }:=by
 have nit:∀ b u,H b=some u->b≠it:=fun b u e z=>by rw [z,hn] at e;cases e
 refine I.step (g':=s.gens) (d':=s.drawn) (ch:=[it]) (fun b hb=>?_) (fun b o _ _ hc e _=>k b o (fun z=>hc (by simp [z])) e) (fun b o _ _ hc e _=>⟨o.slots,k b o (fun z=>hc (by simp [z])) e⟩) (fun _ _ _ _ n=>n)
  (fun b o hc e=>⟨o,k b o (fun z=>hc (by simp [z])) e⟩) (fun _ _ e=>e) (fun _ _ _ e=>e) (fun b ps e=>⟨#[],by rw [e];simp⟩) (fun m hm=>?_) (fun b u e=>?_) I.bare
 .have e:b=it:=by simpa using hb
  subst e;exact ⟨h1,hL,h2,h3⟩
 .obtain ⟨o,es,ep,ho,r⟩:=hm;exact ⟨o,es,ep,k _ o (Ne.symm hL) ho,r⟩
 .refine (I.hok b u e).stay (fun c v hc q=>k c v ?_ q) (fun _ q=>q) fun _ _ q=>q
  rcases hc with z | z
  .rw [z];exact nit b u e
  .exact nit c _ z
theorem Inv.tok(I:Inv X pins O H s)(t:Nat):Inv X pins O H { s with toks:=t }:=I.un (h':=s.heap) (t':=t) Un.refl I.hok
theorem Inv.kept{t':Nat}(I:Inv X pins O H s)(k:∀ b u,s.heap.get? b=some u->h'.get? b=some u):Inv X pins O H { s with heap:=h',toks:=t' }:=I.un (Un.kept k) (I.hok.kept k)
theorem Inv.laid{a:Addr}{o:HO}{t':Nat}(I:Inv X pins O H s)(k:∀ b u,s.heap.get? b=some u->h'.get? b=some u)(hp:s.heap.objs.size<=a)(new:ObjOk X.prog X.w (A0 H a o) h' a o) :
  Inv X pins O (A0 H a o) { s with heap:=h',toks:=t' }:=I.un (Un.laid k hp (I.hok.fresh hp)) (I.hok.laid k hp new)
theorem Inv.write{x e:Addr}{o:HO}{t':Nat}(I:Inv X pins O H s)(mu:fX (H x))(he:e=x\/H e=some (.own x))(k:∀ b u,b≠e->s.heap.get? b=some u->h'.get? b=some u)(eX:∃ u,h'.get? e=some u)(new:ObjOk X.prog X.w (A0 H x o) h' x o):Inv X pins O (A0 H x o) { s with heap:=h',toks:=t' }:=I.un (Un.write mu he k eX) (I.hok.write mu he k eX new)
theorem Inv.pins_of{pins':List (Addr×Obj)}(I:Inv X pins O H s)(h:∀ p∈pins',s.heap.get? p.1=some p.2/\H p.1=none/\p.1≠X.env.locals/\p.1∉X.fs/\∀ v,p.2.data≠.cell v):Inv X pins' O H s:=
 ⟨I.ok,I.os,I.bare,I.base,I.loc,I.cell,I.free,I.freeC,fun p hp=>(F9.mp hp).elim (fun z=>I.pin p (N8 _ z)) (h p),I.hok,I.len⟩
theorem uU{N:List Str}(hN:N.Nodup){i j:Nat}{x:Str}(a:N[i]?=some x)(b:N[j]?=some x):i=j:=by
 obtain ⟨h1,e1⟩:=K0.mp a;obtain ⟨h2,e2⟩:=K0.mp b;exact (List.getElem_inj hN).mp (e1.trans e2.symm)
theorem aib{M:Model}{A:Around}{E:Value->Shared->Prop}{i:Nat}{x:Str}{v:V}{u:Value}{Q:Unit->Shared->Prop}(I:Inv X pins O H s)(hN:X.N.Nodup)(hi:X.N[i]?=some x)(hx:f7 X.env.scope x)(r:RelV v u)(h:∀ s',Inv X pins (O.set i (some v)) H s'->(∃ a,Heap.SameBut a s.heap s'.heap/\(a=X.env.locals\/X.env.cells.lookup x=some a))->Q () s')(hf:X.fn x=true\/X.env.scope.names.lookup x=some .local:=by first | exact .inl rfl | exact .inr rfl | assumption):wpAny M A (storeName X.env x u) Q E s:=by
 obtain ⟨m,hn,hl⟩:=id I.loc;have rR:(X.env.scope.kind == .class || (X.env.scope.kind == .module&&X.env.locals != X.env.globals))=false:=by rw [I.ok.kind];rfl
 have hiσ:i<O.length:=by rw [I.len];exact (K0.mp hi).1
 have cne:=I.cne;have tracked:∀ {a:Addr} {h':Heap},(∃ o,s.heap.get? a=some o/\H a=none)->Heap.SameBut a s.heap h'->L5 X.prog X.w H h':=fun {a h'} ha hs b ob e=>by
  obtain ⟨_,_,aL⟩:=ha;refine (I.hok b ob e).stay (fun c w' hc q=>(hs.2 c ?_).trans q) (fun _ q=>q) fun _ _ q=>q
  rintro rfl
  rcases hc with rfl | hc
  .rw [aL] at e;cases e
  .rw [aL] at hc;cases hc
 rcases hx with hk | hk
 .refine wpAny_storeName_local hk hn (fun h' hn' hs=>?_) rR;obtain ⟨oL,_,_,hoL,_⟩:=id hn;refine h _ ⟨I.ok,I.os,I.bare,⟨fun b o e n hb hx=>?_,fun b o e n hb hx=>?_,I.base.free,fun b o e hx=>?_,I.base.tups,I.base.frzs,I.base.tbls⟩,⟨_,hn',fun j y v' e1 e2 e3=>?_⟩,fun y c e=>?_,I.free,I.freeC,fun p hp=>?_,tracked ⟨oL,hoL,I.free⟩ hs,by simpa using I.len⟩ ⟨_,hs,.inl rfl⟩
  .exact (hs.2 b (K8 (U4 (Heap.lt_size e) I.ok.above))).trans (I.base.keep b o e n hb hx)
  .obtain ⟨sl,e1⟩:=I.base.slot b o e n hb hx;exact ⟨sl,(hs.2 b (K8 (U4 (Heap.lt_size e) I.ok.above))).trans e1⟩
  .obtain ⟨o',e1⟩:=I.base.there b o e hx;exact ⟨o',(hs.2 b (K8 (U4 (Heap.lt_size e) I.ok.above))).trans e1⟩
  .by_cases hj:j=i
   .subst hj;rw [hi] at e1;cases e1;rw [List.getElem?_set_self hiσ] at e2;cases e2;exact ⟨u,r,.inl ⟨hk,by simp⟩⟩
   .rw [List.getElem?_set_ne (Ne.symm hj)] at e2;obtain ⟨u',r',q⟩:=hl j y v' e1 e2 e3;refine ⟨u',r',?_⟩
    rcases q with ⟨k,e⟩ | ⟨k,c,e,z⟩
    .refine .inl ⟨k,?_⟩
     have:y≠x:=fun e=>hj (uU hN e1 (e ▸ hi))
     simp [this,e]
    .exact .inr ⟨k,c,e,z.sameBut hs (cne y c e)⟩
  .obtain ⟨w',z⟩:=I.cell y c e;exact ⟨w',z.sameBut hs (cne y c e)⟩
  .obtain ⟨e,n,ne,nf,d⟩:=I.pin p hp;exact ⟨(hs.2 p.1 ne).trans e,n,ne,nf,d⟩
 .have rS:X.fn x=true:=by
   rcases hf with z | z
   .exact z
   .rw [z] at hk;cases hk
  obtain ⟨c,hc⟩:=I.ok.has x (.inl hk);obtain ⟨w',z⟩:=I.cell x c hc;refine wpAny_storeName_cell I.ok.kind hk hc z (fun h' o0 hs=>?_);obtain ⟨oc,rT,rV⟩:=id z;refine h { s with heap:=h' } ⟨I.ok,I.os,I.bare,⟨fun b o e n hb hx=>?_,fun b o e n hb hx=>?_,I.base.free,fun b o e hx=>?_,I.base.tups,I.base.frzs,I.base.tbls⟩,⟨m,hn.sameBut hs (Ne.symm (cne x c hc)),fun j y v' e1 e2 e3=>?_⟩,fun y c' e=>?_,I.free,I.freeC,fun p hp=>?_,tracked ⟨oc,rT,I.freeC x c hc⟩ hs,by simpa using I.len⟩ ⟨c,hs,.inr hc⟩
  .exact (hs.2 b (K8 (U4 (Heap.lt_size e) (I.ok.cab x c rS hc)))).trans (I.base.keep b o e n hb hx)
  .obtain ⟨sl,e1⟩:=I.base.slot b o e n hb hx;exact ⟨sl,(hs.2 b (K8 (U4 (Heap.lt_size e) (I.ok.cab x c rS hc)))).trans e1⟩
  .obtain ⟨o',e1⟩:=I.base.there b o e hx;exact ⟨o',(hs.2 b (K8 (U4 (Heap.lt_size e) (I.ok.cab x c rS hc)))).trans e1⟩
  .by_cases hj:j=i
   .subst hj;rw [hi] at e1;cases e1;rw [List.getElem?_set_self hiσ] at e2;cases e2;exact ⟨u,r,.inr ⟨.inl hk,c,hc,o0⟩⟩
   .rw [List.getElem?_set_ne (Ne.symm hj)] at e2;obtain ⟨u',r',q⟩:=hl j y v' e1 e2 e3;refine ⟨u',r',?_⟩
    rcases q with q | ⟨k,c',e,z'⟩
    .exact .inl q
    .refine .inr ⟨k,c',e,z'.sameBut hs ?_⟩;rintro rfl;exact hj (uU hN e1 (I.ok.inj _ _ _ e hc ▸ hi))
  .by_cases hcc:c'=c
   .subst hcc;exact ⟨_,o0⟩
   .obtain ⟨w2,z2⟩:=I.cell y c' e;exact ⟨w2,z2.sameBut hs hcc⟩
  .obtain ⟨e,n,ne,nf,d⟩:=I.pin p hp;refine ⟨(hs.2 p.1 ?_).trans e,n,ne,nf,d⟩;intro q;rw [q,rT] at e;have q':oc=p.2:=Option.some.inj e;exact d w' (by rw [<- q'];exact rV)
theorem jY{M:Model}{A:Around}{E:Value->Shared->Prop}{i:Nat}{x:Str}{v:V}{u:Value}{Q:Unit->Shared->Prop}(I:Inv X pins O H s)(hN:X.N.Nodup)(hi:X.N[i]?=some x)(hx:f7 X.env.scope x)(r:RelV v u)(h:∀ s',Inv X pins (O.set i (some v)) H s'->Q () s')(hf:X.fn x=true\/X.env.scope.names.lookup x=some .local:=by first | exact .inl rfl | exact .inr rfl | assumption):wpAny M A (storeName X.env x u) Q E s:=
 aib I hN hi hx r (fun s' I' _=>h s' I') hf
theorem Inv.call'{s':Shared}{ch:List Addr}(I:Inv X pins O H s)(ho:s'.os=s.os)(u:Un (f6 X.stack) ch H H' s.heap s'.heap)(hok:L5 X.prog X.w H' s'.heap)(hg:AllBare s'.gens)(n8:∀ b∈ch,(b∈X.ex\/X.s₀.heap.objs.size<=b)/\b≠X.env.locals/\(∀ x c,X.env.cells.lookup x=some c->c≠b)/\∀ p∈X.pn++pins,p.1≠b):Inv X pins O H' s':=by
 obtain ⟨h',g',d',t',o'⟩:=s';have e:o'=s.os:=ho;subst e;exact I.call (g':=g') (t':=t') (d':=d') u hok hg n8
end
abbrev XK:=Value->Option Addr->Hp->Prop
abbrev St:=List (Option V)
abbrev VK:=V->Hp->Prop
abbrev TE:=St->Hp->VK->Prop
abbrev TT:=St->Hp->(Bool->Hp->Prop)->Prop
abbrev TA:=St->Hp->(List V->Hp->Prop)->Prop
structure Ends where
 nx:St->Hp->Prop
 rt:VK
 bk:St->Hp->Prop:=fun _ _=>False
 ct:St->Hp->Prop:=fun _ _=>False
abbrev TS:=Ends->St->Hp->Prop
def EP(X:Cx)(pins:List (Addr×Obj))(O:St)(Q:VK)(u:Value)(s':Shared):Prop:=∃ v H',Inv X pins O H' s'/\RelV v u/\Q v H'
def TP(X:Cx)(pins:List (Addr×Obj))(O:St)(Q:Bool->Hp->Prop)(b:Bool)(s':Shared):Prop:=∃ H',Inv X pins O H' s'/\Q b H'
def AP(X:Cx)(pins:List (Addr×Obj))(O:St)(Q:List V->Hp->Prop)(us:List Value)(s':Shared):Prop:=∃ vs H',Inv X pins O H' s'/\Vals vs us/\Q vs H'
def SP(X:Cx)(pins:List (Addr×Obj))(D:Ends)(f:Flow)(s':Shared):Prop:=
 match f with
 | .next=>∃ σ' H',Inv X pins σ' H' s'/\D.nx σ' H'
 | .brk=>∃ σ' H',Inv X pins σ' H' s'/\D.bk σ' H'
 | .cont=>∃ σ' H',Inv X pins σ' H' s'/\D.ct σ' H'
 | .ret u=>∃ v σ' H',Inv X pins σ' H' s'/\RelV v u/\D.rt v H'
def PE(X:Cx)(e:Expr)(t:TE):Prop:=
 ∀ (pins:List (Addr×Obj)) (s:Shared) (O:St) (H:Hp) (Q:VK),Inv X pins O H s->t O H Q->wpAny (model X.prog X.w) X.A (eval e X.env) (EP X pins O Q) X.xe s
def PT(X:Cx)(e:Expr)(t:TT):Prop:=
 ∀ (pins:List (Addr×Obj)) (s:Shared) (O:St) (H:Hp) (Q:Bool->Hp->Prop),Inv X pins O H s->t O H Q->wpAny (model X.prog X.w) X.A (isTrue e X.env (eval e X.env)) (TP X pins O Q) X.xe s
def PW(X:Cx)(e:Expr)(t:TT):Prop:=
 ∀ (whole:Sem Value) (pins:List (Addr×Obj)) (s:Shared) (O:St) (H:Hp) (Q:Bool->Hp->Prop),Inv X pins O H s->t O H Q->wpAny (model X.prog X.w) X.A (isTrue e X.env whole) (TP X pins O Q) X.xe s
theorem PW.pt{X:Cx}{e:Expr}{t:TT}(h:PW X e t):PT X e t:=h _
def PA(X:Cx)(es:List Expr)(t:TA):Prop:=
 ∀ (pos:Pos) (pins:List (Addr×Obj)) (s:Shared) (O:St) (H:Hp) (Q:List V->Hp->Prop),Inv X pins O H s->t O H Q->wpAny (model X.prog X.w) X.A (spliced (backTo pos (starEach es X.env))) (AP X pins O Q) X.xe s
def PS(X:Cx)(st:Stmt)(t:TS):Prop:=
 ∀ (pins:List (Addr×Obj)) (s:Shared) (O:St) (H:Hp) (D:Ends),Inv X pins O H s->t D O H->wpAny (model X.prog X.w) X.A (exec st X.env) (SP X pins D) X.xe s
def V2(X:Cx)(st:List Stmt)(t:TS):Prop:=
 ∀ (pins:List (Addr×Obj)) (s:Shared) (O:St) (H:Hp) (D:Ends),Inv X pins O H s->t D O H->wpAny (model X.prog X.w) X.A (execs st X.env) (SP X pins D) X.xe s
theorem C2{α:Type}{t:Sem α}{Q Q':α->Shared->Prop}{M:Model}{A:Around}{E:Value->Shared->Prop}{s:Shared}(h:wpAny M A t Q E s)(hQ:∀ a s,Q a s->Q' a s):wpAny M A t Q' E s:=wpAny_mono h hQ fun _ _ x=>x
end L2
namespace L2
open PySem PySem.Spec PyProof.Rows
section
variable {X:Cx}
def tVar(i:Nat):TE:=fun O H Q=>∃ v,O[i]?=some (some v)/\Q v H
def tC(v:V):TE:=fun _ H Q=>Q v H
theorem uV{i:Nat}{x:Str}{pos:Pos}(hN:X.N[i]?=some x)(hv:fY X.env.scope x)(hd:(x==("__debug__" : Str))=false:=by decide)(P6:(x==("__classdict__" : Str))=false:=by decide):PE X (.Name x pos) (tVar i):=by
 intro pins s O H Q I h;obtain ⟨v,e,h⟩:=h;obtain ⟨m,hn,hl⟩:=I.loc;obtain ⟨u,r,l⟩:=hl i x v hN e hv;have fin:EP X pins O Q u s:=⟨v,H,I,r,h⟩
 rcases l with ⟨hk,hm⟩ | ⟨hk,c,hc,L0⟩
 .exact wpAny_Name (wpAny_loadName_local I.ok.kind hk hn hm fin) hd
 .rcases hk with hk | hk
  .exact wpAny_Name (wpAny_loadName_cell I.ok.kind hk hc L0 fin) hd
  .exact wpAny_Name (wpAny_loadName_free I.ok.kind hk hc L0 fin P6) hd
theorem uW{i j pos} : PE X (.Constant (.int i) j pos) (tC (.int i)):=fun _ _ _ H _ I h=>wpAny_Constant_int ⟨.int i,H,I.tok _,⟨_,rfl⟩,h⟩
theorem pe_bl{b j pos} : PE X (.Constant (.bool b) j pos) (tC (.bl b)):=fun _ _ _ H _ I h=>Constant_bool ⟨.bl b,H,I,rfl,h⟩
theorem amZ{x j pos} : PE X (.Constant (.str x) j pos) (tC (.str x)):=fun _ _ _ H _ I h=>Calls.Constant_str ⟨.str x,H,I.tok _,⟨_,rfl⟩,h⟩
def Gl(X:Cx)(x:Str):Prop:=X.env.kindOf x=some .globalImplicit
theorem nG{E:Value->Shared->Prop}{pins:List (Addr×Obj)}{s:Shared}{O:St}{H:Hp}{x:Str}{u:Value}{pos:Pos}{Q:Value->Shared->Prop}(I:Inv X pins O H s)(hg:Gl X x)(hm:X.mg x=some u)(h:Q u s)(hd:(x==("__debug__" : Str))=false:=by decide):wpAny (model X.prog X.w) X.A (eval (.Name x pos) X.env) Q E s:=
 Calls.Name_function_global I.ok.kind hg (Calls.loadGlobal_global (by rw [I.ok.glob];exact I.mod.glob.keeps I.bk) hm h) hd
theorem x9{E:Value->Shared->Prop}{pins:List (Addr×Obj)}{s:Shared}{O:St}{H:Hp}{x:Str}{u:Value}{pos:Pos}{Q:Value->Shared->Prop}(I:Inv X pins O H s)(hg:Gl X x)(hm:X.mg x=none)(hv:bootBuiltins x=some u)(h:Q u s)(hn:x≠"__name__":=by decide)(hd:(x==("__debug__" : Str))=false:=by decide):wpAny (model X.prog X.w) X.A (eval (.Name x pos) X.env) Q E s:=by
 obtain ⟨mb,h1,h2⟩:=I.mod.blt;exact Calls.Name_function_global I.ok.kind hg (Calls.loadGlobal_builtin (by rw [I.ok.glob];exact I.mod.glob.keeps I.bk) hm (by rw [I.ok.blt];exact h1.keeps I.bk) ((h2 x hn).trans hv) h) hd
theorem uX{x:Str}{v:V}{u:Value}{pos:Pos}(hg:Gl X x)(hm:X.mg x=some u)(r:RelV v u)(hd:(x==("__debug__" : Str))=false:=by decide):PE X (.Name x pos) (tC v):=
 fun _ _ _ H _ I h=>nG I hg hm ⟨v,H,I,r,h⟩ hd
variable {a b:Expr} {ta tb:TE} {pos:Pos}
def tB(t:TE):TT:=fun O H Q=>t O H fun x H1=>∃ c,x=.bl c/\Q c H1
variable {tA tB':TT} {rest:List Expr}
def tAnd(t u:TT):TT:=fun O H Q=>t O H fun c H1=>if c=true then u O H1 Q else Q false H1
def nH(t u:TT):TT:=fun O H Q=>t O H fun c H1=>if c=true then Q true H1 else u O H1 Q
def tNot(t:TT):TT:=fun O H Q=>t O H fun c H1=>Q (!c) H1
theorem alq(ha:PT X a tA):PW X (.BoolOp .And [a] pos) tA:=by
 intro wh pins s O H Q I h;refine isTrue_and (C2 (ha pins s O H Q I h) fun c s1 e=>?_)
 cases c with
 | true=>exact isTrue_and_nil e
 | false=>exact e
theorem am0(ha:PT X a tA):PW X (.BoolOp .Or [a] pos) tA:=by
 intro wh pins s O H Q I h;refine isTrue_or (C2 (ha pins s O H Q I h) fun c s1 e=>?_)
 cases c with
 | false=>exact isTrue_or_nil e
 | true=>exact e
theorem am1(ha:PT X a tA)(hb:PW X (.BoolOp .And (b::rest) pos) tB'):PW X (.BoolOp .And (a::b::rest) pos) (tAnd tA tB'):=by
 intro wh pins s O H Q I h;refine isTrue_and (C2 (ha pins s O H _ I h) fun c s1 ⟨H1,I1,q1⟩=>?_)
 cases c with
 | true=>exact hb wh pins s1 O H1 Q I1 q1
 | false=>exact ⟨H1,I1,q1⟩
theorem pw_or(ha:PT X a tA)(hb:PW X (.BoolOp .Or (b::rest) pos) tB'):PW X (.BoolOp .Or (a::b::rest) pos) (nH tA tB'):=by
 intro wh pins s O H Q I h;refine isTrue_or (C2 (ha pins s O H _ I h) fun c s1 ⟨H1,I1,q1⟩=>?_)
 cases c with
 | true=>exact ⟨H1,I1,q1⟩
 | false=>exact hb wh pins s1 O H1 Q I1 q1
theorem am2(ha:PT X a tA):PT X (.UnaryOp .Not a pos) (tNot tA):=by
 intro pins s O H Q I h;exact isTrue_not (ha pins s O H (fun c H1=>Q (!c) H1) I h)
def tAndV(ta tb:TE):TE:=fun O H Q=>ta O H fun x H1=>∃ c,x=.bl c/\if c=true then tb O H1 Q else Q (.bl false) H1
def tOrV(ta tb:TE):TE:=fun O H Q=>ta O H fun x H1=>∃ c,x=.bl c/\if c=true then Q (.bl true) H1 else tb O H1 Q
def tNotV(ta:TE):TE:=fun O H Q=>ta O H fun x H1=>∃ c,x=.bl c/\Q (.bl (!c)) H1
theorem am3{op}{t:TE}(h:PE X a t):PE X (.BoolOp op [a] pos) t:=fun pins s O H Q I hw=>BoolOp_one (h pins s O H Q I hw)
theorem am4(ha:PE X a ta)(hb:PE X (.BoolOp .And (b::rest) pos) tb):PE X (.BoolOp .And (a::b::rest) pos) (tAndV ta tb):=by
 intro pins s O H Q I h;refine BoolOp_and (C2 (ha pins s O H _ I h) fun v s1 ⟨x,H1,I1,r1,q1⟩=>?_);obtain ⟨c,rfl,q1⟩:=q1
 cases r1
 refine wpAny_truthy_bool ?_
 cases c with
 | true=>exact hb pins s1 O H1 Q I1 q1
 | false=>exact ⟨.bl false,H1,I1,rfl,q1⟩
def nI(t:TT)(ta tb:TE):TE:=fun O H Q=>t O H fun c H1=>if c=true then ta O H1 Q else tb O H1 Q
theorem ajB{c:Expr}(hc:PT X c tA)(ha:PE X a ta)(hb:PE X b tb):PE X (.IfExp c a b pos) (nI tA ta tb):=by
 intro pins s O H Q I h;refine wpAny_IfExp (C2 (hc pins s O H _ I h) fun d s1 ⟨H1,I1,q1⟩=>?_)
 cases d with
 | true=>exact ha pins s1 O H1 Q I1 q1
 | false=>exact hb pins s1 O H1 Q I1 q1
end
end L2
namespace L2
open PySem PySem.Spec PyProof.Rows
def D4(K:PySem.W.Frag)(H:Hp)(a:Addr)(xs:List V):Prop:=
 Rd H a (.lst xs)\/
  ∃ (o:Obj) (its:Array Value) (n:Nat),K.lookup a=some o/\o.cls=.type "list"/\o.dict=none/\o.data=.seq its n/\its.size<=sizeLine/\Vals xs its.toList
def C9(K:PySem.W.Frag)(H:Hp)(a:Addr)(xs:List V):Prop:=
 Rd H a (.tup xs)\/
  ∃ (o:Obj) (its:Array Value) (n:Nat),K.lookup a=some o/\o.cls=.type "tuple"/\o.data=.seq its n/\its.size<=sizeLine/\Vals xs its.toList
def absV:Value->Option V
 | .none=>some .non
 | .bool b=>some (.bl b)
 | .int i _=>some (.int i)
 | .str x _=>some (.str x)
 | .bytes b _=>some (.byt b)
 | .float b _=>some (.flt b)
 | .ref a=>some (.ref a)
 | .type n=>some (.ty n)
 | _=>none
theorem RelV.abs{x:V}{u:Value}(r:RelV x u):absV u=some x:=by
 cases x with
 | non=>cases r;rfl
 | bl _=>cases r;rfl
 | int _=>obtain ⟨t,rfl⟩:=r;rfl
 | str _=>obtain ⟨t,rfl⟩:=r;rfl
 | byt _=>obtain ⟨t,rfl⟩:=r;rfl
 | flt _=>obtain ⟨t,rfl⟩:=r;rfl
 | ref _=>cases r;rfl
 | ty _=>cases r;rfl
theorem RelV.inj{x y:V}{u:Value}(r:RelV x u)(q:RelV y u):x=y:=Option.some.inj (r.abs.symm.trans q.abs)
theorem Vals.inj:∀ {xs ys:List V} {us:List Value},Vals xs us->Vals ys us->xs=ys
 | _,_,_,.nil,.nil=>rfl
 | _,_,_,.cons r t,.cons r' t'=>by rw [r.inj r',Vals.inj t t']
section
variable {X:Cx} {pins:List (Addr×Obj)} {O:St} {H:Hp} {s:Shared} {a:Addr} {xs ys:List V}
theorem D4.of{K:PySem.W.Frag}(h:H a=some (.lst xs)):D4 K H a xs:=.inl (.inl h)
theorem C9.of{K:PySem.W.Frag}(h:H a=some (.tup xs)):C9 K H a xs:=.inl (.inl h)
theorem Inv.list(I:Inv X pins O H s)(h:D4 X.K H a xs):∃ its:List Value,Vals xs its/\PlainL s.heap a its.toArray/\xs.length<=sizeLine:=by
 rcases h with h | ⟨o,its,n,hk,hc,hd,hs,hz,r⟩
 .obtain ⟨z,its,n,r,e⟩:=h.ok I.hok;exact ⟨its,r,⟨_,n,e,rfl,rfl,rfl⟩,z⟩
 .refine ⟨its.toList,r,⟨o,n,I.kIn a o hk,hc,hd,by simpa using hs⟩,?_⟩;have e:=r.length;simp only [x6] at e;lia
theorem Inv.tuple(I:Inv X pins O H s)(h:C9 X.K H a xs):∃ its:List Value,Vals xs its/\IsTup s.heap a its.toArray/\xs.length<=sizeLine:=by
 rcases h with h | ⟨o,its,n,hk,hc,hs,hz,r⟩
 .obtain ⟨z,its,r,p⟩:=h.ok I.hok;exact ⟨its,r,p,z⟩
 .refine ⟨its.toList,r,⟨o,I.kIn a o hk,hc,n,by simpa using hs⟩,?_⟩;have e:=r.length;simp only [x6] at e;lia
theorem Inv.list_inj(I:Inv X pins O H s)(h:D4 X.K H a xs)(h':D4 X.K H a ys):xs=ys:=by
 obtain ⟨its,r,⟨o,n,e,_,_,d⟩,_⟩:=I.list h;obtain ⟨its',r',⟨o',n',e',_,_,d'⟩,_⟩:=I.list h';rw [e] at e';cases e';rw [d] at d'
 injection d' with d1 _
 have:its=its':=by simpa using congrArg Array.toList d1
 subst this;exact r.inj r'
theorem Inv.tuple_inj(I:Inv X pins O H s)(h:C9 X.K H a xs)(h':C9 X.K H a ys):xs=ys:=by
 obtain ⟨its,r,⟨o,e,_,n,d⟩,_⟩:=I.tuple h;obtain ⟨its',r',⟨o',e',_,n',d'⟩,_⟩:=I.tuple h';rw [e] at e';cases e';rw [d] at d'
 injection d' with d1 _
 have:its=its':=by simpa using congrArg Array.toList d1
 subst this;exact r.inj r'
end
abbrev Cx.wish(X:Cx)(E:Value->Shared->Prop):Cx:={ X with xe:=E }
abbrev Cx.nox(X:Cx):Cx:=X.wish fun _ _=>False
theorem Cx.Ok.wish{X:Cx}(ok:X.Ok)(E:Value->Shared->Prop):(X.wish E).Ok:=
 ⟨ok.mod,ok.kind,ok.glob,ok.blt,ok.above,ok.inj,ok.has,ok.cab,ok.hd,ok.frames,ok.stk,ok.exf,ok.bs,ok.bsz,ok.noex,ok.exfs,ok.funs,ok.frf⟩
theorem Cx.Ok.unwish{X:Cx}{E:Value->Shared->Prop}(ok:(X.wish E).Ok):X.Ok:=
 ⟨ok.mod,ok.kind,ok.glob,ok.blt,ok.above,ok.inj,ok.has,ok.cab,ok.hd,ok.frames,ok.stk,ok.exf,ok.bs,ok.bsz,ok.noex,ok.exfs,ok.funs,ok.frf⟩
section
variable {X:Cx} {pins:List (Addr×Obj)} {O:St} {H:Hp} {s:Shared} {E:Value->Shared->Prop}
theorem Inv.wish(I:Inv X pins O H s)(E:Value->Shared->Prop):Inv (X.wish E) pins O H s:=⟨I.ok.wish E,I.os,I.bare,I.base,I.loc,I.cell,I.free,I.freeC,I.pin,I.hok,I.len⟩
theorem Inv.unwish(I:Inv (X.wish E) pins O H s):Inv X pins O H s:=⟨I.ok.unwish,I.os,I.bare,I.base,I.loc,I.cell,I.free,I.freeC,I.pin,I.hok,I.len⟩
theorem SP.unwish{D:Ends}{f:Flow}{s':Shared}(h:SP (X.wish E) pins D f s'):SP X pins D f s':=by
 cases f with
 | next=>obtain ⟨σ',H',I,q⟩:=h;exact ⟨σ',H',I.unwish,q⟩
 | brk=>obtain ⟨σ',H',I,q⟩:=h;exact ⟨σ',H',I.unwish,q⟩
 | cont=>obtain ⟨σ',H',I,q⟩:=h;exact ⟨σ',H',I.unwish,q⟩
 | ret u=>obtain ⟨v,σ',H',I,r,q⟩:=h;exact ⟨v,σ',H',I.unwish,r,q⟩
theorem V2.nox{st:List Stmt}{t:TS}(h:V2 X.nox st t):V2 X st t:=fun pins s O H D I hw=>
 wpAny_mono (h pins s O H D (I.wish _) hw) (fun _ _ q=>q.unwish) fun _ _ z=>False.elim z
end
section
variable {X:Cx} {st:Stmt} {rest:List Stmt} {t u:TS} {e:Expr} {te:TE} {pos:Pos}
def tNext:TS:=fun D O H=>D.nx O H
def tSeq(t u:TS):TS:=fun D O H=>t { D with nx:=u D } O H
theorem alr:V2 X [] tNext:=fun _ _ O H _ I h=>wpAny_execs_nil ⟨O,H,I,h⟩
theorem ajC(h1:PS X st t)(h2:V2 X rest u):V2 X (st::rest) (tSeq t u):=by
 intro pins s O H D I h;refine wpAny_execs_cons (C2 (h1 pins s O H { D with nx:=u D } I h) fun f s1 q=>?_)
 cases f with
 | next=>
  obtain ⟨σ',H',I',q⟩:=q;exact h2 pins s1 σ' H' D I' q
 | ret v=>exact q
 | brk=>exact q
 | cont=>exact q
theorem als(h1:PS X st t):V2 X [st] t:=by
 intro pins s O H D I h;refine wpAny_execs_cons (C2 (h1 pins s O H D I h) fun f s1 q=>?_)
 cases f with
 | next=>exact wpAny_execs_nil q
 | ret v=>exact q
 | brk=>exact q
 | cont=>exact q
def am5:TS:=fun D O H=>D.bk O H
def tCont:TS:=fun D O H=>D.ct O H
theorem Inv.quiet{pins:List (Addr×Obj)}{O:St}{H:Hp}{s:Shared}(I:Inv X pins O H s):interactive X.env=false:=by simp [interactive,I.ok.kind]
def tDrop(te:TE):TS:=fun D O H=>te O H fun _ H1=>D.nx O H1
theorem alt(he:PE X e te)(hs:swapsWith e none pos.line X.env=pure false:=by rfl):PS X (.Expr e pos) (tDrop te):=by
 intro pins s O H D I h;exact wpAny_Expr_any (C2 (he pins s O H _ I h) fun v s1 ⟨x,H1,I1,r1,q1⟩=>⟨O,H1,I1,q1⟩) I.quiet hs
def tRet(te:TE):TS:=fun D O H=>te O H D.rt
theorem am6(he:PE X e te):PS X (.Return (some e) pos) (tRet te):=by
 intro pins s O H D I h;exact wpAny_Return_some (C2 (he pins s O H _ I h) fun v s1 ⟨x,H1,I1,r1,q1⟩=>⟨x,O,H1,I1,r1,q1⟩)
def tRetN:TS:=fun D _ H=>D.rt .non H
def tIfS(c:TT)(t u:TS):TS:=fun D O H=>c O H fun b H1=>if b=true then t D O H1 else u D O H1
theorem ps_if{c:Expr}{a b:List Stmt}{tc:TT}(hc:PT X c tc)(ha:V2 X a t)(hb:V2 X b u):PS X (.If c a b pos) (tIfS tc t u):=by
 intro pins s O H D I h;refine wpAny_If (C2 (hc pins s O H _ I h) fun d s1 ⟨H1,I1,q1⟩=>?_)
 cases d with
 | true=>exact ha pins s1 O H1 D I1 q1
 | false=>exact hb pins s1 O H1 D I1 q1
def nJ:TS:=fun _ _ _=>False
theorem ajD:PS X st nJ:=fun _ _ _ _ _ _ h=>h.elim
end
abbrev TG:=V->St->Hp->(St->Hp->Prop)->Prop
abbrev Z1:=List V->St->Hp->(St->Hp->Prop)->Prop
def PG(X:Cx)(target:Expr)(t:TG):Prop:=
 ∀ (pins:List (Addr×Obj)) (s:Shared) (O:St) (H:Hp) (v:V) (u:Value) (Q:St->Hp->Prop),Inv X pins O H s->RelV v u->t v O H Q->
  wpAny (model X.prog X.w) X.A (assign target X.env u) (fun _ s'=>∃ σ' H',Inv X pins σ' H' s'/\Q σ' H') X.xe s
def fZ(X:Cx)(ts:List Expr)(t:Z1):Prop:=
 ∀ (pins:List (Addr×Obj)) (s:Shared) (O:St) (H:Hp) (vs:List V) (us:List Value) (Q:St->Hp->Prop),Inv X pins O H s->Vals vs us->t vs O H Q->
  wpAny (model X.prog X.w) X.A (assignInOrder ((assignEach ts X.env).map (·.2)) us) (fun _ s'=>∃ σ' H',Inv X pins σ' H' s'/\Q σ' H') X.xe s
abbrev TSet:=V->V->V->Hp->(Hp->Prop)->Prop
abbrev bJ:=V->V->Hp->VK->Prop
def nK(X:Cx)(op:Operator)(t:bJ):Prop:=
 ∀ (pins:List (Addr×Obj)) (s:Shared) (O:St) (H:Hp) (x y:V) (v u:Value) (Q:VK),Inv X pins O H s->RelV x v->RelV y u->t x y H Q->
  wpAny (model X.prog X.w) X.A (inplaceOp op v u) (EP X pins O Q) X.xe s
section
variable {X:Cx} {pos:Pos}
def gName(i:Nat):TG:=fun v O H Q=>Q (O.set i (some v)) H
theorem alu{i:Nat}{x:Str}(hN:X.N.Nodup)(hi:X.N[i]?=some x)(hx:f7 X.env.scope x)(hf:X.fn x=true\/X.env.scope.names.lookup x=some .local:=by first | exact .inl rfl | exact .inr rfl | assumption):PG X (.Name x pos) (gName i):=by
 intro pins s O H v u Q I r h;exact wpAny_assign_Name (jY I hN hi hx r (fun s' I'=>⟨_,H,I',h⟩) hf)
def gNil:Z1:=fun vs O H Q=>vs=[]/\Q O H
def gCons(t:TG)(u:Z1):Z1:=fun vs O H Q=>∃ v r,vs=v::r/\t v O H fun σ' H'=>u r σ' H' Q
theorem alv:fZ X [] gNil:=by
 intro pins s O H vs us Q I r h;obtain ⟨e,h⟩:=h;subst e
 cases r
 exact assignInOrder_nil ⟨O,H,I,h⟩
theorem ajE{e:Expr}{es:List Expr}{t:TG}{u:Z1}(h1:PG X e t)(h2:fZ X es u)(hs:(assignEach (e::es) X.env).map (·.2)=assign e X.env::(assignEach es X.env).map (·.2):=by rfl):fZ X (e::es) (gCons t u):=by
 intro pins s O H vs us Q I r h;obtain ⟨v,vr,e1,h⟩:=h;subst e1
 cases r with
 | cons r rr=>
  rw [hs];refine assignInOrder_cons (C2 (h1 pins s O H _ _ _ I r h) fun _ s1 ⟨σ1,H1,I1,q1⟩=>?_);exact h2 pins s1 σ1 H1 _ _ Q I1 rr q1
def gTup(K:PySem.W.Frag)(n:Nat)(t:Z1):TG:=fun v O H Q=>∃ a xs,v=.ref a/\C9 K H a xs/\xs.length=n/\t xs O H Q
theorem am7{es:List Expr}{k:Nat}{t:Z1}{n:Nat}(hc:X.calm=true)(h:fZ X es t)(hn:(assignEach es X.env).length=n:=by rfl)(W4:(assignEach es X.env).findIdx? (·.1)=none:=by rfl):PG X (.Tuple es k pos) (gTup X.K n t):=by
 intro pins s O H v u Q I r hw;obtain ⟨a,xs,e1,hq,hl,hw⟩:=hw;subst e1
 cases r
 obtain ⟨its,rv,ht,hz⟩:=I.tuple hq;refine assign_Tuple_tuple (I.ok.hd hc) ht (by simp [hn,<- hl,rv.length]) W4 fun h' hx=>?_
 have I1:Inv X pins O H { s with heap:=h' }:=I.kept (t':=s.toks) fun b o e=>hx b o (K8 (Heap.lt_size e)) e
 exact h pins _ O H xs _ Q I1 (by simpa using rv) hw
def gSub(to ti:TE)(t:TSet):TG:=fun v O H Q=>to O H fun o H1=>ti O H1 fun i H2=>t o i v H2 fun H3=>Q O H3
def tAsg(te:TE)(g:TG):TS:=fun D O H=>te O H fun x H1=>g x O H1 D.nx
theorem am8{i:Nat}{x:Str}{e:Expr}{te:TE}{pos':Pos}(hN:X.N.Nodup)(hi:X.N[i]?=some x)(hx:f7 X.env.scope x)(he:PE X e te)(hs:swapsWith e (some (.Name x pos')) pos.line X.env=pure false:=by rfl)(hf:X.fn x=true\/X.env.scope.names.lookup x=some .local:=by first | exact .inl rfl | exact .inr rfl | assumption) :
  PS X (.Assign [.Name x pos'] e pos) (tAsg te (gName i)):=by
 intro pins s O H D I h;refine wpAny_Assign_Name (C2 (he pins s O H _ I h) fun v s1 ⟨y,H1,I1,r1,q1⟩=>?_) hs;exact jY I1 hN hi hx r1 (fun s2 I2=>⟨_,H1,I2,q1⟩) hf
def tAug(i:Nat)(te:TE)(ti:bJ):TS:=fun D O H=>∃ x,O[i]?=some (some x)/\te O H fun y H1=>ti x y H1 fun z H2=>D.nx (O.set i (some z)) H2
theorem am9{i:Nat}{x:Str}{e:Expr}{te:TE}{op:Operator}{ti:bJ}{pos':Pos}(hN:X.N.Nodup)(hi:X.N[i]?=some x)(hx:f7 X.env.scope x)(he:PE X e te)(ho:nK X op ti)(hf:X.fn x=true\/X.env.scope.names.lookup x=some .local:=by first | exact .inl rfl | exact .inr rfl | assumption) :
  PS X (.AugAssign (.Name x pos') op e pos) (tAug i te ti):=by
 intro pins s O H D I h;obtain ⟨v,e1,h⟩:=h;obtain ⟨m,hn,hl⟩:=I.loc;have vis:fY X.env.scope x:=by rcases hx with k | k;exact .inl k;exact .inr (.inl k)
 obtain ⟨u,r,l⟩:=hl i x v hi e1 vis;refine wpAny_AugAssign_Name ?_;have go:wpAny (model X.prog X.w) X.A (eval e X.env) (fun w zx=>wpAny (model X.prog X.w) X.A (inplaceOp op u w) (fun r zw=>wpAny (model X.prog X.w) X.A (storeName X.env x r) (fun _=>SP X pins D .next) X.xe zw) X.xe zx) X.xe s:=by
  refine C2 (he pins s O H _ I h) fun w s1 ⟨y,H1,I1,r1,q1⟩=>?_
  refine C2 (ho pins s1 O H1 v y u w _ I1 r r1 q1) fun z s2 ⟨zv,H2,I2,r2,q2⟩=>?_
  exact jY I2 hN hi hx r2 (fun s3 I3=>⟨_,H2,I3,q2⟩) hf
 rcases l with ⟨hk,hm⟩ | ⟨hk,c,hc,L0⟩
 .exact wpAny_loadName_local I.ok.kind hk hn hm go
 .rcases hk with hk | hk
  .exact wpAny_loadName_cell I.ok.kind hk hc L0 go
  .rcases hx with k | k
   .have:X.env.scope.names.lookup x=some .free:=hk
    rw [k] at this;cases this
   .have:X.env.scope.names.lookup x=some .free:=hk
    rw [k] at this;cases this
def nM(f:Int->Int->Int):bJ:=fun x y H Q=>∃ i j,x=.int i/\y=.int j/\Q (.int (f i j)) H
theorem ana:nK X .Add (nM fun i j=>i+j):=by
 intro pins s O H x y v u Q I r1 r2 h;obtain ⟨i,j,e1,e2,q⟩:=h;subst e1;subst e2;obtain ⟨t,rfl⟩:=r1;obtain ⟨t',rfl⟩:=r2;exact iadd_int ⟨.int _,H,I.tok _,⟨_,rfl⟩,q⟩
end
section
variable {X:Cx} {pos:Pos}
def jZ(c:TT)(tb:TS):TS:=fun D O H=>∃ W:Nat->St->Hp->Prop,(∃ m,W m O H)/\∀ m O H,W m O H->
 c O H fun b H1=>if b=true then ∃ N:St->Hp->Prop,(∀ σ' H',N σ' H'->∃ m',m'<m/\W m' σ' H')/\tb { D with nx:=N,ct:=N,bk:=D.nx } O H1 else D.nx O H1
theorem ajF{c:Expr}{body:List Stmt}{tc:TT}{tb:TS}(hp:PassesOwn (model X.prog X.w) X.A X.env X.xe)(hc:PT X c tc)(hb:V2 X body tb):PS X (.While c body [] pos) (jZ tc tb):=by
 intro pins s O H D I h;obtain ⟨W,⟨m0,w0⟩,turn⟩:=h;refine wpAny_While (codeAny_whileLoop (fun n s'=>∃ σ' H',Inv X pins σ' H' s'/\W n σ' H') ?_ m0 ⟨O,H,I,w0⟩);rintro n s1 ⟨σ1,H1,I1,w1⟩;refine wpAny_passesOwn hp (C2 (hc pins s1 σ1 H1 _ I1 (turn n σ1 H1 w1)) fun b s2 ⟨H2,I2,q2⟩=>?_)
 cases b with
 | true=>
  obtain ⟨N,hN,q2⟩:=q2;rw [if_pos rfl];refine wpAny_passesOwn hp (C2 (hb pins s2 σ1 H2 _ I2 q2) fun f s3 q3=>?_)
  cases f with
  | next=>
   obtain ⟨σ3,H3,I3,n3⟩:=q3;obtain ⟨m',hm,w3⟩:=hN σ3 H3 n3;exact ⟨m',hm,σ3,H3,I3,w3⟩
  | cont=>
   obtain ⟨σ3,H3,I3,n3⟩:=q3;obtain ⟨m',hm,w3⟩:=hN σ3 H3 n3;exact ⟨m',hm,σ3,H3,I3,w3⟩
  | brk=>exact q3
  | ret v=>exact q3
 | false=>
  rw [if_neg K6];exact wpAny_execs_nil ⟨σ1,H2,I2,q2⟩
end
structure It where
 go:Nat->Hp->Prop
 yld:Nat->Hp->V->Hp->Prop
 stop:Nat->Hp->Prop
def FpOk(X:Cx)(pins:List (Addr×Obj))(H:Hp)(b:Addr):Prop:=
 H b=none/\b≠X.env.locals/\b∉X.fs/\(b∈X.ex\/X.s₀.heap.objs.size<=b)/\(∀ x c,X.env.cells.lookup x=some c->c≠b)/\∀ p∈X.pn++pins,p.1≠b
theorem Inv.fpOk{X:Cx}{pins:List (Addr×Obj)}{O:St}{H H':Hp}{s:Shared}{b:Addr}(I:Inv X pins O H s)(hb:s.heap.objs.size<=b)(hn:H' b=none):FpOk X pins H' b:=by
 refine ⟨hn,Nat.ne_of_gt (U4 I.lt hb),I.nofs hb,.inr (M8 I.sz hb),fun x c e z=>?_,fun p hp z=>?_⟩
 .obtain ⟨v,q⟩:=I.cell x c e;exact absurd (U4 q.lt (by rw [z];exact hb)) (Y7 _)
 .exact absurd (U4 (Heap.lt_size (I.pin p hp).1) (by rw [z];exact hb)) (Y7 _)
structure Turn(P:Program)(w:World)(K:PySem.W.Frag)(tg:Expr)(J:It)(fp:List Addr)(it:Addr)(tn:Nat->Heap->Prop):Prop where
 mem:it∈fp
 obj:∀ i h,tn i h->∀ b∈fp,∃ o,h.get? b=some o/\∀ v,o.data≠.cell v
 keep:∀ i h h',tn i h->(∀ b∈fp,∀ o,h.get? b=some o->h'.get? b=some o)->tn i h'
 item:∀ (X:Cx),X.prog=P->X.w=w->X.K=K->X.calm=true->∀ (i:Nat) (pins:List (Addr×Obj)) (s:Shared) (O:St) (H:Hp) (E:Value->Shared->Prop),Inv X pins O H s->(∀ b∈fp,FpOk X pins H b)->tn i s.heap->J.go i H->
  wpAny (model P w) X.A (pyNext (.ref it)) (fun r s1=>∃ u,r=some u/\
   wpAny (model P w) X.A (letOwnedTupleGo tg (.ref it) u) (fun _ s2=>∃ x H',Inv X pins O H' s2/\RelV x u/\J.yld i H x H'/\tn (i+1) s2.heap/\∀ b∈fp,H' b=none) E s1) E s
 done:∀ (X:Cx),X.prog=P->X.w=w->X.K=K->X.calm=true->∀ (i:Nat) (pins:List (Addr×Obj)) (s:Shared) (O:St) (H:Hp) (E:Value->Shared->Prop),Inv X pins O H s->(∀ b∈fp,FpOk X pins H b)->tn i s.heap->J.stop i H->
  wpAny (model P w) X.A (pyNext (.ref it)) (fun r s1=>r=none/\Inv X pins O H s1) E s
 self:∀ (A:Around) (i:Nat) (s:Shared) (Q:Value->Shared->Prop) (E:Value->Shared->Prop),tn i s.heap->Q (.ref it) s->wpAny (model P w) A (pyIter (.ref it)) Q E s
abbrev TI:=St->Hp->(It->Hp->Prop)->Prop
def nN(X:Cx)(pins:List (Addr×Obj))(O:St)(tg:Expr)(R:It->Hp->Prop)(itv:Value)(s2:Shared):Prop:=
 ∃ (it:Addr) (fp:List Addr) (tn:Nat->Heap->Prop) (J:It) (H':Hp),itv=.ref it/\Inv X pins O H' s2/\Turn X.prog X.w X.K tg J fp it tn/\tn 0 s2.heap/\(∀ b∈fp,FpOk X pins H' b)/\R J H'
def PI(X:Cx)(tg iter:Expr)(wi:TI):Prop:=
 ∀ (pins:List (Addr×Obj)) (s:Shared) (O:St) (H:Hp) (R:It->Hp->Prop),Inv X pins O H s->wi O H R->
  wpAny (model X.prog X.w) X.A (eval iter X.env) (fun v s1=>wpAny (model X.prog X.w) X.A (pyIter v) (nN X pins O tg R) X.xe s1) X.xe s
theorem go_of{M : Model}{A : Around}{E : Value -> Shared -> Prop}{s : Shared}{tg : Expr}{it : Addr}{u : Value}{o : Obj}{n : String}{vs : Array Value}{Q : Unit -> Shared -> Prop}(ho : s.heap.get? it = some o)(hc : o.cls = .type n)(hd : o.data = .fields vs)(hn : ["enumerate", "zip", "dict_itemiterator", "dict_reverseitemiterator", "odict_iterator", "itertools.zip_longest", "itertools.pairwise"].contains n = false)(hQ : Q () s) : wpAny M A (letOwnedTupleGo tg (.ref it) u) Q E s := by
  unfold letOwnedTupleGo
  cases tg <;> first
    | exact wpAny_pure hQ
    | (cases u <;> first
        | exact wpAny_pure hQ
        | (refine wpAny_bind (wpAny_load ho ?_)
           rw [hc, hd];show wpAny M A (if (["enumerate", "zip", "dict_itemiterator", "dict_reverseitemiterator", "odict_iterator", "itertools.zip_longest", "itertools.pairwise"].contains n&&vs[0]? == some (rawInt _)) = true then _ else _) Q E s;rw [if_neg (by intro h; rw [hn, Bool.false_and] at h; cases h)];exact wpAny_pure hQ))
def k8(K:PySem.W.Frag)(a:Addr):It:=
 ⟨fun i H=>∃ xs x,D4 K H a xs/\xs[i]?=some x,fun i H x H'=>H'=H/\∀ xs,D4 K H a xs->xs[i]?=some x,fun i H=>∃ xs,D4 K H a xs/\xs.length<=i⟩
def y0(K:PySem.W.Frag)(a:Addr):It:=
 ⟨fun i H=>∃ xs x,C9 K H a xs/\xs[i]?=some x,fun i H x H'=>H'=H/\∀ xs,C9 K H a xs->xs[i]?=some x,fun i H=>∃ xs,C9 K H a xs/\xs.length<=i⟩
def bK(lo:Int)(n:Nat):It:=⟨fun i _=>i<n,fun i H x H'=>H'=H/\x=.int (lo+i),fun i _=>n<=i⟩
theorem aie{P:Program}{w:World}{K:PySem.W.Frag}{tg:Expr}(a it:Addr):Turn P w K tg (k8 K a) [it] it (fun i h=>h.IsListIter it a i) where
 mem:=by simp
 obj:=fun i h st b hb=>by
  have e:b=it:=by simpa using hb
  subst e;obtain ⟨o,e,c,d⟩:=st;exact ⟨o,e,fun v z=>by rw [d] at z;cases z⟩
 keep:=fun i h h' st k=>st.at fun o e=>k it (by simp) o e
 item:=by
  intro X hP hw hK hc i pins s O H E I hf st hg;subst hP hw hK;obtain ⟨xs,x,hq,hx⟩:=hg;obtain ⟨its,rv,p,hz⟩:=I.list hq;obtain ⟨u,hu,ru⟩:=rv.get hx;obtain ⟨f0,f1,f2,f3,f4,f5⟩:=hf it (by simp);refine wpAny_pyNext_list_item st p.isList (x:=u) (by simpa using hu) fun h' st' sb=>?_
  have I1:Inv X pins O H { s with heap:=h' }:=I.turned (t':=s.toks) (fun b o hb e=>(sb.2 b hb).trans e) f0 f1 f3 f4 f5;obtain ⟨o,e,c,d⟩:=id st';exact ⟨u,rfl,go_of (s:={ s with heap:=h' }) e c d (by decide) ⟨x,H,I1,ru,⟨rfl,fun ys hy=>by rw [I.list_inj hy hq];exact hx⟩,st',fun b hb=>(hf b hb).1⟩⟩
 done:=by
  intro X hP hw hK hc i pins s O H E I hf st hg;subst hP hw hK;obtain ⟨xs,hq,hx⟩:=hg;obtain ⟨its,rv,p,hz⟩:=I.list hq;obtain ⟨f0,f1,f2,f3,f4,f5⟩:=hf it (by simp);have hl:=rv.length;exact wpAny_pyNext_list_end (I.ok.hd hc) st p.isList (by simp;lia) fun h' eb=>⟨rfl,I.turned (t':=s.toks) (fun b o hb e=>eb b o hb e) f0 f1 f3 f4 f5⟩
 self:=fun _ _ _ _ _ st h=>wpAny_pyIter_listiter st h
theorem ahu{P:Program}{w:World}{K:PySem.W.Frag}{tg:Expr}(a it:Addr):Turn P w K tg (y0 K a) [it] it (fun i h=>h.IsTupleIter it a i) where
 mem:=by simp
 obj:=fun i h st b hb=>by
  have e:b=it:=by simpa using hb
  subst e;obtain ⟨o,e,c,d⟩:=st;exact ⟨o,e,fun v z=>by rw [d] at z;cases z⟩
 keep:=fun i h h' st k=>st.at fun o e=>k it (by simp) o e
 item:=by
  intro X hP hw hK hc i pins s O H E I hf st hg;subst hP hw hK;obtain ⟨xs,x,hq,hx⟩:=hg;obtain ⟨its,rv,p,hz⟩:=I.tuple hq;obtain ⟨u,hu,ru⟩:=rv.get hx;obtain ⟨f0,f1,f2,f3,f4,f5⟩:=hf it (by simp);refine wpAny_pyNext_tuple_item st (show s.heap.IsTuple a its.toArray from p) (x:=u) (by simpa using hu) fun h' st' sb=>?_
  have I1:Inv X pins O H { s with heap:=h' }:=I.turned (t':=s.toks) (fun b o hb e=>(sb.2 b hb).trans e) f0 f1 f3 f4 f5;obtain ⟨o,e,c,d⟩:=id st';exact ⟨u,rfl,go_of (s:={ s with heap:=h' }) e c d (by decide) ⟨x,H,I1,ru,⟨rfl,fun ys hy=>by rw [I.tuple_inj hy hq];exact hx⟩,st',fun b hb=>(hf b hb).1⟩⟩
 done:=by
  intro X hP hw hK hc i pins s O H E I hf st hg;subst hP hw hK;obtain ⟨xs,hq,hx⟩:=hg;obtain ⟨its,rv,p,hz⟩:=I.tuple hq;obtain ⟨f0,f1,f2,f3,f4,f5⟩:=hf it (by simp);have hl:=rv.length;exact wpAny_pyNext_tuple_end (I.ok.hd hc) st (show s.heap.IsTuple a its.toArray from p) (by simp;lia) fun h' eb=>⟨rfl,I.turned (t':=s.toks) (fun b o hb e=>eb b o hb e) f0 f1 f3 f4 f5⟩
 self:=fun _ _ _ _ _ st h=>wpAny_pyIter_tupleiter st h
theorem ahv{P:Program}{w:World}{K:PySem.W.Frag}{tg:Expr}(it:Addr)(lo:Int)(n:Nat):Turn P w K tg (bK lo n) [it] it (fun i h=>IsRangeIter h it (lo+(i:Nat)*1) ((n:Int)-(i:Nat)) 1) where
 mem:=by simp
 obj:=fun i h st b hb=>by
  have e:b=it:=by simpa using hb
  subst e;exact ⟨_,st,fun v z=>by
   have z':Data.fields _=Data.cell v:=z
   cases z'⟩
 keep:=fun i h h' st k=>k it (by simp) _ st
 item:=by
  intro X hP hw hK hc i pins s O H E I hf st hg;subst hP hw hK;obtain ⟨f0,f1,f2,f3,f4,f5⟩:=hf it (by simp);have W:=Walks.range (prog:=X.prog) (w:=X.w) (I.ok.hd hc) it lo 1 n;refine W.item i s _ _ hg st fun v h' tk hv st' kk=>?_
  obtain ⟨t,rfl⟩:=hv;have I1:Inv X pins O H { s with heap:=h',toks:=tk }:=I.turned (fun b o hb e=>kk b o (by simpa using hb) e) f0 f1 f3 f4 f5;refine ⟨_,rfl,go_of (s:={ s with heap:=h',toks:=tk }) (n:="range_iterator") st' rfl rfl (by decide) ⟨.int (lo+i),H,I1,⟨t,?_⟩,⟨rfl,rfl⟩,st',fun b hb=>(hf b hb).1⟩⟩;rw [Int.mul_one]
 done:=by
  intro X hP hw hK hc i pins s O H E I hf st hg;subst hP hw hK;obtain ⟨f0,f1,f2,f3,f4,f5⟩:=hf it (by simp);exact wpAny_pyNext_range_end (I.ok.hd hc) st (by have:n<=i:=hg;lia) fun h' eb=>⟨rfl,I.turned (t':=s.toks) (fun b o hb e=>eb b o hb e) f0 f1 f3 f4 f5⟩
 self:=fun _ _ _ _ _ st h=>wpAny_pyIter_rangeiter st h
end L2
namespace L2
open PySem PySem.Spec PyProof.Rows
section
variable {X:Cx} {tg:Expr}
def iList(K:PySem.W.Frag)(tl:TE):TI:=fun O H R=>tl O H fun x H1=>∃ a,x=.ref a/\(∃ xs,D4 K H1 a xs)/\R (k8 K a) H1
def iTup(K:PySem.W.Frag)(tl:TE):TI:=fun O H R=>tl O H fun x H1=>∃ a,x=.ref a/\(∃ xs,C9 K H1 a xs)/\R (y0 K a) H1
theorem alw{l:Expr}{tl:TE}(hl:PE X l tl):PI X tg l (iList X.K tl):=by
 intro pins s O H R I h;refine C2 (hl pins s O H _ I h) fun v s1 ⟨x,H1,I1,r1,q1⟩=>?_
 obtain ⟨a,e,⟨xs,hq⟩,q⟩:=q1;subst e
 cases r1
 obtain ⟨its,rv,p,hz⟩:=I1.list hq;refine wpAny_pyIter_list p.isList ?_;refine ⟨s1.heap.objs.size,[s1.heap.objs.size],_,_,H1,rfl,I1.kept (t':=s1.toks) fun b o e=>Heap.get?_push_of_some _ e,aie a _,⟨_,Heap.get?_push_size _ rfl,rfl,rfl⟩,fun b hb=>?_,q⟩;have e:b=s1.heap.objs.size:=by simpa using hb
 subst e;exact I1.fpOk (C3 _) (I1.hok.fresh (C3 _))
theorem anb{l:Expr}{tl:TE}(hl:PE X l tl):PI X tg l (iTup X.K tl):=by
 intro pins s O H R I h;refine C2 (hl pins s O H _ I h) fun v s1 ⟨x,H1,I1,r1,q1⟩=>?_
 obtain ⟨a,e,⟨xs,hq⟩,q⟩:=q1;subst e
 cases r1
 obtain ⟨its,rv,p,hz⟩:=I1.tuple hq;refine wpAny_pyIter_tuple (show s1.heap.IsTuple a its.toArray from p) ?_;refine ⟨s1.heap.objs.size,[s1.heap.objs.size],_,_,H1,rfl,I1.kept (t':=s1.toks) fun b o e=>Heap.get?_push_of_some _ e,ahu a _,⟨_,Heap.get?_push_size _ rfl,rfl,rfl⟩,fun b hb=>?_,q⟩;have e:b=s1.heap.objs.size:=by simpa using hb
 subst e;exact I1.fpOk (C3 _) (I1.hok.fresh (C3 _))
theorem ajG{pins:List (Addr×Obj)}{O:St}{H:Hp}{s:Shared}{R:It->Hp->Prop}{E:Value->Shared->Prop}{lo hi:Int}{t u v:Tok}{tk:Nat}(I:Inv X pins O H s)(h1:-(2 ^ 62)<=lo)(h2:lo<2 ^ 62)(h3:-(2 ^ 62)<=hi)(h4:hi<2 ^ 62)(q:R (bK lo (hi-lo).toNat) H):wpAny (model X.prog X.w) X.A (pyIter (.ref s.heap.objs.size)) (nN X pins O tg R) E { s with heap:=s.heap.push { cls:=.type "range",data:=.fields #[.int lo t,.int hi u,.int 1 v] },toks:=tk }:=by
 refine wpAny_pyIter_range (IsRange.new ..) (small_one h1 h2 h3 h4) ?_;have I1:Inv X pins O H { s with heap:=s.heap.push { cls:=.type "range",data:=.fields #[.int lo t,.int hi u,.int 1 v] },toks:=tk }:=I.kept fun b o e=>Heap.get?_push_of_some _ e
 refine ⟨(s.heap.push { cls:=.type "range",data:=.fields #[.int lo t,.int hi u,.int 1 v] }).objs.size,[(s.heap.push { cls:=.type "range",data:=.fields #[.int lo t,.int hi u,.int 1 v] }).objs.size],_,_,H,rfl,
  I1.kept (t':=tk) fun b o e=>Heap.get?_push_of_some _ e,ahv _ lo (hi-lo).toNat,?_,fun b hb=>?_,q⟩
 .have e1:lo+((0:Nat):Int)*1=lo:=by simp
  have e2:(((hi-lo).toNat:Nat):Int)-((0:Nat):Int)=Builtin.Range.rangeSize lo hi 1:=by rw [rangeSize_one];split <;> lia
  show IsRangeIter _ _ (lo+((0:Nat):Int)*1) ((((hi-lo).toNat:Nat):Int)-((0:Nat):Int)) 1;rw [e1,e2];exact Heap.get?_push_size _ rfl
 .have e:b=(s.heap.push { cls:=.type "range",data:=.fields #[.int lo t,.int hi u,.int 1 v] }).objs.size:=by simpa using hb
  subst e;exact I1.fpOk (C3 _) (I1.hok.fresh (C3 _))
def iRng1(ta:TA):TI:=fun O H R=>ta O H fun vs H1=>∃ j:Int,vs=[.int j]/\-(2 ^ 62)<=j/\j<2 ^ 62/\R (bK 0 j.toNat) H1
def iRng2(ta:TA):TI:=fun O H R=>ta O H fun vs H1=>∃ i j:Int,vs=[.int i,.int j]/\(-(2 ^ 62)<=i/\i<2 ^ 62/\-(2 ^ 62)<=j/\j<2 ^ 62)/\R (bK i (j-i).toNat) H1
theorem aif{a:Expr}{ta:TA}{p pos:Pos}(hg:Gl X "range")(hm:X.mg "range"=none)(ha:PA X [a] ta)(hs:starEach [a] X.env=[(false,eval a X.env)]:=by rfl):PI X tg (.Call (.Name "range" p) [a] [] pos) (iRng1 ta):=by
 intro pins s O H R I h;refine Call_ (x9 I hg hm boot_range (PyProof.Rows.callWith_type1 (C2 (ha pos pins s O H _ I h) fun us s1 ⟨vs,H1,I1,r1,q1⟩=>?_) hs rfl));obtain ⟨j,e,q1,q2,q⟩:=q1;subst e
 cases r1 with
 | cons r rr=>
  cases rr
  obtain ⟨t,rfl⟩:=r;exact call_range_1 (ajG I1 (by lia) (by lia) q1 q2 (by simpa using q))
def tFor(wi:TI)(g:TG)(tb:TS):TS:=fun D O H=>wi O H fun J H1=>∃ W:Nat->Nat->St->Hp->Prop,(∃ m,W 0 m O H1)/\∀ i m O H,W i m O H->
 (J.stop i H/\D.nx O H)\/(J.go i H/\∃ N:St->Hp->Prop,(∀ σ' H',N σ' H'->∃ m',m'<m/\W (i+1) m' σ' H')/\∀ x H',J.yld i H x H'->g x O H' fun σ2 H2=>tb { D with nx:=N,ct:=N,bk:=D.nx } σ2 H2)
def dN(fp:List Addr)(h:Heap):List (Addr×Obj):=fp.filterMap fun b=>(h.get? b).map fun o=>(b,o)
theorem dO{fp:List Addr}{h:Heap}{b:Addr}{o:Obj}(hb:b∈fp)(e:h.get? b=some o):(b,o)∈dN fp h:=dC.mpr ⟨b,hb,by rw [e];rfl⟩
theorem aig{fp:List Addr}{h:Heap}{p:Addr×Obj}(hp:p∈dN fp h):p.1∈fp/\h.get? p.1=some p.2:=by
 obtain ⟨b,hb,e⟩:=dC.mp hp
 cases q:h.get? b with
 | none=>rw [q] at e;cases e
 | some o=>
  rw [q] at e;have e':(b,o)=p:=Option.some.inj e;subst e';exact ⟨hb,q⟩
theorem Inv.pinned{pins:List (Addr×Obj)}{O:St}{H:Hp}{s:Shared}{fp:List Addr}(I:Inv X pins O H s)(hf:∀ b∈fp,FpOk X pins H b)(ho:∀ b∈fp,∃ o,s.heap.get? b=some o/\∀ v,o.data≠.cell v):Inv X (pins++dN fp s.heap) O H s:=
 I.pins_of fun p hp=>(F9.mp hp).elim (fun z=>I.pin p (N3 _ z)) fun z=>by
  obtain ⟨hb,e⟩:=aig z;obtain ⟨f0,f1,f2,_⟩:=hf p.1 hb;obtain ⟨o,e',d⟩:=ho p.1 hb;rw [e] at e';cases e';exact ⟨e,f0,f1,f2,d⟩
theorem Inv.unpinned{pins pl:List (Addr×Obj)}{O:St}{H:Hp}{s:Shared}(I:Inv X (pins++pl) O H s):Inv X pins O H s:=I.pins_of fun p hp=>I.pin p (N3 _ (N8 _ hp))
theorem anc{iter:Expr}{body:List Stmt}{wi:TI}{g:TG}{tb:TS}{pos:Pos}(hp:PassesOwn (model X.prog X.w) X.A X.env X.xe)(hc:X.calm=true)(hi:PI X tg iter wi)(hg:PG X tg g)(hb:V2 X body tb)(hs:∀ x,foldedSetIterable iter X.env x=pure x:=by intro _;rfl):PS X (.For tg iter body [] pos) (tFor wi g tb):=by
 intro pins s O H D I h;refine wpAny_For (C2 (hi pins s O H _ I h) fun v s1 h1=>C2 h1 fun itv s2 h2=>?_) hs;obtain ⟨it,fp,tn,J,H2,e,I2,T,iJ,f2,W,⟨m0,w0⟩,turn⟩:=h2;subst e;have stat:∀ {H':Hp},(∀ b∈fp,H' b=none)->∀ b∈fp,FpOk X pins H' b:=fun hn b hb=>⟨hn b hb,(f2 b hb).2⟩
 refine codeAny_forLoop_any (fun n s'=>∃ i σ' H',Inv X pins σ' H' s'/\tn i s'.heap/\(∀ b∈fp,H' b=none)/\W i n σ' H') ?_ m0 ⟨0,O,H2,I2,iJ,fun b hb=>(f2 b hb).1,w0⟩;rintro n s3 ⟨i,σ3,H3,I3,aM,iK,w3⟩
 rcases turn i n σ3 H3 w3 with ⟨stop,qn⟩ | ⟨go,N,hN,step⟩
 .refine wpAny_passesOwn hp (C2 (T.done X rfl rfl rfl hc i pins s3 σ3 H3 X.xe I3 (stat iK) aM stop) fun r s4 ⟨hr,I4⟩=>?_);subst hr;exact wpAny_execs_nil ⟨σ3,H3,I4,qn⟩
 .refine wpAny_passesOwn hp (C2 (T.item X rfl rfl rfl hc i pins s3 σ3 H3 X.xe I3 (stat iK) aM go) fun r s4 ⟨u,hr,h4⟩=>?_);subst hr;refine wpAny_passesOwn hp (C2 h4 fun _ s5 ⟨x,H5,I5,r5,y5,cG,rW⟩=>?_);have I5':=I5.pinned (stat rW) (T.obj _ _ cG);refine wpAny_passesOwn hp (C2 (hg _ s5 σ3 H5 x u _ I5' r5 (step x H5 y5)) fun _ s6 ⟨σ6,H6,I6,q6⟩=>?_);refine wpAny_passesOwn hp (C2 (hb _ s6 σ6 H6 _ I6 q6) fun f s7 q7=>?_);have again:∀ {σ7:St} {H7:Hp},Inv X (pins++dN fp s5.heap) σ7 H7 s7->N σ7 H7->∃ m,m<n/\∃ i σ' H',Inv X pins σ' H' s7/\tn i s7.heap/\(∀ b∈fp,H' b=none)/\W i m σ' H':=fun {σ7 H7} I7 n7=>by
   obtain ⟨m',hm,w7⟩:=hN σ7 H7 n7;refine ⟨m',hm,i+1,σ7,H7,I7.unpinned,T.keep _ _ _ cG fun b hb o e=>(I7.pin (b,o) (N3 _ (N3 _ (dO hb e)))).1,fun b hb=>?_,w7⟩;obtain ⟨o,e,d⟩:=T.obj _ _ cG b hb;exact (I7.pin (b,o) (N3 _ (N3 _ (dO hb e)))).2.1
  cases f with
  | next=>obtain ⟨σ7,H7,I7,n7⟩:=q7;exact again I7 n7
  | cont=>obtain ⟨σ7,H7,I7,n7⟩:=q7;exact again I7 n7
  | brk=>obtain ⟨σ7,H7,I7,q7⟩:=q7;exact ⟨σ7,H7,I7.unpinned,q7⟩
  | ret v=>obtain ⟨x7,σ7,H7,I7,r7,q7⟩:=q7;exact ⟨x7,σ7,H7,I7.unpinned,r7,q7⟩
end
theorem ajH{K:PySem.W.Frag}{a:Addr}{xs:List V}{g:TG}{tb:TS}{D:Ends}{O:St}{H:Hp}(Pv:Nat->St->Hp->Prop)(h0:Pv 0 O H)(hl:∀ i O H,i<=xs.length->Pv i O H->D4 K H a xs)(hs:∀ i x O H,xs[i]?=some x->Pv i O H->g x O H fun σ2 H2=>tb { D with nx:=Pv (i+1),ct:=Pv (i+1),bk:=D.nx } σ2 H2)(hd:∀ O H,Pv xs.length O H->D.nx O H) :
  ∃ W:Nat->Nat->St->Hp->Prop,(∃ m,W 0 m O H)/\∀ i m O H,W i m O H->
   ((k8 K a).stop i H/\D.nx O H)\/((k8 K a).go i H/\∃ N:St->Hp->Prop,(∀ σ' H',N σ' H'->∃ m',m'<m/\W (i+1) m' σ' H')/\∀ x H',(k8 K a).yld i H x H'->g x O H' fun σ2 H2=>tb { D with nx:=N,ct:=N,bk:=D.nx } σ2 H2):=by
 refine ⟨fun i m O H=>m=xs.length-i/\i<=xs.length/\Pv i O H,⟨xs.length,by simp,G3 _,h0⟩,?_⟩;rintro i m O H ⟨rfl,hi,p⟩;have q:=hl i O H hi p
 by_cases D3:i<xs.length
 .refine .inr ⟨⟨xs,xs[i],q,by simp [D3]⟩,Pv (i+1),fun σ' H' p'=>⟨xs.length-(i+1),by lia,rfl,D3,p'⟩,fun x H' y=>?_⟩;obtain ⟨e,y⟩:=y;subst e;exact hs i x O _ (y xs q) p
 .have e:i=xs.length:=by lia
  subst e;exact .inl ⟨⟨xs,q,C3 _⟩,hd O H p⟩
theorem alx{K:PySem.W.Frag}{a:Addr}{xs:List V}{g:TG}{tb:TS}{D:Ends}{O:St}{H:Hp}(Pv:Nat->St->Hp->Prop)(h0:Pv 0 O H)(hl:∀ i O H,i<=xs.length->Pv i O H->C9 K H a xs)(hs:∀ i x O H,xs[i]?=some x->Pv i O H->g x O H fun σ2 H2=>tb { D with nx:=Pv (i+1),ct:=Pv (i+1),bk:=D.nx } σ2 H2)(hd:∀ O H,Pv xs.length O H->D.nx O H) :
  ∃ W:Nat->Nat->St->Hp->Prop,(∃ m,W 0 m O H)/\∀ i m O H,W i m O H->
   ((y0 K a).stop i H/\D.nx O H)\/((y0 K a).go i H/\∃ N:St->Hp->Prop,(∀ σ' H',N σ' H'->∃ m',m'<m/\W (i+1) m' σ' H')/\∀ x H',(y0 K a).yld i H x H'->g x O H' fun σ2 H2=>tb { D with nx:=N,ct:=N,bk:=D.nx } σ2 H2):=by
 refine ⟨fun i m O H=>m=xs.length-i/\i<=xs.length/\Pv i O H,⟨xs.length,by simp,G3 _,h0⟩,?_⟩;rintro i m O H ⟨rfl,hi,p⟩;have q:=hl i O H hi p
 by_cases D3:i<xs.length
 .refine .inr ⟨⟨xs,xs[i],q,by simp [D3]⟩,Pv (i+1),fun σ' H' p'=>⟨xs.length-(i+1),by lia,rfl,D3,p'⟩,fun x H' y=>?_⟩;obtain ⟨e,y⟩:=y;subst e;exact hs i x O _ (y xs q) p
 .have e:i=xs.length:=by lia
  subst e;exact .inl ⟨⟨xs,q,C3 _⟩,hd O H p⟩
end L2
namespace L2
open PySem PySem.Spec PyProof.Rows
abbrev R2:=V->V->Hp->VK->Prop
def J5(X:Cx)(f:Value->Value->Sem Value)(r:R2):Prop:=
 ∀ (pins:List (Addr×Obj)) (s:Shared) (O:St) (H:Hp) (x y:V) (v u:Value) (Q:VK),Inv X pins O H s->RelV x v->RelV y u->r x y H Q->
  wpAny (model X.prog X.w) X.A (f v u) (EP X pins O Q) X.xe s
def kA(X:Cx)(f:Value->Sem Value)(r:V->Hp->VK->Prop):Prop:=
 ∀ (pins:List (Addr×Obj)) (s:Shared) (O:St) (H:Hp) (x:V) (v:Value) (Q:VK),Inv X pins O H s->RelV x v->r x H Q->
  wpAny (model X.prog X.w) X.A (f v) (EP X pins O Q) X.xe s
def CallR(X:Cx)(f:Value)(r:List V->Hp->VK->Prop):Prop:=
 ∀ (pins:List (Addr×Obj)) (s:Shared) (O:St) (H:Hp) (xs:List V) (us:List Value) (Q:VK),Inv X pins O H s->Vals xs us->r xs H Q->
  wpAny (model X.prog X.w) X.A (call f us) (EP X pins O Q) X.xe s
def TruR(X:Cx)(r:V->Hp->(Bool->Hp->Prop)->Prop):Prop:=
 ∀ (pins:List (Addr×Obj)) (s:Shared) (O:St) (H:Hp) (x:V) (v:Value) (Q:Bool->Hp->Prop),Inv X pins O H s->RelV x v->r x H Q->
  wpAny (model X.prog X.w) X.A (truthy v) (TP X pins O Q) X.xe s
def f8(r:R2)(ta tb:TE):TE:=fun O H Q=>ta O H fun x H1=>tb O H1 fun y H2=>r x y H2 Q
def nO(r:V->Hp->VK->Prop)(ta:TE):TE:=fun O H Q=>ta O H fun x H1=>r x H1 Q
def rI(C:Int->Int->Prop)(g:Int->Int->V):R2:=fun x y H Q=>∃ i j,x=.int i/\y=.int j/\C i j/\Q (g i j) H
def p7(g:Int->Int->V):R2:=fun x y H Q=>∃ i j,x=.int i/\y=.int j/\Q (g i j) H
def rU(g:Int->V):V->Hp->VK->Prop:=fun x H Q=>∃ i,x=.int i/\Q (g i) H
section
variable {X:Cx} {a b c:Expr} {ta tb tc:TE} {pos:Pos}
theorem binT(ha:PE X a ta)(hb:PE X b tb){pins:List (Addr×Obj)}{s:Shared}{O:St}{H:Hp}{R:V->V->Hp->Prop}(I:Inv X pins O H s)(h:ta O H fun x H1=>tb O H1 fun y H2=>R x y H2){Q:Value->Shared->Prop}{f:Value->Value->Sem Value}(hf:∀ v u s2 x y H2,Inv X pins O H2 s2->RelV x v->RelV y u->R x y H2->wpAny (model X.prog X.w) X.A (f v u) Q X.xe s2) :
  wpAny (model X.prog X.w) X.A (eval a X.env) (fun v zu=>wpAny (model X.prog X.w) X.A (eval b X.env) (fun u zx=>wpAny (model X.prog X.w) X.A (f v u) Q X.xe zx) X.xe zu) X.xe s:=by
 refine C2 (ha pins s O H _ I h) fun v s1 ⟨x,H1,I1,r1,q1⟩=>?_
 refine C2 (hb pins s1 O H1 _ I1 q1) fun u s2 ⟨y,H2,I2,r2,q2⟩=>?_
 exact hf v u s2 x y H2 I2 r1 r2 q2
theorem pe_op{op:Operator}{r:R2}(ho:J5 X (binaryOp op) r)(ha:PE X a ta)(hb:PE X b tb):PE X (.BinOp a op b pos) (f8 r ta tb):=by
 intro pins s O H Q I h;exact wpAny_BinOp (binT ha hb I h fun v u s2 x y H2 I2 rx ry q=>ho pins s2 O H2 x y v u Q I2 rx ry q)
theorem pe_un{op:UnaryOp}{r:V->Hp->VK->Prop}(ho:kA X (unaryOp op) r)(ha:PE X a ta):PE X (.UnaryOp op a pos) (nO r ta):=by
 intro pins s O H Q I h;exact UnaryOp_ (C2 (ha pins s O H _ I h) fun v s1 ⟨x,H1,I1,r1,q1⟩=>ho pins s1 O H1 x v Q I1 r1 q1)
theorem nP{f:Value->Value->Sem Value}{C:Int->Int->Prop}{g:Int->Int->Int}(rule:∀ (i j:Int) (t u:Tok) (s:Shared) (Q:Value->Shared->Prop) (E:Value->Shared->Prop),C i j->Q (.int (g i j) s.toks) { s with toks:=s.toks+1 }->wpAny (model X.prog X.w) X.A (f (.int i t) (.int j u)) Q E s) :
  J5 X f (rI C fun i j=>.int (g i j)):=by
 intro pins s O H x y v u Q I rx ry h;obtain ⟨i,j,rfl,rfl,hc,q⟩:=h;obtain ⟨t,rfl⟩:=rx;obtain ⟨t',rfl⟩:=ry;exact rule i j t t' s _ _ hc ⟨.int (g i j),H,I.tok _,⟨_,rfl⟩,q⟩
theorem opI0{f:Value->Value->Sem Value}{g:Int->Int->Int}(rule:∀ (i j:Int) (t u:Tok) (s:Shared) (Q:Value->Shared->Prop) (E:Value->Shared->Prop),Q (.int (g i j) s.toks) { s with toks:=s.toks+1 }->wpAny (model X.prog X.w) X.A (f (.int i t) (.int j u)) Q E s) :
  J5 X f (p7 fun i j=>.int (g i j)):=by
 intro pins s O H x y v u Q I rx ry h;obtain ⟨i,j,rfl,rfl,q⟩:=h;obtain ⟨t,rfl⟩:=rx;obtain ⟨t',rfl⟩:=ry;exact rule i j t t' s _ _ ⟨.int (g i j),H,I.tok _,⟨_,rfl⟩,q⟩
theorem opB0{f:Value->Value->Sem Value}{g:Int->Int->Bool}(rule:∀ (i j:Int) (t u:Tok) (s:Shared) (Q:Value->Shared->Prop) (E:Value->Shared->Prop),Q (.bool (g i j)) s->wpAny (model X.prog X.w) X.A (f (.int i t) (.int j u)) Q E s) :
  J5 X f (p7 fun i j=>.bl (g i j)):=by
 intro pins s O H x y v u Q I rx ry h;obtain ⟨i,j,rfl,rfl,q⟩:=h;obtain ⟨t,rfl⟩:=rx;obtain ⟨t',rfl⟩:=ry;exact rule i j t t' s _ _ ⟨.bl (g i j),H,I,rfl,q⟩
def CDiv(i j:Int):Prop:=0<j/\j<1073741824
def CMul(i j:Int):Prop:=(-(2 ^ 64)<i/\i<2 ^ 64)\/(-(2 ^ 64)<j/\j<2 ^ 64)
theorem CMul.ok{i j:Int}(h:CMul i j):IntMulOk i j:=by
 rcases h with ⟨h1,h2⟩ | ⟨h1,h2⟩
 .exact .of_left (intBits_le_64 h1 h2)
 .exact .of_right (intBits_le_64 h1 h2)
theorem ane:J5 X (binaryOp .Add) (p7 fun i j=>.int (i+j)):=opI0 fun _ _ _ _ _ _ _ q=>add_int q
theorem anf:J5 X (binaryOp .Sub) (p7 fun i j=>.int (i-j)):=opI0 fun _ _ _ _ _ _ _ q=>sub_int q
theorem ang:J5 X (binaryOp .Mult) (rI CMul fun i j=>.int (i*j)):=nP fun _ _ _ _ _ _ _ hc q=>mul_int q hc.ok
theorem aly:J5 X (binaryOp .FloorDiv) (rI CDiv fun i j=>.int (i / j)):=nP fun i j _ _ _ _ _ hc q=>by
 have h1:(0:Int)<j:=hc.1;have h2:j<1073741824:=hc.2;exact floordiv_int (by lia) (by rw [Int.fdiv_eq_ediv_of_nonneg i (by lia)];exact q) (.inl (PyProof.noPylong_small (by lia)))
theorem anh:J5 X (binaryOp .Mod) (rI (fun _ j=>0<j) fun i j=>.int (i % j)):=nP fun i j _ _ _ _ _ hc q=>by
 have h1:(0:Int)<j:=hc;exact mod_int' (by lia) (by rw [Int.fmod_eq_emod_of_nonneg i (by lia)];exact q)
theorem unI{f:Value->Sem Value}{g:Int->Int}(rule:∀ (i:Int) (t:Tok) (s:Shared) (Q:Value->Shared->Prop) (E:Value->Shared->Prop),Q (.int (g i) s.toks) { s with toks:=s.toks+1 }->wpAny (model X.prog X.w) X.A (f (.int i t)) Q E s) :
  kA X f (rU fun i=>.int (g i)):=by
 intro pins s O H x v Q I rx h;obtain ⟨i,rfl,q⟩:=h;obtain ⟨t,rfl⟩:=rx;exact rule i t s _ _ ⟨.int (g i),H,I.tok _,⟨_,rfl⟩,q⟩
theorem ani:kA X (unaryOp .USub) (rU fun i=>.int (-i)):=unI fun _ _ _ _ _ q=>neg_int q
end
def scal:V->V->Bool
 | .non,.non=>true | .non,.int _=>true | .int _,.non=>true | .non,.bl _=>true | .bl _,.non=>true | .non,.str _=>true | .str _,.non=>true
 | .int _,.int _=>true | .bl _,.bl _=>true | .str _,.str _=>true | .byt _,.byt _=>true
 | .int _,.str _=>true | .str _,.int _=>true | .bl _,.str _=>true | .str _,.bl _=>true
 | _,_=>false
def uY:R2:=fun x y H Q=>scal x y=true/\Q (.bl (decide (x=y))) H
def uZ:R2:=fun x y H Q=>scal x y=true/\Q (.bl (!decide (x=y))) H
theorem vA{i j:Int} : decide (V.int i=V.int j)=(i==j):=by
 rw [Bool.eq_iff_iff]
 simp
theorem vB{i j:Bool} : decide (V.bl i=V.bl j)=(i==j):=by
 rw [Bool.eq_iff_iff]
 simp
theorem vC{i j:Str} : decide (V.str i=V.str j)=(i==j):=by
 rw [Bool.eq_iff_iff]
 simp
theorem vD{i j:Array UInt8} : decide (V.byt i=V.byt j)=(i.toList==j.toList):=by
 rw [Bool.eq_iff_iff]
 cases i
 cases j
 simp
section
variable {X:Cx} {a b c:Expr} {ta tb tc:TE} {pos:Pos}
theorem K9{pins:List (Addr×Obj)}{O:St}{H:Hp}{s:Shared}{Q:VK}{k k':Bool}(I:Inv X pins O H s)(q:Q (.bl k) H)(e:k=k'):EP X pins O Q (.bool k') s:=by
 subst e;exact ⟨.bl k,H,I,rfl,q⟩
theorem op_eq:J5 X (compareOp .Eq) uY:=by
 intro pins s O H x y v u Q I rx ry h;obtain ⟨hs,q⟩:=h
 cases x with
 | non=>
  cases rx
  cases y with
  | non=>cases ry;exact PySem.EqNone.eq_none_none (K9 I q (by simp))
  | bl j=>cases ry;exact PySem.EqNone.eq_none_bool (K9 I q (by simp))
  | int j=>obtain ⟨t',rfl⟩:=ry;exact PySem.EqNone.eq_none_int (K9 I q (by simp))
  | str j=>obtain ⟨t',rfl⟩:=ry;exact PySem.EqNone.eq_none_str (K9 I q (by simp))
  | _=>exact absurd (show false=true from hs) K6
 | bl i=>
  cases rx
  cases y with
  | non=>cases ry;exact PySem.EqNone.eq_bool_none (K9 I q (by simp))
  | bl j=>cases ry;exact eq_bool (K9 I q vB)
  | str j=>obtain ⟨t',rfl⟩:=ry;exact PySem.EqMixed.eq_bool_str (K9 I q (by simp))
  | _=>exact absurd (show false=true from hs) K6
 | int i=>
  obtain ⟨t,rfl⟩:=rx
  cases y with
  | non=>cases ry;exact PySem.EqNone.eq_int_none (K9 I q (by simp))
  | int j=>obtain ⟨t',rfl⟩:=ry;exact eq_int (K9 I q vA)
  | str j=>obtain ⟨t',rfl⟩:=ry;exact PySem.EqMixed.eq_int_str (K9 I q (by simp))
  | _=>exact absurd (show false=true from hs) K6
 | str i=>
  obtain ⟨t,rfl⟩:=rx
  cases y with
  | non=>cases ry;exact PySem.EqNone.eq_str_none (K9 I q (by simp))
  | bl j=>cases ry;exact PySem.EqMixed.eq_str_bool (K9 I q (by simp))
  | int j=>obtain ⟨t',rfl⟩:=ry;exact PySem.EqMixed.eq_str_int (K9 I q (by simp))
  | str j=>obtain ⟨t',rfl⟩:=ry;exact eq_str (K9 I q vC)
  | _=>exact absurd (show false=true from hs) K6
 | byt i=>
  obtain ⟨t,rfl⟩:=rx
  cases y with
  | byt j=>obtain ⟨t',rfl⟩:=ry;exact PySem.W.eq_bytes (K9 I q vD)
  | _=>exact absurd (show false=true from hs) K6
 | _=>cases y <;> exact absurd (show false=true from hs) K6
theorem op_ne:J5 X (compareOp .NotEq) uZ:=by
 intro pins s O H x y v u Q I rx ry h;obtain ⟨hs,q⟩:=h
 cases x with
 | non=>
  cases rx
  cases y with
  | non=>cases ry;exact PySem.EqNone.ne_none_none (K9 I q (by simp))
  | bl j=>cases ry;exact PySem.EqNone.ne_none_bool (K9 I q (by simp))
  | int j=>obtain ⟨t',rfl⟩:=ry;exact PySem.EqNone.ne_none_int (K9 I q (by simp))
  | str j=>obtain ⟨t',rfl⟩:=ry;exact PySem.EqNone.ne_none_str (K9 I q (by simp))
  | _=>exact absurd (show false=true from hs) K6
 | bl i=>
  cases rx
  cases y with
  | non=>cases ry;exact PySem.EqNone.ne_bool_none (K9 I q (by simp))
  | bl j=>cases ry;exact ne_bool (K9 I q (congrArg not vB))
  | str j=>obtain ⟨t',rfl⟩:=ry;exact PySem.EqMixed.ne_bool_str (K9 I q (by simp))
  | _=>exact absurd (show false=true from hs) K6
 | int i=>
  obtain ⟨t,rfl⟩:=rx
  cases y with
  | non=>cases ry;exact PySem.EqNone.ne_int_none (K9 I q (by simp))
  | int j=>obtain ⟨t',rfl⟩:=ry;exact ne_int (K9 I q (congrArg not vA))
  | str j=>obtain ⟨t',rfl⟩:=ry;exact PySem.EqMixed.ne_int_str (K9 I q (by simp))
  | _=>exact absurd (show false=true from hs) K6
 | str i=>
  obtain ⟨t,rfl⟩:=rx
  cases y with
  | non=>cases ry;exact PySem.EqNone.ne_str_none (K9 I q (by simp))
  | bl j=>cases ry;exact PySem.EqMixed.ne_str_bool (K9 I q (by simp))
  | int j=>obtain ⟨t',rfl⟩:=ry;exact PySem.EqMixed.ne_str_int (K9 I q (by simp))
  | str j=>obtain ⟨t',rfl⟩:=ry;exact ne_str (K9 I q (congrArg not vC))
  | _=>exact absurd (show false=true from hs) K6
 | byt i=>
  obtain ⟨t,rfl⟩:=rx
  cases y with
  | byt j=>obtain ⟨t',rfl⟩:=ry;exact PySem.W.ne_bytes (K9 I q (congrArg not vD))
  | _=>exact absurd (show false=true from hs) K6
 | _=>cases y <;> exact absurd (show false=true from hs) K6
theorem op_lt:J5 X (compareOp .Lt) (p7 fun i j=>.bl (decide (i<j))):=opB0 fun _ _ _ _ _ _ _ q=>lt_int q
theorem op_le:J5 X (compareOp .LtE) (p7 fun i j=>.bl (decide (i<=j))):=opB0 fun _ _ _ _ _ _ _ q=>le_int q
theorem aik:J5 X (compareOp .Lt) (fun x y H Q=>∃ i j,x=.str i/\y=.str j/\Q (.bl (decide (i.cps.toList<j.cps.toList))) H):=by
 intro pins s O H x y v u Q I rx ry h;obtain ⟨i,j,rfl,rfl,q⟩:=h;obtain ⟨t,rfl⟩:=rx;obtain ⟨t',rfl⟩:=ry;exact lt_str (K9 I q rfl)
theorem ail:J5 X (compareOp .In) (fun x y H Q=>∃ i j,x=.str i/\y=.str j/\Q (.bl (!(Builtin.Str.occurrences j i 0 j.length 1).isEmpty)) H):=by
 intro pins s O H x y v u Q I rx ry h;obtain ⟨i,j,rfl,rfl,q⟩:=h;obtain ⟨t,rfl⟩:=rx;obtain ⟨t',rfl⟩:=ry;exact in_str (K9 I q rfl)
theorem vE(b:Expr){op:CmpOp}(h:op≠.In:=by decide)(h2:op≠.NotIn:=by decide):behindInMarks op b=false:=by
 have e1:(op==CmpOp.In)=false:=by cases op <;> first | rfl | exact absurd rfl h
 have e2:(op==CmpOp.NotIn)=false:=by cases op <;> first | rfl | exact absurd rfl h2
 cases b <;> simp [behindInMarks,e1,e2]
theorem alz{op:CmpOp}{r:R2}(ho:J5 X (compareOp op) r)(ha:PE X a ta)(hb:PE X b tb)(hm:behindInMarks op b=false):PE X (.Compare a [op] [b] pos) (f8 r ta tb):=by
 intro pins s O H Q I h;exact wpAny_Compare1 (binT ha hb I h fun v u s2 x y H2 I2 rx ry q=>ho pins s2 O H2 x y v u Q I2 rx ry q) hm
def tTest(t:TE):TT:=fun O H Q=>t O H fun x H'=>∃ k,x=.bl k/\Q k H'
theorem alA{op:CmpOp}{r:R2}(ho:J5 X (compareOp op) r)(ha:PE X a ta)(hb:PE X b tb)(hm:behindInMarks op b=false):PT X (.Compare a [op] [b] pos) (tTest (f8 r ta tb)):=by
 intro pins s O H Q I h;refine wpAny_isTrue_Compare1 (C2 (ha pins s O H _ I h) fun v s1 ⟨x,H1,I1,r1,q1⟩=>C2 (hb pins s1 O H1 _ I1 q1) fun u s2 ⟨y,H2,I2,r2,q2⟩=>
  C2 (ho pins s2 O H2 x y v u _ I2 r1 r2 q2) fun c s3 ⟨z,H3,I3,r3,k,e,q3⟩=>?_) hm
 subst e
 cases r3
 exact wpAny_truthy_bool ⟨H3,I3,q3⟩
def nQ(r r':R2)(ta tb tc:TE):TE:=fun O H Q=>ta O H fun x H1=>tb O H1 fun y H2=>r x y H2 fun z H3=>∃ k,z=.bl k/\
 (if k=true then tc O H3 fun w' H4=>r' y w' H4 Q else Q (.bl false) H3)
theorem ajI{op op':CmpOp}{r r':R2}(ho:J5 X (compareOp op) r)(i6:J5 X (compareOp op') r')(ha:PE X a ta)(hb:PE X b tb)(hc:PE X c tc)(hm:lastMarks [op,op'] [b,c]=false:=by with_unfolding_all rfl):PE X (.Compare a [op,op'] [b,c] pos) (nQ r r' ta tb tc):=by
 intro pins s O H Q I h;refine Compare_chain (C2 (ha pins s O H _ I h) fun v s1 ⟨x,H1,I1,r1,q1⟩=>chain_link (C2 (hb pins s1 O H1 _ I1 q1) fun u s2 ⟨y,H2,I2,r2,q2⟩=>
  C2 (ho pins s2 O H2 x y v u _ I2 r1 r2 q2) fun d s3 ⟨z,H3,I3,r3,k,e,q3⟩=>?_)) hm
 subst e
 cases r3
 refine wpAny_truthy_bool ?_
 cases k with
 | false=>exact ite_ff ⟨.bl false,H3,I3,rfl,q3⟩
 | true=>exact ite_tt (chain_last (C2 (hc pins s3 O H3 _ I3 q3) fun w' s4 ⟨z',H4,I4,r4,q4⟩=>i6 pins s4 O H4 y z' u w' Q I4 r2 r4 q4))
def TruV(K:PySem.W.Frag)(x:V)(H:Hp)(k:Bool):Prop:=
 match x with
 | .non=>k=false
 | .bl b=>k=b
 | .int i=>k=(i != 0)
 | .str y=>y.length<=sizeLine/\k=((y.length:Int) != 0)
 | .byt y=>y.size<=sizeLine/\k=((y.size:Int) != 0)
 | .ref p=>(∃ xs,D4 K H p xs/\k=!xs.isEmpty)\/(∃ xs,C9 K H p xs/\k=!xs.isEmpty)\/∃ kvs,H p=some (.dK kvs)/\k=!kvs.isEmpty
 | _=>False
theorem ahw{κ:Type}{kvs:List (κ×V)}{vs:List (κ×Value)}(r:KV kvs vs):(!vs.isEmpty)=!kvs.isEmpty:=by
 cases r <;> rfl
theorem vF{xs:List V}{its:List Value}(r:Vals xs its):(!its.toArray.isEmpty)=!xs.isEmpty:=by
 cases r <;> simp
theorem gA:(sizeLine:Nat)<2 ^ 63:=by rw [sizeLine_eq];decide
theorem anj:TruR X (fun x H Q=>∃ k,TruV X.K x H k/\Q k H):=by
 intro pins s O H x v Q I rx h;obtain ⟨k,e,q⟩:=h;have hl:=gA;have hs:sizeLine=16777216:=sizeLine_eq
 cases x with
 | non=>
  cases rx
  have e':k=false:=e;subst e';exact truthy_none ⟨H,I,q⟩
 | bl b=>
  cases rx
  have e':k=b:=e;subst e';exact wpAny_truthy_bool ⟨H,I,q⟩
 | int i=>
  obtain ⟨t,rfl⟩:=rx;have e':k=(i != 0):=e;subst e';exact PySem.P.truthy_int ⟨H,I,q⟩
 | str y=>
  obtain ⟨t,rfl⟩:=rx;obtain ⟨hy,e'⟩:y.length<=sizeLine/\k=((y.length:Int) != 0):=e;subst e';exact PySem.P.truthy_str (by lia) ⟨H,I.tok _,q⟩
 | byt y=>
  obtain ⟨t,rfl⟩:=rx;obtain ⟨hy,e'⟩:y.size<=sizeLine/\k=((y.size:Int) != 0):=e;subst e';exact PySem.W.truthy_bytes (by lia) ⟨H,I.tok _,q⟩
 | ref p=>
  cases rx
  have e':(∃ xs,D4 X.K H p xs/\k=!xs.isEmpty)\/(∃ xs,C9 X.K H p xs/\k=!xs.isEmpty)\/∃ kvs,H p=some (.dK kvs)/\k=!kvs.isEmpty:=e
  rcases e' with ⟨xs,hx,e'⟩ | ⟨xs,hx,e'⟩ | ⟨kvs,hx,e'⟩
  .subst e';obtain ⟨its,r,pl,hz⟩:=I.list hx;have B3:=r.length;exact wpAny_truthy_list pl.isList (by simp only [G4];lia) ⟨H,I.tok _,by rw [vF r];exact q⟩
  .subst e';obtain ⟨its,r,pl,hz⟩:=I.tuple hx;have B3:=r.length;exact truthy_tuple pl (by simp only [G4];lia) ⟨H,I.tok _,by rw [vF r];exact q⟩
  .subst e';obtain ⟨hz,hS,vs,r,m⟩:kvs.length<=sizeLine/\(p==sysModules)=false/\∃ vs,KV kvs vs/\s.heap.DictOf (N1 X.prog X.w) p vs:=I.hok p _ hx;have B3:kvs.length=vs.length:=Paired.length r;exact wpAny_truthy_dict hS m (by lia) ⟨H,I.tok _,by rw [ahw r];exact q⟩
 | _=>exact (show False from e).elim
theorem ajJ(ha:PE X a ta)(he:∀ whole,isTrue a X.env whole=(do let v <- whole;standAt a.pos;holding [v] (truthy v))) :
  PT X a (fun O H Q=>ta O H fun x H'=>∃ k,TruV X.K x H' k/\Q k H'):=by
 intro pins s O H Q I h;exact isTrue_plain (C2 (ha pins s O H _ I h) fun v s1 ⟨x,H1,I1,r1,q1⟩=>anj pins s1 O H1 x v Q I1 r1 q1) (he _)
theorem ahx:J5 X (binaryOp .Add) (fun x y H Q=>∃ i j,x=.str i/\y=.str j/\i.length+j.length<=sizeLine/\Q (.str (i++j)) H):=by
 intro pins s O H x y v u Q I rx ry h;obtain ⟨i,j,rfl,rfl,hz,q⟩:=h;obtain ⟨t,rfl⟩:=rx;obtain ⟨t',rfl⟩:=ry;exact add_str (fun t' tk=>⟨.str (i++j),H,I.tok _,⟨_,rfl⟩,q⟩) hz
theorem vals1{x:V}{us:List Value}(r:Vals [x] us):∃ u,us=[u]/\RelV x u:=by
 cases r with
 | cons r1 r2=>cases r2;exact ⟨_,rfl,r1⟩
theorem vals2{x y:V}{us:List Value}(r:Vals [x,y] us):∃ u w',us=[u,w']/\RelV x u/\RelV y w':=by
 cases r with
 | cons r1 r2=>
  cases r2 with
  | cons r3 r4=>cases r4;exact ⟨_,_,rfl,r1,r3⟩
theorem ain:CallR X (.type "int") (fun xs H Q=>(∃ i,xs=[.int i]/\Q (.int i) H)\/∃ k,xs=[.bl k]/\Q (.int (if k then 1 else 0)) H):=by
 intro pins s O H xs us Q I r h
 rcases h with ⟨i,rfl,q⟩ | ⟨k,rfl,q⟩
 .obtain ⟨u,rfl,t,rfl⟩:=vals1 r;exact call_int_int ⟨.int i,H,I,⟨_,rfl⟩,q⟩
 .obtain ⟨u,rfl,r1⟩:=vals1 r
  cases r1
  exact call_int_bool ⟨.int (if k then 1 else 0),H,I.tok _,⟨_,rfl⟩,q⟩
theorem ajK:CallR X (.builtin "ord") (fun xs H Q=>∃ x,xs=[.str x]/\x.length=1/\Q (.int (x.cps.getD 0 0:Nat)) H):=by
 intro pins s O H xs us Q I r h;obtain ⟨x,rfl,hz,q⟩:=h;obtain ⟨u,rfl,t,rfl⟩:=vals1 r;exact ord_of_one hz ⟨.int _,H,I.tok _,⟨_,rfl⟩,q⟩
def LenV(K:PySem.W.Frag)(x:V)(H:Hp)(n:Nat):Prop:=
 match x with
 | .str y=>y.length<=sizeLine/\n=y.length
 | .byt y=>y.size<=sizeLine/\n=y.size
 | .ref p=>(∃ xs,D4 K H p xs/\n=xs.length)\/∃ xs,C9 K H p xs/\n=xs.length
 | _=>False
theorem nR:CallR X (.builtin "len") (fun xs H Q=>∃ x n,xs=[x]/\LenV X.K x H n/\Q (.int n) H):=by
 intro pins s O H xs us Q I r h;obtain ⟨x,n,rfl,e,q⟩:=h;obtain ⟨u,rfl,rx⟩:=vals1 r;have hl:=gA;have hs:sizeLine=16777216:=sizeLine_eq
 cases x with
 | str y=>
  obtain ⟨t,rfl⟩:=rx;obtain ⟨hy,e'⟩:y.length<=sizeLine/\n=y.length:=e;subst e';exact len_str (by lia) ⟨.int _,H,I.tok _,⟨_,rfl⟩,q⟩
 | byt y=>
  obtain ⟨t,rfl⟩:=rx;obtain ⟨hy,e'⟩:y.size<=sizeLine/\n=y.size:=e;subst e';exact PySem.W.len_bytes (by lia) ⟨.int _,H,I.tok _,⟨_,rfl⟩,q⟩
 | ref p=>
  cases rx
  have e':(∃ xs,D4 X.K H p xs/\n=xs.length)\/∃ xs,C9 X.K H p xs/\n=xs.length:=e
  rcases e' with ⟨xs,hx,e'⟩ | ⟨xs,hx,e'⟩
  .subst e';obtain ⟨its,r',pl,hz⟩:=I.list hx;have B3:=r'.length;exact Calls.call_len_list pl.isList (by simp only [G4];lia) ⟨.int xs.length,H,I.tok _,⟨_,by simp only [G4];rw [B3]⟩,q⟩
  .subst e';obtain ⟨its,r',pl,hz⟩:=I.tuple hx;have B3:=r'.length;exact len_tuple pl (by simp only [G4];lia) ⟨.int xs.length,H,I.tok _,⟨_,by simp only [G4];rw [B3]⟩,q⟩
 | _=>exact (show False from e).elim
end
end L2
namespace L2
open PySem PySem.Spec PyProof.Rows
structure ObjM(h:Heap)(x dx C:Addr)(mA:Str->Option Value):Prop where
 obj:h.get? x=some (x5 C dx)
 ns:h.Ns1 dx mA
 ne:dx≠x
theorem aio{h:Heap}{dx:Addr}{mA:Str->Option Value}(n:h.Ns1 dx mA):∃ od,h.get? dx=some od/\∀ name,PySem.W.lookIn name od=some (mA name):=by
 obtain ⟨o,es,ep,ho,hd,hk,_,hm⟩:=n;refine ⟨o,ho,fun name=>?_⟩;have e:=hm name;unfold nsFind findBy at e;rw [<- Array.find?_toList] at e;unfold PySem.W.lookIn;rw [hd]
 dsimp only
 split
 .rename_i y q
  rw [q] at e;exact congrArg some e
 .rename_i q
  rw [q] at e;have a:es.toList.any (·.refKey)=false:=by
   rw [List.any_eq_false];intro y hy;obtain ⟨z,t,X8⟩:=hk y (Array.mem_toList_iff.mp hy);simp [DictEntry.refKey,X8]
  have a':¬ es.toList.any (·.refKey)=true:=by rw [a];exact K6
  rw [if_neg a'];exact congrArg some e
theorem ObjM.look{h:Heap}{x dx C:Addr}{mA:Str->Option Value}(I:ObjM h x dx C mA):∃ od,PySem.W.InstAt h x (x5 C dx) C (some od)/\∀ name,PySem.W.lookIn name od=some (mA name):=
 let ⟨od,ho,hl⟩:=aio I.ns
 ⟨od,⟨I.obj,rfl,rfl,ho⟩,hl⟩
section
variable {prog:Program} {w:World} {A:Around} {E:Value->Shared->Prop} {s:Shared} {K:PySem.W.Frag} {x dx C f:Addr} {mA:Str->Option Value} {name:Str} {v:Value}
theorem alB{expr:Bool}{Q:Value->Shared->Prop}(X:K.In s.heap)(I:ObjM s.heap x dx C mA)(hg:fV K C name=true)(hh:PySem.W.hasDictIn K C=true)(ha:O6 K (.ref C) name=some none)(hv:mA name=some v)(mC:PySem.W.handedIn v=true)(h:Q v { s with toks:=s.toks+1 }) :
  wpAny (model prog w) A (getAttr (.ref x) name expr) Q E s:=by
 obtain ⟨od,J,hl⟩:=I.look;exact PySem.W.get_value X J (PySem.W.plainGet_of hg).1 (PySem.W.findObj_own hh ha rfl (by rw [hl,hv])) mC h
theorem ajL{pl:Sem Bool}{Q:Value×List Value->Shared->Prop}(X:K.In s.heap)(I:ObjM s.heap x dx C mA)(hg:fV K C name=true)(hf:O6 K (.ref C) name=some (some (.ref f)))(ht:p4 K (.ref f)=true)(hv:mA name=none)(h:Q (.ref f,[.ref x]) s) :
  wpAny (model prog w) A (getMethod (.ref x) name pl) Q E s:=by
 obtain ⟨od,J,hl⟩:=I.look;exact PySem.W.method_fn X J (PySem.W.plainGet_of hg).1 (PySem.W.plainGet_of hg).2 hf (beq_iff_eq.mp ht) (by show (PySem.W.lookIn name od).map (·.isSome)=some false;rw [hl,hv];rfl) h
theorem alC{ns:List Str}{Q:Unit->Shared->Prop}(X:K.In s.heap)(I:ObjM s.heap x dx C mA)(hs:O6 K (.ref C) "__setattr__"=some (some (.builtin "object.__setattr__")))(hp:PySem.W.plainOver K C=true)(ht:PySem.W.takerIn K C name=some none)(hh:PySem.W.hasDictIn K C=true)(hw:PySem.Within mA ns)(hsz:ns.length<=sizeLine)(h:∀ h',ObjM h' x dx C (fun y=>if y=name then some v else mA y)->Heap.SameBut dx s.heap h'->Q () { s with heap:=h',toks:=s.toks+2 }) :
  wpAny (model prog w) A (setAttr (.ref x) name v) Q E s:=by
 obtain ⟨od,J,hl⟩:=I.look;refine PySem.W.set_plain X J hs (PySem.W.osa_open (s:={ s with toks:=s.toks+1 }) (r:=none) X J hp ht fun b=>?_);obtain ⟨cd,hc,rQ⟩:=PySem.W.any_some hh;have hx:s.heap.get? x=some ⟨.ref C,some dx,.plain,#[]⟩:=I.obj;refine wpAny_bind (wpAny_pure (wpAny_bind (wpAny_bind (wpAny_loadPart hx (wpAny_bind (PySem.W.Looks.here (s:={ s with toks:=s.toks+1 }) (PySem.W.looks_clsIn X hc) ?_))))));rw [rQ];refine wpAny_pure (a:=some dx) (wpAny_bind (wpAny_pure (wpAny_bind ?_)));refine wpAny_nsSet1 (s:={ s with toks:=s.toks+1 }) I.ns fun h' mD aN=>?_
 obtain ⟨oD,esD,epD,hoD,hdD,hcD⟩:=mD.count (PySem.Within.cons name v hw);refine wpAny_bind (wpAny_lookBehind hoD (by rw [hdD];exact pastItsLine_dict (M8 hcD (by rw [G5];lia))) ?_);exact wpAny_pure (h _ ⟨(aN.2 _ (Ne.symm I.ne)).trans I.obj,mD,I.ne⟩ aN)
theorem ajM{R:Result->Shared->Prop}{vs:List Value}{kw:List (Str×Value)}(X:K.In s.heap)(hm:PySem.W.makesIn K C=true)(hi:O6 K (.ref C) "__init__"=some (some (.ref f)))(hf:PySem.W.typeIn K (.ref f)=some (.type "function"))(h:codeAny (model prog w) (A.under (.builtin "type.__call__" ⟨.ref C::vs,kw⟩)) (.call (.ref f) ⟨.ref (s.heap.objs.size+1)::vs,kw⟩) (PySem.W.InitBack (s.heap.objs.size+1) R)
   { s with heap:=(s.heap.push p3).push (x5 C s.heap.objs.size) }) :
  codeAny (model prog w) A (.call (.ref C) ⟨vs,kw⟩) R s:=by
 obtain ⟨hh,g,d,t,os⟩:=s;exact PySem.W.make_core (PySem.W.makes_of X hm) (PySem.W.looks_findIn X hi) (fun self=>PySem.W.bind_fn X self hf) (.inl rfl) h
end
def putF(f:Str)(v:V):List (Str×V)->List (Str×V)
 | []=>[(f,v)]
 | (g,x)::r=>if g=f then (g,v)::r else (g,x)::putF f v r
theorem K7(f g:Str)(v:V):∀ fs:List (Str×V),(putF f v fs).lookup g=if g=f then some v else fs.lookup g
 | []=>by
  show x4 g [(f,v)]=_
  by_cases h:g=f
  .have hb:(g==f)=true:=beq_iff_eq.mpr h;simp only [x4,hb,if_pos h]
  .have hb:(g==f)=false:=beq_eq_false_iff_ne.mpr h;simp only [x4,hb,if_neg h]
 | (k,x)::r=>by
  have ih:=K7 f g v r;rw [show putF f v ((k,x)::r)=(if k=f then (k,v)::r else (k,x)::putF f v r) from rfl]
  by_cases hk:k=f
  .rw [if_pos hk]
   by_cases h:g=k
   .have hb:(g==k)=true:=beq_iff_eq.mpr h;simp only [x4,hb,if_pos (h.trans hk)]
   .have hb:(g==k)=false:=beq_eq_false_iff_ne.mpr h;simp only [x4,hb,if_neg (fun e:g=f=>h (e.trans hk.symm))]
  .rw [if_neg hk]
   by_cases h:g=k
   .have hb:(g==k)=true:=beq_iff_eq.mpr h;simp only [x4,hb,if_neg (fun e:g=f=>hk (h.symm.trans e))]
   .have hb:(g==k)=false:=beq_eq_false_iff_ne.mpr h;simp only [x4,hb];exact ih
theorem nS(f:Str)(v:V):∀ fs:List (Str×V),f∈(putF f v fs).map (·.1)/\∀ g,g∈fs.map (·.1)->g∈(putF f v fs).map (·.1)
 | []=>⟨by simp [putF],fun g h=>by simp at h⟩
 | (k,x)::r=>by
  obtain ⟨i1,i2⟩:=nS f v r;rw [show putF f v ((k,x)::r)=(if k=f then (k,v)::r else (k,x)::putF f v r) from rfl]
  by_cases hk:k=f
  .rw [if_pos hk];subst hk;exact ⟨by simp,fun g h=>by simpa using h⟩
  .rw [if_neg hk];refine ⟨?_,fun g h=>?_⟩
   .rw [G6];exact M6 _ i1
   .rw [G6] at h ⊢
    rcases E8.mp h with e | e
    .exact E8.mpr (.inl e)
    .exact M6 _ (i2 g e)
theorem nU(f:Str)(v:V):∀ fs:List (Str×V),(putF f v fs).length<=fs.length+1
 | []=>by simp [putF]
 | (k,x)::r=>by
  have ih:=nU f v r;rw [show putF f v ((k,x)::r)=(if k=f then (k,v)::r else (k,x)::putF f v r) from rfl]
  by_cases hk:k=f
  .rw [if_pos hk,G5,G5];lia
  .rw [if_neg hk,G5,G5];lia
theorem kB{v:V}{o:Option Value}(r:RelO (some v) o):∃ u,o=some u/\RelV v u:=by
 cases o with
 | none=>exact (show False from r).elim
 | some u=>exact ⟨u,rfl,r⟩
theorem RelO.none_of{o:Option Value}(r:RelO none o):o=none:=by
 cases o with
 | none=>rfl
 | some u=>exact (show False from r).elim
theorem aip{v:V}{u:Value}(r:RelV v u):PySem.W.handedIn u=true:=by
 cases v with
 | non=>cases (show u=Value.none from r);rfl
 | bl b=>cases (show u=Value.bool b from r);rfl
 | int i=>obtain ⟨t,e⟩:=(show ∃ t,u=Value.int i t from r);cases e;rfl
 | str x=>obtain ⟨t,e⟩:=(show ∃ t,u=Value.str x t from r);cases e;rfl
 | byt b=>obtain ⟨t,e⟩:=(show ∃ t,u=Value.bytes b t from r);cases e;rfl
 | flt b=>obtain ⟨t,e⟩:=(show ∃ t,u=Value.float b t from r);cases e;rfl
 | ref a=>cases (show u=Value.ref a from r);rfl
 | ty n=>cases (show u=Value.type n from r);rfl
section
variable {P:Program} {w:World} {H H':Hp} {h h':Heap} {a C dx:Addr} {fs fs':List (Str×V)}
theorem nV(hok:L5 P w H h)(e:H a=some (.ins C dx fs)):∃ mA,ObjM h a dx C mA/\(∀ f,RelO (fs.lookup f) (mA f))/\PySem.Within mA (fs.map (·.1))/\fs.length<=1000/\H dx=some (.own a):=by
 obtain ⟨d,z,ne,ob,mA,n,r,q⟩:=(show ObjOk P w H h a (.ins C dx fs) from hok a _ e)
 exact ⟨mA,⟨ob,n,ne⟩,r,q,z,d⟩
end
structure Cls(K:PySem.W.Frag)(C:Addr):Prop where
 pg:fV K C Str.empty=true
 hd:PySem.W.hasDictIn K C=true
 po:PySem.W.plainOver K C=true
 sa:O6 K (.ref C) "__setattr__"=some (some (.builtin "object.__setattr__"))
theorem Cls.get{K:PySem.W.Frag}{C:Addr}(c:Cls K C)(f:Str):fV K C f=true:=c.pg
def NoAttr(K:PySem.W.Frag)(C:Addr)(f:Str):Prop:=O6 K (.ref C) f=some none
theorem NoAttr.taker{K:PySem.W.Frag}{C:Addr}{f:Str}(n:NoAttr K C f):PySem.W.takerIn K C f=some none:=by
 unfold PySem.W.takerIn;rw [show O6 K (.ref C) f=some none from n];rfl
structure Meth(K:PySem.W.Frag)(C:Addr)(m:Str)(f:Addr):Prop where
 at_:O6 K (.ref C) m=some (some (.ref f))
 fn:p4 K (.ref f)=true
 kp:R4 K (.ref f)=true
section
variable {X:Cx} {pins:List (Addr×Obj)} {O:St} {H:Hp} {s:Shared} {a C dx:Addr} {fs:List (Str×V)} {f:Str} {v:V} {A:Around} {E:Value->Shared->Prop}
theorem ahy{b:Bool}{Q:Value->Shared->Prop}(I:Inv X pins O H s)(e:H a=some (.ins C dx fs))(c:Cls X.K C)(n:NoAttr X.K C f)(l:fs.lookup f=some v)(h:∀ u s',Inv X pins O H s'->RelV v u->Q u s'):wpAny (model X.prog X.w) A (getAttr (.ref a) f b) Q E s:=by
 obtain ⟨mA,zy,r,_,_,_⟩:=nV I.hok e;obtain ⟨u,hu,ru⟩:=kB (v:=v) (o:=mA f) (by rw [<- l];exact r f);exact alB I.kIn zy (c.get f) c.hd n hu (aip ru) (h u _ (I.tok _) ru)
theorem vG{m:Str}{g:Addr}{pl:Sem Bool}{Q:Value×List Value->Shared->Prop}(I:Inv X pins O H s)(e:H a=some (.ins C dx fs))(c:Cls X.K C)(k:Meth X.K C m g)(l:fs.lookup m=none)(h:Q (.ref g,[.ref a]) s):wpAny (model X.prog X.w) A (getMethod (.ref a) m pl) Q E s:=by
 obtain ⟨mA,zy,r,_,_,_⟩:=nV I.hok e;have hn:mA m=none:=RelO.none_of (by rw [<- l];exact r m);exact ajL I.kIn zy (c.get m) k.at_ k.fn hn h
theorem ahz{y:V}{u:Value}{Q:Unit->Shared->Prop}(I:Inv X pins O H s)(e:H a=some (.ins C dx fs))(c:Cls X.K C)(n:NoAttr X.K C f)(hl:fs.length<1000)(ry:RelV y u)(h:∀ s',Inv X pins O (A0 H a (.ins C dx (putF f y fs))) s'->Q () s'):wpAny (model X.prog X.w) A (setAttr (.ref a) f u) Q E s:=by
 obtain ⟨mA,zy,r,wi,_,ho⟩:=nV I.hok e;have hz:(fs.map (·.1)).length<=sizeLine:=by rw [A8,sizeLine_eq];lia
 refine alC I.kIn zy c.sa c.po n.taker c.hd wi hz fun h' O' sb=>h _ ?_
 have hd:∃ o,h'.get? dx=some o:=let ⟨o,_,_,e',_⟩:=O'.ns;⟨o,e'⟩
 refine I.write (x:=a) (e:=dx) (by rw [e];exact True.intro) (.inr ho) (fun b q hb z=>(sb.2 b hb).trans z) hd ?_;refine ⟨by rw [A9 zy.ne];exact ho,?_,zy.ne,O'.obj,_,O'.ns,fun g=>?_,fun g hg=>?_⟩
 .have:=nU f y fs;lia
 .show RelO ((putF f y fs).lookup g) (if g=f then some u else mA g);rw [K7]
  by_cases q:g=f
  .rw [if_pos q,if_pos q];exact ry
  .rw [if_neg q,if_neg q];exact r g
 .by_cases q:g=f
  .rw [q];exact (nS f y fs).1
  .refine (nS f y fs).2 g (wi g fun z=>hg ?_);show (if g=f then some u else mA g)=none;rw [if_neg q];exact z
theorem Inv.made(I:Inv X pins O H s):Inv X pins O (A0 (A0 H s.heap.objs.size (.own (s.heap.objs.size+1))) (s.heap.objs.size+1) (.ins C s.heap.objs.size []))
  { s with heap:=(s.heap.push p3).push (x5 C s.heap.objs.size) }:=by
 have e1:(s.heap.push p3).get? s.heap.objs.size=some p3:=Heap.get?_push_size s.heap rfl;have e2:((s.heap.push p3).push (x5 C s.heap.objs.size)).get? (s.heap.objs.size+1)=some (x5 C s.heap.objs.size):=by
  have:=Heap.get?_push_size (s.heap.push p3) (o:=x5 C s.heap.objs.size) rfl
  rwa [Heap.size_push] at this
 have e3:(s.heap.push p3).Ns s.heap.objs.size (fun _=>none):=⟨p3,#[],_,e1,rfl,(fun e he=>absurd he (by simp)),fun _=>rfl⟩
 have I1:=I.laid (a:=s.heap.objs.size) (o:=.own (s.heap.objs.size+1)) (h':=s.heap.push p3) (t':=s.toks) (fun b u q=>Heap.get?_push_of_some _ q) (C3 _) ⟨_,e1⟩;refine I1.laid (a:=s.heap.objs.size+1) (o:=.ins C s.heap.objs.size []) (t':=s.toks) (fun b u q=>Heap.get?_push_of_some _ q) (Nat.le_of_eq (Heap.size_push _ _)) ?_;have ne:s.heap.objs.size≠s.heap.objs.size+1:=K8 (Nat.lt_succ_self _);refine ⟨by rw [A9 ne,A6],G3 _,ne,e2,fun _=>none,(Heap.Ns1.of_empty e3).at fun o q=>Heap.get?_push_of_some _ q,fun _=>True.intro,fun y hy=>absurd rfl hy⟩
theorem alD{prog:Program}{w:World}{env:Env}{e:Expr}{f:Str}{pos:Pos}{s:Shared}{Q:Value->Shared->Prop}(hb:attributeBase e f env (eval e env)=eval e env)(h:wpAny (model prog w) A (eval e env) (fun o zu=>wpAny (model prog w) A (getAttr o f true) Q E zu) E s):wpAny (model prog w) A (eval (.Attribute e f pos) env) Q E s:=
 Attribute_any_ h (by rw [arm_eval_Attribute,hb])
end
def tFld(K:PySem.W.Frag)(ta:TE)(f:Str):TE:=fun O H Q=>ta O H fun x H1=>∃ a C dx fs v,x=.ref a/\H1 a=some (.ins C dx fs)/\Cls K C/\NoAttr K C f/\fs.lookup f=some v/\Q v H1
def sFld(K:PySem.W.Frag)(ta tv:TE)(f:Str):TS:=fun D O H=>tv O H fun y H1=>ta O H1 fun x H2=>∃ a C dx fs,x=.ref a/\H2 a=some (.ins C dx fs)/\Cls K C/\NoAttr K C f/\fs.length<1000/\
 D.nx O (A0 H2 a (.ins C dx (putF f y fs)))
def InOp(X:Cx)(op:Operator)(rd:V->V->Hp->VK->Prop):Prop:=
 ∀ (pins:List (Addr×Obj)) (s:Shared) (O:St) (H:Hp) (x y:V) (u v:Value) (Q:VK),Inv X pins O H s->RelV x u->RelV y v->rd x y H Q->wpAny (model X.prog X.w) X.A (inplaceOp op u v) (EP X pins O Q) X.xe s
section
variable {X:Cx} {o e value:Expr} {f:Str} {pos pos' tpos:Pos} {ta tv:TE}
theorem ank(he:PE X e ta)(hb:attributeBase e f X.env (eval e X.env)=eval e X.env):PE X (.Attribute e f pos) (tFld X.K ta f):=by
 intro pins s O H Q I h;refine alD hb (C2 (he pins s O H _ I h) fun u s1 ⟨x,H1,I1,rx,a,C,dx,fs,v,ex,ea,c,n,l,q⟩=>?_);subst ex;obtain rfl:u=Value.ref a:=rx;exact ahy I1 ea c n l fun u' s2 I2 ru=>⟨v,H1,I2,ru,q⟩
theorem anl(ha:PE X o ta)(hv:PE X value tv)(hs:swapsWith value (some (.Attribute o f pos')) pos.line X.env=pure false):PS X (.Assign [.Attribute o f pos'] value pos) (sFld X.K ta tv f):=by
 intro pins s O H D I h;refine plainObj_wpAny_Assign_Attribute (C2 (hv pins s O H _ I h) fun u s1 ⟨y,H1,I1,ry,q⟩=>C2 (ha pins s1 O H1 _ I1 q) fun ov s2 ⟨x,H2,I2,rx,a,C,dx,fs,ex,ea,c,n,l,q2⟩=>?_) hs;subst ex;obtain rfl:ov=Value.ref a:=rx;exact ahz I2 ea c n l ry fun s3 I3=>⟨O,_,I3,q2⟩
def rAdd:V->V->Hp->VK->Prop:=fun x y H Q=>∃ i j,x=.int i/\y=.int j/\Q (.int (i+j)) H
def rSub:V->V->Hp->VK->Prop:=fun x y H Q=>∃ i j,x=.int i/\y=.int j/\Q (.int (i-j)) H
theorem anm:InOp X .Add rAdd:=by
 rintro pins s O H x y u v Q I rx ry ⟨i,j,rfl,rfl,q⟩;obtain ⟨t,rfl⟩:=(show ∃ t,u=Value.int i t from rx)
 obtain ⟨t',rfl⟩:=(show ∃ t',v=Value.int j t' from ry)
 exact PyProof.Rows.iadd_int ⟨.int (i+j),H,I.tok _,⟨_,rfl⟩,q⟩
theorem ann:InOp X .Sub rSub:=by
 rintro pins s O H x y u v Q I rx ry ⟨i,j,rfl,rfl,q⟩;obtain ⟨t,rfl⟩:=(show ∃ t,u=Value.int i t from rx)
 obtain ⟨t',rfl⟩:=(show ∃ t',v=Value.int j t' from ry)
 exact PyProof.Rows.isub_int ⟨.int (i-j),H,I.tok _,⟨_,rfl⟩,q⟩
end
section
variable {X:Cx} {pins:List (Addr×Obj)} {O:St} {H:Hp} {s:Shared} {A:Around} {E:Value->Shared->Prop} {Q:Value->Shared->Prop} {c:Value} {b:Bool}
end
end L2
namespace L2
open PySem PySem.Spec PyProof.Rows
structure Room(k:Nat)(A:Around):Prop where
 hd:A.handled=none
 dp:A.depth+3*k+5<recursionLimit
 un:A.units+16*k+200<cLine
 gd:A.guards=some []
theorem Room.mono{j k:Nat}{A:Around}(r:Room k A)(h:j<=k):Room j A:=⟨r.hd,by have:=r.dp;lia,by have:=r.un;lia,r.gd⟩
theorem Room.deeper{k:Nat}{A:Around}(r:Room (k+1) A)(env:Env):Room k (A.deeper env):=
 ⟨r.hd,by have:=r.dp;show A.depth+1+3*k+5<_;lia,by have:=r.un;show A.units+3+16*k+200<_;lia,r.gd⟩
theorem ahA{A:Around}{C:Addr}{us:List Value}{kw:List (Str×Value)} : (A.under (.builtin "type.__call__" ⟨.ref C::us,kw⟩)).depth=A.depth+1:=by
 first | rfl | simp [Around.under,Code.weight,Code.isCreation,Code.isGuard,Code.isCaller,Code.frames,Code.isFrame,guardIds]
theorem ahB{A:Around}{C:Addr}{us:List Value}{kw:List (Str×Value)} : (A.under (.builtin "type.__call__" ⟨.ref C::us,kw⟩)).units=A.units+1:=by
 first | rfl | simp [Around.under,Code.cUnits,Code.frames,Code.isFrame]
theorem Room.make{k:Nat}{A:Around}(r:Room (k+1) A)(C:Addr)(us:List Value)(kw:List (Str×Value)):Room k (A.under (.builtin "type.__call__" ⟨.ref C::us,kw⟩)):=
 ⟨r.hd,by have:=r.dp;rw [ahA];lia,by have:=r.un;rw [ahB];lia,r.gd⟩
theorem Room.depth{k:Nat}{A:Around}(r:Room k A):A.depth<recursionLimit:=by have:=r.dp;lia
theorem Room.units{k:Nat}{A:Around}(r:Room k A):A.units+64<cLine:=by have:=r.un;lia
def tNil:TA:=fun _ H Q=>Q [] H
def tCons(ta:TE)(tr:TA):TA:=fun O H Q=>ta O H fun x H1=>tr O H1 fun xs H2=>Q (x::xs) H2
section
variable {X:Cx} {e:Expr} {es:List Expr} {te:TE} {t:TA} {pos:Pos}
theorem ano:PA X [] tNil:=fun _ _ _ _ H Q I h=>Calls.spliced_nil ⟨[],H,I,.nil,h⟩
theorem alE(ha:PE X e te)(hr:PA X es t)(hs:starEach (e::es) X.env=(false,eval e X.env)::starEach es X.env:=by rfl):PA X (e::es) (tCons te t):=by
 intro pos pins s O H Q I h;rw [hs];show wpAny _ _ (spliced ((false,eval e X.env)::backTo pos (starEach es X.env))) _ _ s;refine Calls.spliced_cons (C2 (ha pins s O H _ I h) fun u s1 ⟨x,H1,I1,r1,q1⟩=>?_);exact C2 (hr pos pins s1 O H1 _ I1 q1) fun us s2 ⟨xs,H2,I2,r2,q2⟩=>⟨x::xs,H2,I2,.cons r1 r2,q2⟩
def tTup(t:TA):TE:=fun O H Q=>t O H fun xs H1=>xs.length<=sizeLine/\∀ p,H1 p=none->Q (.ref p) (A0 H1 p (.tup xs))
def tLst(t:TA):TE:=fun O H Q=>t O H fun xs H1=>xs.length<=sizeLine/\∀ p,H1 p=none->Q (.ref p) (A0 H1 p (.lst xs))
theorem anp{x1}(h:PA X es t):PE X (.Tuple es x1 pos) (tTup t):=by
 intro pins s O H Q I hq;refine wpAny_Tuple_spliced (C2 (h pos pins s O H _ I hq) fun us s1 ⟨xs,H1,I1,r,z,q⟩=>⟨by rw [<- r.length];exact z,?_⟩);have hf:H1 s1.heap.objs.size=none:=I1.hok.fresh (C3 _);refine ⟨.ref s1.heap.objs.size,A0 H1 s1.heap.objs.size (.tup xs),I1.laid (t':=s1.toks) (fun b u e=>Heap.get?_push_of_some _ e) (C3 _) ?_,rfl,q _ hf⟩;exact ⟨z,us,r,⟨_,Heap.get?_push_size _ rfl,rfl,_,rfl⟩⟩
theorem anq(h:PA X es t):PE X (.List es pos) (tLst t):=by
 intro pins s O H Q I hq;refine wpAny_List_spliced (C2 (h pos pins s O H _ I hq) fun us s1 ⟨xs,H1,I1,r,z,q⟩=>⟨by rw [<- r.length];exact z,?_⟩);have hf:H1 s1.heap.objs.size=none:=I1.hok.fresh (C3 _);refine ⟨.ref s1.heap.objs.size,A0 H1 s1.heap.objs.size (.lst xs),I1.laid (t':=s1.toks) (fun b u e=>Heap.get?_push_of_some _ e) (C3 _) ?_,rfl,q _ hf⟩;exact ⟨z,us,0,r,Heap.get?_push_size _ rfl⟩
end
abbrev Sp:=List V->Hp->VK->XK->Prop
abbrev X5:=List Env->Hp->Shared->XK->Value->Shared->Prop
structure Env0(P:Program)(w:World)(K:PySem.W.Frag)(mg:Str->Option Value)(base:Heap)(A:Around)(outer:List Env)(s:Shared)(H:Hp):Prop where
 frames:A.frames=some outer
 mod:Mod K mg base
 bs:∀ b o,base.get? b=some o->s.heap.get? b=some o/\H b=none
 bsz:base.objs.size<=s.heap.objs.size
 funs:s.heap.FunFrames base outer
 frf:∀ b∈f6 outer,H b=none
 hok:L5 P w H s.heap
 bare:AllBare s.gens
def CE(outer:List Env)(P:Program)(w:World)(H:Hp)(s:Shared)(Q:VK)(u:Value)(s':Shared):Prop:=
 ∃ v H',s'.os=s.os/\AllBare s'.gens/\Un (f6 outer) [] H H' s.heap s'.heap/\L5 P w H' s'.heap/\RelV v u/\Q v H'
def CR(CX:X5)(outer:List Env)(P:Program)(w:World)(H:Hp)(s:Shared)(Q:VK)(E:XK)(r:Result)(s':Shared):Prop:=
 match r with
 | .ok (.ret u)=>CE outer P w H s Q u s'
 | .ok _=>False
 | .error e=>CX outer H s E e s'
structure FnOk(P:Program)(w:World)(K:PySem.W.Frag)(mg:Str->Option Value)(base:Heap)(CX:X5)(k:Nat)(f:Addr)(fd:FuncData)(ps:List Str)(sp:Sp):Prop where
 len:∀ vs H Q E,sp vs H Q E->vs.length=ps.length
 run:∀ (A:Around) (outer:List Env) (s:Shared) (H:Hp) (args:Args) (us:List Value) (vs:List V) (Q:VK) (E:XK),Room k A->Env0 P w K mg base A outer s H->BindsTo s fd args (ps.zip us)->Vals vs us->sp vs H Q E->
  codeAny (model P w) A (.call (.ref f) args) (CR CX outer P w H s Q E) s
theorem Env0.make{P:Program}{w:World}{K:PySem.W.Frag}{mg:Str->Option Value}{base:Heap}{A:Around}{outer:List Env}{s:Shared}{H:Hp}(e:Env0 P w K mg base A outer s H)(C:Addr)(us:List Value)(kw:List (Str×Value)) :
  Env0 P w K mg base (A.under (.builtin "type.__call__" ⟨.ref C::us,kw⟩)) outer s H:=⟨by first | exact e.frames | (simpa [Around.under,Code.envs,Code.isFrame,pushEnvs] using e.frames),e.mod,e.bs,e.bsz,e.funs,e.frf,e.hok,e.bare⟩
section
variable {X:Cx} {pins:List (Addr×Obj)} {O:St} {H:Hp} {s s':Shared}
theorem Inv.env0(I:Inv X pins O H s):Env0 X.prog X.w X.K X.mg X.base X.A X.stack s H:=
 ⟨I.ok.frames,I.ok.mod,I.bs,M8 I.ok.bsz I.sz,I.stack,I.stkFree,I.hok,I.bare⟩
theorem Inv.after{Q:VK}{u:Value}(I:Inv X pins O H s)(h:CE X.stack X.prog X.w H s Q u s'):EP X pins O Q u s':=by
 obtain ⟨v,H',os,bare,un,hok,r,q⟩:=h;obtain ⟨hh,g,d,t,os'⟩:=s';obtain rfl:os'=s.os:=os;exact ⟨v,H',I.call (h':=hh) (g':=g) (d':=d) (t':=t) (ch:=[]) un hok bare (fun b z=>absurd z (by simp)),r,q⟩
end
def tCall(sp:Sp)(dvs:List V)(E:XK)(t:TA):TE:=fun O H Q=>t O H fun vs H1=>sp (vs++dvs) H1 Q E
def tMeth(C:Addr)(m:Str)(sp:Sp)(dvs:List V)(E:XK)(ta:TE)(t:TA):TE:=fun O H Q=>ta O H fun x H1=>∃ a dx fs,x=.ref a/\H1 a=some (.ins C dx fs)/\fs.lookup m=none/\
 t O H1 fun vs H2=>sp (x::(vs++dvs)) H2 Q E
def tMake(C:Addr)(sp:Sp)(dvs:List V)(E:XK)(t:TA):TE:=fun O H Q=>t O H fun vs H1=>∀ x dx,H1 x=none->H1 dx=none->dx≠x->
 sp (.ref x::(vs++dvs)) (A0 (A0 H1 dx (.own x)) x (.ins C dx [])) (fun v H2=>v=.non/\Q (.ref x) H2) E
def Binds(K:PySem.W.Frag)(fd:FuncData)(ps:List Str)(ds:List Value):Prop:=
 ∀ (s:Shared) (us:List Value),K.In s.heap->(us++ds).length=ps.length->BindsTo s fd ⟨us,[]⟩ (ps.zip (us++ds))
theorem Binds.all{K:PySem.W.Frag}{fd:FuncData}{ps:List Str}(h:∀ us:List Value,us.length=ps.length->bindArgs fd ⟨us,[]⟩=pure (ps.zip us)):Binds K fd ps []:=fun s us _ hl=>by
 rw [M0] at hl ⊢
 exact .of_eq (h us hl)
def bL(CX:X5)(X:Cx)(E:XK):Prop:=∀ (pins:List (Addr×Obj)) (O:St) (H:Hp) (s:Shared) (e:Value) (s':Shared),Inv X pins O H s->CX X.stack H s E e s'->X.xe e s'
section
variable {X:Cx} {CX:X5} {k:Nat} {f C:Addr} {fd:FuncData} {ps:List Str} {sp:Sp} {dvs:List V} {ds:List Value} {E:XK} {x m:Str} {p pos apos:Pos} {e o:Expr} {es:List Expr} {ta:TE} {t:TA}
theorem nW{pins:List (Addr×Obj)}{O:St}{H:Hp}{s:Shared}{Q:VK}{us:List Value}{vs:List V}(F:FnOk X.prog X.w X.K X.mg X.base CX k f fd ps sp)(hr:Room k X.A)(hb:Binds X.K fd ps ds)(hd:Vals dvs ds)(hx:bL CX X E)(I:Inv X pins O H s)(r:Vals vs us)(h:sp (vs++dvs) H Q E):wpAny (model X.prog X.w) X.A (call (.ref f) us) (EP X pins O Q) X.xe s:=by
 have r2:Vals (vs++dvs) (us++ds):=r.append hd;have hl:(us++ds).length=ps.length:=by rw [<- r2.length];exact F.len _ _ _ _ h
 refine wpAny_call (codeAny_mono (F.run X.A X.stack s H ⟨us,[]⟩ (us++ds) (vs++dvs) Q E hr I.env0 (hb s us I.kIn hl) r2 h) fun r s' hq=>?_)
 cases r with
 | error e=>exact hx pins O H s e s' I hq
 | ok fl=>
  cases fl with
  | ret u=>exact I.after hq
  | next=>exact False.elim hq
  | brk=>exact False.elim hq
  | cont=>exact False.elim hq
theorem alF(F:FnOk X.prog X.w X.K X.mg X.base CX k f fd ps sp)(hr:Room k X.A)(hg:Gl X x)(hm:X.mg x=some (.ref f))(hk:R4 X.K (.ref f)=true)(hb:Binds X.K fd ps ds)(hd:Vals dvs ds)(hx:bL CX X E)(ha:PA X (e::es) t)(P7:(x==("__debug__" : Str))=false:=by decide)(he:starEach (e::es) X.env=(false,eval e X.env)::starEach es X.env:=by rfl)(T4:(backTo pos (starEach es X.env)).any (·.1)=false:=by rfl) :
  PE X (.Call (.Name x p) (e::es) [] pos) (tCall sp dvs E t):=by
 intro pins s O H Q I h;refine wpAny_Call_Name_kw (nG I hg hm ?_ P7);refine PySem.W.callWith_K (h₀:=X.base) I.ok.mod.kin hk (C2 (ha pos pins s O H _ I h) fun us s1 ⟨vs,H1,I1,r,q⟩=>⟨I1.kIn,?_⟩) he T4;exact nW F hr hb hd hx I1 r q
theorem alG{pl:Sem Bool}(he:PE X o ta)(c:Cls X.K C)(hm:Meth X.K C m f)(F:FnOk X.prog X.w X.K X.mg X.base CX k f fd ps sp)(hr:Room k X.A)(hb:Binds X.K fd ps ds)(hd:Vals dvs ds)(hx:bL CX X E)(ha:PA X (e::es) t)(W4:starEach (e::es) X.env=(false,eval e X.env)::starEach es X.env:=by rfl)(T4:(backTo pos (starEach es X.env)).any (·.1)=false:=by rfl)(ht:eval (.Call (.Attribute o m apos) (e::es) [] pos) X.env=(do
   let ov <- eval o X.env
   standAt apos.atName
   let (f,first) <- holding [ov] (getMethod ov m pl)
   callWith pos f first (backTo pos (starEach (e::es) X.env)) (backToKw pos (keywordEach [] X.env))):=by rfl) :
  PE X (.Call (.Attribute o m apos) (e::es) [] pos) (tMeth C m sp dvs E ta t):=by
 intro pins s O H Q I h;refine PySem.W.methodCall_KW (pl:=pl) (C2 (he pins s O H _ I h) fun u s1 ⟨x,H1,I1,rx,a,dx,fs,ex,ea,l,q⟩=>?_) ht;subst ex;obtain rfl:u=Value.ref a:=rx;refine vG I1 ea c hm l ?_;refine PySem.W.callWith_K (first:=[.ref a]) (h₀:=X.base) I.ok.mod.kin hm.kp (C2 (ha pos pins s1 O H1 _ I1 q) fun us s2 ⟨vs,H2,I2,r,q2⟩=>⟨I2.kIn,?_⟩) W4 T4;exact nW (us:=.ref a::us) (vs:=.ref a::vs) F hr hb hd hx I2 (.cons rfl r) q2
theorem ajN{pl:Sem Bool}(he:PE X o ta)(c:Cls X.K C)(hm:Meth X.K C m f)(F:FnOk X.prog X.w X.K X.mg X.base CX k f fd ps sp)(hr:Room k X.A)(hb:Binds X.K fd ps ds)(hd:Vals dvs ds)(hx:bL CX X E)(ht:eval (.Call (.Attribute o m apos) [] [] pos) X.env=(do
   let ov <- eval o X.env
   standAt apos.atName
   let (f,first) <- holding [ov] (getMethod ov m pl)
   callWith pos f first (backTo pos (starEach [] X.env)) (backToKw pos (keywordEach [] X.env))):=by rfl) :
  PE X (.Call (.Attribute o m apos) [] [] pos) (tMeth C m sp dvs E ta tNil):=by
 intro pins s O H Q I h;refine PySem.W.methodCall_KW (pl:=pl) (C2 (he pins s O H _ I h) fun u s1 ⟨x,H1,I1,rx,a,dx,fs,ex,ea,l,q⟩=>?_) ht;subst ex;obtain rfl:u=Value.ref a:=rx;refine vG I1 ea c hm l ?_;exact PySem.W.callWith_K0 (first:=[.ref a]) I1.kIn hm.kp (nW (us:=[.ref a]) (vs:=[.ref a]) F hr hb hd hx I1 (.cons rfl .nil) q)
structure Mk(K:PySem.W.Frag)(C f:Addr):Prop where
 makes:PySem.W.makesIn K C=true
 init:O6 K (.ref C) "__init__"=some (some (.ref f))
 fn:p4 K (.ref f)=true
 kp:R4 K (.ref C)=true
theorem ajO{pins:List (Addr×Obj)}{O:St}{H:Hp}{s:Shared}{Q:VK}{us:List Value}{vs:List V}(M:Mk X.K C f)(F:FnOk X.prog X.w X.K X.mg X.base CX k f fd ps sp)(hr:Room (k+1) X.A)(hb:Binds X.K fd ps ds)(hd:Vals dvs ds)(hx:bL CX X E)(I:Inv X pins O H s)(r:Vals vs us)(h:∀ x dx,H x=none->H dx=none->dx≠x->sp (.ref x::(vs++dvs)) (A0 (A0 H dx (.own x)) x (.ins C dx [])) (fun v H2=>v=.non/\Q (.ref x) H2) E) :
  wpAny (model X.prog X.w) X.A (call (.ref C) us) (EP X pins O Q) X.xe s:=by
 have hq:=h (s.heap.objs.size+1) s.heap.objs.size (I.hok.fresh (Nat.le_succ _)) (I.hok.fresh (C3 _)) (K8 (Nat.lt_succ_self _));have I2:=Inv.made (C:=C) I;have r2:Vals (V.ref (s.heap.objs.size+1)::(vs++dvs)) (Value.ref (s.heap.objs.size+1)::(us++ds)):=.cons rfl (r.append hd);have hl:(Value.ref (s.heap.objs.size+1)::us++ds).length=ps.length:=by
  have e:=r2.length;rw [F.len _ _ _ _ hq] at e;exact e.symm
 refine wpAny_call (ajM (f:=f) I.kIn M.makes M.init (beq_iff_eq.mp M.fn) (codeAny_mono (F.run _ X.stack _ _ ⟨Value.ref (s.heap.objs.size+1)::us,[]⟩ (Value.ref (s.heap.objs.size+1)::(us++ds)) _ _ E (hr.make C us [])
  (I2.env0.make C us []) (hb _ (Value.ref (s.heap.objs.size+1)::us) I2.kIn hl) r2 hq) fun r s' t8=>?_))
 cases r with
 | error e=>exact hx pins O _ _ e s' I2 t8
 | ok fl=>
  cases fl with
  | ret u=>
   obtain ⟨v,H',I3,rv,ev,q3⟩:=I2.after t8;subst ev;exact ⟨rv,⟨V.ref (s.heap.objs.size+1),H',I3,rfl,q3⟩⟩
  | next=>exact False.elim t8
  | brk=>exact False.elim t8
  | cont=>exact False.elim t8
theorem alH(M:Mk X.K C f)(F:FnOk X.prog X.w X.K X.mg X.base CX k f fd ps sp)(hr:Room (k+1) X.A)(hg:Gl X x)(hm:X.mg x=some (.ref C))(hb:Binds X.K fd ps ds)(hd:Vals dvs ds)(hx:bL CX X E)(ha:PA X (e::es) t)(P7:(x==("__debug__" : Str))=false:=by decide)(he:starEach (e::es) X.env=(false,eval e X.env)::starEach es X.env:=by rfl)(T4:(backTo pos (starEach es X.env)).any (·.1)=false:=by rfl) :
  PE X (.Call (.Name x p) (e::es) [] pos) (tMake C sp dvs E t):=by
 intro pins s O H Q I h;refine wpAny_Call_Name_kw (nG I hg hm ?_ P7);refine PySem.W.callWith_K (h₀:=X.base) I.ok.mod.kin M.kp (C2 (ha pos pins s O H _ I h) fun us s1 ⟨vs,H1,I1,r,q⟩=>⟨I1.kIn,?_⟩) he T4;exact ajO M F hr hb hd hx I1 r q
end
def PK(X:Cx)(kws:List Keyword)(t:TA):Prop:=
 ∀ (pos:Pos) (pins:List (Addr×Obj)) (s:Shared) (O:St) (H:Hp) (Q:List V->Hp->Prop),Inv X pins O H s->t O H Q->wpAny (model X.prog X.w) X.A (evalAll ((backToKw pos (keywordEach kws X.env)).map (·.2))) (AP X pins O Q) X.xe s
section
variable {X:Cx} {CX:X5} {k:Nat} {f C:Addr} {fd:FuncData} {ps ks:List Str} {sp:Sp} {E:XK} {x m:Str} {p pos apos kpos:Pos} {e o:Expr} {es:List Expr} {kws:List Keyword} {te ta:TE} {t tk:TA} {nm:Option Str}
theorem anr:PK X [] tNil:=fun _ _ _ _ H Q I h=>wpAny_evalAll_nil ⟨[],H,I,.nil,h⟩
theorem alI(ha:PE X e te)(hr:PK X kws t):PK X (⟨nm,e,kpos⟩::kws) (tCons te t):=by
 intro pos pins s O H Q I h;show wpAny _ _ (evalAll ((do let v <- eval e X.env;standAt pos;pure v)::(backToKw pos (keywordEach kws X.env)).map (·.2))) _ _ s;refine wpAny_evalAll_cons (wpAny_bind (C2 (ha pins s O H _ I h) fun u s1 ⟨x,H1,I1,r1,q1⟩=>wpAny_bind (wpAny_standAt (wpAny_pure ?_))));exact C2 (hr pos pins s1 O H1 _ I1 q1) fun us s2 ⟨xs,H2,I2,r2,q2⟩=>⟨x::xs,H2,I2,.cons r1 r2,q2⟩
variable {g:List Value->List Value->List Value} {gV:List V->List V->List V}
end
structure FnScope(N P:List Str)(sc:Scope):Prop where
 kind:sc.kind=.function
 co:sc.isCoroutine=false
 gen:sc.isGenerator=false
 nd:N.Nodup
 pre:N.take P.length=P
 par:∀ x∈P,sc.names.lookup x=some .local\/sc.names.lookup x=some .cell
 nofree:∀ y∈sc.names,y.2≠.free
theorem vH{kindOf:Str->Option NameKind}{x:Str} : ∀ {binds:List (Str×Value)} {m:Str->Option Value},(∀ v,(x,v)∉binds)->bindL kindOf binds m x=m x
 | [],_,_=>rfl
 | (n,v)::r,m,h=>by
  unfold bindL;rw [vH fun w hw=>h w (M6 _ hw)]
  split
  .have:x≠n:=by rintro rfl;exact h v K1
   simp [this]
  .rfl
theorem vI{kindOf:Str->Option NameKind}{x:Str} : ∀ {binds:List (Str×Value)} {m:Str->Option Value},(∀ v,(x,v)∉binds)->bindC kindOf binds m x=m x
 | [],_,_=>rfl
 | (n,v)::r,m,h=>by
  unfold bindC;rw [vI fun w hw=>h w (M6 _ hw)]
  split
  .rfl
  .have:x≠n:=by rintro rfl;exact h v K1
   simp [this]
theorem vJ{kindOf:Str->Option NameKind}{x:Str}{v:Value} : ∀ {P:List Str} {vs:List Value} {i:Nat} {m:Str->Option Value},P.Nodup->P[i]?=some x->vs[i]?=some v->kindOf x=some .local->
  bindL kindOf (P.zip vs) m x=some v
 | [],_,_,_,_,h,_,_=>by simp at h
 | _::_,[],_,_,_,_,h,_=>by simp at h
 | p::P,w::vs,0,m,nd,h1,h2,hk=>by
  simp at h1 h2;subst h1;subst h2;show bindL kindOf ((p,w)::P.zip vs) m p=_;unfold bindL;rw [vH fun v hv=>(V0.mp nd).1 (List.of_mem_zip hv).1,if_pos hk]
  simp
 | p::P,w::vs,i+1,m,nd,h1,h2,hk=>by
  show bindL kindOf ((p,w)::P.zip vs) m x=_;unfold bindL;exact vJ (i:=i) (V0.mp nd).2 (by simpa using h1) (by simpa using h2) hk
theorem vK{kindOf:Str->Option NameKind}{x:Str}{v:Value} : ∀ {P:List Str} {vs:List Value} {i:Nat} {m:Str->Option Value},P.Nodup->P[i]?=some x->vs[i]?=some v->kindOf x≠some .local->
  bindC kindOf (P.zip vs) m x=some v
 | [],_,_,_,_,h,_,_=>by simp at h
 | _::_,[],_,_,_,_,h,_=>by simp at h
 | p::P,w::vs,0,m,nd,h1,h2,hk=>by
  simp at h1 h2;subst h1;subst h2;show bindC kindOf ((p,w)::P.zip vs) m p=_;unfold bindC;rw [vI fun v hv=>(V0.mp nd).1 (List.of_mem_zip hv).1,if_neg hk]
  simp
 | p::P,w::vs,i+1,m,nd,h1,h2,hk=>by
  show bindC kindOf ((p,w)::P.zip vs) m x=_;unfold bindC;exact vK (i:=i) (V0.mp nd).2 (by simpa using h1) (by simpa using h2) hk
def start(N:List Str)(vs:List V):St:=vs.map some++U3 (N.length-vs.length) none
def cxOf(CX:X5)(P:Program)(w:World)(K:PySem.W.Frag)(mg:Str->Option Value)(base:Heap)(N:List Str)(qual:Str)(scope:Scope)(f:Addr)(cd:Value)(A:Around)(outer:List Env)(s:Shared)(H:Hp)(E:XK):Cx where
 prog:=P
 w:=w
 K:=K
 mg:=mg
 base:=base
 A:=A.deeper (envOfC qual scope s.heap.objs.size f cd)
 N:=N
 s₀:=s
 H₀:=H
 env:=envOfC qual scope s.heap.objs.size f cd
 outer:=outer
 stack:=envOfC qual scope s.heap.objs.size f cd::outer
 ex:=[]
 calm:=true
 fn:=fun _=>true
 pn:=[]
 xe:=fun e s'=>wpAny (model P w) (A.deeper (envOfC qual scope s.heap.objs.size f cd)) (leaving (envOfC qual scope s.heap.objs.size f cd) e) (fun _ s''=>CX outer H s E e s'') (fun e' s''=>CX outer H s E e' s'') s'
theorem vL{sc:Scope}{n:Nat}{x:Str}(h:sc.names.lookup x=some .cell):∃ c,(cellsFrom n sc.names []).lookup x=some c:=by
 have q:=PySem.W.cellsFrom_some sc.names n [] (.inl h);exact Option.isSome_iff_exists.mp q
theorem air{CX:X5}{P:Program}{w:World}{K:PySem.W.Frag}{mg:Str->Option Value}{base:Heap}{N ps:List Str}{qual:Str}{scope:Scope}{f:Addr}{cd:Value}{A:Around}{outer:List Env}{s s1:Shared}{H:Hp}{E:XK}{us:List Value}{vs:List V}(S:FnScope N ps scope)(hd:A.handled=none)(e0:Env0 P w K mg base A outer s H)(hl:vs.length=ps.length)(r:Vals vs us)(x:InCallC s s.heap.objs.size (bindL (envOfC qual scope s.heap.objs.size f cd).kindOf (ps.zip us) fun _=>none) (cellsFrom (s.heap.objs.size+1) scope.names []) (bindC (envOfC qual scope s.heap.objs.size f cd).kindOf (ps.zip us) fun _=>none) s1) :
  Inv (cxOf CX P w K mg base N qual scope f cd A outer s H E) [] (start N vs) H s1:=by
 have T4:ps.length<=N.length:=by have:=congrArg W0 S.pre;rw [K5] at this;lia
 obtain ⟨h1,tk,rfl,hk⟩:=x.done;have noA:∀ b:Addr,b∉(cxOf CX P w K mg base N qual scope f cd A outer s H E).ex:=fun b z=>absurd (show b∈([]:List Addr) from z) (by simp)
 refine ⟨⟨e0.mod,S.kind,rfl,rfl,C3 _,fun y z c h1 h2=>?_,fun y hy=>?_,fun y c _ h=>?_,fun _=>hd,Around.frames_deeper e0.frames,.inr ⟨rfl,rfl⟩,fun b z=>absurd z (noA b),e0.bs,e0.bsz,fun b _ _=>noA b,fun b z=>absurd z (noA b),e0.funs,e0.frf⟩,
  rfl,e0.bare,Un.kept hk,⟨_,x.toInCall.ns,fun i y v h1 h2 h3=>?_⟩,fun y c h=>⟨_,x.cell y c h⟩,e0.hok.fresh (C3 _),fun y c h=>?_,fun p hp=>absurd (show p∈([]:List (Addr×Obj)) from hp) (by simp),e0.hok.kept hk,?_⟩
 .exact name_of_addr x.apart (PySem.mem_of_lookup h1) (PySem.mem_of_lookup h2)
 .have hy:scope.names.lookup y=some .cell\/scope.names.lookup y=some .free:=hy
  rcases hy with hy | hy
  .exact vL hy
  .exact absurd rfl (S.nofree _ (PySem.mem_of_lookup hy))
 .exact Nat.le_of_lt (x.above y c (PySem.mem_of_lookup h))
 .have hi:i<vs.length:=by
   unfold start at h2
   by_cases hi:i<vs.length
   .exact hi
   .rw [fN (by simpa using hi)] at h2;rw [List.getElem?_replicate] at h2
    split at h2 <;> cases h2
  have ha:vs[i]?=some v:=by
   unfold start at h2;rw [jR (by simpa using hi),U9] at h2;cases e:vs[i]? with
   | none=>rw [e] at h2;cases h2
   | some a=>rw [e] at h2;cases h2;rfl
  obtain ⟨u,hu,rv⟩:=r.get ha;have hp:ps[i]?=some y:=by
   rw [<- S.pre,List.getElem?_take_of_lt (by lia)];exact h1
  have ndP:ps.Nodup:=by rw [<- S.pre];exact S.nd.sublist (List.take_sublist _ _)
  refine ⟨u,rv,?_⟩
  rcases S.par y (N7 hp) with k | k
  .exact .inl ⟨k,vJ ndP hp hu k⟩
  .obtain ⟨c,e⟩:=vL (n:=s.heap.objs.size+1) k;refine .inr ⟨.inl k,c,e,?_⟩;have q:=x.cell y c e;rw [vK ndP hp hu (by show scope.names.lookup y≠_;rw [k];decide)] at q;exact q
 .exact e0.hok.fresh (Nat.le_of_lt (x.above y c (PySem.mem_of_lookup h)))
 .unfold start;show _=N.length;rw [C8,A8,List.length_replicate];lia
theorem fn_of{CX:X5}{P:Program}{w:World}{K:PySem.W.Frag}{mg:Str->Option Value}{base:Heap}{k:Nat}{f:Addr}{name qual:Str}{params:Arguments}{body:List Stmt}{scope:Scope}{dV kV doc pm cdv ct oc:Value}{an od:Option Addr}{osl:Array (Option Value)}{N ps:List Str}{sp:Sp}(lk:K.lookup f=some ⟨oc,od,.func (Q5 name qual params body scope dV kV doc pm an cdv ct),osl⟩)(P6:V1 K cdv qual=true)(S:FnScope N ps scope)(len:∀ vs H Q E,sp vs H Q E->vs.length=ps.length)(i7:∀ (A:Around) (outer:List Env) (s:Shared) (H:Hp) (vs:List V) (Q:VK) (E:XK),Room k (A.deeper (envOfC qual scope s.heap.objs.size f cdv))->sp vs H Q E->
   ∃ t,V2 (cxOf CX P w K mg base N qual scope f cdv A outer s H E) body t/\t { nx:=fun _ H'=>Q .non H',rt:=Q } (start N vs) H) :
  FnOk P w K mg base CX (k+1) f (Q5 name qual params body scope dV kV doc pm an cdv ct) ps sp:=by
 refine ⟨len,fun A outer s H args us vs Q E hr e0 hb r aO=>?_⟩;have hl:=len _ _ _ _ aO;have KX:K.In s.heap:=e0.mod.kin.keeps fun b o e=>(e0.bs b o e).1
 have lim:s.heap.NoLimit:=e0.mod.nolimit.keeps fun b o e=>(e0.bs b o e).1
 have iL:∀ y∈ps.zip us,scope.names.lookup y.1=some .local\/(scope.names.lookup y.1=some .cell/\((cellsFrom (s.heap.objs.size+1) scope.names []).lookup y.1).isSome=true):=fun ⟨n,v⟩ hy=>by
  rcases S.par n (List.of_mem_zip hy).1 with q | q
  .exact .inl q
  .exact .inr ⟨q,PySem.W.cellsFrom_some _ _ _ (.inl q)⟩
 refine codeAny_call_function hr.depth (KX _ _ lk) rfl S.co S.gen rfl (PySem.W.codeRec_of KX P6) (hb _ _ _ _ ?_);refine wpAny_newFunctionEnv_cells S.kind iL fun env he s1 x=>?_
 subst he;refine ⟨lim.keeps x.toInCall.keep,codeAny_func ?_⟩;obtain ⟨t,ht,hq⟩:=i7 A outer s H vs Q E (hr.deeper _) aO;have I:Inv (cxOf CX P w K mg base N qual scope f cdv A outer s H E) [] (start N vs) H s1:=air S hr.hd e0 hl r x;refine wpAny_mono (ht [] s1 (start N vs) H _ I hq) (fun fl s' hs=>?_) fun e s' hs=>hs
 have fin:∀ {σ':St} {H':Hp} {v:V} {u:Value},Inv (cxOf CX P w K mg base N qual scope f cdv A outer s H E) [] σ' H' s'->RelV v u->Q v H'->CE outer P w H s Q u s':=
  fun {σ' H' v u} J rv q=>⟨v,H',J.os,J.bare,J.base,J.hok,rv,q⟩
 cases fl with
 | ret u=>
  obtain ⟨v,σ',H',J,rv,q⟩:=hs;exact fin J rv q
 | next=>
  obtain ⟨σ',H',J,q⟩:=hs;exact fin (v:=V.non) (u:=Value.none) J rfl q
 | brk=>
  obtain ⟨_,_,_,q⟩:=hs;exact False.elim q
 | cont=>
  obtain ⟨_,_,_,q⟩:=hs;exact False.elim q
end L2
section
variable {C a b f fa it p pl r sl:PySem.Addr}{dvs vs xs ys:List L2.V}{Q:L2.VK}{cd ct oc pm u v vl vu:PySem.Value}{ck i j k m n t' x1:Nat}{items:Array PySem.Value}{fr ns:List Int}{its us:List PySem.Value}{s zw:PySem.Shared}{x y:L2.V}{pins:List (PySem.Addr×PySem.Obj)}{O:L2.St}{H H' H0 H1 H2 H3 zt:L2.Hp}{h h':PySem.Heap}{q qual z:PySem.Str}{L M N N' acc bad g' ks line loose ls ms ts zs:List PySem.Str}{K:PySem.W.Frag}{mg:PySem.Str->Option PySem.Value}{fd:PySem.FuncData}{sp:L2.Sp}{X:L2.Cx}{kvs:List (L2.C5×L2.V)}{prog:PySem.Program}{E:PySem.Value->PySem.Shared->Prop}{ixs pre:List Nat}{e elt iter target tg:PySem.Expr}{elts ifs:List PySem.Expr}{g:L2.TG}{c:L2.TT}{td te tl tx ty:L2.TE}{fp l₁ ps rs:List PySem.Addr}{apos cpos kpos p1 p2 pos1 spos tpos:PySem.Pos}{calm fg neg:Bool}{st:PySem.Stmt}{an od:Option PySem.Addr}{tb:L2.TS}{D:L2.Ends}{o:PySem.Obj}{ta:L2.TA}{ss:Array (Option PySem.Value)}
namespace L2
open PySem PySem.Spec PyProof.Rows
section
variable {X:Cx} {x:Str} {p pos:Pos} {e:Expr} {es:List Expr} {t:TA} {id T:String} {r:List V->Hp->VK->Prop}
def bM(r:List V->Hp->VK->Prop)(t:TA):TE:=fun O H Q=>t O H fun vs H1=>r vs H1 Q
theorem ajP(hc:CallR X (.builtin id) r)(hg:Gl X x)(hm:X.mg x=none)(hv:bootBuiltins x=some (.builtin id))(ha:PA X (e::es) t)(hn:x≠"__name__":=by decide)(P7:(x==("__debug__" : Str))=false:=by decide)(he:starEach (e::es) X.env=(false,eval e X.env)::starEach es X.env:=by rfl)(T4:(backTo pos (starEach es X.env)).any (·.1)=false:=by rfl):PE X (.Call (.Name x p) (e::es) [] pos) (bM r t):=by
 intro pins s O H Q I h;refine wpAny_Call_Name_kw (x9 I hg hm hv ?_ hn P7);exact PyProof.Rows.callWith_builtin1 (C2 (ha pos pins s O H _ I h) fun us s1 ⟨vs,H1,I1,r1,q1⟩=>hc pins s1 O H1 vs us Q I1 r1 q1) he T4
theorem ais(hc:CallR X (.type T) r)(hg:Gl X x)(hm:X.mg x=none)(hv:bootBuiltins x=some (.type T))(ha:PA X (e::es) t)(hn:x≠"__name__":=by decide)(P7:(x==("__debug__" : Str))=false:=by decide)(he:starEach (e::es) X.env=(false,eval e X.env)::starEach es X.env:=by rfl)(T4:(backTo pos (starEach es X.env)).any (·.1)=false:=by rfl):PE X (.Call (.Name x p) (e::es) [] pos) (bM r t):=by
 intro pins s O H Q I h;refine wpAny_Call_Name_kw (x9 I hg hm hv ?_ hn P7);exact PyProof.Rows.callWith_type1 (C2 (ha pos pins s O H _ I h) fun us s1 ⟨vs,H1,I1,r1,q1⟩=>hc pins s1 O H1 vs us Q I1 r1 q1) he T4
end
end L2
namespace HT
open PySem PyProof.Rows
section
open PySem.SeqAt
open PySem.AutoSeq1 (wpAny_loadPart')
open PySem.MeetsSeq PySem.MeetsSeq2 PySem.MeetsSeq3
end
section
variable {prog:Program} {w:World} {A:Around} {E:Value->Shared->Prop} {s:Shared}
theorem cat_tup{t:Addr}{vs ws:List Value}{Q:Value->Shared->Prop}(ht:IsTup s.heap t vs.toArray)(hb:IsTup s.heap b ws.toArray)(hv:vs≠[])(h1:ws=[]->Q (.ref t) s)(h2:ws≠[]->Q (.ref s.heap.objs.size) { s with heap:=s.heap.push { cls:=.type "tuple",data:=.seq (vs++ws).toArray } })(hsz:vs.length+ws.length<=sizeLine):wpAny (model prog w) A (binaryOp .Add (.ref t) (.ref b)) Q E s:=by
 obtain ⟨⟨cls,dd,data,sl⟩,ho,hc,n,hd⟩:=id ht;obtain ⟨⟨cls2,dd2,data2,nX⟩,mE,o3,n2,X9⟩:=id hb;simp only at hc hd o3 X9;subst hc hd o3 X9;have e:vs.toArray++ws.toArray=(vs++ws).toArray:=by simp
 by_cases hw:ws=[]
 .exact concat_meets ⟨_,ho,rfl⟩ ⟨_,mE,rfl⟩ noFill_tuple_add seq_tuple_add PySem.F.slot_tuple_add PySem.F.entry_tuple_add (PySem.F.args_tuple_add_2 _ _)
   (tuple_addW1 t b vs.toArray ws.toArray n n2 dd dd2 sl nX (by simpa using hv) (by simp [hw])) ⟨ho,mE,h1 hw⟩
 .refine concat_meets ⟨_,ho,rfl⟩ ⟨_,mE,rfl⟩ noFill_tuple_add seq_tuple_add PySem.F.slot_tuple_add PySem.F.entry_tuple_add (PySem.F.args_tuple_add_2 _ _)
   (tuple_addW2 t b vs.toArray ws.toArray n n2 dd dd2 sl nX (by simpa using hv) (by simpa using hw) (by rw [G4,G4];exact hsz)) ⟨ho,mE,?_⟩
  rw [e];exact h2 hw
def sIx(n d:Nat):Option Int->Nat
 | none=>d
 | some v=>if v<0 then (v+(n:Int)).toNat else min v.toNat n
theorem sIx_nat(n d k:Nat):sIx n d (some (k:Int))=min k n:=by
 show (if (k:Int)<0 then ((k:Int)+(n:Int)).toNat else min (k:Int).toNat n)=min k n;rw [if_neg (by lia),Int.toNat_natCast]
theorem sIx_le(n d:Nat)(hd:d<=n)(o:Option Int):sIx n d o<=n:=by
 cases o with
 | none=>exact hd
 | some v=>
  show (if v<0 then (v+(n:Int)).toNat else min v.toNat n)<=n
  by_cases hv:v<0
  .rw [if_pos hv];lia
  .rw [if_neg hv];exact Nat.min_le_right _ _
theorem clip_eq(v:Int)(n d:Nat):(if v<0 then max (v+(n:Int)) 0 else min v (n:Int))=((sIx n d (some v):Nat):Int):=by
 show (if v<0 then max (v+(n:Int)) 0 else min v (n:Int))=(((if v<0 then (v+(n:Int)).toNat else min v.toNat n):Nat):Int)
 by_cases hv:v<0
 .simp only [if_pos hv];lia
 .simp only [if_neg hv];lia
theorem ahC(lo hi:Option Int)(n:Nat):Builtin.Slice.sliceAdjust lo hi 1 (n:Int)=(((sIx n 0 lo:Nat):Int),((sIx n n hi:Nat):Int)):=by
 have h1:¬ ((1:Int)<0):=by lia
 unfold Builtin.Slice.sliceAdjust;simp only [h1,if_false];refine Prod.ext ?_ ?_
 .cases lo with
  | none=>rfl
  | some v=>exact clip_eq v n 0
 .cases hi with
  | none=>rfl
  | some v=>exact clip_eq v n n
theorem ahD(i j:Nat):Builtin.Slice.slicePlaces (i:Int) (j:Int) 1=j-i:=by
 unfold Builtin.Slice.slicePlaces;have h1:(1:Int) > 0:=by lia
 simp only [h1,if_true,Int.ediv_one]
 split <;> lia
theorem vM{o:Option Int}{Q:Option Int->Shared->Prop}(p:IsPart v o)(h:Q o s):wpAny (model prog w) A (Builtin.Slice.slicePartIndex v) Q E s:=by
 cases p with
 | none=>exact slicePart_none h
 | int i t=>exact slicePart_int h
theorem sliceApplied_gen{lo hi:Option Int}{Q:Int×Int×Nat->Shared->Prop}(hs:s.heap.IsSliceOf sl vl vu .none)(pl:IsPart vl lo)(pu:IsPart vu hi)(h:Q (((sIx n 0 lo:Nat):Int),1,sIx n n hi-sIx n 0 lo) s):wpAny (model prog w) A (Builtin.Slice.sliceApplied (.ref sl) (pure (n:Int))) Q E s:=by
 obtain ⟨os,cH,mF,iM⟩:=id hs;unfold Builtin.Slice.sliceApplied Builtin.Slice.sliceFields;refine wpAny_bind (wpAny_bind (wpAny_field cH iM (x:=vl) rfl (wpAny_bind (wpAny_field cH iM (x:=vu) rfl (wpAny_bind (wpAny_field cH iM (x:=.none) rfl (wpAny_pure ?_)))))));refine wpAny_bind (slicePart_none ?_);show wpAny _ _ (if ((1:Int)==0)=true then _ else _) _ _ s;rw [if_neg (by decide)];refine wpAny_bind (vM pl (wpAny_bind (vM pu (wpAny_bind (wpAny_pure ?_)))));show wpAny _ _ (match Builtin.Slice.sliceAdjust lo hi 1 (n:Int) with | (lo,hi)=>pure (lo,(1:Int),Builtin.Slice.slicePlaces lo hi 1)) _ _ s;rw [ahC lo hi n];show wpAny _ _ (pure (((sIx n 0 lo:Nat):Int),(1:Int),Builtin.Slice.slicePlaces ((sIx n 0 lo:Nat):Int) ((sIx n n hi:Nat):Int) 1)) _ _ s;rw [ahD];exact wpAny_pure h
theorem ajQ(xs:Array Value)(i k:Nat):((c9 k).filterMap fun (m:Nat)=>xs[((i:Int)+(m:Int)*1).toNat]?).toArray=((xs.toList.drop i).take k).toArray:=by
 have e:(fun (m:Nat)=>xs[((i:Int)+(m:Int)*1).toNat]?)=fun m=>xs[i+m]?:=by
  funext m
  have:((i:Int)+(m:Int)*1).toNat=i+m:=by lia
  rw [this]
 rw [e]
 have:=pick_run xs i k
 rw [List.filterMap_map] at this;have e2:((fun x=>xs[x]?)∘fun x=>i+x)=fun m=>xs[i+m]?:=rfl
 rw [e2] at this;rw [this]
theorem getItem_tuple_cut{t:Addr}{lo hi:Option Int}{Q:Value->Shared->Prop}(ht:IsTup s.heap t items)(hs:s.heap.IsSliceOf sl vl vu .none)(pl:IsPart vl lo)(pu:IsPart vu hi)(hw:¬ (sIx items.size 0 lo=0/\sIx items.size items.size hi=items.size))(h:Q (.ref s.heap.objs.size) { s with heap:=s.heap.push { cls:=.type "tuple",data:=.seq ((items.toList.drop (sIx items.size 0 lo)).take (sIx items.size items.size hi-sIx items.size 0 lo)).toArray } })(hsz:items.size<=sizeLine):wpAny (model prog w) A (getItem (.ref t) (.ref sl)) Q E s:=by
 have W5:sizeOk (.seq ((items.toList.drop (sIx items.size 0 lo)).take (sIx items.size items.size hi-sIx items.size 0 lo)).toArray):=by
  show ((items.toList.drop (sIx items.size 0 lo)).take (sIx items.size items.size hi-sIx items.size 0 lo)).toArray.size<=sizeLine;rw [G4,K5,k5,x6];lia
 have hj:sIx items.size items.size hi<=items.size:=sIx_le _ _ (C3 _) hi;obtain ⟨os,cH,mF,iM⟩:=id hs;have hTs:s.TypeIs (.ref sl) "slice":=⟨os,cH,mF⟩
 unfold getItem
 try with_reducible refine wpAny_holding ?_
 first | refine wpAny_bind (wpAny_pure ?_) | skip
 refine wpAny_bind (wpAny_sequenceKey ht.typeIs (by decide) ?_);refine wpAny_bind (wpAny_callSpecial?_slot (name:=Str.ofString "__getitem__") ht.typeIs PyProof.Rows.slot_tuple_getitem
  (wpAny_call_entry PyProof.Rows.slot_tuple_getitem ht.typeIs entry_tuple_getitem ?_ (args_tuple_getitem _ _)))
 show wpAny _ _ (Builtin.Tuple.tupleItemsOf (.ref t) >>= _) _ _ s;refine wpAny_bind (tupleItemsOf_ ht ?_);refine wpAny_bind (wpAny_typeOf hTs ?_);rw [if_pos (by decide)];refine wpAny_bind (sliceApplied_gen hs pl pu ?_);have iN:¬ ((((sIx items.size 0 lo:Nat):Int)==0&&(1:Int)==1&&(sIx items.size items.size hi-sIx items.size 0 lo)==items.size)=true):=by
  intro q;rw [Y8,Y8] at q;have q1:((sIx items.size 0 lo:Nat):Int)=0:=eq_of_beq q.1.1;have q2:sIx items.size items.size hi-sIx items.size 0 lo=items.size:=eq_of_beq q.2;exact hw ⟨by lia,by lia⟩
 show wpAny _ _ (if (((sIx items.size 0 lo:Nat):Int)==0&&(1:Int)==1&&(sIx items.size items.size hi-sIx items.size 0 lo)==items.size)=true then _ else _) _ _ s;rw [if_neg iN,ajQ]
 first
  | exact wpAny_bind (m:=Builtin.Tuple.tupleExact _) (wpAny_newObj_type (wpAny_pure ⟨_,rfl,wpAny_pure h⟩) W5)
  | exact wpAny_bind (m:=Builtin.Tuple.tupleExact _) (wpAny_newObj_type (wpAny_bind (wpAny_pure (wpAny_pure ⟨_,rfl,wpAny_pure h⟩))) W5)
  | exact wpAny_bind (wpAny_bind (m:=Builtin.Tuple.tupleExact _) (wpAny_newObj_type (wpAny_pure (wpAny_pure ⟨_,rfl,wpAny_pure h⟩)) W5))
  | exact wpAny_bind (wpAny_bind (m:=Builtin.Tuple.tupleExact _) (wpAny_newObj_type (wpAny_pure ⟨_,rfl,wpAny_pure h⟩) W5))
end
end HT
namespace L2
open PySem PySem.Spec PyProof.Rows
abbrev TO:=St->Hp->(Option Int->Hp->Prop)->Prop
def PO(X:Cx)(e:Option Expr)(t:TO):Prop:=
 ∀ (pins:List (Addr×Obj)) (s:Shared) (O:St) (H:Hp) (Q:Option Int->Hp->Prop),Inv X pins O H s->t O H Q->
  wpAny (model X.prog X.w) X.A (evalPart e X.env) (fun u s'=>∃ o H',Inv X pins O H' s'/\IsPart u o/\Q o H') X.xe s
def nY:TO:=fun _ H Q=>Q none H
def tPart(t:TE):TO:=fun O H Q=>t O H fun x H1=>∃ i,x=.int i/\Q (some i) H1
theorem vN : ∀ {us:List Value},Vals (ns.map V.int) us->IntsAre us ns:=by
 induction ns with
 | nil=>intro us r;rw [List.map_nil] at r;cases r;exact .nil
 | cons n ns ih=>
  intro us r;rw [G6] at r
  cases r with
  | cons r1 r2=>
   obtain ⟨t,e⟩:=r1;subst e;exact .cons n t (ih r2)
section
variable {X:Cx} {e:Expr} {te:TE} {lo hi:Option Expr} {tl th:TO} {pos p2:Pos}
theorem alJ:PO X none nY:=by
 intro pins s O H Q I h;rw [evalPart_none];exact wpAny_pure ⟨none,H,I,.none,h⟩
theorem alK(h:PE X e te):PO X (some e) (tPart te):=by
 intro pins s O H Q I hw;rw [evalPart_some];refine C2 (h pins s O H _ I hw) fun u s1 ⟨x,H1,I1,r1,q1⟩=>?_
 obtain ⟨i,rfl,q⟩:=q1;obtain ⟨t,rfl⟩:=r1;exact ⟨some i,H1,I1,.int i t,q⟩
def dP(X:Cx)(r:V->Option Int->Option Int->Hp->VK->Prop):Prop:=
 ∀ (pins:List (Addr×Obj)) (s:Shared) (O:St) (H:Hp) (x:V) (v vl vu:Value) (lo hi:Option Int) (sl:Addr) (Q:VK),Inv X pins O H s->RelV x v->s.heap.IsSliceOf sl vl vu .none->IsPart vl lo->IsPart vu hi->r x lo hi H Q->
  ∃ T id,typeLookup (.type T) "__getitem__"=pure (some (.builtin id))/\s.TypeIs v T/\wpAny (model X.prog X.w) X.A (getItem v (.ref sl)) (EP X pins O Q) X.xe s
def nZ(r:V->Option Int->Option Int->Hp->VK->Prop)(te:TE)(tl th:TO):TE:=fun O H Q=>te O H fun x H1=>tl O H1 fun l H2=>th O H2 fun u H3=>r x l u H3 Q
theorem ajR{r:V->Option Int->Option Int->Hp->VK->Prop}(hr:dP X r)(he:PE X e te)(hl:PO X lo tl)(hu:PO X hi th):PE X (.Subscript e (.Slice lo hi none p2) pos) (nZ r te tl th):=by
 intro pins s O H Q I h;refine Subscript_ (C2 (he pins s O H _ I h) fun v s1 ⟨x,H1,I1,r1,q1⟩=>?_);refine wpAny_Slice (C2 (hl pins s1 O H1 _ I1 q1) fun vl s2 ⟨l,H2,I2,pl,q2⟩=>C2 (hu pins s2 O H2 _ I2 q2) fun vu s3 ⟨u,H3,I3,pu,q3⟩=>?_);rw [evalPart_none];refine wpAny_pure ?_;have I4:Inv X pins O H3 { s3 with heap:=s3.heap.push { cls:=.type "slice",data:=.fields #[vl,vu,.none] } }:=I3.kept (t':=s3.toks) fun b ob q=>Heap.get?_push_of_some _ q
 obtain ⟨T,id,hT,ht,hg⟩:=hr pins { s3 with heap:=s3.heap.push { cls:=.type "slice",data:=.fields #[vl,vu,.none] } } O H3 x v vl vu l u s3.heap.objs.size Q I4 r1 (Heap.IsSliceOf.new ..) pl pu q3;show wpAny (model X.prog X.w) X.A (subscriptTail e (.Slice lo hi none p2) v (.ref s3.heap.objs.size)) (EP X pins O Q) X.xe { s3 with heap:=s3.heap.push { cls:=.type "slice",data:=.fields #[vl,vu,.none] } };exact tail_any (ops:=[.ref s3.heap.objs.size,v]) ht hT hg (by with_unfolding_all rfl)
def cutV(xs:List V)(lo hi:Option Int):List V:=(xs.drop (HT.sIx xs.length 0 lo)).take (HT.sIx xs.length xs.length hi-HT.sIx xs.length 0 lo)
theorem vO(xs:List V)(lo hi:Option Int):(cutV xs lo hi).length<=xs.length:=by
 unfold cutV;rw [K5,k5];lia
def rSlT(K:PySem.W.Frag):V->Option Int->Option Int->Hp->VK->Prop:=fun x lo hi H Q=>∃ a xs,x=.ref a/\C9 K H a xs/\
 ¬ (HT.sIx xs.length 0 lo=0/\HT.sIx xs.length xs.length hi=xs.length)/\∀ p,H p=none->Q (.ref p) (A0 H p (.tup (cutV xs lo hi)))
theorem ans:dP X (rSlT X.K):=by
 intro pins s O H x v vl vu lo hi sl Q I rx hs pl pu h;obtain ⟨a,xs,rfl,hx,hw,q⟩:=h
 cases rx
 obtain ⟨its,r,ht,hz⟩:=I.tuple hx;have B3:its.toArray.size=xs.length:=by rw [G4];exact r.length.symm
 refine ⟨"tuple",_,PyProof.Rows.slot_tuple_getitem.lookup,ht.typeIs,?_⟩;refine HT.getItem_tuple_cut ht hs pl pu (by rw [B3];exact hw) ?_ (by rw [B3];exact hz);rw [B3];refine ⟨.ref s.heap.objs.size,_,I.laid (t':=s.toks) (o:=.tup (cutV xs lo hi)) (fun b ob q=>Heap.get?_push_of_some _ q) (C3 _) ?_,rfl,q _ (I.hok.fresh (C3 _))⟩;exact ⟨M8 (vO xs lo hi) hz,_,(r.drop (HT.sIx xs.length 0 lo)).take (HT.sIx xs.length xs.length hi-HT.sIx xs.length 0 lo),IsTup.new _ _⟩
def rCatT(K:PySem.W.Frag):R2:=fun x y H Q=>∃ a b xs ys,x=.ref a/\y=.ref b/\C9 K H a xs/\C9 K H b ys/\xs≠[]/\xs.length+ys.length<=sizeLine/\
 (ys=[]->Q (.ref a) H)/\(ys≠[]->∀ p,H p=none->Q (.ref p) (A0 H p (.tup (xs++ys))))
theorem Vals.nil_iff(r:Vals xs us):us=[]↔xs=[]:=by
 cases r with
 | nil=>simp
 | cons _ _=>simp
theorem alL:J5 X (binaryOp .Add) (rCatT X.K):=by
 intro pins s O H x y v u Q I rx ry h;obtain ⟨a,b,xs,ys,rfl,rfl,ha,hb,hx,hz,q1,q2⟩:=h
 cases rx
 cases ry
 obtain ⟨its,r1,p1,_⟩:=I.tuple ha;obtain ⟨its2,r2,p2,_⟩:=I.tuple hb;refine HT.cat_tup p1 p2 (fun z=>hx (r1.nil_iff.mp z)) (fun z=>⟨.ref a,H,I,rfl,q1 (r2.nil_iff.mp z)⟩) (fun z=>?_) (by rw [<- r1.length,<- r2.length];exact hz);refine ⟨.ref s.heap.objs.size,_,I.laid (t':=s.toks) (o:=.tup (xs++ys)) (fun b ob q=>Heap.get?_push_of_some _ q) (C3 _) ?_,rfl,q2 (fun w=>z (r2.nil_iff.mpr w)) _ (I.hok.fresh (C3 _))⟩;exact ⟨by rw [C8];exact hz,_,r1.append r2,IsTup.new _ _⟩
end
end L2
namespace L2
open PySem PySem.Spec PyProof.Rows
def W1(n:Nat)(i:Int):Option Nat:=if 0<=i then (if i<n then some i.toNat else none) else if -(n:Int)<=i then some (i+n).toNat else none
def F7{α:Type}(xs:List α)(i:Int):Option α:=(W1 xs.length i).bind fun j=>xs[j]?
theorem alM{i:Int}(h:W1 n i=some j):seqIndex? i n=some j/\j<n/\-(n:Int)<=i/\i<n:=by
 unfold W1 at h
 by_cases h0:0<=i
 .rw [if_pos h0] at h
  by_cases h1:i<n
  .rw [if_pos h1] at h;have e:i.toNat=j:=Option.some.inj h;exact ⟨by rw [seqIndex_of h0 h1,e],by lia,by lia,h1⟩
  .rw [if_neg h1] at h;cases h
 .rw [if_neg h0] at h
  by_cases h1:-(n:Int)<=i
  .rw [if_pos h1] at h;have e:(i+n).toNat=j:=Option.some.inj h;exact ⟨by rw [seqIndex_neg (by lia) h1,e],by lia,h1,by lia⟩
  .rw [if_neg h1] at h;cases h
theorem oA{α:Type}{xs:List α}{i:Int}{v:α}(h:F7 xs i=some v):∃ j,seqIndex? i xs.length=some j/\xs[j]?=some v/\j<xs.length/\-(xs.length:Int)<=i/\i<xs.length:=by
 unfold F7 at h;cases e:W1 xs.length i with
 | none=>rw [e] at h;cases h
 | some j=>
  rw [e] at h;obtain ⟨h1,h2,h3,h4⟩:=alM e;exact ⟨j,h1,h,h2,h3,h4⟩
theorem Q2{α:Type}{xs:List α}{v:α}(h:xs[j]?=some v):F7 xs (j:Int)=some v:=by
 have hj:j<xs.length:=(K0.mp h).1;have e:W1 xs.length (j:Int)=some j:=by
  unfold W1;rw [if_pos (by lia),if_pos (by lia)];simp
 unfold F7;rw [e];exact h
theorem dQ{α:Type}(xs:List α)(v:α):F7 (xs++[v]) (-1)=some v:=by
 have hl:(xs++[v]).length=xs.length+1:=by simp
 have e:W1 (xs++[v]).length (-1)=some xs.length:=by
  unfold W1;rw [hl,if_neg (by decide),if_pos (by lia)]
  congr 1
  lia
 unfold F7;rw [e];show (xs++[v])[xs.length]?=some v
 simp
def vP(b:Expr):Prop:=∀ o i,subscripted b false o i=operate [o,i] (getItem o i)
def p8(X:Cx)(r:R2):Prop:=
 ∀ (value slice:Expr) (pins:List (Addr×Obj)) (s:Shared) (O:St) (H:Hp) (x y:V) (v u:Value) (Q:VK),Inv X pins O H s->RelV x v->RelV y u->r x y H Q->
  subscripted slice false v u=operate [v,u] (getItem v u)->wpAny (model X.prog X.w) X.A (subscriptTail value slice v u) (EP X pins O Q) X.xe s
def oB(X:Cx)(id:String)(r:V->List V->Hp->VK->Prop):Prop:=
 ∀ (pins:List (Addr×Obj)) (s:Shared) (O:St) (H:Hp) (x:V) (xs:List V) (v:Value) (us:List Value) (Q:VK),Inv X pins O H s->RelV x v->Vals xs us->r x xs H Q->
  wpAny (model X.prog X.w) X.A (call (.builtin id) (v::us)) (EP X pins O Q) X.xe s
section
variable {X:Cx} {a b:Expr} {ta tb:TE} {pos:Pos}
theorem p8.or{r r':R2}(h:p8 X r)(h':p8 X r'):p8 X (fun x y H Q=>r x y H Q\/r' x y H Q):=by
 intro value slice pins s O H x y v u Q I rx ry q hs
 rcases q with q | q
 .exact h value slice pins s O H x y v u Q I rx ry q hs
 .exact h' value slice pins s O H x y v u Q I rx ry q hs
theorem pe_ix{r:R2}(hr:p8 X r)(ha:PE X a ta)(hb:PE X b tb)(hs:vP b):PE X (.Subscript a b pos) (f8 r ta tb):=by
 intro pins s O H Q I h;exact Subscript_ (binT ha hb I h fun v u s2 x y H2 I2 rx ry q=>hr a b pins s2 O H2 x y v u Q I2 rx ry q (hs _ _))
def rIxL(K:PySem.W.Frag):R2:=fun x y H Q=>∃ p xs i v,x=.ref p/\y=.int i/\D4 K H p xs/\F7 xs i=some v/\Q v H
def rIxT(K:PySem.W.Frag):R2:=fun x y H Q=>∃ p xs i v,x=.ref p/\y=.int i/\C9 K H p xs/\F7 xs i=some v/\Q v H
def rIxS:R2:=fun x y H Q=>∃ z i c,x=.str z/\y=.int i/\z.length<=sizeLine/\F7 z.cps.toList i=some c/\Q (.str ⟨#[c]⟩) H
theorem ix_list:p8 X (rIxL X.K):=by
 intro value slice pins s O H x y v u Q I rx ry h hs;obtain ⟨p,xs,i,z,rfl,rfl,hq,he,q⟩:=h
 cases rx
 obtain ⟨t,rfl⟩:=ry;obtain ⟨its,r,pl,hz⟩:=I.list hq;obtain ⟨j,h1,h2,h3,h4,h5⟩:=oA he;obtain ⟨w,ew,rw'⟩:=r.get h2;have hl:=r.length;have hn:=gA;have fin:EP X pins O Q w s:=⟨z,H,I,rw',q⟩
 by_cases h0:0<=i
 .have hj:i.toNat=j:=by
   rw [seqIndex_of h0 h5] at h1;exact Option.some.inj h1
  exact item_listR pl.isList h0 (by lia) (by rw [hj];simpa using ew) fin hs
 .have hj:(i+(its.toArray.size:Int)).toNat=j:=by
   rw [seqIndex_neg (by lia) h4] at h1;rw [G4,<- hl];exact Option.some.inj h1
  exact subscriptTail_builtinR (x:=w) pl.isList.typeIs slot_list_getitem.lookup
   (wpAny_getItem_list_neg (Q:=fun r s'=>r=w/\EP X pins O Q r s') pl.isList (by lia) (by rw [G4] <;> lia) (by lia) (by rw [hj];simpa using ew) ⟨rfl,fin⟩) hs
theorem ix_tup:p8 X (rIxT X.K):=by
 intro value slice pins s O H x y v u Q I rx ry h hs;obtain ⟨p,xs,i,z,rfl,rfl,hq,he,q⟩:=h
 cases rx
 obtain ⟨t,rfl⟩:=ry;obtain ⟨its,r,pl,hz⟩:=I.tuple hq;obtain ⟨j,h1,h2,h3,h4,h5⟩:=oA he;obtain ⟨w,ew,rw'⟩:=r.get h2;have hl:=r.length;have hn:=gA;have fin:EP X pins O Q w s:=⟨z,H,I,rw',q⟩
 exact subscriptTail_builtinR (x:=w) pl.typeIs slot_tuple_getitem.lookup
  (getItem_tuple (j:=j) (Q:=fun r s'=>r=w/\EP X pins O Q r s') pl (by lia) (by lia) (by rw [G4,<- hl];exact h1) (by simpa using ew) ⟨rfl,fin⟩) hs
theorem ant:p8 X rIxS:=by
 intro value slice pins s O H x y v u Q I rx ry h hs;obtain ⟨z,i,c,rfl,rfl,hz,he,q⟩:=h;obtain ⟨t,rfl⟩:=rx;obtain ⟨t',rfl⟩:=ry;obtain ⟨j,h1,h2,h3,h4,h5⟩:=oA he;have hl:z.cps.toList.length=z.length:=by simp [Str.length]
 rw [hl] at h1 h4 h5;have hn:=gA;exact tail_any (typeIs_str s z t) slot_str_getitem.lookup (getItem_str (c:=c) (by
  have e1:decide (i < -(2 ^ 63:Int))=false:=decide_eq_false (by lia);have e2:decide (i≥2 ^ 63)=false:=decide_eq_false (by lia);rw [e1,e2,Bool.or_false]) (by rw [h1];simpa using h2) ⟨.str ⟨#[c]⟩,H,I.tok _,⟨_,rfl⟩,q⟩) hs
def bN(K:PySem.W.Frag):R2:=fun x y H Q=>rIxL K x y H Q\/rIxT K x y H Q\/rIxS x y H Q
theorem anu:p8 X (bN X.K):=ix_list.or (ix_tup.or ant)
def rSetL:V->V->V->Hp->(Hp->Prop)->Prop:=fun o i v H Q=>∃ p xs k j,o=.ref p/\i=.int k/\H p=some (.lst xs)/\W1 xs.length k=some j/\Q (A0 H p (.lst (xs.set j v)))
theorem afn(lo hi:Option Int)(n:Nat):(sliceBounds lo hi none n).1=((HT.sIx n 0 lo:Nat):Int)/\(sliceBounds lo hi none n).2.1=((HT.sIx n n hi:Nat):Int)/\(sliceBounds lo hi none n).2.2=1:=by
 refine ⟨?_,?_,rfl⟩
 .cases lo with
  | none=>simp [sliceBounds,HT.sIx]
  | some i=>
   simp only [sliceBounds,HT.sIx,Option.getD_none,show (1:Int) > 0 by decide,if_true]
   by_cases h:i<0
   .simp only [h,if_true] <;> lia
   .simp only [h,if_false] <;> lia
 .cases hi with
  | none=>simp [sliceBounds,HT.sIx]
  | some i=>
   simp only [sliceBounds,HT.sIx,Option.getD_none,show (1:Int) > 0 by decide,if_true]
   by_cases h:i<0
   .simp only [h,if_true] <;> lia
   .simp only [h,if_false] <;> lia
theorem aeN(its:List Value)(lo hi:Option Int):slicePick its.toArray lo hi none=((its.drop (HT.sIx its.length 0 lo)).take (HT.sIx its.length its.length hi-HT.sIx its.length 0 lo)).toArray:=by
 obtain ⟨h1,h2,h3⟩:=afn lo hi its.toArray.size;unfold slicePick;rw [h1,h2,h3];simp only [sliceRange_one,pick_run,G4] <;> rfl
def rSlL(K:PySem.W.Frag):V->Option Int->Option Int->Hp->VK->Prop:=fun x lo hi H Q=>∃ a xs,x=.ref a/\D4 K H a xs/\∀ p,H p=none->Q (.ref p) (A0 H p (.lst (cutV xs lo hi)))
theorem alN:dP X (rSlL X.K):=by
 intro pins s O H x v vl vu lo hi sl Q I rx hs pl pu h;obtain ⟨a,xs,rfl,hx,q⟩:=h
 cases rx
 obtain ⟨its,r,ht,hz⟩:=I.list hx;have B3:=r.length;refine ⟨"list",_,slot_list_getitem.lookup,ht.isList.typeIs,?_⟩;refine wpAny_getItem_list_slice ht.isList hs pl pu .none (by simp) ?_ (by rw [G4] <;> lia);rw [aeN,<- B3];refine ⟨.ref s.heap.objs.size,_,I.laid (t':=s.toks) (o:=.lst (cutV xs lo hi)) (fun b ob q=>Heap.get?_push_of_some _ q) (C3 _) ?_,rfl,q _ (I.hok.fresh (C3 _))⟩;exact ⟨M8 (vO xs lo hi) hz,_,0,(r.drop (HT.sIx xs.length 0 lo)).take (HT.sIx xs.length xs.length hi-HT.sIx xs.length 0 lo),Heap.get?_push_size _ rfl⟩
def flatV:V->Bool
 | .non=>true
 | .bl _=>true
 | .int _=>true
 | .str _=>true
 | _=>false
def y1:V->V->Bool
 | .non,.non=>true
 | .bl a,.bl b=>a==b
 | .bl a,.int b=>(if a then 1 else 0)==b
 | .int a,.bl b=>a==(if b then 1 else 0)
 | .int a,.int b=>a==b
 | .str a,.str b=>a==b
 | _,_=>false
theorem anv{A:Around}(ry:RelV y u)(rx:RelV x v)(fy:flatV y=true)(fx:flatV x=true):SeqAt.EqAt A s u v (y1 y x):=by
 cases y with
 | non=>
  cases ry
  cases x with
  | non=>cases rx;exact SeqAt.EqAt.same _
  | bl b=>cases rx;exact SeqAt.EqAt.none_bool b
  | int b=>obtain ⟨t,rfl⟩:=rx;exact SeqAt.EqAt.none_int b t
  | str b=>obtain ⟨t,rfl⟩:=rx;exact SeqAt.EqAt.none_str b t
  | _=>exact absurd (show false=true from fx) K6
 | bl a=>
  cases ry
  cases x with
  | non=>cases rx;exact SeqAt.EqAt.bool_none a
  | bl b=>cases rx;exact SeqAt.EqAt.bool_bool a b
  | int b=>obtain ⟨t,rfl⟩:=rx;exact SeqAt.EqAt.bool_int a b t
  | str b=>obtain ⟨t,rfl⟩:=rx;exact SeqAt.EqAt.bool_str a b t
  | _=>exact absurd (show false=true from fx) K6
 | int a=>
  obtain ⟨t',rfl⟩:=ry
  cases x with
  | non=>cases rx;exact SeqAt.EqAt.int_none a t'
  | bl b=>cases rx;exact SeqAt.EqAt.int_bool a t' b
  | int b=>obtain ⟨t,rfl⟩:=rx;exact SeqAt.EqAt.int_int a t' b t
  | str b=>obtain ⟨t,rfl⟩:=rx;exact SeqAt.EqAt.int_str a t' b t
  | _=>exact absurd (show false=true from fx) K6
 | str a=>
  obtain ⟨t',rfl⟩:=ry
  cases x with
  | non=>cases rx;exact SeqAt.EqAt.str_none a t'
  | bl b=>cases rx;exact SeqAt.EqAt.str_bool a t' b
  | int b=>obtain ⟨t,rfl⟩:=rx;exact SeqAt.EqAt.str_int a t' b t
  | str b=>obtain ⟨t,rfl⟩:=rx;exact SeqAt.EqAt.str_str a t' b t
  | _=>exact absurd (show false=true from fx) K6
 | _=>exact absurd (show false=true from fy) K6
def V3(x:V)(u:Value):Bool:=match u with
 | .none=>y1 .non x
 | .bool b=>y1 (.bl b) x
 | .int i _=>y1 (.int i) x
 | .str z _=>y1 (.str z) x
 | _=>false
theorem vQ(r:RelV y u)(f:flatV y=true):V3 x u=y1 y x:=by
 cases y with
 | non=>cases r;rfl
 | bl b=>cases r;rfl
 | int i=>obtain ⟨t,rfl⟩:=r;rfl
 | str z=>obtain ⟨t,rfl⟩:=r;rfl
 | _=>exact absurd (show false=true from f) K6
theorem gB : ∀ {xs:List V} {us:List Value},Vals xs us->xs.all flatV=true->us.any (V3 x)=xs.any fun y=>y1 y x
 | _,_,.nil,_=>rfl
 | y::xs,u::us,.cons r t,f=>by
  rw [List.all_cons,Y8] at f;rw [k7,k7,vQ r f.1,gB t f.2]
theorem gC{A:Around}(rx:RelV x v)(fx:flatV x=true):∀ {xs:List V} {us:List Value},Vals xs us->xs.all flatV=true->∀ u∈us,SeqAt.EqAt A s u v (V3 x u)
 | _,_,.nil,_=>fun u hu=>by cases hu
 | y::xs,u::us,.cons r t,f=>fun u' hu=>by
  rw [List.all_cons,Y8] at f
  rcases E8.mp hu with rfl | hu
  .rw [vQ r f.1];exact anv r rx f.1 fx
  .exact gC rx fx t f.2 u' hu
def y3(x:V)(xs:List V):Bool:=xs.any fun y=>y1 y x
def oC(K:PySem.W.Frag)(neg:Bool):R2:=fun x y H Q=>∃ p xs,y=.ref p/\(D4 K H p xs\/C9 K H p xs)/\flatV x=true/\xs.all flatV=true/\Q (.bl (if neg then !y3 x xs else y3 x xs)) H
theorem aiu:J5 X (compareOp .In) (oC X.K false):=by
 intro pins s O H x y v u Q I rx ry h;obtain ⟨p,xs,rfl,hq,fx,fs,q⟩:=h
 cases ry
 rcases hq with hq | hq
 .obtain ⟨its,r,pl,hz⟩:=I.list hq;refine SeqAt.in_listAt (V3 x) pl.isList (fun w hw=>gC rx fx r fs w (by simpa using hw)) ⟨.bl _,H,I,rfl,?_⟩;rw [show its.toArray.any (V3 x)=its.any (V3 x) by simp,gB r fs];exact q
 .obtain ⟨its,r,pl,hz⟩:=I.tuple hq;refine SeqAt.in_tupleAt (V3 x) pl (fun w hw=>gC rx fx r fs w (by simpa using hw)) ⟨.bl _,H,I,rfl,?_⟩;rw [show its.toArray.any (V3 x)=its.any (V3 x) by simp,gB r fs];exact q
theorem afo:J5 X (compareOp .NotIn) (oC X.K true):=by
 intro pins s O H x y v u Q I rx ry h;obtain ⟨p,xs,rfl,hq,fx,fs,q⟩:=h
 cases ry
 rcases hq with hq | hq
 .obtain ⟨its,r,pl,hz⟩:=I.list hq;refine SeqAt.notIn_listAt (V3 x) pl.isList (fun w hw=>gC rx fx r fs w (by simpa using hw)) ⟨.bl _,H,I,rfl,?_⟩;rw [show its.toArray.any (V3 x)=its.any (V3 x) by simp,gB r fs];exact q
 .obtain ⟨its,r,pl,hz⟩:=I.tuple hq;refine SeqAt.notIn_tupleAt (V3 x) pl (fun w hw=>gC rx fx r fs w (by simpa using hw)) ⟨.bl _,H,I,rfl,?_⟩;rw [show its.toArray.any (V3 x)=its.any (V3 x) by simp,gB r fs];exact q
theorem afp:J5 X (compareOp .NotIn) (fun x y H Q=>∃ i j,x=.str i/\y=.str j/\Q (.bl (!(!(Builtin.Str.occurrences j i 0 j.length 1).isEmpty))) H):=by
 intro pins s O H x y v u Q I rx ry h;obtain ⟨i,j,rfl,rfl,q⟩:=h;obtain ⟨t,rfl⟩:=rx;obtain ⟨t',rfl⟩:=ry;exact notIn_str ⟨.bl _,H,I,rfl,q⟩
theorem afq:CallR X (.type "list") (fun xs H Q=>∃ p ys,xs=[.ref p]/\(D4 X.K H p ys\/C9 X.K H p ys)/\∀ l,H l=none->Q (.ref l) (A0 H l (.lst ys))):=by
 intro pins s O H xs us Q I r h;obtain ⟨p,ys,rfl,hq,q⟩:=h;obtain ⟨u,rfl,rx⟩:=vals1 r
 cases rx
 have fin:∀ (its:List Value),Vals ys its->ys.length<=sizeLine->∀ (h':Heap) (c':Nat),(∀ b o',s.heap.get? b=some o'->h'.get? b=some o')->
   h'.get? s.heap.objs.size=some { cls:=.type "list",dict:=none,data:=.seq its.toArray c',slots:=#[] }->EP X pins O Q (.ref s.heap.objs.size) { s with heap:=h' }:=fun its r' hz h' c' kp e=>
  ⟨.ref s.heap.objs.size,_,I.laid (t':=s.toks) kp (C3 _) (show ObjOk X.prog X.w _ h' _ (.lst ys) from ⟨hz,its,c',r',e⟩),rfl,q _ (I.hok.fresh (C3 _))⟩
 rcases hq with hq | hq
 .obtain ⟨its,r',pl,hz⟩:=I.list hq;have B3:=r'.length;obtain ⟨o,ho,hc,n,hd⟩:=pl.isList;exact call_list_seq p (.inl rfl) ho hc hd (fun h' c' kp e=>fin its r' hz h' c' kp e) (by simp only [G4] <;> lia)
 .obtain ⟨its,r',pl,hz⟩:=I.tuple hq;have B3:=r'.length;obtain ⟨o,ho,hc,n,hd⟩:=pl;exact call_list_seq p (.inr rfl) ho hc hd (fun h' c' kp e=>fin its r' hz h' c' kp e) (by simp only [G4] <;> lia)
theorem aeO:CallR X (.type "tuple") (fun xs H Q=>∃ p ys,xs=[.ref p]/\((D4 X.K H p ys/\∀ l,H l=none->Q (.ref l) (A0 H l (.tup ys)))\/(C9 X.K H p ys/\Q (.ref p) H))):=by
 intro pins s O H xs us Q I r h;obtain ⟨p,ys,rfl,h⟩:=h;obtain ⟨u,rfl,rx⟩:=vals1 r
 cases rx
 rcases h with ⟨hq,q⟩ | ⟨hq,q⟩
 .obtain ⟨its,r',pl,hz⟩:=I.list hq;have B3:=r'.length;refine call_tuple_list pl.isList (fun h' kp=>?_) (by simp only [G4] <;> lia);have I1:Inv X pins O H { s with heap:=h' }:=I.kept (t':=s.toks) kp;have I2:Inv X pins O (A0 H h'.objs.size (.tup ys)) { s with heap:=h'.push { cls:=.type "tuple",data:=.seq its.toArray } }:=
   I1.laid (t':=s.toks) (fun b o e=>Heap.get?_push_of_some _ e) (C3 _) (show ObjOk X.prog X.w _ _ _ (.tup ys) from ⟨hz,its,r',IsTup.new _ _⟩)
  exact ⟨.ref h'.objs.size,_,I2,rfl,q _ (I1.hok.fresh (C3 _))⟩
 .obtain ⟨its,r',pl,hz⟩:=I.tuple hq;exact call_tuple_same pl ⟨.ref p,H,I,rfl,q⟩
def y4(K:PySem.W.Frag)(T:String)(x:V)(H:Hp):Prop:=match x with
 | .str _=>T="str"
 | .int _=>T="int"
 | .ref p=>(T="list"/\∃ xs,D4 K H p xs)\/(T="tuple"/\∃ o,K.lookup p=some o/\o.cls=.type "tuple"/\o.dict=none)\/
   (T="dict"/\((∃ kvs,H p=some (.dK kvs))\/∃ kvs,H p=some (.dT kvs)))\/(T="set"/\∃ S n,H p=some (.set S n))
 | _=>False
theorem anw{T:String}(I:Inv X pins O H s)(r:RelV x v)(ty:y4 X.K T x H) :
  s.TypeIs v T/\∀ a,v=.ref a->∃ ob,s.heap.get? a=some ob/\ob.dict=none:=by
 cases x with
 | str z=>
  obtain ⟨t,rfl⟩:=r
  cases (show T="str" from ty)
  exact ⟨typeIs_str s z t,fun _ e=>nomatch e⟩
 | int i=>
  obtain ⟨t,rfl⟩:=r
  cases (show T="int" from ty)
  exact ⟨typeIs_int s i t,fun _ e=>nomatch e⟩
 | ref p=>
  cases r
  rcases ty with ⟨rfl,xs,hq⟩ | ⟨rfl,o,hk,hc,hd⟩ | ⟨rfl,hk⟩ | ⟨rfl,S,n,hk⟩
  .obtain ⟨its,_,pl,_⟩:=I.list hq;refine ⟨pl.isList.typeIs,fun a e=>?_⟩;cases e;obtain ⟨o,n,e,c,hd,_⟩:=pl;exact ⟨o,e,hd⟩
  .refine ⟨⟨o,I.kIn p o hk,hc⟩,fun a e=>?_⟩;cases e;exact ⟨o,I.kIn _ o hk,hd⟩
  .have z:∃ o,s.heap.get? p=some o/\o.ExactDict:=by
    rcases hk with ⟨kvs,hk⟩ | ⟨kvs,hk⟩
    .obtain ⟨_,_,_,_,o,_,_,e,ex,_⟩:=I.hok p _ hk;exact ⟨o,e,ex⟩
    .obtain ⟨_,_,_,_,o,_,_,e,ex,_⟩:=I.hok p _ hk;exact ⟨o,e,ex⟩
   obtain ⟨o,e,ex⟩:=z;refine ⟨⟨o,e,ex.1⟩,fun a e2=>?_⟩;cases e2;exact ⟨o,e,ex.2.1⟩
  .obtain ⟨o,_,_,_,e,ex,_⟩:=I.hok p _ hk;refine ⟨⟨o,e,ex.1⟩,fun a e2=>?_⟩;cases e2;exact ⟨o,e,ex.2.1⟩
 | _=>exact False.elim ty
def tBM0(K:PySem.W.Frag)(T:String)(r:V->List V->Hp->VK->Prop)(to:TE):TE:=fun O H Q=>to O H fun x H1=>y4 K T x H1/\r x [] H1 Q
def dR(K:PySem.W.Frag)(T:String)(r:V->List V->Hp->VK->Prop)(to:TE)(t:TA):TE:=fun O H Q=>to O H fun x H1=>y4 K T x H1/\t O H1 fun xs H2=>r x xs H2 Q
variable {o e:Expr} {es:List Expr} {to:TE} {t:TA} {name:Str} {apos cpos:Pos} {T id:String} {r:V->List V->Hp->VK->Prop}
theorem pe_bm(pa:PlainAttrs T)(slot:Slot T name id)(Y0:typeOf (.builtin id)=pure (.type "method_descriptor"))(hm:oB X id r)(ho:PE X o to)(ha:PA X (e::es) t)(J8:attributeBase o name X.env (eval o X.env)=eval o X.env:=by rfl)(rX:((backTo cpos (starEach (e::es) X.env)).all (fun x=>!x.1)&&(backToKw cpos (keywordEach [] X.env)).all (fun x=>x.1.isSome)
   && decide ((e::es).length+([]:List Keyword).length+(if ([]:List Keyword).isEmpty then 0 else 1)<30))=true:=by rfl)(J9:(apos.endLine==cpos.line)=true:=by rfl)(hs:starEach (e::es) X.env=(false,eval e X.env)::starEach es X.env:=by rfl)(hplain:(backTo cpos (starEach es X.env)).any (·.1)=false:=by rfl) :
  PE X (.Call (.Attribute o name apos) (e::es) [] cpos) (dR X.K T r to t):=by
 intro pins s O H Q I h;refine wpAny_Call_method_late J8 rX J9 rfl (C2 (ho pins s O H _ I h) fun v s1 ⟨x,H1,I1,r1,ty,q1⟩=>?_);obtain ⟨h1,h2⟩:=anw I1 r1 ty;refine ⟨T,id,pa,slot,Y0,h1,h2,?_⟩;have hA:=ha cpos pins s1 O H1 _ I1 q1;rw [hs] at hA ⊢
 refine Calls.callWith_builtin (by show (false || (backTo cpos (starEach es X.env)).any (·.1))=false;rw [hplain] <;> rfl) (Calls.evalArgs_plain ?_);exact C2 hA fun us s2 ⟨vs,H2,I2,r2,q2⟩=>hm pins s2 O H2 x vs v us Q I2 r1 r2 q2
end
end L2
namespace L2
open PySem PySem.Spec PyProof.Rows
def kC(X:Cx)(id:String)(r:V->List V->Hp->VK->Prop):Prop:=
 ∀ (pins:List (Addr×Obj)) (s:Shared) (O:St) (H:Hp) (x:V) (xs:List V) (v:Value) (us:List Value) (Q:VK),Inv X pins O H s->RelV x v->Vals xs us->r x xs H Q->
  wpAny (model X.prog X.w) X.A (call (.builtin id) (v::us)) (EP X pins O Q) X.xe s
theorem Vals.one:∀ {x:V} {us:List Value},Vals [x] us->∃ u,us=[u]/\RelV x u
 | _,_,.cons r .nil=>⟨_,rfl,r⟩
theorem Vals.eraseIdx:∀ {xs:List V} {us:List Value} (i:Nat),Vals xs us->Vals (xs.eraseIdx i) (us.eraseIdx i)
 | _,_,_,.nil=>.nil
 | _,_,0,.cons _ t=>t
 | _,_,i+1,.cons r t=>.cons r (Vals.eraseIdx i t)
theorem Vals.rep(h:Vals xs us):∀ k:Nat,Vals (U3 k xs).flatten (U3 k us).flatten
 | 0=>.nil
 | k+1=>by
  rw [dB,dB,dF,dF];exact Vals.append h (Vals.rep h k)
theorem vR(its:List Value):∀ (k:Nat) (acc:List Value),
  List.foldl (fun x1 x2=>x1++x2) acc.toArray (U3 k its.toArray)=(acc++(U3 k its).flatten).toArray
 | 0,acc=>by simp
 | k+1,acc=>by
  have e:acc.toArray++its.toArray=(acc++its).toArray:=by simp
  have e2:(acc++its)++(U3 k its).flatten=acc++(U3 (k+1) its).flatten:=by
   rw [dB,dF,X2]
  rw [<- e2,<- vR its k (acc++its),<- e,dB,dH]
section
variable {X:Cx} {pins:List (Addr×Obj)} {O:St} {H:Hp} {s:Shared} {l b:Addr} {xs ys zs:List V}
theorem Inv.lset{its':List Value}{f:Array Value->Array Value}(I:Inv X pins O H s)(hH:H l=some (.lst xs))(e:s.heap.get? l=some { cls:=.type "list",data:=.seq its.toArray n })(hf:f its.toArray=its'.toArray)(hv:Vals ys its')(hz:ys.length<=sizeLine) :
  Inv X pins O (A0 H l (.lst ys)) { s with heap:=s.heap.update l (Obj.mapSeq f),toks:=t' }:=by
 have q:=PySem.IsL.update e f;rw [hf] at q;refine I.write (x:=l) (e:=l) (by rw [hH];exact trivial) (.inl rfl) (fun b' u hb hu=>(Heap.get?_update_other s.heap (Obj.mapSeq f) (Ne.symm hb)).trans hu) ⟨_,q⟩ ?_;exact ⟨hz,its',_,hv,q⟩
theorem Inv.lnew(I:Inv X pins O H s)(hv:Vals ys its)(hz:ys.length<=sizeLine) :
  Inv X pins O (A0 H s.heap.objs.size (.lst ys)) { s with heap:=s.heap.push { cls:=.type "list",data:=.seq its.toArray },toks:=t' }:=
 I.laid (fun _ _ q=>Heap.get?_push_of_some _ q) (C3 _) ⟨hz,its,0,hv,Heap.get?_push_size _ rfl⟩
theorem Inv.fresh(I:Inv X pins O H s):H s.heap.objs.size=none:=I.hok.fresh (C3 _)
theorem Inv.lstM(I:Inv X pins O H s)(hH:H l=some (.lst xs)):xs.length<=sizeLine/\∃ (its:List Value) (n:Nat),Vals xs its/\xs.length=its.length/\s.heap.get? l=some { cls:=.type "list",data:=.seq its.toArray n }:=by
 obtain ⟨z,its,n,r,e⟩:=I.hok l _ hH;exact ⟨z,its,n,r,r.length,e⟩
theorem oE(h:n<=sizeLine):Builtin.List.listTooLong n=false:=by
 unfold Builtin.List.listTooLong;exact decide_eq_false (by lia)
end
section
variable {X:Cx}
def kD:V->List V->Hp->VK->Prop:=fun x vs H Q=>∃ l xs y,x=.ref l/\vs=[y]/\H l=some (.lst xs)/\xs.length<sizeLine/\Q .non (A0 H l (.lst (xs++[y])))
theorem vS:kC X "list.append" kD:=by
 intro pins s O H x vs v us Q I rx rv h;obtain ⟨l,xs,y,rfl,rfl,hH,hz,q⟩:=h
 cases rx
 obtain ⟨u,rfl,ru⟩:=rv.one;obtain ⟨z,its,n,r,hl,e⟩:=I.lstM hH;refine call_meets F.slot_list_append ⟨_,e,rfl⟩ F.entry_list_append (F.args_list_append_2 _ _) (PySem.list_append l its.toArray n u (by rw [G4];lia)) ⟨e,?_⟩;refine ⟨.non,_,I.lset (its':=its++[u]) hH e (by simp) (r.append (.cons ru .nil)) ?_,rfl,q⟩;rw [C8,T9];lia
def oF:V->List V->Hp->VK->Prop:=fun x vs H Q=>∃ l b xs zs,x=.ref l/\vs=[.ref b]/\H l=some (.lst xs)/\H b=some (.lst zs)/\xs.length+zs.length<=sizeLine/\Q .non (A0 H l (.lst (xs++zs)))
theorem aiv:kC X "list.extend" oF:=by
 intro pins s O H x vs v us Q I rx rv h;obtain ⟨l,b,xs,zs,rfl,rfl,hH,hB,hz,q⟩:=h
 cases rx
 obtain ⟨u,rfl,ru⟩:=rv.one
 cases ru
 obtain ⟨z,its,n,r,hl,e⟩:=I.lstM hH;obtain ⟨z2,its2,n2,r2,t9,e2⟩:=I.lstM hB;have hsz:its.toArray.size+its2.toArray.size<=sizeLine:=by rw [G4,G4];lia
 have T5:¬ (!its.toArray.isEmpty&&Builtin.List.listTooLong (its.toArray.size+its2.toArray.size))=true:=by
  rw [oE hsz,Bool.and_false];exact K6
 refine call_meets F.slot_list_extend ⟨_,e,rfl⟩ F.entry_list_extend (F.args_list_extend_2 _ _)
  (AutoSeq1.list_extend_list_list_0 l its.toArray n b its2.toArray n2 T5 (by rw [G4];lia) (by lia)) ⟨e,e2,?_⟩
 refine ⟨.non,_,I.lset (its':=its++its2) hH e (by simp) (r.append r2) ?_,rfl,q⟩;rw [C8];lia
def rCat:R2:=fun x y H Q=>∃ l b xs zs,x=.ref l/\y=.ref b/\H l=some (.lst xs)/\H b=some (.lst zs)/\xs.length+zs.length<=sizeLine/\∀ p,H p=none->Q (.ref p) (A0 H p (.lst (xs++zs)))
theorem anx:J5 X (binaryOp .Add) rCat:=by
 intro pins s O H x y v u Q I rx ry h;obtain ⟨l,b,xs,zs,rfl,rfl,hH,hB,hz,q⟩:=h
 cases rx
 cases ry
 obtain ⟨z,its,n,r,hl,e⟩:=I.lstM hH;obtain ⟨z2,its2,n2,r2,t9,e2⟩:=I.lstM hB;refine PySem.P.add_list e e2 ?_ (by rw [G4,G4];lia);have ea:its.toArray++its2.toArray=(its++its2).toArray:=by simp
 rw [ea];exact ⟨.ref _,_,I.lnew (t':=s.toks) (r.append r2) (by rw [C8];lia),rfl,q _ I.fresh⟩
def rRep:R2:=fun x y H Q=>∃ l k xs,x=.ref l/\y=.int k/\H l=some (.lst xs)/\-(2 ^ 63)<=k/\k<2 ^ 63/\xs.length*k.toNat<=sizeLine/\
 ∀ p,H p=none->Q (.ref p) (A0 H p (.lst (U3 k.toNat xs).flatten))
theorem alO{α:Type}(xs:List α)(k:Nat):(U3 k xs).flatten.length=k*xs.length:=by
 induction k with
 | zero=>simp
 | succ k ih=>rw [dB,dF,C8,ih,Nat.succ_mul,Nat.add_comm]
theorem anz:J5 X (binaryOp .Mult) rRep:=by
 intro pins s O H x y v u Q I rx ry h;obtain ⟨l,k,xs,rfl,rfl,hH,h1,h2,hz,q⟩:=h
 cases rx
 obtain ⟨t,rfl⟩:=ry;obtain ⟨z,its,n,r,hl,e⟩:=I.lstM hH;have B3:its.toArray.size*k.toNat<=sizeLine:=by rw [G4,<- hl];exact hz
 have rY:¬ its.toArray.size*k.toNat > (2 ^ 63-1) / 8:=by
  have:(sizeLine:Nat)<=(2 ^ 63-1) / 8:=by decide
  lia
 have rZ:¬ (!Builtin.List.listFitsIndex k)=true:=by
  rw [fitsIndex_both h1 h2];exact K6
 have T5:¬ Builtin.List.listTooLong (its.toArray.size*k.toNat)=true:=by
  rw [oE B3];exact K6
 have P8:List.foldl (fun x1 x2=>x1++x2) #[] (U3 (if its.toArray.isEmpty=true then 0 else k.toNat) its.toArray)=(U3 k.toNat its).flatten.toArray:=by
  have f0:∀ m:Nat,List.foldl (fun x1 x2=>x1++x2) #[] (U3 m its.toArray)=(U3 m its).flatten.toArray:=fun m=>by
   have:=vR its m []
   rw [bF] at this;exact this
  rw [f0]
  cases its with
  | nil=>simp
  | cons a r'=>rw [if_neg (by simp)]
 refine wpAny_binaryOp_repeat_ref (T:="list") (U:="int") (by decide) ⟨_,e,rfl⟩ (fun s'=>typeIs_int s' k t) noFill_list_mul F.fills_int_mul F.slot_int_rmul repeat_list F.slot_int_index.lookup
  (call_meets F.slot_int_rmul (typeIs_int s k t) F.entry_int_rmul (F.args_int_rmul_2 _ _) (int___rmul___int_list k t l its.toArray n)
   ⟨e,rfl,⟨_,e,rfl⟩,call_meets F.slot_list_mul ⟨_,e,rfl⟩ F.entry_list_mul (F.args_list_mul_2 _ _) (AutoListH.list___mul___list_int_3 l its.toArray n k t rZ rY T5) ⟨e,?_⟩⟩)
 rw [P8];exact ⟨.ref _,_,I.lnew (t':=s.toks) (r.rep k.toNat) (by rw [alO,Nat.mul_comm];exact hz),rfl,q _ I.fresh⟩
end
section
variable {prog:Program} {w:World} {A:Around} {E:Value->Shared->Prop} {s:Shared}
end
section
variable {X:Cx}
end
end L2
namespace Att
open PySem PySem.W PySem.Calls PyProof.Rows
theorem adL{P:Params} : ∀ (ns:List Int) (vs:List Value),WellAll P h vs (ns.map WData.int)->IntsAre vs ns:=by
 intro ns
 induction ns with
 | nil=>
  intro vs w;rw [List.map_nil] at w
  cases w
  exact .nil
 | cons n ns ih=>
  intro vs w;rw [G6] at w
  cases w with
  | cons a b=>
   cases a
   exact .cons _ _ (ih _ b)
theorem aiw{l:OpenLaw}(hn:l.most=some n){P:Params}{args:List WData}{vals:List Value}(u0:l.row.toRowW.claim.pre args=true)(sA:WellAll P h vals args) :
  ∃ a vs ns,vals=[Value.ref a]/\args=[WData.list (ns.map WData.int)]/\h.get? a=some { cls:=.type "list",data:=.seq vs.toArray }/\IntsAre vs ns/\ns.length<=n:=by
 have hsh:WShape.hasAll [] args [.list .int]=true:=(pre_splitW u0).1;have hc:l.pre.holds [] { args:=args }=true:=(pre_splitW u0).2;obtain ⟨d,r,rfl,h1,h2⟩:=hasAllW_cons hsh;obtain rfl:=hasAllW_nil h2;obtain ⟨xs,rfl,h3⟩:=hasW_list h1;obtain ⟨ns,rfl⟩:=items_int h3;have B3:ns.length<=n:=by
  unfold OpenLaw.pre at hc;have h4:(WTm.not (.lt (.lit (.int (n:Int))) (.len (.arg 0)))).holds [] { args:=[.list (ns.map .int)] }=true:=by
   have h4:=(holds_andW hc).1;rw [hn] at h4;exact h4
  have h5:=condW_of h4 (w_not (w_lt w_lit (w_len_list (w_arg rfl))));rw [A8] at h5;refine Nat.le_of_not_lt fun q=>?_
  have q':(n:Int)<((ns.length:Nat):Int):=by lia
  first
   | (rw [decide_eq_true q'] at h5;exact absurd h5 (by decide))
   | (simp at h5;lia)
 cases sA with
 | cons w1 w2=>
  cases w2
  cases w1 with
  | list ho u4=>exact ⟨_,_,ns,rfl,rfl,ho,adL ns _ u4,B3⟩
theorem aix(l:OpenLaw)(args:List WData):l.row.toRowW.claim.post args (.bool true) args=true:=
 postW_of (r:=l.row.toRowW) (X:=(true==true))
  (show WShape.has [] (.bool true) .bool=true by first | rfl | decide | simp [WShape.has,WShape.arms,WShape.armsAll])
  (show (WTm.eq .res (.lit (.bool true))).value [] { args:=args,res:=some (.bool true),after:=args }=some (.bool (true==true)) from w_eq_bool (w_res rfl) w_lit) rfl
theorem attach_call{l:OpenLaw}{q:Program}{XP:(Str->Option Value)->Heap->Prop}{YP:World->Heap->Prop}{d:DefRec}(hn:l.most=some n)(o4:d.params.defaults=[])(call:∀ (w:World) (s₀ zu:Shared) (mg mb:Str->Option Value) (fa:Addr) (o:Obj) (pm cd doc:Value) (a:Addr) (vs:List Value) (ns:List Int),
   Ground q loose [] XP w s₀ mg mb zu.heap->YP w zu.heap->
   zu.heap.get? fa=some o->o.data=.func (docDef d.name d.params d.body d.scope pm cd doc)->zu.heap.CodeRec cd d.name->mg d.name=some (.ref fa)->
   zu.heap.get? a=some { cls:=.type "list",data:=.seq vs.toArray }->IntsAre vs ns->ns.length<=n->zu.gens=#[]->
   codeAny (model l.prog w) callerA (.call (.ref fa) ⟨[.ref a],[]⟩) (fun r s'=>r=.ok (.ret (.bool true))/\OldK zu.heap s'.heap/\s'.os=zu.os/\AllBare s'.gens) zu) :
  WalkO q loose XP YP l.row.toRowW d [] (fun f vs=>PySem.call f vs):=by
 intro w s₀ zu mg mb G Y fa o pm cd doc dV kV ho hd P6 hD iO hg args vals as u0 hlay hrd sA hlo;obtain rfl:dV=.none:=Dflts.none hD o4;obtain rfl:kV=.none:=Dflts.noKw hD;obtain ⟨a,vs,ns,rfl,rfl,cI,i8,B3⟩:=aiw hn u0 sA;refine enter_call (codeAny_mono (call w s₀ zu mg mb fa o pm cd doc a vs ns G Y ho (fd_plain hd) P6 iO cI i8 B3 hg) fun r s' hq=>?_);obtain ⟨rfl,h2,h3,h4⟩:=hq;exact ⟨.inl ⟨.bool true,.bool true,[],rfl,fun _=>rfl,.bool true,aix l _,fun _=>⟨List.Pairwise.nil,fun _ hm=>(nomatch hm)⟩⟩,h2,h3,h4⟩
section
variable {prog:Program} {w:World} {A:Around} {E:Value->Shared->Prop} {s:Shared} {K:Frag}
end
end Att
namespace L2
open PySem PySem.Spec PyProof.Rows
theorem vT:∀ {vs:List Value} {ns:List Int},IntsAre vs ns->Vals (ns.map V.int) vs
 | _,_,.nil=>.nil
 | _,_,.cons n t h=>.cons ⟨t,rfl⟩ (vT h)
def Only(H:Hp):Prop:=∀ b,H b=none\/∃ o xs,H b=some (.frz o (.lst xs))
theorem ajS{P:Program}{w:World}{mb:Str->Option Value}{CX:X5}{x:Str}{zu:Shared}{vs:List Value}(KX:K.In zu.heap)(aQ:zu.heap.Ns mainGlobals mg)(hb:zu.heap.Ns builtinsNs mb)(hbb:∀ x:Str,x≠"__name__"->mb x=bootBuiltins x)(sB:zu.heap.NoLimit)(hg:zu.gens=#[])(ha:zu.heap.get? a=some { cls:=.type "list",data:=.seq vs.toArray })(hi:IntsAre vs ns)(hl:ns.length<=sizeLine)(hr:Room k callerA)(F:∀ base:Heap,K.In base->base.Ns mainGlobals mg->FnOk P w K mg base CX k fa fd [x] sp)(iP:∀ (s:Shared) (u:Value),BindsTo s fd ⟨[u],[]⟩ [(x,u)])(aO:∀ H:Hp,Only H->D4 K H a (ns.map V.int)->sp [.ref a] H (fun v _=>v=.bl true) fun _ _ _=>False)(hCX:∀ H e s',CX [] H zu (fun _ _ _=>False) e s'->False) :
  codeAny (model P w) callerA (.call (.ref fa) ⟨[.ref a],[]⟩) (fun r s'=>r=.ok (.ret (.bool true))/\OldK zu.heap s'.heap/\s'.os=zu.os/\AllBare s'.gens) zu:=by
 have rv:=vT hi;have lenV:=hi.length;have core:∀ H:Hp,Only H->D4 K H a (ns.map V.int)->L5 P w H zu.heap->(∀ b,H b≠none->b=a)->(H a≠none->K.lookup a=none)->
   codeAny (model P w) callerA (.call (.ref fa) ⟨[.ref a],[]⟩) (fun r s'=>r=.ok (.ret (.bool true))/\OldK zu.heap s'.heap/\s'.os=zu.os/\AllBare s'.gens) zu:=by
  intro H hO hS hok hA hK;have base_of:∀ {b:Addr} {o:Obj},zu.heap.get? b=some o->H b=none->(hidT zu.heap H).get? b=some o:=fun e n=>ajA e n
  have noA:∀ {b:Addr} {o:Obj} {es:Array DictEntry} {ep:Nat},zu.heap.get? b=some o->o.data=.dict es ep->H b=none:=fun {b o es ep} e d=>by
   cases q:H b with
   | none=>rfl
   | some u=>
    have e':b=a:=hA b (by rw [q];simp);subst e';rw [ha] at e;cases e;have d':Data.seq vs.toArray _=Data.dict es ep:=d
    cases d'
  have nsK:∀ {b:Addr} {m:Str->Option Value},zu.heap.Ns b m->(hidT zu.heap H).Ns b m:=fun {b m} ⟨o,es,ep,e,d,r⟩=>⟨o,es,ep,base_of e (noA e d),d,r⟩
  have hKb:K.In (hidT zu.heap H):=fun b o e=>base_of (KX b o e) (by
   cases q:H b with
   | none=>rfl
   | some u=>
    have e':b=a:=hA b (by rw [q];simp);subst e';rw [hK (by rw [q];simp)] at e;cases e)
  have hM:Mod K mg (hidT zu.heap H):=⟨hKb,nsK aQ,⟨mb,nsK hb,hbb⟩,let ⟨mc,h1,h2⟩:=sB;⟨mc,nsK h1,h2⟩⟩
  have e0:Env0 P w K mg (hidT zu.heap H) callerA [] zu H:=⟨rfl,hM,fun b o e=>alo e,Nat.le_of_eq (aia _ _),trivial,fun b hb=>absurd (show b∈([]:List Addr) from hb) (by simp),hok,.of_eq hg⟩
  refine codeAny_mono ((F _ hKb (nsK aQ)).run callerA [] zu H ⟨[.ref a],[]⟩ [.ref a] [.ref a] _ _ hr e0 (iP zu (.ref a)) (.cons rfl .nil) (aO H hO hS)) fun r s' h=>?_
  cases r with
  | error e=>exact (hCX H e s' h).elim
  | ok fl=>
   cases fl with
   | next=>exact False.elim h
   | brk=>exact False.elim h
   | cont=>exact False.elim h
   | ret u=>
    obtain ⟨v,H',os,bare,un,sC,r',q⟩:=h;have q':v=.bl true:=q;subst q';obtain rfl:u=Value.bool true:=r';refine ⟨rfl,OldK.of_keep fun b o e=>?_,os,bare⟩
    cases q:H b with
    | none=>exact un.keep b o e q (by intro z;exact absurd (show b∈([]:List Addr) from z) (by simp)) (by simp)
    | some u=>
     rcases hO b with z | ⟨ob,xs,z⟩
     .rw [q] at z;cases z
     .have z2:=un.frzs b ob _ z;obtain ⟨e1,_⟩:=hok b _ z;obtain ⟨e2,_⟩:=sC b _ z2;rw [e] at e1;cases e1;exact e2
 cases hk:K.lookup a with
 | some o=>
  have e:=KX a o hk;rw [ha] at e;cases e;refine core (fun _=>none) (fun _=>.inl rfl) (.inr ⟨_,vs.toArray,_,hk,rfl,rfl,rfl,by rw [G4,lenV];exact hl,by simpa using rv⟩) (fun b u z=>by have z':(none:Option HO)=some u:=z;cases z') (fun b z=>absurd rfl z) fun z=>absurd rfl z
 | none=>
  refine core (fun b=>if b=a then some (.frz { cls:=.type "list",data:=.seq vs.toArray } (.lst (ns.map V.int))) else none) (fun b=>?_) (.inl (.inr ⟨{ cls:=.type "list",data:=.seq vs.toArray },if_pos rfl⟩)) (fun b u z=>?_) (fun b z=>?_) fun _=>hk
  .by_cases hb:b=a
   .exact .inr ⟨_,_,if_pos hb⟩
   .exact .inl (if_neg hb)
  .by_cases hb:b=a
   .have z':=(if_pos hb).symm.trans z
    cases z'
    subst hb;exact ⟨ha,by rw [A8];exact hl,vs,_,rv,ha⟩
   .have z':=(if_neg hb).symm.trans z
    cases z'
  .by_cases hb:b=a
   .exact hb
   .exact absurd (if_neg hb) z
end L2
namespace L2
open PySem PySem.Spec PyProof.Rows
theorem walk_of{l:PySem.W.OpenLaw}{q:Program}{XP:(Str->Option Value)->Heap->Prop}{YP:World->Heap->Prop}{d:DefRec}{K:Params->PySem.W.Frag}{CX:World->X5}{sp:World->Sp}{x:Str}(hn:l.most=some n)(mD:n<=sizeLine)(o4:d.params.defaults=[])(hr:Room k callerA)(hY:∀ (w:World) (h:Heap),YP w h->(K w.params).In h)(F:∀ (w:World) (mg:Str->Option Value) (fa:Addr) (h:Heap),(K w.params).In h->h.Ns mainGlobals mg->mg d.name=some (.ref fa)->
   ∃ fd:FuncData,(∀ (s:Shared) (u:Value),BindsTo s fd ⟨[u],[]⟩ [(x,u)])/\
    ∀ base:Heap,(K w.params).In base->base.Ns mainGlobals mg->FnOk l.prog w (K w.params) mg base (CX w) k fa fd [x] (sp w))(aO:∀ (w:World) (H:Hp) (a:Addr) (ns:List Int),ns.length<=n->Only H->D4 (K w.params) H a (ns.map V.int)->sp w [.ref a] H (fun v _=>v=.bl true) fun _ _ _=>False)(hCX:∀ (w:World) (H:Hp) (s:Shared) (e:Value) (s':Shared),CX w [] H s (fun _ _ _=>False) e s'->False) :
  PySem.W.WalkO q loose XP YP l.row.toRowW d [] (fun f vs=>PySem.call f vs):=by
 refine Att.attach_call hn o4 fun w s₀ zu mg mb fa o pm cd doc a vs ns G Y ho hd P6 iO cI i8 B3 hg=>?_
 have KX:=hY w _ Y;obtain ⟨fd,hb,hF⟩:=F w mg fa _ KX G.T.g iO;exact ajS KX G.T.g G.T.b G.T.builtins G.T.nolimit hg cI i8 (M8 B3 mD) hr hF hb (fun H hO hS=>aO w H a ns B3 hO hS) fun H e s'=>hCX w H zu e s'
end L2
namespace L2
open PySem PySem.Spec PyProof.Rows
def dS(s:Stmt)(j:Nat):Stmt:=match s with
 | .ClassDef _ _ _ body _ _ _ _ _ _ _=>body.getD j (.Pass ⟨0,0,0,0⟩)
 | _=>.Pass ⟨0,0,0,0⟩
def R5(s:Stmt):Arguments:=match s with
 | .FunctionDef _ a _ _ _ _ _ _ _ _=>a
 | _=>{ posonlyargs:=[],args:=[],vararg:=none,kwonlyargs:=[],kw_defaults:=[],kwarg:=none,defaults:=[] }
def Q7(s:Stmt):List Stmt:=match s with
 | .FunctionDef _ _ b _ _ _ _ _ _ _=>b
 | _=>[]
def C6(s:Stmt):Scope:=match s with
 | .FunctionDef _ _ _ _ _ _ sc _ _ _=>sc
 | _=>{ kind:=.function,names:=[],isGenerator:=false,isCoroutine:=false }
abbrev E5:X5:=fun _ _ _ _ _ _=>False
abbrev E0:XK:=fun _ _ _=>False
theorem pass0 : bL E5 X E0:=fun _ _ _ _ _ _ _ h=>h.elim
structure Fun(K:PySem.W.Frag)(x qual:Str)(st:Stmt)(f:Addr)(fd:FuncData):Prop where
 ex:∃ (oc:Value) (od:Option Addr) (kV doc pm:Value) (an:Option Addr) (cdv ct:Value) (osl:Array (Option Value)),
  fd=Q5 x qual (R5 st) (Q7 st) (C6 st) .none kV doc pm an cdv ct/\K.lookup f=some ⟨oc,od,.func fd,osl⟩/\V1 K cdv qual=true
 kp:R4 K (.ref f)=true
section
variable {P:Program} {w:World} {K:PySem.W.Frag} {mg:Str->Option Value} {base:Heap}
end
theorem hu_of{A:Around}(hr:Room k A):A.units+1<cLine:=Nat.lt_of_le_of_lt (Nat.add_le_add_left (by decide:1<=64) _) hr.units
section
variable {X:Cx}
end
theorem iteF{A B:Prop}(h:B):if false=true then A else B:=by
 rw [if_neg K6];exact h
theorem iteT{A B:Prop}(h:A):if true=true then A else B:=by
 rw [if_pos rfl];exact h
def Same(H H':Hp):Prop:=∀ b o,H b=some o->H' b=some o
theorem Same.refl(H:Hp):Same H H:=fun _ _ h=>h
theorem Same.trans(a:Same H H1)(b:Same H1 H2):Same H H2:=fun c o h=>b c o (a c o h)
theorem Same.free(e:Same H H'){l:Addr}(h:H' l=Option.none):H l=Option.none:=by
 cases q:H l with
 | none=>rfl
 | some o=>
  rw [e l o q] at h;cases h
theorem Same.seq(e:Same H H')(h:D4 K H a xs):D4 K H' a xs:=by
 rcases h with (h | ⟨o,h⟩) | h
 .exact .inl (.inl (e _ _ h))
 .exact .inl (.inr ⟨o,e _ _ h⟩)
 .exact .inr h
end L2
set_option maxRecDepth 100000
namespace L2
open PySem PySem.Spec PyProof.Rows
section
variable {κ:Type} [DecidableEq κ]
def valV(kvs:List (κ×V))(k:κ):Option V:=(kvs.find? fun kv=>decide (kv.1=k)).map (·.2)
def putK(kvs:List (κ×V))(k:κ)(v:V):List (κ×V):=
 if (kvs.any fun kv=>decide (kv.1=k))=true then kvs.map (fun kv=>if kv.1=k then (kv.1,v) else kv) else kvs++[(k,v)]
theorem kE{p:κ×V}{r:List (κ×V)}{k:κ}(e:p.1=k):valV (p::r) k=some p.2:=by simp [valV,k6,e]
theorem p9{p:κ×V}{r:List (κ×V)}{k:κ}(e:¬ p.1=k):valV (p::r) k=valV r k:=by simp [valV,k6,e]
theorem oG(k:κ):∀ kvs:List (κ×V),(kvs.any fun kv=>decide (kv.1=k))=(valV kvs k).isSome
 | []=>rfl
 | p::r=>by
  rw [k7]
  by_cases e:p.1=k
  .simp only [kE e,decide_eq_true e,Bool.true_or,Option.isSome_some]
  .rw [p9 e,decide_eq_false e,Bool.false_or];exact oG k r
theorem oH(kvs:List (κ×V))(k:κ)(v:V):(putK kvs k v).length<=kvs.length+1:=by
 unfold putK
 split
 .rw [A8];lia
 .rw [C8,G5,V9];lia
theorem ajT{kvs:List (κ×V)}{k:κ}(v:V)(h:valV kvs k=none):putK kvs k v=kvs++[(k,v)]:=by
 unfold putK;rw [oG,h];exact if_neg (by decide)
theorem RelO.isSome_eq{o:Option V}{u:Option Value}(r:RelO o u):o.isSome=u.isSome:=by
 cases o with
 | none=>cases u with
  | none=>rfl
  | some _=>exact (show False from r).elim
 | some _=>cases u with
  | none=>exact (show False from r).elim
  | some _=>rfl
theorem RelO.getD{o:Option V}{u:Option Value}{d:V}{d':Value}(r:RelO o u)(rd:RelV d d'):RelV (o.getD d) (u.getD d'):=by
 cases o with
 | none=>cases u with
  | none=>exact rd
  | some _=>exact (show False from r).elim
 | some _=>cases u with
  | none=>exact (show False from r).elim
  | some _=>exact r
theorem KV.val{kvs:List (κ×V)}{vs:List (κ×Value)}(r:KV kvs vs)(k:κ):RelO (valV kvs k) (valueAt vs k):=by
 unfold KV at r
 induction r with
 | nil=>exact True.intro
 | @cons p q ps qs h t ih=>
  obtain ⟨h1,h2⟩:=h
  by_cases e:p.1=k
  .have e':q.1=k:=h1.symm.trans e;have b:valueAt (q::qs) k=some q.2:=by simp [valueAt,k6,e']
   rw [kE e,b];exact h2
  .have e':¬ q.1=k:=fun z=>e (h1.trans z)
   have b:valueAt (q::qs) k=valueAt qs k:=by simp [valueAt,k6,e']
   rw [p9 e,b];exact ih
theorem KV.any{kvs:List (κ×V)}{vs:List (κ×Value)}(r:KV kvs vs)(k:κ):(kvs.any fun kv=>decide (kv.1=k))=vs.any fun kv=>decide (kv.1=k):=by
 unfold KV at r
 induction r with
 | nil=>rfl
 | cons h t ih=>rw [k7,k7,ih,h.1]
theorem KV.repl{kvs:List (κ×V)}{vs:List (κ×Value)}(r:KV kvs vs)(k:κ)(ry:RelV y u) :
  KV (kvs.map fun kv=>if kv.1=k then (kv.1,y) else kv) (vs.map fun kv=>if kv.1=k then (kv.1,u) else kv):=by
 unfold KV at r ⊢
 induction r with
 | nil=>exact .nil
 | @cons p q ps qs h t ih=>
  rw [G6,G6];refine .cons ?_ ih;obtain ⟨h1,h2⟩:=h
  by_cases e:p.1=k
  .rw [if_pos e,if_pos (h1.symm.trans e)];exact ⟨h1,ry⟩
  .rw [if_neg e,if_neg (fun z=>e (h1.trans z))];exact ⟨h1,h2⟩
theorem KV.put{kvs:List (κ×V)}{vs:List (κ×Value)}(r:KV kvs vs)(k:κ)(ry:RelV y u):KV (putK kvs k y) (stored vs k u):=by
 unfold putK stored;rw [r.any k]
 by_cases e:(vs.any fun kv=>decide (kv.1=k))=true
 .rw [if_pos e,if_pos e];exact r.repl k ry
 .rw [if_neg e,if_neg e];exact Paired.snoc r ⟨rfl,ry⟩
theorem KV.keys{kvs:List (κ×V)}{vs:List (κ×Value)}(r:KV kvs vs):kvs.map (·.1)=vs.map (·.1):=by
 unfold KV at r
 induction r with
 | nil=>rfl
 | cons h t ih=>rw [G6,G6,ih,h.1]
theorem KV.length{kvs:List (κ×V)}{vs:List (κ×Value)}(r:KV kvs vs):kvs.length=vs.length:=Paired.length r
end
theorem kV_is{P:Program}{w:World}{k:C5}(r:RelV (kV k) u):(N1 P w).is k u=true:=by
 cases k with
 | inl i=>obtain ⟨t,e⟩:=(show ∃ t,u=Value.int i t from r);subst e;exact age P w i t
 | inr x=>obtain ⟨t,e⟩:=(show ∃ t,u=Value.str x t from r);subst e;exact agf P w x t
theorem vU{P:Program}{w:World} : ∀ {ks:List C5} {us:List Value},Vals (ks.map kV) us->ItemsAre (N1 P w) ks us
 | [],_,r=>by rw [List.map_nil] at r;cases r;exact .nil
 | k::ks,_,r=>by
  rw [G6] at r
  cases r with
  | cons h t=>exact .cons (kV_is h) (vU t)
abbrev KT(H:Hp):List (List C5×V)->List (List C5×Addr×Value)->Prop:=Paired fun p q=>p.1=q.1/\H q.2.1=some (.tup (p.1.map kV))/\RelV p.2 q.2.2
theorem KT.val{kvs:List (List C5×V)}{xs:List (List C5×Addr×Value)}(r:KT H kvs xs)(k:List C5):RelO (valV kvs k) ((atKey xs k).map (·.2)):=by
 induction r with
 | nil=>exact True.intro
 | @cons p q ps qs h t ih=>
  obtain ⟨h1,_,h2⟩:=h
  by_cases e:p.1=k
  .have e':q.1=k:=h1.symm.trans e;have b:atKey (q::qs) k=some q.2:=by simp [atKey,k6,e']
   rw [kE e,b];exact h2
  .have e':¬ q.1=k:=fun z=>e (h1.trans z)
   have b:atKey (q::qs) k=atKey qs k:=by simp [atKey,k6,e']
   rw [p9 e,b];exact ih
theorem KT.repl{kvs:List (List C5×V)}{xs:List (List C5×Addr×Value)}(r:KT H kvs xs)(k:List C5)(ry:RelV y u) :
  KT H (kvs.map fun kv=>if kv.1=k then (kv.1,y) else kv) (xs.map (putAt k u)):=by
 induction r with
 | nil=>exact .nil
 | @cons p q ps qs h t ih=>
  rw [G6,G6];refine .cons ?_ ih;obtain ⟨h1,h2,h3⟩:=h;unfold putAt
  by_cases e:p.1=k
  .rw [if_pos e,if_pos (h1.symm.trans e)];exact ⟨h1,h2,ry⟩
  .rw [if_neg e,if_neg (fun z=>e (h1.trans z))];exact ⟨h1,h2,h3⟩
theorem KT.put{kvs:List (List C5×V)}{xs:List (List C5×Addr×Value)}(r:KT H kvs xs)(k:List C5)(hb:H b=some (.tup (k.map kV)))(ry:RelV y u) :
  KT H (putK kvs k y) (storedH xs k b u):=by
 have e:(kvs.any fun kv=>decide (kv.1=k))=(atKey xs k).isSome:=by
  rw [oG,(r.val k).isSome_eq,Option.isSome_map]
 unfold putK storedH;rw [e]
 by_cases q:(atKey xs k).isSome=true
 .rw [if_pos q,if_pos q];exact r.repl k ry
 .rw [if_neg q,if_neg q];exact Paired.snoc r ⟨rfl,hb,ry⟩
theorem KT.keeps{kvs:List (List C5×V)}{xs:List (List C5×Addr×Value)}(r:KT H kvs xs)(ht:∀ b ys,H b=some (.tup ys)->H' b=some (.tup ys)):KT H' kvs xs:=
 M9 r fun _ _ z=>⟨z.1,ht _ _ z.2.1,z.2.2⟩
section
variable {P:Program} {w:World} {H:Hp} {h:Heap} {a:Addr}
theorem rd_of{u:HO}(ok:L5 P w H h)(e:Rd H a u):ObjOk P w H h a u:=e.ok ok
theorem dk_rd(ok:L5 P w H h)(e:Rd H a (.dK kvs)):kvs.length<=sizeLine/\(a==sysModules)=false/\∃ vs,KV kvs vs/\h.DictOf (N1 P w) a vs:=
 show ObjOk P w H h a (.dK kvs) from rd_of ok e
theorem dk_of(ok:L5 P w H h)(e:H a=some (.dK kvs)):kvs.length<=sizeLine/\(a==sysModules)=false/\∃ vs,KV kvs vs/\h.DictOf (N1 P w) a vs:=dk_rd ok (.inl e)
theorem bO{ks:List C5}(ok:L5 P w H h)(e:H a=some (.tup (ks.map kV))):(tupleKind (N1 P w)).is h ks a:=by
 obtain ⟨_,its,r,o,h1,h2,n,h3⟩:=(show ObjOk P w H h a (.tup (ks.map kV)) from ok a _ e)
 exact ⟨o,its.toArray,n,h1,h2,h3,by simpa using vU r⟩
theorem dt_rd{kvs:List (List C5×V)}(ok:L5 P w H h)(e:Rd H a (.dT kvs)):kvs.length<=sizeLine/\(a==sysModules)=false/\
  ∃ xs,KT H kvs xs/\h.DictOfH (tupleKind (N1 P w)) a xs:=by
 obtain ⟨z,y,xs,r,o,es,ep,h1,h2,h3,h4,h5⟩:=(show ObjOk P w H h a (.dT kvs) from rd_of ok e)
 refine ⟨z,y,xs,r,o,es,ep,h1,h2,h3,h4,fun x hx=>?_,h5⟩;have all:∀ {l:List (List C5×V)} {m:List (List C5×Addr×Value)},KT H l m->∀ x∈m,(tupleKind (N1 P w)).is h x.1 x.2.1:=by
  intro l m q
  induction q with
  | nil=>intro x hx;exact nomatch hx
  | @cons p q ps qs hq t ih=>
   intro x hx
   rcases E8.mp hx with e | hx
   .subst e;exact bO ok (by rw [<- hq.1];exact hq.2.1)
   .exact ih x hx
 exact all r x hx
theorem dt_of{kvs:List (List C5×V)}(ok:L5 P w H h)(e:H a=some (.dT kvs)):kvs.length<=sizeLine/\(a==sysModules)=false/\
  ∃ xs,KT H kvs xs/\h.DictOfH (tupleKind (N1 P w)) a xs:=dt_rd ok (.inl e)
end
def DGet(H:Hp)(a:Addr)(y:V)(r:Option V):Prop:=
 (∃ kvs k,Rd H a (.dK kvs)/\y=kV k/\r=valV kvs k)\/∃ kvs k b,Rd H a (.dT kvs)/\y=.ref b/\H b=some (.tup (k.map kV))/\r=valV kvs k
def DPut(H:Hp)(a:Addr)(y v:V)(H':Hp):Prop:=
 (∃ kvs k,H a=some (.dK kvs)/\y=kV k/\kvs.length<sizeLine/\H'=A0 H a (.dK (putK kvs k v)))\/
 ∃ kvs k b,H a=some (.dT kvs)/\y=.ref b/\H b=some (.tup (k.map kV))/\kvs.length<sizeLine/\H'=A0 H a (.dT (putK kvs k v))
theorem Z2{k:C5}(e:H a=some (.dK kvs)):DGet H a (kV k) (valV kvs k):=.inl ⟨kvs,k,.inl e,rfl,rfl⟩
theorem y7{k:C5}{v:V}(e:H a=some (.dK kvs))(hl:kvs.length<sizeLine):DPut H a (kV k) v (A0 H a (.dK (putK kvs k v))):=.inl ⟨kvs,k,e,rfl,hl,rfl⟩
section
variable {X:Cx} {pins:List (Addr×Obj)} {O:St} {H:Hp} {s:Shared} {a:Addr} {y v:V} {u r:Value} {o:Option V} {A:Around} {E:Value->Shared->Prop}
theorem Inv.big(I:Inv X pins O H s):sysModules<s.heap.objs.size:=by
 have h:mainGlobals<s.heap.objs.size:=(I.mod.glob.keeps I.bk).lt;exact Nat.lt_trans (by decide) h
theorem vV{Q:Value->Shared->Prop}(hu:A.units+1<cLine)(I:Inv X pins O H s)(g:DGet H a y (some v))(ry:RelV y u)(h:∀ w' s',Inv X pins O H s'->RelV v w'->Q w' s') :
  wpAny (model X.prog X.w) A (getItem (.ref a) u) Q E s:=by
 rcases g with ⟨kvs,k,e,ey,l⟩ | ⟨kvs,k,b,e,ey,eb,l⟩
 .subst ey;obtain ⟨z,hd,vs,rel,dd⟩:=dk_rd I.hok e;obtain ⟨w',hw,rw'⟩:=kB (v:=v) (o:=valueAt vs k) (by rw [l];exact rel.val k);exact wpAny_getItem_of (kV_is ry) dd.mapOf hw (h w' _ (I.tok _) rw')
 .subst ey
  cases (show u=Value.ref b from ry)
  obtain ⟨z,hd,xs,rel,dd⟩:=dt_rd I.hok e;obtain ⟨w',hw,rw'⟩:=kB (v:=v) (o:=(atKey xs k).map (·.2)) (by rw [l];exact rel.val k);obtain ⟨p,hp,Y1⟩:=Option.map_eq_some_iff.mp hw;refine wpAny_getItem_heap (tupleKind_room_in1 hu) (bO I.hok eb) dd hp ?_;rw [Y1];exact h w' _ (I.tok _) rw'
theorem d_in{Q:Value->Shared->Prop}(hu:A.units+1<cLine)(I:Inv X pins O H s)(g:DGet H a y o)(ry:RelV y u)(h:∀ s',Inv X pins O H s'->Q (.bool o.isSome) s') :
  wpAny (model X.prog X.w) A (compareOp .In u (.ref a)) Q E s:=by
 rcases g with ⟨kvs,k,e,ey,l⟩ | ⟨kvs,k,b,e,ey,eb,l⟩
 .subst ey;obtain ⟨z,hd,vs,rel,dd⟩:=dk_rd I.hok e;refine wpAny_in_of (kV_is ry) hd dd.mapOf ?_;rw [<- (rel.val k).isSome_eq,<- l];exact h _ (I.tok _)
 .subst ey
  cases (show u=Value.ref b from ry)
  obtain ⟨z,hd,xs,rel,dd⟩:=dt_rd I.hok e;refine wpAny_in_heap (tupleKind_room_in1 hu) (bO I.hok eb) hd dd ?_;have q:=(rel.val k).isSome_eq;rw [Option.isSome_map] at q;rw [<- q,<- l];exact h _ (I.tok _)
theorem alP{Q:Value->Shared->Prop}(hu:A.units+1<cLine)(I:Inv X pins O H s)(g:DGet H a y o)(ry:RelV y u)(h:∀ s',Inv X pins O H s'->Q (.bool (!o.isSome)) s') :
  wpAny (model X.prog X.w) A (compareOp .NotIn u (.ref a)) Q E s:=by
 rcases g with ⟨kvs,k,e,ey,l⟩ | ⟨kvs,k,b,e,ey,eb,l⟩
 .subst ey;obtain ⟨z,hd,vs,rel,dd⟩:=dk_rd I.hok e;refine wpAny_notIn_of (kV_is ry) hd dd.mapOf ?_;rw [<- (rel.val k).isSome_eq,<- l];exact h _ (I.tok _)
 .subst ey
  cases (show u=Value.ref b from ry)
  obtain ⟨z,hd,xs,rel,dd⟩:=dt_rd I.hok e;refine wpAny_notIn_heap (tupleKind_room_in1 hu) (bO I.hok eb) hd dd ?_;have q:=(rel.val k).isSome_eq;rw [Option.isSome_map] at q;rw [<- q,<- l];exact h _ (I.tok _)
theorem oI{ob:HO}(I:Inv X pins O H s)(mu:fX (H a))(hs:Heap.SameBut a s.heap h')(he:∃ q,h'.get? a=some q)(new:ObjOk X.prog X.w (A0 H a ob) h' a ob) :
  Inv X pins O (A0 H a ob) { s with heap:=h',toks:=t' }:=
 I.write (x:=a) (e:=a) mu (.inl rfl) (fun b q hb z=>(hs.2 b hb).trans z) he new
theorem oJ{P:Program}{w:World}{vs:List (C5×Value)}(z:kvs.length<=sizeLine)(hd:(a==sysModules)=false)(rel:KV kvs vs)(dd:h'.DictOf (N1 P w) a vs) :
  ObjOk P w H' h' a (.dK kvs):=⟨z,hd,vs,rel,dd⟩
theorem vW{Q:Unit->Shared->Prop}(hu:A.units+1<cLine)(I:Inv X pins O H s)(g:DPut H a y v H')(ry:RelV y u)(rv:RelV v r)(h:∀ s',Inv X pins O H' s'->Q () s') :
  wpAny (model X.prog X.w) A (setItem (.ref a) u r) Q E s:=by
 rcases g with ⟨kvs,k,e,ey,l,eH⟩ | ⟨kvs,k,b,e,ey,eb,l,eH⟩
 .subst ey eH;obtain ⟨z,hd,vs,rel,dd⟩:=dk_of I.hok e;have hz:vs.length<=sizeLine:=by rw [<- rel.length];exact z
  have hl:(putK kvs k v).length<=sizeLine:=by have:=oH kvs k v;lia
  refine wpAny_setItem_pairs (hsz:=hz) (kV_is ry) dd fun h' dd' hs=>h _ ?_
  have he:∃ q,h'.get? a=some q:=let ⟨q,_,_,hq,_⟩:=dd';⟨q,hq⟩
  exact oI I (by rw [e];exact True.intro) hs he (oJ hl hd (rel.put k rv) dd')
 .subst ey eH
  cases (show u=Value.ref b from ry)
  obtain ⟨z,hd,xs,rel,dd⟩:=dt_of I.hok e;have hz:xs.length<=sizeLine:=by rw [<- Paired.length rel];exact z
  have hl:(putK kvs k v).length<=sizeLine:=by have:=oH kvs k v;lia
  refine wpAny_setItem_heap (hsz:=hz) (tupleKind_room_in1 hu) (bO I.hok eb) dd fun h' dd' hs=>h _ ?_
  obtain ⟨q,es,ep,hq,h2,h3,h4,_,h5⟩:=dd';refine oI I (by rw [e];exact True.intro) hs ⟨q,hq⟩ ⟨hl,hd,_,(rel.put k eb rv).keeps fun c ys ec=>?_,q,es,ep,hq,h2,h3,h4,h5⟩;rw [A9 (ne_of ec e (fun z=>nomatch z))];exact ec
end
section
variable {X:Cx} {pins:List (Addr×Obj)} {O:St} {H:Hp} {s:Shared} {a:Addr} {kvs:List (C5×V)} {k:C5} {u:Value} {A:Around} {E:Value->Shared->Prop}
theorem d_len{Q:Value->Shared->Prop}(I:Inv X pins O H s)(e:Rd H a (.dK kvs))(h:∀ t s',Inv X pins O H s'->Q (.int kvs.length t) s'):wpAny (model X.prog X.w) A (call (.builtin "len") [.ref a]) Q E s:=by
 obtain ⟨z,hd,vs,rel,dd⟩:=dk_rd I.hok e;refine call_len_dict hd dd (by rw [<- rel.length];rw [sizeLine_eq] at z;lia) ?_;rw [<- rel.length];exact h _ _ (I.tok _)
end
def NoSl(i:Expr):Prop:=∀ ov iv,subscripted i false ov iv=operate [ov,iv] (getItem ov iv)
theorem vX{w:World}{A:Around}{env:Env}{value slice:Expr}{pos:Pos}{T id:String}{Q:Value->Shared->Prop}(hl:typeLookup (.type T) "__getitem__"=pure (some (.builtin id)))(hs:NoSl slice)(h:wpAny (model prog w) A (eval value env) (fun o zu=>wpAny (model prog w) A (eval slice env) (fun i zx=>zx.TypeIs o T/\wpAny (model prog w) A (getItem o i) Q E zx) E zu) E s) :
  wpAny (model prog w) A (eval (.Subscript value slice pos) env) Q E s:=by
 refine Subscript_ (wpAny_mono h (fun o zu zr=>wpAny_mono zr (fun i zx zq=>?_) fun _ _ x=>x) fun _ _ x=>x);obtain ⟨hT,zq⟩:=zq;unfold subscriptTail;refine wpAny_bind ?_;rw [getitemInPython_of_ne hT.not_modules];refine wpAny_bind (wpAny_specialOf hT hl ?_);have fin:wpAny (model prog w) A (subscripted slice false o i) (fun r zw=>wpAny (model prog w) A (letTemporaryGo value o r >>= fun _=>pure r) Q E zw) E zx:=by
  rw [hs o i];exact wpAny_operating (wpAny_mono zq (fun r zw zp=>wpAny_bind (wpAny_letTemporaryGo (wpAny_pure zp))) fun _ _ x=>x)
 first
  | exact wpAny_pure (wpAny_bind fin)
  | exact wpAny_bind (wpAny_pure (wpAny_bind fin))
  | exact wpAny_bind fin
theorem agm{o:Option V}(I:Inv X pins O H s)(g:DGet H a y o):s.TypeIs (.ref a) "dict":=by
 rcases g with ⟨kvs,k,e,_,_⟩ | ⟨kvs,k,b,e,_,_,_⟩
 .obtain ⟨_,_,vs,_,dd⟩:=dk_rd I.hok e;exact dd.typeIs
 .obtain ⟨_,_,xs,_,dd⟩:=dt_rd I.hok e;exact dd.typeIs
def tDGet(td ty:TE):TE:=fun O H Q=>td O H fun x H1=>ty O H1 fun y H2=>∃ a v,x=.ref a/\DGet H2 a y (some v)/\Q v H2
def sDPut(td ty tv:TE):TS:=fun D O H=>tv O H fun v H1=>td O H1 fun x H2=>ty O H2 fun y H3=>∃ a H4,x=.ref a/\DPut H3 a y v H4/\D.nx O H4
def sDAug(td ty tv:TE)(rd:V->V->Hp->VK->Prop):TS:=fun D O H=>td O H fun x H1=>ty O H1 fun y H2=>∃ a v,x=.ref a/\DGet H2 a y (some v)/\
 tv O H2 fun y2 H3=>rd v y2 H3 fun z H4=>∃ H5,DPut H4 a y z H5/\D.nx O H5
section
variable {X:Cx} {o i e value:Expr} {pos pos' tpos:Pos} {td ty tv:TE}
theorem alQ(hu:X.A.units+1<cLine)(ho:PE X o td)(hi:PE X i ty)(hs:NoSl i):PE X (.Subscript o i pos) (tDGet td ty):=by
 intro pins s O H Q I h;refine vX PySem.F.slot_dict_getitem.lookup hs (C2 (ho pins s O H _ I h) fun u s1 ⟨x,H1,I1,rx,q1⟩=>C2 (hi pins s1 O H1 _ I1 q1) fun iv s2 ⟨y,H2,I2,ry,a,v,ex,g,q2⟩=>?_);subst ex;obtain rfl:u=Value.ref a:=rx;exact ⟨agm I2 g,vV hu I2 g ry fun w' s3 I3 rw'=>⟨v,H2,I3,rw',q2⟩⟩
theorem alR(hu:X.A.units+1<cLine)(ho:PE X o td)(hi:PE X i ty)(hv:PE X value tv)(hs:swapsWith value (some (.Subscript o i pos')) pos.line X.env=pure false) :
  PS X (.Assign [.Subscript o i pos'] value pos) (sDPut td ty tv):=by
 intro pins s O H D I h;refine wpAny_Assign_Subscript (C2 (hv pins s O H _ I h) fun r s1 ⟨v,H1,I1,rv,q1⟩=>C2 (ho pins s1 O H1 _ I1 q1) fun u s2 ⟨x,H2,I2,rx,q2⟩=>C2 (hi pins s2 O H2 _ I2 q2) fun iv s3 ⟨y,H3,I3,ry,a,H4,ex,g,q3⟩=>?_) hs;subst ex;obtain rfl:u=Value.ref a:=rx;exact vW hu I3 g ry rv fun s4 I4=>⟨O,H4,I4,q3⟩
theorem alS{op:Operator}{rd:V->V->Hp->VK->Prop}(hu:X.A.units+1<cLine)(ho:PE X o td)(hi:PE X i ty)(hv:PE X value tv)(sD:InOp X op rd)(ha:∀ ov iv new,augStore i ov iv new=(do holding [new,ov,iv] (setItem ov iv new);release [new,ov,iv] [];pure .next)):PS X (.AugAssign (.Subscript o i tpos) op value pos) (sDAug td ty tv rd):=by
 intro pins s O H D I h;refine wpAny_AugAssign_SubscriptAny (C2 (ho pins s O H _ I h) fun u s1 ⟨x,H1,I1,rx,q1⟩=>C2 (hi pins s1 O H1 _ I1 q1) fun iv s2 ⟨y,H2,I2,ry,a,v,ex,g,q2⟩=>?_) ha;subst ex;obtain rfl:u=Value.ref a:=rx;refine vV hu I2 g ry fun w' s3 I3 rw'=>C2 (hv pins s3 O H2 _ I3 q2) fun w2 s4 ⟨y2,H3,I4,ry2,q3⟩=>C2 (sD pins s4 O H3 v y2 w' w2 _ I4 rw' ry2 q3) fun w3 s5 ⟨z,H4,I5,rz,H5,g5,q4⟩=>?_
 exact vW hu I5 g5 ry rz fun s6 I6=>⟨O,H5,I6,q4⟩
end
theorem ajU{P:Program}{w:World}(h:Heap)(hb:sysModules<h.objs.size):ObjOk P w H (h.push { cls:=.type "dict",data:=.dict #[] }) h.objs.size (.dK []):=
 ⟨G3 _,beq_eq_false_iff_ne.mpr (Ne.symm (K8 hb)),[],.nil,Heap.DictOf.new h⟩
def oK:TE:=fun _ H Q=>∀ p,H p=none->Q (.ref p) (A0 H p (.dK []))
section
variable {X:Cx} {pos:Pos}
theorem ajV:PE X (.Dict [] [] pos) oK:=fun pins s O H Q I h=>
 wpAny_Dict_empty ⟨.ref s.heap.objs.size,_,I.laid (a:=s.heap.objs.size) (o:=.dK []) (t':=s.toks) (fun _ _ q=>Heap.get?_push_of_some _ q) (C3 _) (ajU s.heap I.big),rfl,h _ (I.hok.fresh (C3 _))⟩
end
def dU:List (TE×TE)->St->Hp->(List (V×V)->Hp->Prop)->Prop
 | [],_,H,Q=>Q [] H
 | (tk,tv)::r,O,H,Q=>tk O H fun x H1=>tv O H1 fun y H2=>dU r O H2 fun ps H3=>Q ((x,y)::ps) H3
def U5(kvs more:List (C5×V)):List (C5×V):=more.foldl (fun acc kv=>putK acc kv.1 kv.2) kvs
theorem vY:∀ (more kvs:List (C5×V)),(U5 kvs more).length<=kvs.length+more.length
 | [],kvs=>by show kvs.length<=kvs.length+0;lia
 | p::r,kvs=>by
  have h1:=vY r (putK kvs p.1 p.2);have h2:=oH kvs p.1 p.2;show (U5 (putK kvs p.1 p.2) r).length<=_;rw [G5];lia
def tDisp(trs:List (TE×TE)):TE:=fun O H Q=>∀ p,H p=none->dU trs O (A0 H p (.dK [])) fun ps H2=>H2 p=some (.dK [])/\∃ kvs:List (C5×V),ps=kvs.map (fun kv=>(kV kv.1,kv.2))/\kvs.length<=15/\Q (.ref p) (A0 H2 p (.dK (U5 [] kvs)))
structure M1(X:Cx)(o:Expr)(m:Str)(apos:Pos)(e:Expr)(cpos:Pos):Prop where
 base:attributeBase o m X.env (eval o X.env)=eval o X.env
 few:((backTo cpos (starEach [e] X.env)).all (fun x=>!x.1)&&(backToKw cpos (keywordEach [] X.env)).all (fun x=>x.1.isSome)
  && decide (([e]:List Expr).length+([]:List Keyword).length+(if ([]:List Keyword).isEmpty then 0 else 1)<30))=true
 line:(apos.endLine==cpos.line)=true
 trees:backTo cpos (starEach [e] X.env)=[(false,eval e X.env)]
structure M2(X:Cx)(o:Expr)(m:Str)(apos:Pos)(e f:Expr)(cpos:Pos):Prop where
 base:attributeBase o m X.env (eval o X.env)=eval o X.env
 few:((backTo cpos (starEach [e,f] X.env)).all (fun x=>!x.1)&&(backToKw cpos (keywordEach [] X.env)).all (fun x=>x.1.isSome)
  && decide (([e,f]:List Expr).length+([]:List Keyword).length+(if ([]:List Keyword).isEmpty then 0 else 1)<30))=true
 line:(apos.endLine==cpos.line)=true
 trees:backTo cpos (starEach [e,f] X.env)=[(false,eval e X.env),(false,eval f X.env)]
def bP(H:Hp)(a:Addr):Prop:=(∃ kvs,Rd H a (.dK kvs))\/∃ kvs,Rd H a (.dT kvs)
theorem oM(I:Inv X pins O H s)(d:bP H a) :
  s.TypeIs (.ref a) "dict"/\(∀ b,Value.ref a=.ref b->∃ ob,s.heap.get? b=some ob/\ob.dict=none)/\(a==sysModules)=false:=by
 rcases d with ⟨kvs,e⟩ | ⟨kvs,e⟩
 .obtain ⟨_,hd,vs,_,dd⟩:=dk_rd I.hok e;refine ⟨dd.typeIs,fun b q=>?_,hd⟩
  cases q
  obtain ⟨ob,_,_,h1,h2,_⟩:=dd;exact ⟨ob,h1,h2.2.1⟩
 .obtain ⟨_,hd,xs,_,dd⟩:=dt_rd I.hok e;refine ⟨dd.typeIs,fun b q=>?_,hd⟩
  cases q
  obtain ⟨ob,_,_,h1,h2,_⟩:=dd;exact ⟨ob,h1,h2.2.1⟩
section
variable {X:Cx} {pins:List (Addr×Obj)} {O:St} {H:Hp} {s:Shared} {a:Addr} {y d:V} {u r:Value} {o:Option V} {A:Around} {E:Value->Shared->Prop}
theorem anA{Q:Value->Shared->Prop}(hu:A.units+1<cLine)(I:Inv X pins O H s)(g:DGet H a y o)(ry:RelV y u)(h:∀ w' s',Inv X pins O H s'->RelV (o.getD .non) w'->Q w' s') :
  wpAny (model X.prog X.w) A (call (.builtin "dict.get") [.ref a,u]) Q E s:=by
 rcases g with ⟨kvs,k,e,ey,l⟩ | ⟨kvs,k,b,e,ey,eb,l⟩
 .subst ey;obtain ⟨z,hd,vs,rel,dd⟩:=dk_rd I.hok e;refine call_meetsIn dJ dd.typeIs jW (PySem.F.args_dict_get_2 _ _) (meets_dict_get (N1 X.prog X.w) a (kV_is ry) hd) ⟨_,dd.mapOf,h _ _ (I.tok _) ?_⟩;rw [l];exact (rel.val k).getD rfl
 .subst ey
  cases (show u=Value.ref b from ry)
  obtain ⟨z,hd,xs,rel,dd⟩:=dt_rd I.hok e;refine call_meetsIn dJ dd.typeIs jW (PySem.F.args_dict_get_2 _ _) (meetsH_dict_get (tupleKind (N1 X.prog X.w)) a b hd) ⟨tupleKind_room_in1 hu,k,xs,bO I.hok eb,dd,h _ _ (I.tok _) ?_⟩;rw [l];exact (rel.val k).getD rfl
theorem anB{Q:Value->Shared->Prop}(hu:A.units+1<cLine)(I:Inv X pins O H s)(g:DGet H a y o)(ry:RelV y u)(rd:RelV d r)(h:∀ w' s',Inv X pins O H s'->RelV (o.getD d) w'->Q w' s') :
  wpAny (model X.prog X.w) A (call (.builtin "dict.get") [.ref a,u,r]) Q E s:=by
 rcases g with ⟨kvs,k,e,ey,l⟩ | ⟨kvs,k,b,e,ey,eb,l⟩
 .subst ey;obtain ⟨z,hd,vs,rel,dd⟩:=dk_rd I.hok e;refine call_meetsIn dJ dd.typeIs jW (PySem.F.args_dict_get_3 _ _ _) (meets_dict_get_default (N1 X.prog X.w) a (kV_is ry) hd r) ⟨_,dd.mapOf,h _ _ (I.tok _) ?_⟩;rw [l];exact (rel.val k).getD rd
 .subst ey
  cases (show u=Value.ref b from ry)
  obtain ⟨z,hd,xs,rel,dd⟩:=dt_rd I.hok e;refine call_meetsIn dJ dd.typeIs jW (PySem.F.args_dict_get_3 _ _ _) (meetsH_dict_get_default (tupleKind (N1 X.prog X.w)) a b hd r) ⟨tupleKind_room_in1 hu,k,xs,bO I.hok eb,dd,h _ _ (I.tok _) ?_⟩;rw [l];exact (rel.val k).getD rd
end
def oN(td ty:TE):TE:=fun O H Q=>td O H fun x H1=>∃ a,x=.ref a/\bP H1 a/\ty O H1 fun y H2=>∃ o,DGet H2 a y o/\Q (o.getD .non) H2
def oO(td ty tx:TE):TE:=fun O H Q=>td O H fun x H1=>∃ a,x=.ref a/\bP H1 a/\ty O H1 fun y H2=>tx O H2 fun z H3=>∃ o,DGet H3 a y o/\Q (o.getD z) H3
section
variable {X:Cx} {o e f:Expr} {apos cpos:Pos} {td ty tx:TE}
theorem ajW(hu:X.A.units+1<cLine)(ho:PE X o td)(he:PE X e ty)(m:M1 X o "get" apos e cpos):PE X (.Call (.Attribute o "get" apos) [e] [] cpos) (oN td ty):=by
 intro pins s O H Q I h;refine wpAny_Call_method m.base m.few m.line PySem.F.plainAttrs_dict dJ PySem.F.type_dict_get (C2 (ho pins s O H _ I h) fun u s1 ⟨x,H1,I1,rx,a,ex,d,q1⟩=>?_);subst ex;obtain rfl:u=Value.ref a:=rx;obtain ⟨t1,t2,_⟩:=oM I1 d;refine ⟨t1,t2,?_⟩;rw [m.trees];refine Calls.callWith_builtin rfl (Calls.evalArgs_plain (Calls.spliced_cons (C2 (he pins s1 O H1 _ I1 q1) fun iv s2 ⟨y,H2,I2,ry,ov,g,q2⟩=>Calls.spliced_nil ?_)));exact anA hu I2 g ry fun w' s3 I3 rw'=>⟨_,H2,I3,rw',q2⟩
theorem ajX(hu:X.A.units+1<cLine)(ho:PE X o td)(he:PE X e ty)(hf:PE X f tx)(m:M2 X o "get" apos e f cpos):PE X (.Call (.Attribute o "get" apos) [e,f] [] cpos) (oO td ty tx):=by
 intro pins s O H Q I h;refine wpAny_Call_method m.base m.few m.line PySem.F.plainAttrs_dict dJ PySem.F.type_dict_get (C2 (ho pins s O H _ I h) fun u s1 ⟨x,H1,I1,rx,a,ex,d,q1⟩=>?_);subst ex;obtain rfl:u=Value.ref a:=rx;obtain ⟨t1,t2,_⟩:=oM I1 d;refine ⟨t1,t2,?_⟩;rw [m.trees];refine Calls.callWith_builtin rfl (Calls.evalArgs_plain (Calls.spliced_cons (C2 (he pins s1 O H1 _ I1 q1) fun iv s2 ⟨y,H2,I2,ry,q2⟩=>
  Calls.spliced_cons (C2 (hf pins s2 O H2 _ I2 q2) fun fv s3 ⟨z,H3,I3,rz,ov,g,q3⟩=>Calls.spliced_nil ?_))))
 exact anB hu I3 g ry rz fun w' s4 I4 rw'=>⟨_,H3,I4,rw',q3⟩
end
section
variable {X:Cx} {pins:List (Addr×Obj)} {O:St} {H:Hp} {s:Shared} {a:Addr} {kvs:List (C5×V)} {A:Around} {E:Value->Shared->Prop}
end
section
variable {X:Cx} {pins:List (Addr×Obj)} {O:St} {H:Hp} {s:Shared} {a:Addr} {y:V} {u:Value} {A:Around} {E:Value->Shared->Prop}
end
end L2
namespace L2
open PySem PySem.Spec PyProof.Rows
section
variable {X:Cx}
end
section
variable {κ:Type} [DecidableEq κ]
theorem kF:∀ {l:List κ} {k:κ},l.Nodup->¬ k∈l->(l++[k]).Nodup
 | [],k,_,_=>by simp
 | a::r,k,h,hk=>by
  obtain ⟨h1,h2⟩:=V0.mp h;show (a::(r++[k])).Nodup;refine V0.mpr ⟨fun m=>?_,kF h2 fun m=>hk (E8.mpr (Or.inr m))⟩
  rcases F9.mp m with q | q
  .exact h1 q
  .exact hk (E8.mpr (Or.inl (E6.mp q).symm))
end
end L2
set_option maxRecDepth 100000
namespace L2
open PySem PySem.Spec PyProof.Rows
def cloOf(cells:List (Str×Addr)):List (Str×NameKind)->List (Str×Addr)->List (Str×Addr)
 | [],acc=>acc
 | (n,k)::r,acc=>if k=.free then cloOf cells r ((n,(cells.lookup n).getD 0)::acc) else cloOf cells r acc
theorem oP{env:Env} : ∀ (names:List (Str×NameKind)) (acc:List (Str×Addr)),(∀ x∈names,x.2=.free->∃ c,env.cells.lookup x.1=some c)->
  (forIn names acc fun (x:Str×NameKind) (cs:List (Str×Addr))=>(if (x.2==NameKind.free)=true then do
   let c <- cellOf env x.1
   pure (ForInStep.yield ((x.1,c)::cs)) else pure (ForInStep.yield cs):Sem (ForInStep (List (Str×Addr)))))=(pure (cloOf env.cells names acc):Sem (List (Str×Addr)))
 | [],acc,_=>rfl
 | (n,k)::r,acc,h=>by
  rw [List.forIn_cons];have hr:∀ x∈r,x.2=.free->∃ c,env.cells.lookup x.1=some c:=fun x hx=>h x (M6 _ hx)
  by_cases hk:k=.free
  .subst hk;obtain ⟨c,hc⟩:=h (n,.free) K1 rfl;have e1:cellOf env n=pure c:=by unfold cellOf;rw [show env.cells.lookup n=some c from hc]
   simp only [beq_self_eq_true,if_true];rw [e1];show (forIn r ((n,c)::acc) _:Sem _)=_;rw [oP r _ hr];show _=pure (if NameKind.free=.free then cloOf env.cells r ((n,(env.cells.lookup n).getD 0)::acc) else _);rw [if_pos rfl,show env.cells.lookup n=some c from hc];rfl
  .have hb:(k==NameKind.free)=false:=by simpa using hk
   simp only [hb,fT,if_false];show (forIn r acc _:Sem _)=_;rw [oP r _ hr];show _=pure (if k=.free then _ else cloOf env.cells r acc);rw [if_neg hk]
theorem vZ{scope:Scope}{env:Env}(h:∀ x∈scope.names,x.2=.free->∃ c,env.cells.lookup x.1=some c):closureFor scope env=pure (cloOf env.cells scope.names []):=by
 simp only [closureFor];have e:=oP (env:=env) scope.names [] h;rw [e];rfl
theorem kG{cells:List (Str×Addr)}{x:Str} : ∀ (names:List (Str×NameKind)) (acc:List (Str×Addr)),
  (cloOf cells names acc).lookup x=if (x,NameKind.free)∈names then some ((cells.lookup x).getD 0) else acc.lookup x
 | [],acc=>by simp [cloOf]
 | (n,k)::r,acc=>by
  show (if k=.free then cloOf cells r ((n,(cells.lookup n).getD 0)::acc) else cloOf cells r acc).lookup x=_
  by_cases hk:k=.free
  .subst hk;rw [if_pos rfl,kG r]
   by_cases hm:(x,NameKind.free)∈r
   .rw [if_pos hm,if_pos (M6 _ hm)]
   .rw [if_neg hm,fS]
    by_cases hx:x=n
    .subst hx;rw [if_pos K1]
     simp
    .have e:(x==n)=false:=by simpa using hx
     rw [e,if_neg];intro z
     rcases E8.mp z with z | z
     .exact hx (Prod.mk.inj z).1
     .exact hm z
  .rw [if_neg hk,kG r]
   by_cases hm:(x,NameKind.free)∈r
   .rw [if_pos hm,if_pos (M6 _ hm)]
   .rw [if_neg hm,if_neg];intro z
    rcases E8.mp z with z | z
    .exact hk (Prod.mk.inj z).2.symm
    .exact hm z
theorem oQ{α:Type}{x:Str} : ∀ {l:List (Str×α)} {k:α},l.lookup x=some k->(x,k)∈l
 | [],_,h=>by simp at h
 | (n,a)::r,k,h=>by
  rw [fS] at h
  by_cases hx:x=n
  .subst hx;simp at h;subst h;exact K1
  .have e:(x==n)=false:=by simpa using hx
   rw [e] at h;exact M6 _ (oQ h)
theorem wA{sc:Scope}{env:Env}{x:Str}{k:NameKind}(hc:∀ y∈sc.names,y.2≠.cell)(h:(relabel sc env).names.lookup x=some k)(hk:k=.cell\/k=.free):(x,NameKind.free)∈sc.names:=by
 have m:=oQ h;unfold relabel at m;obtain ⟨⟨n,k'⟩,hm,e⟩:=E1.mp m;have L1:=hc _ hm
 by_cases hf:k'=.free
 .subst hf
  have:n=x:=by
   dsimp only at e
   split at e
   .exact (Prod.mk.inj e).1
   .exact (Prod.mk.inj e).1
  subst this;exact hm
 .have hb:(k'==NameKind.free)=false:=by simpa using hf
  simp only [hb,Bool.false_and,fT,if_false] at e;obtain ⟨e1,e2⟩:=Prod.mk.inj e;subst e1 e2
  rcases hk with z | z
  .exact absurd z L1
  .subst z;exact absurd rfl hf
structure CompOk(N:List Str)(kn:List (Str×NameKind))(sc:Scope)(N':List Str)(k:Nat)(ixs:List Nat):Prop where
 kind:sc.kind=.function
 cell:∀ x∈sc.names,x.2≠.cell
 names:∀ x∈sc.names,x.2=.local->sc.names.lookup x.1=some .local
 free:∀ x∈sc.names,x.2=.free->kn.lookup x.1=some .cell\/kn.lookup x.1=some .free
 clean:∀ x∈sc.names,x.2=.free->sc.names.lookup x.1=some .free
 len:N'.length=k+ixs.length
 at_:ixs.map (fun i=>N[i]?)=(N'.drop k).map some
 fr:∀ x∈N'.drop k,(x,NameKind.free)∈sc.names
def L6(X:Cx)(sc:Scope)(N':List Str)(C:Addr)(zw:Shared)(zt:Hp)(fp:List Addr)(pins:List (Addr×Obj)):Cx:=
 {prog:=X.prog,w:=X.w,K:=X.K,mg:=X.mg,base:=X.base,A:=X.A,N:=N',s₀:=zw,H₀:=zt,
  env:=compEnvC sc (cloOf X.env.cells sc.names []) C X.env,outer:=X.stack,stack:=X.stack,ex:=fp,fn:=fun _=>false,calm:=X.calm,
  pn:=X.pn++pins,xe:=fun _ _=>False }
def compStart(k:Nat)(ixs:List Nat)(O:St):St:=U3 k none++ixs.map fun i=>(O[i]?).join
theorem aeT : (compStart k ixs O).length=k+ixs.length:=by simp [compStart]
section
variable {X:Cx} {sc:Scope} {N':List Str} {k:Nat} {ixs:List Nat} {pins:List (Addr×Obj)} {O:St} {H:Hp} {s:Shared} {fp:List Addr}
theorem dW(C:CompOk X.N X.env.scope.names sc N' k ixs)(I:Inv X pins O H s){x:Str}{c:Addr}(e:(cloOf X.env.cells sc.names []).lookup x=some c):X.env.cells.lookup x=some c/\(x,NameKind.free)∈sc.names:=by
 rw [kG] at e
 by_cases hm:(x,NameKind.free)∈sc.names
 .rw [if_pos hm] at e;obtain ⟨c',o0⟩:=I.ok.has x (C.free _ hm rfl);rw [o0] at e;exact ⟨o0.trans e,hm⟩
 .rw [if_neg hm] at e;cases e
theorem wB(C:CompOk X.N X.env.scope.names sc N' k ixs)(I:Inv X pins O H s){x:Str}(hm:(x,NameKind.free)∈sc.names):∃ c,(cloOf X.env.cells sc.names []).lookup x=some c/\X.env.cells.lookup x=some c:=by
 obtain ⟨c',o0⟩:=I.ok.has x (C.free _ hm rfl);refine ⟨c',?_,o0⟩;rw [kG,if_pos hm,o0];rfl
theorem anC(C:CompOk X.N X.env.scope.names sc N' k ixs)(I:Inv X pins O H s)(hf:∀ b∈fp,FpOk X pins H b)(ho:∀ b∈fp,∃ o,s.heap.get? b=some o):(L6 X sc N' s.heap.objs.size s H fp pins).Ok where
 mod:=I.ok.mod
 kind:=C.kind
 glob:=I.ok.glob
 blt:=I.ok.blt
 above:=C3 _
 inj:=fun x y c e1 e2=>I.ok.inj x y c (dW C I e1).1 (dW C I e2).1
 has:=fun x hx=>by
  have hm:(x,NameKind.free)∈sc.names:=by
   rcases hx with z | z
   .exact wA C.cell z (.inl rfl)
   .exact wA C.cell z (.inr rfl)
  obtain ⟨c,h1,_⟩:=wB C I hm;exact ⟨c,h1⟩
 cab:=fun x c h _=>by cases h
 hd:=I.ok.hd
 frames:=I.ok.frames
 stk:=.inl rfl
 exf:=fun b hb=>by
  obtain ⟨o,e⟩:=ho b hb;exact ⟨K8 (Heap.lt_size e),fun x c e1=>(hf b hb).2.2.2.2.1 x c (dW C I e1).1⟩
 bs:=I.bs
 bsz:=M8 I.ok.bsz I.sz
 noex:=fun b o e hb=>by
  rcases (hf b hb).2.2.2.1 with z | z
  .exact I.ok.noex b o e z
  .exact absurd (U4 (Heap.lt_size e) (M8 I.ok.bsz z)) (Y7 _)
 exfs:=fun b hb hm=>by
  rcases E8.mp (I.stkSub b hm) with z | z
  .exact (hf b hb).2.1 z
  .exact (hf b hb).2.2.1 z
 funs:=I.stack
 frf:=I.stkFree
theorem alT(C:CompOk X.N X.env.scope.names sc N' k ixs)(I:Inv X pins O H s)(hf:∀ b∈fp,FpOk X pins H b)(ho:∀ b∈fp,∃ o,s.heap.get? b=some o){m:Str->Option Value}(hn:h'.Ns s.heap.objs.size m)(hk:∀ b o,s.heap.get? b=some o->h'.get? b=some o):Inv (L6 X sc N' s.heap.objs.size s H fp pins) [] (compStart k ixs O) H { s with heap:=h',toks:=t' } where
 ok:=anC C I hf ho
 os:=rfl
 bare:=I.bare
 base:=Un.kept hk
 loc:=by
  refine ⟨m,hn,fun i x v e1 e2 e3=>?_⟩;unfold compStart at e2
  by_cases hi:i<k
  .rw [jR (by simpa using hi)] at e2;rw [List.getElem?_replicate_of_lt hi] at e2;cases e2
  .rw [fN (by simpa using hi),List.length_replicate] at e2;rw [U9] at e2;cases e4:ixs[i-k]? with
   | none=>rw [e4] at e2;cases e2
   | some j=>
    rw [e4] at e2;have e5:(O[j]?).join=some v:=Option.some.inj e2;have e6:O[j]?=some (some v):=by
     cases e7:O[j]? with
     | none=>rw [e7] at e5;cases e5
     | some o=>rw [e7] at e5;exact congrArg some e5
    have e1':N'[i]?=some x:=e1;have ed:(N'.drop k)[i-k]?=some x:=by rw [List.getElem?_drop,show k+(i-k)=i by lia];exact e1'
    have n3:(x,NameKind.free)∈sc.names:=C.fr x (N7 ed);have n2:X.N[j]?=some x:=by
     have q:=congrArg (fun l=>l[i-k]?) C.at_;simp only [U9,e4,ed,Option.map_some] at q;exact Option.some.inj q
    obtain ⟨m0,hn0,iQ⟩:=I.loc;have iR:X.env.scope.names.lookup x=some .cell\/X.env.scope.names.lookup x=some .free:=C.free _ n3 rfl;obtain ⟨u,r,l⟩:=iQ j x v n2 e6 (.inr iR);refine ⟨u,r,.inr ?_⟩
    rcases l with ⟨l,_⟩ | ⟨_,c,hc,L0⟩
    .have l':X.env.scope.names.lookup x=some .local:=l
     rcases iR with z | z
     .rw [l'] at z;cases z
     .rw [l'] at z;cases z
    .obtain ⟨c',h1,h2⟩:=wB C I n3;rw [hc] at h2;cases h2;refine ⟨?_,c,h1,?_⟩
     .have e3':(relabel sc X.env).names.lookup x=some .local\/(relabel sc X.env).names.lookup x=some .cell\/(relabel sc X.env).names.lookup x=some .free:=e3
      rcases e3' with z | z
      .exfalso
       have mm:=oQ z;unfold relabel at mm;obtain ⟨⟨n,k'⟩,hm,e⟩:=E1.mp mm;have aR:k'=.local/\n=x:=by
        dsimp only at e
        split at e
        .obtain ⟨_,q⟩:=Prod.mk.inj e
         cases q
        .exact ⟨(Prod.mk.inj e).2,(Prod.mk.inj e).1⟩
       obtain ⟨z1,z2⟩:=aR;subst z1 z2;have q1:=C.names _ hm rfl;rw [C.clean _ n3 rfl] at q1
       cases q1
      .exact z
     .exact L0.keeps hk
 cell:=fun x c e=>by
  obtain ⟨v,z⟩:=I.cell x c (dW C I e).1;exact ⟨v,z.keeps hk⟩
 free:=I.hok.fresh (C3 _)
 freeC:=fun x c e=>I.freeC x c (dW C I e).1
 pin:=fun p hp=>by
  have hp':p∈X.pn++pins:=by simpa [L6] using hp
  obtain ⟨e,n,ne,nf,d⟩:=I.pin p hp';refine ⟨hk _ _ e,n,K8 (Heap.lt_size e),fun hm=>?_,d⟩
  rcases E8.mp (I.stkSub _ hm) with z | z
  .exact ne z
  .exact nf z
 hok:=I.hok.kept hk
 len:=by rw [aeT];exact C.len.symm
end
section
variable {prog:Program} {w:World} {A:Around} {R:Result->Shared->Prop} {s:Shared}
theorem afx{scope:Scope}{pos:Pos}{it acc:Value}{env:Env}(I:Nat->Shared->Prop)(turn:∀ n s,I n s->wpAny (model prog w) A (pyNext it) (fun r zu=>match r with
   | none=>R (.ok .next) zu
   | some v=>wpAny (model prog w) A (letOwnedTupleGo target it v) (fun _ zu=>wpAny (model prog w) A (assign target env v) (fun _ zx=>
     wpAny (model prog w) A (forIn ifs true fun c r=>if r=true then do let ok <- isTrue c env (eval c env);pure (ForInStep.yield ok) else pure (ForInStep.yield r)) (fun ok zw=>
      if ok=true then wpAny (model prog w) A (eval elt env) (fun x zo=>
       wpAny (model prog w) A (call (.builtin "list.append") [acc,x]) (fun _ zn=>∃ m,m<n/\I m zn) (notedBy (model prog w) A env fun e s'=>R (.error e) s') zo) (notedBy (model prog w) A env fun e s'=>R (.error e) s') zw
      else ∃ m,m<n/\I m zw) (notedBy (model prog w) A env fun e s'=>R (.error e) s') zx) (notedBy (model prog w) A env fun e s'=>R (.error e) s') zu) (notedBy (model prog w) A env fun e s'=>R (.error e) s') zu) (notedBy (model prog w) A env fun e s'=>R (.error e) s') s)(n:Nat)(h:I n s) :
  codeAny (model prog w) A (.compLoop (.ListComp elt [⟨target,iter,ifs,0⟩] scope pos) 0 it acc env) R s:=by
 refine codeAny_loop rfl I (fun n s hI=>?_) n h;show wpAny _ A ((compTurn (.ListComp elt [⟨target,iter,ifs,0⟩] scope pos) 0 it acc env).onRaise (fun x=>do noteFrame x env;theTreesLotGoes x)) _ _ s;refine wpAny_noted ?_;rw [compTurn_list];refine wpAny_bind (wpAny_standAt (wpAny_bind (wpAny_mono (turn n s hI) (fun r zu zr=>?_) fun _ _ h'=>h')))
 cases r with
 | none=>exact wpAny_pure zr
 | some v=>
  refine wpAny_bind (wpAny_mono zr (fun _ zu zr=>?_) fun _ _ h'=>h');refine wpAny_bind (wpAny_mono zr (fun _ zx zq=>wpAny_bind (wpAny_mono zq (fun ok zw zp=>?_) fun _ _ h'=>h')) fun _ _ h'=>h')
  cases ok with
  | false=>exact wpAny_pure ⟨rfl,zp⟩
  | true=>
   exact wpAny_bind (wpAny_bind (wpAny_mono zp (fun x zo zm=>wpAny_bind (wpAny_mono zm (fun _ zn zk=>wpAny_pure (wpAny_pure ⟨rfl,zk⟩)) fun _ _ h'=>h')) fun _ _ h'=>h'))
end
def PIfs(X:Cx)(ifs:List Expr)(t:TT):Prop:=
 ∀ (pins:List (Addr×Obj)) (s:Shared) (O:St) (H:Hp) (Q:Bool->Hp->Prop),Inv X pins O H s->t O H Q->
  wpAny (model X.prog X.w) X.A (forIn ifs true fun c r=>if r=true then do let ok <- isTrue c X.env (eval c X.env);pure (ForInStep.yield ok) else pure (ForInStep.yield r)) (TP X pins O Q) X.xe s
def tYes:TT:=fun _ H Q=>Q true H
theorem ajY : PIfs X [] tYes:=fun _ _ _ H _ I h=>wpAny_tests_nil ⟨H,I,h⟩
theorem ajZ{c:Expr}{t:TT}(hc:PT X c t):PIfs X [c] t:=fun pins s O H Q I h=>wpAny_tests_one (hc pins s O H Q I h)
def tComp(wi:TI)(k:Nat)(ixs:List Nat)(g:TG)(c:TT)(te:TE):TE:=fun O H Q=>wi O H fun J H1=>∀ D,H1 D=none->
 ∃ (n:Nat) (W:Nat->List V->St->Hp->Prop),W 0 [] (compStart k ixs O) (A0 H1 D (.lst []))/\∀ i ys σ2 H2,W i ys σ2 H2->H2 D=some (.lst ys)->
  (J.stop i H2/\Q (.ref D) H2)\/
  (i<n/\J.go i H2/\∀ x H',J.yld i H2 x H'->g x σ2 H' fun σ3 H3=>c σ3 H3 fun b H4=>
   if b=true then te σ3 H4 fun y H5=>H5 D=some (.lst ys)/\ys.length<sizeLine/\W (i+1) (ys++[y]) σ3 (A0 H5 D (.lst (ys++[y])))
   else H4 D=some (.lst ys)/\W (i+1) ys σ3 H4)
section
variable {X:Cx} {sc:Scope} {N':List Str} {k:Nat} {ixs:List Nat}
theorem wC{pos:Pos}{J:It}(C:CompOk X.N X.env.scope.names sc N' k ixs)(L3:X.calm=true)(hg:∀ C zw zt fp pins,PG (L6 X sc N' C zw zt fp pins) target g)(hc:∀ C zw zt fp pins,PIfs (L6 X sc N' C zw zt fp pins) ifs c)(he:∀ C zw zt fp pins,PE (L6 X sc N' C zw zt fp pins) elt te){tn:Nat->Heap->Prop}(I:Inv X pins O H s)(T:Turn X.prog X.w X.K target J fp it tn)(st:tn 0 s.heap)(hf:∀ b∈fp,FpOk X pins H b)(h:∀ D,H D=none->∃ (n:Nat) (W:Nat->List V->St->Hp->Prop),W 0 [] (compStart k ixs O) (A0 H D (.lst []))/\∀ i ys σ2 H2,W i ys σ2 H2->H2 D=some (.lst ys)->
   (J.stop i H2/\Q (.ref D) H2)\/
   (i<n/\J.go i H2/\∀ x H',J.yld i H2 x H'->g x σ2 H' fun σ3 H3=>c σ3 H3 fun b H4=>
    if b=true then te σ3 H4 fun y H5=>H5 D=some (.lst ys)/\ys.length<sizeLine/\W (i+1) (ys++[y]) σ3 (A0 H5 D (.lst (ys++[y])))
    else H4 D=some (.lst ys)/\W (i+1) ys σ3 H4)){RR:Value->Addr->Result->Shared->Prop}(hRR:∀ D Cc (H':Hp) (s':Shared) (o:Obj) m,Inv X pins O H' s'->Inv X (pins++[(Cc,o)]) O H' s'->s'.heap.get? Cc=some o->s'.heap.Ns Cc m->H' Cc=none->Cc≠X.env.locals->X.s₀.heap.objs.size<=Cc->
   (∀ x c,X.env.cells.lookup x=some c->c≠Cc)->(∀ p∈X.pn++pins,p.1≠Cc)->Q (.ref D) H'->RR (.ref D) Cc (.ok .next) s') :
  wpAny (model X.prog X.w) X.A (newList []) (fun acc zw=>wpAny (model X.prog X.w) X.A (newFunctionEnv sc X.env.globals (cloOf X.env.cells sc.names []) [] X.env.qual none .none (some X.env)) (fun cenv zo=>
   codeAny (model X.prog X.w) X.A (.compStart (.ListComp elt [⟨target,iter,ifs,0⟩] sc pos) 0 (.ref it) acc { cenv with scope:=relabel sc X.env }) (RR acc cenv.locals) zo) E zw) E s:=by
 have fresh:=I.hok.fresh (C3 s.heap.objs.size);obtain ⟨n,W,w0,turn⟩:=h s.heap.objs.size fresh;have hfD:∀ b∈fp,b≠s.heap.objs.size:=fun b hb z=>by
  obtain ⟨o,e,_⟩:=T.obj _ _ st b hb;rw [z] at e;exact absurd (Heap.lt_size e) (Y7 _)
 have hf3:∀ b∈fp,FpOk X pins (A0 H s.heap.objs.size (.lst [])) b:=fun b hb=>⟨by rw [A9 (hfD b hb)];exact (hf b hb).1,(hf b hb).2⟩
 have main:∀ (s3:Shared) (zr:Heap) (t1:Nat),Inv X pins O (A0 H s.heap.objs.size (.lst [])) s3->(∀ b o,s.heap.get? b=some o->s3.heap.get? b=some o)->zr.Ns s3.heap.objs.size (fun x=>([]:List (Str×Value)).reverse.lookup x)->
   (∀ b o,s3.heap.get? b=some o->zr.get? b=some o)->
   tn 0 zr/\codeAny (model X.prog X.w) X.A (.compLoop (.ListComp elt [⟨target,iter,ifs,0⟩] sc pos) 0 (.ref it) (.ref s.heap.objs.size) (L6 X sc N' s3.heap.objs.size s3 (A0 H s.heap.objs.size (.lst [])) fp pins).env) (RR (.ref s.heap.objs.size) s3.heap.objs.size) { s3 with heap:=zr,toks:=t1 }:=by
  intro s3 zr t1 I3 k3 aQ keep3;have aM:tn 0 s3.heap:=T.keep _ _ _ st fun b hb o e=>k3 b o e
  have ho3:∀ b∈fp,∃ o,s3.heap.get? b=some o:=fun b hb=>let ⟨o,e,_⟩:=T.obj _ _ aM b hb;⟨o,e⟩
  have mG:tn 0 zr:=T.keep _ _ _ aM fun b hb o e=>keep3 b o e
  have B0:Inv (L6 X sc N' s3.heap.objs.size s3 (A0 H s.heap.objs.size (.lst [])) fp pins) [] (compStart k ixs O) (A0 H s.heap.objs.size (.lst [])) { s3 with heap:=zr,toks:=t1 }:=alT C I3 hf3 ho3 aQ keep3;refine ⟨mG,?_⟩;have fpX:∀ {H':Hp},(∀ b∈fp,H' b=none)->∀ b∈fp,FpOk (L6 X sc N' s3.heap.objs.size s3 (A0 H s.heap.objs.size (.lst [])) fp pins) [] H' b:=fun {H'} hn b hb=>by
   obtain ⟨o,eo⟩:=ho3 b hb;refine ⟨hn b hb,K8 (Heap.lt_size eo),?_,.inl hb,?_,?_⟩
   .intro hm
    rcases E8.mp (I3.stkSub b hm) with z | z
    .exact (hf b hb).2.1 z
    .exact (hf b hb).2.2.1 z
   .intro x cc ec;exact (hf b hb).2.2.2.2.1 x cc (dW C I3 ec).1
   .intro p hp;exact (hf b hb).2.2.2.2.2 p (by simpa [L6] using hp)
  refine afx (fun m s'=>∃ i ys σ' H',m=n-i/\Inv (L6 X sc N' s3.heap.objs.size s3 (A0 H s.heap.objs.size (.lst [])) fp pins) [] σ' H' s'/\tn i s'.heap/\(∀ b∈fp,H' b=none)/\H' s.heap.objs.size=some (.lst ys)/\W i ys σ' H') ?_ n ⟨0,[],_,_,rfl,B0,mG,fun b hb=>(hf3 b hb).1,A6,w0⟩;rintro m s4 ⟨i,ys,σ4,H4,rfl,I4,st4,fr4,hD4,w4⟩;have again:∀ {i':Nat} {ys':List V} {σ7:St} {H7:Hp} {s6 s7:Shared},i<n->i'=i+1->tn i' s6.heap->Inv (L6 X sc N' s3.heap.objs.size s3 (A0 H s.heap.objs.size (.lst [])) fp pins) ([]++dN fp s6.heap) σ7 H7 s7->H7 s.heap.objs.size=some (.lst ys')->W i' ys' σ7 H7->
    ∃ m,m<n-i/\∃ i ys σ' H',m=n-i/\Inv (L6 X sc N' s3.heap.objs.size s3 (A0 H s.heap.objs.size (.lst [])) fp pins) [] σ' H' s7/\tn i s7.heap/\(∀ b∈fp,H' b=none)/\H' s.heap.objs.size=some (.lst ys)/\W i ys σ' H':=fun {i' ys' σ7 H7 s6 s7} D3 ei eY I7 hD w=>by
   subst ei;refine ⟨n-(i+1),by lia,i+1,ys',σ7,H7,rfl,I7.unpinned,T.keep _ _ _ eY fun b hb o e=>(I7.pin (b,o) (N3 _ (N3 _ (dO hb e)))).1,fun b hb=>?_,hD,w⟩;obtain ⟨o,e,_⟩:=T.obj _ _ eY b hb;exact (I7.pin (b,o) (N3 _ (N3 _ (dO hb e)))).2.1
  rcases turn i ys σ4 H4 w4 hD4 with ⟨stop,q⟩ | ⟨D3,go,step⟩
  .refine C2 (T.done (L6 X sc N' s3.heap.objs.size s3 (A0 H s.heap.objs.size (.lst [])) fp pins) rfl rfl rfl L3 i [] s4 σ4 H4 _ I4 (fpX fr4) st4 stop) fun r s5 eZ=>?_
   obtain ⟨hr,I5⟩:=eZ;subst hr;have back:Inv X pins O H4 s5:=I3.call' (ch:=fp) I5.os I5.base I5.hok I5.bare fun b hb=>⟨(hf b hb).2.2.2.1,(hf b hb).2.1,(hf b hb).2.2.2.2.1,(hf b hb).2.2.2.2.2⟩
   obtain ⟨mm,hn5,_⟩:=I5.loc;obtain ⟨o,es,ep,ho,hd,aS⟩:=id hn5;have hC:s3.heap.objs.size≠X.env.locals:=Nat.ne_of_gt I3.lt;refine hRR s.heap.objs.size s3.heap.objs.size H4 s5 o mm back ?_ ho hn5 I5.free hC I3.sz ?_ ?_ q
   .refine back.pins_of fun p hp=>?_
    rcases F9.mp hp with z | z
    .exact back.pin p (N3 _ z)
    .have e:p=(s3.heap.objs.size,o):=by simpa using z
     subst e;exact ⟨ho,I5.free,hC,I3.nofs (C3 _),fun v z=>by rw [hd] at z;cases z⟩
   .intro x c e z;obtain ⟨v,q⟩:=I3.cell x c e
    have:=q.lt
    rw [z] at this;exact Y7 _ this
   .intro p hp z
    have:=Heap.lt_size (I3.pin p hp).1
    rw [z] at this;exact Y7 _ this
  .refine C2 (T.item (L6 X sc N' s3.heap.objs.size s3 (A0 H s.heap.objs.size (.lst [])) fp pins) rfl rfl rfl L3 i [] s4 σ4 H4 _ I4 (fpX fr4) st4 go) fun r s5 eZ=>?_
   obtain ⟨u,hr,h5⟩:=eZ;subst hr;refine C2 h5 fun _ s6 h6=>?_
   obtain ⟨x,H6,I6,r6,y6,eY,fr6⟩:=h6;have I6':=I6.pinned (fpX fr6) (T.obj _ _ eY);refine wpAny_mono (hg _ _ _ _ _ _ s6 σ4 H6 x u _ I6' r6 (step x H6 y6)) (fun _ s7 h7=>?_) fun _ _ z=>False.elim z
   obtain ⟨σ7,H7,I7,q7⟩:=h7;refine wpAny_mono (hc _ _ _ _ _ _ s7 σ7 H7 _ I7 q7) (fun ok s8 h8=>?_) fun _ _ z=>False.elim z
   obtain ⟨H8,I8,q8⟩:=h8
   cases ok with
   | false=>
    rw [if_neg K6] at q8 ⊢
    exact again D3 rfl eY I8 q8.1 q8.2
   | true=>
    rw [if_pos rfl] at q8 ⊢
    refine wpAny_mono (he _ _ _ _ _ _ s8 σ7 H8 _ I8 q8) (fun y s9 h9=>?_) fun _ _ z=>False.elim z
    obtain ⟨yv,H9,I9,r9,hD9,hz9,w9⟩:=h9;refine wpAny_mono (vS (X:=(L6 X sc N' s3.heap.objs.size s3 (A0 H s.heap.objs.size (.lst [])) fp pins)) _ s9 σ7 H9 (.ref s.heap.objs.size) [yv] (.ref s.heap.objs.size) [y] (fun _ H'=>H'=A0 H9 s.heap.objs.size (.lst (ys++[yv]))) I9 rfl (.cons r9 .nil) ⟨_,ys,yv,rfl,rfl,hD9,hz9,rfl⟩) (fun _ s10 h10=>?_) fun _ _ z=>False.elim z
    obtain ⟨_,U8,I10,_,e10⟩:=h10;subst e10;exact again D3 rfl eY I10 A6 w9
 have I3:=I.lnew (ys:=[]) (its:=[]) (t':=s.toks) .nil (G3 _);refine wpAny_newObj_type (wpAny_newFunctionEnv C.cell (by intro y hy;simp at hy) (fun zr zj zi=>?_) C.kind);obtain ⟨mG,loop⟩:=main _ zr (s.toks+([]:List (Str×Value)).length) I3 (fun b o e=>Heap.get?_push_of_some _ e) zj fun b o e=>zi.extBut b o (K8 (Heap.lt_size e)) (Heap.get?_push_of_some _ e)
 exact codeAny_compStart_list loop (T.self X.A 0 _ _ _ mG loop)
theorem alU{pos:Pos}{wi:TI}(C:CompOk X.N X.env.scope.names sc N' k ixs)(L3:X.calm=true)(hi:PI X target iter wi)(hg:∀ C zw zt fp pins,PG (L6 X sc N' C zw zt fp pins) target g)(hc:∀ C zw zt fp pins,PIfs (L6 X sc N' C zw zt fp pins) ifs c)(he:∀ C zw zt fp pins,PE (L6 X sc N' C zw zt fp pins) elt te)(hs:∀ x,foldedSetIterable iter X.env x=pure x:=by intro _;rfl):PE X (.ListComp elt [⟨target,iter,ifs,0⟩] sc pos) (tComp wi k ixs g c te):=by
 intro pins s O H Q I h;rw [eval_ListComp];refine wpAny_comprehension_free (use:=none) rfl hs (vZ fun x hx hf=>I.ok.has x.1 (C.free x hx hf)) C.kind C.names (C2 (hi pins s O H _ I h) fun v s1 h1=>C2 h1 fun itv s2 h2=>?_);obtain ⟨it,fp,tn,J,H2,e,I2,T,iJ,f2,q2⟩:=h2;subst e;refine wC (RR:=fun acc C=>compPost (model X.prog X.w) X.A X.xe none (EP X pins O Q) acc C) C L3 hg hc he I2 T iJ f2 q2 ?_;intro D Cc H' s' o m I' _ ho hn hC hL W6 L0 cJ q;exact ⟨m,hn,fun h'' hs''=>⟨.ref D,H',I'.turned (t':=s'.toks) (fun b o hb e=>hs''.extBut b o hb e) hC hL (.inr W6) L0 cJ,rfl,q⟩⟩
theorem ahE{pos py:Pos}{wi:TI}{y:Str}(hN:X.N.Nodup)(hiN:X.N[i]?=some y)(hx:f7 X.env.scope y)(C:CompOk X.N X.env.scope.names sc N' k ixs)(L3:X.calm=true)(hi:PI X target iter wi)(hg:∀ C zw zt fp pins,PG (L6 X sc N' C zw zt fp pins) target g)(hc:∀ C zw zt fp pins,PIfs (L6 X sc N' C zw zt fp pins) ifs c)(he:∀ C zw zt fp pins,PE (L6 X sc N' C zw zt fp pins) elt te)(sE:swapsWith (.ListComp elt [⟨target,iter,ifs,0⟩] sc pos) (some (.Name y py)) spos.line X.env=pure true:=by rfl)(hf:X.fn y=true\/X.env.scope.names.lookup y=some .local:=by first | exact .inl rfl | exact .inr rfl | assumption)(hs:∀ x,foldedSetIterable iter X.env x=pure x:=by intro _;rfl):PS X (.Assign [.Name y py] (.ListComp elt [⟨target,iter,ifs,0⟩] sc pos) spos) (tAsg (tComp wi k ixs g c te) (gName i)):=by
 intro pins s O H D I h;rw [exec_Assign_Name_used _ _ _ _ sE];refine wpAny_bind (wpAny_standAt (wpAny_bind ?_));show wpAny _ X.A (do let _ <- comprehension (.ListComp elt [⟨target,iter,ifs,0⟩] sc pos) sc X.env _ (newList []) false (eval iter X.env) (some (assign (.Name y py) X.env))) _ _ s;refine wpAny_bind (wpAny_mono (wpAny_comprehension_free (use:=some (assign (.Name y py) X.env)) (Q:=fun _ s'=>SP X pins D .next s') rfl hs (vZ fun x hx hf=>I.ok.has x.1 (C.free x hx hf)) C.kind C.names
  (C2 (hi pins s O H _ I h) fun v s1 h1=>C2 h1 fun itv s2 h2=>?_)) (fun _ s' hq=>wpAny_pure (wpAny_pure hq)) fun _ _ e=>e)
 obtain ⟨it,fp,tn,J,H2,e,I2,T,iJ,f2,q2⟩:=h2;subst e;refine wC (Q:=fun x H1=>gName i x O H1 D.nx) (RR:=fun acc C=>compPost (model X.prog X.w) X.A X.xe (some (assign (.Name y py) X.env)) (fun _ s'=>SP X pins D .next s') acc C) C L3 hg hc he I2 T iJ f2 q2 ?_;intro Da Cc H' s' o m _ Ip ho hn hC hL W6 L0 cJ q;show wpAny _ X.A (assign (.Name y py) X.env (.ref Da)) _ _ _;refine wpAny_assign_Name (jY (v:=.ref Da) Ip hN hiN hx rfl (fun s'' I''=>?_) hf);have hC2:=(I''.pin (Cc,o) (N3 _ (N3 _ (E6.mpr rfl)))).1;refine ⟨m,hn.at' fun o' e'=>?_,fun h'' hs''=>?_⟩
 .rw [ho] at e';cases e';exact hC2
 .have I3:Inv X pins (O.set i (some (.ref Da))) H' s'':=I''.unpinned;exact ⟨_,H',I3.turned (t':=s''.toks) (fun b o hb e=>hs''.extBut b o hb e) hC hL (.inr W6) L0 cJ,q⟩
end
end L2
end
set_option maxRecDepth 100000
namespace L2
open PySem PySem.Spec PyProof.Rows
section
variable {X:Cx} {a b:Expr} {ta tb:TE} {pos:Pos} {rest:List Expr}
def tTru(K:PySem.W.Frag)(te:TE):TT:=fun O H Q=>te O H fun x H1=>∃ k,TruV K x H1 k/\Q k H1
theorem anD(ha:PE X a ta)(he:∀ whole,isTrue a X.env whole=(do let v <- whole;standAt a.pos;holding [v] (truthy v)):=by intro _;rfl):PT X a (tTru X.K ta):=ajJ ha he
def tNotT(K:PySem.W.Frag)(te:TE):TE:=fun O H Q=>te O H fun x H1=>∃ k,TruV K x H1 k/\Q (.bl (!k)) H1
end
mutual
inductive Dn (K:PySem.W.Frag) (H:Hp):V->PyData->Prop
 | non:Dn K H .non .none
 | bl (b):Dn K H (.bl b) (.bool b)
 | int (i):Dn K H (.int i) (.int i)
 | str (x):PyData.strOk x=true->Dn K H (.str x) (.str x)
 | lst {a xs ds} : D4 K H a xs->DnAll K H xs ds->Dn K H (.ref a) (.list ds)
 | tup {a xs ds} : C9 K H a xs->DnAll K H xs ds->Dn K H (.ref a) (.tuple ds)
inductive DnAll (K:PySem.W.Frag) (H:Hp):List V->List PyData->Prop
 | nil:DnAll K H [] []
 | cons {x xs d ds} : Dn K H x d->DnAll K H xs ds->DnAll K H (x::xs) (d::ds)
end
section
variable {X:Cx} {pins:List (Addr×Obj)} {O:St} {H:Hp} {s:Shared}
mutual
theorem Dn.reads{K:PySem.W.Frag}{x:V}{d:PyData}(I:Inv X pins O H s)(hK:X.K=K):Dn K H x d->∀ {u:Value},RelV x u->d.canLay0=true/\∃ as,Reads s.heap u d as
 | .non,u,r=>by cases r;exact ⟨rfl,_,.none⟩
 | .bl b,u,r=>by cases r;exact ⟨rfl,_,.bool b⟩
 | .int i,u,r=>by obtain ⟨t,rfl⟩:=r;exact ⟨rfl,_,.int i t⟩
 | .str x hx,u,r=>by obtain ⟨t,rfl⟩:=r;exact ⟨hx,_,.str x t⟩
 | .lst (a:=a) q hs,u,r=>by
  cases r
  subst hK;obtain ⟨its,rv,⟨o,n,e,c,_,dd⟩,_⟩:=I.list q;obtain ⟨h1,as,h2⟩:=DnAll.reads I rfl hs rv;exact ⟨h1,_,.list e c dd (by simpa using h2)⟩
 | .tup (a:=a) q hs,u,r=>by
  cases r
  subst hK;obtain ⟨its,rv,⟨o,e,c,n,dd⟩,_⟩:=I.tuple q;obtain ⟨h1,as,h2⟩:=DnAll.reads I rfl hs rv;exact ⟨h1,_,.tuple e c dd (by simpa using h2)⟩
theorem DnAll.reads{K:PySem.W.Frag}{xs:List V}{ds:List PyData}(I:Inv X pins O H s)(hK:X.K=K):DnAll K H xs ds->∀ {us:List Value},Vals xs us->PyData.canLayAll0 ds=true/\∃ as,ReadsAll s.heap us ds as
 | .nil,us,r=>by cases r;exact ⟨rfl,_,.nil⟩
 | .cons h t,us,r=>by
  cases r with
  | cons r1 r2=>
   obtain ⟨c1,a1,q1⟩:=Dn.reads I hK h r1;obtain ⟨c2,a2,q2⟩:=DnAll.reads I hK t r2;exact ⟨by simp [PyData.canLayAll0,c1,c2],_,.cons q1 q2⟩
end
end
mutual
theorem Dn.same{K:PySem.W.Frag}{H H':Hp}(hs:Same H H'){x:V}{d:PyData} : Dn K H x d->Dn K H' x d
 | .non=>.non
 | .bl b=>.bl b
 | .int i=>.int i
 | .str x h=>.str x h
 | .lst q h=>.lst (hs.seq q) (DnAll.same hs h)
 | .tup (a:=a) (xs:=xs) q h=>.tup (by
   rcases q with (q | ⟨o,q⟩) | q
   .exact .inl (.inl (hs _ _ q))
   .exact .inl (.inr ⟨o,hs _ _ q⟩)
   .exact .inr q) (DnAll.same hs h)
theorem DnAll.same{K:PySem.W.Frag}{H H':Hp}(hs:Same H H'){xs:List V}{ds:List PyData} : DnAll K H xs ds->DnAll K H' xs ds
 | .nil=>.nil
 | .cons h t=>.cons (Dn.same hs h) (DnAll.same hs t)
end
theorem dX{K:PySem.W.Frag}{H:Hp} : ∀ {zs:List Int},DnAll K H (zs.map V.int) (zs.map p5)
 | []=>.nil
 | z::zs=>.cons (.int z) dX
theorem kH:∀ (xs ys:List Int),bI (xs.map p5) (ys.map p5)=decide (xs=ys)
 | [],[]=>by simp [bI]
 | [],_::_=>by simp [bI]
 | _::_,[]=>by simp [bI]
 | x::xs,y::ys=>by
  rw [G6,G6,bI,kH xs ys];rw [show X4 (.int x) (.int y)=(x==y) by simp [X4]]
  by_cases h1:x=y
  .subst h1;simp
  .simp [h1]
def rAddR(K:PySem.W.Frag)(a b:Addr)(H:Hp)(Q:VK):Prop:=rCat (.ref a) (.ref b) H Q\/rCatT K (.ref a) (.ref b) H Q
theorem rAddR.l{K:PySem.W.Frag}{a b:Addr}{H:Hp}{Q:VK}{xs ys:List V}(h1:H a=some (.lst xs))(h2:H b=some (.lst ys))(h3:xs.length+ys.length<=sizeLine)(h:∀ p,H p=none->Q (.ref p) (A0 H p (.lst (xs++ys)))):rAddR K a b H Q:=.inl ⟨a,b,xs,ys,rfl,rfl,h1,h2,h3,h⟩
theorem rAddR.t{K:PySem.W.Frag}{a b:Addr}{H:Hp}{Q:VK}{xs ys:List V}(h1:C9 K H a xs)(h2:C9 K H b ys)(h0:xs≠[])(h3:xs.length+ys.length<=sizeLine)(he:ys=[]->Q (.ref a) H)(h:ys≠[]->∀ p,H p=none->Q (.ref p) (A0 H p (.tup (xs++ys)))):rAddR K a b H Q:=.inr ⟨a,b,xs,ys,rfl,rfl,h1,h2,h0,h3,he,h⟩
def rAddU(K:PySem.W.Frag):V->V->Hp->VK->Prop
 | .int i,.int j,H,Q=>Q (.int (i+j)) H
 | .str i,.str j,H,Q=>i.length+j.length<=sizeLine/\Q (.str (i++j)) H
 | .ref a,.ref b,H,Q=>rAddR K a b H Q
 | _,_,_,_=>False
def rMulU:V->V->Hp->VK->Prop
 | .int i,.int j,H,Q=>CMul i j/\Q (.int (i*j)) H
 | .ref a,.int j,H,Q=>rRep (.ref a) (.int j) H Q
 | _,_,_,_=>False
def rEqU(K:PySem.W.Frag):V->V->Hp->VK->Prop
 | .int i,.int j,H,Q=>Q (.bl (decide (i=j))) H
 | .str i,.str j,H,Q=>Q (.bl (decide (i=j))) H
 | .bl i,.bl j,H,Q=>Q (.bl (decide (i=j))) H
 | x,y,H,Q=>∃ d e,Dn K H x d/\Dn K H y e/\min d.depth e.depth<=60/\Q (.bl (X4 d e)) H
def rNeU(K:PySem.W.Frag):V->V->Hp->VK->Prop
 | .int i,.int j,H,Q=>Q (.bl (!decide (i=j))) H
 | .str i,.str j,H,Q=>Q (.bl (!decide (i=j))) H
 | .bl i,.bl j,H,Q=>Q (.bl (!decide (i=j))) H
 | x,y,H,Q=>∃ d e,Dn K H x d/\Dn K H y e/\min d.depth e.depth<=60/\Q (.bl (!PyData.eqv d e)) H
def rLtU:V->V->Hp->VK->Prop
 | .int i,.int j,H,Q=>Q (.bl (decide (i<j))) H
 | .str i,.str j,H,Q=>Q (.bl (decide (i.cps.toList<j.cps.toList))) H
 | _,_,_,_=>False
def rLeU:V->V->Hp->VK->Prop
 | .int i,.int j,H,Q=>Q (.bl (decide (i<=j))) H
 | .str i,.str j,H,Q=>Q (.bl (!decide (j.cps.toList<i.cps.toList))) H
 | _,_,_,_=>False
def rGtU:V->V->Hp->VK->Prop
 | .int i,.int j,H,Q=>Q (.bl (decide (j<i))) H
 | .str i,.str j,H,Q=>Q (.bl (decide (j.cps.toList<i.cps.toList))) H
 | _,_,_,_=>False
def rGeU:V->V->Hp->VK->Prop
 | .int i,.int j,H,Q=>Q (.bl (decide (j<=i))) H
 | .str i,.str j,H,Q=>Q (.bl (!decide (i.cps.toList<j.cps.toList))) H
 | _,_,_,_=>False
def rInR(K:PySem.W.Frag)(neg:Bool)(x:V)(p:Addr)(H:Hp)(Q:VK):Prop:=oC K neg x (.ref p) H Q\/∃ o,DGet H p x o/\Q (.bl (neg.xor o.isSome)) H
theorem rInR.l{K:PySem.W.Frag}{neg:Bool}{x:V}{p:Addr}{H:Hp}{Q:VK}{xs:List V}(h1:D4 K H p xs\/C9 K H p xs)(h2:flatV x=true)(h3:xs.all flatV=true)(h:Q (.bl (neg.xor (y3 x xs))) H):rInR K neg x p H Q:=.inl ⟨p,xs,rfl,h1,h2,h3,by cases neg <;> simpa using h⟩
theorem rInR.d{K:PySem.W.Frag}{neg:Bool}{x:V}{p:Addr}{H:Hp}{Q:VK}{o:Option V}(h1:DGet H p x o)(h:Q (.bl (neg.xor o.isSome)) H):rInR K neg x p H Q:=.inr ⟨o,h1,h⟩
def rInU(K:PySem.W.Frag)(neg:Bool)(x:V):V->Hp->VK->Prop
 | .str j,H,Q=>∃ i,x=.str i/\Q (.bl (neg.xor (!(Builtin.Str.occurrences j i 0 j.length 1).isEmpty))) H
 | .ref p,H,Q=>rInR K neg x p H Q
 | _,_,_=>False
section
variable {X:Cx} {pins:List (Addr×Obj)} {O:St} {H:Hp} {s:Shared}
theorem p_add:J5 X (binaryOp .Add) (rAddU X.K):=by
 intro pins s O H x y v u Q I rx ry h
 cases x <;> cases y <;> try exact h.elim
 .exact ane pins s O H _ _ v u Q I rx ry ⟨_,_,rfl,rfl,h⟩
 .exact ahx pins s O H _ _ v u Q I rx ry ⟨_,_,rfl,rfl,h⟩
 .rcases h with h | h
  .exact anx pins s O H _ _ v u Q I rx ry h
  .exact alL pins s O H _ _ v u Q I rx ry h
theorem p_sub:J5 X (binaryOp .Sub) (p7 fun i j=>.int (i-j)):=anf
theorem p_mul:J5 X (binaryOp .Mult) rMulU:=by
 intro pins s O H x y v u Q I rx ry h
 cases x <;> cases y <;> try exact h.elim
 .exact ang pins s O H _ _ v u Q I rx ry ⟨_,_,rfl,rfl,h⟩
 .exact anz pins s O H _ _ v u Q I rx ry h
theorem anE:J5 X (binaryOp .FloorDiv) (rI CDiv fun i j=>.int (i / j)):=aly
theorem p_mod:J5 X (binaryOp .Mod) (rI (fun _ j=>0<j) fun i j=>.int (i % j)):=anh
theorem kI(hu:X.A.units+64<cLine){x y:V}{v u:Value}{Q:VK}(I:Inv X pins O H s)(rx:RelV x v)(ry:RelV y u)(h:∃ d e,Dn X.K H x d/\Dn X.K H y e/\min d.depth e.depth<=60/\Q (.bl (X4 d e)) H):wpAny (model X.prog X.w) X.A (compareOp .Eq v u) (EP X pins O Q) X.xe s:=by
 obtain ⟨d,e,h1,h2,hd,q⟩:=h;obtain ⟨c1,as,r1⟩:=h1.reads I rfl rx;obtain ⟨c2,bs,r2⟩:=h2.reads I rfl ry;exact SeqAt.compareEq_reads r1 r2 c1 c2 (by lia) ⟨.bl _,H,I,rfl,q⟩
theorem kJ(hu:X.A.units+64<cLine){x y:V}{v u:Value}{Q:VK}(I:Inv X pins O H s)(rx:RelV x v)(ry:RelV y u)(h:∃ d e,Dn X.K H x d/\Dn X.K H y e/\min d.depth e.depth<=60/\Q (.bl (!PyData.eqv d e)) H):wpAny (model X.prog X.w) X.A (compareOp .NotEq v u) (EP X pins O Q) X.xe s:=by
 obtain ⟨d,e,h1,h2,hd,q⟩:=h;obtain ⟨c1,as,r1⟩:=h1.reads I rfl rx;obtain ⟨c2,bs,r2⟩:=h2.reads I rfl ry;exact SeqAt.compareNe_reads r1 r2 c1 c2 (by lia) ⟨.bl _,H,I,rfl,q⟩
theorem p_eq(hu:X.A.units+64<cLine):J5 X (compareOp .Eq) (rEqU X.K):=by
 intro pins s O H x y v u Q I rx ry h;have sc:∀ {x y:V},uY x y H Q->RelV x v->RelV y u->wpAny (model X.prog X.w) X.A (compareOp .Eq v u) (EP X pins O Q) X.xe s:=fun {x y} h rx ry=>op_eq pins s O H x y v u Q I rx ry h
 cases x with
 | int i=>cases y with
  | int j=>exact sc (x:=.int i) (y:=.int j) ⟨rfl,by simpa using (show Q (.bl (decide (i=j))) H from h)⟩ rx ry
  | _=>exact kI hu I rx ry h
 | str i=>cases y with
  | str j=>exact sc (x:=.str i) (y:=.str j) ⟨rfl,by simpa using (show Q (.bl (decide (i=j))) H from h)⟩ rx ry
  | _=>exact kI hu I rx ry h
 | bl i=>cases y with
  | bl j=>exact sc (x:=.bl i) (y:=.bl j) ⟨rfl,by simpa using (show Q (.bl (decide (i=j))) H from h)⟩ rx ry
  | _=>exact kI hu I rx ry h
 | _=>cases y <;> exact kI hu I rx ry h
theorem p_ne(hu:X.A.units+64<cLine):J5 X (compareOp .NotEq) (rNeU X.K):=by
 intro pins s O H x y v u Q I rx ry h;have sc:∀ {x y:V},uZ x y H Q->RelV x v->RelV y u->wpAny (model X.prog X.w) X.A (compareOp .NotEq v u) (EP X pins O Q) X.xe s:=fun {x y} h rx ry=>op_ne pins s O H x y v u Q I rx ry h
 cases x with
 | int i=>cases y with
  | int j=>exact sc (x:=.int i) (y:=.int j) ⟨rfl,by simpa using (show Q (.bl (!decide (i=j))) H from h)⟩ rx ry
  | _=>exact kJ hu I rx ry h
 | str i=>cases y with
  | str j=>exact sc (x:=.str i) (y:=.str j) ⟨rfl,by simpa using (show Q (.bl (!decide (i=j))) H from h)⟩ rx ry
  | _=>exact kJ hu I rx ry h
 | bl i=>cases y with
  | bl j=>exact sc (x:=.bl i) (y:=.bl j) ⟨rfl,by simpa using (show Q (.bl (!decide (i=j))) H from h)⟩ rx ry
  | _=>exact kJ hu I rx ry h
 | _=>cases y <;> exact kJ hu I rx ry h
theorem p_lt:J5 X (compareOp .Lt) rLtU:=by
 intro pins s O H x y v u Q I rx ry h
 cases x <;> cases y <;> try exact h.elim
 .exact op_lt pins s O H _ _ v u Q I rx ry ⟨_,_,rfl,rfl,h⟩
 .exact aik pins s O H _ _ v u Q I rx ry ⟨_,_,rfl,rfl,h⟩
theorem p_le:J5 X (compareOp .LtE) rLeU:=by
 intro pins s O H x y v u Q I rx ry h
 cases x <;> cases y <;> try exact h.elim
 .exact op_le pins s O H _ _ v u Q I rx ry ⟨_,_,rfl,rfl,h⟩
 .obtain ⟨t,rfl⟩:=rx;obtain ⟨t',rfl⟩:=ry;exact PySem.P.le_str ⟨.bl _,H,I,by simp [RelV],h⟩
theorem p_in(hu:X.A.units+64<cLine):J5 X (compareOp .In) (rInU X.K false):=by
 intro pins s O H x y v u Q I rx ry h
 cases y with
 | str j=>
  obtain ⟨i,rfl,q⟩:=h;exact ail pins s O H _ _ v u Q I rx ry ⟨i,j,rfl,rfl,by simpa using q⟩
 | ref p=>
  rcases h with h | ⟨o,g,q⟩
  .exact aiu pins s O H _ _ v u Q I rx ry h
  .obtain rfl:u=Value.ref p:=ry;exact d_in (by lia) I g rx fun s3 I3=>⟨.bl o.isSome,H,I3,rfl,by simpa using q⟩
 | _=>exact h.elim
theorem alV(hu:X.A.units+64<cLine):J5 X (compareOp .NotIn) (rInU X.K true):=by
 intro pins s O H x y v u Q I rx ry h
 cases y with
 | str j=>
  obtain ⟨i,rfl,q⟩:=h;exact afp pins s O H _ _ v u Q I rx ry ⟨i,j,rfl,rfl,by simpa using q⟩
 | ref p=>
  rcases h with h | ⟨o,g,q⟩
  .exact afo pins s O H _ _ v u Q I rx ry h
  .obtain rfl:u=Value.ref p:=ry;exact alP (by lia) I g rx fun s3 I3=>⟨.bl (!o.isSome),H,I3,rfl,by simpa using q⟩
 | _=>exact h.elim
def cutS(x:Str)(lo hi:Option Int):Str:=⟨((x.cps.toList.drop (HT.sIx x.length 0 lo)).take (HT.sIx x.length x.length hi-HT.sIx x.length 0 lo)).toArray⟩
def rSlS:V->Option Int->Option Int->Hp->VK->Prop:=fun x lo hi H Q=>∃ z,x=.str z/\z.length<=sizeLine/\Q (.str (cutS z lo hi)) H
end
end L2
variable {C a b f fa it p pl r sl:PySem.Addr}{dvs vs xs ys:List L2.V}{Q:L2.VK}{cd ct oc pm u v vl vu:PySem.Value}{ck i j k m n t' x1:Nat}{items:Array PySem.Value}{fr ns:List Int}{its us:List PySem.Value}{s zw:PySem.Shared}{x y:L2.V}{pins:List (PySem.Addr×PySem.Obj)}{O:L2.St}{H H' H0 H1 H2 H3 zt:L2.Hp}{h h':PySem.Heap}{q qual z:PySem.Str}{L M N N' acc bad g' ks line loose ls ms ts zs:List PySem.Str}{K:PySem.W.Frag}{mg:PySem.Str->Option PySem.Value}{fd:PySem.FuncData}{sp:L2.Sp}{X:L2.Cx}{kvs:List (L2.C5×L2.V)}{prog:PySem.Program}{E:PySem.Value->PySem.Shared->Prop}{ixs pre:List Nat}{e elt iter target tg:PySem.Expr}{elts ifs:List PySem.Expr}{g:L2.TG}{c:L2.TT}{td te tl tx ty:L2.TE}{fp l₁ ps rs:List PySem.Addr}{apos cpos kpos p1 p2 pos1 spos tpos:PySem.Pos}{calm fg neg:Bool}{st:PySem.Stmt}{an od:Option PySem.Addr}{tb:L2.TS}{D:L2.Ends}{o:PySem.Obj}{ta:L2.TA}{ss:Array (Option PySem.Value)}
set_option maxRecDepth 100000
namespace L2
open PySem PySem.Spec PyProof.Rows
section
variable {X:Cx}
theorem aiF(x:Str)(lo hi:Option Int):Txt.slice x lo hi=cutS x lo hi:=by
 have c1:∀ (o:Option Int) (d:Nat),(match o with | none=>(d:Int) | some i=>if (1:Int) > 0 then max 0 (min (if i<0 then i+(x.length:Int) else i) (x.length:Int)) else max (-1) (min (if i<0 then i+(x.length:Int) else i) ((x.length:Int)-1)))=((HT.sIx x.length d o:Nat):Int):=by
  intro o d
  cases o with
  | none=>rfl
  | some i=>
   rw [<- HT.clip_eq i x.length d];simp only [show ((1:Int) > 0)=True by simp,if_true]
   split <;> lia
 have h2:Builtin.Str.strSliceIndices lo hi 1 x.length=Builtin.Str.strSliceIndices (some ((HT.sIx x.length 0 lo:Nat):Int)) (some ((HT.sIx x.length x.length hi:Nat):Int)) 1 x.length:=by
  have e1:=c1 lo 0;have e2:=c1 hi x.length;have e3:=c1 (some ((HT.sIx x.length 0 lo:Nat):Int)) 0;have e4:=c1 (some ((HT.sIx x.length x.length hi:Nat):Int)) x.length;have l1:=HT.sIx_le x.length 0 (G3 _) lo;have l2:=HT.sIx_le x.length x.length (C3 _) hi;rw [HT.sIx_nat,dI l1] at e3;rw [HT.sIx_nat,dI l2] at e4;unfold Builtin.Str.strSliceIndices
  dsimp only at e3 e4 ⊢
  rw [e3,e4];clear e3 e4 l1 l2;refine congr (congr (congrArg sliceRange ?_) ?_) rfl
  .cases lo with
   | none=>exact e1
   | some i=>exact e1
  .cases hi with
   | none=>exact e2
   | some i=>exact e2
 have l1:=HT.sIx_le x.length 0 (G3 _) lo;have l2:=HT.sIx_le x.length x.length (C3 _) hi;unfold Txt.slice cutS;rw [h2];generalize HT.sIx x.length 0 lo=a at *;generalize HT.sIx x.length x.length hi=b at *;have len:x.length=x.cps.toList.length:=by simp [Str.length]
 by_cases W6:a<=b
 .rw [StrLaws.sliced_plain x W6 l2,StrLaws.strSliceIndices_plain W6 l2]
  split
  .rename_i hc
   have o0:b-a=x.length:=by simpa using hc
   have ha:a=0:=by lia
   subst ha;rw [List.drop_zero,j9 (by lia)]
  .rfl
 .have e:Builtin.Str.strSliceIndices (some (a:Int)) (some (b:Int)) 1 x.length=[]:=by
   have h1:¬ ((a:Int)<0):=by lia
   have h2:¬ ((b:Int)<0):=by lia
   have e1:max (0:Int) (min (a:Int) (x.length:Int))=a:=by lia
   have e2:max (0:Int) (min (b:Int) (x.length:Int))=b:=by lia
   simp only [Builtin.Str.strSliceIndices,sliceRange,h1,h2,if_false,e1,e2,show ((1:Int) > 0)=True from by simp,if_true];rw [if_neg (by lia)];rfl
  rw [e,show b-a=0 by lia,o7]
  split
  .rename_i hc
   have o0:0=x.length:=by simpa using hc
   have:x.cps.toList=[]:=List.eq_nil_of_length_eq_zero (by lia)
   obtain ⟨⟨l⟩⟩:=x;simp at this;subst this;rfl
  .rfl
theorem anF:dP X rSlS:=by
 intro pins s O H x v vl vu lo hi sl Q I rx hs pl pu h;obtain ⟨z,rfl,hz,q⟩:=h;obtain ⟨t,rfl⟩:=rx;refine ⟨"str",_,F.slot_str_getitem.lookup,typeIs_str _ _ _,?_⟩;rw [<- aiF] at q;have part:∀ {u:Value} {o:Option Int},IsPart u o->∃ l:Option (Int×Tok),u=partValue l/\l.map (·.1)=o:=fun {u o} p=>by
  cases p with
  | none=>exact ⟨none,rfl,rfl⟩
  | int i t=>exact ⟨some (i,t),rfl,rfl⟩
 obtain ⟨l,rfl,el⟩:=part pl;obtain ⟨u,rfl,eu⟩:=part pu;subst el eu;refine wpAny_getItem_str_slice (l:=l) (u:=u) (st:=none) hs rfl ?_;exact post_val_or_str ⟨M8 (Txt.slice_le z _ _) hz,fun t' k=>⟨.str _,H,I.tok _,⟨t',rfl⟩,q⟩⟩
theorem ac9{w:World}{A:Around}{t:Addr}{lo hi:Option Int}{Q:Value->Shared->Prop}(ht:IsTup s.heap t items)(hs:s.heap.IsSliceOf sl vl vu .none)(pl:IsPart vl lo)(pu:IsPart vu hi)(hw:HT.sIx items.size 0 lo=0/\HT.sIx items.size items.size hi=items.size)(h:Q (.ref t) s):wpAny (model prog w) A (getItem (.ref t) (.ref sl)) Q E s:=by
 obtain ⟨os,cH,mF,iM⟩:=id hs;have hTs:s.TypeIs (.ref sl) "slice":=⟨os,cH,mF⟩
 unfold getItem
 try with_reducible refine wpAny_holding ?_
 first | refine wpAny_bind (wpAny_pure ?_) | skip
 refine wpAny_bind (wpAny_sequenceKey ht.typeIs (by decide) ?_);refine wpAny_bind (wpAny_callSpecial?_slot (name:=Str.ofString "__getitem__") ht.typeIs PyProof.Rows.slot_tuple_getitem
  (wpAny_call_entry PyProof.Rows.slot_tuple_getitem ht.typeIs PyProof.Rows.entry_tuple_getitem ?_ (PyProof.Rows.args_tuple_getitem _ _)))
 show wpAny _ _ (Builtin.Tuple.tupleItemsOf (.ref t) >>= _) _ _ s;refine wpAny_bind (PyProof.Rows.tupleItemsOf_ ht ?_);refine wpAny_bind (wpAny_typeOf hTs ?_);rw [if_pos (by decide)];refine wpAny_bind (HT.sliceApplied_gen hs pl pu ?_);have sF:((((HT.sIx items.size 0 lo:Nat):Int)==0&&(1:Int)==1&&(HT.sIx items.size items.size hi-HT.sIx items.size 0 lo)==items.size)=true):=by
  rw [hw.1,hw.2]
  simp
 show wpAny _ _ (if (((HT.sIx items.size 0 lo:Nat):Int)==0&&(1:Int)==1&&(HT.sIx items.size items.size hi-HT.sIx items.size 0 lo)==items.size)=true then _ else _) _ _ s;rw [if_pos sF];refine wpAny_bind ?_;show wpAny _ _ (typeOf (.ref t) >>= fun v=>pure (v == .type "tuple")) _ _ s;refine wpAny_bind (wpAny_typeOf ht.typeIs (wpAny_pure ?_));rw [if_pos (by decide)];refine wpAny_bind (wpAny_rule ?_);exact wpAny_pure ⟨_,rfl,wpAny_pure h⟩
def rSlW(K:PySem.W.Frag):V->Option Int->Option Int->Hp->VK->Prop:=fun x lo hi H Q=>∃ a xs,x=.ref a/\C9 K H a xs/\(HT.sIx xs.length 0 lo=0/\HT.sIx xs.length xs.length hi=xs.length)/\Q (.ref a) H
theorem anG:dP X (rSlW X.K):=by
 intro pins s O H x v vl vu lo hi sl Q I rx hs pl pu h;obtain ⟨a,xs,rfl,hx,hw,q⟩:=h
 cases rx
 obtain ⟨its,r,ht,hz⟩:=I.tuple hx;have B3:its.toArray.size=xs.length:=by rw [G4];exact r.length.symm
 refine ⟨"tuple",_,PyProof.Rows.slot_tuple_getitem.lookup,ht.typeIs,?_⟩;exact ac9 ht hs pl pu (by rw [B3];exact hw) ⟨.ref a,H,I,rfl,q⟩
def rSlR(K:PySem.W.Frag)(a:Addr)(lo hi:Option Int)(H:Hp)(Q:VK):Prop:=rSlL K (.ref a) lo hi H Q\/rSlT K (.ref a) lo hi H Q\/rSlW K (.ref a) lo hi H Q
theorem rSlR.l{lo hi:Option Int}(h1:D4 K H a xs)(h:∀ p,H p=none->Q (.ref p) (A0 H p (.lst (cutV xs lo hi)))):rSlR K a lo hi H Q:=.inl ⟨a,xs,rfl,h1,h⟩
theorem rSlR.t{lo hi:Option Int}(h1:C9 K H a xs)(h2:¬ (HT.sIx xs.length 0 lo=0/\HT.sIx xs.length xs.length hi=xs.length))(h:∀ p,H p=none->Q (.ref p) (A0 H p (.tup (cutV xs lo hi)))):rSlR K a lo hi H Q:=.inr (.inl ⟨a,xs,rfl,h1,h2,h⟩)
theorem rSlR.w{lo hi:Option Int}(h1:C9 K H a xs)(h2:HT.sIx xs.length 0 lo=0/\HT.sIx xs.length xs.length hi=xs.length)(h:Q (.ref a) H):rSlR K a lo hi H Q:=.inr (.inr ⟨a,xs,rfl,h1,h2,h⟩)
def rSlU(K:PySem.W.Frag):V->Option Int->Option Int->Hp->VK->Prop
 | .str z,lo,hi,H,Q=>z.length<=sizeLine/\Q (.str (cutS z lo hi)) H
 | .ref a,lo,hi,H,Q=>rSlR K a lo hi H Q
 | _,_,_,_,_=>False
theorem p_sl:dP X (rSlU X.K):=by
 intro pins s O H x v vl vu lo hi sl Q I rx hs pl pu h
 cases x with
 | str z=>exact anF pins s O H _ v vl vu lo hi sl Q I rx hs pl pu ⟨z,rfl,h⟩
 | ref a=>
  rcases h with h | h | h
  .exact alN pins s O H _ v vl vu lo hi sl Q I rx hs pl pu h
  .exact ans pins s O H _ v vl vu lo hi sl Q I rx hs pl pu h
  .exact anG pins s O H _ v vl vu lo hi sl Q I rx hs pl pu h
 | _=>exact h.elim
def LenR(K:PySem.W.Frag)(H:Hp)(p:Addr)(n:Nat):Prop:=(∃ xs,D4 K H p xs/\n=xs.length)\/(∃ xs,C9 K H p xs/\n=xs.length)\/∃ kvs,Rd H p (.dK kvs)/\n=kvs.length
def rLenU(K:PySem.W.Frag):List V->Hp->VK->Prop
 | [.str z],H,Q=>z.length<=sizeLine/\Q (.int z.length) H
 | [.ref p],H,Q=>∃ n:Nat,LenR K H p n/\Q (.int n) H
 | _,_,_=>False
theorem p_len:CallR X (.builtin "len") (rLenU X.K):=by
 intro pins s O H xs us Q I r h
 match xs,h with
 | [.str z],h=>exact nR pins s O H _ us Q I r ⟨.str z,z.length,rfl,⟨h.1,rfl⟩,h.2⟩
 | [.ref p],⟨n,l,q⟩=>
  rcases l with ⟨xs,l,rfl⟩ | ⟨xs,l,rfl⟩ | ⟨kvs,l,rfl⟩
  .exact nR pins s O H _ us Q I r ⟨.ref p,_,rfl,.inl ⟨xs,l,rfl⟩,q⟩
  .exact nR pins s O H _ us Q I r ⟨.ref p,_,rfl,.inr ⟨xs,l,rfl⟩,q⟩
  .obtain ⟨u,rfl,ru⟩:=vals1 r
   cases ru
   exact d_len I l fun t s' I'=>⟨.int kvs.length,H,I',⟨t,rfl⟩,q⟩
theorem ad9(hc:X.calm=true):CallR X (.type "list") (fun xs H Q=>∃ d kvs,xs=[.ref d]/\Rd H d (.dK kvs)/\∀ l,H l=none->Q (.ref l) (A0 H l (.lst (kvs.map fun kv=>kV kv.1)))):=by
 intro pins s O H xs us Q I r h;obtain ⟨d,kvs,rfl,e,q⟩:=h;obtain ⟨u,rfl,rx⟩:=vals1 r
 cases rx
 obtain ⟨z,hd,vs,rel,dd⟩:=dk_rd I.hok e;obtain ⟨ep,L9⟩:=dd.dictAt;have hl:=rel.length;refine PySem.W.kdl_call (PySem.W.kdl_dict (knd:=N1 X.prog X.w) (kvs:=vs) (ep:=ep) hd) (I.ok.hd hc) L9 (by lia) fun h' tk acc c' kp hD N6=>?_
 have hv:Vals (kvs.map fun kv=>kV kv.1) acc.toList:=by
  have hk:=rel.keys;have B3:acc.toList.length=kvs.length:=by rw [x6,N6.1,hl]
  have key:∀ (ks:List C5) (us:List Value),us.length=ks.length->(∀ (j:Nat) (v:Value),us[j]?=some v->∃ k,ks[j]?=some k/\keyIs k v=true)->Vals (ks.map kV) us:=by
   intro ks
   induction ks with
   | nil=>intro us h1 _;cases us with
    | nil=>exact .nil
    | cons _ _=>simp at h1
   | cons k ks ih=>
    intro us h1 h2
    cases us with
    | nil=>simp at h1
    | cons u us=>
     obtain ⟨k',e1,e2⟩:=h2 0 u rfl;simp at e1;subst e1;refine .cons ?_ (ih us (by simpa using h1) fun j v hj=>by simpa using h2 (j+1) v (by simpa using hj))
     rcases e8 e2 with ⟨i,t,rfl,rfl⟩ | ⟨x,t,rfl,rfl⟩
     .exact ⟨t,rfl⟩
     .exact ⟨t,rfl⟩
  rw [show (kvs.map fun kv=>kV kv.1)=(kvs.map (·.1)).map kV by rw [o8];rfl];refine key _ _ (by rw [B3,A8]) fun j v hj=>?_
  obtain ⟨k,x,hx,sG⟩:=N6.2 j v (by rw [<- Array.getElem?_toList];exact hj);refine ⟨k,?_,sG⟩;rw [hk,U9,hx];rfl
 refine ⟨.ref s.heap.objs.size,_,I.laid (t':=tk) kp (C3 _) (show ObjOk X.prog X.w _ h' _ (.lst (kvs.map fun kv=>kV kv.1)) from ⟨by rw [A8];exact z,acc.toList,c',hv,by simpa using hD⟩),rfl,q _ (I.hok.fresh (C3 _))⟩
def rListR(K:PySem.W.Frag)(calm:Bool)(p:Addr)(H:Hp)(Q:VK):Prop:=(∃ ys,(D4 K H p ys\/C9 K H p ys)/\∀ l,H l=none->Q (.ref l) (A0 H l (.lst ys)))\/(calm=true/\∃ kvs,Rd H p (.dK kvs)/\∀ l,H l=none->Q (.ref l) (A0 H l (.lst (kvs.map fun kv=>kV kv.1))))
theorem rListR.l(h1:D4 K H p ys\/C9 K H p ys)(h:∀ l,H l=none->Q (.ref l) (A0 H l (.lst ys))):rListR K calm p H Q:=.inl ⟨ys,h1,h⟩
theorem rListR.d(h1:Rd H p (.dK kvs))(h:∀ l,H l=none->Q (.ref l) (A0 H l (.lst (kvs.map fun kv=>kV kv.1)))):rListR K true p H Q:=.inr ⟨rfl,kvs,h1,h⟩
def oR(K:PySem.W.Frag)(calm:Bool):List V->Hp->VK->Prop
 | [.ref p],H,Q=>rListR K calm p H Q
 | _,_,_=>False
theorem anH:CallR X (.type "list") (oR X.K X.calm):=by
 intro pins s O H xs us Q I r h
 match xs,h with
 | [.ref p],h=>
  rcases h with ⟨ys,h1,h2⟩ | ⟨hc,kvs,h1,h2⟩
  .exact afq pins s O H _ us Q I r ⟨p,ys,rfl,h1,h2⟩
  .exact ad9 hc pins s O H _ us Q I r ⟨p,kvs,rfl,h1,h2⟩
def rAllB(calm:Bool):List V->Hp->VK->Prop
 | [.ref p],H,Q=>∃ bs:List Bool,calm=true/\H p=some (.lst (bs.map V.bl))/\Q (.bl (bs.all id)) H
 | _,_,_=>False
def wD(H:Hp):V->Option String
 | .non=>some "NoneType"
 | .bl _=>some "bool"
 | .int _=>some "int"
 | .str _=>some "str"
 | .ref a=>match H a with
  | some (.lst _)=>some "list"
  | some (.frz _ (.lst _))=>some "list"
  | some (.tup _)=>some "tuple"
  | some (.dK _)=>some "dict"
  | _=>none
 | _=>none
def wE(T n:String):Bool:=T==n || (T == "bool" && n == "int")
def isTys:List String:=["str", "int", "bool", "list", "tuple", "dict"]
def rIsi:List V->Hp->VK->Prop
 | [x,.ty n],H,Q=>∃ T,wD H x=some T/\isTys.contains n=true/\Q (.bl (wE T n)) H
 | _,_,_=>False
def rOrd:List V->Hp->VK->Prop
 | [.str z],H,Q=>z.length=1/\Q (.int (z.cps.getD 0 0:Nat)) H
 | _,_,_=>False
theorem p_ord:CallR X (.builtin "ord") rOrd:=by
 intro pins s O H xs us Q I r h
 match xs,h with
 | [.str z],h=>exact ajK pins s O H _ us Q I r ⟨z,rfl,h⟩
def dY(x:Str):It:=⟨fun i _=>i<x.cps.size,fun i H v H'=>H'=H/\∃ c,x.cps.toList[i]?=some c/\v=.str ⟨#[c]⟩,fun i _=>x.cps.size<=i⟩
theorem aj0{P:Program}{w:World}{ty:String}(Y0:ty="str_ascii_iterator"\/ty="str_iterator")(it:Addr)(x:Str)(t:Tok):Turn P w K tg (dY x) [it] it (fun i h=>h.IsStrIter it ty x t i) where
 mem:=by simp
 obj:=fun i h st b hb=>by
  have e:b=it:=by simpa using hb
  subst e;obtain ⟨o,e,c,d⟩:=st;exact ⟨o,e,fun v z=>by rw [d] at z;cases z⟩
 keep:=fun i h h' st k=>let ⟨o,e,r⟩:=st;⟨o,k it (by simp) o e,r⟩
 item:=by
  intro X hP hw hK hc i pins s O H E I hf st hg;subst hP hw hK;obtain ⟨f0,f1,f2,f3,f4,f5⟩:=hf it (by simp);have fA:i<x.cps.size:=hg;have go:∀ h',h'.IsStrIter it ty x t (i+1)->Heap.SameBut it s.heap h'->∃ u,some (Value.str ⟨#[x.cps[i]]⟩ s.toks)=some u/\
    wpAny (model X.prog X.w) X.A (letOwnedTupleGo tg (.ref it) u) (fun _ s2=>∃ y H',Inv X pins O H' s2/\RelV y u/\(dY x).yld i H y H'/\s2.heap.IsStrIter it ty x t (i+1)/\∀ b∈[it],H' b=none) E { s with heap:=h',toks:=s.toks+1 }:=by
   intro h' st' sb;have I1:Inv X pins O H { s with heap:=h',toks:=s.toks+1 }:=I.turned (t':=s.toks+1) (fun b o hb e=>(sb.2 b hb).trans e) f0 f1 f3 f4 f5;obtain ⟨o,e,c,d⟩:=id st';refine ⟨_,rfl,go_of (s:={ s with heap:=h',toks:=s.toks+1 }) e c d (by rcases Y0 with rfl | rfl <;> decide) ⟨.str ⟨#[x.cps[i]]⟩,H,I1,⟨_,rfl⟩,⟨rfl,x.cps[i],?_,rfl⟩,st',fun b hb=>(hf b hb).1⟩⟩;simp [fA]
  rcases Y0 with rfl | rfl
  .exact wpAny_pyNext_ascii_item st (c:=x.cps[i]) (by simp [fA]) go
  .exact wpAny_pyNext_wide_item st (c:=x.cps[i]) (by simp [fA]) go
 done:=by
  intro X hP hw hK hc i pins s O H E I hf st hg;subst hP hw hK;obtain ⟨f0,f1,f2,f3,f4,f5⟩:=hf it (by simp);have fA:x.cps.size<=i:=hg;have fin:∀ h',Heap.ExtBut it s.heap h'->(none:Option Value)=none/\Inv X pins O H { s with heap:=h' }:=fun h' eb=>⟨rfl,I.turned (t':=s.toks) (fun b o hb e=>eb b o hb e) f0 f1 f3 f4 f5⟩
  rcases Y0 with rfl | rfl
  .exact wpAny_pyNext_ascii_end (I.ok.hd hc) st (by simp [fA]) fin
  .exact wpAny_pyNext_wide_end (I.ok.hd hc) st (by simp [fA]) fin
 self:=fun A i s Q E st h=>by
  rcases Y0 with rfl | rfl
  .exact wpAny_pyIter_striter_ascii st h
  .exact wpAny_pyIter_striter_wide st h
def iStr(tl:TE):TI:=fun O H R=>tl O H fun x H1=>∃ z,x=.str z/\R (dY z) H1
variable {tg:Expr}
theorem anI{l:Expr}(hl:PE X l tl):PI X tg l (iStr tl):=by
 intro pins s O H R I h;refine C2 (hl pins s O H _ I h) fun v s1 ⟨x,H1,I1,r1,q1⟩=>?_
 obtain ⟨z,rfl,q⟩:=q1;obtain ⟨t,rfl⟩:=r1;have fin:∀ (ty:String) (Y0:ty="str_ascii_iterator"\/ty="str_iterator"),nN X pins O tg R (.ref s1.heap.objs.size) { s1 with heap:=s1.heap.push { cls:=.type ty,data:=.fields #[.str z t,.int 0 0] } }:=fun ty Y0=>by
  refine ⟨s1.heap.objs.size,[s1.heap.objs.size],_,_,H1,rfl,I1.kept (t':=s1.toks) fun b o e=>Heap.get?_push_of_some _ e,aj0 Y0 s1.heap.objs.size z t,⟨_,Heap.get?_push_size _ rfl,rfl,rfl⟩,fun b hb=>?_,q⟩;have e:b=s1.heap.objs.size:=by simpa using hb
  subst e;exact I1.fpOk (C3 _) (I1.hok.fresh (C3 _))
 cases ha:z.cps.all (· < 128)
 .exact wpAny_pyIter_wide ha (fin _ (.inr rfl))
 .exact wpAny_pyIter_ascii ha (fin _ (.inl rfl))
end
end L2
set_option maxRecDepth 100000
namespace L2
open PySem PySem.Spec PyProof.Rows
def K2:Expr->Bool
 | .Starred _ _=>true
 | _=>false
def U6(es:List Expr):Bool:=es.all fun e=>!K2 e
theorem N2{es:List Expr}{env:Env}(h:K2 e=false):starEach (e::es) env=(false,eval e env)::starEach es env:=by
 cases e <;> first | rfl | cases h
theorem bQ{pos:Pos}{env:Env} : ∀ {es:List Expr},U6 es=true->(backTo pos (starEach es env)).any (·.1)=false
 | [],_=>rfl
 | e::es,h=>by
  have h':(!K2 e&&U6 es)=true:=h;rw [Y8] at h';rw [N2 (by simpa using h'.1)];have ih:=bQ (pos:=pos) (env:=env) h'.2;unfold backTo at ih ⊢
  rw [G6,k7,ih];rfl
theorem wF{pos:Pos}{env:Env} : ∀ {es:List Expr},U6 es=true->(backTo pos (starEach es env)).all (fun x=>!x.1)=true
 | [],_=>rfl
 | e::es,h=>by
  have h':(!K2 e&&U6 es)=true:=h;rw [Y8] at h';rw [N2 (by simpa using h'.1)];have ih:=wF (pos:=pos) (env:=env) h'.2;unfold backTo at ih ⊢
  rw [G6,List.all_cons,ih];rfl
section
variable {X:Cx} {e:Expr} {es:List Expr} {te:TE} {t:TA} {x:Str} {p pos:Pos} {id T:String} {r:List V->Hp->VK->Prop}
theorem pa_c(ha:PE X e te)(hr:PA X es t)(h:K2 e=false:=by rfl):PA X (e::es) (tCons te t):=alE ha hr (N2 h)
theorem pe_cB(hc:CallR X (.builtin id) r)(hg:Gl X x)(hm:X.mg x=none)(hv:bootBuiltins x=some (.builtin id))(ha:PA X (e::es) t)(h1:K2 e=false:=by rfl)(h2:U6 es=true:=by rfl)(hn:x≠"__name__":=by decide)(P7:(x==("__debug__" : Str))=false:=by decide) :
  PE X (.Call (.Name x p) (e::es) [] pos) (bM r t):=ajP hc hg hm hv ha hn P7 (N2 h1) (bQ h2)
theorem pe_cT(hc:CallR X (.type T) r)(hg:Gl X x)(hm:X.mg x=none)(hv:bootBuiltins x=some (.type T))(ha:PA X (e::es) t)(h1:K2 e=false:=by rfl)(h2:U6 es=true:=by rfl)(hn:x≠"__name__":=by decide)(P7:(x==("__debug__" : Str))=false:=by decide) :
  PE X (.Call (.Name x p) (e::es) [] pos) (bM r t):=ais hc hg hm hv ha hn P7 (N2 h1) (bQ h2)
variable {o:Expr} {to:TE} {name:Str} {apos cpos:Pos} {rm:V->List V->Hp->VK->Prop}
theorem pe_mB(pa:PlainAttrs T)(slot:Slot T name id)(Y0:typeOf (.builtin id)=pure (.type "method_descriptor"))(hm:oB X id rm)(ho:PE X o to)(ha:PA X (e::es) t)(h1:K2 e=false:=by rfl)(h2:U6 es=true:=by rfl)(h3:decide ((e::es).length<30)=true:=by rfl)(J8:attributeBase o name X.env (eval o X.env)=eval o X.env:=by rfl)(J9:(apos.endLine==cpos.line)=true:=by rfl):PE X (.Call (.Attribute o name apos) (e::es) [] cpos) (dR X.K T rm to t):=
 pe_bm pa slot Y0 hm ho ha J8 (by
  rw [wF (show U6 (e::es)=true by show (!K2 e&&U6 es)=true;rw [h1,h2];rfl)];have h3':(e::es).length<30:=of_decide_eq_true h3;simp only [List.isEmpty_nil,if_true,V9,Nat.add_zero,Bool.true_and];rw [decide_eq_true h3'];rfl) J9 (N2 h1) (bQ h2)
variable {tg a b:Expr} {ta:TA}
theorem pi_r1(hg:Gl X "range")(hm:X.mg "range"=none)(ha:PA X [a] ta)(h1:K2 a=false:=by rfl):PI X tg (.Call (.Name "range" p) [a] [] pos) (iRng1 ta):=aif hg hm ha (by rw [N2 h1];rfl)
end
def FO(P:Program)(w:World)(K:PySem.W.Frag)(mg:Str->Option Value)(base:Heap)(k:Nat)(x:Str)(ps:List Str)(dvs:List V)(sp:Sp):Prop:=
 ∃ f fd,FnOk P w K mg base E5 k f fd ps sp/\mg x=some (.ref f)/\R4 K (.ref f)=true/\∃ ds,Binds K fd ps ds/\Vals dvs ds
structure FunD(K:PySem.W.Frag)(x qual:Str)(st:Stmt)(f:Addr)(fd:FuncData):Prop where
 ex:∃ (oc:Value) (od:Option Addr) (dV kV doc pm:Value) (an:Option Addr) (cdv ct:Value) (osl:Array (Option Value)),
  fd=Q5 x qual (R5 st) (Q7 st) (C6 st) dV kV doc pm an cdv ct/\K.lookup f=some ⟨oc,od,.func fd,osl⟩/\V1 K cdv qual=true
section
variable {P:Program} {w:World} {K:PySem.W.Frag} {mg:Str->Option Value} {base:Heap}
theorem FunD.ok{x:Str}{ps:List Str}(F:FunD K x qual st f fd)(S:FnScope N ps (C6 st))(len:∀ vs H Q E,sp vs H Q E->vs.length=ps.length)(i7:∀ (cdv:Value) (A:Around) (outer:List Env) (s:Shared) (H:Hp) (vs:List V) (Q:VK) (E:XK),Room k (A.deeper (envOfC qual (C6 st) s.heap.objs.size f cdv))->sp vs H Q E->
   ∃ t,V2 (cxOf E5 P w K mg base N qual (C6 st) f cdv A outer s H E).nox (Q7 st) t/\t { nx:=fun _ H'=>Q .non H',rt:=Q } (start N vs) H):FnOk P w K mg base E5 (k+1) f fd ps sp:=by
 obtain ⟨oc,od,dV,kV,doc,pm,an,cdv,ct,osl,rfl,lk,P6⟩:=F.ex;refine fn_of lk P6 S len fun A outer s H vs Q E hr aO=>?_
 obtain ⟨t,h,q⟩:=i7 cdv A outer s H vs Q E hr aO;exact ⟨t,h.nox,q⟩
theorem k9{x:Str}{osl:Array (Option Value)}{dV kV doc cdv:Value}(l:K.lookup f=some ⟨oc,od,.func (Q5 x qual (R5 st) (Q7 st) (C6 st) dV kV doc pm an cdv ct),osl⟩)(c:V1 K cdv qual=true):FunD K x qual st f (Q5 x qual (R5 st) (Q7 st) (C6 st) dV kV doc pm an cdv ct):=⟨oc,od,dV,kV,doc,pm,an,cdv,ct,osl,rfl,l,c⟩
end
section
variable {X:Cx} {k:Nat} {ps:List Str} {sp:Sp} {dvs:List V} {x:Str} {p pos:Pos} {e:Expr} {es:List Expr} {t:TA}
theorem aj1(G:FO X.prog X.w X.K X.mg X.base k x ps dvs sp)(hr:Room k X.A)(ha:PA X (e::es) t)(hg:Gl X x:=by rfl)(h1:K2 e=false:=by rfl)(h2:U6 es=true:=by rfl)(P7:(x==("__debug__" : Str))=false:=by decide):PE X (.Call (.Name x p) (e::es) [] pos) (tCall sp dvs E0 t):=by
 obtain ⟨f,fd,F,hm,hk,ds,hb,hd⟩:=G;exact alF F hr hg hm hk hb hd pass0 ha P7 (N2 h1) (bQ h2)
theorem aj2{i:Int}(h:∃ t,X.mg x=some (.int i t))(hg:Gl X x:=by rfl)(hd:(x==("__debug__" : Str))=false:=by decide):PE X (.Name x p) (tC (.int i)):=by
 obtain ⟨t,h⟩:=h;exact uX hg h ⟨t,rfl⟩ hd
theorem aj3(h:X.mg x=some (.ref a))(hg:Gl X x:=by rfl)(hd:(x==("__debug__" : Str))=false:=by decide):PE X (.Name x p) (tC (.ref a)):=uX hg h rfl hd
end
section
variable {O:St} {H:Hp} {Q:VK} {B:Bool->Hp->Prop} {ta tb tc te:TE} {t u:TS} {tt uu:TT} {D:Ends} {i:Nat} {v:V} {r r':R2} {K:PySem.W.Frag} {taa:TA} {R:List V->Hp->Prop} {g:TG}
theorem wG:tVar i O H Q=∃ v,(O[i]?).join=some v/\Q v H:=by
 unfold tVar;refine propext ⟨fun ⟨v,h,q⟩=>⟨v,by rw [h];rfl,q⟩,fun ⟨v,h,q⟩=>⟨v,?_,q⟩⟩;cases e:O[i]? with
 | none=>rw [e] at h;cases h
 | some o=>rw [e] at h;exact congrArg some h
theorem ap_c:tC v O H Q=Q v H:=rfl
theorem ap_op:f8 r ta tb O H Q=ta O H fun x H1=>tb O H1 fun y H2=>r x y H2 Q:=rfl
theorem ap_un{ru:V->Hp->VK->Prop} : nO ru ta O H Q=ta O H fun x H1=>ru x H1 Q:=rfl
theorem ap_rU{f:Int->V} : rU f x H Q=∃ i,x=.int i/\Q (f i) H:=rfl
theorem alW:tTest ta O H B=ta O H fun x H'=>∃ k,x=.bl k/\B k H':=rfl
theorem ap_tB:tB ta O H B=ta O H fun x H'=>∃ k,x=.bl k/\B k H':=rfl
theorem alX:tTru K ta O H B=ta O H fun x H'=>∃ k,TruV K x H' k/\B k H':=rfl
theorem alY:tNotT K ta O H Q=ta O H fun x H'=>∃ k,TruV K x H' k/\Q (.bl (!k)) H':=rfl
theorem aj4:nQ r r' ta tb tc O H Q=ta O H fun x H1=>tb O H1 fun y H2=>r x y H2 fun z H3=>∃ k,z=.bl k/\(if k=true then tc O H3 fun w' H4=>r' y w' H4 Q else Q (.bl false) H3):=rfl
theorem anJ:tAnd tt uu O H B=tt O H fun c H1=>if c=true then uu O H1 B else B false H1:=rfl
theorem ap_or:nH tt uu O H B=tt O H fun c H1=>if c=true then B true H1 else uu O H1 B:=rfl
theorem anK:tNot tt O H B=tt O H fun c H1=>B (!c) H1:=rfl
theorem alZ:tAndV ta tb O H Q=ta O H fun x H1=>∃ c,x=.bl c/\if c=true then tb O H1 Q else Q (.bl false) H1:=rfl
theorem anL:tOrV ta tb O H Q=ta O H fun x H1=>∃ c,x=.bl c/\if c=true then Q (.bl true) H1 else tb O H1 Q:=rfl
theorem al0:tNotV ta O H Q=ta O H fun x H1=>∃ c,x=.bl c/\Q (.bl (!c)) H1:=rfl
theorem ap_if:nI tt ta tb O H Q=tt O H fun c H1=>if c=true then ta O H1 Q else tb O H1 Q:=rfl
theorem al1:tNext D O H=D.nx O H:=rfl
theorem anM:tSeq t u D O H=t { D with nx:=u D } O H:=rfl
theorem aj5:am5 D O H=D.bk O H:=rfl
theorem al2:tCont D O H=D.ct O H:=rfl
theorem al3:tDrop te D O H=te O H fun _ H1=>D.nx O H1:=rfl
theorem anN:tRet te D O H=te O H D.rt:=rfl
theorem al4:tRetN D O H=D.rt .non H:=rfl
theorem anO:tIfS tt t u D O H=tt O H fun b H1=>if b=true then t D O H1 else u D O H1:=rfl
theorem aj6:nJ D O H=False:=rfl
theorem al5{Z:St->Hp->Prop} : gName i v O H Z=Z (O.set i (some v)) H:=rfl
theorem al6{Z:St->Hp->Prop} : gNil vs O H Z=(vs=[]/\Z O H):=rfl
theorem aj7{us:Z1}{Z:St->Hp->Prop} : gCons g us vs O H Z=∃ v r,vs=v::r/\g v O H fun σ' H'=>us r σ' H' Z:=rfl
theorem al7{us:Z1}{Z:St->Hp->Prop} : gTup K n us v O H Z=∃ a xs,v=.ref a/\C9 K H a xs/\xs.length=n/\us xs O H Z:=rfl
theorem al8{ts:TSet}{Z:St->Hp->Prop} : gSub ta tb ts v O H Z=ta O H fun o H1=>tb O H1 fun i H2=>ts o i v H2 fun H3=>Z O H3:=rfl
theorem anP:tAsg te g D O H=te O H fun x H1=>g x O H1 D.nx:=rfl
theorem anQ{ti:bJ} : tAug i te ti D O H=∃ x,(O[i]?).join=some x/\te O H fun y H1=>ti x y H1 fun z H2=>D.nx (O.set i (some z)) H2:=wG (Q:=fun x H=>te O H fun y H1=>ti x y H1 fun z H2=>D.nx (O.set i (some z)) H2)
theorem anR{f:Int->Int->Int} : nM f x y H Q=∃ i j,x=.int i/\y=.int j/\Q (.int (f i j)) H:=rfl
theorem al9:tCons te taa O H R=te O H fun x H1=>taa O H1 fun xs H2=>R (x::xs) H2:=rfl
theorem anS:tNil O H R=R [] H:=rfl
theorem ama{E:XK} : tCall sp dvs E taa O H Q=taa O H fun vs H1=>sp (vs++dvs) H1 Q E:=rfl
theorem ap_cb{rc:List V->Hp->VK->Prop} : bM rc taa O H Q=taa O H fun vs H1=>rc vs H1 Q:=rfl
theorem anT:tTup taa O H Q=taa O H fun xs H1=>xs.length<=sizeLine/\∀ p,H1 p=none->Q (.ref p) (A0 H1 p (.tup xs)):=rfl
theorem anU:tLst taa O H Q=taa O H fun xs H1=>xs.length<=sizeLine/\∀ p,H1 p=none->Q (.ref p) (A0 H1 p (.lst xs)):=rfl
theorem ap_sl{rs:V->Option Int->Option Int->Hp->VK->Prop}{tl th:TO} : nZ rs te tl th O H Q=te O H fun x H1=>tl O H1 fun l H2=>th O H2 fun u H3=>rs x l u H3 Q:=rfl
theorem aiH{zy:Option Int->Hp->Prop} : nY O H zy=zy none H:=rfl
theorem amb{zy:Option Int->Hp->Prop} : tPart te O H zy=te O H fun x H1=>∃ i,x=.int i/\zy (some i) H1:=rfl
theorem ap_bm{T:String}{rm:V->List V->Hp->VK->Prop} : dR K T rm te taa O H Q=te O H fun x H1=>y4 K T x H1/\taa O H1 fun xs H2=>rm x xs H2 Q:=rfl
theorem anV{T:String}{rm:V->List V->Hp->VK->Prop} : tBM0 K T rm te O H Q=te O H fun x H1=>y4 K T x H1/\rm x [] H1 Q:=rfl
theorem anW:tYes O H B=B true H:=rfl
theorem amc:oK O H Q=∀ p,H p=none->Q (.ref p) (A0 H p (.dK [])):=rfl
theorem amd:tDGet ta tb O H Q=ta O H fun x H1=>tb O H1 fun y H2=>∃ a v,x=.ref a/\DGet H2 a y (some v)/\Q v H2:=rfl
theorem ame:sDPut ta tb tc D O H=tc O H fun v H1=>ta O H1 fun x H2=>tb O H2 fun y H3=>∃ a H4,x=.ref a/\DPut H3 a y v H4/\D.nx O H4:=rfl
theorem amf{rd:V->V->Hp->VK->Prop} : sDAug ta tb tc rd D O H=ta O H fun x H1=>tb O H1 fun y H2=>∃ a v,x=.ref a/\DGet H2 a y (some v)/\tc O H2 fun y2 H3=>rd v y2 H3 fun z H4=>∃ H5,DPut H4 a y z H5/\D.nx O H5:=rfl
theorem amg : p7 (fun i j=>V.int (i-j)) x y H Q=∃ i j,x=.int i/\y=.int j/\Q (.int (i-j)) H:=rfl
theorem aj8 : rI CDiv (fun i j=>V.int (i / j)) x y H Q=∃ i j,x=.int i/\y=.int j/\(0<j/\j<1073741824)/\Q (.int (i / j)) H:=rfl
theorem amh : rI (fun _ j=>0<j) (fun i j=>V.int (i % j)) x y H Q=∃ i j,x=.int i/\y=.int j/\0<j/\Q (.int (i % j)) H:=rfl
theorem ami : y4 K "str" (.str z) H=True:=by simp [y4]
def ForIt(J:It)(g:TG)(tb:TS)(D:Ends)(O:St)(H1:Hp):Prop:=∃ W:Nat->Nat->St->Hp->Prop,(∃ m,W 0 m O H1)/\∀ i m O H,W i m O H->
 (J.stop i H/\D.nx O H)\/(J.go i H/\∃ N:St->Hp->Prop,(∀ σ' H',N σ' H'->∃ m',m'<m/\W (i+1) m' σ' H')/\∀ x H',J.yld i H x H'->g x O H' fun σ2 H2=>tb { D with nx:=N,ct:=N,bk:=D.nx } σ2 H2)
theorem anX{wi:TI}{tbs:TS} : tFor wi g tbs D O H=wi O H fun J H1=>ForIt J g tbs D O H1:=rfl
theorem aj9{Z:It->Hp->Prop} : iList K te O H Z=te O H fun x H1=>∃ a,x=.ref a/\(∃ xs,D4 K H1 a xs)/\Z (k8 K a) H1:=rfl
theorem amj{Z:It->Hp->Prop} : iTup K te O H Z=te O H fun x H1=>∃ a,x=.ref a/\(∃ xs,C9 K H1 a xs)/\Z (y0 K a) H1:=rfl
theorem amk{Z:It->Hp->Prop} : iStr te O H Z=te O H fun x H1=>∃ z,x=.str z/\Z (dY z) H1:=rfl
theorem aka{Z:It->Hp->Prop} : iRng1 taa O H Z=taa O H fun vs H1=>∃ j:Int,vs=[.int j]/\-(2 ^ 62)<=j/\j<2 ^ 62/\Z (bK 0 j.toNat) H1:=rfl
theorem akb{Z:It->Hp->Prop} : iRng2 taa O H Z=taa O H fun vs H1=>∃ i j:Int,vs=[.int i,.int j]/\(-(2 ^ 62)<=i/\i<2 ^ 62/\-(2 ^ 62)<=j/\j<2 ^ 62)/\Z (bK i (j-i).toNat) H1:=rfl
def y8(J:It)(k:Nat)(ixs:List Nat)(g:TG)(c:TT)(te:TE)(O:St)(Q:VK)(H1:Hp):Prop:=∀ D,H1 D=none->
 ∃ (n:Nat) (W:Nat->List V->St->Hp->Prop),W 0 [] (compStart k ixs O) (A0 H1 D (.lst []))/\∀ i ys σ2 H2,W i ys σ2 H2->H2 D=some (.lst ys)->
  (J.stop i H2/\Q (.ref D) H2)\/
  (i<n/\J.go i H2/\∀ x H',J.yld i H2 x H'->g x σ2 H' fun σ3 H3=>c σ3 H3 fun b H4=>
   if b=true then te σ3 H4 fun y H5=>H5 D=some (.lst ys)/\ys.length<sizeLine/\W (i+1) (ys++[y]) σ3 (A0 H5 D (.lst (ys++[y])))
   else H4 D=some (.lst ys)/\W (i+1) ys σ3 H4)
theorem aml{wi:TI} : tComp wi k ixs g tt te O H Q=wi O H fun J H1=>y8 J k ixs g tt te O Q H1:=rfl
end
theorem amm{b k:Bool} : TruV K (.bl b) H k=(k=b):=rfl
theorem akc{i:Int}{k:Bool} : TruV K (.int i) H k=(k=(i != 0)):=rfl
theorem akd{k:Bool} : TruV K (.str z) H k=(z.length<=sizeLine/\k=((z.length:Int) != 0)):=rfl
theorem ake{k:Bool} : TruV K .non H k=(k=false):=rfl
theorem akf : start N vs=vs.map some++U3 (N.length-vs.length) none:=rfl
theorem afy : compStart k ixs O=U3 k none++ixs.map fun i=>(O[i]?).join:=rfl
theorem amn{i:Int} : bN K (.str z) (.int i) H Q=∃ c,z.length<=sizeLine/\F7 z.cps.toList i=some c/\Q (.str ⟨#[c]⟩) H:=by
 simp only [bN,rIxL,rIxT,rIxS];refine propext ⟨fun h=>?_,fun ⟨c,h⟩=>.inr (.inr ⟨z,i,c,rfl,rfl,h⟩)⟩
 rcases h with ⟨p,xs,j,v,e,_⟩ | ⟨p,xs,j,v,e,_⟩ | ⟨z',i',c,e1,e2,h⟩
 .cases e
 .cases e
 .cases e1;cases e2;exact ⟨c,h⟩
theorem amo{i:Int} : bN K (.ref p) (.int i) H Q=∃ xs v,(D4 K H p xs\/C9 K H p xs)/\F7 xs i=some v/\Q v H:=by
 simp only [bN,rIxL,rIxT,rIxS];refine propext ⟨fun h=>?_,fun ⟨xs,v,h,r⟩=>?_⟩
 .rcases h with ⟨p',xs,j,v,e1,e2,h1,h2⟩ | ⟨p',xs,j,v,e1,e2,h1,h2⟩ | ⟨z',i',c,e1,e2,h⟩
  .cases e1;cases e2;exact ⟨xs,v,.inl h1,h2⟩
  .cases e1;cases e2;exact ⟨xs,v,.inr h1,h2⟩
  .cases e1
 .rcases h with h | h
  .exact .inl ⟨p,xs,i,v,rfl,rfl,h,r⟩
  .exact .inr (.inl ⟨p,xs,i,v,rfl,rfl,h,r⟩)
theorem kK{α:Type}{xs:List α}{i:Int}(h0:0<=i)(h1:i<xs.length):∃ v,F7 xs i=some v/\v∈xs:=by
 have D3:i.toNat<xs.length:=by lia
 refine ⟨xs[i.toNat],?_,dG D3⟩;unfold F7 W1;rw [if_pos h0,if_pos h1];simp [D3]
theorem W2:bootBuiltins "len"=some (.builtin "len"):=by decide +kernel
theorem wH:bootBuiltins "any"=some (.builtin "any"):=by decide +kernel
theorem anY:bootBuiltins "ord"=some (.builtin "ord"):=by decide +kernel
theorem anZ:bootBuiltins "min"=some (.builtin "min"):=by decide +kernel
theorem q0:bootBuiltins "list"=some (.type "list"):=by decide +kernel
theorem kL:bootBuiltins "tuple"=some (.type "tuple"):=by decide +kernel
theorem wI:bootBuiltins "dict"=some (.type "dict"):=by decide +kernel
theorem wJ:bootBuiltins "int"=some (.type "int"):=by decide +kernel
section
variable {K:PySem.W.Frag} {H:Hp} {Q:VK} {i j:Int} {x y:Str} {u v:V} {b c:Bool} {p q:Addr} {lo hi:Option Int} {cm:Bool}
theorem ad_ii:rAddU K (.int i) (.int j) H Q=Q (.int (i+j)) H:=rfl
theorem ad_ss:rAddU K (.str x) (.str y) H Q=(x.length+y.length<=sizeLine/\Q (.str (x++y)) H):=rfl
theorem ad_rr:rAddU K (.ref p) (.ref q) H Q=rAddR K p q H Q:=rfl
theorem mu_ii:rMulU (.int i) (.int j) H Q=(CMul i j/\Q (.int (i*j)) H):=rfl
theorem mu_ri:rMulU (.ref p) (.int j) H Q=rRep (.ref p) (.int j) H Q:=rfl
theorem eq_ii:rEqU K (.int i) (.int j) H Q=Q (.bl (decide (i=j))) H:=rfl
theorem eq_ss:rEqU K (.str x) (.str y) H Q=Q (.bl (decide (x=y))) H:=rfl
theorem eq_bb:rEqU K (.bl b) (.bl c) H Q=Q (.bl (decide (b=c))) H:=rfl
theorem eq_rx:rEqU K (.ref p) v H Q=∃ d e,Dn K H (.ref p) d/\Dn K H v e/\min d.depth e.depth<=60/\Q (.bl (X4 d e)) H:=by cases v <;> rfl
theorem eq_xr:rEqU K v (.ref p) H Q=∃ d e,Dn K H v d/\Dn K H (.ref p) e/\min d.depth e.depth<=60/\Q (.bl (X4 d e)) H:=by cases v <;> rfl
theorem ne_ii:rNeU K (.int i) (.int j) H Q=Q (.bl (!decide (i=j))) H:=rfl
theorem ne_ss:rNeU K (.str x) (.str y) H Q=Q (.bl (!decide (x=y))) H:=rfl
theorem ne_bb:rNeU K (.bl b) (.bl c) H Q=Q (.bl (!decide (b=c))) H:=rfl
theorem ne_rx:rNeU K (.ref p) v H Q=∃ d e,Dn K H (.ref p) d/\Dn K H v e/\min d.depth e.depth<=60/\Q (.bl (!PyData.eqv d e)) H:=by cases v <;> rfl
theorem ne_xr:rNeU K v (.ref p) H Q=∃ d e,Dn K H v d/\Dn K H (.ref p) e/\min d.depth e.depth<=60/\Q (.bl (!PyData.eqv d e)) H:=by cases v <;> rfl
theorem lt_ii:rLtU (.int i) (.int j) H Q=Q (.bl (decide (i<j))) H:=rfl
theorem lt_ss:rLtU (.str x) (.str y) H Q=Q (.bl (decide (x.cps.toList<y.cps.toList))) H:=rfl
theorem le_ii:rLeU (.int i) (.int j) H Q=Q (.bl (decide (i<=j))) H:=rfl
theorem le_ss:rLeU (.str x) (.str y) H Q=Q (.bl (!decide (y.cps.toList<x.cps.toList))) H:=rfl
theorem gt_ii:rGtU (.int i) (.int j) H Q=Q (.bl (decide (j<i))) H:=rfl
theorem gt_ss:rGtU (.str x) (.str y) H Q=Q (.bl (decide (y.cps.toList<x.cps.toList))) H:=rfl
theorem ge_ii:rGeU (.int i) (.int j) H Q=Q (.bl (decide (j<=i))) H:=rfl
theorem ge_ss:rGeU (.str x) (.str y) H Q=Q (.bl (!decide (x.cps.toList<y.cps.toList))) H:=rfl
theorem in_xs:rInU K b u (.str x) H Q=∃ i,u=.str i/\Q (.bl (b.xor (!(Builtin.Str.occurrences x i 0 x.length 1).isEmpty))) H:=rfl
theorem in_xr:rInU K b u (.ref p) H Q=rInR K b u p H Q:=rfl
theorem sl_s:rSlU K (.str x) lo hi H Q=(x.length<=sizeLine/\Q (.str (cutS x lo hi)) H):=rfl
theorem sl_r:rSlU K (.ref p) lo hi H Q=rSlR K p lo hi H Q:=rfl
theorem len_s:rLenU K [.str x] H Q=(x.length<=sizeLine/\Q (.int x.length) H):=rfl
theorem len_r:rLenU K [.ref p] H Q=∃ n:Nat,LenR K H p n/\Q (.int n) H:=rfl
theorem an0:oR K cm [.ref p] H Q=rListR K cm p H Q:=rfl
theorem all_r:rAllB cm [.ref p] H Q=∃ bs:List Bool,cm=true/\H p=some (.lst (bs.map V.bl))/\Q (.bl (bs.all id)) H:=rfl
theorem isi_t{n:String} : rIsi [u,.ty n] H Q=∃ T,wD H u=some T/\isTys.contains n=true/\Q (.bl (wE T n)) H:=rfl
theorem ord_s:rOrd [.str x] H Q=(x.length=1/\Q (.int (x.cps.getD 0 0:Nat)) H):=rfl
end
theorem forL(Pv:Nat->St->Hp->Prop)(h0:Pv 0 O H)(hl:∀ i O H,i<=xs.length->Pv i O H->D4 K H a xs)(hs:∀ i x O H,xs[i]?=some x->Pv i O H->g x O H fun σ2 H2=>tb { D with nx:=Pv (i+1),ct:=Pv (i+1),bk:=D.nx } σ2 H2)(hd:∀ O H,Pv xs.length O H->D.nx O H):ForIt (k8 K a) g tb D O H:=ajH Pv h0 hl hs hd
theorem forT(Pv:Nat->St->Hp->Prop)(h0:Pv 0 O H)(hl:∀ i O H,i<=xs.length->Pv i O H->C9 K H a xs)(hs:∀ i x O H,xs[i]?=some x->Pv i O H->g x O H fun σ2 H2=>tb { D with nx:=Pv (i+1),ct:=Pv (i+1),bk:=D.nx } σ2 H2)(hd:∀ O H,Pv xs.length O H->D.nx O H):ForIt (y0 K a) g tb D O H:=alx Pv h0 hl hs hd
def CW(n:Nat)(fr:St)(Pv:Nat->List V->Hp->Prop)(i:Nat)(ys:List V)(σ2:St)(H2:Hp):Prop:=i<=n/\ys.length<=i/\(∃ v,σ2=v::fr)/\Pv i ys H2
theorem CW.put{fr:St}{Pv:Nat->List V->Hp->Prop}{o:Option V}(hi:i<n)(hy:ys.length<=i)(p:Pv (i+1) (ys++[y]) H):CW n fr Pv (i+1) (ys++[y]) (o::fr) H:=
 ⟨hi,by rw [C8,T9];lia,⟨_,rfl⟩,p⟩
theorem wK{fr:St}{Pv:Nat->List V->Hp->Prop}{o:Option V}(hi:i<n)(hy:ys.length<=i)(p:Pv (i+1) ys H):CW n fr Pv (i+1) ys (o::fr) H:=⟨hi,Nat.le_succ_of_le hy,⟨_,rfl⟩,p⟩
theorem compL(fr:St)(Y2:compStart 1 ixs O=none::fr)(Pv:Addr->Nat->List V->Hp->Prop)(h0:∀ D,H1 D=none->Pv D 0 [] (A0 H1 D (.lst [])))(hl:∀ D i ys H,H1 D=none->i<=xs.length->Pv D i ys H->D4 K H a xs)(hs:∀ D i x ys H,H1 D=none->i<xs.length->xs[i]?=some x->Pv D i ys H->H D=some (.lst ys)->ys.length<=i->c (some x::fr) H fun b H4=>
   if b=true then te (some x::fr) H4 fun y H5=>H5 D=some (.lst ys)/\ys.length<sizeLine/\CW xs.length fr (Pv D) (i+1) (ys++[y]) (some x::fr) (A0 H5 D (.lst (ys++[y])))
   else H4 D=some (.lst ys)/\CW xs.length fr (Pv D) (i+1) ys (some x::fr) H4)(hd:∀ D ys H,H1 D=none->Pv D xs.length ys H->H D=some (.lst ys)->ys.length<=xs.length->Q (.ref D) H):y8 (k8 K a) 1 ixs (gName 0) c te O Q H1:=by
 intro D hD;refine ⟨xs.length,CW xs.length fr (Pv D),⟨G3 _,G3 _,⟨none,Y2⟩,h0 D hD⟩,?_⟩;rintro i ys σ2 H2 ⟨hi,hy,⟨v,rfl⟩,p⟩ hDy;have q:=hl D i ys H2 hD hi p
 by_cases D3:i<xs.length
 .refine .inr ⟨D3,⟨xs,xs[i],q,by simp [D3]⟩,fun x H' y=>?_⟩;obtain ⟨e,y⟩:=y;subst e;exact hs D i x ys _ hD D3 (y xs q) p hDy hy
 .have e:i=xs.length:=by lia
  subst e;exact .inl ⟨⟨xs,q,C3 _⟩,hd D ys H2 hD p hDy hy⟩
theorem compT(fr:St)(Y2:compStart 1 ixs O=none::fr)(Pv:Addr->Nat->List V->Hp->Prop)(h0:∀ D,H1 D=none->Pv D 0 [] (A0 H1 D (.lst [])))(hl:∀ D i ys H,H1 D=none->i<=xs.length->Pv D i ys H->C9 K H a xs)(hs:∀ D i x ys H,H1 D=none->i<xs.length->xs[i]?=some x->Pv D i ys H->H D=some (.lst ys)->ys.length<=i->c (some x::fr) H fun b H4=>
   if b=true then te (some x::fr) H4 fun y H5=>H5 D=some (.lst ys)/\ys.length<sizeLine/\CW xs.length fr (Pv D) (i+1) (ys++[y]) (some x::fr) (A0 H5 D (.lst (ys++[y])))
   else H4 D=some (.lst ys)/\CW xs.length fr (Pv D) (i+1) ys (some x::fr) H4)(hd:∀ D ys H,H1 D=none->Pv D xs.length ys H->H D=some (.lst ys)->ys.length<=xs.length->Q (.ref D) H):y8 (y0 K a) 1 ixs (gName 0) c te O Q H1:=by
 intro D hD;refine ⟨xs.length,CW xs.length fr (Pv D),⟨G3 _,G3 _,⟨none,Y2⟩,h0 D hD⟩,?_⟩;rintro i ys σ2 H2 ⟨hi,hy,⟨v,rfl⟩,p⟩ hDy;have q:=hl D i ys H2 hD hi p
 by_cases D3:i<xs.length
 .refine .inr ⟨D3,⟨xs,xs[i],q,by simp [D3]⟩,fun x H' y=>?_⟩;obtain ⟨e,y⟩:=y;subst e;exact hs D i x ys _ hD D3 (y xs q) p hDy hy
 .have e:i=xs.length:=by lia
  subst e;exact .inl ⟨⟨xs,q,C3 _⟩,hd D ys H2 hD p hDy hy⟩
theorem compS(fr:St)(Y2:compStart 1 ixs O=none::fr)(Pv:Addr->Nat->List V->Hp->Prop)(h0:∀ D,H1 D=none->Pv D 0 [] (A0 H1 D (.lst [])))(hs:∀ D i x ys H,H1 D=none->i<z.cps.size->z.cps.toList[i]?=some x->Pv D i ys H->H D=some (.lst ys)->ys.length<=i->c (some (.str ⟨#[x]⟩)::fr) H fun b H4=>
   if b=true then te (some (.str ⟨#[x]⟩)::fr) H4 fun y H5=>H5 D=some (.lst ys)/\ys.length<sizeLine/\CW z.cps.size fr (Pv D) (i+1) (ys++[y]) (some (.str ⟨#[x]⟩)::fr) (A0 H5 D (.lst (ys++[y])))
   else H4 D=some (.lst ys)/\CW z.cps.size fr (Pv D) (i+1) ys (some (.str ⟨#[x]⟩)::fr) H4)(hd:∀ D ys H,H1 D=none->Pv D z.cps.size ys H->H D=some (.lst ys)->ys.length<=z.cps.size->Q (.ref D) H):y8 (dY z) 1 ixs (gName 0) c te O Q H1:=by
 intro D hD;refine ⟨z.cps.size,CW z.cps.size fr (Pv D),⟨G3 _,G3 _,⟨none,Y2⟩,h0 D hD⟩,?_⟩;rintro i ys σ2 H2 ⟨hi,hy,⟨v,rfl⟩,p⟩ hDy
 by_cases D3:i<z.cps.size
 .refine .inr ⟨D3,D3,fun x H' y=>?_⟩;obtain ⟨e,c,hc,rfl⟩:=y;subst e;exact hs D i c ys _ hD D3 hc p hDy hy
 .have e:i=z.cps.size:=by lia
  subst e;exact .inl ⟨C3 _,hd D ys H2 hD p hDy hy⟩
theorem compR{lo:Int}(fr:St)(Y2:compStart 1 ixs O=none::fr)(Pv:Addr->Nat->List V->Hp->Prop)(h0:∀ D,H1 D=none->Pv D 0 [] (A0 H1 D (.lst [])))(hs:∀ D i ys H,H1 D=none->i<n->Pv D i ys H->H D=some (.lst ys)->ys.length<=i->c (some (.int (lo+i))::fr) H fun b H4=>
   if b=true then te (some (.int (lo+i))::fr) H4 fun y H5=>H5 D=some (.lst ys)/\ys.length<sizeLine/\CW n fr (Pv D) (i+1) (ys++[y]) (some (.int (lo+i))::fr) (A0 H5 D (.lst (ys++[y])))
   else H4 D=some (.lst ys)/\CW n fr (Pv D) (i+1) ys (some (.int (lo+i))::fr) H4)(hd:∀ D ys H,H1 D=none->Pv D n ys H->H D=some (.lst ys)->ys.length<=n->Q (.ref D) H):y8 (bK lo n) 1 ixs (gName 0) c te O Q H1:=by
 intro D hD;refine ⟨n,CW n fr (Pv D),⟨G3 _,G3 _,⟨none,Y2⟩,h0 D hD⟩,?_⟩;rintro i ys σ2 H2 ⟨hi,hy,⟨v,rfl⟩,p⟩ hDy
 by_cases D3:i<n
 .refine .inr ⟨D3,D3,fun x H' y=>?_⟩;obtain ⟨e,y⟩:=y;subst e y;exact hs D i ys _ hD D3 p hDy hy
 .have e:i=n:=by lia
  subst e;exact .inl ⟨C3 _,hd D ys H2 hD p hDy hy⟩
theorem D0{q:Addr}{o u:HO}(h:H p=some o)(n:H q=none):A0 H q u p=some o:=by rw [A9 (p6 h n)];exact h
theorem Same.new{q:Addr}{u:HO}(n:H q=none):Same H (A0 H q u):=fun _ _ h=>D0 h n
theorem Same.put{q:Addr}{u:HO}(s:Same H0 H)(n:H0 q=none):Same H0 (A0 H q u):=fun b o h=>by rw [A9 (p6 h n)];exact s b o h
end L2
set_option maxRecDepth 100000
namespace L2
open PySem PySem.Spec PyProof.Rows
theorem cxK{CX:X5}{P:Program}{w:World}{base:Heap}{sc:Scope}{A:Around}{o:List Env}{E:XK} : (cxOf CX P w K mg base N q sc f cd A o s H E).K=K:=rfl
theorem cxKn : X.nox.K=X.K:=rfl
theorem cxKb{sc:Scope} : (L6 X sc N' C zw zt fp pins).K=X.K:=rfl
theorem cxC{CX:X5}{P:Program}{w:World}{base:Heap}{sc:Scope}{A:Around}{o:List Env}{E:XK} : (cxOf CX P w K mg base N q sc f cd A o s H E).calm=true:=rfl
theorem cxCn : X.nox.calm=X.calm:=rfl
theorem cxCb{sc:Scope} : (L6 X sc N' C zw zt fp pins).calm=X.calm:=rfl
theorem iteD{c A B:Prop}[Decidable c](h1:c->A)(h2:¬ c->B):if decide c=true then A else B:=by
 by_cases h:c
 .rw [decide_eq_true h,if_pos rfl];exact h1 h
 .rw [decide_eq_false h,if_neg K6];exact h2 h
theorem iteN{c A B:Prop}[Decidable c](h1:¬ c->A)(h2:c->B):if (!decide c)=true then A else B:=by
 by_cases h:c
 .rw [decide_eq_true h];exact iteF (h2 h)
 .rw [decide_eq_false h];exact iteT (h1 h)
theorem O3(h:H p=some (.lst xs)):y4 K "list" (.ref p) H:=.inl ⟨rfl,_,D4.of h⟩
theorem appOk{l:Addr}(h:H l=some (.lst xs))(hz:xs.length<sizeLine)(q:Q .non (A0 H l (.lst (xs++[y])))):kD (.ref l) [y] H Q:=⟨l,xs,y,rfl,rfl,h,hz,q⟩
theorem G7(h:n<=1000000):n<sizeLine:=Nat.lt_of_le_of_lt h (by decide)
theorem Z3(h:n<=1000000):n<=sizeLine:=Nat.le_of_lt (G7 h)
def signB(c:Nat):Bool:=decide (33<=c)&&decide (c<=126)&&decide (c≠37)
def SG:List Nat:=[33,34,35,36]++(c9 89).map (· + 38)
theorem amp:∀ c∈SG,signB c=true:=by decide +kernel
theorem oS:SG.length=93:=by decide +kernel
structure IsRows(H:Hp)(a:Addr)(rs:List Addr)(zss:List (List Str)):Prop where
 top:H a=some (.lst (rs.map V.ref))
 row:Paired (fun r (zs:List Str)=>H r=some (.lst (zs.map V.str))) rs zss
theorem IsRows.same{zss:List (List Str)}(R:IsRows H a rs zss)(s:Same H H'):IsRows H' a rs zss:=⟨s _ _ R.top,M9 R.row fun _ _ h=>s _ _ h⟩
theorem Paired.at{α β:Type}{F:α->β->Prop} : ∀ {l₁:List α} {l₂:List β} {i:Nat} {a:α},Paired F l₁ l₂->l₁[i]?=some a->∃ b,l₂[i]?=some b/\F a b
 | _,_,_,_,.nil,h=>by simp at h
 | _,_,0,_,.cons h t,e=>by simp at e;subst e;exact ⟨_,rfl,h⟩
 | _,_,i+1,_,.cons h t,e=>by
  obtain ⟨b,h1,h2⟩:=Paired.at (i:=i) t (by simpa using e);exact ⟨b,by simpa using h1,h2⟩
theorem kM:∀ zs:List Int,dL (zs.map p5)=0
 | []=>rfl
 | z::zs=>by rw [G6,dL,kM zs,PyData.depth];rfl
def dd(acc:List Str)(z:Str):List Str:=if z∈acc then acc else acc++[z]
def G0(acc zs:List Str):List Str:=zs.foldl dd acc
def toldL(zss:List (List Str)):List Str:=zss.foldl G0 []
theorem gD(zs:List Str):∀ acc:List Str,(G0 acc zs).length<=acc.length+zs.length:=by
 induction zs with
 | nil=>intro acc;exact C3 _
 | cons z zs ih=>
  intro acc;have h1:=ih (dd acc z);have h2:(dd acc z).length<=acc.length+1:=by
   unfold dd
   split
   .lia
   .simp
  show (G0 (dd acc z) zs).length<=_;rw [G5];lia
theorem akg(h:zs[j]?=some z):G0 acc (zs.take (j+1))=dd (G0 acc (zs.take j)) z:=by
 rw [b9,h];simp [G0,Y6]
theorem aiK{zss:List (List Str)}(h:zss[i]?=some zs):toldL (zss.take (i+1))=G0 (toldL (zss.take i)) zs:=by
 rw [b9,h];simp [toldL,Y6]
theorem kN(zss:List (List Str)):∀ acc,zss.foldl G0 acc=G0 acc zss.flatten:=by
 induction zss with
 | nil=>intro acc;rfl
 | cons zs zss ih=>
  intro acc;rw [dH,ih,dF];unfold G0;rw [Y6]
theorem gE(zss:List (List Str)):(toldL zss).length<=zss.flatten.length:=by
 unfold toldL;rw [kN]
 have:=gD zss.flatten []
 simpa using this
def kvOf(zs:List Str):List (C5×V):=zs.map fun z=>(Sum.inr z,V.bl true)
theorem oT(z:Str):∀ acc:List Str,((kvOf acc).any fun kv=>decide (kv.1=(Sum.inr z:C5)))=decide (z∈acc)
 | []=>by simp [kvOf]
 | y::acc=>by
  have ih:=oT z acc;unfold kvOf at ih ⊢
  rw [G6,k7,ih]
  by_cases e:y=z
  .subst e
   simp
  .have e1:decide ((Sum.inr y:C5)=Sum.inr z)=false:=decide_eq_false fun q=>e (Sum.inr.inj q)
   have e2:decide (z∈y::acc)=decide (z∈acc):=by
    by_cases h:z∈acc
    .rw [decide_eq_true h,decide_eq_true (M6 _ h)]
    .rw [decide_eq_false h,decide_eq_false];intro q
     rcases E8.mp q with q | q
     .exact e q.symm
     .exact h q
   rw [e2];simp only [e1,Bool.false_or]
theorem wL(acc:List Str)(z:Str):putK (kvOf acc) (Sum.inr z:C5) (.bl true)=kvOf (dd acc z):=by
 unfold putK dd;rw [oT]
 by_cases h:z∈acc
 .rw [decide_eq_true h,if_pos rfl,if_pos h];unfold kvOf;rw [o8];refine fP fun y _=>?_
  show (if (Sum.inr y:C5)=Sum.inr z then ((Sum.inr y:C5),V.bl true) else (Sum.inr y,V.bl true))=_
  split <;> rfl
 .rw [decide_eq_false h,if_neg K6,if_neg h];unfold kvOf;rw [D9];rfl
theorem aiL(acc:List Str):((kvOf acc).map fun kv=>kV kv.1)=acc.map V.str:=by
 unfold kvOf;rw [o8];rfl
theorem wM(z:Str):∀ acc:List Str,y3 (.str z) (acc.map V.str)=decide (z∈acc)
 | []=>by simp [y3]
 | y::acc=>by
  have ih:=wM z acc;unfold y3 at ih ⊢
  rw [G6,k7,ih];show ((y==z) || decide (z∈acc))=_
  by_cases e:y=z
  .subst e
   simp
  .have e1:(y==z)=false:=by simpa using e
   rw [e1,Bool.false_or]
   by_cases h:z∈acc
   .rw [decide_eq_true h,decide_eq_true (M6 _ h)]
   .rw [decide_eq_false h,decide_eq_false];intro q
    rcases E8.mp q with q | q
    .exact e q.symm
    .exact h q
theorem G8{α β:Type}{f:α->β}{l:List α}{y:β}(h:(l.map f)[i]?=some y):∃ x,l[i]?=some x/\y=f x:=by
 rw [U9] at h;cases e:l[i]? with
 | none=>rw [e] at h;cases h
 | some x=>rw [e] at h;exact ⟨x,rfl,(Option.some.inj h).symm⟩
def SS:Str:=Str.ofString "!\"#$&'()*+,-./0123456789:;<=>?@ABCDEFGHIJKLMNOPQRSTUVWXYZ[\\]^_`"++Str.ofString "abcdefghijklmnopqrstuvwxyz{|}~"
theorem SS_eq:SS.cps.toList=SG:=by decide +kernel
theorem an1:SS.length<=sizeLine:=by decide +kernel
theorem amq:(Str.ofString "!\"#$&'()*+,-./0123456789:;<=>?@ABCDEFGHIJKLMNOPQRSTUVWXYZ[\\]^_`").length+(Str.ofString "abcdefghijklmnopqrstuvwxyz{|}~").length<=sizeLine:=by decide +kernel
theorem SS_at{i:Int}(h0:0<=i)(h1:i<93):∃ c,F7 SS.cps.toList i=some c/\signB c=true:=by
 rw [SS_eq];obtain ⟨c,h2,h3⟩:=kK (xs:=SG) h0 (by rw [oS];exact h1);exact ⟨c,h2,amp c h3⟩
theorem drawn{i:Int}(hx:∀ x∈xs,∃ n,x=V.int n)(h0:0<=i)(h1:i<xs.length):∃ n,F7 xs i=some (V.int n):=by
 obtain ⟨v,h2,h3⟩:=kK h0 h1;obtain ⟨n,rfl⟩:=hx v h3;exact ⟨n,h2⟩
theorem kO{α β:Type}{F:α->β->Prop}{a:α}{b:β} : ∀ {l₁:List α} {l₂:List β},Paired F (l₁++[a]) (l₂++[b])->Paired F l₁ l₂/\F a b
 | [],[],.cons h _=>⟨.nil,h⟩
 | [],y::l₂,h=>by
  have:=Paired.length h
  simp at this
 | x::l₁,[],h=>by
  have:=Paired.length h
  simp at this
 | x::l₁,y::l₂,.cons h t=>by
  obtain ⟨h1,h2⟩:=kO (l₁:=l₁) (l₂:=l₂) t;exact ⟨.cons h h1,h2⟩
theorem gF{α β:Type}{F G:α->β->Prop} : ∀ {l₁:List α} {l₂:List β},Paired F l₁ l₂->(∀ a∈l₁,∀ b,F a b->G a b)->Paired G l₁ l₂
 | _,_,.nil,_=>.nil
 | _,_,.cons h t,k=>.cons (k _ K1 _ h) (gF t fun a ha b hb=>k a (M6 _ ha) b hb)
structure RowsAt(H0 H:Hp)(a:Addr)(rs:List Addr)(zss:List (List Str)):Prop where
 rows:IsRows H a rs zss
 nd:(a::rs).Nodup
 new:∀ r∈a::rs,H0 r=none
 same:Same H0 H
theorem RowsAt.live{zss:List (List Str)}(R:RowsAt H0 H a rs zss)(h:r∈a::rs):∃ o,H r=some o:=by
 rcases E8.mp h with h | h
 .subst h;exact ⟨_,R.rows.top⟩
 .obtain ⟨i,hi,rfl⟩:=X1.mp h;obtain ⟨zs,_,h2⟩:=Paired.at R.rows.row (i:=i) (a:=rs[i]) (by simp [hi]);exact ⟨_,h2⟩
theorem wN(x:Str)(lo hi:Option Int):(cutS x lo hi).cps.toList=(x.cps.toList.drop (HT.sIx x.length 0 lo)).take (HT.sIx x.length x.length hi-HT.sIx x.length 0 lo):=by
 unfold cutS
 simp
end L2
set_option maxRecDepth 100000
namespace L2
open PySem PySem.Spec PyProof.Rows
structure QE(X:Cx)(e:Expr)(t:TE):Prop where
 out:PE X e t
structure QT(X:Cx)(e:Expr)(t:TT):Prop where
 out:PT X e t
structure QW(X:Cx)(e:Expr)(t:TT):Prop where
 out:PW X e t
structure QA(X:Cx)(es:List Expr)(t:TA):Prop where
 out:PA X es t
structure QS(X:Cx)(st:Stmt)(t:TS):Prop where
 out:PS X st t
structure QSs(X:Cx)(st:List Stmt)(t:TS):Prop where
 out:V2 X st t
structure QG(X:Cx)(tg:Expr)(t:TG):Prop where
 out:PG X tg t
structure QGs(X:Cx)(tg:List Expr)(t:Z1):Prop where
 out:fZ X tg t
structure QI(X:Cx)(tg iter:Expr)(wi:TI):Prop where
 out:PI X tg iter wi
structure QO(X:Cx)(e:Option Expr)(t:TO):Prop where
 out:PO X e t
structure QIfs(X:Cx)(ifs:List Expr)(t:TT):Prop where
 out:PIfs X ifs t
structure QOp(X:Cx)(f:Value->Value->Sem Value)(r:R2):Prop where
 out:J5 X f r
structure QUn(X:Cx)(f:Value->Sem Value)(r:V->Hp->VK->Prop):Prop where
 out:kA X f r
structure QCall(X:Cx)(f:Value)(r:List V->Hp->VK->Prop):Prop where
 out:CallR X f r
structure QMt(X:Cx)(id:String)(r:V->List V->Hp->VK->Prop):Prop where
 out:oB X id r
structure QIp(X:Cx)(op:Operator)(t:bJ):Prop where
 out:nK X op t
structure QIn(X:Cx)(op:Operator)(t:V->V->Hp->VK->Prop):Prop where
 out:InOp X op t
section
variable {X:Cx} {a b c e o i value:Expr} {es:List Expr} {ta tb tc te to ti tv:TE} {tA tB':TT} {t u:TS} {tl:TA} {pos p pos' tpos:Pos} {rest:List Expr} {r r':R2} {x:Str}
theorem A7{i j} : QE X (.Constant (.int i) j pos) (tC (.int i)):=⟨uW⟩
theorem qe_bl{b j} : QE X (.Constant (.bool b) j pos) (tC (.bl b)):=⟨pe_bl⟩
theorem M3{x j} : QE X (.Constant (.str x) j pos) (tC (.str x)):=⟨amZ⟩
theorem qe_v(hN:X.N[n]?=some x)(hv:fY X.env.scope x)(hd:(x==("__debug__" : Str))=false)(P6:(x==("__classdict__" : Str))=false):QE X (.Name x pos) (tVar n):=⟨uV hN hv hd P6⟩
theorem qv(n:Nat)(hN:X.N[n]?=some x:=by rfl)(hv:fY X.env.scope x:=by first | exact Or.inl rfl | exact Or.inr (Or.inl rfl) | exact Or.inr (Or.inr rfl))(hd:(x==("__debug__" : Str))=false:=by decide)(P6:(x==("__classdict__" : Str))=false:=by decide):QE X (.Name x pos) (tVar n):=⟨uV hN hv hd P6⟩
theorem y9{i:Int}(h:∃ t,X.mg x=some (.int i t))(hg:Gl X x:=by rfl)(hd:(x==("__debug__" : Str))=false:=by decide):QE X (.Name x p) (tC (.int i)):=⟨aj2 h hg hd⟩
theorem kP{a:Addr}(h:X.mg x=some (.ref a))(hg:Gl X x:=by rfl)(hd:(x==("__debug__" : Str))=false:=by decide):QE X (.Name x p) (tC (.ref a)):=⟨aj3 h hg hd⟩
theorem qe_op{op:Operator}(ho:QOp X (binaryOp op) r)(ha:QE X a ta)(hb:QE X b tb):QE X (.BinOp a op b pos) (f8 r ta tb):=⟨pe_op ho.out ha.out hb.out⟩
theorem qe_un{op:UnaryOp}{r:V->Hp->VK->Prop}(ho:QUn X (unaryOp op) r)(ha:QE X a ta):QE X (.UnaryOp op a pos) (nO r ta):=⟨pe_un ho.out ha.out⟩
theorem wO{op}(ha:QE X a ta):QE X (.BoolOp op [a] pos) ta:=⟨am3 ha.out⟩
theorem wP(ha:QE X a ta)(hb:QE X (.BoolOp .And (b::rest) pos) tb):QE X (.BoolOp .And (a::b::rest) pos) (tAndV ta tb):=⟨am4 ha.out hb.out⟩
theorem kQ{op:CmpOp}(ho:QOp X (compareOp op) r)(ha:QE X a ta)(hb:QE X b tb)(hm:behindInMarks op b=false:=by first | exact vE _ | rfl):QE X (.Compare a [op] [b] pos) (f8 r ta tb):=⟨alz ho.out ha.out hb.out hm⟩
theorem akh{op op':CmpOp}(ho:QOp X (compareOp op) r)(i6:QOp X (compareOp op') r')(ha:QE X a ta)(hb:QE X b tb)(hc:QE X c tc)(hm:lastMarks [op,op'] [b,c]=false:=by with_unfolding_all rfl):QE X (.Compare a [op,op'] [b,c] pos) (nQ r r' ta tb tc):=⟨ajI ho.out i6.out ha.out hb.out hc.out hm⟩
theorem wQ(hc:QT X c tA)(ha:QE X a ta)(hb:QE X b tb):QE X (.IfExp c a b pos) (nI tA ta tb):=⟨ajB hc.out ha.out hb.out⟩
theorem A5:QA X [] tNil:=⟨ano⟩
theorem qa_c(ha:QE X e te)(hr:QA X es tl)(h:K2 e=false:=by rfl):QA X (e::es) (tCons te tl):=⟨pa_c ha.out hr.out h⟩
theorem M4(h:QA X es tl):QE X (.List es pos) (tLst tl):=⟨anq h.out⟩
theorem P0{x1}(h:QA X es tl):QE X (.Tuple es x1 pos) (tTup tl):=⟨anp h.out⟩
theorem dZ:QE X (.Dict [] [] pos) oK:=⟨ajV⟩
theorem V4:QO X none nY:=⟨alJ⟩
theorem M7(h:QE X e te):QO X (some e) (tPart te):=⟨alK h.out⟩
theorem P1{lo hi:Option Expr}{tlo thi:TO}(he:QE X e te)(hl:QO X lo tlo)(hu:QO X hi thi)(hK:X.K=K:=by rfl):QE X (.Subscript e (.Slice lo hi none p2) pos) (nZ (rSlU K) te tlo thi):=by subst hK;exact ⟨ajR p_sl he.out hl.out hu.out⟩
theorem f9(hu:X.A.units+1<cLine)(ho:QE X o to)(hi:QE X i ti)(hs:NoSl i:=by exact fun _ _=>rfl):QE X (.Subscript o i pos) (tDGet to ti):=⟨alQ hu ho.out hi.out hs⟩
theorem qe_ix(ha:QE X a ta)(hb:QE X b tb)(hs:vP b:=by exact fun _ _=>rfl)(hK:X.K=K:=by rfl):QE X (.Subscript a b pos) (f8 (bN K) ta tb):=by subst hK;exact ⟨pe_ix anu ha.out hb.out hs⟩
theorem qe_cB{id:String}{rc:List V->Hp->VK->Prop}(hc:QCall X (.builtin id) rc)(hm:X.mg x=none)(hv:bootBuiltins x=some (.builtin id))(ha:QA X (e::es) tl)(hg:Gl X x:=by rfl)(h1:K2 e=false:=by rfl)(h2:U6 es=true:=by rfl)(hn:x≠"__name__":=by decide)(P7:(x==("__debug__" : Str))=false:=by decide) :
  QE X (.Call (.Name x p) (e::es) [] pos) (bM rc tl):=⟨pe_cB hc.out hg hm hv ha.out h1 h2 hn P7⟩
theorem qe_cT{T:String}{rc:List V->Hp->VK->Prop}(hc:QCall X (.type T) rc)(hm:X.mg x=none)(hv:bootBuiltins x=some (.type T))(ha:QA X (e::es) tl)(hg:Gl X x:=by rfl)(h1:K2 e=false:=by rfl)(h2:U6 es=true:=by rfl)(hn:x≠"__name__":=by decide)(P7:(x==("__debug__" : Str))=false:=by decide) :
  QE X (.Call (.Name x p) (e::es) [] pos) (bM rc tl):=⟨pe_cT hc.out hg hm hv ha.out h1 h2 hn P7⟩
theorem qe_mB{T id:String}{name:Str}{rm:V->List V->Hp->VK->Prop}(pa:PlainAttrs T)(slot:Slot T name id)(Y0:typeOf (.builtin id)=pure (.type "method_descriptor"))(hm:QMt X id rm)(ho:QE X o to)(ha:QA X (e::es) tl)(h1:K2 e=false:=by rfl)(h2:U6 es=true:=by rfl)(h3:decide ((e::es).length<30)=true:=by rfl)(J8:attributeBase o name X.env (eval o X.env)=eval o X.env:=by rfl)(J9:(apos.endLine==cpos.line)=true:=by rfl)(hK:X.K=K:=by rfl):QE X (.Call (.Attribute o name apos) (e::es) [] cpos) (dR K T rm to tl):=by subst hK;exact ⟨pe_mB pa slot Y0 hm.out ho.out ha.out h1 h2 h3 J8 J9⟩
theorem D7{ps:List Str}(G:FO X.prog X.w X.K X.mg X.base k x ps dvs sp)(hr:Room k X.A)(ha:QA X (e::es) tl)(hg:Gl X x:=by rfl)(h1:K2 e=false:=by rfl)(h2:U6 es=true:=by rfl)(P7:(x==("__debug__" : Str))=false:=by decide) :
  QE X (.Call (.Name x p) (e::es) [] pos) (tCall sp dvs E0 tl):=⟨aj1 G hr ha.out hg h1 h2 P7⟩
theorem G1{op:CmpOp}(ho:QOp X (compareOp op) r)(ha:QE X a ta)(hb:QE X b tb)(hm:behindInMarks op b=false:=by first | exact vE _ | rfl):QT X (.Compare a [op] [b] pos) (tTest (f8 r ta tb)):=⟨alA ho.out ha.out hb.out hm⟩
theorem an2(ha:QT X a tA):QT X (.UnaryOp .Not a pos) (tNot tA):=⟨am2 ha.out⟩
theorem kR(ha:QT X a tA):QW X (.BoolOp .And [a] pos) tA:=⟨alq ha.out⟩
theorem kS(ha:QT X a tA):QW X (.BoolOp .Or [a] pos) tA:=⟨am0 ha.out⟩
theorem kT(ha:QT X a tA)(hb:QW X (.BoolOp .And (b::rest) pos) tB'):QW X (.BoolOp .And (a::b::rest) pos) (tAnd tA tB'):=⟨am1 ha.out hb.out⟩
theorem qw_or(ha:QT X a tA)(hb:QW X (.BoolOp .Or (b::rest) pos) tB'):QW X (.BoolOp .Or (a::b::rest) pos) (nH tA tB'):=⟨pw_or ha.out hb.out⟩
theorem QW.pt(h:QW X a tA):QT X a tA:=⟨h.out.pt⟩
theorem g0(ha:QE X a ta)(he:∀ whole,isTrue a X.env whole=(do let v <- whole;standAt a.pos;holding [v] (truthy v)):=by intro _;rfl)(hK:X.K=K:=by rfl):QT X a (tTru K ta):=by subst hK;exact ⟨anD ha.out he⟩
variable {st:Stmt} {sts:List Stmt}
theorem N0:QSs X [] tNext:=⟨alr⟩
theorem C1(h:QS X st t):QSs X [st] t:=⟨als h.out⟩
theorem B5(h:QS X st t)(h2:QSs X sts u):QSs X (st::sts) (tSeq t u):=⟨ajC h.out h2.out⟩
theorem E4(he:QE X e te):QS X (.Return (some e) pos) (tRet te):=⟨am6 he.out⟩
theorem kU:QS X st nJ:=⟨ajD⟩
theorem E9(hN:X.N.Nodup)(hi:X.N[n]?=some x)(hx:f7 X.env.scope x)(he:QE X e te)(hs:swapsWith e (some (.Name x pos')) pos.line X.env=pure false:=by rfl)(hf:X.fn x=true:=by rfl):QS X (.Assign [.Name x pos'] e pos) (tAsg te (gName n)):=⟨am8 hN hi hx he.out hs (.inl hf)⟩
theorem eA{f:Str}(ho:QE X o to)(hv:QE X value tv)(hs:swapsWith value (some (.Attribute o f pos')) pos.line X.env=pure false:=by rfl)(hK:X.K=K:=by rfl):QS X (.Assign [.Attribute o f pos'] value pos) (sFld K to tv f):=by subst hK;exact ⟨anl ho.out hv.out hs⟩
theorem g4{f:Str}(ho:QE X o to)(hb:attributeBase o f X.env (eval o X.env)=eval o X.env:=by rfl)(hK:X.K=K:=by rfl):QE X (.Attribute o f pos) (tFld K to f):=by subst hK;exact ⟨ank ho.out hb⟩
theorem q5(hu:X.A.units+1<cLine)(ho:QE X o to)(hi:QE X i ti)(hv:QE X value tv)(hs:swapsWith value (some (.Subscript o i pos')) pos.line X.env=pure false:=by rfl):QS X (.Assign [.Subscript o i pos'] value pos) (sDPut to ti tv):=⟨alR hu ho.out hi.out hv.out hs⟩
theorem wR{op:Operator}{rd:V->V->Hp->VK->Prop}(hu:X.A.units+1<cLine)(ho:QE X o to)(hi:QE X i ti)(hv:QE X value tv)(sD:QIn X op rd)(ha:∀ ov iv new,augStore i ov iv new=(do holding [new,ov,iv] (setItem ov iv new);release [new,ov,iv] [];pure .next):=by exact fun _ _ _=>rfl) :
  QS X (.AugAssign (.Subscript o i tpos) op value pos) (sDAug to ti tv rd):=⟨alS hu ho.out hi.out hv.out sD.out ha⟩
theorem wS{op:Operator}{tip:bJ}(hN:X.N.Nodup)(hi:X.N[n]?=some x)(hx:f7 X.env.scope x)(he:QE X e te)(ho:QIp X op tip)(hf:X.fn x=true:=by rfl):QS X (.AugAssign (.Name x pos') op e pos) (tAug n te tip):=⟨am9 hN hi hx he.out ho.out (.inl hf)⟩
theorem N4(he:QE X e te)(hs:swapsWith e none pos.line X.env=pure false:=by rfl):QS X (.Expr e pos) (tDrop te):=⟨alt he.out hs⟩
theorem qs_if{sa sb:List Stmt}(hc:QT X c tA)(ha:QSs X sa t)(hb:QSs X sb u):QS X (.If c sa sb pos) (tIfS tA t u):=⟨ps_if hc.out ha.out hb.out⟩
theorem oU{body:List Stmt}(hp:PassesOwn (model X.prog X.w) X.A X.env X.xe)(hc:QT X c tA)(hb:QSs X body t):QS X (.While c body [] pos) (jZ tA t):=⟨ajF hp hc.out hb.out⟩
theorem N9{body:List Stmt}{wi:TI}(hp:PassesOwn (model X.prog X.w) X.A X.env X.xe)(hi:QI X tg iter wi)(hg:QG X tg g)(hb:QSs X body t)(hc:X.calm=true:=by rfl)(hs:∀ x,foldedSetIterable iter X.env x=pure x:=by intro _;rfl):QS X (.For tg iter body [] pos) (tFor wi g t):=⟨anc hp hc hi.out hg.out hb.out hs⟩
theorem E2(hN:X.N.Nodup)(hi:X.N[n]?=some x)(hx:f7 X.env.scope x)(hf:X.fn x=true\/X.env.scope.names.lookup x=some .local:=by first | exact .inl rfl | exact .inr rfl | assumption):QG X (.Name x pos) (gName n):=⟨alu hN hi hx hf⟩
theorem bR:QGs X [] gNil:=⟨alv⟩
theorem R6{gs:Z1}(h1:QG X e g)(h2:QGs X es gs)(hs:(assignEach (e::es) X.env).map (·.2)=assign e X.env::(assignEach es X.env).map (·.2):=by rfl):QGs X (e::es) (gCons g gs):=⟨ajE h1.out h2.out hs⟩
theorem bS{gs:Z1}(h:QGs X es gs)(hc:X.calm=true:=by rfl)(hn:(assignEach es X.env).length=n:=by rfl)(W4:(assignEach es X.env).findIdx? (·.1)=none:=by rfl)(hK:X.K=K:=by rfl):QG X (.Tuple es k pos) (gTup K n gs):=by subst hK;exact ⟨am7 hc h.out hn W4⟩
variable {tg:Expr}
theorem O0(h:QE X e te)(hK:X.K=K:=by rfl):QI X tg e (iList K te):=by subst hK;exact ⟨alw h.out⟩
theorem bT(h:QE X e te)(hK:X.K=K:=by rfl):QI X tg e (iTup K te):=by subst hK;exact ⟨anb h.out⟩
theorem wT(h:QE X e te):QI X tg e (iStr te):=⟨anI h.out⟩
theorem qi_r1(hm:X.mg "range"=none)(ha:QA X [a] tl)(hg:Gl X "range":=by rfl)(h1:K2 a=false:=by rfl):QI X tg (.Call (.Name "range" p) [a] [] pos) (iRng1 tl):=⟨pi_r1 hg hm ha.out h1⟩
theorem g6:QIfs X [] tYes:=⟨ajY⟩
theorem gG(h:QT X c tA):QIfs X [c] tA:=⟨ajZ h.out⟩
variable {sc:Scope} {N':List Str} {k:Nat} {ixs:List Nat} {ifs:List Expr} {wi:TI} {g:TG} {elt:Expr}
theorem X6(C:CompOk X.N X.env.scope.names sc N' k ixs)(hi:QI X tg e wi)(hg:∀ C zw zt fp pins,QG (L6 X sc N' C zw zt fp pins) tg g)(hc:∀ C zw zt fp pins,QIfs (L6 X sc N' C zw zt fp pins) ifs tA)(he:∀ C zw zt fp pins,QE (L6 X sc N' C zw zt fp pins) elt te)(L3:X.calm=true:=by rfl)(hs:∀ x,foldedSetIterable e X.env x=pure x:=by intro _;rfl):QE X (.ListComp elt [⟨tg,e,ifs,0⟩] sc pos) (tComp wi k ixs g tA te):=
 ⟨alU C L3 hi.out (fun _ _ _ _ _=>(hg _ _ _ _ _).out) (fun _ _ _ _ _=>(hc _ _ _ _ _).out) (fun _ _ _ _ _=>(he _ _ _ _ _).out) hs⟩
theorem oV(hN:X.N.Nodup)(hiN:X.N[n]?=some x)(hx:f7 X.env.scope x)(C:CompOk X.N X.env.scope.names sc N' k ixs)(hi:QI X tg e wi)(hg:∀ C zw zt fp pins,QG (L6 X sc N' C zw zt fp pins) tg g)(hc:∀ C zw zt fp pins,QIfs (L6 X sc N' C zw zt fp pins) ifs tA)(he:∀ C zw zt fp pins,QE (L6 X sc N' C zw zt fp pins) elt te)(sE:swapsWith (.ListComp elt [⟨tg,e,ifs,0⟩] sc pos) (some (.Name x pos')) spos.line X.env=pure true:=by rfl)(L3:X.calm=true:=by rfl)(hf:X.fn x=true:=by rfl)(hs:∀ x,foldedSetIterable e X.env x=pure x:=by intro _;rfl) :
  QS X (.Assign [.Name x pos'] (.ListComp elt [⟨tg,e,ifs,0⟩] sc pos) spos) (tAsg (tComp wi k ixs g tA te) (gName n)):=
 ⟨ahE hN hiN hx C L3 hi.out (fun _ _ _ _ _=>(hg _ _ _ _ _).out) (fun _ _ _ _ _=>(hc _ _ _ _ _).out) (fun _ _ _ _ _=>(he _ _ _ _ _).out) sE (.inl hf) hs⟩
theorem q_add(hK:X.K=K:=by rfl):QOp X (binaryOp .Add) (rAddU K):=by subst hK;exact ⟨p_add⟩
theorem q_sub:QOp X (binaryOp .Sub) (p7 fun i j=>.int (i-j)):=⟨p_sub⟩
theorem q_mul:QOp X (binaryOp .Mult) rMulU:=⟨p_mul⟩
theorem eB:QOp X (binaryOp .FloorDiv) (rI CDiv fun i j=>.int (i / j)):=⟨anE⟩
theorem q_mod:QOp X (binaryOp .Mod) (rI (fun _ j=>0<j) fun i j=>.int (i % j)):=⟨p_mod⟩
theorem q_eq(hu:X.A.units+64<cLine)(hK:X.K=K:=by rfl):QOp X (compareOp .Eq) (rEqU K):=by subst hK;exact ⟨p_eq hu⟩
theorem q_ne(hu:X.A.units+64<cLine)(hK:X.K=K:=by rfl):QOp X (compareOp .NotEq) (rNeU K):=by subst hK;exact ⟨p_ne hu⟩
theorem q_lt:QOp X (compareOp .Lt) rLtU:=⟨p_lt⟩
theorem q_le:QOp X (compareOp .LtE) rLeU:=⟨p_le⟩
theorem q_in(hu:X.A.units+64<cLine)(hK:X.K=K:=by rfl):QOp X (compareOp .In) (rInU K false):=by subst hK;exact ⟨p_in hu⟩
theorem wU(hu:X.A.units+64<cLine)(hK:X.K=K:=by rfl):QOp X (compareOp .NotIn) (rInU K true):=by subst hK;exact ⟨alV hu⟩
theorem q_neg:QUn X (unaryOp .USub) (rU fun i=>.int (-i)):=⟨ani⟩
theorem q_len(hK:X.K=K:=by rfl):QCall X (.builtin "len") (rLenU K):=by subst hK;exact ⟨p_len⟩
theorem q_ord:QCall X (.builtin "ord") rOrd:=⟨p_ord⟩
theorem z0(hK:X.K=K:=by rfl)(iS:X.calm=calm:=by rfl):QCall X (.type "list") (oR K calm):=by subst hK;subst iS;exact ⟨anH⟩
theorem R7:QMt X "list.append" kD:=⟨fun pins s O H x xs v us Q I rx rv h=>vS pins s O H x xs v us Q I rx rv h⟩
theorem oW:QMt X "list.extend" oF:=⟨fun pins s O H x xs v us Q I rx rv h=>aiv pins s O H x xs v us Q I rx rv h⟩
theorem wV:QIp X .Add (nM fun i j=>i+j):=⟨ana⟩
theorem an3:QIn X .Add rAdd:=⟨anm⟩
theorem an4:QIn X .Sub rSub:=⟨ann⟩
end
end L2
set_option maxRecDepth 100000
namespace L2
open PySem PySem.Spec PyProof.Rows
def ModD(P:Program)(w:World)(K:PySem.W.Frag)(a:Addr)(kvs:List (C5×V)):Prop:=(a==sysModules)=false/\∀ h:Heap,K.In h->∃ vs,KV kvs vs/\h.DictOf (N1 P w) a vs
abbrev ModE(w:World):List DictEntry->List (C5×V)->Prop:=Paired fun e kv=>keyIs kv.1 e.key=true/\e.hash=keyH w kv.1/\RelV kv.2 e.val
theorem ModE.pairs{P:Program}{w:World} : ∀ {es:List DictEntry} {kvs:List (C5×V)},ModE w es kvs->∃ vs:List (C5×Value),KV kvs vs/\Pairs (N1 P w) es vs/\(∀ e∈es,∃ k,(N1 P w).is k e.key=true/\e.hash=(N1 P w).hash k)/\vs.map (·.1)=kvs.map (·.1)
 | _,_,.nil=>⟨[],.nil,.nil,fun e h=>(nomatch h),rfl⟩
 | e::es,kv::kvs,.cons ⟨h1,h2,h3⟩ t=>by
  obtain ⟨vs,a1,a2,a3,a4⟩:=ModE.pairs (P:=P) t;refine ⟨(kv.1,e.val)::vs,.cons ⟨rfl,h3⟩ a1,.cons h1 rfl a2,fun e' he=>?_,by rw [G6,G6,a4]⟩
  rcases E8.mp he with z | z
  .rw [z];exact ⟨kv.1,h1,h2⟩
  .exact a3 e' z
theorem amr{P:Program}{w:World}{es:Array DictEntry}{ep:Nat}(l:K.lookup a=some { cls:=.type "dict",dict:=none,data:=.dict es ep,slots:=#[] })(hs:(a==sysModules)=false)(he:ModE w es.toList kvs)(hn:(kvs.map (·.1)).Nodup):ModD P w K a kvs:=by
 refine ⟨hs,fun h X=>?_⟩;obtain ⟨vs,a1,a2,a3,a4⟩:=he.pairs (P:=P);exact ⟨vs,a1,_,es,ep,X a _ l,⟨rfl,rfl,rfl⟩,rfl,fun e h=>a3 e (Array.mem_toList_iff.mpr h),a2,by rw [a4];exact hn⟩
def rInM(neg:Bool)(a:Addr)(kvs:List (C5×V)):R2:=fun x y H Q=>y=.ref a/\∃ k,x=kV k/\Q (.bl (neg.xor (valV kvs k).isSome)) H
def wW(a:Addr)(kvs:List (C5×V))(to ti:TE):TE:=fun O H Q=>to O H fun x H1=>ti O H1 fun y H2=>x=.ref a/\∃ k v,y=kV k/\valV kvs k=some v/\Q v H2
section
variable {X:Cx} {a:Addr} {kvs:List (C5×V)} {o i:Expr} {to ti:TE} {pos:Pos}
theorem q_inM(M:ModD X.prog X.w X.K a kvs):QOp X (compareOp .In) (rInM false a kvs):=⟨by
 intro pins s O H x y v u Q I rx ry h;obtain ⟨rfl,k,rfl,q⟩:=h;obtain rfl:u=Value.ref a:=ry;obtain ⟨hd,M⟩:=M;obtain ⟨vs,rel,dd⟩:=M s.heap I.kIn;refine wpAny_in_of (kV_is rx) hd dd.mapOf ?_;rw [<- (rel.val k).isSome_eq];exact ⟨.bl _,H,I.tok _,rfl,by simpa using q⟩⟩
theorem wX(M:ModD X.prog X.w X.K a kvs)(ho:QE X o to)(hi:QE X i ti)(hs:NoSl i:=by exact fun _ _=>rfl):QE X (.Subscript o i pos) (wW a kvs to ti):=⟨by
 intro pins s O H Q I h;refine vX PySem.F.slot_dict_getitem.lookup hs (C2 (ho.out pins s O H _ I h) fun u s1 ⟨x,H1,I1,rx,q1⟩=>C2 (hi.out pins s1 O H1 _ I1 q1) fun iv s2 ⟨y,H2,I2,ry,ex,k,v,ey,l,q2⟩=>?_);subst ex ey;obtain rfl:u=Value.ref a:=rx;obtain ⟨hd,M⟩:=M;obtain ⟨vs,rel,dd⟩:=M s2.heap I2.kIn;obtain ⟨w',hw,rw'⟩:=kB (v:=v) (o:=valueAt vs k) (by rw [<- l];exact rel.val k);exact ⟨dd.typeIs,wpAny_getItem_of (kV_is ry) dd.mapOf hw ⟨v,H2,I2.tok _,rw',q2⟩⟩⟩
end
theorem wY{k:C5} : (V.str z=kV k)=(k=Sum.inr z):=by
 cases k with
 | inl i=>exact propext ⟨fun h=>(by cases h),fun h=>(by cases h)⟩
 | inr x=>exact propext ⟨fun h=>(by cases h;rfl),fun h=>(by cases h;rfl)⟩
theorem an5 : rInM neg a kvs (.str z) (.ref b) H Q=(V.ref b=V.ref a/\Q (.bl (neg.xor (valV kvs (Sum.inr z)).isSome)) H):=by
 unfold rInM;simp only [wY,exists_eq_left]
theorem aki{to ti:TE} : wW a kvs to ti O H Q=to O H fun x H1=>ti O H1 fun y H2=>x=.ref a/\∃ k v,y=kV k/\valV kvs k=some v/\Q v H2:=rfl
def wZ(c:TT)(tb:TS)(D:Ends)(O:St)(H:Hp):Prop:=jZ c tb D O H
theorem akj : jZ c tb D O H=wZ c tb D O H:=rfl
theorem oX(Pv:Nat->St->Hp->Prop)(m:Nat)(h0:Pv m O H)(hs:∀ m O H,Pv m O H->c O H fun b H1=>if b=true then ∃ N:St->Hp->Prop,(∀ σ' H',N σ' H'->∃ m',m'<m/\Pv m' σ' H')/\tb { D with nx:=N,ct:=N,bk:=D.nx } O H1 else D.nx O H1):wZ c tb D O H:=⟨Pv,⟨m,h0⟩,hs⟩
def rTupR(K:PySem.W.Frag)(p:Addr)(H:Hp)(Q:VK):Prop:=∃ ys,(D4 K H p ys/\∀ l,H l=none->Q (.ref l) (A0 H l (.tup ys)))\/(C9 K H p ys/\Q (.ref p) H)
theorem rTupR.l(h1:D4 K H p ys)(h:∀ l,H l=none->Q (.ref l) (A0 H l (.tup ys))):rTupR K p H Q:=⟨ys,.inl ⟨h1,h⟩⟩
def rTupU(K:PySem.W.Frag):List V->Hp->VK->Prop
 | [.ref p],H,Q=>rTupR K p H Q
 | _,_,_=>False
theorem tup_r : rTupU K [.ref p] H Q=rTupR K p H Q:=rfl
theorem kW(hK:X.K=K:=by rfl):QCall X (.type "tuple") (rTupU K):=by
 subst hK;refine ⟨fun pins s O H xs us Q I r h=>?_⟩
 match xs,h with
 | [.ref p],⟨ys,h⟩=>exact aeO pins s O H _ us Q I r ⟨p,ys,rfl,h⟩
def rMin:List V->Hp->VK->Prop:=fun xs H Q=>∃ i j,xs=[.int i,.int j]/\Q (.int (if j<i then j else i)) H
def rMax:List V->Hp->VK->Prop:=fun xs H Q=>∃ i j,xs=[.int i,.int j]/\Q (.int (if j > i then j else i)) H
theorem an6{i j:Int} : rMin [.int i,.int j] H Q=Q (.int (if j<i then j else i)) H:=propext ⟨fun ⟨_,_,e,q⟩=>(by cases e;exact q),fun q=>⟨_,_,rfl,q⟩⟩
theorem an7{i j:Int} : rMax [.int i,.int j] H Q=Q (.int (if j > i then j else i)) H:=propext ⟨fun ⟨_,_,e,q⟩=>(by cases e;exact q),fun q=>⟨_,_,rfl,q⟩⟩
def rCalm(calm:Bool)(r:List V->Hp->VK->Prop):List V->Hp->VK->Prop:=fun xs H Q=>calm=true/\r xs H Q
theorem ams{r:List V->Hp->VK->Prop} : rCalm true r xs H Q=r xs H Q:=propext ⟨fun h=>h.2,fun h=>⟨rfl,h⟩⟩
end L2
set_option maxRecDepth 100000
namespace L2
open PySem PySem.Spec PyProof.Rows
open PySem.Builtin PySem.Builtin.Str PySem.StrLaws
def tSeqM(t u:TS):TS:=fun D O H=>∃ M:St->Hp->Prop,t { D with nx:=M } O H/\∀ σ' H',M σ' H'->u D σ' H'
theorem xA{rest:List Stmt}{t u:TS}(h1:QS X st t)(h2:QSs X rest u):QSs X (st::rest) (tSeqM t u):=⟨by
 intro pins s O H D I h;obtain ⟨M,h,hm⟩:=h;refine wpAny_execs_cons (C2 (h1.out pins s O H { D with nx:=M } I h) fun f s1 q=>?_)
 cases f with
 | next=>
  obtain ⟨σ',H',I',q⟩:=q;exact h2.out pins s1 σ' H' D I' (hm _ _ q)
 | ret v=>exact q
 | brk=>exact q
 | cont=>exact q⟩
theorem xB{t u:TS}(M:St->Hp->Prop)(h:t { D with nx:=M } O H)(h2:∀ σ' H',M σ' H'->u D σ' H'):tSeqM t u D O H:=⟨M,h,h2⟩
theorem oY(h:H p=some (.lst xs)):TruV K (.ref p) H (!xs.isEmpty):=.inl ⟨xs,.of h,rfl⟩
theorem m3(xs:List V)(k:Nat):cutV xs (some (k:Int)) none=xs.drop k:=by
 unfold cutV;have e1:HT.sIx xs.length 0 (some (k:Int))=min k xs.length:=by unfold HT.sIx;simp;lia
 have e2:HT.sIx xs.length xs.length none=xs.length:=rfl;rw [e1,e2,j9 (by rw [k5];exact C3 _)]
 by_cases h:k<=xs.length
 .rw [dI h]
 .rw [Nat.min_eq_right (by lia),jS (C3 _),jS (by lia)]
theorem oZ(xs:List V)(k:Nat):cutV xs none (some (k:Int))=xs.take k:=by
 unfold cutV;have e1:HT.sIx xs.length xs.length (some (k:Int))=min k xs.length:=by unfold HT.sIx;simp;lia
 have e2:HT.sIx xs.length 0 none=0:=rfl;rw [e1,e2,List.drop_zero,Nat.sub_zero]
 by_cases h:k<=xs.length
 .rw [dI h]
 .rw [Nat.min_eq_right (by lia),j9 (C3 _),j9 (by lia)]
theorem xC(x:V)(xs:List V):cutV (x::xs) (some 1) none=xs:=m3 (x::xs) 1
theorem Q3{α:Type}(x:α)(xs:List α):F7 (x::xs) 0=some x:=by
 have e:W1 (x::xs).length 0=some 0:=by unfold W1;rw [if_pos (x8 0),if_pos (by rw [G5];lia)];rfl
 unfold F7;rw [e];rfl
theorem akk{o f:Expr}(hu:X.A.units+1<cLine)(ho:QE X o td)(he:QE X e ty)(hf:QE X f tx)(h1:K2 e=false:=by rfl)(h2:K2 f=false:=by rfl)(J8:attributeBase o "get" X.env (eval o X.env)=eval o X.env:=by rfl)(J9:(apos.endLine==cpos.line)=true:=by rfl):QE X (.Call (.Attribute o "get" apos) [e,f] [] cpos) (oO td ty tx):=
 ⟨ajX hu ho.out he.out hf.out ⟨J8,by rw [N2 h1,N2 h2];rfl,J9,by rw [N2 h1,N2 h2];rfl⟩⟩
theorem amt{trs:List (TE×TE)} : tDisp trs O H Q=∀ p,H p=none->dU trs O (A0 H p (.dK [])) fun ps H2=>H2 p=some (.dK [])/\∃ kvs:List (C5×V),ps=kvs.map (fun kv=>(kV kv.1,kv.2))/\kvs.length<=15/\Q (.ref p) (A0 H2 p (.dK (U5 [] kvs))):=rfl
theorem amu{Q:List (V×V)->Hp->Prop} : dU [] O H Q=Q [] H:=rfl
theorem akl{tk tv:TE}{r:List (TE×TE)}{Q:List (V×V)->Hp->Prop} : dU ((tk,tv)::r) O H Q=tk O H fun x H1=>tv O H1 fun y H2=>dU r O H2 fun ps H3=>Q ((x,y)::ps) H3:=rfl
theorem akm : oO td ty tx O H Q=td O H fun x H1=>∃ a,x=.ref a/\bP H1 a/\ty O H1 fun y H2=>tx O H2 fun z H3=>∃ o,DGet H3 a y o/\Q (o.getD z) H3:=rfl
end L2
set_option maxRecDepth 100000
namespace L2
open PySem PySem.Spec PyProof.Rows
theorem xD:entryFor table "dict.update.loop"=some Builtin.«dict.update.loop»:=entryFor_of_tree (by kernel_rfl)
theorem kX:plainId "dict.update.loop"=true:=by decide +kernel
section
variable {prog:Program} {w:World} {A:Around} {R:Result->Shared->Prop} {I:Addr} {fp wr:List Addr} {G:Array GenState->Array GenState->Prop} {n:Nat} {P:Nat->Value->Prop} {St:Nat->Shared->Prop}
variable {K:Type} [DecidableEq K] {knd:KeyKind prog w K}
def g7(ks:Nat->K)(vl:Nat->Value):Nat->List (K×Value)
 | 0=>[]
 | i+1=>stored (g7 ks vl i) (ks i) (vl i)
theorem xE(ks:Nat->K)(vl:Nat->Value):∀ i,(g7 ks vl i).length<=i
 | 0=>C3 _
 | i+1=>by
  have h1:=xE ks vl i;have h2:(stored (g7 ks vl i) (ks i) (vl i)).length<=(g7 ks vl i).length+1:=by
   unfold stored
   split
   .rw [A8];lia
   .rw [C8];exact C3 _
  show (stored (g7 ks vl i) (ks i) (vl i)).length<=i+1;lia
theorem aiQ(W:WalksS prog w A.in1 I fp wr G n P St)(d:Addr)(o4:d∉fp)(tp:Nat->Addr)(ky vl:Nat->Value)(ks:Nat->K)(hP:∀ i v,P i v->v=.ref (tp i))(hk:∀ i,i<n->knd.is (ks i) (ky i)=true)(ht:∀ i,i<n->tp i≠d/\tp i∉wr)(hn:n<=sizeLine) :
  ∀ (k i:Nat) (s:Shared) (j:Int) (t:Tok),n-i=k->i<=n->St i s->(∀ i,i<n->IsTup s.heap (tp i) #[ky i,vl i])->s.heap.DictOf knd d (g7 ks vl i)->
   (∀ s',Moved (d::wr) G s s'->s'.heap.DictOf knd d (g7 ks vl n)->R (.ok (.ret .none)) s')->
   codeAny (model prog w) A (.builtin "dict.update.loop" ⟨[.ref d,.ref I,.int j t,.none],[]⟩) R s:=by
 have hdw:d∉wr:=fun h=>o4 (W.sub _ h)
 have iT:∀ b∈wr,b∈d::wr:=fun b hb=>M6 _ hb
 intro k
 induction k with
 | zero=>
  intro i s j t sG hi W4 hT hD hR;have L4:i=n:=by lia
  subst L4;refine codeAny_builtin xD ?_;rw [Around.under_plainId kX _];show wpAny _ A.in1 (pyNext (.ref I) >>= _) _ _ s;refine wpAny_bind (W.done s _ _ W4 fun s' hm=>?_);have e0:Builtin.Dict.addKeywords d []=pure ():=rfl;show wpAny _ A.in1 (Builtin.Dict.addKeywords d [] >>= fun _=>ret Value.none) _ _ s';rw [e0];refine wpAny_bind (wpAny_pure (wpAny_pure (hR s' (hm.mono iT) ?_)));obtain ⟨o,es,ep,ho,rest⟩:=hD;exact ⟨o,es,ep,hm.heap d _ hdw ho,rest⟩
 | succ k ih=>
  intro i s j t sG hi W4 hT hD hR;have D3:i<n:=by lia
  refine codeAny_builtin xD ?_;rw [Around.under_plainId kX _];show wpAny _ A.in1 (pyNext (.ref I) >>= _) _ _ s;refine wpAny_bind (W.item i s _ _ D3 W4 fun v s' hv sH hm=>?_);obtain rfl:=hP i v hv;have hD':s'.heap.DictOf knd d (g7 ks vl i):=by
   obtain ⟨o,es,ep,ho,rest⟩:=hD;exact ⟨o,es,ep,hm.heap d _ hdw ho,rest⟩
  have hT':∀ i,i<n->IsTup s'.heap (tp i) #[ky i,vl i]:=fun i hi=>by
   obtain ⟨o,ho,rest⟩:=hT i hi;exact ⟨o,hm.heap _ _ (ht i hi).2 ho,rest⟩
  have hTi:=hT' i D3;obtain ⟨o,ho,rT,n0,mH⟩:=id hTi;refine wpAny_bind (wpAny_holding (wpAny_bind (wpAny_tryCatch ?_)));unfold Builtin.Dict.pairItems;refine wpAny_bind (wpAny_typeOf hTi.typeIs ?_);rw [if_pos (by decide)];refine wpAny_bind (wpAny_seqItems ho mH ?_);refine wpAny_pure ?_;show wpAny _ _ (holding [ky i,vl i] (dictSet d (ky i) (vl i))) _ _ s';have hl:=xE ks vl i;refine wpAny_holding (wpAny_dictSet_pairs (hk i D3) hD' (fun h' hD2 sI=>?_) (by lia));refine wpAny_pure ⟨plainId_quiet kX _,ih (i+1) _ (j+1) 0 (by lia) D3 (W.frame _ s' _ _ sH (Nat.le_succ _) fun b hb o e=>?_) (fun i hi=>?_) hD2 fun s'' hm'' hD''=>?_⟩
  .rw [sI.2 b (fun h:b=d=>o4 (by rw [<- h];exact hb))];exact e
  .obtain ⟨o,ho,rest⟩:=hT' i hi;exact ⟨o,(sI.2 _ (ht i hi).1).trans ho,rest⟩
  .refine hR s'' (Moved.trans W.gtrans ((hm.mono iT).then_heap (Nat.le_succ _) fun b o hb e=>?_) hm'') hD'';rw [sI.2 b (fun h:b=d=>hb (by rw [h];exact K1))];exact e
end
theorem ahF:typeLookup (.type "list") "__getattribute__"=pure (some (.builtin "list.__getattribute__")):=by rw [typeLookup_type,builtinLookup_eq_fast];kernel_rfl
theorem afD:typeLookup (.type "list") "keys"=pure none:=by rw [typeLookup_type,builtinLookup_eq_fast];kernel_rfl
theorem afE:typeLookup (.type "list") "__getattr__"=pure none:=by rw [typeLookup_type,builtinLookup_eq_fast];kernel_rfl
theorem afF{w:World}{A:Around}{l:Addr}{xs:Array Value}{Q:Option Value->Shared->Prop}(hx:s.heap.get? l=some o)(hc:o.cls=.type "list")(iU:o.data=.seq xs k)(hd:o.dict=none)(hA:A.handled=none)(h:∀ h' tk,(∀ b o,s.heap.get? b=some o->h'.get? b=some o)->Q none { s with heap:=h',toks:=tk }):wpAny (model prog w) A (getAttr? (.ref l) "keys") Q E s:=by
 obtain ⟨c,dct,dat,sl⟩:=o;simp only at hc iU hd;subst hc iU hd;obtain ⟨hp,g,d,tk,os⟩:=s;have hT:∀ tk',(⟨hp,g,d,tk',os⟩:Shared).TypeIs (.ref l) "list":=fun _=>⟨_,hx,rfl⟩
 have f4:=F.slot_list_getattribute.bind (.ref l);unfold getAttr? getAttrBy? getAttrBy;refine wpAny_bind (wpAny_mkText (wpAny_bind (wpAny_attempt (wpAny_holding (wpAny_bind (wpAny_typeOf (hT _) ?_))))));rw [ahF];refine wpAny_bind (wpAny_pure ?_);show wpAny _ _ (getAttrByItsOwn _ _ _ _ _ _) _ _ _;unfold getAttrByItsOwn;refine wpAny_bind (wpAny_pure ?_);refine wpAny_bind (wpAny_attempt (wpAny_holding ?_));show wpAny _ _ (boundAndCalled _ _ _) _ _ _;unfold boundAndCalled;rw [f4];refine wpAny_bind (wpAny_pure ?_);refine call_meets F.slot_list_getattribute (hT _) am_entry_list_getattribute (F.args_list_getattribute_2 _ _) (meets_getattribute_miss_list l xs k sl "keys" _ afD (by decide +kernel) (by decide +kernel)) ⟨hx,hA,fun h' tk' e new=>?_⟩;obtain ⟨t',u',he⟩:=new.there;have hTe:∀ tk',(⟨h',g,d,tk',os⟩:Shared).TypeIs (.ref e) "AttributeError":=fun _=>⟨_,he,rfl⟩
 show wpAny _ _ (getattributeRaised _ _ _ _ _ _ _) _ _ _;unfold getattributeRaised;refine wpAny_bind (wpAny_isInstance (hTe _) sub_AttributeError ?_);rw [if_pos rfl];show wpAny _ _ (hookBehind _ _ >>= _) _ _ _;unfold hookBehind;rw [if_neg (by decide),afE];refine wpAny_bind (wpAny_pure ?_);unfold hookOrError attributeErrorLeaves;show wpAny _ _ (if (!false)=true then _ else _) _ _ _;rw [if_pos (by decide)];refine wpAny_bind (wpAny_throw ?_);show wpAny _ _ (isInstance _ _ >>= _) _ _ _;refine wpAny_bind (wpAny_isInstance (hTe _) sub_AttributeError ?_);rw [if_pos rfl];exact wpAny_pure (h h' tk' new.keeps)
section
variable {prog:Program} {w:World} {A:Around} {E:Value->Shared->Prop} {s:Shared} {K:Type} [DecidableEq K] {knd:KeyKind prog w K}
theorem adS{l:Addr}{Q:Value->Shared->Prop}(hl:PlainL s.heap l items)(hA:A.handled=none)(tp:Nat->Addr)(ky vl:Nat->Value)(ks:Nat->K)(hP:∀ (i:Nat) (v:Value),items[i]?=some v->v=Value.ref (tp i))(hk:∀ i,i<items.size->knd.is (ks i) (ky i)=true)(hT:∀ i,i<items.size->IsTup s.heap (tp i) #[ky i,vl i])(hn:items.size<=sizeLine)(h:∀ h' tk,(∀ b o,s.heap.get? b=some o->h'.get? b=some o)->h'.DictOf knd s.heap.objs.size (g7 ks vl items.size)->Q (.ref s.heap.objs.size) { s with heap:=h',toks:=tk }) :
  wpAny (model prog w) A (call (.type "dict") [.ref l]) Q E s:=by
 refine callType_codes (Q₁:=fun obj zu=>obj=.ref s.heap.objs.size/\zu={ s with heap:=s.heap.push { cls:=.type "dict",data:=.dict #[] } }) F.kt_called_dict (F.kt_typeCall_dict_1 _) F.entry_dict_init (kt_code_dict_new _ ⟨rfl,rfl⟩) ?_;rintro obj zu ⟨rfl,rfl⟩;have P8:(s.heap.push { cls:=.type "dict",data:=.dict #[] }).DictOf knd s.heap.objs.size []:=Heap.DictOf.new s.heap;obtain ⟨ol,nl,hol,sJ,hld,aT⟩:=hl;have cK:(s.heap.push { cls:=.type "dict",data:=.dict #[] }).get? l=some ol:=Heap.get?_push_of_some _ hol;have D3:l<s.heap.objs.size:=Heap.lt_size hol;refine ⟨P8.typeIs,F.args_dict_init_2 _ _,?_⟩;unfold Builtin.«dict.__init__»;refine wpAny_bind ?_;unfold Builtin.Dict.selfAndRest;refine wpAny_bind (wpAny_notOrdered_dict P8.typeIs ?_);show wpAny _ _ (pure (s.heap.objs.size,[Value.ref l])) _ _ _;refine wpAny_pure ?_;show wpAny _ _ (Builtin.Dict.updateFrom "dict.__init__" s.heap.objs.size (.ref l) [] .none) _ _ _;unfold Builtin.Dict.updateFrom;refine wpAny_bind (wpAny_typeOf (T:="list") ⟨_,cK,sJ⟩ ?_);rw [if_pos (by decide)];refine wpAny_bind (afF cK sJ aT hld (by simp [hA]) fun h2 tk2 keep2=>?_);rw [if_pos (show (none:Option Value).isNone=true from rfl)];refine wpAny_bind (wpAny_rule ?_);have t9:h2.IsList l items:=⟨ol,keep2 _ _ cK,sJ,nl,aT⟩
 refine wpAny_bind (wpAny_pyIter_list t9 ?_);obtain ⟨od,es,ep,mH,restd⟩:=P8;have u5:s.heap.objs.size<h2.objs.size:=Heap.lt_size (keep2 _ _ mH);have L1:l≠h2.objs.size:=K8 (Nat.lt_trans D3 u5);have hh:A.in1.in1.handled=none:=by simp [hA]
 have o4:s.heap.objs.size∉[h2.objs.size,l]:=by
  simp only [E8,List.not_mem_nil,or_false,not_or];exact ⟨K8 u5,Nat.ne_of_gt D3⟩
 have sK:∀ i,i<items.size->tp i<s.heap.objs.size:=fun i hi=>by
  obtain ⟨o,ho,_⟩:=hT i hi;exact Heap.lt_size ho
 refine wpAny_pure ⟨plainId_quiet kX _,aiQ ((Walks.list hh _ l L1 items).toS) s.heap.objs.size o4 tp ky vl ks hP hk (fun i hi=>⟨K8 (sK i hi),?_⟩) hn (items.size-0) 0 _ 0 0 (by lia) (G3 _) ⟨⟨_,Heap.get?_push_size _ rfl,rfl,rfl⟩,t9.push _⟩ (fun i hi=>?_) ?_ fun s' hm hD'=>?_⟩
 .simp only [E8,List.not_mem_nil,or_false];exact K8 (Nat.lt_trans (sK i hi) u5)
 .obtain ⟨o,ho,rest⟩:=hT i hi;exact ⟨o,Heap.get?_push_of_some _ (keep2 _ _ (Heap.get?_push_of_some _ ho)),rest⟩
 .exact ⟨od,es,ep,Heap.get?_push_of_some _ (keep2 _ _ mH),restd⟩
 .obtain ⟨h',g',d',tk',os'⟩:=s';have eg:g'=s.gens:=hm.gens;have ed:d'=s.drawn:=hm.drawn;have eo:os'=s.os:=hm.os;subst eg ed eo;refine ⟨rfl,h h' tk' (fun b o hb=>hm.heap b o ?_ (Heap.get?_push_of_some _ (keep2 _ _ (Heap.get?_push_of_some _ hb)))) hD'⟩;have iV:b<s.heap.objs.size:=Heap.lt_size hb;simp only [E8,List.not_mem_nil,or_false,not_or];exact ⟨K8 iV,K8 (Nat.lt_trans iV u5)⟩
end
def an8(K:PySem.W.Frag)(calm:Bool):List V->Hp->VK->Prop:=fun xs H Q=>calm=true/\∃ (p:Addr) (ts:List Addr) (kxs:List (C5×V)),xs=[.ref p]/\D4 K H p (ts.map V.ref)/\Paired (fun t kx=>C9 K H t [kV kx.1,kx.2]) ts kxs/\∀ d,H d=none->Q (.ref d) (A0 H d (.dK (U5 [] kxs)))
theorem xF(I:Inv X pins O H s):∀ {ts:List Addr} {kxs:List (C5×V)},Paired (fun t kx=>C9 X.K H t [kV kx.1,kx.2]) ts kxs->
  ∃ ws:List (Value×Value),Paired (fun t w=>IsTup s.heap t #[w.1,w.2]) ts ws/\Paired (fun (kx:C5×V) (w:Value×Value)=>keyIs kx.1 w.1=true/\RelV kx.2 w.2) kxs ws
 | _,_,.nil=>⟨[],.nil,.nil⟩
 | _,_,.cons h t=>by
  obtain ⟨ws,h1,h2⟩:=xF I t;obtain ⟨its,r,ht,_⟩:=I.tuple h;obtain ⟨u1,u2,rfl,r1,r2⟩:=vals2 r;exact ⟨(u1,u2)::ws,.cons ht h1,.cons ⟨kV_is (P:=X.prog) (w:=X.w) r1,r2⟩ h2⟩
theorem xG:∀ {ts:List Addr} {us:List Value},Vals (ts.map V.ref) us->us=ts.map Value.ref
 | [],_,.nil=>rfl
 | t::ts,_::_,.cons h r=>by
  rw [G6,<- xG r];cases h;rfl
theorem xH(hK:X.K=K:=by rfl)(hc:X.calm=calm:=by rfl):QCall X (.type "dict") (an8 K calm):=⟨by
 subst hK;intro pins s O H xs us Q I r h;obtain ⟨iS,p,ts,kxs,rfl,hp,hP,q⟩:=h;obtain ⟨u,rfl,rx⟩:=vals1 r
 cases rx
 obtain ⟨its,r',pl,hz⟩:=I.list hp;have iW:=xG r';obtain ⟨ws,h1,h2⟩:=xF I hP;have cL:ts.length=ws.length:=Paired.length h1;have t9:kxs.length=ws.length:=Paired.length h2;rw [A8] at hz;have hsz:its.toArray.size=ts.length:=by rw [G4,iW,A8]
 have sL:∀ i,i<=ts.length->KV (U5 [] (kxs.take i)) (g7 (fun i=>(kxs.getD i (Sum.inl 0,.non)).1) (fun i=>(ws.getD i (.none,.none)).2) i):=by
  intro i
  induction i with
  | zero=>intro _;exact .nil
  | succ i ih=>
   intro hi;have sM:i<kxs.length:=by lia
   obtain ⟨w',hw,hr⟩:=Paired.at h2 (M5 sM);have e1:U5 [] (kxs.take (i+1))=putK (U5 [] (kxs.take i)) kxs[i].1 kxs[i].2:=by
    unfold U5;rw [b9,M5 sM,Option.toList_some,Y6];rfl
   rw [e1];show KV _ (stored _ (kxs.getD i (Sum.inl 0,.non)).1 (ws.getD i (.none,.none)).2);have e2:(kxs.getD i (Sum.inl 0,.non))=kxs[i]:=by rw [w6,M5 sM];rfl
   have e3:(ws.getD i (.none,.none))=w':=by rw [w6,hw];rfl
   rw [e2,e3];exact (ih (by lia)).put _ hr.2
 refine adS (knd:=N1 X.prog X.w) pl (I.ok.hd (hc.trans iS)) (fun i=>ts.getD i 0) (fun i=>(ws.getD i (.none,.none)).1) (fun i=>(ws.getD i (.none,.none)).2) (fun i=>(kxs.getD i (Sum.inl 0,.non)).1) (fun i v hv=>?_) (fun i hi=>?_) (fun i hi=>?_) (by lia) fun h' tk keep hD=>?_
 .rw [<- Array.getElem?_toList,iW,U9] at hv;rw [w6];cases e:ts[i]? with
  | none=>rw [e] at hv;cases hv
  | some t=>rw [e] at hv;cases hv;rfl
 .obtain ⟨w',hw,hr⟩:=Paired.at h2 (M5 (show i<kxs.length by lia));have e2:(kxs.getD i (Sum.inl 0,.non))=kxs[i]'(by lia):=by rw [w6,M5 (show i<kxs.length by lia)];rfl
  have e3:(ws.getD i (.none,.none))=w':=by rw [w6,hw];rfl
  rw [e2,e3];exact hr.1
 .have hi':i<ts.length:=by lia
  obtain ⟨w',hw,hr⟩:=Paired.at h1 (M5 hi');have e3:(ws.getD i (.none,.none))=w':=by rw [w6,hw];rfl
  have e4:ts.getD i 0=ts[i]:=by rw [w6,M5 hi'];rfl
  rw [e3,e4];exact hr
 .have hD2:KV (U5 [] kxs) (g7 (fun i=>(kxs.getD i (Sum.inl 0,.non)).1) (fun i=>(ws.getD i (.none,.none)).2) its.toArray.size):=by
   have:=sL ts.length (C3 _)
   rw [j9 (by lia)] at this;rw [hsz];exact this
  have B3:=vY kxs [];rw [V9] at B3;exact ⟨.ref s.heap.objs.size,_,I.laid (t':=tk) keep (C3 _) (oJ (by lia) (beq_eq_false_iff_ne.mpr (Ne.symm (K8 I.big))) hD2 hD),rfl,q _ (I.hok.fresh (C3 _))⟩⟩
end L2
set_option maxRecDepth 100000
namespace L2
open PySem PySem.Spec PyProof.Rows
section
variable {X:Cx} {pins:List (Addr×Obj)} {O:St} {H:Hp} {s:Shared} {h':Heap}
theorem Inv.turnNew{ch:List Addr}{T:Addr}{o:HO}(I:Inv X pins O H s)(hf:∀ b∈ch,FpOk X pins H b)(k:∀ b u,b∉ch->s.heap.get? b=some u->h'.get? b=some u)(hT:s.heap.objs.size<=T)(new:ObjOk X.prog X.w (A0 H T o) h' T o):Inv X pins O (A0 H T o) { s with heap:=h',toks:=t' }:=by
 have hn:H T=none:=I.hok.fresh hT;have nch:∀ b u,H b=some u->b∉ch:=fun b u e z=>by rw [(hf b z).1] at e;cases e
 have neT:∀ b u,s.heap.get? b=some u->b≠T:=fun b u e=>K8 (U4 (Heap.lt_size e) hT)
 refine I.step (g':=s.gens) (d':=s.drawn) (ch:=ch) (fun b hb=>?_) (fun b u _ _ hc e _=>k b u hc e) (fun b u _ _ hc e _=>⟨u.slots,k b u hc e⟩) (fun b u _ e n=>by rw [A9 (neT b u e)];exact n)
  (fun b u hc e=>⟨u,k b u hc e⟩) (fun b xs e=>D0 e hn) (fun b ob u e=>D0 e hn) (fun b ps e=>⟨#[],by rw [D0 e hn];simp⟩) (fun m hm=>?_) (fun b u e=>?_) I.bare
 .obtain ⟨f0,f1,f2,f3,f4,f5⟩:=hf b hb;exact ⟨f3,f1,f4,f5⟩
 .obtain ⟨ob,es,ep,ho,r⟩:=hm;exact ⟨ob,es,ep,k _ ob (fun z=>(hf _ z).2.1 rfl) ho,r⟩
 .by_cases hb:b=T
  .subst hb;rw [A6] at e;cases e;exact new
  .rw [A9 hb] at e;refine (I.hok b u e).stay (fun c v hc q=>k c v ?_ q) (fun c q=>D0 q hn) fun c xs q=>D0 q hn
   rcases hc with z | z
   .rw [z];exact nch b u e
   .exact nch c _ z
end
theorem Z4{a b:Nat}(h:a<b\/b<a):(show Addr from a)≠(show Addr from b):=fun e=>by
 have e:a=b:=e;lia
def kY(l1 l2 : Addr) : It :=
  ⟨fun i H => ∃ xs ys x y, H l1 = some (.lst xs) /\ H l2 = some (.lst ys) /\ xs[i]? = some x /\ ys[i]? = some y,
   fun i H v H' => ∃ t xs ys x y, H l1 = some (.lst xs) /\ H l2 = some (.lst ys) /\ xs[i]? = some x /\ ys[i]? = some y /\ H t = none /\ v = .ref t /\ H' = A0 H t (.tup [x, y]),
   fun i H => ∃ xs ys, H l1 = some (.lst xs) /\ H l2 = some (.lst ys) /\ (xs.length <= i \/ ys.length <= i)⟩
theorem akn{P:Program}{w:World}{pos:Pos}(z TI TO i1 i2 l1 l2:Addr)(a1:TI≠z)(a2:TO≠z)(a3:i1≠z)(a4:i2≠z)(a5:TI≠TO)(a6:TI≠i1)(a7:TI≠i2)(a8:TO≠i1)(a9:TO≠i2)(a10:i1≠i2) :
  Turn P w K (.Tuple elts x1 pos) (kY l1 l2) [z,TO,i1,i2,TI] z (fun i h=>IsZip h z TI TO .none/\IsPair h TI (.ref i1) (.ref i2)/\(∃ a b,IsPair h TO a b)/\h.IsListIter i1 l1 i/\h.IsListIter i2 l2 i) where
 mem:=by simp
 obj:=fun i h ⟨hz,hTI,⟨a,b,hTO⟩,h1,h2⟩ c hc=>by
  have e:c=z\/c=TO\/c=i1\/c=i2\/c=TI:=by simpa using hc
  rcases e with rfl | rfl | rfl | rfl | rfl
  .exact ⟨_,hz,fun v q=>by cases q⟩
  .exact ⟨_,hTO,fun v q=>by cases q⟩
  .obtain ⟨o,e,c,d⟩:=h1;exact ⟨o,e,fun v z=>by rw [d] at z;cases z⟩
  .obtain ⟨o,e,c,d⟩:=h2;exact ⟨o,e,fun v z=>by rw [d] at z;cases z⟩
  .exact ⟨_,hTI,fun v q=>by cases q⟩
 keep:=fun i h h' ⟨hz,hTI,⟨a,b,hTO⟩,h1,h2⟩ k=>⟨k z (by simp) _ hz,k TI (by simp) _ hTI,⟨a,b,k TO (by simp) _ hTO⟩,h1.at fun o e=>k i1 (by simp) o e,h2.at fun o e=>k i2 (by simp) o e⟩
 item:=by
  intro X hP hw hK hc i pins s O H E I hf ⟨hz,hTI,⟨a,b,hTO⟩,h1,h2⟩ hg;subst hP hw hK;obtain ⟨xs,ys,x,y,e1,e2,hx,hy⟩:=hg;obtain ⟨its1,T6,p1,_⟩:=I.list (D4.of (K:=X.K) e1);obtain ⟨its2,mI,p2,_⟩:=I.list (D4.of (K:=X.K) e2);obtain ⟨u1,C7,r1⟩:=T6.get hx;obtain ⟨u2,u7,r2⟩:=mI.get hy;have nl:∀ c∈[z,TO,i1,i2,TI],l1≠c/\l2≠c:=fun c hc=>⟨fun q=>(by rw [q,(hf c hc).1] at e1;cases e1),fun q=>(by rw [q,(hf c hc).1] at e2;cases e2)⟩
  have D:ZipApart z TI TO i1 i2 l1 l2:=⟨a1,a2,a3,a4,a5,a6,a7,a8,a9,a10,(nl z (by simp)).1,(nl TO (by simp)).1,(nl i1 (by simp)).1,(nl i2 (by simp)).1,(nl z (by simp)).2,(nl TO (by simp)).2,(nl i1 (by simp)).2,(nl i2 (by simp)).2⟩
  refine wpAny_pyNext_zip_item D hz hTI hTO h1 h2 p1.isList p2.isList (x:=u1) (y:=u2) (by simpa using C7) (by simpa using u7) fun h' b1 b2 b3 b4 b5 b6 b7=>⟨_,rfl,wpAny_letOwnedTupleGo_zip b1 fun h2' c1 c2=>?_⟩
  have T7:z<s.heap.objs.size:=Heap.lt_size hz;have up:∀ c o,c≠z->h'.get? c=some o->h2'.get? c=some o:=fun c o hc e=>(c2.2 c hc).trans e
  have nT:∀ c∈[z,TO,i1,i2,TI],c≠s.heap.objs.size:=fun c hc=>by
   have e:c=z\/c=TO\/c=i1\/c=i2\/c=TI:=by simpa using hc
   refine K8 ?_
   rcases e with rfl | rfl | rfl | rfl | rfl
   .exact Heap.lt_size hz
   .exact Heap.lt_size hTO
   .obtain ⟨o,e,_⟩:=h1;exact Heap.lt_size e
   .obtain ⟨o,e,_⟩:=h2;exact Heap.lt_size e
   .exact Heap.lt_size hTI
  have hT:=up _ _ (Nat.ne_of_gt T7) b5;refine ⟨.ref s.heap.objs.size,A0 H s.heap.objs.size (.tup [x,y]),I.turnNew (t':=s.toks) (ch:=[z,TO,i1,i2,TI]) hf (fun c u hc e=>?_) (C3 _) ⟨by show 2<=sizeLine;decide,[u1,u2],.cons r1 (.cons r2 .nil),?_⟩,rfl,⟨_,xs,ys,x,y,e1,e2,hx,hy,I.fresh,rfl,rfl⟩,
   ⟨c1,up _ _ a1 (b7 _ _ a1 a5 a6 a7 hTI),⟨_,_,up _ _ a2 b2⟩,b3.at fun o e=>up _ o a3 e,b4.at fun o e=>up _ o a4 e⟩,fun c hc=>by rw [A9 (nT c hc)];exact (hf c hc).1⟩
  .have q:c≠z/\c≠TO/\c≠i1/\c≠i2:=by
    refine ⟨fun q=>hc (by simp [q]),fun q=>hc (by simp [q]),fun q=>hc (by simp [q]),fun q=>hc (by simp [q])⟩
   exact up c u q.1 (b7 c u q.1 q.2.1 q.2.2.1 q.2.2.2 e)
  .exact ⟨_,hT,rfl,_,rfl⟩
 done:=by
  intro X hP hw hK hc i pins s O H E I hf ⟨hz,hTI,⟨a,b,hTO⟩,h1,h2⟩ hg;subst hP hw hK;obtain ⟨xs,ys,e1,e2,cM⟩:=hg;obtain ⟨its1,T6,p1,_⟩:=I.list (D4.of (K:=X.K) e1);obtain ⟨its2,mI,p2,_⟩:=I.list (D4.of (K:=X.K) e2);have q1:=T6.length;have q2:=mI.length;have nl:∀ c∈[z,TO,i1,i2,TI],l1≠c/\l2≠c:=fun c hc=>⟨fun q=>(by rw [q,(hf c hc).1] at e1;cases e1),fun q=>(by rw [q,(hf c hc).1] at e2;cases e2)⟩
  have D:ZipApart z TI TO i1 i2 l1 l2:=⟨a1,a2,a3,a4,a5,a6,a7,a8,a9,a10,(nl z (by simp)).1,(nl TO (by simp)).1,(nl i1 (by simp)).1,(nl i2 (by simp)).1,(nl z (by simp)).2,(nl TO (by simp)).2,(nl i1 (by simp)).2,(nl i2 (by simp)).2⟩
  refine wpAny_pyNext_zip_end (I.ok.hd hc) D hz hTI hTO h1 h2 p1.isList p2.isList (by rcases cM with q | q <;> simp <;> lia) fun h' k=>⟨rfl,?_⟩
  refine I.step (h':=h') (t':=s.toks) (g':=s.gens) (d':=s.drawn) (ch:=[z,TO,i1,i2,TI]) (fun b hb=>?_) (fun b u _ _ hc e _=>?_) (fun b u _ _ hc e _=>⟨u.slots,?_⟩) (fun b u _ e n=>n)
   (fun b u hc e=>⟨u,?_⟩) (fun b xs e=>e) (fun b ob u e=>e) (fun b ps e=>⟨#[],by rw [e];simp⟩) (fun m hm=>?_) (fun b u e=>?_) I.bare
  .obtain ⟨f0,f1,f2,f3,f4,f5⟩:=hf b hb;exact ⟨f3,f1,f4,f5⟩
  .exact k b u (fun q=>hc (by simp [q])) (fun q=>hc (by simp [q])) (fun q=>hc (by simp [q])) (fun q=>hc (by simp [q])) e
  .exact k b u (fun q=>hc (by simp [q])) (fun q=>hc (by simp [q])) (fun q=>hc (by simp [q])) (fun q=>hc (by simp [q])) e
  .exact k b u (fun q=>hc (by simp [q])) (fun q=>hc (by simp [q])) (fun q=>hc (by simp [q])) (fun q=>hc (by simp [q])) e
  .obtain ⟨ob,es,ep,ho,r⟩:=hm;have nL:∀ c∈[z,TO,i1,i2,TI],X.env.locals≠c:=fun c hc q=>(hf c hc).2.1 q.symm
   exact ⟨ob,es,ep,k _ ob (nL z (by simp)) (nL TO (by simp)) (nL i1 (by simp)) (nL i2 (by simp)) ho,r⟩
  .have nch:∀ b u,H b=some u->∀ c∈[z,TO,i1,i2,TI],b≠c:=fun b u e c hc q=>by rw [q,(hf c hc).1] at e;cases e
   refine (I.hok b u e).stay (fun c v hc q=>?_) (fun c q=>q) fun c xs q=>q
   have:∀ d∈[z,TO,i1,i2,TI],c≠d:=by
    rcases hc with z | z
    .rw [z];exact nch b u e
    .exact nch c _ z
   exact k c v (this z (by simp)) (this TO (by simp)) (this i1 (by simp)) (this i2 (by simp)) q
 self:=fun _ _ _ _ _ st h=>wpAny_pyIter_zip st.1 h
section
variable {X:Cx}
def iZip(ta:TA):TI:=fun O H R=>ta O H fun vs H1=>∃ (l1 l2:Addr) (xs ys:List V),vs=[.ref l1,.ref l2]/\H1 l1=some (.lst xs)/\H1 l2=some (.lst ys)/\R (kY l1 l2) H1
theorem an9{a b:Expr}{p pos:Pos}(hg:Gl X "zip")(hm:X.mg "zip"=none)(ha:PA X [a,b] ta)(h1:K2 a=false:=by rfl)(h2:K2 b=false:=by rfl) :
  PI X (.Tuple elts x1 tpos) (.Call (.Name "zip" p) [a,b] [] pos) (iZip ta):=by
 intro pins s O H R I h;refine Call_ (x9 I hg hm boot_zip (PyProof.Rows.callWith_type1 (C2 (ha pos pins s O H _ I h) fun us s1 ⟨vs,H1,I1,r1,q1⟩=>?_) (N2 h1) (by rw [N2 h2];rfl)));obtain ⟨l1,l2,xs,ys,rfl,e1,e2,q⟩:=q1;obtain ⟨u1,u2,rfl,cN,sN⟩:=vals2 r1
 cases cN
 cases sN
 obtain ⟨its1,T6,p1,_⟩:=I1.list (D4.of (K:=X.K) e1);obtain ⟨its2,mI,p2,_⟩:=I1.list (D4.of (K:=X.K) e2);refine call_zip_2 p1.isList p2.isList fun h' z1 z2 z3 z4 z5 z6 z7=>wpAny_pyIter_zip z1 ?_
 refine ⟨s1.heap.objs.size+4,[s1.heap.objs.size+4,s1.heap.objs.size+3,s1.heap.objs.size,s1.heap.objs.size+1,s1.heap.objs.size+2],_,_,H1,rfl,I1.kept (t':=s1.toks) z7,
  akn _ (s1.heap.objs.size+2) (s1.heap.objs.size+3) s1.heap.objs.size (s1.heap.objs.size+1) l1 l2 (Z4 (by lia)) (Z4 (by lia)) (Z4 (by lia)) (Z4 (by lia)) (Z4 (by lia)) (Z4 (by lia)) (Z4 (by lia)) (Z4 (by lia)) (Z4 (by lia)) (Z4 (by lia)),⟨z1,z2,⟨_,_,z3⟩,z4,z5⟩,fun b hb=>?_,q⟩
 have aU:s1.heap.objs.size<=b:=by
  have e:b=s1.heap.objs.size+4\/b=s1.heap.objs.size+3\/b=s1.heap.objs.size\/b=s1.heap.objs.size+1\/b=s1.heap.objs.size+2:=by simpa using hb
  rcases e with rfl | rfl | rfl | rfl | rfl
  .exact o9 _ _
  .exact o9 _ _
  .exact C3 _
  .exact o9 _ _
  .exact o9 _ _
 exact I1.fpOk aU (I1.hok.fresh aU)
theorem aoa{a b:Expr}{p pos:Pos}(hm:X.mg "zip"=none)(ha:QA X [a,b] ta)(hg:Gl X "zip":=by rfl)(h1:K2 a=false:=by rfl)(h2:K2 b=false:=by rfl) :
  QI X (.Tuple elts x1 tpos) (.Call (.Name "zip" p) [a,b] [] pos) (iZip ta):=⟨an9 hg hm ha.out h1 h2⟩
end
theorem amv{R:It->Hp->Prop} : iZip ta O H R=ta O H fun vs H1=>∃ (l1 l2:Addr) (xs ys:List V),vs=[.ref l1,.ref l2]/\H1 l1=some (.lst xs)/\H1 l2=some (.lst ys)/\R (kY l1 l2) H1:=rfl
theorem forZ{l1 l2:Addr}(Pv:Nat->St->Hp->Prop)(h0:Pv 0 O H)(hl:∀ i O H,Pv i O H->H l1=some (.lst xs)/\H l2=some (.lst ys))(hs:∀ i x y t O H,xs[i]?=some x->ys[i]?=some y->Pv i O H->H t=none->g (.ref t) O (A0 H t (.tup [x,y])) fun σ2 H2=>tb { D with nx:=Pv (i+1),ct:=Pv (i+1),bk:=D.nx } σ2 H2)(hd:∀ O H,Pv (min xs.length ys.length) O H->D.nx O H):ForIt (kY l1 l2) g tb D O H:=by
 refine ⟨fun i m O H=>m=min xs.length ys.length-i/\i<=min xs.length ys.length/\Pv i O H,⟨min xs.length ys.length,by simp,G3 _,h0⟩,?_⟩;rintro i m O H ⟨rfl,hi,p⟩;obtain ⟨e1,e2⟩:=hl i O H p
 by_cases D3:i<min xs.length ys.length
 .refine .inr ⟨⟨xs,ys,xs[i]'(by lia),ys[i]'(by lia),e1,e2,by simp,by simp⟩,Pv (i+1),fun σ' H' p'=>⟨_,by lia,rfl,D3,p'⟩,fun v H' y=>?_⟩;obtain ⟨t,xs',ys',x,y',f1,f2,hx,hy,ht,rfl,rfl⟩:=y;rw [e1] at f1;cases f1;rw [e2] at f2;cases f2;exact hs i x y' t O H hx hy p ht
 .have e:i=min xs.length ys.length:=by lia
  subst e;exact .inl ⟨⟨xs,ys,e1,e2,by lia⟩,hd O H p⟩
def Itr3(lo st:Int)(n:Nat):It:=⟨fun i _=>i<n,fun i H x H'=>H'=H/\x=.int (lo+i*st),fun i _=>n<=i⟩
theorem xI{α β:Type}(f:α->β):∀ (l:List α) (i:Nat),(l.eraseIdx i).map f=(l.map f).eraseIdx i
 | [],_=>rfl
 | _::_,0=>rfl
 | x::l,i+1=>by
  show f x::(l.eraseIdx i).map f=f x::(l.map f).eraseIdx i;rw [xI f l i]
def pA(td ty tx:TE):TE:=fun O H Q=>td O H fun x H1=>∃ a,x=.ref a/\bP H1 a/\ty O H1 fun y H2=>tx O H2 fun z H3=>∃ kvs k,H3 a=some (.dK kvs)/\kvs.length<sizeLine/\y=kV k/\
 (∀ v,valV kvs k=some v->Q v H3)/\(valV kvs k=none->Q z (A0 H3 a (.dK (putK kvs k z))))
section
variable {X:Cx} {o e f:Expr} {apos cpos:Pos} {td ty tx:TE} {pins:List (Addr×Obj)} {O:St} {H:Hp} {s:Shared} {a:Addr} {A:Around} {E:Value->Shared->Prop}
theorem aob{k:C5}{z:V}{r:Value}{Q:Value->Shared->Prop}(I:Inv X pins O H s)(e:H a=some (.dK kvs))(hl:kvs.length<sizeLine)(ry:RelV (kV k) u)(rz:RelV z r)(h1:∀ v w' s',valV kvs k=some v->Inv X pins O H s'->RelV v w'->Q w' s')(h2:∀ s',valV kvs k=none->Inv X pins O (A0 H a (.dK (putK kvs k z))) s'->Q r s') :
  wpAny (model X.prog X.w) A (call (.builtin "dict.setdefault") [.ref a,u,r]) Q E s:=by
 obtain ⟨hz,hd,vs,rel,dd⟩:=dk_of I.hok e;have B3:=rel.length;refine call_meetsIn PySem.F.slot_dict_setdefault dd.typeIs PySem.F.entry_dict_setdefault (PySem.F.args_dict_setdefault_3 _ _ _) (kt_meets_setdefault (N1 X.prog X.w) a (kV_is ry) hd r) ⟨vs,dd,by lia,fun v hv=>?_,fun hn h' hm hs=>?_⟩
 .have:=rel.val k
  rw [hv] at this;cases cO:valV kvs k with
  | none=>rw [cO] at this;exact this.elim
  | some x=>rw [cO] at this;exact h1 x v _ cO (I.tok _) this
 .have:=rel.val k
  rw [hn] at this;cases cO:valV kvs k with
  | some x=>rw [cO] at this;exact this.elim
  | none=>
   have T4:(putK kvs k z).length<=sizeLine:=by rw [ajT z cO,C8,T9];lia
   obtain ⟨ob,_,_,ho,_⟩:=id hm;exact h2 _ cO (oI (t':=s.toks+1) I (by rw [e];exact trivial) hs ⟨ob,ho⟩ (oJ T4 hd (rel.put k rz) hm))
theorem ako(ho:PE X o td)(he:PE X e ty)(hf:PE X f tx)(m:M2 X o "setdefault" apos e f cpos):PE X (.Call (.Attribute o "setdefault" apos) [e,f] [] cpos) (pA td ty tx):=by
 intro pins s O H Q I h;refine wpAny_Call_method m.base m.few m.line PySem.F.plainAttrs_dict PySem.F.slot_dict_setdefault PySem.F.type_dict_setdefault (C2 (ho pins s O H _ I h) fun u s1 ⟨x,H1,I1,rx,a,ex,d,q1⟩=>?_);subst ex;obtain rfl:u=Value.ref a:=rx;obtain ⟨t1,t2,_⟩:=oM I1 d;refine ⟨t1,t2,?_⟩;rw [m.trees];refine Calls.callWith_builtin rfl (Calls.evalArgs_plain (Calls.spliced_cons (C2 (he pins s1 O H1 _ I1 q1) fun iv s2 ⟨y,H2,I2,ry,q2⟩=>
  Calls.spliced_cons (C2 (hf pins s2 O H2 _ I2 q2) fun fv s3 ⟨z,H3,I3,rz,kvs,k,e3,hl,ey,q3,q4⟩=>Calls.spliced_nil ?_))))
 subst ey;exact aob I3 e3 hl ry rz (fun v w' s4 hv I4 rw'=>⟨v,H3,I4,rw',q3 v hv⟩) fun s4 hn I4=>⟨z,_,I4,rz,q4 hn⟩
theorem akp(ho:QE X o td)(he:QE X e ty)(hf:QE X f tx)(h1:K2 e=false:=by rfl)(h2:K2 f=false:=by rfl)(J8:attributeBase o "setdefault" X.env (eval o X.env)=eval o X.env:=by rfl)(J9:(apos.endLine==cpos.line)=true:=by rfl):QE X (.Call (.Attribute o "setdefault" apos) [e,f] [] cpos) (pA td ty tx):=
 ⟨ako ho.out he.out hf.out ⟨J8,by rw [N2 h1,N2 h2];rfl,J9,by rw [N2 h1,N2 h2];rfl⟩⟩
theorem akq:pA td ty tx O H Q=td O H fun x H1=>∃ a,x=.ref a/\bP H1 a/\ty O H1 fun y H2=>tx O H2 fun z H3=>∃ kvs k,H3 a=some (.dK kvs)/\kvs.length<sizeLine/\y=kV k/\
 (∀ v,valV kvs k=some v->Q v H3)/\(valV kvs k=none->Q z (A0 H3 a (.dK (putK kvs k z)))):=rfl
end
section
variable {X:Cx} {tg:Expr}
def xJ(i j k:Int):Nat:=(if i<j then (j-i-1) / k+1 else 0).toNat
def iRng3(ta:TA):TI:=fun O H R=>ta O H fun vs H1=>∃ i j k:Int,vs=[.int i,.int j,.int k]/\(-(2 ^ 60)<=i/\i<2 ^ 60/\-(2 ^ 60)<=j/\j<2 ^ 60/\0<k/\k<1000000)/\R (Itr3 i k (xJ i j k)) H1
end
theorem akr{R:It->Hp->Prop} : iRng3 ta O H R=ta O H fun vs H1=>∃ i j k:Int,vs=[.int i,.int j,.int k]/\(-(2 ^ 60)<=i/\i<2 ^ 60/\-(2 ^ 60)<=j/\j<2 ^ 60/\0<k/\k<1000000)/\R (Itr3 i k (xJ i j k)) H1:=rfl
section
variable {X:Cx} {pins:List (Addr×Obj)} {O:St} {H:Hp} {s:Shared} {a:Addr}
theorem Inv.swap{u u':HO}(I:Inv X pins O H s)(e:H a=some u)(n1:∀ xs,u≠.tup xs)(n2:∀ x,u≠.own x)(n3:∀ ps,u≠.tbl ps)(n4:∀ o v,X.H₀ a≠some (.frz o v))(new:ObjOk X.prog X.w H s.heap a u'):Inv X pins O (A0 H a u') s:=by
 have ne:∀ b,H b=none->b≠a:=fun b h q=>by rw [q,e] at h;cases h
 have own:∀ c x,H c=some (.own x)->A0 H a u' c=some (.own x):=fun c x q=>by
  rw [A9 (fun z=>by rw [z,e] at q;exact n2 x (Option.some.inj q))];exact q
 have tup:∀ c xs,H c=some (.tup xs)->A0 H a u' c=some (.tup xs):=fun c x q=>by
  rw [A9 (fun z=>by rw [z,e] at q;exact n1 x (Option.some.inj q))];exact q
 refine ⟨I.ok,I.os,I.bare,⟨I.base.keep,I.base.slot,fun b o h1 h2 h3=>?_,I.base.there,fun b xs h=>tup b xs (I.base.tups b xs h),fun b o v h=>?_,fun b ps h=>?_⟩,I.loc,I.cell,?_,fun x c h=>?_,fun p hp=>?_,fun b v h=>?_,I.len⟩
 .have:=I.base.free b o h1 h2 h3
  rw [A9 (ne b this)];exact this
 .rw [A9 (fun z=>n4 o v (by rw [<- z];exact h))];exact I.base.frzs b o v h
 .obtain ⟨m,q⟩:=I.base.tbls b ps h;exact ⟨m,by rw [A9 (fun z=>by rw [z,e] at q;exact n3 _ (Option.some.inj q))];exact q⟩
 .rw [A9 (ne _ I.free)];exact I.free
 .rw [A9 (ne _ (I.freeC x c h))];exact I.freeC x c h
 .obtain ⟨h1,h2,h3⟩:=I.pin p hp;exact ⟨h1,by rw [A9 (ne _ h2)];exact h2,h3⟩
 .by_cases hb:b=a
  .subst hb;rw [A6] at h;cases h;exact new.stay (fun _ _ _ q=>q) (fun c q=>own c _ q) fun c xs q=>tup c xs q
  .rw [A9 hb] at h;exact (I.hok b v h).stay (fun _ _ _ q=>q) (fun c q=>own c _ q) fun c xs q=>tup c xs q
end
def gH(a:Addr)(o:Obj)(kvs:List (C5×V)):It:=
 ⟨fun i H=>H a=some (.frz o (.dK kvs))/\i<kvs.length,fun i H x H'=>H'=H/\∃ k v,kvs[i]?=some (k,v)/\x=kV k,fun i H=>H a=some (.frz o (.dK kvs))/\kvs.length<=i⟩
theorem aiU{P:Program}{w:World}(a it:Addr)(o:Obj)(kvs:List (C5×V))(vs:List (C5×Value))(ep:Nat)(L9:∀ h:Heap,h.get? a=some o->h.DictAt (N1 P w) a vs ep)(rel:KV kvs vs):Turn P w K tg (gH a o kvs) [it] it (fun i h=>h.IsKeyIter it a i vs.length ep) where
 mem:=by simp
 obj:=fun i h st b hb=>by
  have e:b=it:=by simpa using hb
  subst e;obtain ⟨o,e,c,d⟩:=st;exact ⟨o,e,fun v z=>by rw [d] at z;cases z⟩
 keep:=fun i h h' st k=>st.at fun o e=>k it (by simp) o e
 item:=by
  intro X hP hw hK hc i pins s O H E I hf st hg;subst hP hw hK;obtain ⟨f0,f1,f2,f3,f4,f5⟩:=hf it (by simp);obtain ⟨sO,iX⟩:=hg;have hd:=L9 s.heap (I.hok a _ sO).1;have hvl:i<vs.length:=by rw [<- rel.length];exact iX
  refine wpAny_pyNext_dict_item st hd (k:=vs[i].1) (v:=vs[i].2) (by rw [M5 hvl]) fun key h' X8 iY mJ=>?_
  have I1:Inv X pins O H { s with heap:=h' }:=I.turned (t':=s.toks) (fun b o hb e=>(mJ.2 b hb).trans e) f0 f1 f3 f4 f5;obtain ⟨oi,e,c,d⟩:=id iY;have hk:kvs[i].1=vs[i].1:=by
   have:=congrArg (·[i]?) rel.keys
   simpa [iX,hvl] using this
  have rk:RelV (kV kvs[i].1) key:=by
   rw [hk];have X8:keyIs vs[i].1 key=true:=X8;generalize vs[i].1=kk at X8
   rcases e8 X8 with ⟨j,t,rfl,rfl⟩ | ⟨x,t,rfl,rfl⟩
   .exact ⟨t,rfl⟩
   .exact ⟨t,rfl⟩
  exact ⟨key,rfl,go_of (s:={ s with heap:=h' }) e c d (by decide) ⟨kV kvs[i].1,H,I1,rk,⟨rfl,kvs[i].1,kvs[i].2,by rw [M5 iX],rfl⟩,iY,fun b hb=>(hf b hb).1⟩⟩
 done:=by
  intro X hP hw hK hc i pins s O H E I hf st hg;subst hP hw hK;obtain ⟨f0,f1,f2,f3,f4,f5⟩:=hf it (by simp);obtain ⟨sO,iX⟩:=hg;have hd:=L9 s.heap (I.hok a _ sO).1;exact wpAny_pyNext_dict_end (I.ok.hd hc) st hd (by rw [List.getElem?_eq_none_iff,<- rel.length];exact iX) fun h' eb=>⟨rfl,I.turned (t':=s.toks) (fun b o hb e=>eb b o hb e) f0 f1 f3 f4 f5⟩
 self:=fun _ _ _ _ _ st h=>wpAny_pyIter_keyiter st h
def Ends.thaw(D:Ends)(a:Addr)(kvs:List (C5×V)):Ends where
 nx:=fun O H=>(∃ o,H a=some (.frz o (.dK kvs)))/\D.nx O (A0 H a (.dK kvs))
 rt:=fun v H=>(∃ o,H a=some (.frz o (.dK kvs)))/\D.rt v (A0 H a (.dK kvs))
def tForD(tl:TE)(g:TG)(tb:TS):TS:=fun D O H=>tl O H fun x H1=>∃ a kvs,x=.ref a/\H1 a=some (.dK kvs)/\∀ o,ForIt (gH a o kvs) g tb (D.thaw a kvs) O (A0 H1 a (.frz o (.dK kvs)))
theorem amw{l:Expr}{body:List Stmt}{pos:Pos}(hp:PassesOwn (model X.prog X.w) X.A X.env X.xe)(hc:X.calm=true)(hl:PE X l tl)(hg:PG X tg g)(hb:V2 X body tb)(hs:∀ x,foldedSetIterable l X.env x=pure x):PS X (.For tg l body [] pos) (tForD tl g tb):=by
 intro pins s O H D I h;refine wpAny_For (C2 (hl pins s O H _ I h) fun v s1 ⟨x,H1,I1,r1,q1⟩=>?_) hs;obtain ⟨a,kvs,rfl,e,q⟩:=q1
 cases r1
 obtain ⟨z,hd,vs,rel,dd⟩:=dk_of I1.hok e;obtain ⟨ep,L9⟩:=dd.dictAt;obtain ⟨o,es,ho,aS⟩:=id L9;refine wpAny_pyIter_dict hd L9 ?_;have NF:∀ o' v',X.H₀ a≠some (.frz o' v'):=fun o' v' z=>by
  have:=I1.base.frzs _ _ _ z
  rw [e] at this;cases this
 have I1':Inv X pins O H1 { s1 with heap:=s1.heap.push { cls:=.type "dict_keyiterator",data:=.fields #[.ref a,.int 0 0,.int vs.length 0,.int ep 0] } }:=I1.kept (t':=s1.toks) fun b u e=>Heap.get?_push_of_some _ e
 have I2:=I1'.swap (u':=.frz o (.dK kvs)) e (fun _ q=>by cases q) (fun _ q=>by cases q) (fun _ q=>by cases q) NF ⟨Heap.get?_push_of_some _ ho,I1'.hok a _ e⟩;have thaw:∀ {σ':St} {H':Hp} {s':Shared},Inv X pins σ' H' s'->(∃ o,H' a=some (.frz o (.dK kvs)))->Inv X pins σ' (A0 H' a (.dK kvs)) s':=fun {σ' H' s'} I' ⟨o',e'⟩=>
  I'.swap e' (fun _ q=>by cases q) (fun _ q=>by cases q) (fun _ q=>by cases q) NF (I'.hok a _ e').2
 have T:Turn X.prog X.w X.K tg (gH a o kvs) [s1.heap.objs.size] s1.heap.objs.size (fun i h=>h.IsKeyIter s1.heap.objs.size a i vs.length ep):=aiU a _ o kvs vs ep (fun h e=>⟨o,es,e,aS⟩) rel;have Y2:A0 H1 a (.frz o (.dK kvs)) s1.heap.objs.size=none:=by rw [A9 (fun q=>by rw [<- q,I1.fresh] at e;cases e)];exact I1.fresh
 have f2:∀ b∈[s1.heap.objs.size],FpOk X pins (A0 H1 a (.frz o (.dK kvs))) b:=fun b hb=>by
  have e:b=s1.heap.objs.size:=by simpa using hb
  subst e;exact I1.fpOk (C3 _) Y2
 obtain ⟨W,⟨m0,w0⟩,turn⟩:=q o;have stat:∀ {H':Hp},(∀ b∈[s1.heap.objs.size],H' b=none)->∀ b∈[s1.heap.objs.size],FpOk X pins H' b:=fun hn b hb=>⟨hn b hb,(f2 b hb).2⟩
 refine codeAny_forLoop_any (fun n s'=>∃ i σ' H',Inv X pins σ' H' s'/\s'.heap.IsKeyIter s1.heap.objs.size a i vs.length ep/\(∀ b∈[s1.heap.objs.size],H' b=none)/\W i n σ' H') ?_ m0 ⟨0,O,_,I2,⟨_,Heap.get?_push_size _ rfl,rfl,rfl⟩,fun b hb=>(f2 b hb).1,w0⟩;rintro n s3 ⟨i,σ3,H3,I3,aM,iK,w3⟩
 rcases turn i n σ3 H3 w3 with ⟨stop,qn⟩ | ⟨go,N,hN,step⟩
 .refine wpAny_passesOwn hp (C2 (T.done X rfl rfl rfl hc i pins s3 σ3 H3 X.xe I3 (stat iK) aM stop) fun r s4 ⟨hr,I4⟩=>?_);subst hr;exact wpAny_execs_nil ⟨σ3,_,thaw I4 qn.1,qn.2⟩
 .refine wpAny_passesOwn hp (C2 (T.item X rfl rfl rfl hc i pins s3 σ3 H3 X.xe I3 (stat iK) aM go) fun r s4 ⟨u,hr,h4⟩=>?_);subst hr;refine wpAny_passesOwn hp (C2 h4 fun _ s5 ⟨x,H5,I5,r5,y5,cG,rW⟩=>?_);have I5':=I5.pinned (stat rW) (T.obj _ _ cG);refine wpAny_passesOwn hp (C2 (hg _ s5 σ3 H5 x u _ I5' r5 (step x H5 y5)) fun _ s6 ⟨σ6,H6,I6,q6⟩=>?_);refine wpAny_passesOwn hp (C2 (hb _ s6 σ6 H6 _ I6 q6) fun f s7 q7=>?_);have again:∀ {σ7:St} {H7:Hp},Inv X (pins++dN [s1.heap.objs.size] s5.heap) σ7 H7 s7->N σ7 H7->∃ m,m<n/\∃ i σ' H',Inv X pins σ' H' s7/\s7.heap.IsKeyIter s1.heap.objs.size a i vs.length ep/\(∀ b∈[s1.heap.objs.size],H' b=none)/\W i m σ' H':=fun {σ7 H7} I7 n7=>by
   obtain ⟨m',hm,w7⟩:=hN σ7 H7 n7;refine ⟨m',hm,i+1,σ7,H7,I7.unpinned,T.keep _ _ _ cG fun b hb o e=>(I7.pin (b,o) (N3 _ (N3 _ (dO hb e)))).1,fun b hb=>?_,w7⟩;obtain ⟨o,e,d⟩:=T.obj _ _ cG b hb;exact (I7.pin (b,o) (N3 _ (N3 _ (dO hb e)))).2.1
  cases f with
  | next=>obtain ⟨σ7,H7,I7,n7⟩:=q7;exact again I7 n7
  | cont=>obtain ⟨σ7,H7,I7,n7⟩:=q7;exact again I7 n7
  | brk=>obtain ⟨σ7,H7,I7,q7⟩:=q7;exact ⟨σ7,_,thaw I7.unpinned q7.1,q7.2⟩
  | ret v=>obtain ⟨x7,σ7,H7,I7,r7,q7⟩:=q7;exact ⟨x7,σ7,_,thaw I7.unpinned q7.1,r7,q7.2⟩
theorem pB{l:Expr}{body:List Stmt}{pos:Pos}(hp:PassesOwn (model X.prog X.w) X.A X.env X.xe)(hl:QE X l tl)(hg:QG X tg g)(hb:QSs X body tb)(hc:X.calm=true:=by rfl)(hs:∀ x,foldedSetIterable l X.env x=pure x:=by intro _;rfl):QS X (.For tg l body [] pos) (tForD tl g tb):=⟨amw hp hc hl.out hg.out hb.out hs⟩
theorem amx : tForD tl g tb D O H=tl O H fun x H1=>∃ a kvs,x=.ref a/\H1 a=some (.dK kvs)/\∀ o,ForIt (gH a o kvs) g tb (D.thaw a kvs) O (A0 H1 a (.frz o (.dK kvs))):=rfl
theorem forD(Pv:Nat->St->Hp->Prop)(h0:Pv 0 O H)(hl:∀ i O H,Pv i O H->H a=some (.frz o (.dK kvs)))(hs:∀ i k v O H,kvs[i]?=some (k,v)->Pv i O H->g (kV k) O H fun σ2 H2=>tb { D.thaw a kvs with nx:=Pv (i+1),ct:=Pv (i+1),bk:=(D.thaw a kvs).nx } σ2 H2)(hd:∀ O H,Pv kvs.length O H->D.nx O (A0 H a (.dK kvs))):ForIt (gH a o kvs) g tb (D.thaw a kvs) O H:=by
 refine ⟨fun i m O H=>m=kvs.length-i/\i<=kvs.length/\Pv i O H,⟨kvs.length,by simp,G3 _,h0⟩,?_⟩;rintro i m O H ⟨rfl,hi,p⟩;have e:=hl i O H p
 by_cases D3:i<kvs.length
 .refine .inr ⟨⟨e,D3⟩,Pv (i+1),fun σ' H' p'=>⟨_,by lia,rfl,D3,p'⟩,fun v H' y=>?_⟩;obtain ⟨rfl,k,v',hk,rfl⟩:=y;exact hs i k v' O _ hk p
 .have e2:i=kvs.length:=by lia
  subst e2;exact .inl ⟨⟨e,C3 _⟩,⟨o,e⟩,hd O H p⟩
end L2
set_option maxRecDepth 100000
namespace L2
open PySem PySem.Spec PyProof.Rows
def Q8(row:List Str):List (Str×Str):=row.zip row.tail
def edges(rows:List (List Str)):List (Str×Str):=rows.flatMap Q8
def F6(E:List (Str×Str))(p:Str):List Str:=(E.filter fun e=>decide (e.1=p)).map (·.2)
def F8(E:List (Str×Str))(line:List Str)(q:Str):Nat:=E.countP fun e=>decide (e.2=q) && !decide (e.1∈line)
def cntIn(E:List (Str×Str))(S:List Str)(q:Str):Nat:=E.countP fun e=>decide (e.2=q)&&decide (e.1∈S)
theorem aks(E:List (Str×Str))(a b p:Str):F6 (E++[(a,b)]) p=if a=p then F6 E p++[b] else F6 E p:=by
 unfold F6;rw [dD,D9]
 by_cases h:a=p
 .rw [if_pos h,fO (by simpa using h)];rfl
 .rw [if_neg h,dA (by simpa using h)];simp
theorem xK(E:List (Str×Str))(p q:Str):(F6 E p).count q=E.countP fun e=>decide (e.2=q)&&decide (e.1=p):=by
 induction E with
 | nil=>rfl
 | cons e E ih=>
  unfold F6 at ih ⊢
  by_cases h:e.1=p
  .rw [fO (by simpa using h),G6,List.count_cons,ih,x3]
   by_cases h2:e.2=q
   .simp [h,h2]
   .simp [h,h2]
  .rw [dA (by simpa using h),ih,x3];simp [h]
theorem ahG{E:List (Str×Str)}{S:List Str}{p:Str}(h:p∉S):cntIn E (S++[p]) q=cntIn E S q+(F6 E p).count q:=by
 rw [xK];unfold cntIn
 induction E with
 | nil=>rfl
 | cons e E ih=>
  rw [x3,x3,x3,ih]
  by_cases h2:e.2=q
  .by_cases h1:e.1=p
   .have:e.1∉S:=by rw [h1];exact h
    simp [h2,h1,h];lia
   .by_cases h3:e.1∈S
    .simp [h2,h1,h3];lia
    .simp [h2,h1,h3]
  .simp [h2]
theorem xL{E:List (Str×Str)}{p:Str}(h:p∉line):F8 E line q=F8 E (line++[p]) q+(F6 E p).count q:=by
 rw [xK];unfold F8
 induction E with
 | nil=>rfl
 | cons e E ih=>
  rw [x3,x3,x3,ih]
  by_cases h2:e.2=q
  .by_cases h1:e.1=p
   .simp [h2,h1,h];lia
   .by_cases h3:e.1∈line
    .simp [h2,h1,h3]
    .simp [h2,h1,h3];lia
  .simp [h2]
theorem aiV{E:List (Str×Str)}{S:List Str}(h:∀ e∈E,e.1∈S)(q:Str):cntIn E S q=F8 E [] q:=by
 unfold cntIn F8;refine List.countP_congr fun e he=>?_
 simp [h e he]
theorem aiW(E:List (Str×Str))(q:Str):cntIn E [] q=0:=by
 unfold cntIn
 simp
theorem cnt_zero{E:List (Str×Str)} : F8 E line q=0↔∀ e∈E,e.2=q->e.1∈line:=by
 unfold F8;rw [List.countP_eq_zero]
 constructor
 .intro h e he h2
  have:=h e he
  simpa [h2] using this
 .intro h e he
  by_cases h2:e.2=q
  .simp [h2,h e he h2]
  .simp [h2]
def nextP(E:List (Str×Str))(ts pre:List Str):Option Str:=(ts.filter fun p=>!decide (p∈pre)).find? fun p=>decide (F8 E pre p=0)
def Q6(E:List (Str×Str))(ts line:List Str):Prop:=∀ pre q post,line=pre++q::post->nextP E ts pre=some q
theorem Q6.nil(E:List (Str×Str))(ts:List Str):Q6 E ts []:=fun pre q post h=>by
 have:=congrArg W0 h
 simp at this
theorem Q6.snoc{E:List (Str×Str)}{p:Str}(r:Q6 E ts line)(h:nextP E ts line=some p):Q6 E ts (line++[p]):=fun pre q post e=>by
 rcases List.append_eq_append_iff.mp e with ⟨m,h1,h2⟩ | ⟨m,h1,h2⟩
 .cases m with
  | nil=>
   rw [M0] at h1;rw [bF] at h2
   cases (List.cons.inj h2).1
   rw [h1];exact h
  | cons a m=>
   have:=congrArg W0 h2
   simp at this
 .cases m with
  | nil=>
   rw [M0] at h1;rw [bF] at h2
   cases (List.cons.inj h2).1
   rw [<- h1];exact h
  | cons a m=>
   rw [List.cons_append] at h2;have h3:=(List.cons.inj h2).1;exact r pre q m (by rw [h1,h3])
theorem eC{E:List (Str×Str)}{pre:List Str}(h:nextP E ts pre=some q):q∈ts/\q∉pre/\F8 E pre q=0:=by
 have h1:=List.mem_of_find?_eq_some h;have h2:=List.find?_some h;rw [U1] at h1;exact ⟨h1.1,by simpa using h1.2,by simpa using h2⟩
theorem Q6.nodup{E:List (Str×Str)} : ∀ {line:List Str},Q6 E ts line->line.Nodup:=by
 intro line r;rw [j8,bC];intro i j hi hj hij e;have e1:line=line.take j++line[j]::line.drop (j+1):=by rw [<- List.drop_eq_getElem_cons hj,Y5]
 have:=(eC (r _ _ _ e1)).2.1
 exact this (X1.mpr ⟨i,by rw [K5];lia,by rw [List.getElem_take];exact e⟩)
theorem Q6.sub{E:List (Str×Str)}(r:Q6 E ts line)(h:q∈line):q∈ts:=by
 obtain ⟨pre,post,e⟩:=List.append_of_mem h;exact (eC (r pre q post e)).1
theorem akt{E:List (Str×Str)}{rank:Str->Nat}(hr:∀ e∈E,rank e.1<rank e.2)(hE:∀ e∈E,e.1∈ts)(hw:∃ p∈ts,p∉line):∃ q,nextP E ts line=some q:=by
 have key:∀ n p,rank p<=n->p∈ts->p∉line->∃ q∈ts,q∉line/\F8 E line q=0:=by
  intro n
  induction n with
  | zero=>
   intro p hp ht hl;refine ⟨p,ht,hl,cnt_zero.mpr fun e he h2=>?_⟩
   have:=hr e he
   rw [h2] at this;lia
  | succ n ih=>
   intro p hp ht hl
   by_cases hc:F8 E line p=0
   .exact ⟨p,ht,hl,hc⟩
   .have:∃ e∈E,e.2=p/\e.1∉line:=by
     refine Classical.byContradiction fun hn=>hc (cnt_zero.mpr fun e he h2=>Classical.byContradiction fun h3=>hn ⟨e,he,h2,h3⟩)
    obtain ⟨e,he,h2,h3⟩:=this;have h4:=hr e he;rw [h2] at h4;exact ih e.1 (by lia) (hE e he) h3
 obtain ⟨p,hp,hl⟩:=hw;obtain ⟨q,h1,h2,h3⟩:=key (rank p) p (C3 _) hp hl;cases h:nextP E ts line with
 | some q=>exact ⟨q,rfl⟩
 | none=>
  have:=List.find?_eq_none.mp h q (U1.mpr ⟨h1,by simpa using h2⟩)
  simp [h3] at this
theorem kZ{E:List (Str×Str)}(nd:ts.Nodup)(r:Q6 E ts line)(h:∀ p∈ts,p∈line):line.length=ts.length:=
 ((List.perm_ext_iff_of_nodup r.nodup nd).mpr fun a=>⟨r.sub,h a⟩).length_eq
theorem xM(E:List (Str×Str))(pre:List Str):∀ ts:List Str,nextP E ts pre=ts.find? fun p=>!decide (p∈pre)&&decide (∀ e∈E,e.2=p->e.1∈pre)
 | []=>rfl
 | t::ts=>by
  have ih:=xM E pre ts;unfold nextP at ih ⊢
  by_cases h:t∈pre
  .rw [dA (by simpa using h),k6,ih];simp [h]
  .rw [fO (by simpa using h),k6,k6,ih]
   by_cases h2:F8 E pre t=0
   .have:=cnt_zero.mp h2
    rw [decide_eq_true h2,decide_eq_true this];simp [h]
   .have:¬ ∀ e∈E,e.2=t->e.1∈pre:=fun z=>h2 (cnt_zero.mpr z)
    rw [decide_eq_false h2,decide_eq_false this];simp [h]
theorem ahH{row:List Str}{e:Str×Str}(h:e∈Q8 row):e.1∈row/\e.2∈row:=by
 unfold Q8 at h;exact ⟨(List.of_mem_zip h).1,List.mem_of_mem_tail (List.of_mem_zip h).2⟩
theorem xN{rows:List (List Str)}{e:Str×Str}(h:e∈edges rows):e.1∈rows.flatten/\e.2∈rows.flatten:=by
 unfold edges at h;obtain ⟨row,h1,h2⟩:=X3.mp h
 have:=ahH h2
 exact ⟨List.mem_flatten.mpr ⟨row,h1,this.1⟩,List.mem_flatten.mpr ⟨row,h1,this.2⟩⟩
def C4(ts:List Str)(f:Str->V):List (C5×V):=ts.map fun t=>(Sum.inr t,f t)
theorem pC(f:Str->V)(z:Str):∀ ts:List Str,((C4 ts f).any fun kv=>decide (kv.1=(Sum.inr z:C5)))=decide (z∈ts)
 | []=>by simp [C4]
 | y::ts=>by
  have ih:=pC f z ts;unfold C4 at ih ⊢
  rw [G6,k7,ih]
  by_cases e:y=z
  .subst e
   simp
  .have e1:decide ((Sum.inr y:C5)=Sum.inr z)=false:=decide_eq_false fun q=>e (Sum.inr.inj q)
   rw [e1,Bool.false_or]
   by_cases h:z∈ts
   .rw [decide_eq_true h,decide_eq_true (M6 _ h)]
   .rw [decide_eq_false h,decide_eq_false];intro q
    rcases E8.mp q with q | q
    .exact e q.symm
    .exact h q
theorem O7(f:Str->V)(z:Str):∀ ts:List Str,valV (C4 ts f) (Sum.inr z)=if z∈ts then some (f z) else none
 | []=>rfl
 | y::ts=>by
  have ih:=O7 f z ts;unfold C4 at ih ⊢
  rw [G6]
  by_cases e:y=z
  .subst e;rw [kE rfl,if_pos K1]
  .rw [p9 (fun q=>e (Sum.inr.inj q)),ih]
   by_cases h:z∈ts
   .rw [if_pos h,if_pos (M6 _ h)]
   .rw [if_neg h,if_neg];intro q
    rcases E8.mp q with q | q
    .exact e q.symm
    .exact h q
theorem lA{f:Str->V}(v:V)(h:z∈ts):putK (C4 ts f) (Sum.inr z:C5) v=C4 ts fun t=>if t=z then v else f t:=by
 unfold putK;rw [pC,decide_eq_true h,if_pos rfl];unfold C4;rw [o8];refine fP fun y _=>?_
 show (if (Sum.inr y:C5)=Sum.inr z then ((Sum.inr y:C5),v) else (Sum.inr y,f y))=((Sum.inr y:C5),if y=z then v else f y)
 by_cases e:y=z
 .rw [if_pos (by rw [e]),if_pos e]
 .rw [if_neg (fun q=>e (Sum.inr.inj q)),if_neg e]
theorem bU{f:Str->V}(v:V)(h:z∉ts):putK (C4 ts f) (Sum.inr z:C5) v=C4 (ts++[z]) fun t=>if t=z then v else f t:=by
 unfold putK;rw [pC,decide_eq_false h,if_neg K6];unfold C4;rw [D9]
 congr 1
 .refine fP fun y hy=>?_
  show _=((Sum.inr y:C5),if y=z then v else f y);rw [if_neg (fun e:y=z=>h (by rw [<- e];exact hy))]
 .simp
theorem T0{f g:Str->V}(h:∀ t∈ts,f t=g t):C4 ts f=C4 ts g:=by
 unfold C4;exact fP fun t ht=>by rw [h t ht]
theorem g8(f:Str->V)(ts:List Str):(C4 ts f).length=ts.length:=by unfold C4;rw [A8]
theorem xO{f:Str->V}{k:C5}{v:V}(h:(C4 ts f)[i]?=some (k,v)):∃ t,ts[i]?=some t/\k=Sum.inr t/\v=f t:=by
 unfold C4 at h;obtain ⟨t,h1,h2⟩:=G8 h;cases h2;exact ⟨t,h1,rfl,rfl⟩
theorem aku(f:Str->V)(ts:List Str):((C4 ts f).map fun kv=>kV kv.1)=ts.map V.str:=by
 unfold C4;rw [o8];rfl
structure DL(H0 H:Hp)(ts:List Str)(ad:Str->Addr)(F:Str->List Str):Prop where
 row:∀ t∈ts,H (ad t)=some (.lst ((F t).map V.str))
 inj:∀ t∈ts,∀ u∈ts,ad t=ad u->t=u
 new:∀ t∈ts,H0 (ad t)=none
theorem DL.same{ad:Str->Addr}{F:Str->List Str}(x:DL H0 H ts ad F)(s:Same H H'):DL H0 H' ts ad F:=⟨fun t h=>s _ _ (x.row t h),x.inj,x.new⟩
theorem DL.app{ad:Str->Addr}{F:Str->List Str}(x:DL H0 H ts ad F)(hz:z∈ts)(ys:List Str):DL H0 (A0 H (ad z) (.lst (ys.map V.str))) ts ad fun t=>if t=z then ys else F t:=by
 refine ⟨fun t ht=>?_,x.inj,x.new⟩;show _=some (HO.lst ((if t=z then ys else F t).map V.str))
 by_cases e:t=z
 .subst e;rw [A6,if_pos rfl]
 .rw [A9 (fun q=>e (x.inj t ht z hz q)),if_neg e];exact x.row t ht
theorem DL.more{ad:Str->Addr}{F:Str->List Str}(x:DL H0 H ts ad F)(hz:z∉ts)(np:H p=none)(n0:H0 p=none):DL H0 (A0 H p (.lst [])) (ts++[z]) (fun t=>if t=z then p else ad t) fun t=>if t=z then [] else F t:=by
 have ne:∀ t∈ts,t≠z:=fun t ht e=>hz (by rw [<- e];exact ht)
 have nad:∀ t∈ts,ad t≠p:=fun t ht e=>by have:=x.row t ht;rw [e,np] at this;cases this
 have cases':∀ t,t∈ts++[z]->(t∈ts/\t≠z)\/t=z:=fun t ht=>by
  rcases F9.mp ht with h | h
  .exact .inl ⟨h,ne t h⟩
  .exact .inr (E6.mp h)
 refine ⟨fun t ht=>?_,fun t ht u hu e=>?_,fun t ht=>?_⟩
 .show A0 H p (.lst []) (if t=z then p else ad t)=some (.lst ((if t=z then [] else F t).map V.str))
  rcases cases' t ht with ⟨h1,h2⟩ | rfl
  .rw [if_neg h2,if_neg h2,A9 (nad t h1)];exact x.row t h1
  .rw [if_pos rfl,if_pos rfl,A6];rfl
 .have e:(if t=z then p else ad t)=(if u=z then p else ad u):=e
  rcases cases' t ht with ⟨h1,h2⟩ | rfl <;> rcases cases' u hu with ⟨h3,h4⟩ | rfl
  .rw [if_neg h2,if_neg h4] at e;exact x.inj t h1 u h3 e
  .rw [if_neg h2,if_pos rfl] at e;exact absurd e (nad t h1)
  .rw [if_pos rfl,if_neg h4] at e;exact absurd e.symm (nad u h3)
  .rfl
 .show H0 (if t=z then p else ad t)=none
  rcases cases' t ht with ⟨h1,h2⟩ | rfl
  .rw [if_neg h2];exact x.new t h1
  .rw [if_pos rfl];exact n0
theorem akv(h:acc.Nodup)(z:Str):(dd acc z).Nodup:=by
 unfold dd
 split
 .exact h
 .rename_i hz
  rw [Q1];refine ⟨h,by simp,fun a ha b hb e=>hz ?_⟩;rw [<- E6.mp hb,<- e];exact ha
theorem pD:∀ {zs acc:List Str},acc.Nodup->(G0 acc zs).Nodup
 | [],_,h=>h
 | z::zs,acc,h=>pD (zs:=zs) (akv h z)
theorem eD(zss:List (List Str)):(toldL zss).Nodup:=by
 unfold toldL;rw [kN];exact pD (by simp)
theorem m4(x:Str):∀ (zs acc:List Str),x∈G0 acc zs↔x∈acc\/x∈zs
 | [],acc=>by simp [G0]
 | z::zs,acc=>by
  show x∈G0 (dd acc z) zs↔_;rw [m4 x zs];unfold dd
  by_cases h:z∈acc
  .rw [if_pos h,E8]
   constructor
   .rintro (h1 | h1)
    .exact .inl h1
    .exact .inr (.inr h1)
   .rintro (h1 | rfl | h1)
    .exact .inl h1
    .exact .inl h
    .exact .inr h1
  .rw [if_neg h,F9,E6,E8,or_assoc]
theorem pE(x:Str)(zss:List (List Str)):x∈toldL zss↔x∈zss.flatten:=by
 unfold toldL;rw [kN,m4]
 simp
theorem ahI{zss:List (List Str)}{e:Str×Str}(h:e∈edges zss):e.1∈toldL zss/\e.2∈toldL zss:=⟨(pE _ _).mpr (xN h).1,(pE _ _).mpr (xN h).2⟩
theorem ahJ{zss:List (List Str)}(h:zss[i]?=some zs):edges (zss.take (i+1))=edges (zss.take i)++Q8 zs:=by
 rw [b9,h];unfold edges;rw [V8]
 simp
theorem pG(zs:List Str):(Q8 zs).length=min zs.length zs.tail.length:=by unfold Q8;rw [List.length_zip]
theorem xP{x y:Str}(h1:zs[j]?=some x)(h2:zs.tail[j]?=some y):(Q8 zs)[j]?=some (x,y):=by
 unfold Q8;rw [List.getElem?_zip_eq_some];exact ⟨h1,h2⟩
theorem xQ(zss:List (List Str)):(edges zss).length<=zss.flatten.length:=by
 induction zss with
 | nil=>exact C3 _
 | cons zs zss ih=>
  unfold edges at ih ⊢
  rw [U0,C8,dF,C8,pG];lia
theorem DL.put{ad:Str->Addr}{F:Str->List Str}(x:DL H0 H ts ad F){o u:HO}(hb:H0 b=some u):DL H0 (A0 H b o) ts ad F:=
 ⟨fun t ht=>by rw [A9 (fun e=>by have:=x.new t ht;rw [e,hb] at this;cases this)];exact x.row t ht,x.inj,x.new⟩
theorem DL.congr{ad:Str->Addr}{F G:Str->List Str}(x:DL H0 H ts ad F)(h:∀ t∈ts,F t=G t):DL H0 H ts ad G:=⟨fun t ht=>by rw [<- h t ht];exact x.row t ht,x.inj,x.new⟩
theorem DL.old{H00:Hp}{ad:Str->Addr}{F:Str->List Str}(x:DL H0 H ts ad F)(s:Same H00 H0):DL H00 H ts ad F:=⟨x.row,x.inj,fun t ht=>s.free (x.new t ht)⟩
theorem pH(nd:ts.Nodup)(h:ts[i]?=some z):z∉ts.take i:=fun hm=>by
 obtain ⟨hi,e⟩:=K0.mp h;obtain ⟨j,hj,e2⟩:=X1.mp hm;rw [K5] at hj;rw [List.getElem_take] at e2
 have:=(j8.mp nd)
 rw [bC] at this;exact this j i (by lia) hi (by lia) (e2.trans e.symm)
theorem L7{α:Type}{ts:List α}{z:α}(h:ts[i]?=some z):ts.take (i+1)=ts.take i++[z]:=by rw [b9,h];rfl
def SameBut(d:Addr)(H H':Hp):Prop:=∀ b o,b≠d->H b=some o->H' b=some o
theorem SameBut.put{d q:Addr}{u:HO}(s:SameBut d H0 H)(n:H0 q=none):SameBut d H0 (A0 H q u):=fun b o hb h=>by rw [A9 (p6 h n)];exact s b o hb h
theorem SameBut.thaw{d:Addr}{u:HO}(s:SameBut d H0 H)(h:H0 d=some u):Same H0 (A0 H d u):=fun b o hb=>by
 by_cases e:b=d
 .subst e;rw [A6,<- hb,h]
 .rw [A9 e];exact s b o e hb
theorem RowsAt.grow{q:Addr}{zss:List (List Str)}(R:RowsAt H0 H a rs zss)(S:Same H H')(hq:H q=none)(t8:H' q=some (.lst (zs.map V.str))):RowsAt H0 (A0 H' a (.lst (rs.map V.ref++[V.ref q]))) a (rs++[q]) (zss++[zs]):=by
 have nq:∀ r∈a::rs,r≠q:=fun r hr z=>by
  obtain ⟨o,e⟩:=R.live hr;rw [z,hq] at e;cases e
 obtain ⟨na,_⟩:=V0.mp R.nd;refine ⟨⟨by rw [A6,D9];rfl,?_⟩,?_,?_,?_⟩
 .refine Paired.snoc (gF R.rows.row fun r hr zs h=>?_) ?_
  .rw [A9 (fun z:r=a=>na (by rw [<- z];exact hr))];exact S _ _ h
  .rw [A9 (nq a K1).symm];exact t8
 .show (a::(rs++[q])).Nodup;exact kF R.nd fun h=>nq q h rfl
 .intro r hr
  rcases E8.mp hr with h | h
  .exact R.new r (by rw [h];exact K1)
  .rcases F9.mp h with h | h
   .exact R.new r (M6 _ h)
   .rw [E6.mp h];exact R.same.free hq
 .exact (R.same.trans S).put (R.new a K1)
def spFol:Sp:=fun vs H Q _=>∃ (a:Addr) (rs:List Addr) (zss:List (List Str)),vs=[.ref a]/\IsRows H a rs zss/\zss.flatten.length<=100000/\
 ∀ (d:Addr) (ad:Str->Addr) (H':Hp),H d=none->Same H H'->H' d=some (.dK (C4 (toldL zss) fun t=>.ref (ad t)))->DL H H' (toldL zss) ad (F6 (edges zss))->Q (.ref d) H'
def xR:Sp:=fun vs H Q _=>∃ (d:Addr) (ts:List Str) (ad:Str->Addr) (E:List (Str×Str)),vs=[.ref d]/\H d=some (.dK (C4 ts fun t=>.ref (ad t)))/\ts.Nodup/\ts.length<=100000/\E.length<=100000/\
 (∀ t∈ts,H (ad t)=some (.lst ((F6 E t).map V.str)))/\(∀ e∈E,e.1∈ts/\e.2∈ts)/\∀ c H',H c=none->Same H H'->H' c=some (.dK (C4 ts fun t=>.int (F8 E [] t:Nat)))->Q (.ref c) H'
theorem xS:∀ {l m:List Str},l.Nodup->(∀ x∈l,x∈m)->l.length<=m.length
 | [],_,_,_=>G3 _
 | x::l,m,nd,h=>by
  obtain ⟨n1,n2⟩:=V0.mp nd;have hx:=h x K1
  have:=xS (l:=l) (m:=m.erase x) n2 fun y hy=>(List.mem_erase_of_ne (fun e=>n1 (by rw [<- e];exact hy))).mpr (h y (M6 _ hy))
  rw [List.length_erase_of_mem hx] at this;have cP:=List.length_pos_of_mem hx;rw [G5];lia
def xT:Sp:=fun vs H Q _=>∃ (a:Addr) (rs:List Addr) (zss:List (List Str)) (rank:Str->Nat),vs=[.ref a]/\IsRows H a rs zss/\zss.flatten.length<=100000/\(∀ e∈edges zss,rank e.1<rank e.2)/\
 ∀ (l:Addr) (line:List Str) (H':Hp),H l=none->Same H H'->H' l=some (.lst (line.map V.str))->Q6 (edges zss) (toldL zss) line->(∀ p∈toldL zss,p∈line)->Q (.ref l) H'
theorem SameBut.free{d:Addr}(s:SameBut d H0 H)(n:H p=none)(h:p≠d):H0 p=none:=by
 cases e:H0 p with
 | none=>rfl
 | some o=>
  have:=s p o h e
  rw [n] at this;cases this
theorem SameBut.same{d:Addr}(s:SameBut d H1 H2)(S:Same H H1)(n:H d=none):Same H H2:=fun b o h=>s b o (p6 h n) (S b o h)
theorem SameBut.refl(d:Addr)(H:Hp):SameBut d H H:=fun _ _ _ h=>h
theorem SameBut.at{d:Addr}{o:HO}(s:SameBut d H H'):SameBut d H (A0 H' d o):=fun b u hb h=>by rw [A9 hb];exact s b u hb h
def one(c:Nat):Str:=⟨#[c]⟩
def O8(c d:Nat):Str:=⟨#[c,d]⟩
theorem SG_nd:SG.Nodup:=by decide +kernel
end L2
set_option maxRecDepth 100000
namespace L2
open PySem PySem.Spec PyProof.Rows
section
variable {X:Cx}
def rAnyB(calm:Bool):List V->Hp->VK->Prop
 | [.ref p],H,Q=>∃ bs:List Bool,calm=true/\H p=some (.lst (bs.map V.bl))/\Q (.bl (bs.any id)) H
 | _,_,_=>False
theorem p_any:CallR X (.builtin "any") (rAnyB X.calm):=by
 intro pins s O H xs us Q I r h
 match xs,h with
 | [.ref p],⟨bs,hc,hp,q⟩=>
  obtain ⟨u,rfl,rx⟩:=vals1 r
  cases rx
  obtain ⟨z,its,n,rv,hl,e⟩:=I.lstM hp;have pl:s.heap.IsList p its.toArray:=⟨_,e,rfl,n,rfl⟩
  refine call_any_walk (wpAny_pyIter_list pl ?_);have L1:p≠s.heap.objs.size:=K8 (Heap.lt_size e);have hk:∀ b o,s.heap.get? b=some o->(s.heap.push { cls:=.type "list_iterator",data:=.fields #[.ref p,.int 0 0] }).get? b=some o:=fun b o q=>Heap.get?_push_of_some _ q
  refine ⟨_,_,_,_,_,_,fun i=>(bs[i]?).getD false,rfl,Walks.list (show X.A.in1.handled=none from I.ok.hd hc) s.heap.objs.size p L1 its.toArray,⟨⟨_,Heap.get?_push_size _ rfl,rfl,rfl⟩,pl.at fun o q=>hk p o q⟩,?_,?_⟩
  .intro i v s' Q' E' hv hq;have mC:its[i]?=some v:=by simpa using hv
   have hb:∃ b,bs[i]?=some b/\v=.bool b:=by
    cases eb:(bs.map V.bl)[i]? with
    | none=>
     have:=rv.none_of eb
     rw [mC] at this
     cases this
    | some y=>
     obtain ⟨u,h1,h2⟩:=rv.get eb;rw [mC] at h1;cases h1;rw [U9] at eb;cases e3:bs[i]? with
     | none=>rw [e3] at eb;cases eb
     | some b=>
      rw [e3] at eb;cases eb;exact ⟨b,rfl,h2⟩
   obtain ⟨b,e1,rfl⟩:=hb;have hq:Q' ((bs[i]?).getD false) s':=hq;rw [e1] at hq;exact wpAny_truthy_bool hq
  .intro h' tk iZ;have e1:(c9 its.toArray.size).any (fun i=>(bs[i]?).getD false)=bs.any id:=by
    have B3:its.toArray.size=bs.length:=by
     rw [G4,<- hl,A8]
    rw [B3,Bool.eq_iff_iff,List.any_eq_true,List.any_eq_true]
    constructor
    .rintro ⟨i,hi,hb⟩;rw [List.mem_range] at hi;rw [M5 hi,Option.getD_some] at hb;exact ⟨bs[i],dG hi,hb⟩
    .rintro ⟨b,hb,ht⟩;obtain ⟨i,hi,rfl⟩:=X1.mp hb;exact ⟨i,List.mem_range.mpr hi,by rw [M5 hi];exact ht⟩
   rw [e1];have I1:Inv X pins O H { s with heap:=h',toks:=tk }:=I.kept fun b o q=>iZ b o (by
    intro hm
    have:b=s.heap.objs.size:=by simpa using hm
    rw [this] at q;exact absurd (Heap.lt_size q) (Y7 _)) (hk b o q)
   exact ⟨.bl _,H,I1,rfl,q⟩
theorem q_any(iS:X.calm=calm:=by rfl):QCall X (.builtin "any") (rAnyB calm):=by subst iS;exact ⟨p_any⟩
theorem any_r{cm:Bool} : rAnyB cm [.ref p] H Q=∃ bs:List Bool,cm=true/\H p=some (.lst (bs.map V.bl))/\Q (.bl (bs.any id)) H:=rfl
end
def gI(l : Addr) : It :=
  ⟨fun i H => ∃ xs x, H l = some (.lst xs) /\ xs[i]? = some x,
   fun i H v H' => ∃ t xs x, H l = some (.lst xs) /\ xs[i]? = some x /\ H t = none /\ v = .ref t /\ H' = A0 H t (.tup [.int i, x]),
   fun i H => ∃ xs, H l = some (.lst xs) /\ xs.length <= i⟩
theorem aiZ{P:Program}{w:World}{pos:Pos}(e it l:Addr)(L1:e≠it) :
  Turn P w K (.Tuple elts x1 pos) (gI l) [e,it] e (fun i h=>(∃ old,IsEnum h e it ((i:Nat):Int) old)/\h.IsListIter it l i) where
 mem:=by simp
 obj:=fun i h ⟨⟨old,he⟩,hi⟩ c hc=>by
  have q:c=e\/c=it:=by simpa using hc
  rcases q with rfl | rfl
  .exact ⟨_,he,fun v q=>by cases q⟩
  .obtain ⟨o,e,c,d⟩:=hi;exact ⟨o,e,fun v z=>by rw [d] at z;cases z⟩
 keep:=fun i h h' ⟨⟨old,he⟩,hi⟩ k=>⟨⟨old,k e (by simp) _ he⟩,hi.at fun o q=>k it (by simp) o q⟩
 item:=by
  intro X hP hw hK hc i pins s O H E I hf ⟨⟨old,he⟩,hi⟩ hg;subst hP hw hK;obtain ⟨xs,x,e1,hx⟩:=hg;obtain ⟨its1,T6,p1,_⟩:=I.list (D4.of (K:=X.K) e1);obtain ⟨u1,C7,r1⟩:=T6.get hx;refine wpAny_pyNext_enum_item he hi p1.isList (x:=u1) (by simpa using C7) L1 fun h' b1 b2 b3 b4 b5=>⟨_,rfl,wpAny_letOwnedTupleGo_enum b1 fun h2' c1 c2=>?_⟩
  have aV:e<s.heap.objs.size:=Heap.lt_size he;have up:∀ c o,c≠e->h'.get? c=some o->h2'.get? c=some o:=fun c o hc q=>(c2.2 c hc).trans q
  have hT:=up _ _ (Nat.ne_of_gt aV) b3;have nT:∀ c∈[e,it],c≠s.heap.objs.size:=fun c hc=>by
   have q:c=e\/c=it:=by simpa using hc
   refine K8 ?_
   rcases q with rfl | rfl
   .exact aV
   .obtain ⟨o,q,_⟩:=hi;exact Heap.lt_size q
  refine ⟨.ref s.heap.objs.size,A0 H s.heap.objs.size (.tup [.int i,x]),I.turnNew (t':=s.toks+1) (ch:=[e,it]) hf (fun c u hc q=>?_) (C3 _) ⟨by show 2<=sizeLine;decide,[.int i s.toks,u1],.cons ⟨_,rfl⟩ (.cons r1 .nil),?_⟩,rfl,⟨_,xs,x,e1,hx,I.fresh,rfl,rfl⟩,
   ⟨⟨_,c1⟩,b2.at fun o q=>up _ o L1.symm q⟩,fun c hc=>by rw [A9 (nT c hc)];exact (hf c hc).1⟩
  .have q1:c≠e/\c≠it:=⟨fun q=>hc (by simp [q]),fun q=>hc (by simp [q])⟩
   exact up c u q1.1 (b5 c u q1.1 q1.2 q)
  .exact ⟨_,hT,rfl,_,rfl⟩
 done:=by
  intro X hP hw hK hc i pins s O H E I hf ⟨⟨old,he⟩,hi⟩ hg;subst hP hw hK;obtain ⟨xs,e1,cM⟩:=hg;obtain ⟨its1,T6,p1,_⟩:=I.list (D4.of (K:=X.K) e1);have q1:=T6.length;obtain ⟨f0,f1,f2,f3,f4,f5⟩:=hf it (by simp);exact wpAny_pyNext_enum_end (I.ok.hd hc) he hi p1.isList (by simp;lia) fun h' eb=>⟨rfl,I.turned (t':=s.toks) (fun b o hb q=>eb b o hb q) f0 f1 f3 f4 f5⟩
 self:=fun _ _ _ _ _ st h=>by
  obtain ⟨⟨old,he⟩,_⟩:=st;exact wpAny_pyIter_enum he h
section
variable {X:Cx}
def iEnum(ta:TA):TI:=fun O H R=>ta O H fun vs H1=>∃ (l:Addr) (xs:List V),vs=[.ref l]/\H1 l=some (.lst xs)/\R (gI l) H1
theorem amy{a:Expr}{p pos:Pos}(hg:Gl X "enumerate")(hm:X.mg "enumerate"=none)(ha:PA X [a] ta)(h1:K2 a=false:=by rfl) :
  PI X (.Tuple elts x1 tpos) (.Call (.Name "enumerate" p) [a] [] pos) (iEnum ta):=by
 intro pins s O H R I h;refine Call_ (x9 I hg hm boot_enumerate (PyProof.Rows.callWith_type1 (C2 (ha pos pins s O H _ I h) fun us s1 ⟨vs,H1,I1,r1,q1⟩=>?_) (N2 h1) rfl));obtain ⟨l,xs,rfl,e1,q⟩:=q1;obtain ⟨u1,rfl,cN⟩:=vals1 r1
 cases cN
 obtain ⟨its1,T6,p1,_⟩:=I1.list (D4.of (K:=X.K) e1);refine call_enumerate_list p1.isList fun h' z1 z2 z3 z4=>wpAny_pyIter_enum z1 ?_
 refine ⟨s1.heap.objs.size+1,[s1.heap.objs.size+1,s1.heap.objs.size],_,_,H1,rfl,I1.kept (t':=s1.toks) z4,aiZ _ s1.heap.objs.size l (Z4 (by lia)),⟨⟨_,z1⟩,z2⟩,fun b hb=>?_,q⟩;have aU:s1.heap.objs.size<=b:=by
  have e:b=s1.heap.objs.size+1\/b=s1.heap.objs.size:=by simpa using hb
  rcases e with rfl | rfl
  .exact o9 _ _
  .exact C3 _
 exact I1.fpOk aU (I1.hok.fresh aU)
theorem pI{a:Expr}{p pos:Pos}(hm:X.mg "enumerate"=none)(ha:QA X [a] ta)(hg:Gl X "enumerate":=by rfl)(h1:K2 a=false:=by rfl) :
  QI X (.Tuple elts x1 tpos) (.Call (.Name "enumerate" p) [a] [] pos) (iEnum ta):=⟨amy hg hm ha.out h1⟩
end
theorem akw{R:It->Hp->Prop} : iEnum ta O H R=ta O H fun vs H1=>∃ (l:Addr) (xs:List V),vs=[.ref l]/\H1 l=some (.lst xs)/\R (gI l) H1:=rfl
theorem forE{l:Addr}(Pv:Nat->St->Hp->Prop)(h0:Pv 0 O H)(hl:∀ i O H,Pv i O H->H l=some (.lst xs))(hs:∀ i x t O H,xs[i]?=some x->Pv i O H->H t=none->g (.ref t) O (A0 H t (.tup [.int i,x])) fun σ2 H2=>tb { D with nx:=Pv (i+1),ct:=Pv (i+1),bk:=D.nx } σ2 H2)(hd:∀ O H,Pv xs.length O H->D.nx O H):ForIt (gI l) g tb D O H:=by
 refine ⟨fun i m O H=>m=xs.length-i/\i<=xs.length/\Pv i O H,⟨xs.length,by simp,G3 _,h0⟩,?_⟩;rintro i m O H ⟨rfl,hi,p⟩;have e1:=hl i O H p
 by_cases D3:i<xs.length
 .refine .inr ⟨⟨xs,xs[i],e1,by simp⟩,Pv (i+1),fun σ' H' p'=>⟨_,by lia,rfl,D3,p'⟩,fun v H' y=>?_⟩;obtain ⟨t,xs',x,f1,hx,ht,rfl,rfl⟩:=y;rw [e1] at f1;cases f1;exact hs i x t O H hx p ht
 .have e:i=xs.length:=by lia
  subst e;exact .inl ⟨⟨xs,e1,by lia⟩,hd O H p⟩
def MO(P:Program)(w:World)(K:PySem.W.Frag)(mg:Str->Option Value)(base:Heap)(k:Nat)(C:Addr)(m:Str)(ps:List Str)(sp:Sp):Prop:=
 ∃ f fd,FnOk P w K mg base E5 k f fd ps sp/\Cls K C/\Meth K C m f/\Binds K fd ps []
def KO(P:Program)(w:World)(K:PySem.W.Frag)(mg:Str->Option Value)(base:Heap)(k:Nat)(C:Addr)(x:Str)(ps:List Str)(sp:Sp):Prop:=
 ∃ f fd,FnOk P w K mg base E5 k f fd ps sp/\Mk K C f/\mg x=some (.ref C)/\Binds K fd ps []
section
variable {X:Cx} {k:Nat} {C:Addr} {ps:List Str} {sp:Sp} {x m:Str} {p pos apos:Pos} {e o:Expr} {es:List Expr} {ta:TE} {t:TA}
theorem xU(G:KO X.prog X.w X.K X.mg X.base k C x ps sp)(hr:Room (k+1) X.A)(ha:QA X (e::es) t)(hg:Gl X x:=by rfl)(h1:K2 e=false:=by rfl)(h2:U6 es=true:=by rfl)(P7:(x==("__debug__" : Str))=false:=by decide) :
  QE X (.Call (.Name x p) (e::es) [] pos) (tMake C sp [] E0 t):=by
 obtain ⟨f,fd,F,M,hm,hb⟩:=G;exact ⟨alH M F hr hg hm hb .nil pass0 ha.out P7 (N2 h1) (bQ h2)⟩
theorem amz(ho:QE X o ta)(G:MO X.prog X.w X.K X.mg X.base k C m ps sp)(hr:Room k X.A)(ha:QA X (e::es) t)(h1:K2 e=false:=by rfl)(h2:U6 es=true:=by rfl){pl:Sem Bool}(ht:eval (.Call (.Attribute o m apos) (e::es) [] pos) X.env=(do
   let ov <- eval o X.env
   standAt apos.atName
   let (f,first) <- holding [ov] (getMethod ov m pl)
   callWith pos f first (backTo pos (starEach (e::es) X.env)) (backToKw pos (keywordEach [] X.env))):=by rfl) :
  QE X (.Call (.Attribute o m apos) (e::es) [] pos) (tMeth C m sp [] E0 ta t):=by
 obtain ⟨f,fd,F,c,hm,hb⟩:=G;exact ⟨alG ho.out c hm F hr hb .nil pass0 ha.out (N2 h1) (bQ h2) ht⟩
theorem akx(ho:QE X o ta)(G:MO X.prog X.w X.K X.mg X.base k C m ps sp)(hr:Room k X.A){pl:Sem Bool}(ht:eval (.Call (.Attribute o m apos) [] [] pos) X.env=(do
   let ov <- eval o X.env
   standAt apos.atName
   let (f,first) <- holding [ov] (getMethod ov m pl)
   callWith pos f first (backTo pos (starEach [] X.env)) (backToKw pos (keywordEach [] X.env))):=by rfl) :
  QE X (.Call (.Attribute o m apos) [] [] pos) (tMeth C m sp [] E0 ta tNil):=by
 obtain ⟨f,fd,F,c,hm,hb⟩:=G;exact ⟨ajN ho.out c hm F hr hb .nil pass0 ht⟩
end
section
variable {C:Addr} {m f:Str} {sp:Sp} {K:PySem.W.Frag} {ta tv:TE} {t:TA} {O:St} {H:Hp} {Q:VK} {D:Ends}
theorem amA:tMake C sp [] E0 t O H Q=t O H fun vs H1=>∀ x dx,H1 x=none->H1 dx=none->dx≠x->sp (.ref x::(vs++[])) (A0 (A0 H1 dx (.own x)) x (.ins C dx [])) (fun v H2=>v=.non/\Q (.ref x) H2) E0:=rfl
theorem amB:tMeth C m sp [] E0 ta t O H Q=ta O H fun x H1=>∃ a dx fs,x=.ref a/\H1 a=some (.ins C dx fs)/\fs.lookup m=none/\t O H1 fun vs H2=>sp (x::(vs++[])) H2 Q E0:=rfl
theorem aoc:tFld K ta f O H Q=ta O H fun x H1=>∃ a C dx fs v,x=.ref a/\H1 a=some (.ins C dx fs)/\Cls K C/\NoAttr K C f/\fs.lookup f=some v/\Q v H1:=rfl
theorem amC:sFld K ta tv f D O H=tv O H fun y H1=>ta O H1 fun x H2=>∃ a C dx fs,x=.ref a/\H2 a=some (.ins C dx fs)/\Cls K C/\NoAttr K C f/\fs.length<1000/\D.nx O (A0 H2 a (.ins C dx (putF f y fs))):=rfl
end
section
variable {X:Cx} {o e:Expr} {apos cpos:Pos} {td ty:TE}
theorem lB(hu:X.A.units+1<cLine)(ho:QE X o td)(he:QE X e ty)(h1:K2 e=false:=by rfl)(J8:attributeBase o "get" X.env (eval o X.env)=eval o X.env:=by rfl)(J9:(apos.endLine==cpos.line)=true:=by rfl):QE X (.Call (.Attribute o "get" apos) [e] [] cpos) (oN td ty):=
 ⟨ajW hu ho.out he.out ⟨J8,by rw [N2 h1];rfl,J9,by rw [N2 h1];rfl⟩⟩
theorem aky : oN td ty O H Q=td O H fun x H1=>∃ a,x=.ref a/\bP H1 a/\ty O H1 fun y H2=>∃ o,DGet H2 a y o/\Q (o.getD .non) H2:=rfl
end
end L2
set_option maxRecDepth 100000
namespace L2
open PySem PySem.Spec PyProof.Rows
abbrev Rl:=Str×List Str
def tupR(z:Rl):HO:=.tup ((z.1::z.2).map V.str)
structure IsRules(H:Hp)(a:Addr)(rs:List Addr)(R:List Rl):Prop where
 top:H a=some (.lst (rs.map V.ref))
 row:Paired (fun r z=>H r=some (tupR z)) rs R
theorem IsRules.same{R:List Rl}(h:IsRules H a rs R)(s:Same H H'):IsRules H' a rs R:=⟨s _ _ h.top,M9 h.row fun _ _ e=>s _ _ e⟩
theorem IsRules.cat{l:Addr}{ts us:List Addr}{A B:List Rl}(x:IsRules H a ts A)(y:IsRules H b us B)(n:H l=none):IsRules (A0 H l (.lst (ts.map V.ref++us.map V.ref))) l (ts++us) (A++B):=by
 refine ⟨by rw [A6,D9],?_⟩;have ap:∀ {l₁ zh:List Addr} {l₂ zg:List Rl},Paired (fun r z=>A0 H l (.lst (ts.map V.ref++us.map V.ref)) r=some (tupR z)) l₁ l₂->Paired (fun r z=>A0 H l (.lst (ts.map V.ref++us.map V.ref)) r=some (tupR z)) zh zg->Paired (fun r z=>A0 H l (.lst (ts.map V.ref++us.map V.ref)) r=some (tupR z)) (l₁++zh) (l₂++zg):=by
  intro l₁ zh l₂ zg h
  induction h with
  | nil=>intro h';exact h'
  | cons h t ih=>intro h';exact .cons h (ih h')
 exact ap (M9 x.row fun r z h=>D0 h n) (M9 y.row fun r z h=>D0 h n)
theorem IsRules.len{R:List Rl}(h:IsRules H a rs R):rs.length=R.length:=Paired.length h.row
def N5(z:Rl):List Str:=if z.1=("great" : Str) then z.2.drop 1 else if z.1=("as" : Str) then z.2.take 1 else if z.1=("row" : Str)\/z.1=("marks" : Str)\/z.1=("over" : Str) then z.2 else []
def jobD(w:Str):Str:=if w=("row" : Str) then "letter" else if w=("marks" : Str) then "mark" else w
def D1(R:List Rl):List (Str×Str):=R.flatMap fun z=>(N5 z).map fun p=>(p,jobD z.1)
def hasW(R:List Rl)(w:Str):Bool:=R.any fun z=>decide (z.1=w)
def figO(c:Nat):Bool:=decide (48<=c)&&decide (c<=57)
def gJ:List Str:=["letter", "mark", "over"]
def NC(figs:Bool)(g:Str->Str)(PL:List (Str×Str)):Prop:=∀ i p j,PL[i]?=some (p,j)->j=g p/\(p∈(PL.take i).map (·.1)->j∈gJ)/\(figs=true->∀ c∈p.cps.toList,figO c=false)/\p.length<=1000
def keysP(PL:List (Str×Str)):List Str:=G0 [] (PL.map (·.1))
theorem xV{R:List Rl}{z:Rl}(h:R[i]?=some z):D1 (R.take (i+1))=D1 (R.take i)++(N5 z).map fun p=>(p,jobD z.1):=by
 rw [b9,h];unfold D1;rw [V8]
 simp
theorem xW(R:List Rl)(i:Nat):∃ more,D1 R=D1 (R.take i)++more:=⟨D1 (R.drop i),by
 unfold D1;rw [<- V8,Y5]⟩
theorem ahK(PL:List (Str×Str))(p j:Str):keysP (PL++[(p,j)])=dd (keysP PL) p:=by
 unfold keysP G0;rw [D9,Y6];rfl
theorem lC(x:Str)(PL:List (Str×Str)):x∈keysP PL↔x∈PL.map (·.1):=by
 unfold keysP;rw [m4]
 simp
theorem pJ(PL:List (Str×Str)):(keysP PL).length<=PL.length:=by
 have:=gD (PL.map (·.1)) []
 rw [A8] at this
 simpa [keysP] using this
def rowsW(R:List Rl)(w:Str):List (List Str):=(R.filter fun z=>decide (z.1=w)).map (·.2)
theorem xX{R:List Rl}{z:Rl}{w:Str}(h:R[i]?=some z):rowsW (R.take (i+1)) w=if z.1=w then rowsW (R.take i) w++[z.2] else rowsW (R.take i) w:=by
 rw [b9,h];unfold rowsW;rw [dD,D9]
 by_cases e:z.1=w
 .rw [if_pos e,Option.toList_some,fO (by simpa using e)];rfl
 .rw [if_neg e,Option.toList_some,dA (by simpa using e)];simp
theorem Z5{hi:Option Int}(hk:1<=k)(hn:1<=n):¬ (HT.sIx n 0 (some (k:Int))=0/\HT.sIx n n hi=n):=fun h=>by
 have:=h.1
 rw [HT.sIx_nat] at this;lia
abbrev jobsL:List (C5×V):=[((Sum.inr ("row" : Str):C5),V.str "letter"),(Sum.inr ("marks" : Str),V.str "mark"),(Sum.inr ("great" : Str),V.str "great"),(Sum.inr ("as" : Str),V.str "as"),(Sum.inr ("over" : Str),V.str "over")]
def bV(w:Str):Prop:=w=("row" : Str)\/w=("marks" : Str)\/w=("great" : Str)\/w=("as" : Str)\/w=("over" : Str)
theorem pK{w:Str}(h:bV w):valV jobsL (Sum.inr w)=some (.str (jobD w)):=by
 rcases h with rfl | rfl | rfl | rfl | rfl <;> decide +kernel
theorem akz{w:Str}(h:¬ bV w):valV jobsL (Sum.inr w)=none:=by
 unfold bV at h;have n:∀ u:Str,w≠u->¬ ((Sum.inr u:C5)=Sum.inr w):=fun u hu e=>hu (Sum.inr.inj e).symm
 rw [p9 (n _ (fun e=>h (.inl e))),p9 (n _ (fun e=>h (.inr (.inl e)))),p9 (n _ (fun e=>h (.inr (.inr (.inl e))))),p9 (n _ (fun e=>h (.inr (.inr (.inr (.inl e)))))),p9 (n _ (fun e=>h (.inr (.inr (.inr (.inr e))))))];rfl
theorem gK{z:Rl}{p:Str}(h:p∈N5 z):bV z.1:=by
 unfold N5 at h;unfold bV
 split at h
 .rename_i e;exact .inr (.inr (.inl e))
 .split at h
  .rename_i e;exact .inr (.inr (.inr (.inl e)))
  .split at h
   .rename_i e
    rcases e with e | e | e
    .exact .inl e
    .exact .inr (.inl e)
    .exact .inr (.inr (.inr (.inr e)))
   .cases h
theorem aod{R:List Rl}{z:Rl}{p:Str}(hz:R[i]?=some z)(hp:(N5 z)[j]?=some p) :
  (D1 R)[(D1 (R.take i)).length+j]?=some (p,jobD z.1)/\(D1 R).take ((D1 (R.take i)).length+j)=D1 (R.take i)++((N5 z).take j).map fun p=>(p,jobD z.1):=by
 obtain ⟨more,e⟩:=xW R (i+1);rw [xV hz,X2] at e;have hj:j<(N5 z).length:=(K0.mp hp).1;rw [e]
 constructor
 .rw [fN (o9 _ _),Nat.add_sub_cancel_left,jR (by rw [A8];exact hj),U9,hp];rfl
 .rw [List.take_append,j9 (o9 _ _),Nat.add_sub_cancel_left,List.take_append_of_le_length (by rw [A8];lia),List.map_take]
theorem aoe{c d:Nat} : (([c]:List Nat)<[d])↔c<d:=by
 constructor
 .intro h;cases h with
  | rel h=>exact h
  | cons h=>cases h
 .intro h;exact List.Lex.rel h
theorem C9.same(e:Same H H')(h:C9 K H a xs):C9 K H' a xs:=by
 rcases h with (h | ⟨o,h⟩) | h
 .exact .inl (.inl (e _ _ h))
 .exact .inl (.inr ⟨o,e _ _ h⟩)
 .exact .inr h
theorem C9.dput{d:Addr}{o:HO}(hd:H d=some (.dK kvs))(h:C9 K H a xs):C9 K (A0 H d o) a xs:=by
 rcases h with (h | ⟨o,h⟩) | h
 .exact .inl (.inl (by rw [A9 (fun e=>by rw [e,hd] at h;cases h)];exact h))
 .exact .inl (.inr ⟨o,by rw [A9 (fun e=>by rw [e,hd] at h;cases h)];exact h⟩)
 .exact .inr h
def spHas(K:PySem.W.Frag):Sp:=fun vs H Q _=>∃ (a:Addr) (ts:List Addr) (R:List Rl) (w:Str),vs=[.ref a,.str w]/\IsRules H a ts R/\R.length<=1000/\∀ H',Same H H'->Q (.bl (hasW R w)) H'
def xY(K:PySem.W.Frag):Sp:=fun vs H Q _=>∃ (t:Addr) (z:Rl),vs=[.ref t]/\H t=some (tupR z)/\∀ p H',Same H H'->C9 K H' p ((N5 z).map V.str)->Q (.ref p) H'
def xZ:Sp:=fun vs H Q _=>∃ (d:Addr) (p j:Str) (fg:Bool) (ks:List Str) (g:Str->Str),vs=[.ref d,.str p,.str j,.bl fg]/\H d=some (.dK (C4 ks fun t=>.str (g t)))/\p.length<=1000/\(p∈ks->g p=j/\j∈gJ)/\(fg=true->∀ c∈p.cps.toList,figO c=false)/\
 ∀ H',Same H H'->Q (.bl false) H'
def V5(R:List Rl):List Str:=if hasW R "blanks"=true then [" "] else []
def jobG(g:Str->Str):Str->V:=fun t=>if t=(" " : Str) then .str "over" else .str (g t)
def yA(K:PySem.W.Frag):Sp:=fun vs H Q _=>∃ (a:Addr) (ts:List Addr) (R:List Rl) (g:Str->Str),vs=[.ref a]/\IsRules H a ts R/\R.length<=1000/\(D1 R).length<=10000/\NC (hasW R "figures") g (D1 R)/\(" " : Str)∉(D1 R).map (·.1)/\
 ∀ d H',H d=none->Same H H'->H' d=some (.dK (C4 (keysP (D1 R)++V5 R) (jobG g)))->Q (.ref d) H'
def ordF(f b:Bool)(j ll ml md:Addr):List (Str×V):=putF "made" (.ref md) (putF "mark_line" (.ref ml) (putF "letter_line" (.ref ll) (putF "jobs" (.ref j) (putF "behind" (.bl b) (putF "figures" (.bl f) [])))))
theorem yB(f b:Bool)(j ll ml md:Addr):(ordF f b j ll ml md).lookup ("figures" : Str)=some (V.bl f):=by
 unfold ordF;rw [K7,if_neg (by decide +kernel),K7,if_neg (by decide +kernel),K7,if_neg (by decide +kernel),K7,if_neg (by decide +kernel),K7,if_neg (by decide +kernel),K7,if_pos rfl]
theorem agt(f b:Bool)(j ll ml md:Addr):(ordF f b j ll ml md).lookup ("behind" : Str)=some (V.bl b):=by
 unfold ordF;rw [K7,if_neg (by decide +kernel),K7,if_neg (by decide +kernel),K7,if_neg (by decide +kernel),K7,if_neg (by decide +kernel),K7,if_pos rfl]
theorem yC(f b:Bool)(j ll ml md:Addr):(ordF f b j ll ml md).lookup ("jobs" : Str)=some (V.ref j):=by
 unfold ordF;rw [K7,if_neg (by decide +kernel),K7,if_neg (by decide +kernel),K7,if_neg (by decide +kernel),K7,if_pos rfl]
theorem afP(f b:Bool)(j ll ml md:Addr):(ordF f b j ll ml md).lookup ("letter_line" : Str)=some (V.ref ll):=by
 unfold ordF;rw [K7,if_neg (by decide +kernel),K7,if_neg (by decide +kernel),K7,if_pos rfl]
theorem ahL(f b:Bool)(j ll ml md:Addr):(ordF f b j ll ml md).lookup ("mark_line" : Str)=some (V.ref ml):=by
 unfold ordF;rw [K7,if_neg (by decide +kernel),K7,if_pos rfl]
theorem yD(f b:Bool)(j ll ml md:Addr){m:Str}(h:m∉(["made", "mark_line", "letter_line", "jobs", "behind", "figures"]:List Str)):(ordF f b j ll ml md).lookup m=none:=by
 unfold ordF;have n:∀ u∈(["made", "mark_line", "letter_line", "jobs", "behind", "figures"]:List Str),¬ m=u:=fun u hu e=>h (by rw [e];exact hu)
 rw [K7,if_neg (n _ (by simp)),K7,if_neg (n _ (by simp)),K7,if_neg (n _ (by simp)),K7,if_neg (n _ (by simp)),K7,if_neg (n _ (by simp)),K7,if_neg (n _ (by simp))];rfl
theorem IsRules.but{x:Addr}{R:List Rl}(h:IsRules H a rs R)(s:SameBut x H H'){dx:Addr}{fs:List (Str×V)}(hx:H x=some (.ins C dx fs)):IsRules H' a rs R:=
 ⟨s _ _ (fun e=>by have:=h.top;rw [e,hx] at this;cases this) h.top,M9 h.row fun t z e=>s _ _ (fun q=>by rw [q,hx] at e;cases e) e⟩
theorem SameBut.trans{x:Addr}(a:SameBut x H H1)(b:SameBut x H1 H2):SameBut x H H2:=fun c o hc h=>b c o hc (a c o hc h)
theorem Same.but{x:Addr}(a:Same H H1):SameBut x H H1:=fun c o _ h=>a c o h
def Q9(R:List Rl)(w:Str)(L:List Str):Prop:=Q6 (edges (rowsW R w)) (toldL (rowsW R w)) L/\∀ p∈toldL (rowsW R w),p∈L
structure IsOrder(C:Addr)(H:Hp)(x:Addr)(g:Str->Str)(R:List Rl)(L M:List Str):Prop where
 ob:∃ dx j ll ml md,H x=some (.ins C dx (ordF (hasW R "figures") (hasW R "behind") j ll ml md))/\H j=some (.dK (C4 (keysP (D1 R)++V5 R) (jobG g)))/\H ll=some (.lst (L.map V.str))/\H ml=some (.lst (M.map V.str))
 l1:Q9 R "row" L
 l2:Q9 R "marks" M
def yE(K:PySem.W.Frag):Sp:=fun vs H Q _=>∃ (a:Addr) (ts:List Addr) (R:List Rl) (w:Str) (rank:Str->Nat),vs=[.ref a,.str w]/\IsRules H a ts R/\R.length<=1000/\(rowsW R w).flatten.length<=100000/\(∀ e∈edges (rowsW R w),rank e.1<rank e.2)/\
 ∀ (l:Addr) (line:List Str) (H':Hp),H l=none->Same H H'->H' l=some (.lst (line.map V.str))->Q6 (edges (rowsW R w)) (toldL (rowsW R w)) line->(∀ p∈toldL (rowsW R w),p∈line)->Q (.ref l) H'
def cellF(ns:List Int)(k:Int):Int:=if k<(ns.length:Int) then ns.getD k.toNat 0 else 0
def lD(K:PySem.W.Frag):Sp:=fun vs H Q _=>∃ (a:Addr) (ns:List Int) (k:Int),vs=[.ref a,.int k]/\D4 K H a (ns.map V.int)/\0<=k/\Q (.int (cellF ns k)) H
def LA:List Nat:=SG.filter fun c=>!figO c
def LB:List Nat:=LA++[48,49,50,51,52,53,54,55,56,57]
def listF(d:Bool):List Nat:=if d=true then LB else LA
def lenF(d:Bool):Int:=if d=true then 93 else 83
def pL(ns:List Int):Bool:=decide (cellF ns 1 / 12 % 2=0)
def stepO:List Int:=[1,2,4,5,7,8,10,11,13,23,44,80]
def stO(ns:List Int):Int:=(F7 stepO (cellF ns 1 % 12)).getD 0
def eE(ns:List Int)(k:Int):Nat:=(F7 (listF (pL ns)) ((cellF ns 0+k*stO ns) % lenF (pL ns))).getD 33
theorem aof{l:List Nat}(nd:l.Nodup){i j:Int}(h0:0<=i)(h1:i<l.length)(h2:0<=j)(h3:j<l.length)(h:(F7 l i).getD 33=(F7 l j).getD 33):i=j:=by
 have li:i.toNat<l.length:=by lia
 have lj:j.toNat<l.length:=by lia
 have a1:F7 l i=some l[i.toNat]:=by
  have:=Q2 (xs:=l) (j:=i.toNat) (v:=l[i.toNat]) (M5 li)
  rw [show ((i.toNat:Nat):Int)=i by lia] at this;exact this
 have a2:F7 l j=some l[j.toNat]:=by
  have:=Q2 (xs:=l) (j:=j.toNat) (v:=l[j.toNat]) (M5 lj)
  rw [show ((j.toNat:Nat):Int)=j by lia] at this;exact this
 rw [a1,a2] at h
 have:=(j8.mp nd)
 rw [bC] at this
 rcases Nat.lt_trichotomy i.toNat j.toNat with z | z | z
 .exact absurd h (this _ _ li lj z)
 .lia
 .exact absurd h.symm (this _ _ lj li z)
theorem ahM{m s t b k l:Int}(ht:s*t % m=1)(e:(b+k*s) % m=(b+l*s) % m)(h0:0<=k)(h1:k<m)(h2:0<=l)(h3:l<m):k=l:=by
 have d1:m ∣ (k-l)*s:=by
  have:=Int.dvd_of_emod_eq_zero (Int.emod_eq_emod_iff_emod_sub_eq_zero.mp e)
  rwa [show (b+k*s)-(b+l*s)=(k-l)*s by rw [Int.sub_mul];lia] at this
 have d3:m ∣ (k-l)*(s*t):=by rw [<- Int.mul_assoc];exact Int.dvd_mul_of_dvd_left d1
 have d4:m ∣ s*t-1:=⟨s*t / m,by have:=Int.emod_add_mul_ediv (s*t) m;lia⟩
 have d5:m ∣ (k-l)*(s*t-1):=Int.dvd_mul_of_dvd_right d4;have d6:=Int.dvd_sub d3 d5;rw [show (k-l)*(s*t)-(k-l)*(s*t-1)=k-l by rw [Int.mul_sub,Int.mul_one];lia] at d6;have d7:=Int.emod_eq_emod_iff_emod_sub_eq_zero.mpr (Int.emod_eq_zero_of_dvd d6)
 rwa [Int.emod_eq_of_lt h0 h1,Int.emod_eq_of_lt h2 h3] at d7
end L2
set_option maxRecDepth 100000
namespace L2
open PySem PySem.Spec PyProof.Rows
open AutoSeq1 (wpAny_loadPart' idx_int)
abbrev bareL(ys:Array Value)(k:Nat):Obj:=⟨.type "list",none,.seq ys k,#[]⟩
abbrev anyT(dd:Option Addr)(ys:Array Value)(k:Nat)(ss:Array (Option Value)):Obj:=⟨.type "tuple",dd,.seq ys k,ss⟩
theorem adV{l:Addr}{ys zs:Array Value}{k2:Nat}{dd:Option Addr}(short:¬ (!ys.isEmpty&&Builtin.List.listTooLong (ys.size+zs.size))=true)(h1:ys.size<=sizeLine)(h2:ys.size+zs.size<=sizeLine+1) :
  Meets (Builtin.«list.extend» ⟨[.ref l,.ref b],[]⟩) (fun _ R s=>s.heap.get? l=some (bareL ys k)/\s.heap.get? b=some (anyT dd zs k2 ss)/\R (.ok (.ret .none)) { s with heap:=s.heap.update l (Obj.mapSeq (·++zs)),toks:=s.toks }):=by
 refine .of_wp fun _ _ _ R s ⟨gl,gb,fin⟩=>?_
 rcases s with ⟨hp,gens,dr,tk,sys⟩
 have c1:=idx_int;have c2:=AutoSeq1.sub_tuple_tuple;have c3:=AutoSeq1.sub_list_list;have c4:=AutoSeq1.sub_tuple_list;have c5:=AutoSeq1.sub_list_tuple;have room:(ys++zs).size<=sizeLine+1:=Array.size_append ▸ h2
 wp_walk using (wpAny_updateSeq gl rfl (hz:=h1) (_hz':=room)),wpAny_loadPart' gl,wpAny_loadPart' gb
 exact ⟨_,rfl,fin⟩
section
variable {X:Cx}
def yF(K:PySem.W.Frag):V->List V->Hp->VK->Prop:=fun x vs H Q=>∃ l b xs zs,x=.ref l/\vs=[.ref b]/\H l=some (.lst xs)/\C9 K H b zs/\xs.length+zs.length<=sizeLine/\Q .non (A0 H l (.lst (xs++zs)))
theorem ahN:kC X "list.extend" (yF X.K):=by
 intro pins s O H x vs v us Q I rx rv h;obtain ⟨l,b,xs,zs,rfl,rfl,hH,hB,hz,q⟩:=h
 cases rx
 obtain ⟨u,rfl,ru⟩:=rv.one
 cases ru
 obtain ⟨z,its,n,r,hl,e⟩:=I.lstM hH;obtain ⟨its2,r2,⟨⟨c,dct,dt,sl⟩,e2,hc,n2,hd⟩,t9⟩:=I.tuple hB
 replace hc:c=.type "tuple":=hc
 replace hd:dt=.seq its2.toArray n2:=hd
 subst hc hd;have q1:=r2.length;have hsz:its.toArray.size+its2.toArray.size<=sizeLine:=by rw [G4,G4];lia
 have T5:¬ (!its.toArray.isEmpty&&Builtin.List.listTooLong (its.toArray.size+its2.toArray.size))=true:=by
  rw [oE hsz,Bool.and_false];exact K6
 refine call_meets F.slot_list_extend ⟨_,e,rfl⟩ F.entry_list_extend (F.args_list_extend_2 _ _)
  (adV (k:=n) (k2:=n2) (dd:=dct) (ss:=sl) T5 (by rw [G4];lia) (by lia)) ⟨e,e2,?_⟩
 refine ⟨.non,_,I.lset (its':=its++its2) hH e (by simp) (r.append r2) ?_,rfl,q⟩;rw [C8];lia
theorem ai4(hK:X.K=K:=by rfl):QMt X "list.extend" (yF K):=by subst hK;exact ⟨fun pins s O H x xs v us Q I rx rv h=>ahN pins s O H x xs v us Q I rx rv h⟩
end
def yG(l : Addr)(n : Nat) : It :=
  ⟨fun i H => ∃ xs x, H l = some (.lst xs) /\ i<n /\ xs[n-1-i]? = some x,
   fun i H v H' => H' = H /\ ∀ xs, H l = some (.lst xs) -> xs[n-1-i]? = some v,
   fun i H => ∃ xs, H l = some (.lst xs) /\ n <= i⟩
theorem ae4:bootBuiltins "reversed"=some (.type "reversed"):=by decide +kernel
section
variable {X:Cx}
def iRev(ta:TA):TI:=fun O H R=>ta O H fun vs H1=>∃ (l:Addr) (xs:List V),vs=[.ref l]/\H1 l=some (.lst xs)/\R (yG l xs.length) H1
end
theorem amD{R:It->Hp->Prop} : iRev ta O H R=ta O H fun vs H1=>∃ (l:Addr) (xs:List V),vs=[.ref l]/\H1 l=some (.lst xs)/\R (yG l xs.length) H1:=rfl
abbrev z8(l:Addr):Obj:={ cls:=.type "list_iterator",data:=.fields #[.ref l,.int 0 0] }
abbrev eF(it:Addr)(i:Int):Obj:={ cls:=.type "enumerate",data:=.fields #[.none,.bool false,.ref it,rawInt i,.none,.none] }
abbrev anyL(dd:Option Addr)(ys:Array Value)(k:Nat)(ss:Array (Option Value)):Obj:=⟨.type "list",dd,.seq ys k,ss⟩
set_option maxHeartbeats 4000000 in
theorem aea{l:Addr}{ys:Array Value}{dd:Option Addr}{i:Int}{t:Tok}(fits:Builtin.SmallTypes.fitsIndex i=true) :
  Meets (Builtin.«enumerate.__new__» ⟨[.type "enumerate",.ref l],[("start",.int i t)]⟩) (fun _ R s=>s.heap.get? l=some (anyL dd ys k ss)/\
   R (.ok (.ret (.ref (s.heap.push (z8 l)).objs.size))) { s with heap:=(s.heap.push (z8 l)).push (eF s.heap.objs.size i) }):=by
 refine .of_wp fun _ _ _ R s ⟨gl,fin⟩=>?_
 rcases s with ⟨hp,gens,dr,tk,sys⟩
 have c1:=sub_enumerate;have isl:Heap.IsList (Shared.heap ⟨hp,gens,dr,tk,sys⟩) l ys:=⟨_,gl,rfl,k,rfl⟩
 wp_walk using wpAny_loadPart' gl
 refine wpAny_stack_any fun _=>wpAny_pure ?_
 split
 case h_1 c _ _ _ _ _=>
  generalize (c==Value.type "enumerate")=truth
  cases truth <;> (wp_walk using wpAny_loadPart' gl,wpAny_pyIter_list isl;exact ⟨_,rfl,fin⟩)
 case h_2=>(wp_walk using wpAny_loadPart' gl,wpAny_pyIter_list isl;exact ⟨_,rfl,fin⟩)
theorem ahO(a b:Value):checkTypeCall "enumerate" ⟨[a],[("start",b)]⟩=pure ():=by kernel_rfl
theorem ai5(a b:Value):checkBuiltinCall "enumerate.__new__" ⟨[.type "enumerate",a],[("start",b)]⟩=pure ():=by kernel_rfl
theorem ahP(a b c:Value):argsOk "object.__init__" ⟨[a,b],[("start",c)]⟩:=by
 unfold argsOk;rw [signature?_of (id:="object.__init__") (n:="__init__".toList.reverse) (o:="object".toList.reverse) (by kernel_rfl) F.owner_object]
 kernel_rfl
theorem ai6{self b c:Value} : Meets (Builtin.«object.__init__» ⟨[self,b],[("start",c)]⟩) (fun _ R s=>s.TypeIs self "enumerate"/\R (.ok (.ret .none)) s):=by
 have c1:=F.called_enumerate.init.lookup;have c2:=F.called_enumerate.made;refine .of_wp fun _ _ _ R s ⟨isT,fin⟩=>?_
 repeat (any_goals (first | assumption | wp_step))
 exact ⟨_,rfl,fin⟩
section
variable {prog:Program} {w:World} {A:Around} {E:Value->Shared->Prop} {s:Shared}
theorem adW{l:Addr}{ys:Array Value}{i:Int}{t:Tok}{Q:Value->Shared->Prop}(isl:s.heap.IsList l ys)(fits:Builtin.SmallTypes.fitsIndex i=true)(fin:∀ h',IsEnum h' (s.heap.objs.size+1) s.heap.objs.size i .none->h'.IsListIter s.heap.objs.size l 0->(∀ b o,s.heap.get? b=some o->h'.get? b=some o)->Q (.ref (s.heap.objs.size+1)) { s with heap:=h' }) :
  wpAny (model prog w) A (call (.type "enumerate") [.ref l] [("start",.int i t)]) Q E s:=by
 obtain ⟨⟨c,dd,dt,ss⟩,gl,hc,k,hd⟩:=isl;obtain rfl:c=.type "list":=hc;obtain rfl:dt=.seq ys k:=hd;obtain ⟨hd0,tl,c1⟩:=F.called_enumerate.mro;have c2:=F.called_enumerate.made;have c3:=F.called_enumerate.sub;have c4:=F.called_enumerate.notType;have c5:=F.called_enumerate.canCreate;have c6:=F.called_enumerate.init.lookup;have c7:=ahO (.ref l) (.int i t);refine wpAny_call (codeAny_of_tree (show wpAny _ _ (callAny (.type "enumerate") _) _ _ _ from wpAny_pure ⟨Code.quiet_builtin _ (by decide +kernel),codeAny_builtin F.entry_type_call ?_⟩));rw [Around.under_plain (weight_type_call_type "enumerate" [.ref l] [("start",.int i t)]) (units_type_call_type "enumerate" [.ref l] [("start",.int i t)])]
 repeat (any_goals (first | assumption | wp_step))
 have z:(s.heap.push (z8 l)).objs.size=s.heap.objs.size+1:=Heap.size_push ..;have made:IsEnum ((s.heap.push (z8 l)).push (eF s.heap.objs.size i)) (s.heap.objs.size+1) s.heap.objs.size i .none:=by
  have g:=Heap.get?_push_size (s.heap.push (z8 l)) (o:=eF s.heap.objs.size i) rfl;rw [z] at g;exact g
 have done:=fin _ made ⟨_,Heap.get?_push_of_some _ (Heap.get?_push_size _ rfl),rfl,rfl⟩ fun b o g=>Heap.get?_push_of_some _ (Heap.get?_push_of_some _ g)
 refine codeAny_mono (codeAny_call_builtin F.called_enumerate.plain F.entry_enumerate_new (wpAny_of_eq (ai5 _ _) (aea (dd:=dd) (k:=k) (ss:=ss) fits prog w A.in1 (wants (fun v s2=>v=.ref (s.heap.objs.size+1)/\s2={ s with heap:=(s.heap.push (z8 l)).push (eF s.heap.objs.size i) }) E) s ⟨gl,?_,?_⟩))) ?_
 .rw [z]
 .rfl
 .intro r s1 hr
  rcases r with e | fl
  .exact hr
  .cases fl with
   | ret v=>
    obtain ⟨rfl,rfl⟩:=hr;have isT:Shared.TypeIs { s with heap:=(s.heap.push (z8 l)).push (eF s.heap.objs.size i) } (.ref (s.heap.objs.size+1)) "enumerate":=⟨_,made,rfl⟩
    have c8:=F.called_enumerate.init.bind (.ref (s.heap.objs.size+1))
    repeat (any_goals (first | assumption | wp_step))
    have ran:=ai6 (self:=.ref (s.heap.objs.size+1)) (b:=.ref l) (c:=.int i t) prog w A.in1 (wants (fun v s2=>v=.none/\s2={ s with heap:=(s.heap.push (z8 l)).push (eF s.heap.objs.size i) }) E) _ ⟨isT,rfl,rfl⟩;refine codeAny_mono (codeAny_call_builtin F.called_enumerate.init.plain F.entry_object_init (F.called_enumerate.init.check _ _ _ _ _ _ _ _ isT (ahP _ _ _) ran)) fun r s2 hr=>?_
    rcases r with e | fl
    .exact hr
    .cases fl with
     | ret v=>
      obtain ⟨rfl,rfl⟩:=hr
      repeat (any_goals (first | assumption | wp_step))
     | next=>exact hr.elim
     | brk=>exact hr.elim
     | cont=>exact hr.elim
   | next=>exact hr.elim
   | brk=>exact hr.elim
   | cont=>exact hr.elim
end
theorem aog{w:World}{A:Around}(calm:A.handled=none){l:Addr}(apart:l≠it)(ys:Array Value) :
  Draws prog w A it [it,l] (ys.size+1) (fun i v=>1<=i/\ys[i-1]?=some v) (fun i h=>1<=i/\h.IsListIter it l (i-1)/\h.IsList l ys):=by
 have D:=Draws.list (prog:=prog) (w:=w) calm it l apart ys;refine ⟨fun i h st=>D.live (i-1) h st.2,fun i h h' st same=>⟨st.1,D.frame (i-1) h h' st.2 same⟩,fun i s Q E hi st fin=>?_,fun s Q E st fin=>D.done s Q E st.2 fin⟩;refine D.item (i-1) s Q E (by have:=st.1;lia) st.2 fun x h' tk px st' sb=>fin x h' tk ⟨st.1,px⟩ ⟨by lia,?_⟩ sb
 rw [show i+1-1=i-1+1 by have:=st.1;lia];exact st'
theorem aoh{w : World}{A : Around}(calm : A.handled = none){l: Addr}{ys : Array Value}(none : ys[i]? = none) :
    Draws prog w A it [it, l] (i+1) (fun _ _ => True) (fun k h => k = i+1 /\ h.IsListIter it l i /\ h.IsList l ys) :=
  ⟨fun _ _ st => let ⟨o, ho, _⟩ := st.2.1; ⟨o, ho⟩, fun _ _ _ st same => ⟨st.1, st.2.1.at fun o g => same it (by simp) o g, st.2.2.at fun o g => same l (by simp) o g⟩,
   fun k s Q E hk st => absurd st.1 (by lia), fun s Q E st fin => wpAny_nextOf_list_end calm st.2.1 st.2.2 none fin⟩
def Ite1(l : Addr) : It :=
  ⟨fun i H => ∃ xs x, H l = some (.lst xs) /\ xs[i]? = some x,
   fun i H v H' => ∃ t xs x, H l = some (.lst xs) /\ xs[i]? = some x /\ H t = none /\ v = .ref t /\ H' = A0 H t (.tup [.int (i+1 : Nat), x]),
   fun i H => ∃ xs, H l = some (.lst xs) /\ xs.length <= i⟩
theorem ahQ{P:Program}{w:World}{pos:Pos}(e it l:Addr)(L1:e≠it) :
  Turn P w K (.Tuple elts x1 pos) (Ite1 l) [e,it] e (fun i h=>(∃ old,IsEnum h e it ((i+1:Nat):Int) old)/\h.IsListIter it l i) where
 mem:=by simp
 obj:=fun i h ⟨⟨old,he⟩,hi⟩ c hc=>by
  have q:c=e\/c=it:=by simpa using hc
  rcases q with rfl | rfl
  .exact ⟨_,he,fun v q=>by cases q⟩
  .obtain ⟨o,e,c,d⟩:=hi;exact ⟨o,e,fun v z=>by rw [d] at z;cases z⟩
 keep:=fun i h h' ⟨⟨old,he⟩,hi⟩ k=>⟨⟨old,k e (by simp) _ he⟩,hi.at fun o q=>k it (by simp) o q⟩
 item:=by
  intro X hP hw hK hc i pins s O H E I hf ⟨⟨old,he⟩,hi⟩ hg;subst hP hw hK;obtain ⟨xs,x,e1,hx⟩:=hg;obtain ⟨its1,T6,p1,_⟩:=I.list (D4.of (K:=X.K) e1);obtain ⟨u1,C7,r1⟩:=T6.get hx;have D3:i<its1.length:=(K0.mp C7).1;obtain ⟨ol,gl,cl,_⟩:=p1.isList;have nli:l≠it:=fun q=>by
   obtain ⟨oi,gi,ci,_⟩:=hi;rw [q,gi] at gl
   cases gl
   rw [ci] at cl;exact absurd cl (by decide)
  have nle:e≠l:=fun q=>by
   rw [<- q,he] at gl
   cases gl
   exact absurd (show Value.type "enumerate"=Value.type "list" from cl) (by decide)
  refine wpAny_pyNext_enum_itemD (i:=i+1) (aog (A:=X.A.in1) (show X.A.in1.handled=none from I.ok.hd hc) nli its1.toArray) he ⟨by lia,by simpa using hi,p1.isList⟩ (by simp;lia) L1 (by simp [L1,nle]) fun y h' tk py b1 b2 b3 b4 b5=>?_
  obtain rfl:u1=y:=by
   have:=py.2
   simp [C7] at this;exact this
  refine ⟨_,rfl,wpAny_letOwnedTupleGo_enum b1 fun h2' c1 c2=>?_⟩;have aV:e<s.heap.objs.size:=Heap.lt_size he;have up:∀ c o,c≠e->h'.get? c=some o->h2'.get? c=some o:=fun c o hc q=>(c2.2 c hc).trans q
  have hT:=up _ _ (Nat.ne_of_gt aV) b3;have nT:∀ c∈[e,it],c≠s.heap.objs.size:=fun c hc=>by
   have q:c=e\/c=it:=by simpa using hc
   refine K8 ?_
   rcases q with rfl | rfl
   .exact aV
   .obtain ⟨o,q,_⟩:=hi;exact Heap.lt_size q
  refine ⟨.ref s.heap.objs.size,A0 H s.heap.objs.size (.tup [.int (i+1:Nat),x]),I.turnNew (t':=tk+1) (ch:=[e,it]) hf (fun c u hc q=>?_) (C3 _) ⟨by show 2<=sizeLine;decide,[.int (i+1:Nat) tk,u1],.cons ⟨_,rfl⟩ (.cons r1 .nil),?_⟩,rfl,⟨_,xs,x,e1,hx,I.fresh,rfl,rfl⟩,
   ⟨⟨_,c1⟩,(show h'.IsListIter it l (i+1) by simpa using b2.2.1).at fun o q=>up _ o L1.symm q⟩,fun c hc=>by rw [A9 (nT c hc)];exact (hf c hc).1⟩
  .have q1:c≠e/\c≠it:=⟨fun q=>hc (by simp [q]),fun q=>hc (by simp [q])⟩
   exact up c u q1.1 (b5 c u q1.1 q1.2 q)
  .exact ⟨_,hT,rfl,_,rfl⟩
 done:=by
  intro X hP hw hK hc i pins s O H E I hf ⟨⟨old,he⟩,hi⟩ hg;subst hP hw hK;obtain ⟨xs,e1,cM⟩:=hg;obtain ⟨its1,T6,p1,_⟩:=I.list (D4.of (K:=X.K) e1);have q1:=T6.length;obtain ⟨f0,f1,f2,f3,f4,f5⟩:=hf it (by simp);exact wpAny_pyNext_enum_endD (aoh (A:=X.A.in1) (show X.A.in1.handled=none from I.ok.hd hc) (ys:=its1.toArray) (i:=i) (by simp;lia)) he ⟨rfl,hi,p1.isList⟩ fun h' eb=>⟨rfl,I.turned (t':=s.toks) (fun b o hb q=>eb b o hb q) f0 f1 f3 f4 f5⟩
 self:=fun _ _ _ _ _ st h=>by
  obtain ⟨⟨old,he⟩,_⟩:=st;exact wpAny_pyIter_enum he h
theorem ai7:bootBuiltins "enumerate"=some (.type "enumerate"):=by decide +kernel
section
variable {X:Cx}
def pM(ta:TA):TI:=fun O H R=>ta O H fun vs H1=>∃ (l:Addr) (xs:List V),vs=[.ref l]/\H1 l=some (.lst xs)/\R (Ite1 l) H1
theorem akA{a:Expr}{p pos:Pos}(hg:Gl X "enumerate")(hm:X.mg "enumerate"=none)(ha:PA X [a] ta)(h1:K2 a=false:=by rfl) :
  PI X (.Tuple elts x1 tpos) (.Call (.Name "enumerate" p) [a] [⟨some "start",.Constant (.int 1) ck cpos,kpos⟩] pos) (pM ta):=by
 intro pins s O H R I h;refine wpAny_Call_Name_kw (x9 I hg hm ai7 (PySem.W.callWith_of (P:=fun _=>True) ?_ (fun _ _=>⟨_,.inr (.inl rfl),PySem.W.Looks.of_pure rfl⟩) (PyProof.Rows.evalArgs_kw2 rfl (C2 (ha pos pins s O H _ I h) fun us s1 ⟨vs,H1,I1,r1,q1⟩=>?_) (N2 h1))))
 .rw [N2 h1];rfl
 have kw:PK X [⟨some "start",.Constant (.int 1) ck cpos,kpos⟩] (tCons (tC (.int 1)) tNil):=alI uW anr;refine C2 (kw pos pins s1 O H1 (fun zs H2=>zs=[.int 1]/\H2=H1) I1 ⟨rfl,rfl⟩) fun ws s2 ⟨zs,H2,I2,rz,e1,e2⟩=>⟨trivial,?_⟩
 subst e1 e2;obtain ⟨l,xs,rfl,e1,q⟩:=q1;obtain ⟨u1,rfl,cN⟩:=vals1 r1
 cases cN
 obtain ⟨u2,rfl,sN⟩:=vals1 rz;obtain ⟨t,rfl⟩:=sN;obtain ⟨its1,T6,p1,_⟩:=I2.list (D4.of (K:=X.K) e1);refine adW p1.isList (by decide) fun h' z1 z2 z4=>wpAny_pyIter_enum z1 ?_
 refine ⟨s2.heap.objs.size+1,[s2.heap.objs.size+1,s2.heap.objs.size],_,_,H2,rfl,I2.kept (t':=s2.toks) z4,ahQ _ s2.heap.objs.size l (Z4 (by lia)),⟨⟨_,z1⟩,z2⟩,fun b hb=>?_,q⟩;have aU:s2.heap.objs.size<=b:=by
  have e:b=s2.heap.objs.size+1\/b=s2.heap.objs.size:=by simpa using hb
  rcases e with rfl | rfl
  .exact o9 _ _
  .exact C3 _
 exact I2.fpOk aU (I2.hok.fresh aU)
theorem akB{a:Expr}{p pos:Pos}(hm:X.mg "enumerate"=none)(ha:QA X [a] ta)(hg:Gl X "enumerate":=by rfl)(h1:K2 a=false:=by rfl) :
  QI X (.Tuple elts x1 tpos) (.Call (.Name "enumerate" p) [a] [⟨some "start",.Constant (.int 1) ck cpos,kpos⟩] pos) (pM ta):=⟨akA hg hm ha.out h1⟩
end
theorem ai9{R:It->Hp->Prop} : pM ta O H R=ta O H fun vs H1=>∃ (l:Addr) (xs:List V),vs=[.ref l]/\H1 l=some (.lst xs)/\R (Ite1 l) H1:=rfl
theorem forE1{l:Addr}(Pv:Nat->St->Hp->Prop)(h0:Pv 0 O H)(hl:∀ i O H,Pv i O H->H l=some (.lst xs))(hs:∀ i x t O H,xs[i]?=some x->Pv i O H->H t=none->g (.ref t) O (A0 H t (.tup [.int (i+1:Nat),x])) fun σ2 H2=>tb { D with nx:=Pv (i+1),ct:=Pv (i+1),bk:=D.nx } σ2 H2)(hd:∀ O H,Pv xs.length O H->D.nx O H):ForIt (Ite1 l) g tb D O H:=by
 refine ⟨fun i m O H=>m=xs.length-i/\i<=xs.length/\Pv i O H,⟨xs.length,by simp,G3 _,h0⟩,?_⟩;rintro i m O H ⟨rfl,hi,p⟩;have e1:=hl i O H p
 by_cases D3:i<xs.length
 .refine .inr ⟨⟨xs,xs[i],e1,by simp⟩,Pv (i+1),fun σ' H' p'=>⟨_,by lia,rfl,D3,p'⟩,fun v H' y=>?_⟩;obtain ⟨t,xs',x,f1,hx,ht,rfl,rfl⟩:=y;rw [e1] at f1;cases f1;exact hs i x t O H hx p ht
 .have e:i=xs.length:=by lia
  subst e;exact .inl ⟨⟨xs,e1,by lia⟩,hd O H p⟩
end L2
set_option maxRecDepth 100000
namespace L2
open PySem PySem.Spec PyProof.Rows
def pN:V->List V->Hp->VK->Prop:=fun x vs H Q=>∃ (l:Addr) (zs:List Int) (z:Int),x=.ref l/\vs=[.int z]/\H l=some (.lst (zs.map V.int))/\z∈zs/\Q .non (A0 H l (.lst ((zs.erase z).map V.int)))
theorem yH:∀ {vs:List Value} {zs:List Int},IntsAre vs zs->∀ {j:Nat} {z:Int},zs[j]?=some z->∃ t,vs[j]?=some (.int z t)
 | _,_,.nil,_,_,h=>by simp at h
 | _,_,.cons _ _ _,0,_,h=>by simp at h;subst h;exact ⟨_,rfl⟩
 | _,_,.cons _ _ r,j+1,z,h=>by
  obtain ⟨t,q⟩:=yH r (j:=j) (z:=z) (by simpa using h);exact ⟨t,by simpa using q⟩
theorem ahR : kC X "list.remove" pN:=by
 intro pins s O H x vs v us Q I rx rv h;obtain ⟨l,zs,zz,rfl,rfl,hH,hm,q⟩:=h
 cases rx
 obtain ⟨u,rfl,ru⟩:=rv.one;obtain ⟨t,rfl⟩:=ru;obtain ⟨z,its,n,r,hl,e⟩:=I.lstM hH;have sa:=vN r;have hj:zs.idxOf zz<zs.length:=cZ.mpr hm;rw [A8] at hl;have L9:∀ (j:Nat) (hj:j<its.toArray.size),∃ y t',zs[j]?=some y/\its.toArray[j]=.int y t':=fun j mK=>by
  have hj2:j<zs.length:=by rw [hl];simpa using mK
  obtain ⟨t',ht⟩:=yH sa (j:=j) (z:=zs[j]) (by simp);refine ⟨zs[j],t',by simp,?_⟩
  have:=(K0.mp ht).2
  simpa using this
 have hsz:zs.idxOf zz<its.toArray.size:=by rw [G4,<- hl];exact hj
 refine call_meets F.slot_list_remove ⟨_,e,rfl⟩ F.entry_list_remove (F.args_list_remove_2 _ _)
  (MeetsSeq.list_remove l its.toArray n (.int zz t) (isInt zz) (fun y hy=>eq_isInt zz t sa y (by simpa using hy)) (zs.idxOf zz) hsz ?_ (fun m b0 D3=>?_) (by rw [G4,<- hl];rw [A8] at z;exact z)) ⟨e,?_⟩
 .obtain ⟨y,t',h1,h2⟩:=L9 _ hsz;rw [h2]
  have:y=zz:=by
   have:=fQ hj
   rw [M5 hj,this] at h1;exact (Option.some.inj h1).symm
  subst this;simp [isInt]
 .obtain ⟨y,t',h1,h2⟩:=L9 _ b0;rw [h2]
  have:y≠zz:=fun q=>by
   obtain ⟨h3,h4⟩:=K0.mp h1
   have:=List.not_of_lt_findIdx (show m<zs.findIdx (· == zz) from D3)
   rw [h4] at this;simp [q] at this
  simp [isInt,this]
 .refine ⟨.non,_,I.lset (its':=its.eraseIdx (zs.idxOf zz)) hH e ?_ ?_ ?_,rfl,q⟩
  .show its.toArray.eraseIdxIfInBounds (zs.idxOf zz)=_;rw [List.eraseIdxIfInBounds_toArray]
  .rw [List.erase_eq_eraseIdx_of_idxOf (l:=zs) (a:=zz) (w:=rfl),xI];exact r.eraseIdx _
  .rw [A8,List.length_erase_of_mem hm];rw [A8] at z;lia
theorem aja : QMt X "list.remove" pN:=⟨fun pins s O H x xs v us Q I rx rv h=>ahR pins s O H x xs v us Q I rx rv h⟩
theorem aoi{l:Addr}{zs:List Int}{z:Int}(h:H l=some (.lst (zs.map V.int)))(hm:z∈zs)(q:Q .non (A0 H l (.lst ((zs.erase z).map V.int)))):pN (.ref l) [.int z] H Q:=⟨l,zs,z,rfl,rfl,h,hm,q⟩
def rMinL:List V->Hp->VK->Prop:=fun xs H Q=>∃ (p:Addr) (ns:List Int),xs=[.ref p]/\H p=some (.lst (ns.map V.int))/\ns≠[]/\∀ M:Int,M∈ns->(∀ a∈ns,M<=a)->Q (.int M) H
theorem ajb(hc:X.calm=true):CallR X (.builtin "min") rMinL:=by
 intro pins s O H xs us Q I r h;obtain ⟨p,ns,rfl,hH,L1,q⟩:=h;obtain ⟨u,rfl,ru⟩:=vals1 r
 cases ru
 obtain ⟨z,its,n,rr,hl,e⟩:=I.lstM hH;have hi:=vN rr;have hL:s.heap.IsList p its.toArray:=⟨_,e,rfl,n,rfl⟩
 obtain ⟨ys,e2⟩:=hi.allInts.items;have aQ:ns=ys.toList.map (·.1):=by rw [<- hi.numsOf,<- nums_intItems,<- e2]
 have hsz:0<ys.size:=by
  have h3:=List.length_pos_iff.mpr L1;rw [aQ,A8,x6] at h3;exact h3
 rw [e2] at hL;refine min_intList (I.ok.hd hc) hL hsz fun v h' tk hv hk=>?_
 obtain ⟨t,rfl⟩:=intItems_at hv;obtain ⟨h1,h2⟩:=argBest_lt (numAt ys) (ys.size-1);refine ⟨.int _,H,I.kept hk,⟨t,rfl⟩,q _ ?_ fun a ha=>?_⟩
 .rw [aQ,numAt_eq];exact getD_mem (by rw [A8,x6];lia)
 .rw [aQ] at ha;obtain ⟨j,hj,rfl⟩:=mem_getD ha;rw [A8,x6] at hj;rw [<- numAt_eq];exact h2 j (by lia)
theorem aoj(hc:X.calm=calm:=by rfl):QCall X (.builtin "min") (rCalm calm rMinL):=⟨fun pins s O H xs us Q I r h=>ajb (hc.trans h.1) pins s O H xs us Q I r h.2⟩
theorem aok : rMinL [.ref p] H Q=∃ ns:List Int,H p=some (.lst (ns.map V.int))/\ns≠[]/\∀ M:Int,M∈ns->(∀ a∈ns,M<=a)->Q (.int M) H:=
 propext ⟨fun ⟨_,ns,e,h⟩=>(by cases e;exact ⟨ns,h⟩),fun ⟨ns,h⟩=>⟨p,ns,rfl,h⟩⟩
def eG(n:Nat)(fr:St)(Pv:Nat->List V->Hp->Prop)(i:Nat)(ys:List V)(σ2:St)(H2:Hp):Prop:=i<=n/\ys.length<=i/\(∃ v w,σ2=v::w::fr)/\Pv i ys H2
theorem eG.put{fr:St}{Pv:Nat->List V->Hp->Prop}{o o2:Option V}(hi:i<n)(hy:ys.length<=i)(p:Pv (i+1) (ys++[y]) H):eG n fr Pv (i+1) (ys++[y]) (o::o2::fr) H:=
 ⟨hi,by rw [C8,T9];lia,⟨_,_,rfl⟩,p⟩
theorem compE{l:Addr}(fr:St)(Y2:compStart 2 ixs O=none::none::fr)(Pv:Addr->Nat->List V->Hp->Prop)(h0:∀ D,H1 D=none->Pv D 0 [] (A0 H1 D (.lst [])))(hl:∀ D i ys H,H1 D=none->i<=xs.length->Pv D i ys H->H l=some (.lst xs))(hs:∀ D i x t ys H,H1 D=none->i<xs.length->xs[i]?=some x->Pv D i ys H->H D=some (.lst ys)->ys.length<=i->H t=none->c (some (.int i)::some x::fr) (A0 H t (.tup [.int i,x])) fun b H4=>
   if b=true then te (some (.int i)::some x::fr) H4 fun y H5=>H5 D=some (.lst ys)/\ys.length<sizeLine/\eG xs.length fr (Pv D) (i+1) (ys++[y]) (some (.int i)::some x::fr) (A0 H5 D (.lst (ys++[y])))
   else H4 D=some (.lst ys)/\eG xs.length fr (Pv D) (i+1) ys (some (.int i)::some x::fr) H4)(hd:∀ D ys H,H1 D=none->Pv D xs.length ys H->H D=some (.lst ys)->ys.length<=xs.length->Q (.ref D) H):y8 (gI l) 2 ixs (gTup K 2 (gCons (gName 0) (gCons (gName 1) gNil))) c te O Q H1:=by
 intro D hD;refine ⟨xs.length,eG xs.length fr (Pv D),⟨G3 _,G3 _,⟨none,none,Y2⟩,h0 D hD⟩,?_⟩;rintro i ys σ2 H2 ⟨hi,hy,⟨v,w,rfl⟩,p⟩ hDy;have q:=hl D i ys H2 hD hi p
 by_cases D3:i<xs.length
 .refine .inr ⟨D3,⟨xs,xs[i],q,by simp [D3]⟩,fun x H' y=>?_⟩;obtain ⟨t,xs',x',f1,hx,ht,rfl,rfl⟩:=y;rw [q] at f1;cases f1;exact ⟨t,_,rfl,C9.of A6,rfl,_,_,rfl,_,_,rfl,rfl,hs D i x' t ys H2 hD D3 hx p hDy hy ht⟩
 .have e:i=xs.length:=by lia
  subst e;exact .inl ⟨⟨xs,q,C3 _⟩,hd D ys H2 hD p hDy hy⟩
end L2
set_option maxRecDepth 100000
namespace L2
open PySem PySem.Spec PyProof.Rows
section
variable {X:Cx} {o value:Expr} {to tv:TE} {pos tpos:Pos} {st:Stmt} {t:TS} {h₀:ExceptHandler} {hs:List ExceptHandler}
end
end L2
set_option maxRecDepth 100000
namespace L2
open PySem PySem.Spec PyProof.Rows
theorem aol{k:Int}{v:V}{Q:Hp->Prop} : rSetL (.ref p) (.int k) v H Q=∃ xs j,H p=some (.lst xs)/\W1 xs.length k=some j/\Q (A0 H p (.lst (xs.set j v))):=
 propext ⟨fun ⟨_,xs,_,j,e1,e2,h⟩=>(by cases e1;cases e2;exact ⟨xs,j,h⟩),fun ⟨xs,j,h⟩=>⟨p,xs,k,j,rfl,rfl,h⟩⟩
end L2
set_option maxRecDepth 100000
namespace L2
open PySem PySem.Spec PyProof.Rows
def FS(ts bad:List Str)(z:Str->Prop)(fr:List Int):Prop:=fr.Nodup/\∀ n:Int,n∈fr↔∃ (m:Nat) (q:Str),n=(m:Int)/\ts[m]?=some q/\q∉bad/\z q
theorem FS.nil(z:Str->Prop):FS [] [] z []:=⟨by simp,fun n=>by simp⟩
theorem FS.snoc{z:Str->Prop}(h:FS ts bad z fr)(hi:i=ts.length)(hb:q∉bad):(z q->FS (ts++[q]) bad z (fr++[(i:Int)]))/\(¬ z q->FS (ts++[q]) bad z fr):=by
 have L4:∀ (m:Nat) (x:Str),(ts++[q])[m]?=some x↔(ts[m]?=some x\/(m=i/\x=q)):=fun m x=>by
  rcases Nat.lt_trichotomy m ts.length with hm | hm | hm
  .rw [jR hm]
   constructor
   .exact .inl
   .rintro (h | ⟨h,_⟩)
    .exact h
    .lia
  .subst hm;rw [fN (C3 _),Nat.sub_self]
   have:ts[ts.length]?=none:=by simp
   rw [this];simp [hi,eq_comm]
  .have h1:ts[m]?=none:=by simp;lia
   have h2:(ts++[q])[m]?=none:=by simp;lia
   rw [h1,h2]
   simp
   lia
 have iN:(i:Int)∉fr:=fun hm=>by
  obtain ⟨m,x,e,h1,_⟩:=(h.2 _).mp hm
  have:=(K0.mp h1).1
  lia
 refine ⟨fun hz=>⟨?_,fun n=>?_⟩,fun hz=>⟨h.1,fun n=>?_⟩⟩
 .rw [Q1];refine ⟨h.1,by simp,fun x hx y hy e=>iN ?_⟩;rw [<- E6.mp hy,<- e];exact hx
 .rw [F9,h.2,E6]
  constructor
  .rintro (⟨m,x,e,h1,h2,h3⟩ | rfl)
   .exact ⟨m,x,e,(L4 m x).mpr (.inl h1),h2,h3⟩
   .exact ⟨i,q,rfl,(L4 i q).mpr (.inr ⟨rfl,rfl⟩),hb,hz⟩
  .rintro ⟨m,x,e,h1,h2,h3⟩
   rcases (L4 m x).mp h1 with h1 | ⟨rfl,rfl⟩
   .exact .inl ⟨m,x,e,h1,h2,h3⟩
   .exact .inr e
 .rw [h.2]
  constructor
  .rintro ⟨m,x,e,h1,h2,h3⟩;exact ⟨m,x,e,(L4 m x).mpr (.inl h1),h2,h3⟩
  .rintro ⟨m,x,e,h1,h2,h3⟩
   rcases (L4 m x).mp h1 with h1 | ⟨rfl,rfl⟩
   .exact ⟨m,x,e,h1,h2,h3⟩
   .exact absurd h3 hz
theorem yI(nd:ts.Nodup)(h1:ts[i]?=some q)(h2:ts[j]?=some q):i=j:=by
 obtain ⟨a1,b1⟩:=K0.mp h1;obtain ⟨a2,b2⟩:=K0.mp h2
 have:=j8.mp nd
 rw [bC] at this
 rcases Nat.lt_trichotomy i j with hl | hl | hl
 .exact absurd (b1.trans b2.symm) (this i j a1 a2 hl)
 .exact hl
 .exact absurd (b2.trans b1.symm) (this j i a2 a1 hl)
theorem FS.take{z:Str->Prop}(nd:ts.Nodup)(h:FS ts bad z fr){M:Nat}{p:Str}(hp:ts[M]?=some p):FS ts (bad++[p]) z (fr.erase (M:Int)):=by
 refine ⟨h.1.erase _,fun n=>?_⟩;rw [h.1.mem_erase_iff,h.2]
 constructor
 .rintro ⟨L1,m,x,e,h1,h2,h3⟩;refine ⟨m,x,e,h1,fun hm=>?_,h3⟩
  rcases F9.mp hm with hm | hm
  .exact h2 hm
  .rw [E6.mp hm] at h1;exact L1 (by rw [e,yI nd h1 hp])
 .rintro ⟨m,x,e,h1,h2,h3⟩;refine ⟨fun e2=>h2 ?_,m,x,e,h1,fun hm=>h2 (N8 _ hm),h3⟩
  have:m=M:=by lia
  subst this;rw [hp] at h1;cases h1
  simp
theorem FS.turn{z z':Str->Prop}(nd:ts.Nodup)(h:FS ts bad z fr){y:Str}(L1:∀ q,q≠y->(z' q↔z q))(hy:¬ z y)(hm:ts[m]?=some y)(hb:y∉bad):(z' y->FS ts bad z' (fr++[(m:Int)]))/\(¬ z' y->FS ts bad z' fr):=by
 have iN:(m:Int)∉fr:=fun h1=>by
  obtain ⟨k,x,e,h2,_,h3⟩:=(h.2 _).mp h1
  have:k=m:=by lia
  subst this;rw [hm] at h2;cases h2;exact hy h3
 have W7:∀ (k:Nat) (x:Str),ts[k]?=some x->x≠y\/(k=m/\x=y):=fun k x hk=>by
  by_cases e:x=y
  .subst e;exact .inr ⟨yI nd hk hm,rfl⟩
  .exact .inl e
 refine ⟨fun hz=>⟨?_,fun n=>?_⟩,fun hz=>⟨h.1,fun n=>?_⟩⟩
 .rw [Q1];refine ⟨h.1,by simp,fun x hx w hw e=>iN ?_⟩;rw [<- E6.mp hw,<- e];exact hx
 .rw [F9,h.2,E6]
  constructor
  .rintro (⟨k,x,e,h1,h2,h3⟩ | rfl)
   .rcases W7 k x h1 with c | ⟨_,rfl⟩
    .exact ⟨k,x,e,h1,h2,(L1 x c).mpr h3⟩
    .exact absurd h3 hy
   .exact ⟨m,y,rfl,hm,hb,hz⟩
  .rintro ⟨k,x,e,h1,h2,h3⟩
   rcases W7 k x h1 with c | ⟨rfl,rfl⟩
   .exact .inl ⟨k,x,e,h1,h2,(L1 x c).mp h3⟩
   .exact .inr e
 .rw [h.2]
  constructor
  .rintro ⟨k,x,e,h1,h2,h3⟩
   rcases W7 k x h1 with c | ⟨_,rfl⟩
   .exact ⟨k,x,e,h1,h2,(L1 x c).mpr h3⟩
   .exact absurd h3 hy
  .rintro ⟨k,x,e,h1,h2,h3⟩
   rcases W7 k x h1 with c | ⟨_,rfl⟩
   .exact ⟨k,x,e,h1,h2,(L1 x c).mp h3⟩
   .exact absurd h3 hz
theorem FS.congr{z z':Str->Prop}(h:FS ts bad z fr)(e:∀ q,z' q↔z q):FS ts bad z' fr:=⟨h.1,fun n=>by rw [h.2];exact ⟨fun ⟨m,x,a,b,c,d⟩=>⟨m,x,a,b,c,(e x).mpr d⟩,fun ⟨m,x,a,b,c,d⟩=>⟨m,x,a,b,c,(e x).mp d⟩⟩⟩
theorem agu{E:List (Str×Str)}(h:FS ts line (fun q=>F8 E line q=0) fr){M:Int}(hM:M∈fr)(cQ:∀ a∈fr,M<=a):∃ (m:Nat) (p:Str),M=(m:Int)/\ts[m]?=some p/\nextP E ts line=some p:=by
 obtain ⟨m,p,e,h1,h2,h3⟩:=(h.2 M).mp hM;refine ⟨m,p,e,h1,?_⟩;rw [xM];obtain ⟨hm,rfl⟩:=K0.mp h1;have e1:ts=ts.take m++ts[m]::ts.drop (m+1):=by rw [<- List.drop_eq_getElem_cons hm,Y5]
 generalize hP:(fun p=>!decide (p∈line)&&decide (∀ e∈E,e.2=p->e.1∈line))=P;have hp:P ts[m]=true:=by
  rw [<- hP];simp only [Y8,Bool.not_eq_true',decide_eq_false_iff_not,decide_eq_true_eq];exact ⟨h2,cnt_zero.mp h3⟩
 have jA:(ts.take m).find? P=none:=by
  rw [List.find?_eq_none];intro x hx hxP;obtain ⟨k,hk,rfl⟩:=X1.mp hx;rw [K5] at hk;rw [List.getElem_take,<- hP] at hxP;simp only [Y8,Bool.not_eq_true',decide_eq_false_iff_not,decide_eq_true_eq] at hxP
  have:=cQ (k:Int) ((h.2 _).mpr ⟨k,ts[k],rfl,by simp,hxP.1,cnt_zero.mpr hxP.2⟩)
  lia
 conv=>lhs;rw [e1]
 rw [List.find?_append,jA,k6,hp];rfl
theorem akC{E:List (Str×Str)}(r:Q6 E ts line)(h:q∈line):F8 E line q=0:=by
 obtain ⟨pre,post,rfl⟩:=List.append_of_mem h
 have:=(eC (r pre q post rfl)).2.2
 rw [cnt_zero] at this ⊢
 intro e he h2;exact N8 _ (this e he h2)
theorem yJ{f:Str->V} : ∀ {ts pre:List Str},(pre++ts).Nodup->U5 (C4 pre f) (C4 ts f)=C4 (pre++ts) f
 | [],pre,_=>by rw [M0];rfl
 | t::ts,pre,h=>by
  have ht:t∉pre:=fun hm=>(Q1.mp h).2.2 t hm t K1 rfl
  show U5 (putK (C4 pre f) (Sum.inr t) (f t)) (C4 ts f)=_;rw [bU _ ht,show C4 (pre++[t]) (fun x=>if x=t then f t else f x)=C4 (pre++[t]) f from T0 fun x _=>by
   by_cases e:x=t
   .rw [if_pos e,e]
   .rw [if_neg e]]
  rw [yJ (pre:=pre++[t]) (by simpa using h)]
  simp
theorem yK:∀ {l m:List Int},l.Nodup->(∀ x∈l,x∈m)->l.length<=m.length
 | [],_,_,_=>G3 _
 | x::l,m,nd,h=>by
  obtain ⟨n1,n2⟩:=V0.mp nd;have hx:=h x K1
  have:=yK (l:=l) (m:=m.erase x) n2 fun y hy=>(List.mem_erase_of_ne (fun e=>n1 (by rw [<- e];exact hy))).mpr (h y (M6 _ hy))
  rw [List.length_erase_of_mem hx] at this;have cP:=List.length_pos_of_mem hx;rw [G5];lia
theorem yL{f:Str->V} : ∀ {qs:List Addr} {ts:List Str},Paired (fun q t=>H q=some (.tup [.str t,f t])) qs ts->Paired (fun q (kx:C5×V)=>C9 K H q [kV kx.1,kx.2]) qs (C4 ts f)
 | _,_,.nil=>.nil
 | _,_,.cons h t=>.cons (.of h) (yL t)
def yM:Sp:=fun vs H Q _=>∃ (a:Addr) (rs:List Addr) (zss:List (List Str)),vs=[.ref a]/\IsRows H a rs zss/\zss.flatten.length<=100000/\
 ∀ l H',H l=none->Same H H'->H' l=some (.lst ((toldL zss).map V.str))->Q (.ref l) H'
def eI:Sp:=fun vs H Q _=>∃ c,vs=[.str ⟨#[c]⟩]/\Q (.bl (figO c)) H
def K3(R:List Rl):List (Str×List Str):=R.filterMap fun z=>if z.1=("great" : Str) then z.2.head?.map fun y=>(y,z.2.drop 1) else none
def D5(R:List Rl):List Str:=G0 [] ((K3 R).map (·.1))
def E7(R:List Rl)(y:Str):List Str:=((K3 R).filter fun e=>decide (e.1=y)).flatMap (·.2)
theorem gL(A B:List Rl):K3 (A++B)=K3 A++K3 B:=by
 unfold K3;rw [jT]
theorem pO{R:List Rl}{z:Rl}(h:R[i]?=some z):K3 (R.take (i+1))=K3 (R.take i)++K3 [z]:=by
 rw [L7 h,gL]
theorem lE{z:Rl}(h:z.1≠("great" : Str)):K3 [z]=[]:=by
 unfold K3;rw [x0,if_neg h];rfl
theorem pP{y:Str}{fs:List Str} : K3 [(("great" : Str),y::fs)]=[(y,fs)]:=by
 unfold K3;rw [x0,if_pos rfl];rfl
theorem pQ{A:List Rl}{y:Str}{fs:List Str}(x:Str):E7 (A++[(("great" : Str),y::fs)]) x=if x=y then E7 A x++fs else E7 A x:=by
 unfold E7;rw [gL,pP,dD,V8]
 by_cases h:x=y
 .subst h;simp
 .have:¬ (y=x):=fun e=>h e.symm
  simp [this,h]
theorem lF{A:List Rl}{y:Str}{fs:List Str} : D5 (A++[(("great" : Str),y::fs)])=dd (D5 A) y:=by
 unfold D5 G0;rw [gL,pP,D9,Y6];rfl
def yN(K:PySem.W.Frag):Sp:=fun vs H Q _=>∃ (a:Addr) (ts:List Addr) (R:List Rl),vs=[.ref a]/\IsRules H a ts R/\(∀ z∈R,z.1=("great" : Str)->z.2≠[])/\R.length<=1000/\(∀ i y,(E7 (R.take i) y).length<=10000)/\
 ∀ d ad H',H d=none->Same H H'->H' d=some (.dK (C4 (D5 R) fun y=>.ref (ad y)))->DL H H' (D5 R) ad (E7 R)->Q (.ref d) H'
theorem pR(xs:List V)(h:i<=j):cutV xs (some (i:Int)) (some (j:Int))=(xs.drop i).take (j-i):=by
 unfold cutV;rw [HT.sIx_nat,HT.sIx_nat]
 by_cases hi:i<=xs.length
 .rw [dI hi]
  by_cases hj:j<=xs.length
  .rw [dI hj]
  .rw [Nat.min_eq_right (by lia),j9 (by rw [k5];exact C3 _),j9 (by rw [k5];lia)]
 .rw [Nat.min_eq_right (by lia:xs.length<=i),jS (C3 _),jS (by lia),List.take_nil,List.take_nil]
structure Used(ks:List Str)(g:Str->V)(z:Rl):Prop where
 gr:z.1=("great" : Str)->∀ p∈z.2.take 1,p∈ks/\g p=.str "letter"
 a1:z.1=("as" : Str)->∀ p∈(z.2.drop 1).take 1,p∈ks/\g p=.str "letter"
 a2:z.1=("as" : Str)->∀ p∈z.2.drop 2,p∈ks/\(g p=.str "letter"\/g p=.str "mark")
def yO(K:PySem.W.Frag):Sp:=fun vs H Q _=>∃ (t d:Addr) (z:Rl) (ks:List Str) (g:Str->V),vs=[.ref t,.ref d]/\H t=some (tupR z)/\H d=some (.dK (C4 ks g))/\Used ks g z/\z.2.length<=1000/\∀ p H',H p=none->Same H H'->H' p=some (.lst [])->Q (.ref p) H'
def yP(K:PySem.W.Frag):Sp:=fun vs H Q _=>∃ (a d:Addr) (ts:List Addr) (R:List Rl) (ks:List Str) (g:Str->V),vs=[.ref a,.ref d]/\IsRules H a ts R/\H d=some (.dK (C4 ks g))/\(∀ z∈R,Used ks g z/\z.2.length<=1000)/\∀ H',Same H H'->Q .non H'
abbrev Tr:=Int×Int×Int
def tupT(s:Tr):HO:=.tup [.int s.1,.int s.2.1,.int s.2.2]
structure StepAt(H:Hp)(r:Addr)(ss:List Tr):Prop where
 ex:∃ ts:List Addr,H r=some (.tup (ts.map V.ref))/\Paired (fun t s=>H t=some (tupT s)) ts ss
theorem StepAt.same{ss:List Tr}(h:StepAt H r ss)(S:Same H H'):StepAt H' r ss:=
 let ⟨ts,h1,h2⟩:=h.ex
 ⟨ts,S _ _ h1,M9 h2 fun _ _ e=>S _ _ e⟩
theorem StepAt.put{d:Addr}{ss:List Tr}{o o':HO}(h:StepAt H r ss)(hd:H d=some o')(hn:∀ xs,o'≠.tup xs):StepAt (A0 H d o) r ss:=by
 obtain ⟨ts,h1,h2⟩:=h.ex;refine ⟨ts,?_,M9 h2 fun t s e=>?_⟩
 .rw [A9 (fun e=>by rw [e,hd] at h1;exact hn _ (Option.some.inj h1))];exact h1
 .rw [A9 (fun q=>by rw [q,hd] at e;exact hn _ (Option.some.inj e))];exact e
theorem StepAt.one{t:Addr}{s:Tr}(h1:H r=some (.tup [.ref t]))(h2:H t=some (tupT s)):StepAt H r [s]:=⟨[t],h1,.cons h2 .nil⟩
def IsMade(H:Hp)(d:Addr)(ks:List Str)(F:Str->List Tr):Prop:=∃ ad:Str->Addr,H d=some (.dK (C4 ks fun y=>.ref (ad y)))/\∀ y∈ks,StepAt H (ad y) (F y)
theorem IsMade.same{d:Addr}{F:Str->List Tr}(h:IsMade H d ks F)(S:Same H H'):IsMade H' d ks F:=
 let ⟨ad,h1,h2⟩:=h
 ⟨ad,S _ _ h1,fun y hy=>(h2 y hy).same S⟩
theorem IsMade.put{d:Addr}{F:Str->List Tr}{ad:Str->Addr}(h1:H d=some (.dK (C4 ks fun y=>.ref (ad y))))(h2:∀ y∈ks,StepAt H (ad y) (F y)){l:Str}(hp:StepAt H p (F l)) :
  IsMade (A0 H d (.dK (putK (C4 ks fun y=>.ref (ad y)) (Sum.inr l) (.ref p)))) d (dd ks l) F:=by
 refine ⟨fun y=>if y=l then p else ad y,?_,fun y hy=>?_⟩
 .rw [A6];have e:∀ t,(if t=l then V.ref p else V.ref (ad t))=V.ref (if t=l then p else ad t):=fun t=>by
   by_cases h:t=l
   .rw [if_pos h,if_pos h]
   .rw [if_neg h,if_neg h]
  unfold dd
  by_cases hl:l∈ks
  .rw [if_pos hl,lA _ hl];exact congrArg (fun x=>some (HO.dK x)) (T0 fun t _=>e t)
  .rw [if_neg hl,bU _ hl];exact congrArg (fun x=>some (HO.dK x)) (T0 fun t _=>e t)
 .by_cases h:y=l
  .subst h;show StepAt _ (if y=y then p else ad y) _;rw [if_pos rfl];exact hp.put h1 (by intro xs e;cases e)
  .show StepAt _ (if y=l then p else ad y) _;rw [if_neg h];refine (h2 y ?_).put h1 (by intro xs e;cases e);unfold dd at hy
   by_cases hl:l∈ks
   .rw [if_pos hl] at hy;exact hy
   .rw [if_neg hl] at hy
    rcases F9.mp hy with q | q
    .exact q
    .exact absurd (E6.mp q) h
structure StI(H H2:Hp)(d:Addr)(P:List Str)(F:Str->List Tr):Prop where
 same:Same H H2
 made:IsMade H2 d (G0 [] P) F
theorem akD(P:List Str)(x:Str):G0 [] (P++[x])=dd (G0 [] P) x:=by
 unfold G0;rw [Y6];rfl
theorem StI.putX{d:Addr}{P:List Str}{F:Str->List Tr}(nd:H d=none)(h:StI H H2 d P F)(hP:P.length<100000){l:Str}(hp:StepAt H2 p (F l)) :
  ∃ kvs o,H2 d=some (.dK kvs)/\DPut H2 d (V.str l) (V.ref p) (A0 H2 d o)/\StI H (A0 H2 d o) d (P++[l]) F:=by
 obtain ⟨ad,h1,h2⟩:=h.made;have hl:=gD P [];rw [V9,Nat.zero_add] at hl;refine ⟨_,_,h1,y7 (k:=Sum.inr l) h1 (by rw [g8];exact G7 (by lia)),h.same.put nd,?_⟩;rw [akD];exact IsMade.put h1 h2 hp
theorem StI.put{d:Addr}{P:List Str}{F:Str->List Tr}(nd:H d=none)(h:StI H H2 d P F)(hP:P.length<100000){l:Str}(hp:StepAt H2 p (F l)) :
  ∃ x,DPut H2 d (V.str l) (V.ref p) x/\StI H x d (P++[l]) F:=
 let ⟨_,_,_,h1,h2⟩:=h.putX nd hP hp
 ⟨_,h1,h2⟩
theorem StI.more{d:Addr}{P:List Str}{F:Str->List Tr}(h:StI H H2 d P F)(S:Same H2 H3):StI H H3 d P F:=⟨h.same.trans S,h.made.same S⟩
theorem StI.frz{d:Addr}{P:List Str}{F:Str->List Tr}{o:HO}(h:StI H H2 d P F)(hf:H2 f=some (.dK kvs))(n:H f=none)(nf:f≠d):StI H (A0 H2 f o) d P F:=
 let ⟨ad,h1,h2⟩:=h.made
 ⟨h.same.put n,ad,by rw [A9 nf.symm];exact h1,fun y hy=>(h2 y hy).put hf (by intro xs e;cases e)⟩
theorem StI.thaw{d:Addr}{P:List Str}{F:Str->List Tr}{q:Obj}{o o':HO}(h:StI H H2 d P F)(hf:H2 f=some (.frz q o'))(n:H f=none)(nf:f≠d):StI H (A0 H2 f o) d P F:=
 let ⟨ad,h1,h2⟩:=h.made
 ⟨h.same.put n,ad,by rw [A9 nf.symm];exact h1,fun y hy=>(h2 y hy).put hf (by intro xs e;cases e)⟩
structure FoI(H H2:Hp)(d f:Addr)(o:Obj)(ts:List Str)(af:Str->Addr)(G:Str->List Str)(P:List Str)(F:Str->List Tr):Prop where
 frz:H2 f=some (.frz o (.dK (C4 ts fun y=>.ref (af y))))
 rows:∀ y∈ts,H2 (af y)=some (.lst ((G y).map V.str))
 st:StI H H2 d P F
theorem FoI.more{d:Addr}{af:Str->Addr}{G:Str->List Str}{P:List Str}{F:Str->List Tr}(h:FoI H H2 d f o ts af G P F)(S:Same H2 H3):FoI H H3 d f o ts af G P F:=⟨S _ _ h.frz,fun y hy=>S _ _ (h.rows y hy),h.st.more S⟩
theorem FoI.put{d:Addr}{af:Str->Addr}{G:Str->List Str}{P:List Str}{F:Str->List Tr}(nd:H d=none)(h:FoI H H2 d f o ts af G P F)(hP:P.length<100000){l:Str}(hp:StepAt H2 p (F l)) :
  ∃ x,DPut H2 d (V.str l) (V.ref p) x/\FoI H x d f o ts af G (P++[l]) F:=by
 obtain ⟨kvs,o',h0,h1,h2⟩:=h.st.putX nd hP hp;refine ⟨_,h1,?_,fun y hy=>?_,h2⟩
 .rw [A9 (fun e=>by have:=h.frz;rw [e,h0] at this;cases this)];exact h.frz
 .rw [A9 (fun e=>by have:=h.rows y hy;rw [e,h0] at this;cases this)];exact h.rows y hy
theorem StI.putL{d:Addr}{P:List Str}{F:Str->List Tr}{o:HO}(h:StI H H2 d P F)(hf:H2 f=some (.lst xs))(n:H f=none):StI H (A0 H2 f o) d P F:=
 let ⟨ad,h1,h2⟩:=h.made
 ⟨h.same.put n,ad,by rw [A9 (fun e=>by rw [e,hf] at h1;cases h1)];exact h1,fun y hy=>(h2 y hy).put hf (by intro xs e;cases e)⟩
structure AsI(H H7 H2:Hp)(d:Addr)(P:List Str)(F:Str->List Tr)(ts:List Addr)(ss:List Tr):Prop where
 st:StI H H2 d P F
 pr:Paired (fun t s=>H2 t=some (tupT s)) ts ss
 sm:Same H7 H2
theorem AsI.putL{H7:Hp}{d:Addr}{P:List Str}{F:Str->List Tr}{ts:List Addr}{ss:List Tr}{o:HO}(h:AsI H H7 H2 d P F ts ss)(hf:H2 f=some (.lst xs))(n:H f=none)(n7:H7 f=none):AsI H H7 (A0 H2 f o) d P F ts ss:=
 ⟨h.st.putL hf n,M9 h.pr fun t s e=>by rw [A9 (fun q=>by rw [q,hf] at e;cases e)];exact e,h.sm.put n7⟩
def asKs(R:List Rl):List Str:=R.filterMap fun z=>if z.1=("as" : Str) then z.2.head? else none
theorem yQ{R:List Rl}{z:Rl}(h:R[i]?=some z):asKs (R.take (i+1))=asKs (R.take i)++asKs [z]:=by
 rw [L7 h];unfold asKs;rw [jT]
theorem yR{z:Rl}(h:z.1≠("as" : Str)):asKs [z]=[]:=by
 unfold asKs;rw [x0,if_neg h];rfl
theorem yS{y:Str}{fs:List Str} : asKs [(("as" : Str),y::fs)]=[y]:=by
 unfold asKs;rw [x0,if_pos rfl];rfl
theorem akE(R:List Rl):(asKs R).length<=R.length:=List.length_filterMap_le _ _
structure Made(R:List Rl)(L M:List Str)(F:Str->List Tr):Prop where
 lt:∀ (i:Nat) y,L[i]?=some y->F y=[(2,(i:Int),0)]
 mr:∀ (i:Nat) y,M[i]?=some y->F y=[(0,(i:Int),0)]
 gl:∀ y∈D5 R,y∈L
 gr:∀ y∈D5 R,∀ (c:Nat) f,(E7 R y)[c]?=some f->F f=[(2,(L.idxOf y:Int),((c+1:Nat):Int))]
 ne:∀ z∈R,z.1=("as" : Str)\/z.1=("great" : Str)->z.2≠[]
 pt:∀ z∈R,z.1=("as" : Str)->∀ q∈z.2.drop 1,q∈L\/q∈M
 as:∀ z∈R,z.1=("as" : Str)->∀ p qs,z.2=p::qs->F p=qs.map fun q=>(F q).headD (0,0,0)
def allKs(R:List Rl)(L M:List Str):List Str:=L++M++(D5 R).flatMap (E7 R)++asKs R
theorem Made.base{R:List Rl}{F:Str->List Tr}(m:Made R L M F)(h:q∈L\/q∈M):∃ s,F q=[s]:=by
 rcases h with h | h
 .obtain ⟨i,hi,e⟩:=X1.mp h;exact ⟨_,m.lt i q (by rw [M5 hi,e])⟩
 .obtain ⟨i,hi,e⟩:=X1.mp h;exact ⟨_,m.mr i q (by rw [M5 hi,e])⟩
theorem Made.letter{R:List Rl}{F:Str->List Tr}(m:Made R L M F)(h:q∈L):F q=[(2,(L.idxOf q:Int),0)]:=by
 have hi:=cZ.mpr h;exact m.lt (L.idxOf q) q (by rw [M5 hi,fQ])
def yT(K:PySem.W.Frag):Sp:=fun vs H Q _=>∃ (a b c:Addr) (ts:List Addr) (R:List Rl) (L M:List Str) (F:Str->List Tr),vs=[.ref a,.ref b,.ref c]/\IsRules H a ts R/\Made R L M F/\H b=some (.lst (L.map V.str))/\H c=some (.lst (M.map V.str))/\(∀ z∈R,z.2.length<=1000)/\R.length<=1000/\(∀ i y,(E7 (R.take i) y).length<=10000)/\(allKs R L M).length<=50000/\
 ∀ d H',H d=none->Same H H'->IsMade H' d (G0 [] (allKs R L M)) F->Q (.ref d) H'
def baseT(L M:List Str)(q:Str):Tr:=if q∈L then (2,(L.idxOf q:Int),0) else (0,(M.idxOf q:Int),0)
def m5(L M:List Str)(R:List Rl):List (Str×List Tr):=R.filterMap fun z=>if z.1=("as" : Str) then z.2.head?.map fun p=>(p,(z.2.drop 1).map (baseT L M)) else none
def putsL(R:List Rl)(L M:List Str):List (Str×List Tr):=
 (L.zipIdx.map fun e=>(e.1,[((2:Int),(e.2:Int),(0:Int))]))++(M.zipIdx.map fun e=>(e.1,[((0:Int),(e.2:Int),(0:Int))]))++((D5 R).flatMap fun y=>(E7 R y).zipIdx.map fun e=>(e.1,[((2:Int),(L.idxOf y:Int),((e.2+1:Nat):Int))]))++m5 L M R
def stepF(R:List Rl)(L M:List Str)(p:Str):List Tr:=((putsL R L M).lookup p).getD []
theorem yU{p:Str}{s:List Tr} : ∀ {l:List (Str×List Tr)},(l.map (·.1)).Nodup->(p,s)∈l->l.lookup p=some s
 | [],_,h=>by cases h
 | (y,t)::l,nd,h=>by
  rw [G6,V0] at nd;rw [fS]
  rcases E8.mp h with h | h
  .obtain ⟨rfl,rfl⟩:=Prod.mk.inj h
   simp
  .have:p≠y:=fun e=>nd.1 (E1.mpr ⟨_,h,e⟩)
   have e:(p==y)=false:=by simpa using this
   rw [e];exact yU nd.2 h
theorem yV(R:List Rl)(L M:List Str):(putsL R L M).map (·.1)=allKs R L M:=by
 have z:∀ (l:List Str) (f:Nat->List Tr),(l.zipIdx.map fun e=>(e.1,f e.2)).map (·.1)=l:=fun l f=>by
  rw [o8];exact List.zipIdx_map_fst 0 l
 have a:(m5 L M R).map (·.1)=asKs R:=by
  unfold m5 asKs;rw [List.map_filterMap]
  congr 1
  funext z
  by_cases h:z.1=("as" : Str)
  .rw [if_pos h,if_pos h]
   cases z.2 <;> rfl
  .rw [if_neg h,if_neg h];rfl
 unfold putsL allKs;rw [D9,D9,D9,z L fun i=>[(2,(i:Int),0)],z M fun i=>[(0,(i:Int),0)],a,List.map_flatMap]
 congr 2
 congr 1
 funext y
 exact z (E7 R y) fun i=>[(2,(L.idxOf y:Int),((i+1:Nat):Int))]
theorem eJ{R:List Rl}(nd:(allKs R L M).Nodup){p:Str}{s:List Tr}(h:(p,s)∈putsL R L M):stepF R L M p=s:=by
 unfold stepF;rw [yU (by rw [yV];exact nd) h];rfl
theorem amE{R:List Rl}(nd:(allKs R L M).Nodup)(gl:∀ y∈D5 R,y∈L)(ne:∀ z∈R,z.1=("as" : Str)\/z.1=("great" : Str)->z.2≠[])(pt:∀ z∈R,z.1=("as" : Str)->∀ q∈z.2.drop 1,q∈L\/q∈M):Made R L M (stepF R L M):=by
 have m1:∀ (i:Nat) y,L[i]?=some y->(y,[((2:Int),(i:Int),(0:Int))])∈putsL R L M:=fun i y h=>by
  refine N8 _ (N8 _ (N8 _ (E1.mpr ⟨(y,i),?_,rfl⟩)));rw [List.mem_zipIdx_iff_getElem?];exact h
 have m2:∀ (i:Nat) y,M[i]?=some y->(y,[((0:Int),(i:Int),(0:Int))])∈putsL R L M:=fun i y h=>by
  refine N8 _ (N8 _ (N3 _ (E1.mpr ⟨(y,i),?_,rfl⟩)));rw [List.mem_zipIdx_iff_getElem?];exact h
 have hb:∀ q,q∈L\/q∈M->stepF R L M q=[baseT L M q]:=fun q hq=>by
  unfold baseT
  by_cases h:q∈L
  .rw [if_pos h];have hi:=cZ.mpr h;exact eJ nd (m1 (L.idxOf q) q (by rw [M5 hi,fQ]))
  .rw [if_neg h];have hm:=hq.resolve_left h;have hi:=cZ.mpr hm;exact eJ nd (m2 (M.idxOf q) q (by rw [M5 hi,fQ]))
 refine ⟨fun i y h=>eJ nd (m1 i y h),fun i y h=>eJ nd (m2 i y h),gl,fun y hy c f h=>eJ nd ?_,ne,pt,fun z hz e p qs ez=>?_⟩
 .refine N8 _ (N3 _ (X3.mpr ⟨y,hy,E1.mpr ⟨(f,c),?_,rfl⟩⟩));rw [List.mem_zipIdx_iff_getElem?];exact h
 .have:(p,qs.map (baseT L M))∈putsL R L M:=N3 _ (dC.mpr ⟨z,hz,by rw [if_pos e,ez];rfl⟩)
  rw [eJ nd this];refine fP fun q hq=>?_
  rw [hb q (pt z hz e q (by rw [ez];exact hq))];rfl
theorem amF{g:Str->Str}{PL:List (Str×Str)}(nc:NC fg g PL):PL.Pairwise fun a b=>a.1=b.1->b.2∈gJ:=by
 rw [bC];intro i j hi hj hij e;refine (nc j PL[j].1 PL[j].2 (by rw [M5 hj])).2.1 ?_;rw [<- e];refine E1.mpr ⟨PL[i],?_,rfl⟩;rw [List.mem_take_iff_getElem];exact ⟨i,by lia,rfl⟩
theorem gM{g:Str->Str}{PL:List (Str×Str)}(nc:NC fg g PL){p j:Str}(h:(p,j)∈PL):g p=j:=by
 obtain ⟨i,hi,e⟩:=X1.mp h;exact (nc i p j (by rw [M5 hi,e])).1.symm
theorem yW{g:Str->Str}{PL:List (Str×Str)}(nc:NC fg g PL){j:Str}(hj:j∉gJ):((PL.filter fun e=>decide (e.2=j)).map (·.1)).Nodup:=by
 rw [j8,List.pairwise_map];refine List.Pairwise.imp_of_mem ?_ ((amF nc).filter _);intro a b _ hb h e
 have:=h e
 have sP:b.2=j:=by simpa using (U1.mp hb).2
 rw [sP] at this;exact hj this
theorem lG{w:Str}(h:bV w):(jobD w=("great" : Str)↔w="great")/\(jobD w=("as" : Str)↔w="as")/\(jobD w=("letter" : Str)↔w="row")/\(jobD w=("mark" : Str)↔w="marks")/\(jobD w=("over" : Str)↔w="over"):=by
 rcases h with rfl | rfl | rfl | rfl | rfl <;> decide +kernel
theorem yX{R:List Rl}{p j:Str} : (p,j)∈D1 R↔∃ z∈R,p∈N5 z/\jobD z.1=j:=by
 unfold D1;rw [X3]
 constructor
 .rintro ⟨z,hz,h⟩;obtain ⟨q,hq,e⟩:=E1.mp h;obtain ⟨rfl,rfl⟩:=Prod.mk.inj e;exact ⟨z,hz,hq,rfl⟩
 .rintro ⟨z,hz,hp,rfl⟩;exact ⟨z,hz,E1.mpr ⟨p,hp,rfl⟩⟩
theorem eK(z:Rl)(R:List Rl):D1 (z::R)=((N5 z).map fun p=>(p,jobD z.1))++D1 R:=by
 unfold D1;rw [U0]
theorem m6{z:Rl} : (z.1=("great" : Str)->N5 z=z.2.drop 1)/\(z.1=("as" : Str)->N5 z=z.2.take 1)/\(z.1=("row" : Str)\/z.1=("marks" : Str)\/z.1=("over" : Str)->N5 z=z.2):=by
 unfold N5;refine ⟨fun h=>by rw [if_pos h],fun h=>?_,fun h=>?_⟩
 .rw [if_neg (by rw [h];decide +kernel),if_pos h]
 .rw [if_neg,if_neg,if_pos h]
  .rcases h with h | h | h <;> rw [h] <;> decide +kernel
  .rcases h with h | h | h <;> rw [h] <;> decide +kernel
theorem gN:∀ R:List Rl,((D1 R).filter fun e=>decide (e.2=("great" : Str))).map (·.1)=(K3 R).flatMap (·.2)
 | []=>rfl
 | z::R=>by
  rw [eK,dD,D9,gN R];have e:K3 (z::R)=K3 [z]++K3 R:=gL [z] R;rw [e,V8]
  congr 1
  by_cases h:z.1=("great" : Str)
  .obtain ⟨w,ps⟩:=z;obtain rfl:w=("great" : Str):=h;rw [m6.1 rfl,List.filter_eq_self.mpr,o8]
   .cases ps with
    | nil=>simp [K3]
    | cons y fs=>
     rw [pP];show List.map _ fs=_;simp [Function.comp_def]
   .intro a ha;obtain ⟨q,_,rfl⟩:=E1.mp ha;exact decide_eq_true (show jobD "great"=("great" : Str) by decide +kernel)
  .rw [lE h,List.filter_eq_nil_iff.mpr]
   .rfl
   .intro a ha;obtain ⟨q,hq,rfl⟩:=E1.mp ha
    have:=(lG (gK hq)).1
    simp only [decide_eq_true_eq];exact fun e=>h (this.mp e)
theorem lH:∀ R:List Rl,((D1 R).filter fun e=>decide (e.2=("as" : Str))).map (·.1)=asKs R
 | []=>rfl
 | z::R=>by
  rw [eK,dD,D9,lH R];have e:asKs (z::R)=asKs [z]++asKs R:=by unfold asKs;rw [<- jT];rfl
  rw [e]
  congr 1
  by_cases h:z.1=("as" : Str)
  .obtain ⟨w,ps⟩:=z;obtain rfl:w=("as" : Str):=h;rw [m6.2.1 rfl,List.filter_eq_self.mpr,o8]
   .cases ps with
    | nil=>simp [asKs]
    | cons y fs=>
     rw [yS];rfl
   .intro a ha;obtain ⟨q,_,rfl⟩:=E1.mp ha;exact decide_eq_true (show jobD "as"=("as" : Str) by decide +kernel)
  .rw [yR h,List.filter_eq_nil_iff.mpr]
   .rfl
   .intro a ha;obtain ⟨q,hq,rfl⟩:=E1.mp ha
    have:=(lG (gK hq)).2.1
    simp only [decide_eq_true_eq];exact fun e=>h (this.mp e)
theorem yY{R:List Rl}{w p:Str} : p∈(rowsW R w).flatten↔∃ z∈R,z.1=w/\p∈z.2:=by
 unfold rowsW;rw [List.mem_flatten]
 constructor
 .rintro ⟨l,hl,hp⟩;obtain ⟨z,hz,rfl⟩:=E1.mp hl;obtain ⟨h1,h2⟩:=U1.mp hz;exact ⟨z,h1,by simpa using h2,hp⟩
 .rintro ⟨z,hz,e,hp⟩;exact ⟨z.2,E1.mpr ⟨z,U1.mpr ⟨hz,by simpa using e⟩,rfl⟩,hp⟩
theorem mem_letter{R:List Rl}{p:Str} : (p,("letter" : Str))∈D1 R↔p∈(rowsW R "row").flatten:=by
 rw [yX,yY]
 constructor
 .rintro ⟨z,hz,hp,e⟩
  have:=(lG (gK hp)).2.2.1.mp e
  exact ⟨z,hz,this,by rw [m6.2.2 (.inl this)] at hp;exact hp⟩
 .rintro ⟨z,hz,e,hp⟩;exact ⟨z,hz,by rw [m6.2.2 (.inl e)];exact hp,by rw [e];decide +kernel⟩
theorem mem_mark{R:List Rl}{p:Str} : (p,("mark" : Str))∈D1 R↔p∈(rowsW R "marks").flatten:=by
 rw [yX,yY]
 constructor
 .rintro ⟨z,hz,hp,e⟩
  have:=(lG (gK hp)).2.2.2.1.mp e
  exact ⟨z,hz,this,by rw [m6.2.2 (.inr (.inl this))] at hp;exact hp⟩
 .rintro ⟨z,hz,e,hp⟩;exact ⟨z,hz,by rw [m6.2.2 (.inr (.inl e))];exact hp,by rw [e];decide +kernel⟩
theorem pS{zss:List (List Str)}{p:Str} : p∈toldL zss↔p∈zss.flatten:=by
 unfold toldL;rw [kN,m4]
 simp
theorem z9{R:List Rl}{w:Str}(h:Q9 R w L){p:Str} : p∈L↔p∈(rowsW R w).flatten:=by
 rw [<- pS];exact ⟨h.1.sub,h.2 p⟩
structure GoodR(g:Str->Str)(r1 r2:Str->Nat)(R:List Rl):Prop where
 len:R.length<=1000
 plen:(D1 R).length<=10000
 nc:NC (hasW R "figures") g (D1 R)
 nb:(" " : Str)∉(D1 R).map (·.1)
 zl:∀ z∈R,z.2.length<=1000
 ne:∀ z∈R,z.1=("as" : Str)\/z.1=("great" : Str)->z.2≠[]
 gl:∀ z∈R,z.1=("great" : Str)->∀ p∈z.2.take 1,(p,("letter" : Str))∈D1 R
 al:∀ z∈R,z.1=("as" : Str)->∀ p∈(z.2.drop 1).take 1,(p,("letter" : Str))∈D1 R
 am:∀ z∈R,z.1=("as" : Str)->∀ p∈z.2.drop 2,(p,("letter" : Str))∈D1 R\/(p,("mark" : Str))∈D1 R
 f1:(rowsW R "row").flatten.length<=10000
 f2:(rowsW R "marks").flatten.length<=10000
 a1:∀ e∈edges (rowsW R "row"),r1 e.1<r1 e.2
 a2:∀ e∈edges (rowsW R "marks"),r2 e.1<r2 e.2
theorem GoodR.job{g:Str->Str}{r1 r2:Str->Nat}{R:List Rl}(h:GoodR g r1 r2 R){p j:Str}(hp:(p,j)∈D1 R):p∈keysP (D1 R)++V5 R/\jobG g p=.str j:=by
 have hm:p∈(D1 R).map (·.1):=E1.mpr ⟨_,hp,rfl⟩;refine ⟨N8 _ ((lC _ _).mpr hm),?_⟩;unfold jobG;rw [if_neg (fun e=>h.nb (by rw [<- e];exact hm)),gM h.nc hp]
theorem GoodR.used{g:Str->Str}{r1 r2:Str->Nat}{R:List Rl}(h:GoodR g r1 r2 R){z:Rl}(hz:z∈R):Used (keysP (D1 R)++V5 R) (jobG g) z:=
 ⟨fun e p hp=>h.job (h.gl z hz e p hp),fun e p hp=>h.job (h.al z hz e p hp),fun e p hp=>(h.am z hz e p hp).elim (fun q=>⟨(h.job q).1,.inl (h.job q).2⟩) fun q=>⟨(h.job q).1,.inr (h.job q).2⟩⟩
theorem forms_mem{R:List Rl}{y f:Str} : f∈E7 R y↔∃ e∈K3 R,e.1=y/\f∈e.2:=by
 unfold E7;rw [X3]
 constructor
 .rintro ⟨e,he,hf⟩;obtain ⟨h1,h2⟩:=U1.mp he;exact ⟨e,h1,by simpa using h2,hf⟩
 .rintro ⟨e,he,h,hf⟩;exact ⟨e,U1.mpr ⟨he,by simpa using h⟩,hf⟩
theorem mem_formKs{R:List Rl}{y:Str} : y∈D5 R↔∃ e∈K3 R,e.1=y:=by
 unfold D5;rw [m4,E1]
 simp
theorem yZ{g:Str->Str}{r1 r2:Str->Nat}{R:List Rl}(h:GoodR g r1 r2 R)(hL:Q9 R "row" L)(hM:Q9 R "marks" M):(allKs R L M).Nodup:=by
 have Z:((K3 R).flatMap (·.2)).Nodup:=by rw [<- gN];exact yW h.nc (by decide +kernel)
 have jl:∀ p∈L,g p="letter":=fun p hp=>gM h.nc (mem_letter.mpr ((z9 hL).mp hp))
 have jm:∀ p∈M,g p="mark":=fun p hp=>gM h.nc (mem_mark.mpr ((z9 hM).mp hp))
 have jf:∀ p∈(D5 R).flatMap (E7 R),g p="great":=fun p hp=>by
  obtain ⟨y,_,hp⟩:=X3.mp hp;obtain ⟨e,he,_,hf⟩:=forms_mem.mp hp
  have:p∈(K3 R).flatMap (·.2):=X3.mpr ⟨e,he,hf⟩
  rw [<- gN] at this;obtain ⟨⟨q,j⟩,hq,rfl⟩:=E1.mp this;obtain ⟨h1,h2⟩:=U1.mp hq;have h2:j=("great" : Str):=by simpa using h2
  subst h2;exact gM h.nc h1
 have ja:∀ p∈asKs R,g p="as":=fun p hp=>by
  rw [<- lH] at hp;obtain ⟨⟨q,j⟩,hq,rfl⟩:=E1.mp hp;obtain ⟨h1,h2⟩:=U1.mp hq;have h2:j=("as" : Str):=by simpa using h2
  subst h2;exact gM h.nc h1
 have nf:((D5 R).flatMap (E7 R)).Nodup:=by
  rw [j8,List.pairwise_flatMap] at Z ⊢
  obtain ⟨z1,z2⟩:=Z;refine ⟨fun y _=>?_,?_⟩
  .unfold E7;rw [List.pairwise_flatMap];exact ⟨fun e he=>z1 e (U1.mp he).1,z2.filter _⟩
  .have nk:(D5 R).Nodup:=by unfold D5;exact pD (by simp)
   refine List.Pairwise.imp ?_ (j8.mp nk);intro y y' hyy f hf f' hf' e;subst e;obtain ⟨e1,h1,r1,f1⟩:=forms_mem.mp hf;obtain ⟨e2,h2,r2,f2⟩:=forms_mem.mp hf';obtain ⟨i,hi,q1⟩:=X1.mp h1;obtain ⟨j,hj,q2⟩:=X1.mp h2;rw [bC] at z2
   rcases Nat.lt_trichotomy i j with c | c | c
   .exact z2 i j hi hj c f (by rw [q1];exact f1) f (by rw [q2];exact f2) rfl
   .subst c;exact hyy (by rw [<- r1,<- r2,<- q1,<- q2])
   .exact z2 j i hj hi c f (by rw [q2];exact f2) f (by rw [q1];exact f1) rfl
 have na:(asKs R).Nodup:=by rw [<- lH];exact yW h.nc (by decide +kernel)
 have n1:("letter" : Str)≠"mark"/\("letter" : Str)≠"great"/\("letter" : Str)≠"as"/\("mark" : Str)≠"great"/\("mark" : Str)≠"as"/\("great" : Str)≠"as":=by decide +kernel
 unfold allKs;rw [Q1,Q1,Q1];refine ⟨⟨⟨hL.1.nodup,hM.1.nodup,fun a ha b hb e=>?_⟩,nf,fun a ha b hb e=>?_⟩,na,fun a ha b hb e=>?_⟩
 .subst e;exact n1.1 ((jl a ha).symm.trans (jm a hb))
 .subst e
  rcases F9.mp ha with ha | ha
  .exact n1.2.1 ((jl a ha).symm.trans (jf a hb))
  .exact n1.2.2.2.1 ((jm a ha).symm.trans (jf a hb))
 .subst e
  rcases F9.mp ha with ha | ha
  .rcases F9.mp ha with ha | ha
   .exact n1.2.2.1 ((jl a ha).symm.trans (ja a hb))
   .exact n1.2.2.2.2.1 ((jm a ha).symm.trans (ja a hb))
  .exact n1.2.2.2.2.2 ((jf a ha).symm.trans (ja a hb))
theorem amG{g:Str->Str}{r1 r2:Str->Nat}{R:List Rl}(h:GoodR g r1 r2 R)(hL:Q9 R "row" L)(hM:Q9 R "marks" M):Made R L M (stepF R L M):=by
 refine amE (yZ h hL hM) (fun y hy=>?_) h.ne fun z hz e q hq=>?_
 .obtain ⟨e,he,rfl⟩:=mem_formKs.mp hy;unfold K3 at he;obtain ⟨z,hz,hh⟩:=dC.mp he
  by_cases hg:z.1=("great" : Str)
  .rw [if_pos hg] at hh;obtain ⟨w,ps⟩:=z
   cases ps with
   | nil=>cases hh
   | cons y fs=>
    have hh:=Option.some.inj hh;rw [<- hh];exact (z9 hL).mpr (mem_letter.mp (h.gl _ hz hg y (by simp)))
  .rw [if_neg hg] at hh;cases hh
 .rw [<- Y5 1 (z.2.drop 1)] at hq
  rcases F9.mp hq with hq | hq
  .exact .inl ((z9 hL).mpr (mem_letter.mp (h.al z hz e q hq)))
  .rw [List.drop_drop] at hq
   rcases h.am z hz e q hq with h1 | h1
   .exact .inl ((z9 hL).mpr (mem_letter.mp h1))
   .exact .inr ((z9 hM).mpr (mem_mark.mp h1))
theorem amH{g:Str->Str}{r1 r2:Str->Nat}{R:List Rl}(h:GoodR g r1 r2 R)(hL:Q9 R "row" L)(hM:Q9 R "marks" M):(allKs R L M).length<=10000:=by
 refine M8 ?_ h.plen
 have:=List.Nodup.length_le_of_subset (l₂:=(D1 R).map (·.1)) (yZ h hL hM) fun p hp=>by
  unfold allKs at hp
  rcases F9.mp hp with hp | hp
  .rcases F9.mp hp with hp | hp
   .rcases F9.mp hp with hp | hp
    .exact E1.mpr ⟨_,mem_letter.mpr ((z9 hL).mp hp),rfl⟩
    .exact E1.mpr ⟨_,mem_mark.mpr ((z9 hM).mp hp),rfl⟩
   .obtain ⟨y,_,hp⟩:=X3.mp hp;obtain ⟨e,he,_,hf⟩:=forms_mem.mp hp
    have:p∈(K3 R).flatMap (·.2):=X3.mpr ⟨e,he,hf⟩
    rw [<- gN] at this;obtain ⟨q,hq,rfl⟩:=E1.mp this;exact E1.mpr ⟨q,(U1.mp hq).1,rfl⟩
  .rw [<- lH] at hp;obtain ⟨q,hq,rfl⟩:=E1.mp hp;exact E1.mpr ⟨q,(U1.mp hq).1,rfl⟩
 rw [A8] at this;exact this
theorem ajf{g:Str->Str}{r1 r2:Str->Nat}{R:List Rl}(h:GoodR g r1 r2 R)(i:Nat)(y:Str):(E7 (R.take i) y).length<=10000:=by
 refine M8 ?_ h.plen;have h1:(E7 (R.take i) y).length<=((K3 (R.take i)).flatMap (·.2)).length:=by
  unfold E7;generalize K3 (R.take i)=E
  induction E with
  | nil=>exact C3 _
  | cons e E ih=>
   rw [List.filter_cons]
   split
   .rw [U0,U0,C8,C8];lia
   .rw [U0,C8];lia
 have h2:((K3 (R.take i)).flatMap (·.2)).length<=(D1 (R.take i)).length:=by
  rw [<- gN,A8];exact List.length_filter_le _ _
 obtain ⟨more,e⟩:=xW R i;rw [e,C8];lia
theorem IsMade.mod{d:Addr}{F:Str->List Tr}{o o':HO}(h:IsMade H d ks F)(ha:H a=some o')(hn:∀ xs,o'≠.tup xs)(nd:d≠a):IsMade (A0 H a o) d ks F:=
 let ⟨ad,h1,h2⟩:=h
 ⟨ad,by rw [A9 nd];exact h1,fun y hy=>(h2 y hy).put ha hn⟩
structure IsOrd(C:Addr)(H:Hp)(x j ll ml md:Addr)(g:Str->Str)(R:List Rl)(L M:List Str):Prop where
 ob:∃ dx,H x=some (.ins C dx (ordF (hasW R "figures") (hasW R "behind") j ll ml md))
 jobs:H j=some (.dK (C4 (keysP (D1 R)++V5 R) (jobG g)))
 lets:H ll=some (.lst (L.map V.str))
 mrks:H ml=some (.lst (M.map V.str))
 made:IsMade H md (G0 [] (allKs R L M)) (stepF R L M)
 l1:Q9 R "row" L
 l2:Q9 R "marks" M
theorem IsOrd.same{x j ll ml md:Addr}{g:Str->Str}{R:List Rl}(h:IsOrd C H x j ll ml md g R L M)(s:Same H H'):IsOrd C H' x j ll ml md g R L M:=
 ⟨let ⟨dx,e⟩:=h.ob;⟨dx,s _ _ e⟩,s _ _ h.jobs,s _ _ h.lets,s _ _ h.mrks,h.made.same s,h.l1,h.l2⟩
def pT(C:Addr):Sp:=fun vs H Q _=>∃ (x dx a:Addr) (ts:List Addr) (R:List Rl) (g:Str->Str) (r1 r2:Str->Nat),vs=[.ref x,.ref a]/\H x=some (.ins C dx [])/\IsRules H a ts R/\GoodR g r1 r2 R/\
 ∀ j ll ml md L M H',H j=none->H ll=none->H ml=none->H md=none->SameBut x H H'->IsOrd C H' x j ll ml md g R L M->Q .non H'
def zA(C:Addr):Sp:=fun vs H Q _=>∃ (x j ll ml md:Addr) (g:Str->Str) (R:List Rl) (L M:List Str),vs=[.ref x]/\IsOrd C H x j ll ml md g R L M/\∀ l,H l=none->Q (.ref l) (A0 H l (.lst (L.map V.str)))
def zB(C:Addr):Sp:=fun vs H Q _=>∃ (x j ll ml md:Addr) (g:Str->Str) (R:List Rl) (L M:List Str),vs=[.ref x]/\IsOrd C H x j ll ml md g R L M/\∀ l,H l=none->Q (.ref l) (A0 H l (.lst (M.map V.str)))
def zC(C:Addr):Sp:=fun vs H Q _=>∃ (x j ll ml md:Addr) (p:Str) (g:Str->Str) (R:List Rl) (L M:List Str),vs=[.ref x,.str p]/\IsOrd C H x j ll ml md g R L M/\Q (if p∈keysP (D1 R)++V5 R then jobG g p else .non) H
end L2
set_option maxRecDepth 100000
namespace L2
open PySem PySem.Spec PyProof.Rows
structure RulesAt(H0 H:Hp)(a:Addr)(ts:List Addr)(R:List Rl):Prop where
 rows:IsRules H a ts R
 nd:(a::ts).Nodup
 new:∀ r∈a::ts,H0 r=none
 same:Same H0 H
theorem RulesAt.live{R:List Rl}(h:RulesAt H0 H a rs R)(hr:r∈a::rs):∃ o,H r=some o:=by
 rcases E8.mp hr with h' | h'
 .subst h';exact ⟨_,h.rows.top⟩
 .obtain ⟨i,hi,rfl⟩:=X1.mp h';obtain ⟨zs,_,h2⟩:=Paired.at h.rows.row (i:=i) (a:=rs[i]) (by simp [hi]);exact ⟨_,h2⟩
theorem RulesAt.grow{q:Addr}{R:List Rl}(h:RulesAt H0 H a rs R)(S:Same H H')(hq:H q=none){z:Rl}(t8:H' q=some (tupR z)):RulesAt H0 (A0 H' a (.lst (rs.map V.ref++[V.ref q]))) a (rs++[q]) (R++[z]):=by
 have nq:∀ r∈a::rs,r≠q:=fun r hr e=>by
  obtain ⟨o,e'⟩:=h.live hr;rw [e,hq] at e';cases e'
 obtain ⟨na,_⟩:=V0.mp h.nd;refine ⟨⟨by rw [A6,D9];rfl,?_⟩,?_,?_,?_⟩
 .refine Paired.snoc (gF h.rows.row fun r hr zs h=>?_) ?_
  .rw [A9 (fun e:r=a=>na (by rw [<- e];exact hr))];exact S _ _ h
  .rw [A9 (nq a K1).symm];exact t8
 .show (a::(rs++[q])).Nodup;exact kF h.nd fun e=>nq q e rfl
 .intro r hr
  rcases E8.mp hr with e | e
  .exact h.new r (by rw [e];exact K1)
  .rcases F9.mp e with e | e
   .exact h.new r (M6 _ e)
   .rw [E6.mp e];exact h.same.free hq
 .exact (h.same.trans S).put (h.new a K1)
theorem agw{F:Addr->Rl->Prop}{l₂:List Rl}(h:Paired F l₁ l₂):∀ k,Paired F (l₁.take k) (l₂.take k):=by
 induction h with
 | nil=>intro k;rw [List.take_nil,List.take_nil];exact .nil
 | cons h t ih=>intro k;cases k with
  | zero=>exact .nil
  | succ k=>exact .cons h (ih k)
theorem agx{F:Addr->Rl->Prop}{l₂:List Rl}(h:Paired F l₁ l₂):∀ k,Paired F (l₁.drop k) (l₂.drop k):=by
 induction h with
 | nil=>intro k;rw [List.drop_nil,List.drop_nil];exact .nil
 | cons h t ih=>intro k;cases k with
  | zero=>exact .cons h t
  | succ k=>exact ih k
theorem amI{l:Addr}{ts:List Addr}{R:List Rl}(h:IsRules H b ts R)(k:Nat)(n:H l=none):IsRules (A0 H l (.lst ((ts.take k).map V.ref))) l (ts.take k) (R.take k):=⟨A6,agw (M9 h.row fun _ _ e=>D0 e n) k⟩
theorem ajh{l:Addr}{ts:List Addr}{R:List Rl}(h:IsRules H b ts R)(k:Nat)(n:H l=none):IsRules (A0 H l (.lst ((ts.drop k).map V.ref))) l (ts.drop k) (R.drop k):=⟨A6,agx (M9 h.row fun _ _ e=>D0 e n) k⟩
theorem ahS{E:List (Str×Str)}(r:Q6 E ts line){e:Str×Str}(he:e∈E)(h2:e.2∈line):line.idxOf e.1<line.idxOf e.2:=by
 obtain ⟨pre,post,el⟩:=List.append_of_mem h2;obtain ⟨h3,h4,h5⟩:=eC (r pre e.2 post el);have h6:=cnt_zero.mp h5 e he rfl;rw [el,List.idxOf_append,if_pos h6,List.idxOf_append,if_neg h4]
 have:=cZ.mpr h6
 lia
theorem zD{E:List (Str×Str)}{ps:List Str}(nd:ps.Nodup)(tnd:ts.Nodup)(r:Q6 E ts line)(cov:∀ p∈ts,p∈line)(hm:∀ p,p∈ts↔p∈ps)(hE:∀ e∈Q8 ps,e∈E):line=ps:=by
 have hl:line.length=ps.length:=by
  rw [kZ tnd r cov];exact ((List.perm_ext_iff_of_nodup tnd nd).mpr fun a=>hm a).length_eq
 have L4:∀ p∈ps,p∈line:=fun p hp=>cov p ((hm p).mpr hp)
 have D3:∀ i (h:i<ps.length),line.idxOf ps[i]<ps.length:=fun i h=>by
  rw [<- hl];exact cZ.mpr (L4 _ (dG h))
 have step:∀ i (h:i+1<ps.length),line.idxOf ps[i]<line.idxOf ps[i+1]:=fun i h=>by
  have he:(ps[i],ps[i+1])∈Q8 ps:=by
   have:=xP (zs:=ps) (j:=i) (x:=ps[i]) (y:=ps[i+1]) (M5 (by lia)) (by rw [List.getElem?_tail];exact M5 h)
   exact N7 this
  exact ahS r (hE _ he) (L4 _ (dG h))
 have up:∀ i (h:i<ps.length),i<=line.idxOf ps[i]:=by
  intro i
  induction i with
  | zero=>intro h;exact G3 _
  | succ i ih=>
   intro h
   have:=ih (by lia)
   have:=step i h
   lia
 have down:∀ d i (h:i<ps.length),ps.length-1-i=d->line.idxOf ps[i]<=i:=by
  intro d
  induction d with
  | zero=>
   intro i h e
   have:=D3 i h
   lia
  | succ d ih=>
   intro i h e;have h1:=ih (i+1) (by lia) (by lia);have h2:=step i (by lia);lia
 refine List.ext_getElem hl fun i h1 h2=>?_
 have e:line.idxOf ps[i]=i:=Nat.le_antisymm (down _ i h2 rfl) (up i h2)
 have:=fQ (x:=ps[i]) (xs:=line) (by rw [e];exact h1)
 simp only [e] at this;exact this
def pU(ns:List Int)(k:Int)(p:Str):Prop:=∃ rest:List Nat,p.cps.toList=eE ns k::rest/\rest.length<=1/\∀ c∈rest,∃ m:Int,c=eE ns m
def zE(ns:List Int)(S:Int->Prop)(p:Str):Prop:=∃ k,S k/\pU ns k p
structure Dis(ns:List Int)(S:Int->Prop)(ps:List Str):Prop where
 nd:ps.Nodup
 pc:∀ p∈ps,zE ns S p
 uq:∀ p∈ps,∀ q∈ps,∀ k:Int,20<=k->k<83->pU ns k p->pU ns k q->p=q
def LetS(k:Int):Prop:=0<=k/\k<16
structure LetW(ns:List Int)(n:Int)(ps:List Str):Prop where
 n0:2<=n
 n1:n<=16
 all:∀ k:Int,0<=k->k<n->one (eE ns k)∈ps
 each:∀ p∈ps,∃ k:Int,0<=k/\k<n/\(p=one (eE ns k)\/∃ m:Int,0<=m/\m<n/\p=one (eE ns k)++one (eE ns m))
def OthZ(ls ms:List Str)(z:Rl):Prop:=(z.1=("great" : Str)/\∃ l fs,z.2=l::fs/\l∈ls/\1<=fs.length/\fs.length<=2)\/(z.1=("as" : Str)/\∃ p q qs,z.2=p::q::qs/\q∈ls/\(∀ r∈qs,r∈ls\/r∈ms)/\qs.length<=2)\/(z.1=("over" : Str)/\z.2.length<=2)
def GS(i:Nat)(k:Int):Prop:=(30<=k/\k<30+(i:Int))\/(34<=k/\k<34+(i:Int))
def AS(i:Nat)(k:Int):Prop:=GS 3 k\/(40<=k/\k<40+(i:Int))
def OS(k:Int):Prop:=AS 3 k\/(50<=k/\k<52)
structure AsR(ls ms:List Str)(H0 H:Hp)(t:Addr)(p:Str)(qs:List Str)(j:Nat):Prop where
 same:Same H0 H
 tup:H t=some (tupR ("as",p::qs))
 new:H0 t=none
 len:qs.length=j
 ok:∀ i q,qs[i]?=some q->q∈ls\/(0<i/\q∈ms)
def MarkS(k:Int):Prop:=20<=k/\k<25
def flagW(w:Str):Prop:=w=("figures" : Str)\/w=("behind" : Str)\/w=("blanks" : Str)
structure RulP(ns:List Int)(ls ms:List Str)(b:Bool)(n:Nat)(R:List Rl):Prop where
 dis:Dis ns (fun k=>LetS k\/OS k\/(b=true/\MarkS k)) ((D1 R).map (·.1))
 row:rowsW R "row"=[ls]
 mrk:rowsW R "marks"=if b=true then [ms] else []
 each:∀ z∈R,z=(("row" : Str),ls)\/(z=(("marks" : Str),ms)/\b=true)\/OthZ ls ms z\/(z.2=[]/\flagW z.1)
 len:R.length<=n
 fig:hasW R "figures"=true->pL ns=false
 oi:∀ z∈R,OthZ ls ms z->∀ p∈N5 z,zE ns OS p
def pV(R:List Rl)(p:Str):Str:=((D1 R).lookup p).getD ""
theorem zF{ps:List Str}(nd:ps.Nodup){e:Str×Str}(he:e∈Q8 ps):ps.idxOf e.1<ps.idxOf e.2:=by
 unfold Q8 at he;obtain ⟨i,hi,e1⟩:=X1.mp he;rw [List.getElem_zip] at e1;have jB:i+1<ps.length:=by rw [List.length_zip,List.length_tail] at hi;lia
 have hi3:i<ps.tail.length:=by rw [List.length_tail];lia
 have e3:ps.tail[i]'hi3=ps[i+1]:=List.getElem_tail hi3;have f1:ps[i]=e.1:=congrArg Prod.fst e1;have f2:ps[i+1]=e.2:=e3.symm.trans (congrArg Prod.snd e1);have a1:ps.idxOf ps[i]=i:=List.Nodup.idxOf_getElem nd i (by lia);have a2:ps.idxOf ps[i+1]=i+1:=List.Nodup.idxOf_getElem nd (i+1) jB;rw [<- f1,<- f2,a1,a2];lia
structure RulG(ns:List Int)(ls ms:List Str)(R:List Rl):Prop where
 p:∃ b,RulP ns ls ms b 12 R/\(b=false->ms=[])
 l0:2<=ls.length
 l1:ls.length<=19
 ld:Dis ns LetS ls
 lw:∃ n,LetW ns n ls
 m1:ms.length<=4
 md:Dis ns MarkS ms
theorem RulesAt.more{ts:List Addr}{R:List Rl}(h:RulesAt H0 H a ts R)(S:Same H H'):RulesAt H0 H' a ts R:=⟨h.rows.same S,h.nd,h.new,h.same.trans S⟩
theorem zG(c d:Nat):(O8 c d).cps.toList=[c,d]:=rfl
theorem zH(c:Nat):(one c).cps.toList=[c]:=rfl
def spLaw(K:PySem.W.Frag):Sp:=fun vs H Q _=>∃ (a:Addr) (ns:List Int),vs=[.ref a]/\D4 K H a (ns.map V.int)/\ns.length<=63/\∀ H',Q (.bl true) H'
end L2
set_option maxRecDepth 100000
namespace L2
open PySem PySem.Spec PyProof.Rows
def rIntU:List V->Hp->VK->Prop
 | [.bl b],H,Q=>Q (.int (if b then 1 else 0)) H
 | [.str x],H,Q=>PySem.NumText.AllDigits x.cps.toList/\1<=x.length/\x.length<=640/\Q (.int ((fW x.cps.toList:Nat):Int)) H
 | _,_,_=>False
theorem zI : QCall X (.type "int") rIntU:=⟨by
 intro pins s O H xs us Q I r h
 match xs,h with
 | [.bl b],h=>exact ain pins s O H _ us Q I r (.inr ⟨b,rfl,h⟩)
 | [.str x],h=>
  obtain ⟨h1,h2,h3,q⟩:=h;obtain ⟨u,rfl,r1⟩:=vals1 r;obtain ⟨t,rfl⟩:=r1;have L1:x.cps.toList≠[]:=fun e=>by
   have:x.cps.toList.length=x.length:=by simp [Str.length]
   rw [e] at this;simp at this;lia
  exact PySem.W.KIN.call_text (PySem.intText_digits h1 L1 (by lia)) h3 ⟨V.int ((fW x.cps.toList:Nat):Int),H,I.tok _,⟨_,rfl⟩,q⟩⟩
theorem aom{b:Bool} : rIntU [.bl b] H Q=Q (.int (if b then 1 else 0)) H:=rfl
theorem aon{x:Str} : rIntU [.str x] H Q=(PySem.NumText.AllDigits x.cps.toList/\1<=x.length/\x.length<=640/\Q (.int ((fW x.cps.toList:Nat):Int)) H):=rfl
def rInD(K:PySem.W.Frag)(x y:V)(H:Hp)(Q:VK):Prop:=∃ (d:PyData) (ds:List PyData),Dn K H x d/\Dn K H y (.list ds)/\min (dL ds) d.depth<=60/\Q (.bl (ds.any fun e=>X4 e d)) H
theorem aoo : rInD K x y H Q=∃ (d:PyData) (ds:List PyData),Dn K H x d/\Dn K H y (.list ds)/\min (dL ds) d.depth<=60/\Q (.bl (ds.any fun e=>X4 e d)) H:=rfl
end L2
set_option maxRecDepth 100000
namespace L2
open PySem PySem.Spec PyProof.Rows
open PySem.Builtin PySem.Builtin.Str PySem.StrLaws
def rTupA(K:PySem.W.Frag):R2:=fun x y H Q=>∃ a b xs ys,x=.ref a/\y=.ref b/\C9 K H a xs/\C9 K H b ys/\ys≠[]/\xs.length+ys.length<=sizeLine/\∀ p H',Same H H'->C9 K H' p (xs++ys)->(H' p=some (.tup (xs++ys))\/xs=[]/\p=b)->Q (.ref p) H'
theorem aop : rTupA K (.ref a) (.ref b) H Q=∃ xs ys,C9 K H a xs/\C9 K H b ys/\ys≠[]/\xs.length+ys.length<=sizeLine/\∀ p H',Same H H'->C9 K H' p (xs++ys)->(H' p=some (.tup (xs++ys))\/xs=[]/\p=b)->Q (.ref p) H':=
 propext ⟨fun ⟨_,_,xs,ys,e1,e2,h⟩=>(by cases e1;cases e2;exact ⟨xs,ys,h⟩),fun ⟨xs,ys,h⟩=>⟨a,b,xs,ys,rfl,rfl,h⟩⟩
end L2
set_option maxRecDepth 100000
namespace L2
open PySem PySem.Spec PyProof.Rows
theorem zJ{d:Value}(h:(us++[d]).length=3):∃ u1 u2,us=[u1,u2]:=by
 match us,h with
 | [a,b],_=>exact ⟨a,b,rfl⟩
 | [],h=>simp at h
 | [_],h=>simp at h
 | _::_::_::r,h=>simp at h
theorem eN(g:List Str)(z:Str):(valV (kvOf g) (Sum.inr z)).isSome=decide (z∈g):=by
 rw [<- oT];unfold valV;rw [Option.isSome_map,List.isSome_find?]
theorem pW{y rest:List Nat}(h:z.cps.toList=pre++(y++rest)):cutS z (some (pre.length:Int)) (some ((pre.length:Int)+(y.length:Int)))=⟨y.toArray⟩:=by
 have hl:z.length=pre.length+(y.length+rest.length):=by
  have:=congrArg W0 h
  simp [Str.length] at this ⊢
  lia
 apply Str.ext'
 apply Array.toList_inj.mp
 rw [wN,h];have e1:HT.sIx z.length 0 (some (pre.length:Int))=pre.length:=by rw [HT.sIx_nat];lia
 have e2:HT.sIx z.length z.length (some ((pre.length:Int)+(y.length:Int)))=pre.length+y.length:=by
  rw [show (pre.length:Int)+(y.length:Int)=((pre.length+y.length:Nat):Int) by lia,HT.sIx_nat];lia
 rw [e1,e2,List.drop_left,show pre.length+y.length-pre.length=y.length by lia,List.take_left]
theorem zK{c:Nat}(h:z.cps.toList=pre++[c]):cutS z (some (pre.length:Int)) (some ((pre.length:Int)+2))=one c:=by
 have hl:z.length=pre.length+1:=by
  have:=congrArg W0 h
  simp [Str.length] at this ⊢
  lia
 apply Str.ext'
 apply Array.toList_inj.mp
 rw [wN,h];have e1:HT.sIx z.length 0 (some (pre.length:Int))=pre.length:=by rw [HT.sIx_nat];lia
 have e2:HT.sIx z.length z.length (some ((pre.length:Int)+2))=pre.length+1:=by
  rw [show (pre.length:Int)+2=((pre.length+2:Nat):Int) by lia,HT.sIx_nat];lia
 rw [e1,e2,List.drop_left,show pre.length+1-pre.length=1 by lia];rfl
theorem zL{r:List Nat}{c:Nat} : F7 (pre++c::r) (pre.length:Int)=some c:=Q2 (by rw [fN (C3 _),Nat.sub_self];rfl)
theorem zM:∀ (zs acc:List Str),U5 (kvOf acc) (kvOf zs)=kvOf (G0 acc zs)
 | [],acc=>rfl
 | z::zs,acc=>by
  show U5 (putK (kvOf acc) (Sum.inr z) (.bl true)) (kvOf zs)=kvOf (G0 (dd acc z) zs);rw [wL,zM zs]
def zN:Sp:=fun vs H Q _=>∃ (z:Str) (pre rest:List Nat),vs=[.str z,.int pre.length]/\z.length<=1000/\z.cps.toList=pre++rest/\Q (.str ⟨(rest.takeWhile figO).toArray⟩) H
theorem zO(h:(us++[]).length=3):∃ u1 u2 u3,us=[u1,u2,u3]:=by
 match us,h with
 | [a,b,c],_=>exact ⟨a,b,c,rfl⟩
 | [],h=>simp at h
 | [_],h=>simp at h
 | [_,_],h=>simp at h
 | _::_::_::_::r,h=>simp at h
theorem lenL(z:Str):z.cps.toList.length=z.length:=by simp [Str.length]
def partG(g:List Str):List Nat->Option Str
 | []=>none
 | [c]=>if one c∈g then some (one c) else none
 | c::d::_=>if O8 c d∈g then some (O8 c d) else if one c∈g then some (one c) else none
theorem eO(g:List Str)(c:Nat):partG g [c]=if one c∈g then some (one c) else none:=rfl
theorem m7(g:List Str)(c d:Nat)(r:List Nat):partG g (c::d::r)=if O8 c d∈g then some (O8 c d) else if one c∈g then some (one c) else none:=rfl
def partF(w:Bool)(g:List Str):List Nat->Option Str
 | []=>none
 | c::r=>if (w&&figO c)=true then some ⟨((c::r).takeWhile figO).toArray⟩ else partG g (c::r)
theorem gO(w:Bool)(g:List Str)(c:Nat)(r:List Nat):partF w g (c::r)=if (w&&figO c)=true then some ⟨((c::r).takeWhile figO).toArray⟩ else partG g (c::r):=rfl
theorem zP{g:List Str}{y:Str} : ∀ {l:List Nat},partG g l=some y->∃ rest,l=y.cps.toList++rest/\1<=y.length
 | [],h=>by cases h
 | [c],h=>by
  rw [eO] at h
  by_cases hc:one c∈g
  .rw [if_pos hc] at h;cases h;exact ⟨[],rfl,by show 1<=1;decide⟩
  .rw [if_neg hc] at h;cases h
 | c::d::r,h=>by
  rw [m7] at h
  by_cases h2:O8 c d∈g
  .rw [if_pos h2] at h;cases h;exact ⟨r,rfl,by show 1<=2;decide⟩
  .rw [if_neg h2] at h
   by_cases hc:one c∈g
   .rw [if_pos hc] at h;cases h;exact ⟨d::r,rfl,by show 1<=1;decide⟩
   .rw [if_neg hc] at h;cases h
theorem agz{g:List Str}(h:∀ x,x∈g↔x∈g'):∀ l,partG g l=partG g' l
 | []=>rfl
 | [c]=>by
  rw [eO,eO]
  by_cases hc:one c∈g
  .rw [if_pos hc,if_pos ((h _).mp hc)]
  .rw [if_neg hc,if_neg (fun z=>hc ((h _).mpr z))]
 | c::d::r=>by
  rw [m7,m7]
  by_cases h2:O8 c d∈g
  .rw [if_pos h2,if_pos ((h _).mp h2)]
  .rw [if_neg h2,if_neg (fun z=>h2 ((h _).mpr z))]
   by_cases hc:one c∈g
   .rw [if_pos hc,if_pos ((h _).mp hc)]
   .rw [if_neg hc,if_neg (fun z=>hc ((h _).mpr z))]
theorem agA{w:Bool}{g:List Str}(h:∀ x,x∈g↔x∈g')(l:List Nat):partF w g l=partF w g' l:=by
 cases l with
 | nil=>rfl
 | cons c r=>rw [gO,gO,agz h]
theorem zQ{w:Bool}{g:List Str}{y:Str}{l:List Nat}(h:partF w g l=some y):∃ rest,l=y.cps.toList++rest/\1<=y.length:=by
 cases l with
 | nil=>cases h
 | cons c r=>
  rw [gO] at h
  by_cases hw:(w&&figO c)=true
  .rw [if_pos hw] at h;cases h;rw [Y8] at hw;refine ⟨(c::r).dropWhile figO,(List.takeWhile_append_dropWhile).symm,?_⟩;show 1<=((c::r).takeWhile figO).length;rw [List.takeWhile_cons_of_pos hw.2]
   simp
  .rw [if_neg hw] at h;exact zP h
def cutFn(w:Bool)(g:List Str):Nat->List Nat->Nat×List Str
 | 0,_=>(0,[])
 | n+1,l=>match partF w g l with
  | none=>(0,[])
  | some y=>((cutFn w g n (l.drop y.length)).1+y.length,y::(cutFn w g n (l.drop y.length)).2)
def cutF(w:Bool)(g:List Str)(l:List Nat):Nat×List Str:=cutFn w g l.length l
theorem zR(w:Bool)(g:List Str):∀ (n m:Nat) (l:List Nat),l.length<=n->l.length<=m->cutFn w g n l=cutFn w g m l
 | 0,0,_,_,_=>rfl
 | 0,m+1,l,h,_=>by
  have:l=[]:=w8.mp (by lia)
  subst this;rfl
 | n+1,0,l,_,h=>by
  have:l=[]:=w8.mp (by lia)
  subst this;rfl
 | n+1,m+1,l,h1,h2=>by
  cases e:partF w g l with
  | none=>show (match partF w g l with | none=>_ | some y=>_)=(match partF w g l with | none=>_ | some y=>_);rw [e]
  | some y=>
   obtain ⟨rest,e1,e2⟩:=zQ e;have hd:(l.drop y.length).length=l.length-y.length:=k5
   have:=zR w g n m (l.drop y.length) (by lia) (by lia)
   show (match partF w g l with | none=>_ | some y=>_)=(match partF w g l with | none=>_ | some y=>_);rw [e]
   dsimp only
   rw [this]
theorem gQ{w:Bool}{g:List Str}{l:List Nat}(h:partF w g l=none):cutF w g l=(0,[]):=by
 unfold cutF;cases hl:l.length with
 | zero=>rfl
 | succ n=>
  show (match partF w g l with | none=>_ | some y=>_)=_;rw [h]
theorem gR(w:Bool)(g:List Str):cutF w g []=(0,[]):=rfl
theorem eP{w:Bool}{g:List Str}{y:Str}{l:List Nat}(h:partF w g l=some y):∃ rest,l=y.cps.toList++rest/\cutF w g l=((cutF w g rest).1+y.length,y::(cutF w g rest).2)/\1<=y.length:=by
 obtain ⟨rest,e1,e2⟩:=zQ h;refine ⟨rest,e1,?_,e2⟩;have el:l.length=y.length+rest.length:=by rw [e1,C8,lenL]
 have ed:l.drop y.length=rest:=by rw [e1,<- lenL,List.drop_left]
 unfold cutF;cases hl:l.length with
 | zero=>lia
 | succ k=>
  show (match partF w g l with | none=>_ | some y=>_)=_;rw [h]
  dsimp only
  rw [ed,zR w g k rest.length rest (by lia) (C3 _)]
theorem ahT{w:Bool}{g:List Str}(h:∀ x,x∈g↔x∈g')(l:List Nat):cutF w g l=cutF w g' l:=by
 have:∀ n l,cutFn w g n l=cutFn w g' n l:=by
  intro n
  induction n with
  | zero=>intro l;rfl
  | succ n ih=>
   intro l;show (match partF w g l with | none=>_ | some y=>_)=(match partF w g' l with | none=>_ | some y=>_);rw [agA h]
   cases partF w g' l with
   | none=>rfl
   | some y=>dsimp only;rw [ih]
 exact this _ _
theorem lI{w:Bool}{g:List Str} : ∀ (n:Nat) (l:List Nat),l.length<=n->(cutF w g l).1<=l.length/\(cutF w g l).2.length<=l.length/\∀ y∈(cutF w g l).2,∀ c∈y.cps.toList,c∈l
 | 0,l,h=>by
  have:l=[]:=w8.mp (by lia)
  subst this;rw [gR];exact ⟨C3 _,C3 _,by simp⟩
 | n+1,l,h=>by
  cases e:partF w g l with
  | none=>rw [gQ e];exact ⟨G3 _,G3 _,by simp⟩
  | some y=>
   obtain ⟨rest,e1,e2,e3⟩:=eP e;have hl:l.length=y.length+rest.length:=by rw [e1,C8,lenL]
   obtain ⟨a,b,c⟩:=lI (w:=w) (g:=g) n rest (by lia);rw [e2];refine ⟨by dsimp only;lia,by dsimp only;rw [G5];lia,fun z hz x hx=>?_⟩;rw [e1]
   rcases E8.mp hz with r | r
   .rw [r] at hx;exact F9.mpr (.inl hx)
   .exact F9.mpr (.inr (c z r x hx))
def aA(w:Bool)(g:List Str)(z:Str):Prop:=(cutF w g z.cps.toList).1=z.length
def zS:Sp:=fun vs H Q _=>∃ (d:Addr) (z:Str) (g:List Str) (pre:List Nat) (c:Nat) (r:List Nat) (w:Bool) (y:Str),vs=[.ref d,.str z,.int pre.length,.bl w]/\H d=some (.dK (kvOf g))/\z.length<=1000/\z.cps.toList=pre++c::r/\partF w g (c::r)=some y/\Q (.str y) H
def lJ(K:PySem.W.Frag):Sp:=fun vs H Q _=>∃ (a:Addr) (z:Str) (ks:List Str) (w:Bool),vs=[.ref a,.str z,.bl w]/\D4 K H a (ks.map V.str)/\ks.length<=1000/\z.length<=1000/\aA w ks z/\
 ∀ l H',H l=none->Same H H'->H' l=some (.lst ((cutF w ks z.cps.toList).2.map V.str))->Q (.ref l) H'
abbrev D8:=Int×Int×List Int×Int
def addM(U:List D8)(p:Int):List D8:=match U.getLast? with
 | none=>[(0,0,[p],0)]
 | some u=>U.dropLast++[(u.1,u.2.1,u.2.2.1++[p],u.2.2.2)]
def addS(U:List D8)(s:Tr):List D8:=if s.1=0 then addM U s.2.1 else U++[(s.1,s.2.1,[],s.2.2)]
def UnAt(H:Hp)(e:Addr×Addr)(u:D8):Prop:=H e.1=some (.tup [.int u.1,.int u.2.1,.ref e.2,.int u.2.2.2])/\H e.2=some (.lst (u.2.2.1.map V.int))
structure UnI(H0 H:Hp)(l:Addr)(es:List (Addr×Addr))(U:List D8):Prop where
 top:H l=some (.lst (es.map fun e=>V.ref e.1))
 row:Paired (UnAt H) es U
 nd:(l::es.map (·.2)).Nodup
 new:∀ a∈l::es.map (·.2),H0 a=none
 same:Same H0 H
theorem UnI.more{l:Addr}{es:List (Addr×Addr)}{U:List D8}(h:UnI H0 H l es U)(S:Same H H'):UnI H0 H' l es U:=⟨S _ _ h.top,M9 h.row fun _ _ e=>⟨S _ _ e.1,S _ _ e.2⟩,h.nd,h.new,h.same.trans S⟩
theorem UnI.live{l:Addr}{es:List (Addr×Addr)}{U:List D8}(h:UnI H0 H l es U)(ha:a∈es.map (·.2)):∃ xs,H a=some (.lst xs):=by
 obtain ⟨e,he,rfl⟩:=E1.mp ha;obtain ⟨i,hi,q⟩:=X1.mp he;obtain ⟨u,_,hu⟩:=Paired.at h.row (i:=i) (a:=e) (by rw [M5 hi,q]);exact ⟨_,hu.2⟩
theorem UnI.push{l m t:Addr}{es:List (Addr×Addr)}{U:List D8}(h:UnI H0 H l es U)(nm:H m=none){k w c:Int}(nt:A0 H m (.lst []) t=none) :
  UnI H0 (A0 (A0 (A0 H m (.lst [])) t (.tup [.int k,.int w,.ref m,.int c])) l (.lst ((es.map fun e=>V.ref e.1)++[V.ref t]))) l (es++[(t,m)]) (U++[(k,w,[],c)]):=by
 have nlm:l≠m:=fun e=>by have:=h.top;rw [e,nm] at this;cases this
 have nmt:m≠t:=fun e=>by rw [<- e,A6] at nt;cases nt
 have S:Same H (A0 (A0 H m (.lst [])) t (.tup [.int k,.int w,.ref m,.int c])):=(Same.new nm).trans (Same.new nt);have hl:=S _ _ h.top;have nlt:l≠t:=fun e=>by rw [<- e,(Same.new nm) _ _ h.top] at nt;cases nt
 have mL:=V0.mp h.nd;refine ⟨by rw [A6,D9];rfl,Paired.snoc (gF h.row fun e he u hu=>⟨?_,?_⟩) ⟨?_,?_⟩,?_,fun a ha=>?_,(h.same.trans S).put (h.new l K1)⟩
 .rw [A9 (fun q=>by have:=S _ _ hu.1;rw [q,hl] at this;cases this)];exact S _ _ hu.1
 .rw [A9 (fun q=>mL.1 (by rw [<- q];exact E1.mpr ⟨e,he,rfl⟩))];exact S _ _ hu.2
 .rw [A9 nlt.symm,A6]
 .rw [A9 nlm.symm,A9 nmt,A6];rfl
 .rw [D9];exact kF h.nd fun q=>by
   rcases E8.mp q with q | q
   .exact nlm q.symm
   .obtain ⟨xs,hx⟩:=h.live q;rw [nm] at hx;cases hx
 .rw [D9] at ha
  rcases E8.mp ha with q | q
  .rw [q];exact h.new l K1
  .rcases F9.mp q with q | q
   .exact h.new a (M6 _ q)
   .rw [E6.mp q];exact h.same.free nm
theorem UnI.mark{l:Addr}{es:List (Addr×Addr)}{e:Addr×Addr}{U:List D8}{u:D8}(h:UnI H0 H l (es++[e]) (U++[u]))(p:Int) :
  UnI H0 (A0 H e.2 (.lst (u.2.2.1.map V.int++[V.int p]))) l (es++[e]) (U++[(u.1,u.2.1,u.2.2.1++[p],u.2.2.2)]):=by
 obtain ⟨hr,he⟩:=kO h.row;have mL:=h.nd;have nl:l≠e.2:=fun q=>(V0.mp mL).1 (by rw [q];simp)
 have nn:∀ x∈es,x.2≠e.2:=fun x hx q=>by
  have:=(V0.mp mL).2
  rw [D9,Q1] at this;exact this.2.2 x.2 (E1.mpr ⟨x,hx,rfl⟩) e.2 (by simp) q
 have nt:∀ {x:Addr×Addr} {v:D8},UnAt H x v->x.1≠e.2:=fun {x v} hx q=>by
  have:=hx.1;rw [q,he.2] at this;cases this
 refine ⟨by rw [A9 nl];exact h.top,Paired.snoc (gF hr fun x hx v hv=>⟨?_,?_⟩) ⟨?_,?_⟩,h.nd,h.new,h.same.put (h.new _ (M6 _ (by simp)))⟩
 .rw [A9 (nt hv)];exact hv.1
 .rw [A9 (nn x hx)];exact hv.2
 .rw [A9 (nt he)];exact he.1
 .rw [A6,D9];rfl
def IsUn(H:Hp)(l:Addr)(U:List D8):Prop:=∃ es:List (Addr×Addr),H l=some (.lst (es.map fun e=>V.ref e.1))/\Paired (fun e (u:D8)=>H e.1=some (.tup [.int u.1,.int u.2.1,.ref e.2,.int u.2.2.2])/\H e.2=some (.tup (u.2.2.1.map V.int))) es U
theorem IsUn.same{l:Addr}{U:List D8}(h:IsUn H l U)(S:Same H H'):IsUn H' l U:=
 let ⟨es,h1,h2⟩:=h
 ⟨es,S _ _ h1,M9 h2 fun _ _ e=>⟨S _ _ e.1,S _ _ e.2⟩⟩
def G9(R:List Rl):List Str:=keysP (D1 R)++V5 R
def Q4(S:Str->List Tr)(ps:List Str):List D8:=(ps.flatMap S).foldl addS []
def pX(C:Addr):Sp:=fun vs H Q _=>∃ (x j ll ml md:Addr) (g:Str->Str) (R:List Rl) (L M:List Str),vs=[.ref x]/\IsOrd C H x j ll ml md g R L M/\∀ l,H l=none->Q (.ref l) (A0 H l (.lst ((G9 R).map V.str)))
def lK(C:Addr):Sp:=fun vs H Q _=>∃ (x j ll ml md:Addr) (p:Str) (g:Str->Str) (R:List Rl) (L M:List Str),vs=[.ref x,.str p]/\IsOrd C H x j ll ml md g R L M/\∀ r H',Same H H'->StepAt H' r (stepF R L M p)->Q (.ref r) H'
def zT(C:Addr):Sp:=fun vs H Q _=>∃ (x j ll ml md:Addr) (z:Str) (g:Str->Str) (R:List Rl) (L M:List Str),vs=[.ref x,.str z]/\IsOrd C H x j ll ml md g R L M/\(G9 R).length<=1000/\z.length<=1000/\aA (hasW R "figures") (G9 R) z/\
 ∀ l H',H l=none->Same H H'->H' l=some (.lst ((cutF (hasW R "figures") (G9 R) z.cps.toList).2.map V.str))->Q (.ref l) H'
theorem ahU{R:List Rl}{p:Str}(h:p∉allKs R L M):stepF R L M p=[]:=by
 unfold stepF
 have:(putsL R L M).lookup p=none:=by
  rw [List.lookup_eq_none_iff];intro e he
  have:e.1∈allKs R L M:=by rw [<- yV];exact E1.mpr ⟨e,he,rfl⟩
  have ne:p≠e.1:=fun q=>h (by rw [q];exact this)
  simpa using ne
 rw [this];rfl
def stepY(R:List Rl)(L M:List Str)(y:Str):List Tr:=if (hasW R "figures" && figO (y.cps.toList.headD 0))=true then [(1,((fW y.cps.toList:Nat):Int),0)] else stepF R L M y
theorem akF{R:List Rl}(h:hasW R "figures"=false)(L M:List Str):stepY R L M=stepF R L M:=by
 funext y
 unfold stepY;rw [h,Bool.false_and,if_neg K6]
def FigR(y:Str):Prop:=figO (y.cps.toList.headD 0)=true->PySem.NumText.AllDigits y.cps.toList
def zU(C:Addr):Sp:=fun vs H Q _=>∃ (x j ll ml md:Addr) (c:Nat) (r:List Nat) (y:Str) (g:Str->Str) (R:List Rl) (L M:List Str),vs=[.ref x,.str y]/\y.cps.toList=c::r/\y.length<=640/\IsOrd C H x j ll ml md g R L M/\(hasW R "figures"=true->FigR y)/\∀ r H',Same H H'->StepAt H' r (stepY R L M y)->Q (.ref r) H'
def zV(K:PySem.W.Frag):Sp:=fun vs H Q _=>∃ (l:Addr) (p:Int) (H0:Hp) (es:List (Addr×Addr)) (U:List D8),vs=[.ref l,.int p]/\UnI H0 H l es U/\U.length<=10000/\(∀ u∈U,u.2.2.1.length<=10000)/\∀ es' H',UnI H0 H' l es' (addM U p)->Q .non H'
def zW(C:Addr):Sp:=fun vs H Q _=>∃ (x l j ll ml md:Addr) (c:Nat) (r:List Nat) (y:Str) (g:Str->Str) (R:List Rl) (L M:List Str) (H0:Hp) (es:List (Addr×Addr)) (U:List D8),vs=[.ref x,.ref l,.str y]/\y.cps.toList=c::r/\y.length<=640/\IsOrd C H0 x j ll ml md g R L M/\(hasW R "figures"=true->FigR y)/\UnI H0 H l es U/\(stepY R L M y).length<=1000/\U.length<=9000/\(∀ u∈U,u.2.2.1.length<=9000)/\
 ∀ es' H',UnI H0 H' l es' ((stepY R L M y).foldl addS U)->Q .non H'
theorem akG{U:List D8}{p:Int} : (addM U p).length<=U.length+1:=by
 unfold addM;cases e:U.getLast? with
 | none=>simp
 | some u=>simp only [C8,List.length_dropLast,T9];lia
theorem ahV{U:List D8}{p:Int}(h:∀ u∈U,u.2.2.1.length<=n):∀ u∈addM U p,u.2.2.1.length<=n+1:=by
 unfold addM;cases e:U.getLast? with
 | none=>intro u hu;rw [E6.mp hu];simp
 | some v=>
  intro u hu
  rcases F9.mp hu with q | q
  .have:=h u ((List.dropLast_sublist U).subset q);lia
  .rw [E6.mp q]
   have:=h v (List.mem_of_getLast? e)
   simp only [C8,T9];lia
theorem akH{U:List D8}{s:Tr} : (addS U s).length<=U.length+1:=by
 unfold addS
 split
 .exact akG
 .simp
theorem ahW{U:List D8}{s:Tr}(h:∀ u∈U,u.2.2.1.length<=n):∀ u∈addS U s,u.2.2.1.length<=n+1:=by
 unfold addS
 split
 .exact ahV h
 .intro u hu
  rcases F9.mp hu with q | q
  .have:=h u q;lia
  .rw [E6.mp q];exact G3 _
theorem pY:∀ (ss:List Tr) (U:List D8),(ss.foldl addS U).length<=U.length+ss.length
 | [],U=>C3 _
 | s::ss,U=>by
  rw [dH,G5];have h1:=pY ss (addS U s);have h2:=akH (U:=U) (s:=s);lia
theorem pZ:∀ (ss:List Tr) (U:List D8) (n:Nat),(∀ u∈U,u.2.2.1.length<=n)->∀ u∈ss.foldl addS U,u.2.2.1.length<=n+ss.length
 | [],U,n,h=>h
 | s::ss,U,n,h=>by
  intro u hu
  have:=pZ ss (addS U s) (n+1) (ahW h) u hu
  rw [G5];lia
theorem ajo(f b:Bool)(j ll ml md:Addr):(ordF f b j ll ml md).lookup ("made" : Str)=some (V.ref md):=by
 unfold ordF;rw [K7,if_pos rfl]
def cutH(H:Hp)(as:List Addr):Hp:=fun a=>if a∈as then none else H a
theorem lL(H:Hp)(as:List Addr):Same (cutH H as) H:=fun a o h=>by
 unfold cutH at h
 by_cases q:a∈as
 .rw [if_pos q] at h;cases h
 .rw [if_neg q] at h;exact h
theorem UnI.base{l:Addr}{es:List (Addr×Addr)}{U:List D8}(S:Same H0 H1)(h:UnI H1 H l es U):UnI H0 H l es U:=⟨h.top,h.row,h.nd,fun a ha=>S.free (h.new a ha),S.trans h.same⟩
theorem UnI.cut{l:Addr}{es:List (Addr×Addr)}{U:List D8}(h:UnI H0 H l es U):∃ H1,Same H0 H1/\UnI H1 H l es U/\∀ a xs,H a=some (.tup xs)->H1 a=some (.tup xs):=by
 refine ⟨cutH H (l::es.map (fun e=>e.2)),fun a o ha=>?_,⟨h.top,h.row,h.nd,fun a ha=>by unfold cutH;exact if_pos ha,lL _ _⟩,fun a xs ha=>?_⟩
 .unfold cutH;rw [if_neg (fun q=>by rw [h.new a q] at ha;cases ha)];exact h.same _ _ ha
 .unfold cutH;rw [if_neg fun q=>?_]
  .exact ha
  .rcases E8.mp q with q | q
   .rw [q,h.top] at ha;cases ha
   .obtain ⟨ys,hy⟩:=h.live q;rw [hy] at ha;cases ha
theorem ahX{α β:Type}{F:α->β->Prop}{m:List β}(h:Paired F [] m):m=[]:=by cases h;rfl
theorem gS{α:Type}{l:List α}(h:l≠[]):∃ l' x,l=l'++[x]:=⟨l.dropLast,l.getLast h,(List.dropLast_concat_getLast h).symm⟩
def zX(C:Addr):Sp:=fun vs H Q _=>∃ (x j ll ml md:Addr) (z:Str) (g:Str->Str) (R:List Rl) (L M:List Str),vs=[.ref x,.str z]/\IsOrd C H x j ll ml md g R L M/\(G9 R).length<=1000/\z.length<=500/\aA (hasW R "figures") (G9 R) z/\(∀ y,(stepY R L M y).length<=15)/\
 ∀ l H',H l=none->Same H H'->IsUn H' l (Q4 (stepY R L M) (cutF (hasW R "figures") (G9 R) z.cps.toList).2)->Q (.ref l) H'
def qA(n:Nat)(fr:St)(Pv:Nat->List V->Hp->Prop)(i:Nat)(ys:List V)(σ2:St)(H2:Hp):Prop:=i<=n/\ys.length<=i/\(∃ v0 v1 v2 v3,σ2=v0::v1::v2::v3::fr)/\Pv i ys H2
theorem aoq(fr:St)(Y2:compStart 4 ixs O=none::none::none::none::fr)(Pv:Addr->Nat->List V->Hp->Prop)(h0:∀ D,H1 D=none->Pv D 0 [] (A0 H1 D (.lst [])))(hl:∀ D i ys H,H1 D=none->i<=xs.length->Pv D i ys H->D4 K H a xs)(hs:∀ D i x ys H,H1 D=none->i<xs.length->xs[i]?=some x->Pv D i ys H->H D=some (.lst ys)->ys.length<=i->∃ t v0 v1 v2 v3,x=.ref t/\C9 K H t [v0,v1,v2,v3]/\c (some v0::some v1::some v2::some v3::fr) H fun b H4=>
   if b=true then te (some v0::some v1::some v2::some v3::fr) H4 fun y H5=>H5 D=some (.lst ys)/\ys.length<sizeLine/\qA xs.length fr (Pv D) (i+1) (ys++[y]) (some v0::some v1::some v2::some v3::fr) (A0 H5 D (.lst (ys++[y])))
   else H4 D=some (.lst ys)/\qA xs.length fr (Pv D) (i+1) ys (some v0::some v1::some v2::some v3::fr) H4)(hd:∀ D ys H,H1 D=none->Pv D xs.length ys H->H D=some (.lst ys)->ys.length<=xs.length->Q (.ref D) H):y8 (k8 K a) 4 ixs (gTup K 4 (gCons (gName 0) (gCons (gName 1) (gCons (gName 2) (gCons (gName 3) gNil))))) c te O Q H1:=by
 intro D hD;refine ⟨xs.length,qA xs.length fr (Pv D),⟨G3 _,G3 _,⟨none,none,none,none,Y2⟩,h0 D hD⟩,?_⟩;rintro i ys σ2 H2 ⟨hi,hy,⟨w0,w1,w2,w3,rfl⟩,p⟩ hDy;have q:=hl D i ys H2 hD hi p
 by_cases D3:i<xs.length
 .refine .inr ⟨D3,⟨xs,xs[i],q,by simp [D3]⟩,fun x H' y=>?_⟩;obtain ⟨e,y⟩:=y;subst e;obtain ⟨t,v0,v1,v2,v3,rfl,ht,z⟩:=hs D i x ys _ hD D3 (y xs q) p hDy hy;exact ⟨t,_,rfl,ht,rfl,_,_,rfl,_,_,rfl,_,_,rfl,_,_,rfl,rfl,z⟩
 .have e:i=xs.length:=by lia
  subst e;exact .inl ⟨⟨xs,q,C3 _⟩,hd D ys H2 hD p hDy hy⟩
theorem zY{w:Bool}{g:List Str} : ∀ (n:Nat) (l:List Nat),l.length<=n->∀ y∈(cutF w g l).2,1<=y.length
 | 0,l,h,y,hy=>by
  have:l=[]:=w8.mp (by lia)
  subst this;rw [gR] at hy;cases hy
 | n+1,l,h,y,hy=>by
  cases e:partF w g l with
  | none=>rw [gQ e] at hy;cases hy
  | some x=>
   obtain ⟨rest,e1,e2,e3⟩:=eP e;rw [e2] at hy
   rcases E8.mp hy with q | q
   .rw [q];exact e3
   .refine zY n rest ?_ y q
    have:=congrArg W0 e1
    rw [C8,lenL] at this;lia
theorem agB{S:Str->List Tr}{ps:List Str}{y:Str}(h:ps[i]?=some y):Q4 S (ps.take (i+1))=(S y).foldl addS (Q4 S (ps.take i)):=by
 unfold Q4;rw [L7 h,V8,Y6,U0,bE,M0]
theorem lM{S:Str->List Tr}(hs:∀ y,(S y).length<=15):∀ (ps:List Str),(Q4 S ps).length<=15*ps.length/\∀ u∈Q4 S ps,u.2.2.1.length<=15*ps.length:=fun ps=>by
 have h0:(ps.flatMap S).length<=15*ps.length:=by
  induction ps with
  | nil=>exact C3 _
  | cons p ps ih=>
   rw [U0,C8,G5]
   have:=hs p
   lia
 have h1:=pY (ps.flatMap S) [];have h2:=pZ (ps.flatMap S) [] 0 (by simp);unfold Q4;rw [V9] at h1;exact ⟨by lia,fun u hu=>by have:=h2 u hu;lia⟩
theorem zZ{w:Bool}{g:List Str} : ∀ (n:Nat) (l:List Nat),l.length<=n->∀ y∈(cutF w g l).2,y.length<=l.length
 | 0,l,h,y,hy=>by
  have:l=[]:=w8.mp (by lia)
  subst this;rw [gR] at hy;cases hy
 | n+1,l,h,y,hy=>by
  cases e:partF w g l with
  | none=>rw [gQ e] at hy;cases hy
  | some x=>
   obtain ⟨rest,e1,e2,e3⟩:=eP e;rw [e2] at hy;have hl:=congrArg W0 e1;rw [C8,lenL] at hl
   rcases E8.mp hy with q | q
   .rw [q];lia
   .have:=zZ n rest (by lia) y q
    lia
theorem af2(P:∀ c d e,one c∈ks->O8 c d∈ks->O8 d e∈ks->one e∈ks)(h2:∀ p∈ks,(∃ c,p=one c)\/∃ c d,p=O8 c d):∀ (n:Nat) (ps:List Str),(∀ p∈ps,p∈ks)->(ps.flatMap fun p=>p.cps.toList).length<=n->
  (cutF false ks (ps.flatMap fun p=>p.cps.toList)).1=(ps.flatMap fun p=>p.cps.toList).length/\∀ y∈(cutF false ks (ps.flatMap fun p=>p.cps.toList)).2,y∈ks
 | n,[],_,_=>by rw [bE,gR];exact ⟨rfl,by simp⟩
 | 0,p::ps,hp,hn=>by
  exfalso
  rw [U0,C8] at hn
  rcases h2 p (hp p K1) with ⟨c,rfl⟩ | ⟨c,d,rfl⟩
  .rw [zH] at hn;simp at hn
  .rw [zG] at hn;simp at hn
 | n+1,p::ps,hp,hn=>by
  have go:∀ (y:Str) (qs:List Str),y∈ks->(∀ q∈qs,q∈ks)->1<=y.length->(p::ps).flatMap (fun p=>p.cps.toList)=y.cps.toList++qs.flatMap (fun p=>p.cps.toList)->partF false ks ((p::ps).flatMap fun p=>p.cps.toList)=some y->
    (cutF false ks ((p::ps).flatMap fun p=>p.cps.toList)).1=((p::ps).flatMap fun p=>p.cps.toList).length/\∀ y∈(cutF false ks ((p::ps).flatMap fun p=>p.cps.toList)).2,y∈ks:=fun y qs hy hq Q0 el hpf=>by
   obtain ⟨rest,e1,e2,e3⟩:=eP hpf;have er:rest=qs.flatMap fun p=>p.cps.toList:=List.append_cancel_left (e1.symm.trans el)
   have ln:=congrArg W0 el;rw [C8,lenL] at ln;obtain ⟨i1,i2⟩:=af2 P h2 n qs hq (by lia);rw [e2,er];refine ⟨?_,fun z hz=>?_⟩
   .show (cutF false ks _).1+y.length=_;rw [i1];lia
   .rcases E8.mp hz with q | q
    .rw [q];exact hy
    .exact i2 z q
  have pF:∀ l,partF false ks l=partG ks l:=fun l=>by cases l <;> rfl
  have jC:∀ q∈ps,q∈ks:=fun q hq=>hp q (M6 _ hq)
  rcases h2 p (hp p K1) with ⟨c,rfl⟩ | ⟨c,d,rfl⟩
  .have hc:=hp _ K1;have ef:(one c::ps).flatMap (fun p=>p.cps.toList)=c::ps.flatMap fun p=>p.cps.toList:=rfl
   cases ps with
   | nil=>exact go (one c) [] hc (by simp) (C3 1) rfl (by rw [pF,ef,bE,eO,if_pos hc])
   | cons p2 qs=>
    have Y1:=jC p2 K1;have hqs:∀ q∈qs,q∈ks:=fun q hq=>jC q (M6 _ hq)
    rcases h2 p2 Y1 with ⟨d,rfl⟩ | ⟨d,e,rfl⟩
    .have jD:(one c::one d::qs).flatMap (fun p=>p.cps.toList)=c::d::qs.flatMap fun p=>p.cps.toList:=rfl
     by_cases P6:O8 c d∈ks
     .exact go (O8 c d) qs P6 hqs (by show 1<=2;decide) rfl (by rw [pF,jD,m7,if_pos P6])
     .exact go (one c) (one d::qs) hc jC (C3 1) rfl (by rw [pF,jD,m7,if_neg P6,if_pos hc])
    .have jD:(one c::O8 d e::qs).flatMap (fun p=>p.cps.toList)=c::d::e::qs.flatMap fun p=>p.cps.toList:=rfl
     by_cases P6:O8 c d∈ks
     .have he:=P c d e hc P6 Y1;exact go (O8 c d) (one e::qs) P6 (fun q hq=>by rcases E8.mp hq with h | h;rw [h];exact he;exact hqs q h) (by show 1<=2;decide) rfl (by rw [pF,jD,m7,if_pos P6])
     .exact go (one c) (O8 d e::qs) hc jC (C3 1) rfl (by rw [pF,jD,m7,if_neg P6,if_pos hc])
  .have hc:=hp _ K1;have ef:(O8 c d::ps).flatMap (fun p=>p.cps.toList)=c::d::ps.flatMap fun p=>p.cps.toList:=rfl
   exact go (O8 c d) ps hc jC (by show 1<=2;decide) rfl (by rw [pF,ef,m7,if_pos hc])
theorem alh{p:Nat->Bool}{d:Nat} : ∀ {l:List Nat},d∈l.takeWhile p->p d=true
 | [],h=>by cases h
 | c::r,h=>by
  rw [List.takeWhile_cons] at h
  by_cases hc:p c=true
  .rw [if_pos hc] at h
   rcases E8.mp h with q | q
   .rw [q];exact hc
   .exact alh q
  .rw [if_neg hc] at h;cases h
theorem ajr{w:Bool}{g:List Str}{l:List Nat}{y:Str}(h:partF w g l=some y):w=true->FigR y:=by
 intro hw hf
 cases l with
 | nil=>cases h
 | cons c r=>
  rw [gO,hw,Bool.true_and] at h
  by_cases hc:figO c=true
  .rw [if_pos hc] at h;obtain rfl:=Option.some.inj h;intro d hd;have hd:d∈(c::r).takeWhile figO:=by simpa using hd
   have:=alh hd
   unfold figO at this;rw [Y8,decide_eq_true_eq,decide_eq_true_eq] at this;exact this
  .exfalso
   rw [if_neg hc] at h;obtain ⟨rest,e,hl⟩:=zP h
   have:y.cps.toList.headD 0=c:=by
    cases hy:y.cps.toList with
    | nil=>rw [<- lenL,hy] at hl;simp at hl
    | cons d t=>rw [hy] at e;exact (List.cons.inj e).1.symm
   rw [this] at hf;exact hc hf
theorem ahm{w:Bool}{g:List Str} : ∀ (n:Nat) (l:List Nat),l.length<=n->∀ y∈(cutF w g l).2,w=true->FigR y
 | 0,l,h,y,hy=>by
  have:l=[]:=w8.mp (by lia)
  subst this;rw [gR] at hy;cases hy
 | n+1,l,h,y,hy=>by
  cases e:partF w g l with
  | none=>rw [gQ e] at hy;cases hy
  | some x=>
   obtain ⟨rest,e1,e2,e3⟩:=eP e;rw [e2] at hy;have hl:=congrArg W0 e1;rw [C8,lenL] at hl
   rcases E8.mp hy with q | q
   .rw [q];exact ajr e
   .exact ahm n rest (by lia) y q
end L2
variable {A B G R:List L2.Rl}{S:PySem.Str->List L2.Tr}{U:List L2.D8}
set_option maxRecDepth 100000
namespace L2
open PySem PySem.Spec PyProof.Rows
structure StepL(H:Hp)(r:Addr)(ss:List Tr):Prop where
 ex:∃ ts:List Addr,H r=some (.lst (ts.map V.ref))/\Paired (fun t s=>H t=some (tupT s)) ts ss
def IsMk(H:Hp)(d:Addr)(ks:List Str)(F:Str->List Tr):Prop:=∃ ad:Str->Addr,H d=some (.dK (C4 ks fun y=>.ref (ad y)))/\∀ y∈ks,StepL H (ad y) (F y)
structure MkI(H H2:Hp)(d:Addr)(P:List Str)(F:Str->List Tr):Prop where
 same:Same H H2
 made:IsMk H2 d (G0 [] P) F
theorem nX{t:Addr}(hT:C9 K H t xs)(q:∀ p H',Same H H'->C9 K H' p (xs.take 2)->Q (.ref p) H'):rSlR K t none (some 2) H Q:=by
 by_cases h:xs.length<=2
 .refine rSlR.w hT ⟨rfl,?_⟩ (q t H (Same.refl H) (by rw [j9 h];exact hT));rw [show ((2:Int))=((2:Nat):Int) from rfl,HT.sIx_nat];lia
 .refine rSlR.t hT (fun e=>?_) fun p np=>q p _ (Same.new np) (.of ?_)
  .have:=e.2
   rw [show ((2:Int))=((2:Nat):Int) from rfl,HT.sIx_nat] at this;lia
  .rw [A6,show cutV xs none (some 2)=_ from oZ xs 2]
def UnT(H:Hp)(e:Addr×Addr)(u:D8):Prop:=H e.1=some (.tup [.int u.1,.int u.2.1,.ref e.2,.int u.2.2.2])/\H e.2=some (.tup (u.2.2.1.map V.int))
structure UnJ(H0 H:Hp)(l:Addr)(es:List (Addr×Addr))(U:List D8):Prop where
 same:Same H0 H
 new:H0 l=none
 top:H l=some (.lst (es.map fun e=>V.ref e.1))
 row:Paired (UnT H) es U
end L2
set_option maxRecDepth 100000
namespace L2
open PySem PySem.Spec PyProof.Rows
def tRev(K:PySem.W.Frag)(te:TE)(tk:TO):TE:=fun O H Q=>te O H fun x H1=>tk O H1 fun k H2=>k=some (-1)/\∃ a xs,x=.ref a/\D4 K H2 a xs/\∀ p,H2 p=none->Q (.ref p) (A0 H2 p (.lst xs.reverse))
theorem uaa(r:Vals xs us):Vals xs.reverse us.reverse:=by
 induction r with
 | nil=>exact .nil
 | cons h t ih=>
  rw [dE,dE];exact ih.append (.cons h .nil)
theorem aor{k:Expr}{tk:TO}{pos:Pos}(he:PE X e te)(hk:PO X (some k) tk):PE X (.Subscript e (.Slice none none (some k) p2) pos) (tRev X.K te tk):=by
 intro pins s O H Q I h;refine Subscript_ (C2 (he pins s O H _ I h) fun v s1 ⟨x,H1,I1,r1,q1⟩=>?_);refine wpAny_Slice ?_;rw [evalPart_none];refine wpAny_pure ?_;refine wpAny_pure ?_;refine C2 (hk pins s1 O H1 _ I1 q1) fun vk s3 ⟨kk,H3,I3,pk,q3⟩=>?_
 obtain ⟨rfl,a,xs,rfl,hx,q⟩:=q3;have I4:Inv X pins O H3 { s3 with heap:=s3.heap.push { cls:=.type "slice",data:=.fields #[.none,.none,vk] } }:=I3.kept (t':=s3.toks) fun b ob q=>Heap.get?_push_of_some _ q
 cases r1
 obtain ⟨its,r,ht,hz⟩:=I4.list hx;have B3:=r.length;show wpAny (model X.prog X.w) X.A (subscriptTail e (.Slice none none (some k) p2) (.ref a) (.ref s3.heap.objs.size)) (EP X pins O Q) X.xe { s3 with heap:=s3.heap.push { cls:=.type "slice",data:=.fields #[.none,.none,vk] } };refine tail_any (ops:=[.ref a,.ref s3.heap.objs.size]) ht.isList.typeIs slot_list_getitem.lookup ?_ (by with_unfolding_all rfl);refine wpAny_getItem_list_slice ht.isList (Heap.IsSliceOf.new ..) .none .none pk (by simp) ?_ (by rw [G4] <;> lia);rw [PySem.W.krv_pick];refine ⟨.ref _,_,I4.laid (o:=.lst xs.reverse) (fun b ob q=>Heap.get?_push_of_some _ q) (C3 _) ?_,rfl,q _ (I4.hok.fresh (C3 _))⟩;exact ⟨by rw [bD];exact hz,_,0,uaa r,Heap.get?_push_size _ rfl⟩
theorem aos{k:Expr}{tk:TO}{pos:Pos}(he:QE X e te)(hk:QO X (some k) tk)(hK:X.K=K:=by rfl):QE X (.Subscript e (.Slice none none (some k) p2) pos) (tRev K te tk):=by subst hK;exact ⟨aor he.out hk.out⟩
theorem amJ{tk:TO} : tRev K te tk O H Q=te O H fun x H1=>tk O H1 fun k H2=>k=some (-1)/\∃ a xs,x=.ref a/\D4 K H2 a xs/\∀ p,H2 p=none->Q (.ref p) (A0 H2 p (.lst xs.reverse)):=rfl
end L2
set_option maxRecDepth 100000
namespace PySem
section
variable {prog:Program} {w:World} {A:Around} {E:Value->Shared->Prop} {s:Shared}
theorem ahY:typeLookup (.type "list_reverseiterator") "__len__"=pure none:=by rw [typeLookup_type,builtinLookup_eq_fast];kernel_rfl
theorem akI:typeLookup (.type "list_reverseiterator") "__length_hint__"=pure (some (.builtin "list_reverseiterator.__length_hint__")):=by rw [typeLookup_type,builtinLookup_eq_fast];kernel_rfl
theorem akJ{Q:Bool->Shared->Prop}(hT:s.TypeIs (.ref r) "list_reverseiterator")(h:Q false s):wpAny (model prog w) A (Builtin.List.listLengthHint (.ref r)) Q E s:=by
 unfold Builtin.List.listLengthHint;refine wpAny_bind (wpAny_specialOf hT ahY ?_);show wpAny _ A (specialOf (Value.ref r) (Str.ofString "__length_hint__") >>= _) _ _ _;refine wpAny_bind (wpAny_specialOf hT akI ?_);generalize hid:("list_reverseiterator.__length_hint__" : String)=id0
 wp_delta
 rw [show splitId id0=some ("list_reverseiterator", "__length_hint__") from by subst hid;decide +kernel];subst hid;refine wpAny_bind (wpAny_isInstance (T:="list_reverseiterator") (b:=true) hT (by rw [isSubtype_type];kernel_rfl) ?_);refine wpAny_ite_split (fun W6=>absurd W6 (by decide)) (fun _=>?_);refine wpAny_ite_split (fun _=>?_) (fun W6=>absurd (by decide +kernel) W6);refine wpAny_ite_split (fun W6=>absurd W6 (by decide +kernel)) (fun _=>?_);exact wpAny_pure h
theorem ahZ{R:Result->Shared->Prop}{l:Addr}(hh:A.handled=none)(fB:s.heap.IsRevIter r l ((items.size:Int)-1))(hl:s.heap.IsList l items)(L1:l≠r)(hsz:items.size<=sizeLine)(S:Addr)(res:Value)(zf:Nat)(hSr:S≠r)(hSl:S≠l)(hS:s.heap.get? S=some { cls:=.type "list",data:=.seq #[] zf })(hR:∀ h' tk acc' c',(∀ b o,b≠S->b≠r->s.heap.get? b=some o->h'.get? b=some o)->h'.get? S=some { cls:=.type "list",dict:=none,data:=.seq acc' c',slots:=#[] }->
   ItemsOf (fun i v=>items[items.size-1-i]?=some v) acc' items.size->R (.ok (.ret res)) { s with heap:=h',toks:=tk }) :
  wpAny (model prog w) A.in1 (Builtin.List.listExtendWith (.ref S) (.ref r) res)
   (fun fin s'=>match fin with | .done f=>R (.ok f) s' | .again c'=>c'.quiet=true/\codeAny (model prog w) A c' R s') (fun e s'=>R (.error e) s') s:=by
 have W:=(Walks.listRev (prog:=prog) (w:=w) (A:=A.in1) hh r l L1 items).toS;have hT:=fB.typeIs;unfold Builtin.List.listExtendWith;refine wpAny_bind (wpAny_typeOf hT ?_);have h1:Builtin.List.listSameRef (.ref S) (.ref r)=false:=by simp [Builtin.List.listSameRef,hSr]
 have h2:(Value.type "list_reverseiterator" == Value.type "list")=false:=by decide
 have h3:(Value.type "list_reverseiterator" == Value.type "tuple")=false:=by decide
 simp only [h1,h2,h3,Bool.or_false,fT,if_false];refine wpAny_bind (wpAny_pyIter_revIter fB ?_);refine wpAny_bind (wpAny_holding (akJ hT ?_));refine wpAny_ite_split (fun W6=>absurd W6 (by decide +kernel)) (fun _=>?_);refine wpAny_pure ⟨plainId_quiet F.plain_extend_loop _,?_⟩;refine codeAny_extend_loopS W hsz S (by simp [hSr,hSl]) res items.size 0 _ #[] zf rfl (G3 _) ⟨G3 _,by simpa using fB,hl⟩ hS (ItemsOf.nil _) fun s' acc' c' hm hS' N6=>?_
 rw [Moved.eq_with hm];refine hR s'.heap s'.toks acc' c' (fun b o hb sP e=>hm.heap b o (fun cR=>?_) e) hS' N6
 rcases E8.mp cR with e' | cR
 .exact hb e'
 .exact sP (E6.mp cR)
theorem akK{Q:Value->Shared->Prop}{l:Addr}(hh:A.handled=none)(fB:s.heap.IsRevIter r l ((items.size:Int)-1))(hl:s.heap.IsList l items)(L1:l≠r)(hsz:items.size<=sizeLine)(hQ:∀ h' tk acc' c',(∀ b o,b≠r->s.heap.get? b=some o->h'.get? b=some o)->
   h'.get? s.heap.objs.size=some { cls:=.type "list",dict:=none,data:=.seq acc' c',slots:=#[] }->ItemsOf (fun i v=>items[items.size-1-i]?=some v) acc' items.size->Q (.ref s.heap.objs.size) { s with heap:=h',toks:=tk }) :
  wpAny (model prog w) A (call (.type "list") [.ref r]) Q E s:=by
 refine callType_codes (Q₁:=fun obj zu=>obj=.ref s.heap.objs.size/\zu={ s with heap:=s.heap.push { cls:=.type "list",data:=.seq #[] } }) F.called_list (F.typeCall_list_1 _) F.entry_list_init
  (code_list_new _ ⟨rfl,rfl⟩) fun obj zu zr=>?_
 obtain ⟨rfl,rfl⟩:=zr;have hS:(s.heap.push { cls:=.type "list",data:=.seq #[] }).get? s.heap.objs.size=some { cls:=.type "list",data:=.seq #[] }:=Heap.get?_push_size _ rfl;obtain ⟨o1,e1,_⟩:=id fB;obtain ⟨o2,e2,_⟩:=id hl;have n1:s.heap.objs.size≠r:=fun e=>Y7 _ (e ▸ Heap.lt_size e1)
 have n2:s.heap.objs.size≠l:=fun e=>Y7 _ (e ▸ Heap.lt_size e2)
 refine ⟨⟨_,hS,rfl⟩,F.args_list_init_2 _ _,?_⟩;show wpAny _ _ (do let old <- Builtin.List.listItems (.ref s.heap.objs.size);Builtin.List.listUpdate (.ref s.heap.objs.size) (fun _=>#[]);letGo old.toList.reverse;Builtin.List.listExtendWith (.ref s.heap.objs.size) (.ref r) .none) _ _ _;refine wpAny_bind ?_;unfold Builtin.List.listItems;refine wpAny_bind (wpAny_seqItems hS rfl (wpAny_pure ?_));show wpAny _ _ (updateSeq s.heap.objs.size (fun _=>#[]) >>= fun _=>letGo (#[]:Array Value).toList.reverse >>= fun _=>Builtin.List.listExtendWith (.ref s.heap.objs.size) (.ref r) .none) _ _ _;refine wpAny_bind (wpAny_updateSeq hS rfl ?_);have ze:=Heap.get?_update_self (Obj.mapSeq (fun _=>(#[]:Array Value))) hS rfl;have oth:∀ b o,b≠s.heap.objs.size->s.heap.get? b=some o->((s.heap.push { cls:=.type "list",data:=.seq #[] }).update s.heap.objs.size (Obj.mapSeq (fun _=>(#[]:Array Value)))).get? b=some o:=
  fun b o hb e=>(Heap.get?_update_other _ _ (Ne.symm hb)).trans (Heap.get?_push_of_some _ e)
 refine wpAny_bind (wpAny_letGo ?_);refine ahZ (A:=A.in1) hh (fB.at fun o e=>oth r o n1.symm e) (hl.at fun o e=>oth l o n2.symm e) L1 hsz _ .none _ n1 n2 ze fun h' tk acc' c' hk hS' N6=>?_
 exact ⟨rfl,hQ h' tk acc' c' (fun b o hb e=>hk b o (K8 (Heap.lt_size e)) hb (oth b o (K8 (Heap.lt_size e)) e)) hS' N6⟩
end
end PySem
namespace L2
open PySem PySem.Spec PyProof.Rows
def tLRev(ta:TA):TE:=fun O H Q=>ta O H fun vs H1=>∃ (l:Addr) (xs:List V),vs=[.ref l]/\H1 l=some (.lst xs)/\∀ p,H1 p=none->Q (.ref p) (A0 H1 p (.lst xs.reverse))
theorem amK{a:Expr}{p pos:Pos}(hc:X.calm=true)(hg:Gl X "reversed")(hm:X.mg "reversed"=none)(sQ:Gl X "list")(fC:X.mg "list"=none)(ha:PA X [a] ta)(h1:K2 a=false:=by rfl) :
  PE X (.Call (.Name "list" p1) [.Call (.Name "reversed" p) [a] [] pos] [] pos1) (tLRev ta):=by
 intro pins s O H Q I h;refine Call_ (x9 I sQ fC q0 (PyProof.Rows.callWith_type1 ?_ rfl rfl));show wpAny _ _ (spliced ((false,eval (.Call (.Name "reversed" p) [a] [] pos) X.env)::backTo pos1 (starEach [] X.env))) _ _ s;refine Calls.spliced_cons (Call_ (x9 I hg hm ae4 (PyProof.Rows.callWith_type1 (C2 (ha pos pins s O H _ I h) fun us s1 ⟨vs,H1,I1,r1,q1⟩=>?_) (N2 h1) rfl)));obtain ⟨l,xs,rfl,e1,q⟩:=q1;obtain ⟨u1,rfl,cN⟩:=vals1 r1
 cases cN
 obtain ⟨its1,T6,p1,hz⟩:=I1.list (D4.of (K:=X.K) e1);have q1:=T6.length;refine call_reversed_list p1.isList ?_;refine Calls.spliced_nil ?_;have D3:l<s1.heap.objs.size:=by obtain ⟨o,e,_⟩:=p1.isList;exact Heap.lt_size e
 have z1:(s1.heap.push (revObj l ((its1.toArray.size:Int)-1))).IsRevIter s1.heap.objs.size l ((its1.toArray.size:Int)-1):=⟨_,Heap.get?_push_size _ rfl,rfl,rfl⟩
 refine akK (I1.ok.hd hc) z1 (p1.isList.at fun o e=>Heap.get?_push_of_some _ e) (K8 D3) (by rw [G4];lia) fun h' tk acc' c' hk hS' N6=>?_
 have ea:acc'.toList=its1.reverse:=by
  refine List.ext_getElem? fun j=>?_
  by_cases hj:j<its1.length
  .have mK:j<acc'.size:=by rw [N6.1,G4];exact hj
   have hv:=N6.2 j acc'[j] (Array.getElem?_eq_getElem mK);rw [List.getElem?_reverse hj,Array.getElem?_toList,Array.getElem?_eq_getElem mK,<- hv,List.getElem?_toArray,G4]
  .rw [List.getElem?_eq_none (by rw [x6,N6.1,G4];lia),List.getElem?_eq_none (by rw [bD];lia)]
 refine ⟨.ref _,_,I1.laid (o:=.lst xs.reverse) (t':=tk) (fun b o e=>hk b o (K8 (Heap.lt_size e)) (Heap.get?_push_of_some _ e)) (by show s1.heap.objs.size<=(s1.heap.push _).objs.size;rw [Heap.size_push];lia) ⟨by rw [bD];exact hz,acc'.toList,c',ea ▸ uaa T6,by simpa using hS'⟩,rfl,q _ (I1.hok.fresh (by show s1.heap.objs.size<=(s1.heap.push _).objs.size;rw [Heap.size_push];lia))⟩
theorem amL{a:Expr}{p pos:Pos}(hm:X.mg "reversed"=none)(fC:X.mg "list"=none)(ha:QA X [a] ta)(hc:X.calm=true:=by rfl)(hg:Gl X "reversed":=by rfl)(sQ:Gl X "list":=by rfl)(h1:K2 a=false:=by rfl) :
  QE X (.Call (.Name "list" p1) [.Call (.Name "reversed" p) [a] [] pos] [] pos1) (tLRev ta):=⟨amK hc hg hm sQ fC ha.out h1⟩
theorem amM : tLRev ta O H Q=ta O H fun vs H1=>∃ (l:Addr) (xs:List V),vs=[.ref l]/\H1 l=some (.lst xs)/\∀ p,H1 p=none->Q (.ref p) (A0 H1 p (.lst xs.reverse)):=rfl
end L2
set_option maxRecDepth 100000
namespace L2
open PySem PySem.Spec PyProof.Rows
def X7(k w:Int):List Int:=if k=0 then [1] else if k=1 then [2,w+1] else [w+3]
def g9(U:List D8):List Int:=U.flatMap fun u=>X7 u.1 u.2.1
theorem aeH(k w:Int):(X7 k w).length<=2:=by
 unfold X7
 split
 .simp
 .split <;> simp
theorem lN:∀ U:List D8,(g9 U).length<=2*U.length
 | []=>C3 _
 | u::U=>by
  have h1:=lN U;have h2:=aeH u.1 u.2.1;show (X7 u.1 u.2.1++g9 U).length<=_;rw [C8,G5];lia
theorem agC{u:D8}(h:U[i]?=some u):g9 (U.take (i+1))=g9 (U.take i)++X7 u.1 u.2.1:=by
 unfold g9;rw [L7 h,V8]
 simp
def ahn:Sp:=fun vs H Q _=>∃ (k w:Int),vs=[.int k,.int w]/\∀ l,H l=none->Q (.ref l) (A0 H l (.lst ((X7 k w).map V.int)))
def aho:Sp:=fun vs H Q _=>∃ (a:Addr) (U:List D8),vs=[.ref a]/\IsUn H a U/\U.length<=10000/\∀ l H',H l=none->Same H H'->H' l=some (.lst ((g9 U).map V.int))->Q (.ref l) H'
def P3(U:List D8):List Int:=U.flatMap fun u=>(u.2.2.1.map fun p=>p+2)++[1]
def af3:Sp:=fun vs H Q _=>∃ (z:Str),vs=[.str z]/\z.length<=1000/\∀ l H',H l=none->Same H H'->H' l=some (.lst ((z.cps.toList.map fun c:Nat=>(c:Int)).map V.int))->Q (.ref l) H'
def L8(U:List D8):Nat:=(U.map fun u=>u.2.2.1.length).sum
theorem agD(U:List D8)(s:Tr):L8 (addS U s)<=L8 U+1:=by
 unfold addS
 by_cases h:s.1=0
 .rw [if_pos h]
  by_cases hU:U=[]
  .subst hU;unfold addM L8
   simp
  .obtain ⟨U',u,rfl⟩:=gS hU;unfold addM;rw [List.getLast?_append,List.getLast?_singleton];simp [L8];lia
 .rw [if_neg h];simp [L8]
theorem adZ:∀ (ss:List Tr) (U:List D8),L8 (ss.foldl addS U)<=L8 U+ss.length
 | [],U=>C3 _
 | s::ss,U=>by
  rw [dH,G5];have h1:=adZ ss (addS U s);have h2:=agD U s;lia
theorem adq(hs:∀ y,(S y).length<=15)(ps:List Str):L8 (Q4 S ps)<=15*ps.length:=by
 have h0:(ps.flatMap S).length<=15*ps.length:=by
  induction ps with
  | nil=>exact C3 _
  | cons p ps ih=>
   rw [U0,C8,G5]
   have:=hs p
   lia
 have h1:=adZ (ps.flatMap S) [];unfold Q4;have h2:L8 []=0:=rfl;lia
theorem bW(U:List D8):(P3 U).length=L8 U+U.length:=by
 unfold P3 L8
 induction U with
 | nil=>rfl
 | cons u U ih=>
  rw [U0,C8,ih,G6,List.sum_cons,G5]
  simp
  lia
theorem gT(U:List D8):L8 U.reverse=L8 U:=by
 unfold L8;rw [fR,List.sum_reverse]
def af4:Sp:=fun vs H Q _=>∃ (a:Addr) (b:Bool) (U:List D8),vs=[.ref a,.bl b]/\IsUn H a U/\U.length<=10000/\(∀ u∈U,u.2.2.1.length<=10000)/\L8 U<=100000/\∀ l H',H l=none->Same H H'->H' l=some (.lst ((P3 (if b=true then U.reverse else U)).map V.int))->Q (.ref l) H'
theorem aeI{α β:Type}{F:α->β->Prop} : ∀ {as:List α} {bs:List β},Paired F as bs->Paired F as.reverse bs.reverse
 | _,_,.nil=>.nil
 | _,_,.cons h t=>by
  rw [dE,dE];exact Paired.snoc (aeI t) h
theorem adr{α β:Type}{F:α->β->Prop} : ∀ {as:List α} {bs:List β} (h:Paired F as bs) (n:Nat),Paired F (as.take n) (bs.take n)
 | _,_,.nil,n=>by rw [List.take_nil,List.take_nil];exact .nil
 | _,_,.cons h t,0=>.nil
 | _,_,.cons h t,n+1=>.cons h (adr t n)
def T3(b:Bool)(U:List D8)(z:Str):List (List Int):=[g9 U,P3 (if b=true then U.reverse else U),U.map fun u=>u.2.2.2+1,z.cps.toList.map fun c:Nat=>(c:Int)]
def keyF(n:Nat)(b:Bool)(U:List D8)(z:Str):List Int:=((T3 b U z).take n).flatMap fun l=>l++[0]
def spKey(C:Addr):Sp:=fun vs H Q _=>∃ (x j ll ml md:Addr) (z:Str) (n:Nat) (g:Str->Str) (R:List Rl) (L M:List Str),vs=[.ref x,.str z,.int n]/\n<=4/\IsOrd C H x j ll ml md g R L M/\(G9 R).length<=1000/\z.length<=500/\aA (hasW R "figures") (G9 R) z/\(∀ y,(stepY R L M y).length<=15)/\
 ∀ l H',H l=none->Same H H'->H' l=some (.lst ((keyF n (hasW R "behind") (Q4 (stepY R L M) (cutF (hasW R "figures") (G9 R) z.cps.toList).2) z).map V.int))->Q (.ref l) H'
def ahp:Sp:=fun vs H Q _=>∃ (a:Addr) (U:List D8),vs=[.ref a]/\IsUn H a U/\U.length<=10000/\∀ l H',H l=none->Same H H'->H' l=some (.lst ((U.map fun u=>u.2.2.2+1).map V.int))->Q (.ref l) H'
theorem agE(hs:∀ y,(S y).length<=15){w:Bool}{y:Str}(hy:y.length<=500) :
  (Q4 S (cutF w ks y.cps.toList).2).length<=10000/\(∀ u∈Q4 S (cutF w ks y.cps.toList).2,u.2.2.1.length<=10000)/\L8 (Q4 S (cutF w ks y.cps.toList).2)<=100000:=by
 have h1:=lM hs (cutF w ks y.cps.toList).2;have h2:=(lI (w:=w) (g:=ks) _ y.cps.toList (C3 _)).2.1;have h3:=adq hs (cutF w ks y.cps.toList).2;rw [lenL] at h2;exact ⟨by lia,fun u hu=>by have:=h1.2 u hu;lia,by lia⟩
def StOk(s:Tr):Prop:=(s.1=0\/s.1=1\/s.1=2)/\0<=s.2.1/\0<=s.2.2
def EltOk(u:D8):Prop:=(u.1=0\/u.1=1\/u.1=2)/\0<=u.2.1/\(∀ p∈u.2.2.1,0<=p)/\0<=u.2.2.2
theorem akL{y:Str} : ∀ s∈stepF R L M y,StOk s:=by
 unfold stepF;cases e:(putsL R L M).lookup y with
 | none=>intro s hs;cases hs
 | some t=>
  obtain ⟨l1,l2,el,_⟩:=List.lookup_eq_some_iff.mp e;have hm:(y,t)∈putsL R L M:=by rw [el];simp
  show ∀ s∈t,StOk s;have one:∀ {a:Tr},[a]=t->StOk a->∀ s∈t,StOk s:=fun {a} e h s hs=>by
   rw [<- e] at hs;rw [E6.mp hs];exact h
  unfold putsL at hm
  rcases F9.mp hm with hm | hm
  .rcases F9.mp hm with hm | hm
   .rcases F9.mp hm with hm | hm
    .obtain ⟨a,_,q⟩:=E1.mp hm;exact one (Prod.mk.inj q).2 ⟨.inr (.inr rfl),bH _,x8 _⟩
    .obtain ⟨a,_,q⟩:=E1.mp hm;exact one (Prod.mk.inj q).2 ⟨.inl rfl,bH _,x8 _⟩
   .obtain ⟨_,_,hm⟩:=X3.mp hm;obtain ⟨a,_,q⟩:=E1.mp hm;exact one (Prod.mk.inj q).2 ⟨.inr (.inr rfl),bH _,bH _⟩
  .unfold m5 at hm;obtain ⟨z,hz,q⟩:=dC.mp hm
   by_cases hw:z.1=("as" : Str)
   .rw [if_pos hw,Option.map_eq_some_iff] at q;obtain ⟨p,_,q⟩:=q;rw [<- (Prod.mk.inj q).2];intro s hs;obtain ⟨b,_,rfl⟩:=E1.mp hs;unfold baseT
    by_cases hb:b∈L
    .rw [if_pos hb];exact ⟨.inr (.inr rfl),bH _,x8 _⟩
    .rw [if_neg hb];exact ⟨.inl rfl,bH _,x8 _⟩
   .rw [if_neg hw] at q;cases q
theorem akM(y:Str):∀ s∈stepY R L M y,StOk s:=by
 unfold stepY
 split
 .intro s hs;rw [E6.mp hs];exact ⟨.inr (.inl rfl),bH _,x8 _⟩
 .exact akL
theorem amN{s:Tr}(hU:∀ u∈U,EltOk u)(hs:StOk s):∀ u∈addS U s,EltOk u:=by
 unfold addS
 split
 .unfold addM
  split
  .intro u hu;rw [E6.mp hu];exact ⟨.inl rfl,x8 _,fun p hp=>by rw [E6.mp hp];exact hs.2.1,x8 _⟩
  .rename_i v hv
   have ov:=hU v (List.mem_of_getLast? hv);intro u hu
   rcases F9.mp hu with h | h
   .exact hU u ((List.dropLast_sublist _).subset h)
   .rw [E6.mp h];refine ⟨ov.1,ov.2.1,fun p hp=>?_,ov.2.2.2⟩
    rcases F9.mp hp with h | h
    .exact ov.2.2.1 p h
    .rw [E6.mp h];exact hs.2.1
 .intro u hu
  rcases F9.mp hu with h | h
  .exact hU u h
  .rw [E6.mp h];exact ⟨hs.1,hs.2.1,by simp,hs.2.2⟩
theorem akN(hS:∀ y,∀ s∈S y,StOk s)(ps:List Str):∀ u∈Q4 S ps,EltOk u:=by
 have gen:∀ (ss:List Tr) (U:List D8),(∀ u∈U,EltOk u)->(∀ s∈ss,StOk s)->∀ u∈ss.foldl addS U,EltOk u:=by
  intro ss
  induction ss with
  | nil=>intro U hU _;exact hU
  | cons s ss ih=>intro U hU hs;exact ih _ (amN hU (hs s K1)) fun t ht=>hs t (M6 _ ht)
 refine gen _ [] (by simp) fun s hs=>?_
 obtain ⟨y,_,h⟩:=X3.mp hs;exact hS y s h
theorem qB(xs:List V)(x:V):cutV (xs++[x]) none (some (-1))=xs:=by
 unfold cutV;have e1:HT.sIx (xs++[x]).length 0 none=0:=rfl;have e2:HT.sIx (xs++[x]).length (xs++[x]).length (some (-1))=xs.length:=by
  unfold HT.sIx
  simp
  lia
 rw [e1,e2]
 simp
theorem akO(b:Bool)(U:List D8)(z:Str)(n:Nat):(keyF n b U z).length<=4*U.length+L8 U+z.length+4:=by
 have h1:=lN U;have h2:(P3 (if b=true then U.reverse else U)).length=L8 U+U.length:=by
  rw [bW]
  split
  .rw [gT,bD]
  .rfl
 have h3:z.cps.toList.length=z.length:=lenL z;have h4:(keyF n b U z).length<=(keyF 4 b U z).length:=by
  unfold keyF;have e:(T3 b U z).take 4=T3 b U z:=rfl;rw [e]
  conv=>rhs;rw [<- Y5 n (T3 b U z),V8,C8]
  exact o9 _ _
 have h5:(keyF 4 b U z).length=(g9 U).length+(P3 (if b=true then U.reverse else U)).length+U.length+z.cps.toList.length+4:=by
  unfold keyF T3;simp only [List.take_succ_cons,o7,U0,bE,M0,C8,A8,T9];lia
 lia
end L2
set_option maxRecDepth 100000
namespace L2
open PySem PySem.Spec PyProof.Rows
end L2
open L2 in
local macro_rules | `(tactic| walk_at "rd")=>`(tactic| simp only [↓wG,↓ap_c,↓al1,↓anM,↓aj5,↓al2,↓al3,↓anN,↓al4,↓anO,↓anP,↓al5,↓ap_op,↓alW,↓ap_tB,↓anK,↓anJ,↓ap_or,↓alZ,↓anL,↓al0,↓alY,↓ap_if,↓aj4,↓ap_cb,↓al9,↓anS,↓ama,↓anT,↓anU,↓ap_sl,↓aiH,↓amb,↓anX,↓aml,↓aj9,↓amj,↓amk,↓aka,↓akb,↓ap_bm,↓anV,↓anQ,↓al7,↓al6,↓aj7,↓al8,↓ap_un,↓ap_rU,↓anR,↓anW,↓amc,↓amd,↓ame,↓amf,↓aj6,↓amg,↓aj8,↓amh,↓alX,ami,amm,akc,akd,ake,↓ad_ii,↓ad_ss,↓ad_rr,↓mu_ii,↓mu_ri,↓eq_ii,↓eq_ss,↓eq_bb,↓eq_rx,↓eq_xr,↓ne_ii,↓ne_ss,↓ne_bb,↓ne_rx,↓ne_xr,↓L2.lt_ii,↓L2.lt_ss,↓le_ii,↓le_ss,↓gt_ii,↓gt_ss,↓ge_ii,↓ge_ss,↓in_xs,↓in_xr,↓sl_s,↓sl_r,↓len_s,↓len_r,↓an0,↓all_r,↓isi_t,↓ord_s,↓an5,↓aki,wY,↓akj,↓tup_r,↓ams,↓an6,↓an7,↓amt,↓amu,↓akl,↓akm,↓amn,↓amo,↓amJ,↓amM,↓aop,↓aol,↓aok,↓amD,↓ai9,↓aom,↓aon,↓aoo,↓any_r,↓akw,↓amA,↓amB,↓aoc,↓amC,↓aky,↓amv,↓akr,↓amx,↓akq,akf,afy,cxK,cxKn,cxKb,cxC,cxCn,cxCb,G6,List.map_nil,G5,V9,Nat.sub_self,Nat.reduceAdd,Nat.reduceSub,Nat.zero_add,Nat.add_one_sub_one,List.replicate_zero,dB,M0,bF,List.cons_append,List.getElem?_cons_zero,List.getElem?_cons_succ,List.set_cons_zero,List.set_cons_succ,Option.some.injEq,Option.join_some,Option.join_none,exists_eq_left',exists_eq_left,exists_eq',exists_eq,reduceCtorEq,false_and,and_false,exists_false,exists_const,false_or,or_false,true_and,and_true,V.str.injEq,V.int.injEq,V.bl.injEq,V.ref.injEq,V.ty.injEq,List.cons.injEq,exists_and_left,exists_and_right,and_assoc,if_true,if_false,fT,Bool.not_true,Bool.not_false,ite_true,ite_false,Int.reduceLT,Int.reduceLE,G3])
namespace K34
open PySem PySem.Spec PyProof.Rows L2
set_option maxRecDepth 100000
set_option maxHeartbeats 4000000
def top(i:Nat):Stmt:=PySem.Challenge.pw_sortlore_k34_from_behind.main.body.getD i (.Pass ⟨0,0,0,0⟩)
abbrev m8:Stmt:=top 7
abbrev W3:Stmt:=top 8
abbrev m9:Stmt:=top 11
abbrev O9:Stmt:=top 14
abbrev lO:Stmt:=top 16
abbrev gU:Stmt:=top 26
abbrev lP:Stmt:=top 27
abbrev aB:Stmt:=top 28
abbrev Z6:Stmt:=top 29
abbrev q9:Stmt:=top 30
abbrev r0:Stmt:=top 31
abbrev gW:Stmt:=top 32
abbrev aD:Stmt:=top 33
abbrev O4:Stmt:=top 34
abbrev aE:Stmt:=dS (top 35) 0
abbrev bX:Stmt:=dS (top 35) 1
abbrev bY:Stmt:=dS (top 35) 2
abbrev aF:Stmt:=dS (top 35) 3
abbrev bZ:Stmt:=top 17
abbrev r8:Stmt:=top 18
abbrev s_cut:Stmt:=top 19
abbrev cA:Stmt:=dS (top 35) 4
abbrev aG:Stmt:=dS (top 35) 5
abbrev gX:Stmt:=top 43
abbrev gY:Stmt:=top 44
abbrev gZ:Stmt:=top 45
abbrev Z7:Stmt:=top 46
abbrev n5:Stmt:=top 47
abbrev hJ:Stmt:=top 37
abbrev aH:Stmt:=top 38
abbrev n6:Stmt:=top 39
abbrev hW:Stmt:=top 40
abbrev hX:Stmt:=top 41
abbrev s_key:Stmt:=top 49
abbrev iA:Stmt:=top 51
abbrev s0:Stmt:=top 52
abbrev Z8:Stmt:=top 53
abbrev V6:Stmt:=top 54
abbrev aI:Stmt:=top 55
abbrev aJ:Stmt:=top 56
abbrev s_law:Stmt:=top 57
def visB(S:Scope)(x:Str):Bool:=decide (S.names.lookup x=some .local) || decide (S.names.lookup x=some .cell) || decide (S.names.lookup x=some .free)
theorem qvd{pos:Pos}{S:Scope}{x:Str}(hN:X.N=N)(hs:X.env.scope=S)(h:(decide (N[n]?=some x)&&visB S x && !(x==("__debug__" : Str)) && !(x==("__classdict__" : Str)))=true):QE X (.Name x pos) (tVar n):=by
 subst hN hs;simp only [visB,Y8,Bool.or_eq_true,decide_eq_true_eq,Bool.not_eq_true'] at h;exact qe_v h.1.1.1 (h.1.1.2.elim (fun z=>z.elim .inl fun z=>.inr (.inl z)) fun z=>.inr (.inr z)) h.1.2 h.2
theorem len1{α:Type}{F:List α->Prop}(h:∀ a,F [a]):∀ us:List α,us.length=1->F us
 | [a],_=>h a
theorem len2{α:Type}{F:List α->Prop}(h:∀ a b,F [a,b]):∀ us:List α,us.length=2->F us
 | [a,b],_=>h a b
theorem len3{α:Type}{F:List α->Prop}(h:∀ a b c,F [a,b,c]):∀ us:List α,us.length=3->F us
 | [a,b,c],_=>h a b c
theorem len4{α:Type}{F:List α->Prop}(h:∀ a b c d,F [a,b,c,d]):∀ us:List α,us.length=4->F us
 | [a,b,c,d],_=>h a b c d
theorem len5{α:Type}{F:List α->Prop}(h:∀ a b c d e,F [a,b,c,d,e]):∀ us:List α,us.length=5->F us
 | [a,b,c,d,e],_=>h a b c d e
theorem G2{Q:List Str}{sc:Scope}(h1:sc.kind=.function:=by rfl)(h2:sc.isCoroutine=false:=by rfl)(h3:sc.isGenerator=false:=by rfl)(h4:N.Nodup:=by decide +kernel)(h5:N.take Q.length=Q:=by rfl)(h6:∀ x∈Q,sc.names.lookup x=some .local\/sc.names.lookup x=some .cell:=by decide +kernel)(h7:∀ y∈sc.names,y.2≠.free:=by decide +kernel):FnScope N Q sc:=⟨h1,h2,h3,h4,h5,h6,h7⟩
theorem U7{kn:List (Str×NameKind)}{sc:Scope}(h1:sc.kind=.function:=by rfl)(h2:∀ x∈sc.names,x.2≠.cell:=by decide +kernel)(h3:∀ x∈sc.names,x.2=.local->sc.names.lookup x.1=some .local:=by decide +kernel)(h4:∀ x∈sc.names,x.2=.free->kn.lookup x.1=some .cell\/kn.lookup x.1=some .free:=by decide +kernel)(h5:∀ x∈sc.names,x.2=.free->sc.names.lookup x.1=some .free:=by decide +kernel)(h6:N'.length=k+ixs.length:=by rfl)(h7:ixs.map (fun i=>N[i]?)=(N'.drop k).map some:=by decide +kernel)(h8:∀ x∈N'.drop k,(x,NameKind.free)∈sc.names:=by decide +kernel):CompOk N kn sc N' k ixs:=⟨h1,h2,h3,h4,h5,h6,h7,h8⟩
theorem hm{A:Around}(r:Room k A)(h:j<=k:=by decide):Room j A:=r.mono h
structure DF(K:PySem.W.Frag)(n:Str)(s:Stmt):Prop where
 ex:∃ (f:Addr) (oc:Value) (od:Option Addr) (kV dc pm:Value) (an:Option Addr) (cd ct:Value) (sl:Array (Option Value)),O2 K mainGlobals n=some (some (.ref f))/\K.lookup f=some ⟨oc,od,.func (Q5 n n (R5 s) (Q7 s) (C6 s) .none kV dc pm an cd ct),sl⟩/\V1 K cd n=true/\R4 K (.ref f)=true
theorem df_mk{n:Str}{s:Stmt}{kV dc:Value}{sl:Array (Option Value)}(a:O2 K mainGlobals n=some (some (.ref f)))(l:K.lookup f=some ⟨oc,od,.func (Q5 n n (R5 s) (Q7 s) (C6 s) .none kV dc pm an cd ct),sl⟩)(c:V1 K cd n=true)(k:R4 K (.ref f)=true):DF K n s:=⟨f,oc,od,kV,dc,pm,an,cd,ct,sl,a,l,c,k⟩
theorem DF.go{P:Program}{w:World}{base:Heap}{n:Str}{s:Stmt}{ps:List Str}(d:DF K n s)(X:K.In h)(G:h.Ns mainGlobals mg)(_:K.In base)(ok:∀ {f fd},FunD K n n s f fd->FnOk P w K mg base E5 k f fd ps sp)(hl:∀ (kV dc pm:Value) (an:Option Addr) (cd ct:Value) (us:List Value),us.length=ps.length->bindArgs (Q5 n n (R5 s) (Q7 s) (C6 s) .none kV dc pm an cd ct) ⟨us,[]⟩=pure (ps.zip us):=by first | exact fun _ _ _ _ _ _=>len1 fun _=>rfl | exact fun _ _ _ _ _ _=>len2 fun _ _=>rfl | exact fun _ _ _ _ _ _=>len3 fun _ _ _=>rfl | exact fun _ _ _ _ _ _=>len4 fun _ _ _ _=>rfl | exact fun _ _ _ _ _ _=>len5 fun _ _ _ _ _=>rfl):FO P w K mg base k n ps [] sp:=by
 obtain ⟨f,oc,od,kV,dc,pm,an,cd,ct,sl,a,l,c,kp⟩:=d.ex;exact ⟨_,_,ok (k9 (st:=s) l c),Z0 X G a,kp,[],.all (hl kV dc pm an cd ct),.nil⟩
structure Txt(P:Program)(w:World)(K:PySem.W.Frag)(mg:Str->Option Value)(C:Addr):Prop where
 cl:Cls K C
 na_figures:NoAttr K C "figures"
 na_behind:NoAttr K C "behind"
 na_jobs:NoAttr K C "jobs"
 na_letter_line:NoAttr K C "letter_line"
 na_mark_line:NoAttr K C "mark_line"
 na_made:NoAttr K C "made"
 b_any:mg "any"=none
 b_dict:mg "dict"=none
 b_enumerate:mg "enumerate"=none
 b_int:mg "int"=none
 b_len:mg "len"=none
 b_list:mg "list"=none
 b_min:mg "min"=none
 b_ord:mg "ord"=none
 b_range:mg "range"=none
 b_reversed:mg "reversed"=none
 b_tuple:mg "tuple"=none
 b_zip:mg "zip"=none
 g_MARK:∃ t,mg "MARK"=some (.int 0 t)
 g_LETTER:∃ t,mg "LETTER"=some (.int 2 t)
 g_FIGURES:∃ t,mg "FIGURES"=some (.int 1 t)
 x_JOBS:∃ a,mg "JOBS"=some (.ref a)/\ModD P w K a [((Sum.inr ("row" : Str):C5),V.str "letter"),((Sum.inr ("marks" : Str):C5),V.str "mark"),((Sum.inr ("great" : Str):C5),V.str "great"),((Sum.inr ("as" : Str):C5),V.str "as"),((Sum.inr ("over" : Str):C5),V.str "over")]
 x_AGAIN:∃ a,mg "AGAIN"=some (.ref a)/\∀ H:Hp,C9 K H a [V.str "letter",V.str "mark",V.str "over"]
theorem amO{α β:Type}(f:α->β)(xs:List α)(i:Int):F7 (xs.map f) i=(F7 xs i).map f:=by
 unfold F7;rw [A8]
 cases W1 xs.length i with
 | none=>rfl
 | some j=>
  show (xs.map f)[j]?=(xs[j]?).map f;rw [U9]
def stpN(ns:List Int):Int:=((F7 [1,2,4,5,7,8,10,11,13,23,44,91] (cellF ns 1 % 12)).getD 0:Int)
def sgnF(ns:List Int)(k:Int):Nat:=(F7 SG ((cellF ns 0+k*stpN ns) % 93)).getD 33
def ali(K:PySem.W.Frag):Sp:=fun vs H Q _=>∃ (a:Addr) (ns:List Int) (k:Int),vs=[.ref a,.int k]/\D4 K H a (ns.map V.int)/\0<=k/\∀ H',Same H H'->Q (.str (one (sgnF ns k))) H'
theorem amP(ns:List Int):F7 ([1,2,4,5,7,8,10,11,13,23,44,91]:List Int) (cellF ns 1 % 12)=some (stpN ns)/\0<=stpN ns/\stpN ns<=91:=by
 obtain ⟨v,h1,h2⟩:=kK (xs:=([1,2,4,5,7,8,10,11,13,23,44,91]:List Int)) (i:=cellF ns 1 % 12) (by lia) (by simp only [G5,V9];lia);unfold stpN;rw [h1];exact ⟨rfl,(show ∀ s∈([1,2,4,5,7,8,10,11,13,23,44,91]:List Int),0<=s/\s<=91 by decide) v h2⟩
theorem ajs(ns:List Int)(k:Int):F7 SG ((cellF ns 0+k*stpN ns) % 93)=some (sgnF ns k)/\signB (sgnF ns k)=true:=by
 obtain ⟨c,h1,h2⟩:=SS_at (i:=(cellF ns 0+k*stpN ns) % 93) (by lia) (by lia);rw [SS_eq] at h1;unfold sgnF;rw [h1];exact ⟨rfl,h2⟩
theorem akP(ns:List Int):stpN ns∈([1,2,4,5,7,8,10,11,13,23,44,91]:List Int):=by
 obtain ⟨v,h1,h2⟩:=kK (xs:=([1,2,4,5,7,8,10,11,13,23,44,91]:List Int)) (i:=cellF ns 1 % 12) (by lia) (by simp only [G5,V9];lia);unfold stpN;rw [h1];exact h2
theorem akQ:∀ s∈([1,2,4,5,7,8,10,11,13,23,44,91]:List Int),∃ t∈(c9 93).map Int.ofNat,s*t % 93=1:=by decide +kernel
theorem SG_nd:SG.Nodup:=by decide +kernel
theorem oS:SG.length=93:=by decide +kernel
theorem amQ{k l:Int}(h0:0<=k)(h1:k<93)(h2:0<=l)(h3:l<93)(h:sgnF ns k=sgnF ns l):k=l:=by
 have hl:((SG.length:Nat):Int)=93:=by rw [oS];rfl
 have e:=aof SG_nd (i:=(cellF ns 0+k*stpN ns) % 93) (j:=(cellF ns 0+l*stpN ns) % 93) (by lia) (by lia) (by lia) (by lia) h;obtain ⟨t,_,ht⟩:=akQ _ (akP ns);exact ahM ht e h0 h1 h2 h3
def R0(ns:List Int)(k:Int):Str:=one (sgnF ns k)
theorem aot{ks:List Int}(hk:∀ k∈ks,0<=k/\k<93)(nd:ks.Nodup):(ks.map (R0 ns)).Nodup:=by
 rw [j8,List.pairwise_map];refine List.Pairwise.imp_of_mem ?_ (j8.mp nd);intro a b ha hb n e;have e1:[sgnF ns a]=[sgnF ns b]:=congrArg (fun z:Str=>z.cps.toList) e;exact n (amQ (hk a ha).1 (hk a ha).2 (hk b hb).1 (hk b hb).2 (List.singleton_inj.mp e1))
def E3(ls ms:List Str)(G A:List Rl):List Rl:=(("row" : Str),ls)::(("marks" : Str),ms)::(G++A)
def gP(G:List Rl):List Str:=G.flatMap fun z=>z.2.drop 1
def aP(A:List Rl):List Str:=A.flatMap fun z=>z.2.take 1
structure Sh(ls ms:List Str)(G A:List Rl):Prop where
 g:G=[]\/∃ p f,p∈ls/\G=[(("great" : Str),[p,f])]
 a:A=[]\/∃ x p m,p∈ls/\m∈ms/\A=[(("as" : Str),[x,p,m])]
 l1:ls.length<=6
 m1:ms.length<=3
 l0:ls≠[]
 m0:ms≠[]
 nd:(ls++ms++gP G++aP A).Nodup
 on:∀ p∈ls++ms++gP G++aP A,∃ c,p=one c/\signB c=true
def idx34(n m:Nat):List Int:=(c9 n).map (fun k:Nat=>(k:Int))++(c9 m).map (fun k:Nat=>10+(k:Int))++[20]++[21]
theorem akR:∀ n<7,∀ m<4,(idx34 n m).Nodup/\∀ k∈idx34 n m,0<=k/\k<93:=by decide +kernel
def ls34(ns:List Int)(n:Nat):List Str:=(c9 n).map fun k:Nat=>R0 ns (k:Int)
def ms34(ns:List Int)(m:Nat):List Str:=(c9 m).map fun k:Nat=>R0 ns (10+(k:Int))
theorem sh_of(h1:1<=n)(h2:n<=6)(h3:1<=m)(h4:m<=3)(hg:G=[]\/∃ p,p∈ls34 ns n/\G=[(("great" : Str),[p,R0 ns 20])])(ha:A=[]\/∃ p q,p∈ls34 ns n/\q∈ms34 ns m/\A=[(("as" : Str),[R0 ns 21,p,q])]):Sh (ls34 ns n) (ms34 ns m) G A:=by
 obtain ⟨i1,i2⟩:=akR n (by lia) m (by lia);have F:=aot (ns:=ns) i2 i1;have e:(idx34 n m).map (R0 ns)=ls34 ns n++ms34 ns m++[R0 ns 20]++[R0 ns 21]:=by
  unfold idx34 ls34 ms34;simp [Function.comp_def]
 have s1:(gP G).Sublist [R0 ns 20]:=by
  rcases hg with rfl | ⟨p,_,rfl⟩
  .exact List.nil_sublist _
  .exact List.Sublist.refl _
 have s2:(aP A).Sublist [R0 ns 21]:=by
  rcases ha with rfl | ⟨p,q,_,_,rfl⟩
  .exact List.nil_sublist _
  .exact List.Sublist.refl _
 have sub:(ls34 ns n++ms34 ns m++gP G++aP A).Sublist ((idx34 n m).map (R0 ns)):=by
  rw [e];exact ((List.Sublist.refl _).append s1).append s2
 refine ⟨hg.imp id fun ⟨p,hp,q⟩=>⟨p,_,hp,q⟩,ha.imp id fun ⟨p,q,hp,hq,w⟩=>⟨_,p,q,hp,hq,w⟩,by unfold ls34;simpa using h2,by unfold ms34;simpa using h4,fun z=>?_,fun z=>?_,F.sublist sub,fun p hp=>?_⟩
 .have:=congrArg W0 z
  unfold ls34 at this;simp at this;lia
 .have:=congrArg W0 z
  unfold ms34 at this;simp at this;lia
 .obtain ⟨k,_,rfl⟩:=E1.mp (sub.subset hp);exact ⟨_,rfl,(ajs ns k).2⟩
theorem amR{w:Str}{i:Int}(h0:0<=i)(h1:i<ls.length):∃ p∈ls,F7 ((w::ls).map V.str) (1+i)=some (V.str p):=by
 have hi:i.toNat<ls.length:=by lia
 refine ⟨ls[i.toNat],dG hi,?_⟩
 have:=Q2 (xs:=(w::ls).map V.str) (j:=i.toNat+1) (v:=V.str ls[i.toNat]) (by rw [G6,List.getElem?_cons_succ,U9,M5 hi];rfl)
 rw [show ((i.toNat+1:Nat):Int)=1+i by lia] at this;exact this
theorem aou{w:Str}(h:ls≠[]):∃ p∈ls,F7 ((w::ls).map V.str) (-1)=some (V.str p):=by
 obtain ⟨l,x,rfl⟩:=gS h;refine ⟨x,N3 _ (E6.mpr rfl),?_⟩;rw [<- List.cons_append,D9];exact dQ _ _
theorem lQ(h:ms≠[])(k:Int):0<(ms.length:Int)/\∃ p∈ms,F7 (ms.map V.str) (k % (ms.length:Int))=some (V.str p):=by
 have hl:0<ms.length:=List.length_pos_iff.mpr h;have h0:0<=k % (ms.length:Int):=Int.emod_nonneg _ (by lia);have h1:k % (ms.length:Int)<(ms.length:Int):=Int.emod_lt_of_pos _ (by lia);have hi:(k % (ms.length:Int)).toNat<ms.length:=by lia
 refine ⟨by lia,ms[(k % (ms.length:Int)).toNat],dG hi,?_⟩
 have:=Q2 (xs:=ms.map V.str) (j:=(k % (ms.length:Int)).toNat) (v:=V.str ms[(k % (ms.length:Int)).toNat]) (by rw [U9,M5 hi];rfl)
 rw [show (((k % (ms.length:Int)).toNat:Nat):Int)=k % (ms.length:Int) by lia] at this;exact this
theorem amS(ls:List Str)(R:List Rl):D1 ((("row" : Str),ls)::R)=(ls.map fun p=>(p,("letter" : Str)))++D1 R:=by
 rw [eK,m6.2.2 (.inl rfl)];rfl
theorem ajt(ls:List Str)(R:List Rl):D1 ((("marks" : Str),ls)::R)=(ls.map fun p=>(p,("mark" : Str)))++D1 R:=by
 rw [eK,m6.2.2 (.inr (.inl rfl))];rfl
theorem af5(ls:List Str)(R:List Rl):D1 ((("great" : Str),ls)::R)=((ls.drop 1).map fun p=>(p,("great" : Str)))++D1 R:=by
 rw [eK,m6.1 rfl];rfl
theorem alj(ls:List Str)(R:List Rl):D1 ((("as" : Str),ls)::R)=((ls.take 1).map fun p=>(p,("as" : Str)))++D1 R:=by
 rw [eK,m6.2.1 rfl];rfl
theorem Sh.prs(h:Sh ls ms G A):D1 (E3 ls ms G A)=(ls.map fun p=>(p,("letter" : Str)))++((ms.map fun p=>(p,("mark" : Str)))++(((gP G).map fun p=>(p,("great" : Str)))++((aP A).map fun p=>(p,("as" : Str))))):=by
 unfold E3;rw [amS,ajt]
 rcases h.g with rfl | ⟨p,f,_,rfl⟩ <;> rcases h.a with rfl | ⟨x,p',m,_,_,rfl⟩
 .rfl
 .rw [bF,alj];rfl
 .rw [M0,af5];rfl
 .rw [List.singleton_append,af5,alj];rfl
theorem Sh.fst(h:Sh ls ms G A):(D1 (E3 ls ms G A)).map (·.1)=ls++ms++gP G++aP A:=by
 rw [h.prs];simp [Function.comp_def]
theorem Sh.each(h:Sh ls ms G A){z:Rl}(hz:z∈E3 ls ms G A):z=(("row" : Str),ls)\/z=(("marks" : Str),ms)\/(∃ p f,p∈ls/\z=(("great" : Str),[p,f]))\/∃ x p m,p∈ls/\m∈ms/\z=(("as" : Str),[x,p,m]):=by
 rcases E8.mp hz with e | hz
 .exact .inl e
 rcases E8.mp hz with e | hz
 .exact .inr (.inl e)
 rcases F9.mp hz with hz | hz
 .rcases h.g with e | ⟨p,f,hp,e⟩
  .rw [e] at hz;cases hz
  .rw [e] at hz;exact .inr (.inr (.inl ⟨p,f,hp,E6.mp hz⟩))
 .rcases h.a with e | ⟨x,p,m,hp,hm,e⟩
  .rw [e] at hz;cases hz
  .rw [e] at hz;exact .inr (.inr (.inr ⟨x,p,m,hp,hm,E6.mp hz⟩))
theorem Sh.rows(h:Sh ls ms G A):rowsW (E3 ls ms G A) "row"=[ls]/\rowsW (E3 ls ms G A) "marks"=[ms]:=by
 have e1:∀ {w u:Str} {zs:List Str} {R:List Rl},u≠w->rowsW ((u,zs)::R) w=rowsW R w:=fun {w u zs R} n=>by
  unfold rowsW;rw [dA (by simpa using n)]
 have e2:∀ {w:Str} {zs:List Str} {R:List Rl},rowsW ((w,zs)::R) w=zs::rowsW R w:=fun {w zs R}=>by
  unfold rowsW;rw [fO (by simp)];rfl
 unfold E3;rw [e2,e1 (by decide +kernel),e1 (by decide +kernel),e2]
 rcases h.g with rfl | ⟨p,f,_,rfl⟩ <;> rcases h.a with rfl | ⟨x,p',m,_,_,rfl⟩
 .exact ⟨rfl,rfl⟩
 .rw [bF,e1 (by decide +kernel),e1 (by decide +kernel)];exact ⟨rfl,rfl⟩
 .rw [M0,e1 (by decide +kernel),e1 (by decide +kernel)];exact ⟨rfl,rfl⟩
 .rw [List.singleton_append,e1 (by decide +kernel),e1 (by decide +kernel),e1 (by decide +kernel),e1 (by decide +kernel)];exact ⟨rfl,rfl⟩
theorem Sh.has(h:Sh ls ms G A){w:Str}(hw:w≠"row"/\w≠"marks"/\w≠"great"/\w≠"as"):hasW (E3 ls ms G A) w=false:=by
 unfold hasW;rw [List.any_eq_false];intro z hz;rw [decide_eq_true_iff];intro e
 rcases h.each hz with rfl | rfl | ⟨p,f,_,rfl⟩ | ⟨x,p,m,_,_,rfl⟩
 .exact hw.1 e.symm
 .exact hw.2.1 e.symm
 .exact hw.2.2.1 e.symm
 .exact hw.2.2.2 e.symm
structure Lk(R B:List Rl):Prop where
 pr:D1 R=D1 B
 rw:∀ w:Str,w≠"behind"->rowsW R w=rowsW B w
 mm:∀ z∈R,z∈B\/z=(("behind" : Str),[])
 ln:R.length<=B.length+1
 hs:∀ w:Str,w≠"behind"->hasW R w=hasW B w
 gr:K3 R=K3 B
 ap:∀ L M,m5 L M R=m5 L M B
theorem Lk.refl(B:List Rl):Lk B B:=⟨rfl,fun _ _=>rfl,fun _ h=>.inl h,by lia,fun _ _=>rfl,rfl,fun _ _=>rfl⟩
def Z9(i:Nat)(B:List Rl):List Rl:=B.take i++[(("behind" : Str),[])]++B.drop i
theorem Lk.ins(i:Nat)(B:List Rl):Lk (Z9 i B) B:=by
 have sp:∀ {α:Type} (f:List Rl->List α),(∀ X Y,f (X++Y)=f X++f Y)->f [(("behind" : Str),[])]=[]->f (Z9 i B)=f B:=fun f fa f0=>by
  unfold Z9;rw [fa,fa,f0,M0,<- fa,Y5]
 refine ⟨sp _ (fun X Y=>by unfold D1;rw [V8]) (by decide +kernel),fun w hw=>sp (rowsW · w) (fun X Y=>by unfold rowsW;rw [dD,D9]) ?_,fun z hz=>?_,?_,fun w hw=>?_,sp _ gL (by decide +kernel),fun L M=>sp (m5 L M) (fun X Y=>by unfold m5;rw [jT]) ?_⟩
 .unfold rowsW;rw [dA (by simpa using hw.symm)];rfl
 .rcases F9.mp hz with hz | hz
  .rcases F9.mp hz with hz | hz
   .exact .inl (List.mem_of_mem_take hz)
   .exact .inr (E6.mp hz)
  .exact .inl (List.mem_of_mem_drop hz)
 .unfold Z9;simp only [C8,K5,k5,T9];lia
 .unfold hasW Z9;rw [List.any_append,List.any_append,k7,List.any_nil,decide_eq_false (show ¬ (("behind" : Str),([]:List Str)).1=w from hw.symm),Bool.or_false,Bool.or_false,<- List.any_append,Y5]
 .unfold m5;rw [x0,if_neg (by decide +kernel)];rfl
theorem amT(i:Nat)(B:List Rl):hasW (Z9 i B) "behind"=true:=by
 unfold hasW Z9;rw [List.any_append,List.any_append]
 simp
theorem Lk.puts(h:Lk R B)(L M:List Str):stepF R L M=stepF B L M:=by
 have e1:D5 R=D5 B:=by unfold D5;rw [h.gr]
 have e2:E7 R=E7 B:=by funext y;unfold E7;rw [h.gr]
 funext p
 unfold stepF putsL;rw [h.ap,e1,e2]
theorem Lk.stY(h:Lk R B)(L M:List Str):stepY R L M=stepY B L M:=by
 funext y
 unfold L2.stepY;rw [h.hs _ (by decide +kernel),h.puts]
theorem Lk.known(h:Lk R B):G9 R=G9 B:=by
 unfold G9 V5;rw [h.pr,h.hs _ (by decide +kernel)]
theorem ahr{α:Type} : ∀ {l:List (Str×α)} {p:Str} {j:α},(l.map (·.1)).Nodup->(p,j)∈l->l.lookup p=some j
 | [],_,_,_,h=>by cases h
 | (y,t)::l,p,j,nd,h=>by
  rw [G6,V0] at nd;rw [fS]
  rcases E8.mp h with h | h
  .obtain ⟨rfl,rfl⟩:=Prod.mk.inj h
   simp
  .have:p≠y:=fun e=>nd.1 (E1.mpr ⟨_,h,e⟩)
   have e:(p==y)=false:=by simpa using this
   rw [e];exact ahr nd.2 h
theorem Lk.good(k:Lk R (E3 ls ms G A))(h:Sh ls ms G A):GoodR (pV (E3 ls ms G A)) (ls.idxOf ·) (ms.idxOf ·) R:=by
 have cL:=h.l1;have fC:=h.m1;have nd:=h.nd;rw [<- h.fst] at nd;have on:=h.on;rw [<- h.fst] at on;have hgl:(gP G).length<=1:=by rcases h.g with rfl | ⟨p,f,_,rfl⟩ <;> simp [gP]
 have cS:(aP A).length<=1:=by rcases h.a with rfl | ⟨x,p,m,_,_,rfl⟩ <;> simp [aP]
 have hG:G.length<=1:=by rcases h.g with rfl | ⟨p,f,_,rfl⟩ <;> simp [gP]
 have hA:A.length<=1:=by rcases h.a with rfl | ⟨x,p,m,_,_,rfl⟩ <;> simp [aP]
 have hB:(E3 ls ms G A).length<=4:=by unfold E3;simp only [G5,C8];lia
 have T4:(D1 (E3 ls ms G A)).length<=11:=by rw [h.prs];simp only [C8,A8];lia
 have kl:=k.ln;have lt:∀ p∈ls,(p,("letter" : Str))∈D1 (E3 ls ms G A):=fun p hp=>by rw [h.prs];exact N8 _ (E1.mpr ⟨p,hp,rfl⟩)
 have mk:∀ p∈ms,(p,("mark" : Str))∈D1 (E3 ls ms G A):=fun p hp=>by rw [h.prs];exact N3 _ (N8 _ (E1.mpr ⟨p,hp,rfl⟩))
 have ndl:ls.Nodup:=(Q1.mp (Q1.mp (Q1.mp h.nd).1).1).1;have ndm:ms.Nodup:=(Q1.mp (Q1.mp (Q1.mp h.nd).1).1).2.1;refine ⟨by lia,by rw [k.pr];lia,?_,?_,fun z hz=>?_,fun z hz hw=>?_,fun z hz hw p hp=>?_,fun z hz hw p hp=>?_,fun z hz hw p hp=>?_,?_,?_,fun e he=>?_,fun e he=>?_⟩
 .rw [k.pr];intro i p j hi;have hm:=N7 hi;obtain ⟨c,rfl,hc⟩:=on p (E1.mpr ⟨_,hm,rfl⟩);refine ⟨?_,fun hq=>?_,fun hf=>?_,?_⟩
  .unfold pV;rw [ahr nd hm];rfl
  .exfalso
   obtain ⟨⟨p',j'⟩,hm',e0⟩:=E1.mp hq;obtain ⟨m,hmk,e⟩:=List.mem_take_iff_getElem.mp hm';obtain ⟨jB,e2⟩:=K0.mp hi;rw [j8,List.pairwise_map,bC] at nd;refine nd m i (by lia) jB (by lia) ?_;rw [e,e2];exact e0
  .rw [k.hs _ (by decide +kernel),h.has (by decide +kernel)] at hf;cases hf
  .show 1<=1000;decide
 .rw [k.pr];intro hb;obtain ⟨c,e,hc⟩:=on _ hb;have e1:[32]=[c]:=congrArg (fun z:Str=>z.cps.toList) e;rw [<- List.singleton_inj.mp e1] at hc;cases hc
 .rcases k.mm z hz with hz | rfl
  .rcases h.each hz with rfl | rfl | ⟨p,f,_,rfl⟩ | ⟨x,p,m,_,_,rfl⟩
   .show ls.length<=1000;lia
   .show ms.length<=1000;lia
   .show 2<=1000;decide
   .show 3<=1000;decide
  .decide
 .rcases k.mm z hz with hz | rfl
  .rcases h.each hz with rfl | rfl | ⟨p,f,_,rfl⟩ | ⟨x,p,m,_,_,rfl⟩
   .exact h.l0
   .exact h.m0
   .simp
   .simp
  .rcases hw with hw | hw <;> exact absurd (show Str.ofString "behind"=_ from hw) (by decide +kernel)
 .rw [k.pr]
  rcases k.mm z hz with hz | rfl
  .rcases h.each hz with rfl | rfl | ⟨q,f,hq,rfl⟩ | ⟨x,q,m,_,_,rfl⟩
   .exact absurd (show Str.ofString "row"=_ from hw) (by decide +kernel)
   .exact absurd (show Str.ofString "marks"=_ from hw) (by decide +kernel)
   .rw [E6.mp (show p∈[q] from hp)];exact lt q hq
   .exact absurd (show Str.ofString "as"=_ from hw) (by decide +kernel)
  .exact absurd (show Str.ofString "behind"=_ from hw) (by decide +kernel)
 .rw [k.pr]
  rcases k.mm z hz with hz | rfl
  .rcases h.each hz with rfl | rfl | ⟨q,f,hq,rfl⟩ | ⟨x,q,m,hq,_,rfl⟩
   .exact absurd (show Str.ofString "row"=_ from hw) (by decide +kernel)
   .exact absurd (show Str.ofString "marks"=_ from hw) (by decide +kernel)
   .exact absurd (show Str.ofString "great"=_ from hw) (by decide +kernel)
   .rw [E6.mp (show p∈[q] from hp)];exact lt q hq
  .exact absurd (show Str.ofString "behind"=_ from hw) (by decide +kernel)
 .rw [k.pr]
  rcases k.mm z hz with hz | rfl
  .rcases h.each hz with rfl | rfl | ⟨q,f,hq,rfl⟩ | ⟨x,q,m,hq,hm,rfl⟩
   .exact absurd (show Str.ofString "row"=_ from hw) (by decide +kernel)
   .exact absurd (show Str.ofString "marks"=_ from hw) (by decide +kernel)
   .exact absurd (show Str.ofString "great"=_ from hw) (by decide +kernel)
   .rw [E6.mp (show p∈[m] from hp)];exact .inr (mk m hm)
  .exact absurd (show Str.ofString "behind"=_ from hw) (by decide +kernel)
 .rw [k.rw _ (by decide +kernel),h.rows.1];simp;lia
 .rw [k.rw _ (by decide +kernel),h.rows.2];simp;lia
 .rw [k.rw _ (by decide +kernel),h.rows.1] at he;exact zF ndl (by simpa [edges] using he)
 .rw [k.rw _ (by decide +kernel),h.rows.2] at he;exact zF ndm (by simpa [edges] using he)
theorem Lk.lets(k:Lk R (E3 ls ms G A))(h:Sh ls ms G A)(hL:Q9 R "row" L)(hM:Q9 R "marks" M):L=ls/\M=ms:=by
 have ndl:ls.Nodup:=(Q1.mp (Q1.mp (Q1.mp h.nd).1).1).1;have ndm:ms.Nodup:=(Q1.mp (Q1.mp (Q1.mp h.nd).1).1).2.1;unfold Q9 at hL hM;rw [k.rw _ (by decide +kernel),h.rows.1] at hL;rw [k.rw _ (by decide +kernel),h.rows.2] at hM;refine ⟨zD ndl (eD _) hL.1 hL.2 (fun p=>?_) fun e he=>?_,zD ndm (eD _) hM.1 hM.2 (fun p=>?_) fun e he=>?_⟩
 .rw [pS];simp
 .simpa [edges] using he
 .rw [pS];simp
 .simpa [edges] using he
theorem Sh.knownM(h:Sh ls ms G A)(p:Str):p∈G9 (E3 ls ms G A)↔p∈ls++ms++gP G++aP A:=by
 unfold G9 V5;rw [h.has (by decide +kernel),if_neg (by decide),M0,lC,h.fst]
theorem Sh.knownL(h:Sh ls ms G A):(G9 (E3 ls ms G A)).length<=1000:=by
 unfold G9 V5;rw [h.has (by decide +kernel),if_neg (by decide),M0];have h1:=pJ (D1 (E3 ls ms G A))
 have:=(Lk.refl (E3 ls ms G A)).good h
 have h2:(D1 (E3 ls ms G A)).length=ls.length+(ms.length+((gP G).length+(aP A).length)):=by rw [h.prs];simp only [C8,A8]
 have cL:=h.l1;have fC:=h.m1;have hgl:(gP G).length<=1:=by rcases h.g with rfl | ⟨p,f,_,rfl⟩ <;> simp [gP]
 have cS:(aP A).length<=1:=by rcases h.a with rfl | ⟨x,p,m,_,_,rfl⟩ <;> simp [aP]
 lia
theorem Sh.whole(h:Sh ls ms G A)(hz:∀ c∈z.cps.toList,one c∈ls++ms++gP G++aP A):aA false (G9 (E3 ls ms G A)) z:=by
 have e:z.cps.toList=(z.cps.toList.map one).flatMap fun p=>p.cps.toList:=by
  rw [List.flatMap_map]
  induction z.cps.toList with
  | nil=>rfl
  | cons c r ih=>rw [U0,<- ih];rfl
 unfold aA
 have:=(af2 (ks:=G9 (E3 ls ms G A)) (fun c d e _ h2 _=>by
  obtain ⟨x,hx,_⟩:=h.on _ ((h.knownM _).mp h2)
  have:=congrArg (fun z:Str=>z.cps.toList.length) hx
  simp [zH,zG] at this) (fun p hp=>by
  obtain ⟨c,rfl,_⟩:=h.on _ ((h.knownM _).mp hp);exact .inl ⟨c,rfl⟩) _ (z.cps.toList.map one) (fun p hp=>by
  obtain ⟨c,hc,rfl⟩:=E1.mp hp;exact (h.knownM _).mpr (hz c hc)) (C3 _)).1
 rw [<- e] at this;rw [this,lenL]
theorem Sh.steps(h:Sh ls ms G A)(L M:List Str)(y:Str):(stepY (E3 ls ms G A) L M y).length<=15:=by
 unfold L2.stepY;rw [h.has (by decide +kernel)];rw [if_neg (by simp)];unfold stepF;cases e:(putsL (E3 ls ms G A) L M).lookup y with
 | none=>simp
 | some s=>
  have hm:∃ p,(p,s)∈putsL (E3 ls ms G A) L M:=by
   clear h;generalize putsL (E3 ls ms G A) L M=l at e
   induction l with
   | nil=>cases e
   | cons x l ih=>
    rw [fS] at e
    split at e
    .obtain rfl:=Option.some.inj e;exact ⟨x.1,K1⟩
    .obtain ⟨p,hp⟩:=ih e;exact ⟨p,M6 _ hp⟩
  obtain ⟨p,hp⟩:=hm;show s.length<=15;unfold putsL at hp
  rcases F9.mp hp with hp | hp
  .rcases F9.mp hp with hp | hp
   .rcases F9.mp hp with hp | hp
    .obtain ⟨e,_,q⟩:=E1.mp hp;rw [<- (Prod.mk.inj q).2];exact Nat.le_add_left 1 14
    .obtain ⟨e,_,q⟩:=E1.mp hp;rw [<- (Prod.mk.inj q).2];exact Nat.le_add_left 1 14
   .obtain ⟨w,_,hp⟩:=X3.mp hp;obtain ⟨e,_,q⟩:=E1.mp hp;rw [<- (Prod.mk.inj q).2];exact Nat.le_add_left 1 14
  .unfold m5 at hp;obtain ⟨z,hz,q⟩:=dC.mp hp
   split at q
   .obtain ⟨p',_,q⟩:=Option.map_eq_some_iff.mp q;rw [<- (Prod.mk.inj q).2,A8]
    rcases h.each hz with rfl | rfl | ⟨p,f,_,rfl⟩ | ⟨x,p,m,_,_,rfl⟩
    .have:=h.l1;show (ls.drop 1).length<=15;rw [k5];lia
    .have:=h.m1;show (ms.drop 1).length<=15;rw [k5];lia
    .show 1<=15;decide
    .show 2<=15;decide
   .cases q
theorem ah0(h:∀ u∈U,EltOk u):∀ v∈g9 U,0<v:=by
 intro v hv;obtain ⟨u,hu,h1⟩:=X3.mp hv;have o:=h u hu;have o1:=o.2.1;unfold X7 at h1
 split at h1
 .rw [E6.mp h1];decide
 .split at h1
  .rcases E8.mp h1 with e | e
   .rw [e];decide
   .rw [E6.mp e];lia
  .rw [E6.mp h1];lia
theorem agF(h:∀ u∈U,EltOk u):∀ v∈P3 U,0<v:=by
 intro v hv;obtain ⟨u,hu,h1⟩:=X3.mp hv;have o:=h u hu
 rcases F9.mp h1 with e | e
 .obtain ⟨p,hp,rfl⟩:=E1.mp e
  have:=o.2.2.1 p hp
  lia
 .rw [E6.mp e];decide
theorem agG{b:Bool}(h:∀ u∈U,EltOk u)(hc:∀ c∈z.cps.toList,0<c):∀ l∈T3 b U z,∀ v∈l,0<v:=by
 intro l hl v hv;have hr:∀ u∈(if b=true then U.reverse else U),EltOk u:=fun u hu=>h u (by
  split at hu
  .exact List.mem_reverse.mp hu
  .exact hu)
 rcases E8.mp hl with rfl | hl
 .exact ah0 h v hv
 rcases E8.mp hl with rfl | hl
 .exact agF hr v hv
 rcases E8.mp hl with rfl | hl
 .obtain ⟨u,hu,rfl⟩:=E1.mp hv
  have:=(h u hu).2.2.2
  lia
 rw [E6.mp hl] at hv;obtain ⟨c,cT,rfl⟩:=E1.mp hv
 have:=hc c cT
 lia
def t5(k:Bool)(b:Int)(s:List (List Int)×List Int)(n:Int):List (List Int)×List Int:=if n=b then (s.1++[if k=true then s.2++[n] else s.2],[]) else (s.1,s.2++[n])
def P5(k:Bool)(b:Int)(xs:List Int):List (List Int)×List Int:=xs.foldl (t5 k b) ([],[])
theorem ahs{k:Bool}{b:Int}{xs:List Int}{n:Int}(h:xs[i]?=some n):P5 k b (xs.take (i+1))=t5 k b (P5 k b (xs.take i)) n:=by
 unfold P5;rw [L7 h,Y6];rfl
theorem aju{k:Bool}{b:Int} : ∀ (xs:List Int) (s:List (List Int)×List Int),(∀ x∈xs,x≠b)->xs.foldl (t5 k b) s=(s.1,s.2++xs)
 | [],s,_=>by simp
 | x::xs,s,h=>by
  rw [dH,aju xs _ fun y hy=>h y (M6 _ hy)];unfold t5;rw [if_neg (h x K1)]
  simp
theorem qC{k:Bool}{b:Int} : ∀ (ls:List (List Int)) (s:List (List Int)),(∀ l∈ls,∀ x∈l,x≠b)->(ls.flatMap fun l=>l++[b]).foldl (t5 k b) (s,[])=(s++ls.map fun l=>if k=true then l++[b] else l,[])
 | [],s,_=>by simp
 | l::ls,s,h=>by
  rw [U0,Y6,Y6,aju l _ (h l K1)];rw [dH,List.foldl_nil,show t5 k b ((s,[]).1,(s,([]:List Int)).2++l) b=(s++[if k=true then l++[b] else l],[]) by unfold t5;rw [if_pos rfl];rfl,qC ls _ fun l' h'=>h l' (M6 _ h')]
  simp
theorem ah1{b:Bool}(h:∀ u∈U,EltOk u)(hc:∀ c∈z.cps.toList,0<c):P5 false 0 (keyF 4 b U z)=(T3 b U z,[]):=by
 unfold P5 keyF;rw [show (T3 b U z).take 4=T3 b U z from rfl,qC _ _ fun l hl x hx e=>by have:=agG h hc l hl x hx;lia]
 simp
def eQ(u:D8):List Int:=(u.2.2.1.map fun p=>p+2)++[1]
theorem ad1(h:∀ u∈U,EltOk u):P5 true 1 (P3 U)=(U.map eQ,[]):=by
 unfold P5;rw [show P3 U=(U.map fun u=>u.2.2.1.map fun p=>p+2).flatMap fun l=>l++[1] by unfold P3;rw [List.flatMap_map],qC _ _ fun l hl x hx e=>by
  obtain ⟨u,hu,rfl⟩:=E1.mp hl;obtain ⟨p,hp,rfl⟩:=E1.mp hx
  have:=(h u hu).2.2.1 p hp
  lia]
 simp [eQ]
structure IsLL(H:Hp)(l:Addr)(ps:List Addr)(X:List (List Int)):Prop where
 top:H l=some (.lst (ps.map V.ref))
 row:Paired (fun p xs=>H p=some (.lst (xs.map V.int))) ps X
theorem IsLL.same{l:Addr}{X:List (List Int)}(h:IsLL H l ps X)(s:Same H H'):IsLL H' l ps X:=⟨s _ _ h.top,M9 h.row fun _ _ e=>s _ _ e⟩
theorem IsLL.at{l:Addr}{X:List (List Int)}(h:IsLL H l ps X){xs:List Int}(hx:X[i]?=some xs):∃ p,ps[i]?=some p/\H p=some (.lst (xs.map V.int)):=by
 have hi:=(K0.mp hx).1;have hl:=Paired.length h.row;obtain ⟨p,hp⟩:∃ p,ps[i]?=some p:=⟨_,M5 (by lia)⟩
 obtain ⟨y,hy,e⟩:=Paired.at h.row hp;rw [hx] at hy;obtain rfl:=Option.some.inj hy;exact ⟨p,hp,e⟩
theorem qD:∀ X Y:List (List Int),bI (X.map fun xs=>PyData.list (xs.map p5)) (Y.map fun xs=>PyData.list (xs.map p5))=decide (X=Y)
 | [],[]=>rfl
 | [],_::_=>rfl
 | _::_,[]=>rfl
 | x::X,y::Y=>by
  rw [G6,G6,bI,X4,kH,qD X Y]
  by_cases h:x=y
  .by_cases h':X=Y
   .simp [h,h']
   .simp [h,h']
  .simp [h]
theorem qE:∀ X:List (List Int),dL (X.map fun xs=>PyData.list (xs.map p5))<=1
 | []=>by decide
 | x::X=>by
  have:=qE X
  rw [G6,dL,PyData.depth,kM];lia
structure PrI(H H':Hp)(r:Addr)(F:List (List Int))(l:List Int)(ps:List Addr)(pl:Addr):Prop where
 same:Same H H'
 top:H' r=some (.lst ((ps++[pl]).map V.ref))
 row:Paired (fun p xs=>H' p=some (.lst (xs.map V.int))/\p≠r/\p≠pl) ps F
 last:H' pl=some (.lst (l.map V.int))
 npl:H pl=none
 nr:H r=none
 ne:pl≠r
theorem PrI.init(npl:H pl=none)(nr:A0 H pl (.lst []) r=none):PrI H (A0 (A0 H pl (.lst [])) r (.lst [V.ref pl])) r [] [] [] pl:=by
 have n:pl≠r:=fun e=>by rw [e,A6] at nr;cases nr
 exact ⟨(Same.new npl).trans (Same.new nr),A6,.nil,by rw [A9 n,A6];rfl,npl,by rw [A9 n.symm] at nr;exact nr,n⟩
theorem PrI.put{F:List (List Int)}{l:List Int}(h:PrI H H' r F l ps pl)(n:Int):PrI H (A0 H' pl (.lst (l.map V.int++[V.int n]))) r F (l++[n]) ps pl:=
 ⟨h.same.put h.npl,by rw [A9 h.ne.symm];exact h.top,M9 h.row fun p xs e=>⟨by rw [A9 e.2.2];exact e.1,e.2⟩,by rw [A6,D9];rfl,h.npl,h.nr,h.ne⟩
theorem PrI.new{F:List (List Int)}{l:List Int}(h:PrI H H' r F l ps pl)(np:H' p=none):PrI H (A0 (A0 H' p (.lst [])) r (.lst ((ps++[pl]).map V.ref++[V.ref p]))) r (F++[l]) [] (ps++[pl]) p:=by
 have n0:=h.same.free np;have nr:p≠r:=fun e=>by rw [e,h.top] at np;cases np
 have nl:pl≠p:=fun e=>by rw [<- e,h.last] at np;cases np
 refine ⟨(h.same.put n0).put h.nr,by rw [A6,D9 (l₁:=ps++[pl])];rfl,Paired.snoc (M9 h.row fun q xs e=>?_) ⟨by rw [A9 h.ne,A9 nl];exact h.last,h.ne,nl⟩,by rw [A9 nr,A6];rfl,n0,h.nr,nr⟩;have nq:q≠p:=fun z=>by rw [z,np] at e;cases e.1
 exact ⟨by rw [A9 e.2.1,A9 nq];exact e.1,e.2.1,nq⟩
theorem PrI.all{F:List (List Int)}{l:List Int}(h:PrI H H' r F l ps pl):IsLL H' r (ps++[pl]) (F++[l]):=
 ⟨h.top,Paired.snoc (M9 h.row fun _ _ e=>e.1) h.last⟩
theorem PrI.len{F:List (List Int)}{l:List Int}(h:PrI H H' r F l ps pl):ps.length=F.length:=Paired.length h.row
theorem alk : ∀ {ps:List Addr} {X:List (List Int)},Paired (fun p xs=>H p=some (.lst (xs.map V.int))) ps X->DnAll K H (ps.map V.ref) (X.map fun xs=>PyData.list (xs.map p5))
 | _,_,.nil=>.nil
 | _,_,.cons h t=>.cons (.lst (.of h) dX) (alk t)
theorem IsLL.dn{l:Addr}{X:List (List Int)}(h:IsLL H l ps X):Dn K H (.ref l) (.list (X.map fun xs=>PyData.list (xs.map p5))):=.lst (.of h.top) (alk h.row)
theorem bW:∀ U:List D8,(P3 U).length=L8 U+U.length
 | []=>rfl
 | u::U=>by
  have:=bW U
  unfold P3 L8 at *;simp only [U0,C8,A8,G5,V9,G6,List.sum_cons] at *;lia
theorem gT(U:List D8):L8 U.reverse=L8 U:=by
 unfold L8;rw [fR,List.sum_reverse]
theorem Lk.txt(k:Lk R (E3 ls ms G A))(sh:Sh ls ms G A)(i9:∀ c∈z.cps.toList,one c∈ls++ms++gP G++aP A):(G9 R).length<=1000/\aA (hasW R "figures") (G9 R) z/\(∀ y,(stepY R ls ms y).length<=15)/\Q4 (stepY R ls ms) (cutF (hasW R "figures") (G9 R) z.cps.toList).2=Q4 (stepY (E3 ls ms G A) ls ms) (cutF false (G9 (E3 ls ms G A)) z.cps.toList).2:=by
 rw [k.hs _ (by decide +kernel),sh.has (by decide +kernel),k.known,k.stY];exact ⟨sh.knownL,sh.whole i9,sh.steps ls ms,rfl⟩
theorem Sh.len4(h:Sh ls ms G A):(E3 ls ms G A).length<=4:=by
 have hG:G.length<=1:=by rcases h.g with rfl | ⟨p,f,_,rfl⟩ <;> simp
 have hA:A.length<=1:=by rcases h.a with rfl | ⟨x,p,m,_,_,rfl⟩ <;> simp
 unfold E3;simp only [G5,C8];lia
theorem cB{x y:Addr}{xs:List Int}{P Z:Prop}(hx:H x=some (.lst (xs.map V.int)))(hy:H y=some (.lst (xs.map V.int)))(h:Z):∃ d,Dn K H (.ref x) d/\∃ d2,Dn K H (.ref y) d2/\min d.depth d2.depth<=60/\if (!d.eqv d2)=true then P else Z:=
 ⟨_,.lst (.of hx) dX,_,.lst (.of hy) dX,by rw [PyData.depth,kM];decide,by rw [X4,kH,decide_eq_true rfl];exact h⟩
theorem neLL{x y:Addr}{qs:List Addr}{X:List (List Int)}{P Z:Prop}(hx:IsLL H x ps X)(hy:IsLL H y qs X)(h:Z):∃ d,Dn K H (.ref x) d/\∃ d2,Dn K H (.ref y) d2/\min d.depth d2.depth<=60/\if (!d.eqv d2)=true then P else Z:=
 ⟨_,hx.dn,_,hy.dn,by have:=qE X;rw [PyData.depth];lia,by rw [X4,qD,decide_eq_true rfl];exact h⟩
theorem IsLL.last{l:Addr}{X:List (List Int)}{xs:List Int}(h:IsLL H l ps (X++[xs])):∃ ps' pl,ps=ps'++[pl]/\Paired (fun p xs=>H p=some (.lst (xs.map V.int))) ps' X/\H pl=some (.lst (xs.map V.int)):=by
 have hl:=Paired.length h.row;obtain ⟨ps',pl,rfl⟩:=gS (l:=ps) (fun e=>by rw [e] at hl;simp at hl);obtain ⟨h1,h2⟩:=kO h.row;exact ⟨ps',pl,rfl,h1,h2⟩
theorem uac{α β:Type}{F:α->β->Prop} : ∀ {l₁:List α} {l₂:List β},Paired F l₁ l₂->Paired F l₁.reverse l₂.reverse
 | _,_,.nil=>.nil
 | _,_,.cons h t=>by
  rw [dE,dE];exact Paired.snoc (uac t) h
theorem qB(xs:List V)(x:V):cutV (xs++[x]) none (some (-1))=xs:=by
 unfold cutV;have e1:HT.sIx (xs++[x]).length 0 none=0:=rfl;have e2:HT.sIx (xs++[x]).length (xs++[x]).length (some (-1))=xs.length:=by
  unfold HT.sIx
  simp
  lia
 rw [e1,e2]
 simp
def spR34(K:PySem.W.Frag):Sp:=fun vs H Q _=>∃ (a:Addr) (ns:List Int),vs=[.ref a]/\D4 K H a (ns.map V.int)/\∀ r ts ls ms G A H',H r=none->Same H H'->IsRules H' r ts (E3 ls ms G A)->Sh ls ms G A->Q (.ref r) H'
def spT34(K:PySem.W.Frag):Sp:=fun vs H Q _=>∃ (a r:Addr) (ns:List Int) (ts:List Addr) (ls ms:List Str) (G A:List Rl),vs=[.ref a,.ref r]/\D4 K H a (ns.map V.int)/\IsRules H r ts (E3 ls ms G A)/\Sh ls ms G A/\∀ z H',Same H H'->z.length<=40->(∀ c∈z.cps.toList,one c∈ls++ms++gP G++aP A)->Q (.str z) H'
def spPr(k:Bool)(b:Int):Sp:=fun vs H Q _=>∃ (a:Addr) (xs:List Int),vs=[.ref a]/\H a=some (.lst (xs.map V.int))/\xs.length<=200000/\∀ l ps H',H l=none->Same H H'->IsLL H' l ps ((P5 k b xs).1++[(P5 k b xs).2])->Q (.ref l) H'
section
variable {P:Program} {w:World} {K:PySem.W.Frag} {mg:Str->Option Value} {base:Heap} {C:Addr}
theorem sc_told:FnScope ["rows", "seen", "row", "piece"] ["rows"] (C6 m8):=G2
abbrev VS(N:List Str)(s:Stmt)(x:Str)(n:Nat):Prop:=∀ {X:Cx} {pos:Pos},X.N=N->X.env.scope=C6 s->QE X (.Name x pos) (tVar n)
theorem vq{s:Stmt}{x:Str}(h:(decide (N[n]?=some x)&&visB (C6 s) x && !(x==("__debug__" : Str)) && !(x==("__classdict__" : Str)))=true:=by decide +kernel):VS N s x n:=fun hN hs=>qvd hN hs h
theorem vi{s:Stmt}{x:Str}{pos:Pos}(h:VS N s x n)(h1:X.N=N:=by rfl)(h2:X.env.scope=C6 s:=by rfl):QE X (.Name x pos) (tVar n):=h h1 h2
abbrev LS(s:Stmt)(x:Str):Prop:=f7 (C6 s) x
theorem lq{s:Stmt}{x:Str}(h:(C6 s).names.lookup x=some .local\/(C6 s).names.lookup x=some .cell:=by decide +kernel):LS s x:=h
abbrev lR:List Str:=["rows", "seen", "row", "piece"]
theorem vaa:VS lR m8 "rows" 0:=vq
theorem vab:VS lR m8 "seen" 1:=vq
theorem vac:VS lR m8 "row" 2:=vq
theorem vad:VS lR m8 "piece" 3:=vq
theorem vae:LS m8 "seen":=lq
theorem vaf:LS m8 "row":=lq
theorem vag:LS m8 "piece":=lq
theorem amU(F:FunD K "told" "told" m8 f fd)(T:Txt P w K mg C):FnOk P w K mg base E5 1 f fd ["rows"] yM:=by
 refine F.ok sc_told ?_ ?_
 .rintro _ _ _ _ ⟨a,rs,zss,rfl,_⟩;rfl
 .intro cdv A outer s H vs Q E hr h;have C7:=hu_of hr;have hu:=hr.units;refine ⟨_,QSs.out (B5 (E9 (n:=1) sc_told.nd rfl vae dZ)
   (B5 (N9 PassesOwn.never (O0 (K:=K) (vi vaa)) (E2 (n:=2) sc_told.nd rfl vaf (.inl rfl)) (C1 (N9 PassesOwn.never (O0 (K:=K) (vi vac)) (E2 (n:=3) sc_told.nd rfl vag (.inl rfl)) (C1 (q5 C7 (vi vab) (vi vad) qe_bl)))))
   (C1 (E4 (qe_cT (z0 (K:=K) (calm:=true)) T.b_list q0 (qa_c (vi vab) A5)))))),?_⟩
  obtain ⟨a,rs,zss,rfl,hR,hz,q⟩:=h;walk_at "rd";intro d nd;have hlz:∀ n:Nat,n<=100000->n<sizeLine:=fun n h=>G7 (by lia)
  refine ⟨⟨_,.of (D0 hR.top nd)⟩,forL (xs:=rs.map V.ref) (fun i O H2=>∃ (u v:Option V),O=[some (.ref a),some (.ref d),u,v]/\Same H H2/\H2 d=some (.dK (kvOf (toldL (zss.take i)))))
   ⟨none,none,rfl,Same.new nd,by rw [A6];rfl⟩ (by rintro i O H2 _ ⟨_,_,_,S,_⟩;exact .of (S _ _ hR.top)) ?_ ?_⟩
  .rintro i x O H2 hx ⟨u,v,rfl,S,hd⟩;obtain ⟨r,hr,rfl⟩:=G8 hx;obtain ⟨zs,fD,D6⟩:=Paired.at hR.row hr;have hcount:(toldL (zss.take i)).length+zs.length<=100000:=by
    have h1:zss.take (i+1)=zss.take i++[zs]:=by rw [b9,fD];rfl
    have h2:=gE (zss.take i);have h3:(zss.take (i+1)).flatten.length<=zss.flatten.length:=by
     conv=>rhs;rw [<- Y5 (i+1) zss]
     rw [List.flatten_append,C8];lia
    rw [h1,List.flatten_append,C8] at h3;simp at h3;simp at h2 hz h3 ⊢
    lia
   walk_at "rd";refine ⟨⟨_,.of (S _ _ D6)⟩,forL (xs:=zs.map V.str) (fun j O H3=>∃ (v:Option V),O=[some (.ref a),some (.ref d),some (.ref r),v]/\Same H H3/\H3 d=some (.dK (kvOf (G0 (toldL (zss.take i)) (zs.take j)))))
    ⟨v,rfl,S,hd⟩ (by rintro j O H3 _ ⟨_,_,S3,_⟩;exact .of (S3 _ _ D6)) ?_ ?_⟩
   .rintro j y O H3 hy ⟨v,rfl,S3,V7⟩;obtain ⟨z,hz',rfl⟩:=G8 hy;walk_at "rd";refine ⟨_,y7 (k:=Sum.inr z) V7 ?_,S3.put nd,?_⟩
    .unfold kvOf;rw [A8];refine hlz _ ?_
     have:=gD (zs.take j) (toldL (zss.take i))
     rw [K5] at this;lia
    .rw [A6,wL,akg hz']
   .rintro O H3 ⟨v,rfl,S3,V7⟩;walk_at "rd";refine ⟨S3,?_⟩;rw [V7,aiK fD,A8,K4]
  .rintro O H2 ⟨u,v,rfl,S,hd⟩;walk_at "rd";refine rListR.d (.of hd) fun l nl=>?_
   refine q l _ (S.free nl) (fun b o h=>D0 (S b o h) nl) ?_;rw [A6,aiL,A8];rw [show rs.length=zss.length from Paired.length hR.row,K4]
theorem sc_followers:FnScope ["rows", "after", "piece", "row", "one", "other"] ["rows"] (C6 W3):=G2
abbrev eR:List Str:=["rows", "after", "piece", "row", "one", "other"]
theorem vah:VS eR W3 "rows" 0:=vq
theorem qF:VS eR W3 "after" 1:=vq
theorem vaj:VS eR W3 "piece" 2:=vq
theorem vak:VS eR W3 "row" 3:=vq
theorem vam:VS eR W3 "one" 4:=vq
theorem van:VS eR W3 "other" 5:=vq
theorem vao:LS W3 "after":=lq
theorem vap:LS W3 "piece":=lq
theorem vaq:LS W3 "row":=lq
theorem var:LS W3 "one":=lq
theorem vas:LS W3 "other":=lq
theorem af6(F:FunD K "followers" "followers" W3 f fd)(T:Txt P w K mg C)(G_told:FO P w K mg base 1 "told" ["rows"] [] yM):FnOk P w K mg base E5 2 f fd ["rows"] spFol:=by
 refine F.ok sc_followers ?_ ?_
 .rintro _ _ _ _ ⟨a,rs,zss,rfl,_⟩;rfl
 .intro cdv A outer s H vs Q E hr h;have C7:=hu_of hr;have hu:=hr.units;refine ⟨_,QSs.out (B5 (E9 (n:=1) sc_followers.nd rfl vao dZ)
   (B5 (N9 PassesOwn.never (O0 (K:=K) (D7 G_told (hm hr) (qa_c (vi vah) A5))) (E2 (n:=2) sc_followers.nd rfl vap (.inl rfl)) (C1 (q5 C7 (vi qF) (vi vaj) (M4 A5))))
   (B5 (N9 PassesOwn.never (O0 (K:=K) (vi vah)) (E2 (n:=3) sc_followers.nd rfl vaq (.inl rfl)) (C1 (N9 PassesOwn.never (aoa T.b_zip (qa_c (vi vak) (qa_c (P1 (K:=K) (vi vak) (M7 A7) V4) A5))) (bS (K:=K) (n:=2) (R6 ((E2 (n:=4) sc_followers.nd rfl var (.inl rfl))) (R6 ((E2 (n:=5) sc_followers.nd rfl vas (.inl rfl))) bR))) (C1 (N4 (qe_mB (K:=K) O5 R3 R1 R7 (f9 C7 (vi qF) (vi vam)) (qa_c (vi van) A5)))))))
   (C1 (E4 (vi qF)))))),?_⟩
  obtain ⟨a,rs,zss,rfl,hR,hz,q⟩:=h;walk_at "rd";intro d nd;have S0:Same H (A0 H d (.dK [])):=Same.new nd;refine ⟨a,rs,zss,rfl,hR.same S0,hz,fun l H1 nl S1 hl=>?_⟩;have sR:H1 d=some (.dK []):=S1 _ _ A6;have S01:=S0.trans S1;have B3:(toldL zss).length<=100000:=M8 (gE zss) hz;have tnd:=eD zss;refine ⟨l,rfl,⟨_,.of hl⟩,forL (xs:=(toldL zss).map V.str) (fun i O H2=>∃ (u v w x:Option V) (ad:Str->Addr),O=[some (.ref a),some (.ref d),u,v,w,x]/\SameBut d H1 H2/\H2 d=some (.dK (C4 ((toldL zss).take i) fun t=>.ref (ad t)))/\DL H1 H2 ((toldL zss).take i) ad fun _=>[])
   ⟨none,none,none,none,fun _=>0,rfl,SameBut.refl _ _,sR,⟨fun t h=>by simp at h,fun t h=>by simp at h,fun t h=>by simp at h⟩⟩ (fun i O H2 _ ⟨_,_,_,_,_,_,S,_⟩=>.of (S _ _ (fun e=>by rw [e,sR] at hl;cases hl) hl)) ?_ ?_⟩
  .rintro i x O H2 hx ⟨u,v,w,y,ad,rfl,S,hd,dl⟩;obtain ⟨z,hk,rfl⟩:=G8 hx;have hi:i<(toldL zss).length:=(K0.mp hk).1;have P8:=pH tnd hk;walk_at "rd";refine fun p np=>⟨_,y7 (k:=Sum.inr z) (D0 hd np) (by rw [g8,K5];exact G7 (by lia)),?_⟩
   have n1:H1 p=none:=S.free np (fun e=>by rw [e,hd] at np;cases np);refine ⟨(S.put n1).at,fun t=>if t=z then p else ad t,?_,?_⟩
   .rw [A6,bU _ P8,L7 hk];have e:(fun t=>if t=z then V.ref p else V.ref (ad t))=fun t=>V.ref (if t=z then p else ad t):=by funext t;split <;> rfl
    rw [e]
   .rw [L7 hk];exact ((dl.more P8 np n1).congr fun t _=>by split <;> rfl).put sR
  .rintro O H2 ⟨u,v,w,y,ad,rfl,S,hd,dl⟩;rw [A8,K4] at hd dl;have S2:Same H H2:=S.same S01 nd;walk_at "rd";have dl0:DL H H2 (toldL zss) ad fun _=>[]:=dl.old S01
   refine ⟨⟨_,.of (S2 _ _ hR.top)⟩,forL (xs:=rs.map V.ref) (fun i O H3=>∃ (v w x:Option V),O=[some (.ref a),some (.ref d),u,v,w,x]/\Same H H3/\H3 d=some (.dK (C4 (toldL zss) fun t=>.ref (ad t)))/\DL H H3 (toldL zss) ad (F6 (edges (zss.take i))))
    ⟨v,w,y,rfl,S2,hd,dl0⟩ (by rintro i O H3 _ ⟨_,_,_,_,S,_⟩;exact .of (S _ _ hR.top)) ?_ ?_⟩
   .rintro i x O H3 hx ⟨v,w,y,rfl,S3,V7,o5⟩;obtain ⟨r,hr,rfl⟩:=G8 hx;obtain ⟨zs,fD,D6⟩:=Paired.at hR.row hr;have aW:=S3 _ _ D6;have L4:∀ x∈zs,x∈toldL zss:=fun x hx=>(pE _ _).mpr (List.mem_flatten.mpr ⟨zs,N7 fD,hx⟩)
    walk_at "rd";refine rSlR.l (.of aW) fun p np=>?_
    have ecut:cutV (zs.map V.str) (some 1) none=zs.tail.map V.str:=by
     have:=m3 (zs.map V.str) 1
     rw [show ((1:Nat):Int)=1 from rfl] at this;rw [this,<- List.map_drop,List.drop_one]
    rw [ecut];have np0:H p=none:=S3.free np;have nad:∀ t∈toldL zss,ad t≠p:=fun t ht e=>by have:=o5.row t ht;rw [e,np] at this;cases this
    have nadr:∀ t∈toldL zss,ad t≠r:=fun t ht e=>by have:=o5.new t ht;rw [e,D6] at this;cases this
    have ndp:d≠p:=fun e=>by rw [<- e,V7] at np;cases np
    have nadd:∀ t∈toldL zss,ad t≠d:=fun t ht e=>by have:=o5.row t ht;rw [e,V7] at this;cases this
    refine ⟨p,rfl,⟨_,D0 aW np⟩,⟨_,A6⟩,forZ (xs:=zs.map V.str) (ys:=zs.tail.map V.str) (fun j O H4=>∃ (w x:Option V),O=[some (.ref a),some (.ref d),u,some (.ref r),w,x]/\Same H H4/\H4 p=some (.lst (zs.tail.map V.str))/\H4 d=some (.dK (C4 (toldL zss) fun t=>.ref (ad t)))/\DL H H4 (toldL zss) ad (F6 (edges (zss.take i)++(Q8 zs).take j)))
     ⟨w,y,rfl,S3.put np0,A6,D0 V7 np,?_⟩ (by rintro j O H4 ⟨_,_,_,S,hp,_⟩;exact ⟨S _ _ D6,hp⟩) ?_ ?_⟩
    .rw [o7,M0];exact o5.same (Same.new np)
    .rintro j xv yv t O H4 hxv hyv ⟨w,v,rfl,S4,jE,W8,fE⟩ nt;obtain ⟨x,hx,rfl⟩:=G8 hxv;obtain ⟨y,hy,rfl⟩:=G8 hyv;have fF:=L4 x (N7 hx);have nt0:H t=none:=S4.free nt;have hlx:=fE.row x fF;have hE:(Q8 zs)[j]?=some (x,y):=xP hx hy;walk_at "rd";refine ⟨_,.of A6,rfl,_,_,rfl,_,_,rfl,rfl,V.ref (ad x),.inl ⟨_,Sum.inr x,.inl (D0 W8 nt),rfl,by rw [O7,if_pos fF]⟩,O3 (D0 hlx nt),appOk (D0 hlx nt) ?_ ⟨(S4.put nt0).put (fE.new x fF),?_,?_,?_⟩⟩
     .rw [A8];refine G7 ?_;have h1:(F6 (edges (zss.take i)++(Q8 zs).take j) x).length<=(edges (zss.take i)++(Q8 zs).take j).length:=by
       unfold F6;rw [A8];exact List.length_filter_le _ _
      have h2:=xQ (zss.take i);have h3:(zss.take i).flatten.length<=zss.flatten.length:=by
       conv=>rhs;rw [<- Y5 i zss]
       rw [List.flatten_append,C8];lia
      have h4:zs.length<=zss.flatten.length:=List.Sublist.length_le (List.sublist_flatten_of_mem (N7 fD));rw [C8,K5,pG] at h1;lia
     .rw [A9 (nad x fF).symm];exact D0 jE nt
     .rw [A9 (nadd x fF).symm];exact D0 W8 nt
     .have h1:=(fE.same (Same.new (u:=.tup [V.str x,V.str y]) nt)).app fF (F6 (edges (zss.take i)++(Q8 zs).take j) x++[y]);rw [D9] at h1;refine h1.congr fun t _=>?_
      rw [L7 hE,<- X2,aks]
      by_cases e:t=x
      .rw [if_pos e,if_pos e.symm,e]
      .rw [if_neg e,if_neg (fun z=>e z.symm)]
    .rintro O H4 ⟨w,x,rfl,S4,jE,W8,fE⟩;walk_at "rd";refine ⟨S4,W8,?_⟩;rw [ahJ fD];rw [j9 (l:=Q8 zs) (by rw [pG,A8,A8];exact C3 _)] at fE;exact fE
   .rintro O H3 ⟨v,w,y,rfl,S3,V7,o5⟩;rw [A8,show rs.length=zss.length from Paired.length hR.row,K4] at o5;walk_at "rd";exact q d ad H3 nd S3 V7 o5
theorem sc_count_ahead:FnScope ["after", "ahead", "piece", "other"] ["after"] (C6 m9):=G2
abbrev lS:List Str:=["after", "ahead", "piece", "other"]
theorem qG:VS lS m9 "after" 0:=vq
theorem qH:VS lS m9 "ahead" 1:=vq
theorem vav:VS lS m9 "piece" 2:=vq
theorem vaw:VS lS m9 "other" 3:=vq
theorem vax:LS m9 "ahead":=lq
theorem vay:LS m9 "piece":=lq
theorem vaz:LS m9 "other":=lq
theorem aeb(F:FunD K "count_ahead" "count_ahead" m9 f fd)(T:Txt P w K mg C):FnOk P w K mg base E5 1 f fd ["after"] xR:=by
 refine F.ok sc_count_ahead ?_ ?_
 .rintro _ _ _ _ ⟨d,ts,ad,E,rfl,_⟩;rfl
 .intro cdv A outer s H vs Q E hr h;have C7:=hu_of hr;have hu:=hr.units;refine ⟨_,QSs.out (B5 (E9 (n:=1) sc_count_ahead.nd rfl vax dZ)
   (B5 (pB PassesOwn.never (vi qG) (E2 (n:=2) sc_count_ahead.nd rfl vay (.inl rfl)) (C1 (q5 C7 (vi qH) (vi vav) A7)))
   (B5 (pB PassesOwn.never (vi qG) (E2 (n:=2) sc_count_ahead.nd rfl vay (.inl rfl)) (C1 (N9 PassesOwn.never (O0 (K:=K) (f9 C7 (vi qG) (vi vav))) (E2 (n:=3) sc_count_ahead.nd rfl vaz (.inl rfl)) (C1 (wR C7 (vi qH) (vi vaw) A7 an3)))))
   (C1 (E4 (vi qH)))))),?_⟩
  obtain ⟨d,ts,ad,E,rfl,hd,tnd,B3,hElen,D6,hE,q⟩:=h;walk_at "rd";intro c nc;have ndc:d≠c:=fun e=>by rw [e,nc] at hd;cases hd
  refine ⟨_,D0 hd nc,fun o=>forD (fun i O H2=>∃ (u v:Option V),O=[some (.ref d),some (.ref c),u,v]/\H2 d=some (.frz o (.dK (C4 ts fun t=>.ref (ad t))))/\SameBut d H H2/\H2 c=some (.dK (C4 (ts.take i) fun _=>.int 0)))
   ⟨none,none,rfl,A6,(SameBut.put (SameBut.refl _ _) nc).at,by rw [A9 ndc.symm,A6];rfl⟩ (by rintro i O H2 ⟨_,_,_,h,_⟩;exact h) ?_ ?_⟩
  .rintro i k v O H2 hk ⟨u,w,rfl,hf,S,hc⟩;obtain ⟨t,ht,rfl,rfl⟩:=xO hk;have hi:i<ts.length:=(K0.mp ht).1;walk_at "rd";refine ⟨_,y7 (k:=Sum.inr t) hc (by rw [g8,K5];exact G7 (by lia)),?_,S.put nc,?_⟩
   .rw [A9 ndc];exact hf
   .rw [A6,bU _ (pH tnd ht),L7 ht];exact congrArg (fun x=>some (HO.dK x)) (T0 fun t _=>by split <;> rfl)
  .rintro O H2 ⟨u,w,rfl,hf,S,hc⟩;rw [g8,K4] at hc;have S2:Same H (A0 H2 d (.dK (C4 ts fun t=>.ref (ad t)))):=S.thaw hd;have X9:A0 H2 d (.dK (C4 ts fun t=>.ref (ad t))) d=some (.dK (C4 ts fun t=>.ref (ad t))):=A6;have o3:A0 H2 d (.dK (C4 ts fun t=>.ref (ad t))) c=some (.dK (C4 ts fun _=>.int 0)):=by rw [A9 ndc.symm];exact hc
   generalize A0 H2 d (.dK (C4 ts fun t=>.ref (ad t)))=H3 at S2 X9 o3;walk_at "rd";refine ⟨_,X9,fun o=>forD (fun i O H4=>∃ (u v:Option V),O=[some (.ref d),some (.ref c),u,v]/\H4 d=some (.frz o (.dK (C4 ts fun t=>.ref (ad t))))/\SameBut d H H4/\H4 c=some (.dK (C4 ts fun t=>.int (cntIn E (ts.take i) t:Nat))))
    ⟨u,w,rfl,A6,fun b o hb h=>by rw [A9 hb];exact S2 b o h,?_⟩ (by rintro i O H2 ⟨_,_,_,h,_⟩;exact h) ?_ ?_⟩
   .rw [A9 ndc.symm,o3];exact congrArg (fun x=>some (HO.dK x)) (T0 fun t _=>by rw [o7,aiW];rfl)
   .rintro i k v O H4 hk ⟨u,w,rfl,hf,S4,fG⟩;obtain ⟨t,ht,rfl,rfl⟩:=xO hk;have jF:t∈ts:=N7 ht;have jG:H4 (ad t)=some (.lst ((F6 E t).map V.str)):=S4 _ _ (fun e=>by have:=D6 t jF;rw [e,hd] at this;cases this) (D6 t jF);walk_at "rd";refine ⟨V.ref (ad t),.inl ⟨_,Sum.inr t,.inr ⟨o,hf⟩,rfl,by rw [O7,if_pos jF]⟩,ad t,rfl,⟨_,.of jG⟩,forL (xs:=(F6 E t).map V.str) (fun j O H5=>∃ (v:Option V),O=[some (.ref d),some (.ref c),some (kV (Sum.inr t)),v]/\H5 d=some (.frz o (.dK (C4 ts fun t=>.ref (ad t))))/\SameBut d H H5/\
     H5 c=some (.dK (C4 ts fun q=>.int (cntIn E (ts.take i) q+((F6 E t).take j).count q:Nat)))) ⟨w,rfl,hf,S4,by rw [fG];rfl⟩ (fun j O H5 _ ⟨_,_,_,S5,_⟩=>.of (S5 _ _ (fun e=>by have:=D6 t jF;rw [e,hd] at this;cases this) (D6 t jF))) ?_ ?_⟩
    .rintro j v5 O H5 sS ⟨v,rfl,sT,S5,W9⟩;obtain ⟨y,sU,rfl⟩:=G8 sS;have aX:y∈ts:=by
      have:=N7 sU
      unfold F6 at this;obtain ⟨e,he,rfl⟩:=E1.mp this;exact (hE e (U1.mp he).1).2
     walk_at "rd";refine ⟨V.int (cntIn E (ts.take i) y+((F6 E t).take j).count y:Nat),.inl ⟨_,Sum.inr y,.inl W9,rfl,by rw [O7,if_pos aX]⟩,_,_,rfl,rfl,_,y7 (k:=Sum.inr y) W9 (by rw [g8];exact G7 (by lia)),?_,S5.put nc,?_⟩
     .rw [A9 ndc];exact sT
     .rw [A6,lA _ aX];refine congrArg (fun x=>some (HO.dK x)) (T0 fun q _=>?_);rw [L7 sU,List.count_append,List.count_singleton]
      by_cases e:q=y
      .rw [if_pos e,e,if_pos (by simp)];exact congrArg V.int (by lia)
      .rw [if_neg e,if_neg (by simpa using fun z:y=q=>e z.symm)];rfl
    .rintro O H5 ⟨v,rfl,sT,S5,W9⟩;walk_at "rd";refine ⟨sT,S5,?_⟩;rw [A8,K4] at W9;rw [W9];refine congrArg (fun x=>some (HO.dK x)) (T0 fun q _=>?_);rw [L7 ht,ahG (pH tnd ht)]
   .rintro O H4 ⟨u,w,rfl,hf,S4,fG⟩;rw [g8,K4] at fG;walk_at "rd";refine q c _ nc (S4.thaw hd) ?_;rw [A9 ndc.symm,fG];exact congrArg (fun x=>some (HO.dK x)) (T0 fun t _=>by rw [aiV (fun e he=>(hE e he).1)])
theorem sc_lined_up:FnScope ["rows", "after", "ahead", "pieces", "numbers", "free", "line", "number", "other"] ["rows"] (C6 O9):=G2
abbrev t6:List Str:=["rows", "after", "ahead", "pieces", "numbers", "free", "line", "number", "other"]
theorem vaA:VS t6 O9 "rows" 0:=vq
theorem qI:VS t6 O9 "after" 1:=vq
theorem vaC:VS t6 O9 "ahead" 2:=vq
theorem iB:VS t6 O9 "pieces" 3:=vq
theorem vaE:VS t6 O9 "numbers" 4:=vq
theorem lT:VS t6 O9 "free" 5:=vq
theorem qJ:VS t6 O9 "line" 6:=vq
theorem qK:VS t6 O9 "number" 7:=vq
theorem qL:VS t6 O9 "other" 8:=vq
theorem vaJ:LS O9 "after":=lq
theorem vaK:LS O9 "ahead":=lq
theorem vaL:LS O9 "pieces":=lq
theorem vaM:LS O9 "numbers":=lq
theorem vaN:LS O9 "free":=lq
theorem vaO:LS O9 "line":=lq
theorem vaP:LS O9 "number":=lq
theorem vaQ:LS O9 "other":=lq
theorem agH(F:FunD K "lined_up" "lined_up" O9 f fd)(T:Txt P w K mg C)(G_followers:FO P w K mg base 2 "followers" ["rows"] [] spFol)(G_count_ahead:FO P w K mg base 1 "count_ahead" ["after"] [] xR):FnOk P w K mg base E5 3 f fd ["rows"] xT:=by
 refine F.ok sc_lined_up ?_ ?_
 .rintro _ _ _ _ ⟨a,rs,zss,rank,rfl,_⟩;rfl
 .intro cdv A outer s H vs Q E hr h;have C7:=hu_of hr;have hu:=hr.units;refine ⟨_,QSs.out (B5 (E9 (n:=1) sc_lined_up.nd rfl vaJ (D7 G_followers (hm hr) (qa_c (vi vaA) A5)))
   (B5 (E9 (n:=2) sc_lined_up.nd rfl vaK (D7 G_count_ahead (hm hr) (qa_c (vi qI) A5)))
   (B5 (E9 (n:=3) sc_lined_up.nd rfl vaL (qe_cT (z0 (K:=K) (calm:=true)) T.b_list q0 (qa_c (vi qI) A5)))
   (B5 (E9 (n:=4) sc_lined_up.nd rfl vaM (qe_cT (xH (K:=K) (calm:=true)) T.b_dict wI (qa_c (X6  (U7:CompOk ["rows", "after", "ahead", "pieces", "numbers", "free", "line", "number", "other"] (C6 O9).names _ ["number", "piece"] 2 []) (pI T.b_enumerate (qa_c (vi iB) A5)) (fun _ _ _ _ _=>(bS (K:=K) (n:=2) (R6 (E2 (n:=0) (show List.Nodup (["number", "piece"]:List Str) by decide +kernel) rfl (Or.inl rfl)) (R6 (E2 (n:=1) (show List.Nodup (["number", "piece"]:List Str) by decide +kernel) rfl (Or.inl rfl)) bR)))) (fun _ _ _ _ _=>g6) (fun _ _ _ _ _=>(P0 (qa_c (qv 1) (qa_c (qv 0) A5))))) A5)))
   (B5 (oV (n:=5) sc_lined_up.nd rfl vaN (U7:CompOk ["rows", "after", "ahead", "pieces", "numbers", "free", "line", "number", "other"] (C6 O9).names _ ["piece", "numbers", "ahead"] 1 [4,2]) (O0 (K:=K) (vi iB)) (fun _ _ _ _ _=>E2 (n:=0) (show List.Nodup (["piece", "numbers", "ahead"]:List Str) by decide +kernel) rfl (Or.inl rfl)) (fun _ _ _ _ _=>(gG (G1 (q_eq (K:=K) hu) (f9 C7 (qv 2) (qv 0)) A7))) (fun _ _ _ _ _=>(f9 C7 (qv 1) (qv 0))))
   (B5 (E9 (n:=6) sc_lined_up.nd rfl vaO (M4 A5))
   (B5 (oU PassesOwn.never (g0 (K:=K) (vi lT)) (B5 (E9 (n:=7) sc_lined_up.nd rfl vaP (qe_cB (aoj (calm:=true)) T.b_min anZ (qa_c (vi lT) A5)))
   (B5 (N4 (qe_mB (K:=K) O5 PySem.F.slot_list_remove PySem.F.type_list_remove aja (vi lT) (qa_c (vi qK) A5)))
   (B5 (N4 (qe_mB (K:=K) O5 R3 R1 R7 (vi qJ) (qa_c (qe_ix (K:=K) (vi iB) (vi qK)) A5)))
   (C1 (N9 PassesOwn.never (O0 (K:=K) (f9 C7 (vi qI) (qe_ix (K:=K) (vi iB) (vi qK)))) (E2 (n:=8) sc_lined_up.nd rfl vaQ (.inl rfl)) (B5 (wR C7 (vi vaC) (vi qL) A7 an4)
   (C1 (qs_if (G1 (q_eq (K:=K) hu) (f9 C7 (vi vaC) (vi qL)) A7) (C1 (N4 (qe_mB (K:=K) O5 R3 R1 R7 (vi lT) (qa_c (f9 C7 (vi vaE) (vi qL)) A5)))) N0)))))))))
   (B5 (qs_if (G1 q_lt (qe_cB (q_len (K:=K)) T.b_len W2 (qa_c (vi qJ) A5)) (qe_cB (q_len (K:=K)) T.b_len W2 (qa_c (vi iB) A5))) (C1 kU) N0)
   (C1 (E4 (vi qJ))))))))))),?_⟩
  obtain ⟨a,rs,zss,rank,rfl,hR,hz,j0,q⟩:=h;walk_at "rd";have B3:(toldL zss).length<=100000:=M8 (gE zss) hz;have hElen:(edges zss).length<=100000:=M8 (xQ zss) hz;have tnd:=eD zss;have etold:∀ e∈edges zss,e.1∈toldL zss/\e.2∈toldL zss:=fun e he=>ahI he
  refine ⟨a,rs,zss,rfl,hR,hz,fun d ad H1 nd S1 hd dl=>?_⟩;generalize hts:toldL zss=ts at *;generalize hEE:edges zss=E at *;refine ⟨d,ts,ad,E,rfl,hd,tnd,B3,hElen,dl.row,etold,fun c H2 nc S2 hc=>?_⟩;walk_at "rd";refine rListR.d (.of (S2 _ _ hd)) fun w nw=>?_
  rw [aku];have b8:=S1.trans S2;have ncH:H c=none:=S1.free nc;have X9:=S2 _ _ hd;have ncd:c≠d:=fun e=>by rw [e,hd] at nc;cases nc
  have nac:∀ t∈ts,ad t≠c:=fun t ht e=>by have:=dl.row t ht;rw [e,nc] at this;cases this
  have mM:A0 H2 w (.lst (ts.map V.str)) w=some (.lst (ts.map V.str)):=A6;have Sw:Same H2 (A0 H2 w (.lst (ts.map V.str))):=Same.new nw;generalize A0 H2 w (.lst (ts.map V.str))=H3 at mM Sw ⊢
  have idx:∀ {i:Nat} {z:Str},ts[i]?=some z->ts.idxOf z=i:=fun {i z} h=>by
   obtain ⟨hi,rfl⟩:=K0.mp h;exact List.Nodup.idxOf_getElem tnd i hi
  refine ⟨w,rfl,⟨_,mM⟩,compE (xs:=ts.map V.str) [] rfl (fun D i ys H4=>∃ qs:List Addr,ys=qs.map V.ref/\Same H3 H4/\Paired (fun q t=>H4 q=some (.tup [.str t,.int (ts.idxOf t:Nat)])) qs (ts.take i)) (fun D nD=>⟨[],rfl,Same.new nD,.nil⟩) (by rintro D i ys H4 nD _ ⟨_,_,S,_⟩;exact S _ _ mM) ?_ ?_⟩
  .rintro D i x t ys H4 nD hi hx ⟨qs,rfl,S,P4⟩ hD hy nt;obtain ⟨z,hz,rfl⟩:=G8 hx;rw [A8] at hi hy;walk_at "rd";refine ⟨by decide,fun p np=>⟨D0 (D0 hD nt) np,by rw [A8];exact G7 (by lia),eG.put (by rw [A8];exact hi) (by rw [A8];exact hy) ⟨qs++[p],by rw [D9];rfl,((S.trans (Same.new nt)).trans (Same.new np)).put nD,?_⟩⟩⟩;rw [L7 hz];refine Paired.snoc (M9 P4 fun q t' h=>?_) ?_
   .rw [A9 (fun e=>by rw [e,hD] at h;cases h)];exact D0 (D0 h nt) np
   .rw [A9 (fun e=>by rw [e,D0 hD nt] at np;cases np),A6,idx hz]
  rintro D ys H4 nD ⟨qs,rfl,sV,P4⟩ hD hy;rw [A8,K4] at P4;refine ⟨rfl,D,qs,_,rfl,.of hD,yL (f:=fun t=>.int (ts.idxOf t:Nat)) P4,fun nm nnm=>?_⟩;rw [show U5 [] (C4 ts fun t=>V.int (ts.idxOf t:Nat))=C4 ts fun t=>V.int (ts.idxOf t:Nat) from yJ (pre:=[]) (by simpa using tnd)];have S5:Same H2 (A0 H4 nm (.dK (C4 ts fun t=>V.int (ts.idxOf t:Nat)))):=(Sw.trans sV).trans (Same.new nnm);have u8:A0 H4 nm (.dK (C4 ts fun t=>V.int (ts.idxOf t:Nat))) w=some (.lst (ts.map V.str)):=D0 (sV _ _ mM) nnm;have sW:A0 H4 nm (.dK (C4 ts fun t=>V.int (ts.idxOf t:Nat))) nm=some (.dK (C4 ts fun t=>V.int (ts.idxOf t:Nat))):=A6;have fG:H4 c=some (.dK (C4 ts fun t=>.int (F8 E [] t:Nat))):=sV _ _ (Sw _ _ hc);have ncn:c≠nm:=fun e=>by rw [<- e,fG] at nnm;cases nnm
  generalize A0 H4 nm (.dK (C4 ts fun t=>V.int (ts.idxOf t:Nat)))=H5 at S5 u8 sW ⊢
  have W9:=S5 _ _ hc;have hd5:=S5 _ _ X9;have eZ:∀ t∈ts,H5 (ad t)=some (.lst ((F6 E t).map V.str)):=fun t ht=>S5 _ _ (S2 _ _ (dl.row t ht))
  have S05:=b8.trans S5;have ncw:c≠w:=fun e=>by rw [e,u8] at W9;cases W9
  refine ⟨w,rfl,⟨_,.of u8⟩,compL (xs:=ts.map V.str) [some (.ref nm),some (.ref c)] rfl (fun D i ys H6=>∃ fr:List Int,ys=fr.map V.int/\Same H5 H6/\FS (ts.take i) [] (fun q=>F8 E [] q=0) fr) (fun D nD=>⟨[],rfl,Same.new nD,FS.nil _⟩) (by rintro D i ys H6 nD _ ⟨_,_,S,_⟩;exact .of (S _ _ u8)) ?_ ?_⟩
  .rintro D i x ys H6 nD hi hx ⟨fr,rfl,S,F⟩ hD hy;obtain ⟨z,hz,rfl⟩:=G8 hx;have mN:z∈ts:=N7 hz;have hil:i<ts.length:=(K0.mp hz).1;rw [A8] at hy;have hs:=F.snoc (i:=i) (q:=z) (by rw [K5];lia) (by simp);rw [<- L7 hz] at hs;walk_at "rd";refine ⟨V.int (F8 E [] z:Nat),.inl ⟨_,Sum.inr z,.inl (S _ _ W9),rfl,by rw [O7,if_pos mN]⟩,?_⟩
   try walk_at "rd"
   refine iteD (fun h0=>⟨V.int (ts.idxOf z:Nat),.inl ⟨_,Sum.inr z,.inl (S _ _ sW),rfl,by rw [O7,if_pos mN]⟩,hD,by rw [A8];exact G7 (by lia),CW.put hi (by rw [A8];exact hy) ⟨fr++[(i:Int)],by rw [D9,idx hz];rfl,S.put nD,hs.1 (by lia)⟩⟩) fun h0=>⟨hD,wK hi (by rw [A8];exact hy) ⟨fr,rfl,S,hs.2 (by lia)⟩⟩
  rintro f ys H6 nf ⟨fr,rfl,sX,F0⟩ sY hy;rw [A8,K4] at F0;intro ln nln;have nln5:H5 ln=none:=sX.free nln;have j1:f≠ln:=fun e=>by rw [e,nln] at sY;cases sY
  have frlen:∀ {line fr z},FS ts line z fr->fr.length<=ts.length:=fun {line fr z} F=>by
   have h1:∀ n∈fr,n∈(c9 ts.length).map fun (n:Nat)=>(n:Int):=fun n hn=>by
    obtain ⟨m,q,e,h2,_⟩:=(F.2 n).mp hn;exact E1.mpr ⟨m,List.mem_range.mpr (K0.mp h2).1,e.symm⟩
   have:=yK F.1 h1
   simpa using this
  refine oX (fun m O H7=>∃ (u v:Option V) (line:List Str) (fr:List Int),O=[some (.ref a),some (.ref d),some (.ref c),some (.ref w),some (.ref nm),some (.ref f),some (.ref ln),u,v]/\SameBut c H5 H7/\
    H7 c=some (.dK (C4 ts fun t=>.int (F8 E line t:Nat)))/\H7 f=some (.lst (fr.map V.int))/\FS ts line (fun q=>F8 E line q=0) fr/\H7 ln=some (.lst (line.map V.str))/\Q6 E ts line/\m=ts.length-line.length) ts.length
   ⟨none,none,[],fr,rfl,fun b o _ h=>D0 (sX _ _ h) nln,D0 (sX _ _ W9) nln,D0 sY nln,F0,A6,Q6.nil _ _,rfl⟩ ?_
  rintro m O H7 ⟨u,v,line,fr,rfl,B7,hc7,mO,F,jH,run,rfl⟩;have S07:Same H H7:=B7.same S05 ncH;walk_at "rd";refine ⟨_,oY mO,?_⟩
  by_cases u9:fr=[]
  .have u4:∀ p∈ts,p∈line:=fun p hp=>Classical.byContradiction fun hn=>by
    obtain ⟨q',hq⟩:=akt (line:=line) j0 (fun e he=>(etold e he).1) ⟨p,hp,hn⟩;obtain ⟨h1,h2,h3⟩:=eC hq;obtain ⟨k,hk⟩:=List.mem_iff_getElem?.mp h1
    have:=(F.2 (k:Int)).mpr ⟨k,q',rfl,hk,h2,h3⟩
    rw [u9] at this
    cases this
   have hsl:=kZ tnd run u4;rw [u9];refine iteF ?_
   try walk_at "rd"
   refine ⟨line.length,.inl ⟨_,.of jH,by rw [A8]⟩,ts.length,.inl ⟨_,.of (B7 _ _ ncw.symm u8),by rw [A8]⟩,?_⟩
   try walk_at "rd"
   exact iteD (fun h=>absurd h (by lia)) fun _=>q ln line H7 (S05.free nln5) S07 jH run u4
  rw [show (!(fr.map V.int).isEmpty)=true by cases fr with | nil=>exact absurd rfl u9 | cons=>rfl];refine iteT ⟨fun σ' H'=>∃ (u v:Option V) (line':List Str) (fr:List Int),σ'=[some (.ref a),some (.ref d),some (.ref c),some (.ref w),some (.ref nm),some (.ref f),some (.ref ln),u,v]/\SameBut c H5 H'/\
    H' c=some (.dK (C4 ts fun t=>.int (F8 E line' t:Nat)))/\H' f=some (.lst (fr.map V.int))/\FS ts line' (fun q=>F8 E line' q=0) fr/\H' ln=some (.lst (line'.map V.str))/\Q6 E ts line'/\ts.length-line'.length<ts.length-line.length,?_,?_⟩
  .rintro σ' H' ⟨u,v,line',fr',rfl,h1,h2,h3,h4,h5,h6,h7⟩;exact ⟨_,h7,⟨_,_,rfl⟩,h1,line',h2,fr',h3,h4,h5,h6,rfl⟩
  try walk_at "rd"
  refine ⟨fr,mO,u9,fun M hM cQ=>?_⟩;obtain ⟨mm,p,rfl,hpm,X0⟩:=agu F hM cQ;obtain ⟨Y3,Y1,mP⟩:=eC X0;have fH:line.length<ts.length:=by
   have h1:(line++[p]).Nodup:=(run.snoc X0).nodup;have h3:=xS h1 fun x hx=>(run.snoc X0).sub hx
   rw [C8,T9] at h3;lia
  have F1:=F.take tnd hpm
  try walk_at "rd"
  refine ⟨O3 mO,aoi mO hM ?_⟩;have hwf:w≠f:=fun e=>by rw [e,nf] at u8;cases u8
  have sZ:c≠f:=fun e=>by rw [e,nf] at W9;cases W9
  have jI:c≠ln:=fun e=>by rw [e,nln5] at W9;cases W9
  have B8:SameBut c H5 (A0 H7 f (.lst ((fr.erase (mm:Int)).map V.int))):=B7.put nf;have mQ:A0 H7 f (.lst ((fr.erase (mm:Int)).map V.int)) ln=some (.lst (line.map V.str)):=by rw [A9 j1.symm];exact jH
  have hf8:A0 H7 f (.lst ((fr.erase (mm:Int)).map V.int)) f=some (.lst ((fr.erase (mm:Int)).map V.int)):=A6;have hc8:A0 H7 f (.lst ((fr.erase (mm:Int)).map V.int)) c=some (.dK (C4 ts fun t=>.int (F8 E line t:Nat))):=by rw [A9 sZ];exact hc7
  generalize A0 H7 f (.lst ((fr.erase (mm:Int)).map V.int))=H8 at B8 mQ hf8 hc8 ⊢
  have atp:F7 (ts.map V.str) (mm:Int)=some (V.str p):=Q2 (by rw [U9,hpm];rfl);refine ⟨O3 mQ,_,.inl (.of (B8 _ _ ncw.symm u8)),V.str p,atp,appOk mQ (by rw [A8];exact G7 (by lia)) ?_⟩;have B9:SameBut c H5 (A0 H8 ln (.lst (line.map V.str++[V.str p]))):=B8.put nln5;have mR:A0 H8 ln (.lst (line.map V.str++[V.str p])) ln=some (.lst ((line++[p]).map V.str)):=by rw [A6,D9];rfl
  have hf9:A0 H8 ln (.lst (line.map V.str++[V.str p])) f=some (.lst ((fr.erase (mm:Int)).map V.int)):=by rw [A9 j1];exact hf8
  have hc9:A0 H8 ln (.lst (line.map V.str++[V.str p])) c=some (.dK (C4 ts fun t=>.int (F8 E line t:Nat))):=by rw [A9 jI];exact hc8
  generalize A0 H8 ln (.lst (line.map V.str++[V.str p]))=H9 at B9 mR hf9 hc9 ⊢
  refine ⟨_,.inl (.of (B9 _ _ ncw.symm u8)),V.str p,atp,V.ref (ad p),.inl ⟨_,Sum.inr p,.inl (B9 _ _ ncd.symm hd5),rfl,by rw [O7,if_pos Y3]⟩,ad p,rfl,⟨_,.of (B9 _ _ (nac p Y3) (eZ p Y3))⟩,
   forL (xs:=(F6 E p).map V.str) (fun j O H7=>∃ (x:Option V) (fr:List Int),O=[some (.ref a),some (.ref d),some (.ref c),some (.ref w),some (.ref nm),some (.ref f),some (.ref ln),some (.int (mm:Int)),x]/\SameBut c H5 H7/\
    H7 c=some (.dK (C4 ts fun t=>.int ((F8 E line t:Nat)-(((F6 E p).take j).count t:Nat))))/\H7 f=some (.lst (fr.map V.int))/\FS ts (line++[p]) (fun q=>F8 E line q=((F6 E p).take j).count q) fr/\H7 ln=some (.lst ((line++[p]).map V.str)))
   ⟨v,_,rfl,B9,?_,hf9,F1.congr fun q=>(by simp),mR⟩ (by rintro j O H7 _ ⟨_,_,_,B,_⟩;exact .of (B _ _ (nac p Y3) (eZ p Y3))) ?_ ?_⟩
  .rw [hc9];exact congrArg (fun x=>some (HO.dK x)) (T0 fun t _=>congrArg V.int (by simp))
  .rintro j v5 O U8 sS ⟨x,fr,rfl,B,j3,cU,F,cV⟩;obtain ⟨y,hy,rfl⟩:=G8 sS;have aX:y∈ts:=by
    have:=N7 hy
    unfold F6 at this;obtain ⟨e,he,rfl⟩:=E1.mp this;exact (etold e (U1.mp he).1).2
   have cP:((F6 E p).take j).count y<F8 E line y:=by
    have h1:=xL (E:=E) (q:=y) Y1;have h2:(F6 E p).count y=((F6 E p).take (j+1)).count y+((F6 E p).drop (j+1)).count y:=by rw [<- List.count_append,Y5]
    rw [L7 hy,List.count_append,List.count_singleton,if_pos (by simp)] at h2;lia
   have hyb:y∉line++[p]:=fun hm=>by
    rcases F9.mp hm with hm | hm
    .have:=akC run hm;lia
    .rw [E6.mp hm] at cP;lia
   obtain ⟨my,hmy⟩:=List.mem_iff_getElem?.mp aX;have jJ:∀ q,((F6 E p).take (j+1)).count q=((F6 E p).take j).count q+if y=q then 1 else 0:=fun q=>by
    rw [L7 hy,List.count_append,List.count_singleton]
    by_cases e:y=q
    .rw [if_pos e,if_pos (by simpa using e)]
    .rw [if_neg e,if_neg (by simpa using e)]
   have turn:=F.turn (z':=fun q=>F8 E line q=((F6 E p).take (j+1)).count q) tnd (y:=y) (fun q hq=>by rw [jJ,if_neg (fun e=>hq e.symm),Nat.add_zero]) (by lia) hmy hyb;have P8:C4 ts (fun t=>V.int (if t=y then (F8 E line y:Nat)-(((F6 E p).take j).count y:Nat)-1 else (F8 E line t:Nat)-(((F6 E p).take j).count t:Nat)))=C4 ts (fun t=>V.int ((F8 E line t:Nat)-(((F6 E p).take (j+1)).count t:Nat))):=T0 fun q _=>by
    rw [jJ]
    by_cases e:q=y
    .rw [if_pos e,e,if_pos rfl];exact congrArg V.int (by lia)
    .rw [if_neg e,if_neg (fun z=>e z.symm)];exact congrArg V.int (by lia)
   walk_at "rd";refine ⟨_,.inl ⟨_,Sum.inr y,.inl j3,rfl,by rw [O7,if_pos aX]⟩,_,_,rfl,rfl,_,y7 (k:=Sum.inr y) j3 (by rw [g8];exact G7 (by lia)),?_⟩;have v4:A0 U8 c (.dK (putK (C4 ts fun t=>V.int ((F8 E line t:Nat)-(((F6 E p).take j).count t:Nat))) (Sum.inr y) (V.int ((F8 E line y:Nat)-(((F6 E p).take j).count y:Nat)-1)))) c=some (.dK (C4 ts (fun t=>V.int ((F8 E line t:Nat)-(((F6 E p).take (j+1)).count t:Nat))))):=by
    rw [A6,lA _ aX,<- P8];refine congrArg (fun x=>some (HO.dK x)) (T0 fun q _=>?_)
    by_cases e:q=y
    .rw [if_pos e,if_pos e]
    .rw [if_neg e,if_neg e]
   have B11:SameBut c H5 (A0 U8 c (.dK (putK (C4 ts fun t=>V.int ((F8 E line t:Nat)-(((F6 E p).take j).count t:Nat))) (Sum.inr y) (V.int ((F8 E line y:Nat)-(((F6 E p).take j).count y:Nat)-1))))):=B.at;have v6:A0 U8 c (.dK (putK (C4 ts fun t=>V.int ((F8 E line t:Nat)-(((F6 E p).take j).count t:Nat))) (Sum.inr y) (V.int ((F8 E line y:Nat)-(((F6 E p).take j).count y:Nat)-1)))) f=some (.lst (fr.map V.int)):=by rw [A9 sZ.symm];exact cU
   have cW:A0 U8 c (.dK (putK (C4 ts fun t=>V.int ((F8 E line t:Nat)-(((F6 E p).take j).count t:Nat))) (Sum.inr y) (V.int ((F8 E line y:Nat)-(((F6 E p).take j).count y:Nat)-1)))) ln=some (.lst ((line++[p]).map V.str)):=by rw [A9 jI.symm];exact cV
   generalize A0 U8 c (.dK (putK (C4 ts fun t=>V.int ((F8 E line t:Nat)-(((F6 E p).take j).count t:Nat))) (Sum.inr y) (V.int ((F8 E line y:Nat)-(((F6 E p).take j).count y:Nat)-1))))=jK at v4 B11 v6 cW ⊢
   refine ⟨V.int ((F8 E line y:Nat)-(((F6 E p).take (j+1)).count y:Nat)),.inl ⟨_,Sum.inr y,.inl v4,rfl,by rw [O7,if_pos aX]⟩,?_⟩
   try walk_at "rd"
   have tD:=frlen F;refine iteD (fun h0=>⟨O3 v6,V.int (ts.idxOf y:Nat),.inl ⟨_,Sum.inr y,.inl (B11 _ _ ncn.symm sW),rfl,by rw [O7,if_pos aX]⟩,appOk v6 (by rw [A8];exact G7 (by lia)) ?_⟩) fun h0=>?_
   .refine ⟨B11.put nf,?_,fr++[(my:Int)],?_,turn.1 (by lia),?_⟩
    .rw [A9 sZ];exact v4
    .rw [A6,D9,idx hmy];rfl
    .rw [A9 j1.symm];exact cW
   .exact ⟨B11,v4,fr,v6,turn.2 (by lia),cW⟩
  .rintro O U8 ⟨x,fr,rfl,B,j3,cU,F,cV⟩;rw [A8,K4] at j3 F;have aY:∀ q,F8 E line q=F8 E (line++[p]) q+(F6 E p).count q:=fun q=>xL (E:=E) (q:=q) Y1
   refine ⟨⟨_,_,rfl⟩,B,line++[p],?_,fr,cU,F.congr fun q=>?_,cV,run.snoc X0,by rw [C8,T9];lia⟩
   .rw [j3];exact congrArg (fun x=>some (HO.dK x)) (T0 fun q _=>congrArg V.int (by have:=aY q;lia))
   .have:=aY q
    lia
theorem af7:FnScope ["sign"] ["sign"] (C6 lO):=G2
abbrev agI:List Str:=["sign"]
theorem vaR:VS agI lO "sign" 0:=vq
theorem af8(F:FunD K "is_figure" "is_figure" lO f fd)(T:Txt P w K mg C):FnOk P w K mg base E5 1 f fd ["sign"] eI:=by
 refine F.ok af7 ?_ ?_
 .rintro _ _ _ _ ⟨c,rfl,_⟩;rfl
 .intro cdv A outer s H vs Q E hr h;have C7:=hu_of hr;have hu:=hr.units;refine ⟨_,QSs.out (C1 (E4 (akh q_le q_le M3 (vi vaR) M3))),?_⟩;obtain ⟨c,rfl,q⟩:=h;walk_at "rd";have e1:(Str.ofString "0").cps.toList=[48]:=by decide +kernel
  have e2:(Str.ofString "9").cps.toList=[57]:=by decide +kernel
  rw [e1,e2];simp only [aoe];refine iteN (fun h1=>?_) fun h1=>?_
  .have e:figO c=!decide (57<c):=by
    unfold figO;rw [decide_eq_true (by lia:48<=c)]
    by_cases h2:c<=57
    .rw [decide_eq_true h2,decide_eq_false (by lia:¬ 57<c)];rfl
    .rw [decide_eq_false h2,decide_eq_true (by lia:57<c)];rfl
   rw [e] at q;exact q
  .have e:figO c=false:=by unfold figO;rw [decide_eq_false (by lia:¬ 48<=c)];rfl
   rw [e] at q;exact q
theorem agJ:FnScope ["rules", "word"] ["rules", "word"] (C6 gU):=G2
abbrev ah2:List Str:=["rules", "word"]
theorem vaS:VS ah2 gU "rules" 0:=vq
theorem agK(F:FunD K "has_rule" "has_rule" gU f fd)(T:Txt P w K mg C):FnOk P w K mg base E5 1 f fd ["rules", "word"] (spHas K):=by
 refine F.ok agJ ?_ ?_
 .rintro _ _ _ _ ⟨a,ts,R,w,rfl,_⟩;rfl
 .intro cdv A outer s H vs Q E hr h;have C7:=hu_of hr;have hu:=hr.units;refine ⟨_,QSs.out (C1 (E4 (qe_cB (q_any (calm:=true)) T.b_any wH (qa_c (X6  (U7:CompOk ["rules", "word"] (C6 gU).names _ ["rule", "word"] 1 [1]) (O0 (K:=K) (vi vaS)) (fun _ _ _ _ _=>E2 (n:=0) (show List.Nodup (["rule", "word"]:List Str) by decide +kernel) rfl (Or.inl rfl)) (fun _ _ _ _ _=>g6) (fun _ _ _ _ _=>(kQ (q_eq (K:=K) hu) (qe_ix (K:=K) (qv 0) A7) (qv 1)))) A5)))),?_⟩;obtain ⟨a,ts,R,w,rfl,hR,hl,q⟩:=h;walk_at "rd";refine ⟨⟨_,.of hR.top⟩,compL (xs:=ts.map V.ref) [some (.str w)] rfl (fun D i ys H4=>ys=((R.take i).map fun z=>decide (z.1=w)).map V.bl/\Same H H4) (fun D nD=>⟨rfl,Same.new nD⟩) (by rintro D i ys H4 nD _ ⟨_,S⟩;exact .of (S _ _ hR.top)) ?_ ?_⟩
  .rintro D i x ys H4 nD hi hx ⟨rfl,S⟩ hD hy;obtain ⟨t,ht,rfl⟩:=G8 hx;obtain ⟨z,hz,D6⟩:=Paired.at hR.row ht;have jB:i<R.length:=(K0.mp hz).1;walk_at "rd";refine ⟨_,.inr (.of (S _ _ D6)),V.str z.1,Q3 _ _,?_⟩;walk_at "rd";refine ⟨hD,by rw [A8,A8,K5];exact G7 (by lia),CW.put hi hy ⟨?_,S.put nD⟩⟩;rw [b9,hz]
   simp
  rintro D ys H4 nD ⟨rfl,S⟩ hD hy;rw [A8,hR.len,K4] at hD;refine ⟨_,rfl,hD,?_⟩;have e:((R.map fun z=>decide (z.1=w)).any id)=hasW R w:=by
   unfold hasW;rw [List.any_map];rfl
  rw [e];exact q H4 S
theorem aec:FnScope ["rule"] ["rule"] (C6 lP):=G2
abbrev afb:List Str:=["rule"]
theorem eS:VS afb lP "rule" 0:=vq
theorem aed(F:FunD K "pieces_told" "pieces_told" lP f fd)(T:Txt P w K mg C):FnOk P w K mg base E5 1 f fd ["rule"] (xY K):=by
 refine F.ok aec ?_ ?_
 .rintro _ _ _ _ ⟨t,z,rfl,_⟩;rfl
 .intro cdv A outer s H vs Q E hr h;have C7:=hu_of hr;have hu:=hr.units;obtain ⟨a_JOBS,m_JOBS,M_JOBS⟩:=T.x_JOBS;refine ⟨_,QSs.out (B5 (qs_if (G1 (q_eq (K:=K) hu) (qe_ix (K:=K) (vi eS) A7) M3) (C1 (E4 (P1 (K:=K) (vi eS) (M7 A7) V4))) N0)
   (B5 (qs_if (G1 (q_eq (K:=K) hu) (qe_ix (K:=K) (vi eS) A7) M3) (C1 (E4 (P1 (K:=K) (vi eS) (M7 A7) (M7 A7)))) N0)
   (C1 (E4 (wQ (G1 (q_inM M_JOBS) (qe_ix (K:=K) (vi eS) A7) (kP m_JOBS)) (P1 (K:=K) (vi eS) (M7 A7) V4) (P0 A5)))))),?_⟩
  obtain ⟨t,z,rfl,ht,q⟩:=h;have hT:C9 K H t ((z.1::z.2).map V.str):=.of ht;have B3:1<=((z.1::z.2).map V.str).length:=by rw [A8,G5];lia
  walk_at "rd";refine ⟨_,.inr hT,V.str z.1,Q3 _ _,?_⟩;walk_at "rd";refine iteD (fun e=>?_) fun n1=>⟨_,.inr hT,V.str z.1,Q3 _ _,?_⟩
  .refine rSlR.t hT (Z5 (k:=2) (by decide) B3) fun p np=>q p _ (Same.new np) (.of ?_)
   rw [A6,show ((2:Int))=((2:Nat):Int) from rfl,m3,G6,List.drop_succ_cons,<- List.map_drop];unfold N5;rw [if_pos e]
  walk_at "rd";refine iteD (fun e=>?_) fun n2=>⟨_,.inr hT,V.str z.1,Q3 _ _,?_⟩
  .refine rSlR.t hT (Z5 (k:=1) (by decide) B3) fun p np=>q p _ (Same.new np) (.of ?_)
   have ecut:cutV ((z.1::z.2).map V.str) (some 1) (some 2)=(z.2.take 1).map V.str:=by
    unfold cutV
    cases z.2 with
    | nil=>rfl
    | cons y r=>
     have e1:HT.sIx ((z.1::y::r).map V.str).length 0 (some 1)=1:=by
      rw [show ((1:Int))=((1:Nat):Int) from rfl,HT.sIx_nat,A8,G5,G5];lia
     have e2:HT.sIx ((z.1::y::r).map V.str).length ((z.1::y::r).map V.str).length (some 2)=2:=by
      rw [show ((2:Int))=((2:Nat):Int) from rfl,HT.sIx_nat,A8,G5,G5];lia
     rw [e1,e2];rfl
   rw [A6,ecut];unfold N5;rw [if_neg n1,if_pos e]
  walk_at "rd"
  by_cases hj:bV z.1
  .rw [pK hj];refine iteT (rSlR.t hT (Z5 (k:=1) (by decide) B3) fun p np=>q p _ (Same.new np) (.of ?_));rw [A6,G6,xC];unfold N5;have h3:z.1=("row" : Str)\/z.1=("marks" : Str)\/z.1=("over" : Str):=by
    rcases hj with h | h | h | h | h
    .exact .inl h
    .exact .inr (.inl h)
    .exact absurd h n1
    .exact absurd h n2
    .exact .inr (.inr h)
   rw [if_neg n1,if_neg n2,if_pos h3]
  .rw [akz hj];refine iteF fun p np=>q p _ (Same.new np) (.of ?_)
   rw [A6];unfold N5;rw [if_neg n1,if_neg n2,if_neg (fun h=>hj (by
    rcases h with h | h | h
    .exact .inl h
    .exact .inr (.inl h)
    .exact .inr (.inr (.inr (.inr h)))))]
   rfl
theorem agL:FnScope ["jobs", "piece", "job", "figures"] ["jobs", "piece", "job", "figures"] (C6 aB):=G2
abbrev lU:List Str:=["jobs", "piece", "job", "figures"]
theorem vaU:VS lU aB "jobs" 0:=vq
theorem qM:VS lU aB "piece" 1:=vq
theorem vaW:VS lU aB "job" 2:=vq
theorem vaX:VS lU aB "figures" 3:=vq
theorem agM(F:FunD K "is_clash" "is_clash" aB f fd)(T:Txt P w K mg C)(G_is_figure:FO P w K mg base 1 "is_figure" ["sign"] [] eI):FnOk P w K mg base E5 2 f fd ["jobs", "piece", "job", "figures"] xZ:=by
 refine F.ok agL ?_ ?_
 .rintro _ _ _ _ ⟨d,p,j,fg,ks,g,rfl,_⟩;rfl
 .intro cdv A outer s H vs Q E hr h;have C7:=hu_of hr;have hu:=hr.units;obtain ⟨a_AGAIN,m_AGAIN,M_AGAIN⟩:=T.x_AGAIN;refine ⟨_,QSs.out (B5 (qs_if (QW.pt (kT (G1 (q_in (K:=K) hu) (vi qM) (vi vaU)) (kR (QW.pt (qw_or (G1 (q_ne (K:=K) hu) (f9 C7 (vi vaU) (vi qM)) (vi vaW)) (kS (G1 (wU (K:=K) hu) (vi vaW) (kP m_AGAIN)))))))) (C1 (E4 qe_bl)) N0)
   (C1 (E4 (wP (vi vaX) (wO (qe_cB (q_any (calm:=true)) T.b_any wH (qa_c (X6  (U7:CompOk ["jobs", "piece", "job", "figures"] (C6 aB).names _ ["sign"] 1 []) (wT (vi qM)) (fun _ _ _ _ _=>E2 (n:=0) (show List.Nodup (["sign"]:List Str) by decide +kernel) rfl (Or.inl rfl)) (fun _ _ _ _ _=>g6) (fun _ _ _ _ _=>(D7 G_is_figure (hm hr) (qa_c (qv 0) A5)))) A5))))))),?_⟩
  obtain ⟨d,p,j,fg,ks,g,rfl,hd,hp,h1,h2,q⟩:=h;walk_at "rd";have tail:(if fg=true then y8 (dY p) 1 [] (gName 0) tYes (tCall eI [] E0 (tCons (tVar 0) tNil)) [some (V.ref d),some (V.str p),some (V.str j),some (V.bl fg)] (fun x H1=>rAnyB true [x] H1 Q) H else Q (V.bl false) H):=by
   by_cases hf:fg=true
   .rw [if_pos hf];refine compS [] rfl (fun D i ys H4=>ys=((p.cps.toList.take i).map figO).map V.bl/\Same H H4) (fun D nD=>⟨rfl,Same.new nD⟩) ?_ ?_
    .rintro D i x ys H4 nD hi hx ⟨rfl,S⟩ hD hy;walk_at "rd";refine ⟨x,rfl,hD,?_,CW.put hi hy ⟨?_,S.put nD⟩⟩
     .rw [A8,A8,K5];exact G7 (by have:p.cps.size=p.length:=rfl;lia)
     .rw [b9,hx]
      simp
    .rintro D ys H4 nD ⟨rfl,S⟩ hD hy;walk_at "rd";refine ⟨_,hD,?_⟩;have e:((p.cps.toList.take p.cps.size).map figO).any id=false:=by
      rw [List.any_eq_false];intro b hb;obtain ⟨c,hc,rfl⟩:=E1.mp hb;rw [h2 hf c (List.mem_of_mem_take hc)];decide
     rw [e];exact q H4 S
   .rw [if_neg hf];exact q H (Same.refl H)
  refine rInR.d (Z2 (k:=Sum.inr p) hd) ⟨_,rfl,?_⟩;rw [O7,bG]
  by_cases hk:p∈ks
  .obtain ⟨e1,e2⟩:=h1 hk;rw [if_pos hk];refine iteT ⟨V.str (g p),.inl ⟨_,Sum.inr p,.inl hd,rfl,by rw [O7,if_pos hk]⟩,?_⟩;walk_at "rd";rw [decide_eq_true e1];refine iteF (rInR.l (.inr (M_AGAIN _)) rfl rfl ⟨_,rfl,?_⟩);have e3:y3 (.str j) [V.str "letter",V.str "mark",V.str "over"]=true:=by
    have:=wM j gJ
    rw [decide_eq_true e2] at this;exact this
   rw [e3];exact iteF tail
  .rw [if_neg hk];exact iteF tail
theorem sc_jobs_of:FnScope ["rules", "figures", "jobs", "rule", "piece"] ["rules"] (C6 Z6):=G2
abbrev iC:List Str:=["rules", "figures", "jobs", "rule", "piece"]
theorem qN:VS iC Z6 "rules" 0:=vq
theorem vaZ:VS iC Z6 "figures" 1:=vq
theorem lV:VS iC Z6 "jobs" 2:=vq
theorem qO:VS iC Z6 "rule" 3:=vq
theorem va2:VS iC Z6 "piece" 4:=vq
theorem va3:LS Z6 "figures":=lq
theorem va4:LS Z6 "jobs":=lq
theorem va5:LS Z6 "rule":=lq
theorem va6:LS Z6 "piece":=lq
theorem ah3(F:FunD K "jobs_of" "jobs_of" Z6 f fd)(T:Txt P w K mg C)(G_has_rule:FO P w K mg base 1 "has_rule" ["rules", "word"] [] (spHas K))(G_pieces_told:FO P w K mg base 1 "pieces_told" ["rule"] [] (xY K))(G_is_clash:FO P w K mg base 2 "is_clash" ["jobs", "piece", "job", "figures"] [] xZ):FnOk P w K mg base E5 3 f fd ["rules"] (yA K):=by
 refine F.ok sc_jobs_of ?_ ?_
 .rintro _ _ _ _ ⟨a,ts,R,g,rfl,_⟩;rfl
 .intro cdv A outer s H vs Q E hr h;have C7:=hu_of hr;have hu:=hr.units;obtain ⟨a_JOBS,m_JOBS,M_JOBS⟩:=T.x_JOBS;refine ⟨_,QSs.out (B5 (E9 (n:=1) sc_jobs_of.nd rfl va3 (D7 G_has_rule (hm hr) (qa_c (vi qN) (qa_c M3 A5))))
   (B5 (E9 (n:=2) sc_jobs_of.nd rfl va4 dZ)
   (B5 (N9 PassesOwn.never (O0 (K:=K) (vi qN)) (E2 (n:=3) sc_jobs_of.nd rfl va5 (.inl rfl)) (C1 (N9 PassesOwn.never (bT (K:=K) (D7 G_pieces_told (hm hr) (qa_c (vi qO) A5))) (E2 (n:=4) sc_jobs_of.nd rfl va6 (.inl rfl)) (B5 (qs_if (g0 (K:=K) (D7 G_is_clash (hm hr) (qa_c (vi lV) (qa_c (vi va2) (qa_c (wX M_JOBS (kP m_JOBS) (qe_ix (K:=K) (vi qO) A7)) (qa_c (vi vaZ) A5)))))) (C1 kU) N0)
   (C1 (q5 C7 (vi lV) (vi va2) (wX M_JOBS (kP m_JOBS) (qe_ix (K:=K) (vi qO) A7))))))))
   (B5 (qs_if (g0 (K:=K) (D7 G_has_rule (hm hr) (qa_c (vi qN) (qa_c M3 A5)))) (C1 (q5 C7 (vi lV) M3 M3)) N0)
   (C1 (E4 (vi lV))))))),?_⟩
  obtain ⟨a,ts,R,g,rfl,hR,hl,T4,hnc,hbl,q⟩:=h;walk_at "rd";refine ⟨a,ts,R, "figures",rfl,hR,hl,fun H1 S1=>?_⟩;generalize hasW R "figures"=fg at hnc;intro d nd;have mS:H d=none:=S1.free nd;have S2:Same H (A0 H1 d (.dK [])):=fun b o h=>D0 (S1 b o h) nd
  refine ⟨⟨_,.of (S2 _ _ hR.top)⟩,forL (xs:=ts.map V.ref) (fun i O H2=>∃ (u v:Option V),O=[some (.ref a),some (.bl fg),some (.ref d),u,v]/\Same H H2/\H2 d=some (.dK (C4 (keysP (D1 (R.take i))) fun t=>.str (g t))))
   ⟨none,none,rfl,S2,by rw [A6];rfl⟩ (by rintro i O H2 _ ⟨_,_,_,S,_⟩;exact .of (S _ _ hR.top)) ?_ ?_⟩
  .rintro i x O H2 hx ⟨u,v,rfl,S,hd⟩;obtain ⟨t,ht,rfl⟩:=G8 hx;obtain ⟨z,hz,D6⟩:=Paired.at hR.row ht;walk_at "rd";refine ⟨t,z,rfl,S _ _ D6,fun p H3 S3 hp=>⟨p,rfl,⟨_,hp⟩,forT (xs:=(N5 z).map V.str) (fun j O H4=>∃ (v:Option V),O=[some (.ref a),some (.bl fg),some (.ref d),some (.ref t),v]/\C9 K H4 p ((N5 z).map V.str)/\Same H H4/\H4 d=some (.dK (C4 (keysP (D1 (R.take i)++((N5 z).take j).map fun p=>(p,jobD z.1))) fun t=>.str (g t))))
    ⟨v,rfl,hp,S.trans S3,by rw [o7,List.map_nil,M0];exact S3 _ _ hd⟩ (by rintro j O H4 _ ⟨_,_,h,_⟩;exact h) ?_ ?_⟩⟩
   .rintro j x O H4 fI ⟨v,rfl,jE,S4,W8⟩;obtain ⟨pc,tE,rfl⟩:=G8 fI;obtain ⟨e1,e2⟩:=aod hz tE;obtain ⟨n1,n2,n3,n4⟩:=hnc _ _ _ e1;rw [e2] at n2;have hw:=gK (N7 tE);have T8:C9 K H4 t ((z.1::z.2).map V.str):=.of (S4 _ _ D6);have aR:(keysP (D1 (R.take i)++((N5 z).take j).map fun p=>(p,jobD z.1))).length<=10000:=by
     have h1:=pJ (D1 (R.take i)++((N5 z).take j).map fun p=>(p,jobD z.1));have h2:=congrArg W0 e2;rw [K5] at h2;lia
    walk_at "rd";refine ⟨_,.inr T8,V.str z.1,Q3 _ _,Sum.inr z.1,rfl,V.str (jobD z.1),pK hw,d,pc,jobD z.1,fg,_,g,rfl,W8,n4,fun hk=>⟨n1.symm,n2 ((lC _ _).mp hk)⟩,n3,fun H5 S5=>⟨false,rfl,iteF ⟨_,.inr (T8.same S5),V.str z.1,Q3 _ _,Sum.inr z.1,rfl,V.str (jobD z.1),pK hw,_,y7 (k:=Sum.inr pc) (S5 _ _ W8) (by rw [g8];exact G7 (by lia)),(jE.same S5).dput (S5 _ _ W8),(S4.trans S5).put mS,?_⟩⟩⟩;rw [A6,L7 tE,D9,<- X2];rw [show ([pc].map fun p=>(p,jobD z.1))=[(pc,jobD z.1)] from rfl,ahK];unfold dd
    by_cases L4:pc∈keysP (D1 (R.take i)++((N5 z).take j).map fun p=>(p,jobD z.1))
    .rw [if_pos L4,lA _ L4];refine congrArg (fun x=>some (HO.dK x)) (T0 fun t _=>?_)
     by_cases e:t=pc
     .rw [if_pos e,e,n1]
     .rw [if_neg e]
    .rw [if_neg L4,bU _ L4];refine congrArg (fun x=>some (HO.dK x)) (T0 fun t _=>?_)
     by_cases e:t=pc
     .rw [if_pos e,e,n1]
     .rw [if_neg e]
   .rintro O H4 ⟨v,rfl,jE,S4,W8⟩;walk_at "rd";refine ⟨S4,?_⟩;rw [xV hz];rw [A8,K4] at W8;exact W8
  .rintro O H2 ⟨u,v,rfl,S,hd⟩;rw [A8,hR.len,K4] at hd;walk_at "rd";refine ⟨a,ts,R, "blanks",rfl,hR.same S,hl,fun H3 S3=>⟨hasW R "blanks",rfl,?_⟩⟩;have V7:=S3 _ _ hd;have hkn:(" " : Str)∉keysP (D1 R):=fun h=>hbl ((lC _ _).mp h)
   have aR:=pJ (D1 R);have hg:∀ t∈keysP (D1 R),V.str (g t)=jobG g t:=fun t ht=>by
    unfold jobG;rw [if_neg (fun e=>hkn (by rw [<- e];exact ht))]
   by_cases hb:hasW R "blanks"=true
   .rw [hb];refine iteT ⟨_,y7 (k:=Sum.inr (" " : Str)) V7 (by rw [g8];exact G7 (by lia)),q d _ mS ((S.trans S3).put mS) ?_⟩;rw [A6,bU _ hkn];unfold V5;rw [if_pos hb];refine congrArg (fun x=>some (HO.dK x)) (T0 fun t ht=>?_);unfold jobG
    by_cases e:t=(" " : Str)
    .simp only [if_pos e]
    .simp only [if_neg e]
   .rw [fU] at hb;rw [hb];refine iteF (q d _ mS (S.trans S3) ?_);unfold V5;rw [hb,if_neg K6,M0,V7];exact congrArg (fun x=>some (HO.dK x)) (T0 hg)
theorem sc_misused:FnScope ["rule", "jobs", "first"] ["rule", "jobs"] (C6 q9):=G2
abbrev af9:List Str:=["rule", "jobs", "first"]
theorem iD:VS af9 q9 "rule" 0:=vq
theorem va8:VS af9 q9 "first" 2:=vq
theorem va9:LS q9 "first":=lq
theorem ah4(F:FunD K "misused" "misused" q9 f fd)(T:Txt P w K mg C):FnOk P w K mg base E5 1 f fd ["rule", "jobs"] (yO K):=by
 refine F.ok sc_misused ?_ ?_
 .rintro _ _ _ _ ⟨t,d,z,ks,g,rfl,_⟩;rfl
 .intro cdv A outer s H vs Q E hr h;have C7:=hu_of hr;have hu:=hr.units;refine ⟨_,QSs.out (B5 (qs_if (G1 (q_eq (K:=K) hu) (qe_ix (K:=K) (vi iD) A7) M3) (C1 (E4 (X6  (U7:CompOk ["rule", "jobs", "first"] (C6 q9).names _ ["piece", "jobs"] 1 [1]) (bT (K:=K) (P1 (K:=K) (vi iD) (M7 A7) (M7 A7))) (fun _ _ _ _ _=>E2 (n:=0) (show List.Nodup (["piece", "jobs"]:List Str) by decide +kernel) rfl (Or.inl rfl)) (fun _ _ _ _ _=>(gG (G1 (q_ne (K:=K) hu) (lB C7 (qv 1) (qv 0)) M3))) (fun _ _ _ _ _=>(qv 0))))) N0)
   (B5 (qs_if (G1 (q_eq (K:=K) hu) (qe_ix (K:=K) (vi iD) A7) M3) (B5 (oV (n:=2) sc_misused.nd rfl va9 (U7:CompOk ["rule", "jobs", "first"] (C6 q9).names _ ["piece", "jobs"] 1 [1]) (bT (K:=K) (P1 (K:=K) (vi iD) (M7 A7) (M7 A7))) (fun _ _ _ _ _=>E2 (n:=0) (show List.Nodup (["piece", "jobs"]:List Str) by decide +kernel) rfl (Or.inl rfl)) (fun _ _ _ _ _=>(gG (G1 (q_ne (K:=K) hu) (lB C7 (qv 1) (qv 0)) M3))) (fun _ _ _ _ _=>(qv 0)))
   (C1 (E4 (qe_op (q_add (K:=K)) (vi va8) (X6  (U7:CompOk ["rule", "jobs", "first"] (C6 q9).names _ ["piece", "jobs"] 1 [1]) (bT (K:=K) (P1 (K:=K) (vi iD) (M7 A7) V4)) (fun _ _ _ _ _=>E2 (n:=0) (show List.Nodup (["piece", "jobs"]:List Str) by decide +kernel) rfl (Or.inl rfl)) (fun _ _ _ _ _=>(gG (G1 (wU (K:=K) hu) (lB C7 (qv 1) (qv 0)) (P0 (qa_c M3 (qa_c M3 A5)))))) (fun _ _ _ _ _=>(qv 0))))))) N0)
   (C1 (E4 (M4 A5))))),?_⟩
  obtain ⟨t,d,z,ks,g,rfl,ht,hd,us,hl,q⟩:=h;have hT:C9 K H t ((z.1::z.2).map V.str):=.of ht;walk_at "rd";refine ⟨_,.inr hT,V.str z.1,Q3 _ _,?_⟩;walk_at "rd"
  by_cases h1:z.1=("great" : Str)
  .rw [decide_eq_true h1];have B3:1<=((z.1::z.2).map V.str).length:=by rw [A8,G5];lia
   refine iteT (rSlR.t hT (Z5 (k:=1) (by decide) B3) fun s ns=>?_);have ecut:cutV ((z.1::z.2).map V.str) (some 1) (some 2)=(z.2.take 1).map V.str:=by
    rw [show cutV ((z.1::z.2).map V.str) (some 1) (some 2)=_ from pR ((z.1::z.2).map V.str) (i:=1) (j:=2) (by decide),G6,List.drop_succ_cons,List.drop_zero,<- List.map_take]
   rw [ecut];have S1:Same H (A0 H s (.tup ((z.2.take 1).map V.str))):=Same.new ns;have hs:A0 H s (.tup ((z.2.take 1).map V.str)) s=some (.tup ((z.2.take 1).map V.str)):=A6;generalize A0 H s (.tup ((z.2.take 1).map V.str))=H1 at S1 hs;refine ⟨s,rfl,⟨_,.of hs⟩,compT (xs:=(z.2.take 1).map V.str) [some (.ref d)] rfl (fun D i ys H2=>ys=[]/\Same H1 H2) (fun D nD=>⟨rfl,Same.new nD⟩) (by rintro D i ys H2 nD _ ⟨_,S⟩;exact .of (S _ _ hs)) ?_ ?_⟩
   .rintro D i y ys H2 nD hi hy ⟨rfl,S⟩ hD Q0;obtain ⟨p,hp,rfl⟩:=G8 hy;obtain ⟨m1,m2⟩:=us.gr h1 p (N7 hp);have X9:=S _ _ (S1 _ _ hd);walk_at "rd";refine ⟨.inl ⟨_,.inl X9⟩,_,Z2 (k:=Sum.inr p) X9,?_⟩;rw [O7,if_pos m1,Option.getD_some,m2];refine ⟨_,rfl,?_⟩;rw [show ∀ v:Str,(!decide (v=v))=false by intro v;simp];exact iteF ⟨hD,hi,G3 _,⟨_,rfl⟩,rfl,S⟩
   .rintro D ys H2 nD ⟨rfl,S⟩ hD Q0;exact q D H2 (S1.free nD) (S1.trans S) hD
  rw [decide_eq_false h1];refine iteF ⟨_,.inr hT,V.str z.1,Q3 _ _,?_⟩;walk_at "rd"
  by_cases h2:z.1=("as" : Str)
  .rw [decide_eq_true h2];have B3:1<=((z.1::z.2).map V.str).length:=by rw [A8,G5];lia
   refine iteT (rSlR.t hT (Z5 (k:=2) (by decide) B3) fun s ns=>?_);have ecut:cutV ((z.1::z.2).map V.str) (some 2) (some 3)=((z.2.drop 1).take 1).map V.str:=by
    rw [show cutV ((z.1::z.2).map V.str) (some 2) (some 3)=_ from pR ((z.1::z.2).map V.str) (i:=2) (j:=3) (by decide),G6,List.drop_succ_cons,<- List.map_drop,<- List.map_take]
   rw [ecut];have S1:Same H (A0 H s (.tup (((z.2.drop 1).take 1).map V.str))):=Same.new ns;have hs:A0 H s (.tup (((z.2.drop 1).take 1).map V.str)) s=some (.tup (((z.2.drop 1).take 1).map V.str)):=A6;generalize A0 H s (.tup (((z.2.drop 1).take 1).map V.str))=H1 at S1 hs;refine ⟨s,rfl,⟨_,.of hs⟩,compT (xs:=((z.2.drop 1).take 1).map V.str) [some (.ref d)] rfl (fun D i ys H2=>ys=[]/\Same H1 H2) (fun D nD=>⟨rfl,Same.new nD⟩) (by rintro D i ys H2 nD _ ⟨_,S⟩;exact .of (S _ _ hs)) ?_ ?_⟩
   .rintro D i y ys H2 nD hi hy ⟨rfl,S⟩ hD Q0;obtain ⟨p,hp,rfl⟩:=G8 hy;obtain ⟨m1,m2⟩:=us.a1 h2 p (N7 hp);have X9:=S _ _ (S1 _ _ hd);walk_at "rd";refine ⟨.inl ⟨_,.inl X9⟩,_,Z2 (k:=Sum.inr p) X9,?_⟩;rw [O7,if_pos m1,Option.getD_some,m2];refine ⟨_,rfl,?_⟩;rw [show ∀ v:Str,(!decide (v=v))=false by intro v;simp];exact iteF ⟨hD,hi,G3 _,⟨_,rfl⟩,rfl,S⟩
   rintro D ys H2 nD ⟨rfl,S⟩ hD Q0;have S2:=S1.trans S;have hT2:C9 K H2 t ((z.1::z.2).map V.str):=.of (S2 _ _ ht);refine rSlR.t hT2 (Z5 (k:=3) (by decide) B3) fun s2 tF=>?_
   have ecut2:cutV ((z.1::z.2).map V.str) (some 3) none=(z.2.drop 2).map V.str:=by
    rw [show cutV ((z.1::z.2).map V.str) (some 3) none=_ from m3 ((z.1::z.2).map V.str) 3,G6,List.drop_succ_cons,<- List.map_drop]
   rw [ecut2];have S3:Same H2 (A0 H2 s2 (.tup ((z.2.drop 2).map V.str))):=Same.new tF;have aN:A0 H2 s2 (.tup ((z.2.drop 2).map V.str)) s2=some (.tup ((z.2.drop 2).map V.str)):=A6;generalize A0 H2 s2 (.tup ((z.2.drop 2).map V.str))=H3 at S3 aN;refine ⟨s2,rfl,⟨_,.of aN⟩,compT (xs:=(z.2.drop 2).map V.str) [some (.ref d)] rfl (fun D i ys H4=>ys=[]/\Same H3 H4) (fun D nD=>⟨rfl,Same.new nD⟩) (by rintro D i ys H4 nD _ ⟨_,S⟩;exact .of (S _ _ aN)) ?_ ?_⟩
   .rintro D2 i y ys H4 nD2 hi hy ⟨rfl,S4⟩ hD2 tG;obtain ⟨p,hp,rfl⟩:=G8 hy;obtain ⟨m1,m2⟩:=us.a2 h2 p (N7 hp);have W8:=S4 _ _ (S3 _ _ (S2 _ _ hd));walk_at "rd";refine ⟨.inl ⟨_,.inl W8⟩,_,Z2 (k:=Sum.inr p) W8,?_⟩;rw [O7,if_pos m1,Option.getD_some];refine ⟨by decide,fun v nv=>?_⟩;have fin:y3 (g p) [V.str (Str.ofString "letter"),V.str (Str.ofString "mark")]=true/\flatV (g p)=true:=by
     rcases m2 with m2 | m2 <;> rw [m2] <;> exact ⟨by decide +kernel,rfl⟩
    refine rInR.l (.inr (.of A6)) fin.2 rfl ?_;rw [fin.1,Bool.true_xor];exact ⟨_,rfl,iteF ⟨D0 hD2 nv,hi,G3 _,⟨_,rfl⟩,rfl,S4.trans (Same.new nv)⟩⟩
   rintro D2 ys H4 nD2 ⟨rfl,S4⟩ hD2 tG;have hD4:=S4 _ _ (S3 _ _ hD);refine rAddR.l hD4 hD2 (by decide) fun l nl=>?_
   exact q l _ ((S2.trans (S3.trans S4)).free nl) ((S2.trans (S3.trans S4)).trans (Same.new nl)) A6
  rw [decide_eq_false h2];exact iteF fun p np=>q p _ np (Same.new np) A6
theorem sc_check_letters:FnScope ["rules", "jobs", "rule", "wrong"] ["rules", "jobs"] (C6 r0):=G2
abbrev lW:List Str:=["rules", "jobs", "rule", "wrong"]
theorem vba:VS lW r0 "rules" 0:=vq
theorem vbb:VS lW r0 "jobs" 1:=vq
theorem vbc:VS lW r0 "rule" 2:=vq
theorem vbd:VS lW r0 "wrong" 3:=vq
theorem vbe:LS r0 "rule":=lq
theorem vbf:LS r0 "wrong":=lq
theorem ads(F:FunD K "check_letters" "check_letters" r0 f fd)(T:Txt P w K mg C)(G_misused:FO P w K mg base 1 "misused" ["rule", "jobs"] [] (yO K)):FnOk P w K mg base E5 2 f fd ["rules", "jobs"] (yP K):=by
 refine F.ok sc_check_letters ?_ ?_
 .rintro _ _ _ _ ⟨a,d,ts,R,ks,g,rfl,_⟩;rfl
 .intro cdv A outer s H vs Q E hr h;have C7:=hu_of hr;have hu:=hr.units;refine ⟨_,QSs.out (C1 (N9 PassesOwn.never (O0 (K:=K) (vi vba)) (E2 (n:=2) sc_check_letters.nd rfl vbe (.inl rfl)) (B5 (E9 (n:=3) sc_check_letters.nd rfl vbf (D7 G_misused (hm hr) (qa_c (vi vbc) (qa_c (vi vbb) A5))))
   (C1 (qs_if (g0 (K:=K) (vi vbd)) (C1 kU) N0))))),?_⟩
  obtain ⟨a,d,ts,R,ks,g,rfl,hR,hd,hw,q⟩:=h;walk_at "rd";refine ⟨⟨_,.of hR.top⟩,forL (xs:=ts.map V.ref) (fun i O H2=>∃ (u v:Option V),O=[some (.ref a),some (.ref d),u,v]/\Same H H2) ⟨none,none,rfl,Same.refl H⟩ (by rintro i O H2 _ ⟨_,_,_,S⟩;exact .of (S _ _ hR.top)) ?_ ?_⟩
  .rintro i x O H2 hx ⟨u,v,rfl,S⟩;obtain ⟨t,ht,rfl⟩:=G8 hx;obtain ⟨z,hz,D6⟩:=Paired.at hR.row ht;obtain ⟨n1,n2⟩:=hw z (N7 hz);walk_at "rd";refine ⟨t,d,z,ks,g,rfl,S _ _ D6,S _ _ hd,n1,n2,fun p H3 np S3 hp=>⟨_,oY hp,iteF (S.trans S3)⟩⟩
  .rintro O H2 ⟨u,v,rfl,S⟩;exact q H2 S
theorem ah5:FnScope ["rules", "word"] ["rules", "word"] (C6 gW):=G2
abbrev ajw:List Str:=["rules", "word"]
theorem vbg:VS ajw gW "rules" 0:=vq
theorem ah6(F:FunD K "line_of" "line_of" gW f fd)(T:Txt P w K mg C)(G_lined_up:FO P w K mg base 3 "lined_up" ["rows"] [] xT):FnOk P w K mg base E5 4 f fd ["rules", "word"] (yE K):=by
 refine F.ok ah5 ?_ ?_
 .rintro _ _ _ _ ⟨a,ts,R,w,rank,rfl,_⟩;rfl
 .intro cdv A outer s H vs Q E hr h;have C7:=hu_of hr;have hu:=hr.units;refine ⟨_,QSs.out (C1 (E4 (D7 G_lined_up (hm hr) (qa_c (X6  (U7:CompOk ["rules", "word"] (C6 gW).names _ ["rule", "word"] 1 [1]) (O0 (K:=K) (vi vbg)) (fun _ _ _ _ _=>E2 (n:=0) (show List.Nodup (["rule", "word"]:List Str) by decide +kernel) rfl (Or.inl rfl)) (fun _ _ _ _ _=>(gG (G1 (q_eq (K:=K) hu) (qe_ix (K:=K) (qv 0) A7) (qv 1)))) (fun _ _ _ _ _=>(qe_cT (z0 (K:=K) (calm:=true)) T.b_list q0 (qa_c (P1 (K:=K) (qv 0) (M7 A7) V4) A5)))) A5)))),?_⟩;obtain ⟨a,ts,R,w,rank,rfl,hR,hl,j1,j0,q⟩:=h;walk_at "rd";refine ⟨⟨_,.of hR.top⟩,compL (xs:=ts.map V.ref) [some (.str w)] rfl (fun D i ys H4=>∃ qs:List Addr,ys=qs.map V.ref/\RowsAt H H4 D qs (rowsW (R.take i) w)) (fun D nD=>⟨[],rfl,⟨⟨A6,.nil⟩,by simp,fun r hr=>by rw [E6.mp hr];exact nD,Same.new nD⟩⟩)
   (by rintro D i ys H4 nD _ ⟨qs,_,RA⟩;exact .of (RA.same _ _ hR.top)) ?_ ?_⟩
  .rintro D i x ys H4 nD hi hx ⟨qs,rfl,RA⟩ hD hy;obtain ⟨t,ht,rfl⟩:=G8 hx;obtain ⟨z,hz,D6⟩:=Paired.at hR.row ht;have jB:i<R.length:=(K0.mp hz).1;have T8:C9 K H4 t ((z.1::z.2).map V.str):=.of (RA.same _ _ D6);have B3:1<=((z.1::z.2).map V.str).length:=by rw [A8,G5];lia
   walk_at "rd";refine ⟨_,.inr T8,V.str z.1,Q3 _ _,?_⟩;walk_at "rd";refine iteD (fun e=>rSlR.t T8 (Z5 (k:=1) (by decide) B3) fun p np=>?_) fun e=>⟨hD,wK hi hy ⟨qs,rfl,?_⟩⟩
   .rw [G6,xC];walk_at "rd";refine rListR.l (.inr (.of A6)) fun p2 tH=>⟨D0 (D0 hD np) tH,?_,CW.put hi hy ⟨qs++[p2],by rw [D9];rfl,?_⟩⟩
    .rw [A8] at hy;rw [A8];exact G7 (by lia)
    .rw [xX hz,if_pos e];have n2:H4 p2=none:=(Same.new np).free tH;exact RA.grow (fun b o h=>D0 (D0 h np) tH) n2 A6
   .rw [xX hz,if_neg e];exact RA
  rintro D ys H4 nD ⟨qs,rfl,RA⟩ hD hy;rw [A8,hR.len,K4] at RA;refine ⟨D,qs,rowsW R w,rank,rfl,RA.rows,j1,j0,fun l line H5 nl S5 tI run cov=>?_⟩;exact q l line H5 (RA.same.free nl) (RA.same.trans S5) tI run cov
theorem sc_forms_of:FnScope ["rules", "forms", "rule"] ["rules"] (C6 aD):=G2
abbrev qP:List Str:=["rules", "forms", "rule"]
theorem vbh:VS qP aD "rules" 0:=vq
theorem vbi:VS qP aD "forms" 1:=vq
theorem qQ:VS qP aD "rule" 2:=vq
theorem vbk:LS aD "forms":=lq
theorem vbl:LS aD "rule":=lq
theorem agN(F:FunD K "forms_of" "forms_of" aD f fd)(T:Txt P w K mg C):FnOk P w K mg base E5 1 f fd ["rules"] (yN K):=by
 refine F.ok sc_forms_of ?_ ?_
 .rintro _ _ _ _ ⟨a,ts,R,rfl,_⟩;rfl
 .intro cdv A outer s H vs Q E hr h;have C7:=hu_of hr;have hu:=hr.units;refine ⟨_,QSs.out (B5 (E9 (n:=1) sc_forms_of.nd rfl vbk dZ)
   (B5 (N9 PassesOwn.never (O0 (K:=K) (vi vbh)) (E2 (n:=2) sc_forms_of.nd rfl vbl (.inl rfl)) (C1 (qs_if (G1 (q_eq (K:=K) hu) (qe_ix (K:=K) (vi qQ) A7) M3) (C1 (N4 (qe_mB (K:=K) O5 jV jU (ai4 (K:=K)) (akp (vi vbi) (qe_ix (K:=K) (vi qQ) A7) (M4 A5)) (qa_c (P1 (K:=K) (vi qQ) (M7 A7) V4) A5)))) N0)))
   (C1 (E4 (vi vbi))))),?_⟩
  obtain ⟨a,ts,R,rfl,hR,hg,hl,hf,q⟩:=h;walk_at "rd";intro d nd;refine ⟨⟨_,.of (D0 hR.top nd)⟩,forL (xs:=ts.map V.ref) (fun i O H2=>∃ (u:Option V) (ad:Str->Addr),O=[some (.ref a),some (.ref d),u]/\Same H H2/\H2 d=some (.dK (C4 (D5 (R.take i)) fun y=>.ref (ad y)))/\DL (A0 H d (.dK [])) H2 (D5 (R.take i)) ad (E7 (R.take i))) ⟨none,fun _=>d,rfl,Same.new nd,A6,⟨by simp [D5,K3,G0],by simp [D5,K3,G0],by simp [D5,K3,G0]⟩⟩ (by rintro i O H2 _ ⟨_,_,_,S,_⟩;exact .of (S _ _ hR.top)) ?_ ?_⟩
  .rintro i x O H2 hx ⟨u,ad,rfl,S,hd,dl⟩;obtain ⟨t,ht,rfl⟩:=G8 hx;obtain ⟨z,hz,D6⟩:=Paired.at hR.row ht;have hT:C9 K H2 t ((z.1::z.2).map V.str):=.of (S _ _ D6);walk_at "rd";refine ⟨_,.inr hT,V.str z.1,Q3 _ _,?_⟩;walk_at "rd"
   by_cases fJ:z.1=("great" : Str)
   .rw [decide_eq_true fJ];refine iteT ?_;obtain ⟨w,ps⟩:=z;obtain rfl:w=("great" : Str):=fJ;obtain ⟨y,fs,rfl⟩:∃ y fs,ps=y::fs:=by
     cases ps with
     | nil=>exact absurd rfl (hg _ (N7 hz) rfl)
     | cons y fs=>exact ⟨y,fs,rfl⟩
    have etk:R.take (i+1)=R.take i++[(("great" : Str),y::fs)]:=L7 hz;have j1:(E7 (R.take i) y).length+fs.length<=10000:=by
     have:=hf (i+1) y
     rw [etk,pQ,if_pos rfl,C8] at this;exact this
    have aR:(C4 (D5 (R.take i)) fun y=>V.ref (ad y)).length<=1000:=by
     rw [g8];unfold D5;have h1:=gD ((K3 (R.take i)).map (·.1)) [];have h2:(K3 (R.take i)).length<=(R.take i).length:=List.length_filterMap_le _ _;rw [A8,V9] at h1;rw [K5] at h2;lia
    have L9:F7 (((("great" : Str),y::fs).1::(("great" : Str),y::fs).2).map V.str) 1=some (V.str y):=Q2 (j:=1) rfl;have v7:cutV (((("great" : Str),y::fs).1::(("great" : Str),y::fs).2).map V.str) (some 2) none=fs.map V.str:=m3 _ 2;refine ⟨.inl ⟨_,.inl hd⟩,_,.inr hT,V.str y,L9,fun p np=>⟨_,D0 hd np,Nat.lt_of_le_of_lt aR (by decide),Sum.inr y,rfl,fun v hv=>?_,fun hn=>?_⟩⟩
    .rw [O7] at hv
     by_cases hy:y∈D5 (R.take i)
     .rw [if_pos hy] at hv;cases hv;have aZ:=dl.row y hy;have ndy:ad y≠d:=fun e=>by have:=dl.new y hy;rw [e,A6] at this;cases this
      have nHy:H (ad y)=none:=by have:=dl.new y hy;rw [A9 ndy] at this;exact this
      have T1:Same H2 (A0 H2 p (.lst [])):=Same.new np;generalize A0 H2 p (.lst [])=H3 at T1;refine ⟨O3 (T1 _ _ aZ),rSlR.t (hT.same T1) (Z5 (k:=2) (by decide) (by simp)) fun s ns=>?_⟩;rw [v7];have T2:Same H3 (A0 H3 s (.tup (fs.map V.str))):=Same.new ns;have hs:A0 H3 s (.tup (fs.map V.str)) s=some (.tup (fs.map V.str)):=A6;generalize A0 H3 s (.tup (fs.map V.str))=H4 at T2 hs;have T:=T1.trans T2;refine ⟨ad y,s,_,_,rfl,rfl,T _ _ aZ,.of hs,by rw [A8,A8];exact Z3 (by lia),(S.trans T).put nHy,ad,?_,?_⟩
      .rw [A9 ndy.symm,T _ _ hd,etk,lF];unfold dd;rw [if_pos hy]
      .rw [etk,lF];unfold dd;rw [if_pos hy,<- D9];refine ((dl.same T).app hy (E7 (R.take i) y++fs)).congr fun x _=>?_
       rw [pQ]
       by_cases o6:x=y
       .subst o6;simp
       .simp [o6]
     .rw [if_neg hy] at hv;cases hv
    .have hy:y∉D5 (R.take i):=fun hy=>by rw [O7,if_pos hy] at hn;cases hn
     have ndp:d≠p:=fun e=>by rw [<- e,hd] at np;cases np
     have n0:A0 H d (.dK []) p=none:=by rw [A9 ndp.symm];exact S.free np
     have dl2:=dl.more hy np n0;have o5:=dl2.put (b:=d) (o:=.dK (C4 (D5 (R.take i)++[y]) fun t=>if t=y then V.ref p else V.ref (ad t))) (u:=.dK []) A6;rw [bU (V.ref p) hy];have mP:A0 (A0 H2 p (.lst [])) d (.dK (C4 (D5 (R.take i)++[y]) fun t=>if t=y then V.ref p else V.ref (ad t))) p=some (.lst []):=by rw [A9 ndp.symm,A6]
     have V7:A0 (A0 H2 p (.lst [])) d (.dK (C4 (D5 (R.take i)++[y]) fun t=>if t=y then V.ref p else V.ref (ad t))) d=some (.dK (C4 (D5 (R.take i)++[y]) fun t=>if t=y then V.ref p else V.ref (ad t))):=A6;have S3:Same H (A0 (A0 H2 p (.lst [])) d (.dK (C4 (D5 (R.take i)++[y]) fun t=>if t=y then V.ref p else V.ref (ad t)))):=(S.trans (Same.new np)).put nd;generalize A0 (A0 H2 p (.lst [])) d (.dK (C4 (D5 (R.take i)++[y]) fun t=>if t=y then V.ref p else V.ref (ad t)))=H3 at o5 mP V7 S3;have hT3:C9 K H3 t (((("great" : Str),y::fs).1::(("great" : Str),y::fs).2).map V.str):=.of (S3 _ _ D6);refine ⟨O3 mP,rSlR.t hT3 (Z5 (k:=2) (by decide) (by simp)) fun s ns=>?_⟩;rw [v7];have T2:Same H3 (A0 H3 s (.tup (fs.map V.str))):=Same.new ns;have hs:A0 H3 s (.tup (fs.map V.str)) s=some (.tup (fs.map V.str)):=A6;generalize A0 H3 s (.tup (fs.map V.str))=H4 at T2 hs;refine ⟨p,s,_,_,rfl,rfl,T2 _ _ mP,.of hs,by rw [A8];exact Z3 (by simp;lia),(S3.trans T2).put (S.free np),fun t=>if t=y then p else ad t,?_,?_⟩
     .rw [A9 ndp,T2 _ _ V7,etk,lF];unfold dd;rw [if_neg hy];refine congrArg (fun z=>some (HO.dK z)) (T0 fun x _=>?_);show (if x=y then V.ref p else V.ref (ad x))=V.ref (if x=y then p else ad x)
      by_cases o6:x=y
      .rw [if_pos o6,if_pos o6]
      .rw [if_neg o6,if_neg o6]
     .rw [etk,lF];unfold dd;rw [if_neg hy,bF]
      have:=((o5.same T2).app (z:=y) (by simp) fs).congr (G:=E7 (R.take i++[(("great" : Str),y::fs)])) fun x _=>by
       rw [pQ]
       by_cases o6:x=y
       .subst o6;have e0:E7 (R.take i) x=[]:=by
         unfold E7;rw [List.filter_eq_nil_iff.mpr fun e he=>?_]
         .rfl
         .intro h;have h:e.1=x:=by simpa using h
          refine hy ?_;unfold D5;rw [m4];exact .inr (E1.mpr ⟨e,he,h⟩)
        simp [e0]
       .simp [o6]
      rw [if_pos rfl] at this;exact this
   .rw [decide_eq_false fJ];refine iteF ⟨S,ad,?_,?_⟩
    .rw [show D5 (R.take (i+1))=D5 (R.take i) by unfold D5;rw [pO hz,lE fJ,M0]];exact hd
    .rw [show D5 (R.take (i+1))=D5 (R.take i) by unfold D5;rw [pO hz,lE fJ,M0]];refine dl.congr fun x _=>?_
     unfold E7;rw [pO hz,lE fJ,M0]
  .rintro O H2 ⟨u,ad,rfl,S,hd,dl⟩;walk_at "rd";rw [A8,hR.len,K4] at hd dl;exact q d ad H2 nd S hd (dl.old (Same.new nd))
theorem sc_steps_of:FnScope ["rules", "letters", "marks", "steps", "place", "letter", "mark", "forms", "case", "form", "rule"] ["rules", "letters", "marks"] (C6 O4):=G2
abbrev i5:List Str:=["rules", "letters", "marks", "steps", "place", "letter", "mark", "forms", "case", "form", "rule"]
theorem vbm:VS i5 O4 "rules" 0:=vq
theorem vbn:VS i5 O4 "letters" 1:=vq
theorem vbo:VS i5 O4 "marks" 2:=vq
theorem eT:VS i5 O4 "steps" 3:=vq
theorem vbq:VS i5 O4 "place" 4:=vq
theorem qR:VS i5 O4 "letter" 5:=vq
theorem vbs:VS i5 O4 "mark" 6:=vq
theorem vbt:VS i5 O4 "forms" 7:=vq
theorem vbu:VS i5 O4 "case" 8:=vq
theorem vbv:VS i5 O4 "form" 9:=vq
theorem qS:VS i5 O4 "rule" 10:=vq
theorem vbx:LS O4 "steps":=lq
theorem vby:LS O4 "place":=lq
theorem vbz:LS O4 "letter":=lq
theorem vbA:LS O4 "mark":=lq
theorem vbB:LS O4 "forms":=lq
theorem vbC:LS O4 "case":=lq
theorem vbD:LS O4 "form":=lq
theorem vbE:LS O4 "rule":=lq
theorem agO(F:FunD K "steps_of" "steps_of" O4 f fd)(T:Txt P w K mg C)(G_forms_of:FO P w K mg base 1 "forms_of" ["rules"] [] (yN K)):FnOk P w K mg base E5 2 f fd ["rules", "letters", "marks"] (yT K):=by
 refine F.ok sc_steps_of ?_ ?_
 .rintro _ _ _ _ ⟨a,b,c,ts,R,L,M,F,rfl,_⟩;rfl
 .intro cdv A outer s H vs Q E hr h;have C7:=hu_of hr;have hu:=hr.units;refine ⟨_,QSs.out (B5 (E9 (n:=3) sc_steps_of.nd rfl vbx dZ)
   (B5 (N9 PassesOwn.never (pI T.b_enumerate (qa_c (vi vbn) A5)) (bS (K:=K) (n:=2) (R6 ((E2 (n:=4) sc_steps_of.nd rfl vby (.inl rfl))) (R6 ((E2 (n:=5) sc_steps_of.nd rfl vbz (.inl rfl))) bR))) (C1 (q5 C7 (vi eT) (vi qR) (P0 (qa_c (P0 (qa_c (y9 T.g_LETTER) (qa_c (vi vbq) (qa_c A7 A5)))) A5)))))
   (B5 (N9 PassesOwn.never (pI T.b_enumerate (qa_c (vi vbo) A5)) (bS (K:=K) (n:=2) (R6 ((E2 (n:=4) sc_steps_of.nd rfl vby (.inl rfl))) (R6 ((E2 (n:=6) sc_steps_of.nd rfl vbA (.inl rfl))) bR))) (C1 (q5 C7 (vi eT) (vi vbs) (P0 (qa_c (P0 (qa_c (y9 T.g_MARK) (qa_c (vi vbq) (qa_c A7 A5)))) A5)))))
   (B5 (E9 (n:=7) sc_steps_of.nd rfl vbB (D7 G_forms_of (hm hr) (qa_c (vi vbm) A5)))
   (B5 (pB PassesOwn.never (vi vbt) (E2 (n:=5) sc_steps_of.nd rfl vbz (.inl rfl)) (C1 (N9 PassesOwn.never (akB T.b_enumerate (qa_c (f9 C7 (vi vbt) (vi qR)) A5)) (bS (K:=K) (n:=2) (R6 ((E2 (n:=8) sc_steps_of.nd rfl vbC (.inl rfl))) (R6 ((E2 (n:=9) sc_steps_of.nd rfl vbD (.inl rfl))) bR))) (C1 (q5 C7 (vi eT) (vi vbv) (P0 (qa_c (P0 (qa_c (y9 T.g_LETTER) (qa_c (qe_ix (K:=K) (qe_ix (K:=K) (f9 C7 (vi eT) (vi qR)) A7) A7) (qa_c (vi vbu) A5)))) A5)))))))
   (B5 (N9 PassesOwn.never (O0 (K:=K) (vi vbm)) (E2 (n:=10) sc_steps_of.nd rfl vbE (.inl rfl)) (C1 (qs_if (G1 (q_eq (K:=K) hu) (qe_ix (K:=K) (vi qS) A7) M3) (C1 (q5 C7 (vi eT) (qe_ix (K:=K) (vi qS) A7) (qe_cT (kW (K:=K)) T.b_tuple kL (qa_c (X6  (U7:CompOk ["rules", "letters", "marks", "steps", "place", "letter", "mark", "forms", "case", "form", "rule"] (C6 O4).names _ ["part", "steps"] 1 [3]) (bT (K:=K) (P1 (K:=K) (vi qS) (M7 A7) V4)) (fun _ _ _ _ _=>E2 (n:=0) (show List.Nodup (["part", "steps"]:List Str) by decide +kernel) rfl (Or.inl rfl)) (fun _ _ _ _ _=>g6) (fun _ _ _ _ _=>(qe_ix (K:=K) (f9 C7 (qv 1) (qv 0)) A7))) A5)))) N0)))
   (C1 (E4 (vi eT))))))))),?_⟩
  obtain ⟨a,b,c,ts,R,L,M,F,rfl,hR,md,hb,hc,T7,hRl,j1,cS,q⟩:=h;have B3:L.length+M.length+((D5 R).flatMap (E7 R)).length+(asKs R).length<=50000:=by
   unfold allKs at cS;simp only [C8] at cS;exact cS
  walk_at "rd";intro d nd;have ndR:∀ {x:Addr} {o:HO},H x=some o->x≠d:=fun h e=>by rw [e,nd] at h;cases h
  refine ⟨⟨_,D0 hb nd⟩,forE (xs:=L.map V.str) (fun i O H2=>∃ (u v w x y z r:Option V),O=[some (.ref a),some (.ref b),some (.ref c),some (.ref d),u,v,w,x,y,z,r]/\StI H H2 d (L.take i) F)
   ⟨none,none,none,none,none,none,none,rfl,Same.new nd,fun _=>d,A6,by simp [G0]⟩ (by rintro i O H2 ⟨_,_,_,_,_,_,_,_,S⟩;exact S.same _ _ hb) ?_ ?_⟩
  .rintro i x t O H2 hx ⟨u,v,w,x',y,z,r,rfl,S⟩ nt;obtain ⟨l,hl,rfl⟩:=G8 hx;have hi:i<L.length:=(K0.mp hl).1;walk_at "rd";refine ⟨_,.of A6,rfl,_,_,rfl,_,_,rfl,rfl,by decide,fun p np=>⟨by decide,fun p1 J7=>?_⟩⟩;rw [L7 hl];exact StI.put nd (((S.more (Same.new nt)).more (Same.new np)).more (Same.new J7)) (by rw [K5];lia) (by
    rw [md.lt i l hl];exact StepAt.one A6 (D0 A6 J7))
  rintro O H2 ⟨u,v,w,x',y,z,r,rfl,S⟩;rw [A8,K4] at S;walk_at "rd";refine ⟨⟨_,S.same _ _ hc⟩,forE (xs:=M.map V.str) (fun i O H2=>∃ (u v w x y z r:Option V),O=[some (.ref a),some (.ref b),some (.ref c),some (.ref d),u,v,w,x,y,z,r]/\StI H H2 d (L++M.take i) F)
   ⟨u,v,w,x',y,z,r,rfl,by rw [o7,M0];exact S⟩ (by rintro i O H2 ⟨_,_,_,_,_,_,_,_,S⟩;exact S.same _ _ hc) ?_ ?_⟩
  .clear S;rintro i x t O H2 hx ⟨u,v,w,x',y,z,r,rfl,S⟩ nt;obtain ⟨l,hl,rfl⟩:=G8 hx;have hi:i<M.length:=(K0.mp hl).1;walk_at "rd";refine ⟨_,.of A6,rfl,_,_,rfl,_,_,rfl,rfl,by decide,fun p np=>⟨by decide,fun p1 J7=>?_⟩⟩;rw [L7 hl,<- X2];exact StI.put nd (((S.more (Same.new nt)).more (Same.new np)).more (Same.new J7)) (by rw [C8,K5];lia) (by
    rw [md.mr i l hl];exact StepAt.one A6 (D0 A6 J7))
  clear S H2 u v w x' y z r;rintro O H2 ⟨u,v,w,x',y,z,r,rfl,S⟩;rw [A8,K4] at S;walk_at "rd";refine ⟨a,ts,R,rfl,hR.same S.same,fun z hz e=>md.ne z hz (.inr e),hRl,j1,fun fd af H3 nfd S3 mT dl=>?_⟩;have nf0:H fd=none:=S.same.free nfd;have nf1:fd≠d:=fun e=>by
   obtain ⟨ad,h1,_⟩:=S.made;rw [<- e,nfd] at h1;cases h1
  have S':=S.more S3;have D6:=dl.row;clear S S3 dl nfd H2;refine ⟨fd,rfl,_,mT,fun o=>forD (fun i O H4=>∃ (u v w y z r:Option V),O=[some (.ref a),some (.ref b),some (.ref c),some (.ref d),u,v,w,some (.ref fd),y,z,r]/\FoI H H4 d fd o (D5 R) af (E7 R) (L++M++((D5 R).take i).flatMap (E7 R)) F)
   ⟨u,v,w,y,z,r,rfl,⟨A6,fun y hy=>by rw [A9 (fun e=>by have:=D6 y hy;rw [e,mT] at this;cases this)];exact D6 y hy,by rw [o7,bE,M0];exact S'.frz mT nf0 nf1⟩⟩ (by rintro i O H4 ⟨_,_,_,_,_,_,_,h⟩;exact h.frz) ?_ ?_⟩
  .rintro i k v' O H4 hk ⟨u,v,w,y,z,r,rfl,J⟩;obtain ⟨l,hl,e⟩:=G8 (f:=fun t=>((Sum.inr t:C5),V.ref (af t))) hk;obtain ⟨rfl,rfl⟩:=Prod.mk.inj e;have jL:l∈D5 R:=N7 hl;have hlL:=md.gl l jL;have tD:(((D5 R).take i).flatMap (E7 R)).length+(E7 R l).length<=((D5 R).flatMap (E7 R)).length:=by
    have e:(D5 R).flatMap (E7 R)=((D5 R).take i).flatMap (E7 R)++E7 R l++((D5 R).drop (i+1)).flatMap (E7 R):=by
     have:=Y5 (i+1) (D5 R)
     rw [L7 hl] at this;rw [<- this,V8,V8,U0,bE,M0];rw [this]
    rw [e,C8,C8];lia
   walk_at "rd";refine ⟨V.ref (af l),.inl ⟨_,Sum.inr l,.inr ⟨o,J.frz⟩,rfl,by rw [O7,if_pos jL]⟩,af l,rfl,⟨_,J.rows l jL⟩,forE1 (xs:=(E7 R l).map V.str) (fun j O H5=>∃ (y z r:Option V),O=[some (.ref a),some (.ref b),some (.ref c),some (.ref d),u,some (kV (Sum.inr l)),w,some (.ref fd),y,z,r]/\FoI H H5 d fd o (D5 R) af (E7 R) (L++M++((D5 R).take i).flatMap (E7 R)++(E7 R l).take j) F) ⟨y,z,r,rfl,by rw [o7,M0];exact J⟩ (by rintro j O H5 ⟨_,_,_,_,h⟩;exact h.rows l jL) ?_ ?_⟩
   .clear J y z r;rintro j x t O H5 hx ⟨y,z,r,rfl,J⟩ nt;obtain ⟨f,hf,rfl⟩:=G8 hx;have hj:j<(E7 R l).length:=(K0.mp hf).1;have T1:Same H5 (A0 H5 t (.tup [.int ((j+1:Nat):Int),.str f])):=Same.new nt;have ht:A0 H5 t (.tup [.int ((j+1:Nat):Int),.str f]) t=some (.tup [.int ((j+1:Nat):Int),.str f]):=A6;generalize A0 H5 t (.tup [.int ((j+1:Nat):Int),.str f])=H6 at T1 ht ⊢
    have J6:=J.more T1;obtain ⟨ad,h1,h2⟩:=J6.st.made;have L4:l∈G0 [] (L++M++((D5 R).take i).flatMap (E7 R)++(E7 R l).take j):=by
     rw [m4];exact .inr (N8 _ (N8 _ (N8 _ hlL)))
    obtain ⟨tt,e1,e2⟩:=(h2 l L4).ex;rw [md.letter hlL] at e2;obtain ⟨t0,rfl,e3⟩:∃ t0,tt=[t0]/\H6 t0=some (tupT (2,(L.idxOf l:Int),0)):=by
     cases e2 with
     | cons h t=>cases t;exact ⟨_,rfl,h⟩
    walk_at "rd";refine ⟨_,.of ht,rfl,_,_,rfl,_,_,rfl,rfl,V.ref (ad l),.inl ⟨_,Sum.inr l,.inl h1,rfl,by rw [O7,if_pos L4]⟩,?_⟩;walk_at "rd";refine ⟨_,.inr (.of e1),V.ref t0,Q3 _ _,?_⟩;walk_at "rd";refine ⟨_,.inr (.of e3),V.int (L.idxOf l:Int),Q2 (j:=1) rfl,by decide,fun p np=>⟨by decide,fun p1 J7=>?_⟩⟩;rw [L7 hf,<- X2];exact FoI.put nd ((J6.more (Same.new np)).more (Same.new J7)) (by simp only [C8,K5];lia) (by
     rw [md.gr l jL j f hf];exact StepAt.one A6 (D0 A6 J7))
   .rintro O H5 ⟨y,z,r,rfl,J⟩;rw [A8,K4] at J;refine ⟨⟨_,_,_,_,_,_,rfl⟩,?_⟩;rw [L7 hl,V8,U0,bE,M0,<- X2];exact J
  rintro O H4 ⟨u,v,w,y,z,r,rfl,J⟩;rw [g8,K4] at J;have S5:=J.st.thaw (o:=.dK (C4 (D5 R) fun y=>V.ref (af y))) J.frz nf0 nf1;generalize A0 H4 fd (.dK (C4 (D5 R) fun y=>V.ref (af y)))=H5 at S5 ⊢
  clear J mT D6;walk_at "rd";refine ⟨⟨_,.of (S5.same _ _ hR.top)⟩,forL (xs:=ts.map V.ref) (fun i O H6=>∃ (r:Option V),O=[some (.ref a),some (.ref b),some (.ref c),some (.ref d),u,v,w,some (.ref fd),y,z,r]/\StI H H6 d (L++M++(D5 R).flatMap (E7 R)++asKs (R.take i)) F) ⟨r,rfl,by rw [o7];rw [show asKs []=[] from rfl,M0];exact S5⟩ (by rintro i O H6 _ ⟨_,_,S⟩;exact .of (S.same _ _ hR.top)) ?_ ?_⟩
  .clear S5 r;rintro i x O H6 hx ⟨r,rfl,S⟩;obtain ⟨t,ht,rfl⟩:=G8 hx;obtain ⟨zz,hz,D6⟩:=Paired.at hR.row ht;have mU:=N7 hz;have hT:C9 K H6 t ((zz.1::zz.2).map V.str):=.of (S.same _ _ D6);walk_at "rd";refine ⟨_,.inr hT,V.str zz.1,Q3 _ _,?_⟩;walk_at "rd"
   by_cases has:zz.1=("as" : Str)
   .rw [decide_eq_true has];refine iteT ?_;obtain ⟨w1,ps⟩:=zz;obtain rfl:w1=("as" : Str):=has;obtain ⟨p,qs,rfl⟩:∃ p qs,ps=p::qs:=by
     cases ps with
     | nil=>exact absurd rfl (md.ne _ mU (.inl rfl))
     | cons p qs=>exact ⟨p,qs,rfl⟩
    have v7:cutV (((("as" : Str),p::qs).1::(("as" : Str),p::qs).2).map V.str) (some 2) none=qs.map V.str:=m3 _ 2;have hql:qs.length<=1000:=by have:=T7 _ mU;simp only [G5] at this;lia
    have tJ:=akE (R.take i);rw [K5] at tJ;refine rSlR.t hT (Z5 (k:=2) (by decide) (by simp)) fun s ns=>?_
    rw [v7];have T1:Same H6 (A0 H6 s (.tup (qs.map V.str))):=Same.new ns;have hs:A0 H6 s (.tup (qs.map V.str)) s=some (.tup (qs.map V.str)):=A6;generalize A0 H6 s (.tup (qs.map V.str))=H7 at T1 hs;have S7:=S.more T1;have hT7:C9 K H7 t (((("as" : Str),p::qs).1::(("as" : Str),p::qs).2).map V.str):=C9.same T1 hT;clear hT S;refine ⟨s,rfl,⟨_,.of hs⟩,compT (xs:=qs.map V.str) [some (.ref d)] rfl (fun D j ys H8=>∃ bA:List Addr,ys=bA.map V.ref/\AsI H H7 H8 d (L++M++(D5 R).flatMap (E7 R)++asKs (R.take i)) F bA ((qs.take j).map fun q=>(F q).headD (0,0,0))) (fun D nD=>⟨[],rfl,S7.more (Same.new nD),.nil,Same.new nD⟩) (by rintro D j ys H8 nD _ ⟨_,_,h⟩;exact .of (h.sm _ _ hs)) ?_ ?_⟩
    .rintro D j yv ys H8 nD hi hy ⟨bA,rfl,J⟩ hD Q0;obtain ⟨qq,hq,rfl⟩:=G8 hy;have hqb:=md.pt _ mU rfl qq (N7 hq);obtain ⟨st,W4⟩:=md.base hqb;obtain ⟨ad,h1,h2⟩:=J.st.made;have L4:qq∈G0 [] (L++M++(D5 R).flatMap (E7 R)++asKs (R.take i)):=by
      rw [m4];refine .inr (N8 _ (N8 _ (F9.mpr hqb)))
     obtain ⟨tt,e1,e2⟩:=(h2 qq L4).ex;rw [W4] at e2;obtain ⟨t0,rfl,e3⟩:∃ t0,tt=[t0]/\H8 t0=some (tupT st):=by
      cases e2 with
      | cons h t=>cases t;exact ⟨_,rfl,h⟩
     walk_at "rd";refine ⟨V.ref (ad qq),.inl ⟨_,Sum.inr qq,.inl h1,rfl,by rw [O7,if_pos L4]⟩,?_⟩;walk_at "rd";have mQ:bA.length<=1000:=by
      have:=Paired.length J.pr
      rw [A8,K5] at this;lia
     refine ⟨_,.inr (.of e1),V.ref t0,Q3 _ _,hD,by rw [A8];exact G7 (by lia),CW.put hi Q0 ⟨bA++[t0],by rw [D9];rfl,?_⟩⟩;refine AsI.putL (f:=D) ⟨J.st,?_,J.sm⟩ hD (S7.same.free nD) nD;rw [L7 hq,D9];refine Paired.snoc J.pr ?_;show H8 t0=some (tupT ((F qq).headD (0,0,0)));rw [W4];exact e3
    rintro D ys H8 nD ⟨bA,rfl,J⟩ hD Q0;rw [A8,K4] at J;rw [tup_r];refine rTupR.l (.of hD) fun p1 J7=>?_
    have L9:F7 (((("as" : Str),p::qs).1::(("as" : Str),p::qs).2).map V.str) 1=some (V.str p):=Q2 (j:=1) rfl;have S8:Same H8 (A0 H8 p1 (.tup (bA.map V.ref))):=Same.new J7;refine ⟨_,.inr (C9.same (J.sm.trans S8) hT7),V.str p,L9,?_⟩;rw [yQ hz,yS,<- X2];refine StI.put nd (J.st.more S8) (by simp only [C8];lia) ?_;rw [md.as _ mU rfl p qs rfl];exact ⟨bA,A6,M9 J.pr fun t s e=>S8 _ _ e⟩
   .rw [decide_eq_false has];refine iteF ?_;rw [yQ hz,yR has,M0];exact S
  rintro O H6 ⟨r,rfl,S⟩;rw [A8,hR.len,K4] at S;walk_at "rd";exact q d H6 nd S.same S.made
theorem adh:FnScope ["self", "rules"] ["self", "rules"] (C6 aE):=G2
abbrev acp:List Str:=["self", "rules"]
theorem t7:VS acp aE "self" 0:=vq
theorem cC:VS acp aE "rules" 1:=vq
theorem adi(F:FunD K "__init__" "Order.__init__" aE f fd)(T:Txt P w K mg C)(G_has_rule:FO P w K mg base 1 "has_rule" ["rules", "word"] [] (spHas K))(G_jobs_of:FO P w K mg base 3 "jobs_of" ["rules"] [] (yA K))(G_check_letters:FO P w K mg base 2 "check_letters" ["rules", "jobs"] [] (yP K))(G_line_of:FO P w K mg base 4 "line_of" ["rules", "word"] [] (yE K))(G_steps_of:FO P w K mg base 2 "steps_of" ["rules", "letters", "marks"] [] (yT K)):FnOk P w K mg base E5 5 f fd ["self", "rules"] (pT C):=by
 refine F.ok adh ?_ ?_
 .rintro _ _ _ _ ⟨x,dx,a,ts,R,g,r1,r2,rfl,_⟩;rfl
 .intro cdv A outer s H vs Q E hr h;have C7:=hu_of hr;have hu:=hr.units;refine ⟨_,QSs.out (B5 (eA (K:=K) (vi t7) (D7 G_has_rule (hm hr) (qa_c (vi cC) (qa_c M3 A5))))
   (B5 (eA (K:=K) (vi t7) (D7 G_has_rule (hm hr) (qa_c (vi cC) (qa_c M3 A5))))
   (B5 (eA (K:=K) (vi t7) (D7 G_jobs_of (hm hr) (qa_c (vi cC) A5)))
   (B5 (N4 (D7 G_check_letters (hm hr) (qa_c (vi cC) (qa_c (g4 (K:=K) (vi t7)) A5))))
   (B5 (eA (K:=K) (vi t7) (D7 G_line_of (hm hr) (qa_c (vi cC) (qa_c M3 A5))))
   (B5 (eA (K:=K) (vi t7) (D7 G_line_of (hm hr) (qa_c (vi cC) (qa_c M3 A5))))
   (C1 (eA (K:=K) (vi t7) (D7 G_steps_of (hm hr) (qa_c (vi cC) (qa_c (g4 (K:=K) (vi t7)) (qa_c (g4 (K:=K) (vi t7)) A5)))))))))))),?_⟩
  obtain ⟨x,dx,a,ts,R,g,r1,r2,rfl,hx,hR,pl,q⟩:=h;have lp:∀ (f:Str) (y:V) (fs:List (Str×V)),(putF f y fs).length<=fs.length+1:=nU;walk_at "rd";refine ⟨a,ts,R, "figures",rfl,hR,pl.len,fun H1 S1=>⟨C,dx,[],S1 _ _ hx,T.cl,T.na_figures,by decide,?_⟩⟩;generalize hF1:putF (Str.ofString "figures") (V.bl (hasW R (Str.ofString "figures"))) []=F1;have l1:F1.length<=1:=by rw [<- hF1];exact lp _ _ _
  have B2:SameBut x H (A0 H1 x (.ins C dx F1)):=(Same.but S1).at;have tK:A0 H1 x (.ins C dx F1) x=some (.ins C dx F1):=A6;generalize A0 H1 x (.ins C dx F1)=H2 at B2 tK;have hR2:=hR.but B2 hx;refine ⟨a,ts,R, "behind",rfl,hR2,pl.len,fun H3 S3=>⟨C,dx,F1,S3 _ _ tK,T.cl,T.na_behind,by lia,?_⟩⟩;generalize hF2:putF (Str.ofString "behind") (V.bl (hasW R (Str.ofString "behind"))) F1=F2;have l2:F2.length<=2:=by rw [<- hF2];exact M8 (lp _ _ _) (by lia)
  have B4:SameBut x H2 (A0 H3 x (.ins C dx F2)):=(Same.but S3).at;have fI:A0 H3 x (.ins C dx F2) x=some (.ins C dx F2):=A6;generalize A0 H3 x (.ins C dx F2)=H4 at B4 fI;have hR4:=hR2.but B4 tK;refine ⟨a,ts,R,g,rfl,hR4,pl.len,pl.plen,pl.nc,pl.nb,fun j H5 nj S5 hj=>?_⟩;have njx:j≠x:=fun e=>by rw [e,fI] at nj;cases nj
  generalize hF3:putF (Str.ofString "jobs") (V.ref j) F2=F3;have l3:F3.length<=3:=by rw [<- hF3];exact M8 (lp _ _ _) (by lia)
  have k3:F3.lookup (Str.ofString "jobs")=some (V.ref j):=by rw [<- hF3,K7,if_pos rfl]
  refine ⟨C,dx,F2,S5 _ _ fI,T.cl,T.na_jobs,by lia,?_⟩;rw [hF3];have B6:SameBut x H4 (A0 H5 x (.ins C dx F3)):=(Same.but S5).at;have jM:A0 H5 x (.ins C dx F3) x=some (.ins C dx F3):=A6;have tL:A0 H5 x (.ins C dx F3) j=some (.dK (C4 (keysP (D1 R)++V5 R) (jobG g))):=by rw [A9 njx];exact hj
  generalize A0 H5 x (.ins C dx F3)=H6 at B6 jM tL;have hR6:=hR4.but B6 fI;refine ⟨C,dx,F3,jM,T.cl,T.na_jobs,_,k3,a,j,ts,R,_,_,rfl,hR6,tL,fun z hz=>⟨pl.used hz,pl.zl z hz⟩,fun H7 S7=>?_⟩;refine ⟨a,ts,R, "row",r1,rfl,hR6.same S7,pl.len,M8 pl.f1 (by decide),pl.a1,fun ll L H8 nll S8 fH run cov=>?_⟩;have jN:=S8 _ _ (S7 _ _ jM);have nlx:ll≠x:=fun e=>by rw [e,S7 _ _ jM] at nll;cases nll
  have llen:L.length<=10000:=by
   rw [kZ (eD _) run cov];exact M8 (gE _) pl.f1
  generalize hF4:putF (Str.ofString "letter_line") (V.ref ll) F3=F4;have l4:F4.length<=4:=by rw [<- hF4];exact M8 (lp _ _ _) (by lia)
  refine ⟨C,dx,F3,jN,T.cl,T.na_letter_line,by lia,?_⟩;rw [hF4];have B9:SameBut x H6 (A0 H8 x (.ins C dx F4)):=(Same.but (S7.trans S8)).at;have mV:A0 H8 x (.ins C dx F4) x=some (.ins C dx F4):=A6;have jO:A0 H8 x (.ins C dx F4) ll=some (.lst (L.map V.str)):=by rw [A9 nlx];exact fH
  generalize A0 H8 x (.ins C dx F4)=H9 at B9 mV jO;have hR9:=hR6.but B9 jM;refine ⟨a,ts,R, "marks",r2,rfl,hR9,pl.len,M8 pl.f2 (by decide),pl.a2,fun ml M U8 nml O1 mW run2 cov2=>?_⟩;have nmx:ml≠x:=fun e=>by rw [e,mV] at nml;cases nml
  have mlen:M.length<=10000:=by
   rw [kZ (eD _) run2 cov2];exact M8 (gE _) pl.f2
  generalize hF5:putF (Str.ofString "mark_line") (V.ref ml) F4=F5;have l5:F5.length<=5:=by rw [<- hF5];exact M8 (lp _ _ _) (by lia)
  refine ⟨C,dx,F4,O1 _ _ mV,T.cl,T.na_mark_line,by lia,?_⟩;rw [hF5];have B11:SameBut x H9 (A0 U8 x (.ins C dx F5)):=(Same.but O1).at;have Y4:A0 U8 x (.ins C dx F5) x=some (.ins C dx F5):=A6;have j4:A0 U8 x (.ins C dx F5) ml=some (.lst (M.map V.str)):=by rw [A9 nmx];exact mW
  have j5:A0 U8 x (.ins C dx F5) ll=some (.lst (L.map V.str)):=by rw [A9 nlx];exact O1 _ _ jO
  generalize A0 U8 x (.ins C dx F5)=jK at B11 Y4 j4 j5;have hR11:=hR9.but B11 mV;have kl:F5.lookup (Str.ofString "letter_line")=some (V.ref ll):=by rw [<- hF5,K7,if_neg (by decide +kernel),<- hF4,K7,if_pos rfl]
  have km:F5.lookup (Str.ofString "mark_line")=some (V.ref ml):=by rw [<- hF5,K7,if_pos rfl]
  refine ⟨C,dx,F5,Y4,T.cl,T.na_letter_line,_,kl,C,dx,F5,Y4,T.cl,T.na_mark_line,_,km,a,ll,ml,ts,R,L,M,stepF R L M,rfl,hR11,amG pl ⟨run,cov⟩ ⟨run2,cov2⟩,j5,j4,pl.zl,pl.len,ajf pl,M8 (amH pl ⟨run,cov⟩ ⟨run2,cov2⟩) (by decide),fun md v8 nmd b8 hmd=>⟨C,dx,F5,b8 _ _ Y4,T.cl,T.na_made,by lia,?_⟩⟩;have nmdx:md≠x:=fun e=>by rw [e,Y4] at nmd;cases nmd
  have B:SameBut x H (A0 v8 x (.ins C dx (putF (Str.ofString "made") (V.ref md) F5))):=((B2.trans B4).trans ((B6.trans B9).trans (B11.trans (Same.but b8)))).at;have fr:∀ {H':Hp} {y:Addr},SameBut x H H'->H' y=none->y≠x->H y=none:=fun {H' y} b n nx=>by
   cases e:H y with
   | none=>rfl
   | some o=>have:=b _ _ nx e;rw [n] at this;cases this
  have B44:=B2.trans B4;refine q j ll ml md L M _ (fr B44 nj njx) (fr ((B44.trans B6).trans (Same.but S7)) nll nlx) (fr ((B44.trans B6).trans B9) nml nmx) (fr (((B44.trans B6).trans B9).trans B11) nmd nmdx) B ⟨⟨dx,?_⟩,?_,?_,?_,hmd.mod (b8 _ _ Y4) (by intro xs e;cases e) nmdx,⟨run,cov⟩,⟨run2,cov2⟩⟩
  .rw [A6,<- hF5,<- hF4,<- hF3,<- hF2,<- hF1];rfl
  .rw [A9 njx];exact b8 _ _ (B11 _ _ njx (B9 _ _ njx tL))
  .rw [A9 nlx];exact b8 _ _ j5
  .rw [A9 nmx];exact b8 _ _ j4
theorem adt:FnScope ["self"] ["self"] (C6 bX):=G2
abbrev ad3:List Str:=["self"]
theorem vbH:VS ad3 bX "self" 0:=vq
theorem adu(F:FunD K "letters" "Order.letters" bX f fd)(T:Txt P w K mg C):FnOk P w K mg base E5 1 f fd ["self"] (zA C):=by
 refine F.ok adt ?_ ?_
 .rintro _ _ _ _ ⟨x,j,ll,ml,md,g,R,L,M,rfl,_⟩;rfl
 .intro cdv A outer s H vs Q E hr h;have C7:=hu_of hr;have hu:=hr.units;refine ⟨_,QSs.out (C1 (E4 (qe_cT (z0 (K:=K) (calm:=true)) T.b_list q0 (qa_c (g4 (K:=K) (vi vbH)) A5)))),?_⟩;obtain ⟨x,j,ll,ml,md,g,R,L,M,rfl,hO,q⟩:=h;obtain ⟨dx,h1⟩:=hO.ob;walk_at "rd";refine ⟨_,_,_,h1,T.cl,T.na_letter_line,_,afP _ _ _ _ _ _,?_⟩;walk_at "rd";exact rListR.l (.inl (.of hO.lets)) fun l nl=>q l nl
theorem aee:FnScope ["self"] ["self"] (C6 bY):=G2
abbrev afc:List Str:=["self"]
theorem vbI:VS afc bY "self" 0:=vq
theorem aef(F:FunD K "marks" "Order.marks" bY f fd)(T:Txt P w K mg C):FnOk P w K mg base E5 1 f fd ["self"] (zB C):=by
 refine F.ok aee ?_ ?_
 .rintro _ _ _ _ ⟨x,j,ll,ml,md,g,R,L,M,rfl,_⟩;rfl
 .intro cdv A outer s H vs Q E hr h;have C7:=hu_of hr;have hu:=hr.units;refine ⟨_,QSs.out (C1 (E4 (qe_cT (z0 (K:=K) (calm:=true)) T.b_list q0 (qa_c (g4 (K:=K) (vi vbI)) A5)))),?_⟩;obtain ⟨x,j,ll,ml,md,g,R,L,M,rfl,hO,q⟩:=h;obtain ⟨dx,h1⟩:=hO.ob;walk_at "rd";refine ⟨_,_,_,h1,T.cl,T.na_mark_line,_,ahL _ _ _ _ _ _,?_⟩;walk_at "rd";exact rListR.l (.inl (.of hO.mrks)) fun l nl=>q l nl
theorem aga:FnScope ["self", "piece"] ["self", "piece"] (C6 aF):=G2
abbrev ad4:List Str:=["self", "piece"]
theorem vbJ:VS ad4 aF "self" 0:=vq
theorem vbK:VS ad4 aF "piece" 1:=vq
theorem agb(F:FunD K "job" "Order.job" aF f fd)(T:Txt P w K mg C):FnOk P w K mg base E5 1 f fd ["self", "piece"] (zC C):=by
 refine F.ok aga ?_ ?_
 .rintro _ _ _ _ ⟨x,j,ll,ml,md,p,g,R,L,M,rfl,_⟩;rfl
 .intro cdv A outer s H vs Q E hr h;have C7:=hu_of hr;have hu:=hr.units;refine ⟨_,QSs.out (C1 (E4 (lB C7 (g4 (K:=K) (vi vbJ)) (vi vbK)))),?_⟩;obtain ⟨x,j,ll,ml,md,p,g,R,L,M,rfl,hO,q⟩:=h;obtain ⟨dx,h1⟩:=hO.ob;walk_at "rd";refine ⟨_,_,_,h1,T.cl,T.na_jobs,_,yC _ _ _ _ _ _,j,rfl,.inl ⟨_,.inl hO.jobs⟩,_,Z2 (k:=Sum.inr p) hO.jobs,?_⟩;rw [O7]
  by_cases hp:p∈keysP (D1 R)++V5 R
  .rw [if_pos hp] at q ⊢
   exact q
  .rw [if_neg hp] at q ⊢
   exact q
theorem sc_figures_at:FnScope ["text", "at", "end"] ["text", "at"] (C6 bZ):=G2
abbrev qT:List Str:=["text", "at", "end"]
theorem qU:VS qT bZ "text" 0:=vq
theorem vbM:VS qT bZ "at" 1:=vq
theorem qV:VS qT bZ "end" 2:=vq
theorem vbO:LS bZ "end":=lq
theorem afd(F:FunD K "figures_at" "figures_at" bZ f fd)(T:Txt P w K mg C)(G_is_figure:FO P w K mg base 1 "is_figure" ["sign"] [] eI):FnOk P w K mg base E5 2 f fd ["text", "at"] zN:=by
 refine F.ok sc_figures_at ?_ ?_
 .rintro _ _ _ _ ⟨z,pre,rest,rfl,_⟩;rfl
 .intro cdv A outer s H vs Q E hr h;have C7:=hu_of hr;have hu:=hr.units;refine ⟨_,QSs.out (B5 (E9 (n:=2) sc_figures_at.nd rfl vbO (vi vbM))
   (B5 (oU PassesOwn.never (QW.pt (kT (G1 q_lt (vi qV) (qe_cB (q_len (K:=K)) T.b_len W2 (qa_c (vi qU) A5))) (kR (g0 (K:=K) (D7 G_is_figure (hm hr) (qa_c (qe_ix (K:=K) (vi qU) (vi qV)) A5)))))) (C1 (wS (n:=2) sc_figures_at.nd rfl vbO A7 wV)))
   (C1 (E4 (P1 (K:=K) (vi qU) (M7 (vi vbM)) (M7 (vi qV))))))),?_⟩
  obtain ⟨z,pre,rest,rfl,hz,T7,q⟩:=h;walk_at "rd";have B3:z.length=pre.length+rest.length:=by
   have:=congrArg W0 T7
   simp [Str.length] at this ⊢
   lia
  have hsz:z.length<=sizeLine:=Z3 (by lia);refine oX (fun m O H2=>∃ (run left:List Nat),O=[some (.str z),some (.int pre.length),some (.int ((pre++run).length:Nat))]/\H2=H/\rest=run++left/\rest.takeWhile figO=run++left.takeWhile figO/\m=left.length) rest.length ⟨[],rest,by simp,rfl,rfl,rfl,rfl⟩ ?_;rintro m O H2 ⟨run,left,rfl,rfl,hr,tM,rfl⟩;have jP:z.cps.toList=pre++(run++left):=by rw [T7,hr]
  have tN:rest.length=run.length+left.length:=by rw [hr,C8]
  have ecut:cutS z (some (pre.length:Int)) (some (((pre++run).length:Nat):Int))=⟨run.toArray⟩:=by
   have:=pW (y:=run) (rest:=left) jP
   rw [show (((pre++run).length:Nat):Int)=(pre.length:Int)+(run.length:Int) by rw [C8];lia];exact this
  have hpr:(pre++run).length=pre.length+run.length:=C8;walk_at "rd";refine ⟨hsz,iteD (fun D3=>⟨hsz,?_⟩) fun tO=>⟨hsz,?_⟩⟩
  .cases left with
   | nil=>simp at tN;lia
   | cons c l2=>
    refine ⟨c,?_,c,rfl,figO c,rfl,?_⟩
    .rw [jP,<- X2];exact zL
    by_cases hf:figO c=true
    .rw [hf];refine iteT ⟨_,fun _ _ h=>h,l2.length,by simp,run++[c],by simp;lia,rfl,l2,by rw [hr];simp,?_,rfl⟩;rw [tM,List.takeWhile_cons_of_pos hf]
     simp
    .rw [fU] at hf;rw [hf];refine iteF ⟨hsz,?_⟩;rw [ecut];rw [tM,List.takeWhile_cons_of_neg (by simp [hf]),M0] at q;exact q
  .have iQ:left=[]:=w8.mp (by lia);rw [tM,iQ,List.takeWhile_nil,M0] at q;rw [ecut];exact q
theorem sc_part_at:FnScope ["known", "text", "at", "figures", "two"] ["known", "text", "at", "figures"] (C6 r8):=G2
abbrev iE:List Str:=["known", "text", "at", "figures", "two"]
theorem vbP:VS iE r8 "known" 0:=vq
theorem iF:VS iE r8 "text" 1:=vq
theorem eU:VS iE r8 "at" 2:=vq
theorem vbS:VS iE r8 "figures" 3:=vq
theorem vbT:VS iE r8 "two" 4:=vq
theorem vbU:LS r8 "two":=lq
theorem ah7(F:FunD K "part_at" "part_at" r8 f fd)(T:Txt P w K mg C)(G_is_figure:FO P w K mg base 1 "is_figure" ["sign"] [] eI)(G_figures_at:FO P w K mg base 2 "figures_at" ["text", "at"] [] zN):FnOk P w K mg base E5 3 f fd ["known", "text", "at", "figures"] zS:=by
 refine F.ok sc_part_at ?_ ?_
 .rintro _ _ _ _ ⟨d,z,g,pre,c,r,w,y,rfl,_⟩;rfl
 .intro cdv A outer s H vs Q E hr h;have C7:=hu_of hr;have hu:=hr.units;refine ⟨_,QSs.out (B5 (qs_if (QW.pt (kT (g0 (K:=K) (vi vbS)) (kR (g0 (K:=K) (D7 G_is_figure (hm hr) (qa_c (qe_ix (K:=K) (vi iF) (vi eU)) A5)))))) (C1 (E4 (D7 G_figures_at (hm hr) (qa_c (vi iF) (qa_c (vi eU) A5))))) N0)
   (B5 (E9 (n:=4) sc_part_at.nd rfl vbU (P1 (K:=K) (vi iF) (M7 (vi eU)) (M7 (qe_op (q_add (K:=K)) (vi eU) A7))))
   (B5 (qs_if (G1 (q_in (K:=K) hu) (vi vbT) (vi vbP)) (C1 (E4 (vi vbT))) N0)
   (B5 (qs_if (G1 (q_in (K:=K) hu) (qe_ix (K:=K) (vi iF) (vi eU)) (vi vbP)) (C1 (E4 (qe_ix (K:=K) (vi iF) (vi eU)))) N0)
   (C1 kU))))),?_⟩
  obtain ⟨d,z,g,pre,c,r,w,y,rfl,hd,hz,T7,hp,q⟩:=h;have hsz:z.length<=sizeLine:=Z3 (by lia);have ha:F7 z.cps.toList (pre.length:Int)=some c:=by rw [T7];exact zL
  rw [gO] at hp
  cases w with
  | false=>
   rw [Bool.false_and,if_neg K6] at hp;walk_at "rd"
   cases r with
   | nil=>
    rw [eO] at hp
    by_cases h1:one c∈g
    .rw [if_pos h1] at hp;obtain rfl:=Option.some.inj hp;rw [zK T7];refine ⟨hsz,rInR.d (Z2 (k:=Sum.inr (one c)) hd) ⟨_,rfl,?_⟩⟩;rw [eN,bG,decide_eq_true h1];exact iteT q
    .rw [if_neg h1] at hp;cases hp
   | cons e r=>
    rw [m7] at hp;have ec:cutS z (some (pre.length:Int)) (some ((pre.length:Int)+2))=O8 c e:=pW (y:=[c,e]) (rest:=r) T7;rw [ec];refine ⟨hsz,rInR.d (Z2 (k:=Sum.inr (O8 c e)) hd) ⟨_,rfl,?_⟩⟩;rw [eN,bG];refine iteD (fun h=>?_) fun h=>⟨hsz,c,ha,rInR.d (Z2 (k:=Sum.inr (one c)) hd) ⟨_,rfl,?_⟩⟩
    .rw [if_pos h] at hp;obtain rfl:=Option.some.inj hp;exact q
    .rw [if_neg h] at hp
     by_cases h1:one c∈g
     .rw [if_pos h1] at hp;obtain rfl:=Option.some.inj hp;rw [eN,bG,decide_eq_true h1];exact iteT ⟨hsz,c,ha,q⟩
     .rw [if_neg h1] at hp;cases hp
  | true=>
   rw [Bool.true_and] at hp;walk_at "rd";refine ⟨hsz,c,ha,c,rfl,figO c,rfl,?_⟩
   by_cases hf:figO c=true
   .rw [hf];rw [if_pos hf] at hp;obtain rfl:=Option.some.inj hp;exact iteT ⟨z,pre,c::r,rfl,hz,T7,q⟩
   rw [if_neg hf] at hp;rw [fU] at hf;rw [hf];refine iteF ?_
   cases r with
   | nil=>
    rw [eO] at hp
    by_cases h1:one c∈g
    .rw [if_pos h1] at hp;obtain rfl:=Option.some.inj hp;rw [zK T7];refine ⟨hsz,rInR.d (Z2 (k:=Sum.inr (one c)) hd) ⟨_,rfl,?_⟩⟩;rw [eN,bG,decide_eq_true h1];exact iteT q
    .rw [if_neg h1] at hp;cases hp
   | cons e r=>
    rw [m7] at hp;have ec:cutS z (some (pre.length:Int)) (some ((pre.length:Int)+2))=O8 c e:=pW (y:=[c,e]) (rest:=r) T7;rw [ec];refine ⟨hsz,rInR.d (Z2 (k:=Sum.inr (O8 c e)) hd) ⟨_,rfl,?_⟩⟩;rw [eN,bG];refine iteD (fun h=>?_) fun h=>⟨hsz,c,ha,rInR.d (Z2 (k:=Sum.inr (one c)) hd) ⟨_,rfl,?_⟩⟩
    .rw [if_pos h] at hp;obtain rfl:=Option.some.inj hp;exact q
    .rw [if_neg h] at hp
     by_cases h1:one c∈g
     .rw [if_pos h1] at hp;obtain rfl:=Option.some.inj hp;rw [eN,bG,decide_eq_true h1];exact iteT ⟨hsz,c,ha,q⟩
     .rw [if_neg h1] at hp;cases hp
theorem sc_cut:FnScope ["known", "text", "figures", "pieces", "parts", "at", "part"] ["known", "text", "figures"] (C6 s_cut):=G2
abbrev n_cut:List Str:=["known", "text", "figures", "pieces", "parts", "at", "part"]
theorem vbV:VS n_cut s_cut "known" 0:=vq
theorem vbW:VS n_cut s_cut "text" 1:=vq
theorem vbX:VS n_cut s_cut "figures" 2:=vq
theorem vbY:VS n_cut s_cut "pieces" 3:=vq
theorem vbZ:VS n_cut s_cut "parts" 4:=vq
theorem vb0:VS n_cut s_cut "at" 5:=vq
theorem vb1:VS n_cut s_cut "part" 6:=vq
theorem vb2:LS s_cut "pieces":=lq
theorem vb3:LS s_cut "parts":=lq
theorem vb4:LS s_cut "at":=lq
theorem vb5:LS s_cut "part":=lq
theorem alm(F:FunD K "cut" "cut" s_cut f fd)(T:Txt P w K mg C)(G_part_at:FO P w K mg base 3 "part_at" ["known", "text", "at", "figures"] [] zS):FnOk P w K mg base E5 4 f fd ["known", "text", "figures"] (lJ K):=by
 refine F.ok sc_cut ?_ ?_
 .rintro _ _ _ _ ⟨a,z,ks,w,rfl,_⟩;rfl
 .intro cdv A outer s H vs Q E hr h;have C7:=hu_of hr;have hu:=hr.units;refine ⟨_,QSs.out (B5 (E9 (n:=3) sc_cut.nd rfl vb2 (qe_cT (xH (K:=K) (calm:=true)) T.b_dict wI (qa_c (X6  (U7:CompOk ["known", "text", "figures", "pieces", "parts", "at", "part"] (C6 s_cut).names _ ["piece"] 1 []) (O0 (K:=K) (vi vbV)) (fun _ _ _ _ _=>E2 (n:=0) (show List.Nodup (["piece"]:List Str) by decide +kernel) rfl (Or.inl rfl)) (fun _ _ _ _ _=>g6) (fun _ _ _ _ _=>(P0 (qa_c (qv 0) (qa_c qe_bl A5))))) A5)))
   (B5 (E9 (n:=4) sc_cut.nd rfl vb3 (M4 A5))
   (B5 (E9 (n:=5) sc_cut.nd rfl vb4 A7)
   (B5 (oU PassesOwn.never (G1 q_lt (vi vb0) (qe_cB (q_len (K:=K)) T.b_len W2 (qa_c (vi vbW) A5))) (B5 (E9 (n:=6) sc_cut.nd rfl vb5 (D7 G_part_at (hm hr) (qa_c (vi vbY) (qa_c (vi vbW) (qa_c (vi vb0) (qa_c (vi vbX) A5))))))
   (B5 (N4 (qe_mB (K:=K) O5 R3 R1 R7 (vi vbZ) (qa_c (vi vb1) A5)))
   (C1 (wS (n:=5) sc_cut.nd rfl vb4 (qe_cB (q_len (K:=K)) T.b_len W2 (qa_c (vi vb1) A5)) wV)))))
   (C1 (E4 (vi vbZ))))))),?_⟩
  obtain ⟨a,z,ks,w,rfl,hS,aR,hz,hw,q⟩:=h;walk_at "rd";refine ⟨⟨_,hS⟩,compL (xs:=ks.map V.str) [] rfl (fun D i ys H4=>∃ ts:List Addr,ys=ts.map V.ref/\Paired (fun t k=>H4 t=some (.tup [V.str k,V.bl true])) ts (ks.take i)/\Same H H4) (fun D nD=>⟨[],rfl,.nil,Same.new nD⟩) (by rintro D i ys H4 nD _ ⟨_,_,_,S⟩;exact S.seq hS) ?_ ?_⟩
  .rintro D i x ys H4 nD hi hx ⟨ts,rfl,P,S⟩ hD hy;obtain ⟨k,hk,rfl⟩:=G8 hx;rw [A8] at hi;walk_at "rd";refine ⟨by decide,fun t nt=>⟨D0 hD nt,G7 (by lia),CW.put (by rw [A8];exact hi) hy ⟨ts++[t],by rw [D9];rfl,?_,Same.put (fun b o h=>D0 (S b o h) nt) nD⟩⟩⟩;have hDt:D≠t:=fun e=>by rw [e,nt] at hD;cases hD
   rw [b9,hk,Option.toList_some];refine Paired.snoc (M9 P fun r k h=>?_) (by rw [A9 hDt.symm,A6]);rw [A9 (fun e=>by rw [e,hD] at h;cases h)];exact D0 h nt
  rintro D ys H4 nD ⟨ts,rfl,P,S⟩ hD hy;rw [A8,K4] at P;have P2:Paired (fun t (kx:C5×V)=>C9 K H4 t [kV kx.1,kx.2]) ts (kvOf ks):=by
   clear hD hy nD S aR hS q hw
   induction P with
   | nil=>exact .nil
   | cons h t ih=>exact .cons (.of h) ih
  refine ⟨rfl,D,ts,kvOf ks,rfl,.of hD,P2,fun d nd=>?_⟩;rw [show U5 [] (kvOf ks)=kvOf (G0 [] ks) from zM ks []];have S1:Same H (A0 H4 d (.dK (kvOf (G0 [] ks)))):=fun b o h=>D0 (S b o h) nd
  have hd:A0 H4 d (.dK (kvOf (G0 [] ks))) d=some (.dK (kvOf (G0 [] ks))):=A6;generalize A0 H4 d (.dK (kvOf (G0 [] ks)))=H5 at S1 hd;have tP:∀ l,cutF w (G0 [] ks) l=cutF w ks l:=ahT fun x=>by rw [m4];simp
  generalize G0 [] ks=g at hd tP;refine fun p np=>oX (fun m O H6=>∃ (pre rest:List Nat) (ps:List Str) (u:Option V),O=[some (.ref a),some (.str z),some (.bl w),some (.ref d),some (.ref p),some (.int pre.length),u]/\Same H5 H6/\H6 p=some (.lst (ps.map V.str))/\z.cps.toList=pre++rest/\(cutF w g z.cps.toList).1=pre.length+(cutF w g rest).1/\(cutF w g z.cps.toList).2=ps++(cutF w g rest).2/\ps.length<=pre.length/\m=rest.length) z.cps.toList.length
   ⟨[],z.cps.toList,[],none,rfl,Same.new np,A6,rfl,by simp,rfl,G3 _,rfl⟩ ?_
  rintro m O H6 ⟨pre,rest,ps,u,rfl,S6,h6,T7,cT,o3,T4,rfl⟩;have B3:z.length=pre.length+rest.length:=by
   have:=congrArg W0 T7
   simp [Str.length] at this ⊢
   lia
  walk_at "rd";refine ⟨Z3 (by lia),iteD (fun D3=>?_) fun tO=>?_⟩
  .cases rest with
   | nil=>simp at B3;lia
   | cons c r=>
    cases hy:partF w g (c::r) with
    | none=>
     exfalso
     rw [gQ hy] at cT;have tQ:=hw;unfold aA at tQ;rw [<- tP,cT] at tQ;simp at B3 tQ;lia
    | some y=>
     refine ⟨_,fun _ _ h=>h,d,z,g,pre,c,r,w,y,rfl,S6 _ _ hd,hz,T7,hy,?_⟩;obtain ⟨rest',e1,e2,e3⟩:=eP hy;rw [e2] at cT o3;have el:y.cps.toList.length=y.length:=by simp [Str.length]
     have erl:(c::r).length=y.length+rest'.length:=by rw [e1,C8,el]
     refine ⟨O3 h6,appOk h6 (by rw [A8];exact G7 (by lia)) ?_⟩;walk_at "rd";refine ⟨Z3 (by lia),rest'.length,by rw [G5] at erl;lia,pre++y.cps.toList,by rw [C8,el];lia,S6.put np,rest',ps++[y],by rw [A6,D9];rfl,T7.trans (by rw [X2];exact congrArg (pre++·) e1),by rw [C8,el,cT];dsimp only;lia,by rw [o3,X2];rfl,by rw [C8,C8,el,T9];lia,rfl⟩
  .have hr:rest=[]:=w8.mp (by lia);rw [hr] at cT o3;refine q p H6 (S1.free np) (S1.trans S6) ?_;rw [h6,<- tP,o3];show some (HO.lst (ps.map V.str))=some (HO.lst ((ps++[]).map V.str));rw [M0]
theorem aeg:FnScope ["self"] ["self"] (C6 cA):=G2
abbrev afe:List Str:=["self"]
theorem vb6:VS afe cA "self" 0:=vq
theorem aeh(F:FunD K "known" "Order.known" cA f fd)(T:Txt P w K mg C):FnOk P w K mg base E5 1 f fd ["self"] (pX C):=by
 refine F.ok aeg ?_ ?_
 .rintro _ _ _ _ ⟨x,j,ll,ml,md,g,R,L,M,rfl,_⟩;rfl
 .intro cdv A outer s H vs Q E hr h;have C7:=hu_of hr;have hu:=hr.units;refine ⟨_,QSs.out (C1 (E4 (qe_cT (z0 (K:=K) (calm:=true)) T.b_list q0 (qa_c (g4 (K:=K) (vi vb6)) A5)))),?_⟩;obtain ⟨x,j,ll,ml,md,g,R,L,M,rfl,hO,q⟩:=h;obtain ⟨dx,h1⟩:=hO.ob;walk_at "rd";refine ⟨_,_,_,h1,T.cl,T.na_jobs,_,yC _ _ _ _ _ _,?_⟩;walk_at "rd";refine rListR.d (.of hO.jobs) fun l nl=>?_
  rw [show (C4 (keysP (D1 R)++V5 R) (jobG g)).map (fun kv=>kV kv.1)=(G9 R).map V.str by unfold C4 G9;rw [o8];rfl];exact q l nl
theorem aei:FnScope ["self", "piece"] ["self", "piece"] (C6 aG):=G2
abbrev ac6:List Str:=["self", "piece"]
theorem vb7:VS ac6 aG "self" 0:=vq
theorem vb8:VS ac6 aG "piece" 1:=vq
theorem aej(F:FunD K "steps" "Order.steps" aG f fd)(T:Txt P w K mg C):FnOk P w K mg base E5 1 f fd ["self", "piece"] (lK C):=by
 refine F.ok aei ?_ ?_
 .rintro _ _ _ _ ⟨x,j,ll,ml,md,p,g,R,L,M,rfl,_⟩;rfl
 .intro cdv A outer s H vs Q E hr h;have C7:=hu_of hr;have hu:=hr.units;refine ⟨_,QSs.out (C1 (E4 (akk C7 (g4 (K:=K) (vi vb7)) (vi vb8) (P0 A5)))),?_⟩;obtain ⟨x,j,ll,ml,md,p,g,R,L,M,rfl,hO,q⟩:=h;obtain ⟨dx,h1⟩:=hO.ob;obtain ⟨ad,a1,a2⟩:=hO.made;walk_at "rd";refine ⟨_,_,_,h1,T.cl,T.na_made,_,ajo _ _ _ _ _ _,md,rfl,.inl ⟨_,.inl a1⟩,fun e ne=>⟨_,Z2 (k:=Sum.inr p) (D0 a1 ne),?_⟩⟩;rw [O7];have S:Same H (A0 H e (.tup [])):=Same.new ne
  by_cases hp:p∈G0 [] (allKs R L M)
  .rw [if_pos hp];exact q _ _ S ((a2 p hp).same S)
  .rw [if_neg hp];refine q _ _ S ⟨[],A6,?_⟩;rw [ahU fun h=>hp ((m4 _ _ _).mpr (.inr h))];exact .nil
theorem agP:FnScope ["order", "text"] ["order", "text"] (C6 gX):=G2
abbrev aeJ:List Str:=["order", "text"]
theorem vb9:VS aeJ gX "order" 0:=vq
theorem vca:VS aeJ gX "text" 1:=vq
theorem agQ(F:FunD K "parts_of" "parts_of" gX f fd)(T:Txt P w K mg C)(G3_cut:FO P w K mg base 4 "cut" ["known", "text", "figures"] [] (lJ K))(G_Order_known:MO P w K mg base 1 C "known" ["self"] (pX C)):FnOk P w K mg base E5 5 f fd ["order", "text"] (zT C):=by
 refine F.ok agP ?_ ?_
 .rintro _ _ _ _ ⟨x,j,ll,ml,md,z,g,R,L,M,rfl,_⟩;rfl
 .intro cdv A outer s H vs Q E hr h;have C7:=hu_of hr;have hu:=hr.units;refine ⟨_,QSs.out (C1 (E4 (D7 G3_cut (hm hr) (qa_c (akx (vi vb9) G_Order_known (hm hr)) (qa_c (vi vca) (qa_c (g4 (K:=K) (vi vb9)) A5)))))),?_⟩;obtain ⟨x,j,ll,ml,md,z,g,R,L,M,rfl,hO,hk,hz,hw,q⟩:=h;obtain ⟨dx,h1⟩:=hO.ob;walk_at "rd";refine ⟨_,_,h1,yD _ _ _ _ _ _ (by decide +kernel),x,j,ll,ml,md,g,R,L,M,rfl,hO,fun l nl=>?_⟩;have S:Same H (A0 H l (.lst ((G9 R).map V.str))):=Same.new nl;exact ⟨_,_,_,S _ _ h1,T.cl,T.na_figures,_,yB _ _ _ _ _ _,l,z,G9 R,_,rfl,.of A6,hk,hz,hw,fun l2 H2 n2 S2 h2=>q l2 H2 (S.free n2) (S.trans S2) h2⟩
theorem agR:FnScope ["order", "part"] ["order", "part"] (C6 gY):=G2
abbrev aeK:List Str:=["order", "part"]
theorem vcb:VS aeK gY "order" 0:=vq
theorem qW:VS aeK gY "part" 1:=vq
theorem agS(F:FunD K "steps_by" "steps_by" gY f fd)(T:Txt P w K mg C)(G_is_figure:FO P w K mg base 1 "is_figure" ["sign"] [] eI)(G_Order_steps:MO P w K mg base 1 C "steps" ["self", "piece"] (lK C)):FnOk P w K mg base E5 2 f fd ["order", "part"] (zU C):=by
 refine F.ok agR ?_ ?_
 .rintro _ _ _ _ ⟨x,j,ll,ml,md,c,r,y,g,R,L,M,rfl,_⟩;rfl
 .intro cdv A outer s H vs Q E hr h;have C7:=hu_of hr;have hu:=hr.units;refine ⟨_,QSs.out (B5 (qs_if (QW.pt (kT (g0 (K:=K) (g4 (K:=K) (vi vcb))) (kR (g0 (K:=K) (D7 G_is_figure (hm hr) (qa_c (qe_ix (K:=K) (vi qW) A7) A5)))))) (C1 (E4 (P0 (qa_c (P0 (qa_c (y9 T.g_FIGURES) (qa_c (qe_cT zI T.b_int wJ (qa_c (vi qW) A5)) (qa_c A7 A5)))) A5)))) N0)
   (C1 (E4 (amz (vi vcb) G_Order_steps (hm hr) (qa_c (vi qW) A5))))),?_⟩
  obtain ⟨x,j,ll,ml,md,c,r,y,g,R,L,M,rfl,hy,Q0,hO,hf,q⟩:=h;obtain ⟨dx,h1⟩:=hO.ob;have tR:y.cps.toList.headD 0=c:=by rw [hy];rfl
  walk_at "rd";refine ⟨_,_,_,h1,T.cl,T.na_figures,_,yB _ _ _ _ _ _,?_⟩;walk_at "rd";have fin:stepY R L M y=stepF R L M y->∃ x_5 x_6,H x=some (HO.ins C x_5 x_6)/\x4 (Str.ofString "steps") x_6=none/\lK C [V.ref x,V.str y] H Q E0:=fun e=>⟨_,_,h1,yD _ _ _ _ _ _ (by decide +kernel),x,j,ll,ml,md,y,g,R,L,M,rfl,hO,by rw [<- e];exact q⟩
  by_cases hw:hasW R "figures"=true
  .rw [if_pos hw];refine ⟨Z3 (by lia),c,by rw [hy];exact Q3 _ _,c,rfl,?_⟩
   by_cases hc:figO c=true
   .have hsy:stepY R L M y=[(1,((fW y.cps.toList:Nat):Int),0)]:=by unfold stepY;rw [hw,tR,hc];rfl
    have hAD:=hf hw (by rw [tR];exact hc);rw [hc];walk_at "rd";refine ⟨hAD,by rw [<- lenL,hy];simp,Q0,by decide,fun p np=>⟨by decide,fun p1 J7=>?_⟩⟩;refine q p1 _ ((Same.new np).trans (Same.new J7)) ?_;rw [hsy];exact StepAt.one A6 (D0 A6 J7)
   .rw [fU] at hc;rw [hc];walk_at "rd";exact fin (by unfold stepY;rw [tR,hc,Bool.and_false,if_neg K6])
  .rw [if_neg hw];rw [fU] at hw;exact fin (by rw [akF hw])
theorem agT:FnScope ["made", "place"] ["made", "place"] (C6 gZ):=G2
abbrev aeL:List Str:=["made", "place"]
theorem qX:VS aeL gZ "made" 0:=vq
theorem vce:VS aeL gZ "place" 1:=vq
theorem agU(F:FunD K "add_mark" "add_mark" gZ f fd)(T:Txt P w K mg C):FnOk P w K mg base E5 1 f fd ["made", "place"] (zV K):=by
 refine F.ok agT ?_ ?_
 .rintro _ _ _ _ ⟨l,p,H0,es,U,rfl,_⟩;rfl
 .intro cdv A outer s H vs Q E hr h;have C7:=hu_of hr;have hu:=hr.units;refine ⟨_,QSs.out (xA (qs_if (an2 (g0 (K:=K) (vi qX))) (C1 (N4 (qe_mB (K:=K) O5 R3 R1 R7 (vi qX) (qa_c (P0 (qa_c (y9 T.g_MARK) (qa_c A7 (qa_c (M4 A5) (qa_c A7 A5))))) A5)))) N0)
   (C1 (N4 (qe_mB (K:=K) O5 R3 R1 R7 (qe_ix (K:=K) (qe_ix (K:=K) (vi qX) (qe_un q_neg A7)) A7) (qa_c (vi vce) A5))))),?_⟩
  obtain ⟨l,p,H0,es,U,rfl,J,hU,hM,q⟩:=h;walk_at "rd";refine xB (fun O H1=>∃ (es':List (Addr×Addr)) (e:Addr×Addr) (U':List D8) (u:D8),O=[some (.ref l),some (.int p)]/\UnI H0 H1 l (es'++[e]) (U'++[u])/\addM U p=U'++[(u.1,u.2.1,u.2.2.1++[p],u.2.2.2)]/\u.2.2.1.length<=10000) ?_ ?_
  .walk_at "rd";refine ⟨_,oY J.top,?_⟩
   by_cases he:es=[]
   .subst he;have hU0:=ahX J.row;subst hU0;simp only [List.map_nil,List.isEmpty_nil,Bool.not_true,Bool.not_false,if_true];refine ⟨O3 J.top,fun m nm=>⟨by decide,fun t nt=>appOk ((Same.new nm).trans (Same.new nt) _ _ J.top) (by decide) ⟨[],(t,m),[],(0,0,[],0),?_,rfl,by decide⟩⟩⟩;exact J.push nm nt
   .obtain ⟨es',e,rfl⟩:=gS he;have hUn:U≠[]:=fun h=>by subst h;have:=Paired.length J.row;simp at this
    obtain ⟨U',u,rfl⟩:=gS hUn;have L1:((es'++[e]).map fun e=>V.ref e.1).isEmpty=false:=by simp
    rw [L1];simp only [Bool.not_false,Bool.not_true,fT,if_false];refine ⟨es',e,U',u,J,?_,hM u (by simp)⟩;unfold addM;rw [List.getLast?_append,List.getLast?_singleton]
    simp
  rintro O H1 ⟨es',e,U',u,rfl,J1,ea,hul⟩;obtain ⟨hr,hu⟩:=kO J1.row;have L9:F7 ((es'++[e]).map fun e=>V.ref e.1) (-1)=some (V.ref e.1):=by rw [D9];exact dQ _ _
  walk_at "rd";refine ⟨_,.inl (.of J1.top),_,L9,?_⟩;walk_at "rd";refine ⟨_,.inr (.of hu.1),V.ref e.2,Q2 (j:=2) rfl,O3 hu.2,appOk hu.2 (by rw [A8];exact G7 (by lia)) ?_⟩;refine q (es'++[e]) _ ?_;rw [ea];exact J1.mark p
theorem sc_add_part:FnScope ["order", "made", "part", "kind", "worth", "case"] ["order", "made", "part"] (C6 Z7):=G2
abbrev eV:List Str:=["order", "made", "part", "kind", "worth", "case"]
theorem vcf:VS eV Z7 "order" 0:=vq
theorem vcg:VS eV Z7 "made" 1:=vq
theorem vch:VS eV Z7 "part" 2:=vq
theorem vci:VS eV Z7 "kind" 3:=vq
theorem vcj:VS eV Z7 "worth" 4:=vq
theorem vck:VS eV Z7 "case" 5:=vq
theorem vcl:LS Z7 "kind":=lq
theorem vcm:LS Z7 "worth":=lq
theorem vcn:LS Z7 "case":=lq
theorem agV(F:FunD K "add_part" "add_part" Z7 f fd)(T:Txt P w K mg C)(G_steps_by:FO P w K mg base 2 "steps_by" ["order", "part"] [] (zU C))(G_add_mark:FO P w K mg base 1 "add_mark" ["made", "place"] [] (zV K)):FnOk P w K mg base E5 3 f fd ["order", "made", "part"] (zW C):=by
 refine F.ok sc_add_part ?_ ?_
 .rintro _ _ _ _ ⟨x,l,j,ll,ml,md,c,r,y,g,R,L,M,H0,es,U,rfl,_⟩;rfl
 .intro cdv A outer s H vs Q E hr h;have C7:=hu_of hr;have hu:=hr.units;refine ⟨_,QSs.out (C1 (N9 PassesOwn.never (bT (K:=K) (D7 G_steps_by (hm hr) (qa_c (vi vcf) (qa_c (vi vch) A5)))) (bS (K:=K) (n:=3) (R6 ((E2 (n:=3) sc_add_part.nd rfl vcl (.inl rfl))) (R6 ((E2 (n:=4) sc_add_part.nd rfl vcm (.inl rfl))) (R6 ((E2 (n:=5) sc_add_part.nd rfl vcn (.inl rfl))) bR)))) (C1 (qs_if (G1 (q_eq (K:=K) hu) (vi vci) (y9 T.g_MARK)) (C1 (N4 (D7 G_add_mark (hm hr) (qa_c (vi vcg) (qa_c (vi vcj) A5))))) (C1 (N4 (qe_mB (K:=K) O5 R3 R1 R7 (vi vcg) (qa_c (P0 (qa_c (vi vci) (qa_c (vi vcj) (qa_c (M4 A5) (qa_c (vi vck) A5))))) A5)))))))),?_⟩;obtain ⟨x,l,j,ll,ml,md,c,r,y,g,R,L,M,H0,es,U,rfl,hy,Q0,hO,hf,J,hs,hU,hM,q⟩:=h;walk_at "rd";refine ⟨x,j,ll,ml,md,c,r,y,g,R,L,M,rfl,hy,Q0,hO.same J.same,hf,fun a H1 S1 W4=>?_⟩;obtain ⟨ts,e1,e2⟩:=W4.ex;obtain ⟨H0',B0,J0,tp⟩:=(J.more S1).cut;have e1':=tp _ _ e1;have e2':=M9 e2 fun t s (e:H1 t=some (tupT s))=>(show H0' t=some (tupT s) from tp _ _ e)
  generalize stepY R L M y=ss at hs e2 e2' q;refine ⟨a,rfl,⟨_,.of e1⟩,forT (xs:=ts.map V.ref) (fun i O H2=>∃ (u v w:Option V) (es:List (Addr×Addr)),O=[some (.ref x),some (.ref l),some (.str y),u,v,w]/\UnI H0' H2 l es ((ss.take i).foldl addS U)) ⟨none,none,none,es,rfl,J0⟩ (by rintro i O H2 _ ⟨_,_,_,_,_,h⟩;exact .of (h.same _ _ e1')) ?_ ?_⟩
  .rintro i v O H2 hv ⟨u1,u2,u3,es,rfl,J2⟩;obtain ⟨t,ht,rfl⟩:=G8 hv;obtain ⟨s',mJ,hts⟩:=Paired.at e2' ht;have hi:i<ss.length:=(K0.mp mJ).1;have t9:=pY (ss.take i) U;have b0:=pZ (ss.take i) U 9000 hM;rw [K5] at t9 b0;have et:(ss.take (i+1)).foldl addS U=addS ((ss.take i).foldl addS U) s':=by rw [L7 mJ,Y6];rfl
   have htt:C9 K H2 t [V.int s'.1,V.int s'.2.1,V.int s'.2.2]:=.of (J2.same _ _ hts);walk_at "rd";refine ⟨_,htt,rfl,_,_,rfl,_,_,rfl,_,_,rfl,rfl,?_⟩;walk_at "rd";rw [et];generalize (ss.take i).foldl addS U=U2 at J2 t9 b0;refine iteD (fun e=>⟨l,s'.2.1,H0',es,U2,rfl,J2,by lia,fun u hu=>by have:=b0 u hu;lia,fun es' H3 J3=>?_⟩) fun e=>⟨O3 J2.top,fun m nm=>⟨by decide,fun t2 cX=>appOk ((Same.new nm).trans (Same.new cX) _ _ J2.top) (by rw [A8,Paired.length J2.row];exact G7 (by lia)) ?_⟩⟩
   .unfold addS;rw [if_pos e];exact ⟨es',J3⟩
   .unfold addS;rw [if_neg e];exact ⟨_,J2.push nm cX⟩
  rintro O H2 ⟨u1,u2,u3,es,rfl,J2⟩;rw [A8,Paired.length e2,K4] at J2;exact q es H2 (J2.base B0)
theorem sc_units:FnScope ["order", "text", "made", "part"] ["order", "text"] (C6 n5):=G2
abbrev lX:List Str:=["order", "text", "made", "part"]
theorem vco:VS lX n5 "order" 0:=vq
theorem vcp:VS lX n5 "text" 1:=vq
theorem vcq:VS lX n5 "made" 2:=vq
theorem vcr:VS lX n5 "part" 3:=vq
theorem vcs:LS n5 "made":=lq
theorem vct:LS n5 "part":=lq
theorem akS(F:FunD K "units" "units" n5 f fd)(T:Txt P w K mg C)(G_parts_of:FO P w K mg base 5 "parts_of" ["order", "text"] [] (zT C))(G_add_part:FO P w K mg base 3 "add_part" ["order", "made", "part"] [] (zW C)):FnOk P w K mg base E5 6 f fd ["order", "text"] (zX C):=by
 refine F.ok sc_units ?_ ?_
 .rintro _ _ _ _ ⟨x,j,ll,ml,md,z,g,R,L,M,rfl,_⟩;rfl
 .intro cdv A outer s H vs Q E hr h;have C7:=hu_of hr;have hu:=hr.units;refine ⟨_,QSs.out (B5 (E9 (n:=2) sc_units.nd rfl vcs (M4 A5))
   (B5 (N9 PassesOwn.never (O0 (K:=K) (D7 G_parts_of (hm hr) (qa_c (vi vco) (qa_c (vi vcp) A5)))) (E2 (n:=3) sc_units.nd rfl vct (.inl rfl)) (C1 (N4 (D7 G_add_part (hm hr) (qa_c (vi vco) (qa_c (vi vcq) (qa_c (vi vcr) A5)))))))
   (C1 (E4 (X6  (U7:CompOk ["order", "text", "made", "part"] (C6 n5).names _ ["kind", "worth", "marks", "case"] 4 []) (O0 (K:=K) (vi vcq)) (fun _ _ _ _ _=>(bS (K:=K) (n:=4) (R6 (E2 (n:=0) (show List.Nodup (["kind", "worth", "marks", "case"]:List Str) by decide +kernel) rfl (Or.inl rfl)) (R6 (E2 (n:=1) (show List.Nodup (["kind", "worth", "marks", "case"]:List Str) by decide +kernel) rfl (Or.inl rfl)) (R6 (E2 (n:=2) (show List.Nodup (["kind", "worth", "marks", "case"]:List Str) by decide +kernel) rfl (Or.inl rfl)) (R6 (E2 (n:=3) (show List.Nodup (["kind", "worth", "marks", "case"]:List Str) by decide +kernel) rfl (Or.inl rfl)) bR)))))) (fun _ _ _ _ _=>g6) (fun _ _ _ _ _=>(P0 (qa_c (qv 0) (qa_c (qv 1) (qa_c (qe_cT (kW (K:=K)) T.b_tuple kL (qa_c (qv 2) A5)) (qa_c (qv 3) A5))))))))))),?_⟩
  obtain ⟨x,j,ll,ml,md,z,g,R,L,M,rfl,hO,hk,hz,hw,hs,q⟩:=h;have hf:=ahm (w:=hasW R "figures") (g:=G9 R) _ z.cps.toList (C3 _);have L1:=zY (w:=hasW R "figures") (g:=G9 R) _ z.cps.toList (C3 _);have mX:=(lI (w:=hasW R "figures") (g:=G9 R) _ z.cps.toList (C3 _)).2.1;rw [lenL] at mX;have j6:=zZ (w:=hasW R "figures") (g:=G9 R) _ z.cps.toList (C3 _);rw [lenL] at j6;walk_at "rd";intro l nl;have S1:Same H (A0 H l (.lst [])):=Same.new nl;have cL:A0 H l (.lst []) l=some (.lst []):=A6;generalize A0 H l (.lst [])=H1 at S1 cL;refine ⟨x,j,ll,ml,md,z,g,R,L,M,rfl,hO.same S1,hk,by lia,hw,fun a H2 na S2 ha=>?_⟩;generalize (cutF (hasW R "figures") (G9 R) z.cps.toList).2=ps at ha hf L1 mX j6 q;have nal:a≠l:=fun e=>by rw [e,cL] at na;cases na
  have C0:UnI (cutH H2 [l]) H2 l [] []:=⟨S2 _ _ cL,.nil,by simp,fun b hb=>by unfold cutH;exact if_pos (by simpa using hb),lL _ _⟩
  have S0:Same H (cutH H2 [l]):=fun b o hb=>by
   unfold cutH;rw [if_neg (fun e=>by rw [E6.mp e,nl] at hb;cases hb)];exact S2 _ _ (S1 _ _ hb)
  have ha0:cutH H2 [l] a=some (.lst (ps.map V.str)):=by
   unfold cutH;rw [if_neg (fun e=>nal (E6.mp e))];exact ha
  have hO0:=hO.same S0;generalize cutH H2 [l]=H0 at C0 S0 ha0 hO0;refine ⟨a,rfl,⟨_,.of ha⟩,forL (xs:=ps.map V.str) (fun i O H3=>∃ (u:Option V) (es:List (Addr×Addr)),O=[some (.ref x),some (.str z),some (.ref l),u]/\UnI H0 H3 l es (Q4 (stepY R L M) (ps.take i))) ⟨none,[],rfl,C0⟩ (by rintro i O H3 _ ⟨_,_,_,h⟩;exact .of (h.same _ _ ha0)) ?_ ?_⟩
  .rintro i v O H3 hv ⟨u,es,rfl,J⟩;obtain ⟨y,hy,rfl⟩:=G8 hv;have hi:i<ps.length:=(K0.mp hy).1;have tS:=N7 hy;obtain ⟨C7,u7⟩:=lM (S:=stepY R L M) hs (ps.take i);rw [K5] at C7 u7;obtain ⟨c,r,hcr⟩:∃ c r,y.cps.toList=c::r:=by
    have:=L1 y tS
    rw [<- lenL] at this;cases e:y.cps.toList with
    | nil=>rw [e] at this;simp at this
    | cons c r=>exact ⟨c,r,rfl⟩
   have Q0:y.length<=640:=by have:=j6 y tS;lia
   walk_at "rd";refine ⟨x,l,j,ll,ml,md,c,r,y,g,R,L,M,H0,es,_,rfl,hcr,Q0,hO0,hf y tS,J,by have:=hs y;lia,by lia,fun v hv=>by have:=u7 v hv;lia,fun es' H4 J4=>?_⟩;rw [<- agB hy] at J4;exact ⟨es',J4⟩
  rintro O H3 ⟨u,es,rfl,J⟩;rw [A8,K4] at J;obtain ⟨C7,u7⟩:=lM (S:=stepY R L M) hs ps;have aV:=Paired.length J.row;generalize Q4 (stepY R L M) ps=U at J C7 u7 aV q;walk_at "rd";refine ⟨⟨_,.of J.top⟩,aoq (xs:=es.map fun e=>V.ref e.1) [] rfl (fun D i ys H4=>∃ fs:List (Addr×Addr),ys=fs.map (fun e=>V.ref e.1)/\Same H3 H4/\Paired (fun e (u:D8)=>H4 e.1=some (.tup [.int u.1,.int u.2.1,.ref e.2,.int u.2.2.2])/\H4 e.2=some (.tup (u.2.2.1.map V.int))) fs (U.take i)) (fun D nD=>⟨[],rfl,Same.new nD,.nil⟩) (by rintro D i ys H4 nD _ ⟨_,_,S,_⟩;exact .of (S _ _ J.top)) ?_ ?_⟩
  .rintro D i v ys H4 nD hi hv ⟨fs,rfl,S4,P⟩ hD Q0;obtain ⟨e,he,rfl⟩:=G8 hv;obtain ⟨w,hw,v9⟩:=Paired.at J.row he;have j1:fs.length<=7500:=by
    have:=Paired.length P
    rw [K5] at this;lia
   refine ⟨e.1,_,_,_,_,rfl,.of (S4 _ _ v9.1),?_⟩;walk_at "rd";refine rTupR.l (.of (S4 _ _ v9.2)) fun m nm=>⟨by decide,fun t nt=>?_⟩
   have S5:Same H4 (A0 (A0 H4 m (.tup (w.2.2.1.map V.int))) t (.tup [V.int w.1,V.int w.2.1,V.ref m,V.int w.2.2.2])):=(Same.new nm).trans (Same.new nt);have fK:A0 (A0 H4 m (.tup (w.2.2.1.map V.int))) t (.tup [V.int w.1,V.int w.2.1,V.ref m,V.int w.2.2.2]) m=some (.tup (w.2.2.1.map V.int)):=D0 A6 nt;have tT:A0 (A0 H4 m (.tup (w.2.2.1.map V.int))) t (.tup [V.int w.1,V.int w.2.1,V.ref m,V.int w.2.2.2]) t=some (.tup [V.int w.1,V.int w.2.1,V.ref m,V.int w.2.2.2]):=A6;generalize A0 (A0 H4 m (.tup (w.2.2.1.map V.int))) t (.tup [V.int w.1,V.int w.2.1,V.ref m,V.int w.2.2.2])=H5 at S5 fK tT;have hD5:=S5 _ _ hD;have dn:∀ {b:Addr} {xs:List V},H5 b=some (.tup xs)->b≠D:=fun h q=>by rw [q,hD5] at h;cases h
   refine ⟨hD5,by rw [A8];exact G7 (by lia),hi,by rw [C8,T9];lia,⟨_,_,_,_,rfl⟩,fs++[(t,m)],by rw [D9];rfl,(S4.trans S5).put nD,?_⟩;rw [L7 hw];refine Paired.snoc (M9 P fun f w h=>⟨?_,?_⟩) ⟨?_,?_⟩
   .rw [A9 (dn (S5 _ _ h.1))];exact S5 _ _ h.1
   .rw [A9 (dn (S5 _ _ h.2))];exact S5 _ _ h.2
   .rw [A9 (dn tT)];exact tT
   .rw [A9 (dn fK)];exact fK
  rintro D ys H4 nD ⟨fs,rfl,S4,P⟩ hD Q0;rw [A8,aV,K4] at P;have SS:Same H H3:=S0.trans J.same;exact q D H4 (SS.free nD) (SS.trans S4) ⟨fs,hD,P⟩
theorem adv:FnScope ["kind", "worth"] ["kind", "worth"] (C6 hJ):=G2
abbrev acz:List Str:=["kind", "worth"]
theorem vcu:VS acz hJ "kind" 0:=vq
theorem vcv:VS acz hJ "worth" 1:=vq
theorem adw(F:FunD K "first_numbers" "first_numbers" hJ f fd)(T:Txt P w K mg C):FnOk P w K mg base E5 1 f fd ["kind", "worth"] ahn:=by
 refine F.ok adv ?_ ?_
 .rintro _ _ _ _ ⟨k,w,rfl,_⟩;rfl
 .intro cdv A outer s H vs Q E hr h;have C7:=hu_of hr;have hu:=hr.units;refine ⟨_,QSs.out (B5 (qs_if (G1 (q_eq (K:=K) hu) (vi vcu) (y9 T.g_MARK)) (C1 (E4 (M4 (qa_c A7 A5)))) N0)
   (B5 (qs_if (G1 (q_eq (K:=K) hu) (vi vcu) (y9 T.g_FIGURES)) (C1 (E4 (M4 (qa_c A7 (qa_c (qe_op (q_add (K:=K)) (vi vcv) A7) A5))))) N0)
   (C1 (E4 (M4 (qa_c (qe_op (q_add (K:=K)) (vi vcv) A7) A5)))))),?_⟩
  obtain ⟨k,w,rfl,q⟩:=h;unfold X7 at q;walk_at "rd";refine iteD (fun h0=>?_) fun h0=>iteD (fun h1=>?_) fun h1=>?_
  .rw [if_pos h0] at q;exact ⟨by decide,q⟩
  .rw [if_neg h0,if_pos h1] at q;exact ⟨by decide,q⟩
  .rw [if_neg h0,if_neg h1] at q;exact ⟨by decide,q⟩
theorem sc_first_level:FnScope ["made", "level", "unit"] ["made"] (C6 aH):=G2
abbrev qY:List Str:=["made", "level", "unit"]
theorem vcw:VS qY aH "made" 0:=vq
theorem vcx:VS qY aH "level" 1:=vq
theorem vcy:VS qY aH "unit" 2:=vq
theorem vcz:LS aH "level":=lq
theorem vcA:LS aH "unit":=lq
theorem aek(F:FunD K "first_level" "first_level" aH f fd)(T:Txt P w K mg C)(G_first_numbers:FO P w K mg base 1 "first_numbers" ["kind", "worth"] [] ahn):FnOk P w K mg base E5 2 f fd ["made"] aho:=by
 refine F.ok sc_first_level ?_ ?_
 .rintro _ _ _ _ ⟨a,U,rfl,_⟩;rfl
 .intro cdv A outer s H vs Q E hr h;have C7:=hu_of hr;have hu:=hr.units;refine ⟨_,QSs.out (B5 (E9 (n:=1) sc_first_level.nd rfl vcz (M4 A5))
   (B5 (N9 PassesOwn.never (O0 (K:=K) (vi vcw)) (E2 (n:=2) sc_first_level.nd rfl vcA (.inl rfl)) (C1 (N4 (qe_mB (K:=K) O5 jV jU oW (vi vcx) (qa_c (D7 G_first_numbers (hm hr) (qa_c (qe_ix (K:=K) (vi vcy) A7) (qa_c (qe_ix (K:=K) (vi vcy) A7) A5))) A5)))))
   (C1 (E4 (vi vcx))))),?_⟩
  obtain ⟨a,U,rfl,⟨es,e1,e2⟩,hl,q⟩:=h;walk_at "rd";intro p np;have S1:Same H (A0 H p (.lst [])):=Same.new np;refine ⟨⟨_,.of (S1 _ _ e1)⟩,forL (xs:=es.map fun e=>V.ref e.1) (fun i O H2=>∃ (u:Option V),O=[some (.ref a),some (.ref p),u]/\Same H H2/\H2 p=some (.lst ((g9 (U.take i)).map V.int))) ⟨none,rfl,S1,A6⟩ (by rintro i O H2 _ ⟨_,_,S,_⟩;exact .of (S _ _ e1)) ?_ ?_⟩
  .rintro i x O H2 hx ⟨u,rfl,S2,h2⟩;obtain ⟨e,he,rfl⟩:=G8 (f:=fun e:Addr×Addr=>V.ref e.1) hx;obtain ⟨w,hw,v9⟩:=Paired.at e2 he;have t1:=S2 _ _ v9.1;have hi:i<U.length:=(K0.mp hw).1;have j1:=lN (U.take i);have aR:=aeH w.1 w.2.1;rw [K5] at j1;walk_at "rd";refine ⟨O3 h2,_,.inr (.of t1),_,Q2 (j:=0) rfl,_,.inr (.of t1),_,Q2 (j:=1) rfl,_,_,rfl,fun l nl=>?_⟩;have S3:Same H2 (A0 H2 l (.lst ((X7 w.1 w.2.1).map V.int))):=Same.new nl;have hl3:A0 H2 l (.lst ((X7 w.1 w.2.1).map V.int)) l=some (.lst ((X7 w.1 w.2.1).map V.int)):=A6;generalize A0 H2 l (.lst ((X7 w.1 w.2.1).map V.int))=H3 at S3 hl3;refine ⟨p,l,_,_,rfl,rfl,S3 _ _ h2,hl3,by rw [A8,A8];have:=G7 (n:=(g9 (U.take i)).length+(X7 w.1 w.2.1).length) (by lia);lia,(S2.trans S3).put np,?_⟩;rw [A6,agC hw,D9]
  rintro O H2 ⟨u,rfl,S2,h2⟩;rw [A8,Paired.length e2,K4] at h2;walk_at "rd";exact q p H2 np S2 h2
theorem sc_second_level:FnScope ["made", "behind", "level", "unit"] ["made", "behind"] (C6 n6):=G2
abbrev lY:List Str:=["made", "behind", "level", "unit"]
theorem vcB:VS lY n6 "made" 0:=vq
theorem vcC:VS lY n6 "behind" 1:=vq
theorem qZ:VS lY n6 "level" 2:=vq
theorem vcE:VS lY n6 "unit" 3:=vq
theorem vcF:LS n6 "level":=lq
theorem vcG:LS n6 "unit":=lq
theorem ad5(F:FunD K "second_level" "second_level" n6 f fd)(T:Txt P w K mg C):FnOk P w K mg base E5 1 f fd ["made", "behind"] af4:=by
 refine F.ok sc_second_level ?_ ?_
 .rintro _ _ _ _ ⟨a,b,U,rfl,_⟩;rfl
 .intro cdv A outer s H vs Q E hr h;have C7:=hu_of hr;have hu:=hr.units;refine ⟨_,QSs.out (B5 (E9 (n:=2) sc_second_level.nd rfl vcF (M4 A5))
   (B5 (N9 PassesOwn.never (O0 (K:=K) (wQ (g0 (K:=K) (vi vcC)) (aos (K:=K) (vi vcB) (M7 (qe_un q_neg A7))) (vi vcB))) (E2 (n:=3) sc_second_level.nd rfl vcG (.inl rfl)) (B5 (N4 (qe_mB (K:=K) O5 jV jU oW (vi qZ) (qa_c (X6  (U7:CompOk ["made", "behind", "level", "unit"] (C6 n6).names _ ["place"] 1 []) (bT (K:=K) (qe_ix (K:=K) (vi vcE) A7)) (fun _ _ _ _ _=>E2 (n:=0) (show List.Nodup (["place"]:List Str) by decide +kernel) rfl (Or.inl rfl)) (fun _ _ _ _ _=>g6) (fun _ _ _ _ _=>(qe_op (q_add (K:=K)) (qv 0) A7))) A5)))
   (C1 (N4 (qe_mB (K:=K) O5 R3 R1 R7 (vi qZ) (qa_c A7 A5))))))
   (C1 (E4 (vi qZ))))),?_⟩
  obtain ⟨a,b,U,rfl,⟨es,e1,e2⟩,hl,hm,hs,q⟩:=h;walk_at "rd";intro p np;have S1:Same H (A0 H p (.lst [])):=Same.new np;have Y3:A0 H p (.lst []) p=some (.lst []):=A6;generalize A0 H p (.lst [])=H1 at S1 Y3;have go:∀ (l0:Addr) (fs:List (Addr×Addr)) (V':List D8) (H2:Hp),Same H1 H2->H2 l0=some (.lst (fs.map fun e=>V.ref e.1))->l0≠p->Paired (fun e (u:D8)=>H e.1=some (.tup [.int u.1,.int u.2.1,.ref e.2,.int u.2.2.2])/\H e.2=some (.tup (u.2.2.1.map V.int))) fs V'->V'.length<=10000->(∀ u∈V',u.2.2.1.length<=10000)->L8 V'<=100000->(∀ H',Same H H'->H' p=some (.lst ((P3 V').map V.int))->Q (.ref p) H')->
    ForIt (k8 K l0) (gName 3) (tSeq (tDrop (dR K "list" oF (tVar 2) (tCons (tComp (iTup K (f8 (bN K) (tVar 3) (tC (V.int 2)))) 1 [] (gName 0) tYes (f8 (rAddU K) (tVar 0) (tC (V.int 2)))) tNil))) (tDrop (dR K "list" kD (tVar 2) (tCons (tC (V.int 1)) tNil)))) { nx:=tRet (tVar 2) { nx:=fun x H'=>Q V.non H',rt:=Q },rt:=Q } [some (V.ref a),some (V.bl b),some (V.ref p),none] H2:=by
   intro l0 fs V' H2 S2 iQ nl0 hP hV hVm hVn q;have Y1:=S2 _ _ Y3;have SB:Same H (cutH H2 [p]):=fun c o hc=>by
    unfold cutH;rw [if_neg (fun e=>by rw [E6.mp e,np] at hc;cases hc)];exact S2 _ _ (S1 _ _ hc)
   have hlB:cutH H2 [p] l0=some (.lst (fs.map fun e=>V.ref e.1)):=by
    unfold cutH;rw [if_neg (fun e=>nl0 (E6.mp e))];exact iQ
   have nB:cutH H2 [p] p=none:=by unfold cutH;exact if_pos (by simp)
   have hB2:=lL H2 [p];generalize cutH H2 [p]=B at SB hlB nB hB2;refine forL (xs:=fs.map fun e=>V.ref e.1) (fun i O H3=>∃ (v:Option V),O=[some (.ref a),some (.bl b),some (.ref p),v]/\Same B H3/\H3 p=some (.lst ((P3 (V'.take i)).map V.int))) ⟨none,rfl,hB2,Y1⟩ (by rintro i O H3 _ ⟨_,_,S,_⟩;exact .of (S _ _ hlB)) ?_ ?_
   .rintro i x O H3 hx ⟨v,rfl,S3,h3⟩;obtain ⟨e,he,rfl⟩:=G8 (f:=fun e:Addr×Addr=>V.ref e.1) hx;obtain ⟨u,hu,v9⟩:=Paired.at hP he;have hum:=hVm u (N7 hu);have t1:=S3 _ _ (SB _ _ v9.1);have t2:=S3 _ _ (SB _ _ v9.2);have ea:P3 (V'.take (i+1))=P3 (V'.take i)++(u.2.2.1.map fun p=>p+2)++[1]:=by
     unfold P3;rw [L7 hu,V8,X2]
     simp
    have N6:(P3 (V'.take i)).length<=110000:=by
     rw [bW,K5]
     have:L8 (V'.take i)<=L8 V':=by
      have e2:L8 V'=L8 (V'.take i)+L8 (V'.drop i):=by
       unfold L8;rw [<- List.sum_append,<- D9,Y5]
      lia
     lia
    generalize P3 (V'.take i)=acc at h3 ea N6;walk_at "rd";refine ⟨O3 h3,_,.inr (.of t1),_,Q2 (j:=2) rfl,e.2,rfl,⟨_,.of t2⟩,compT (xs:=u.2.2.1.map V.int) [] rfl (fun D k ys H4=>Same H3 H4/\ys=((u.2.2.1.take k).map fun p=>p+2).map V.int) (fun D nD=>⟨Same.new nD,rfl⟩) (by rintro D k ys H4 nD _ ⟨S,_⟩;exact .of (S _ _ t2)) ?_ ?_⟩
    .rintro D k y ys H4 nD hk hy ⟨S4,rfl⟩ hD Q0;obtain ⟨m,b0,rfl⟩:=G8 hy;walk_at "rd";refine ⟨hD,by simp only [A8,K5];exact G7 (by lia),CW.put hk Q0 ⟨S4.put nD,?_⟩⟩;rw [L7 b0,D9,D9];rfl
    rintro D ys H4 nD ⟨S4,rfl⟩ hD _;rw [A8,K4] at hD;refine ⟨p,D,_,_,rfl,rfl,S4 _ _ h3,hD,by simp only [A8];have:=G7 (n:=acc.length+u.2.2.1.length) (by lia);lia,?_⟩;have h5:A0 H4 p (.lst (acc.map V.int++(u.2.2.1.map fun p=>p+2).map V.int)) p=some (.lst (acc.map V.int++(u.2.2.1.map fun p=>p+2).map V.int)):=A6;have S5:Same B (A0 H4 p (.lst (acc.map V.int++(u.2.2.1.map fun p=>p+2).map V.int))):=(S3.trans S4).put nB;generalize A0 H4 p (.lst (acc.map V.int++(u.2.2.1.map fun p=>p+2).map V.int))=H5 at h5 S5;walk_at "rd";refine ⟨O3 h5,appOk h5 (by simp only [C8,A8];exact G7 (by lia)) ⟨S5.put nB,?_⟩⟩;rw [A6,ea,D9,D9];rfl
   rintro O H3 ⟨v,rfl,S3,h3⟩;rw [A8,Paired.length hP,K4] at h3;walk_at "rd";exact q H3 (SB.trans S3) h3
  by_cases hb:b=true
  .rw [if_pos hb] at q ⊢
   refine ⟨_,.of (S1 _ _ e1),fun p1 J7=>?_⟩;refine ⟨⟨_,.of A6⟩,go p1 es.reverse U.reverse _ (Same.new J7) (by rw [A6,fR]) (fun e=>by rw [e,Y3] at J7;cases J7) (aeI e2) (by rw [bD];exact hl) (fun u hu=>hm u (List.mem_reverse.mp hu)) (by rw [gT];exact hs) fun H' S h=>q p H' np S h⟩
  .rw [if_neg hb] at q ⊢
   exact ⟨⟨_,.of (S1 _ _ e1)⟩,go a es U _ (Same.refl _) (S1 _ _ e1) (fun e=>by rw [e,np] at e1;cases e1) e2 hl hm hs fun H' S h=>q p H' np S h⟩
theorem ael:FnScope ["made"] ["made"] (C6 hW):=G2
abbrev afg:List Str:=["made"]
theorem vcH:VS afg hW "made" 0:=vq
theorem aem(F:FunD K "third_level" "third_level" hW f fd)(T:Txt P w K mg C):FnOk P w K mg base E5 1 f fd ["made"] ahp:=by
 refine F.ok ael ?_ ?_
 .rintro _ _ _ _ ⟨a,U,rfl,_⟩;rfl
 .intro cdv A outer s H vs Q E hr h;have C7:=hu_of hr;have hu:=hr.units;refine ⟨_,QSs.out (C1 (E4 (X6  (U7:CompOk ["made"] (C6 hW).names _ ["unit"] 1 []) (O0 (K:=K) (vi vcH)) (fun _ _ _ _ _=>E2 (n:=0) (show List.Nodup (["unit"]:List Str) by decide +kernel) rfl (Or.inl rfl)) (fun _ _ _ _ _=>g6) (fun _ _ _ _ _=>(qe_op (q_add (K:=K)) (qe_ix (K:=K) (qv 0) A7) A7))))),?_⟩;obtain ⟨a,U,rfl,⟨es,e1,e2⟩,hl,q⟩:=h;walk_at "rd";refine ⟨⟨_,.of e1⟩,compL (xs:=es.map fun e=>V.ref e.1) [] rfl (fun D i ys H2=>Same H H2/\ys=((U.take i).map fun u=>u.2.2.2+1).map V.int) (fun D nD=>⟨Same.new nD,rfl⟩) (by rintro D i ys H2 nD _ ⟨S,_⟩;exact .of (S _ _ e1)) ?_ ?_⟩
  .rintro D i x ys H2 nD hi hx ⟨S2,rfl⟩ hD Q0;obtain ⟨e,he,rfl⟩:=G8 (f:=fun e:Addr×Addr=>V.ref e.1) hx;obtain ⟨w,hw,v9⟩:=Paired.at e2 he;have hil:i<U.length:=(K0.mp hw).1;walk_at "rd";refine ⟨_,.inr (.of (S2 _ _ v9.1)),V.int w.2.2.2,Q2 (j:=3) rfl,?_⟩;walk_at "rd";refine ⟨hD,by simp only [A8,K5];exact G7 (by lia),CW.put hi Q0 ⟨S2.put nD,?_⟩⟩;rw [L7 hw,D9,D9];rfl
  rintro D ys H2 nD ⟨S2,rfl⟩ hD _;rw [A8,Paired.length e2,K4] at hD;exact q D H2 nD S2 hD
theorem ad6:FnScope ["text"] ["text"] (C6 hX):=G2
abbrev aen:List Str:=["text"]
theorem vcI:VS aen hX "text" 0:=vq
theorem ad7(F:FunD K "fourth_level" "fourth_level" hX f fd)(T:Txt P w K mg C):FnOk P w K mg base E5 1 f fd ["text"] af3:=by
 refine F.ok ad6 ?_ ?_
 .rintro _ _ _ _ ⟨z,rfl,_⟩;rfl
 .intro cdv A outer s H vs Q E hr h;have C7:=hu_of hr;have hu:=hr.units;refine ⟨_,QSs.out (C1 (E4 (X6  (U7:CompOk ["text"] (C6 hX).names _ ["sign"] 1 []) (wT (vi vcI)) (fun _ _ _ _ _=>E2 (n:=0) (show List.Nodup (["sign"]:List Str) by decide +kernel) rfl (Or.inl rfl)) (fun _ _ _ _ _=>g6) (fun _ _ _ _ _=>(qe_cB q_ord T.b_ord anY (qa_c (qv 0) A5)))))),?_⟩;obtain ⟨z,rfl,hz,q⟩:=h;walk_at "rd";refine compS [] rfl (fun D i ys H2=>Same H H2/\ys=((z.cps.toList.take i).map fun c:Nat=>(c:Int)).map V.int) (fun D nD=>⟨Same.new nD,rfl⟩) ?_ ?_
  .rintro D i x ys H2 nD hi hx ⟨S2,rfl⟩ hD Q0;have hsz:z.cps.size=z.length:=rfl;walk_at "rd";refine ⟨rfl,hD,by simp only [A8,K5];exact G7 (by lia),CW.put hi Q0 ⟨S2.put nD,?_⟩⟩;rw [L7 hx,D9,D9];rfl
  .rintro D ys H2 nD ⟨S2,rfl⟩ hD _;rw [show z.cps.size=z.cps.toList.length by simp,K4] at hD;exact q D H2 nD S2 hD
theorem sc_key:FnScope ["order", "text", "strength", "made", "levels", "numbers", "level"] ["order", "text", "strength"] (C6 s_key):=G2
abbrev n_key:List Str:=["order", "text", "strength", "made", "levels", "numbers", "level"]
theorem vcJ:VS n_key s_key "order" 0:=vq
theorem vcK:VS n_key s_key "text" 1:=vq
theorem vcL:VS n_key s_key "strength" 2:=vq
theorem rA:VS n_key s_key "made" 3:=vq
theorem vcN:VS n_key s_key "levels" 4:=vq
theorem rB:VS n_key s_key "numbers" 5:=vq
theorem vcP:VS n_key s_key "level" 6:=vq
theorem vcQ:LS s_key "made":=lq
theorem vcR:LS s_key "levels":=lq
theorem vcS:LS s_key "numbers":=lq
theorem vcT:LS s_key "level":=lq
theorem aln(F:FunD K "key" "key" s_key f fd)(T:Txt P w K mg C)(G_units:FO P w K mg base 6 "units" ["order", "text"] [] (zX C))(G_first_level:FO P w K mg base 2 "first_level" ["made"] [] aho)(G_second_level:FO P w K mg base 1 "second_level" ["made", "behind"] [] af4)(G_third_level:FO P w K mg base 1 "third_level" ["made"] [] ahp)(G_fourth_level:FO P w K mg base 1 "fourth_level" ["text"] [] af3):FnOk P w K mg base E5 7 f fd ["order", "text", "strength"] (spKey C):=by
 refine F.ok sc_key ?_ ?_
 .rintro _ _ _ _ ⟨x,j,ll,ml,md,z,n,g,R,L,M,rfl,_⟩;rfl
 .intro cdv A outer s H vs Q E hr h;have C7:=hu_of hr;have hu:=hr.units;refine ⟨_,QSs.out (B5 (E9 (n:=3) sc_key.nd rfl vcQ (D7 G_units (hm hr) (qa_c (vi vcJ) (qa_c (vi vcK) A5))))
   (B5 (E9 (n:=4) sc_key.nd rfl vcR (M4 (qa_c (D7 G_first_level (hm hr) (qa_c (vi rA) A5)) (qa_c (D7 G_second_level (hm hr) (qa_c (vi rA) (qa_c (g4 (K:=K) (vi vcJ)) A5))) (qa_c (D7 G_third_level (hm hr) (qa_c (vi rA) A5)) (qa_c (D7 G_fourth_level (hm hr) (qa_c (vi vcK) A5)) A5))))))
   (B5 (E9 (n:=5) sc_key.nd rfl vcS (M4 A5))
   (B5 (N9 PassesOwn.never (O0 (K:=K) (P1 (K:=K) (vi vcN) V4 (M7 (vi vcL)))) (E2 (n:=6) sc_key.nd rfl vcT (.inl rfl)) (B5 (N4 (qe_mB (K:=K) O5 jV jU oW (vi rB) (qa_c (vi vcP) A5)))
   (C1 (N4 (qe_mB (K:=K) O5 R3 R1 R7 (vi rB) (qa_c A7 A5))))))
   (C1 (E4 (vi rB))))))),?_⟩
  obtain ⟨x,j,ll,ml,md,z,n,g,R,L,M,rfl,hn,hO,hk,hz,hw,hs,q⟩:=h;have hp:=(lI (w:=hasW R "figures") (g:=G9 R) _ z.cps.toList (C3 _)).2.1;rw [lenL] at hp;obtain ⟨C7,u7⟩:=lM hs (cutF (hasW R "figures") (G9 R) z.cps.toList).2;have hu3:=adq hs (cutF (hasW R "figures") (G9 R) z.cps.toList).2;walk_at "rd";refine ⟨x,j,ll,ml,md,z,g,R,L,M,rfl,hO,hk,hz,hw,hs,fun u H1 nu S1 hU=>?_⟩;generalize Q4 (stepY R L M) (cutF (hasW R "figures") (G9 R) z.cps.toList).2=U at C7 u7 hu3 hU q;refine ⟨u,U,rfl,hU,by lia,fun a1 H2 n1 S2 h1=>?_⟩;obtain ⟨dx,ho⟩:=hO.ob;refine ⟨_,_,_,S2 _ _ (S1 _ _ ho),T.cl,T.na_behind,_,agt _ _ _ _ _ _,?_⟩;refine ⟨u,_,U,rfl,hU.same S2,by lia,fun v hv=>by have:=u7 v hv;lia,by lia,fun a2 H3 n2 S3 h2=>?_⟩;refine ⟨u,U,rfl,hU.same (S2.trans S3),by lia,fun a3 H4 n3 S4 h3=>?_⟩;refine ⟨z,rfl,by lia,fun a4 H5 n4 S5 h4=>?_⟩;refine ⟨by decide,fun p np p1 J7=>?_⟩;have hLS:∀ l∈T3 (hasW R "behind") U z,l.length<=20000:=fun l hl=>by
   unfold T3 at hl;simp only [E8,List.not_mem_nil,or_false] at hl
   rcases hl with rfl | rfl | rfl | rfl
   .have:=lN U;lia
   .rw [bW]
    by_cases hb:hasW R "behind"=true
    .rw [if_pos hb,gT,bD];lia
    .rw [if_neg hb];lia
   .rw [A8];lia
   .rw [A8,lenL];lia
  have hP:Paired (fun a (l:List Int)=>H5 a=some (.lst (l.map V.int))) [a1,a2,a3,a4] (T3 (hasW R "behind") U z):=.cons ((S3.trans (S4.trans S5)) _ _ h1) (.cons ((S4.trans S5) _ _ h2) (.cons (S5 _ _ h3) (.cons h4 .nil)));unfold keyF at q;have w5:=S1.trans (S2.trans (S3.trans (S4.trans S5)));generalize T3 (hasW R "behind") U z=LS at hLS hP q;have S6:Same H5 (A0 H5 p (.lst [V.ref a1,V.ref a2,V.ref a3,V.ref a4])):=Same.new np;have tU:A0 H5 p (.lst [V.ref a1,V.ref a2,V.ref a3,V.ref a4]) p=some (.lst (([a1,a2,a3,a4]:List Addr).map V.ref)):=A6;generalize A0 H5 p (.lst [V.ref a1,V.ref a2,V.ref a3,V.ref a4])=H6 at S6 tU J7;have S7:Same H6 (A0 H6 p1 (.lst [])):=Same.new J7;have tV:A0 H6 p1 (.lst []) p1=some (.lst []):=A6;generalize A0 H6 p1 (.lst [])=H7 at S7 tV;generalize [a1,a2,a3,a4]=as at hP tU;refine rSlR.l (.of (S7 _ _ tU)) fun s ns=>?_
  rw [oZ,<- List.map_take];have hP2:Paired (fun a (l:List Int)=>H5 a=some (.lst (l.map V.int))) (as.take n) (LS.take n):=adr hP n;have hL2:(LS.take n).length<=4:=by rw [K5];lia
  have hLS2:∀ l∈LS.take n,l.length<=20000:=fun l hl=>hLS l (List.mem_of_mem_take hl)
  generalize as.take n=bs at hP2 ns;generalize LS.take n=MS at hP2 hL2 hLS2 q;have nsp:s≠p1:=fun e=>by rw [e,tV] at ns;cases ns
  have S8:Same H7 (A0 H7 s (.lst (bs.map V.ref))):=Same.new ns;have tW:A0 H7 s (.lst (bs.map V.ref)) s=some (.lst (bs.map V.ref)):=A6;generalize A0 H7 s (.lst (bs.map V.ref))=H8 at S8 tW;have hp8:=S8 _ _ tV;have SB:Same H6 (cutH H8 [p1]):=fun a o ha=>by
   unfold cutH;rw [if_neg (fun e=>by rw [E6.mp e,J7] at ha;cases ha)];exact S8 _ _ (S7 _ _ ha)
  have hsB:cutH H8 [p1] s=some (.lst (bs.map V.ref)):=by
   unfold cutH;rw [if_neg (fun e=>nsp (E6.mp e))];exact tW
  have nB:cutH H8 [p1] p1=none:=by unfold cutH;exact if_pos (by simp)
  have hB8:=lL H8 [p1];generalize cutH H8 [p1]=B at SB hsB nB hB8;have hPB:=M9 hP2 fun a l (e:H5 a=some (.lst (l.map V.int)))=>(show B a=some (.lst (l.map V.int)) from SB _ _ (S6 _ _ e))
  have B3:=Paired.length hPB;refine ⟨s,rfl,⟨_,.of tW⟩,forL (xs:=bs.map V.ref) (fun i O H9=>∃ (v:Option V),O=[some (.ref x),some (.str z),some (.int n),some (.ref u),some (.ref p),some (.ref p1),v]/\Same B H9/\H9 p1=some (.lst (((MS.take i).flatMap fun l=>l++[0]).map V.int))/\((MS.take i).flatMap fun l=>l++[0]).length<=20001*i) ⟨none,rfl,hB8,hp8,G3 _⟩ (by rintro i O H9 _ ⟨_,_,S,_⟩;exact .of (S _ _ hsB)) ?_ ?_⟩
  .rintro i v O H9 hv ⟨w,rfl,S9,h9,mR⟩;obtain ⟨a,ha,rfl⟩:=G8 hv;obtain ⟨l,hl,cS⟩:=Paired.at hPB ha;have hi:i<MS.length:=(K0.mp hl).1;have fH:=hLS2 l (N7 hl);have ea:(MS.take (i+1)).flatMap (fun l=>l++[0])=(MS.take i).flatMap (fun l=>l++[0])++l++[0]:=by
    rw [L7 hl,V8,X2]
    simp
   generalize (MS.take i).flatMap (fun l=>l++[0])=acc at h9 mR ea;walk_at "rd";refine ⟨O3 h9,⟨p1,a,_,_,rfl,rfl,h9,S9 _ _ cS,by rw [A8,A8];have:=G7 (n:=acc.length+l.length) (by lia);lia,?_⟩⟩;have h10:A0 H9 p1 (.lst (acc.map V.int++l.map V.int)) p1=some (.lst (acc.map V.int++l.map V.int)):=A6;have O1:Same B (A0 H9 p1 (.lst (acc.map V.int++l.map V.int))):=S9.put nB;generalize A0 H9 p1 (.lst (acc.map V.int++l.map V.int))=U8 at h10 O1;walk_at "rd";refine ⟨O3 h10,appOk h10 (by rw [C8,A8,A8];exact G7 (by lia)) ⟨O1.put nB,?_,?_⟩⟩
   .rw [A6,ea,D9,D9];rfl
   .rw [ea,C8,C8,T9];lia
  rintro O H9 ⟨w,rfl,S9,h9,_⟩;rw [A8,B3,K4] at h9;walk_at "rd";exact q p1 H9 ((w5.trans S6).free J7) (w5.trans (S6.trans (SB.trans S9))) h9
theorem agc:FnScope ["_law_script", "_law_k"] ["_law_script", "_law_k"] (C6 iA):=G2
abbrev ad8:List Str:=["_law_script", "_law_k"]
theorem vcU:VS ad8 iA "_law_script" 0:=vq
theorem vcV:VS ad8 iA "_law_k" 1:=vq
theorem agd(F:FunD K "_law_cell_at" "_law_cell_at" iA f fd)(T:Txt P w K mg C):FnOk P w K mg base E5 1 f fd ["_law_script", "_law_k"] (lD K):=by
 refine F.ok agc ?_ ?_
 .rintro _ _ _ _ ⟨a,ns,k,rfl,_⟩;rfl
 .intro cdv A outer s H vs Q E hr h;have C7:=hu_of hr;have hu:=hr.units;refine ⟨_,QSs.out (B5 (qs_if (G1 q_lt (vi vcV) (qe_cB (q_len (K:=K)) T.b_len W2 (qa_c (vi vcU) A5))) (C1 (E4 (qe_ix (K:=K) (vi vcU) (vi vcV)))) N0)
   (C1 (E4 A7))),?_⟩
  obtain ⟨a,ns,k,rfl,hS,hk,q⟩:=h;walk_at "rd";unfold cellF at q;refine ⟨ns.length,.inl ⟨_,hS,by rw [A8]⟩,iteD (fun D3=>?_) fun tO=>?_⟩
  .rw [if_pos D3] at q;have hi:k.toNat<ns.length:=by lia
   refine ⟨_,.inl hS,V.int (ns.getD k.toNat 0),?_,q⟩;have e:((k.toNat:Nat):Int)=k:=by lia
   have h1:F7 (ns.map V.int) ((k.toNat:Nat):Int)=some (V.int (ns.getD k.toNat 0)):=Q2 (by rw [U9,w6,M5 hi];rfl);rw [e] at h1;exact h1
  .rw [if_neg tO] at q;exact q
theorem sc_l_sign:FnScope ["_law_script", "_law_k", "_law_some", "_law_step"] ["_law_script", "_law_k"] (C6 s0):=G2
abbrev lZ:List Str:=["_law_script", "_law_k", "_law_some", "_law_step"]
theorem vcW:VS lZ s0 "_law_script" 0:=vq
theorem vcX:VS lZ s0 "_law_k" 1:=vq
theorem vcY:VS lZ s0 "_law_some" 2:=vq
theorem vcZ:VS lZ s0 "_law_step" 3:=vq
theorem vc0:LS s0 "_law_some":=lq
theorem vc1:LS s0 "_law_step":=lq
theorem ajx(F:FunD K "_law_sign" "_law_sign" s0 f fd)(T:Txt P w K mg C)(G_l_cell_at:FO P w K mg base 1 "_law_cell_at" ["_law_script", "_law_k"] [] (lD K)):FnOk P w K mg base E5 2 f fd ["_law_script", "_law_k"] (ali K):=by
 refine F.ok sc_l_sign ?_ ?_
 .rintro _ _ _ _ ⟨a,ns,k,rfl,_⟩;rfl
 .intro cdv A outer s H vs Q E hr h;have C7:=hu_of hr;have hu:=hr.units;refine ⟨_,QSs.out (B5 (E9 (n:=2) sc_l_sign.nd rfl vc0 M3)
   (B5 (E9 (n:=2) sc_l_sign.nd rfl vc0 (qe_op (q_add (K:=K)) (vi vcY) M3))
   (B5 (E9 (n:=3) sc_l_sign.nd rfl vc1 (qe_ix (K:=K) (M4 (qa_c A7 (qa_c A7 (qa_c A7 (qa_c A7 (qa_c A7 (qa_c A7 (qa_c A7 (qa_c A7 (qa_c A7 (qa_c A7 (qa_c A7 (qa_c A7 A5))))))))))))) (qe_op q_mod (D7 G_l_cell_at (hm hr) (qa_c (vi vcW) (qa_c A7 A5))) A7)))
   (C1 (E4 (qe_ix (K:=K) (vi vcY) (qe_op q_mod (qe_op (q_add (K:=K)) (D7 G_l_cell_at (hm hr) (qa_c (vi vcW) (qa_c A7 A5))) (qe_op q_mul (vi vcX) (vi vcZ))) A7))))))),?_⟩
  obtain ⟨a,ns,k,rfl,hS,hk,q⟩:=h;walk_at "rd";have h1:=amP ns;have h2:=(ajs ns k).1;rw [<- SS_eq] at h2;refine ⟨amq,by decide,fun p np=>⟨a,ns,1,rfl,(Same.new np).seq hS,by decide,⟨_,rfl,_,.inl (.of A6),V.int (stpN ns),?_,a,ns,0,rfl,(Same.new np).seq hS,by decide,?_⟩⟩⟩
  .have:=amO V.int ([1,2,4,5,7,8,10,11,13,23,44,91]:List Int) (cellF ns 1 % 12)
   rw [h1.1] at this;exact this
  walk_at "rd";exact ⟨.inr ⟨by lia,by lia⟩,an1,_,h2,q _ (Same.new np)⟩
theorem sc_l_rules:FnScope ["_law_script", "_law_cell", "_law_rules_here", "_law_marks"] ["_law_script"] (C6 Z8):=G2
abbrev mB:List Str:=["_law_script", "_law_cell", "_law_rules_here", "_law_marks"]
theorem rC:VS mB Z8 "_law_script" 0:=vq
theorem iG:VS mB Z8 "_law_cell" 1:=vq
theorem cD:VS mB Z8 "_law_rules_here" 2:=vq
theorem vc5:VS mB Z8 "_law_marks" 3:=vq
theorem vc6:LS Z8 "_law_cell":=lq
theorem vc7:LS Z8 "_law_rules_here":=lq
theorem vc8:LS Z8 "_law_marks":=lq
theorem ah8(F:FunD K "_law_rules" "_law_rules" Z8 f fd)(T:Txt P w K mg C)(G_l_cell_at:FO P w K mg base 1 "_law_cell_at" ["_law_script", "_law_k"] [] (lD K))(G_l_sign:FO P w K mg base 2 "_law_sign" ["_law_script", "_law_k"] [] (ali K)):FnOk P w K mg base E5 3 f fd ["_law_script"] (spR34 K):=by
 refine F.ok sc_l_rules ?_ ?_
 .rintro _ _ _ _ ⟨a,ns,rfl,_⟩;rfl
 .intro cdv A outer s H vs Q E hr h;have C7:=hu_of hr;have hu:=hr.units;refine ⟨_,QSs.out (B5 (E9 (n:=1) sc_l_rules.nd rfl vc6 (D7 G_l_cell_at (hm hr) (qa_c (vi rC) (qa_c A7 A5))))
   (B5 (E9 (n:=2) sc_l_rules.nd rfl vc7 (M4 (qa_c (qe_op (q_add (K:=K)) (P0 (qa_c M3 A5)) (qe_cT (kW (K:=K)) T.b_tuple kL (qa_c (X6  (U7:CompOk ["_law_script", "_law_cell", "_law_rules_here", "_law_marks"] (C6 Z8).names _ ["_law_k", "_law_script"] 1 [0]) (qi_r1 T.b_range (qa_c (qe_op (q_add (K:=K)) A7 (qe_op q_mod (vi iG) A7)) A5)) (fun _ _ _ _ _=>E2 (n:=0) (show List.Nodup (["_law_k", "_law_script"]:List Str) by decide +kernel) rfl (Or.inl rfl)) (fun _ _ _ _ _=>g6) (fun _ _ _ _ _=>(D7 G_l_sign (hm hr) (qa_c (qv 1) (qa_c (qv 0) A5))))) A5))) A5)))
   (B5 (oV (n:=3) sc_l_rules.nd rfl vc8 (U7:CompOk ["_law_script", "_law_cell", "_law_rules_here", "_law_marks"] (C6 Z8).names _ ["_law_k", "_law_script"] 1 [0]) (qi_r1 T.b_range (qa_c (qe_op (q_add (K:=K)) A7 (qe_op q_mod (qe_op eB (vi iG) A7) A7)) A5)) (fun _ _ _ _ _=>E2 (n:=0) (show List.Nodup (["_law_k", "_law_script"]:List Str) by decide +kernel) rfl (Or.inl rfl)) (fun _ _ _ _ _=>g6) (fun _ _ _ _ _=>(D7 G_l_sign (hm hr) (qa_c (qv 1) (qa_c (qe_op (q_add (K:=K)) A7 (qv 0)) A5)))))
   (B5 (N4 (qe_mB (K:=K) O5 R3 R1 R7 (vi cD) (qa_c (qe_op (q_add (K:=K)) (P0 (qa_c M3 A5)) (qe_cT (kW (K:=K)) T.b_tuple kL (qa_c (vi vc5) A5))) A5)))
   (xA (qs_if (G1 (q_eq (K:=K) hu) (qe_op q_mod (qe_op eB (vi iG) A7) A7) A7) (C1 (N4 (qe_mB (K:=K) O5 R3 R1 R7 (vi cD) (qa_c (P0 (qa_c M3 (qa_c (qe_ix (K:=K) (qe_ix (K:=K) (vi cD) A7) (qe_op (q_add (K:=K)) A7 (qe_op q_mod (qe_op eB (vi iG) A7) (qe_op q_sub (qe_cB (q_len (K:=K)) T.b_len W2 (qa_c (qe_ix (K:=K) (vi cD) A7) A5)) A7)))) (qa_c (D7 G_l_sign (hm hr) (qa_c (vi rC) (qa_c A7 A5))) A5)))) A5)))) N0)
   (B5 (qs_if (G1 (q_eq (K:=K) hu) (qe_op q_mod (qe_op eB (vi iG) A7) A7) A7) (C1 (N4 (qe_mB (K:=K) O5 R3 R1 R7 (vi cD) (qa_c (P0 (qa_c M3 (qa_c (D7 G_l_sign (hm hr) (qa_c (vi rC) (qa_c A7 A5))) (qa_c (qe_ix (K:=K) (qe_ix (K:=K) (vi cD) A7) (qe_un q_neg A7)) (qa_c (qe_ix (K:=K) (vi vc5) A7) A5))))) A5)))) N0)
   (C1 (E4 (vi cD))))))))),?_⟩
  obtain ⟨a,ns,rfl,hS,q⟩:=h;walk_at "rd";refine ⟨a,ns,2,rfl,hS,by decide,by decide,fun p np=>⟨_,rfl,by lia,by lia,?_⟩⟩;generalize cellF ns 2=c;have S1:Same H (A0 H p (.tup [V.str (Str.ofString "row")])):=Same.new np;have Y3:A0 H p (.tup [V.str (Str.ofString "row")]) p=some (.tup [V.str (Str.ofString "row")]):=A6;generalize A0 H p (.tup [V.str (Str.ofString "row")])=H1 at S1 Y3;obtain ⟨n,hn⟩:∃ n,n=(1+c % 6).toNat:=⟨_,rfl⟩
  obtain ⟨m,hm⟩:∃ m,m=(1+c / 6 % 3).toNat:=⟨_,rfl⟩
  rw [<- hn];refine compR [some (.ref a)] rfl (fun D j ys H4=>ys=(ls34 ns j).map V.str/\Same H1 H4) (fun D nD=>⟨rfl,Same.new nD⟩) ?_ ?_
  .rintro D j ys H4 nD hi ⟨rfl,S⟩ hD hy;walk_at "rd";refine ⟨a,ns,_,rfl,(S1.trans S).seq hS,by lia,fun H5 S5=>⟨S5 _ _ hD,G7 (by lia),CW.put hi hy ⟨?_,(S.trans S5).put nD⟩⟩⟩;unfold ls34;rw [List.range_succ,Int.zero_add];simp [R0]
  rintro D ys H2 nD ⟨rfl,S2⟩ hD hy;have fH:(ls34 ns n).length=n:=by unfold ls34;simp
  have hln:ls34 ns n≠[]:=fun e=>by rw [e] at fH;simp at fH;lia
  walk_at "rd";refine rTupR.l (.of hD) fun t nt=>?_
  walk_at "rd";refine rAddR.t (.of (D0 (S2 _ _ Y3) nt)) (.of A6) (by simp) (by simp only [A8,G5,V9];exact Z3 (by lia)) (fun e=>absurd (List.map_eq_nil_iff.mp e) hln) fun _ t2 cX=>⟨by decide,fun r nr=>⟨by lia,by lia,?_⟩⟩
  rw [<- hm];have S3:Same H2 (A0 (A0 (A0 H2 t (.tup ((ls34 ns n).map V.str))) t2 (.tup ([V.str (Str.ofString "row")]++(ls34 ns n).map V.str))) r (.lst [V.ref t2])):=((Same.new nt).trans (Same.new cX)).trans (Same.new nr);have ntr:r≠t2:=fun e=>by rw [e,A6] at nr;cases nr
  have RA:RulesAt H (A0 (A0 (A0 H2 t (.tup ((ls34 ns n).map V.str))) t2 (.tup ([V.str (Str.ofString "row")]++(ls34 ns n).map V.str))) r (.lst [V.ref t2])) r [t2] [(("row" : Str),ls34 ns n)]:=by
   have S03:=(S1.trans S2).trans (Same.new (u:=HO.tup ((ls34 ns n).map V.str)) nt);refine ⟨⟨A6,.cons (by rw [A9 ntr.symm,A6];rfl) .nil⟩,by simpa using ntr,fun b hb=>?_,(S1.trans S2).trans S3⟩
   rcases E8.mp hb with rfl | hb
   .exact (S03.trans (Same.new cX)).free nr
   .rw [E6.mp hb];exact S03.free cX
  generalize A0 (A0 (A0 H2 t (.tup ((ls34 ns n).map V.str))) t2 (.tup ([V.str (Str.ofString "row")]++(ls34 ns n).map V.str))) r (.lst [V.ref t2])=H3 at S3 RA;clear S3 nr cX nt hD nD S2 S1 Y3 np;refine compR [some (.ref a)] rfl (fun D j ys H4=>ys=(ms34 ns j).map V.str/\Same H3 H4) (fun D nD=>⟨rfl,Same.new nD⟩) ?_ ?_
  .rintro D j ys H4 nD hi ⟨rfl,S⟩ hD hy;walk_at "rd";refine ⟨a,ns,_,rfl,(RA.same.trans S).seq hS,by lia,fun H5 S5=>⟨S5 _ _ hD,G7 (by lia),CW.put hi hy ⟨?_,(S.trans S5).put nD⟩⟩⟩;unfold ms34;rw [List.range_succ,Int.zero_add];simp [R0]
  rintro D ys H4 nD ⟨rfl,S4⟩ hD sU;have mW:(ms34 ns m).length=m:=by unfold ms34;simp
  have hmn:ms34 ns m≠[]:=fun e=>by rw [e] at mW;simp at mW;lia
  have nDr:D≠r:=fun e=>by rw [e,RA.rows.top] at nD;cases nD
  replace RA:=RA.more S4
  walk_at "rd";refine ⟨O3 RA.rows.top,by decide,fun p1 J7=>?_⟩;refine rTupR.l (.of (D0 hD J7)) fun t3 tX=>?_
  walk_at "rd";refine rAddR.t (.of (D0 A6 tX)) (.of A6) (by simp) (by simp only [A8,G5,V9];exact Z3 (by lia)) (fun e=>absurd (List.map_eq_nil_iff.mp e) hmn) fun _ t4 tY=>?_
  have S5:=(Same.new (u:=HO.tup [V.str (Str.ofString "marks")]) J7).trans (Same.new (u:=HO.tup ((ms34 ns m).map V.str)) tX);have n4:=S5.free tY;have S6:=S5.trans (Same.new (u:=HO.tup ([V.str (Str.ofString "marks")]++(ms34 ns m).map V.str)) tY);have h46:A0 (A0 (A0 H4 p1 (HO.tup [V.str (Str.ofString "marks")])) t3 (HO.tup ((ms34 ns m).map V.str))) t4 (HO.tup ([V.str (Str.ofString "marks")]++(ms34 ns m).map V.str)) t4=some (tupR (("marks" : Str),ms34 ns m)):=A6;generalize A0 (A0 (A0 H4 p1 (HO.tup [V.str (Str.ofString "marks")])) t3 (HO.tup ((ms34 ns m).map V.str))) t4 (HO.tup ([V.str (Str.ofString "marks")]++(ms34 ns m).map V.str))=H6 at S6 h46;refine appOk (S6 _ _ RA.rows.top) (show 1<sizeLine by decide) ?_;have RB:=RA.grow S6 n4 h46;have hD6:A0 H6 r (.lst ([t2].map V.ref++[V.ref t4])) D=some (.lst ((ms34 ns m).map V.str)):=by rw [A9 nDr];exact S6 _ _ hD
  generalize A0 H6 r (.lst ([t2].map V.ref++[V.ref t4]))=H7 at RB hD6;clear RA S6 S5 S4 h46 n4 tY tX J7 hD nD;have h27:H7 t2=some (.tup ((("row" : Str)::ls34 ns n).map V.str)):=by
   have z:=RB.rows.row
   cases z with
   | cons z _=>exact z
  refine xB (fun O H8=>∃ (ts:List Addr) (G:List Rl),O=[some (.ref a),some (.int c),some (.ref r),some (.ref D)]/\RulesAt H H8 r (t2::ts) ((("row" : Str),ls34 ns n)::(("marks" : Str),ms34 ns m)::G)/\ts.length<=2/\(G=[]\/∃ p,p∈ls34 ns n/\G=[(("great" : Str),[p,R0 ns 20])])/\H8 D=some (.lst ((ms34 ns m).map V.str))/\H8 t2=some (.tup ((("row" : Str)::ls34 ns n).map V.str))) ?_ ?_
  .walk_at "rd";refine iteD (fun _=>⟨O3 RB.rows.top,_,.inl (.of RB.rows.top),_,Q3 _ _,_,.inl (.of RB.rows.top),_,Q3 _ _,?_⟩) fun _=>⟨[t4],[],RB,by simp,.inl rfl,hD6,h27⟩
   walk_at "rd";obtain ⟨p2,Y1,L9⟩:=amR (w:=("row" : Str)) (ls:=ls34 ns n) (i:=c / 36 % (ls34 ns n).length) (Int.emod_nonneg _ (by lia)) (Int.emod_lt_of_pos _ (by lia));refine ⟨(ls34 ns n).length+1,.inr (.inl ⟨_,.of h27,by simp⟩),by lia,_,.inr (.of h27),V.str p2,?_,a,ns,20,rfl,RB.same.seq hS,by decide,fun H9 S9=>⟨by decide,fun p1 J7=>?_⟩⟩
   .rw [show (((ls34 ns n).length+1:Nat):Int)-1=(ls34 ns n).length by lia];exact L9
   have R9:=RB.more S9;have h10:A0 H9 p1 (HO.tup [V.str (Str.ofString "great"),V.str p2,V.str (one (sgnF ns 20))]) p1=some (tupR (("great" : Str),[p2,R0 ns 20])):=A6;have RC:=R9.grow (Same.new J7) J7 h10;have h2r:t2≠r:=fun e=>by rw [e,RB.rows.top] at h27;cases h27
   refine appOk (D0 R9.rows.top J7) (show 2<sizeLine by decide) ⟨[t4]++[p1],[(("great" : Str),[p2,R0 ns 20])],RC,by simp,.inr ⟨p2,Y1,rfl⟩,by rw [A9 nDr];exact D0 (S9 _ _ hD6) J7,by rw [A9 h2r];exact D0 (S9 _ _ h27) J7⟩
  rintro O H8 ⟨ts,G,rfl,R8,tl,hG,hD8,h28⟩;walk_at "rd";refine iteD (fun _=>⟨O3 R8.rows.top,a,ns,21,rfl,R8.same.seq hS,by decide,fun H9 S9=>⟨_,.inl (.of (S9 _ _ R8.rows.top)),_,Q3 _ _,?_⟩⟩) fun _=>?_
  .walk_at "rd";obtain ⟨p2,Y1,L9⟩:=aou (w:=("row" : Str)) hln;obtain ⟨m0,mr,hme⟩:∃ m0 mr,ms34 ns m=m0::mr:=by
    cases e:ms34 ns m with
    | nil=>exact absurd e hmn
    | cons x y=>exact ⟨_,_,rfl⟩
   refine ⟨_,.inr (.of (S9 _ _ h28)),_,L9,?_⟩;refine ⟨_,.inl (.of (S9 _ _ hD8)),V.str m0,by rw [hme];exact Q3 _ _,by decide,fun p1 J7=>?_⟩;have R9:=R8.more S9;have h10:A0 H9 p1 (HO.tup [V.str (Str.ofString "as"),V.str (one (sgnF ns 21)),V.str p2,V.str m0]) p1=some (tupR (("as" : Str),[R0 ns 21,p2,m0])):=A6;refine appOk (D0 R9.rows.top J7) (by rw [A8];exact G7 (by simp;lia)) ?_;have RC:=R9.grow (Same.new J7) J7 h10;refine q r _ _ _ G [(("as" : Str),[R0 ns 21,p2,m0])] _ (RC.new r K1) RC.same RC.rows ?_;exact sh_of (by lia) (by lia) (by lia) (by lia) hG (.inr ⟨p2,m0,Y1,by rw [hme];exact K1,rfl⟩)
  .refine q r _ _ _ G [] _ (R8.new r K1) R8.same (by unfold E3;rw [M0];exact R8.rows) ?_;exact sh_of (by lia) (by lia) (by lia) (by lia) hG (.inl rfl)
theorem sc_l_text:FnScope ["_law_script", "_law_rules_here", "_law_marks", "_law_others", "_law_rule", "_law_text_here", "_law_cell"] ["_law_script", "_law_rules_here"] (C6 V6):=G2
abbrev cE:List Str:=["_law_script", "_law_rules_here", "_law_marks", "_law_others", "_law_rule", "_law_text_here", "_law_cell"]
theorem vc9:VS cE V6 "_law_script" 0:=vq
theorem rD:VS cE V6 "_law_rules_here" 1:=vq
theorem vdb:VS cE V6 "_law_marks" 2:=vq
theorem rE:VS cE V6 "_law_others" 3:=vq
theorem vdd:VS cE V6 "_law_rule" 4:=vq
theorem rF:VS cE V6 "_law_text_here" 5:=vq
theorem rG:VS cE V6 "_law_cell" 6:=vq
theorem vdg:LS V6 "_law_marks":=lq
theorem vdh:LS V6 "_law_others":=lq
theorem vdi:LS V6 "_law_rule":=lq
theorem rH:LS V6 "_law_text_here":=lq
theorem vdk:LS V6 "_law_cell":=lq
theorem ajy(F:FunD K "_law_text" "_law_text" V6 f fd)(T:Txt P w K mg C):FnOk P w K mg base E5 1 f fd ["_law_script", "_law_rules_here"] (spT34 K):=by
 refine F.ok sc_l_text ?_ ?_
 .rintro _ _ _ _ ⟨a,r,ns,ts,ls,ms,G,A,rfl,_⟩;rfl
 .intro cdv A outer s H vs Q E hr h;have C7:=hu_of hr;have hu:=hr.units;refine ⟨_,QSs.out (B5 (E9 (n:=2) sc_l_text.nd rfl vdg (qe_cT (z0 (K:=K) (calm:=true)) T.b_list q0 (qa_c (P1 (K:=K) (qe_ix (K:=K) (vi rD) A7) (M7 A7) V4) A5)))
   (B5 (E9 (n:=3) sc_l_text.nd rfl vdh (qe_cT (z0 (K:=K) (calm:=true)) T.b_list q0 (qa_c (P1 (K:=K) (qe_ix (K:=K) (vi rD) A7) (M7 A7) V4) A5)))
   (B5 (N9 PassesOwn.never (O0 (K:=K) (P1 (K:=K) (vi rD) (M7 A7) V4)) (E2 (n:=4) sc_l_text.nd rfl vdi (.inl rfl)) (C1 (N4 (qe_mB (K:=K) O5 R3 R1 R7 (vi rE) (qa_c (qe_ix (K:=K) (vi vdd) (qe_ix (K:=K) (M4 (qa_c A7 (qa_c A7 A5))) (qe_cT zI T.b_int wJ (qa_c (kQ (q_eq (K:=K) hu) (qe_ix (K:=K) (vi vdd) A7) M3) A5)))) A5)))))
   (B5 (E9 (n:=5) sc_l_text.nd rfl rH M3)
   (B5 (N9 PassesOwn.never (O0 (K:=K) (P1 (K:=K) (vi vc9) (M7 A7) (M7 A7))) (E2 (n:=6) sc_l_text.nd rfl vdk (.inl rfl)) (C1 (qs_if (G1 q_lt (qe_op q_mod (vi rG) A7) A7) (C1 (E9 (n:=5) sc_l_text.nd rfl rH (qe_op (q_add (K:=K)) (vi rF) (qe_ix (K:=K) (vi vdb) (qe_op q_mod (qe_op eB (vi rG) A7) (qe_cB (q_len (K:=K)) T.b_len W2 (qa_c (vi vdb) A5))))))) (C1 (E9 (n:=5) sc_l_text.nd rfl rH (qe_op (q_add (K:=K)) (vi rF) (qe_ix (K:=K) (vi rE) (qe_op q_mod (qe_op eB (vi rG) A7) (qe_cB (q_len (K:=K)) T.b_len W2 (qa_c (vi rE) A5))))))))))
   (C1 (E4 (vi rF)))))))),?_⟩
  obtain ⟨a,r,ns,ts,ls,ms,G,A,rfl,hS,hR,sh,q⟩:=h;obtain ⟨p0,p1,ts',rfl,h0,h1,hP⟩:∃ p0 p1 ts',ts=p0::p1::ts'/\H p0=some (tupR (("row" : Str),ls))/\H p1=some (tupR (("marks" : Str),ms))/\Paired (fun t z=>H t=some (tupR z)) ts' (G++A):=by
   have h:=hR.row;cases h with
   | cons a1 h=>cases h with
    | cons a2 h=>exact ⟨_,_,_,rfl,a1,a2,h⟩
  have cL:=sh.l1;have fC:=sh.m1;walk_at "rd";refine ⟨_,.inl (.of hR.top),_,Q2 (j:=1) rfl,?_⟩;walk_at "rd";refine rSlR.t (.of h1) (Z5 (by decide) (by simp)) fun x nx=>?_
  rw [show cutV ((("marks" : Str)::ms).map V.str) (some 1) none=ms.map V.str from m3 _ 1];have S1:Same H (A0 H x (.tup (ms.map V.str))):=Same.new nx;have tZ:A0 H x (.tup (ms.map V.str)) x=some (.tup (ms.map V.str)):=A6;generalize A0 H x (.tup (ms.map V.str))=H1 at S1 tZ;walk_at "rd";refine rListR.l (.inr (.of tZ)) fun ma nm=>?_
  have S2:Same H (A0 H1 ma (.lst (ms.map V.str))):=S1.trans (Same.new nm);have b0:A0 H1 ma (.lst (ms.map V.str)) ma=some (.lst (ms.map V.str)):=A6;generalize A0 H1 ma (.lst (ms.map V.str))=H2 at S2 b0;refine ⟨_,.inl (.of (S2 _ _ hR.top)),_,Q3 _ _,?_⟩;walk_at "rd";refine rSlR.t (.of (S2 _ _ h0)) (Z5 (by decide) (by simp)) fun x nx=>?_
  rw [show cutV ((("row" : Str)::ls).map V.str) (some 1) none=ls.map V.str from m3 _ 1];have S3:Same H2 (A0 H2 x (.tup (ls.map V.str))):=Same.new nx;have uA:A0 H2 x (.tup (ls.map V.str)) x=some (.tup (ls.map V.str)):=A6;generalize A0 H2 x (.tup (ls.map V.str))=H3 at S3 uA;walk_at "rd";refine rListR.l (.inr (.of uA)) fun oa no=>?_
  have noH:H oa=none:=(S2.trans S3).free no;have S4:Same H (A0 H3 oa (.lst (ls.map V.str))):=(S2.trans S3).trans (Same.new no);have mY:A0 H3 oa (.lst (ls.map V.str)) oa=some (.lst (ls.map V.str)):=A6;have nmo:ma≠oa:=fun e=>by rw [<- e,S3 _ _ b0] at no;cases no
  have mZ:A0 H3 oa (.lst (ls.map V.str)) ma=some (.lst (ms.map V.str)):=by rw [A9 nmo];exact S3 _ _ b0
  generalize A0 H3 oa (.lst (ls.map V.str))=H4 at S4 mY mZ;clear S1 S2 S3 tZ uA b0 no nm nx;refine rSlR.l (.of (S4 _ _ hR.top)) fun b nb=>⟨_,rfl,?_⟩
  rw [show cutV ((p0::p1::ts').map V.ref) (some 2) none=ts'.map V.ref from m3 _ 2];have nbo:b≠oa:=fun e=>by rw [e,mY] at nb;cases nb
  have nbm:ma≠b:=fun e=>by rw [<- e,mZ] at nb;cases nb
  have S5:=S4.trans (Same.new (u:=HO.lst (ts'.map V.ref)) nb);have uB:A0 H4 b (HO.lst (ts'.map V.ref)) b=some (.lst (ts'.map V.ref)):=A6;have ho5:=D0 (u:=HO.lst (ts'.map V.ref)) mY nb;have fK:=D0 (u:=HO.lst (ts'.map V.ref)) mZ nb;generalize A0 H4 b (HO.lst (ts'.map V.ref))=H5 at S5 uB ho5 fK;clear S4 mY mZ nb;have sK:ts'.length<=2:=by
   rw [Paired.length hP,C8]
   have:G.length<=1:=by rcases sh.g with rfl | ⟨p,f,_,rfl⟩ <;> simp
   have:A.length<=1:=by rcases sh.a with rfl | ⟨x,p,m,_,_,rfl⟩ <;> simp
   lia
  refine ⟨⟨_,.of uB⟩,forL (xs:=ts'.map V.ref) (fun i O H'=>∃ (u:Option V) (os:List Str),O=[some (.ref a),some (.ref r),some (.ref ma),some (.ref oa),u,none,none]/\Same H H'/\H' b=some (.lst (ts'.map V.ref))/\H' ma=some (.lst (ms.map V.str))/\H' oa=some (.lst (os.map V.str))/\os≠[]/\os.length<=6+i/\∀ p∈os,p∈ls++ms++gP G++aP A)
   ⟨none,ls,rfl,S5,uB,fK,ho5,sh.l0,by lia,fun p hp=>N8 _ (N8 _ (N8 _ hp))⟩ (by rintro i O H' _ ⟨_,_,_,_,hb,_⟩;exact .of hb) ?_ ?_⟩
  .rintro i x O H' hx ⟨u,os,rfl,S,hb,hm,ho,on,ol,om⟩;obtain ⟨t,ht,rfl⟩:=G8 hx;have hi:=(K0.mp ht).1;obtain ⟨z,hz,mN⟩:=Paired.at hP ht;obtain ⟨p,hp,L9⟩:∃ p,p∈ls++ms++gP G++aP A/\F7 ((z.1::z.2).map V.str) (if decide (z.1=("as" : Str))=true then 1 else 2)=some (V.str p):=by
    rcases F9.mp (N7 hz) with hz | hz
    .rcases sh.g with e | ⟨p,f,_,e⟩
     .rw [e] at hz;cases hz
     .rw [e] at hz;rw [E6.mp hz,if_neg (by rw [decide_eq_true_iff];exact (by decide +kernel:¬ Str.ofString "great"=Str.ofString "as"))];exact ⟨f,N8 _ (N3 _ (by rw [e];exact K1)),Q2 (j:=2) rfl⟩
    .rcases sh.a with e | ⟨x,p,m,_,_,e⟩
     .rw [e] at hz;cases hz
     .rw [e] at hz;rw [E6.mp hz,if_pos (decide_eq_true rfl)];exact ⟨x,N3 _ (by rw [e];exact K1),Q2 (j:=1) rfl⟩
   have jQ:=S _ _ mN;have uC:F7 [V.int 2,V.int 1] (if decide (z.1=("as" : Str))=true then 1 else 0)=some (V.int (if decide (z.1=("as" : Str))=true then 1 else 2)):=by
    cases decide (z.1=("as" : Str)) <;> rfl
   walk_at "rd";refine ⟨O3 ho,by decide,fun q nq=>⟨_,.inr (.of (D0 jQ nq)),_,Q3 _ _,?_⟩⟩;walk_at "rd";refine ⟨_,.inl (.of A6),_,uC,?_⟩;walk_at "rd";refine ⟨_,.inr (.of (D0 jQ nq)),_,L9,appOk (D0 ho nq) (by rw [A8];exact G7 (by lia)) ?_⟩;refine ⟨((S.trans (Same.new nq)).put noH),by rw [A9 nbo];exact D0 hb nq,by rw [A9 nmo];exact D0 hm nq,os++[p],by rw [A6,D9];rfl,by simp,by rw [C8,T9];lia,fun y hy=>?_⟩
   rcases F9.mp hy with h | h
   .exact om y h
   .rw [E6.mp h];exact hp
  rintro O H' ⟨u,os,rfl,S,hb,hm,ho,on,ol,om⟩;walk_at "rd";refine rSlR.l (S.seq hS) fun c nc=>⟨_,rfl,?_⟩
  rw [show cutV (ns.map V.int) (some 4) (some 44)=((ns.drop 4).take 40).map V.int by rw [show cutV (ns.map V.int) (some 4) (some 44)=_ from pR _ (i:=4) (j:=44) (by decide),<- List.map_drop,<- List.map_take]];have jI:((ns.drop 4).take 40).length<=40:=by rw [K5];lia
  generalize (ns.drop 4).take 40=cs at jI;have S6:=S.trans (Same.new (u:=HO.lst (cs.map V.int)) nc);have uD:A0 H' c (.lst (cs.map V.int)) c=some (.lst (cs.map V.int)):=A6;have uE:=D0 (u:=HO.lst (cs.map V.int)) ho nc;have uF:=D0 (u:=HO.lst (cs.map V.int)) hm nc;generalize A0 H' c (.lst (cs.map V.int))=H6 at S6 uD uE uF;clear S hb hm ho nc;have hon:∀ {z:Str} {p:Str},z.length<=40->p∈ls++ms++gP G++aP A->(∀ c∈z.cps.toList,one c∈ls++ms++gP G++aP A)->z.length+p.length<=sizeLine/\(z++p).length=z.length+1/\∀ c∈(z++p).cps.toList,one c∈ls++ms++gP G++aP A:=fun {z p} hz hp h=>by
   obtain ⟨c,rfl,_⟩:=sh.on p hp;refine ⟨Z3 (by show z.length+1<=_;lia),by rw [Str.length_append];rfl,fun d hd=>?_⟩;rw [Str.cps_append,Array.toList_append] at hd
   rcases F9.mp hd with hd | hd
   .exact h d hd
   .rw [E6.mp (show d∈[c] from hd)];exact hp
  refine ⟨⟨_,.of uD⟩,forL (xs:=cs.map V.int) (fun i O H'=>∃ (u6:Option V) (z:Str),O=[some (.ref a),some (.ref r),some (.ref ma),some (.ref oa),u,some (.str z),u6]/\Same H6 H'/\z.length=i/\∀ c∈z.cps.toList,one c∈ls++ms++gP G++aP A)
   ⟨none,Str.ofString "",rfl,Same.refl _,rfl,by intro c hc;cases hc⟩ (by rintro i O H' _ ⟨_,_,_,S,_⟩;exact .of (S _ _ uD)) ?_ ?_⟩
  .rintro i x O H' hx ⟨u6,z,rfl,S,hz,i9⟩;obtain ⟨k,hk,rfl⟩:=G8 hx;have hi:=(K0.mp hk).1;walk_at "rd";refine iteD (fun _=>⟨ms.length,.inl ⟨_,.of (S _ _ uF),by rw [A8]⟩,(lQ sh.m0 0).1,?_⟩) fun _=>⟨os.length,.inl ⟨_,.of (S _ _ uE),by rw [A8]⟩,(lQ on 0).1,?_⟩
   .obtain ⟨p,hp,L9⟩:=(lQ sh.m0 (k / 5)).2;obtain ⟨g1,g2,g3⟩:=hon (z:=z) (by rw [A8] at *;lia) (N8 _ (N8 _ (N3 _ hp))) i9;exact ⟨_,.inl (.of (S _ _ uF)),_,L9,g1,_,_,rfl,rfl,S,by rw [g2,hz],g3⟩
   .obtain ⟨p,hp,L9⟩:=(lQ on (k / 5)).2;obtain ⟨g1,g2,g3⟩:=hon (z:=z) (by rw [A8] at *;lia) (om p hp) i9;exact ⟨_,.inl (.of (S _ _ uE)),_,L9,g1,_,_,rfl,rfl,S,by rw [g2,hz],g3⟩
  rintro O H' ⟨u6,z,rfl,S,hz,i9⟩;walk_at "rd";exact q z _ (S6.trans S) (by rw [hz,A8];exact jI) i9
theorem sc_l_levels:FnScope ["_law_numbers", "_law_levels_here", "_law_number"] ["_law_numbers"] (C6 aI):=G2
abbrev rJ:List Str:=["_law_numbers", "_law_levels_here", "_law_number"]
theorem vdl:VS rJ aI "_law_numbers" 0:=vq
theorem rK:VS rJ aI "_law_levels_here" 1:=vq
theorem vdn:VS rJ aI "_law_number" 2:=vq
theorem vdo:LS aI "_law_levels_here":=lq
theorem vdp:LS aI "_law_number":=lq
theorem agW(F:FunD K "_law_levels" "_law_levels" aI f fd)(T:Txt P w K mg C):FnOk P w K mg base E5 1 f fd ["_law_numbers"] (spPr false 0):=by
 refine F.ok sc_l_levels ?_ ?_
 .rintro _ _ _ _ ⟨a,xs,rfl,_⟩;rfl
 .intro cdv A outer s H vs Q E hr h;have C7:=hu_of hr;have hu:=hr.units;refine ⟨_,QSs.out (B5 (E9 (n:=1) sc_l_levels.nd rfl vdo (M4 (qa_c (M4 A5) A5)))
   (B5 (N9 PassesOwn.never (O0 (K:=K) (vi vdl)) (E2 (n:=2) sc_l_levels.nd rfl vdp (.inl rfl)) (C1 (qs_if (G1 (q_eq (K:=K) hu) (vi vdn) A7) (C1 (N4 (qe_mB (K:=K) O5 R3 R1 R7 (vi rK) (qa_c (M4 A5) A5)))) (C1 (N4 (qe_mB (K:=K) O5 R3 R1 R7 (qe_ix (K:=K) (vi rK) (qe_un q_neg A7)) (qa_c (vi vdn) A5)))))))
   (C1 (E4 (vi rK))))),?_⟩
  obtain ⟨a,xs,rfl,ha,B3,q⟩:=h;walk_at "rd";refine fun pl npl=>⟨by decide,fun r nr=>?_⟩
  have I0:PrI H (A0 (A0 H pl (.lst [])) r (.lst [V.ref pl])) r [] [] [] pl:=PrI.init npl nr;generalize A0 (A0 H pl (.lst [])) r (.lst [V.ref pl])=H1 at I0;refine ⟨⟨_,.of (I0.same _ _ ha)⟩,forL (xs:=xs.map V.int) (fun i O H'=>∃ (u:Option V) (ps:List Addr) (pl:Addr),O=[some (.ref a),some (.ref r),u]/\PrI H H' r (P5 false 0 (xs.take i)).1 (P5 false 0 (xs.take i)).2 ps pl/\(P5 false 0 (xs.take i)).1.length<=i/\(P5 false 0 (xs.take i)).2.length<=i) ⟨none,[],pl,rfl,I0,C3 0,C3 0⟩ (by rintro i O H' _ ⟨_,_,_,_,I,_⟩;exact .of (I.same _ _ ha)) ?_ ?_⟩
  .rintro i x O H' hx ⟨u,ps,pl,rfl,I,b1,b2⟩;obtain ⟨n,hn,rfl⟩:=G8 hx;have hi:=(K0.mp hn).1;have T4:=I.len;rw [ahs hn];generalize P5 false 0 (xs.take i)=s at *;unfold t5;walk_at "rd";have L9:F7 ((ps++[pl]).map V.ref) (-1)=some (V.ref pl):=by rw [D9];exact dQ _ _
   refine iteD (fun e=>⟨O3 I.top,fun p np=>appOk (D0 I.top np) (by rw [A8,C8,T9];exact G7 (by lia)) ?_⟩) fun e=>⟨_,.inl (.of I.top),_,L9,O3 I.last,appOk I.last (by rw [A8];exact G7 (by lia)) ?_⟩
   .rw [if_pos e,C8];exact ⟨⟨_,_,I.new np⟩,Nat.succ_le_succ b1,G3 _⟩
   .rw [if_neg e,C8];exact ⟨⟨_,_,I.put n⟩,Nat.le_succ_of_le b1,Nat.succ_le_succ b2⟩
  rintro O H' ⟨u,ps,pl,rfl,I,_,_⟩;rw [A8,K4] at I;walk_at "rd";exact q _ _ _ I.nr I.same I.all
theorem sc_l_rows:FnScope ["_law_numbers", "_law_rows_here", "_law_number"] ["_law_numbers"] (C6 aJ):=G2
abbrev rL:List Str:=["_law_numbers", "_law_rows_here", "_law_number"]
theorem vdq:VS rL aJ "_law_numbers" 0:=vq
theorem rM:VS rL aJ "_law_rows_here" 1:=vq
theorem vds:VS rL aJ "_law_number" 2:=vq
theorem vdt:LS aJ "_law_rows_here":=lq
theorem vdu:LS aJ "_law_number":=lq
theorem ajz(F:FunD K "_law_rows" "_law_rows" aJ f fd)(T:Txt P w K mg C):FnOk P w K mg base E5 1 f fd ["_law_numbers"] (spPr true 1):=by
 refine F.ok sc_l_rows ?_ ?_
 .rintro _ _ _ _ ⟨a,xs,rfl,_⟩;rfl
 .intro cdv A outer s H vs Q E hr h;have C7:=hu_of hr;have hu:=hr.units;refine ⟨_,QSs.out (B5 (E9 (n:=1) sc_l_rows.nd rfl vdt (M4 (qa_c (M4 A5) A5)))
   (B5 (N9 PassesOwn.never (O0 (K:=K) (vi vdq)) (E2 (n:=2) sc_l_rows.nd rfl vdu (.inl rfl)) (B5 (N4 (qe_mB (K:=K) O5 R3 R1 R7 (qe_ix (K:=K) (vi rM) (qe_un q_neg A7)) (qa_c (vi vds) A5)))
   (C1 (qs_if (G1 (q_eq (K:=K) hu) (vi vds) A7) (C1 (N4 (qe_mB (K:=K) O5 R3 R1 R7 (vi rM) (qa_c (M4 A5) A5)))) N0))))
   (C1 (E4 (vi rM))))),?_⟩
  obtain ⟨a,xs,rfl,ha,B3,q⟩:=h;walk_at "rd";refine fun pl npl=>⟨by decide,fun r nr=>?_⟩
  have I0:PrI H (A0 (A0 H pl (.lst [])) r (.lst [V.ref pl])) r [] [] [] pl:=PrI.init npl nr;generalize A0 (A0 H pl (.lst [])) r (.lst [V.ref pl])=H1 at I0;refine ⟨⟨_,.of (I0.same _ _ ha)⟩,forL (xs:=xs.map V.int) (fun i O H'=>∃ (u:Option V) (ps:List Addr) (pl:Addr),O=[some (.ref a),some (.ref r),u]/\PrI H H' r (P5 true 1 (xs.take i)).1 (P5 true 1 (xs.take i)).2 ps pl/\(P5 true 1 (xs.take i)).1.length<=i/\(P5 true 1 (xs.take i)).2.length<=i) ⟨none,[],pl,rfl,I0,C3 0,C3 0⟩ (by rintro i O H' _ ⟨_,_,_,_,I,_⟩;exact .of (I.same _ _ ha)) ?_ ?_⟩
  .rintro i x O H' hx ⟨u,ps,pl,rfl,I,b1,b2⟩;obtain ⟨n,hn,rfl⟩:=G8 hx;have hi:=(K0.mp hn).1;have T4:=I.len;rw [ahs hn];generalize P5 true 1 (xs.take i)=s at *;unfold t5;walk_at "rd";have L9:F7 ((ps++[pl]).map V.ref) (-1)=some (V.ref pl):=by rw [D9];exact dQ _ _
   refine ⟨_,.inl (.of I.top),_,L9,O3 I.last,appOk I.last (by rw [A8];exact G7 (by lia)) ?_⟩;have I2:=I.put n;refine iteD (fun e=>⟨O3 I2.top,fun p np=>appOk (D0 I2.top np) (by rw [A8,C8,T9];exact G7 (by lia)) ?_⟩) fun e=>?_
   .rw [if_pos e,C8];exact ⟨⟨_,_,I2.new np⟩,Nat.succ_le_succ b1,G3 _⟩
   .rw [if_neg e,C8];exact ⟨⟨_,_,I2⟩,Nat.le_succ_of_le b1,Nat.succ_le_succ b2⟩
  rintro O H' ⟨u,ps,pl,rfl,I,_,_⟩;rw [A8,K4] at I;walk_at "rd";exact q _ _ _ I.nr I.same I.all
theorem sc_law:FnScope ["_law_script", "_law_rules_here", "_law_text_here", "_law_at", "_law_turned", "_law_plain", "_law_one", "_law_other", "_law_ones", "_law_others"] ["_law_script"] (C6 s_law):=G2
abbrev n_law:List Str:=["_law_script", "_law_rules_here", "_law_text_here", "_law_at", "_law_turned", "_law_plain", "_law_one", "_law_other", "_law_ones", "_law_others"]
theorem rN:VS n_law s_law "_law_script" 0:=vq
theorem iH:VS n_law s_law "_law_rules_here" 1:=vq
theorem iI:VS n_law s_law "_law_text_here" 2:=vq
theorem vdy:VS n_law s_law "_law_at" 3:=vq
theorem vdz:VS n_law s_law "_law_turned" 4:=vq
theorem rO:VS n_law s_law "_law_plain" 5:=vq
theorem aK:VS n_law s_law "_law_one" 6:=vq
theorem eW:VS n_law s_law "_law_other" 7:=vq
theorem rP:VS n_law s_law "_law_ones" 8:=vq
theorem vdE:VS n_law s_law "_law_others" 9:=vq
theorem vdF:LS s_law "_law_rules_here":=lq
theorem vdG:LS s_law "_law_text_here":=lq
theorem vdH:LS s_law "_law_at":=lq
theorem vdI:LS s_law "_law_turned":=lq
theorem vdJ:LS s_law "_law_plain":=lq
theorem vdK:LS s_law "_law_one":=lq
theorem vdL:LS s_law "_law_other":=lq
theorem vdM:LS s_law "_law_ones":=lq
theorem vdN:LS s_law "_law_others":=lq
theorem aov(F:FunD K "law" "law" s_law f fd)(T:Txt P w K mg C)(G_Order___init__:KO P w K mg base 5 C "Order" ["self", "rules"] (pT C))(G_key:FO P w K mg base 7 "key" ["order", "text", "strength"] [.int 4] (spKey C))(G3_key:FO P w K mg base 7 "key" ["order", "text", "strength"] [] (spKey C))(G_l_cell_at:FO P w K mg base 1 "_law_cell_at" ["_law_script", "_law_k"] [] (lD K))(G_l_rules:FO P w K mg base 3 "_law_rules" ["_law_script"] [] (spR34 K))(G_l_text:FO P w K mg base 1 "_law_text" ["_law_script", "_law_rules_here"] [] (spT34 K))(G_l_levels:FO P w K mg base 1 "_law_levels" ["_law_numbers"] [] (spPr false 0))(G_l_rows:FO P w K mg base 1 "_law_rows" ["_law_numbers"] [] (spPr true 1)):FnOk P w K mg base E5 8 f fd ["_law_script"] (spLaw K):=by
 refine F.ok sc_law ?_ ?_
 .rintro _ _ _ _ ⟨a,ns,rfl,_⟩;rfl
 .intro cdv A outer s H vs Q E hr h;have C7:=hu_of hr;have hu:=hr.units;refine ⟨_,QSs.out (B5 (E9 (n:=1) sc_law.nd rfl vdF (D7 G_l_rules (hm hr) (qa_c (vi rN) A5)))
   (B5 (E9 (n:=2) sc_law.nd rfl vdG (D7 G_l_text (hm hr) (qa_c (vi rN) (qa_c (vi iH) A5))))
   (B5 (E9 (n:=3) sc_law.nd rfl vdH (qe_op q_mod (D7 G_l_cell_at (hm hr) (qa_c (vi rN) (qa_c A7 A5))) (qe_op (q_add (K:=K)) (qe_cB (q_len (K:=K)) T.b_len W2 (qa_c (vi iH) A5)) A7)))
   (B5 (E9 (n:=4) sc_law.nd rfl vdI (xU G_Order___init__ (hm hr) (qa_c (qe_op (q_add (K:=K)) (qe_op (q_add (K:=K)) (P1 (K:=K) (vi iH) V4 (M7 (vi vdy))) (M4 (qa_c (P0 (qa_c M3 A5)) A5))) (P1 (K:=K) (vi iH) (M7 (vi vdy)) V4)) A5)))
   (B5 (E9 (n:=5) sc_law.nd rfl vdJ (xU G_Order___init__ (hm hr) (qa_c (vi iH) A5)))
   (B5 (E9 (n:=6) sc_law.nd rfl vdK (D7 G_l_levels (hm hr) (qa_c (D7 G_key (hm hr) (qa_c (vi rO) (qa_c (vi iI) A5))) A5)))
   (B5 (E9 (n:=7) sc_law.nd rfl vdL (D7 G_l_levels (hm hr) (qa_c (D7 G_key (hm hr) (qa_c (vi vdz) (qa_c (vi iI) A5))) A5)))
   (B5 (qs_if (QW.pt (qw_or (G1 (q_ne (K:=K) hu) (qe_cB (q_len (K:=K)) T.b_len W2 (qa_c (vi aK) A5)) A7) (qw_or (G1 (q_ne (K:=K) hu) (qe_cB (q_len (K:=K)) T.b_len W2 (qa_c (vi eW) A5)) A7) (qw_or (G1 (q_ne (K:=K) hu) (qe_ix (K:=K) (vi aK) A7) (M4 A5)) (kS (G1 (q_ne (K:=K) hu) (qe_ix (K:=K) (vi eW) A7) (M4 A5))))))) (C1 (E4 qe_bl)) N0)
   (B5 (qs_if (QW.pt (qw_or (G1 (q_ne (K:=K) hu) (qe_ix (K:=K) (vi aK) A7) (qe_ix (K:=K) (vi eW) A7)) (qw_or (G1 (q_ne (K:=K) hu) (qe_ix (K:=K) (vi aK) A7) (qe_ix (K:=K) (vi eW) A7)) (kS (G1 (q_ne (K:=K) hu) (qe_ix (K:=K) (vi aK) A7) (qe_ix (K:=K) (vi eW) A7)))))) (C1 (E4 qe_bl)) N0)
   (B5 (E9 (n:=8) sc_law.nd rfl vdM (D7 G_l_rows (hm hr) (qa_c (qe_ix (K:=K) (vi aK) A7) A5)))
   (B5 (E9 (n:=9) sc_law.nd rfl vdN (D7 G_l_rows (hm hr) (qa_c (qe_ix (K:=K) (vi eW) A7) A5)))
   (B5 (qs_if (QW.pt (qw_or (G1 (q_ne (K:=K) hu) (qe_ix (K:=K) (vi rP) (qe_un q_neg A7)) (M4 A5)) (qw_or (G1 (q_ne (K:=K) hu) (qe_ix (K:=K) (vi vdE) (qe_un q_neg A7)) (M4 A5)) (kS (G1 (q_ne (K:=K) hu) (qe_cB (q_len (K:=K)) T.b_len W2 (qa_c (vi rP) A5)) (qe_op (q_add (K:=K)) (qe_cB (q_len (K:=K)) T.b_len W2 (qa_c (qe_ix (K:=K) (vi aK) A7) A5)) A7)))))) (C1 (E4 qe_bl)) N0)
   (B5 (qs_if (G1 (q_ne (K:=K) hu) (P1 (K:=K) (vi rP) V4 (M7 (qe_un q_neg A7))) (amL T.b_reversed T.b_list (qa_c (P1 (K:=K) (vi vdE) V4 (M7 (qe_un q_neg A7))) A5))) (C1 (E4 qe_bl)) N0)
   (C1 (E4 (wP (kQ (q_eq (K:=K) hu) (D7 G_l_levels (hm hr) (qa_c (D7 G_key (hm hr) (qa_c (vi rO) (qa_c (vi iI) A5))) A5)) (vi aK)) (wO (kQ (q_eq (K:=K) hu) (D7 G3_key (hm hr) (qa_c (vi vdz) (qa_c (vi iI) (qa_c A7 A5)))) (D7 G3_key (hm hr) (qa_c (vi rO) (qa_c (vi iI) (qa_c A7 A5)))))))))))))))))))))),?_⟩
  obtain ⟨a,ns,rfl,hS,B3,q⟩:=h;walk_at "rd";refine ⟨a,ns,rfl,hS,fun r ts ls ms G A H1 nr S1 hR sh=>⟨a,r,ns,ts,ls,ms,G,A,rfl,S1.seq hS,hR,sh,fun z H2 S2 hz i9=>?_⟩⟩;have hR2:=hR.same S2;have hS2:=(S1.trans S2).seq hS;clear hR S1 S2 nr hS;have h4:=sh.len4;have tN:=hR2.len;have htxT:=fun t=>(Lk.ins t (E3 ls ms G A)).txt sh i9
  have htxP:=(Lk.refl (E3 ls ms G A)).txt sh i9;have hgT:=fun t=>(Lk.ins t (E3 ls ms G A)).good sh
  have hgP:=(Lk.refl (E3 ls ms G A)).good sh;have hlT:=fun t (L M:List Str) (h:Q9 (Z9 t (E3 ls ms G A)) "row" L) (h':Q9 (Z9 t (E3 ls ms G A)) "marks" M)=>(Lk.ins t (E3 ls ms G A)).lets sh h h'
  have hlP:=fun (L M:List Str) (h:Q9 (E3 ls ms G A) "row" L) (h':Q9 (E3 ls ms G A) "marks" M)=>(Lk.refl (E3 ls ms G A)).lets sh h h'
  have hbP:hasW (E3 ls ms G A) "behind"=false:=sh.has (by decide +kernel);have hc0:∀ c∈z.cps.toList,0<c:=fun c hc=>by
   obtain ⟨d,e,hd⟩:=sh.on _ (i9 c hc);rw [show c=d from List.singleton_inj.mp (congrArg (fun z:Str=>z.cps.toList) e)];unfold signB at hd;simp only [Y8,decide_eq_true_eq] at hd;lia
  obtain ⟨b1,b2,b3⟩:=agE (sh.steps ls ms) (w:=false) (ks:=G9 (E3 ls ms G A)) (y:=z) (by lia);have hok:=akN (akM (R:=E3 ls ms G A) (L:=ls) (M:=ms)) (cutF false (G9 (E3 ls ms G A)) z.cps.toList).2;generalize Q4 (stepY (E3 ls ms G A) ls ms) (cutF false (G9 (E3 ls ms G A)) z.cps.toList).2=U at htxT htxP b1 b2 b3 hok;generalize pV (E3 ls ms G A)=g at hgT hgP;generalize E3 ls ms G A=B at *;clear i9;walk_at "rd";refine ⟨a,ns,3,rfl,hS2,by decide,B.length,.inl ⟨_,.of hR2.top,by rw [A8,tN]⟩,_,rfl,by lia,?_⟩;obtain ⟨t,ht⟩:∃ t:Nat,cellF ns 3 % ((B.length:Int)+1)=(t:Int):=⟨(cellF ns 3 % ((B.length:Int)+1)).toNat,by
   have:=Int.emod_nonneg (cellF ns 3) (show ((B.length:Int)+1)≠0 by lia)
   lia⟩
  rw [ht];refine rSlR.l (.of hR2.top) fun l1 uG=>?_
  rw [oZ,<- List.map_take];have A1:=amI hR2 t uG;have S3:Same H2 (A0 H2 l1 (.lst ((ts.take t).map V.ref))):=Same.new uG;generalize A0 H2 l1 (.lst ((ts.take t).map V.ref))=H3 at A1 S3;refine ⟨by decide,fun pb npb=>⟨by decide,fun lb nlb=>?_⟩⟩;have B1:IsRules (A0 (A0 H3 pb (.tup [V.str (Str.ofString "behind")])) lb (.lst [V.ref pb])) lb [pb] [(("behind" : Str),[])]:=⟨A6,.cons (D0 A6 nlb) .nil⟩
  have S4:Same H3 (A0 (A0 H3 pb (.tup [V.str (Str.ofString "behind")])) lb (.lst [V.ref pb])):=(Same.new npb).trans (Same.new nlb);generalize A0 (A0 H3 pb (.tup [V.str (Str.ofString "behind")])) lb (.lst [V.ref pb])=H4 at B1 S4;walk_at "rd";refine rAddR.l (A1.same S4).top B1.top (by simp only [A8,K5,G5,V9];exact Z3 (by lia)) fun l2 uH=>?_
  have A2:=(A1.same S4).cat B1 uH;have S5:Same H4 (A0 H4 l2 (.lst ((ts.take t).map V.ref++[pb].map V.ref))):=Same.new uH;generalize A0 H4 l2 (.lst ((ts.take t).map V.ref++[pb].map V.ref))=H5 at A2 S5;have hR5:=hR2.same (S3.trans (S4.trans S5));refine rSlR.l (.of hR5.top) fun l3 uI=>?_
  rw [m3,<- List.map_drop];have A3:=ajh hR5 t uI;have S6:Same H5 (A0 H5 l3 (.lst ((ts.drop t).map V.ref))):=Same.new uI;generalize A0 H5 l3 (.lst ((ts.drop t).map V.ref))=H6 at A3 S6;walk_at "rd";refine rAddR.l (A2.same S6).top A3.top (by simp only [A8,K5,C8,k5,G5,V9];exact Z3 (by lia)) fun l4 uJ=>?_
  have A4:IsRules _ l4 _ (Z9 t B):=(A2.same S6).cat A3 uJ;have S7:Same H6 (A0 H6 l4 (.lst ((ts.take t++[pb]).map V.ref++(ts.drop t).map V.ref))):=Same.new uJ;generalize A0 H6 l4 (.lst ((ts.take t++[pb]).map V.ref++(ts.drop t).map V.ref))=H7 at A4 S7;have hR7:=hR5.same (S6.trans S7);clear A1 A2 A3 B1 S3 S4 S5 S6 S7 hR5 hR2 uG uH uI uJ npb nlb hS2;intro x dx nx ndx ndxx;have S8:Same H7 (A0 (A0 H7 dx (.own x)) x (.ins C dx [])):=(Same.new ndx).trans (Same.new (by rw [A9 ndxx.symm];exact nx));have jN:A0 (A0 H7 dx (.own x)) x (.ins C dx []) x=some (.ins C dx []):=A6;generalize A0 (A0 H7 dx (.own x)) x (.ins C dx [])=H8 at S8 jN;refine ⟨x,dx,l4,_,Z9 t B,g,_,_,rfl,jN,A4.same S8,hgT t,fun j ll ml md L M H9 nj nll nml nmd B9 hO=>⟨rfl,fun x2 bB uK ndx2 ndxx2=>?_⟩⟩;obtain ⟨eL,eM⟩:=hlT t L M hO.l1 hO.l2;rw [eL,eM] at hO;have S79:Same H7 H9:=fun b o hb=>B9 _ _ (fun e=>by rw [e,nx] at hb;cases hb) (S8 _ _ hb)
  have O1:Same H9 (A0 (A0 H9 bB (.own x2)) x2 (.ins C bB [])):=(Same.new ndx2).trans (Same.new (by rw [A9 ndxx2.symm];exact uK));have cY:A0 (A0 H9 bB (.own x2)) x2 (.ins C bB []) x2=some (.ins C bB []):=A6;generalize A0 (A0 H9 bB (.own x2)) x2 (.ins C bB [])=U8 at O1 cY;refine ⟨x2,bB,r,ts,B,g,_,_,rfl,cY,hR7.same (S79.trans O1),hgP,fun j2 ll2 ml2 md2 L2 M2 jK nj2 nll2 nml2 nmd2 B11 hO2=>⟨rfl,?_⟩⟩;obtain ⟨eL2,eM2⟩:=hlP L2 M2 hO2.l1 hO2.l2;rw [eL2,eM2] at hO2;have S911:Same H9 jK:=fun b o hb=>B11 _ _ (fun e=>by rw [e,uK] at hb;cases hb) (O1 _ _ hb)
  have hO1:=hO.same S911;clear hO S911 B11 cY O1 S79 B9 jN S8 A4 hR7 uK ndx2 nx ndx;have uL:∀ {H':Hp} {n:Nat} {Z:VK},Same jK H'->n<=4->(∀ l H'',H' l=none->Same H' H''->H'' l=some (.lst ((keyF n false U z).map V.int))->Z (.ref l) H'')->spKey C [V.ref x2,V.str z,V.int n] H' Z E0:=fun S hn hZ=>
   ⟨x2,j2,ll2,ml2,md2,z,_,g,B,ls,ms,rfl,hn,hO2.same S,htxP.1,by lia,htxP.2.1,htxP.2.2.1,by rw [htxP.2.2.2,hbP];exact hZ⟩
  have hk2:∀ {H':Hp} {n:Nat} {Z:VK},Same jK H'->n<=4->(∀ l H'',H' l=none->Same H' H''->H'' l=some (.lst ((keyF n true U z).map V.int))->Z (.ref l) H'')->spKey C [V.ref x,V.str z,V.int n] H' Z E0:=fun S hn hZ=>
   ⟨x,j,ll,ml,md,z,_,g,Z9 t B,ls,ms,rfl,hn,hO1.same S,(htxT t).1,by lia,(htxT t).2.1,(htxT t).2.2.1,by rw [(htxT t).2.2.2,amT];exact hZ⟩
  clear hO1 hO2 htxT htxP hgT hgP hlT hlP;have jG:=fun b=>akO b U z
  have uM:∀ b,(P5 false 0 (keyF 4 b U z)).1++[(P5 false 0 (keyF 4 b U z)).2]=T3 b U z++[[]]:=fun b=>by rw [ah1 hok hc0]
  refine uL (n:=4) (Same.refl _) (by decide) fun l5 H5 nl5 S5 tI=>⟨l5,_,rfl,tI,by have:=jG false 4;lia,fun l6 ps6 H6 nl6 S6 hL6=>?_⟩
  rw [uM] at hL6;refine hk2 (n:=4) (S5.trans S6) (by decide) fun l7 H7 nl7 S7 jH=>⟨l7,_,rfl,jH,by have:=jG true 4;lia,fun l8 ps8 H8 nl8 S8 hL8=>?_⟩
  rw [uM] at hL8;have hL6:=hL6.same (S7.trans S8);have S08:=S5.trans (S6.trans (S7.trans S8));have len6:ps6.length=5:=Paired.length hL6.row;have len8:ps8.length=5:=Paired.length hL8.row;walk_at "rd";refine ⟨5,.inl ⟨_,.of hL6.top,by rw [A8,len6]⟩,?_⟩;rw [if_neg (by decide)];refine ⟨5,.inl ⟨_,.of hL8.top,by rw [A8,len8]⟩,?_⟩;rw [if_neg (by decide)];have fL:∀ (i:Nat) (xs:List Int),(T3 false U z++[[]])[i]?=some xs->∃ p,F7 (ps6.map V.ref) (i:Int)=some (V.ref p)/\H8 p=some (.lst (xs.map V.int)):=fun i xs h=>by
   obtain ⟨p,hp,e⟩:=hL6.at h;exact ⟨p,Q2 (by rw [U9,hp];rfl),e⟩
  have fM:∀ (i:Nat) (xs:List Int),(T3 true U z++[[]])[i]?=some xs->∃ p,F7 (ps8.map V.ref) (i:Int)=some (V.ref p)/\H8 p=some (.lst (xs.map V.int)):=fun i xs h=>by
   obtain ⟨p,hp,e⟩:=hL8.at h;exact ⟨p,Q2 (by rw [U9,hp];rfl),e⟩
  obtain ⟨a0,i0,e0⟩:=fL 0 _ rfl;obtain ⟨a1,i1,e1⟩:=fL 1 _ rfl;obtain ⟨a2,i2,e2⟩:=fL 2 _ rfl;obtain ⟨a3,i3,e3⟩:=fL 3 _ rfl;obtain ⟨a4,i4,e4⟩:=fL 4 _ rfl;obtain ⟨c0,k0,f0⟩:=fM 0 _ rfl;obtain ⟨c1,k1,f1⟩:=fM 1 _ rfl;obtain ⟨c2,k2,f2⟩:=fM 2 _ rfl;obtain ⟨c3,k3,f3⟩:=fM 3 _ rfl;obtain ⟨c4,k4,f4⟩:=fM 4 _ rfl;clear fL fM;refine ⟨_,.inl (.of hL6.top),_,i4,fun p np=>cB (xs:=[]) (D0 e4 np) A6 ?_⟩;have S9:Same H8 (A0 H8 p (.lst [])):=Same.new np;generalize A0 H8 p (.lst [])=H9 at S9;refine ⟨_,.inl (.of (S9 _ _ hL8.top)),_,k4,fun p np=>cB (xs:=[]) (D0 (S9 _ _ f4) np) A6 ?_⟩;have O1:Same H8 (A0 H9 p (.lst [])):=S9.trans (Same.new np);generalize A0 H9 p (.lst [])=U8 at O1;have q6:=O1 _ _ hL6.top;have q8:=O1 _ _ hL8.top;refine ⟨_,.inl (.of q6),_,i0,_,.inl (.of q8),_,k0,?_⟩;walk_at "rd";refine cB (O1 _ _ e0) (O1 _ _ f0) ?_;refine ⟨_,.inl (.of q6),_,i2,_,.inl (.of q8),_,k2,?_⟩;walk_at "rd";refine cB (O1 _ _ e2) (O1 _ _ f2) ?_;refine ⟨_,.inl (.of q6),_,i3,_,.inl (.of q8),_,k3,?_⟩;walk_at "rd";refine cB (O1 _ _ e3) (O1 _ _ f3) ?_;refine ⟨_,.inl (.of q6),_,i1,?_⟩;have uN:∀ u∈U.reverse,EltOk u:=fun u hu=>hok u (List.mem_reverse.mp hu)
  have hs1:=bW U;have aN:=bW U.reverse;rw [gT,bD] at aN;refine ⟨a1,P3 U,rfl,O1 _ _ e1,by lia,fun l9 ps9 H11' nl9 uO hL9=>⟨_,.inl (.of (uO _ _ q8)),_,k1,c1,P3 U.reverse,rfl,uO _ _ (O1 _ _ f1),by lia,fun l12 ps12 v8 nl12 b8 hL12=>?_⟩⟩;rw [ad1 hok] at hL9;rw [ad1 uN] at hL12;obtain ⟨j7,pl9,rfl,P9,e9⟩:=(hL9.same b8).last;obtain ⟨ps12',pl12,rfl,P12,e12⟩:=hL12.last;have top9:=(hL9.same b8).top;have top12:=hL12.top;have S13:=O1.trans (uO.trans b8);rw [D9] at top9 top12;walk_at "rd";refine ⟨_,.inl (.of top9),_,dQ _ _,fun p np=>cB (xs:=[]) (D0 e9 np) A6 ?_⟩;have nA:Same v8 (A0 v8 p (.lst [])):=Same.new np;generalize A0 v8 p (.lst [])=H14 at nA;refine ⟨_,.inl (.of (nA _ _ top12)),_,dQ _ _,fun p np=>cB (xs:=[]) (D0 (nA _ _ e12) np) A6 ?_⟩;have w5:Same v8 (A0 H14 p (.lst [])):=nA.trans (Same.new np);generalize A0 H14 p (.lst [])=uP at w5;have n9:j7.length=U.length:=by rw [Paired.length P9,A8]
  have S8F:=S13.trans w5;refine ⟨U.length+1,.inl ⟨_,.of (w5 _ _ top9),by rw [C8,A8,n9];rfl⟩,_,.inl (.of (S8F _ _ hL6.top)),_,i2,?_⟩;walk_at "rd";refine ⟨U.length,.inl ⟨_,.of (S8F _ _ e2),by rw [A8,A8]⟩,?_⟩;rw [if_neg (by simp)];refine rSlR.l (.of (w5 _ _ top9)) fun s1 ns1=>?_
  rw [show [pl9].map V.ref=[V.ref pl9] from rfl,qB];have L16:IsLL (A0 uP s1 (.lst (j7.map V.ref))) s1 j7 (U.map eQ):=⟨A6,M9 P9 fun _ _ e=>D0 (w5 _ _ e) ns1⟩
  have nC:Same v8 (A0 uP s1 (.lst (j7.map V.ref))):=w5.trans (Same.new ns1);generalize A0 uP s1 (.lst (j7.map V.ref))=nE at L16 nC;refine rSlR.l (.of (nC _ _ top12)) fun s2 tF=>?_
  rw [show [pl12].map V.ref=[V.ref pl12] from rfl,qB];refine ⟨_,rfl,_,A6,fun p np=>?_⟩;rw [<- fR];have P18:Paired (fun p xs=>v8 p=some (.lst (xs.map V.int))) ps12'.reverse (U.map eQ):=by
   have:Paired (fun p xs=>v8 p=some (.lst (xs.map V.int))) ps12'.reverse (U.reverse.map eQ).reverse:=uac P12
   rw [<- fR,List.reverse_reverse] at this;exact this
  have nF:Same nE (A0 (A0 nE s2 (.lst (ps12'.map V.ref))) p (.lst (ps12'.reverse.map V.ref))):=(Same.new tF).trans (Same.new np);have L18:IsLL (A0 (A0 nE s2 (.lst (ps12'.map V.ref))) p (.lst (ps12'.reverse.map V.ref))) p ps12'.reverse (U.map eQ):=⟨A6,M9 P18 fun _ _ e=>nF _ _ (nC _ _ e)⟩
  generalize A0 (A0 nE s2 (.lst (ps12'.map V.ref))) p (.lst (ps12'.reverse.map V.ref))=H18 at nF L18;refine neLL (L16.same nF) L18 ?_;have uQ:Same H8 H18:=S13.trans (nC.trans nF);refine uL (n:=4) (S08.trans uQ) (by decide) fun l19 H19 nl19 S19 uR=>⟨l19,_,rfl,uR,by have:=jG false 4;lia,fun l20 ps20 H20 nl20 S20 hL20=>?_⟩
  rw [uM] at hL20;have S0A:=S08.trans (uQ.trans (S19.trans S20));refine ⟨_,hL20.dn,_,(hL6.same (uQ.trans (S19.trans S20))).dn,by have:=qE (T3 false U z++[[]]);rw [PyData.depth];lia,?_⟩;rw [X4,qD,decide_eq_true rfl,if_pos rfl];refine hk2 (n:=1) S0A (by decide) fun l21 H21 nl21 S21 uS=>uL (n:=1) (S0A.trans S21) (by decide) fun l22 H22 nl22 S22 uT=>?_
  walk_at "rd";refine ⟨_,.lst (.of (S22 _ _ uS)) dX,_,.lst (.of uT) dX,M8 (Nat.min_le_left _ _) (by rw [PyData.depth,kM];decide),?_⟩;rw [X4,kH,decide_eq_true (show keyF 1 true U z=keyF 1 false U z from rfl)];exact q _
end
theorem all_mk{l:PySem.W.OpenLaw}{w:World}(X:K.In h)(G:h.Ns mainGlobals mg)(mX:mg "law"=some (.ref fa))(d0:DF K "told" m8)(d1:DF K "followers" W3)(d2:DF K "count_ahead" m9)(d3:DF K "lined_up" O9)(d4:DF K "is_figure" lO)(d5:DF K "has_rule" gU)(d6:DF K "pieces_told" lP)(d7:DF K "is_clash" aB)(d8:DF K "jobs_of" Z6)(d9:DF K "misused" q9)(d10:DF K "check_letters" r0)(d11:DF K "line_of" gW)(d12:DF K "forms_of" aD)(d13:DF K "steps_of" O4){f14:Addr}{od14 an14:Option Addr}{sl14:Array (Option Value)}{oc14 kV14 dc14 pm14 cd14 ct14:Value}(a14:O6 K (.ref C) "__init__"=some (some (.ref f14)))(i14:p4 K (.ref f14)=true)(l14:K.lookup f14=some ⟨oc14,od14,.func (Q5 "__init__" "Order.__init__" (R5 aE) (Q7 aE) (C6 aE) .none kV14 dc14 pm14 an14 cd14 ct14),sl14⟩)(c14:V1 K cd14 "Order.__init__"=true)(k14:R4 K (.ref f14)=true){f15:Addr}{od15 an15:Option Addr}{sl15:Array (Option Value)}{oc15 kV15 dc15 pm15 cd15 ct15:Value}(a15:O6 K (.ref C) "letters"=some (some (.ref f15)))(i15:p4 K (.ref f15)=true)(l15:K.lookup f15=some ⟨oc15,od15,.func (Q5 "letters" "Order.letters" (R5 bX) (Q7 bX) (C6 bX) .none kV15 dc15 pm15 an15 cd15 ct15),sl15⟩)(c15:V1 K cd15 "Order.letters"=true)(k15:R4 K (.ref f15)=true){f16:Addr}{od16 an16:Option Addr}{sl16:Array (Option Value)}{oc16 kV16 dc16 pm16 cd16 ct16:Value}(a16:O6 K (.ref C) "marks"=some (some (.ref f16)))(i16:p4 K (.ref f16)=true)(l16:K.lookup f16=some ⟨oc16,od16,.func (Q5 "marks" "Order.marks" (R5 bY) (Q7 bY) (C6 bY) .none kV16 dc16 pm16 an16 cd16 ct16),sl16⟩)(c16:V1 K cd16 "Order.marks"=true)(k16:R4 K (.ref f16)=true){f17:Addr}{od17 an17:Option Addr}{sl17:Array (Option Value)}{oc17 kV17 dc17 pm17 cd17 ct17:Value}(a17:O6 K (.ref C) "job"=some (some (.ref f17)))(i17:p4 K (.ref f17)=true)(l17:K.lookup f17=some ⟨oc17,od17,.func (Q5 "job" "Order.job" (R5 aF) (Q7 aF) (C6 aF) .none kV17 dc17 pm17 an17 cd17 ct17),sl17⟩)(c17:V1 K cd17 "Order.job"=true)(k17:R4 K (.ref f17)=true)(d18:DF K "figures_at" bZ)(d19:DF K "part_at" r8){f20:Addr}{od20 an20:Option Addr}{sl20:Array (Option Value)}{oc20 kV20 dc20 pm20 cd20 ct20:Value}{tD20:Addr}{nD20:Nat}{cD20:Value}{oD20:Option Addr}{sD20:Array (Option Value)}(dl20:K.lookup tD20=some ⟨cD20,oD20,.seq #[.bool false] nD20,sD20⟩)(a20:O2 K mainGlobals "cut"=some (some (.ref f20)))(l20:K.lookup f20=some ⟨oc20,od20,.func (Q5 "cut" "cut" (R5 s_cut) (Q7 s_cut) (C6 s_cut) (.ref tD20) kV20 dc20 pm20 an20 cd20 ct20),sl20⟩)(c20:V1 K cd20 "cut"=true)(k20:R4 K (.ref f20)=true){f21:Addr}{od21 an21:Option Addr}{sl21:Array (Option Value)}{oc21 kV21 dc21 pm21 cd21 ct21:Value}(a21:O6 K (.ref C) "known"=some (some (.ref f21)))(i21:p4 K (.ref f21)=true)(l21:K.lookup f21=some ⟨oc21,od21,.func (Q5 "known" "Order.known" (R5 cA) (Q7 cA) (C6 cA) .none kV21 dc21 pm21 an21 cd21 ct21),sl21⟩)(c21:V1 K cd21 "Order.known"=true)(k21:R4 K (.ref f21)=true){f22:Addr}{od22 an22:Option Addr}{sl22:Array (Option Value)}{oc22 kV22 dc22 pm22 cd22 ct22:Value}(a22:O6 K (.ref C) "steps"=some (some (.ref f22)))(i22:p4 K (.ref f22)=true)(l22:K.lookup f22=some ⟨oc22,od22,.func (Q5 "steps" "Order.steps" (R5 aG) (Q7 aG) (C6 aG) .none kV22 dc22 pm22 an22 cd22 ct22),sl22⟩)(c22:V1 K cd22 "Order.steps"=true)(k22:R4 K (.ref f22)=true)(d23:DF K "parts_of" gX)(d24:DF K "steps_by" gY)(d25:DF K "add_mark" gZ)(d26:DF K "add_part" Z7)(d27:DF K "units" n5)(d28:DF K "first_numbers" hJ)(d29:DF K "first_level" aH)(d30:DF K "second_level" n6)(d31:DF K "third_level" hW)(d32:DF K "fourth_level" hX){f33:Addr}{od33 an33:Option Addr}{sl33:Array (Option Value)}{oc33 kV33 dc33 pm33 cd33 ct33:Value}{kD33:Tok}{tD33:Addr}{nD33:Nat}{cD33:Value}{oD33:Option Addr}{sD33:Array (Option Value)}(dl33:K.lookup tD33=some ⟨cD33,oD33,.seq #[.int 4 kD33] nD33,sD33⟩)(a33:O2 K mainGlobals "key"=some (some (.ref f33)))(l33:K.lookup f33=some ⟨oc33,od33,.func (Q5 "key" "key" (R5 s_key) (Q7 s_key) (C6 s_key) (.ref tD33) kV33 dc33 pm33 an33 cd33 ct33),sl33⟩)(c33:V1 K cd33 "key"=true)(k33:R4 K (.ref f33)=true)(d34:DF K "_law_cell_at" iA)(d35:DF K "_law_sign" s0)(d36:DF K "_law_rules" Z8)(d37:DF K "_law_text" V6)(d38:DF K "_law_levels" aI)(d39:DF K "_law_rows" aJ){f40:Addr}{od40 an40:Option Addr}{sl40:Array (Option Value)}{oc40 kV40 dc40 pm40 cd40 ct40:Value}(a40:O2 K mainGlobals "law"=some (some (.ref f40)))(l40:K.lookup f40=some ⟨oc40,od40,.func (Q5 "law" "law" (R5 s_law) (Q7 s_law) (C6 s_law) .none kV40 dc40 pm40 an40 cd40 ct40),sl40⟩)(c40:V1 K cd40 "law"=true)(k40:R4 K (.ref f40)=true)(aC:O2 K mainGlobals "Order"=some (some (.ref C)))(pgC:fV K C Str.empty=true)(hdC:PySem.W.hasDictIn K C=true)(poC:PySem.W.plainOver K C=true)(saC:O6 K (.ref C) "__setattr__"=some (some (.builtin "object.__setattr__")))(mkC:PySem.W.makesIn K C=true)(kcC:R4 K (.ref C)=true)(nC_figures:O6 K (.ref C) "figures"=some none)(nC_behind:O6 K (.ref C) "behind"=some none)(nC_jobs:O6 K (.ref C) "jobs"=some none)(nC_letter_line:O6 K (.ref C) "letter_line"=some none)(nC_mark_line:O6 K (.ref C) "mark_line"=some none)(nC_made:O6 K (.ref C) "made"=some none)(z_any:O2 K mainGlobals "any"=some none)(z_dict:O2 K mainGlobals "dict"=some none)(z_enumerate:O2 K mainGlobals "enumerate"=some none)(z_int:O2 K mainGlobals "int"=some none)(z_len:O2 K mainGlobals "len"=some none)(z_list:O2 K mainGlobals "list"=some none)(z_min:O2 K mainGlobals "min"=some none)(z_ord:O2 K mainGlobals "ord"=some none)(z_range:O2 K mainGlobals "range"=some none)(z_reversed:O2 K mainGlobals "reversed"=some none)(z_tuple:O2 K mainGlobals "tuple"=some none)(z_zip:O2 K mainGlobals "zip"=some none){a_JOBS:Addr}{ep_JOBS:Nat}{h_JOBS_0:Int}{t_JOBS_0 u_JOBS_0:Tok}{h_JOBS_1:Int}{t_JOBS_1 u_JOBS_1:Tok}{h_JOBS_2:Int}{t_JOBS_2 u_JOBS_2:Tok}{h_JOBS_3:Int}{t_JOBS_3 u_JOBS_3:Tok}{h_JOBS_4:Int}{t_JOBS_4 u_JOBS_4:Tok}(y_JOBS:O2 K mainGlobals "JOBS"=some (some (.ref a_JOBS)))(d_JOBS:K.lookup a_JOBS=some { cls:=.type "dict",dict:=none,data:=.dict #[⟨h_JOBS_0,.str "row" t_JOBS_0,.str "letter" u_JOBS_0⟩,⟨h_JOBS_1,.str "marks" t_JOBS_1,.str "mark" u_JOBS_1⟩,⟨h_JOBS_2,.str "great" t_JOBS_2,.str "great" u_JOBS_2⟩,⟨h_JOBS_3,.str "as" t_JOBS_3,.str "as" u_JOBS_3⟩,⟨h_JOBS_4,.str "over" t_JOBS_4,.str "over" u_JOBS_4⟩] ep_JOBS,slots:=#[] })(s_JOBS:(a_JOBS==sysModules)=false)(e_JOBS_0:h_JOBS_0=keyH w (Sum.inr ("row" : Str)))(e_JOBS_1:h_JOBS_1=keyH w (Sum.inr ("marks" : Str)))(e_JOBS_2:h_JOBS_2=keyH w (Sum.inr ("great" : Str)))(e_JOBS_3:h_JOBS_3=keyH w (Sum.inr ("as" : Str)))(e_JOBS_4:h_JOBS_4=keyH w (Sum.inr ("over" : Str))){a_AGAIN:Addr}{n_AGAIN:Nat}{od_AGAIN:Option Addr}{sl_AGAIN:Array (Option Value)}{t_AGAIN_0:Tok}{t_AGAIN_1:Tok}{t_AGAIN_2:Tok}(y_AGAIN:O2 K mainGlobals "AGAIN"=some (some (.ref a_AGAIN)))(d_AGAIN:K.lookup a_AGAIN=some ⟨.type "tuple",od_AGAIN,.seq #[.str "letter" t_AGAIN_0,.str "mark" t_AGAIN_1,.str "over" t_AGAIN_2] n_AGAIN,sl_AGAIN⟩){tMARK tLETTER tFIGURES:Tok}(y_MARK:O2 K mainGlobals "MARK"=some (some (.int 0 tMARK)))(y_LETTER:O2 K mainGlobals "LETTER"=some (some (.int 2 tLETTER)))(y_FIGURES:O2 K mainGlobals "FIGURES"=some (some (.int 1 tFIGURES)))
  : ∃ fd:FuncData,(∀ (s:Shared) (v:Value),BindsTo s fd ⟨[v],[]⟩ [("_law_script",v)])/\∀ base:Heap,K.In base->base.Ns mainGlobals mg->FnOk l.prog w K mg base E5 8 fa fd ["_law_script"] (spLaw K):=by
 have e:=mX.symm.trans (Z0 X G a40);cases e;have T:Txt l.prog w K mg C:=⟨⟨pgC,hdC,poC,saC⟩,nC_figures,nC_behind,nC_jobs,nC_letter_line,nC_mark_line,nC_made,Y9 X G z_any,Y9 X G z_dict,Y9 X G z_enumerate,Y9 X G z_int,Y9 X G z_len,Y9 X G z_list,Y9 X G z_min,Y9 X G z_ord,Y9 X G z_range,Y9 X G z_reversed,Y9 X G z_tuple,Y9 X G z_zip,⟨_,Z0 X G y_MARK⟩,⟨_,Z0 X G y_LETTER⟩,⟨_,Z0 X G y_FIGURES⟩,⟨_,Z0 X G y_JOBS,amr d_JOBS s_JOBS (.cons ⟨dM _ _,e_JOBS_0,⟨_,rfl⟩⟩ ( .cons ⟨dM _ _,e_JOBS_1,⟨_,rfl⟩⟩ ( .cons ⟨dM _ _,e_JOBS_2,⟨_,rfl⟩⟩ ( .cons ⟨dM _ _,e_JOBS_3,⟨_,rfl⟩⟩ ( .cons ⟨dM _ _,e_JOBS_4,⟨_,rfl⟩⟩ ( .nil)))))) (by decide +kernel)⟩,⟨_,Z0 X G y_AGAIN,fun H=>.inr ⟨_,_,_,d_AGAIN,rfl,rfl,(by show 3<=sizeLine;decide),.cons ⟨_,rfl⟩ ( .cons ⟨_,rfl⟩ ( .cons ⟨_,rfl⟩ ( .nil)))⟩⟩⟩
 have F14:=k9 (st:=aE) l14 c14;have F15:=k9 (st:=bX) l15 c15;have F16:=k9 (st:=bY) l16 c16;have F17:=k9 (st:=aF) l17 c17;have F20:=k9 (st:=s_cut) l20 c20;have F21:=k9 (st:=cA) l21 c21;have F22:=k9 (st:=aG) l22 c22;have F33:=k9 (st:=s_key) l33 c33;have F40:=k9 (st:=s_law) l40 c40;refine ⟨Q5 "law" "law" (R5 s_law) (Q7 s_law) (C6 s_law) .none kV40 dc40 pm40 an40 cd40 ct40,fun s v=>.of_eq rfl,fun base hb hn=>?_⟩;have G_told:=d0.go X G hb fun F=>amU F T
 have G_followers:=d1.go X G hb fun F=>af6 F T G_told
 have G_count_ahead:=d2.go X G hb fun F=>aeb F T
 have G_lined_up:=d3.go X G hb fun F=>agH F T G_followers G_count_ahead
 have G_is_figure:=d4.go X G hb fun F=>af8 F T
 have G_has_rule:=d5.go X G hb fun F=>agK F T
 have G_pieces_told:=d6.go X G hb fun F=>aed F T
 have G_is_clash:=d7.go X G hb fun F=>agM F T G_is_figure
 have G_jobs_of:=d8.go X G hb fun F=>ah3 F T G_has_rule G_pieces_told G_is_clash
 have G_misused:=d9.go X G hb fun F=>ah4 F T
 have G_check_letters:=d10.go X G hb fun F=>ads F T G_misused
 have G_line_of:=d11.go X G hb fun F=>ah6 F T G_lined_up
 have G_forms_of:=d12.go X G hb fun F=>agN F T
 have G_steps_of:=d13.go X G hb fun F=>agO F T G_forms_of
 have G_Order___init__:KO l.prog w K mg base 5 C "Order" ["self", "rules"] (pT C):=⟨_,_,adi F14 T G_has_rule G_jobs_of G_check_letters G_line_of G_steps_of,⟨mkC,a14,i14,kcC⟩,Z0 X G aC,.all (len2 fun _ _=>rfl)⟩
 have G_Order_letters:MO l.prog w K mg base 1 C "letters" ["self"] (zA C):=⟨_,_,adu F15 T,T.cl,⟨a15,i15,k15⟩,.all (len1 fun _=>rfl)⟩
 have G_Order_marks:MO l.prog w K mg base 1 C "marks" ["self"] (zB C):=⟨_,_,aef F16 T,T.cl,⟨a16,i16,k16⟩,.all (len1 fun _=>rfl)⟩
 have G_Order_job:MO l.prog w K mg base 1 C "job" ["self", "piece"] (zC C):=⟨_,_,agb F17 T,T.cl,⟨a17,i17,k17⟩,.all (len2 fun _ _=>rfl)⟩
 have G_figures_at:=d18.go X G hb fun F=>afd F T G_is_figure
 have G_part_at:=d19.go X G hb fun F=>ah7 F T G_is_figure G_figures_at
 have G_cut:FO l.prog w K mg base 4 "cut" ["known", "text", "figures"] [.bl false] (lJ K):=⟨_,_,alm F20 T G_part_at,Z0 X G a20,k20,[.bool false],(fun s us L4 hl=>by obtain ⟨u1,u2,rfl⟩:=zJ hl;exact PySem.W.binds_K L4 rfl dl20 rfl rfl rfl),.cons rfl .nil⟩
 have G3_cut:FO l.prog w K mg base 4 "cut" ["known", "text", "figures"] [] (lJ K):=⟨_,_,alm F20 T G_part_at,Z0 X G a20,k20,[],(fun s us L4 hl=>by obtain ⟨u1,u2,u3,rfl⟩:=zO hl;exact PySem.W.binds_K L4 rfl dl20 rfl rfl rfl),.nil⟩
 have G_Order_known:MO l.prog w K mg base 1 C "known" ["self"] (pX C):=⟨_,_,aeh F21 T,T.cl,⟨a21,i21,k21⟩,.all (len1 fun _=>rfl)⟩
 have G_Order_steps:MO l.prog w K mg base 1 C "steps" ["self", "piece"] (lK C):=⟨_,_,aej F22 T,T.cl,⟨a22,i22,k22⟩,.all (len2 fun _ _=>rfl)⟩
 have G_parts_of:=d23.go X G hb fun F=>agQ F T G3_cut G_Order_known
 have G_steps_by:=d24.go X G hb fun F=>agS F T G_is_figure G_Order_steps
 have G_add_mark:=d25.go X G hb fun F=>agU F T
 have G_add_part:=d26.go X G hb fun F=>agV F T G_steps_by G_add_mark
 have G_units:=d27.go X G hb fun F=>akS F T G_parts_of G_add_part
 have G_first_numbers:=d28.go X G hb fun F=>adw F T
 have G_first_level:=d29.go X G hb fun F=>aek F T G_first_numbers
 have G_second_level:=d30.go X G hb fun F=>ad5 F T
 have G_third_level:=d31.go X G hb fun F=>aem F T
 have G_fourth_level:=d32.go X G hb fun F=>ad7 F T
 have G_key:FO l.prog w K mg base 7 "key" ["order", "text", "strength"] [.int 4] (spKey C):=⟨_,_,aln F33 T G_units G_first_level G_second_level G_third_level G_fourth_level,Z0 X G a33,k33,[.int 4 _],(fun s us L4 hl=>by obtain ⟨u1,u2,rfl⟩:=zJ hl;exact PySem.W.binds_K L4 rfl dl33 rfl rfl rfl),.cons ⟨_,rfl⟩ .nil⟩
 have G3_key:FO l.prog w K mg base 7 "key" ["order", "text", "strength"] [] (spKey C):=⟨_,_,aln F33 T G_units G_first_level G_second_level G_third_level G_fourth_level,Z0 X G a33,k33,[],(fun s us L4 hl=>by obtain ⟨u1,u2,u3,rfl⟩:=zO hl;exact PySem.W.binds_K L4 rfl dl33 rfl rfl rfl),.nil⟩
 have G_l_cell_at:=d34.go X G hb fun F=>agd F T
 have G_l_sign:=d35.go X G hb fun F=>ajx F T G_l_cell_at
 have G_l_rules:=d36.go X G hb fun F=>ah8 F T G_l_cell_at G_l_sign
 have G_l_text:=d37.go X G hb fun F=>ajy F T
 have G_l_levels:=d38.go X G hb fun F=>agW F T
 have G_l_rows:=d39.go X G hb fun F=>ajz F T
 exact aov F40 T G_Order___init__ G_key G3_key G_l_cell_at G_l_rules G_l_text G_l_levels G_l_rows
theorem walk{l:PySem.W.OpenLaw}{q:Program}{XP:(Str->Option Value)->Heap->Prop}{YP:World->Heap->Prop}{d:DefRec}{K:Params->PySem.W.Frag}(hn:l.most=some 63)(o4:d.params.defaults=[])(hY:∀ (w:World) (h:Heap),YP w h->(K w.params).In h)(F:∀ (w:World) (mg:Str->Option Value) (fa:Addr) (h:Heap),(K w.params).In h->h.Ns mainGlobals mg->mg d.name=some (.ref fa)->
   ∃ fd:FuncData,(∀ (s:Shared) (u:Value),BindsTo s fd ⟨[u],[]⟩ [("_law_script",u)])/\∀ base:Heap,(K w.params).In base->base.Ns mainGlobals mg->FnOk l.prog w (K w.params) mg base E5 8 fa fd ["_law_script"] (spLaw (K w.params))) :
  PySem.W.WalkO q loose XP YP l.row.toRowW d [] (fun f vs=>PySem.call f vs):=
 L2.walk_of (n:=63) (k:=8) (x:="_law_script") (CX:=fun _=>E5) (sp:=fun w=>spLaw (K w.params)) hn (by decide) o4 ⟨rfl,by decide,by decide,rfl⟩ hY F (fun _ _ a ns hl _ hS=>⟨a,ns,rfl,hS,hl,fun _=>rfl⟩) fun _ _ _ _ _ z=>z
end K34
open PySem PySem.W PyProof.Rows
set_option maxRecDepth 100000 in
set_option maxHeartbeats 0 in
theorem PySem.Challenge.cw_sortlore_k34_from_behind_holds : PySem.Challenge.rw_sortlore_k34_from_behind.Holds := by
 w_on;o_law;k_head;(case hw=>w_witness2)
 k_fill
 refine K34.walk (l:=PySem.Challenge.rw_sortlore_k34_from_behind) rfl rfl (fun w h Y=>PySem.W.kIn_of Y) ?F
 case F=>
  intro w mg fa h KX G iO
  refine' K34.all_mk KX G iO ?d0 ?d1 ?d2 ?d3 ?d4 ?d5 ?d6 ?d7 ?d8 ?d9 ?d10 ?d11 ?d12 ?d13 ?a14 ?i14 ?l14 ?c14 ?k14 ?a15 ?i15 ?l15 ?c15 ?k15 ?a16 ?i16 ?l16 ?c16 ?k16 ?a17 ?i17 ?l17 ?c17 ?k17 ?d18 ?d19 ?dl20 ?a20 ?l20 ?c20 ?k20 ?a21 ?i21 ?l21 ?c21 ?k21 ?a22 ?i22 ?l22 ?c22 ?k22 ?d23 ?d24 ?d25 ?d26 ?d27 ?d28 ?d29 ?d30 ?d31 ?d32 ?dl33 ?a33 ?l33 ?c33 ?k33 ?d34 ?d35 ?d36 ?d37 ?d38 ?d39 ?a40 ?l40 ?c40 ?k40 ?aC ?pgC ?hdC ?poC ?saC ?mkC ?kcC ?nC_figures ?nC_behind ?nC_jobs ?nC_letter_line ?nC_mark_line ?nC_made ?z_any ?z_dict ?z_enumerate ?z_int ?z_len ?z_list ?z_min ?z_ord ?z_range ?z_reversed ?z_tuple ?z_zip ?y_JOBS ?d_JOBS ?s_JOBS ?e_JOBS_0 ?e_JOBS_1 ?e_JOBS_2 ?e_JOBS_3 ?e_JOBS_4 ?y_AGAIN ?d_AGAIN ?y_MARK ?y_LETTER ?y_FIGURES
  any_goals (refine' K34.df_mk ?da ?dl ?dc ?dk;(case da=>k_is);(case dl=>k_is);(case dc=>k_is);(case dk=>k_is))
  (case aC=>k_is)
  (case a14=>k_is)
  (case i14=>k_is)
  (case l14=>k_is)
  (case c14=>k_is)
  (case k14=>k_is)
  (case a15=>k_is)
  (case i15=>k_is)
  (case l15=>k_is)
  (case c15=>k_is)
  (case k15=>k_is)
  (case a16=>k_is)
  (case i16=>k_is)
  (case l16=>k_is)
  (case c16=>k_is)
  (case k16=>k_is)
  (case a17=>k_is)
  (case i17=>k_is)
  (case l17=>k_is)
  (case c17=>k_is)
  (case k17=>k_is)
  (case a20=>k_is)
  (case l20=>k_is)
  (case c20=>k_is)
  (case k20=>k_is)
  (case a21=>k_is)
  (case i21=>k_is)
  (case l21=>k_is)
  (case c21=>k_is)
  (case k21=>k_is)
  (case a22=>k_is)
  (case i22=>k_is)
  (case l22=>k_is)
  (case c22=>k_is)
  (case k22=>k_is)
  (case a33=>k_is)
  (case l33=>k_is)
  (case c33=>k_is)
  (case k33=>k_is)
  (case a40=>k_is)
  (case l40=>k_is)
  (case c40=>k_is)
  (case k40=>k_is)
  (case pgC=>k_is)
  (case hdC=>k_is)
  (case poC=>k_is)
  (case saC=>k_is)
  (case mkC=>k_is)
  (case kcC=>k_is)
  (case nC_figures=>k_is)
  (case nC_behind=>k_is)
  (case nC_jobs=>k_is)
  (case nC_letter_line=>k_is)
  (case nC_mark_line=>k_is)
  (case nC_made=>k_is)
  (case z_any=>k_is)
  (case z_dict=>k_is)
  (case z_enumerate=>k_is)
  (case z_int=>k_is)
  (case z_len=>k_is)
  (case z_list=>k_is)
  (case z_min=>k_is)
  (case z_ord=>k_is)
  (case z_range=>k_is)
  (case z_reversed=>k_is)
  (case z_tuple=>k_is)
  (case z_zip=>k_is)
  (case y_JOBS=>k_is)
  (case d_JOBS=>k_is)
  (case s_JOBS=>rfl)
  (case e_JOBS_0=>rfl)
  (case e_JOBS_1=>rfl)
  (case e_JOBS_2=>rfl)
  (case e_JOBS_3=>rfl)
  (case e_JOBS_4=>rfl)
  (case y_AGAIN=>k_is)
  (case d_AGAIN=>k_is)
  (case y_MARK=>k_is)
  (case y_LETTER=>k_is)
  (case y_FIGURES=>k_is)
  (case dl20=>k_is)
  (case dl33=>k_is)
