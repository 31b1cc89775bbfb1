import PyProof.Rows.All
import Wide.All
import OpenK.AllK
import Wide.FinOn
import Lean
import PyProof.EqAt
import PyProof.EqKinds
import PyProof.TupleCall
import PySem.Challenge.RW_sortlore_k83_whole_change
set_option compiler.extract_closed false
open List renaming length_map → A7, length_append → D1, getElem?_eq_some_iff → G9, mem_singleton → E6, map_append → E4, mem_cons_of_mem → I0, mem_cons → D9, length_cons → F8, mem_cons_self → J7, mem_append → F6, getElem?_eq_getElem → N0, mem_map → E2, mem_of_getElem? → L3, mem_append_left → L4, size_toArray → K3, take_length → K4, length_take → K5, mem_append_right → O0, map_cons → G6, append_nil → L7, mem_filter → O1, mem_iff_getElem → V0, nodup_iff_pairwise_ne → f9, length_singleton → W7, nodup_cons → Q4, filter_append → V1, take_add_one → U0, append_assoc → U1, getElem?_map → V2, pairwise_iff_getElem → q5, mem_flatMap → V3, take_of_length_le → j0, not_mem_nil → W8, length_nil → V4, filterMap_cons → g6, idxOf_lt_length_iff → y8, flatMap_cons → Z5, replicate → V5, take_append_drop → q9, length_eq_zero_iff → y9, flatMap_append → j1, nodup_append → g7, getElem?_append_left → bM, length_pos_iff → r0, foldl_append → j3, filter_cons_of_pos → bN, filter_cons_of_neg → bO, getElem?_append_right → dM, getD_eq_getElem?_getD → dN, length_drop → j4, flatten_cons → r8, length_filter_le → dO, find?_cons → t4, getElem_idxOf → bP, length → X9, mem_of_mem_take → dP, map_map → g8, filter_eq_self → dQ, filter_eq_nil_iff → fT, countP_cons → bQ, mem_filterMap → dR, filterMap_append → fU, replicate_succ → fV, flatten_append → fW, any_cons → z8, take_zero → bR, mem_iff_getElem? → jF, map_take → bS, map_drop → bT, flatMap_nil → fX, map_congr_left → jG, drop_succ_cons → jH, range → t7, length_erase_of_mem → nE, nil_append → fY, drop_of_length_le → nF, lookup → bU, eq_nil_of_length_eq_zero → rE
open Nat renaming le_refl → C5, le_trans → K6, zero_le → K1, lt_of_lt_of_le → T5, ne_of_lt → N1, le_add_right → z9, lt_irrefl → j5, min_eq_left → fZ
open Bool renaming false_ne_true → K7, and_eq_true → W9, false_xor → aA, eq_iff_iff → dS, false_and → dU, not_eq_true' → jI, not_eq_true → jJ
open PySem.F renaming plainAttrs_list → O2, type_list_append → V6, slot_list_append → V7, slot_dict_get → gA, entry_dict_get → nG
open PySem.W renaming findIn → O8, nsIn → P8, keepIn → V8, fnOf → T6, mg_none_of → j6, codeIn → Y0, kia_one → j7, emptyDict → aB, mg_of → j8, instObj → bV, isFn → aD, plainGet → jK
open PySem.PyData renaming eqv → O9, strOk → U3, eqvAll → Z6, depthAll → bW, depth → dW, str → bX
open Array renaming length_toList → dX
open Option renaming toList_some → dY
open PySem.NumText renaming digitsVal → jL
open Int renaming emod_lt_of_pos → jM
set_option Elab.async false
set_option linter.all false
set_option maxRecDepth 100000
noncomputable section
set_option genInjectivity false in
set_option genSizeOf false in
structure PySem.W.Fast where (tw5471901264127168643 tw4907538080376068308 tw1579425614176024239 tw6381978982907476776 tw4904728495590434636 tw3348984811798583478 tw12160731981550945568 tw12379295274221498765 tw13382848792462973948 tw16496999907710201675 tw4680577125969002176 tw10746627821889342127 tw13891794249951359525 tw4115770399760287656 tw11194787518821484501 tw16118122696919883899 tw1877231040756288744 tw14511826256043276170 tw8101103862329260642 tw2518102630859410763 tw5283976190756482169 tw16146782812895235085 tw13519643281906790876 tw17454178737571092350 tw10465606919266188686 tw6983477649252349604 tw2418217355200015293 tw4813908035513684127 tw8721933562626773482 tw5487730615237981253 tw15199690894069011403 tw10877668884511887713 tw2654441075570605910 tw9468016966295278760 tw17809844048157927627 tw1537137212279404692 tw4208527642164790777 tw11759472660045283803 tw6442920513566364758
tw9536431567566402624 tw13029469853129360481 tw11906369965877959740 tw5476893806553143941 tw6760245850811220733 tw14230070884415950603 tw15371553417151722068 tw18152864480941554580 tw13788941763533794054 tw18258609890676819292 tw11045636602457828501 tw14682962245668275595 tw9790852491328052713 tw304375079718902437 tw4008571691882841692 tw10042521816667379544 tw8644224050163656049 tw10804796863608615230 tw6099027078635363060 tw10279863786435645155 tw1823594740217735834 tw4091257194800697867 tw10431650340031869176 tw18003831758923577924 tw8571584718099833053 tw10302629282789491087 tw5221207956624965732 tw13185802990493382854 tw397183175360277843 tw17638649131419517308 tw2024645009561255276 tw4882572810567749272 tw7888647684990166767 tw1289836142794948702 tw15719504484883868864 tw3143126140518894005 tw1219302601527083412 tw6018574241930890077 tw590588026965847493 tw18257413023430466331
tw17808449255367906917 tw7573606202668147440 tw10978056728958998219 tw13584144191908801621 tw15629673517458374794 tw7683953499788408166 tw1766278291791551517 tw6421579169886434335 tw4455865300052813176 tw3072693551239580926 tw1253515519890256021 tw14533606747311737368 tw10795947826037591453 tw8357705928953689062 tw18264362306515498010 tw2424720907311396746 tw12455505912694223221 tw12077097868427402807 tw13675290618355464064 tw6135330336579744919 tw14396992131388315759 tw8816864455379041944 tw3542627538136009504 tw4994405880998949872 tw1484721824330514980 tw9170639963855816080 tw17108025406613410973 tw15891115162623330733 tw6710054762012901264 tw6697933279876405205 tw3825184779519726570 tw17272075508016006438 tw228163839441828357 tw18293676797054433641 tw1820345771692297334 tw4110103651169119685 tw17417989788190199456 tw6300821259235946132 tw15806908037446583771 tw4214633874484562358
tw3444113798015408425 tw7612776681678875202 tw3232347242840641901 tw16659109848169398227 tw14524404950704517561 tw16475034284638544399 tw17121616184792501658 tw3096671514969578939 tw8452548627892545278 tw10448774967906628835 tw728329859879324407 tw8847794522803324395 tw2577606706509974177 tw4288767869744171160 tw3477603559382799107 tw17966062724700171441 tw15224879376419321946 tw7236115472193800254 tw12265163850539665466 tw7953831275708159745 tw5401635463210400913 tw9401564272953986244 tw11883678956249054226 tw23146712804495697 tw10251536128810207092 tw7600554480724009051 tw11777515023196405223 tw1879619536462645478 tw12964836319876456294 tw14426561013986533075 tw9210857298141286088 tw2997367565995461719 tw11438908984210030811 tw2974317419400675408 tw13224049085975692515 tw9882598066776906592 tw17373757627694281585 tw15992710131422735205 tw17841743714454712433 tw6671063878864051911
tw18363371743239647551 tw434439402915330438 tw17224184590938472382 tw217830941689630662 tw11913330548157982707 tw14138206529788318796 tw7427235797012257269 tw14035057917932998600 tw5642802558779742009 tw10836482689743422175 tw8102584744878370331 tw8684992683557417338 tw9263167303792249106 tw16798678127107632531 tw1112640690676742765 tw2151406814703359163 tw6620389328622579919 tw9430815756055719106 tw1830308087882215029 tw750452604680208290 tw14291019008007285468 tw13429360477637705842 tw15180839491586131281 tw4713417656232516855 tw10907543462401048783 tw15294912673600453048 tw16236201587295470232 tw18168733281955225478 tw11099619855832002892 tw15586894491852815095 tw14302422470691257566 tw8293085363605063575 tw11721501830096183462 tw9064810994163514465 tw15048790032896160829 tw6587062831346270877 tw7172221190462638234 tw681207609854635076 tw12460581670247809359 tw1104534464463352767
tw12313580029458046876 tw4418930828253308004 tw14068853419860799796 tw16952735413063585370 tw17261854251529622461 tw15317448391716946690 tw342601945831137006 tw125062790580621380 tw7411870426305251150 tw17143487155081455462 tw6758942071628211488 tw11236769080667302749 tw16035863090857993451 tw16339399177163953841 tw12132113432948404413 tw11240088787881256458 tw11137808693898730982 tw8848160195119964893 tw3769377323529207342 tw5405543732608000061 tw14960463150056151102 tw17732657739363441263 tw14550000093822357794 tw6143795085291928548 tw10921877801396975004 tw6446074515485833544 tw2413433011905711762 tw16620548112713539636 tw14012527285472896079 tw10431920634618471412 tw2491328808054606367 tw11188700451317708893 tw17053278192888865479 tw3132890757679268971 tw7889371276517828436 tw13921725562842061816 tw10223941443992197841 tw16303281729844531339 tw13583905587355152140 tw9325622368961868651
tw10558685520160741951 tw13856273321146888721 tw6715788116342244220 tw12626720303501394568 tw17168333595957250838 tw1424391501734122617 tw201529121565314659 tw15342641214496953556 tw1416592572561087645 tw1556039535430355047 tw7674789631918089731 tw5079585495927772250 tw8620205365302141842 tw15047791951089317612 tw12424633476394269698 tw14158189829807985431 tw9967066924158212312 tw159938749773999697 tw17558282481110383134 tw8779674755424187318 tw17480084784528354128 tw10491377221413876292 tw4207800357031358037 tw1284513020239282621 tw16943240043130184893 tw9056597375957375863 tw8794158350299509795 tw16958681056490540131 tw11714549679456176285 tw2247854651124695481 tw17737072019337078899 tw9280173226717361128 tw12081082203675213894 tw11945301388047249348 tw1377119643482769052 tw11022824691537034492 tw16163993119819970763 tw963539872834031852 tw3196424823244996875 tw9670763541189375239
tw8951782594301654956 tw8535587125293194906 tw8346955504095042565 tw18108950588892078542 tw7456110877580479672 tw18140351369886825809 tw3162043592204727871 tw4240729262207028188 tw3774703883206960806 tw11652965691213542225 tw17799020243229480095 tw7391794360990625113 tw4395548231928447336 tw5113133567609397928 tw5638805355815914253 tw2586763737636847044 tw189740111803848943 tw11692793763430716470 tw9119646911964267147 tw13172111848532377044 tw12340314295438379532 tw3882836876506595025 tw17346942877662893519 tw2006701403025595276 tw7447944558357039180 tw4224166107252292171 tw9878315670678167070 tw6466657505295519575 tw7781552079377689151 tw18087708988257518357 tw16966196922685161389 tw13807130763490339092 tw9653582223932431581 tw2676190626119393166 tw5004666643711559628 tw16107099916623148001 tw6297355030473692707 tw12427833917386400220 tw2507027800508188384 tw8943839991537068974
tw5198178701928267835 tw10739010091344248013 tw13198103810027728134 tw10105569277510280133 tw4700393858438202627 tw7567744943934172292 tw348605103102720836 tw9250769237888044789 tw4641473736393758972 tw5842589628014551458 tw1537456135576462001 tw15875861761574636783 tw13752281722940292290 tw87563639094389668 tw4541053571828003545 tw7240134360468334375 tw8596573522325701155 tw7978339513105543232 tw7003574487630559664 tw10913864557743562925 tw6367190958569640897 tw6412590543002556633 tw15910031800783313211 tw5611231864740456742 tw10814583470400775243 tw14951163404787555056 tw6453859761667253897 tw3806304461119036162 tw4078353607975718108 tw6751049644918075089 tw15825153173684392627 tw12389448974620309131 tw5807669160814882665 tw4548010686989784108 tw4357278250222453864 tw18355829968269871290 tw15796876466648990154 tw8564546928063189295 tw6324464628182521061 tw9506329120468824699
tw15307408988064457969 tw6222273062300054792 tw3324175698718765733 tw5276506341389653629 tw5956176673036487714 tw13368282603308733478 tw14766984776201396183 tw10557514876430397834 tw15047957613825203813 tw8661178176312644291 tw7152393603213058685 tw3693244195471751141 tw8344604879820196104 tw1932816947760123380 tw6989656937594576192 tw10916589313927747133 tw17846697865445317989 tw5875567333923505333 tw12446820377434823373 tw12645033763865731610 tw5171256465477769902 tw13388021938113888893 tw220217255595994016 tw2091081901257325695 tw6440060333940820392 tw6484416051415028880 tw2173785223911666186 tw408561402429988330 tw710624533503228650 tw16086382710233844107 tw16793457367531416765 tw16069692866741793377 tw16896113138399489193 tw18004952641432838205 tw16795261762830451529 tw14015706900226192431 tw2042453893584700808 tw14485054049965372398 tw763222576321298542 tw6446101803494835916
tw6318299769110666378 tw1720548970393692411 tw9723817723328528845 tw4285251538676290442 tw8944001449085669462 tw5480586551192947650 tw6709269371546235910 tw1079185681678439249 tw5651341133220141512 tw18104634535853735946 tw2354893656652587981 tw16285951315667475572 tw643081516792149129 tw12009271245523080867 tw14725353413405857104 tw11583360477725936333 tw13184395740512971782 tw16272274884348326299 tw323123622582583198 tw5582719425174594995 tw11666482480239931047 tw17112703818955238648 tw5362683647513105528 tw1471687314154809240 tw3776413892849872528 tw15219457750029242032 tw1004642573028610221 tw267474422303765956 tw17685090464240408295 tw1318021208083553085 tw7859901827177250101 tw5924479343663959318 tw6745174717322762536 tw13746552548006038800 tw12278324230525040165 tw1668891916790521266 tw15750476605691898379 tw6387665392765403182 tw8228286163190028585 tw16903421216532881048
tw4619287303938307084 tw6076730376742550255 tw18113770061341318681 tw18321207091945633937 tw5541986741274413163 tw3950850101509495701 tw3870712537581726225 tw727618318358513647 tw1654815369372305133 tw5481678878075338905 tw5678526072618094981 tw16472734698781307019 tw17398927718294819717 tw1014772639088442129 tw9847991954027145557 tw15312251967882810445 tw15760990046969660318 tw1790071696780455341 tw17997617291715748932 tw3464837520130447514:Nat)
set_option maxRecDepth 100000
namespace L2
open PySem PySem.Spec PyProof.Rows
noncomputable abbrev C3:=Sum Int Str
noncomputable def keyIs:C3->Value->Bool
 | .inl k,v=>Value.isInt k v
 | .inr x,v=>Value.isStrOf x v
noncomputable def keyH (w:World):C3->Int
 | .inl k=>hashInt k
 | .inr x=>hashStr w x
theorem j9:∀ {k:C3} {v:Value},keyIs k v=true->(∃ i t,k=Sum.inl i/\v=Value.int i t)\/(∃ x t,k=Sum.inr x/\v=Value.str x t)
 | .inl i,v,h=>by
  obtain ⟨t,e⟩:=Value.isInt_shape (k:=i) (v:=v) h;exact .inl ⟨i,t,rfl,e⟩
 | .inr x,v,h=>by
  obtain ⟨t,e⟩:=Value.isStrOf_shape (x:=x) (v:=v) h;exact .inr ⟨x,t,rfl,e⟩
theorem aiC(i:Int)(t:Tok):keyIs (.inl i) (.int i t)=true:=by simp [keyIs,Value.isInt]
theorem t9(x:Str)(t:Tok):keyIs (.inr x) (.str x t)=true:=by simp [keyIs,Value.isStrOf]
theorem anv(a b:Int):decide ((Sum.inl a:C3)=Sum.inl b)=(a==b):=by
 by_cases e:a=b
 .subst e;simp
 .have h:¬ (Sum.inl a:C3)=Sum.inl b:=fun q=>e (Sum.inl.inj q)
  rw [decide_eq_false h];exact (beq_eq_false_iff_ne.mpr e).symm
theorem anw(a b:Str):decide ((Sum.inr a:C3)=Sum.inr b)=decide (a=b):=by
 by_cases e:a=b
 .subst e;simp
 .have h:¬ (Sum.inr a:C3)=Sum.inr b:=fun q=>e (Sum.inr.inj q)
  rw [decide_eq_false h,decide_eq_false e]
theorem anx(a:Int)(b:Str):decide ((Sum.inl a:C3)=Sum.inr b)=false:=decide_eq_false (fun q=>nomatch q)
theorem anz(a:Str)(b:Int):decide ((Sum.inr a:C3)=Sum.inl b)=false:=decide_eq_false (fun q=>nomatch q)
noncomputable def N8 (prog:Program) (w:World):PySem.KeyKind prog w C3 where
 is:=keyIs
 hash:=keyH w
 inj:=fun v a b ha hb=>by
  rcases j9 ha with ⟨i,t,rfl,rfl⟩ | ⟨x,t,rfl,rfl⟩
  .rcases j9 hb with ⟨j,u,rfl,e⟩ | ⟨y,u,rfl,e⟩
   .injection e with e1 _;rw [e1]
   .exact nomatch e
  .rcases j9 hb with ⟨j,u,rfl,e⟩ | ⟨y,u,rfl,e⟩
   .exact nomatch e
   .injection e with e1 _;rw [e1]
 byValue:=fun k v h=>by
  rcases j9 h with ⟨i,t,rfl,rfl⟩ | ⟨x,t,rfl,rfl⟩ <;> rfl
 pyHash:=fun hv h=>by
  rcases j9 hv with ⟨i,t,rfl,rfl⟩ | ⟨x,t,rfl,rfl⟩
  .exact wpAny_pyHash_int h
  .exact wpAny_pyHash_str h
 eqBool:=fun hu hv h=>by
  rcases j9 hu with ⟨i,t,rfl,rfl⟩ | ⟨x,t,rfl,rfl⟩
  .rcases j9 hv with ⟨j,u,rfl,rfl⟩ | ⟨y,u,rfl,rfl⟩
   .rw [anv] at h;exact wpAny_eqBool_int h
   .rw [anx] at h;exact SeqAt.EqAt.int_str i t y u _ _ _ _ h
  .rcases j9 hv with ⟨j,u,rfl,rfl⟩ | ⟨y,u,rfl,rfl⟩
   .rw [anz] at h;exact SeqAt.EqAt.str_int x t j u _ _ _ _ h
   .rw [anw] at h;exact wpAny_eqBool_str h
 «strs»:=fun k x t v h=>by
  rcases j9 h with ⟨i,u,rfl,e⟩ | ⟨y,u,rfl,e⟩
  .exact nomatch e
  .injection e with e1 _
   subst e1
   cases v <;> rfl
theorem agC(prog:Program)(w:World)(i:Int)(t:Tok):(N8 prog w).is (.inl i) (.int i t)=true:=aiC i t
theorem agD(prog:Program)(w:World)(x:Str)(t:Tok):(N8 prog w).is (.inr x) (.str x t)=true:=t9 x t
end L2
namespace L2
open PySem PySem.Spec PyProof.Rows
inductive V where
 | non | bl (b:Bool) | int (i:Int) | str (x:Str) | byt (b:Array UInt8) | flt (b:UInt64) | ref (a:Addr) | ty (n:String)
 deriving DecidableEq
noncomputable def RelV:V->Value->Prop
 | .non,u=>u=Value.none
 | .bl b,u=>u=Value.bool b
 | .int i,u=>∃ t,u=Value.int i t
 | .str x,u=>∃ t,u=Value.str x t
 | .byt b,u=>∃ t,u=Value.bytes b t
 | .flt b,u=>∃ t,u=Value.float b t
 | .ref a,u=>u=Value.ref a
 | .ty n,u=>u=Value.type n
noncomputable abbrev Vals:List V->List Value->Prop:=Paired RelV
theorem Vals.length{xs:List V}{us:List Value}(r:Vals xs us):xs.length=us.length:=Paired.length r
theorem Vals.get:∀ {xs:List V} {us:List Value} {i:Nat} {x:V},Vals xs us->xs[i]?=some x->∃ u,us[i]?=some u/\RelV x u
 | _,_,_,_,.nil,e=>by simp at e
 | _,_,0,_,.cons r _,e=>by simp at e;subst e;exact ⟨_,rfl,r⟩
 | _,_,i+1,x,.cons _ t,e=>by
  obtain ⟨u,h1,h2⟩:=Vals.get (i:=i) (x:=x) t (by simpa using e);exact ⟨u,by simpa using h1,h2⟩
theorem Vals.set{x:V}{u:Value}(r:RelV x u):∀ {xs:List V} {us:List Value} (i:Nat),Vals xs us->Vals (xs.set i x) (us.set i u)
 | _,_,_,.nil=>.nil
 | _,_,0,.cons _ t=>.cons r t
 | _,_,i+1,.cons q t=>.cons q (Vals.set r i t)
theorem Vals.append:∀ {xs ys:List V} {us ws:List Value},Vals xs us->Vals ys ws->Vals (xs++ys) (us++ws)
 | _,_,_,_,.nil,s=>s
 | _,_,_,_,.cons r t,s=>.cons r (Vals.append t s)
theorem Vals.take:∀ {xs:List V} {us:List Value} (n:Nat),Vals xs us->Vals (xs.take n) (us.take n)
 | _,_,0,_=>.nil
 | _,_,_+1,.nil=>.nil
 | _,_,n+1,.cons r t=>.cons r (Vals.take n t)
theorem Vals.drop:∀ {xs:List V} {us:List Value} (n:Nat),Vals xs us->Vals (xs.drop n) (us.drop n)
 | _,_,0,r=>r
 | _,_,_+1,.nil=>.nil
 | _,_,n+1,.cons _ t=>Vals.drop n t
theorem Vals.none_of:∀ {xs:List V} {us:List Value} {i:Nat},Vals xs us->xs[i]?=none->us[i]?=none:=fun {xs us i} r e=>by
 have h1:=r.length;have h2:xs.length<=i:=List.getElem?_eq_none_iff.mp e;exact List.getElem?_eq_none_iff.mpr (by lia)
noncomputable def RelO:Option V->Option Value->Prop
 | some v,some u=>RelV v u
 | none,none=>True
 | _,_=>False
noncomputable def KV {κ:Type} : List (κ×V)->List (κ×Value)->Prop:=Paired fun (p:κ×V) (q:κ×Value)=>p.1=q.1/\RelV p.2 q.2
noncomputable def kV:C3->V
 | .inl i=>.int i
 | .inr x=>.str x
inductive HO where
 | lst (xs:List V)
 | tup (xs:List V)
 | dK (kvs:List (C3×V)) | dT (kvs:List (List C3×V))
 | set (S:Int->Bool) (n:Nat)
 | ins (C dx:Addr) (fs:List (Str×V))
 | own (x:Addr)
 | xd (fs:List (Str×V))
 | met (f x:Addr)
 | rng (lo hi:Int)
 | frz (o:Obj) (u:HO)
 | tbl (ps:Array Value)
 | ext (φ:Heap->Prop)
noncomputable abbrev Hp:=Addr->Option HO
noncomputable def A4 (H:Hp) (a:Addr) (o:HO):Hp:=fun b=>if b=a then some o else H b
theorem A5{H:Hp}{a:Addr}{o:HO} : A4 H a o a=some o:=by unfold A4;rw [if_pos rfl]
theorem A9{H:Hp}{a b:Addr}{o:HO}(h:b≠a):A4 H a o b=H b:=by unfold A4;rw [if_neg h]
theorem yL{H:Hp}{a:Addr}{o u:HO} : A4 (A4 H a o) a u=A4 H a u:=by
 funext b;unfold A4;split <;> rfl
theorem ne_of{H:Hp}{a b:Addr}{o u:HO}(h:H a=some o)(h':H b=some u)(d:o≠u):a≠b:=by
 intro e;subst e;rw [h] at h';exact d (Option.some.inj h')
theorem aE{H:Hp}{a b:Addr}{o:HO}(h:H a=some o)(h':H b=none):a≠b:=by
 intro e;subst e;rw [h] at h';cases h'
section
variable (P:Program) (w:World)
noncomputable def ObjOk (H:Hp) (h:Heap) (a:Addr):HO->Prop
 | .lst xs=>xs.length<=sizeLine/\∃ (its:List Value) (n:Nat),Vals xs its/\h.get? a=some { cls:=.type "list",data:=.seq its.toArray n }
 | .tup xs=>xs.length<=sizeLine/\∃ its:List Value,Vals xs its/\IsTup h a its.toArray
 | .dK kvs=>kvs.length<=sizeLine/\(a==sysModules)=false/\∃ vs,KV kvs vs/\h.DictOf (N8 P w) a vs
 | .dT kvs=>kvs.length<=sizeLine/\(a==sysModules)=false/\∃ xs:List (List C3×Addr×Value),
   Paired (fun (p:List C3×V) (q:List C3×Addr×Value)=>p.1=q.1/\H q.2.1=some (.tup (p.1.map kV))/\RelV p.2 q.2.2) kvs xs/\
   ∃ o es ep,h.get? a=some o/\o.ExactDict/\o.data=.dict es ep/\es.toList=xs.map (entryOfKey (tupleKind (N8 P w)))/\(xs.map (·.1)).Nodup
 | .set S n=>h.SetOf (intKind P w) a S n
 | .ins C dx fs=>H dx=some (.own a)/\fs.length<=1000/\dx≠a/\h.get? a=some (bV C dx)/\
   ∃ mA,h.Ns1 dx mA/\(∀ f,RelO (fs.lookup f) (mA f))/\PySem.Within mA (fs.map (·.1))
 | .own _=>∃ o,h.get? a=some o
 | .xd fs=>∃ mA,h.Ns1 a mA/\∀ f,RelO (fs.lookup f) (mA f)
 | .rng lo hi=>∃ t u v,h.get? a=some { cls:=.type "range",data:=.fields #[.int lo t,.int hi u,.int 1 v] }
 | .frz o u=>h.get? a=some o/\ObjOk H h a u
 | .tbl ps=>h.get? a=some { cls:=.none,data:=.fields ps }
 | .met f x=>h.get? a=some (PySem.W.methodObj (.ref f) (.ref x))
 | .ext φ=>φ h/\(∃ o,h.get? a=some o)/\∀ h1 h2:Heap,φ h1->(∀ o,h1.get? a=some o->h2.get? a=some o)->φ h2
noncomputable def M3 (H:Hp) (h:Heap):Prop:=∀ a o,H a=some o->ObjOk P w H h a o
end
section
variable {P:Program} {w:World} {H H':Hp} {h h':Heap} {a:Addr} {o:HO}
theorem ObjOk.lt(x:ObjOk P w H h a o):a<h.objs.size:=by
 cases o with
 | lst xs=>obtain ⟨_,_,_,_,e⟩:=x;exact Heap.lt_size e
 | tup xs=>obtain ⟨_,_,_,p⟩:=x;exact p.lt
 | dK kvs=>obtain ⟨_,_,_,_,o,_,_,e,_⟩:=x;exact Heap.lt_size e
 | dT kvs=>obtain ⟨_,_,_,_,o,_,_,e,_⟩:=x;exact Heap.lt_size e
 | set S n=>obtain ⟨o,_,_,_,e,_⟩:=x;exact Heap.lt_size e
 | ins C dx fs=>obtain ⟨_,_,_,e,_⟩:=x;exact Heap.lt_size e
 | own y=>obtain ⟨_,e⟩:=x;exact Heap.lt_size e
 | xd fs=>obtain ⟨_,⟨_,_,_,e,_⟩,_⟩:=x;exact Heap.lt_size e
 | rng lo hi=>obtain ⟨_,_,_,e⟩:=x;exact Heap.lt_size e
 | frz ob u=>obtain ⟨e,_⟩:=x;exact Heap.lt_size e
 | tbl ps=>exact Heap.lt_size (show h.get? a=some _ from x)
 | met f y=>exact Heap.lt_size (show h.get? a=some _ from x)
 | ext φ=>obtain ⟨_,⟨_,e⟩,_⟩:=x;exact Heap.lt_size e
theorem O6{α β:Type}{F G:α->β->Prop} : ∀ {l₁:List α} {l₂:List β},Paired F l₁ l₂->(∀ a b,F a b->G a b)->Paired G l₁ l₂
 | _,_,.nil,_=>.nil
 | _,_,.cons r t,f=>.cons (f _ _ r) (O6 t f)
theorem ObjOk.stay(x:ObjOk P w H h a o)(k:∀ b u,(b=a\/H b=some (.own a))->h.get? b=some u->h'.get? b=some u)(ho:∀ b,H b=some (.own a)->H' b=some (.own a))(ht:∀ b xs,H b=some (.tup xs)->H' b=some (.tup xs)):ObjOk P w H' h' a o:=by
 induction o with
 | lst xs=>obtain ⟨z,its,n,r,e⟩:=x;exact ⟨z,its,n,r,k _ _ (.inl rfl) e⟩
 | tup xs=>obtain ⟨z,its,r,ob,e,c⟩:=x;exact ⟨z,its,r,ob,k _ _ (.inl rfl) e,c⟩
 | dK kvs=>obtain ⟨z,y,vs,r,ob,es,ep,e,c⟩:=x;exact ⟨z,y,vs,r,ob,es,ep,k _ _ (.inl rfl) e,c⟩
 | dT kvs=>
  obtain ⟨z,y,xs,r,ob,es,ep,e,c⟩:=x;exact ⟨z,y,xs,O6 r fun p q z=>⟨z.1,ht _ _ z.2.1,z.2.2⟩,ob,es,ep,k _ _ (.inl rfl) e,c⟩
 | set S n=>obtain ⟨ob,es,ep,t,e,c⟩:=x;exact ⟨ob,es,ep,t,k _ _ (.inl rfl) e,c⟩
 | ins C dx fs=>
  obtain ⟨d,z,ne,e,mA,⟨od,es,ep,e2,c⟩,r⟩:=x;exact ⟨ho _ d,z,ne,k _ _ (.inl rfl) e,mA,⟨od,es,ep,k _ _ (.inr d) e2,c⟩,r⟩
 | own y=>obtain ⟨ob,e⟩:=x;exact ⟨ob,k _ _ (.inl rfl) e⟩
 | xd fs=>obtain ⟨mA,⟨od,es,ep,e,c⟩,r⟩:=x;exact ⟨mA,⟨od,es,ep,k _ _ (.inl rfl) e,c⟩,r⟩
 | rng lo hi=>obtain ⟨t,u,v,e⟩:=x;exact ⟨t,u,v,k _ _ (.inl rfl) e⟩
 | frz ob u ih=>obtain ⟨e,q⟩:=x;exact ⟨k _ _ (.inl rfl) e,ih q⟩
 | tbl ps=>
  have e:h.get? a=some { cls:=.none,data:=.fields ps }:=x;show h'.get? a=some { cls:=.none,data:=.fields ps };exact k a _ (.inl rfl) e
 | met f y=>
  have e:h.get? a=some (PySem.W.methodObj (.ref f) (.ref y)):=x;show h'.get? a=some (PySem.W.methodObj (.ref f) (.ref y));exact k a _ (.inl rfl) e
 | ext φ=>obtain ⟨p,⟨o,e⟩,st⟩:=x;exact ⟨st _ _ p fun o q=>k _ _ (.inl rfl) q,⟨o,k _ _ (.inl rfl) e⟩,st⟩
theorem M3.lt(x:M3 P w H h)(e:H a=some o):a<h.objs.size:=(x a o e).lt
theorem M3.fresh(x:M3 P w H h)(e:h.objs.size<=a):H a=none:=by
 cases q:H a with
 | none=>rfl
 | some u=>exact absurd (T5 (x.lt q) e) (j5 _)
theorem M3.kept(x:M3 P w H h)(k:∀ b u,h.get? b=some u->h'.get? b=some u):M3 P w H h':=fun a o e=>
 (x a o e).stay (fun b u _ q=>k b u q) (fun _ q=>q) fun _ _ q=>q
theorem M3.laid(x:M3 P w H h)(k:∀ b u,h.get? b=some u->h'.get? b=some u)(hp:h.objs.size<=a)(new:ObjOk P w (A4 H a o) h' a o):M3 P w (A4 H a o) h':=fun b u e=>by
 have hn:=x.fresh hp
 by_cases hb:b=a
 .subst hb;rw [A5] at e;cases e;exact new
 .rw [A9 hb] at e;exact (x b u e).stay (fun c v _ q=>k c v q) (fun c q=>by rw [A9 (aE q hn)];exact q) fun c xs q=>by rw [A9 (aE q hn)];exact q
end
noncomputable def Rd (H:Hp) (a:Addr) (u:HO):Prop:=H a=some u\/∃ o,H a=some (.frz o u)
theorem Rd.of{H:Hp}{a:Addr}{u:HO}(h:H a=some u):Rd H a u:=.inl h
theorem Rd.ok{P:Program}{w:World}{H:Hp}{h:Heap}{a:Addr}{u:HO}(r:Rd H a u)(x:M3 P w H h):ObjOk P w H h a u:=by
 rcases r with r | ⟨o,r⟩
 .exact x a u r
 .obtain ⟨_,q⟩:=x a _ r;exact q
noncomputable def jN:Option HO->Prop
 | some (.lst _)=>True
 | some (.dK _)=>True
 | some (.dT _)=>True
 | some (.set _ _)=>True
 | some (.ins _ _ _)=>True
 | some (.ext _)=>True
 | _=>False
section
variable {P:Program} {w:World} {H:Hp} {h h':Heap} {x e:Addr} {o':HO}
theorem M3.write(ok:M3 P w H h)(mu:jN (H x))(he:e=x\/H e=some (.own x))(k:∀ b u,b≠e->h.get? b=some u->h'.get? b=some u)(iL:∃ u,h'.get? e=some u)(new:ObjOk P w (A4 H x o') h' x o'):M3 P w (A4 H x o') h':=fun b u q=>by
 have nown:∀ c y,H c=some (.own y)->c≠x:=fun c y r z=>by subst z;rw [r] at mu;exact mu
 have ntup:∀ c xs,H c=some (.tup xs)->c≠x:=fun c xs r z=>by subst z;rw [r] at mu;exact mu
 by_cases hb:b=x
 .subst hb;rw [A5] at q;cases q;exact new
 .rw [A9 hb] at q
  by_cases eZ:b=e
  .have q':H b=some (.own x):=by
    rcases he with z | z
    .exact absurd (eZ.trans z) hb
    .rw [eZ];exact z
   rw [q] at q';cases q';obtain ⟨v,hv⟩:=iL;exact ⟨v,by rw [eZ];exact hv⟩
  .refine (ok b u q).stay (fun c v hc r=>k c v ?_ r) (fun c r=>by rw [A9 (nown c b r)];exact r) fun c xs r=>by rw [A9 (ntup c xs r)];exact r
   rcases hc with rfl | hc
   .exact eZ
   .rintro rfl
    rcases he with z | z
    .exact nown c b hc z
    .rw [hc] at z;cases z;exact hb rfl
end
structure Un(fs ex:List Addr)(H H':Hp)(h h':Heap):Prop where
 keep:∀ b o,h.get? b=some o->H b=none->b∉fs->b∉ex->h'.get? b=some o
 slot:∀ b o,h.get? b=some o->H b=none->b∈fs->b∉ex->∃ sl,h'.get? b=some { o with slots:=sl }
 free:∀ b o,h.get? b=some o->H b=none->b∉ex->H' b=none
 there:∀ b o,h.get? b=some o->b∉ex->∃ o',h'.get? b=some o'
 tups:∀ b xs,H b=some (.tup xs)->H' b=some (.tup xs)
 frzs:∀ b o u,H b=some (.frz o u)->H' b=some (.frz o u)
 tbls:∀ b ps,H b=some (.tbl ps)->∃ more,H' b=some (.tbl (ps++more))
section
variable {fs fs' ex ex':List Addr} {H H1 H2:Hp} {h h1 h2 h':Heap} {a x e:Addr} {o:HO}
theorem Un.any(u:Un fs ex H H1 h h1){b:Addr}{ob:Obj}(q:h.get? b=some ob)(n:H b=none)(hx:b∉ex):∃ sl,h1.get? b=some { ob with slots:=sl }:=by
 by_cases hb:b∈fs
 .exact u.slot b ob q n hb hx
 .exact ⟨ob.slots,u.keep b ob q n hb hx⟩
theorem Un.kept(k:∀ b u,h.get? b=some u->h'.get? b=some u):Un fs ex H H h h':=
 ⟨fun b ob q _ _ _=>k b ob q,fun b ob q _ _ _=>⟨ob.slots,k b ob q⟩,fun _ _ _ n _=>n,fun b ob q _=>⟨ob,k b ob q⟩,fun _ _ q=>q,fun _ _ _ q=>q,fun _ ps q=>⟨#[],by rw [q];simp⟩⟩
theorem Un.refl:Un fs ex H H h h:=Un.kept fun _ _ q=>q
theorem Un.laid(k:∀ b u,h.get? b=some u->h'.get? b=some u)(hp:h.objs.size<=a)(hn:H a=none):Un fs ex H (A4 H a o) h h' where
 keep:=fun b u q _ _ _=>k b u q
 slot:=fun b u q _ _ _=>⟨u.slots,k b u q⟩
 free:=fun b u q n _=>by rw [A9 (N1 (T5 (Heap.lt_size q) hp))];exact n
 there:=fun b u q _=>⟨u,k b u q⟩
 tups:=fun b xs q=>by rw [A9 (aE q hn)];exact q
 frzs:=fun b u xs q=>by rw [A9 (aE q hn)];exact q
 tbls:=fun b ps q=>⟨#[],by rw [A9 (aE q hn),q];simp⟩
theorem Un.write(mu:jN (H x))(he:e=x\/H e=some (.own x))(k:∀ b u,b≠e->h.get? b=some u->h'.get? b=some u)(iL:∃ u,h'.get? e=some u):Un fs ex H (A4 H x o) h h':=by
 have hx:∀ b,H b=none->b≠x:=fun b n z=>by subst z;rw [n] at mu;exact mu
 have hb:∀ b,H b=none->b≠e:=fun b n z=>by
  subst z
  rcases he with r | r
  .exact hx b n r
  .rw [n] at r;cases r
 have hm:∀ b u,H b=some u->¬ jN (some u)->b≠x:=fun b u q nm z=>by subst z;rw [q] at mu;exact nm mu
 refine ⟨fun b u q n _ _=>k b u (hb b n) q,fun b u q n _ _=>⟨u.slots,k b u (hb b n) q⟩,fun b u q n _=>by rw [A9 (hx b n)];exact n,fun b u q _=>?_,
  fun b xs q=>by rw [A9 (hm b _ q fun z=>z)];exact q,fun b u xs q=>by rw [A9 (hm b _ q fun z=>z)];exact q,fun b ps q=>⟨#[],by rw [A9 (hm b _ q fun z=>z),q];simp⟩⟩
 by_cases eZ:b=e
 .subst eZ;exact iL
 .exact ⟨u,k b u eZ q⟩
end
noncomputable def nH (h:Heap) (H:Hp):List Addr:=(t7 h.objs.size).filter fun a=>(H a).isSome
noncomputable def hidT (h:Heap) (H:Hp):Heap:=PySem.W.hideAll h (nH h H)
theorem aiE(h:Heap)(H:Hp):(hidT h H).objs.size=h.objs.size:=PySem.W.hideAll_size _ _
theorem akk{h:Heap}{H:Hp}{b:Addr}{o:Obj}(e:h.get? b=some o)(n:H b=none):(hidT h H).get? b=some o:=
 PySem.W.hideAll_get _ e fun hm=>by
  have q:(H b).isSome=true:=(O1.mp hm).2;rw [n] at q;simp at q
theorem al3{h:Heap}{H:Hp}{b:Addr}{o:Obj}(e:(hidT h H).get? b=some o):h.get? b=some o/\H b=none:=by
 have e':h.get? b=some o:=PySem.W.of_hideAll (nH h H) e;refine ⟨e',?_⟩
 cases q:H b with
 | none=>rfl
 | some x=>
  have hm:b∈nH h H:=O1.mpr ⟨List.mem_range.mpr (Heap.lt_size e'),by simp [q]⟩;have z:(hidT h H).get? b=none:=PySem.W.hideAll_none (nH h H) hm;rw [z] at e;cases e
noncomputable def al4 (g h:Heap) (L:Addr):List (Addr×Obj):=(t7 h.objs.size).filterMap fun a=>if a=L\/(g.get? a).isSome=true then none else (h.get? a).map fun o=>(a,o)
noncomputable def rest (g h:Heap) (L d:Addr):List (Addr×Obj):=(al4 g h L).filter fun p=>decide (p.1≠d)
end L2
namespace L2
open PySem PySem.Spec PyProof.Rows
structure Mod(K:PySem.W.Frag)(mg:Str->Option Value)(base:Heap):Prop where
 kin:K.In base
 glob:base.Ns mainGlobals mg
 blt:∃ mb,base.Ns builtinsNs mb/\∀ x:Str,x≠"__name__"->mb x=bootBuiltins x
 nolimit:base.NoLimit
structure Cx where
 prog:Program
 w:World
 K:PySem.W.Frag
 mg:Str->Option Value
 base:Heap
 A:Around
 N:List Str
 s₀:Shared
 H₀:Hp
 env:Env
 outer:List Env
 stack:List Env
 ex:List Addr
 fn:Str->Bool
 calm:Bool
 pn:List (Addr×Obj)
 xe:Value->Shared->Prop
noncomputable def k0 (l:List Env):List Addr:=l.filterMap (·.frame)
noncomputable abbrev Cx.fs (X:Cx):List Addr:=k0 X.outer
noncomputable def jO (sc:Scope) (x:Str):Prop:=sc.names.lookup x=some .local\/sc.names.lookup x=some .cell\/sc.names.lookup x=some .free
noncomputable def k4 (sc:Scope) (x:Str):Prop:=sc.names.lookup x=some .local\/sc.names.lookup x=some .cell
noncomputable def Look (env:Env) (h:Heap) (m:Str->Option Value) (x:Str) (u:Value):Prop:=
 (env.kindOf x=some .local/\m x=some u)\/((env.kindOf x=some .cell\/env.kindOf x=some .free)/\∃ c,env.cells.lookup x=some c/\h.IsCell c (some u))
structure Cx.Ok(X:Cx):Prop where
 mod:Mod X.K X.mg X.base
 kind:X.env.scope.kind=.function
 glob:X.env.globals=mainGlobals
 blt:X.env.builtins=builtinsNs
 above:X.s₀.heap.objs.size<=X.env.locals
 inj:∀ x y c,X.env.cells.lookup x=some c->X.env.cells.lookup y=some c->x=y
 has:∀ x,(X.env.kindOf x=some .cell\/X.env.kindOf x=some .free)->∃ c,X.env.cells.lookup x=some c
 cab:∀ x c,X.fn x=true->X.env.cells.lookup x=some c->X.s₀.heap.objs.size<=c
 hd:X.calm=true->X.A.handled=none
 frames:X.A.frames=some X.stack
 stk:X.stack=X.outer\/(X.stack=X.env::X.outer/\X.env.frame=some X.env.locals)
 exf:∀ b∈X.ex,b≠X.env.locals/\∀ x c,X.env.cells.lookup x=some c->c≠b
 bs:∀ b o,X.base.get? b=some o->X.s₀.heap.get? b=some o/\X.H₀ b=none
 bsz:X.base.objs.size<=X.s₀.heap.objs.size
 noex:∀ b o,X.base.get? b=some o->b∉X.ex
 exfs:∀ b∈X.ex,b∉X.fs
 funs:X.s₀.heap.FunFrames X.base X.outer
 frf:∀ b∈X.fs,X.H₀ b=none
structure Inv(X:Cx)(pins:List (Addr×Obj))(Y:List (Option V))(H:Hp)(s:Shared):Prop where
 ok:X.Ok
 os:s.os=X.s₀.os
 bare:AllBare s.gens
 base:Un X.fs X.ex X.H₀ H X.s₀.heap s.heap
 loc:∃ m,s.heap.Ns X.env.locals m/\∀ (i:Nat) (x:Str) (v:V),X.N[i]?=some x->Y[i]?=some (some v)->jO X.env.scope x->∃ u,RelV v u/\Look X.env s.heap m x u
 cell:∀ x c,X.env.cells.lookup x=some c->∃ v,s.heap.IsCell c v
 free:H X.env.locals=none
 freeC:∀ x c,X.env.cells.lookup x=some c->H c=none
 pin:∀ p∈X.pn++pins,s.heap.get? p.1=some p.2/\H p.1=none/\p.1≠X.env.locals/\p.1∉X.fs/\∀ v,p.2.data≠.cell v
 hok:M3 X.prog X.w H s.heap
 len:Y.length=X.N.length
section
variable {X:Cx} {pins:List (Addr×Obj)} {Y:List (Option V)} {H H':Hp} {s:Shared} {h':Heap}
theorem Cx.Ok.nofr(ok:X.Ok){b:Addr}{o:Obj}(e:X.base.get? b=some o):b∉X.fs:=fun hb=>by
 have:=(ok.funs.mem hb).1
 rw [e] at this;cases this
theorem Inv.bs(I:Inv X pins Y H s):∀ b o,X.base.get? b=some o->s.heap.get? b=some o/\H b=none:=fun b o e=>
 ⟨I.base.keep b o (I.ok.bs b o e).1 (I.ok.bs b o e).2 (I.ok.nofr e) (I.ok.noex b o e),I.base.free b o (I.ok.bs b o e).1 (I.ok.bs b o e).2 (I.ok.noex b o e)⟩
theorem Inv.bk(I:Inv X pins Y H s):∀ b o,X.base.get? b=some o->s.heap.get? b=some o:=fun b o e=>(I.bs b o e).1
theorem Inv.mod(I:Inv X pins Y H s):Mod X.K X.mg X.base:=I.ok.mod
theorem Inv.kIn(I:Inv X pins Y H s):X.K.In s.heap:=I.ok.mod.kin.keeps I.bk
theorem Inv.lt(I:Inv X pins Y H s):X.env.locals<s.heap.objs.size:=let ⟨_,hn,_⟩:=I.loc;hn.lt
theorem Inv.sz(I:Inv X pins Y H s):X.s₀.heap.objs.size<=s.heap.objs.size:=K6 I.ok.above (Nat.le_of_lt I.lt)
theorem Inv.nofs(I:Inv X pins Y H s){a:Addr}(h:s.heap.objs.size<=a):a∉X.fs:=fun hb=>by
 obtain ⟨_,o,ho,_⟩:=I.ok.funs.mem hb;exact absurd (T5 (Heap.lt_size ho) (K6 I.sz h)) (j5 _)
theorem Inv.cne(I:Inv X pins Y H s):∀ x c,X.env.cells.lookup x=some c->c≠X.env.locals:=fun x c e z=>by
 obtain ⟨v,o,ho,hd⟩:=I.cell x c e;obtain ⟨m,⟨o',es,ep,m8,vU,_⟩,_⟩:=I.loc;rw [z,m8] at ho;cases ho;rw [vU] at hd;cases hd
theorem Inv.funs(I:Inv X pins Y H s):s.heap.FunFrames X.base X.outer:=by
 have all:∀ (l:List Env),(∀ b∈k0 l,b∈X.fs)->X.s₀.heap.FunFrames X.base l->s.heap.FunFrames X.base l:=by
  intro l
  induction l with
  | nil=>intro _ _;trivial
  | cons env r ih=>
   intro hs hl;obtain ⟨hk,⟨L,o,hf,hn,ho,hd⟩,hr⟩:=hl;have hL:L∈X.fs:=hs L (by unfold k0;rw [g6,hf];exact J7);obtain ⟨sl,e⟩:=I.base.slot L o ho (I.ok.frf L hL) hL fun z=>I.ok.exfs L z hL
   exact ⟨hk,⟨L,_,hf,hn,e,hd⟩,ih (fun b hb=>hs b (by unfold k0;rw [g6,hf];exact I0 _ hb)) hr⟩
 exact all X.outer (fun _ hb=>hb) I.ok.funs
theorem Inv.stack(I:Inv X pins Y H s):s.heap.FunFrames X.base X.stack:=by
 rcases I.ok.stk with e | ⟨e,hf⟩
 .rw [e];exact I.funs
 .rw [e];obtain ⟨m,hn,_⟩:=I.loc;refine .cons (by rw [I.ok.kind];decide) hf hn ?_ I.funs;exact Heap.get?_none_of_le (K6 I.ok.bsz I.ok.above)
theorem Inv.stkSub(I:Inv X pins Y H s):∀ b∈k0 X.stack,b∈X.env.locals::X.fs:=fun b hb=>by
 rcases I.ok.stk with e | ⟨e,hf⟩
 .rw [e] at hb;exact I0 _ hb
 .rw [e] at hb;unfold k0 at hb;rw [g6,hf] at hb;exact hb
theorem Inv.stkFree(I:Inv X pins Y H s):∀ b∈k0 X.stack,H b=none:=fun b hb=>by
 rcases D9.mp (I.stkSub b hb) with e | hb
 .rw [e];exact I.free
 .obtain ⟨_,o,ho,_⟩:=I.ok.funs.mem hb;exact I.base.free b o ho (I.ok.frf b hb) fun z=>I.ok.exfs b z hb
theorem Inv.step{g':Array GenState}{t':Nat}{d':Drawn}{ch:List Addr}(I:Inv X pins Y H s)(x3:∀ b∈ch,(b∈X.ex\/X.s₀.heap.objs.size<=b)/\b≠X.env.locals/\(∀ x c,X.env.cells.lookup x=some c->c≠b)/\∀ p∈X.pn++pins,p.1≠b)(keep:∀ b o,b≠X.env.locals->b∉X.fs->b∉ch->s.heap.get? b=some o->H b=none->h'.get? b=some o)(slot:∀ b o,b≠X.env.locals->b∈X.fs->b∉ch->s.heap.get? b=some o->H b=none->∃ sl,h'.get? b=some { o with slots:=sl })(free:∀ b o,b∉ch->s.heap.get? b=some o->H b=none->H' b=none)(there:∀ b o,b∉ch->s.heap.get? b=some o->∃ o',h'.get? b=some o')(tups:∀ b xs,H b=some (.tup xs)->H' b=some (.tup xs))(frzs:∀ b o u,H b=some (.frz o u)->H' b=some (.frz o u))(tbls:∀ b ps,H b=some (.tbl ps)->∃ more,H' b=some (.tbl (ps++more)))(ns:∀ m,s.heap.Ns X.env.locals m->h'.Ns X.env.locals m)(hok:M3 X.prog X.w H' h')(hg:AllBare g') :
  Inv X pins Y H' { s with heap:=h',gens:=g',drawn:=d',toks:=t' }:=by
 have neL:∀ b o,X.s₀.heap.get? b=some o->b≠X.env.locals:=fun b o e=>N1 (T5 (Heap.lt_size e) I.ok.above)
 have neC:∀ b o,X.s₀.heap.get? b=some o->b∉X.ex->b∉ch:=fun b o e hx hb=>by
  rcases (x3 b hb).1 with z | z
  .exact hx z
  .exact absurd (T5 (Heap.lt_size e) z) (j5 _)
 have cellK:∀ x c,X.env.cells.lookup x=some c->∀ v,s.heap.IsCell c v->h'.IsCell c v:=fun x c e v ⟨o,ho,hd⟩=>by
  have nch:c∉ch:=fun z=>(x3 c z).2.2.1 x c e rfl
  by_cases hc:c∈X.fs
  .obtain ⟨sl,q⟩:=slot c o (I.cne x c e) hc nch ho (I.freeC x c e);exact ⟨_,q,hd⟩
  .exact ⟨o,keep c o (I.cne x c e) hc nch ho (I.freeC x c e),hd⟩
 refine ⟨I.ok,I.os,hg,⟨fun b o e n hb hx=>?_,fun b o e n hb hx=>?_,fun b o e n hx=>?_,fun b o e hx=>?_,fun b xs e=>tups b xs (I.base.tups b xs e),fun b o xs e=>frzs b o xs (I.base.frzs b o xs e),fun b ps e=>?_⟩,?_,fun x c e=>?_,?_,fun x c e=>?_,fun p hp=>?_,hok,I.len⟩
 .exact keep b o (neL b o e) hb (neC b o e hx) (I.base.keep b o e n hb hx) (I.base.free b o e n hx)
 .obtain ⟨sl,e1⟩:=I.base.slot b o e n hb hx;obtain ⟨sl',e2⟩:=slot b _ (neL b o e) hb (neC b o e hx) e1 (I.base.free b o e n hx);exact ⟨sl',e2⟩
 .obtain ⟨o',e1⟩:=I.base.there b o e hx;exact free b o' (neC b o e hx) e1 (I.base.free b o e n hx)
 .obtain ⟨o',e1⟩:=I.base.there b o e hx;exact there b o' (neC b o e hx) e1
 .obtain ⟨m1,e1⟩:=I.base.tbls b ps e;obtain ⟨m2,e2⟩:=tbls b _ e1;exact ⟨m1++m2,by rw [e2,Array.append_assoc]⟩
 .obtain ⟨m,hn,hl⟩:=I.loc;refine ⟨m,ns m hn,fun i x v e1 e2 e3=>?_⟩;obtain ⟨u,r,l⟩:=hl i x v e1 e2 e3;refine ⟨u,r,?_⟩
  rcases l with l | ⟨k,c,e,z⟩
  .exact .inl l
  .exact .inr ⟨k,c,e,cellK x c e _ z⟩
 .obtain ⟨v,z⟩:=I.cell x c e;exact ⟨v,cellK x c e v z⟩
 .obtain ⟨m,⟨o,_,_,ho,_⟩,_⟩:=I.loc;exact free _ o (fun z=>(x3 _ z).2.1 rfl) ho I.free
 .obtain ⟨v,o,ho,hd⟩:=I.cell x c e;exact free c o (fun z=>(x3 c z).2.2.1 x c e rfl) ho (I.freeC x c e)
 .obtain ⟨e,n,ne,nf,d⟩:=I.pin p hp;have nch:p.1∉ch:=fun z=>(x3 p.1 z).2.2.2 p hp rfl
  exact ⟨keep p.1 p.2 ne nf nch e n,free p.1 p.2 nch e n,ne,nf,d⟩
theorem Inv.un{t':Nat}(I:Inv X pins Y H s)(u:Un X.fs [] H H' s.heap h')(hok:M3 X.prog X.w H' h'):Inv X pins Y H' { s with heap:=h',toks:=t' }:=by
 obtain ⟨m,⟨o,es,ep,ho,r⟩,_⟩:=id I.loc;obtain ⟨sl,hL⟩:=u.any ho I.free (by simp);exact I.step (g':=s.gens) (d':=s.drawn) (ch:=[]) (fun _ z=>nomatch z) (fun b o _ hb _ e n=>u.keep b o e n hb (by simp)) (fun b o _ hb _ e n=>u.slot b o e n hb (by simp)) (fun b o _ e n=>u.free b o e n (by simp)) (fun b o _ e=>u.there b o e (by simp)) u.tups u.frzs u.tbls (fun m' hm=>by
  obtain ⟨o',es',ep',m8,r'⟩:=hm;rw [ho] at m8;cases m8;exact ⟨_,es',ep',hL,r'⟩) hok I.bare
theorem Inv.call{g':Array GenState}{t':Nat}{d':Drawn}{ch:List Addr}(I:Inv X pins Y H s)(u:Un (k0 X.stack) ch H H' s.heap h')(hok:M3 X.prog X.w H' h')(hg:AllBare g')(x3:∀ b∈ch,(b∈X.ex\/X.s₀.heap.objs.size<=b)/\b≠X.env.locals/\(∀ x c,X.env.cells.lookup x=some c->c≠b)/\∀ p∈X.pn++pins,p.1≠b) :
  Inv X pins Y H' { s with heap:=h',gens:=g',drawn:=d',toks:=t' }:=by
 obtain ⟨m,⟨o,es,ep,ho,r⟩,_⟩:=id I.loc;obtain ⟨sl,hL⟩:=u.any ho I.free fun z=>(x3 _ z).2.1 rfl
 exact I.step (ch:=ch) x3 (fun b o hL hb hc e n=>u.keep b o e n (fun z=>(D9.mp (I.stkSub b z)).elim hL hb) hc) (fun b o _ _ hc e n=>u.any e n hc) (fun b o hc e n=>u.free b o e n hc) (fun b o hc e=>u.there b o e hc) u.tups u.frzs u.tbls (fun m' hm=>by
  obtain ⟨o',es',ep',m8,r'⟩:=hm;rw [ho] at m8;cases m8;exact ⟨_,es',ep',hL,r'⟩) hok hg
theorem Inv.turned{t':Nat}{it:Addr}(I:Inv X pins Y H s)(k:∀ b o,b≠it->s.heap.get? b=some o->h'.get? b=some o)(hn:H it=none)(hL:it≠X.env.locals)(h1:it∈X.ex\/X.s₀.heap.objs.size<=it)(h2:∀ x c,X.env.cells.lookup x=some c->c≠it)(h3:∀ p∈X.pn++pins,p.1≠it):Inv X pins Y H { s with heap:=h',toks:=t' }:=by
 have nit:∀ b u,H b=some u->b≠it:=fun b u e z=>by rw [z,hn] at e;cases e
 refine I.step (g':=s.gens) (d':=s.drawn) (ch:=[it]) (fun b hb=>?_) (fun b o _ _ hc e _=>k b o (fun z=>hc (by simp [z])) e) (fun b o _ _ hc e _=>⟨o.slots,k b o (fun z=>hc (by simp [z])) e⟩) (fun _ _ _ _ n=>n)
  (fun b o hc e=>⟨o,k b o (fun z=>hc (by simp [z])) e⟩) (fun _ _ e=>e) (fun _ _ _ e=>e) (fun b ps e=>⟨#[],by rw [e];simp⟩) (fun m hm=>?_) (fun b u e=>?_) I.bare
 .have e:b=it:=by simpa using hb
  subst e;exact ⟨h1,hL,h2,h3⟩
 .obtain ⟨o,es,ep,ho,r⟩:=hm;exact ⟨o,es,ep,k _ o (Ne.symm hL) ho,r⟩
 .refine (I.hok b u e).stay (fun c v hc q=>k c v ?_ q) (fun _ q=>q) fun _ _ q=>q
  rcases hc with z | z
  .rw [z];exact nit b u e
  .exact nit c _ z
theorem Inv.tok(I:Inv X pins Y H s)(t:Nat):Inv X pins Y H { s with toks:=t }:=I.un (h':=s.heap) (t':=t) Un.refl I.hok
theorem Inv.kept{t':Nat}(I:Inv X pins Y H s)(k:∀ b u,s.heap.get? b=some u->h'.get? b=some u):Inv X pins Y H { s with heap:=h',toks:=t' }:=I.un (Un.kept k) (I.hok.kept k)
theorem Inv.laid{a:Addr}{o:HO}{t':Nat}(I:Inv X pins Y H s)(k:∀ b u,s.heap.get? b=some u->h'.get? b=some u)(hp:s.heap.objs.size<=a)(new:ObjOk X.prog X.w (A4 H a o) h' a o) :
  Inv X pins Y (A4 H a o) { s with heap:=h',toks:=t' }:=I.un (Un.laid k hp (I.hok.fresh hp)) (I.hok.laid k hp new)
theorem Inv.write{x e:Addr}{o:HO}{t':Nat}(I:Inv X pins Y H s)(mu:jN (H x))(he:e=x\/H e=some (.own x))(k:∀ b u,b≠e->s.heap.get? b=some u->h'.get? b=some u)(iL:∃ u,h'.get? e=some u)(new:ObjOk X.prog X.w (A4 H x o) h' x o):Inv X pins Y (A4 H x o) { s with heap:=h',toks:=t' }:=I.un (Un.write mu he k iL) (I.hok.write mu he k iL new)
theorem Inv.pins_of{pins':List (Addr×Obj)}(I:Inv X pins Y H s)(h:∀ p∈pins',s.heap.get? p.1=some p.2/\H p.1=none/\p.1≠X.env.locals/\p.1∉X.fs/\∀ v,p.2.data≠.cell v):Inv X pins' Y H s:=
 ⟨I.ok,I.os,I.bare,I.base,I.loc,I.cell,I.free,I.freeC,fun p hp=>(F6.mp hp).elim (fun z=>I.pin p (L4 _ z)) (h p),I.hok,I.len⟩
theorem yM{N:List Str}(hN:N.Nodup){i j:Nat}{x:Str}(a:N[i]?=some x)(b:N[j]?=some x):i=j:=by
 obtain ⟨h1,e1⟩:=G9.mp a;obtain ⟨h2,e2⟩:=G9.mp b;exact (List.getElem_inj hN).mp (e1.trans e2.symm)
theorem aiF{M:Model}{A:Around}{E:Value->Shared->Prop}{i:Nat}{x:Str}{v:V}{u:Value}{Q:Unit->Shared->Prop}(I:Inv X pins Y H s)(hN:X.N.Nodup)(hi:X.N[i]?=some x)(hx:k4 X.env.scope x)(r:RelV v u)(h:∀ s',Inv X pins (Y.set i (some v)) H s'->(∃ a,Heap.SameBut a s.heap s'.heap/\(a=X.env.locals\/X.env.cells.lookup x=some a))->Q () s')(hf:X.fn x=true\/X.env.scope.names.lookup x=some .local:=by first | exact .inl rfl | exact .inr rfl | assumption):wpAny M A (storeName X.env x u) Q E s:=by
 obtain ⟨m,hn,hl⟩:=id I.loc;have vV:(X.env.scope.kind == .class || (X.env.scope.kind == .module&&X.env.locals != X.env.globals))=false:=by rw [I.ok.kind];rfl
 have hiσ:i<Y.length:=by rw [I.len];exact (G9.mp hi).1
 have cne:=I.cne;have tracked:∀ {a:Addr} {h':Heap},(∃ o,s.heap.get? a=some o/\H a=none)->Heap.SameBut a s.heap h'->M3 X.prog X.w H h':=fun {a h'} ha hs b ob e=>by
  obtain ⟨_,_,cR⟩:=ha;refine (I.hok b ob e).stay (fun c w' hc q=>(hs.2 c ?_).trans q) (fun _ q=>q) fun _ _ q=>q
  rintro rfl
  rcases hc with rfl | hc
  .rw [cR] at e;cases e
  .rw [cR] at hc;cases hc
 rcases hx with hk | hk
 .refine wpAny_storeName_local hk hn (fun h' hn' hs=>?_) vV;obtain ⟨oL,_,_,hoL,_⟩:=id hn;refine h _ ⟨I.ok,I.os,I.bare,⟨fun b o e n hb hx=>?_,fun b o e n hb hx=>?_,I.base.free,fun b o e hx=>?_,I.base.tups,I.base.frzs,I.base.tbls⟩,⟨_,hn',fun j y v' e1 e2 e3=>?_⟩,fun y c e=>?_,I.free,I.freeC,fun p hp=>?_,tracked ⟨oL,hoL,I.free⟩ hs,by simpa using I.len⟩ ⟨_,hs,.inl rfl⟩
  .exact (hs.2 b (N1 (T5 (Heap.lt_size e) I.ok.above))).trans (I.base.keep b o e n hb hx)
  .obtain ⟨sl,e1⟩:=I.base.slot b o e n hb hx;exact ⟨sl,(hs.2 b (N1 (T5 (Heap.lt_size e) I.ok.above))).trans e1⟩
  .obtain ⟨o',e1⟩:=I.base.there b o e hx;exact ⟨o',(hs.2 b (N1 (T5 (Heap.lt_size e) I.ok.above))).trans e1⟩
  .by_cases hj:j=i
   .subst hj;rw [hi] at e1;cases e1;rw [List.getElem?_set_self hiσ] at e2;cases e2;exact ⟨u,r,.inl ⟨hk,by simp⟩⟩
   .rw [List.getElem?_set_ne (Ne.symm hj)] at e2;obtain ⟨u',r',q⟩:=hl j y v' e1 e2 e3;refine ⟨u',r',?_⟩
    rcases q with ⟨k,e⟩ | ⟨k,c,e,z⟩
    .refine .inl ⟨k,?_⟩
     have:y≠x:=fun e=>hj (yM hN e1 (e ▸ hi))
     simp [this,e]
    .exact .inr ⟨k,c,e,z.sameBut hs (cne y c e)⟩
  .obtain ⟨w',z⟩:=I.cell y c e;exact ⟨w',z.sameBut hs (cne y c e)⟩
  .obtain ⟨e,n,ne,nf,d⟩:=I.pin p hp;exact ⟨(hs.2 p.1 ne).trans e,n,ne,nf,d⟩
 .have vW:X.fn x=true:=by
   rcases hf with z | z
   .exact z
   .rw [z] at hk;cases hk
  obtain ⟨c,hc⟩:=I.ok.has x (.inl hk);obtain ⟨w',z⟩:=I.cell x c hc;refine wpAny_storeName_cell I.ok.kind hk hc z (fun h' i8 hs=>?_);obtain ⟨oc,vX,vY⟩:=id z;refine h { s with heap:=h' } ⟨I.ok,I.os,I.bare,⟨fun b o e n hb hx=>?_,fun b o e n hb hx=>?_,I.base.free,fun b o e hx=>?_,I.base.tups,I.base.frzs,I.base.tbls⟩,⟨m,hn.sameBut hs (Ne.symm (cne x c hc)),fun j y v' e1 e2 e3=>?_⟩,fun y c' e=>?_,I.free,I.freeC,fun p hp=>?_,tracked ⟨oc,vX,I.freeC x c hc⟩ hs,by simpa using I.len⟩ ⟨c,hs,.inr hc⟩
  .exact (hs.2 b (N1 (T5 (Heap.lt_size e) (I.ok.cab x c vW hc)))).trans (I.base.keep b o e n hb hx)
  .obtain ⟨sl,e1⟩:=I.base.slot b o e n hb hx;exact ⟨sl,(hs.2 b (N1 (T5 (Heap.lt_size e) (I.ok.cab x c vW hc)))).trans e1⟩
  .obtain ⟨o',e1⟩:=I.base.there b o e hx;exact ⟨o',(hs.2 b (N1 (T5 (Heap.lt_size e) (I.ok.cab x c vW hc)))).trans e1⟩
  .by_cases hj:j=i
   .subst hj;rw [hi] at e1;cases e1;rw [List.getElem?_set_self hiσ] at e2;cases e2;exact ⟨u,r,.inr ⟨.inl hk,c,hc,i8⟩⟩
   .rw [List.getElem?_set_ne (Ne.symm hj)] at e2;obtain ⟨u',r',q⟩:=hl j y v' e1 e2 e3;refine ⟨u',r',?_⟩
    rcases q with q | ⟨k,c',e,z'⟩
    .exact .inl q
    .refine .inr ⟨k,c',e,z'.sameBut hs ?_⟩;rintro rfl;exact hj (yM hN e1 (I.ok.inj _ _ _ e hc ▸ hi))
  .by_cases hcc:c'=c
   .subst hcc;exact ⟨_,i8⟩
   .obtain ⟨w2,z2⟩:=I.cell y c' e;exact ⟨w2,z2.sameBut hs hcc⟩
  .obtain ⟨e,n,ne,nf,d⟩:=I.pin p hp;refine ⟨(hs.2 p.1 ?_).trans e,n,ne,nf,d⟩;intro q;rw [q,vX] at e;have q':oc=p.2:=Option.some.inj e;exact d w' (by rw [<- q'];exact vY)
theorem nI{M:Model}{A:Around}{E:Value->Shared->Prop}{i:Nat}{x:Str}{v:V}{u:Value}{Q:Unit->Shared->Prop}(I:Inv X pins Y H s)(hN:X.N.Nodup)(hi:X.N[i]?=some x)(hx:k4 X.env.scope x)(r:RelV v u)(h:∀ s',Inv X pins (Y.set i (some v)) H s'->Q () s')(hf:X.fn x=true\/X.env.scope.names.lookup x=some .local:=by first | exact .inl rfl | exact .inr rfl | assumption):wpAny M A (storeName X.env x u) Q E s:=
 aiF I hN hi hx r (fun s' I' _=>h s' I') hf
theorem Inv.call'{s':Shared}{ch:List Addr}(I:Inv X pins Y H s)(ho:s'.os=s.os)(u:Un (k0 X.stack) ch H H' s.heap s'.heap)(hok:M3 X.prog X.w H' s'.heap)(hg:AllBare s'.gens)(x3:∀ b∈ch,(b∈X.ex\/X.s₀.heap.objs.size<=b)/\b≠X.env.locals/\(∀ x c,X.env.cells.lookup x=some c->c≠b)/\∀ p∈X.pn++pins,p.1≠b):Inv X pins Y H' s':=by
 obtain ⟨h',g',d',t',o'⟩:=s';have e:o'=s.os:=ho;subst e;exact I.call (g':=g') (t':=t') (d':=d') u hok hg x3
end
noncomputable abbrev XK:=Value->Option Addr->Hp->Prop
noncomputable abbrev St:=List (Option V)
noncomputable abbrev VK:=V->Hp->Prop
noncomputable abbrev TE:=St->Hp->VK->Prop
noncomputable abbrev TT:=St->Hp->(Bool->Hp->Prop)->Prop
noncomputable abbrev TA:=St->Hp->(List V->Hp->Prop)->Prop
structure Ends where
 nx:St->Hp->Prop
 rt:VK
 bk:St->Hp->Prop:=fun _ _=>False
 ct:St->Hp->Prop:=fun _ _=>False
noncomputable abbrev TS:=Ends->St->Hp->Prop
noncomputable def EP (X:Cx) (pins:List (Addr×Obj)) (Y:St) (Q:VK) (u:Value) (s':Shared):Prop:=∃ v H',Inv X pins Y H' s'/\RelV v u/\Q v H'
noncomputable def TP (X:Cx) (pins:List (Addr×Obj)) (Y:St) (Q:Bool->Hp->Prop) (b:Bool) (s':Shared):Prop:=∃ H',Inv X pins Y H' s'/\Q b H'
noncomputable def AP (X:Cx) (pins:List (Addr×Obj)) (Y:St) (Q:List V->Hp->Prop) (us:List Value) (s':Shared):Prop:=∃ vs H',Inv X pins Y H' s'/\Vals vs us/\Q vs H'
noncomputable def SP (X:Cx) (pins:List (Addr×Obj)) (D:Ends) (f:Flow) (s':Shared):Prop:=
 match f with
 | .next=>∃ σ' H',Inv X pins σ' H' s'/\D.nx σ' H'
 | .brk=>∃ σ' H',Inv X pins σ' H' s'/\D.bk σ' H'
 | .cont=>∃ σ' H',Inv X pins σ' H' s'/\D.ct σ' H'
 | .ret u=>∃ v σ' H',Inv X pins σ' H' s'/\RelV v u/\D.rt v H'
noncomputable def PE (X:Cx) (e:Expr) (t:TE):Prop:=
 ∀ (pins:List (Addr×Obj)) (s:Shared) (Y:St) (H:Hp) (Q:VK),Inv X pins Y H s->t Y H Q->wpAny (model X.prog X.w) X.A (eval e X.env) (EP X pins Y Q) X.xe s
noncomputable def PT (X:Cx) (e:Expr) (t:TT):Prop:=
 ∀ (pins:List (Addr×Obj)) (s:Shared) (Y:St) (H:Hp) (Q:Bool->Hp->Prop),Inv X pins Y H s->t Y H Q->wpAny (model X.prog X.w) X.A (isTrue e X.env (eval e X.env)) (TP X pins Y Q) X.xe s
noncomputable def PW (X:Cx) (e:Expr) (t:TT):Prop:=
 ∀ (whole:Sem Value) (pins:List (Addr×Obj)) (s:Shared) (Y:St) (H:Hp) (Q:Bool->Hp->Prop),Inv X pins Y H s->t Y H Q->wpAny (model X.prog X.w) X.A (isTrue e X.env whole) (TP X pins Y Q) X.xe s
theorem PW.pt{X:Cx}{e:Expr}{t:TT}(h:PW X e t):PT X e t:=h _
noncomputable def PA (X:Cx) (es:List Expr) (t:TA):Prop:=
 ∀ (pos:Pos) (pins:List (Addr×Obj)) (s:Shared) (Y:St) (H:Hp) (Q:List V->Hp->Prop),Inv X pins Y H s->t Y H Q->wpAny (model X.prog X.w) X.A (spliced (backTo pos (starEach es X.env))) (AP X pins Y Q) X.xe s
noncomputable def PS (X:Cx) (st:Stmt) (t:TS):Prop:=
 ∀ (pins:List (Addr×Obj)) (s:Shared) (Y:St) (H:Hp) (D:Ends),Inv X pins Y H s->t D Y H->wpAny (model X.prog X.w) X.A (exec st X.env) (SP X pins D) X.xe s
noncomputable def X0 (X:Cx) (st:List Stmt) (t:TS):Prop:=
 ∀ (pins:List (Addr×Obj)) (s:Shared) (Y:St) (H:Hp) (D:Ends),Inv X pins Y H s->t D Y H->wpAny (model X.prog X.w) X.A (execs st X.env) (SP X pins D) X.xe s
theorem C4{α:Type}{t:Sem α}{Q Q':α->Shared->Prop}{M:Model}{A:Around}{E:Value->Shared->Prop}{s:Shared}(h:wpAny M A t Q E s)(hQ:∀ a s,Q a s->Q' a s):wpAny M A t Q' E s:=wpAny_mono h hQ fun _ _ x=>x
end L2
namespace L2
open PySem PySem.Spec PyProof.Rows
section
variable {X:Cx}
noncomputable def tVar (i:Nat):TE:=fun Y H Q=>∃ v,Y[i]?=some (some v)/\Q v H
noncomputable def tC (v:V):TE:=fun _ H Q=>Q v H
theorem yN{i:Nat}{x:Str}{pos:Pos}(hN:X.N[i]?=some x)(hv:jO X.env.scope x)(hd:(x==("__debug__" : Str))=false:=by decide)(i9:(x==("__classdict__" : Str))=false:=by decide):PE X (.Name x pos) (tVar i):=by
 intro pins s Y H Q I h;obtain ⟨v,e,h⟩:=h;obtain ⟨m,hn,hl⟩:=I.loc;obtain ⟨u,r,l⟩:=hl i x v hN e hv;have fin:EP X pins Y Q u s:=⟨v,H,I,r,h⟩
 rcases l with ⟨hk,hm⟩ | ⟨hk,c,hc,L5⟩
 .exact wpAny_Name (wpAny_loadName_local I.ok.kind hk hn hm fin) hd
 .rcases hk with hk | hk
  .exact wpAny_Name (wpAny_loadName_cell I.ok.kind hk hc L5 fin) hd
  .exact wpAny_Name (wpAny_loadName_free I.ok.kind hk hc L5 fin i9) hd
theorem yO{i j pos} : PE X (.Constant (.int i) j pos) (tC (.int i)):=fun _ _ _ H _ I h=>wpAny_Constant_int ⟨.int i,H,I.tok _,⟨_,rfl⟩,h⟩
theorem pe_bl{b j pos} : PE X (.Constant (.bool b) j pos) (tC (.bl b)):=fun _ _ _ H _ I h=>Constant_bool ⟨.bl b,H,I,rfl,h⟩
theorem anA{j pos} : PE X (.Constant .none j pos) (tC .non):=fun _ _ _ H _ I h=>Constant_none ⟨.non,H,I,rfl,h⟩
theorem anB{x j pos} : PE X (.Constant (.str x) j pos) (tC (.str x)):=fun _ _ _ H _ I h=>Calls.Constant_str ⟨.str x,H,I.tok _,⟨_,rfl⟩,h⟩
noncomputable def Gl (X:Cx) (x:Str):Prop:=X.env.kindOf x=some .globalImplicit
theorem rF{E:Value->Shared->Prop}{pins:List (Addr×Obj)}{s:Shared}{Y:St}{H:Hp}{x:Str}{u:Value}{pos:Pos}{Q:Value->Shared->Prop}(I:Inv X pins Y H s)(hg:Gl X x)(hm:X.mg x=some u)(h:Q u s)(hd:(x==("__debug__" : Str))=false:=by decide):wpAny (model X.prog X.w) X.A (eval (.Name x pos) X.env) Q E s:=
 Calls.Name_function_global I.ok.kind hg (Calls.loadGlobal_global (by rw [I.ok.glob];exact I.mod.glob.keeps I.bk) hm h) hd
theorem bY{E:Value->Shared->Prop}{pins:List (Addr×Obj)}{s:Shared}{Y:St}{H:Hp}{x:Str}{u:Value}{pos:Pos}{Q:Value->Shared->Prop}(I:Inv X pins Y H s)(hg:Gl X x)(hm:X.mg x=none)(hv:bootBuiltins x=some u)(h:Q u s)(hn:x≠"__name__":=by decide)(hd:(x==("__debug__" : Str))=false:=by decide):wpAny (model X.prog X.w) X.A (eval (.Name x pos) X.env) Q E s:=by
 obtain ⟨mb,h1,h2⟩:=I.mod.blt;exact Calls.Name_function_global I.ok.kind hg (Calls.loadGlobal_builtin (by rw [I.ok.glob];exact I.mod.glob.keeps I.bk) hm (by rw [I.ok.blt];exact h1.keeps I.bk) ((h2 x hn).trans hv) h) hd
theorem yP{x:Str}{v:V}{u:Value}{pos:Pos}(hg:Gl X x)(hm:X.mg x=some u)(r:RelV v u)(hd:(x==("__debug__" : Str))=false:=by decide):PE X (.Name x pos) (tC v):=
 fun _ _ _ H _ I h=>rF I hg hm ⟨v,H,I,r,h⟩ hd
theorem al5{x:Str}{v:V}{u:Value}{pos:Pos}(hg:Gl X x)(hm:X.mg x=none)(hv:bootBuiltins x=some u)(r:RelV v u)(hn:x≠"__name__":=by decide)(hd:(x==("__debug__" : Str))=false:=by decide):PE X (.Name x pos) (tC v):=
 fun _ _ _ H _ I h=>bY I hg hm hv ⟨v,H,I,r,h⟩ hn hd
variable {a b:Expr} {ta tb:TE} {pos:Pos}
noncomputable def tB (t:TE):TT:=fun Y H Q=>t Y H fun x H1=>∃ c,x=.bl c/\Q c H1
variable {tA tB':TT} {rest:List Expr}
noncomputable def tAnd (t u:TT):TT:=fun Y H Q=>t Y H fun c H1=>if c=true then u Y H1 Q else Q false H1
noncomputable def rG (t u:TT):TT:=fun Y H Q=>t Y H fun c H1=>if c=true then Q true H1 else u Y H1 Q
noncomputable def tNot (t:TT):TT:=fun Y H Q=>t Y H fun c H1=>Q (!c) H1
theorem al6(ha:PT X a tA):PW X (.BoolOp .And [a] pos) tA:=by
 intro wh pins s Y H Q I h;refine isTrue_and (C4 (ha pins s Y H Q I h) fun c s1 e=>?_)
 cases c with
 | true=>exact isTrue_and_nil e
 | false=>exact e
theorem anC(ha:PT X a tA):PW X (.BoolOp .Or [a] pos) tA:=by
 intro wh pins s Y H Q I h;refine isTrue_or (C4 (ha pins s Y H Q I h) fun c s1 e=>?_)
 cases c with
 | false=>exact isTrue_or_nil e
 | true=>exact e
theorem anD(ha:PT X a tA)(hb:PW X (.BoolOp .And (b::rest) pos) tB'):PW X (.BoolOp .And (a::b::rest) pos) (tAnd tA tB'):=by
 intro wh pins s Y H Q I h;refine isTrue_and (C4 (ha pins s Y H _ I h) fun c s1 ⟨H1,I1,q1⟩=>?_)
 cases c with
 | true=>exact hb wh pins s1 Y H1 Q I1 q1
 | false=>exact ⟨H1,I1,q1⟩
theorem pw_or(ha:PT X a tA)(hb:PW X (.BoolOp .Or (b::rest) pos) tB'):PW X (.BoolOp .Or (a::b::rest) pos) (rG tA tB'):=by
 intro wh pins s Y H Q I h;refine isTrue_or (C4 (ha pins s Y H _ I h) fun c s1 ⟨H1,I1,q1⟩=>?_)
 cases c with
 | true=>exact ⟨H1,I1,q1⟩
 | false=>exact hb wh pins s1 Y H1 Q I1 q1
theorem anE(ha:PT X a tA):PT X (.UnaryOp .Not a pos) (tNot tA):=by
 intro pins s Y H Q I h;exact isTrue_not (ha pins s Y H (fun c H1=>Q (!c) H1) I h)
noncomputable def tAndV (ta tb:TE):TE:=fun Y H Q=>ta Y H fun x H1=>∃ c,x=.bl c/\if c=true then tb Y H1 Q else Q (.bl false) H1
noncomputable def tOrV (ta tb:TE):TE:=fun Y H Q=>ta Y H fun x H1=>∃ c,x=.bl c/\if c=true then Q (.bl true) H1 else tb Y H1 Q
noncomputable def tNotV (ta:TE):TE:=fun Y H Q=>ta Y H fun x H1=>∃ c,x=.bl c/\Q (.bl (!c)) H1
theorem anF{op}{t:TE}(h:PE X a t):PE X (.BoolOp op [a] pos) t:=fun pins s Y H Q I hw=>BoolOp_one (h pins s Y H Q I hw)
theorem anG(ha:PE X a ta)(hb:PE X (.BoolOp .And (b::rest) pos) tb):PE X (.BoolOp .And (a::b::rest) pos) (tAndV ta tb):=by
 intro pins s Y H Q I h;refine BoolOp_and (C4 (ha pins s Y H _ I h) fun v s1 ⟨x,H1,I1,r1,q1⟩=>?_);obtain ⟨c,rfl,q1⟩:=q1
 cases r1
 refine wpAny_truthy_bool ?_
 cases c with
 | true=>exact hb pins s1 Y H1 Q I1 q1
 | false=>exact ⟨.bl false,H1,I1,rfl,q1⟩
noncomputable def rH (t:TT) (ta tb:TE):TE:=fun Y H Q=>t Y H fun c H1=>if c=true then ta Y H1 Q else tb Y H1 Q
theorem akl{c:Expr}(hc:PT X c tA)(ha:PE X a ta)(hb:PE X b tb):PE X (.IfExp c a b pos) (rH tA ta tb):=by
 intro pins s Y H Q I h;refine wpAny_IfExp (C4 (hc pins s Y H _ I h) fun d s1 ⟨H1,I1,q1⟩=>?_)
 cases d with
 | true=>exact ha pins s1 Y H1 Q I1 q1
 | false=>exact hb pins s1 Y H1 Q I1 q1
end
end L2
namespace L2
open PySem PySem.Spec PyProof.Rows
noncomputable def E5 (K:PySem.W.Frag) (H:Hp) (a:Addr) (xs:List V):Prop:=
 Rd H a (.lst xs)\/
  ∃ (o:Obj) (its:Array Value) (n:Nat),K.lookup a=some o/\o.cls=.type "list"/\o.dict=none/\o.data=.seq its n/\its.size<=sizeLine/\Vals xs its.toList
noncomputable def C9 (K:PySem.W.Frag) (H:Hp) (a:Addr) (xs:List V):Prop:=
 Rd H a (.tup xs)\/
  ∃ (o:Obj) (its:Array Value) (n:Nat),K.lookup a=some o/\o.cls=.type "tuple"/\o.data=.seq its n/\its.size<=sizeLine/\Vals xs its.toList
noncomputable def absV:Value->Option V
 | .none=>some .non
 | .bool b=>some (.bl b)
 | .int i _=>some (.int i)
 | .str x _=>some (.str x)
 | .bytes b _=>some (.byt b)
 | .float b _=>some (.flt b)
 | .ref a=>some (.ref a)
 | .type n=>some (.ty n)
 | _=>none
theorem RelV.abs{x:V}{u:Value}(r:RelV x u):absV u=some x:=by
 cases x with
 | non=>cases r;rfl
 | bl _=>cases r;rfl
 | int _=>obtain ⟨t,rfl⟩:=r;rfl
 | str _=>obtain ⟨t,rfl⟩:=r;rfl
 | byt _=>obtain ⟨t,rfl⟩:=r;rfl
 | flt _=>obtain ⟨t,rfl⟩:=r;rfl
 | ref _=>cases r;rfl
 | ty _=>cases r;rfl
theorem RelV.inj{x y:V}{u:Value}(r:RelV x u)(q:RelV y u):x=y:=Option.some.inj (r.abs.symm.trans q.abs)
theorem Vals.inj:∀ {xs ys:List V} {us:List Value},Vals xs us->Vals ys us->xs=ys
 | _,_,_,.nil,.nil=>rfl
 | _,_,_,.cons r t,.cons r' t'=>by rw [r.inj r',Vals.inj t t']
section
variable {X:Cx} {pins:List (Addr×Obj)} {Y:St} {H:Hp} {s:Shared} {a:Addr} {xs ys:List V}
theorem E5.of{K:PySem.W.Frag}(h:H a=some (.lst xs)):E5 K H a xs:=.inl (.inl h)
theorem C9.of{K:PySem.W.Frag}(h:H a=some (.tup xs)):C9 K H a xs:=.inl (.inl h)
theorem Inv.list(I:Inv X pins Y H s)(h:E5 X.K H a xs):∃ its:List Value,Vals xs its/\PlainL s.heap a its.toArray/\xs.length<=sizeLine:=by
 rcases h with h | ⟨o,its,n,hk,hc,hd,hs,hz,r⟩
 .obtain ⟨z,its,n,r,e⟩:=h.ok I.hok;exact ⟨its,r,⟨_,n,e,rfl,rfl,rfl⟩,z⟩
 .refine ⟨its.toList,r,⟨o,n,I.kIn a o hk,hc,hd,by simpa using hs⟩,?_⟩;have e:=r.length;simp only [dX] at e;lia
theorem Inv.tuple(I:Inv X pins Y H s)(h:C9 X.K H a xs):∃ its:List Value,Vals xs its/\IsTup s.heap a its.toArray/\xs.length<=sizeLine:=by
 rcases h with h | ⟨o,its,n,hk,hc,hs,hz,r⟩
 .obtain ⟨z,its,r,p⟩:=h.ok I.hok;exact ⟨its,r,p,z⟩
 .refine ⟨its.toList,r,⟨o,I.kIn a o hk,hc,n,by simpa using hs⟩,?_⟩;have e:=r.length;simp only [dX] at e;lia
theorem Inv.list_inj(I:Inv X pins Y H s)(h:E5 X.K H a xs)(h':E5 X.K H a ys):xs=ys:=by
 obtain ⟨its,r,⟨o,n,e,_,_,d⟩,_⟩:=I.list h;obtain ⟨its',r',⟨o',n',e',_,_,d'⟩,_⟩:=I.list h';rw [e] at e';cases e';rw [d] at d'
 injection d' with d1 _
 have:its=its':=by simpa using congrArg Array.toList d1
 subst this;exact r.inj r'
theorem Inv.tuple_inj(I:Inv X pins Y H s)(h:C9 X.K H a xs)(h':C9 X.K H a ys):xs=ys:=by
 obtain ⟨its,r,⟨o,e,_,n,d⟩,_⟩:=I.tuple h;obtain ⟨its',r',⟨o',e',_,n',d'⟩,_⟩:=I.tuple h';rw [e] at e';cases e';rw [d] at d'
 injection d' with d1 _
 have:its=its':=by simpa using congrArg Array.toList d1
 subst this;exact r.inj r'
end
noncomputable abbrev Cx.wish (X:Cx) (E:Value->Shared->Prop):Cx:={ X with xe:=E }
noncomputable abbrev Cx.nox (X:Cx):Cx:=X.wish fun _ _=>False
theorem Cx.Ok.wish{X:Cx}(ok:X.Ok)(E:Value->Shared->Prop):(X.wish E).Ok:=
 ⟨ok.mod,ok.kind,ok.glob,ok.blt,ok.above,ok.inj,ok.has,ok.cab,ok.hd,ok.frames,ok.stk,ok.exf,ok.bs,ok.bsz,ok.noex,ok.exfs,ok.funs,ok.frf⟩
theorem Cx.Ok.unwish{X:Cx}{E:Value->Shared->Prop}(ok:(X.wish E).Ok):X.Ok:=
 ⟨ok.mod,ok.kind,ok.glob,ok.blt,ok.above,ok.inj,ok.has,ok.cab,ok.hd,ok.frames,ok.stk,ok.exf,ok.bs,ok.bsz,ok.noex,ok.exfs,ok.funs,ok.frf⟩
section
variable {X:Cx} {pins:List (Addr×Obj)} {Y:St} {H:Hp} {s:Shared} {E:Value->Shared->Prop}
theorem Inv.wish(I:Inv X pins Y H s)(E:Value->Shared->Prop):Inv (X.wish E) pins Y H s:=⟨I.ok.wish E,I.os,I.bare,I.base,I.loc,I.cell,I.free,I.freeC,I.pin,I.hok,I.len⟩
theorem Inv.unwish(I:Inv (X.wish E) pins Y H s):Inv X pins Y H s:=⟨I.ok.unwish,I.os,I.bare,I.base,I.loc,I.cell,I.free,I.freeC,I.pin,I.hok,I.len⟩
theorem SP.unwish{D:Ends}{f:Flow}{s':Shared}(h:SP (X.wish E) pins D f s'):SP X pins D f s':=by
 cases f with
 | next=>obtain ⟨σ',H',I,q⟩:=h;exact ⟨σ',H',I.unwish,q⟩
 | brk=>obtain ⟨σ',H',I,q⟩:=h;exact ⟨σ',H',I.unwish,q⟩
 | cont=>obtain ⟨σ',H',I,q⟩:=h;exact ⟨σ',H',I.unwish,q⟩
 | ret u=>obtain ⟨v,σ',H',I,r,q⟩:=h;exact ⟨v,σ',H',I.unwish,r,q⟩
theorem X0.nox{st:List Stmt}{t:TS}(h:X0 X.nox st t):X0 X st t:=fun pins s Y H D I hw=>
 wpAny_mono (h pins s Y H D (I.wish _) hw) (fun _ _ q=>q.unwish) fun _ _ z=>False.elim z
end
section
variable {X:Cx} {st:Stmt} {rest:List Stmt} {t u:TS} {e:Expr} {te:TE} {pos:Pos}
noncomputable def tNext:TS:=fun D Y H=>D.nx Y H
noncomputable def tSeq (t u:TS):TS:=fun D Y H=>t { D with nx:=u D } Y H
theorem al7:X0 X [] tNext:=fun _ _ Y H _ I h=>wpAny_execs_nil ⟨Y,H,I,h⟩
theorem akm(h1:PS X st t)(h2:X0 X rest u):X0 X (st::rest) (tSeq t u):=by
 intro pins s Y H D I h;refine wpAny_execs_cons (C4 (h1 pins s Y H { D with nx:=u D } I h) fun f s1 q=>?_)
 cases f with
 | next=>
  obtain ⟨σ',H',I',q⟩:=q;exact h2 pins s1 σ' H' D I' q
 | ret v=>exact q
 | brk=>exact q
 | cont=>exact q
theorem al8(h1:PS X st t):X0 X [st] t:=by
 intro pins s Y H D I h;refine wpAny_execs_cons (C4 (h1 pins s Y H D I h) fun f s1 q=>?_)
 cases f with
 | next=>exact wpAny_execs_nil q
 | ret v=>exact q
 | brk=>exact q
 | cont=>exact q
noncomputable def anH:TS:=fun D Y H=>D.bk Y H
noncomputable def tCont:TS:=fun D Y H=>D.ct Y H
theorem Inv.quiet{pins:List (Addr×Obj)}{Y:St}{H:Hp}{s:Shared}(I:Inv X pins Y H s):interactive X.env=false:=by simp [interactive,I.ok.kind]
noncomputable def tDrop (te:TE):TS:=fun D Y H=>te Y H fun _ H1=>D.nx Y H1
theorem al9(he:PE X e te)(hs:swapsWith e none pos.line X.env=pure false:=by rfl):PS X (.Expr e pos) (tDrop te):=by
 intro pins s Y H D I h;exact wpAny_Expr_any (C4 (he pins s Y H _ I h) fun v s1 ⟨x,H1,I1,r1,q1⟩=>⟨Y,H1,I1,q1⟩) I.quiet hs
noncomputable def tRet (te:TE):TS:=fun D Y H=>te Y H D.rt
theorem anI(he:PE X e te):PS X (.Return (some e) pos) (tRet te):=by
 intro pins s Y H D I h;exact wpAny_Return_some (C4 (he pins s Y H _ I h) fun v s1 ⟨x,H1,I1,r1,q1⟩=>⟨x,Y,H1,I1,r1,q1⟩)
noncomputable def tRetN:TS:=fun D _ H=>D.rt .non H
noncomputable def tIfS (c:TT) (t u:TS):TS:=fun D Y H=>c Y H fun b H1=>if b=true then t D Y H1 else u D Y H1
theorem ps_if{c:Expr}{a b:List Stmt}{tc:TT}(hc:PT X c tc)(ha:X0 X a t)(hb:X0 X b u):PS X (.If c a b pos) (tIfS tc t u):=by
 intro pins s Y H D I h;refine wpAny_If (C4 (hc pins s Y H _ I h) fun d s1 ⟨H1,I1,q1⟩=>?_)
 cases d with
 | true=>exact ha pins s1 Y H1 D I1 q1
 | false=>exact hb pins s1 Y H1 D I1 q1
noncomputable def rJ:TS:=fun _ _ _=>False
theorem akn:PS X st rJ:=fun _ _ _ _ _ _ h=>h.elim
end
noncomputable abbrev TG:=V->St->Hp->(St->Hp->Prop)->Prop
noncomputable abbrev g9:=List V->St->Hp->(St->Hp->Prop)->Prop
noncomputable def PG (X:Cx) (target:Expr) (t:TG):Prop:=
 ∀ (pins:List (Addr×Obj)) (s:Shared) (Y:St) (H:Hp) (v:V) (u:Value) (Q:St->Hp->Prop),Inv X pins Y H s->RelV v u->t v Y H Q->
  wpAny (model X.prog X.w) X.A (assign target X.env u) (fun _ s'=>∃ σ' H',Inv X pins σ' H' s'/\Q σ' H') X.xe s
noncomputable def jP (X:Cx) (ts:List Expr) (t:g9):Prop:=
 ∀ (pins:List (Addr×Obj)) (s:Shared) (Y:St) (H:Hp) (vs:List V) (us:List Value) (Q:St->Hp->Prop),Inv X pins Y H s->Vals vs us->t vs Y H Q->
  wpAny (model X.prog X.w) X.A (assignInOrder ((assignEach ts X.env).map (·.2)) us) (fun _ s'=>∃ σ' H',Inv X pins σ' H' s'/\Q σ' H') X.xe s
noncomputable abbrev TSet:=V->V->V->Hp->(Hp->Prop)->Prop
noncomputable abbrev dZ:=V->V->Hp->VK->Prop
noncomputable def rK (X:Cx) (op:Operator) (t:dZ):Prop:=
 ∀ (pins:List (Addr×Obj)) (s:Shared) (Y:St) (H:Hp) (x y:V) (v u:Value) (Q:VK),Inv X pins Y H s->RelV x v->RelV y u->t x y H Q->
  wpAny (model X.prog X.w) X.A (inplaceOp op v u) (EP X pins Y Q) X.xe s
section
variable {X:Cx} {pos:Pos}
noncomputable def gName (i:Nat):TG:=fun v Y H Q=>Q (Y.set i (some v)) H
theorem ama{i:Nat}{x:Str}(hN:X.N.Nodup)(hi:X.N[i]?=some x)(hx:k4 X.env.scope x)(hf:X.fn x=true\/X.env.scope.names.lookup x=some .local:=by first | exact .inl rfl | exact .inr rfl | assumption):PG X (.Name x pos) (gName i):=by
 intro pins s Y H v u Q I r h;exact wpAny_assign_Name (nI I hN hi hx r (fun s' I'=>⟨_,H,I',h⟩) hf)
noncomputable def gNil:g9:=fun vs Y H Q=>vs=[]/\Q Y H
noncomputable def gCons (t:TG) (u:g9):g9:=fun vs Y H Q=>∃ v r,vs=v::r/\t v Y H fun σ' H'=>u r σ' H' Q
theorem amb:jP X [] gNil:=by
 intro pins s Y H vs us Q I r h;obtain ⟨e,h⟩:=h;subst e
 cases r
 exact assignInOrder_nil ⟨Y,H,I,h⟩
theorem ako{e:Expr}{es:List Expr}{t:TG}{u:g9}(h1:PG X e t)(h2:jP X es u)(hs:(assignEach (e::es) X.env).map (·.2)=assign e X.env::(assignEach es X.env).map (·.2):=by rfl):jP X (e::es) (gCons t u):=by
 intro pins s Y H vs us Q I r h;obtain ⟨v,vr,e1,h⟩:=h;subst e1
 cases r with
 | cons r rr=>
  rw [hs];refine assignInOrder_cons (C4 (h1 pins s Y H _ _ _ I r h) fun _ s1 ⟨σ1,H1,I1,q1⟩=>?_);exact h2 pins s1 σ1 H1 _ _ Q I1 rr q1
noncomputable def gTup (K:PySem.W.Frag) (n:Nat) (t:g9):TG:=fun v Y H Q=>∃ a xs,v=.ref a/\C9 K H a xs/\xs.length=n/\t xs Y H Q
theorem anJ{es:List Expr}{k:Nat}{t:g9}{n:Nat}(hc:X.calm=true)(h:jP X es t)(hn:(assignEach es X.env).length=n:=by rfl)(T8:(assignEach es X.env).findIdx? (·.1)=none:=by rfl):PG X (.Tuple es k pos) (gTup X.K n t):=by
 intro pins s Y H v u Q I r hw;obtain ⟨a,xs,e1,hq,hl,hw⟩:=hw;subst e1
 cases r
 obtain ⟨its,rv,ht,hz⟩:=I.tuple hq;refine assign_Tuple_tuple (I.ok.hd hc) ht (by simp [hn,<- hl,rv.length]) T8 fun h' hx=>?_
 have I1:Inv X pins Y H { s with heap:=h' }:=I.kept (t':=s.toks) fun b o e=>hx b o (N1 (Heap.lt_size e)) e
 exact h pins _ Y H xs _ Q I1 (by simpa using rv) hw
noncomputable def gSub (to ti:TE) (t:TSet):TG:=fun v Y H Q=>to Y H fun o H1=>ti Y H1 fun i H2=>t o i v H2 fun H3=>Q Y H3
noncomputable def tAsg (te:TE) (g:TG):TS:=fun D Y H=>te Y H fun x H1=>g x Y H1 D.nx
theorem anK{i:Nat}{x:Str}{e:Expr}{te:TE}{pos':Pos}(hN:X.N.Nodup)(hi:X.N[i]?=some x)(hx:k4 X.env.scope x)(he:PE X e te)(hs:swapsWith e (some (.Name x pos')) pos.line X.env=pure false:=by rfl)(hf:X.fn x=true\/X.env.scope.names.lookup x=some .local:=by first | exact .inl rfl | exact .inr rfl | assumption) :
  PS X (.Assign [.Name x pos'] e pos) (tAsg te (gName i)):=by
 intro pins s Y H D I h;refine wpAny_Assign_Name (C4 (he pins s Y H _ I h) fun v s1 ⟨y,H1,I1,r1,q1⟩=>?_) hs;exact nI I1 hN hi hx r1 (fun s2 I2=>⟨_,H1,I2,q1⟩) hf
noncomputable def tAug (i:Nat) (te:TE) (ti:dZ):TS:=fun D Y H=>∃ x,Y[i]?=some (some x)/\te Y H fun y H1=>ti x y H1 fun z H2=>D.nx (Y.set i (some z)) H2
theorem anL{i:Nat}{x:Str}{e:Expr}{te:TE}{op:Operator}{ti:dZ}{pos':Pos}(hN:X.N.Nodup)(hi:X.N[i]?=some x)(hx:k4 X.env.scope x)(he:PE X e te)(ho:rK X op ti)(hf:X.fn x=true\/X.env.scope.names.lookup x=some .local:=by first | exact .inl rfl | exact .inr rfl | assumption) :
  PS X (.AugAssign (.Name x pos') op e pos) (tAug i te ti):=by
 intro pins s Y H D I h;obtain ⟨v,e1,h⟩:=h;obtain ⟨m,hn,hl⟩:=I.loc;have vis:jO X.env.scope x:=by rcases hx with k | k;exact .inl k;exact .inr (.inl k)
 obtain ⟨u,r,l⟩:=hl i x v hi e1 vis;refine wpAny_AugAssign_Name ?_;have go:wpAny (model X.prog X.w) X.A (eval e X.env) (fun w zx=>wpAny (model X.prog X.w) X.A (inplaceOp op u w) (fun r zw=>wpAny (model X.prog X.w) X.A (storeName X.env x r) (fun _=>SP X pins D .next) X.xe zw) X.xe zx) X.xe s:=by
  refine C4 (he pins s Y H _ I h) fun w s1 ⟨y,H1,I1,r1,q1⟩=>?_
  refine C4 (ho pins s1 Y H1 v y u w _ I1 r r1 q1) fun z s2 ⟨zv,H2,I2,r2,q2⟩=>?_
  exact nI I2 hN hi hx r2 (fun s3 I3=>⟨_,H2,I3,q2⟩) hf
 rcases l with ⟨hk,hm⟩ | ⟨hk,c,hc,L5⟩
 .exact wpAny_loadName_local I.ok.kind hk hn hm go
 .rcases hk with hk | hk
  .exact wpAny_loadName_cell I.ok.kind hk hc L5 go
  .rcases hx with k | k
   .have:X.env.scope.names.lookup x=some .free:=hk
    rw [k] at this;cases this
   .have:X.env.scope.names.lookup x=some .free:=hk
    rw [k] at this;cases this
noncomputable def rL (f:Int->Int->Int):dZ:=fun x y H Q=>∃ i j,x=.int i/\y=.int j/\Q (.int (f i j)) H
theorem anM:rK X .Add (rL fun i j=>i+j):=by
 intro pins s Y H x y v u Q I r1 r2 h;obtain ⟨i,j,e1,e2,q⟩:=h;subst e1;subst e2;obtain ⟨t,rfl⟩:=r1;obtain ⟨t',rfl⟩:=r2;exact iadd_int ⟨.int _,H,I.tok _,⟨_,rfl⟩,q⟩
end
section
variable {X:Cx} {pos:Pos}
noncomputable def nJ (c:TT) (tb:TS):TS:=fun D Y H=>∃ W:Nat->St->Hp->Prop,(∃ m,W m Y H)/\∀ m Y H,W m Y H->
 c Y H fun b H1=>if b=true then ∃ N:St->Hp->Prop,(∀ σ' H',N σ' H'->∃ m',m'<m/\W m' σ' H')/\tb { D with nx:=N,ct:=N,bk:=D.nx } Y H1 else D.nx Y H1
theorem akp{c:Expr}{body:List Stmt}{tc:TT}{tb:TS}(hp:PassesOwn (model X.prog X.w) X.A X.env X.xe)(hc:PT X c tc)(hb:X0 X body tb):PS X (.While c body [] pos) (nJ tc tb):=by
 intro pins s Y H D I h;obtain ⟨W,⟨m0,w0⟩,turn⟩:=h;refine wpAny_While (codeAny_whileLoop (fun n s'=>∃ σ' H',Inv X pins σ' H' s'/\W n σ' H') ?_ m0 ⟨Y,H,I,w0⟩);rintro n s1 ⟨σ1,H1,I1,w1⟩;refine wpAny_passesOwn hp (C4 (hc pins s1 σ1 H1 _ I1 (turn n σ1 H1 w1)) fun b s2 ⟨H2,I2,q2⟩=>?_)
 cases b with
 | true=>
  obtain ⟨N,hN,q2⟩:=q2;rw [if_pos rfl];refine wpAny_passesOwn hp (C4 (hb pins s2 σ1 H2 _ I2 q2) fun f s3 q3=>?_)
  cases f with
  | next=>
   obtain ⟨σ3,H3,I3,n3⟩:=q3;obtain ⟨m',hm,w3⟩:=hN σ3 H3 n3;exact ⟨m',hm,σ3,H3,I3,w3⟩
  | cont=>
   obtain ⟨σ3,H3,I3,n3⟩:=q3;obtain ⟨m',hm,w3⟩:=hN σ3 H3 n3;exact ⟨m',hm,σ3,H3,I3,w3⟩
  | brk=>exact q3
  | ret v=>exact q3
 | false=>
  rw [if_neg K7];exact wpAny_execs_nil ⟨σ1,H2,I2,q2⟩
end
structure It where
 go:Nat->Hp->Prop
 yld:Nat->Hp->V->Hp->Prop
 stop:Nat->Hp->Prop
noncomputable def FpOk (X:Cx) (pins:List (Addr×Obj)) (H:Hp) (b:Addr):Prop:=
 H b=none/\b≠X.env.locals/\b∉X.fs/\(b∈X.ex\/X.s₀.heap.objs.size<=b)/\(∀ x c,X.env.cells.lookup x=some c->c≠b)/\∀ p∈X.pn++pins,p.1≠b
theorem Inv.fpOk{X:Cx}{pins:List (Addr×Obj)}{Y:St}{H H':Hp}{s:Shared}{b:Addr}(I:Inv X pins Y H s)(hb:s.heap.objs.size<=b)(hn:H' b=none):FpOk X pins H' b:=by
 refine ⟨hn,Nat.ne_of_gt (T5 I.lt hb),I.nofs hb,.inr (K6 I.sz hb),fun x c e z=>?_,fun p hp z=>?_⟩
 .obtain ⟨v,q⟩:=I.cell x c e;exact absurd (T5 q.lt (by rw [z];exact hb)) (j5 _)
 .exact absurd (T5 (Heap.lt_size (I.pin p hp).1) (by rw [z];exact hb)) (j5 _)
structure Turn(P:Program)(w:World)(K:PySem.W.Frag)(tg:Expr)(J:It)(fp:List Addr)(it:Addr)(tn:Nat->Heap->Prop):Prop where
 mem:it∈fp
 obj:∀ i h,tn i h->∀ b∈fp,∃ o,h.get? b=some o/\∀ v,o.data≠.cell v
 keep:∀ i h h',tn i h->(∀ b∈fp,∀ o,h.get? b=some o->h'.get? b=some o)->tn i h'
 item:∀ (X:Cx),X.prog=P->X.w=w->X.K=K->X.calm=true->∀ (i:Nat) (pins:List (Addr×Obj)) (s:Shared) (Y:St) (H:Hp) (E:Value->Shared->Prop),Inv X pins Y H s->(∀ b∈fp,FpOk X pins H b)->tn i s.heap->J.go i H->
  wpAny (model P w) X.A (pyNext (.ref it)) (fun r s1=>∃ u,r=some u/\
   wpAny (model P w) X.A (letOwnedTupleGo tg (.ref it) u) (fun _ s2=>∃ x H',Inv X pins Y H' s2/\RelV x u/\J.yld i H x H'/\tn (i+1) s2.heap/\∀ b∈fp,H' b=none) E s1) E s
 done:∀ (X:Cx),X.prog=P->X.w=w->X.K=K->X.calm=true->∀ (i:Nat) (pins:List (Addr×Obj)) (s:Shared) (Y:St) (H:Hp) (E:Value->Shared->Prop),Inv X pins Y H s->(∀ b∈fp,FpOk X pins H b)->tn i s.heap->J.stop i H->
  wpAny (model P w) X.A (pyNext (.ref it)) (fun r s1=>r=none/\Inv X pins Y H s1) E s
 self:∀ (A:Around) (i:Nat) (s:Shared) (Q:Value->Shared->Prop) (E:Value->Shared->Prop),tn i s.heap->Q (.ref it) s->wpAny (model P w) A (pyIter (.ref it)) Q E s
noncomputable abbrev TI:=St->Hp->(It->Hp->Prop)->Prop
noncomputable def rM (X:Cx) (pins:List (Addr×Obj)) (Y:St) (tg:Expr) (R:It->Hp->Prop) (itv:Value) (s2:Shared):Prop:=
 ∃ (it:Addr) (fp:List Addr) (tn:Nat->Heap->Prop) (J:It) (H':Hp),itv=.ref it/\Inv X pins Y H' s2/\Turn X.prog X.w X.K tg J fp it tn/\tn 0 s2.heap/\(∀ b∈fp,FpOk X pins H' b)/\R J H'
noncomputable def PI (X:Cx) (tg iter:Expr) (wi:TI):Prop:=
 ∀ (pins:List (Addr×Obj)) (s:Shared) (Y:St) (H:Hp) (R:It->Hp->Prop),Inv X pins Y H s->wi Y H R->
  wpAny (model X.prog X.w) X.A (eval iter X.env) (fun v s1=>wpAny (model X.prog X.w) X.A (pyIter v) (rM X pins Y tg R) X.xe s1) X.xe s
theorem go_of{M : Model}{A : Around}{E : Value -> Shared -> Prop}{s : Shared}{tg : Expr}{it : Addr}{u : Value}{o : Obj}{n : String}{vs : Array Value}{Q : Unit -> Shared -> Prop}(ho : s.heap.get? it = some o)(hc : o.cls = .type n)(hd : o.data = .fields vs)(hn : ["enumerate", "zip", "dict_itemiterator", "dict_reverseitemiterator", "odict_iterator", "itertools.zip_longest", "itertools.pairwise"].contains n = false)(hQ : Q () s) : wpAny M A (letOwnedTupleGo tg (.ref it) u) Q E s := by
  unfold letOwnedTupleGo
  cases tg <;> first
    | exact wpAny_pure hQ
    | (cases u <;> first
        | exact wpAny_pure hQ
        | (refine wpAny_bind (wpAny_load ho ?_)
           rw [hc, hd];show wpAny M A (if (["enumerate", "zip", "dict_itemiterator", "dict_reverseitemiterator", "odict_iterator", "itertools.zip_longest", "itertools.pairwise"].contains n&&vs[0]? == some (rawInt _)) = true then _ else _) Q E s;rw [if_neg (by intro h; rw [hn, dU] at h; cases h)];exact wpAny_pure hQ))
noncomputable def k5 (K:PySem.W.Frag) (a:Addr):It:=
 ⟨fun i H=>∃ xs x,E5 K H a xs/\xs[i]?=some x,fun i H x H'=>H'=H/\∀ xs,E5 K H a xs->xs[i]?=some x,fun i H=>∃ xs,E5 K H a xs/\xs.length<=i⟩
noncomputable def bZ (K:PySem.W.Frag) (a:Addr):It:=
 ⟨fun i H=>∃ xs x,C9 K H a xs/\xs[i]?=some x,fun i H x H'=>H'=H/\∀ xs,C9 K H a xs->xs[i]?=some x,fun i H=>∃ xs,C9 K H a xs/\xs.length<=i⟩
noncomputable def k6 (lo:Int) (n:Nat):It:=⟨fun i _=>i<n,fun i H x H'=>H'=H/\x=.int (lo+i),fun i _=>n<=i⟩
theorem aiI{P:Program}{w:World}{K:PySem.W.Frag}{tg:Expr}(a it:Addr):Turn P w K tg (k5 K a) [it] it (fun i h=>h.IsListIter it a i) where
 mem:=by simp
 obj:=fun i h st b hb=>by
  have e:b=it:=by simpa using hb
  subst e;obtain ⟨o,e,c,d⟩:=st;exact ⟨o,e,fun v z=>by rw [d] at z;cases z⟩
 keep:=fun i h h' st k=>st.at fun o e=>k it (by simp) o e
 item:=by
  intro X hP hw hK hc i pins s Y H E I hf st hg;subst hP hw hK;obtain ⟨xs,x,hq,hx⟩:=hg;obtain ⟨its,rv,p,hz⟩:=I.list hq;obtain ⟨u,hu,ru⟩:=rv.get hx;obtain ⟨f0,f1,f2,f3,f4,f5⟩:=hf it (by simp);refine wpAny_pyNext_list_item st p.isList (x:=u) (by simpa using hu) fun h' st' sb=>?_
  have I1:Inv X pins Y H { s with heap:=h' }:=I.turned (t':=s.toks) (fun b o hb e=>(sb.2 b hb).trans e) f0 f1 f3 f4 f5;obtain ⟨o,e,c,d⟩:=id st';exact ⟨u,rfl,go_of (s:={ s with heap:=h' }) e c d (by decide) ⟨x,H,I1,ru,⟨rfl,fun ys hy=>by rw [I.list_inj hy hq];exact hx⟩,st',fun b hb=>(hf b hb).1⟩⟩
 done:=by
  intro X hP hw hK hc i pins s Y H E I hf st hg;subst hP hw hK;obtain ⟨xs,hq,hx⟩:=hg;obtain ⟨its,rv,p,hz⟩:=I.list hq;obtain ⟨f0,f1,f2,f3,f4,f5⟩:=hf it (by simp);have hl:=rv.length;exact wpAny_pyNext_list_end (I.ok.hd hc) st p.isList (by simp;lia) fun h' eb=>⟨rfl,I.turned (t':=s.toks) (fun b o hb e=>eb b o hb e) f0 f1 f3 f4 f5⟩
 self:=fun _ _ _ _ _ st h=>wpAny_pyIter_listiter st h
theorem ahT{P:Program}{w:World}{K:PySem.W.Frag}{tg:Expr}(a it:Addr):Turn P w K tg (bZ K a) [it] it (fun i h=>h.IsTupleIter it a i) where
 mem:=by simp
 obj:=fun i h st b hb=>by
  have e:b=it:=by simpa using hb
  subst e;obtain ⟨o,e,c,d⟩:=st;exact ⟨o,e,fun v z=>by rw [d] at z;cases z⟩
 keep:=fun i h h' st k=>st.at fun o e=>k it (by simp) o e
 item:=by
  intro X hP hw hK hc i pins s Y H E I hf st hg;subst hP hw hK;obtain ⟨xs,x,hq,hx⟩:=hg;obtain ⟨its,rv,p,hz⟩:=I.tuple hq;obtain ⟨u,hu,ru⟩:=rv.get hx;obtain ⟨f0,f1,f2,f3,f4,f5⟩:=hf it (by simp);refine wpAny_pyNext_tuple_item st (show s.heap.IsTuple a its.toArray from p) (x:=u) (by simpa using hu) fun h' st' sb=>?_
  have I1:Inv X pins Y H { s with heap:=h' }:=I.turned (t':=s.toks) (fun b o hb e=>(sb.2 b hb).trans e) f0 f1 f3 f4 f5;obtain ⟨o,e,c,d⟩:=id st';exact ⟨u,rfl,go_of (s:={ s with heap:=h' }) e c d (by decide) ⟨x,H,I1,ru,⟨rfl,fun ys hy=>by rw [I.tuple_inj hy hq];exact hx⟩,st',fun b hb=>(hf b hb).1⟩⟩
 done:=by
  intro X hP hw hK hc i pins s Y H E I hf st hg;subst hP hw hK;obtain ⟨xs,hq,hx⟩:=hg;obtain ⟨its,rv,p,hz⟩:=I.tuple hq;obtain ⟨f0,f1,f2,f3,f4,f5⟩:=hf it (by simp);have hl:=rv.length;exact wpAny_pyNext_tuple_end (I.ok.hd hc) st (show s.heap.IsTuple a its.toArray from p) (by simp;lia) fun h' eb=>⟨rfl,I.turned (t':=s.toks) (fun b o hb e=>eb b o hb e) f0 f1 f3 f4 f5⟩
 self:=fun _ _ _ _ _ st h=>wpAny_pyIter_tupleiter st h
theorem ahU{P:Program}{w:World}{K:PySem.W.Frag}{tg:Expr}(it:Addr)(lo:Int)(n:Nat):Turn P w K tg (k6 lo n) [it] it (fun i h=>IsRangeIter h it (lo+(i:Nat)*1) ((n:Int)-(i:Nat)) 1) where
 mem:=by simp
 obj:=fun i h st b hb=>by
  have e:b=it:=by simpa using hb
  subst e;exact ⟨_,st,fun v z=>by
   have z':Data.fields _=Data.cell v:=z
   cases z'⟩
 keep:=fun i h h' st k=>k it (by simp) _ st
 item:=by
  intro X hP hw hK hc i pins s Y H E I hf st hg;subst hP hw hK;obtain ⟨f0,f1,f2,f3,f4,f5⟩:=hf it (by simp);have W:=Walks.range (prog:=X.prog) (w:=X.w) (I.ok.hd hc) it lo 1 n;refine W.item i s _ _ hg st fun v h' tk hv st' kk=>?_
  obtain ⟨t,rfl⟩:=hv;have I1:Inv X pins Y H { s with heap:=h',toks:=tk }:=I.turned (fun b o hb e=>kk b o (by simpa using hb) e) f0 f1 f3 f4 f5;refine ⟨_,rfl,go_of (s:={ s with heap:=h',toks:=tk }) (n:="range_iterator") st' rfl rfl (by decide) ⟨.int (lo+i),H,I1,⟨t,?_⟩,⟨rfl,rfl⟩,st',fun b hb=>(hf b hb).1⟩⟩;rw [Int.mul_one]
 done:=by
  intro X hP hw hK hc i pins s Y H E I hf st hg;subst hP hw hK;obtain ⟨f0,f1,f2,f3,f4,f5⟩:=hf it (by simp);exact wpAny_pyNext_range_end (I.ok.hd hc) st (by have:n<=i:=hg;lia) fun h' eb=>⟨rfl,I.turned (t':=s.toks) (fun b o hb e=>eb b o hb e) f0 f1 f3 f4 f5⟩
 self:=fun _ _ _ _ _ st h=>wpAny_pyIter_rangeiter st h
end L2
namespace L2
open PySem PySem.Spec PyProof.Rows
section
variable {X:Cx} {tg:Expr}
noncomputable def iList (K:PySem.W.Frag) (tl:TE):TI:=fun Y H R=>tl Y H fun x H1=>∃ a,x=.ref a/\(∃ xs,E5 K H1 a xs)/\R (k5 K a) H1
noncomputable def iTup (K:PySem.W.Frag) (tl:TE):TI:=fun Y H R=>tl Y H fun x H1=>∃ a,x=.ref a/\(∃ xs,C9 K H1 a xs)/\R (bZ K a) H1
theorem amc{l:Expr}{tl:TE}(hl:PE X l tl):PI X tg l (iList X.K tl):=by
 intro pins s Y H R I h;refine C4 (hl pins s Y H _ I h) fun v s1 ⟨x,H1,I1,r1,q1⟩=>?_
 obtain ⟨a,e,⟨xs,hq⟩,q⟩:=q1;subst e
 cases r1
 obtain ⟨its,rv,p,hz⟩:=I1.list hq;refine wpAny_pyIter_list p.isList ?_;refine ⟨s1.heap.objs.size,[s1.heap.objs.size],_,_,H1,rfl,I1.kept (t':=s1.toks) fun b o e=>Heap.get?_push_of_some _ e,aiI a _,⟨_,Heap.get?_push_size _ rfl,rfl,rfl⟩,fun b hb=>?_,q⟩;have e:b=s1.heap.objs.size:=by simpa using hb
 subst e;exact I1.fpOk (C5 _) (I1.hok.fresh (C5 _))
theorem anN{l:Expr}{tl:TE}(hl:PE X l tl):PI X tg l (iTup X.K tl):=by
 intro pins s Y H R I h;refine C4 (hl pins s Y H _ I h) fun v s1 ⟨x,H1,I1,r1,q1⟩=>?_
 obtain ⟨a,e,⟨xs,hq⟩,q⟩:=q1;subst e
 cases r1
 obtain ⟨its,rv,p,hz⟩:=I1.tuple hq;refine wpAny_pyIter_tuple (show s1.heap.IsTuple a its.toArray from p) ?_;refine ⟨s1.heap.objs.size,[s1.heap.objs.size],_,_,H1,rfl,I1.kept (t':=s1.toks) fun b o e=>Heap.get?_push_of_some _ e,ahT a _,⟨_,Heap.get?_push_size _ rfl,rfl,rfl⟩,fun b hb=>?_,q⟩;have e:b=s1.heap.objs.size:=by simpa using hb
 subst e;exact I1.fpOk (C5 _) (I1.hok.fresh (C5 _))
theorem akq{pins:List (Addr×Obj)}{Y:St}{H:Hp}{s:Shared}{R:It->Hp->Prop}{E:Value->Shared->Prop}{lo hi:Int}{t u v:Tok}{tk:Nat}(I:Inv X pins Y H s)(h1:-(2 ^ 62)<=lo)(h2:lo<2 ^ 62)(h3:-(2 ^ 62)<=hi)(h4:hi<2 ^ 62)(q:R (k6 lo (hi-lo).toNat) H):wpAny (model X.prog X.w) X.A (pyIter (.ref s.heap.objs.size)) (rM X pins Y tg R) E { s with heap:=s.heap.push { cls:=.type "range",data:=.fields #[.int lo t,.int hi u,.int 1 v] },toks:=tk }:=by
 refine wpAny_pyIter_range (IsRange.new ..) (small_one h1 h2 h3 h4) ?_;have I1:Inv X pins Y H { s with heap:=s.heap.push { cls:=.type "range",data:=.fields #[.int lo t,.int hi u,.int 1 v] },toks:=tk }:=I.kept fun b o e=>Heap.get?_push_of_some _ e
 refine ⟨(s.heap.push { cls:=.type "range",data:=.fields #[.int lo t,.int hi u,.int 1 v] }).objs.size,[(s.heap.push { cls:=.type "range",data:=.fields #[.int lo t,.int hi u,.int 1 v] }).objs.size],_,_,H,rfl,
  I1.kept (t':=tk) fun b o e=>Heap.get?_push_of_some _ e,ahU _ lo (hi-lo).toNat,?_,fun b hb=>?_,q⟩
 .have e1:lo+((0:Nat):Int)*1=lo:=by simp
  have e2:(((hi-lo).toNat:Nat):Int)-((0:Nat):Int)=Builtin.Range.rangeSize lo hi 1:=by rw [rangeSize_one];split <;> lia
  show IsRangeIter _ _ (lo+((0:Nat):Int)*1) ((((hi-lo).toNat:Nat):Int)-((0:Nat):Int)) 1;rw [e1,e2];exact Heap.get?_push_size _ rfl
 .have e:b=(s.heap.push { cls:=.type "range",data:=.fields #[.int lo t,.int hi u,.int 1 v] }).objs.size:=by simpa using hb
  subst e;exact I1.fpOk (C5 _) (I1.hok.fresh (C5 _))
noncomputable def iRng1 (ta:TA):TI:=fun Y H R=>ta Y H fun vs H1=>∃ j:Int,vs=[.int j]/\-(2 ^ 62)<=j/\j<2 ^ 62/\R (k6 0 j.toNat) H1
noncomputable def iRng2 (ta:TA):TI:=fun Y H R=>ta Y H fun vs H1=>∃ i j:Int,vs=[.int i,.int j]/\(-(2 ^ 62)<=i/\i<2 ^ 62/\-(2 ^ 62)<=j/\j<2 ^ 62)/\R (k6 i (j-i).toNat) H1
theorem aiJ{a:Expr}{ta:TA}{p pos:Pos}(hg:Gl X "range")(hm:X.mg "range"=none)(ha:PA X [a] ta)(hs:starEach [a] X.env=[(false,eval a X.env)]:=by rfl):PI X tg (.Call (.Name "range" p) [a] [] pos) (iRng1 ta):=by
 intro pins s Y H R I h;refine Call_ (bY I hg hm boot_range (PyProof.Rows.callWith_type1 (C4 (ha pos pins s Y H _ I h) fun us s1 ⟨vs,H1,I1,r1,q1⟩=>?_) hs rfl));obtain ⟨j,e,q1,q2,q⟩:=q1;subst e
 cases r1 with
 | cons r rr=>
  cases rr
  obtain ⟨t,rfl⟩:=r;exact call_range_1 (akq I1 (by lia) (by lia) q1 q2 (by simpa using q))
noncomputable def tFor (wi:TI) (g:TG) (tb:TS):TS:=fun D Y H=>wi Y H fun J H1=>∃ W:Nat->Nat->St->Hp->Prop,(∃ m,W 0 m Y H1)/\∀ i m Y H,W i m Y H->
 (J.stop i H/\D.nx Y H)\/(J.go i H/\∃ N:St->Hp->Prop,(∀ σ' H',N σ' H'->∃ m',m'<m/\W (i+1) m' σ' H')/\∀ x H',J.yld i H x H'->g x Y H' fun σ2 H2=>tb { D with nx:=N,ct:=N,bk:=D.nx } σ2 H2)
noncomputable def gB (fp:List Addr) (h:Heap):List (Addr×Obj):=fp.filterMap fun b=>(h.get? b).map fun o=>(b,o)
theorem gC{fp:List Addr}{h:Heap}{b:Addr}{o:Obj}(hb:b∈fp)(e:h.get? b=some o):(b,o)∈gB fp h:=dR.mpr ⟨b,hb,by rw [e];rfl⟩
theorem aiK{fp:List Addr}{h:Heap}{p:Addr×Obj}(hp:p∈gB fp h):p.1∈fp/\h.get? p.1=some p.2:=by
 obtain ⟨b,hb,e⟩:=dR.mp hp
 cases q:h.get? b with
 | none=>rw [q] at e;cases e
 | some o=>
  rw [q] at e;have e':(b,o)=p:=Option.some.inj e;subst e';exact ⟨hb,q⟩
theorem Inv.pinned{pins:List (Addr×Obj)}{Y:St}{H:Hp}{s:Shared}{fp:List Addr}(I:Inv X pins Y H s)(hf:∀ b∈fp,FpOk X pins H b)(ho:∀ b∈fp,∃ o,s.heap.get? b=some o/\∀ v,o.data≠.cell v):Inv X (pins++gB fp s.heap) Y H s:=
 I.pins_of fun p hp=>(F6.mp hp).elim (fun z=>I.pin p (O0 _ z)) fun z=>by
  obtain ⟨hb,e⟩:=aiK z;obtain ⟨f0,f1,f2,_⟩:=hf p.1 hb;obtain ⟨o,e',d⟩:=ho p.1 hb;rw [e] at e';cases e';exact ⟨e,f0,f1,f2,d⟩
theorem Inv.unpinned{pins pl:List (Addr×Obj)}{Y:St}{H:Hp}{s:Shared}(I:Inv X (pins++pl) Y H s):Inv X pins Y H s:=I.pins_of fun p hp=>I.pin p (O0 _ (L4 _ hp))
theorem anO{iter:Expr}{body:List Stmt}{wi:TI}{g:TG}{tb:TS}{pos:Pos}(hp:PassesOwn (model X.prog X.w) X.A X.env X.xe)(hc:X.calm=true)(hi:PI X tg iter wi)(hg:PG X tg g)(hb:X0 X body tb)(hs:∀ x,foldedSetIterable iter X.env x=pure x:=by intro _;rfl):PS X (.For tg iter body [] pos) (tFor wi g tb):=by
 intro pins s Y H D I h;refine wpAny_For (C4 (hi pins s Y H _ I h) fun v s1 h1=>C4 h1 fun itv s2 h2=>?_) hs;obtain ⟨it,fp,tn,J,H2,e,I2,T,lJ,f2,W,⟨m0,w0⟩,turn⟩:=h2;subst e;have stat:∀ {H':Hp},(∀ b∈fp,H' b=none)->∀ b∈fp,FpOk X pins H' b:=fun hn b hb=>⟨hn b hb,(f2 b hb).2⟩
 refine codeAny_forLoop_any (fun n s'=>∃ i σ' H',Inv X pins σ' H' s'/\tn i s'.heap/\(∀ b∈fp,H' b=none)/\W i n σ' H') ?_ m0 ⟨0,Y,H2,I2,lJ,fun b hb=>(f2 b hb).1,w0⟩;rintro n s3 ⟨i,σ3,H3,I3,cS,lK,w3⟩
 rcases turn i n σ3 H3 w3 with ⟨stop,qn⟩ | ⟨go,N,hN,step⟩
 .refine wpAny_passesOwn hp (C4 (T.done X rfl rfl rfl hc i pins s3 σ3 H3 X.xe I3 (stat lK) cS stop) fun r s4 ⟨hr,I4⟩=>?_);subst hr;exact wpAny_execs_nil ⟨σ3,H3,I4,qn⟩
 .refine wpAny_passesOwn hp (C4 (T.item X rfl rfl rfl hc i pins s3 σ3 H3 X.xe I3 (stat lK) cS go) fun r s4 ⟨u,hr,h4⟩=>?_);subst hr;refine wpAny_passesOwn hp (C4 h4 fun _ s5 ⟨x,H5,I5,r5,y5,fA,vZ⟩=>?_);have I5':=I5.pinned (stat vZ) (T.obj _ _ fA);refine wpAny_passesOwn hp (C4 (hg _ s5 σ3 H5 x u _ I5' r5 (step x H5 y5)) fun _ s6 ⟨σ6,H6,I6,q6⟩=>?_);refine wpAny_passesOwn hp (C4 (hb _ s6 σ6 H6 _ I6 q6) fun f s7 q7=>?_);have again:∀ {σ7:St} {H7:Hp},Inv X (pins++gB fp s5.heap) σ7 H7 s7->N σ7 H7->∃ m,m<n/\∃ i σ' H',Inv X pins σ' H' s7/\tn i s7.heap/\(∀ b∈fp,H' b=none)/\W i m σ' H':=fun {σ7 H7} I7 n7=>by
   obtain ⟨m',hm,w7⟩:=hN σ7 H7 n7;refine ⟨m',hm,i+1,σ7,H7,I7.unpinned,T.keep _ _ _ fA fun b hb o e=>(I7.pin (b,o) (O0 _ (O0 _ (gC hb e)))).1,fun b hb=>?_,w7⟩;obtain ⟨o,e,d⟩:=T.obj _ _ fA b hb;exact (I7.pin (b,o) (O0 _ (O0 _ (gC hb e)))).2.1
  cases f with
  | next=>obtain ⟨σ7,H7,I7,n7⟩:=q7;exact again I7 n7
  | cont=>obtain ⟨σ7,H7,I7,n7⟩:=q7;exact again I7 n7
  | brk=>obtain ⟨σ7,H7,I7,q7⟩:=q7;exact ⟨σ7,H7,I7.unpinned,q7⟩
  | ret v=>obtain ⟨x7,σ7,H7,I7,r7,q7⟩:=q7;exact ⟨x7,σ7,H7,I7.unpinned,r7,q7⟩
end
theorem akr{K:PySem.W.Frag}{a:Addr}{xs:List V}{g:TG}{tb:TS}{D:Ends}{Y:St}{H:Hp}(Pv:Nat->St->Hp->Prop)(h0:Pv 0 Y H)(hl:∀ i Y H,i<=xs.length->Pv i Y H->E5 K H a xs)(hs:∀ i x Y H,xs[i]?=some x->Pv i Y H->g x Y H fun σ2 H2=>tb { D with nx:=Pv (i+1),ct:=Pv (i+1),bk:=D.nx } σ2 H2)(hd:∀ Y H,Pv xs.length Y H->D.nx Y H) :
  ∃ W:Nat->Nat->St->Hp->Prop,(∃ m,W 0 m Y H)/\∀ i m Y H,W i m Y H->
   ((k5 K a).stop i H/\D.nx Y H)\/((k5 K a).go i H/\∃ N:St->Hp->Prop,(∀ σ' H',N σ' H'->∃ m',m'<m/\W (i+1) m' σ' H')/\∀ x H',(k5 K a).yld i H x H'->g x Y H' fun σ2 H2=>tb { D with nx:=N,ct:=N,bk:=D.nx } σ2 H2):=by
 refine ⟨fun i m Y H=>m=xs.length-i/\i<=xs.length/\Pv i Y H,⟨xs.length,by simp,K1 _,h0⟩,?_⟩;rintro i m Y H ⟨rfl,hi,p⟩;have q:=hl i Y H hi p
 by_cases D0:i<xs.length
 .refine .inr ⟨⟨xs,xs[i],q,by simp [D0]⟩,Pv (i+1),fun σ' H' p'=>⟨xs.length-(i+1),by lia,rfl,D0,p'⟩,fun x H' y=>?_⟩;obtain ⟨e,y⟩:=y;subst e;exact hs i x Y _ (y xs q) p
 .have e:i=xs.length:=by lia
  subst e;exact .inl ⟨⟨xs,q,C5 _⟩,hd Y H p⟩
theorem amd{K:PySem.W.Frag}{a:Addr}{xs:List V}{g:TG}{tb:TS}{D:Ends}{Y:St}{H:Hp}(Pv:Nat->St->Hp->Prop)(h0:Pv 0 Y H)(hl:∀ i Y H,i<=xs.length->Pv i Y H->C9 K H a xs)(hs:∀ i x Y H,xs[i]?=some x->Pv i Y H->g x Y H fun σ2 H2=>tb { D with nx:=Pv (i+1),ct:=Pv (i+1),bk:=D.nx } σ2 H2)(hd:∀ Y H,Pv xs.length Y H->D.nx Y H) :
  ∃ W:Nat->Nat->St->Hp->Prop,(∃ m,W 0 m Y H)/\∀ i m Y H,W i m Y H->
   ((bZ K a).stop i H/\D.nx Y H)\/((bZ K a).go i H/\∃ N:St->Hp->Prop,(∀ σ' H',N σ' H'->∃ m',m'<m/\W (i+1) m' σ' H')/\∀ x H',(bZ K a).yld i H x H'->g x Y H' fun σ2 H2=>tb { D with nx:=N,ct:=N,bk:=D.nx } σ2 H2):=by
 refine ⟨fun i m Y H=>m=xs.length-i/\i<=xs.length/\Pv i Y H,⟨xs.length,by simp,K1 _,h0⟩,?_⟩;rintro i m Y H ⟨rfl,hi,p⟩;have q:=hl i Y H hi p
 by_cases D0:i<xs.length
 .refine .inr ⟨⟨xs,xs[i],q,by simp [D0]⟩,Pv (i+1),fun σ' H' p'=>⟨xs.length-(i+1),by lia,rfl,D0,p'⟩,fun x H' y=>?_⟩;obtain ⟨e,y⟩:=y;subst e;exact hs i x Y _ (y xs q) p
 .have e:i=xs.length:=by lia
  subst e;exact .inl ⟨⟨xs,q,C5 _⟩,hd Y H p⟩
theorem aiL{lo:Int}{n:Nat}{g:TG}{tb:TS}{D:Ends}{Y:St}{H:Hp}(Pv:Nat->St->Hp->Prop)(h0:Pv 0 Y H)(hs:∀ i Y H,i<n->Pv i Y H->g (.int (lo+i)) Y H fun σ2 H2=>tb { D with nx:=Pv (i+1),ct:=Pv (i+1),bk:=D.nx } σ2 H2)(hd:∀ Y H,Pv n Y H->D.nx Y H) :
  ∃ W:Nat->Nat->St->Hp->Prop,(∃ m,W 0 m Y H)/\∀ i m Y H,W i m Y H->
   ((k6 lo n).stop i H/\D.nx Y H)\/((k6 lo n).go i H/\∃ N:St->Hp->Prop,(∀ σ' H',N σ' H'->∃ m',m'<m/\W (i+1) m' σ' H')/\∀ x H',(k6 lo n).yld i H x H'->g x Y H' fun σ2 H2=>tb { D with nx:=N,ct:=N,bk:=D.nx } σ2 H2):=by
 refine ⟨fun i m Y H=>m=n-i/\i<=n/\Pv i Y H,⟨n,by simp,K1 _,h0⟩,?_⟩;rintro i m Y H ⟨rfl,hi,p⟩
 by_cases D0:i<n
 .refine .inr ⟨D0,Pv (i+1),fun σ' H' p'=>⟨n-(i+1),by lia,rfl,D0,p'⟩,fun x H' y=>?_⟩;obtain ⟨e,y⟩:=y;subst e y;exact hs i Y _ D0 p
 .have e:i=n:=by lia
  subst e;exact .inl ⟨C5 _,hd Y H p⟩
end L2
namespace L2
open PySem PySem.Spec PyProof.Rows
noncomputable abbrev R2:=V->V->Hp->VK->Prop
noncomputable def J5 (X:Cx) (f:Value->Value->Sem Value) (r:R2):Prop:=
 ∀ (pins:List (Addr×Obj)) (s:Shared) (Y:St) (H:Hp) (x y:V) (v u:Value) (Q:VK),Inv X pins Y H s->RelV x v->RelV y u->r x y H Q->
  wpAny (model X.prog X.w) X.A (f v u) (EP X pins Y Q) X.xe s
noncomputable def nK (X:Cx) (f:Value->Sem Value) (r:V->Hp->VK->Prop):Prop:=
 ∀ (pins:List (Addr×Obj)) (s:Shared) (Y:St) (H:Hp) (x:V) (v:Value) (Q:VK),Inv X pins Y H s->RelV x v->r x H Q->
  wpAny (model X.prog X.w) X.A (f v) (EP X pins Y Q) X.xe s
noncomputable def CallR (X:Cx) (f:Value) (r:List V->Hp->VK->Prop):Prop:=
 ∀ (pins:List (Addr×Obj)) (s:Shared) (Y:St) (H:Hp) (xs:List V) (us:List Value) (Q:VK),Inv X pins Y H s->Vals xs us->r xs H Q->
  wpAny (model X.prog X.w) X.A (call f us) (EP X pins Y Q) X.xe s
noncomputable def TruR (X:Cx) (r:V->Hp->(Bool->Hp->Prop)->Prop):Prop:=
 ∀ (pins:List (Addr×Obj)) (s:Shared) (Y:St) (H:Hp) (x:V) (v:Value) (Q:Bool->Hp->Prop),Inv X pins Y H s->RelV x v->r x H Q->
  wpAny (model X.prog X.w) X.A (truthy v) (TP X pins Y Q) X.xe s
noncomputable def k7 (r:R2) (ta tb:TE):TE:=fun Y H Q=>ta Y H fun x H1=>tb Y H1 fun y H2=>r x y H2 Q
noncomputable def rN (r:V->Hp->VK->Prop) (ta:TE):TE:=fun Y H Q=>ta Y H fun x H1=>r x H1 Q
noncomputable def rI (C:Int->Int->Prop) (g:Int->Int->V):R2:=fun x y H Q=>∃ i j,x=.int i/\y=.int j/\C i j/\Q (g i j) H
noncomputable def u4 (g:Int->Int->V):R2:=fun x y H Q=>∃ i j,x=.int i/\y=.int j/\Q (g i j) H
noncomputable def rU (g:Int->V):V->Hp->VK->Prop:=fun x H Q=>∃ i,x=.int i/\Q (g i) H
section
variable {X:Cx} {a b c:Expr} {ta tb tc:TE} {pos:Pos}
theorem binT(ha:PE X a ta)(hb:PE X b tb){pins:List (Addr×Obj)}{s:Shared}{Y:St}{H:Hp}{R:V->V->Hp->Prop}(I:Inv X pins Y H s)(h:ta Y H fun x H1=>tb Y H1 fun y H2=>R x y H2){Q:Value->Shared->Prop}{f:Value->Value->Sem Value}(hf:∀ v u s2 x y H2,Inv X pins Y H2 s2->RelV x v->RelV y u->R x y H2->wpAny (model X.prog X.w) X.A (f v u) Q X.xe s2) :
  wpAny (model X.prog X.w) X.A (eval a X.env) (fun v zu=>wpAny (model X.prog X.w) X.A (eval b X.env) (fun u zx=>wpAny (model X.prog X.w) X.A (f v u) Q X.xe zx) X.xe zu) X.xe s:=by
 refine C4 (ha pins s Y H _ I h) fun v s1 ⟨x,H1,I1,r1,q1⟩=>?_
 refine C4 (hb pins s1 Y H1 _ I1 q1) fun u s2 ⟨y,H2,I2,r2,q2⟩=>?_
 exact hf v u s2 x y H2 I2 r1 r2 q2
theorem pe_op{op:Operator}{r:R2}(ho:J5 X (binaryOp op) r)(ha:PE X a ta)(hb:PE X b tb):PE X (.BinOp a op b pos) (k7 r ta tb):=by
 intro pins s Y H Q I h;exact wpAny_BinOp (binT ha hb I h fun v u s2 x y H2 I2 rx ry q=>ho pins s2 Y H2 x y v u Q I2 rx ry q)
theorem pe_un{op:UnaryOp}{r:V->Hp->VK->Prop}(ho:nK X (unaryOp op) r)(ha:PE X a ta):PE X (.UnaryOp op a pos) (rN r ta):=by
 intro pins s Y H Q I h;exact UnaryOp_ (C4 (ha pins s Y H _ I h) fun v s1 ⟨x,H1,I1,r1,q1⟩=>ho pins s1 Y H1 x v Q I1 r1 q1)
theorem rO{f:Value->Value->Sem Value}{C:Int->Int->Prop}{g:Int->Int->Int}(rule:∀ (i j:Int) (t u:Tok) (s:Shared) (Q:Value->Shared->Prop) (E:Value->Shared->Prop),C i j->Q (.int (g i j) s.toks) { s with toks:=s.toks+1 }->wpAny (model X.prog X.w) X.A (f (.int i t) (.int j u)) Q E s) :
  J5 X f (rI C fun i j=>.int (g i j)):=by
 intro pins s Y H x y v u Q I rx ry h;obtain ⟨i,j,rfl,rfl,hc,q⟩:=h;obtain ⟨t,rfl⟩:=rx;obtain ⟨t',rfl⟩:=ry;exact rule i j t t' s _ _ hc ⟨.int (g i j),H,I.tok _,⟨_,rfl⟩,q⟩
theorem opI0{f:Value->Value->Sem Value}{g:Int->Int->Int}(rule:∀ (i j:Int) (t u:Tok) (s:Shared) (Q:Value->Shared->Prop) (E:Value->Shared->Prop),Q (.int (g i j) s.toks) { s with toks:=s.toks+1 }->wpAny (model X.prog X.w) X.A (f (.int i t) (.int j u)) Q E s) :
  J5 X f (u4 fun i j=>.int (g i j)):=by
 intro pins s Y H x y v u Q I rx ry h;obtain ⟨i,j,rfl,rfl,q⟩:=h;obtain ⟨t,rfl⟩:=rx;obtain ⟨t',rfl⟩:=ry;exact rule i j t t' s _ _ ⟨.int (g i j),H,I.tok _,⟨_,rfl⟩,q⟩
theorem opB0{f:Value->Value->Sem Value}{g:Int->Int->Bool}(rule:∀ (i j:Int) (t u:Tok) (s:Shared) (Q:Value->Shared->Prop) (E:Value->Shared->Prop),Q (.bool (g i j)) s->wpAny (model X.prog X.w) X.A (f (.int i t) (.int j u)) Q E s) :
  J5 X f (u4 fun i j=>.bl (g i j)):=by
 intro pins s Y H x y v u Q I rx ry h;obtain ⟨i,j,rfl,rfl,q⟩:=h;obtain ⟨t,rfl⟩:=rx;obtain ⟨t',rfl⟩:=ry;exact rule i j t t' s _ _ ⟨.bl (g i j),H,I,rfl,q⟩
noncomputable def CDiv (i j:Int):Prop:=0<j/\j<1073741824
noncomputable def CMul (i j:Int):Prop:=(-(2 ^ 64)<i/\i<2 ^ 64)\/(-(2 ^ 64)<j/\j<2 ^ 64)
theorem CMul.ok{i j:Int}(h:CMul i j):IntMulOk i j:=by
 rcases h with ⟨h1,h2⟩ | ⟨h1,h2⟩
 .exact .of_left (intBits_le_64 h1 h2)
 .exact .of_right (intBits_le_64 h1 h2)
theorem anP:J5 X (binaryOp .Add) (u4 fun i j=>.int (i+j)):=opI0 fun _ _ _ _ _ _ _ q=>add_int q
theorem anQ:J5 X (binaryOp .Sub) (u4 fun i j=>.int (i-j)):=opI0 fun _ _ _ _ _ _ _ q=>sub_int q
theorem anR:J5 X (binaryOp .Mult) (rI CMul fun i j=>.int (i*j)):=rO fun _ _ _ _ _ _ _ hc q=>mul_int q hc.ok
theorem ame:J5 X (binaryOp .FloorDiv) (rI CDiv fun i j=>.int (i / j)):=rO fun i j _ _ _ _ _ hc q=>by
 have h1:(0:Int)<j:=hc.1;have h2:j<1073741824:=hc.2;exact floordiv_int (by lia) (by rw [Int.fdiv_eq_ediv_of_nonneg i (by lia)];exact q) (.inl (PyProof.noPylong_small (by lia)))
theorem anS:J5 X (binaryOp .Mod) (rI (fun _ j=>0<j) fun i j=>.int (i % j)):=rO fun i j _ _ _ _ _ hc q=>by
 have h1:(0:Int)<j:=hc;exact mod_int' (by lia) (by rw [Int.fmod_eq_emod_of_nonneg i (by lia)];exact q)
theorem unI{f:Value->Sem Value}{g:Int->Int}(rule:∀ (i:Int) (t:Tok) (s:Shared) (Q:Value->Shared->Prop) (E:Value->Shared->Prop),Q (.int (g i) s.toks) { s with toks:=s.toks+1 }->wpAny (model X.prog X.w) X.A (f (.int i t)) Q E s) :
  nK X f (rU fun i=>.int (g i)):=by
 intro pins s Y H x v Q I rx h;obtain ⟨i,rfl,q⟩:=h;obtain ⟨t,rfl⟩:=rx;exact rule i t s _ _ ⟨.int (g i),H,I.tok _,⟨_,rfl⟩,q⟩
theorem anT:nK X (unaryOp .USub) (rU fun i=>.int (-i)):=unI fun _ _ _ _ _ q=>neg_int q
end
noncomputable def scal:V->V->Bool
 | .non,.non=>true | .non,.int _=>true | .int _,.non=>true | .non,.bl _=>true | .bl _,.non=>true | .non,.str _=>true | .str _,.non=>true
 | .int _,.int _=>true | .bl _,.bl _=>true | .str _,.str _=>true | .byt _,.byt _=>true
 | .int _,.str _=>true | .str _,.int _=>true | .bl _,.str _=>true | .str _,.bl _=>true
 | _,_=>false
noncomputable def yQ:R2:=fun x y H Q=>scal x y=true/\Q (.bl (decide (x=y))) H
noncomputable def yR:R2:=fun x y H Q=>scal x y=true/\Q (.bl (!decide (x=y))) H
theorem yS{i j:Int} : decide (V.int i=V.int j)=(i==j):=by
 rw [dS]
 simp
theorem yT{i j:Bool} : decide (V.bl i=V.bl j)=(i==j):=by
 rw [dS]
 simp
theorem yU{i j:Str} : decide (V.str i=V.str j)=(i==j):=by
 rw [dS]
 simp
theorem yV{i j:Array UInt8} : decide (V.byt i=V.byt j)=(i.toList==j.toList):=by
 rw [dS]
 cases i
 cases j
 simp
section
variable {X:Cx} {a b c:Expr} {ta tb tc:TE} {pos:Pos}
theorem K9{pins:List (Addr×Obj)}{Y:St}{H:Hp}{s:Shared}{Q:VK}{k k':Bool}(I:Inv X pins Y H s)(q:Q (.bl k) H)(e:k=k'):EP X pins Y Q (.bool k') s:=by
 subst e;exact ⟨.bl k,H,I,rfl,q⟩
theorem op_eq:J5 X (compareOp .Eq) yQ:=by
 intro pins s Y H x y v u Q I rx ry h;obtain ⟨hs,q⟩:=h
 cases x with
 | non=>
  cases rx
  cases y with
  | non=>cases ry;exact PySem.EqNone.eq_none_none (K9 I q (by simp))
  | bl j=>cases ry;exact PySem.EqNone.eq_none_bool (K9 I q (by simp))
  | int j=>obtain ⟨t',rfl⟩:=ry;exact PySem.EqNone.eq_none_int (K9 I q (by simp))
  | str j=>obtain ⟨t',rfl⟩:=ry;exact PySem.EqNone.eq_none_str (K9 I q (by simp))
  | _=>exact absurd (show false=true from hs) K7
 | bl i=>
  cases rx
  cases y with
  | non=>cases ry;exact PySem.EqNone.eq_bool_none (K9 I q (by simp))
  | bl j=>cases ry;exact eq_bool (K9 I q yT)
  | str j=>obtain ⟨t',rfl⟩:=ry;exact PySem.EqMixed.eq_bool_str (K9 I q (by simp))
  | _=>exact absurd (show false=true from hs) K7
 | int i=>
  obtain ⟨t,rfl⟩:=rx
  cases y with
  | non=>cases ry;exact PySem.EqNone.eq_int_none (K9 I q (by simp))
  | int j=>obtain ⟨t',rfl⟩:=ry;exact eq_int (K9 I q yS)
  | str j=>obtain ⟨t',rfl⟩:=ry;exact PySem.EqMixed.eq_int_str (K9 I q (by simp))
  | _=>exact absurd (show false=true from hs) K7
 | str i=>
  obtain ⟨t,rfl⟩:=rx
  cases y with
  | non=>cases ry;exact PySem.EqNone.eq_str_none (K9 I q (by simp))
  | bl j=>cases ry;exact PySem.EqMixed.eq_str_bool (K9 I q (by simp))
  | int j=>obtain ⟨t',rfl⟩:=ry;exact PySem.EqMixed.eq_str_int (K9 I q (by simp))
  | str j=>obtain ⟨t',rfl⟩:=ry;exact eq_str (K9 I q yU)
  | _=>exact absurd (show false=true from hs) K7
 | byt i=>
  obtain ⟨t,rfl⟩:=rx
  cases y with
  | byt j=>obtain ⟨t',rfl⟩:=ry;exact PySem.W.eq_bytes (K9 I q yV)
  | _=>exact absurd (show false=true from hs) K7
 | _=>cases y <;> exact absurd (show false=true from hs) K7
theorem op_ne:J5 X (compareOp .NotEq) yR:=by
 intro pins s Y H x y v u Q I rx ry h;obtain ⟨hs,q⟩:=h
 cases x with
 | non=>
  cases rx
  cases y with
  | non=>cases ry;exact PySem.EqNone.ne_none_none (K9 I q (by simp))
  | bl j=>cases ry;exact PySem.EqNone.ne_none_bool (K9 I q (by simp))
  | int j=>obtain ⟨t',rfl⟩:=ry;exact PySem.EqNone.ne_none_int (K9 I q (by simp))
  | str j=>obtain ⟨t',rfl⟩:=ry;exact PySem.EqNone.ne_none_str (K9 I q (by simp))
  | _=>exact absurd (show false=true from hs) K7
 | bl i=>
  cases rx
  cases y with
  | non=>cases ry;exact PySem.EqNone.ne_bool_none (K9 I q (by simp))
  | bl j=>cases ry;exact ne_bool (K9 I q (congrArg not yT))
  | str j=>obtain ⟨t',rfl⟩:=ry;exact PySem.EqMixed.ne_bool_str (K9 I q (by simp))
  | _=>exact absurd (show false=true from hs) K7
 | int i=>
  obtain ⟨t,rfl⟩:=rx
  cases y with
  | non=>cases ry;exact PySem.EqNone.ne_int_none (K9 I q (by simp))
  | int j=>obtain ⟨t',rfl⟩:=ry;exact ne_int (K9 I q (congrArg not yS))
  | str j=>obtain ⟨t',rfl⟩:=ry;exact PySem.EqMixed.ne_int_str (K9 I q (by simp))
  | _=>exact absurd (show false=true from hs) K7
 | str i=>
  obtain ⟨t,rfl⟩:=rx
  cases y with
  | non=>cases ry;exact PySem.EqNone.ne_str_none (K9 I q (by simp))
  | bl j=>cases ry;exact PySem.EqMixed.ne_str_bool (K9 I q (by simp))
  | int j=>obtain ⟨t',rfl⟩:=ry;exact PySem.EqMixed.ne_str_int (K9 I q (by simp))
  | str j=>obtain ⟨t',rfl⟩:=ry;exact ne_str (K9 I q (congrArg not yU))
  | _=>exact absurd (show false=true from hs) K7
 | byt i=>
  obtain ⟨t,rfl⟩:=rx
  cases y with
  | byt j=>obtain ⟨t',rfl⟩:=ry;exact PySem.W.ne_bytes (K9 I q (congrArg not yV))
  | _=>exact absurd (show false=true from hs) K7
 | _=>cases y <;> exact absurd (show false=true from hs) K7
theorem op_lt:J5 X (compareOp .Lt) (u4 fun i j=>.bl (decide (i<j))):=opB0 fun _ _ _ _ _ _ _ q=>lt_int q
theorem op_le:J5 X (compareOp .LtE) (u4 fun i j=>.bl (decide (i<=j))):=opB0 fun _ _ _ _ _ _ _ q=>le_int q
theorem op_gt:J5 X (compareOp .Gt) (u4 fun i j=>.bl (decide (j<i))):=opB0 fun _ _ _ _ _ _ _ q=>gt_int q
theorem aiP:J5 X (compareOp .Lt) (fun x y H Q=>∃ i j,x=.str i/\y=.str j/\Q (.bl (decide (i.cps.toList<j.cps.toList))) H):=by
 intro pins s Y H x y v u Q I rx ry h;obtain ⟨i,j,rfl,rfl,q⟩:=h;obtain ⟨t,rfl⟩:=rx;obtain ⟨t',rfl⟩:=ry;exact lt_str (K9 I q rfl)
theorem aiQ:J5 X (compareOp .In) (fun x y H Q=>∃ i j,x=.str i/\y=.str j/\Q (.bl (!(Builtin.Str.occurrences j i 0 j.length 1).isEmpty)) H):=by
 intro pins s Y H x y v u Q I rx ry h;obtain ⟨i,j,rfl,rfl,q⟩:=h;obtain ⟨t,rfl⟩:=rx;obtain ⟨t',rfl⟩:=ry;exact in_str (K9 I q rfl)
theorem amf:J5 X (compareOp .IsNot) (fun x y H Q=>y=.non/\Q (.bl (!decide (x=.non))) H):=by
 intro pins s Y H x y v u Q I rx ry h;obtain ⟨rfl,q⟩:=h
 cases ry
 refine isnot_none_gen (K9 I q ?_)
 cases x <;> first
  | (cases rx;rfl)
  | (obtain ⟨t,rfl⟩:=rx;rfl)
theorem yW(b:Expr){op:CmpOp}(h:op≠.In:=by decide)(h2:op≠.NotIn:=by decide):behindInMarks op b=false:=by
 have e1:(op==CmpOp.In)=false:=by cases op <;> first | rfl | exact absurd rfl h
 have e2:(op==CmpOp.NotIn)=false:=by cases op <;> first | rfl | exact absurd rfl h2
 cases b <;> simp [behindInMarks,e1,e2]
theorem amg{op:CmpOp}{r:R2}(ho:J5 X (compareOp op) r)(ha:PE X a ta)(hb:PE X b tb)(hm:behindInMarks op b=false):PE X (.Compare a [op] [b] pos) (k7 r ta tb):=by
 intro pins s Y H Q I h;exact wpAny_Compare1 (binT ha hb I h fun v u s2 x y H2 I2 rx ry q=>ho pins s2 Y H2 x y v u Q I2 rx ry q) hm
noncomputable def tTest (t:TE):TT:=fun Y H Q=>t Y H fun x H'=>∃ k,x=.bl k/\Q k H'
theorem amh{op:CmpOp}{r:R2}(ho:J5 X (compareOp op) r)(ha:PE X a ta)(hb:PE X b tb)(hm:behindInMarks op b=false):PT X (.Compare a [op] [b] pos) (tTest (k7 r ta tb)):=by
 intro pins s Y H Q I h;refine wpAny_isTrue_Compare1 (C4 (ha pins s Y H _ I h) fun v s1 ⟨x,H1,I1,r1,q1⟩=>C4 (hb pins s1 Y H1 _ I1 q1) fun u s2 ⟨y,H2,I2,r2,q2⟩=>
  C4 (ho pins s2 Y H2 x y v u _ I2 r1 r2 q2) fun c s3 ⟨z,H3,I3,r3,k,e,q3⟩=>?_) hm
 subst e
 cases r3
 exact wpAny_truthy_bool ⟨H3,I3,q3⟩
noncomputable def rP (r r':R2) (ta tb tc:TE):TE:=fun Y H Q=>ta Y H fun x H1=>tb Y H1 fun y H2=>r x y H2 fun z H3=>∃ k,z=.bl k/\
 (if k=true then tc Y H3 fun w' H4=>r' y w' H4 Q else Q (.bl false) H3)
theorem aks{op op':CmpOp}{r r':R2}(ho:J5 X (compareOp op) r)(m8:J5 X (compareOp op') r')(ha:PE X a ta)(hb:PE X b tb)(hc:PE X c tc)(hm:lastMarks [op,op'] [b,c]=false:=by with_unfolding_all rfl):PE X (.Compare a [op,op'] [b,c] pos) (rP r r' ta tb tc):=by
 intro pins s Y H Q I h;refine Compare_chain (C4 (ha pins s Y H _ I h) fun v s1 ⟨x,H1,I1,r1,q1⟩=>chain_link (C4 (hb pins s1 Y H1 _ I1 q1) fun u s2 ⟨y,H2,I2,r2,q2⟩=>
  C4 (ho pins s2 Y H2 x y v u _ I2 r1 r2 q2) fun d s3 ⟨z,H3,I3,r3,k,e,q3⟩=>?_)) hm
 subst e
 cases r3
 refine wpAny_truthy_bool ?_
 cases k with
 | false=>exact ite_ff ⟨.bl false,H3,I3,rfl,q3⟩
 | true=>exact ite_tt (chain_last (C4 (hc pins s3 Y H3 _ I3 q3) fun w' s4 ⟨z',H4,I4,r4,q4⟩=>m8 pins s4 Y H4 y z' u w' Q I4 r2 r4 q4))
noncomputable def TruV (K:PySem.W.Frag) (x:V) (H:Hp) (k:Bool):Prop:=
 match x with
 | .non=>k=false
 | .bl b=>k=b
 | .int i=>k=(i != 0)
 | .str y=>y.length<=sizeLine/\k=((y.length:Int) != 0)
 | .byt y=>y.size<=sizeLine/\k=((y.size:Int) != 0)
 | .ref p=>(∃ xs,E5 K H p xs/\k=!xs.isEmpty)\/(∃ xs,C9 K H p xs/\k=!xs.isEmpty)\/∃ kvs,H p=some (.dK kvs)/\k=!kvs.isEmpty
 | _=>False
theorem ahV{κ:Type}{kvs:List (κ×V)}{vs:List (κ×Value)}(r:KV kvs vs):(!vs.isEmpty)=!kvs.isEmpty:=by
 cases r <;> rfl
theorem yX{xs:List V}{its:List Value}(r:Vals xs its):(!its.toArray.isEmpty)=!xs.isEmpty:=by
 cases r <;> simp
theorem jQ:(sizeLine:Nat)<2 ^ 63:=by rw [sizeLine_eq];decide
theorem anU:TruR X (fun x H Q=>∃ k,TruV X.K x H k/\Q k H):=by
 intro pins s Y H x v Q I rx h;obtain ⟨k,e,q⟩:=h;have hl:=jQ;have hs:sizeLine=16777216:=sizeLine_eq
 cases x with
 | non=>
  cases rx
  have e':k=false:=e;subst e';exact truthy_none ⟨H,I,q⟩
 | bl b=>
  cases rx
  have e':k=b:=e;subst e';exact wpAny_truthy_bool ⟨H,I,q⟩
 | int i=>
  obtain ⟨t,rfl⟩:=rx;have e':k=(i != 0):=e;subst e';exact PySem.P.truthy_int ⟨H,I,q⟩
 | str y=>
  obtain ⟨t,rfl⟩:=rx;obtain ⟨hy,e'⟩:y.length<=sizeLine/\k=((y.length:Int) != 0):=e;subst e';exact PySem.P.truthy_str (by lia) ⟨H,I.tok _,q⟩
 | byt y=>
  obtain ⟨t,rfl⟩:=rx;obtain ⟨hy,e'⟩:y.size<=sizeLine/\k=((y.size:Int) != 0):=e;subst e';exact PySem.W.truthy_bytes (by lia) ⟨H,I.tok _,q⟩
 | ref p=>
  cases rx
  have e':(∃ xs,E5 X.K H p xs/\k=!xs.isEmpty)\/(∃ xs,C9 X.K H p xs/\k=!xs.isEmpty)\/∃ kvs,H p=some (.dK kvs)/\k=!kvs.isEmpty:=e
  rcases e' with ⟨xs,hx,e'⟩ | ⟨xs,hx,e'⟩ | ⟨kvs,hx,e'⟩
  .subst e';obtain ⟨its,r,pl,hz⟩:=I.list hx;have C1:=r.length;exact wpAny_truthy_list pl.isList (by simp only [K3];lia) ⟨H,I.tok _,by rw [yX r];exact q⟩
  .subst e';obtain ⟨its,r,pl,hz⟩:=I.tuple hx;have C1:=r.length;exact truthy_tuple pl (by simp only [K3];lia) ⟨H,I.tok _,by rw [yX r];exact q⟩
  .subst e';obtain ⟨hz,hS,vs,r,m⟩:kvs.length<=sizeLine/\(p==sysModules)=false/\∃ vs,KV kvs vs/\s.heap.DictOf (N8 X.prog X.w) p vs:=I.hok p _ hx;have C1:kvs.length=vs.length:=Paired.length r;exact wpAny_truthy_dict hS m (by lia) ⟨H,I.tok _,by rw [ahV r];exact q⟩
 | _=>exact (show False from e).elim
theorem akt(ha:PE X a ta)(he:∀ whole,isTrue a X.env whole=(do let v <- whole;standAt a.pos;holding [v] (truthy v))) :
  PT X a (fun Y H Q=>ta Y H fun x H'=>∃ k,TruV X.K x H' k/\Q k H'):=by
 intro pins s Y H Q I h;exact isTrue_plain (C4 (ha pins s Y H _ I h) fun v s1 ⟨x,H1,I1,r1,q1⟩=>anU pins s1 Y H1 x v Q I1 r1 q1) (he _)
theorem ahW:J5 X (binaryOp .Add) (fun x y H Q=>∃ i j,x=.str i/\y=.str j/\i.length+j.length<=sizeLine/\Q (.str (i++j)) H):=by
 intro pins s Y H x y v u Q I rx ry h;obtain ⟨i,j,rfl,rfl,hz,q⟩:=h;obtain ⟨t,rfl⟩:=rx;obtain ⟨t',rfl⟩:=ry;exact add_str (fun t' tk=>⟨.str (i++j),H,I.tok _,⟨_,rfl⟩,q⟩) hz
theorem vals1{x:V}{us:List Value}(r:Vals [x] us):∃ u,us=[u]/\RelV x u:=by
 cases r with
 | cons r1 r2=>cases r2;exact ⟨_,rfl,r1⟩
theorem vals2{x y:V}{us:List Value}(r:Vals [x,y] us):∃ u w',us=[u,w']/\RelV x u/\RelV y w':=by
 cases r with
 | cons r1 r2=>
  cases r2 with
  | cons r3 r4=>cases r4;exact ⟨_,_,rfl,r1,r3⟩
theorem aiS:CallR X (.type "int") (fun xs H Q=>(∃ i,xs=[.int i]/\Q (.int i) H)\/∃ k,xs=[.bl k]/\Q (.int (if k then 1 else 0)) H):=by
 intro pins s Y H xs us Q I r h
 rcases h with ⟨i,rfl,q⟩ | ⟨k,rfl,q⟩
 .obtain ⟨u,rfl,t,rfl⟩:=vals1 r;exact call_int_int ⟨.int i,H,I,⟨_,rfl⟩,q⟩
 .obtain ⟨u,rfl,r1⟩:=vals1 r
  cases r1
  exact call_int_bool ⟨.int (if k then 1 else 0),H,I.tok _,⟨_,rfl⟩,q⟩
noncomputable def LenV (K:PySem.W.Frag) (x:V) (H:Hp) (n:Nat):Prop:=
 match x with
 | .str y=>y.length<=sizeLine/\n=y.length
 | .byt y=>y.size<=sizeLine/\n=y.size
 | .ref p=>(∃ xs,E5 K H p xs/\n=xs.length)\/∃ xs,C9 K H p xs/\n=xs.length
 | _=>False
theorem rQ:CallR X (.builtin "len") (fun xs H Q=>∃ x n,xs=[x]/\LenV X.K x H n/\Q (.int n) H):=by
 intro pins s Y H xs us Q I r h;obtain ⟨x,n,rfl,e,q⟩:=h;obtain ⟨u,rfl,rx⟩:=vals1 r;have hl:=jQ;have hs:sizeLine=16777216:=sizeLine_eq
 cases x with
 | str y=>
  obtain ⟨t,rfl⟩:=rx;obtain ⟨hy,e'⟩:y.length<=sizeLine/\n=y.length:=e;subst e';exact len_str (by lia) ⟨.int _,H,I.tok _,⟨_,rfl⟩,q⟩
 | byt y=>
  obtain ⟨t,rfl⟩:=rx;obtain ⟨hy,e'⟩:y.size<=sizeLine/\n=y.size:=e;subst e';exact PySem.W.len_bytes (by lia) ⟨.int _,H,I.tok _,⟨_,rfl⟩,q⟩
 | ref p=>
  cases rx
  have e':(∃ xs,E5 X.K H p xs/\n=xs.length)\/∃ xs,C9 X.K H p xs/\n=xs.length:=e
  rcases e' with ⟨xs,hx,e'⟩ | ⟨xs,hx,e'⟩
  .subst e';obtain ⟨its,r',pl,hz⟩:=I.list hx;have C1:=r'.length;exact Calls.call_len_list pl.isList (by simp only [K3];lia) ⟨.int xs.length,H,I.tok _,⟨_,by simp only [K3];rw [C1]⟩,q⟩
  .subst e';obtain ⟨its,r',pl,hz⟩:=I.tuple hx;have C1:=r'.length;exact len_tuple pl (by simp only [K3];lia) ⟨.int xs.length,H,I.tok _,⟨_,by simp only [K3];rw [C1]⟩,q⟩
 | _=>exact (show False from e).elim
end
end L2
namespace L2
open PySem PySem.Spec PyProof.Rows
structure ObjM(h:Heap)(x dx C:Addr)(mA:Str->Option Value):Prop where
 obj:h.get? x=some (bV C dx)
 ns:h.Ns1 dx mA
 ne:dx≠x
theorem aiT{h:Heap}{dx:Addr}{mA:Str->Option Value}(n:h.Ns1 dx mA):∃ od,h.get? dx=some od/\∀ name,PySem.W.lookIn name od=some (mA name):=by
 obtain ⟨o,es,ep,ho,hd,hk,_,hm⟩:=n;refine ⟨o,ho,fun name=>?_⟩;have e:=hm name;unfold nsFind findBy at e;rw [<- Array.find?_toList] at e;unfold PySem.W.lookIn;rw [hd]
 dsimp only
 split
 .rename_i y q
  rw [q] at e;exact congrArg some e
 .rename_i q
  rw [q] at e;have a:es.toList.any (·.refKey)=false:=by
   rw [List.any_eq_false];intro y hy;obtain ⟨z,t,e8⟩:=hk y (Array.mem_toList_iff.mp hy);simp [DictEntry.refKey,e8]
  have a':¬ es.toList.any (·.refKey)=true:=by rw [a];exact K7
  rw [if_neg a'];exact congrArg some e
theorem ObjM.look{h:Heap}{x dx C:Addr}{mA:Str->Option Value}(I:ObjM h x dx C mA):∃ od,PySem.W.InstAt h x (bV C dx) C (some od)/\∀ name,PySem.W.lookIn name od=some (mA name):=
 let ⟨od,ho,hl⟩:=aiT I.ns
 ⟨od,⟨I.obj,rfl,rfl,ho⟩,hl⟩
section
variable {prog:Program} {w:World} {A:Around} {E:Value->Shared->Prop} {s:Shared} {K:PySem.W.Frag} {x dx C f:Addr} {mA:Str->Option Value} {name:Str} {v:Value}
theorem ami{expr:Bool}{Q:Value->Shared->Prop}(X:K.In s.heap)(I:ObjM s.heap x dx C mA)(hg:jK K C name=true)(hh:PySem.W.hasDictIn K C=true)(ha:O8 K (.ref C) name=some none)(hv:mA name=some v)(pV:PySem.W.handedIn v=true)(h:Q v { s with toks:=s.toks+1 }) :
  wpAny (model prog w) A (getAttr (.ref x) name expr) Q E s:=by
 obtain ⟨od,J,hl⟩:=I.look;exact PySem.W.get_value X J (PySem.W.plainGet_of hg).1 (PySem.W.findObj_own hh ha rfl (by rw [hl,hv])) pV h
theorem aku{pl:Sem Bool}{Q:Value×List Value->Shared->Prop}(X:K.In s.heap)(I:ObjM s.heap x dx C mA)(hg:jK K C name=true)(hf:O8 K (.ref C) name=some (some (.ref f)))(ht:aD K (.ref f)=true)(hv:mA name=none)(h:Q (.ref f,[.ref x]) s) :
  wpAny (model prog w) A (getMethod (.ref x) name pl) Q E s:=by
 obtain ⟨od,J,hl⟩:=I.look;exact PySem.W.method_fn X J (PySem.W.plainGet_of hg).1 (PySem.W.plainGet_of hg).2 hf (beq_iff_eq.mp ht) (by show (PySem.W.lookIn name od).map (·.isSome)=some false;rw [hl,hv];rfl) h
theorem amj{ns:List Str}{Q:Unit->Shared->Prop}(X:K.In s.heap)(I:ObjM s.heap x dx C mA)(hs:O8 K (.ref C) "__setattr__"=some (some (.builtin "object.__setattr__")))(hp:PySem.W.plainOver K C=true)(ht:PySem.W.takerIn K C name=some none)(hh:PySem.W.hasDictIn K C=true)(hw:PySem.Within mA ns)(hsz:ns.length<=sizeLine)(h:∀ h',ObjM h' x dx C (fun y=>if y=name then some v else mA y)->Heap.SameBut dx s.heap h'->Q () { s with heap:=h',toks:=s.toks+2 }) :
  wpAny (model prog w) A (setAttr (.ref x) name v) Q E s:=by
 obtain ⟨od,J,hl⟩:=I.look;refine PySem.W.set_plain X J hs (PySem.W.osa_open (s:={ s with toks:=s.toks+1 }) (r:=none) X J hp ht fun b=>?_);obtain ⟨cd,hc,vU⟩:=PySem.W.any_some hh;have hx:s.heap.get? x=some ⟨.ref C,some dx,.plain,#[]⟩:=I.obj;refine wpAny_bind (wpAny_pure (wpAny_bind (wpAny_bind (wpAny_loadPart hx (wpAny_bind (PySem.W.Looks.here (s:={ s with toks:=s.toks+1 }) (PySem.W.looks_clsIn X hc) ?_))))));rw [vU];refine wpAny_pure (a:=some dx) (wpAny_bind (wpAny_pure (wpAny_bind ?_)));refine wpAny_nsSet1 (s:={ s with toks:=s.toks+1 }) I.ns fun h' pW iM=>?_
 obtain ⟨oD,esD,epD,hoD,hdD,hcD⟩:=pW.count (PySem.Within.cons name v hw);refine wpAny_bind (wpAny_lookBehind hoD (by rw [hdD];exact pastItsLine_dict (K6 hcD (by rw [F8];lia))) ?_);exact wpAny_pure (h _ ⟨(iM.2 _ (Ne.symm I.ne)).trans I.obj,pW,I.ne⟩ iM)
theorem akv{R:Result->Shared->Prop}{vs:List Value}{kw:List (Str×Value)}(X:K.In s.heap)(hm:PySem.W.makesIn K C=true)(hi:O8 K (.ref C) "__init__"=some (some (.ref f)))(hf:PySem.W.typeIn K (.ref f)=some (.type "function"))(h:codeAny (model prog w) (A.under (.builtin "type.__call__" ⟨.ref C::vs,kw⟩)) (.call (.ref f) ⟨.ref (s.heap.objs.size+1)::vs,kw⟩) (PySem.W.InitBack (s.heap.objs.size+1) R)
   { s with heap:=(s.heap.push aB).push (bV C s.heap.objs.size) }) :
  codeAny (model prog w) A (.call (.ref C) ⟨vs,kw⟩) R s:=by
 obtain ⟨hh,g,d,t,os⟩:=s;exact PySem.W.make_core (PySem.W.makes_of X hm) (PySem.W.looks_findIn X hi) (fun self=>PySem.W.bind_fn X self hf) (.inl rfl) h
end
noncomputable def putF (f:Str) (v:V):List (Str×V)->List (Str×V)
 | []=>[(f,v)]
 | (g,x)::r=>if g=f then (g,v)::r else (g,x)::putF f v r
theorem L0(f g:Str)(v:V):∀ fs:List (Str×V),(putF f v fs).lookup g=if g=f then some v else fs.lookup g
 | []=>by
  show bU g [(f,v)]=_
  by_cases h:g=f
  .have hb:(g==f)=true:=beq_iff_eq.mpr h;simp only [bU,hb,if_pos h]
  .have hb:(g==f)=false:=beq_eq_false_iff_ne.mpr h;simp only [bU,hb,if_neg h]
 | (k,x)::r=>by
  have ih:=L0 f g v r;rw [show putF f v ((k,x)::r)=(if k=f then (k,v)::r else (k,x)::putF f v r) from rfl]
  by_cases hk:k=f
  .rw [if_pos hk]
   by_cases h:g=k
   .have hb:(g==k)=true:=beq_iff_eq.mpr h;simp only [bU,hb,if_pos (h.trans hk)]
   .have hb:(g==k)=false:=beq_eq_false_iff_ne.mpr h;simp only [bU,hb,if_neg (fun e:g=f=>h (e.trans hk.symm))]
  .rw [if_neg hk]
   by_cases h:g=k
   .have hb:(g==k)=true:=beq_iff_eq.mpr h;simp only [bU,hb,if_neg (fun e:g=f=>hk (h.symm.trans e))]
   .have hb:(g==k)=false:=beq_eq_false_iff_ne.mpr h;simp only [bU,hb];exact ih
theorem rR(f:Str)(v:V):∀ fs:List (Str×V),f∈(putF f v fs).map (·.1)/\∀ g,g∈fs.map (·.1)->g∈(putF f v fs).map (·.1)
 | []=>⟨by simp [putF],fun g h=>by simp at h⟩
 | (k,x)::r=>by
  obtain ⟨i1,i2⟩:=rR f v r;rw [show putF f v ((k,x)::r)=(if k=f then (k,v)::r else (k,x)::putF f v r) from rfl]
  by_cases hk:k=f
  .rw [if_pos hk];subst hk;exact ⟨by simp,fun g h=>by simpa using h⟩
  .rw [if_neg hk];refine ⟨?_,fun g h=>?_⟩
   .rw [G6];exact I0 _ i1
   .rw [G6] at h ⊢
    rcases D9.mp h with e | e
    .exact D9.mpr (.inl e)
    .exact I0 _ (i2 g e)
theorem rS(f:Str)(v:V):∀ fs:List (Str×V),(putF f v fs).length<=fs.length+1
 | []=>by simp [putF]
 | (k,x)::r=>by
  have ih:=rS f v r;rw [show putF f v ((k,x)::r)=(if k=f then (k,v)::r else (k,x)::putF f v r) from rfl]
  by_cases hk:k=f
  .rw [if_pos hk,F8,F8];lia
  .rw [if_neg hk,F8,F8];lia
theorem nM{v:V}{o:Option Value}(r:RelO (some v) o):∃ u,o=some u/\RelV v u:=by
 cases o with
 | none=>exact (show False from r).elim
 | some u=>exact ⟨u,rfl,r⟩
theorem RelO.none_of{o:Option Value}(r:RelO none o):o=none:=by
 cases o with
 | none=>rfl
 | some u=>exact (show False from r).elim
theorem aiU{v:V}{u:Value}(r:RelV v u):PySem.W.handedIn u=true:=by
 cases v with
 | non=>cases (show u=Value.none from r);rfl
 | bl b=>cases (show u=Value.bool b from r);rfl
 | int i=>obtain ⟨t,e⟩:=(show ∃ t,u=Value.int i t from r);cases e;rfl
 | str x=>obtain ⟨t,e⟩:=(show ∃ t,u=Value.str x t from r);cases e;rfl
 | byt b=>obtain ⟨t,e⟩:=(show ∃ t,u=Value.bytes b t from r);cases e;rfl
 | flt b=>obtain ⟨t,e⟩:=(show ∃ t,u=Value.float b t from r);cases e;rfl
 | ref a=>cases (show u=Value.ref a from r);rfl
 | ty n=>cases (show u=Value.type n from r);rfl
section
variable {P:Program} {w:World} {H H':Hp} {h h':Heap} {a C dx:Addr} {fs fs':List (Str×V)}
theorem nN(hok:M3 P w H h)(e:H a=some (.ins C dx fs)):∃ mA,ObjM h a dx C mA/\(∀ f,RelO (fs.lookup f) (mA f))/\PySem.Within mA (fs.map (·.1))/\fs.length<=1000/\H dx=some (.own a):=by
 obtain ⟨d,z,ne,ob,mA,n,r,q⟩:=(show ObjOk P w H h a (.ins C dx fs) from hok a _ e)
 exact ⟨mA,⟨ob,n,ne⟩,r,q,z,d⟩
end
structure Cls(K:PySem.W.Frag)(C:Addr):Prop where
 pg:jK K C Str.empty=true
 hd:PySem.W.hasDictIn K C=true
 po:PySem.W.plainOver K C=true
 sa:O8 K (.ref C) "__setattr__"=some (some (.builtin "object.__setattr__"))
theorem Cls.get{K:PySem.W.Frag}{C:Addr}(c:Cls K C)(f:Str):jK K C f=true:=c.pg
noncomputable def NoAttr (K:PySem.W.Frag) (C:Addr) (f:Str):Prop:=O8 K (.ref C) f=some none
theorem NoAttr.taker{K:PySem.W.Frag}{C:Addr}{f:Str}(n:NoAttr K C f):PySem.W.takerIn K C f=some none:=by
 unfold PySem.W.takerIn;rw [show O8 K (.ref C) f=some none from n];rfl
structure Meth(K:PySem.W.Frag)(C:Addr)(m:Str)(f:Addr):Prop where
 at_:O8 K (.ref C) m=some (some (.ref f))
 fn:aD K (.ref f)=true
 kp:V8 K (.ref f)=true
section
variable {X:Cx} {pins:List (Addr×Obj)} {Y:St} {H:Hp} {s:Shared} {a C dx:Addr} {fs:List (Str×V)} {f:Str} {v:V} {A:Around} {E:Value->Shared->Prop}
theorem ahX{b:Bool}{Q:Value->Shared->Prop}(I:Inv X pins Y H s)(e:H a=some (.ins C dx fs))(c:Cls X.K C)(n:NoAttr X.K C f)(l:fs.lookup f=some v)(h:∀ u s',Inv X pins Y H s'->RelV v u->Q u s'):wpAny (model X.prog X.w) A (getAttr (.ref a) f b) Q E s:=by
 obtain ⟨mA,O,r,_,_,_⟩:=nN I.hok e;obtain ⟨u,hu,ru⟩:=nM (v:=v) (o:=mA f) (by rw [<- l];exact r f);exact ami I.kIn O (c.get f) c.hd n hu (aiU ru) (h u _ (I.tok _) ru)
theorem yY{m:Str}{g:Addr}{pl:Sem Bool}{Q:Value×List Value->Shared->Prop}(I:Inv X pins Y H s)(e:H a=some (.ins C dx fs))(c:Cls X.K C)(k:Meth X.K C m g)(l:fs.lookup m=none)(h:Q (.ref g,[.ref a]) s):wpAny (model X.prog X.w) A (getMethod (.ref a) m pl) Q E s:=by
 obtain ⟨mA,O,r,_,_,_⟩:=nN I.hok e;have hn:mA m=none:=RelO.none_of (by rw [<- l];exact r m);exact aku I.kIn O (c.get m) k.at_ k.fn hn h
theorem ahY{y:V}{u:Value}{Q:Unit->Shared->Prop}(I:Inv X pins Y H s)(e:H a=some (.ins C dx fs))(c:Cls X.K C)(n:NoAttr X.K C f)(hl:fs.length<1000)(ry:RelV y u)(h:∀ s',Inv X pins Y (A4 H a (.ins C dx (putF f y fs))) s'->Q () s'):wpAny (model X.prog X.w) A (setAttr (.ref a) f u) Q E s:=by
 obtain ⟨mA,O,r,wi,_,ho⟩:=nN I.hok e;have hz:(fs.map (·.1)).length<=sizeLine:=by rw [A7,sizeLine_eq];lia
 refine amj I.kIn O c.sa c.po n.taker c.hd wi hz fun h' O' sb=>h _ ?_
 have hd:∃ o,h'.get? dx=some o:=let ⟨o,_,_,e',_⟩:=O'.ns;⟨o,e'⟩
 refine I.write (x:=a) (e:=dx) (by rw [e];exact True.intro) (.inr ho) (fun b q hb z=>(sb.2 b hb).trans z) hd ?_;refine ⟨by rw [A9 O.ne];exact ho,?_,O.ne,O'.obj,_,O'.ns,fun g=>?_,fun g hg=>?_⟩
 .have:=rS f y fs;lia
 .show RelO ((putF f y fs).lookup g) (if g=f then some u else mA g);rw [L0]
  by_cases q:g=f
  .rw [if_pos q,if_pos q];exact ry
  .rw [if_neg q,if_neg q];exact r g
 .by_cases q:g=f
  .rw [q];exact (rR f y fs).1
  .refine (rR f y fs).2 g (wi g fun z=>hg ?_);show (if g=f then some u else mA g)=none;rw [if_neg q];exact z
theorem Inv.made(I:Inv X pins Y H s):Inv X pins Y (A4 (A4 H s.heap.objs.size (.own (s.heap.objs.size+1))) (s.heap.objs.size+1) (.ins C s.heap.objs.size []))
  { s with heap:=(s.heap.push aB).push (bV C s.heap.objs.size) }:=by
 have e1:(s.heap.push aB).get? s.heap.objs.size=some aB:=Heap.get?_push_size s.heap rfl;have e2:((s.heap.push aB).push (bV C s.heap.objs.size)).get? (s.heap.objs.size+1)=some (bV C s.heap.objs.size):=by
  have:=Heap.get?_push_size (s.heap.push aB) (o:=bV C s.heap.objs.size) rfl
  rwa [Heap.size_push] at this
 have e3:(s.heap.push aB).Ns s.heap.objs.size (fun _=>none):=⟨aB,#[],_,e1,rfl,(fun e he=>absurd he (by simp)),fun _=>rfl⟩
 have I1:=I.laid (a:=s.heap.objs.size) (o:=.own (s.heap.objs.size+1)) (h':=s.heap.push aB) (t':=s.toks) (fun b u q=>Heap.get?_push_of_some _ q) (C5 _) ⟨_,e1⟩;refine I1.laid (a:=s.heap.objs.size+1) (o:=.ins C s.heap.objs.size []) (t':=s.toks) (fun b u q=>Heap.get?_push_of_some _ q) (Nat.le_of_eq (Heap.size_push _ _)) ?_;have ne:s.heap.objs.size≠s.heap.objs.size+1:=N1 (Nat.lt_succ_self _);refine ⟨by rw [A9 ne,A5],K1 _,ne,e2,fun _=>none,(Heap.Ns1.of_empty e3).at fun o q=>Heap.get?_push_of_some _ q,fun _=>True.intro,fun y hy=>absurd rfl hy⟩
theorem amk{prog:Program}{w:World}{env:Env}{e:Expr}{f:Str}{pos:Pos}{s:Shared}{Q:Value->Shared->Prop}(hb:attributeBase e f env (eval e env)=eval e env)(h:wpAny (model prog w) A (eval e env) (fun o zu=>wpAny (model prog w) A (getAttr o f true) Q E zu) E s):wpAny (model prog w) A (eval (.Attribute e f pos) env) Q E s:=
 Attribute_any_ h (by rw [arm_eval_Attribute,hb])
end
noncomputable def tFld (K:PySem.W.Frag) (ta:TE) (f:Str):TE:=fun Y H Q=>ta Y H fun x H1=>∃ a C dx fs v,x=.ref a/\H1 a=some (.ins C dx fs)/\Cls K C/\NoAttr K C f/\fs.lookup f=some v/\Q v H1
noncomputable def sFld (K:PySem.W.Frag) (ta tv:TE) (f:Str):TS:=fun D Y H=>tv Y H fun y H1=>ta Y H1 fun x H2=>∃ a C dx fs,x=.ref a/\H2 a=some (.ins C dx fs)/\Cls K C/\NoAttr K C f/\fs.length<1000/\
 D.nx Y (A4 H2 a (.ins C dx (putF f y fs)))
noncomputable def InOp (X:Cx) (op:Operator) (rd:V->V->Hp->VK->Prop):Prop:=
 ∀ (pins:List (Addr×Obj)) (s:Shared) (Y:St) (H:Hp) (x y:V) (u v:Value) (Q:VK),Inv X pins Y H s->RelV x u->RelV y v->rd x y H Q->wpAny (model X.prog X.w) X.A (inplaceOp op u v) (EP X pins Y Q) X.xe s
section
variable {X:Cx} {o e value:Expr} {f:Str} {pos pos' tpos:Pos} {ta tv:TE}
theorem anV(he:PE X e ta)(hb:attributeBase e f X.env (eval e X.env)=eval e X.env):PE X (.Attribute e f pos) (tFld X.K ta f):=by
 intro pins s Y H Q I h;refine amk hb (C4 (he pins s Y H _ I h) fun u s1 ⟨x,H1,I1,rx,a,C,dx,fs,v,ex,ea,c,n,l,q⟩=>?_);subst ex;obtain rfl:u=Value.ref a:=rx;exact ahX I1 ea c n l fun u' s2 I2 ru=>⟨v,H1,I2,ru,q⟩
theorem anW(ha:PE X o ta)(hv:PE X value tv)(hs:swapsWith value (some (.Attribute o f pos')) pos.line X.env=pure false):PS X (.Assign [.Attribute o f pos'] value pos) (sFld X.K ta tv f):=by
 intro pins s Y H D I h;refine plainObj_wpAny_Assign_Attribute (C4 (hv pins s Y H _ I h) fun u s1 ⟨y,H1,I1,ry,q⟩=>C4 (ha pins s1 Y H1 _ I1 q) fun ov s2 ⟨x,H2,I2,rx,a,C,dx,fs,ex,ea,c,n,l,q2⟩=>?_) hs;subst ex;obtain rfl:ov=Value.ref a:=rx;exact ahY I2 ea c n l ry fun s3 I3=>⟨Y,_,I3,q2⟩
noncomputable def rAdd:V->V->Hp->VK->Prop:=fun x y H Q=>∃ i j,x=.int i/\y=.int j/\Q (.int (i+j)) H
noncomputable def rSub:V->V->Hp->VK->Prop:=fun x y H Q=>∃ i j,x=.int i/\y=.int j/\Q (.int (i-j)) H
theorem anX:InOp X .Add rAdd:=by
 rintro pins s Y H x y u v Q I rx ry ⟨i,j,rfl,rfl,q⟩;obtain ⟨t,rfl⟩:=(show ∃ t,u=Value.int i t from rx)
 obtain ⟨t',rfl⟩:=(show ∃ t',v=Value.int j t' from ry)
 exact PyProof.Rows.iadd_int ⟨.int (i+j),H,I.tok _,⟨_,rfl⟩,q⟩
theorem anY:InOp X .Sub rSub:=by
 rintro pins s Y H x y u v Q I rx ry ⟨i,j,rfl,rfl,q⟩;obtain ⟨t,rfl⟩:=(show ∃ t,u=Value.int i t from rx)
 obtain ⟨t',rfl⟩:=(show ∃ t',v=Value.int j t' from ry)
 exact PyProof.Rows.isub_int ⟨.int (i-j),H,I.tok _,⟨_,rfl⟩,q⟩
end
section
variable {X:Cx} {pins:List (Addr×Obj)} {Y:St} {H:Hp} {s:Shared} {A:Around} {E:Value->Shared->Prop} {Q:Value->Shared->Prop} {c:Value} {b:Bool}
inductive TyOf (K:PySem.W.Frag) (H:Hp):V->Value->Prop where
 | non:TyOf K H .non (.type "NoneType")
 | bl (x:Bool):TyOf K H (.bl x) (.type "bool")
 | int (i:Int):TyOf K H (.int i) (.type "int")
 | str (x:Str):TyOf K H (.str x) (.type "str")
 | flt (x:UInt64):TyOf K H (.flt x) (.type "float")
 | lst {a:Addr} {xs:List V} (e:H a=some (.lst xs)):TyOf K H (.ref a) (.type "list")
 | frz {a:Addr} {o:Obj} {xs:List V} (e:H a=some (.frz o (.lst xs))):TyOf K H (.ref a) (.type "list")
 | tup {a:Addr} {xs:List V} (e:H a=some (.tup xs)):TyOf K H (.ref a) (.type "tuple")
 | dK {a:Addr} {kvs:List (C3×V)} (e:H a=some (.dK kvs)):TyOf K H (.ref a) (.type "dict")
 | dT {a:Addr} {kvs:List (List C3×V)} (e:H a=some (.dT kvs)):TyOf K H (.ref a) (.type "dict")
 | ins {a C dx:Addr} {fs:List (Str×V)} (e:H a=some (.ins C dx fs)) (cl:Cls K C) (ha:O8 K (.ref C) "__class__"=some (some (.builtin "object.__class__")))
   (hn:PySem.W.specialIn K (.builtin "object.__class__") "__get__"=some (some (.builtin "getset_descriptor.__get__"))) (pX:PySem.W.takesIn K (.builtin "object.__class__")=some true)
   (hm:PySem.W.mroIn K C (.type "object")=some true):TyOf K H (.ref a) (.ref C)
theorem aiV{x:V}{u t:Value}(I:Inv X pins Y H s)(rx:RelV x u)(ty:TyOf X.K H x t)(e:PySem.W.kitOne X.K t c=some b)(h:∀ tk,Q (.bool b) { s with toks:=tk }) :
  wpAny (model X.prog X.w) A (call (.builtin "isinstance") [u,c]) Q E s:=by
 cases ty with
 | non=>cases (show u=Value.none from rx);exact j7 PySem.W.kitx_none I.kIn True.intro e (fun z=>nomatch z) h
 | bl y=>cases (show u=Value.bool y from rx);exact j7 PySem.W.kitx_bool I.kIn True.intro e (fun z=>nomatch z) h
 | int i=>obtain ⟨t,q⟩:=(show ∃ t,u=Value.int i t from rx);cases q;exact j7 PySem.W.kitx_int I.kIn True.intro e (fun z=>nomatch z) h
 | str y=>obtain ⟨t,q⟩:=(show ∃ t,u=Value.str y t from rx);cases q;exact j7 PySem.W.kitx_str I.kIn True.intro e (fun z=>nomatch z) h
 | flt y=>obtain ⟨t,q⟩:=(show ∃ t,u=Value.float y t from rx);cases q;exact j7 PySem.W.kitx_float I.kIn True.intro e (fun z=>nomatch z) h
 | @lst a xs ea=>
  cases (show u=Value.ref a from rx)
  obtain ⟨_,_,n,_,h1⟩:=(show ObjOk X.prog X.w H s.heap a (.lst xs) from I.hok a _ ea)
  exact j7 PySem.W.kitx_list I.kIn ⟨_,h1,rfl⟩ e (fun z=>nomatch z) h
 | @frz a ob xs ea=>
  cases (show u=Value.ref a from rx)
  obtain ⟨_,_,_,n,_,h1⟩:=(show ObjOk X.prog X.w H s.heap a (.frz ob (.lst xs)) from I.hok a _ ea)
  exact j7 PySem.W.kitx_list I.kIn ⟨_,h1,rfl⟩ e (fun z=>nomatch z) h
 | @tup a xs ea=>
  cases (show u=Value.ref a from rx)
  obtain ⟨_,_,_,p⟩:=(show ObjOk X.prog X.w H s.heap a (.tup xs) from I.hok a _ ea)
  obtain ⟨o,h1,h2,_⟩:=p;exact j7 PySem.W.kitx_tuple I.kIn ⟨o,h1,h2⟩ e (fun z=>nomatch z) h
 | @dK a kvs ea=>
  cases (show u=Value.ref a from rx)
  obtain ⟨_,_,vs,_,p⟩:=(show ObjOk X.prog X.w H s.heap a (.dK kvs) from I.hok a _ ea)
  obtain ⟨o,es,ep,h1,h2,_⟩:=p;exact j7 PySem.W.kitx_dict I.kIn ⟨o,h1,h2.1⟩ e (fun z=>nomatch z) h
 | @dT a kvs ea=>
  cases (show u=Value.ref a from rx)
  obtain ⟨_,_,xs,_,o,es,ep,h1,h2,_⟩:=(show ObjOk X.prog X.w H s.heap a (.dT kvs) from I.hok a _ ea)
  exact j7 PySem.W.kitx_dict I.kIn ⟨o,h1,h2.1⟩ e (fun z=>nomatch z) h
 | @ins a C dx fs ea cl ha hn pX hm=>
  cases (show u=Value.ref a from rx)
  obtain ⟨mA,O,_⟩:=nN I.hok ea;obtain ⟨od,J,_⟩:=O.look;exact j7 (PySem.W.kitx_own (cl.get _) cl.hd ha hn pX hm) I.kIn J e (fun z=>nomatch z) h
end
end L2
namespace L2
open PySem PySem.Spec PyProof.Rows
structure Room(k:Nat)(A:Around):Prop where
 hd:A.handled=none
 dp:A.depth+3*k+5<recursionLimit
 un:A.units+16*k+200<cLine
 gd:A.guards=some []
theorem Room.mono{j k:Nat}{A:Around}(r:Room k A)(h:j<=k):Room j A:=⟨r.hd,by have:=r.dp;lia,by have:=r.un;lia,r.gd⟩
theorem Room.deeper{k:Nat}{A:Around}(r:Room (k+1) A)(env:Env):Room k (A.deeper env):=
 ⟨r.hd,by have:=r.dp;show A.depth+1+3*k+5<_;lia,by have:=r.un;show A.units+3+16*k+200<_;lia,r.gd⟩
theorem ahZ{A:Around}{C:Addr}{us:List Value}{kw:List (Str×Value)} : (A.under (.builtin "type.__call__" ⟨.ref C::us,kw⟩)).depth=A.depth+1:=by
 first | rfl | simp [Around.under,Code.weight,Code.isCreation,Code.isGuard,Code.isCaller,Code.frames,Code.isFrame,guardIds]
theorem ah0{A:Around}{C:Addr}{us:List Value}{kw:List (Str×Value)} : (A.under (.builtin "type.__call__" ⟨.ref C::us,kw⟩)).units=A.units+1:=by
 first | rfl | simp [Around.under,Code.cUnits,Code.frames,Code.isFrame]
theorem Room.make{k:Nat}{A:Around}(r:Room (k+1) A)(C:Addr)(us:List Value)(kw:List (Str×Value)):Room k (A.under (.builtin "type.__call__" ⟨.ref C::us,kw⟩)):=
 ⟨r.hd,by have:=r.dp;rw [ahZ];lia,by have:=r.un;rw [ah0];lia,r.gd⟩
theorem Room.depth{k:Nat}{A:Around}(r:Room k A):A.depth<recursionLimit:=by have:=r.dp;lia
theorem Room.units{k:Nat}{A:Around}(r:Room k A):A.units+64<cLine:=by have:=r.un;lia
noncomputable def tNil:TA:=fun _ H Q=>Q [] H
noncomputable def tCons (ta:TE) (tr:TA):TA:=fun Y H Q=>ta Y H fun x H1=>tr Y H1 fun xs H2=>Q (x::xs) H2
section
variable {X:Cx} {e:Expr} {es:List Expr} {te:TE} {t:TA} {pos:Pos}
theorem anZ:PA X [] tNil:=fun _ _ _ _ H Q I h=>Calls.spliced_nil ⟨[],H,I,.nil,h⟩
theorem aml(ha:PE X e te)(hr:PA X es t)(hs:starEach (e::es) X.env=(false,eval e X.env)::starEach es X.env:=by rfl):PA X (e::es) (tCons te t):=by
 intro pos pins s Y H Q I h;rw [hs];show wpAny _ _ (spliced ((false,eval e X.env)::backTo pos (starEach es X.env))) _ _ s;refine Calls.spliced_cons (C4 (ha pins s Y H _ I h) fun u s1 ⟨x,H1,I1,r1,q1⟩=>?_);exact C4 (hr pos pins s1 Y H1 _ I1 q1) fun us s2 ⟨xs,H2,I2,r2,q2⟩=>⟨x::xs,H2,I2,.cons r1 r2,q2⟩
noncomputable def tTup (t:TA):TE:=fun Y H Q=>t Y H fun xs H1=>xs.length<=sizeLine/\∀ p,H1 p=none->Q (.ref p) (A4 H1 p (.tup xs))
noncomputable def tLst (t:TA):TE:=fun Y H Q=>t Y H fun xs H1=>xs.length<=sizeLine/\∀ p,H1 p=none->Q (.ref p) (A4 H1 p (.lst xs))
theorem an0{x1}(h:PA X es t):PE X (.Tuple es x1 pos) (tTup t):=by
 intro pins s Y H Q I hq;refine wpAny_Tuple_spliced (C4 (h pos pins s Y H _ I hq) fun us s1 ⟨xs,H1,I1,r,z,q⟩=>⟨by rw [<- r.length];exact z,?_⟩);have hf:H1 s1.heap.objs.size=none:=I1.hok.fresh (C5 _);refine ⟨.ref s1.heap.objs.size,A4 H1 s1.heap.objs.size (.tup xs),I1.laid (t':=s1.toks) (fun b u e=>Heap.get?_push_of_some _ e) (C5 _) ?_,rfl,q _ hf⟩;exact ⟨z,us,r,⟨_,Heap.get?_push_size _ rfl,rfl,_,rfl⟩⟩
theorem an1(h:PA X es t):PE X (.List es pos) (tLst t):=by
 intro pins s Y H Q I hq;refine wpAny_List_spliced (C4 (h pos pins s Y H _ I hq) fun us s1 ⟨xs,H1,I1,r,z,q⟩=>⟨by rw [<- r.length];exact z,?_⟩);have hf:H1 s1.heap.objs.size=none:=I1.hok.fresh (C5 _);refine ⟨.ref s1.heap.objs.size,A4 H1 s1.heap.objs.size (.lst xs),I1.laid (t':=s1.toks) (fun b u e=>Heap.get?_push_of_some _ e) (C5 _) ?_,rfl,q _ hf⟩;exact ⟨z,us,0,r,Heap.get?_push_size _ rfl⟩
end
noncomputable abbrev Sp:=List V->Hp->VK->XK->Prop
noncomputable abbrev Z7:=List Env->Hp->Shared->XK->Value->Shared->Prop
structure Env0(P:Program)(w:World)(K:PySem.W.Frag)(mg:Str->Option Value)(base:Heap)(A:Around)(outer:List Env)(s:Shared)(H:Hp):Prop where
 frames:A.frames=some outer
 mod:Mod K mg base
 bs:∀ b o,base.get? b=some o->s.heap.get? b=some o/\H b=none
 bsz:base.objs.size<=s.heap.objs.size
 funs:s.heap.FunFrames base outer
 frf:∀ b∈k0 outer,H b=none
 hok:M3 P w H s.heap
 bare:AllBare s.gens
noncomputable def CE (outer:List Env) (P:Program) (w:World) (H:Hp) (s:Shared) (Q:VK) (u:Value) (s':Shared):Prop:=
 ∃ v H',s'.os=s.os/\AllBare s'.gens/\Un (k0 outer) [] H H' s.heap s'.heap/\M3 P w H' s'.heap/\RelV v u/\Q v H'
noncomputable def CR (CX:Z7) (outer:List Env) (P:Program) (w:World) (H:Hp) (s:Shared) (Q:VK) (E:XK) (r:Result) (s':Shared):Prop:=
 match r with
 | .ok (.ret u)=>CE outer P w H s Q u s'
 | .ok _=>False
 | .error e=>CX outer H s E e s'
structure FnOk(P:Program)(w:World)(K:PySem.W.Frag)(mg:Str->Option Value)(base:Heap)(CX:Z7)(k:Nat)(f:Addr)(fd:FuncData)(ps:List Str)(sp:Sp):Prop where
 len:∀ vs H Q E,sp vs H Q E->vs.length=ps.length
 run:∀ (A:Around) (outer:List Env) (s:Shared) (H:Hp) (args:Args) (us:List Value) (vs:List V) (Q:VK) (E:XK),Room k A->Env0 P w K mg base A outer s H->BindsTo s fd args (ps.zip us)->Vals vs us->sp vs H Q E->
  codeAny (model P w) A (.call (.ref f) args) (CR CX outer P w H s Q E) s
theorem Env0.make{P:Program}{w:World}{K:PySem.W.Frag}{mg:Str->Option Value}{base:Heap}{A:Around}{outer:List Env}{s:Shared}{H:Hp}(e:Env0 P w K mg base A outer s H)(C:Addr)(us:List Value)(kw:List (Str×Value)) :
  Env0 P w K mg base (A.under (.builtin "type.__call__" ⟨.ref C::us,kw⟩)) outer s H:=⟨by first | exact e.frames | (simpa [Around.under,Code.envs,Code.isFrame,pushEnvs] using e.frames),e.mod,e.bs,e.bsz,e.funs,e.frf,e.hok,e.bare⟩
section
variable {X:Cx} {pins:List (Addr×Obj)} {Y:St} {H:Hp} {s s':Shared}
theorem Inv.env0(I:Inv X pins Y H s):Env0 X.prog X.w X.K X.mg X.base X.A X.stack s H:=
 ⟨I.ok.frames,I.ok.mod,I.bs,K6 I.ok.bsz I.sz,I.stack,I.stkFree,I.hok,I.bare⟩
theorem Inv.after{Q:VK}{u:Value}(I:Inv X pins Y H s)(h:CE X.stack X.prog X.w H s Q u s'):EP X pins Y Q u s':=by
 obtain ⟨v,H',os,bare,un,hok,r,q⟩:=h;obtain ⟨hh,g,d,t,os'⟩:=s';obtain rfl:os'=s.os:=os;exact ⟨v,H',I.call (h':=hh) (g':=g) (d':=d) (t':=t) (ch:=[]) un hok bare (fun b z=>absurd z (by simp)),r,q⟩
end
noncomputable def tCall (sp:Sp) (dvs:List V) (E:XK) (t:TA):TE:=fun Y H Q=>t Y H fun vs H1=>sp (vs++dvs) H1 Q E
noncomputable def tMeth (C:Addr) (m:Str) (sp:Sp) (dvs:List V) (E:XK) (ta:TE) (t:TA):TE:=fun Y H Q=>ta Y H fun x H1=>∃ a dx fs,x=.ref a/\H1 a=some (.ins C dx fs)/\fs.lookup m=none/\
 t Y H1 fun vs H2=>sp (x::(vs++dvs)) H2 Q E
noncomputable def tMake (C:Addr) (sp:Sp) (dvs:List V) (E:XK) (t:TA):TE:=fun Y H Q=>t Y H fun vs H1=>∀ x dx,H1 x=none->H1 dx=none->dx≠x->
 sp (.ref x::(vs++dvs)) (A4 (A4 H1 dx (.own x)) x (.ins C dx [])) (fun v H2=>v=.non/\Q (.ref x) H2) E
noncomputable def Binds (K:PySem.W.Frag) (fd:FuncData) (ps:List Str) (ds:List Value):Prop:=
 ∀ (s:Shared) (us:List Value),K.In s.heap->(us++ds).length=ps.length->BindsTo s fd ⟨us,[]⟩ (ps.zip (us++ds))
theorem Binds.all{K:PySem.W.Frag}{fd:FuncData}{ps:List Str}(h:∀ us:List Value,us.length=ps.length->bindArgs fd ⟨us,[]⟩=pure (ps.zip us)):Binds K fd ps []:=fun s us _ hl=>by
 rw [L7] at hl ⊢
 exact .of_eq (h us hl)
noncomputable def eA (CX:Z7) (X:Cx) (E:XK):Prop:=∀ (pins:List (Addr×Obj)) (Y:St) (H:Hp) (s:Shared) (e:Value) (s':Shared),Inv X pins Y H s->CX X.stack H s E e s'->X.xe e s'
section
variable {X:Cx} {CX:Z7} {k:Nat} {f C:Addr} {fd:FuncData} {ps:List Str} {sp:Sp} {dvs:List V} {ds:List Value} {E:XK} {x m:Str} {p pos apos:Pos} {e o:Expr} {es:List Expr} {ta:TE} {t:TA}
theorem rT{pins:List (Addr×Obj)}{Y:St}{H:Hp}{s:Shared}{Q:VK}{us:List Value}{vs:List V}(F:FnOk X.prog X.w X.K X.mg X.base CX k f fd ps sp)(hr:Room k X.A)(hb:Binds X.K fd ps ds)(hd:Vals dvs ds)(hx:eA CX X E)(I:Inv X pins Y H s)(r:Vals vs us)(h:sp (vs++dvs) H Q E):wpAny (model X.prog X.w) X.A (call (.ref f) us) (EP X pins Y Q) X.xe s:=by
 have r2:Vals (vs++dvs) (us++ds):=r.append hd;have hl:(us++ds).length=ps.length:=by rw [<- r2.length];exact F.len _ _ _ _ h
 refine wpAny_call (codeAny_mono (F.run X.A X.stack s H ⟨us,[]⟩ (us++ds) (vs++dvs) Q E hr I.env0 (hb s us I.kIn hl) r2 h) fun r s' hq=>?_)
 cases r with
 | error e=>exact hx pins Y H s e s' I hq
 | ok fl=>
  cases fl with
  | ret u=>exact I.after hq
  | next=>exact False.elim hq
  | brk=>exact False.elim hq
  | cont=>exact False.elim hq
theorem amm(F:FnOk X.prog X.w X.K X.mg X.base CX k f fd ps sp)(hr:Room k X.A)(hg:Gl X x)(hm:X.mg x=some (.ref f))(hk:V8 X.K (.ref f)=true)(hb:Binds X.K fd ps ds)(hd:Vals dvs ds)(hx:eA CX X E)(ha:PA X (e::es) t)(Q8:(x==("__debug__" : Str))=false:=by decide)(he:starEach (e::es) X.env=(false,eval e X.env)::starEach es X.env:=by rfl)(R8:(backTo pos (starEach es X.env)).any (·.1)=false:=by rfl) :
  PE X (.Call (.Name x p) (e::es) [] pos) (tCall sp dvs E t):=by
 intro pins s Y H Q I h;refine wpAny_Call_Name_kw (rF I hg hm ?_ Q8);refine PySem.W.callWith_K (h₀:=X.base) I.ok.mod.kin hk (C4 (ha pos pins s Y H _ I h) fun us s1 ⟨vs,H1,I1,r,q⟩=>⟨I1.kIn,?_⟩) he R8;exact rT F hr hb hd hx I1 r q
theorem amn{pl:Sem Bool}(he:PE X o ta)(c:Cls X.K C)(hm:Meth X.K C m f)(F:FnOk X.prog X.w X.K X.mg X.base CX k f fd ps sp)(hr:Room k X.A)(hb:Binds X.K fd ps ds)(hd:Vals dvs ds)(hx:eA CX X E)(ha:PA X (e::es) t)(T8:starEach (e::es) X.env=(false,eval e X.env)::starEach es X.env:=by rfl)(R8:(backTo pos (starEach es X.env)).any (·.1)=false:=by rfl)(ht:eval (.Call (.Attribute o m apos) (e::es) [] pos) X.env=(do
   let ov <- eval o X.env
   standAt apos.atName
   let (f,first) <- holding [ov] (getMethod ov m pl)
   callWith pos f first (backTo pos (starEach (e::es) X.env)) (backToKw pos (keywordEach [] X.env))):=by rfl) :
  PE X (.Call (.Attribute o m apos) (e::es) [] pos) (tMeth C m sp dvs E ta t):=by
 intro pins s Y H Q I h;refine PySem.W.methodCall_KW (pl:=pl) (C4 (he pins s Y H _ I h) fun u s1 ⟨x,H1,I1,rx,a,dx,fs,ex,ea,l,q⟩=>?_) ht;subst ex;obtain rfl:u=Value.ref a:=rx;refine yY I1 ea c hm l ?_;refine PySem.W.callWith_K (first:=[.ref a]) (h₀:=X.base) I.ok.mod.kin hm.kp (C4 (ha pos pins s1 Y H1 _ I1 q) fun us s2 ⟨vs,H2,I2,r,q2⟩=>⟨I2.kIn,?_⟩) T8 R8;exact rT (us:=.ref a::us) (vs:=.ref a::vs) F hr hb hd hx I2 (.cons rfl r) q2
theorem akw{pl:Sem Bool}(he:PE X o ta)(c:Cls X.K C)(hm:Meth X.K C m f)(F:FnOk X.prog X.w X.K X.mg X.base CX k f fd ps sp)(hr:Room k X.A)(hb:Binds X.K fd ps ds)(hd:Vals dvs ds)(hx:eA CX X E)(ht:eval (.Call (.Attribute o m apos) [] [] pos) X.env=(do
   let ov <- eval o X.env
   standAt apos.atName
   let (f,first) <- holding [ov] (getMethod ov m pl)
   callWith pos f first (backTo pos (starEach [] X.env)) (backToKw pos (keywordEach [] X.env))):=by rfl) :
  PE X (.Call (.Attribute o m apos) [] [] pos) (tMeth C m sp dvs E ta tNil):=by
 intro pins s Y H Q I h;refine PySem.W.methodCall_KW (pl:=pl) (C4 (he pins s Y H _ I h) fun u s1 ⟨x,H1,I1,rx,a,dx,fs,ex,ea,l,q⟩=>?_) ht;subst ex;obtain rfl:u=Value.ref a:=rx;refine yY I1 ea c hm l ?_;exact PySem.W.callWith_K0 (first:=[.ref a]) I1.kIn hm.kp (rT (us:=[.ref a]) (vs:=[.ref a]) F hr hb hd hx I1 (.cons rfl .nil) q)
structure Mk(K:PySem.W.Frag)(C f:Addr):Prop where
 makes:PySem.W.makesIn K C=true
 init:O8 K (.ref C) "__init__"=some (some (.ref f))
 fn:aD K (.ref f)=true
 kp:V8 K (.ref C)=true
theorem akx{pins:List (Addr×Obj)}{Y:St}{H:Hp}{s:Shared}{Q:VK}{us:List Value}{vs:List V}(M:Mk X.K C f)(F:FnOk X.prog X.w X.K X.mg X.base CX k f fd ps sp)(hr:Room (k+1) X.A)(hb:Binds X.K fd ps ds)(hd:Vals dvs ds)(hx:eA CX X E)(I:Inv X pins Y H s)(r:Vals vs us)(h:∀ x dx,H x=none->H dx=none->dx≠x->sp (.ref x::(vs++dvs)) (A4 (A4 H dx (.own x)) x (.ins C dx [])) (fun v H2=>v=.non/\Q (.ref x) H2) E) :
  wpAny (model X.prog X.w) X.A (call (.ref C) us) (EP X pins Y Q) X.xe s:=by
 have hq:=h (s.heap.objs.size+1) s.heap.objs.size (I.hok.fresh (Nat.le_succ _)) (I.hok.fresh (C5 _)) (N1 (Nat.lt_succ_self _));have I2:=Inv.made (C:=C) I;have r2:Vals (V.ref (s.heap.objs.size+1)::(vs++dvs)) (Value.ref (s.heap.objs.size+1)::(us++ds)):=.cons rfl (r.append hd);have hl:(Value.ref (s.heap.objs.size+1)::us++ds).length=ps.length:=by
  have e:=r2.length;rw [F.len _ _ _ _ hq] at e;exact e.symm
 refine wpAny_call (akv (f:=f) I.kIn M.makes M.init (beq_iff_eq.mp M.fn) (codeAny_mono (F.run _ X.stack _ _ ⟨Value.ref (s.heap.objs.size+1)::us,[]⟩ (Value.ref (s.heap.objs.size+1)::(us++ds)) _ _ E (hr.make C us [])
  (I2.env0.make C us []) (hb _ (Value.ref (s.heap.objs.size+1)::us) I2.kIn hl) r2 hq) fun r s' fB=>?_))
 cases r with
 | error e=>exact hx pins Y _ _ e s' I2 fB
 | ok fl=>
  cases fl with
  | ret u=>
   obtain ⟨v,H',I3,rv,ev,q3⟩:=I2.after fB;subst ev;exact ⟨rv,⟨V.ref (s.heap.objs.size+1),H',I3,rfl,q3⟩⟩
  | next=>exact False.elim fB
  | brk=>exact False.elim fB
  | cont=>exact False.elim fB
theorem amo(M:Mk X.K C f)(F:FnOk X.prog X.w X.K X.mg X.base CX k f fd ps sp)(hr:Room (k+1) X.A)(hg:Gl X x)(hm:X.mg x=some (.ref C))(hb:Binds X.K fd ps ds)(hd:Vals dvs ds)(hx:eA CX X E)(ha:PA X (e::es) t)(Q8:(x==("__debug__" : Str))=false:=by decide)(he:starEach (e::es) X.env=(false,eval e X.env)::starEach es X.env:=by rfl)(R8:(backTo pos (starEach es X.env)).any (·.1)=false:=by rfl) :
  PE X (.Call (.Name x p) (e::es) [] pos) (tMake C sp dvs E t):=by
 intro pins s Y H Q I h;refine wpAny_Call_Name_kw (rF I hg hm ?_ Q8);refine PySem.W.callWith_K (h₀:=X.base) I.ok.mod.kin M.kp (C4 (ha pos pins s Y H _ I h) fun us s1 ⟨vs,H1,I1,r,q⟩=>⟨I1.kIn,?_⟩) he R8;exact akx M F hr hb hd hx I1 r q
end
noncomputable def PK (X:Cx) (kws:List Keyword) (t:TA):Prop:=
 ∀ (pos:Pos) (pins:List (Addr×Obj)) (s:Shared) (Y:St) (H:Hp) (Q:List V->Hp->Prop),Inv X pins Y H s->t Y H Q->wpAny (model X.prog X.w) X.A (evalAll ((backToKw pos (keywordEach kws X.env)).map (·.2))) (AP X pins Y Q) X.xe s
section
variable {X:Cx} {CX:Z7} {k:Nat} {f C:Addr} {fd:FuncData} {ps ks:List Str} {sp:Sp} {E:XK} {x m:Str} {p pos apos kpos:Pos} {e o:Expr} {es:List Expr} {kws:List Keyword} {te ta:TE} {t tk:TA} {nm:Option Str}
theorem an2:PK X [] tNil:=fun _ _ _ _ H Q I h=>wpAny_evalAll_nil ⟨[],H,I,.nil,h⟩
theorem amp(ha:PE X e te)(hr:PK X kws t):PK X (⟨nm,e,kpos⟩::kws) (tCons te t):=by
 intro pos pins s Y H Q I h;show wpAny _ _ (evalAll ((do let v <- eval e X.env;standAt pos;pure v)::(backToKw pos (keywordEach kws X.env)).map (·.2))) _ _ s;refine wpAny_evalAll_cons (wpAny_bind (C4 (ha pins s Y H _ I h) fun u s1 ⟨x,H1,I1,r1,q1⟩=>wpAny_bind (wpAny_standAt (wpAny_pure ?_))));exact C4 (hr pos pins s1 Y H1 _ I1 q1) fun us s2 ⟨xs,H2,I2,r2,q2⟩=>⟨x::xs,H2,I2,.cons r1 r2,q2⟩
variable {g:List Value->List Value->List Value} {gV:List V->List V->List V}
end
structure FnScope(N P:List Str)(sc:Scope):Prop where
 kind:sc.kind=.function
 co:sc.isCoroutine=false
 gen:sc.isGenerator=false
 nd:N.Nodup
 pre:N.take P.length=P
 par:∀ x∈P,sc.names.lookup x=some .local\/sc.names.lookup x=some .cell
 nofree:∀ y∈sc.names,y.2≠.free
theorem yZ{kindOf:Str->Option NameKind}{x:Str} : ∀ {binds:List (Str×Value)} {m:Str->Option Value},(∀ v,(x,v)∉binds)->bindL kindOf binds m x=m x
 | [],_,_=>rfl
 | (n,v)::r,m,h=>by
  unfold bindL;rw [yZ fun w hw=>h w (I0 _ hw)]
  split
  .have:x≠n:=by rintro rfl;exact h v J7
   simp [this]
  .rfl
theorem zA{kindOf:Str->Option NameKind}{x:Str} : ∀ {binds:List (Str×Value)} {m:Str->Option Value},(∀ v,(x,v)∉binds)->bindC kindOf binds m x=m x
 | [],_,_=>rfl
 | (n,v)::r,m,h=>by
  unfold bindC;rw [zA fun w hw=>h w (I0 _ hw)]
  split
  .rfl
  .have:x≠n:=by rintro rfl;exact h v J7
   simp [this]
theorem zB{kindOf:Str->Option NameKind}{x:Str}{v:Value} : ∀ {P:List Str} {vs:List Value} {i:Nat} {m:Str->Option Value},P.Nodup->P[i]?=some x->vs[i]?=some v->kindOf x=some .local->
  bindL kindOf (P.zip vs) m x=some v
 | [],_,_,_,_,h,_,_=>by simp at h
 | _::_,[],_,_,_,_,h,_=>by simp at h
 | p::P,w::vs,0,m,nd,h1,h2,hk=>by
  simp at h1 h2;subst h1;subst h2;show bindL kindOf ((p,w)::P.zip vs) m p=_;unfold bindL;rw [yZ fun v hv=>(Q4.mp nd).1 (List.of_mem_zip hv).1,if_pos hk]
  simp
 | p::P,w::vs,i+1,m,nd,h1,h2,hk=>by
  show bindL kindOf ((p,w)::P.zip vs) m x=_;unfold bindL;exact zB (i:=i) (Q4.mp nd).2 (by simpa using h1) (by simpa using h2) hk
theorem zC{kindOf:Str->Option NameKind}{x:Str}{v:Value} : ∀ {P:List Str} {vs:List Value} {i:Nat} {m:Str->Option Value},P.Nodup->P[i]?=some x->vs[i]?=some v->kindOf x≠some .local->
  bindC kindOf (P.zip vs) m x=some v
 | [],_,_,_,_,h,_,_=>by simp at h
 | _::_,[],_,_,_,_,h,_=>by simp at h
 | p::P,w::vs,0,m,nd,h1,h2,hk=>by
  simp at h1 h2;subst h1;subst h2;show bindC kindOf ((p,w)::P.zip vs) m p=_;unfold bindC;rw [zA fun v hv=>(Q4.mp nd).1 (List.of_mem_zip hv).1,if_neg hk]
  simp
 | p::P,w::vs,i+1,m,nd,h1,h2,hk=>by
  show bindC kindOf ((p,w)::P.zip vs) m x=_;unfold bindC;exact zC (i:=i) (Q4.mp nd).2 (by simpa using h1) (by simpa using h2) hk
noncomputable def start (N:List Str) (vs:List V):St:=vs.map some++V5 (N.length-vs.length) none
noncomputable def cxOf (CX:Z7) (P:Program) (w:World) (K:PySem.W.Frag) (mg:Str->Option Value) (base:Heap) (N:List Str) (qual:Str) (scope:Scope) (f:Addr) (cd:Value) (A:Around) (outer:List Env) (s:Shared) (H:Hp) (E:XK):Cx where
 prog:=P
 w:=w
 K:=K
 mg:=mg
 base:=base
 A:=A.deeper (envOfC qual scope s.heap.objs.size f cd)
 N:=N
 s₀:=s
 H₀:=H
 env:=envOfC qual scope s.heap.objs.size f cd
 outer:=outer
 stack:=envOfC qual scope s.heap.objs.size f cd::outer
 ex:=[]
 calm:=true
 fn:=fun _=>true
 pn:=[]
 xe:=fun e s'=>wpAny (model P w) (A.deeper (envOfC qual scope s.heap.objs.size f cd)) (leaving (envOfC qual scope s.heap.objs.size f cd) e) (fun _ s''=>CX outer H s E e s'') (fun e' s''=>CX outer H s E e' s'') s'
theorem zD{sc:Scope}{n:Nat}{x:Str}(h:sc.names.lookup x=some .cell):∃ c,(cellsFrom n sc.names []).lookup x=some c:=by
 have q:=PySem.W.cellsFrom_some sc.names n [] (.inl h);exact Option.isSome_iff_exists.mp q
theorem aiX{CX:Z7}{P:Program}{w:World}{K:PySem.W.Frag}{mg:Str->Option Value}{base:Heap}{N ps:List Str}{qual:Str}{scope:Scope}{f:Addr}{cd:Value}{A:Around}{outer:List Env}{s s1:Shared}{H:Hp}{E:XK}{us:List Value}{vs:List V}(S:FnScope N ps scope)(hd:A.handled=none)(e0:Env0 P w K mg base A outer s H)(hl:vs.length=ps.length)(r:Vals vs us)(x:InCallC s s.heap.objs.size (bindL (envOfC qual scope s.heap.objs.size f cd).kindOf (ps.zip us) fun _=>none) (cellsFrom (s.heap.objs.size+1) scope.names []) (bindC (envOfC qual scope s.heap.objs.size f cd).kindOf (ps.zip us) fun _=>none) s1) :
  Inv (cxOf CX P w K mg base N qual scope f cd A outer s H E) [] (start N vs) H s1:=by
 have R8:ps.length<=N.length:=by have:=congrArg X9 S.pre;rw [K5] at this;lia
 obtain ⟨h1,tk,rfl,hk⟩:=x.done;have noA:∀ b:Addr,b∉(cxOf CX P w K mg base N qual scope f cd A outer s H E).ex:=fun b z=>absurd (show b∈([]:List Addr) from z) (by simp)
 refine ⟨⟨e0.mod,S.kind,rfl,rfl,C5 _,fun y z c h1 h2=>?_,fun y hy=>?_,fun y c _ h=>?_,fun _=>hd,Around.frames_deeper e0.frames,.inr ⟨rfl,rfl⟩,fun b z=>absurd z (noA b),e0.bs,e0.bsz,fun b _ _=>noA b,fun b z=>absurd z (noA b),e0.funs,e0.frf⟩,
  rfl,e0.bare,Un.kept hk,⟨_,x.toInCall.ns,fun i y v h1 h2 h3=>?_⟩,fun y c h=>⟨_,x.cell y c h⟩,e0.hok.fresh (C5 _),fun y c h=>?_,fun p hp=>absurd (show p∈([]:List (Addr×Obj)) from hp) (by simp),e0.hok.kept hk,?_⟩
 .exact name_of_addr x.apart (PySem.mem_of_lookup h1) (PySem.mem_of_lookup h2)
 .have hy:scope.names.lookup y=some .cell\/scope.names.lookup y=some .free:=hy
  rcases hy with hy | hy
  .exact zD hy
  .exact absurd rfl (S.nofree _ (PySem.mem_of_lookup hy))
 .exact Nat.le_of_lt (x.above y c (PySem.mem_of_lookup h))
 .have hi:i<vs.length:=by
   unfold start at h2
   by_cases hi:i<vs.length
   .exact hi
   .rw [dM (by simpa using hi)] at h2;rw [List.getElem?_replicate] at h2
    split at h2 <;> cases h2
  have ha:vs[i]?=some v:=by
   unfold start at h2;rw [bM (by simpa using hi),V2] at h2;cases e:vs[i]? with
   | none=>rw [e] at h2;cases h2
   | some a=>rw [e] at h2;cases h2;rfl
  obtain ⟨u,hu,rv⟩:=r.get ha;have hp:ps[i]?=some y:=by
   rw [<- S.pre,List.getElem?_take_of_lt (by lia)];exact h1
  have ndP:ps.Nodup:=by rw [<- S.pre];exact S.nd.sublist (List.take_sublist _ _)
  refine ⟨u,rv,?_⟩
  rcases S.par y (L3 hp) with k | k
  .exact .inl ⟨k,zB ndP hp hu k⟩
  .obtain ⟨c,e⟩:=zD (n:=s.heap.objs.size+1) k;refine .inr ⟨.inl k,c,e,?_⟩;have q:=x.cell y c e;rw [zC ndP hp hu (by show scope.names.lookup y≠_;rw [k];decide)] at q;exact q
 .exact e0.hok.fresh (Nat.le_of_lt (x.above y c (PySem.mem_of_lookup h)))
 .unfold start;show _=N.length;rw [D1,A7,List.length_replicate];lia
theorem fn_of{CX:Z7}{P:Program}{w:World}{K:PySem.W.Frag}{mg:Str->Option Value}{base:Heap}{k:Nat}{f:Addr}{name qual:Str}{params:Arguments}{body:List Stmt}{scope:Scope}{dV kV doc pm cdv ct oc:Value}{an od:Option Addr}{osl:Array (Option Value)}{N ps:List Str}{sp:Sp}(lk:K.lookup f=some ⟨oc,od,.func (T6 name qual params body scope dV kV doc pm an cdv ct),osl⟩)(i9:Y0 K cdv qual=true)(S:FnScope N ps scope)(len:∀ vs H Q E,sp vs H Q E->vs.length=ps.length)(m9:∀ (A:Around) (outer:List Env) (s:Shared) (H:Hp) (vs:List V) (Q:VK) (E:XK),Room k (A.deeper (envOfC qual scope s.heap.objs.size f cdv))->sp vs H Q E->
   ∃ t,X0 (cxOf CX P w K mg base N qual scope f cdv A outer s H E) body t/\t { nx:=fun _ H'=>Q .non H',rt:=Q } (start N vs) H) :
  FnOk P w K mg base CX (k+1) f (T6 name qual params body scope dV kV doc pm an cdv ct) ps sp:=by
 refine ⟨len,fun A outer s H args us vs Q E hr e0 hb r cT=>?_⟩;have hl:=len _ _ _ _ cT;have KX:K.In s.heap:=e0.mod.kin.keeps fun b o e=>(e0.bs b o e).1
 have lim:s.heap.NoLimit:=e0.mod.nolimit.keeps fun b o e=>(e0.bs b o e).1
 have lL:∀ y∈ps.zip us,scope.names.lookup y.1=some .local\/(scope.names.lookup y.1=some .cell/\((cellsFrom (s.heap.objs.size+1) scope.names []).lookup y.1).isSome=true):=fun ⟨n,v⟩ hy=>by
  rcases S.par n (List.of_mem_zip hy).1 with q | q
  .exact .inl q
  .exact .inr ⟨q,PySem.W.cellsFrom_some _ _ _ (.inl q)⟩
 refine codeAny_call_function hr.depth (KX _ _ lk) rfl S.co S.gen rfl (PySem.W.codeRec_of KX i9) (hb _ _ _ _ ?_);refine wpAny_newFunctionEnv_cells S.kind lL fun env he s1 x=>?_
 subst he;refine ⟨lim.keeps x.toInCall.keep,codeAny_func ?_⟩;obtain ⟨t,ht,hq⟩:=m9 A outer s H vs Q E (hr.deeper _) cT;have I:Inv (cxOf CX P w K mg base N qual scope f cdv A outer s H E) [] (start N vs) H s1:=aiX S hr.hd e0 hl r x;refine wpAny_mono (ht [] s1 (start N vs) H _ I hq) (fun fl s' hs=>?_) fun e s' hs=>hs
 have fin:∀ {σ':St} {H':Hp} {v:V} {u:Value},Inv (cxOf CX P w K mg base N qual scope f cdv A outer s H E) [] σ' H' s'->RelV v u->Q v H'->CE outer P w H s Q u s':=
  fun {σ' H' v u} J rv q=>⟨v,H',J.os,J.bare,J.base,J.hok,rv,q⟩
 cases fl with
 | ret u=>
  obtain ⟨v,σ',H',J,rv,q⟩:=hs;exact fin J rv q
 | next=>
  obtain ⟨σ',H',J,q⟩:=hs;exact fin (v:=V.non) (u:=Value.none) J rfl q
 | brk=>
  obtain ⟨_,_,_,q⟩:=hs;exact False.elim q
 | cont=>
  obtain ⟨_,_,_,q⟩:=hs;exact False.elim q
end L2
section
variable {C a b f fa it p r sl:PySem.Addr}{dvs vs xs:List L2.V}{Q:L2.VK}{cd ct oc pm u v vl vu:PySem.Value}{ck i j k m n t' x1:Nat}{items:Array PySem.Value}{fr ns:List Int}{its us:List PySem.Value}{A:PySem.Around}{s zw:PySem.Shared}{x y:L2.V}{pins:List (PySem.Addr×PySem.Obj)}{Y:L2.St}{H H' H0 H1 H2 H3 zt:L2.Hp}{h h':PySem.Heap}{f2 f3 f4 m0 m1 name ov q qual z:PySem.Str}{L M N N' S acc bad g g' ks line loose ps row ts ys zs:List PySem.Str}{K:PySem.W.Frag}{mg:PySem.Str->Option PySem.Value}{fd:PySem.FuncData}{sp:L2.Sp}{X:L2.Cx}{kvs:List (L2.C3×L2.V)}{prog:PySem.Program}{E:PySem.Value->PySem.Shared->Prop}{ixs pre:List Nat}{e elt iter target tg:PySem.Expr}{elts ifs:List PySem.Expr}{c:L2.TT}{td te tl tx ty:L2.TE}{fp rs:List PySem.Addr}{apos cpos kpos spos tpos:PySem.Pos}{calm fg neg:Bool}{st:PySem.Stmt}{an od:Option PySem.Addr}{tb:L2.TS}{D:L2.Ends}{lo sh:Int}{o:PySem.Obj}{ta:L2.TA}{ss:Array (Option PySem.Value)}
namespace L2
open PySem PySem.Spec PyProof.Rows
section
variable {X:Cx} {x:Str} {p pos:Pos} {e:Expr} {es:List Expr} {t:TA} {id T:String} {r:List V->Hp->VK->Prop}
noncomputable def eB (r:List V->Hp->VK->Prop) (t:TA):TE:=fun Y H Q=>t Y H fun vs H1=>r vs H1 Q
theorem aky(hc:CallR X (.builtin id) r)(hg:Gl X x)(hm:X.mg x=none)(hv:bootBuiltins x=some (.builtin id))(ha:PA X (e::es) t)(hn:x≠"__name__":=by decide)(Q8:(x==("__debug__" : Str))=false:=by decide)(he:starEach (e::es) X.env=(false,eval e X.env)::starEach es X.env:=by rfl)(R8:(backTo pos (starEach es X.env)).any (·.1)=false:=by rfl):PE X (.Call (.Name x p) (e::es) [] pos) (eB r t):=by
 intro pins s Y H Q I h;refine wpAny_Call_Name_kw (bY I hg hm hv ?_ hn Q8);exact PyProof.Rows.callWith_builtin1 (C4 (ha pos pins s Y H _ I h) fun us s1 ⟨vs,H1,I1,r1,q1⟩=>hc pins s1 Y H1 vs us Q I1 r1 q1) he R8
theorem aiY(hc:CallR X (.type T) r)(hg:Gl X x)(hm:X.mg x=none)(hv:bootBuiltins x=some (.type T))(ha:PA X (e::es) t)(hn:x≠"__name__":=by decide)(Q8:(x==("__debug__" : Str))=false:=by decide)(he:starEach (e::es) X.env=(false,eval e X.env)::starEach es X.env:=by rfl)(R8:(backTo pos (starEach es X.env)).any (·.1)=false:=by rfl):PE X (.Call (.Name x p) (e::es) [] pos) (eB r t):=by
 intro pins s Y H Q I h;refine wpAny_Call_Name_kw (bY I hg hm hv ?_ hn Q8);exact PyProof.Rows.callWith_type1 (C4 (ha pos pins s Y H _ I h) fun us s1 ⟨vs,H1,I1,r1,q1⟩=>hc pins s1 Y H1 vs us Q I1 r1 q1) he R8
end
end L2
namespace HT
open PySem PyProof.Rows
section
open PySem.SeqAt
open PySem.AutoSeq1 (wpAny_loadPart')
open PySem.MeetsSeq PySem.MeetsSeq2 PySem.MeetsSeq3
end
section
variable {prog:Program} {w:World} {A:Around} {E:Value->Shared->Prop} {s:Shared}
theorem cat_tup{t:Addr}{vs ws:List Value}{Q:Value->Shared->Prop}(ht:IsTup s.heap t vs.toArray)(hb:IsTup s.heap b ws.toArray)(hv:vs≠[])(h1:ws=[]->Q (.ref t) s)(h2:ws≠[]->Q (.ref s.heap.objs.size) { s with heap:=s.heap.push { cls:=.type "tuple",data:=.seq (vs++ws).toArray } })(hsz:vs.length+ws.length<=sizeLine):wpAny (model prog w) A (binaryOp .Add (.ref t) (.ref b)) Q E s:=by
 obtain ⟨⟨cls,dd,data,sl⟩,ho,hc,n,hd⟩:=id ht;obtain ⟨⟨cls2,dd2,data2,rV⟩,x4,x5,n2,W4⟩:=id hb;simp only at hc hd x5 W4;subst hc hd x5 W4;have e:vs.toArray++ws.toArray=(vs++ws).toArray:=by simp
 by_cases hw:ws=[]
 .exact concat_meets ⟨_,ho,rfl⟩ ⟨_,x4,rfl⟩ noFill_tuple_add seq_tuple_add PySem.F.slot_tuple_add PySem.F.entry_tuple_add (PySem.F.args_tuple_add_2 _ _)
   (tuple_addW1 t b vs.toArray ws.toArray n n2 dd dd2 sl rV (by simpa using hv) (by simp [hw])) ⟨ho,x4,h1 hw⟩
 .refine concat_meets ⟨_,ho,rfl⟩ ⟨_,x4,rfl⟩ noFill_tuple_add seq_tuple_add PySem.F.slot_tuple_add PySem.F.entry_tuple_add (PySem.F.args_tuple_add_2 _ _)
   (tuple_addW2 t b vs.toArray ws.toArray n n2 dd dd2 sl rV (by simpa using hv) (by simpa using hw) (by rw [K3,K3];exact hsz)) ⟨ho,x4,?_⟩
  rw [e];exact h2 hw
noncomputable def sIx (n d:Nat):Option Int->Nat
 | none=>d
 | some v=>if v<0 then (v+(n:Int)).toNat else min v.toNat n
theorem sIx_nat(n d k:Nat):sIx n d (some (k:Int))=min k n:=by
 show (if (k:Int)<0 then ((k:Int)+(n:Int)).toNat else min (k:Int).toNat n)=min k n;rw [if_neg (by lia),Int.toNat_natCast]
theorem sIx_le(n d:Nat)(hd:d<=n)(o:Option Int):sIx n d o<=n:=by
 cases o with
 | none=>exact hd
 | some v=>
  show (if v<0 then (v+(n:Int)).toNat else min v.toNat n)<=n
  by_cases hv:v<0
  .rw [if_pos hv];lia
  .rw [if_neg hv];exact Nat.min_le_right _ _
theorem clip_eq(v:Int)(n d:Nat):(if v<0 then max (v+(n:Int)) 0 else min v (n:Int))=((sIx n d (some v):Nat):Int):=by
 show (if v<0 then max (v+(n:Int)) 0 else min v (n:Int))=(((if v<0 then (v+(n:Int)).toNat else min v.toNat n):Nat):Int)
 by_cases hv:v<0
 .simp only [if_pos hv];lia
 .simp only [if_neg hv];lia
theorem ah1(lo hi:Option Int)(n:Nat):Builtin.Slice.sliceAdjust lo hi 1 (n:Int)=(((sIx n 0 lo:Nat):Int),((sIx n n hi:Nat):Int)):=by
 have h1:¬ ((1:Int)<0):=by lia
 unfold Builtin.Slice.sliceAdjust;simp only [h1,if_false];refine Prod.ext ?_ ?_
 .cases lo with
  | none=>rfl
  | some v=>exact clip_eq v n 0
 .cases hi with
  | none=>rfl
  | some v=>exact clip_eq v n n
theorem ah2(i j:Nat):Builtin.Slice.slicePlaces (i:Int) (j:Int) 1=j-i:=by
 unfold Builtin.Slice.slicePlaces;have h1:(1:Int) > 0:=by lia
 simp only [h1,if_true,Int.ediv_one]
 split <;> lia
theorem zE{o:Option Int}{Q:Option Int->Shared->Prop}(p:IsPart v o)(h:Q o s):wpAny (model prog w) A (Builtin.Slice.slicePartIndex v) Q E s:=by
 cases p with
 | none=>exact slicePart_none h
 | int i t=>exact slicePart_int h
theorem sliceApplied_gen{lo hi:Option Int}{Q:Int×Int×Nat->Shared->Prop}(hs:s.heap.IsSliceOf sl vl vu .none)(pl:IsPart vl lo)(pu:IsPart vu hi)(h:Q (((sIx n 0 lo:Nat):Int),1,sIx n n hi-sIx n 0 lo) s):wpAny (model prog w) A (Builtin.Slice.sliceApplied (.ref sl) (pure (n:Int))) Q E s:=by
 obtain ⟨os,fC,pY,lM⟩:=id hs;unfold Builtin.Slice.sliceApplied Builtin.Slice.sliceFields;refine wpAny_bind (wpAny_bind (wpAny_field fC lM (x:=vl) rfl (wpAny_bind (wpAny_field fC lM (x:=vu) rfl (wpAny_bind (wpAny_field fC lM (x:=.none) rfl (wpAny_pure ?_)))))));refine wpAny_bind (slicePart_none ?_);show wpAny _ _ (if ((1:Int)==0)=true then _ else _) _ _ s;rw [if_neg (by decide)];refine wpAny_bind (zE pl (wpAny_bind (zE pu (wpAny_bind (wpAny_pure ?_)))));show wpAny _ _ (match Builtin.Slice.sliceAdjust lo hi 1 (n:Int) with | (lo,hi)=>pure (lo,(1:Int),Builtin.Slice.slicePlaces lo hi 1)) _ _ s;rw [ah1 lo hi n];show wpAny _ _ (pure (((sIx n 0 lo:Nat):Int),(1:Int),Builtin.Slice.slicePlaces ((sIx n 0 lo:Nat):Int) ((sIx n n hi:Nat):Int) 1)) _ _ s;rw [ah2];exact wpAny_pure h
theorem akz(xs:Array Value)(i k:Nat):((t7 k).filterMap fun (m:Nat)=>xs[((i:Int)+(m:Int)*1).toNat]?).toArray=((xs.toList.drop i).take k).toArray:=by
 have e:(fun (m:Nat)=>xs[((i:Int)+(m:Int)*1).toNat]?)=fun m=>xs[i+m]?:=by
  funext m
  have:((i:Int)+(m:Int)*1).toNat=i+m:=by lia
  rw [this]
 rw [e]
 have:=pick_run xs i k
 rw [List.filterMap_map] at this;have e2:((fun x=>xs[x]?)∘fun x=>i+x)=fun m=>xs[i+m]?:=rfl
 rw [e2] at this;rw [this]
theorem getItem_tuple_cut{t:Addr}{lo hi:Option Int}{Q:Value->Shared->Prop}(ht:IsTup s.heap t items)(hs:s.heap.IsSliceOf sl vl vu .none)(pl:IsPart vl lo)(pu:IsPart vu hi)(hw:¬ (sIx items.size 0 lo=0/\sIx items.size items.size hi=items.size))(h:Q (.ref s.heap.objs.size) { s with heap:=s.heap.push { cls:=.type "tuple",data:=.seq ((items.toList.drop (sIx items.size 0 lo)).take (sIx items.size items.size hi-sIx items.size 0 lo)).toArray } })(hsz:items.size<=sizeLine):wpAny (model prog w) A (getItem (.ref t) (.ref sl)) Q E s:=by
 have Z0:sizeOk (.seq ((items.toList.drop (sIx items.size 0 lo)).take (sIx items.size items.size hi-sIx items.size 0 lo)).toArray):=by
  show ((items.toList.drop (sIx items.size 0 lo)).take (sIx items.size items.size hi-sIx items.size 0 lo)).toArray.size<=sizeLine;rw [K3,K5,j4,dX];lia
 have hj:sIx items.size items.size hi<=items.size:=sIx_le _ _ (C5 _) hi;obtain ⟨os,fC,pY,lM⟩:=id hs;have hTs:s.TypeIs (.ref sl) "slice":=⟨os,fC,pY⟩
 unfold getItem
 try with_reducible refine wpAny_holding ?_
 first | refine wpAny_bind (wpAny_pure ?_) | skip
 refine wpAny_bind (wpAny_sequenceKey ht.typeIs (by decide) ?_);refine wpAny_bind (wpAny_callSpecial?_slot (name:=Str.ofString "__getitem__") ht.typeIs PyProof.Rows.slot_tuple_getitem
  (wpAny_call_entry PyProof.Rows.slot_tuple_getitem ht.typeIs entry_tuple_getitem ?_ (args_tuple_getitem _ _)))
 show wpAny _ _ (Builtin.Tuple.tupleItemsOf (.ref t) >>= _) _ _ s;refine wpAny_bind (tupleItemsOf_ ht ?_);refine wpAny_bind (wpAny_typeOf hTs ?_);rw [if_pos (by decide)];refine wpAny_bind (sliceApplied_gen hs pl pu ?_);have lN:¬ ((((sIx items.size 0 lo:Nat):Int)==0&&(1:Int)==1&&(sIx items.size items.size hi-sIx items.size 0 lo)==items.size)=true):=by
  intro q;rw [W9,W9] at q;have q1:((sIx items.size 0 lo:Nat):Int)=0:=eq_of_beq q.1.1;have q2:sIx items.size items.size hi-sIx items.size 0 lo=items.size:=eq_of_beq q.2;exact hw ⟨by lia,by lia⟩
 show wpAny _ _ (if (((sIx items.size 0 lo:Nat):Int)==0&&(1:Int)==1&&(sIx items.size items.size hi-sIx items.size 0 lo)==items.size)=true then _ else _) _ _ s;rw [if_neg lN,akz]
 first
  | exact wpAny_bind (m:=Builtin.Tuple.tupleExact _) (wpAny_newObj_type (wpAny_pure ⟨_,rfl,wpAny_pure h⟩) Z0)
  | exact wpAny_bind (m:=Builtin.Tuple.tupleExact _) (wpAny_newObj_type (wpAny_bind (wpAny_pure (wpAny_pure ⟨_,rfl,wpAny_pure h⟩))) Z0)
  | exact wpAny_bind (wpAny_bind (m:=Builtin.Tuple.tupleExact _) (wpAny_newObj_type (wpAny_pure (wpAny_pure ⟨_,rfl,wpAny_pure h⟩)) Z0))
  | exact wpAny_bind (wpAny_bind (m:=Builtin.Tuple.tupleExact _) (wpAny_newObj_type (wpAny_pure ⟨_,rfl,wpAny_pure h⟩) Z0))
end
end HT
namespace L2
open PySem PySem.Spec PyProof.Rows
noncomputable abbrev TO:=St->Hp->(Option Int->Hp->Prop)->Prop
noncomputable def PO (X:Cx) (e:Option Expr) (t:TO):Prop:=
 ∀ (pins:List (Addr×Obj)) (s:Shared) (Y:St) (H:Hp) (Q:Option Int->Hp->Prop),Inv X pins Y H s->t Y H Q->
  wpAny (model X.prog X.w) X.A (evalPart e X.env) (fun u s'=>∃ o H',Inv X pins Y H' s'/\IsPart u o/\Q o H') X.xe s
noncomputable def rW:TO:=fun _ H Q=>Q none H
noncomputable def tPart (t:TE):TO:=fun Y H Q=>t Y H fun x H1=>∃ i,x=.int i/\Q (some i) H1
theorem zF : ∀ {us:List Value},Vals (ns.map V.int) us->IntsAre us ns:=by
 induction ns with
 | nil=>intro us r;rw [List.map_nil] at r;cases r;exact .nil
 | cons n ns ih=>
  intro us r;rw [G6] at r
  cases r with
  | cons r1 r2=>
   obtain ⟨t,e⟩:=r1;subst e;exact .cons n t (ih r2)
section
variable {X:Cx} {e:Expr} {te:TE} {lo hi:Option Expr} {tl th:TO} {pos p2:Pos}
theorem amq:PO X none rW:=by
 intro pins s Y H Q I h;rw [evalPart_none];exact wpAny_pure ⟨none,H,I,.none,h⟩
theorem amr(h:PE X e te):PO X (some e) (tPart te):=by
 intro pins s Y H Q I hw;rw [evalPart_some];refine C4 (h pins s Y H _ I hw) fun u s1 ⟨x,H1,I1,r1,q1⟩=>?_
 obtain ⟨i,rfl,q⟩:=q1;obtain ⟨t,rfl⟩:=r1;exact ⟨some i,H1,I1,.int i t,q⟩
noncomputable def gD (X:Cx) (r:V->Option Int->Option Int->Hp->VK->Prop):Prop:=
 ∀ (pins:List (Addr×Obj)) (s:Shared) (Y:St) (H:Hp) (x:V) (v vl vu:Value) (lo hi:Option Int) (sl:Addr) (Q:VK),Inv X pins Y H s->RelV x v->s.heap.IsSliceOf sl vl vu .none->IsPart vl lo->IsPart vu hi->r x lo hi H Q->
  ∃ T id,typeLookup (.type T) "__getitem__"=pure (some (.builtin id))/\s.TypeIs v T/\wpAny (model X.prog X.w) X.A (getItem v (.ref sl)) (EP X pins Y Q) X.xe s
noncomputable def rX (r:V->Option Int->Option Int->Hp->VK->Prop) (te:TE) (tl th:TO):TE:=fun Y H Q=>te Y H fun x H1=>tl Y H1 fun l H2=>th Y H2 fun u H3=>r x l u H3 Q
theorem akA{r:V->Option Int->Option Int->Hp->VK->Prop}(hr:gD X r)(he:PE X e te)(hl:PO X lo tl)(hu:PO X hi th):PE X (.Subscript e (.Slice lo hi none p2) pos) (rX r te tl th):=by
 intro pins s Y H Q I h;refine Subscript_ (C4 (he pins s Y H _ I h) fun v s1 ⟨x,H1,I1,r1,q1⟩=>?_);refine wpAny_Slice (C4 (hl pins s1 Y H1 _ I1 q1) fun vl s2 ⟨l,H2,I2,pl,q2⟩=>C4 (hu pins s2 Y H2 _ I2 q2) fun vu s3 ⟨u,H3,I3,pu,q3⟩=>?_);rw [evalPart_none];refine wpAny_pure ?_;have I4:Inv X pins Y H3 { s3 with heap:=s3.heap.push { cls:=.type "slice",data:=.fields #[vl,vu,.none] } }:=I3.kept (t':=s3.toks) fun b ob q=>Heap.get?_push_of_some _ q
 obtain ⟨T,id,hT,ht,hg⟩:=hr pins { s3 with heap:=s3.heap.push { cls:=.type "slice",data:=.fields #[vl,vu,.none] } } Y H3 x v vl vu l u s3.heap.objs.size Q I4 r1 (Heap.IsSliceOf.new ..) pl pu q3;show wpAny (model X.prog X.w) X.A (subscriptTail e (.Slice lo hi none p2) v (.ref s3.heap.objs.size)) (EP X pins Y Q) X.xe { s3 with heap:=s3.heap.push { cls:=.type "slice",data:=.fields #[vl,vu,.none] } };exact tail_any (ops:=[.ref s3.heap.objs.size,v]) ht hT hg (by with_unfolding_all rfl)
noncomputable def cutV (xs:List V) (lo hi:Option Int):List V:=(xs.drop (HT.sIx xs.length 0 lo)).take (HT.sIx xs.length xs.length hi-HT.sIx xs.length 0 lo)
theorem zG(xs:List V)(lo hi:Option Int):(cutV xs lo hi).length<=xs.length:=by
 unfold cutV;rw [K5,j4];lia
noncomputable def rSlT (K:PySem.W.Frag):V->Option Int->Option Int->Hp->VK->Prop:=fun x lo hi H Q=>∃ a xs,x=.ref a/\C9 K H a xs/\
 ¬ (HT.sIx xs.length 0 lo=0/\HT.sIx xs.length xs.length hi=xs.length)/\∀ p,H p=none->Q (.ref p) (A4 H p (.tup (cutV xs lo hi)))
theorem an3:gD X (rSlT X.K):=by
 intro pins s Y H x v vl vu lo hi sl Q I rx hs pl pu h;obtain ⟨a,xs,rfl,hx,hw,q⟩:=h
 cases rx
 obtain ⟨its,r,ht,hz⟩:=I.tuple hx;have C1:its.toArray.size=xs.length:=by rw [K3];exact r.length.symm
 refine ⟨"tuple",_,PyProof.Rows.slot_tuple_getitem.lookup,ht.typeIs,?_⟩;refine HT.getItem_tuple_cut ht hs pl pu (by rw [C1];exact hw) ?_ (by rw [C1];exact hz);rw [C1];refine ⟨.ref s.heap.objs.size,_,I.laid (t':=s.toks) (o:=.tup (cutV xs lo hi)) (fun b ob q=>Heap.get?_push_of_some _ q) (C5 _) ?_,rfl,q _ (I.hok.fresh (C5 _))⟩;exact ⟨K6 (zG xs lo hi) hz,_,(r.drop (HT.sIx xs.length 0 lo)).take (HT.sIx xs.length xs.length hi-HT.sIx xs.length 0 lo),IsTup.new _ _⟩
noncomputable def rCatT (K:PySem.W.Frag):R2:=fun x y H Q=>∃ a b xs ys,x=.ref a/\y=.ref b/\C9 K H a xs/\C9 K H b ys/\xs≠[]/\xs.length+ys.length<=sizeLine/\
 (ys=[]->Q (.ref a) H)/\(ys≠[]->∀ p,H p=none->Q (.ref p) (A4 H p (.tup (xs++ys))))
theorem Vals.nil_iff(r:Vals xs us):us=[]↔xs=[]:=by
 cases r with
 | nil=>simp
 | cons _ _=>simp
theorem ams:J5 X (binaryOp .Add) (rCatT X.K):=by
 intro pins s Y H x y v u Q I rx ry h;obtain ⟨a,b,xs,ys,rfl,rfl,ha,hb,hx,hz,q1,q2⟩:=h
 cases rx
 cases ry
 obtain ⟨its,r1,p1,_⟩:=I.tuple ha;obtain ⟨its2,r2,p2,_⟩:=I.tuple hb;refine HT.cat_tup p1 p2 (fun z=>hx (r1.nil_iff.mp z)) (fun z=>⟨.ref a,H,I,rfl,q1 (r2.nil_iff.mp z)⟩) (fun z=>?_) (by rw [<- r1.length,<- r2.length];exact hz);refine ⟨.ref s.heap.objs.size,_,I.laid (t':=s.toks) (o:=.tup (xs++ys)) (fun b ob q=>Heap.get?_push_of_some _ q) (C5 _) ?_,rfl,q2 (fun w=>z (r2.nil_iff.mpr w)) _ (I.hok.fresh (C5 _))⟩;exact ⟨by rw [D1];exact hz,_,r1.append r2,IsTup.new _ _⟩
end
end L2
namespace L2
open PySem PySem.Spec PyProof.Rows
noncomputable def Y1 (n:Nat) (i:Int):Option Nat:=if 0<=i then (if i<n then some i.toNat else none) else if -(n:Int)<=i then some (i+n).toNat else none
noncomputable def J9 {α:Type} (xs:List α) (i:Int):Option α:=(Y1 xs.length i).bind fun j=>xs[j]?
theorem amt{i:Int}(h:Y1 n i=some j):seqIndex? i n=some j/\j<n/\-(n:Int)<=i/\i<n:=by
 unfold Y1 at h
 by_cases h0:0<=i
 .rw [if_pos h0] at h
  by_cases h1:i<n
  .rw [if_pos h1] at h;have e:i.toNat=j:=Option.some.inj h;exact ⟨by rw [seqIndex_of h0 h1,e],by lia,by lia,h1⟩
  .rw [if_neg h1] at h;cases h
 .rw [if_neg h0] at h
  by_cases h1:-(n:Int)<=i
  .rw [if_pos h1] at h;have e:(i+n).toNat=j:=Option.some.inj h;exact ⟨by rw [seqIndex_neg (by lia) h1,e],by lia,h1,by lia⟩
  .rw [if_neg h1] at h;cases h
theorem rY{α:Type}{xs:List α}{i:Int}{v:α}(h:J9 xs i=some v):∃ j,seqIndex? i xs.length=some j/\xs[j]?=some v/\j<xs.length/\-(xs.length:Int)<=i/\i<xs.length:=by
 unfold J9 at h;cases e:Y1 xs.length i with
 | none=>rw [e] at h;cases h
 | some j=>
  rw [e] at h;obtain ⟨h1,h2,h3,h4⟩:=amt e;exact ⟨j,h1,h,h2,h3,h4⟩
theorem P9{α:Type}{xs:List α}{v:α}(h:xs[j]?=some v):J9 xs (j:Int)=some v:=by
 have hj:j<xs.length:=(G9.mp h).1;have e:Y1 xs.length (j:Int)=some j:=by
  unfold Y1;rw [if_pos (by lia),if_pos (by lia)];simp
 unfold J9;rw [e];exact h
theorem rZ{α:Type}(xs:List α)(v:α):J9 (xs++[v]) (-1)=some v:=by
 have hl:(xs++[v]).length=xs.length+1:=by simp
 have e:Y1 (xs++[v]).length (-1)=some xs.length:=by
  unfold Y1;rw [hl,if_neg (by decide),if_pos (by lia)]
  congr 1
  lia
 unfold J9;rw [e];show (xs++[v])[xs.length]?=some v
 simp
noncomputable def zH (b:Expr):Prop:=∀ o i,subscripted b false o i=operate [o,i] (getItem o i)
noncomputable def aF (X:Cx) (r:R2):Prop:=
 ∀ (value slice:Expr) (pins:List (Addr×Obj)) (s:Shared) (Y:St) (H:Hp) (x y:V) (v u:Value) (Q:VK),Inv X pins Y H s->RelV x v->RelV y u->r x y H Q->
  subscripted slice false v u=operate [v,u] (getItem v u)->wpAny (model X.prog X.w) X.A (subscriptTail value slice v u) (EP X pins Y Q) X.xe s
noncomputable def nO (X:Cx) (id:String) (r:V->List V->Hp->VK->Prop):Prop:=
 ∀ (pins:List (Addr×Obj)) (s:Shared) (Y:St) (H:Hp) (x:V) (xs:List V) (v:Value) (us:List Value) (Q:VK),Inv X pins Y H s->RelV x v->Vals xs us->r x xs H Q->
  wpAny (model X.prog X.w) X.A (call (.builtin id) (v::us)) (EP X pins Y Q) X.xe s
section
variable {X:Cx} {a b:Expr} {ta tb:TE} {pos:Pos}
theorem aF.or{r r':R2}(h:aF X r)(h':aF X r'):aF X (fun x y H Q=>r x y H Q\/r' x y H Q):=by
 intro value slice pins s Y H x y v u Q I rx ry q hs
 rcases q with q | q
 .exact h value slice pins s Y H x y v u Q I rx ry q hs
 .exact h' value slice pins s Y H x y v u Q I rx ry q hs
theorem pe_ix{r:R2}(hr:aF X r)(ha:PE X a ta)(hb:PE X b tb)(hs:zH b):PE X (.Subscript a b pos) (k7 r ta tb):=by
 intro pins s Y H Q I h;exact Subscript_ (binT ha hb I h fun v u s2 x y H2 I2 rx ry q=>hr a b pins s2 Y H2 x y v u Q I2 rx ry q (hs _ _))
noncomputable def rIxL (K:PySem.W.Frag):R2:=fun x y H Q=>∃ p xs i v,x=.ref p/\y=.int i/\E5 K H p xs/\J9 xs i=some v/\Q v H
noncomputable def rIxT (K:PySem.W.Frag):R2:=fun x y H Q=>∃ p xs i v,x=.ref p/\y=.int i/\C9 K H p xs/\J9 xs i=some v/\Q v H
noncomputable def rIxS:R2:=fun x y H Q=>∃ z i c,x=.str z/\y=.int i/\z.length<=sizeLine/\J9 z.cps.toList i=some c/\Q (.str ⟨#[c]⟩) H
theorem ix_list:aF X (rIxL X.K):=by
 intro value slice pins s Y H x y v u Q I rx ry h hs;obtain ⟨p,xs,i,z,rfl,rfl,hq,he,q⟩:=h
 cases rx
 obtain ⟨t,rfl⟩:=ry;obtain ⟨its,r,pl,hz⟩:=I.list hq;obtain ⟨j,h1,h2,h3,h4,h5⟩:=rY he;obtain ⟨w,ew,rw'⟩:=r.get h2;have hl:=r.length;have hn:=jQ;have fin:EP X pins Y Q w s:=⟨z,H,I,rw',q⟩
 by_cases h0:0<=i
 .have hj:i.toNat=j:=by
   rw [seqIndex_of h0 h5] at h1;exact Option.some.inj h1
  exact item_listR pl.isList h0 (by lia) (by rw [hj];simpa using ew) fin hs
 .have hj:(i+(its.toArray.size:Int)).toNat=j:=by
   rw [seqIndex_neg (by lia) h4] at h1;rw [K3,<- hl];exact Option.some.inj h1
  exact subscriptTail_builtinR (x:=w) pl.isList.typeIs slot_list_getitem.lookup
   (wpAny_getItem_list_neg (Q:=fun r s'=>r=w/\EP X pins Y Q r s') pl.isList (by lia) (by rw [K3] <;> lia) (by lia) (by rw [hj];simpa using ew) ⟨rfl,fin⟩) hs
theorem ix_tup:aF X (rIxT X.K):=by
 intro value slice pins s Y H x y v u Q I rx ry h hs;obtain ⟨p,xs,i,z,rfl,rfl,hq,he,q⟩:=h
 cases rx
 obtain ⟨t,rfl⟩:=ry;obtain ⟨its,r,pl,hz⟩:=I.tuple hq;obtain ⟨j,h1,h2,h3,h4,h5⟩:=rY he;obtain ⟨w,ew,rw'⟩:=r.get h2;have hl:=r.length;have hn:=jQ;have fin:EP X pins Y Q w s:=⟨z,H,I,rw',q⟩
 exact subscriptTail_builtinR (x:=w) pl.typeIs slot_tuple_getitem.lookup
  (getItem_tuple (j:=j) (Q:=fun r s'=>r=w/\EP X pins Y Q r s') pl (by lia) (by lia) (by rw [K3,<- hl];exact h1) (by simpa using ew) ⟨rfl,fin⟩) hs
theorem an4:aF X rIxS:=by
 intro value slice pins s Y H x y v u Q I rx ry h hs;obtain ⟨z,i,c,rfl,rfl,hz,he,q⟩:=h;obtain ⟨t,rfl⟩:=rx;obtain ⟨t',rfl⟩:=ry;obtain ⟨j,h1,h2,h3,h4,h5⟩:=rY he;have hl:z.cps.toList.length=z.length:=by simp [Str.length]
 rw [hl] at h1 h4 h5;have hn:=jQ;exact tail_any (typeIs_str s z t) slot_str_getitem.lookup (getItem_str (c:=c) (by
  have e1:decide (i < -(2 ^ 63:Int))=false:=decide_eq_false (by lia);have e2:decide (i≥2 ^ 63)=false:=decide_eq_false (by lia);rw [e1,e2,Bool.or_false]) (by rw [h1];simpa using h2) ⟨.str ⟨#[c]⟩,H,I.tok _,⟨_,rfl⟩,q⟩) hs
noncomputable def gE (K:PySem.W.Frag):R2:=fun x y H Q=>rIxL K x y H Q\/rIxT K x y H Q\/rIxS x y H Q
theorem an5:aF X (gE X.K):=ix_list.or (ix_tup.or an4)
noncomputable def rSetL:V->V->V->Hp->(Hp->Prop)->Prop:=fun o i v H Q=>∃ p xs k j,o=.ref p/\i=.int k/\H p=some (.lst xs)/\Y1 xs.length k=some j/\Q (A4 H p (.lst (xs.set j v)))
theorem afI(lo hi:Option Int)(n:Nat):(sliceBounds lo hi none n).1=((HT.sIx n 0 lo:Nat):Int)/\(sliceBounds lo hi none n).2.1=((HT.sIx n n hi:Nat):Int)/\(sliceBounds lo hi none n).2.2=1:=by
 refine ⟨?_,?_,rfl⟩
 .cases lo with
  | none=>simp [sliceBounds,HT.sIx]
  | some i=>
   simp only [sliceBounds,HT.sIx,Option.getD_none,show (1:Int) > 0 by decide,if_true]
   by_cases h:i<0
   .simp only [h,if_true] <;> lia
   .simp only [h,if_false] <;> lia
 .cases hi with
  | none=>simp [sliceBounds,HT.sIx]
  | some i=>
   simp only [sliceBounds,HT.sIx,Option.getD_none,show (1:Int) > 0 by decide,if_true]
   by_cases h:i<0
   .simp only [h,if_true] <;> lia
   .simp only [h,if_false] <;> lia
theorem afe(its:List Value)(lo hi:Option Int):slicePick its.toArray lo hi none=((its.drop (HT.sIx its.length 0 lo)).take (HT.sIx its.length its.length hi-HT.sIx its.length 0 lo)).toArray:=by
 obtain ⟨h1,h2,h3⟩:=afI lo hi its.toArray.size;unfold slicePick;rw [h1,h2,h3];simp only [sliceRange_one,pick_run,K3] <;> rfl
noncomputable def rSlL (K:PySem.W.Frag):V->Option Int->Option Int->Hp->VK->Prop:=fun x lo hi H Q=>∃ a xs,x=.ref a/\E5 K H a xs/\∀ p,H p=none->Q (.ref p) (A4 H p (.lst (cutV xs lo hi)))
theorem amu:gD X (rSlL X.K):=by
 intro pins s Y H x v vl vu lo hi sl Q I rx hs pl pu h;obtain ⟨a,xs,rfl,hx,q⟩:=h
 cases rx
 obtain ⟨its,r,ht,hz⟩:=I.list hx;have C1:=r.length;refine ⟨"list",_,slot_list_getitem.lookup,ht.isList.typeIs,?_⟩;refine wpAny_getItem_list_slice ht.isList hs pl pu .none (by simp) ?_ (by rw [K3] <;> lia);rw [afe,<- C1];refine ⟨.ref s.heap.objs.size,_,I.laid (t':=s.toks) (o:=.lst (cutV xs lo hi)) (fun b ob q=>Heap.get?_push_of_some _ q) (C5 _) ?_,rfl,q _ (I.hok.fresh (C5 _))⟩;exact ⟨K6 (zG xs lo hi) hz,_,0,(r.drop (HT.sIx xs.length 0 lo)).take (HT.sIx xs.length xs.length hi-HT.sIx xs.length 0 lo),Heap.get?_push_size _ rfl⟩
noncomputable def flatV:V->Bool
 | .non=>true
 | .bl _=>true
 | .int _=>true
 | .str _=>true
 | _=>false
noncomputable def cA:V->V->Bool
 | .non,.non=>true
 | .bl a,.bl b=>a==b
 | .bl a,.int b=>(if a then 1 else 0)==b
 | .int a,.bl b=>a==(if b then 1 else 0)
 | .int a,.int b=>a==b
 | .str a,.str b=>a==b
 | _,_=>false
theorem an6(ry:RelV y u)(rx:RelV x v)(fy:flatV y=true)(fx:flatV x=true):SeqAt.EqAt A s u v (cA y x):=by
 cases y with
 | non=>
  cases ry
  cases x with
  | non=>cases rx;exact SeqAt.EqAt.same _
  | bl b=>cases rx;exact SeqAt.EqAt.none_bool b
  | int b=>obtain ⟨t,rfl⟩:=rx;exact SeqAt.EqAt.none_int b t
  | str b=>obtain ⟨t,rfl⟩:=rx;exact SeqAt.EqAt.none_str b t
  | _=>exact absurd (show false=true from fx) K7
 | bl a=>
  cases ry
  cases x with
  | non=>cases rx;exact SeqAt.EqAt.bool_none a
  | bl b=>cases rx;exact SeqAt.EqAt.bool_bool a b
  | int b=>obtain ⟨t,rfl⟩:=rx;exact SeqAt.EqAt.bool_int a b t
  | str b=>obtain ⟨t,rfl⟩:=rx;exact SeqAt.EqAt.bool_str a b t
  | _=>exact absurd (show false=true from fx) K7
 | int a=>
  obtain ⟨t',rfl⟩:=ry
  cases x with
  | non=>cases rx;exact SeqAt.EqAt.int_none a t'
  | bl b=>cases rx;exact SeqAt.EqAt.int_bool a t' b
  | int b=>obtain ⟨t,rfl⟩:=rx;exact SeqAt.EqAt.int_int a t' b t
  | str b=>obtain ⟨t,rfl⟩:=rx;exact SeqAt.EqAt.int_str a t' b t
  | _=>exact absurd (show false=true from fx) K7
 | str a=>
  obtain ⟨t',rfl⟩:=ry
  cases x with
  | non=>cases rx;exact SeqAt.EqAt.str_none a t'
  | bl b=>cases rx;exact SeqAt.EqAt.str_bool a t' b
  | int b=>obtain ⟨t,rfl⟩:=rx;exact SeqAt.EqAt.str_int a t' b t
  | str b=>obtain ⟨t,rfl⟩:=rx;exact SeqAt.EqAt.str_str a t' b t
  | _=>exact absurd (show false=true from fx) K7
 | _=>exact absurd (show false=true from fy) K7
noncomputable def X1 (x:V) (u:Value):Bool:=match u with
 | .none=>cA .non x
 | .bool b=>cA (.bl b) x
 | .int i _=>cA (.int i) x
 | .str z _=>cA (.str z) x
 | _=>false
theorem zI(r:RelV y u)(f:flatV y=true):X1 x u=cA y x:=by
 cases y with
 | non=>cases r;rfl
 | bl b=>cases r;rfl
 | int i=>obtain ⟨t,rfl⟩:=r;rfl
 | str z=>obtain ⟨t,rfl⟩:=r;rfl
 | _=>exact absurd (show false=true from f) K7
theorem jR : ∀ {xs:List V} {us:List Value},Vals xs us->xs.all flatV=true->us.any (X1 x)=xs.any fun y=>cA y x
 | _,_,.nil,_=>rfl
 | y::xs,u::us,.cons r t,f=>by
  rw [List.all_cons,W9] at f;rw [z8,z8,zI r f.1,jR t f.2]
theorem jS(rx:RelV x v)(fx:flatV x=true):∀ {xs:List V} {us:List Value},Vals xs us->xs.all flatV=true->∀ u∈us,SeqAt.EqAt A s u v (X1 x u)
 | _,_,.nil,_=>fun u hu=>by cases hu
 | y::xs,u::us,.cons r t,f=>fun u' hu=>by
  rw [List.all_cons,W9] at f
  rcases D9.mp hu with rfl | hu
  .rw [zI r f.1];exact an6 r rx f.1 fx
  .exact jS rx fx t f.2 u' hu
noncomputable def cB (x:V) (xs:List V):Bool:=xs.any fun y=>cA y x
noncomputable def sA (K:PySem.W.Frag) (neg:Bool):R2:=fun x y H Q=>∃ p xs,y=.ref p/\(E5 K H p xs\/C9 K H p xs)/\flatV x=true/\xs.all flatV=true/\Q (.bl (if neg then !cB x xs else cB x xs)) H
theorem ai0:J5 X (compareOp .In) (sA X.K false):=by
 intro pins s Y H x y v u Q I rx ry h;obtain ⟨p,xs,rfl,hq,fx,fs,q⟩:=h
 cases ry
 rcases hq with hq | hq
 .obtain ⟨its,r,pl,hz⟩:=I.list hq;refine SeqAt.in_listAt (X1 x) pl.isList (fun w hw=>jS rx fx r fs w (by simpa using hw)) ⟨.bl _,H,I,rfl,?_⟩;rw [show its.toArray.any (X1 x)=its.any (X1 x) by simp,jR r fs];exact q
 .obtain ⟨its,r,pl,hz⟩:=I.tuple hq;refine SeqAt.in_tupleAt (X1 x) pl (fun w hw=>jS rx fx r fs w (by simpa using hw)) ⟨.bl _,H,I,rfl,?_⟩;rw [show its.toArray.any (X1 x)=its.any (X1 x) by simp,jR r fs];exact q
theorem afJ:J5 X (compareOp .NotIn) (sA X.K true):=by
 intro pins s Y H x y v u Q I rx ry h;obtain ⟨p,xs,rfl,hq,fx,fs,q⟩:=h
 cases ry
 rcases hq with hq | hq
 .obtain ⟨its,r,pl,hz⟩:=I.list hq;refine SeqAt.notIn_listAt (X1 x) pl.isList (fun w hw=>jS rx fx r fs w (by simpa using hw)) ⟨.bl _,H,I,rfl,?_⟩;rw [show its.toArray.any (X1 x)=its.any (X1 x) by simp,jR r fs];exact q
 .obtain ⟨its,r,pl,hz⟩:=I.tuple hq;refine SeqAt.notIn_tupleAt (X1 x) pl (fun w hw=>jS rx fx r fs w (by simpa using hw)) ⟨.bl _,H,I,rfl,?_⟩;rw [show its.toArray.any (X1 x)=its.any (X1 x) by simp,jR r fs];exact q
theorem afK:J5 X (compareOp .NotIn) (fun x y H Q=>∃ i j,x=.str i/\y=.str j/\Q (.bl (!(!(Builtin.Str.occurrences j i 0 j.length 1).isEmpty))) H):=by
 intro pins s Y H x y v u Q I rx ry h;obtain ⟨i,j,rfl,rfl,q⟩:=h;obtain ⟨t,rfl⟩:=rx;obtain ⟨t',rfl⟩:=ry;exact notIn_str ⟨.bl _,H,I,rfl,q⟩
theorem afL:CallR X (.type "list") (fun xs H Q=>∃ p ys,xs=[.ref p]/\(E5 X.K H p ys\/C9 X.K H p ys)/\∀ l,H l=none->Q (.ref l) (A4 H l (.lst ys))):=by
 intro pins s Y H xs us Q I r h;obtain ⟨p,ys,rfl,hq,q⟩:=h;obtain ⟨u,rfl,rx⟩:=vals1 r
 cases rx
 have fin:∀ (its:List Value),Vals ys its->ys.length<=sizeLine->∀ (h':Heap) (c':Nat),(∀ b o',s.heap.get? b=some o'->h'.get? b=some o')->
   h'.get? s.heap.objs.size=some { cls:=.type "list",dict:=none,data:=.seq its.toArray c',slots:=#[] }->EP X pins Y Q (.ref s.heap.objs.size) { s with heap:=h' }:=fun its r' hz h' c' kp e=>
  ⟨.ref s.heap.objs.size,_,I.laid (t':=s.toks) kp (C5 _) (show ObjOk X.prog X.w _ h' _ (.lst ys) from ⟨hz,its,c',r',e⟩),rfl,q _ (I.hok.fresh (C5 _))⟩
 rcases hq with hq | hq
 .obtain ⟨its,r',pl,hz⟩:=I.list hq;have C1:=r'.length;obtain ⟨o,ho,hc,n,hd⟩:=pl.isList;exact call_list_seq p (.inl rfl) ho hc hd (fun h' c' kp e=>fin its r' hz h' c' kp e) (by simp only [K3] <;> lia)
 .obtain ⟨its,r',pl,hz⟩:=I.tuple hq;have C1:=r'.length;obtain ⟨o,ho,hc,n,hd⟩:=pl;exact call_list_seq p (.inr rfl) ho hc hd (fun h' c' kp e=>fin its r' hz h' c' kp e) (by simp only [K3] <;> lia)
theorem aff:CallR X (.type "tuple") (fun xs H Q=>∃ p ys,xs=[.ref p]/\((E5 X.K H p ys/\∀ l,H l=none->Q (.ref l) (A4 H l (.tup ys)))\/(C9 X.K H p ys/\Q (.ref p) H))):=by
 intro pins s Y H xs us Q I r h;obtain ⟨p,ys,rfl,h⟩:=h;obtain ⟨u,rfl,rx⟩:=vals1 r
 cases rx
 rcases h with ⟨hq,q⟩ | ⟨hq,q⟩
 .obtain ⟨its,r',pl,hz⟩:=I.list hq;have C1:=r'.length;refine call_tuple_list pl.isList (fun h' kp=>?_) (by simp only [K3] <;> lia);have I1:Inv X pins Y H { s with heap:=h' }:=I.kept (t':=s.toks) kp;have I2:Inv X pins Y (A4 H h'.objs.size (.tup ys)) { s with heap:=h'.push { cls:=.type "tuple",data:=.seq its.toArray } }:=
   I1.laid (t':=s.toks) (fun b o e=>Heap.get?_push_of_some _ e) (C5 _) (show ObjOk X.prog X.w _ _ _ (.tup ys) from ⟨hz,its,r',IsTup.new _ _⟩)
  exact ⟨.ref h'.objs.size,_,I2,rfl,q _ (I1.hok.fresh (C5 _))⟩
 .obtain ⟨its,r',pl,hz⟩:=I.tuple hq;exact call_tuple_same pl ⟨.ref p,H,I,rfl,q⟩
noncomputable def aG (K:PySem.W.Frag) (T:String) (x:V) (H:Hp):Prop:=match x with
 | .str _=>T="str"
 | .int _=>T="int"
 | .ref p=>(T="list"/\∃ xs,E5 K H p xs)\/(T="tuple"/\∃ o,K.lookup p=some o/\o.cls=.type "tuple"/\o.dict=none)\/
   (T="dict"/\((∃ kvs,H p=some (.dK kvs))\/∃ kvs,H p=some (.dT kvs)))\/(T="set"/\∃ S n,H p=some (.set S n))
 | _=>False
theorem zJ{T:String}(I:Inv X pins Y H s)(r:RelV x v)(ty:aG X.K T x H) :
  s.TypeIs v T/\∀ a,v=.ref a->∃ ob,s.heap.get? a=some ob/\ob.dict=none:=by
 cases x with
 | str z=>
  obtain ⟨t,rfl⟩:=r
  cases (show T="str" from ty)
  exact ⟨typeIs_str s z t,fun _ e=>nomatch e⟩
 | int i=>
  obtain ⟨t,rfl⟩:=r
  cases (show T="int" from ty)
  exact ⟨typeIs_int s i t,fun _ e=>nomatch e⟩
 | ref p=>
  cases r
  rcases ty with ⟨rfl,xs,hq⟩ | ⟨rfl,o,hk,hc,hd⟩ | ⟨rfl,hk⟩ | ⟨rfl,S,n,hk⟩
  .obtain ⟨its,_,pl,_⟩:=I.list hq;refine ⟨pl.isList.typeIs,fun a e=>?_⟩;cases e;obtain ⟨o,n,e,c,hd,_⟩:=pl;exact ⟨o,e,hd⟩
  .refine ⟨⟨o,I.kIn p o hk,hc⟩,fun a e=>?_⟩;cases e;exact ⟨o,I.kIn _ o hk,hd⟩
  .have z:∃ o,s.heap.get? p=some o/\o.ExactDict:=by
    rcases hk with ⟨kvs,hk⟩ | ⟨kvs,hk⟩
    .obtain ⟨_,_,_,_,o,_,_,e,ex,_⟩:=I.hok p _ hk;exact ⟨o,e,ex⟩
    .obtain ⟨_,_,_,_,o,_,_,e,ex,_⟩:=I.hok p _ hk;exact ⟨o,e,ex⟩
   obtain ⟨o,e,ex⟩:=z;refine ⟨⟨o,e,ex.1⟩,fun a e2=>?_⟩;cases e2;exact ⟨o,e,ex.2.1⟩
  .obtain ⟨o,_,_,_,e,ex,_⟩:=I.hok p _ hk;refine ⟨⟨o,e,ex.1⟩,fun a e2=>?_⟩;cases e2;exact ⟨o,e,ex.2.1⟩
 | _=>exact False.elim ty
noncomputable def tBM0 (K:PySem.W.Frag) (T:String) (r:V->List V->Hp->VK->Prop) (to:TE):TE:=fun Y H Q=>to Y H fun x H1=>aG K T x H1/\r x [] H1 Q
noncomputable def jT (K:PySem.W.Frag) (T:String) (r:V->List V->Hp->VK->Prop) (to:TE) (t:TA):TE:=fun Y H Q=>to Y H fun x H1=>aG K T x H1/\t Y H1 fun xs H2=>r x xs H2 Q
variable {o e:Expr} {es:List Expr} {to:TE} {t:TA} {name:Str} {apos cpos:Pos} {T id:String} {r:V->List V->Hp->VK->Prop}
theorem an7(pa:PlainAttrs T)(slot:Slot T name id)(U5:typeOf (.builtin id)=pure (.type "method_descriptor"))(hm:nO X id r)(ho:PE X o to)(G1:attributeBase o name X.env (eval o X.env)=eval o X.env:=by rfl)(G2:(apos.endLine==cpos.line)=true:=by rfl):PE X (.Call (.Attribute o name apos) [] [] cpos) (tBM0 X.K T r to):=by
 intro pins s Y H Q I h;refine wpAny_Call_method0_late G1 G2 (C4 (ho pins s Y H _ I h) fun v s1 ⟨x,H1,I1,r1,ty,q1⟩=>?_);obtain ⟨h1,h2⟩:=zJ I1 r1 ty;exact ⟨T,id,pa,slot,U5,h1,h2,Calls.callWith_builtin rfl (PySem.evalArgs_none (hm pins s1 Y H1 x [] v [] Q I1 r1 .nil q1))⟩
theorem pe_bm(pa:PlainAttrs T)(slot:Slot T name id)(U5:typeOf (.builtin id)=pure (.type "method_descriptor"))(hm:nO X id r)(ho:PE X o to)(ha:PA X (e::es) t)(G1:attributeBase o name X.env (eval o X.env)=eval o X.env:=by rfl)(wA:((backTo cpos (starEach (e::es) X.env)).all (fun x=>!x.1)&&(backToKw cpos (keywordEach [] X.env)).all (fun x=>x.1.isSome)
   && decide ((e::es).length+([]:List Keyword).length+(if ([]:List Keyword).isEmpty then 0 else 1)<30))=true:=by rfl)(G2:(apos.endLine==cpos.line)=true:=by rfl)(hs:starEach (e::es) X.env=(false,eval e X.env)::starEach es X.env:=by rfl)(hplain:(backTo cpos (starEach es X.env)).any (·.1)=false:=by rfl) :
  PE X (.Call (.Attribute o name apos) (e::es) [] cpos) (jT X.K T r to t):=by
 intro pins s Y H Q I h;refine wpAny_Call_method_late G1 wA G2 rfl (C4 (ho pins s Y H _ I h) fun v s1 ⟨x,H1,I1,r1,ty,q1⟩=>?_);obtain ⟨h1,h2⟩:=zJ I1 r1 ty;refine ⟨T,id,pa,slot,U5,h1,h2,?_⟩;have hA:=ha cpos pins s1 Y H1 _ I1 q1;rw [hs] at hA ⊢
 refine Calls.callWith_builtin (by show (false || (backTo cpos (starEach es X.env)).any (·.1))=false;rw [hplain] <;> rfl) (Calls.evalArgs_plain ?_);exact C4 hA fun us s2 ⟨vs,H2,I2,r2,q2⟩=>hm pins s2 Y H2 x vs v us Q I2 r1 r2 q2
end
end L2
namespace L2
open PySem PySem.Spec PyProof.Rows
noncomputable def eC (X:Cx) (id:String) (r:V->List V->Hp->VK->Prop):Prop:=
 ∀ (pins:List (Addr×Obj)) (s:Shared) (Y:St) (H:Hp) (x:V) (xs:List V) (v:Value) (us:List Value) (Q:VK),Inv X pins Y H s->RelV x v->Vals xs us->r x xs H Q->
  wpAny (model X.prog X.w) X.A (call (.builtin id) (v::us)) (EP X pins Y Q) X.xe s
theorem Vals.one:∀ {x:V} {us:List Value},Vals [x] us->∃ u,us=[u]/\RelV x u
 | _,_,.cons r .nil=>⟨_,rfl,r⟩
theorem Vals.two:∀ {x y:V} {us:List Value},Vals [x,y] us->∃ u v,us=[u,v]/\RelV x u/\RelV y v
 | _,_,_,.cons r (.cons q .nil)=>⟨_,_,rfl,r,q⟩
theorem Vals.zero:∀ {us:List Value},Vals [] us->us=[]
 | _,.nil=>rfl
theorem Vals.eraseIdx:∀ {xs:List V} {us:List Value} (i:Nat),Vals xs us->Vals (xs.eraseIdx i) (us.eraseIdx i)
 | _,_,_,.nil=>.nil
 | _,_,0,.cons _ t=>t
 | _,_,i+1,.cons r t=>.cons r (Vals.eraseIdx i t)
theorem Vals.reverse(h:Vals xs us):Vals xs.reverse us.reverse:=by
 induction h with
 | nil=>exact .nil
 | cons r t ih=>rw [List.reverse_cons,List.reverse_cons];exact Vals.append ih (.cons r .nil)
theorem Vals.rep(h:Vals xs us):∀ k:Nat,Vals (V5 k xs).flatten (V5 k us).flatten
 | 0=>.nil
 | k+1=>by
  rw [fV,fV,r8,r8];exact Vals.append h (Vals.rep h k)
theorem zK{α:Type} : ∀ (l:List α) (i:Nat),(l.eraseIdx i).length<=l.length
 | [],_=>C5 _
 | _::_,0=>Nat.le_succ _
 | _::r,i+1=>Nat.succ_le_succ (zK r i)
theorem zL(its:List Value):∀ (k:Nat) (acc:List Value),
  List.foldl (fun x1 x2=>x1++x2) acc.toArray (V5 k its.toArray)=(acc++(V5 k its).flatten).toArray
 | 0,acc=>by simp
 | k+1,acc=>by
  have e:acc.toArray++its.toArray=(acc++its).toArray:=by simp
  have e2:(acc++its)++(V5 k its).flatten=acc++(V5 (k+1) its).flatten:=by
   rw [fV,r8,U1]
  rw [<- e2,<- zL its k (acc++its),<- e,fV,List.foldl_cons]
section
variable {X:Cx} {pins:List (Addr×Obj)} {Y:St} {H:Hp} {s:Shared} {l b:Addr} {xs ys zs:List V}
theorem Inv.lset{its':List Value}{f:Array Value->Array Value}(I:Inv X pins Y H s)(hH:H l=some (.lst xs))(e:s.heap.get? l=some { cls:=.type "list",data:=.seq its.toArray n })(hf:f its.toArray=its'.toArray)(hv:Vals ys its')(hz:ys.length<=sizeLine) :
  Inv X pins Y (A4 H l (.lst ys)) { s with heap:=s.heap.update l (Obj.mapSeq f),toks:=t' }:=by
 have q:=PySem.IsL.update e f;rw [hf] at q;refine I.write (x:=l) (e:=l) (by rw [hH];exact trivial) (.inl rfl) (fun b' u hb hu=>(Heap.get?_update_other s.heap (Obj.mapSeq f) (Ne.symm hb)).trans hu) ⟨_,q⟩ ?_;exact ⟨hz,its',_,hv,q⟩
theorem Inv.lnew(I:Inv X pins Y H s)(hv:Vals ys its)(hz:ys.length<=sizeLine) :
  Inv X pins Y (A4 H s.heap.objs.size (.lst ys)) { s with heap:=s.heap.push { cls:=.type "list",data:=.seq its.toArray },toks:=t' }:=
 I.laid (fun _ _ q=>Heap.get?_push_of_some _ q) (C5 _) ⟨hz,its,0,hv,Heap.get?_push_size _ rfl⟩
theorem Inv.fresh(I:Inv X pins Y H s):H s.heap.objs.size=none:=I.hok.fresh (C5 _)
theorem Inv.lstM(I:Inv X pins Y H s)(hH:H l=some (.lst xs)):xs.length<=sizeLine/\∃ (its:List Value) (n:Nat),Vals xs its/\xs.length=its.length/\s.heap.get? l=some { cls:=.type "list",data:=.seq its.toArray n }:=by
 obtain ⟨z,its,n,r,e⟩:=I.hok l _ hH;exact ⟨z,its,n,r,r.length,e⟩
theorem zM(h:n<=sizeLine):Builtin.List.listTooLong n=false:=by
 unfold Builtin.List.listTooLong;exact decide_eq_false (by lia)
end
section
variable {X:Cx}
noncomputable def gF:V->List V->Hp->VK->Prop:=fun x vs H Q=>∃ l xs y,x=.ref l/\vs=[y]/\H l=some (.lst xs)/\xs.length<sizeLine/\Q .non (A4 H l (.lst (xs++[y])))
theorem zN:eC X "list.append" gF:=by
 intro pins s Y H x vs v us Q I rx rv h;obtain ⟨l,xs,y,rfl,rfl,hH,hz,q⟩:=h
 cases rx
 obtain ⟨u,rfl,ru⟩:=rv.one;obtain ⟨z,its,n,r,hl,e⟩:=I.lstM hH;refine call_meets F.slot_list_append ⟨_,e,rfl⟩ F.entry_list_append (F.args_list_append_2 _ _) (PySem.list_append l its.toArray n u (by rw [K3];lia)) ⟨e,?_⟩;refine ⟨.non,_,I.lset (its':=its++[u]) hH e (by simp) (r.append (.cons ru .nil)) ?_,rfl,q⟩;rw [D1,W7];lia
noncomputable def an8:V->List V->Hp->VK->Prop:=fun x vs H Q=>∃ l xs i k y,x=.ref l/\vs=[.int i]/\H l=some (.lst xs)/\-(2 ^ 63)<=i/\i<2 ^ 63/\seqIndex? i xs.length=some k/\xs[k]?=some y/\Q y (A4 H l (.lst (xs.eraseIdx k)))
theorem akB:eC X "list.pop" an8:=by
 intro pins s Y H x vs v us Q I rx rv h;obtain ⟨l,xs,i,k,y,rfl,rfl,hH,h1,h2,hk,hy,q⟩:=h
 cases rx
 obtain ⟨u,rfl,ru⟩:=rv.one;obtain ⟨t,rfl⟩:=ru;obtain ⟨z,its,n,r,hl,e⟩:=I.lstM hH;obtain ⟨w,hw,rw'⟩:=r.get hy;refine call_meets F.slot_list_pop ⟨_,e,rfl⟩ F.entry_list_pop (F.args_list_pop_2 _ _)
  (MeetsSeq.list_pop_at l its.toArray n i t k w (fitsIndex_both h1 h2) (by rw [K3,<- hl];exact hk) (by rw [<- Array.getElem?_toList];exact hw) (by rw [K3];lia)) ⟨e,?_⟩
 refine ⟨y,_,I.lset (its':=its.eraseIdx k) hH e ?_ (r.eraseIdx k) ?_,rw',q⟩
 .show its.toArray.eraseIdxIfInBounds k=(its.eraseIdx k).toArray;rw [List.eraseIdxIfInBounds_toArray]
 .have:=zK xs k
  lia
noncomputable def sB:V->List V->Hp->VK->Prop:=fun x vs H Q=>∃ l xs,x=.ref l/\vs=[]/\H l=some (.lst xs)/\Q .non (A4 H l (.lst xs.reverse))
theorem ah3:eC X "list.reverse" sB:=by
 intro pins s Y H x vs v us Q I rx rv h;obtain ⟨l,xs,rfl,rfl,hH,q⟩:=h
 cases rx
 have hus:=rv.zero;subst hus;obtain ⟨z,its,n,r,hl,e⟩:=I.lstM hH;refine call_meets F.slot_list_reverse ⟨_,e,rfl⟩ F.entry_list_reverse (F.args_list_reverse_1 _) (AutoSeq1.list_reverse_list_0 l its.toArray n (by rw [K3];lia)) ⟨e,?_⟩;refine ⟨.non,_,I.lset (its':=its.reverse) hH e (by simp) r.reverse ?_,rfl,q⟩;rw [List.length_reverse];lia
noncomputable def rCat:R2:=fun x y H Q=>∃ l b xs zs,x=.ref l/\y=.ref b/\H l=some (.lst xs)/\H b=some (.lst zs)/\xs.length+zs.length<=sizeLine/\∀ p,H p=none->Q (.ref p) (A4 H p (.lst (xs++zs)))
theorem an9:J5 X (binaryOp .Add) rCat:=by
 intro pins s Y H x y v u Q I rx ry h;obtain ⟨l,b,xs,zs,rfl,rfl,hH,hB,hz,q⟩:=h
 cases rx
 cases ry
 obtain ⟨z,its,n,r,hl,e⟩:=I.lstM hH;obtain ⟨z2,its2,n2,r2,e9,e2⟩:=I.lstM hB;refine PySem.P.add_list e e2 ?_ (by rw [K3,K3];lia);have ea:its.toArray++its2.toArray=(its++its2).toArray:=by simp
 rw [ea];exact ⟨.ref _,_,I.lnew (t':=s.toks) (r.append r2) (by rw [D1];lia),rfl,q _ I.fresh⟩
noncomputable def rRep:R2:=fun x y H Q=>∃ l k xs,x=.ref l/\y=.int k/\H l=some (.lst xs)/\-(2 ^ 63)<=k/\k<2 ^ 63/\xs.length*k.toNat<=sizeLine/\
 ∀ p,H p=none->Q (.ref p) (A4 H p (.lst (V5 k.toNat xs).flatten))
theorem amv{α:Type}(xs:List α)(k:Nat):(V5 k xs).flatten.length=k*xs.length:=by
 induction k with
 | zero=>simp
 | succ k ih=>rw [fV,r8,D1,ih,Nat.succ_mul,Nat.add_comm]
theorem aoa:J5 X (binaryOp .Mult) rRep:=by
 intro pins s Y H x y v u Q I rx ry h;obtain ⟨l,k,xs,rfl,rfl,hH,h1,h2,hz,q⟩:=h
 cases rx
 obtain ⟨t,rfl⟩:=ry;obtain ⟨z,its,n,r,hl,e⟩:=I.lstM hH;have C1:its.toArray.size*k.toNat<=sizeLine:=by rw [K3,<- hl];exact hz
 have wB:¬ its.toArray.size*k.toNat > (2 ^ 63-1) / 8:=by
  have:(sizeLine:Nat)<=(2 ^ 63-1) / 8:=by decide
  lia
 have wC:¬ (!Builtin.List.listFitsIndex k)=true:=by
  rw [fitsIndex_both h1 h2];exact K7
 have n5:¬ Builtin.List.listTooLong (its.toArray.size*k.toNat)=true:=by
  rw [zM C1];exact K7
 have Q9:List.foldl (fun x1 x2=>x1++x2) #[] (V5 (if its.toArray.isEmpty=true then 0 else k.toNat) its.toArray)=(V5 k.toNat its).flatten.toArray:=by
  have f0:∀ m:Nat,List.foldl (fun x1 x2=>x1++x2) #[] (V5 m its.toArray)=(V5 m its).flatten.toArray:=fun m=>by
   have:=zL its m []
   rw [fY] at this;exact this
  rw [f0]
  cases its with
  | nil=>simp
  | cons a r'=>rw [if_neg (by simp)]
 refine wpAny_binaryOp_repeat_ref (T:="list") (U:="int") (by decide) ⟨_,e,rfl⟩ (fun s'=>typeIs_int s' k t) noFill_list_mul F.fills_int_mul F.slot_int_rmul repeat_list F.slot_int_index.lookup
  (call_meets F.slot_int_rmul (typeIs_int s k t) F.entry_int_rmul (F.args_int_rmul_2 _ _) (int___rmul___int_list k t l its.toArray n)
   ⟨e,rfl,⟨_,e,rfl⟩,call_meets F.slot_list_mul ⟨_,e,rfl⟩ F.entry_list_mul (F.args_list_mul_2 _ _) (AutoListH.list___mul___list_int_3 l its.toArray n k t wC wB n5) ⟨e,?_⟩⟩)
 rw [Q9];exact ⟨.ref _,_,I.lnew (t':=s.toks) (r.rep k.toNat) (by rw [amv,Nat.mul_comm];exact hz),rfl,q _ I.fresh⟩
end
section
variable {prog:Program} {w:World} {A:Around} {E:Value->Shared->Prop} {s:Shared}
end
section
variable {X:Cx}
end
end L2
namespace Att
open PySem PySem.W PySem.Calls PyProof.Rows
theorem ad8{P:Params} : ∀ (ns:List Int) (vs:List Value),WellAll P h vs (ns.map WData.int)->IntsAre vs ns:=by
 intro ns
 induction ns with
 | nil=>
  intro vs w;rw [List.map_nil] at w
  cases w
  exact .nil
 | cons n ns ih=>
  intro vs w;rw [G6] at w
  cases w with
  | cons a b=>
   cases a
   exact .cons _ _ (ih _ b)
theorem ai1{l:OpenLaw}(hn:l.most=some n){P:Params}{args:List WData}{vals:List Value}(aV:l.row.toRowW.claim.pre args=true)(cU:WellAll P h vals args) :
  ∃ a vs ns,vals=[Value.ref a]/\args=[WData.list (ns.map WData.int)]/\h.get? a=some { cls:=.type "list",data:=.seq vs.toArray }/\IntsAre vs ns/\ns.length<=n:=by
 have hsh:WShape.hasAll [] args [.list .int]=true:=(pre_splitW aV).1;have hc:l.pre.holds [] { args:=args }=true:=(pre_splitW aV).2;obtain ⟨d,r,rfl,h1,h2⟩:=hasAllW_cons hsh;obtain rfl:=hasAllW_nil h2;obtain ⟨xs,rfl,h3⟩:=hasW_list h1;obtain ⟨ns,rfl⟩:=items_int h3;have C1:ns.length<=n:=by
  unfold OpenLaw.pre at hc;have h4:(WTm.not (.lt (.lit (.int (n:Int))) (.len (.arg 0)))).holds [] { args:=[.list (ns.map .int)] }=true:=by
   have h4:=(holds_andW hc).1;rw [hn] at h4;exact h4
  have h5:=condW_of h4 (w_not (w_lt w_lit (w_len_list (w_arg rfl))));rw [A7] at h5;refine Nat.le_of_not_lt fun q=>?_
  have q':(n:Int)<((ns.length:Nat):Int):=by lia
  first
   | (rw [decide_eq_true q'] at h5;exact absurd h5 (by decide))
   | (simp at h5;lia)
 cases cU with
 | cons w1 w2=>
  cases w2
  cases w1 with
  | list ho aW=>exact ⟨_,_,ns,rfl,rfl,ho,ad8 ns _ aW,C1⟩
theorem ai2(l:OpenLaw)(args:List WData):l.row.toRowW.claim.post args (.bool true) args=true:=
 postW_of (r:=l.row.toRowW) (X:=(true==true))
  (show WShape.has [] (.bool true) .bool=true by first | rfl | decide | simp [WShape.has,WShape.arms,WShape.armsAll])
  (show (WTm.eq .res (.lit (.bool true))).value [] { args:=args,res:=some (.bool true),after:=args }=some (.bool (true==true)) from w_eq_bool (w_res rfl) w_lit) rfl
theorem attach_call{l:OpenLaw}{q:Program}{XP:(Str->Option Value)->Heap->Prop}{YP:World->Heap->Prop}{d:DefRec}(hn:l.most=some n)(x6:d.params.defaults=[])(call:∀ (w:World) (s₀ zu:Shared) (mg mb:Str->Option Value) (fa:Addr) (o:Obj) (pm cd doc:Value) (a:Addr) (vs:List Value) (ns:List Int),
   Ground q loose [] XP w s₀ mg mb zu.heap->YP w zu.heap->
   zu.heap.get? fa=some o->o.data=.func (docDef d.name d.params d.body d.scope pm cd doc)->zu.heap.CodeRec cd d.name->mg d.name=some (.ref fa)->
   zu.heap.get? a=some { cls:=.type "list",data:=.seq vs.toArray }->IntsAre vs ns->ns.length<=n->zu.gens=#[]->
   codeAny (model l.prog w) callerA (.call (.ref fa) ⟨[.ref a],[]⟩) (fun r s'=>r=.ok (.ret (.bool true))/\OldK zu.heap s'.heap/\s'.os=zu.os/\AllBare s'.gens) zu) :
  WalkO q loose XP YP l.row.toRowW d [] (fun f vs=>PySem.call f vs):=by
 intro w s₀ zu mg mb G zy fa o pm cd doc dV kV ho hd i9 hD lO hg args vals as aV hlay hrd cU hlo;obtain rfl:dV=.none:=Dflts.none hD x6;obtain rfl:kV=.none:=Dflts.noKw hD;obtain ⟨a,vs,ns,rfl,rfl,fD,n6,C1⟩:=ai1 hn aV cU;refine enter_call (codeAny_mono (call w s₀ zu mg mb fa o pm cd doc a vs ns G zy ho (fd_plain hd) i9 lO fD n6 C1 hg) fun r s' hq=>?_);obtain ⟨rfl,h2,h3,h4⟩:=hq;exact ⟨.inl ⟨.bool true,.bool true,[],rfl,fun _=>rfl,.bool true,ai2 l _,fun _=>⟨List.Pairwise.nil,fun _ hm=>(nomatch hm)⟩⟩,h2,h3,h4⟩
section
variable {prog:Program} {w:World} {A:Around} {E:Value->Shared->Prop} {s:Shared} {K:Frag}
end
end Att
namespace L2
open PySem PySem.Spec PyProof.Rows
theorem zO:∀ {vs:List Value} {ns:List Int},IntsAre vs ns->Vals (ns.map V.int) vs
 | _,_,.nil=>.nil
 | _,_,.cons n t h=>.cons ⟨t,rfl⟩ (zO h)
noncomputable def Only (H:Hp):Prop:=∀ b,H b=none\/∃ o xs,H b=some (.frz o (.lst xs))
theorem akC{P:Program}{w:World}{mb:Str->Option Value}{CX:Z7}{x:Str}{zu:Shared}{vs:List Value}(KX:K.In zu.heap)(cV:zu.heap.Ns mainGlobals mg)(hb:zu.heap.Ns builtinsNs mb)(hbb:∀ x:Str,x≠"__name__"->mb x=bootBuiltins x)(wD:zu.heap.NoLimit)(hg:zu.gens=#[])(ha:zu.heap.get? a=some { cls:=.type "list",data:=.seq vs.toArray })(hi:IntsAre vs ns)(hl:ns.length<=sizeLine)(hr:Room k callerA)(F:∀ base:Heap,K.In base->base.Ns mainGlobals mg->FnOk P w K mg base CX k fa fd [x] sp)(lP:∀ (s:Shared) (u:Value),BindsTo s fd ⟨[u],[]⟩ [(x,u)])(cT:∀ H:Hp,Only H->E5 K H a (ns.map V.int)->sp [.ref a] H (fun v _=>v=.bl true) fun _ _ _=>False)(hCX:∀ H e s',CX [] H zu (fun _ _ _=>False) e s'->False) :
  codeAny (model P w) callerA (.call (.ref fa) ⟨[.ref a],[]⟩) (fun r s'=>r=.ok (.ret (.bool true))/\OldK zu.heap s'.heap/\s'.os=zu.os/\AllBare s'.gens) zu:=by
 have rv:=zO hi;have lenV:=hi.length;have core:∀ H:Hp,Only H->E5 K H a (ns.map V.int)->M3 P w H zu.heap->(∀ b,H b≠none->b=a)->(H a≠none->K.lookup a=none)->
   codeAny (model P w) callerA (.call (.ref fa) ⟨[.ref a],[]⟩) (fun r s'=>r=.ok (.ret (.bool true))/\OldK zu.heap s'.heap/\s'.os=zu.os/\AllBare s'.gens) zu:=by
  intro H hO hS hok hA hK;have base_of:∀ {b:Addr} {o:Obj},zu.heap.get? b=some o->H b=none->(hidT zu.heap H).get? b=some o:=fun e n=>akk e n
  have noA:∀ {b:Addr} {o:Obj} {es:Array DictEntry} {ep:Nat},zu.heap.get? b=some o->o.data=.dict es ep->H b=none:=fun {b o es ep} e d=>by
   cases q:H b with
   | none=>rfl
   | some u=>
    have e':b=a:=hA b (by rw [q];simp);subst e';rw [ha] at e;cases e;have d':Data.seq vs.toArray _=Data.dict es ep:=d
    cases d'
  have nsK:∀ {b:Addr} {m:Str->Option Value},zu.heap.Ns b m->(hidT zu.heap H).Ns b m:=fun {b m} ⟨o,es,ep,e,d,r⟩=>⟨o,es,ep,base_of e (noA e d),d,r⟩
  have hKb:K.In (hidT zu.heap H):=fun b o e=>base_of (KX b o e) (by
   cases q:H b with
   | none=>rfl
   | some u=>
    have e':b=a:=hA b (by rw [q];simp);subst e';rw [hK (by rw [q];simp)] at e;cases e)
  have hM:Mod K mg (hidT zu.heap H):=⟨hKb,nsK cV,⟨mb,nsK hb,hbb⟩,let ⟨mc,h1,h2⟩:=wD;⟨mc,nsK h1,h2⟩⟩
  have e0:Env0 P w K mg (hidT zu.heap H) callerA [] zu H:=⟨rfl,hM,fun b o e=>al3 e,Nat.le_of_eq (aiE _ _),trivial,fun b hb=>absurd (show b∈([]:List Addr) from hb) (by simp),hok,.of_eq hg⟩
  refine codeAny_mono ((F _ hKb (nsK cV)).run callerA [] zu H ⟨[.ref a],[]⟩ [.ref a] [.ref a] _ _ hr e0 (lP zu (.ref a)) (.cons rfl .nil) (cT H hO hS)) fun r s' h=>?_
  cases r with
  | error e=>exact (hCX H e s' h).elim
  | ok fl=>
   cases fl with
   | next=>exact False.elim h
   | brk=>exact False.elim h
   | cont=>exact False.elim h
   | ret u=>
    obtain ⟨v,H',os,bare,un,wE,r',q⟩:=h;have q':v=.bl true:=q;subst q';obtain rfl:u=Value.bool true:=r';refine ⟨rfl,OldK.of_keep fun b o e=>?_,os,bare⟩
    cases q:H b with
    | none=>exact un.keep b o e q (by intro z;exact absurd (show b∈([]:List Addr) from z) (by simp)) (by simp)
    | some u=>
     rcases hO b with z | ⟨ob,xs,z⟩
     .rw [q] at z;cases z
     .have z2:=un.frzs b ob _ z;obtain ⟨e1,_⟩:=hok b _ z;obtain ⟨e2,_⟩:=wE b _ z2;rw [e] at e1;cases e1;exact e2
 cases hk:K.lookup a with
 | some o=>
  have e:=KX a o hk;rw [ha] at e;cases e;refine core (fun _=>none) (fun _=>.inl rfl) (.inr ⟨_,vs.toArray,_,hk,rfl,rfl,rfl,by rw [K3,lenV];exact hl,by simpa using rv⟩) (fun b u z=>by have z':(none:Option HO)=some u:=z;cases z') (fun b z=>absurd rfl z) fun z=>absurd rfl z
 | none=>
  refine core (fun b=>if b=a then some (.frz { cls:=.type "list",data:=.seq vs.toArray } (.lst (ns.map V.int))) else none) (fun b=>?_) (.inl (.inr ⟨{ cls:=.type "list",data:=.seq vs.toArray },if_pos rfl⟩)) (fun b u z=>?_) (fun b z=>?_) fun _=>hk
  .by_cases hb:b=a
   .exact .inr ⟨_,_,if_pos hb⟩
   .exact .inl (if_neg hb)
  .by_cases hb:b=a
   .have z':=(if_pos hb).symm.trans z
    cases z'
    subst hb;exact ⟨ha,by rw [A7];exact hl,vs,_,rv,ha⟩
   .have z':=(if_neg hb).symm.trans z
    cases z'
  .by_cases hb:b=a
   .exact hb
   .exact absurd (if_neg hb) z
end L2
namespace L2
open PySem PySem.Spec PyProof.Rows
theorem walk_of{l:PySem.W.OpenLaw}{q:Program}{XP:(Str->Option Value)->Heap->Prop}{YP:World->Heap->Prop}{d:DefRec}{K:Params->PySem.W.Frag}{CX:World->Z7}{sp:World->Sp}{x:Str}(hn:l.most=some n)(pW:n<=sizeLine)(x6:d.params.defaults=[])(hr:Room k callerA)(hY:∀ (w:World) (h:Heap),YP w h->(K w.params).In h)(F:∀ (w:World) (mg:Str->Option Value) (fa:Addr) (h:Heap),(K w.params).In h->h.Ns mainGlobals mg->mg d.name=some (.ref fa)->
   ∃ fd:FuncData,(∀ (s:Shared) (u:Value),BindsTo s fd ⟨[u],[]⟩ [(x,u)])/\
    ∀ base:Heap,(K w.params).In base->base.Ns mainGlobals mg->FnOk l.prog w (K w.params) mg base (CX w) k fa fd [x] (sp w))(cT:∀ (w:World) (H:Hp) (a:Addr) (ns:List Int),ns.length<=n->Only H->E5 (K w.params) H a (ns.map V.int)->sp w [.ref a] H (fun v _=>v=.bl true) fun _ _ _=>False)(hCX:∀ (w:World) (H:Hp) (s:Shared) (e:Value) (s':Shared),CX w [] H s (fun _ _ _=>False) e s'->False) :
  PySem.W.WalkO q loose XP YP l.row.toRowW d [] (fun f vs=>PySem.call f vs):=by
 refine Att.attach_call hn x6 fun w s₀ zu mg mb fa o pm cd doc a vs ns G zy ho hd i9 lO fD n6 C1 hg=>?_
 have KX:=hY w _ zy;obtain ⟨fd,hb,hF⟩:=F w mg fa _ KX G.T.g lO;exact akC KX G.T.g G.T.b G.T.builtins G.T.nolimit hg fD n6 (K6 C1 pW) hr hF hb (fun H hO hS=>cT w H a ns C1 hO hS) fun H e s'=>hCX w H zu e s'
end L2
namespace L2
open PySem PySem.Spec PyProof.Rows
noncomputable def gG (s:Stmt) (j:Nat):Stmt:=match s with
 | .ClassDef _ _ _ body _ _ _ _ _ _ _=>body.getD j (.Pass ⟨0,0,0,0⟩)
 | _=>.Pass ⟨0,0,0,0⟩
noncomputable def V9 (s:Stmt):Arguments:=match s with
 | .FunctionDef _ a _ _ _ _ _ _ _ _=>a
 | _=>{ posonlyargs:=[],args:=[],vararg:=none,kwonlyargs:=[],kw_defaults:=[],kwarg:=none,defaults:=[] }
noncomputable def U4 (s:Stmt):List Stmt:=match s with
 | .FunctionDef _ _ b _ _ _ _ _ _ _=>b
 | _=>[]
noncomputable def C6 (s:Stmt):Scope:=match s with
 | .FunctionDef _ _ _ _ _ _ sc _ _ _=>sc
 | _=>{ kind:=.function,names:=[],isGenerator:=false,isCoroutine:=false }
noncomputable abbrev E8:Z7:=fun _ _ _ _ _ _=>False
noncomputable abbrev E0:XK:=fun _ _ _=>False
theorem pass0 : eA E8 X E0:=fun _ _ _ _ _ _ _ h=>h.elim
structure Fun(K:PySem.W.Frag)(x qual:Str)(st:Stmt)(f:Addr)(fd:FuncData):Prop where
 ex:∃ (oc:Value) (od:Option Addr) (kV doc pm:Value) (an:Option Addr) (cdv ct:Value) (osl:Array (Option Value)),
  fd=T6 x qual (V9 st) (U4 st) (C6 st) .none kV doc pm an cdv ct/\K.lookup f=some ⟨oc,od,.func fd,osl⟩/\Y0 K cdv qual=true
 kp:V8 K (.ref f)=true
section
variable {P:Program} {w:World} {K:PySem.W.Frag} {mg:Str->Option Value} {base:Heap}
end
theorem hu_of(hr:Room k A):A.units+1<cLine:=Nat.lt_of_le_of_lt (Nat.add_le_add_left (by decide:1<=64) _) hr.units
section
variable {X:Cx}
end
theorem iteF{A B:Prop}(h:B):if false=true then A else B:=by
 rw [if_neg K7];exact h
theorem iteT{A B:Prop}(h:A):if true=true then A else B:=by
 rw [if_pos rfl];exact h
noncomputable def Same (H H':Hp):Prop:=∀ b o,H b=some o->H' b=some o
theorem Same.refl(H:Hp):Same H H:=fun _ _ h=>h
theorem Same.trans(a:Same H H1)(b:Same H1 H2):Same H H2:=fun c o h=>b c o (a c o h)
theorem Same.free(e:Same H H'){l:Addr}(h:H' l=Option.none):H l=Option.none:=by
 cases q:H l with
 | none=>rfl
 | some o=>
  rw [e l o q] at h;cases h
theorem Same.seq(e:Same H H')(h:E5 K H a xs):E5 K H' a xs:=by
 rcases h with (h | ⟨o,h⟩) | h
 .exact .inl (.inl (e _ _ h))
 .exact .inl (.inr ⟨o,e _ _ h⟩)
 .exact .inr h
end L2
set_option maxRecDepth 100000
namespace L2
open PySem PySem.Spec PyProof.Rows
section
variable {κ:Type} [DecidableEq κ]
noncomputable def valV (kvs:List (κ×V)) (k:κ):Option V:=(kvs.find? fun kv=>decide (kv.1=k)).map (·.2)
noncomputable def putK (kvs:List (κ×V)) (k:κ) (v:V):List (κ×V):=
 if (kvs.any fun kv=>decide (kv.1=k))=true then kvs.map (fun kv=>if kv.1=k then (kv.1,v) else kv) else kvs++[(k,v)]
theorem nP{p:κ×V}{r:List (κ×V)}{k:κ}(e:p.1=k):valV (p::r) k=some p.2:=by simp [valV,t4,e]
theorem aH{p:κ×V}{r:List (κ×V)}{k:κ}(e:¬ p.1=k):valV (p::r) k=valV r k:=by simp [valV,t4,e]
theorem sC(k:κ):∀ kvs:List (κ×V),(kvs.any fun kv=>decide (kv.1=k))=(valV kvs k).isSome
 | []=>rfl
 | p::r=>by
  rw [z8]
  by_cases e:p.1=k
  .simp only [nP e,decide_eq_true e,Bool.true_or,Option.isSome_some]
  .rw [aH e,decide_eq_false e,Bool.false_or];exact sC k r
theorem sD(kvs:List (κ×V))(k:κ)(v:V):(putK kvs k v).length<=kvs.length+1:=by
 unfold putK
 split
 .rw [A7];lia
 .rw [D1,F8,V4];lia
theorem akD{kvs:List (κ×V)}{k:κ}(v:V)(h:valV kvs k=none):putK kvs k v=kvs++[(k,v)]:=by
 unfold putK;rw [sC,h];exact if_neg (by decide)
theorem RelO.isSome_eq{o:Option V}{u:Option Value}(r:RelO o u):o.isSome=u.isSome:=by
 cases o with
 | none=>cases u with
  | none=>rfl
  | some _=>exact (show False from r).elim
 | some _=>cases u with
  | none=>exact (show False from r).elim
  | some _=>rfl
theorem RelO.getD{o:Option V}{u:Option Value}{d:V}{d':Value}(r:RelO o u)(rd:RelV d d'):RelV (o.getD d) (u.getD d'):=by
 cases o with
 | none=>cases u with
  | none=>exact rd
  | some _=>exact (show False from r).elim
 | some _=>cases u with
  | none=>exact (show False from r).elim
  | some _=>exact r
theorem KV.val{kvs:List (κ×V)}{vs:List (κ×Value)}(r:KV kvs vs)(k:κ):RelO (valV kvs k) (valueAt vs k):=by
 unfold KV at r
 induction r with
 | nil=>exact True.intro
 | @cons p q ps qs h t ih=>
  obtain ⟨h1,h2⟩:=h
  by_cases e:p.1=k
  .have e':q.1=k:=h1.symm.trans e;have b:valueAt (q::qs) k=some q.2:=by simp [valueAt,t4,e']
   rw [nP e,b];exact h2
  .have e':¬ q.1=k:=fun z=>e (h1.trans z)
   have b:valueAt (q::qs) k=valueAt qs k:=by simp [valueAt,t4,e']
   rw [aH e,b];exact ih
theorem KV.any{kvs:List (κ×V)}{vs:List (κ×Value)}(r:KV kvs vs)(k:κ):(kvs.any fun kv=>decide (kv.1=k))=vs.any fun kv=>decide (kv.1=k):=by
 unfold KV at r
 induction r with
 | nil=>rfl
 | cons h t ih=>rw [z8,z8,ih,h.1]
theorem KV.repl{kvs:List (κ×V)}{vs:List (κ×Value)}(r:KV kvs vs)(k:κ)(ry:RelV y u) :
  KV (kvs.map fun kv=>if kv.1=k then (kv.1,y) else kv) (vs.map fun kv=>if kv.1=k then (kv.1,u) else kv):=by
 unfold KV at r ⊢
 induction r with
 | nil=>exact .nil
 | @cons p q ps qs h t ih=>
  rw [G6,G6];refine .cons ?_ ih;obtain ⟨h1,h2⟩:=h
  by_cases e:p.1=k
  .rw [if_pos e,if_pos (h1.symm.trans e)];exact ⟨h1,ry⟩
  .rw [if_neg e,if_neg (fun z=>e (h1.trans z))];exact ⟨h1,h2⟩
theorem KV.put{kvs:List (κ×V)}{vs:List (κ×Value)}(r:KV kvs vs)(k:κ)(ry:RelV y u):KV (putK kvs k y) (stored vs k u):=by
 unfold putK stored;rw [r.any k]
 by_cases e:(vs.any fun kv=>decide (kv.1=k))=true
 .rw [if_pos e,if_pos e];exact r.repl k ry
 .rw [if_neg e,if_neg e];exact Paired.snoc r ⟨rfl,ry⟩
theorem KV.keys{kvs:List (κ×V)}{vs:List (κ×Value)}(r:KV kvs vs):kvs.map (·.1)=vs.map (·.1):=by
 unfold KV at r
 induction r with
 | nil=>rfl
 | cons h t ih=>rw [G6,G6,ih,h.1]
theorem KV.length{kvs:List (κ×V)}{vs:List (κ×Value)}(r:KV kvs vs):kvs.length=vs.length:=Paired.length r
end
theorem kV_is{P:Program}{w:World}{k:C3}(r:RelV (kV k) u):(N8 P w).is k u=true:=by
 cases k with
 | inl i=>obtain ⟨t,e⟩:=(show ∃ t,u=Value.int i t from r);subst e;exact agC P w i t
 | inr x=>obtain ⟨t,e⟩:=(show ∃ t,u=Value.str x t from r);subst e;exact agD P w x t
theorem zP{P:Program}{w:World} : ∀ {ks:List C3} {us:List Value},Vals (ks.map kV) us->ItemsAre (N8 P w) ks us
 | [],_,r=>by rw [List.map_nil] at r;cases r;exact .nil
 | k::ks,_,r=>by
  rw [G6] at r
  cases r with
  | cons h t=>exact .cons (kV_is h) (zP t)
noncomputable abbrev KT (H:Hp):List (List C3×V)->List (List C3×Addr×Value)->Prop:=Paired fun p q=>p.1=q.1/\H q.2.1=some (.tup (p.1.map kV))/\RelV p.2 q.2.2
theorem KT.val{kvs:List (List C3×V)}{xs:List (List C3×Addr×Value)}(r:KT H kvs xs)(k:List C3):RelO (valV kvs k) ((atKey xs k).map (·.2)):=by
 induction r with
 | nil=>exact True.intro
 | @cons p q ps qs h t ih=>
  obtain ⟨h1,_,h2⟩:=h
  by_cases e:p.1=k
  .have e':q.1=k:=h1.symm.trans e;have b:atKey (q::qs) k=some q.2:=by simp [atKey,t4,e']
   rw [nP e,b];exact h2
  .have e':¬ q.1=k:=fun z=>e (h1.trans z)
   have b:atKey (q::qs) k=atKey qs k:=by simp [atKey,t4,e']
   rw [aH e,b];exact ih
theorem KT.repl{kvs:List (List C3×V)}{xs:List (List C3×Addr×Value)}(r:KT H kvs xs)(k:List C3)(ry:RelV y u) :
  KT H (kvs.map fun kv=>if kv.1=k then (kv.1,y) else kv) (xs.map (putAt k u)):=by
 induction r with
 | nil=>exact .nil
 | @cons p q ps qs h t ih=>
  rw [G6,G6];refine .cons ?_ ih;obtain ⟨h1,h2,h3⟩:=h;unfold putAt
  by_cases e:p.1=k
  .rw [if_pos e,if_pos (h1.symm.trans e)];exact ⟨h1,h2,ry⟩
  .rw [if_neg e,if_neg (fun z=>e (h1.trans z))];exact ⟨h1,h2,h3⟩
theorem KT.put{kvs:List (List C3×V)}{xs:List (List C3×Addr×Value)}(r:KT H kvs xs)(k:List C3)(hb:H b=some (.tup (k.map kV)))(ry:RelV y u) :
  KT H (putK kvs k y) (storedH xs k b u):=by
 have e:(kvs.any fun kv=>decide (kv.1=k))=(atKey xs k).isSome:=by
  rw [sC,(r.val k).isSome_eq,Option.isSome_map]
 unfold putK storedH;rw [e]
 by_cases q:(atKey xs k).isSome=true
 .rw [if_pos q,if_pos q];exact r.repl k ry
 .rw [if_neg q,if_neg q];exact Paired.snoc r ⟨rfl,hb,ry⟩
theorem KT.keeps{kvs:List (List C3×V)}{xs:List (List C3×Addr×Value)}(r:KT H kvs xs)(ht:∀ b ys,H b=some (.tup ys)->H' b=some (.tup ys)):KT H' kvs xs:=
 O6 r fun _ _ z=>⟨z.1,ht _ _ z.2.1,z.2.2⟩
section
variable {P:Program} {w:World} {H:Hp} {h:Heap} {a:Addr}
theorem rd_of{u:HO}(ok:M3 P w H h)(e:Rd H a u):ObjOk P w H h a u:=e.ok ok
theorem dk_rd(ok:M3 P w H h)(e:Rd H a (.dK kvs)):kvs.length<=sizeLine/\(a==sysModules)=false/\∃ vs,KV kvs vs/\h.DictOf (N8 P w) a vs:=
 show ObjOk P w H h a (.dK kvs) from rd_of ok e
theorem dk_of(ok:M3 P w H h)(e:H a=some (.dK kvs)):kvs.length<=sizeLine/\(a==sysModules)=false/\∃ vs,KV kvs vs/\h.DictOf (N8 P w) a vs:=dk_rd ok (.inl e)
theorem eD{ks:List C3}(ok:M3 P w H h)(e:H a=some (.tup (ks.map kV))):(tupleKind (N8 P w)).is h ks a:=by
 obtain ⟨_,its,r,o,h1,h2,n,h3⟩:=(show ObjOk P w H h a (.tup (ks.map kV)) from ok a _ e)
 exact ⟨o,its.toArray,n,h1,h2,h3,by simpa using zP r⟩
theorem dt_rd{kvs:List (List C3×V)}(ok:M3 P w H h)(e:Rd H a (.dT kvs)):kvs.length<=sizeLine/\(a==sysModules)=false/\
  ∃ xs,KT H kvs xs/\h.DictOfH (tupleKind (N8 P w)) a xs:=by
 obtain ⟨z,y,xs,r,o,es,ep,h1,h2,h3,h4,h5⟩:=(show ObjOk P w H h a (.dT kvs) from rd_of ok e)
 refine ⟨z,y,xs,r,o,es,ep,h1,h2,h3,h4,fun x hx=>?_,h5⟩;have all:∀ {l:List (List C3×V)} {m:List (List C3×Addr×Value)},KT H l m->∀ x∈m,(tupleKind (N8 P w)).is h x.1 x.2.1:=by
  intro l m q
  induction q with
  | nil=>intro x hx;exact nomatch hx
  | @cons p q ps qs hq t ih=>
   intro x hx
   rcases D9.mp hx with e | hx
   .subst e;exact eD ok (by rw [<- hq.1];exact hq.2.1)
   .exact ih x hx
 exact all r x hx
theorem dt_of{kvs:List (List C3×V)}(ok:M3 P w H h)(e:H a=some (.dT kvs)):kvs.length<=sizeLine/\(a==sysModules)=false/\
  ∃ xs,KT H kvs xs/\h.DictOfH (tupleKind (N8 P w)) a xs:=dt_rd ok (.inl e)
end
noncomputable def DGet (H:Hp) (a:Addr) (y:V) (r:Option V):Prop:=
 (∃ kvs k,Rd H a (.dK kvs)/\y=kV k/\r=valV kvs k)\/∃ kvs k b,Rd H a (.dT kvs)/\y=.ref b/\H b=some (.tup (k.map kV))/\r=valV kvs k
noncomputable def DPut (H:Hp) (a:Addr) (y v:V) (H':Hp):Prop:=
 (∃ kvs k,H a=some (.dK kvs)/\y=kV k/\kvs.length<sizeLine/\H'=A4 H a (.dK (putK kvs k v)))\/
 ∃ kvs k b,H a=some (.dT kvs)/\y=.ref b/\H b=some (.tup (k.map kV))/\kvs.length<sizeLine/\H'=A4 H a (.dT (putK kvs k v))
theorem Y2{k:C3}(e:H a=some (.dK kvs)):DGet H a (kV k) (valV kvs k):=.inl ⟨kvs,k,.inl e,rfl,rfl⟩
theorem k8{k:C3}{v:V}(e:H a=some (.dK kvs))(hl:kvs.length<sizeLine):DPut H a (kV k) v (A4 H a (.dK (putK kvs k v))):=.inl ⟨kvs,k,e,rfl,hl,rfl⟩
section
variable {X:Cx} {pins:List (Addr×Obj)} {Y:St} {H:Hp} {s:Shared} {a:Addr} {y v:V} {u r:Value} {o:Option V} {A:Around} {E:Value->Shared->Prop}
theorem Inv.big(I:Inv X pins Y H s):sysModules<s.heap.objs.size:=by
 have h:mainGlobals<s.heap.objs.size:=(I.mod.glob.keeps I.bk).lt;exact Nat.lt_trans (by decide) h
theorem zQ{Q:Value->Shared->Prop}(hu:A.units+1<cLine)(I:Inv X pins Y H s)(g:DGet H a y (some v))(ry:RelV y u)(h:∀ w' s',Inv X pins Y H s'->RelV v w'->Q w' s') :
  wpAny (model X.prog X.w) A (getItem (.ref a) u) Q E s:=by
 rcases g with ⟨kvs,k,e,ey,l⟩ | ⟨kvs,k,b,e,ey,eb,l⟩
 .subst ey;obtain ⟨z,hd,vs,rel,dd⟩:=dk_rd I.hok e;obtain ⟨w',hw,rw'⟩:=nM (v:=v) (o:=valueAt vs k) (by rw [l];exact rel.val k);exact wpAny_getItem_of (kV_is ry) dd.mapOf hw (h w' _ (I.tok _) rw')
 .subst ey
  cases (show u=Value.ref b from ry)
  obtain ⟨z,hd,xs,rel,dd⟩:=dt_rd I.hok e;obtain ⟨w',hw,rw'⟩:=nM (v:=v) (o:=(atKey xs k).map (·.2)) (by rw [l];exact rel.val k);obtain ⟨p,hp,fE⟩:=Option.map_eq_some_iff.mp hw;refine wpAny_getItem_heap (tupleKind_room_in1 hu) (eD I.hok eb) dd hp ?_;rw [fE];exact h w' _ (I.tok _) rw'
theorem d_in{Q:Value->Shared->Prop}(hu:A.units+1<cLine)(I:Inv X pins Y H s)(g:DGet H a y o)(ry:RelV y u)(h:∀ s',Inv X pins Y H s'->Q (.bool o.isSome) s') :
  wpAny (model X.prog X.w) A (compareOp .In u (.ref a)) Q E s:=by
 rcases g with ⟨kvs,k,e,ey,l⟩ | ⟨kvs,k,b,e,ey,eb,l⟩
 .subst ey;obtain ⟨z,hd,vs,rel,dd⟩:=dk_rd I.hok e;refine wpAny_in_of (kV_is ry) hd dd.mapOf ?_;rw [<- (rel.val k).isSome_eq,<- l];exact h _ (I.tok _)
 .subst ey
  cases (show u=Value.ref b from ry)
  obtain ⟨z,hd,xs,rel,dd⟩:=dt_rd I.hok e;refine wpAny_in_heap (tupleKind_room_in1 hu) (eD I.hok eb) hd dd ?_;have q:=(rel.val k).isSome_eq;rw [Option.isSome_map] at q;rw [<- q,<- l];exact h _ (I.tok _)
theorem amw{Q:Value->Shared->Prop}(hu:A.units+1<cLine)(I:Inv X pins Y H s)(g:DGet H a y o)(ry:RelV y u)(h:∀ s',Inv X pins Y H s'->Q (.bool (!o.isSome)) s') :
  wpAny (model X.prog X.w) A (compareOp .NotIn u (.ref a)) Q E s:=by
 rcases g with ⟨kvs,k,e,ey,l⟩ | ⟨kvs,k,b,e,ey,eb,l⟩
 .subst ey;obtain ⟨z,hd,vs,rel,dd⟩:=dk_rd I.hok e;refine wpAny_notIn_of (kV_is ry) hd dd.mapOf ?_;rw [<- (rel.val k).isSome_eq,<- l];exact h _ (I.tok _)
 .subst ey
  cases (show u=Value.ref b from ry)
  obtain ⟨z,hd,xs,rel,dd⟩:=dt_rd I.hok e;refine wpAny_notIn_heap (tupleKind_room_in1 hu) (eD I.hok eb) hd dd ?_;have q:=(rel.val k).isSome_eq;rw [Option.isSome_map] at q;rw [<- q,<- l];exact h _ (I.tok _)
theorem sE{ob:HO}(I:Inv X pins Y H s)(mu:jN (H a))(hs:Heap.SameBut a s.heap h')(he:∃ q,h'.get? a=some q)(new:ObjOk X.prog X.w (A4 H a ob) h' a ob) :
  Inv X pins Y (A4 H a ob) { s with heap:=h',toks:=t' }:=
 I.write (x:=a) (e:=a) mu (.inl rfl) (fun b q hb z=>(hs.2 b hb).trans z) he new
theorem sF{P:Program}{w:World}{vs:List (C3×Value)}(z:kvs.length<=sizeLine)(hd:(a==sysModules)=false)(rel:KV kvs vs)(dd:h'.DictOf (N8 P w) a vs) :
  ObjOk P w H' h' a (.dK kvs):=⟨z,hd,vs,rel,dd⟩
theorem zR{Q:Unit->Shared->Prop}(hu:A.units+1<cLine)(I:Inv X pins Y H s)(g:DPut H a y v H')(ry:RelV y u)(rv:RelV v r)(h:∀ s',Inv X pins Y H' s'->Q () s') :
  wpAny (model X.prog X.w) A (setItem (.ref a) u r) Q E s:=by
 rcases g with ⟨kvs,k,e,ey,l,eH⟩ | ⟨kvs,k,b,e,ey,eb,l,eH⟩
 .subst ey eH;obtain ⟨z,hd,vs,rel,dd⟩:=dk_of I.hok e;have hz:vs.length<=sizeLine:=by rw [<- rel.length];exact z
  have hl:(putK kvs k v).length<=sizeLine:=by have:=sD kvs k v;lia
  refine wpAny_setItem_pairs (hsz:=hz) (kV_is ry) dd fun h' dd' hs=>h _ ?_
  have he:∃ q,h'.get? a=some q:=let ⟨q,_,_,hq,_⟩:=dd';⟨q,hq⟩
  exact sE I (by rw [e];exact True.intro) hs he (sF hl hd (rel.put k rv) dd')
 .subst ey eH
  cases (show u=Value.ref b from ry)
  obtain ⟨z,hd,xs,rel,dd⟩:=dt_of I.hok e;have hz:xs.length<=sizeLine:=by rw [<- Paired.length rel];exact z
  have hl:(putK kvs k v).length<=sizeLine:=by have:=sD kvs k v;lia
  refine wpAny_setItem_heap (hsz:=hz) (tupleKind_room_in1 hu) (eD I.hok eb) dd fun h' dd' hs=>h _ ?_
  obtain ⟨q,es,ep,hq,h2,h3,h4,_,h5⟩:=dd';refine sE I (by rw [e];exact True.intro) hs ⟨q,hq⟩ ⟨hl,hd,_,(rel.put k eb rv).keeps fun c ys ec=>?_,q,es,ep,hq,h2,h3,h4,h5⟩;rw [A9 (ne_of ec e (fun z=>nomatch z))];exact ec
end
section
variable {X:Cx} {pins:List (Addr×Obj)} {Y:St} {H:Hp} {s:Shared} {a:Addr} {kvs:List (C3×V)} {k:C3} {u:Value} {A:Around} {E:Value->Shared->Prop}
theorem d_len{Q:Value->Shared->Prop}(I:Inv X pins Y H s)(e:Rd H a (.dK kvs))(h:∀ t s',Inv X pins Y H s'->Q (.int kvs.length t) s'):wpAny (model X.prog X.w) A (call (.builtin "len") [.ref a]) Q E s:=by
 obtain ⟨z,hd,vs,rel,dd⟩:=dk_rd I.hok e;refine call_len_dict hd dd (by rw [<- rel.length];rw [sizeLine_eq] at z;lia) ?_;rw [<- rel.length];exact h _ _ (I.tok _)
end
noncomputable def NoSl (i:Expr):Prop:=∀ ov iv,subscripted i false ov iv=operate [ov,iv] (getItem ov iv)
theorem zS{w:World}{env:Env}{value slice:Expr}{pos:Pos}{T id:String}{Q:Value->Shared->Prop}(hl:typeLookup (.type T) "__getitem__"=pure (some (.builtin id)))(hs:NoSl slice)(h:wpAny (model prog w) A (eval value env) (fun o zu=>wpAny (model prog w) A (eval slice env) (fun i zx=>zx.TypeIs o T/\wpAny (model prog w) A (getItem o i) Q E zx) E zu) E s) :
  wpAny (model prog w) A (eval (.Subscript value slice pos) env) Q E s:=by
 refine Subscript_ (wpAny_mono h (fun o zu zr=>wpAny_mono zr (fun i zx zq=>?_) fun _ _ x=>x) fun _ _ x=>x);obtain ⟨hT,zq⟩:=zq;unfold subscriptTail;refine wpAny_bind ?_;rw [getitemInPython_of_ne hT.not_modules];refine wpAny_bind (wpAny_specialOf hT hl ?_);have fin:wpAny (model prog w) A (subscripted slice false o i) (fun r zw=>wpAny (model prog w) A (letTemporaryGo value o r >>= fun _=>pure r) Q E zw) E zx:=by
  rw [hs o i];exact wpAny_operating (wpAny_mono zq (fun r zw zp=>wpAny_bind (wpAny_letTemporaryGo (wpAny_pure zp))) fun _ _ x=>x)
 first
  | exact wpAny_pure (wpAny_bind fin)
  | exact wpAny_bind (wpAny_pure (wpAny_bind fin))
  | exact wpAny_bind fin
theorem agI{o:Option V}(I:Inv X pins Y H s)(g:DGet H a y o):s.TypeIs (.ref a) "dict":=by
 rcases g with ⟨kvs,k,e,_,_⟩ | ⟨kvs,k,b,e,_,_,_⟩
 .obtain ⟨_,_,vs,_,dd⟩:=dk_rd I.hok e;exact dd.typeIs
 .obtain ⟨_,_,xs,_,dd⟩:=dt_rd I.hok e;exact dd.typeIs
noncomputable def tDGet (td ty:TE):TE:=fun Y H Q=>td Y H fun x H1=>ty Y H1 fun y H2=>∃ a v,x=.ref a/\DGet H2 a y (some v)/\Q v H2
noncomputable def sDPut (td ty tv:TE):TS:=fun D Y H=>tv Y H fun v H1=>td Y H1 fun x H2=>ty Y H2 fun y H3=>∃ a H4,x=.ref a/\DPut H3 a y v H4/\D.nx Y H4
noncomputable def sDAug (td ty tv:TE) (rd:V->V->Hp->VK->Prop):TS:=fun D Y H=>td Y H fun x H1=>ty Y H1 fun y H2=>∃ a v,x=.ref a/\DGet H2 a y (some v)/\
 tv Y H2 fun y2 H3=>rd v y2 H3 fun z H4=>∃ H5,DPut H4 a y z H5/\D.nx Y H5
section
variable {X:Cx} {o i e value:Expr} {pos pos' tpos:Pos} {td ty tv:TE}
theorem amx(hu:X.A.units+1<cLine)(ho:PE X o td)(hi:PE X i ty)(hs:NoSl i):PE X (.Subscript o i pos) (tDGet td ty):=by
 intro pins s Y H Q I h;refine zS PySem.F.slot_dict_getitem.lookup hs (C4 (ho pins s Y H _ I h) fun u s1 ⟨x,H1,I1,rx,q1⟩=>C4 (hi pins s1 Y H1 _ I1 q1) fun iv s2 ⟨y,H2,I2,ry,a,v,ex,g,q2⟩=>?_);subst ex;obtain rfl:u=Value.ref a:=rx;exact ⟨agI I2 g,zQ hu I2 g ry fun w' s3 I3 rw'=>⟨v,H2,I3,rw',q2⟩⟩
theorem amy(hu:X.A.units+1<cLine)(ho:PE X o td)(hi:PE X i ty)(hv:PE X value tv)(hs:swapsWith value (some (.Subscript o i pos')) pos.line X.env=pure false) :
  PS X (.Assign [.Subscript o i pos'] value pos) (sDPut td ty tv):=by
 intro pins s Y H D I h;refine wpAny_Assign_Subscript (C4 (hv pins s Y H _ I h) fun r s1 ⟨v,H1,I1,rv,q1⟩=>C4 (ho pins s1 Y H1 _ I1 q1) fun u s2 ⟨x,H2,I2,rx,q2⟩=>C4 (hi pins s2 Y H2 _ I2 q2) fun iv s3 ⟨y,H3,I3,ry,a,H4,ex,g,q3⟩=>?_) hs;subst ex;obtain rfl:u=Value.ref a:=rx;exact zR hu I3 g ry rv fun s4 I4=>⟨Y,H4,I4,q3⟩
theorem amz{op:Operator}{rd:V->V->Hp->VK->Prop}(hu:X.A.units+1<cLine)(ho:PE X o td)(hi:PE X i ty)(hv:PE X value tv)(wF:InOp X op rd)(ha:∀ ov iv new,augStore i ov iv new=(do holding [new,ov,iv] (setItem ov iv new);release [new,ov,iv] [];pure .next)):PS X (.AugAssign (.Subscript o i tpos) op value pos) (sDAug td ty tv rd):=by
 intro pins s Y H D I h;refine wpAny_AugAssign_SubscriptAny (C4 (ho pins s Y H _ I h) fun u s1 ⟨x,H1,I1,rx,q1⟩=>C4 (hi pins s1 Y H1 _ I1 q1) fun iv s2 ⟨y,H2,I2,ry,a,v,ex,g,q2⟩=>?_) ha;subst ex;obtain rfl:u=Value.ref a:=rx;refine zQ hu I2 g ry fun w' s3 I3 rw'=>C4 (hv pins s3 Y H2 _ I3 q2) fun w2 s4 ⟨y2,H3,I4,ry2,q3⟩=>C4 (wF pins s4 Y H3 v y2 w' w2 _ I4 rw' ry2 q3) fun w3 s5 ⟨z,H4,I5,rz,H5,g5,q4⟩=>?_
 exact zR hu I5 g5 ry rz fun s6 I6=>⟨Y,H5,I6,q4⟩
end
theorem akE{P:Program}{w:World}(h:Heap)(hb:sysModules<h.objs.size):ObjOk P w H (h.push { cls:=.type "dict",data:=.dict #[] }) h.objs.size (.dK []):=
 ⟨K1 _,beq_eq_false_iff_ne.mpr (Ne.symm (N1 hb)),[],.nil,Heap.DictOf.new h⟩
noncomputable def sG:TE:=fun _ H Q=>∀ p,H p=none->Q (.ref p) (A4 H p (.dK []))
section
variable {X:Cx} {pos:Pos}
theorem akF:PE X (.Dict [] [] pos) sG:=fun pins s Y H Q I h=>
 wpAny_Dict_empty ⟨.ref s.heap.objs.size,_,I.laid (a:=s.heap.objs.size) (o:=.dK []) (t':=s.toks) (fun _ _ q=>Heap.get?_push_of_some _ q) (C5 _) (akE s.heap I.big),rfl,h _ (I.hok.fresh (C5 _))⟩
end
noncomputable def gH:List (TE×TE)->St->Hp->(List (V×V)->Hp->Prop)->Prop
 | [],_,H,Q=>Q [] H
 | (tk,tv)::r,Y,H,Q=>tk Y H fun x H1=>tv Y H1 fun y H2=>gH r Y H2 fun ps H3=>Q ((x,y)::ps) H3
noncomputable def W0 (kvs more:List (C3×V)):List (C3×V):=more.foldl (fun acc kv=>putK acc kv.1 kv.2) kvs
theorem zT:∀ (more kvs:List (C3×V)),(W0 kvs more).length<=kvs.length+more.length
 | [],kvs=>by show kvs.length<=kvs.length+0;lia
 | p::r,kvs=>by
  have h1:=zT r (putK kvs p.1 p.2);have h2:=sD kvs p.1 p.2;show (W0 (putK kvs p.1 p.2) r).length<=_;rw [F8];lia
noncomputable def tDisp (trs:List (TE×TE)):TE:=fun Y H Q=>∀ p,H p=none->gH trs Y (A4 H p (.dK [])) fun ps H2=>H2 p=some (.dK [])/\∃ kvs:List (C3×V),ps=kvs.map (fun kv=>(kV kv.1,kv.2))/\kvs.length<=15/\Q (.ref p) (A4 H2 p (.dK (W0 [] kvs)))
structure M1(X:Cx)(o:Expr)(m:Str)(apos:Pos)(e:Expr)(cpos:Pos):Prop where
 base:attributeBase o m X.env (eval o X.env)=eval o X.env
 few:((backTo cpos (starEach [e] X.env)).all (fun x=>!x.1)&&(backToKw cpos (keywordEach [] X.env)).all (fun x=>x.1.isSome)
  && decide (([e]:List Expr).length+([]:List Keyword).length+(if ([]:List Keyword).isEmpty then 0 else 1)<30))=true
 line:(apos.endLine==cpos.line)=true
 trees:backTo cpos (starEach [e] X.env)=[(false,eval e X.env)]
structure M2(X:Cx)(o:Expr)(m:Str)(apos:Pos)(e f:Expr)(cpos:Pos):Prop where
 base:attributeBase o m X.env (eval o X.env)=eval o X.env
 few:((backTo cpos (starEach [e,f] X.env)).all (fun x=>!x.1)&&(backToKw cpos (keywordEach [] X.env)).all (fun x=>x.1.isSome)
  && decide (([e,f]:List Expr).length+([]:List Keyword).length+(if ([]:List Keyword).isEmpty then 0 else 1)<30))=true
 line:(apos.endLine==cpos.line)=true
 trees:backTo cpos (starEach [e,f] X.env)=[(false,eval e X.env),(false,eval f X.env)]
noncomputable def eE (H:Hp) (a:Addr):Prop:=(∃ kvs,Rd H a (.dK kvs))\/∃ kvs,Rd H a (.dT kvs)
theorem sH(I:Inv X pins Y H s)(d:eE H a) :
  s.TypeIs (.ref a) "dict"/\(∀ b,Value.ref a=.ref b->∃ ob,s.heap.get? b=some ob/\ob.dict=none)/\(a==sysModules)=false:=by
 rcases d with ⟨kvs,e⟩ | ⟨kvs,e⟩
 .obtain ⟨_,hd,vs,_,dd⟩:=dk_rd I.hok e;refine ⟨dd.typeIs,fun b q=>?_,hd⟩
  cases q
  obtain ⟨ob,_,_,h1,h2,_⟩:=dd;exact ⟨ob,h1,h2.2.1⟩
 .obtain ⟨_,hd,xs,_,dd⟩:=dt_rd I.hok e;refine ⟨dd.typeIs,fun b q=>?_,hd⟩
  cases q
  obtain ⟨ob,_,_,h1,h2,_⟩:=dd;exact ⟨ob,h1,h2.2.1⟩
section
variable {X:Cx} {pins:List (Addr×Obj)} {Y:St} {H:Hp} {s:Shared} {a:Addr} {y d:V} {u r:Value} {o:Option V} {A:Around} {E:Value->Shared->Prop}
theorem aob{Q:Value->Shared->Prop}(hu:A.units+1<cLine)(I:Inv X pins Y H s)(g:DGet H a y o)(ry:RelV y u)(h:∀ w' s',Inv X pins Y H s'->RelV (o.getD .non) w'->Q w' s') :
  wpAny (model X.prog X.w) A (call (.builtin "dict.get") [.ref a,u]) Q E s:=by
 rcases g with ⟨kvs,k,e,ey,l⟩ | ⟨kvs,k,b,e,ey,eb,l⟩
 .subst ey;obtain ⟨z,hd,vs,rel,dd⟩:=dk_rd I.hok e;refine call_meetsIn gA dd.typeIs nG (PySem.F.args_dict_get_2 _ _) (meets_dict_get (N8 X.prog X.w) a (kV_is ry) hd) ⟨_,dd.mapOf,h _ _ (I.tok _) ?_⟩;rw [l];exact (rel.val k).getD rfl
 .subst ey
  cases (show u=Value.ref b from ry)
  obtain ⟨z,hd,xs,rel,dd⟩:=dt_rd I.hok e;refine call_meetsIn gA dd.typeIs nG (PySem.F.args_dict_get_2 _ _) (meetsH_dict_get (tupleKind (N8 X.prog X.w)) a b hd) ⟨tupleKind_room_in1 hu,k,xs,eD I.hok eb,dd,h _ _ (I.tok _) ?_⟩;rw [l];exact (rel.val k).getD rfl
theorem aoc{Q:Value->Shared->Prop}(hu:A.units+1<cLine)(I:Inv X pins Y H s)(g:DGet H a y o)(ry:RelV y u)(rd:RelV d r)(h:∀ w' s',Inv X pins Y H s'->RelV (o.getD d) w'->Q w' s') :
  wpAny (model X.prog X.w) A (call (.builtin "dict.get") [.ref a,u,r]) Q E s:=by
 rcases g with ⟨kvs,k,e,ey,l⟩ | ⟨kvs,k,b,e,ey,eb,l⟩
 .subst ey;obtain ⟨z,hd,vs,rel,dd⟩:=dk_rd I.hok e;refine call_meetsIn gA dd.typeIs nG (PySem.F.args_dict_get_3 _ _ _) (meets_dict_get_default (N8 X.prog X.w) a (kV_is ry) hd r) ⟨_,dd.mapOf,h _ _ (I.tok _) ?_⟩;rw [l];exact (rel.val k).getD rd
 .subst ey
  cases (show u=Value.ref b from ry)
  obtain ⟨z,hd,xs,rel,dd⟩:=dt_rd I.hok e;refine call_meetsIn gA dd.typeIs nG (PySem.F.args_dict_get_3 _ _ _) (meetsH_dict_get_default (tupleKind (N8 X.prog X.w)) a b hd r) ⟨tupleKind_room_in1 hu,k,xs,eD I.hok eb,dd,h _ _ (I.tok _) ?_⟩;rw [l];exact (rel.val k).getD rd
end
noncomputable def sI (td ty:TE):TE:=fun Y H Q=>td Y H fun x H1=>∃ a,x=.ref a/\eE H1 a/\ty Y H1 fun y H2=>∃ o,DGet H2 a y o/\Q (o.getD .non) H2
noncomputable def sJ (td ty tx:TE):TE:=fun Y H Q=>td Y H fun x H1=>∃ a,x=.ref a/\eE H1 a/\ty Y H1 fun y H2=>tx Y H2 fun z H3=>∃ o,DGet H3 a y o/\Q (o.getD z) H3
section
variable {X:Cx} {o e f:Expr} {apos cpos:Pos} {td ty tx:TE}
theorem akG(hu:X.A.units+1<cLine)(ho:PE X o td)(he:PE X e ty)(m:M1 X o "get" apos e cpos):PE X (.Call (.Attribute o "get" apos) [e] [] cpos) (sI td ty):=by
 intro pins s Y H Q I h;refine wpAny_Call_method m.base m.few m.line PySem.F.plainAttrs_dict gA PySem.F.type_dict_get (C4 (ho pins s Y H _ I h) fun u s1 ⟨x,H1,I1,rx,a,ex,d,q1⟩=>?_);subst ex;obtain rfl:u=Value.ref a:=rx;obtain ⟨t1,t2,_⟩:=sH I1 d;refine ⟨t1,t2,?_⟩;rw [m.trees];refine Calls.callWith_builtin rfl (Calls.evalArgs_plain (Calls.spliced_cons (C4 (he pins s1 Y H1 _ I1 q1) fun iv s2 ⟨y,H2,I2,ry,ov,g,q2⟩=>Calls.spliced_nil ?_)));exact aob hu I2 g ry fun w' s3 I3 rw'=>⟨_,H2,I3,rw',q2⟩
theorem akH(hu:X.A.units+1<cLine)(ho:PE X o td)(he:PE X e ty)(hf:PE X f tx)(m:M2 X o "get" apos e f cpos):PE X (.Call (.Attribute o "get" apos) [e,f] [] cpos) (sJ td ty tx):=by
 intro pins s Y H Q I h;refine wpAny_Call_method m.base m.few m.line PySem.F.plainAttrs_dict gA PySem.F.type_dict_get (C4 (ho pins s Y H _ I h) fun u s1 ⟨x,H1,I1,rx,a,ex,d,q1⟩=>?_);subst ex;obtain rfl:u=Value.ref a:=rx;obtain ⟨t1,t2,_⟩:=sH I1 d;refine ⟨t1,t2,?_⟩;rw [m.trees];refine Calls.callWith_builtin rfl (Calls.evalArgs_plain (Calls.spliced_cons (C4 (he pins s1 Y H1 _ I1 q1) fun iv s2 ⟨y,H2,I2,ry,q2⟩=>
  Calls.spliced_cons (C4 (hf pins s2 Y H2 _ I2 q2) fun fv s3 ⟨z,H3,I3,rz,ov,g,q3⟩=>Calls.spliced_nil ?_))))
 exact aoc hu I3 g ry rz fun w' s4 I4 rw'=>⟨_,H3,I4,rw',q3⟩
end
section
variable {X:Cx} {pins:List (Addr×Obj)} {Y:St} {H:Hp} {s:Shared} {a:Addr} {kvs:List (C3×V)} {A:Around} {E:Value->Shared->Prop}
end
section
variable {X:Cx} {pins:List (Addr×Obj)} {Y:St} {H:Hp} {s:Shared} {a:Addr} {y:V} {u:Value} {A:Around} {E:Value->Shared->Prop}
end
end L2
namespace L2
open PySem PySem.Spec PyProof.Rows
section
variable {X:Cx}
end
section
variable {κ:Type} [DecidableEq κ]
theorem nQ:∀ {l:List κ} {k:κ},l.Nodup->¬ k∈l->(l++[k]).Nodup
 | [],k,_,_=>by simp
 | a::r,k,h,hk=>by
  obtain ⟨h1,h2⟩:=Q4.mp h;show (a::(r++[k])).Nodup;refine Q4.mpr ⟨fun m=>?_,nQ h2 fun m=>hk (D9.mpr (Or.inr m))⟩
  rcases F6.mp m with q | q
  .exact h1 q
  .exact hk (D9.mpr (Or.inl (E6.mp q).symm))
end
end L2
set_option maxRecDepth 100000
namespace L2
open PySem PySem.Spec PyProof.Rows
noncomputable def cloOf (cells:List (Str×Addr)):List (Str×NameKind)->List (Str×Addr)->List (Str×Addr)
 | [],acc=>acc
 | (n,k)::r,acc=>if k=.free then cloOf cells r ((n,(cells.lookup n).getD 0)::acc) else cloOf cells r acc
theorem sK{env:Env} : ∀ (names:List (Str×NameKind)) (acc:List (Str×Addr)),(∀ x∈names,x.2=.free->∃ c,env.cells.lookup x.1=some c)->
  (forIn names acc fun (x:Str×NameKind) (cs:List (Str×Addr))=>(if (x.2==NameKind.free)=true then do
   let c <- cellOf env x.1
   pure (ForInStep.yield ((x.1,c)::cs)) else pure (ForInStep.yield cs):Sem (ForInStep (List (Str×Addr)))))=(pure (cloOf env.cells names acc):Sem (List (Str×Addr)))
 | [],acc,_=>rfl
 | (n,k)::r,acc,h=>by
  rw [List.forIn_cons];have hr:∀ x∈r,x.2=.free->∃ c,env.cells.lookup x.1=some c:=fun x hx=>h x (I0 _ hx)
  by_cases hk:k=.free
  .subst hk;obtain ⟨c,hc⟩:=h (n,.free) J7 rfl;have e1:cellOf env n=pure c:=by unfold cellOf;rw [show env.cells.lookup n=some c from hc]
   simp only [beq_self_eq_true,if_true];rw [e1];show (forIn r ((n,c)::acc) _:Sem _)=_;rw [sK r _ hr];show _=pure (if NameKind.free=.free then cloOf env.cells r ((n,(env.cells.lookup n).getD 0)::acc) else _);rw [if_pos rfl,show env.cells.lookup n=some c from hc];rfl
  .have hb:(k==NameKind.free)=false:=by simpa using hk
   simp only [hb,Bool.false_eq_true,if_false];show (forIn r acc _:Sem _)=_;rw [sK r _ hr];show _=pure (if k=.free then _ else cloOf env.cells r acc);rw [if_neg hk]
theorem zU{scope:Scope}{env:Env}(h:∀ x∈scope.names,x.2=.free->∃ c,env.cells.lookup x.1=some c):closureFor scope env=pure (cloOf env.cells scope.names []):=by
 simp only [closureFor];have e:=sK (env:=env) scope.names [] h;rw [e];rfl
theorem nR{cells:List (Str×Addr)}{x:Str} : ∀ (names:List (Str×NameKind)) (acc:List (Str×Addr)),
  (cloOf cells names acc).lookup x=if (x,NameKind.free)∈names then some ((cells.lookup x).getD 0) else acc.lookup x
 | [],acc=>by simp [cloOf]
 | (n,k)::r,acc=>by
  show (if k=.free then cloOf cells r ((n,(cells.lookup n).getD 0)::acc) else cloOf cells r acc).lookup x=_
  by_cases hk:k=.free
  .subst hk;rw [if_pos rfl,nR r]
   by_cases hm:(x,NameKind.free)∈r
   .rw [if_pos hm,if_pos (I0 _ hm)]
   .rw [if_neg hm,List.lookup_cons]
    by_cases hx:x=n
    .subst hx;rw [if_pos J7]
     simp
    .have e:(x==n)=false:=by simpa using hx
     rw [e,if_neg];intro z
     rcases D9.mp z with z | z
     .exact hx (Prod.mk.inj z).1
     .exact hm z
  .rw [if_neg hk,nR r]
   by_cases hm:(x,NameKind.free)∈r
   .rw [if_pos hm,if_pos (I0 _ hm)]
   .rw [if_neg hm,if_neg];intro z
    rcases D9.mp z with z | z
    .exact hk (Prod.mk.inj z).2.symm
    .exact hm z
theorem sL{α:Type}{x:Str} : ∀ {l:List (Str×α)} {k:α},l.lookup x=some k->(x,k)∈l
 | [],_,h=>by simp at h
 | (n,a)::r,k,h=>by
  rw [List.lookup_cons] at h
  by_cases hx:x=n
  .subst hx;simp at h;subst h;exact J7
  .have e:(x==n)=false:=by simpa using hx
   rw [e] at h;exact I0 _ (sL h)
theorem zV{sc:Scope}{env:Env}{x:Str}{k:NameKind}(hc:∀ y∈sc.names,y.2≠.cell)(h:(relabel sc env).names.lookup x=some k)(hk:k=.cell\/k=.free):(x,NameKind.free)∈sc.names:=by
 have m:=sL h;unfold relabel at m;obtain ⟨⟨n,k'⟩,hm,e⟩:=E2.mp m;have G3:=hc _ hm
 by_cases hf:k'=.free
 .subst hf
  have:n=x:=by
   dsimp only at e
   split at e
   .exact (Prod.mk.inj e).1
   .exact (Prod.mk.inj e).1
  subst this;exact hm
 .have hb:(k'==NameKind.free)=false:=by simpa using hf
  simp only [hb,dU,Bool.false_eq_true,if_false] at e;obtain ⟨e1,e2⟩:=Prod.mk.inj e;subst e1 e2
  rcases hk with z | z
  .exact absurd z G3
  .subst z;exact absurd rfl hf
structure CompOk(N:List Str)(kn:List (Str×NameKind))(sc:Scope)(N':List Str)(k:Nat)(ixs:List Nat):Prop where
 kind:sc.kind=.function
 cell:∀ x∈sc.names,x.2≠.cell
 names:∀ x∈sc.names,x.2=.local->sc.names.lookup x.1=some .local
 free:∀ x∈sc.names,x.2=.free->kn.lookup x.1=some .cell\/kn.lookup x.1=some .free
 clean:∀ x∈sc.names,x.2=.free->sc.names.lookup x.1=some .free
 len:N'.length=k+ixs.length
 at_:ixs.map (fun i=>N[i]?)=(N'.drop k).map some
 fr:∀ x∈N'.drop k,(x,NameKind.free)∈sc.names
noncomputable def M4 (X:Cx) (sc:Scope) (N':List Str) (C:Addr) (zw:Shared) (zt:Hp) (fp:List Addr) (pins:List (Addr×Obj)):Cx:=
 {prog:=X.prog,w:=X.w,K:=X.K,mg:=X.mg,base:=X.base,A:=X.A,N:=N',s₀:=zw,H₀:=zt,
  env:=compEnvC sc (cloOf X.env.cells sc.names []) C X.env,outer:=X.stack,stack:=X.stack,ex:=fp,fn:=fun _=>false,calm:=X.calm,
  pn:=X.pn++pins,xe:=fun _ _=>False }
noncomputable def compStart (k:Nat) (ixs:List Nat) (Y:St):St:=V5 k none++ixs.map fun i=>(Y[i]?).join
theorem afj : (compStart k ixs Y).length=k+ixs.length:=by simp [compStart]
section
variable {X:Cx} {sc:Scope} {N':List Str} {k:Nat} {ixs:List Nat} {pins:List (Addr×Obj)} {Y:St} {H:Hp} {s:Shared} {fp:List Addr}
theorem gI(C:CompOk X.N X.env.scope.names sc N' k ixs)(I:Inv X pins Y H s){x:Str}{c:Addr}(e:(cloOf X.env.cells sc.names []).lookup x=some c):X.env.cells.lookup x=some c/\(x,NameKind.free)∈sc.names:=by
 rw [nR] at e
 by_cases hm:(x,NameKind.free)∈sc.names
 .rw [if_pos hm] at e;obtain ⟨c',i8⟩:=I.ok.has x (C.free _ hm rfl);rw [i8] at e;exact ⟨i8.trans e,hm⟩
 .rw [if_neg hm] at e;cases e
theorem zW(C:CompOk X.N X.env.scope.names sc N' k ixs)(I:Inv X pins Y H s){x:Str}(hm:(x,NameKind.free)∈sc.names):∃ c,(cloOf X.env.cells sc.names []).lookup x=some c/\X.env.cells.lookup x=some c:=by
 obtain ⟨c',i8⟩:=I.ok.has x (C.free _ hm rfl);refine ⟨c',?_,i8⟩;rw [nR,if_pos hm,i8];rfl
theorem aod(C:CompOk X.N X.env.scope.names sc N' k ixs)(I:Inv X pins Y H s)(hf:∀ b∈fp,FpOk X pins H b)(ho:∀ b∈fp,∃ o,s.heap.get? b=some o):(M4 X sc N' s.heap.objs.size s H fp pins).Ok where
 mod:=I.ok.mod
 kind:=C.kind
 glob:=I.ok.glob
 blt:=I.ok.blt
 above:=C5 _
 inj:=fun x y c e1 e2=>I.ok.inj x y c (gI C I e1).1 (gI C I e2).1
 has:=fun x hx=>by
  have hm:(x,NameKind.free)∈sc.names:=by
   rcases hx with z | z
   .exact zV C.cell z (.inl rfl)
   .exact zV C.cell z (.inr rfl)
  obtain ⟨c,h1,_⟩:=zW C I hm;exact ⟨c,h1⟩
 cab:=fun x c h _=>by cases h
 hd:=I.ok.hd
 frames:=I.ok.frames
 stk:=.inl rfl
 exf:=fun b hb=>by
  obtain ⟨o,e⟩:=ho b hb;exact ⟨N1 (Heap.lt_size e),fun x c e1=>(hf b hb).2.2.2.2.1 x c (gI C I e1).1⟩
 bs:=I.bs
 bsz:=K6 I.ok.bsz I.sz
 noex:=fun b o e hb=>by
  rcases (hf b hb).2.2.2.1 with z | z
  .exact I.ok.noex b o e z
  .exact absurd (T5 (Heap.lt_size e) (K6 I.ok.bsz z)) (j5 _)
 exfs:=fun b hb hm=>by
  rcases D9.mp (I.stkSub b hm) with z | z
  .exact (hf b hb).2.1 z
  .exact (hf b hb).2.2.1 z
 funs:=I.stack
 frf:=I.stkFree
theorem amA(C:CompOk X.N X.env.scope.names sc N' k ixs)(I:Inv X pins Y H s)(hf:∀ b∈fp,FpOk X pins H b)(ho:∀ b∈fp,∃ o,s.heap.get? b=some o){m:Str->Option Value}(hn:h'.Ns s.heap.objs.size m)(hk:∀ b o,s.heap.get? b=some o->h'.get? b=some o):Inv (M4 X sc N' s.heap.objs.size s H fp pins) [] (compStart k ixs Y) H { s with heap:=h',toks:=t' } where
 ok:=aod C I hf ho
 os:=rfl
 bare:=I.bare
 base:=Un.kept hk
 loc:=by
  refine ⟨m,hn,fun i x v e1 e2 e3=>?_⟩;unfold compStart at e2
  by_cases hi:i<k
  .rw [bM (by simpa using hi)] at e2;rw [List.getElem?_replicate_of_lt hi] at e2;cases e2
  .rw [dM (by simpa using hi),List.length_replicate] at e2;rw [V2] at e2;cases e4:ixs[i-k]? with
   | none=>rw [e4] at e2;cases e2
   | some j=>
    rw [e4] at e2;have e5:(Y[j]?).join=some v:=Option.some.inj e2;have e6:Y[j]?=some (some v):=by
     cases e7:Y[j]? with
     | none=>rw [e7] at e5;cases e5
     | some o=>rw [e7] at e5;exact congrArg some e5
    have e1':N'[i]?=some x:=e1;have ed:(N'.drop k)[i-k]?=some x:=by rw [List.getElem?_drop,show k+(i-k)=i by lia];exact e1'
    have n3:(x,NameKind.free)∈sc.names:=C.fr x (L3 ed);have n2:X.N[j]?=some x:=by
     have q:=congrArg (fun l=>l[i-k]?) C.at_;simp only [V2,e4,ed,Option.map_some] at q;exact Option.some.inj q
    obtain ⟨m0,hn0,lQ⟩:=I.loc;have lR:X.env.scope.names.lookup x=some .cell\/X.env.scope.names.lookup x=some .free:=C.free _ n3 rfl;obtain ⟨u,r,l⟩:=lQ j x v n2 e6 (.inr lR);refine ⟨u,r,.inr ?_⟩
    rcases l with ⟨l,_⟩ | ⟨_,c,hc,L5⟩
    .have l':X.env.scope.names.lookup x=some .local:=l
     rcases lR with z | z
     .rw [l'] at z;cases z
     .rw [l'] at z;cases z
    .obtain ⟨c',h1,h2⟩:=zW C I n3;rw [hc] at h2;cases h2;refine ⟨?_,c,h1,?_⟩
     .have e3':(relabel sc X.env).names.lookup x=some .local\/(relabel sc X.env).names.lookup x=some .cell\/(relabel sc X.env).names.lookup x=some .free:=e3
      rcases e3' with z | z
      .exfalso
       have mm:=sL z;unfold relabel at mm;obtain ⟨⟨n,k'⟩,hm,e⟩:=E2.mp mm;have W5:k'=.local/\n=x:=by
        dsimp only at e
        split at e
        .obtain ⟨_,q⟩:=Prod.mk.inj e
         cases q
        .exact ⟨(Prod.mk.inj e).2,(Prod.mk.inj e).1⟩
       obtain ⟨z1,z2⟩:=W5;subst z1 z2;have q1:=C.names _ hm rfl;rw [C.clean _ n3 rfl] at q1
       cases q1
      .exact z
     .exact L5.keeps hk
 cell:=fun x c e=>by
  obtain ⟨v,z⟩:=I.cell x c (gI C I e).1;exact ⟨v,z.keeps hk⟩
 free:=I.hok.fresh (C5 _)
 freeC:=fun x c e=>I.freeC x c (gI C I e).1
 pin:=fun p hp=>by
  have pZ:p∈X.pn++pins:=by simpa [M4] using hp
  obtain ⟨e,n,ne,nf,d⟩:=I.pin p pZ;refine ⟨hk _ _ e,n,N1 (Heap.lt_size e),fun hm=>?_,d⟩
  rcases D9.mp (I.stkSub _ hm) with z | z
  .exact ne z
  .exact nf z
 hok:=I.hok.kept hk
 len:=by rw [afj];exact C.len.symm
end
section
variable {prog:Program} {w:World} {A:Around} {R:Result->Shared->Prop} {s:Shared}
theorem afT{scope:Scope}{pos:Pos}{it acc:Value}{env:Env}(I:Nat->Shared->Prop)(turn:∀ n s,I n s->wpAny (model prog w) A (pyNext it) (fun r zu=>match r with
   | none=>R (.ok .next) zu
   | some v=>wpAny (model prog w) A (letOwnedTupleGo target it v) (fun _ zu=>wpAny (model prog w) A (assign target env v) (fun _ zx=>
     wpAny (model prog w) A (forIn ifs true fun c r=>if r=true then do let ok <- isTrue c env (eval c env);pure (ForInStep.yield ok) else pure (ForInStep.yield r)) (fun ok zw=>
      if ok=true then wpAny (model prog w) A (eval elt env) (fun x zo=>
       wpAny (model prog w) A (call (.builtin "list.append") [acc,x]) (fun _ zn=>∃ m,m<n/\I m zn) (notedBy (model prog w) A env fun e s'=>R (.error e) s') zo) (notedBy (model prog w) A env fun e s'=>R (.error e) s') zw
      else ∃ m,m<n/\I m zw) (notedBy (model prog w) A env fun e s'=>R (.error e) s') zx) (notedBy (model prog w) A env fun e s'=>R (.error e) s') zu) (notedBy (model prog w) A env fun e s'=>R (.error e) s') zu) (notedBy (model prog w) A env fun e s'=>R (.error e) s') s)(n:Nat)(h:I n s) :
  codeAny (model prog w) A (.compLoop (.ListComp elt [⟨target,iter,ifs,0⟩] scope pos) 0 it acc env) R s:=by
 refine codeAny_loop rfl I (fun n s hI=>?_) n h;show wpAny _ A ((compTurn (.ListComp elt [⟨target,iter,ifs,0⟩] scope pos) 0 it acc env).onRaise (fun x=>do noteFrame x env;theTreesLotGoes x)) _ _ s;refine wpAny_noted ?_;rw [compTurn_list];refine wpAny_bind (wpAny_standAt (wpAny_bind (wpAny_mono (turn n s hI) (fun r zu zr=>?_) fun _ _ h'=>h')))
 cases r with
 | none=>exact wpAny_pure zr
 | some v=>
  refine wpAny_bind (wpAny_mono zr (fun _ zu zr=>?_) fun _ _ h'=>h');refine wpAny_bind (wpAny_mono zr (fun _ zx zq=>wpAny_bind (wpAny_mono zq (fun ok zw zp=>?_) fun _ _ h'=>h')) fun _ _ h'=>h')
  cases ok with
  | false=>exact wpAny_pure ⟨rfl,zp⟩
  | true=>
   exact wpAny_bind (wpAny_bind (wpAny_mono zp (fun x zo zm=>wpAny_bind (wpAny_mono zm (fun _ zn zk=>wpAny_pure (wpAny_pure ⟨rfl,zk⟩)) fun _ _ h'=>h')) fun _ _ h'=>h'))
end
noncomputable def PIfs (X:Cx) (ifs:List Expr) (t:TT):Prop:=
 ∀ (pins:List (Addr×Obj)) (s:Shared) (Y:St) (H:Hp) (Q:Bool->Hp->Prop),Inv X pins Y H s->t Y H Q->
  wpAny (model X.prog X.w) X.A (forIn ifs true fun c r=>if r=true then do let ok <- isTrue c X.env (eval c X.env);pure (ForInStep.yield ok) else pure (ForInStep.yield r)) (TP X pins Y Q) X.xe s
noncomputable def tYes:TT:=fun _ H Q=>Q true H
theorem akI : PIfs X [] tYes:=fun _ _ _ H _ I h=>wpAny_tests_nil ⟨H,I,h⟩
theorem akJ{c:Expr}{t:TT}(hc:PT X c t):PIfs X [c] t:=fun pins s Y H Q I h=>wpAny_tests_one (hc pins s Y H Q I h)
noncomputable def tComp (wi:TI) (k:Nat) (ixs:List Nat) (g:TG) (c:TT) (te:TE):TE:=fun Y H Q=>wi Y H fun J H1=>∀ D,H1 D=none->
 ∃ (n:Nat) (W:Nat->List V->St->Hp->Prop),W 0 [] (compStart k ixs Y) (A4 H1 D (.lst []))/\∀ i ys σ2 H2,W i ys σ2 H2->H2 D=some (.lst ys)->
  (J.stop i H2/\Q (.ref D) H2)\/
  (i<n/\J.go i H2/\∀ x H',J.yld i H2 x H'->g x σ2 H' fun σ3 H3=>c σ3 H3 fun b H4=>
   if b=true then te σ3 H4 fun y H5=>H5 D=some (.lst ys)/\ys.length<sizeLine/\W (i+1) (ys++[y]) σ3 (A4 H5 D (.lst (ys++[y])))
   else H4 D=some (.lst ys)/\W (i+1) ys σ3 H4)
section
variable {X:Cx} {sc:Scope} {N':List Str} {k:Nat} {ixs:List Nat}
theorem zX{pos:Pos}{J:It}{g:TG}(C:CompOk X.N X.env.scope.names sc N' k ixs)(L6:X.calm=true)(hg:∀ C zw zt fp pins,PG (M4 X sc N' C zw zt fp pins) target g)(hc:∀ C zw zt fp pins,PIfs (M4 X sc N' C zw zt fp pins) ifs c)(he:∀ C zw zt fp pins,PE (M4 X sc N' C zw zt fp pins) elt te){tn:Nat->Heap->Prop}(I:Inv X pins Y H s)(T:Turn X.prog X.w X.K target J fp it tn)(st:tn 0 s.heap)(hf:∀ b∈fp,FpOk X pins H b)(h:∀ D,H D=none->∃ (n:Nat) (W:Nat->List V->St->Hp->Prop),W 0 [] (compStart k ixs Y) (A4 H D (.lst []))/\∀ i ys σ2 H2,W i ys σ2 H2->H2 D=some (.lst ys)->
   (J.stop i H2/\Q (.ref D) H2)\/
   (i<n/\J.go i H2/\∀ x H',J.yld i H2 x H'->g x σ2 H' fun σ3 H3=>c σ3 H3 fun b H4=>
    if b=true then te σ3 H4 fun y H5=>H5 D=some (.lst ys)/\ys.length<sizeLine/\W (i+1) (ys++[y]) σ3 (A4 H5 D (.lst (ys++[y])))
    else H4 D=some (.lst ys)/\W (i+1) ys σ3 H4)){RR:Value->Addr->Result->Shared->Prop}(hRR:∀ D Cc (H':Hp) (s':Shared) (o:Obj) m,Inv X pins Y H' s'->Inv X (pins++[(Cc,o)]) Y H' s'->s'.heap.get? Cc=some o->s'.heap.Ns Cc m->H' Cc=none->Cc≠X.env.locals->X.s₀.heap.objs.size<=Cc->
   (∀ x c,X.env.cells.lookup x=some c->c≠Cc)->(∀ p∈X.pn++pins,p.1≠Cc)->Q (.ref D) H'->RR (.ref D) Cc (.ok .next) s') :
  wpAny (model X.prog X.w) X.A (newList []) (fun acc zw=>wpAny (model X.prog X.w) X.A (newFunctionEnv sc X.env.globals (cloOf X.env.cells sc.names []) [] X.env.qual none .none (some X.env)) (fun cenv zo=>
   codeAny (model X.prog X.w) X.A (.compStart (.ListComp elt [⟨target,iter,ifs,0⟩] sc pos) 0 (.ref it) acc { cenv with scope:=relabel sc X.env }) (RR acc cenv.locals) zo) E zw) E s:=by
 have fresh:=I.hok.fresh (C5 s.heap.objs.size);obtain ⟨n,W,w0,turn⟩:=h s.heap.objs.size fresh;have hfD:∀ b∈fp,b≠s.heap.objs.size:=fun b hb z=>by
  obtain ⟨o,e,_⟩:=T.obj _ _ st b hb;rw [z] at e;exact absurd (Heap.lt_size e) (j5 _)
 have hf3:∀ b∈fp,FpOk X pins (A4 H s.heap.objs.size (.lst [])) b:=fun b hb=>⟨by rw [A9 (hfD b hb)];exact (hf b hb).1,(hf b hb).2⟩
 have main:∀ (s3:Shared) (zr:Heap) (t1:Nat),Inv X pins Y (A4 H s.heap.objs.size (.lst [])) s3->(∀ b o,s.heap.get? b=some o->s3.heap.get? b=some o)->zr.Ns s3.heap.objs.size (fun x=>([]:List (Str×Value)).reverse.lookup x)->
   (∀ b o,s3.heap.get? b=some o->zr.get? b=some o)->
   tn 0 zr/\codeAny (model X.prog X.w) X.A (.compLoop (.ListComp elt [⟨target,iter,ifs,0⟩] sc pos) 0 (.ref it) (.ref s.heap.objs.size) (M4 X sc N' s3.heap.objs.size s3 (A4 H s.heap.objs.size (.lst [])) fp pins).env) (RR (.ref s.heap.objs.size) s3.heap.objs.size) { s3 with heap:=zr,toks:=t1 }:=by
  intro s3 zr t1 I3 k3 cV keep3;have cS:tn 0 s3.heap:=T.keep _ _ _ st fun b hb o e=>k3 b o e
  have ho3:∀ b∈fp,∃ o,s3.heap.get? b=some o:=fun b hb=>let ⟨o,e,_⟩:=T.obj _ _ cS b hb;⟨o,e⟩
  have qA:tn 0 zr:=T.keep _ _ _ cS fun b hb o e=>keep3 b o e
  have B0:Inv (M4 X sc N' s3.heap.objs.size s3 (A4 H s.heap.objs.size (.lst [])) fp pins) [] (compStart k ixs Y) (A4 H s.heap.objs.size (.lst [])) { s3 with heap:=zr,toks:=t1 }:=amA C I3 hf3 ho3 cV keep3;refine ⟨qA,?_⟩;have fpX:∀ {H':Hp},(∀ b∈fp,H' b=none)->∀ b∈fp,FpOk (M4 X sc N' s3.heap.objs.size s3 (A4 H s.heap.objs.size (.lst [])) fp pins) [] H' b:=fun {H'} hn b hb=>by
   obtain ⟨o,eo⟩:=ho3 b hb;refine ⟨hn b hb,N1 (Heap.lt_size eo),?_,.inl hb,?_,?_⟩
   .intro hm
    rcases D9.mp (I3.stkSub b hm) with z | z
    .exact (hf b hb).2.1 z
    .exact (hf b hb).2.2.1 z
   .intro x cc ec;exact (hf b hb).2.2.2.2.1 x cc (gI C I3 ec).1
   .intro p hp;exact (hf b hb).2.2.2.2.2 p (by simpa [M4] using hp)
  refine afT (fun m s'=>∃ i ys σ' H',m=n-i/\Inv (M4 X sc N' s3.heap.objs.size s3 (A4 H s.heap.objs.size (.lst [])) fp pins) [] σ' H' s'/\tn i s'.heap/\(∀ b∈fp,H' b=none)/\H' s.heap.objs.size=some (.lst ys)/\W i ys σ' H') ?_ n ⟨0,[],_,_,rfl,B0,qA,fun b hb=>(hf3 b hb).1,A5,w0⟩;rintro m s4 ⟨i,ys,σ4,H4,rfl,I4,st4,fr4,hD4,w4⟩;have again:∀ {i':Nat} {ys':List V} {σ7:St} {H7:Hp} {s6 s7:Shared},i<n->i'=i+1->tn i' s6.heap->Inv (M4 X sc N' s3.heap.objs.size s3 (A4 H s.heap.objs.size (.lst [])) fp pins) ([]++gB fp s6.heap) σ7 H7 s7->H7 s.heap.objs.size=some (.lst ys')->W i' ys' σ7 H7->
    ∃ m,m<n-i/\∃ i ys σ' H',m=n-i/\Inv (M4 X sc N' s3.heap.objs.size s3 (A4 H s.heap.objs.size (.lst [])) fp pins) [] σ' H' s7/\tn i s7.heap/\(∀ b∈fp,H' b=none)/\H' s.heap.objs.size=some (.lst ys)/\W i ys σ' H':=fun {i' ys' σ7 H7 s6 s7} D0 ei iN I7 hD w=>by
   subst ei;refine ⟨n-(i+1),by lia,i+1,ys',σ7,H7,rfl,I7.unpinned,T.keep _ _ _ iN fun b hb o e=>(I7.pin (b,o) (O0 _ (O0 _ (gC hb e)))).1,fun b hb=>?_,hD,w⟩;obtain ⟨o,e,_⟩:=T.obj _ _ iN b hb;exact (I7.pin (b,o) (O0 _ (O0 _ (gC hb e)))).2.1
  rcases turn i ys σ4 H4 w4 hD4 with ⟨stop,q⟩ | ⟨D0,go,step⟩
  .refine C4 (T.done (M4 X sc N' s3.heap.objs.size s3 (A4 H s.heap.objs.size (.lst [])) fp pins) rfl rfl rfl L6 i [] s4 σ4 H4 _ I4 (fpX fr4) st4 stop) fun r s5 iO=>?_
   obtain ⟨hr,I5⟩:=iO;subst hr;have back:Inv X pins Y H4 s5:=I3.call' (ch:=fp) I5.os I5.base I5.hok I5.bare fun b hb=>⟨(hf b hb).2.2.2.1,(hf b hb).2.1,(hf b hb).2.2.2.2.1,(hf b hb).2.2.2.2.2⟩
   obtain ⟨mm,hn5,_⟩:=I5.loc;obtain ⟨o,es,ep,ho,hd,cW⟩:=id hn5;have hC:s3.heap.objs.size≠X.env.locals:=Nat.ne_of_gt I3.lt;refine hRR s.heap.objs.size s3.heap.objs.size H4 s5 o mm back ?_ ho hn5 I5.free hC I3.sz ?_ ?_ q
   .refine back.pins_of fun p hp=>?_
    rcases F6.mp hp with z | z
    .exact back.pin p (O0 _ z)
    .have e:p=(s3.heap.objs.size,o):=by simpa using z
     subst e;exact ⟨ho,I5.free,hC,I3.nofs (C5 _),fun v z=>by rw [hd] at z;cases z⟩
   .intro x c e z;obtain ⟨v,q⟩:=I3.cell x c e
    have:=q.lt
    rw [z] at this;exact j5 _ this
   .intro p hp z
    have:=Heap.lt_size (I3.pin p hp).1
    rw [z] at this;exact j5 _ this
  .refine C4 (T.item (M4 X sc N' s3.heap.objs.size s3 (A4 H s.heap.objs.size (.lst [])) fp pins) rfl rfl rfl L6 i [] s4 σ4 H4 _ I4 (fpX fr4) st4 go) fun r s5 iO=>?_
   obtain ⟨u,hr,h5⟩:=iO;subst hr;refine C4 h5 fun _ s6 h6=>?_
   obtain ⟨x,H6,I6,r6,y6,iN,fr6⟩:=h6;have I6':=I6.pinned (fpX fr6) (T.obj _ _ iN);refine wpAny_mono (hg _ _ _ _ _ _ s6 σ4 H6 x u _ I6' r6 (step x H6 y6)) (fun _ s7 h7=>?_) fun _ _ z=>False.elim z
   obtain ⟨σ7,H7,I7,q7⟩:=h7;refine wpAny_mono (hc _ _ _ _ _ _ s7 σ7 H7 _ I7 q7) (fun ok s8 h8=>?_) fun _ _ z=>False.elim z
   obtain ⟨H8,I8,q8⟩:=h8
   cases ok with
   | false=>
    rw [if_neg K7] at q8 ⊢
    exact again D0 rfl iN I8 q8.1 q8.2
   | true=>
    rw [if_pos rfl] at q8 ⊢
    refine wpAny_mono (he _ _ _ _ _ _ s8 σ7 H8 _ I8 q8) (fun y s9 h9=>?_) fun _ _ z=>False.elim z
    obtain ⟨yv,H9,I9,r9,hD9,hz9,w9⟩:=h9;refine wpAny_mono (zN (X:=(M4 X sc N' s3.heap.objs.size s3 (A4 H s.heap.objs.size (.lst [])) fp pins)) _ s9 σ7 H9 (.ref s.heap.objs.size) [yv] (.ref s.heap.objs.size) [y] (fun _ H'=>H'=A4 H9 s.heap.objs.size (.lst (ys++[yv]))) I9 rfl (.cons r9 .nil) ⟨_,ys,yv,rfl,rfl,hD9,hz9,rfl⟩) (fun _ s10 h10=>?_) fun _ _ z=>False.elim z
    obtain ⟨_,f6,I10,_,e10⟩:=h10;subst e10;exact again D0 rfl iN I10 A5 w9
 have I3:=I.lnew (ys:=[]) (its:=[]) (t':=s.toks) .nil (K1 _);refine wpAny_newObj_type (wpAny_newFunctionEnv C.cell (by intro y hy;simp at hy) (fun zr zj zi=>?_) C.kind);obtain ⟨qA,loop⟩:=main _ zr (s.toks+([]:List (Str×Value)).length) I3 (fun b o e=>Heap.get?_push_of_some _ e) zj fun b o e=>zi.extBut b o (N1 (Heap.lt_size e)) (Heap.get?_push_of_some _ e)
 exact codeAny_compStart_list loop (T.self X.A 0 _ _ _ qA loop)
theorem amB{pos:Pos}{wi:TI}{g:TG}(C:CompOk X.N X.env.scope.names sc N' k ixs)(L6:X.calm=true)(hi:PI X target iter wi)(hg:∀ C zw zt fp pins,PG (M4 X sc N' C zw zt fp pins) target g)(hc:∀ C zw zt fp pins,PIfs (M4 X sc N' C zw zt fp pins) ifs c)(he:∀ C zw zt fp pins,PE (M4 X sc N' C zw zt fp pins) elt te)(hs:∀ x,foldedSetIterable iter X.env x=pure x:=by intro _;rfl):PE X (.ListComp elt [⟨target,iter,ifs,0⟩] sc pos) (tComp wi k ixs g c te):=by
 intro pins s Y H Q I h;rw [eval_ListComp];refine wpAny_comprehension_free (use:=none) rfl hs (zU fun x hx hf=>I.ok.has x.1 (C.free x hx hf)) C.kind C.names (C4 (hi pins s Y H _ I h) fun v s1 h1=>C4 h1 fun itv s2 h2=>?_);obtain ⟨it,fp,tn,J,H2,e,I2,T,lJ,f2,q2⟩:=h2;subst e;refine zX (RR:=fun acc C=>compPost (model X.prog X.w) X.A X.xe none (EP X pins Y Q) acc C) C L6 hg hc he I2 T lJ f2 q2 ?_;intro D Cc H' s' o m I' _ ho hn hC hL iP L5 fF q;exact ⟨m,hn,fun h'' hs''=>⟨.ref D,H',I'.turned (t':=s'.toks) (fun b o hb e=>hs''.extBut b o hb e) hC hL (.inr iP) L5 fF,rfl,q⟩⟩
theorem ah4{pos py:Pos}{wi:TI}{g:TG}{y:Str}(hN:X.N.Nodup)(hiN:X.N[i]?=some y)(hx:k4 X.env.scope y)(C:CompOk X.N X.env.scope.names sc N' k ixs)(L6:X.calm=true)(hi:PI X target iter wi)(hg:∀ C zw zt fp pins,PG (M4 X sc N' C zw zt fp pins) target g)(hc:∀ C zw zt fp pins,PIfs (M4 X sc N' C zw zt fp pins) ifs c)(he:∀ C zw zt fp pins,PE (M4 X sc N' C zw zt fp pins) elt te)(wG:swapsWith (.ListComp elt [⟨target,iter,ifs,0⟩] sc pos) (some (.Name y py)) spos.line X.env=pure true:=by rfl)(hf:X.fn y=true\/X.env.scope.names.lookup y=some .local:=by first | exact .inl rfl | exact .inr rfl | assumption)(hs:∀ x,foldedSetIterable iter X.env x=pure x:=by intro _;rfl):PS X (.Assign [.Name y py] (.ListComp elt [⟨target,iter,ifs,0⟩] sc pos) spos) (tAsg (tComp wi k ixs g c te) (gName i)):=by
 intro pins s Y H D I h;rw [exec_Assign_Name_used _ _ _ _ wG];refine wpAny_bind (wpAny_standAt (wpAny_bind ?_));show wpAny _ X.A (do let _ <- comprehension (.ListComp elt [⟨target,iter,ifs,0⟩] sc pos) sc X.env _ (newList []) false (eval iter X.env) (some (assign (.Name y py) X.env))) _ _ s;refine wpAny_bind (wpAny_mono (wpAny_comprehension_free (use:=some (assign (.Name y py) X.env)) (Q:=fun _ s'=>SP X pins D .next s') rfl hs (zU fun x hx hf=>I.ok.has x.1 (C.free x hx hf)) C.kind C.names
  (C4 (hi pins s Y H _ I h) fun v s1 h1=>C4 h1 fun itv s2 h2=>?_)) (fun _ s' hq=>wpAny_pure (wpAny_pure hq)) fun _ _ e=>e)
 obtain ⟨it,fp,tn,J,H2,e,I2,T,lJ,f2,q2⟩:=h2;subst e;refine zX (Q:=fun x H1=>gName i x Y H1 D.nx) (RR:=fun acc C=>compPost (model X.prog X.w) X.A X.xe (some (assign (.Name y py) X.env)) (fun _ s'=>SP X pins D .next s') acc C) C L6 hg hc he I2 T lJ f2 q2 ?_;intro Da Cc H' s' o m _ Ip ho hn hC hL iP L5 fF q;show wpAny _ X.A (assign (.Name y py) X.env (.ref Da)) _ _ _;refine wpAny_assign_Name (nI (v:=.ref Da) Ip hN hiN hx rfl (fun s'' I''=>?_) hf);have hC2:=(I''.pin (Cc,o) (O0 _ (O0 _ (E6.mpr rfl)))).1;refine ⟨m,hn.at' fun o' e'=>?_,fun h'' hs''=>?_⟩
 .rw [ho] at e';cases e';exact hC2
 .have I3:Inv X pins (Y.set i (some (.ref Da))) H' s'':=I''.unpinned;exact ⟨_,H',I3.turned (t':=s''.toks) (fun b o hb e=>hs''.extBut b o hb e) hC hL (.inr iP) L5 fF,q⟩
end
end L2
end
set_option maxRecDepth 100000
namespace L2
open PySem PySem.Spec PyProof.Rows
section
variable {X:Cx} {a b:Expr} {ta tb:TE} {pos:Pos} {rest:List Expr}
noncomputable def tTru (K:PySem.W.Frag) (te:TE):TT:=fun Y H Q=>te Y H fun x H1=>∃ k,TruV K x H1 k/\Q k H1
theorem aoe(ha:PE X a ta)(he:∀ whole,isTrue a X.env whole=(do let v <- whole;standAt a.pos;holding [v] (truthy v)):=by intro _;rfl):PT X a (tTru X.K ta):=akt ha he
noncomputable def tNotT (K:PySem.W.Frag) (te:TE):TE:=fun Y H Q=>te Y H fun x H1=>∃ k,TruV K x H1 k/\Q (.bl (!k)) H1
end
mutual
inductive Dn (K:PySem.W.Frag) (H:Hp):V->PyData->Prop
 | non:Dn K H .non .none
 | bl (b):Dn K H (.bl b) (.bool b)
 | int (i):Dn K H (.int i) (.int i)
 | str (x):U3 x=true->Dn K H (.str x) (.str x)
 | lst {a xs ds} : E5 K H a xs->DnAll K H xs ds->Dn K H (.ref a) (.list ds)
 | tup {a xs ds} : C9 K H a xs->DnAll K H xs ds->Dn K H (.ref a) (.tuple ds)
inductive DnAll (K:PySem.W.Frag) (H:Hp):List V->List PyData->Prop
 | nil:DnAll K H [] []
 | cons {x xs d ds} : Dn K H x d->DnAll K H xs ds->DnAll K H (x::xs) (d::ds)
end
section
variable {X:Cx} {pins:List (Addr×Obj)} {Y:St} {H:Hp} {s:Shared}
mutual
theorem Dn.reads{K:PySem.W.Frag}{x:V}{d:PyData}(I:Inv X pins Y H s)(hK:X.K=K):Dn K H x d->∀ {u:Value},RelV x u->d.canLay0=true/\∃ as,Reads s.heap u d as
 | .non,u,r=>by cases r;exact ⟨rfl,_,.none⟩
 | .bl b,u,r=>by cases r;exact ⟨rfl,_,.bool b⟩
 | .int i,u,r=>by obtain ⟨t,rfl⟩:=r;exact ⟨rfl,_,.int i t⟩
 | .str x hx,u,r=>by obtain ⟨t,rfl⟩:=r;exact ⟨hx,_,.str x t⟩
 | .lst (a:=a) q hs,u,r=>by
  cases r
  subst hK;obtain ⟨its,rv,⟨o,n,e,c,_,dd⟩,_⟩:=I.list q;obtain ⟨h1,as,h2⟩:=DnAll.reads I rfl hs rv;exact ⟨h1,_,.list e c dd (by simpa using h2)⟩
 | .tup (a:=a) q hs,u,r=>by
  cases r
  subst hK;obtain ⟨its,rv,⟨o,e,c,n,dd⟩,_⟩:=I.tuple q;obtain ⟨h1,as,h2⟩:=DnAll.reads I rfl hs rv;exact ⟨h1,_,.tuple e c dd (by simpa using h2)⟩
theorem DnAll.reads{K:PySem.W.Frag}{xs:List V}{ds:List PyData}(I:Inv X pins Y H s)(hK:X.K=K):DnAll K H xs ds->∀ {us:List Value},Vals xs us->PyData.canLayAll0 ds=true/\∃ as,ReadsAll s.heap us ds as
 | .nil,us,r=>by cases r;exact ⟨rfl,_,.nil⟩
 | .cons h t,us,r=>by
  cases r with
  | cons r1 r2=>
   obtain ⟨c1,a1,q1⟩:=Dn.reads I hK h r1;obtain ⟨c2,a2,q2⟩:=DnAll.reads I hK t r2;exact ⟨by simp [PyData.canLayAll0,c1,c2],_,.cons q1 q2⟩
end
end
mutual
theorem Dn.same{K:PySem.W.Frag}{H H':Hp}(hs:Same H H'){x:V}{d:PyData} : Dn K H x d->Dn K H' x d
 | .non=>.non
 | .bl b=>.bl b
 | .int i=>.int i
 | .str x h=>.str x h
 | .lst q h=>.lst (hs.seq q) (DnAll.same hs h)
 | .tup (a:=a) (xs:=xs) q h=>.tup (by
   rcases q with (q | ⟨o,q⟩) | q
   .exact .inl (.inl (hs _ _ q))
   .exact .inl (.inr ⟨o,hs _ _ q⟩)
   .exact .inr q) (DnAll.same hs h)
theorem DnAll.same{K:PySem.W.Frag}{H H':Hp}(hs:Same H H'){xs:List V}{ds:List PyData} : DnAll K H xs ds->DnAll K H' xs ds
 | .nil=>.nil
 | .cons h t=>.cons (Dn.same hs h) (DnAll.same hs t)
end
theorem R9{K:PySem.W.Frag}{H:Hp} : ∀ {zs:List Str},(∀ z∈zs,U3 z=true)->DnAll K H (zs.map V.str) (zs.map bX)
 | [],_=>.nil
 | z::zs,h=>.cons (.str z (h z J7)) (R9 fun y hy=>h y (I0 _ hy))
theorem nS:∀ (xs ys:List Str),Z6 (xs.map bX) (ys.map bX)=decide (xs=ys)
 | [],[]=>by simp [Z6]
 | [],_::_=>by simp [Z6]
 | _::_,[]=>by simp [Z6]
 | x::xs,y::ys=>by
  rw [G6,G6,Z6,nS xs ys];rw [show O9 (.str x) (.str y)=(x==y) by simp [O9]]
  by_cases h1:x=y
  .subst h1;simp
  .simp [h1]
noncomputable def rAddR (K:PySem.W.Frag) (a b:Addr) (H:Hp) (Q:VK):Prop:=rCat (.ref a) (.ref b) H Q\/rCatT K (.ref a) (.ref b) H Q
theorem rAddR.l{K:PySem.W.Frag}{a b:Addr}{H:Hp}{Q:VK}{xs ys:List V}(h1:H a=some (.lst xs))(h2:H b=some (.lst ys))(h3:xs.length+ys.length<=sizeLine)(h:∀ p,H p=none->Q (.ref p) (A4 H p (.lst (xs++ys)))):rAddR K a b H Q:=.inl ⟨a,b,xs,ys,rfl,rfl,h1,h2,h3,h⟩
theorem rAddR.t{K:PySem.W.Frag}{a b:Addr}{H:Hp}{Q:VK}{xs ys:List V}(h1:C9 K H a xs)(h2:C9 K H b ys)(h0:xs≠[])(h3:xs.length+ys.length<=sizeLine)(he:ys=[]->Q (.ref a) H)(h:ys≠[]->∀ p,H p=none->Q (.ref p) (A4 H p (.tup (xs++ys)))):rAddR K a b H Q:=.inr ⟨a,b,xs,ys,rfl,rfl,h1,h2,h0,h3,he,h⟩
noncomputable def rAddU (K:PySem.W.Frag):V->V->Hp->VK->Prop
 | .int i,.int j,H,Q=>Q (.int (i+j)) H
 | .str i,.str j,H,Q=>i.length+j.length<=sizeLine/\Q (.str (i++j)) H
 | .ref a,.ref b,H,Q=>rAddR K a b H Q
 | _,_,_,_=>False
noncomputable def rMulU:V->V->Hp->VK->Prop
 | .int i,.int j,H,Q=>CMul i j/\Q (.int (i*j)) H
 | .ref a,.int j,H,Q=>rRep (.ref a) (.int j) H Q
 | _,_,_,_=>False
noncomputable def rEqU (K:PySem.W.Frag):V->V->Hp->VK->Prop
 | .int i,.int j,H,Q=>Q (.bl (decide (i=j))) H
 | .str i,.str j,H,Q=>Q (.bl (decide (i=j))) H
 | .bl i,.bl j,H,Q=>Q (.bl (decide (i=j))) H
 | x,y,H,Q=>∃ d e,Dn K H x d/\Dn K H y e/\min d.depth e.depth<=60/\Q (.bl (O9 d e)) H
noncomputable def rNeU (K:PySem.W.Frag):V->V->Hp->VK->Prop
 | .int i,.int j,H,Q=>Q (.bl (!decide (i=j))) H
 | .str i,.str j,H,Q=>Q (.bl (!decide (i=j))) H
 | .bl i,.bl j,H,Q=>Q (.bl (!decide (i=j))) H
 | x,y,H,Q=>∃ d e,Dn K H x d/\Dn K H y e/\min d.depth e.depth<=60/\Q (.bl (!PyData.eqv d e)) H
noncomputable def rLtU:V->V->Hp->VK->Prop
 | .int i,.int j,H,Q=>Q (.bl (decide (i<j))) H
 | .str i,.str j,H,Q=>Q (.bl (decide (i.cps.toList<j.cps.toList))) H
 | _,_,_,_=>False
noncomputable def rLeU:V->V->Hp->VK->Prop
 | .int i,.int j,H,Q=>Q (.bl (decide (i<=j))) H
 | .str i,.str j,H,Q=>Q (.bl (!decide (j.cps.toList<i.cps.toList))) H
 | _,_,_,_=>False
noncomputable def rGtU:V->V->Hp->VK->Prop
 | .int i,.int j,H,Q=>Q (.bl (decide (j<i))) H
 | .str i,.str j,H,Q=>Q (.bl (decide (j.cps.toList<i.cps.toList))) H
 | _,_,_,_=>False
noncomputable def rGeU:V->V->Hp->VK->Prop
 | .int i,.int j,H,Q=>Q (.bl (decide (j<=i))) H
 | .str i,.str j,H,Q=>Q (.bl (!decide (i.cps.toList<j.cps.toList))) H
 | _,_,_,_=>False
noncomputable def rInR (K:PySem.W.Frag) (neg:Bool) (x:V) (p:Addr) (H:Hp) (Q:VK):Prop:=sA K neg x (.ref p) H Q\/∃ o,DGet H p x o/\Q (.bl (neg.xor o.isSome)) H
theorem rInR.l{K:PySem.W.Frag}{neg:Bool}{x:V}{p:Addr}{H:Hp}{Q:VK}{xs:List V}(h1:E5 K H p xs\/C9 K H p xs)(h2:flatV x=true)(h3:xs.all flatV=true)(h:Q (.bl (neg.xor (cB x xs))) H):rInR K neg x p H Q:=.inl ⟨p,xs,rfl,h1,h2,h3,by cases neg <;> simpa using h⟩
theorem rInR.d{K:PySem.W.Frag}{neg:Bool}{x:V}{p:Addr}{H:Hp}{Q:VK}{o:Option V}(h1:DGet H p x o)(h:Q (.bl (neg.xor o.isSome)) H):rInR K neg x p H Q:=.inr ⟨o,h1,h⟩
noncomputable def rInU (K:PySem.W.Frag) (neg:Bool) (x:V):V->Hp->VK->Prop
 | .str j,H,Q=>∃ i,x=.str i/\Q (.bl (neg.xor (!(Builtin.Str.occurrences j i 0 j.length 1).isEmpty))) H
 | .ref p,H,Q=>rInR K neg x p H Q
 | _,_,_=>False
section
variable {X:Cx} {pins:List (Addr×Obj)} {Y:St} {H:Hp} {s:Shared}
theorem p_add:J5 X (binaryOp .Add) (rAddU X.K):=by
 intro pins s Y H x y v u Q I rx ry h
 cases x <;> cases y <;> try exact h.elim
 .exact anP pins s Y H _ _ v u Q I rx ry ⟨_,_,rfl,rfl,h⟩
 .exact ahW pins s Y H _ _ v u Q I rx ry ⟨_,_,rfl,rfl,h⟩
 .rcases h with h | h
  .exact an9 pins s Y H _ _ v u Q I rx ry h
  .exact ams pins s Y H _ _ v u Q I rx ry h
theorem p_sub:J5 X (binaryOp .Sub) (u4 fun i j=>.int (i-j)):=anQ
theorem p_mul:J5 X (binaryOp .Mult) rMulU:=by
 intro pins s Y H x y v u Q I rx ry h
 cases x <;> cases y <;> try exact h.elim
 .exact anR pins s Y H _ _ v u Q I rx ry ⟨_,_,rfl,rfl,h⟩
 .exact aoa pins s Y H _ _ v u Q I rx ry h
theorem aof:J5 X (binaryOp .FloorDiv) (rI CDiv fun i j=>.int (i / j)):=ame
theorem p_mod:J5 X (binaryOp .Mod) (rI (fun _ j=>0<j) fun i j=>.int (i % j)):=anS
theorem nU(hu:X.A.units+64<cLine){x y:V}{v u:Value}{Q:VK}(I:Inv X pins Y H s)(rx:RelV x v)(ry:RelV y u)(h:∃ d e,Dn X.K H x d/\Dn X.K H y e/\min d.depth e.depth<=60/\Q (.bl (O9 d e)) H):wpAny (model X.prog X.w) X.A (compareOp .Eq v u) (EP X pins Y Q) X.xe s:=by
 obtain ⟨d,e,h1,h2,hd,q⟩:=h;obtain ⟨c1,as,r1⟩:=h1.reads I rfl rx;obtain ⟨c2,bs,r2⟩:=h2.reads I rfl ry;exact SeqAt.compareEq_reads r1 r2 c1 c2 (by lia) ⟨.bl _,H,I,rfl,q⟩
theorem nV(hu:X.A.units+64<cLine){x y:V}{v u:Value}{Q:VK}(I:Inv X pins Y H s)(rx:RelV x v)(ry:RelV y u)(h:∃ d e,Dn X.K H x d/\Dn X.K H y e/\min d.depth e.depth<=60/\Q (.bl (!PyData.eqv d e)) H):wpAny (model X.prog X.w) X.A (compareOp .NotEq v u) (EP X pins Y Q) X.xe s:=by
 obtain ⟨d,e,h1,h2,hd,q⟩:=h;obtain ⟨c1,as,r1⟩:=h1.reads I rfl rx;obtain ⟨c2,bs,r2⟩:=h2.reads I rfl ry;exact SeqAt.compareNe_reads r1 r2 c1 c2 (by lia) ⟨.bl _,H,I,rfl,q⟩
theorem p_eq(hu:X.A.units+64<cLine):J5 X (compareOp .Eq) (rEqU X.K):=by
 intro pins s Y H x y v u Q I rx ry h;have sc:∀ {x y:V},yQ x y H Q->RelV x v->RelV y u->wpAny (model X.prog X.w) X.A (compareOp .Eq v u) (EP X pins Y Q) X.xe s:=fun {x y} h rx ry=>op_eq pins s Y H x y v u Q I rx ry h
 cases x with
 | int i=>cases y with
  | int j=>exact sc (x:=.int i) (y:=.int j) ⟨rfl,by simpa using (show Q (.bl (decide (i=j))) H from h)⟩ rx ry
  | _=>exact nU hu I rx ry h
 | str i=>cases y with
  | str j=>exact sc (x:=.str i) (y:=.str j) ⟨rfl,by simpa using (show Q (.bl (decide (i=j))) H from h)⟩ rx ry
  | _=>exact nU hu I rx ry h
 | bl i=>cases y with
  | bl j=>exact sc (x:=.bl i) (y:=.bl j) ⟨rfl,by simpa using (show Q (.bl (decide (i=j))) H from h)⟩ rx ry
  | _=>exact nU hu I rx ry h
 | _=>cases y <;> exact nU hu I rx ry h
theorem p_ne(hu:X.A.units+64<cLine):J5 X (compareOp .NotEq) (rNeU X.K):=by
 intro pins s Y H x y v u Q I rx ry h;have sc:∀ {x y:V},yR x y H Q->RelV x v->RelV y u->wpAny (model X.prog X.w) X.A (compareOp .NotEq v u) (EP X pins Y Q) X.xe s:=fun {x y} h rx ry=>op_ne pins s Y H x y v u Q I rx ry h
 cases x with
 | int i=>cases y with
  | int j=>exact sc (x:=.int i) (y:=.int j) ⟨rfl,by simpa using (show Q (.bl (!decide (i=j))) H from h)⟩ rx ry
  | _=>exact nV hu I rx ry h
 | str i=>cases y with
  | str j=>exact sc (x:=.str i) (y:=.str j) ⟨rfl,by simpa using (show Q (.bl (!decide (i=j))) H from h)⟩ rx ry
  | _=>exact nV hu I rx ry h
 | bl i=>cases y with
  | bl j=>exact sc (x:=.bl i) (y:=.bl j) ⟨rfl,by simpa using (show Q (.bl (!decide (i=j))) H from h)⟩ rx ry
  | _=>exact nV hu I rx ry h
 | _=>cases y <;> exact nV hu I rx ry h
theorem p_lt:J5 X (compareOp .Lt) rLtU:=by
 intro pins s Y H x y v u Q I rx ry h
 cases x <;> cases y <;> try exact h.elim
 .exact op_lt pins s Y H _ _ v u Q I rx ry ⟨_,_,rfl,rfl,h⟩
 .exact aiP pins s Y H _ _ v u Q I rx ry ⟨_,_,rfl,rfl,h⟩
theorem p_le:J5 X (compareOp .LtE) rLeU:=by
 intro pins s Y H x y v u Q I rx ry h
 cases x <;> cases y <;> try exact h.elim
 .exact op_le pins s Y H _ _ v u Q I rx ry ⟨_,_,rfl,rfl,h⟩
 .obtain ⟨t,rfl⟩:=rx;obtain ⟨t',rfl⟩:=ry;exact PySem.P.le_str ⟨.bl _,H,I,by simp [RelV],h⟩
theorem p_gt:J5 X (compareOp .Gt) rGtU:=by
 intro pins s Y H x y v u Q I rx ry h
 cases x <;> cases y <;> try exact h.elim
 .exact op_gt pins s Y H _ _ v u Q I rx ry ⟨_,_,rfl,rfl,h⟩
 .obtain ⟨t,rfl⟩:=rx;obtain ⟨t',rfl⟩:=ry;exact PySem.P.gt_str ⟨.bl _,H,I,rfl,h⟩
theorem p_in(hu:X.A.units+64<cLine):J5 X (compareOp .In) (rInU X.K false):=by
 intro pins s Y H x y v u Q I rx ry h
 cases y with
 | str j=>
  obtain ⟨i,rfl,q⟩:=h;exact aiQ pins s Y H _ _ v u Q I rx ry ⟨i,j,rfl,rfl,by simpa using q⟩
 | ref p=>
  rcases h with h | ⟨o,g,q⟩
  .exact ai0 pins s Y H _ _ v u Q I rx ry h
  .obtain rfl:u=Value.ref p:=ry;exact d_in (by lia) I g rx fun s3 I3=>⟨.bl o.isSome,H,I3,rfl,by simpa using q⟩
 | _=>exact h.elim
theorem amC(hu:X.A.units+64<cLine):J5 X (compareOp .NotIn) (rInU X.K true):=by
 intro pins s Y H x y v u Q I rx ry h
 cases y with
 | str j=>
  obtain ⟨i,rfl,q⟩:=h;exact afK pins s Y H _ _ v u Q I rx ry ⟨i,j,rfl,rfl,by simpa using q⟩
 | ref p=>
  rcases h with h | ⟨o,g,q⟩
  .exact afJ pins s Y H _ _ v u Q I rx ry h
  .obtain rfl:u=Value.ref p:=ry;exact amw (by lia) I g rx fun s3 I3=>⟨.bl (!o.isSome),H,I3,rfl,by simpa using q⟩
 | _=>exact h.elim
noncomputable def cutS (x:Str) (lo hi:Option Int):Str:=⟨((x.cps.toList.drop (HT.sIx x.length 0 lo)).take (HT.sIx x.length x.length hi-HT.sIx x.length 0 lo)).toArray⟩
noncomputable def rSlS:V->Option Int->Option Int->Hp->VK->Prop:=fun x lo hi H Q=>∃ z,x=.str z/\z.length<=sizeLine/\Q (.str (cutS z lo hi)) H
end
end L2
variable {C a b f fa it p r sl:PySem.Addr}{dvs vs xs:List L2.V}{Q:L2.VK}{cd ct oc pm u v vl vu:PySem.Value}{ck i j k m n t' x1:Nat}{items:Array PySem.Value}{fr ns:List Int}{its us:List PySem.Value}{A:PySem.Around}{s zw:PySem.Shared}{x y:L2.V}{pins:List (PySem.Addr×PySem.Obj)}{Y:L2.St}{H H' H0 H1 H2 H3 zt:L2.Hp}{h h':PySem.Heap}{f2 f3 f4 m0 m1 name ov q qual z:PySem.Str}{L M N N' S acc bad g g' ks line loose ps row ts ys zs:List PySem.Str}{K:PySem.W.Frag}{mg:PySem.Str->Option PySem.Value}{fd:PySem.FuncData}{sp:L2.Sp}{X:L2.Cx}{kvs:List (L2.C3×L2.V)}{prog:PySem.Program}{E:PySem.Value->PySem.Shared->Prop}{ixs pre:List Nat}{e elt iter target tg:PySem.Expr}{elts ifs:List PySem.Expr}{c:L2.TT}{td te tl tx ty:L2.TE}{fp rs:List PySem.Addr}{apos cpos kpos spos tpos:PySem.Pos}{calm fg neg:Bool}{st:PySem.Stmt}{an od:Option PySem.Addr}{tb:L2.TS}{D:L2.Ends}{lo sh:Int}{o:PySem.Obj}{ta:L2.TA}{ss:Array (Option PySem.Value)}
set_option maxRecDepth 100000
namespace L2
open PySem PySem.Spec PyProof.Rows
section
variable {X:Cx}
theorem aja(x:Str)(lo hi:Option Int):Txt.slice x lo hi=cutS x lo hi:=by
 have c1:∀ (o:Option Int) (d:Nat),(match o with | none=>(d:Int) | some i=>if (1:Int) > 0 then max 0 (min (if i<0 then i+(x.length:Int) else i) (x.length:Int)) else max (-1) (min (if i<0 then i+(x.length:Int) else i) ((x.length:Int)-1)))=((HT.sIx x.length d o:Nat):Int):=by
  intro o d
  cases o with
  | none=>rfl
  | some i=>
   rw [<- HT.clip_eq i x.length d];simp only [show ((1:Int) > 0)=True by simp,if_true]
   split <;> lia
 have h2:Builtin.Str.strSliceIndices lo hi 1 x.length=Builtin.Str.strSliceIndices (some ((HT.sIx x.length 0 lo:Nat):Int)) (some ((HT.sIx x.length x.length hi:Nat):Int)) 1 x.length:=by
  have e1:=c1 lo 0;have e2:=c1 hi x.length;have e3:=c1 (some ((HT.sIx x.length 0 lo:Nat):Int)) 0;have e4:=c1 (some ((HT.sIx x.length x.length hi:Nat):Int)) x.length;have l1:=HT.sIx_le x.length 0 (K1 _) lo;have l2:=HT.sIx_le x.length x.length (C5 _) hi;rw [HT.sIx_nat,fZ l1] at e3;rw [HT.sIx_nat,fZ l2] at e4;unfold Builtin.Str.strSliceIndices
  dsimp only at e3 e4 ⊢
  rw [e3,e4];clear e3 e4 l1 l2;refine congr (congr (congrArg sliceRange ?_) ?_) rfl
  .cases lo with
   | none=>exact e1
   | some i=>exact e1
  .cases hi with
   | none=>exact e2
   | some i=>exact e2
 have l1:=HT.sIx_le x.length 0 (K1 _) lo;have l2:=HT.sIx_le x.length x.length (C5 _) hi;unfold Txt.slice cutS;rw [h2];generalize HT.sIx x.length 0 lo=a at *;generalize HT.sIx x.length x.length hi=b at *;have len:x.length=x.cps.toList.length:=by simp [Str.length]
 by_cases iP:a<=b
 .rw [StrLaws.sliced_plain x iP l2,StrLaws.strSliceIndices_plain iP l2]
  split
  .rename_i hc
   have i8:b-a=x.length:=by simpa using hc
   have ha:a=0:=by lia
   subst ha;rw [List.drop_zero,j0 (by lia)]
  .rfl
 .have e:Builtin.Str.strSliceIndices (some (a:Int)) (some (b:Int)) 1 x.length=[]:=by
   have h1:¬ ((a:Int)<0):=by lia
   have h2:¬ ((b:Int)<0):=by lia
   have e1:max (0:Int) (min (a:Int) (x.length:Int))=a:=by lia
   have e2:max (0:Int) (min (b:Int) (x.length:Int))=b:=by lia
   simp only [Builtin.Str.strSliceIndices,sliceRange,h1,h2,if_false,e1,e2,show ((1:Int) > 0)=True from by simp,if_true];rw [if_neg (by lia)];rfl
  rw [e,show b-a=0 by lia,bR]
  split
  .rename_i hc
   have i8:0=x.length:=by simpa using hc
   have:x.cps.toList=[]:=rE (by lia)
   obtain ⟨⟨l⟩⟩:=x;simp at this;subst this;rfl
  .rfl
theorem aog:gD X rSlS:=by
 intro pins s Y H x v vl vu lo hi sl Q I rx hs pl pu h;obtain ⟨z,rfl,hz,q⟩:=h;obtain ⟨t,rfl⟩:=rx;refine ⟨"str",_,F.slot_str_getitem.lookup,typeIs_str _ _ _,?_⟩;rw [<- aja] at q;have part:∀ {u:Value} {o:Option Int},IsPart u o->∃ l:Option (Int×Tok),u=partValue l/\l.map (·.1)=o:=fun {u o} p=>by
  cases p with
  | none=>exact ⟨none,rfl,rfl⟩
  | int i t=>exact ⟨some (i,t),rfl,rfl⟩
 obtain ⟨l,rfl,el⟩:=part pl;obtain ⟨u,rfl,eu⟩:=part pu;subst el eu;refine wpAny_getItem_str_slice (l:=l) (u:=u) (st:=none) hs rfl ?_;exact post_val_or_str ⟨K6 (Txt.slice_le z _ _) hz,fun t' k=>⟨.str _,H,I.tok _,⟨t',rfl⟩,q⟩⟩
theorem adw{w:World}{t:Addr}{lo hi:Option Int}{Q:Value->Shared->Prop}(ht:IsTup s.heap t items)(hs:s.heap.IsSliceOf sl vl vu .none)(pl:IsPart vl lo)(pu:IsPart vu hi)(hw:HT.sIx items.size 0 lo=0/\HT.sIx items.size items.size hi=items.size)(h:Q (.ref t) s):wpAny (model prog w) A (getItem (.ref t) (.ref sl)) Q E s:=by
 obtain ⟨os,fC,pY,lM⟩:=id hs;have hTs:s.TypeIs (.ref sl) "slice":=⟨os,fC,pY⟩
 unfold getItem
 try with_reducible refine wpAny_holding ?_
 first | refine wpAny_bind (wpAny_pure ?_) | skip
 refine wpAny_bind (wpAny_sequenceKey ht.typeIs (by decide) ?_);refine wpAny_bind (wpAny_callSpecial?_slot (name:=Str.ofString "__getitem__") ht.typeIs PyProof.Rows.slot_tuple_getitem
  (wpAny_call_entry PyProof.Rows.slot_tuple_getitem ht.typeIs PyProof.Rows.entry_tuple_getitem ?_ (PyProof.Rows.args_tuple_getitem _ _)))
 show wpAny _ _ (Builtin.Tuple.tupleItemsOf (.ref t) >>= _) _ _ s;refine wpAny_bind (PyProof.Rows.tupleItemsOf_ ht ?_);refine wpAny_bind (wpAny_typeOf hTs ?_);rw [if_pos (by decide)];refine wpAny_bind (HT.sliceApplied_gen hs pl pu ?_);have wH:((((HT.sIx items.size 0 lo:Nat):Int)==0&&(1:Int)==1&&(HT.sIx items.size items.size hi-HT.sIx items.size 0 lo)==items.size)=true):=by
  rw [hw.1,hw.2]
  simp
 show wpAny _ _ (if (((HT.sIx items.size 0 lo:Nat):Int)==0&&(1:Int)==1&&(HT.sIx items.size items.size hi-HT.sIx items.size 0 lo)==items.size)=true then _ else _) _ _ s;rw [if_pos wH];refine wpAny_bind ?_;show wpAny _ _ (typeOf (.ref t) >>= fun v=>pure (v == .type "tuple")) _ _ s;refine wpAny_bind (wpAny_typeOf ht.typeIs (wpAny_pure ?_));rw [if_pos (by decide)];refine wpAny_bind (wpAny_rule ?_);exact wpAny_pure ⟨_,rfl,wpAny_pure h⟩
noncomputable def rSlW (K:PySem.W.Frag):V->Option Int->Option Int->Hp->VK->Prop:=fun x lo hi H Q=>∃ a xs,x=.ref a/\C9 K H a xs/\(HT.sIx xs.length 0 lo=0/\HT.sIx xs.length xs.length hi=xs.length)/\Q (.ref a) H
theorem aoh:gD X (rSlW X.K):=by
 intro pins s Y H x v vl vu lo hi sl Q I rx hs pl pu h;obtain ⟨a,xs,rfl,hx,hw,q⟩:=h
 cases rx
 obtain ⟨its,r,ht,hz⟩:=I.tuple hx;have C1:its.toArray.size=xs.length:=by rw [K3];exact r.length.symm
 refine ⟨"tuple",_,PyProof.Rows.slot_tuple_getitem.lookup,ht.typeIs,?_⟩;exact adw ht hs pl pu (by rw [C1];exact hw) ⟨.ref a,H,I,rfl,q⟩
noncomputable def rSlR (K:PySem.W.Frag) (a:Addr) (lo hi:Option Int) (H:Hp) (Q:VK):Prop:=rSlL K (.ref a) lo hi H Q\/rSlT K (.ref a) lo hi H Q\/rSlW K (.ref a) lo hi H Q
theorem rSlR.l{lo hi:Option Int}(h1:E5 K H a xs)(h:∀ p,H p=none->Q (.ref p) (A4 H p (.lst (cutV xs lo hi)))):rSlR K a lo hi H Q:=.inl ⟨a,xs,rfl,h1,h⟩
theorem rSlR.t{lo hi:Option Int}(h1:C9 K H a xs)(h2:¬ (HT.sIx xs.length 0 lo=0/\HT.sIx xs.length xs.length hi=xs.length))(h:∀ p,H p=none->Q (.ref p) (A4 H p (.tup (cutV xs lo hi)))):rSlR K a lo hi H Q:=.inr (.inl ⟨a,xs,rfl,h1,h2,h⟩)
theorem rSlR.w{lo hi:Option Int}(h1:C9 K H a xs)(h2:HT.sIx xs.length 0 lo=0/\HT.sIx xs.length xs.length hi=xs.length)(h:Q (.ref a) H):rSlR K a lo hi H Q:=.inr (.inr ⟨a,xs,rfl,h1,h2,h⟩)
noncomputable def rSlU (K:PySem.W.Frag):V->Option Int->Option Int->Hp->VK->Prop
 | .str z,lo,hi,H,Q=>z.length<=sizeLine/\Q (.str (cutS z lo hi)) H
 | .ref a,lo,hi,H,Q=>rSlR K a lo hi H Q
 | _,_,_,_,_=>False
theorem p_sl:gD X (rSlU X.K):=by
 intro pins s Y H x v vl vu lo hi sl Q I rx hs pl pu h
 cases x with
 | str z=>exact aog pins s Y H _ v vl vu lo hi sl Q I rx hs pl pu ⟨z,rfl,h⟩
 | ref a=>
  rcases h with h | h | h
  .exact amu pins s Y H _ v vl vu lo hi sl Q I rx hs pl pu h
  .exact an3 pins s Y H _ v vl vu lo hi sl Q I rx hs pl pu h
  .exact aoh pins s Y H _ v vl vu lo hi sl Q I rx hs pl pu h
 | _=>exact h.elim
noncomputable def LenR (K:PySem.W.Frag) (H:Hp) (p:Addr) (n:Nat):Prop:=(∃ xs,E5 K H p xs/\n=xs.length)\/(∃ xs,C9 K H p xs/\n=xs.length)\/∃ kvs,Rd H p (.dK kvs)/\n=kvs.length
noncomputable def rLenU (K:PySem.W.Frag):List V->Hp->VK->Prop
 | [.str z],H,Q=>z.length<=sizeLine/\Q (.int z.length) H
 | [.ref p],H,Q=>∃ n:Nat,LenR K H p n/\Q (.int n) H
 | _,_,_=>False
theorem p_len:CallR X (.builtin "len") (rLenU X.K):=by
 intro pins s Y H xs us Q I r h
 match xs,h with
 | [.str z],h=>exact rQ pins s Y H _ us Q I r ⟨.str z,z.length,rfl,⟨h.1,rfl⟩,h.2⟩
 | [.ref p],⟨n,l,q⟩=>
  rcases l with ⟨xs,l,rfl⟩ | ⟨xs,l,rfl⟩ | ⟨kvs,l,rfl⟩
  .exact rQ pins s Y H _ us Q I r ⟨.ref p,_,rfl,.inl ⟨xs,l,rfl⟩,q⟩
  .exact rQ pins s Y H _ us Q I r ⟨.ref p,_,rfl,.inr ⟨xs,l,rfl⟩,q⟩
  .obtain ⟨u,rfl,ru⟩:=vals1 r
   cases ru
   exact d_len I l fun t s' I'=>⟨.int kvs.length,H,I',⟨t,rfl⟩,q⟩
theorem aew(hc:X.calm=true):CallR X (.type "list") (fun xs H Q=>∃ d kvs,xs=[.ref d]/\Rd H d (.dK kvs)/\∀ l,H l=none->Q (.ref l) (A4 H l (.lst (kvs.map fun kv=>kV kv.1)))):=by
 intro pins s Y H xs us Q I r h;obtain ⟨d,kvs,rfl,e,q⟩:=h;obtain ⟨u,rfl,rx⟩:=vals1 r
 cases rx
 obtain ⟨z,hd,vs,rel,dd⟩:=dk_rd I.hok e;obtain ⟨ep,N6⟩:=dd.dictAt;have hl:=rel.length;refine PySem.W.kdl_call (PySem.W.kdl_dict (knd:=N8 X.prog X.w) (kvs:=vs) (ep:=ep) hd) (I.ok.hd hc) N6 (by lia) fun h' tk acc c' kp hD lS=>?_
 have hv:Vals (kvs.map fun kv=>kV kv.1) acc.toList:=by
  have hk:=rel.keys;have C1:acc.toList.length=kvs.length:=by rw [dX,lS.1,hl]
  have key:∀ (ks:List C3) (us:List Value),us.length=ks.length->(∀ (j:Nat) (v:Value),us[j]?=some v->∃ k,ks[j]?=some k/\keyIs k v=true)->Vals (ks.map kV) us:=by
   intro ks
   induction ks with
   | nil=>intro us h1 _;cases us with
    | nil=>exact .nil
    | cons _ _=>simp at h1
   | cons k ks ih=>
    intro us h1 h2
    cases us with
    | nil=>simp at h1
    | cons u us=>
     obtain ⟨k',e1,e2⟩:=h2 0 u rfl;simp at e1;subst e1;refine .cons ?_ (ih us (by simpa using h1) fun j v hj=>by simpa using h2 (j+1) v (by simpa using hj))
     rcases j9 e2 with ⟨i,t,rfl,rfl⟩ | ⟨x,t,rfl,rfl⟩
     .exact ⟨t,rfl⟩
     .exact ⟨t,rfl⟩
  rw [show (kvs.map fun kv=>kV kv.1)=(kvs.map (·.1)).map kV by rw [g8];rfl];refine key _ _ (by rw [C1,A7]) fun j v hj=>?_
  obtain ⟨k,x,hx,wI⟩:=lS.2 j v (by rw [<- Array.getElem?_toList];exact hj);refine ⟨k,?_,wI⟩;rw [hk,V2,hx];rfl
 refine ⟨.ref s.heap.objs.size,_,I.laid (t':=tk) kp (C5 _) (show ObjOk X.prog X.w _ h' _ (.lst (kvs.map fun kv=>kV kv.1)) from ⟨by rw [A7];exact z,acc.toList,c',hv,by simpa using hD⟩),rfl,q _ (I.hok.fresh (C5 _))⟩
noncomputable def rListR (K:PySem.W.Frag) (calm:Bool) (p:Addr) (H:Hp) (Q:VK):Prop:=(∃ ys,(E5 K H p ys\/C9 K H p ys)/\∀ l,H l=none->Q (.ref l) (A4 H l (.lst ys)))\/(calm=true/\∃ kvs,Rd H p (.dK kvs)/\∀ l,H l=none->Q (.ref l) (A4 H l (.lst (kvs.map fun kv=>kV kv.1))))
theorem rListR.l{ys:List V}(h1:E5 K H p ys\/C9 K H p ys)(h:∀ l,H l=none->Q (.ref l) (A4 H l (.lst ys))):rListR K calm p H Q:=.inl ⟨ys,h1,h⟩
theorem rListR.d(h1:Rd H p (.dK kvs))(h:∀ l,H l=none->Q (.ref l) (A4 H l (.lst (kvs.map fun kv=>kV kv.1)))):rListR K true p H Q:=.inr ⟨rfl,kvs,h1,h⟩
noncomputable def sM (K:PySem.W.Frag) (calm:Bool):List V->Hp->VK->Prop
 | [.ref p],H,Q=>rListR K calm p H Q
 | _,_,_=>False
theorem aoi:CallR X (.type "list") (sM X.K X.calm):=by
 intro pins s Y H xs us Q I r h
 match xs,h with
 | [.ref p],h=>
  rcases h with ⟨ys,h1,h2⟩ | ⟨hc,kvs,h1,h2⟩
  .exact afL pins s Y H _ us Q I r ⟨p,ys,rfl,h1,h2⟩
  .exact aew hc pins s Y H _ us Q I r ⟨p,kvs,rfl,h1,h2⟩
noncomputable def rAllB (calm:Bool):List V->Hp->VK->Prop
 | [.ref p],H,Q=>∃ bs:List Bool,calm=true/\H p=some (.lst (bs.map V.bl))/\Q (.bl (bs.all id)) H
 | _,_,_=>False
noncomputable def cC (H:Hp):V->Option String
 | .non=>some "NoneType"
 | .bl _=>some "bool"
 | .int _=>some "int"
 | .str _=>some "str"
 | .ref a=>match H a with
  | some (.lst _)=>some "list"
  | some (.frz _ (.lst _))=>some "list"
  | some (.tup _)=>some "tuple"
  | some (.dK _)=>some "dict"
  | _=>none
 | _=>none
noncomputable def sN (T n:String):Bool:=T==n || (T == "bool" && n == "int")
noncomputable def isTys:List String:=["str", "int", "bool", "list", "tuple", "dict"]
noncomputable def rIsi:List V->Hp->VK->Prop
 | [x,.ty n],H,Q=>∃ T,cC H x=some T/\isTys.contains n=true/\Q (.bl (sN T n)) H
 | _,_,_=>False
theorem aoj{T:String}(h:cC H x=some T):TyOf K H x (.type T)/\["NoneType", "bool", "int", "str", "list", "tuple", "dict"].contains T=true:=by
 cases x with
 | non=>cases h;exact ⟨.non,by decide⟩
 | bl b=>cases h;exact ⟨.bl b,by decide⟩
 | int i=>cases h;exact ⟨.int i,by decide⟩
 | str z=>cases h;exact ⟨.str z,by decide⟩
 | ref a=>
  unfold cC at h
  dsimp only at h
  cases e:H a with
  | none=>rw [e] at h;cases h
  | some o=>
   rw [e] at h
   cases o with
   | lst xs=>cases h;exact ⟨.lst e,by decide⟩
   | tup xs=>cases h;exact ⟨.tup e,by decide⟩
   | dK kvs=>cases h;exact ⟨.dK e,by decide⟩
   | frz ob u=>
    cases u with
    | lst xs=>cases h;exact ⟨.frz e,by decide⟩
    | _=>cases h
   | _=>cases h
 | _=>cases h
theorem amD(K:PySem.W.Frag):∀ T∈["NoneType", "bool", "int", "str", "list", "tuple", "dict"],∀ n∈isTys,PySem.W.kitOne K (.type T) (.type n)=some (sN T n):=by
 intro T hT n hn;simp only [D9,W8,or_false,isTys] at hT hn
 rcases hT with rfl | rfl | rfl | rfl | rfl | rfl | rfl <;> rcases hn with rfl | rfl | rfl | rfl | rfl | rfl <;> rfl
theorem akK:CallR X (.builtin "isinstance") rIsi:=by
 intro pins s Y H xs us Q I r h
 match xs,h with
 | [x,.ty n],⟨T,h1,h2,q⟩=>
  obtain ⟨u,c,rfl,ru,rc⟩:=vals2 r;obtain rfl:c=Value.type n:=rc;obtain ⟨h3,h4⟩:=aoj (K:=X.K) h1;exact aiV I ru h3 (amD X.K T (by simpa using h4) n (by simpa using h2)) fun tk=>⟨.bl _,H,I.tok tk,rfl,q⟩
noncomputable def rOrd:List V->Hp->VK->Prop
 | [.str z],H,Q=>z.length=1/\Q (.int (z.cps.getD 0 0:Nat)) H
 | _,_,_=>False
noncomputable def gJ (x:Str):It:=⟨fun i _=>i<x.cps.size,fun i H v H'=>H'=H/\∃ c,x.cps.toList[i]?=some c/\v=.str ⟨#[c]⟩,fun i _=>x.cps.size<=i⟩
theorem akL{P:Program}{w:World}{ty:String}(U5:ty="str_ascii_iterator"\/ty="str_iterator")(it:Addr)(x:Str)(t:Tok):Turn P w K tg (gJ x) [it] it (fun i h=>h.IsStrIter it ty x t i) where
 mem:=by simp
 obj:=fun i h st b hb=>by
  have e:b=it:=by simpa using hb
  subst e;obtain ⟨o,e,c,d⟩:=st;exact ⟨o,e,fun v z=>by rw [d] at z;cases z⟩
 keep:=fun i h h' st k=>let ⟨o,e,r⟩:=st;⟨o,k it (by simp) o e,r⟩
 item:=by
  intro X hP hw hK hc i pins s Y H E I hf st hg;subst hP hw hK;obtain ⟨f0,f1,f2,f3,f4,f5⟩:=hf it (by simp);have cX:i<x.cps.size:=hg;have go:∀ h',h'.IsStrIter it ty x t (i+1)->Heap.SameBut it s.heap h'->∃ u,some (Value.str ⟨#[x.cps[i]]⟩ s.toks)=some u/\
    wpAny (model X.prog X.w) X.A (letOwnedTupleGo tg (.ref it) u) (fun _ s2=>∃ y H',Inv X pins Y H' s2/\RelV y u/\(gJ x).yld i H y H'/\s2.heap.IsStrIter it ty x t (i+1)/\∀ b∈[it],H' b=none) E { s with heap:=h',toks:=s.toks+1 }:=by
   intro h' st' sb;have I1:Inv X pins Y H { s with heap:=h',toks:=s.toks+1 }:=I.turned (t':=s.toks+1) (fun b o hb e=>(sb.2 b hb).trans e) f0 f1 f3 f4 f5;obtain ⟨o,e,c,d⟩:=id st';refine ⟨_,rfl,go_of (s:={ s with heap:=h',toks:=s.toks+1 }) e c d (by rcases U5 with rfl | rfl <;> decide) ⟨.str ⟨#[x.cps[i]]⟩,H,I1,⟨_,rfl⟩,⟨rfl,x.cps[i],?_,rfl⟩,st',fun b hb=>(hf b hb).1⟩⟩;simp [cX]
  rcases U5 with rfl | rfl
  .exact wpAny_pyNext_ascii_item st (c:=x.cps[i]) (by simp [cX]) go
  .exact wpAny_pyNext_wide_item st (c:=x.cps[i]) (by simp [cX]) go
 done:=by
  intro X hP hw hK hc i pins s Y H E I hf st hg;subst hP hw hK;obtain ⟨f0,f1,f2,f3,f4,f5⟩:=hf it (by simp);have cX:x.cps.size<=i:=hg;have fin:∀ h',Heap.ExtBut it s.heap h'->(none:Option Value)=none/\Inv X pins Y H { s with heap:=h' }:=fun h' eb=>⟨rfl,I.turned (t':=s.toks) (fun b o hb e=>eb b o hb e) f0 f1 f3 f4 f5⟩
  rcases U5 with rfl | rfl
  .exact wpAny_pyNext_ascii_end (I.ok.hd hc) st (by simp [cX]) fin
  .exact wpAny_pyNext_wide_end (I.ok.hd hc) st (by simp [cX]) fin
 self:=fun A i s Q E st h=>by
  rcases U5 with rfl | rfl
  .exact wpAny_pyIter_striter_ascii st h
  .exact wpAny_pyIter_striter_wide st h
noncomputable def iStr (tl:TE):TI:=fun Y H R=>tl Y H fun x H1=>∃ z,x=.str z/\R (gJ z) H1
variable {tg:Expr}
theorem aok{l:Expr}(hl:PE X l tl):PI X tg l (iStr tl):=by
 intro pins s Y H R I h;refine C4 (hl pins s Y H _ I h) fun v s1 ⟨x,H1,I1,r1,q1⟩=>?_
 obtain ⟨z,rfl,q⟩:=q1;obtain ⟨t,rfl⟩:=r1;have fin:∀ (ty:String) (U5:ty="str_ascii_iterator"\/ty="str_iterator"),rM X pins Y tg R (.ref s1.heap.objs.size) { s1 with heap:=s1.heap.push { cls:=.type ty,data:=.fields #[.str z t,.int 0 0] } }:=fun ty U5=>by
  refine ⟨s1.heap.objs.size,[s1.heap.objs.size],_,_,H1,rfl,I1.kept (t':=s1.toks) fun b o e=>Heap.get?_push_of_some _ e,akL U5 s1.heap.objs.size z t,⟨_,Heap.get?_push_size _ rfl,rfl,rfl⟩,fun b hb=>?_,q⟩;have e:b=s1.heap.objs.size:=by simpa using hb
  subst e;exact I1.fpOk (C5 _) (I1.hok.fresh (C5 _))
 cases ha:z.cps.all (· < 128)
 .exact wpAny_pyIter_wide ha (fin _ (.inr rfl))
 .exact wpAny_pyIter_ascii ha (fin _ (.inl rfl))
end
end L2
set_option maxRecDepth 100000
namespace L2
open PySem PySem.Spec PyProof.Rows
noncomputable def K2:Expr->Bool
 | .Starred _ _=>true
 | _=>false
noncomputable def W1 (es:List Expr):Bool:=es.all fun e=>!K2 e
theorem N3{es:List Expr}{env:Env}(h:K2 e=false):starEach (e::es) env=(false,eval e env)::starEach es env:=by
 cases e <;> first | rfl | cases h
theorem eF{pos:Pos}{env:Env} : ∀ {es:List Expr},W1 es=true->(backTo pos (starEach es env)).any (·.1)=false
 | [],_=>rfl
 | e::es,h=>by
  have h':(!K2 e&&W1 es)=true:=h;rw [W9] at h';rw [N3 (by simpa using h'.1)];have ih:=eF (pos:=pos) (env:=env) h'.2;unfold backTo at ih ⊢
  rw [G6,z8,ih];rfl
theorem zY{pos:Pos}{env:Env} : ∀ {es:List Expr},W1 es=true->(backTo pos (starEach es env)).all (fun x=>!x.1)=true
 | [],_=>rfl
 | e::es,h=>by
  have h':(!K2 e&&W1 es)=true:=h;rw [W9] at h';rw [N3 (by simpa using h'.1)];have ih:=zY (pos:=pos) (env:=env) h'.2;unfold backTo at ih ⊢
  rw [G6,List.all_cons,ih];rfl
section
variable {X:Cx} {e:Expr} {es:List Expr} {te:TE} {t:TA} {x:Str} {p pos:Pos} {id T:String} {r:List V->Hp->VK->Prop}
theorem pa_c(ha:PE X e te)(hr:PA X es t)(h:K2 e=false:=by rfl):PA X (e::es) (tCons te t):=aml ha hr (N3 h)
theorem pe_cB(hc:CallR X (.builtin id) r)(hg:Gl X x)(hm:X.mg x=none)(hv:bootBuiltins x=some (.builtin id))(ha:PA X (e::es) t)(h1:K2 e=false:=by rfl)(h2:W1 es=true:=by rfl)(hn:x≠"__name__":=by decide)(Q8:(x==("__debug__" : Str))=false:=by decide) :
  PE X (.Call (.Name x p) (e::es) [] pos) (eB r t):=aky hc hg hm hv ha hn Q8 (N3 h1) (eF h2)
theorem pe_cT(hc:CallR X (.type T) r)(hg:Gl X x)(hm:X.mg x=none)(hv:bootBuiltins x=some (.type T))(ha:PA X (e::es) t)(h1:K2 e=false:=by rfl)(h2:W1 es=true:=by rfl)(hn:x≠"__name__":=by decide)(Q8:(x==("__debug__" : Str))=false:=by decide) :
  PE X (.Call (.Name x p) (e::es) [] pos) (eB r t):=aiY hc hg hm hv ha hn Q8 (N3 h1) (eF h2)
variable {o:Expr} {to:TE} {name:Str} {apos cpos:Pos} {rm:V->List V->Hp->VK->Prop}
theorem pe_mB(pa:PlainAttrs T)(slot:Slot T name id)(U5:typeOf (.builtin id)=pure (.type "method_descriptor"))(hm:nO X id rm)(ho:PE X o to)(ha:PA X (e::es) t)(h1:K2 e=false:=by rfl)(h2:W1 es=true:=by rfl)(h3:decide ((e::es).length<30)=true:=by rfl)(G1:attributeBase o name X.env (eval o X.env)=eval o X.env:=by rfl)(G2:(apos.endLine==cpos.line)=true:=by rfl):PE X (.Call (.Attribute o name apos) (e::es) [] cpos) (jT X.K T rm to t):=
 pe_bm pa slot U5 hm ho ha G1 (by
  rw [zY (show W1 (e::es)=true by show (!K2 e&&W1 es)=true;rw [h1,h2];rfl)];have h3':(e::es).length<30:=of_decide_eq_true h3;simp only [List.isEmpty_nil,if_true,V4,Nat.add_zero,Bool.true_and];rw [decide_eq_true h3'];rfl) G2 (N3 h1) (eF h2)
variable {tg a b:Expr} {ta:TA}
theorem pi_r1(hg:Gl X "range")(hm:X.mg "range"=none)(ha:PA X [a] ta)(h1:K2 a=false:=by rfl):PI X tg (.Call (.Name "range" p) [a] [] pos) (iRng1 ta):=aiJ hg hm ha (by rw [N3 h1];rfl)
end
noncomputable def FO (P:Program) (w:World) (K:PySem.W.Frag) (mg:Str->Option Value) (base:Heap) (k:Nat) (x:Str) (ps:List Str) (dvs:List V) (sp:Sp):Prop:=
 ∃ f fd,FnOk P w K mg base E8 k f fd ps sp/\mg x=some (.ref f)/\V8 K (.ref f)=true/\∃ ds,Binds K fd ps ds/\Vals dvs ds
structure FunD(K:PySem.W.Frag)(x qual:Str)(st:Stmt)(f:Addr)(fd:FuncData):Prop where
 ex:∃ (oc:Value) (od:Option Addr) (dV kV doc pm:Value) (an:Option Addr) (cdv ct:Value) (osl:Array (Option Value)),
  fd=T6 x qual (V9 st) (U4 st) (C6 st) dV kV doc pm an cdv ct/\K.lookup f=some ⟨oc,od,.func fd,osl⟩/\Y0 K cdv qual=true
section
variable {P:Program} {w:World} {K:PySem.W.Frag} {mg:Str->Option Value} {base:Heap}
theorem FunD.ok{x:Str}(F:FunD K x qual st f fd)(S:FnScope N ps (C6 st))(len:∀ vs H Q E,sp vs H Q E->vs.length=ps.length)(m9:∀ (cdv:Value) (A:Around) (outer:List Env) (s:Shared) (H:Hp) (vs:List V) (Q:VK) (E:XK),Room k (A.deeper (envOfC qual (C6 st) s.heap.objs.size f cdv))->sp vs H Q E->
   ∃ t,X0 (cxOf E8 P w K mg base N qual (C6 st) f cdv A outer s H E).nox (U4 st) t/\t { nx:=fun _ H'=>Q .non H',rt:=Q } (start N vs) H):FnOk P w K mg base E8 (k+1) f fd ps sp:=by
 obtain ⟨oc,od,dV,kV,doc,pm,an,cdv,ct,osl,rfl,lk,i9⟩:=F.ex;refine fn_of lk i9 S len fun A outer s H vs Q E hr cT=>?_
 obtain ⟨t,h,q⟩:=m9 cdv A outer s H vs Q E hr cT;exact ⟨t,h.nox,q⟩
theorem aI{x:Str}{osl:Array (Option Value)}{dV kV doc cdv:Value}(l:K.lookup f=some ⟨oc,od,.func (T6 x qual (V9 st) (U4 st) (C6 st) dV kV doc pm an cdv ct),osl⟩)(c:Y0 K cdv qual=true):FunD K x qual st f (T6 x qual (V9 st) (U4 st) (C6 st) dV kV doc pm an cdv ct):=⟨oc,od,dV,kV,doc,pm,an,cdv,ct,osl,rfl,l,c⟩
end
section
variable {X:Cx} {k:Nat} {ps:List Str} {sp:Sp} {dvs:List V} {x:Str} {p pos:Pos} {e:Expr} {es:List Expr} {t:TA}
theorem akM(G:FO X.prog X.w X.K X.mg X.base k x ps dvs sp)(hr:Room k X.A)(ha:PA X (e::es) t)(hg:Gl X x:=by rfl)(h1:K2 e=false:=by rfl)(h2:W1 es=true:=by rfl)(Q8:(x==("__debug__" : Str))=false:=by decide):PE X (.Call (.Name x p) (e::es) [] pos) (tCall sp dvs E0 t):=by
 obtain ⟨f,fd,F,hm,hk,ds,hb,hd⟩:=G;exact amm F hr hg hm hk hb hd pass0 ha Q8 (N3 h1) (eF h2)
theorem akN{i:Int}(h:∃ t,X.mg x=some (.int i t))(hg:Gl X x:=by rfl)(hd:(x==("__debug__" : Str))=false:=by decide):PE X (.Name x p) (tC (.int i)):=by
 obtain ⟨t,h⟩:=h;exact yP hg h ⟨t,rfl⟩ hd
theorem akO(h:X.mg x=some (.ref a))(hg:Gl X x:=by rfl)(hd:(x==("__debug__" : Str))=false:=by decide):PE X (.Name x p) (tC (.ref a)):=yP hg h rfl hd
end
section
variable {Y:St} {H:Hp} {Q:VK} {B:Bool->Hp->Prop} {ta tb tc te:TE} {t u:TS} {tt uu:TT} {D:Ends} {i:Nat} {v:V} {r r':R2} {K:PySem.W.Frag} {taa:TA} {R:List V->Hp->Prop} {g:TG}
theorem zZ:tVar i Y H Q=∃ v,(Y[i]?).join=some v/\Q v H:=by
 unfold tVar;refine propext ⟨fun ⟨v,h,q⟩=>⟨v,by rw [h];rfl,q⟩,fun ⟨v,h,q⟩=>⟨v,?_,q⟩⟩;cases e:Y[i]? with
 | none=>rw [e] at h;cases h
 | some o=>rw [e] at h;exact congrArg some h
theorem ap_c:tC v Y H Q=Q v H:=rfl
theorem ap_op:k7 r ta tb Y H Q=ta Y H fun x H1=>tb Y H1 fun y H2=>r x y H2 Q:=rfl
theorem ap_un{ru:V->Hp->VK->Prop} : rN ru ta Y H Q=ta Y H fun x H1=>ru x H1 Q:=rfl
theorem ap_rU{f:Int->V} : rU f x H Q=∃ i,x=.int i/\Q (f i) H:=rfl
theorem amE:tTest ta Y H B=ta Y H fun x H'=>∃ k,x=.bl k/\B k H':=rfl
theorem ap_tB:tB ta Y H B=ta Y H fun x H'=>∃ k,x=.bl k/\B k H':=rfl
theorem amF:tTru K ta Y H B=ta Y H fun x H'=>∃ k,TruV K x H' k/\B k H':=rfl
theorem amG:tNotT K ta Y H Q=ta Y H fun x H'=>∃ k,TruV K x H' k/\Q (.bl (!k)) H':=rfl
theorem akP:rP r r' ta tb tc Y H Q=ta Y H fun x H1=>tb Y H1 fun y H2=>r x y H2 fun z H3=>∃ k,z=.bl k/\(if k=true then tc Y H3 fun w' H4=>r' y w' H4 Q else Q (.bl false) H3):=rfl
theorem aol:tAnd tt uu Y H B=tt Y H fun c H1=>if c=true then uu Y H1 B else B false H1:=rfl
theorem ap_or:rG tt uu Y H B=tt Y H fun c H1=>if c=true then B true H1 else uu Y H1 B:=rfl
theorem aom:tNot tt Y H B=tt Y H fun c H1=>B (!c) H1:=rfl
theorem amH:tAndV ta tb Y H Q=ta Y H fun x H1=>∃ c,x=.bl c/\if c=true then tb Y H1 Q else Q (.bl false) H1:=rfl
theorem aon:tOrV ta tb Y H Q=ta Y H fun x H1=>∃ c,x=.bl c/\if c=true then Q (.bl true) H1 else tb Y H1 Q:=rfl
theorem amI:tNotV ta Y H Q=ta Y H fun x H1=>∃ c,x=.bl c/\Q (.bl (!c)) H1:=rfl
theorem ap_if:rH tt ta tb Y H Q=tt Y H fun c H1=>if c=true then ta Y H1 Q else tb Y H1 Q:=rfl
theorem amJ:tNext D Y H=D.nx Y H:=rfl
theorem aoo:tSeq t u D Y H=t { D with nx:=u D } Y H:=rfl
theorem akQ:anH D Y H=D.bk Y H:=rfl
theorem amK:tCont D Y H=D.ct Y H:=rfl
theorem amL:tDrop te D Y H=te Y H fun _ H1=>D.nx Y H1:=rfl
theorem aop:tRet te D Y H=te Y H D.rt:=rfl
theorem amM:tRetN D Y H=D.rt .non H:=rfl
theorem aoq:tIfS tt t u D Y H=tt Y H fun b H1=>if b=true then t D Y H1 else u D Y H1:=rfl
theorem akR:rJ D Y H=False:=rfl
theorem amN{Z:St->Hp->Prop} : gName i v Y H Z=Z (Y.set i (some v)) H:=rfl
theorem amO{Z:St->Hp->Prop} : gNil vs Y H Z=(vs=[]/\Z Y H):=rfl
theorem akS{us:g9}{Z:St->Hp->Prop} : gCons g us vs Y H Z=∃ v r,vs=v::r/\g v Y H fun σ' H'=>us r σ' H' Z:=rfl
theorem amP{us:g9}{Z:St->Hp->Prop} : gTup K n us v Y H Z=∃ a xs,v=.ref a/\C9 K H a xs/\xs.length=n/\us xs Y H Z:=rfl
theorem amQ{ts:TSet}{Z:St->Hp->Prop} : gSub ta tb ts v Y H Z=ta Y H fun o H1=>tb Y H1 fun i H2=>ts o i v H2 fun H3=>Z Y H3:=rfl
theorem aor:tAsg te g D Y H=te Y H fun x H1=>g x Y H1 D.nx:=rfl
theorem aos{ti:dZ} : tAug i te ti D Y H=∃ x,(Y[i]?).join=some x/\te Y H fun y H1=>ti x y H1 fun z H2=>D.nx (Y.set i (some z)) H2:=zZ (Q:=fun x H=>te Y H fun y H1=>ti x y H1 fun z H2=>D.nx (Y.set i (some z)) H2)
theorem aot{f:Int->Int->Int} : rL f x y H Q=∃ i j,x=.int i/\y=.int j/\Q (.int (f i j)) H:=rfl
theorem amR:tCons te taa Y H R=te Y H fun x H1=>taa Y H1 fun xs H2=>R (x::xs) H2:=rfl
theorem aou:tNil Y H R=R [] H:=rfl
theorem amS{E:XK} : tCall sp dvs E taa Y H Q=taa Y H fun vs H1=>sp (vs++dvs) H1 Q E:=rfl
theorem ap_cb{rc:List V->Hp->VK->Prop} : eB rc taa Y H Q=taa Y H fun vs H1=>rc vs H1 Q:=rfl
theorem aov:tTup taa Y H Q=taa Y H fun xs H1=>xs.length<=sizeLine/\∀ p,H1 p=none->Q (.ref p) (A4 H1 p (.tup xs)):=rfl
theorem aow:tLst taa Y H Q=taa Y H fun xs H1=>xs.length<=sizeLine/\∀ p,H1 p=none->Q (.ref p) (A4 H1 p (.lst xs)):=rfl
theorem ap_sl{rs:V->Option Int->Option Int->Hp->VK->Prop}{tl th:TO} : rX rs te tl th Y H Q=te Y H fun x H1=>tl Y H1 fun l H2=>th Y H2 fun u H3=>rs x l u H3 Q:=rfl
theorem ajc{O:Option Int->Hp->Prop} : rW Y H O=O none H:=rfl
theorem amT{O:Option Int->Hp->Prop} : tPart te Y H O=te Y H fun x H1=>∃ i,x=.int i/\O (some i) H1:=rfl
theorem ap_bm{T:String}{rm:V->List V->Hp->VK->Prop} : jT K T rm te taa Y H Q=te Y H fun x H1=>aG K T x H1/\taa Y H1 fun xs H2=>rm x xs H2 Q:=rfl
theorem aox{T:String}{rm:V->List V->Hp->VK->Prop} : tBM0 K T rm te Y H Q=te Y H fun x H1=>aG K T x H1/\rm x [] H1 Q:=rfl
theorem aoy:tYes Y H B=B true H:=rfl
theorem amU:sG Y H Q=∀ p,H p=none->Q (.ref p) (A4 H p (.dK [])):=rfl
theorem amV:tDGet ta tb Y H Q=ta Y H fun x H1=>tb Y H1 fun y H2=>∃ a v,x=.ref a/\DGet H2 a y (some v)/\Q v H2:=rfl
theorem amW:sDPut ta tb tc D Y H=tc Y H fun v H1=>ta Y H1 fun x H2=>tb Y H2 fun y H3=>∃ a H4,x=.ref a/\DPut H3 a y v H4/\D.nx Y H4:=rfl
theorem amX{rd:V->V->Hp->VK->Prop} : sDAug ta tb tc rd D Y H=ta Y H fun x H1=>tb Y H1 fun y H2=>∃ a v,x=.ref a/\DGet H2 a y (some v)/\tc Y H2 fun y2 H3=>rd v y2 H3 fun z H4=>∃ H5,DPut H4 a y z H5/\D.nx Y H5:=rfl
theorem amY : u4 (fun i j=>V.int (i-j)) x y H Q=∃ i j,x=.int i/\y=.int j/\Q (.int (i-j)) H:=rfl
theorem akT : rI CDiv (fun i j=>V.int (i / j)) x y H Q=∃ i j,x=.int i/\y=.int j/\(0<j/\j<1073741824)/\Q (.int (i / j)) H:=rfl
theorem amZ : rI (fun _ j=>0<j) (fun i j=>V.int (i % j)) x y H Q=∃ i j,x=.int i/\y=.int j/\0<j/\Q (.int (i % j)) H:=rfl
theorem am0 : aG K "str" (.str z) H=True:=by simp [aG]
noncomputable def ForIt (J:It) (g:TG) (tb:TS) (D:Ends) (Y:St) (H1:Hp):Prop:=∃ W:Nat->Nat->St->Hp->Prop,(∃ m,W 0 m Y H1)/\∀ i m Y H,W i m Y H->
 (J.stop i H/\D.nx Y H)\/(J.go i H/\∃ N:St->Hp->Prop,(∀ σ' H',N σ' H'->∃ m',m'<m/\W (i+1) m' σ' H')/\∀ x H',J.yld i H x H'->g x Y H' fun σ2 H2=>tb { D with nx:=N,ct:=N,bk:=D.nx } σ2 H2)
theorem aoz{wi:TI}{tbs:TS} : tFor wi g tbs D Y H=wi Y H fun J H1=>ForIt J g tbs D Y H1:=rfl
theorem akU{Z:It->Hp->Prop} : iList K te Y H Z=te Y H fun x H1=>∃ a,x=.ref a/\(∃ xs,E5 K H1 a xs)/\Z (k5 K a) H1:=rfl
theorem am1{Z:It->Hp->Prop} : iTup K te Y H Z=te Y H fun x H1=>∃ a,x=.ref a/\(∃ xs,C9 K H1 a xs)/\Z (bZ K a) H1:=rfl
theorem am2{Z:It->Hp->Prop} : iStr te Y H Z=te Y H fun x H1=>∃ z,x=.str z/\Z (gJ z) H1:=rfl
theorem akV{Z:It->Hp->Prop} : iRng1 taa Y H Z=taa Y H fun vs H1=>∃ j:Int,vs=[.int j]/\-(2 ^ 62)<=j/\j<2 ^ 62/\Z (k6 0 j.toNat) H1:=rfl
theorem akW{Z:It->Hp->Prop} : iRng2 taa Y H Z=taa Y H fun vs H1=>∃ i j:Int,vs=[.int i,.int j]/\(-(2 ^ 62)<=i/\i<2 ^ 62/\-(2 ^ 62)<=j/\j<2 ^ 62)/\Z (k6 i (j-i).toNat) H1:=rfl
noncomputable def cD (J:It) (k:Nat) (ixs:List Nat) (g:TG) (c:TT) (te:TE) (Y:St) (Q:VK) (H1:Hp):Prop:=∀ D,H1 D=none->
 ∃ (n:Nat) (W:Nat->List V->St->Hp->Prop),W 0 [] (compStart k ixs Y) (A4 H1 D (.lst []))/\∀ i ys σ2 H2,W i ys σ2 H2->H2 D=some (.lst ys)->
  (J.stop i H2/\Q (.ref D) H2)\/
  (i<n/\J.go i H2/\∀ x H',J.yld i H2 x H'->g x σ2 H' fun σ3 H3=>c σ3 H3 fun b H4=>
   if b=true then te σ3 H4 fun y H5=>H5 D=some (.lst ys)/\ys.length<sizeLine/\W (i+1) (ys++[y]) σ3 (A4 H5 D (.lst (ys++[y])))
   else H4 D=some (.lst ys)/\W (i+1) ys σ3 H4)
theorem am3{wi:TI} : tComp wi k ixs g tt te Y H Q=wi Y H fun J H1=>cD J k ixs g tt te Y Q H1:=rfl
end
theorem am4{b k:Bool} : TruV K (.bl b) H k=(k=b):=rfl
theorem akX{i:Int}{k:Bool} : TruV K (.int i) H k=(k=(i != 0)):=rfl
theorem akY{k:Bool} : TruV K (.str z) H k=(z.length<=sizeLine/\k=((z.length:Int) != 0)):=rfl
theorem akZ{k:Bool} : TruV K .non H k=(k=false):=rfl
theorem ak0 : start N vs=vs.map some++V5 (N.length-vs.length) none:=rfl
theorem afU : compStart k ixs Y=V5 k none++ixs.map fun i=>(Y[i]?).join:=rfl
theorem am5{i:Int} : gE K (.str z) (.int i) H Q=∃ c,z.length<=sizeLine/\J9 z.cps.toList i=some c/\Q (.str ⟨#[c]⟩) H:=by
 simp only [gE,rIxL,rIxT,rIxS];refine propext ⟨fun h=>?_,fun ⟨c,h⟩=>.inr (.inr ⟨z,i,c,rfl,rfl,h⟩)⟩
 rcases h with ⟨p,xs,j,v,e,_⟩ | ⟨p,xs,j,v,e,_⟩ | ⟨z',i',c,e1,e2,h⟩
 .cases e
 .cases e
 .cases e1;cases e2;exact ⟨c,h⟩
theorem am6{i:Int} : gE K (.ref p) (.int i) H Q=∃ xs v,(E5 K H p xs\/C9 K H p xs)/\J9 xs i=some v/\Q v H:=by
 simp only [gE,rIxL,rIxT,rIxS];refine propext ⟨fun h=>?_,fun ⟨xs,v,h,r⟩=>?_⟩
 .rcases h with ⟨p',xs,j,v,e1,e2,h1,h2⟩ | ⟨p',xs,j,v,e1,e2,h1,h2⟩ | ⟨z',i',c,e1,e2,h⟩
  .cases e1;cases e2;exact ⟨xs,v,.inl h1,h2⟩
  .cases e1;cases e2;exact ⟨xs,v,.inr h1,h2⟩
  .cases e1
 .rcases h with h | h
  .exact .inl ⟨p,xs,i,v,rfl,rfl,h,r⟩
  .exact .inr (.inl ⟨p,xs,i,v,rfl,rfl,h,r⟩)
theorem jU{α:Type}{xs:List α}{i:Int}(h0:0<=i)(h1:i<xs.length):∃ v,J9 xs i=some v/\v∈xs:=by
 have D0:i.toNat<xs.length:=by lia
 refine ⟨xs[i.toNat],?_,List.getElem_mem D0⟩;unfold J9 Y1;rw [if_pos h0,if_pos h1];simp [D0]
theorem X2:bootBuiltins "len"=some (.builtin "len"):=by decide +kernel
theorem adc:bootBuiltins "isinstance"=some (.builtin "isinstance"):=by decide +kernel
theorem alK:bootBuiltins "any"=some (.builtin "any"):=by decide +kernel
theorem aoA:bootBuiltins "min"=some (.builtin "min"):=by decide +kernel
theorem Y3:bootBuiltins "list"=some (.type "list"):=by decide +kernel
theorem aJ:bootBuiltins "tuple"=some (.type "tuple"):=by decide +kernel
theorem ajd:bootBuiltins "dict"=some (.type "dict"):=by decide +kernel
theorem alL:bootBuiltins "int"=some (.type "int"):=by decide +kernel
section
variable {K:PySem.W.Frag} {H:Hp} {Q:VK} {i j:Int} {x y:Str} {u v:V} {b c:Bool} {p q:Addr} {lo hi:Option Int} {cm:Bool}
theorem ad_ii:rAddU K (.int i) (.int j) H Q=Q (.int (i+j)) H:=rfl
theorem ad_ss:rAddU K (.str x) (.str y) H Q=(x.length+y.length<=sizeLine/\Q (.str (x++y)) H):=rfl
theorem ad_rr:rAddU K (.ref p) (.ref q) H Q=rAddR K p q H Q:=rfl
theorem mu_ii:rMulU (.int i) (.int j) H Q=(CMul i j/\Q (.int (i*j)) H):=rfl
theorem mu_ri:rMulU (.ref p) (.int j) H Q=rRep (.ref p) (.int j) H Q:=rfl
theorem eq_ii:rEqU K (.int i) (.int j) H Q=Q (.bl (decide (i=j))) H:=rfl
theorem eq_ss:rEqU K (.str x) (.str y) H Q=Q (.bl (decide (x=y))) H:=rfl
theorem eq_bb:rEqU K (.bl b) (.bl c) H Q=Q (.bl (decide (b=c))) H:=rfl
theorem eq_rx:rEqU K (.ref p) v H Q=∃ d e,Dn K H (.ref p) d/\Dn K H v e/\min d.depth e.depth<=60/\Q (.bl (O9 d e)) H:=by cases v <;> rfl
theorem eq_xr:rEqU K v (.ref p) H Q=∃ d e,Dn K H v d/\Dn K H (.ref p) e/\min d.depth e.depth<=60/\Q (.bl (O9 d e)) H:=by cases v <;> rfl
theorem ne_ii:rNeU K (.int i) (.int j) H Q=Q (.bl (!decide (i=j))) H:=rfl
theorem ne_ss:rNeU K (.str x) (.str y) H Q=Q (.bl (!decide (x=y))) H:=rfl
theorem ne_bb:rNeU K (.bl b) (.bl c) H Q=Q (.bl (!decide (b=c))) H:=rfl
theorem ne_rx:rNeU K (.ref p) v H Q=∃ d e,Dn K H (.ref p) d/\Dn K H v e/\min d.depth e.depth<=60/\Q (.bl (!PyData.eqv d e)) H:=by cases v <;> rfl
theorem ne_xr:rNeU K v (.ref p) H Q=∃ d e,Dn K H v d/\Dn K H (.ref p) e/\min d.depth e.depth<=60/\Q (.bl (!PyData.eqv d e)) H:=by cases v <;> rfl
theorem lt_ii:rLtU (.int i) (.int j) H Q=Q (.bl (decide (i<j))) H:=rfl
theorem lt_ss:rLtU (.str x) (.str y) H Q=Q (.bl (decide (x.cps.toList<y.cps.toList))) H:=rfl
theorem le_ii:rLeU (.int i) (.int j) H Q=Q (.bl (decide (i<=j))) H:=rfl
theorem le_ss:rLeU (.str x) (.str y) H Q=Q (.bl (!decide (y.cps.toList<x.cps.toList))) H:=rfl
theorem gt_ii:rGtU (.int i) (.int j) H Q=Q (.bl (decide (j<i))) H:=rfl
theorem gt_ss:rGtU (.str x) (.str y) H Q=Q (.bl (decide (y.cps.toList<x.cps.toList))) H:=rfl
theorem ge_ii:rGeU (.int i) (.int j) H Q=Q (.bl (decide (j<=i))) H:=rfl
theorem ge_ss:rGeU (.str x) (.str y) H Q=Q (.bl (!decide (x.cps.toList<y.cps.toList))) H:=rfl
theorem in_xs:rInU K b u (.str x) H Q=∃ i,u=.str i/\Q (.bl (b.xor (!(Builtin.Str.occurrences x i 0 x.length 1).isEmpty))) H:=rfl
theorem in_xr:rInU K b u (.ref p) H Q=rInR K b u p H Q:=rfl
theorem sl_s:rSlU K (.str x) lo hi H Q=(x.length<=sizeLine/\Q (.str (cutS x lo hi)) H):=rfl
theorem sl_r:rSlU K (.ref p) lo hi H Q=rSlR K p lo hi H Q:=rfl
theorem len_s:rLenU K [.str x] H Q=(x.length<=sizeLine/\Q (.int x.length) H):=rfl
theorem len_r:rLenU K [.ref p] H Q=∃ n:Nat,LenR K H p n/\Q (.int n) H:=rfl
theorem aoB:sM K cm [.ref p] H Q=rListR K cm p H Q:=rfl
theorem all_r:rAllB cm [.ref p] H Q=∃ bs:List Bool,cm=true/\H p=some (.lst (bs.map V.bl))/\Q (.bl (bs.all id)) H:=rfl
theorem isi_t{n:String} : rIsi [u,.ty n] H Q=∃ T,cC H u=some T/\isTys.contains n=true/\Q (.bl (sN T n)) H:=rfl
theorem ord_s:rOrd [.str x] H Q=(x.length=1/\Q (.int (x.cps.getD 0 0:Nat)) H):=rfl
end
theorem forL{g:TG}(Pv:Nat->St->Hp->Prop)(h0:Pv 0 Y H)(hl:∀ i Y H,i<=xs.length->Pv i Y H->E5 K H a xs)(hs:∀ i x Y H,xs[i]?=some x->Pv i Y H->g x Y H fun σ2 H2=>tb { D with nx:=Pv (i+1),ct:=Pv (i+1),bk:=D.nx } σ2 H2)(hd:∀ Y H,Pv xs.length Y H->D.nx Y H):ForIt (k5 K a) g tb D Y H:=akr Pv h0 hl hs hd
theorem forT{g:TG}(Pv:Nat->St->Hp->Prop)(h0:Pv 0 Y H)(hl:∀ i Y H,i<=xs.length->Pv i Y H->C9 K H a xs)(hs:∀ i x Y H,xs[i]?=some x->Pv i Y H->g x Y H fun σ2 H2=>tb { D with nx:=Pv (i+1),ct:=Pv (i+1),bk:=D.nx } σ2 H2)(hd:∀ Y H,Pv xs.length Y H->D.nx Y H):ForIt (bZ K a) g tb D Y H:=amd Pv h0 hl hs hd
theorem forR{g:TG}(Pv:Nat->St->Hp->Prop)(h0:Pv 0 Y H)(hs:∀ i Y H,i<n->Pv i Y H->g (.int (lo+i)) Y H fun σ2 H2=>tb { D with nx:=Pv (i+1),ct:=Pv (i+1),bk:=D.nx } σ2 H2)(hd:∀ Y H,Pv n Y H->D.nx Y H):ForIt (k6 lo n) g tb D Y H:=aiL Pv h0 hs hd
noncomputable def CW (n:Nat) (fr:St) (Pv:Nat->List V->Hp->Prop) (i:Nat) (ys:List V) (σ2:St) (H2:Hp):Prop:=i<=n/\ys.length<=i/\(∃ v,σ2=v::fr)/\Pv i ys H2
theorem CW.put{fr:St}{Pv:Nat->List V->Hp->Prop}{ys:List V}{o:Option V}(hi:i<n)(hy:ys.length<=i)(p:Pv (i+1) (ys++[y]) H):CW n fr Pv (i+1) (ys++[y]) (o::fr) H:=
 ⟨hi,by rw [D1,W7];lia,⟨_,rfl⟩,p⟩
theorem jV{fr:St}{Pv:Nat->List V->Hp->Prop}{ys:List V}{o:Option V}(hi:i<n)(hy:ys.length<=i)(p:Pv (i+1) ys H):CW n fr Pv (i+1) ys (o::fr) H:=⟨hi,Nat.le_succ_of_le hy,⟨_,rfl⟩,p⟩
theorem compL(fr:St)(n8:compStart 1 ixs Y=none::fr)(Pv:Addr->Nat->List V->Hp->Prop)(h0:∀ D,H1 D=none->Pv D 0 [] (A4 H1 D (.lst [])))(hl:∀ D i ys H,H1 D=none->i<=xs.length->Pv D i ys H->E5 K H a xs)(hs:∀ D i x ys H,H1 D=none->i<xs.length->xs[i]?=some x->Pv D i ys H->H D=some (.lst ys)->ys.length<=i->c (some x::fr) H fun b H4=>
   if b=true then te (some x::fr) H4 fun y H5=>H5 D=some (.lst ys)/\ys.length<sizeLine/\CW xs.length fr (Pv D) (i+1) (ys++[y]) (some x::fr) (A4 H5 D (.lst (ys++[y])))
   else H4 D=some (.lst ys)/\CW xs.length fr (Pv D) (i+1) ys (some x::fr) H4)(hd:∀ D ys H,H1 D=none->Pv D xs.length ys H->H D=some (.lst ys)->ys.length<=xs.length->Q (.ref D) H):cD (k5 K a) 1 ixs (gName 0) c te Y Q H1:=by
 intro D hD;refine ⟨xs.length,CW xs.length fr (Pv D),⟨K1 _,K1 _,⟨none,n8⟩,h0 D hD⟩,?_⟩;rintro i ys σ2 H2 ⟨hi,hy,⟨v,rfl⟩,p⟩ hDy;have q:=hl D i ys H2 hD hi p
 by_cases D0:i<xs.length
 .refine .inr ⟨D0,⟨xs,xs[i],q,by simp [D0]⟩,fun x H' y=>?_⟩;obtain ⟨e,y⟩:=y;subst e;exact hs D i x ys _ hD D0 (y xs q) p hDy hy
 .have e:i=xs.length:=by lia
  subst e;exact .inl ⟨⟨xs,q,C5 _⟩,hd D ys H2 hD p hDy hy⟩
theorem compT(fr:St)(n8:compStart 1 ixs Y=none::fr)(Pv:Addr->Nat->List V->Hp->Prop)(h0:∀ D,H1 D=none->Pv D 0 [] (A4 H1 D (.lst [])))(hl:∀ D i ys H,H1 D=none->i<=xs.length->Pv D i ys H->C9 K H a xs)(hs:∀ D i x ys H,H1 D=none->i<xs.length->xs[i]?=some x->Pv D i ys H->H D=some (.lst ys)->ys.length<=i->c (some x::fr) H fun b H4=>
   if b=true then te (some x::fr) H4 fun y H5=>H5 D=some (.lst ys)/\ys.length<sizeLine/\CW xs.length fr (Pv D) (i+1) (ys++[y]) (some x::fr) (A4 H5 D (.lst (ys++[y])))
   else H4 D=some (.lst ys)/\CW xs.length fr (Pv D) (i+1) ys (some x::fr) H4)(hd:∀ D ys H,H1 D=none->Pv D xs.length ys H->H D=some (.lst ys)->ys.length<=xs.length->Q (.ref D) H):cD (bZ K a) 1 ixs (gName 0) c te Y Q H1:=by
 intro D hD;refine ⟨xs.length,CW xs.length fr (Pv D),⟨K1 _,K1 _,⟨none,n8⟩,h0 D hD⟩,?_⟩;rintro i ys σ2 H2 ⟨hi,hy,⟨v,rfl⟩,p⟩ hDy;have q:=hl D i ys H2 hD hi p
 by_cases D0:i<xs.length
 .refine .inr ⟨D0,⟨xs,xs[i],q,by simp [D0]⟩,fun x H' y=>?_⟩;obtain ⟨e,y⟩:=y;subst e;exact hs D i x ys _ hD D0 (y xs q) p hDy hy
 .have e:i=xs.length:=by lia
  subst e;exact .inl ⟨⟨xs,q,C5 _⟩,hd D ys H2 hD p hDy hy⟩
theorem compS(fr:St)(n8:compStart 1 ixs Y=none::fr)(Pv:Addr->Nat->List V->Hp->Prop)(h0:∀ D,H1 D=none->Pv D 0 [] (A4 H1 D (.lst [])))(hs:∀ D i x ys H,H1 D=none->i<z.cps.size->z.cps.toList[i]?=some x->Pv D i ys H->H D=some (.lst ys)->ys.length<=i->c (some (.str ⟨#[x]⟩)::fr) H fun b H4=>
   if b=true then te (some (.str ⟨#[x]⟩)::fr) H4 fun y H5=>H5 D=some (.lst ys)/\ys.length<sizeLine/\CW z.cps.size fr (Pv D) (i+1) (ys++[y]) (some (.str ⟨#[x]⟩)::fr) (A4 H5 D (.lst (ys++[y])))
   else H4 D=some (.lst ys)/\CW z.cps.size fr (Pv D) (i+1) ys (some (.str ⟨#[x]⟩)::fr) H4)(hd:∀ D ys H,H1 D=none->Pv D z.cps.size ys H->H D=some (.lst ys)->ys.length<=z.cps.size->Q (.ref D) H):cD (gJ z) 1 ixs (gName 0) c te Y Q H1:=by
 intro D hD;refine ⟨z.cps.size,CW z.cps.size fr (Pv D),⟨K1 _,K1 _,⟨none,n8⟩,h0 D hD⟩,?_⟩;rintro i ys σ2 H2 ⟨hi,hy,⟨v,rfl⟩,p⟩ hDy
 by_cases D0:i<z.cps.size
 .refine .inr ⟨D0,D0,fun x H' y=>?_⟩;obtain ⟨e,c,hc,rfl⟩:=y;subst e;exact hs D i c ys _ hD D0 hc p hDy hy
 .have e:i=z.cps.size:=by lia
  subst e;exact .inl ⟨C5 _,hd D ys H2 hD p hDy hy⟩
theorem B3{q:Addr}{o u:HO}(h:H p=some o)(n:H q=none):A4 H q u p=some o:=by rw [A9 (aE h n)];exact h
theorem Same.new{q:Addr}{u:HO}(n:H q=none):Same H (A4 H q u):=fun _ _ h=>B3 h n
theorem Same.put{q:Addr}{u:HO}(s:Same H0 H)(n:H0 q=none):Same H0 (A4 H q u):=fun b o h=>by rw [A9 (aE h n)];exact s b o h
end L2
set_option maxRecDepth 100000
namespace L2
open PySem PySem.Spec PyProof.Rows
theorem cxK{CX:Z7}{P:Program}{w:World}{base:Heap}{sc:Scope}{o:List Env}{E:XK} : (cxOf CX P w K mg base N q sc f cd A o s H E).K=K:=rfl
theorem cxKn : X.nox.K=X.K:=rfl
theorem cxKb{sc:Scope} : (M4 X sc N' C zw zt fp pins).K=X.K:=rfl
theorem cxC{CX:Z7}{P:Program}{w:World}{base:Heap}{sc:Scope}{o:List Env}{E:XK} : (cxOf CX P w K mg base N q sc f cd A o s H E).calm=true:=rfl
theorem cxCn : X.nox.calm=X.calm:=rfl
theorem cxCb{sc:Scope} : (M4 X sc N' C zw zt fp pins).calm=X.calm:=rfl
theorem iteD{c A B:Prop}[Decidable c](h1:c->A)(h2:¬ c->B):if decide c=true then A else B:=by
 by_cases h:c
 .rw [decide_eq_true h,if_pos rfl];exact h1 h
 .rw [decide_eq_false h,if_neg K7];exact h2 h
theorem iteN{c A B:Prop}[Decidable c](h1:¬ c->A)(h2:c->B):if (!decide c)=true then A else B:=by
 by_cases h:c
 .rw [decide_eq_true h];exact iteF (h2 h)
 .rw [decide_eq_false h];exact iteT (h1 h)
theorem N4(h:H p=some (.lst xs)):aG K "list" (.ref p) H:=.inl ⟨rfl,_,E5.of h⟩
theorem appOk{l:Addr}(h:H l=some (.lst xs))(hz:xs.length<sizeLine)(q:Q .non (A4 H l (.lst (xs++[y])))):gF (.ref l) [y] H Q:=⟨l,xs,y,rfl,rfl,h,hz,q⟩
theorem G7(h:n<=1000000):n<sizeLine:=Nat.lt_of_le_of_lt h (by decide)
theorem Y4(h:n<=1000000):n<=sizeLine:=Nat.le_of_lt (G7 h)
noncomputable def signB (c:Nat):Bool:=decide (33<=c)&&decide (c<=126)&&decide (c≠37)
noncomputable def X3 (z:Str):Bool:=decide (1<=z.length)&&decide (z.length<=2)&&z.cps.toList.all signB
theorem jW(h:X3 z=true):U3 z=true/\1<=z.length/\z.length<=2:=by
 unfold X3 at h;simp only [W9,decide_eq_true_eq] at h;refine ⟨?_,h.1.1,h.1.2⟩;unfold U3;rw [Array.all_eq_true_iff_forall_mem];intro c hc
 have:=List.all_eq_true.mp h.2 c (Array.mem_toList_iff.mpr hc)
 unfold signB at this;simp only [W9,decide_eq_true_eq] at this;simp only [decide_eq_true_eq];lia
theorem aje{c:Nat}(h:signB c=true):X3 ⟨#[c]⟩=true:=by
 unfold X3;simp [Str.length,h]
theorem ajf(x y:Str):(x++y).cps.toList=x.cps.toList++y.cps.toList:=by
 show (x.cps++y.cps).toList=_
 simp
theorem sO(x:Str):x.length=x.cps.toList.length:=by simp [Str.length]
theorem agK(x y:Str):(x++y).length=x.length+y.length:=by rw [sO,ajf,D1,sO,sO]
theorem ajg{c d:Nat}(h:signB c=true)(h':signB d=true):X3 ((⟨#[c]⟩:Str)++⟨#[d]⟩)=true:=by
 unfold X3;rw [agK,ajf];simp [Str.length,h,h']
noncomputable def SG:List Nat:=[33,34,35,36]++(t7 89).map (· + 38)
theorem am7:∀ c∈SG,signB c=true:=by decide +kernel
theorem sP:SG.length=93:=by decide +kernel
structure IsRows(H:Hp)(a:Addr)(rs:List Addr)(zss:List (List Str)):Prop where
 top:H a=some (.lst (rs.map V.ref))
 row:Paired (fun r (zs:List Str)=>H r=some (.lst (zs.map V.str))) rs zss
theorem IsRows.same{zss:List (List Str)}(R:IsRows H a rs zss)(s:Same H H'):IsRows H' a rs zss:=⟨s _ _ R.top,O6 R.row fun _ _ h=>s _ _ h⟩
theorem Paired.at{α β:Type}{F:α->β->Prop} : ∀ {l₁:List α} {l₂:List β} {i:Nat} {a:α},Paired F l₁ l₂->l₁[i]?=some a->∃ b,l₂[i]?=some b/\F a b
 | _,_,_,_,.nil,h=>by simp at h
 | _,_,0,_,.cons h t,e=>by simp at e;subst e;exact ⟨_,rfl,h⟩
 | _,_,i+1,_,.cons h t,e=>by
  obtain ⟨b,h1,h2⟩:=Paired.at (i:=i) t (by simpa using e);exact ⟨b,by simpa using h1,h2⟩
theorem gK:∀ zs:List Str,bW (zs.map bX)=0
 | []=>rfl
 | z::zs=>by rw [G6,bW,gK zs,dW];rfl
theorem eI(xs ys:List Str):O9 (.list (xs.map .str)) (.list (ys.map .str))=decide (xs=ys):=by rw [O9,nS]
noncomputable def dd (acc:List Str) (z:Str):List Str:=if z∈acc then acc else acc++[z]
noncomputable def E9 (acc zs:List Str):List Str:=zs.foldl dd acc
noncomputable def toldL (zss:List (List Str)):List Str:=zss.foldl E9 []
theorem eJ(zs:List Str):∀ acc:List Str,(E9 acc zs).length<=acc.length+zs.length:=by
 induction zs with
 | nil=>intro acc;exact C5 _
 | cons z zs ih=>
  intro acc;have h1:=ih (dd acc z);have h2:(dd acc z).length<=acc.length+1:=by
   unfold dd
   split
   .lia
   .simp
  show (E9 (dd acc z) zs).length<=_;rw [F8];lia
theorem ahq(h:zs[j]?=some z):E9 acc (zs.take (j+1))=dd (E9 acc (zs.take j)) z:=by
 rw [U0,h];simp [E9,j3]
theorem aji{zss:List (List Str)}(h:zss[i]?=some zs):toldL (zss.take (i+1))=E9 (toldL (zss.take i)) zs:=by
 rw [U0,h];simp [toldL,j3]
theorem nW(zss:List (List Str)):∀ acc,zss.foldl E9 acc=E9 acc zss.flatten:=by
 induction zss with
 | nil=>intro acc;rfl
 | cons zs zss ih=>
  intro acc;rw [List.foldl_cons,ih,r8];unfold E9;rw [j3]
theorem jX(zss:List (List Str)):(toldL zss).length<=zss.flatten.length:=by
 unfold toldL;rw [nW]
 have:=eJ zss.flatten []
 simpa using this
noncomputable def kvOf (zs:List Str):List (C3×V):=zs.map fun z=>(Sum.inr z,V.bl true)
theorem sQ(z:Str):∀ acc:List Str,((kvOf acc).any fun kv=>decide (kv.1=(Sum.inr z:C3)))=decide (z∈acc)
 | []=>by simp [kvOf]
 | y::acc=>by
  have ih:=sQ z acc;unfold kvOf at ih ⊢
  rw [G6,z8,ih]
  by_cases e:y=z
  .subst e
   simp
  .have e1:decide ((Sum.inr y:C3)=Sum.inr z)=false:=decide_eq_false fun q=>e (Sum.inr.inj q)
   have e2:decide (z∈y::acc)=decide (z∈acc):=by
    by_cases h:z∈acc
    .rw [decide_eq_true h,decide_eq_true (I0 _ h)]
    .rw [decide_eq_false h,decide_eq_false];intro q
     rcases D9.mp q with q | q
     .exact e q.symm
     .exact h q
   rw [e2];simp only [e1,Bool.false_or]
theorem sR(acc:List Str)(z:Str):putK (kvOf acc) (Sum.inr z:C3) (.bl true)=kvOf (dd acc z):=by
 unfold putK dd;rw [sQ]
 by_cases h:z∈acc
 .rw [decide_eq_true h,if_pos rfl,if_pos h];unfold kvOf;rw [g8];refine jG fun y _=>?_
  show (if (Sum.inr y:C3)=Sum.inr z then ((Sum.inr y:C3),V.bl true) else (Sum.inr y,V.bl true))=_
  split <;> rfl
 .rw [decide_eq_false h,if_neg K7,if_neg h];unfold kvOf;rw [E4];rfl
theorem ajj(acc:List Str):((kvOf acc).map fun kv=>kV kv.1)=acc.map V.str:=by
 unfold kvOf;rw [g8];rfl
theorem jY(z:Str):∀ acc:List Str,cB (.str z) (acc.map V.str)=decide (z∈acc)
 | []=>by simp [cB]
 | y::acc=>by
  have ih:=jY z acc;unfold cB at ih ⊢
  rw [G6,z8,ih];show ((y==z) || decide (z∈acc))=_
  by_cases e:y=z
  .subst e
   simp
  .have e1:(y==z)=false:=by simpa using e
   rw [e1,Bool.false_or]
   by_cases h:z∈acc
   .rw [decide_eq_true h,decide_eq_true (I0 _ h)]
   .rw [decide_eq_false h,decide_eq_false];intro q
    rcases D9.mp q with q | q
    .exact e q.symm
    .exact h q
theorem nX:∀ acc:List Str,(acc.map V.str).all flatV=true
 | []=>rfl
 | _::acc=>by rw [G6,List.all_cons,nX acc];rfl
theorem G5{α β:Type}{f:α->β}{l:List α}{y:β}(h:(l.map f)[i]?=some y):∃ x,l[i]?=some x/\y=f x:=by
 rw [V2] at h;cases e:l[i]? with
 | none=>rw [e] at h;cases h
 | some x=>rw [e] at h;exact ⟨x,rfl,(Option.some.inj h).symm⟩
noncomputable def SS:Str:=Str.ofString "!\"#$&'()*+,-./0123456789:;<=>?@ABCDEFGHIJKLMNOPQRSTUVWXYZ[\\]^_`"++Str.ofString "abcdefghijklmnopqrstuvwxyz{|}~"
theorem SS_eq:SS.cps.toList=SG:=by decide +kernel
theorem gL:SS.length<=sizeLine:=by decide +kernel
theorem am8:(Str.ofString "!\"#$&'()*+,-./0123456789:;<=>?@ABCDEFGHIJKLMNOPQRSTUVWXYZ[\\]^_`").length+(Str.ofString "abcdefghijklmnopqrstuvwxyz{|}~").length<=sizeLine:=by decide +kernel
theorem SS_at{i:Int}(h0:0<=i)(h1:i<93):∃ c,J9 SS.cps.toList i=some c/\signB c=true:=by
 rw [SS_eq];obtain ⟨c,h2,h3⟩:=jU (xs:=SG) h0 (by rw [sP];exact h1);exact ⟨c,h2,am7 c h3⟩
theorem drawn{i:Int}(hx:∀ x∈xs,∃ n,x=V.int n)(h0:0<=i)(h1:i<xs.length):∃ n,J9 xs i=some (V.int n):=by
 obtain ⟨v,h2,h3⟩:=jU h0 h1;obtain ⟨n,rfl⟩:=hx v h3;exact ⟨n,h2⟩
theorem sS{α β:Type}{F:α->β->Prop}{a:α}{b:β} : ∀ {l₁:List α} {l₂:List β},Paired F (l₁++[a]) (l₂++[b])->Paired F l₁ l₂/\F a b
 | [],[],.cons h _=>⟨.nil,h⟩
 | [],y::l₂,h=>by
  have:=Paired.length h
  simp at this
 | x::l₁,[],h=>by
  have:=Paired.length h
  simp at this
 | x::l₁,y::l₂,.cons h t=>by
  obtain ⟨h1,h2⟩:=sS (l₁:=l₁) (l₂:=l₂) t;exact ⟨.cons h h1,h2⟩
theorem gM{α β:Type}{F G:α->β->Prop} : ∀ {l₁:List α} {l₂:List β},Paired F l₁ l₂->(∀ a∈l₁,∀ b,F a b->G a b)->Paired G l₁ l₂
 | _,_,.nil,_=>.nil
 | _,_,.cons h t,k=>.cons (k _ J7 _ h) (gM t fun a ha b hb=>k a (I0 _ ha) b hb)
structure RowsAt(H0 H:Hp)(a:Addr)(rs:List Addr)(zss:List (List Str)):Prop where
 rows:IsRows H a rs zss
 nd:(a::rs).Nodup
 new:∀ r∈a::rs,H0 r=none
 same:Same H0 H
theorem RowsAt.live{zss:List (List Str)}(R:RowsAt H0 H a rs zss)(h:r∈a::rs):∃ o,H r=some o:=by
 rcases D9.mp h with h | h
 .subst h;exact ⟨_,R.rows.top⟩
 .obtain ⟨i,hi,rfl⟩:=V0.mp h;obtain ⟨zs,_,h2⟩:=Paired.at R.rows.row (i:=i) (a:=rs[i]) (by simp [hi]);exact ⟨_,h2⟩
theorem RowsAt.adds{q:Addr}{zss:List (List Str)}(R:RowsAt H0 H a rs zss)(hq:H q=none)(zs:List Str):RowsAt H0 (A4 (A4 H q (.lst (zs.map V.str))) a (.lst (rs.map V.ref++[V.ref q]))) a (rs++[q]) (zss++[zs]):=by
 have nq:∀ r∈a::rs,r≠q:=fun r hr z=>by
  obtain ⟨o,e⟩:=R.live hr;rw [z,hq] at e;cases e
 obtain ⟨na,_⟩:=Q4.mp R.nd;refine ⟨⟨by rw [A5,E4];rfl,?_⟩,?_,?_,?_⟩
 .refine Paired.snoc (gM R.rows.row fun r hr zs h=>?_) ?_
  .rw [A9 (fun z:r=a=>na (by rw [<- z];exact hr)),A9 (nq r (I0 _ hr))];exact h
  .rw [A9 (nq a J7).symm,A5]
 .show (a::(rs++[q])).Nodup;exact nQ R.nd fun h=>nq q h rfl
 .intro r hr
  rcases D9.mp hr with h | h
  .exact R.new r (by rw [h];exact J7)
  .rcases F6.mp h with h | h
   .exact R.new r (I0 _ h)
   .rw [E6.mp h];exact R.same.free hq
 .exact (R.same.put (R.same.free hq)).put (R.new a J7)
theorem RowsAt.add{q:Addr}{zss:List (List Str)}(R:RowsAt H0 H a rs zss)(hq:H q=none):RowsAt H0 (A4 (A4 H q (.lst [])) a (.lst (rs.map V.ref++[V.ref q]))) a (rs++[q]) (zss++[[]]):=R.adds hq []
theorem aoC{i:Int}(hx:∀ x∈xs,∃ n,x=V.int n)(h0:0<=i)(h1:i<xs.length):∃ n,J9 xs i=some (V.int n)/\V.int n∈xs:=by
 obtain ⟨v,h2,h3⟩:=jU h0 h1;obtain ⟨n,rfl⟩:=hx v h3;exact ⟨n,h2,h3⟩
theorem afW(x:Str)(lo hi:Option Int):(cutS x lo hi).cps.toList=(x.cps.toList.drop (HT.sIx x.length 0 lo)).take (HT.sIx x.length x.length hi-HT.sIx x.length 0 lo):=by
 unfold cutS
 simp
theorem am9(h:H p=some (.lst xs)):cC H (.ref p)=some "list":=by unfold cC;simp only [h]
theorem ana(h:H p=some (.tup xs)):cC H (.ref p)=some "tuple":=by unfold cC;simp only [h]
end L2
set_option maxRecDepth 100000
namespace L2
open PySem PySem.Spec PyProof.Rows
structure QE(X:Cx)(e:Expr)(t:TE):Prop where
 out:PE X e t
structure QT(X:Cx)(e:Expr)(t:TT):Prop where
 out:PT X e t
structure QW(X:Cx)(e:Expr)(t:TT):Prop where
 out:PW X e t
structure QA(X:Cx)(es:List Expr)(t:TA):Prop where
 out:PA X es t
structure QS(X:Cx)(st:Stmt)(t:TS):Prop where
 out:PS X st t
structure QSs(X:Cx)(st:List Stmt)(t:TS):Prop where
 out:X0 X st t
structure QG(X:Cx)(tg:Expr)(t:TG):Prop where
 out:PG X tg t
structure QGs(X:Cx)(tg:List Expr)(t:g9):Prop where
 out:jP X tg t
structure QI(X:Cx)(tg iter:Expr)(wi:TI):Prop where
 out:PI X tg iter wi
structure QO(X:Cx)(e:Option Expr)(t:TO):Prop where
 out:PO X e t
structure QIfs(X:Cx)(ifs:List Expr)(t:TT):Prop where
 out:PIfs X ifs t
structure QOp(X:Cx)(f:Value->Value->Sem Value)(r:R2):Prop where
 out:J5 X f r
structure QUn(X:Cx)(f:Value->Sem Value)(r:V->Hp->VK->Prop):Prop where
 out:nK X f r
structure QCall(X:Cx)(f:Value)(r:List V->Hp->VK->Prop):Prop where
 out:CallR X f r
structure QMt(X:Cx)(id:String)(r:V->List V->Hp->VK->Prop):Prop where
 out:nO X id r
structure QIp(X:Cx)(op:Operator)(t:dZ):Prop where
 out:rK X op t
structure QIn(X:Cx)(op:Operator)(t:V->V->Hp->VK->Prop):Prop where
 out:InOp X op t
section
variable {X:Cx} {a b c e o i value:Expr} {es:List Expr} {ta tb tc te to ti tv:TE} {tA tB':TT} {t u:TS} {tl:TA} {pos p pos' tpos:Pos} {rest:List Expr} {r r':R2} {x:Str}
theorem A8{i j} : QE X (.Constant (.int i) j pos) (tC (.int i)):=⟨yO⟩
theorem qe_bl{b j} : QE X (.Constant (.bool b) j pos) (tC (.bl b)):=⟨pe_bl⟩
theorem k9{j} : QE X (.Constant .none j pos) (tC .non):=⟨anA⟩
theorem K0{x j} : QE X (.Constant (.str x) j pos) (tC (.str x)):=⟨anB⟩
theorem qe_v(hN:X.N[n]?=some x)(hv:jO X.env.scope x)(hd:(x==("__debug__" : Str))=false)(i9:(x==("__classdict__" : Str))=false):QE X (.Name x pos) (tVar n):=⟨yN hN hv hd i9⟩
theorem qv(n:Nat)(hN:X.N[n]?=some x:=by rfl)(hv:jO X.env.scope x:=by first | exact Or.inl rfl | exact Or.inr (Or.inl rfl) | exact Or.inr (Or.inr rfl))(hd:(x==("__debug__" : Str))=false:=by decide)(i9:(x==("__classdict__" : Str))=false:=by decide):QE X (.Name x pos) (tVar n):=⟨yN hN hv hd i9⟩
theorem gN{i:Int}(h:∃ t,X.mg x=some (.int i t))(hg:Gl X x:=by rfl)(hd:(x==("__debug__" : Str))=false:=by decide):QE X (.Name x p) (tC (.int i)):=⟨akN h hg hd⟩
theorem eK{a:Addr}(h:X.mg x=some (.ref a))(hg:Gl X x:=by rfl)(hd:(x==("__debug__" : Str))=false:=by decide):QE X (.Name x p) (tC (.ref a)):=⟨akO h hg hd⟩
theorem qe_ty{n:String}(hm:X.mg x=none)(hv:bootBuiltins x=some (.type n))(hg:Gl X x:=by rfl)(hn:x≠"__name__":=by decide)(hd:(x==("__debug__" : Str))=false:=by decide):QE X (.Name x p) (tC (.ty n)):=⟨al5 hg hm hv rfl hn hd⟩
theorem qe_op{op:Operator}(ho:QOp X (binaryOp op) r)(ha:QE X a ta)(hb:QE X b tb):QE X (.BinOp a op b pos) (k7 r ta tb):=⟨pe_op ho.out ha.out hb.out⟩
theorem qe_un{op:UnaryOp}{r:V->Hp->VK->Prop}(ho:QUn X (unaryOp op) r)(ha:QE X a ta):QE X (.UnaryOp op a pos) (rN r ta):=⟨pe_un ho.out ha.out⟩
theorem aoD{op}(ha:QE X a ta):QE X (.BoolOp op [a] pos) ta:=⟨anF ha.out⟩
theorem aoE(ha:QE X a ta)(hb:QE X (.BoolOp .And (b::rest) pos) tb):QE X (.BoolOp .And (a::b::rest) pos) (tAndV ta tb):=⟨anG ha.out hb.out⟩
theorem jZ{op:CmpOp}(ho:QOp X (compareOp op) r)(ha:QE X a ta)(hb:QE X b tb)(hm:behindInMarks op b=false:=by first | exact yW _ | rfl):QE X (.Compare a [op] [b] pos) (k7 r ta tb):=⟨amg ho.out ha.out hb.out hm⟩
theorem ak1{op op':CmpOp}(ho:QOp X (compareOp op) r)(m8:QOp X (compareOp op') r')(ha:QE X a ta)(hb:QE X b tb)(hc:QE X c tc)(hm:lastMarks [op,op'] [b,c]=false:=by with_unfolding_all rfl):QE X (.Compare a [op,op'] [b,c] pos) (rP r r' ta tb tc):=⟨aks ho.out m8.out ha.out hb.out hc.out hm⟩
theorem kA(hc:QT X c tA)(ha:QE X a ta)(hb:QE X b tb):QE X (.IfExp c a b pos) (rH tA ta tb):=⟨akl hc.out ha.out hb.out⟩
theorem A6:QA X [] tNil:=⟨anZ⟩
theorem qa_c(ha:QE X e te)(hr:QA X es tl)(h:K2 e=false:=by rfl):QA X (e::es) (tCons te tl):=⟨pa_c ha.out hr.out h⟩
theorem N9(h:QA X es tl):QE X (.List es pos) (tLst tl):=⟨an1 h.out⟩
theorem L8{x1}(h:QA X es tl):QE X (.Tuple es x1 pos) (tTup tl):=⟨an0 h.out⟩
theorem aK:QE X (.Dict [] [] pos) sG:=⟨akF⟩
theorem X4:QO X none rW:=⟨amq⟩
theorem M7(h:QE X e te):QO X (some e) (tPart te):=⟨amr h.out⟩
theorem Q0{lo hi:Option Expr}{tlo thi:TO}{p2:Pos}(he:QE X e te)(hl:QO X lo tlo)(hu:QO X hi thi)(hK:X.K=K:=by rfl):QE X (.Subscript e (.Slice lo hi none p2) pos) (rX (rSlU K) te tlo thi):=by subst hK;exact ⟨akA p_sl he.out hl.out hu.out⟩
theorem Y5(hu:X.A.units+1<cLine)(ho:QE X o to)(hi:QE X i ti)(hs:NoSl i:=by exact fun _ _=>rfl):QE X (.Subscript o i pos) (tDGet to ti):=⟨amx hu ho.out hi.out hs⟩
theorem qe_ix(ha:QE X a ta)(hb:QE X b tb)(hs:zH b:=by exact fun _ _=>rfl)(hK:X.K=K:=by rfl):QE X (.Subscript a b pos) (k7 (gE K) ta tb):=by subst hK;exact ⟨pe_ix an5 ha.out hb.out hs⟩
theorem qe_cB{id:String}{rc:List V->Hp->VK->Prop}(hc:QCall X (.builtin id) rc)(hm:X.mg x=none)(hv:bootBuiltins x=some (.builtin id))(ha:QA X (e::es) tl)(hg:Gl X x:=by rfl)(h1:K2 e=false:=by rfl)(h2:W1 es=true:=by rfl)(hn:x≠"__name__":=by decide)(Q8:(x==("__debug__" : Str))=false:=by decide) :
  QE X (.Call (.Name x p) (e::es) [] pos) (eB rc tl):=⟨pe_cB hc.out hg hm hv ha.out h1 h2 hn Q8⟩
theorem qe_cT{T:String}{rc:List V->Hp->VK->Prop}(hc:QCall X (.type T) rc)(hm:X.mg x=none)(hv:bootBuiltins x=some (.type T))(ha:QA X (e::es) tl)(hg:Gl X x:=by rfl)(h1:K2 e=false:=by rfl)(h2:W1 es=true:=by rfl)(hn:x≠"__name__":=by decide)(Q8:(x==("__debug__" : Str))=false:=by decide) :
  QE X (.Call (.Name x p) (e::es) [] pos) (eB rc tl):=⟨pe_cT hc.out hg hm hv ha.out h1 h2 hn Q8⟩
theorem qe_mB{T id:String}{rm:V->List V->Hp->VK->Prop}(pa:PlainAttrs T)(slot:Slot T name id)(U5:typeOf (.builtin id)=pure (.type "method_descriptor"))(hm:QMt X id rm)(ho:QE X o to)(ha:QA X (e::es) tl)(h1:K2 e=false:=by rfl)(h2:W1 es=true:=by rfl)(h3:decide ((e::es).length<30)=true:=by rfl)(G1:attributeBase o name X.env (eval o X.env)=eval o X.env:=by rfl)(G2:(apos.endLine==cpos.line)=true:=by rfl)(hK:X.K=K:=by rfl):QE X (.Call (.Attribute o name apos) (e::es) [] cpos) (jT K T rm to tl):=by subst hK;exact ⟨pe_mB pa slot U5 hm.out ho.out ha.out h1 h2 h3 G1 G2⟩
theorem qe_m0{T id:String}{rm:V->List V->Hp->VK->Prop}(pa:PlainAttrs T)(slot:Slot T name id)(U5:typeOf (.builtin id)=pure (.type "method_descriptor"))(hm:QMt X id rm)(ho:QE X o to)(G1:attributeBase o name X.env (eval o X.env)=eval o X.env:=by rfl)(G2:(apos.endLine==cpos.line)=true:=by rfl)(hK:X.K=K:=by rfl):QE X (.Call (.Attribute o name apos) [] [] cpos) (tBM0 K T rm to):=by subst hK;exact ⟨an7 pa slot U5 hm.out ho.out G1 G2⟩
theorem F9(G:FO X.prog X.w X.K X.mg X.base k x ps dvs sp)(hr:Room k X.A)(ha:QA X (e::es) tl)(hg:Gl X x:=by rfl)(h1:K2 e=false:=by rfl)(h2:W1 es=true:=by rfl)(Q8:(x==("__debug__" : Str))=false:=by decide) :
  QE X (.Call (.Name x p) (e::es) [] pos) (tCall sp dvs E0 tl):=⟨akM G hr ha.out hg h1 h2 Q8⟩
theorem D8{op:CmpOp}(ho:QOp X (compareOp op) r)(ha:QE X a ta)(hb:QE X b tb)(hm:behindInMarks op b=false:=by first | exact yW _ | rfl):QT X (.Compare a [op] [b] pos) (tTest (k7 r ta tb)):=⟨amh ho.out ha.out hb.out hm⟩
theorem nY(ha:QT X a tA):QT X (.UnaryOp .Not a pos) (tNot tA):=⟨anE ha.out⟩
theorem kB(ha:QT X a tA):QW X (.BoolOp .And [a] pos) tA:=⟨al6 ha.out⟩
theorem cE(ha:QT X a tA):QW X (.BoolOp .Or [a] pos) tA:=⟨anC ha.out⟩
theorem kC(ha:QT X a tA)(hb:QW X (.BoolOp .And (b::rest) pos) tB'):QW X (.BoolOp .And (a::b::rest) pos) (tAnd tA tB'):=⟨anD ha.out hb.out⟩
theorem qw_or(ha:QT X a tA)(hb:QW X (.BoolOp .Or (b::rest) pos) tB'):QW X (.BoolOp .Or (a::b::rest) pos) (rG tA tB'):=⟨pw_or ha.out hb.out⟩
theorem QW.pt(h:QW X a tA):QT X a tA:=⟨h.out.pt⟩
theorem X5(ha:QE X a ta)(he:∀ whole,isTrue a X.env whole=(do let v <- whole;standAt a.pos;holding [v] (truthy v)):=by intro _;rfl)(hK:X.K=K:=by rfl):QT X a (tTru K ta):=by subst hK;exact ⟨aoe ha.out he⟩
variable {st:Stmt} {sts:List Stmt}
theorem J8:QSs X [] tNext:=⟨al7⟩
theorem B5(h:QS X st t):QSs X [st] t:=⟨al8 h.out⟩
theorem B1(h:QS X st t)(h2:QSs X sts u):QSs X (st::sts) (tSeq t u):=⟨akm h.out h2.out⟩
theorem E1(he:QE X e te):QS X (.Return (some e) pos) (tRet te):=⟨anI he.out⟩
theorem nZ:QS X st rJ:=⟨akn⟩
theorem D6(hN:X.N.Nodup)(hi:X.N[n]?=some x)(hx:k4 X.env.scope x)(he:QE X e te)(hs:swapsWith e (some (.Name x pos')) pos.line X.env=pure false:=by rfl)(hf:X.fn x=true:=by rfl):QS X (.Assign [.Name x pos'] e pos) (tAsg te (gName n)):=⟨anK hN hi hx he.out hs (.inl hf)⟩
theorem gO{f:Str}(ho:QE X o to)(hv:QE X value tv)(hs:swapsWith value (some (.Attribute o f pos')) pos.line X.env=pure false:=by rfl)(hK:X.K=K:=by rfl):QS X (.Assign [.Attribute o f pos'] value pos) (sFld K to tv f):=by subst hK;exact ⟨anW ho.out hv.out hs⟩
theorem l9{f:Str}(ho:QE X o to)(hb:attributeBase o f X.env (eval o X.env)=eval o X.env:=by rfl)(hK:X.K=K:=by rfl):QE X (.Attribute o f pos) (tFld K to f):=by subst hK;exact ⟨anV ho.out hb⟩
theorem i0(hu:X.A.units+1<cLine)(ho:QE X o to)(hi:QE X i ti)(hv:QE X value tv)(hs:swapsWith value (some (.Subscript o i pos')) pos.line X.env=pure false:=by rfl):QS X (.Assign [.Subscript o i pos'] value pos) (sDPut to ti tv):=⟨amy hu ho.out hi.out hv.out hs⟩
theorem ajk{op:Operator}{rd:V->V->Hp->VK->Prop}(hu:X.A.units+1<cLine)(ho:QE X o to)(hi:QE X i ti)(hv:QE X value tv)(wF:QIn X op rd)(ha:∀ ov iv new,augStore i ov iv new=(do holding [new,ov,iv] (setItem ov iv new);release [new,ov,iv] [];pure .next):=by exact fun _ _ _=>rfl) :
  QS X (.AugAssign (.Subscript o i tpos) op value pos) (sDAug to ti tv rd):=⟨amz hu ho.out hi.out hv.out wF.out ha⟩
theorem alM{op:Operator}{tip:dZ}(hN:X.N.Nodup)(hi:X.N[n]?=some x)(hx:k4 X.env.scope x)(he:QE X e te)(ho:QIp X op tip)(hf:X.fn x=true:=by rfl):QS X (.AugAssign (.Name x pos') op e pos) (tAug n te tip):=⟨anL hN hi hx he.out ho.out (.inl hf)⟩
theorem O3(he:QE X e te)(hs:swapsWith e none pos.line X.env=pure false:=by rfl):QS X (.Expr e pos) (tDrop te):=⟨al9 he.out hs⟩
theorem qs_if{sa sb:List Stmt}(hc:QT X c tA)(ha:QSs X sa t)(hb:QSs X sb u):QS X (.If c sa sb pos) (tIfS tA t u):=⟨ps_if hc.out ha.out hb.out⟩
theorem oA{body:List Stmt}(hp:PassesOwn (model X.prog X.w) X.A X.env X.xe)(hc:QT X c tA)(hb:QSs X body t):QS X (.While c body [] pos) (nJ tA t):=⟨akp hp hc.out hb.out⟩
theorem M8{body:List Stmt}{wi:TI}{g:TG}(hp:PassesOwn (model X.prog X.w) X.A X.env X.xe)(hi:QI X tg iter wi)(hg:QG X tg g)(hb:QSs X body t)(hc:X.calm=true:=by rfl)(hs:∀ x,foldedSetIterable iter X.env x=pure x:=by intro _;rfl):QS X (.For tg iter body [] pos) (tFor wi g t):=⟨anO hp hc hi.out hg.out hb.out hs⟩
theorem D7(hN:X.N.Nodup)(hi:X.N[n]?=some x)(hx:k4 X.env.scope x)(hf:X.fn x=true\/X.env.scope.names.lookup x=some .local:=by first | exact .inl rfl | exact .inr rfl | assumption):QG X (.Name x pos) (gName n):=⟨ama hN hi hx hf⟩
theorem aL:QGs X [] gNil:=⟨amb⟩
theorem Q5{g:TG}{gs:g9}(h1:QG X e g)(h2:QGs X es gs)(hs:(assignEach (e::es) X.env).map (·.2)=assign e X.env::(assignEach es X.env).map (·.2):=by rfl):QGs X (e::es) (gCons g gs):=⟨ako h1.out h2.out hs⟩
theorem aM{gs:g9}(h:QGs X es gs)(hc:X.calm=true:=by rfl)(hn:(assignEach es X.env).length=n:=by rfl)(T8:(assignEach es X.env).findIdx? (·.1)=none:=by rfl)(hK:X.K=K:=by rfl):QG X (.Tuple es k pos) (gTup K n gs):=by subst hK;exact ⟨anJ hc h.out hn T8⟩
variable {tg:Expr}
theorem M9(h:QE X e te)(hK:X.K=K:=by rfl):QI X tg e (iList K te):=by subst hK;exact ⟨amc h.out⟩
theorem cF(h:QE X e te)(hK:X.K=K:=by rfl):QI X tg e (iTup K te):=by subst hK;exact ⟨anN h.out⟩
theorem aoF(h:QE X e te):QI X tg e (iStr te):=⟨aok h.out⟩
theorem qi_r1(hm:X.mg "range"=none)(ha:QA X [a] tl)(hg:Gl X "range":=by rfl)(h1:K2 a=false:=by rfl):QI X tg (.Call (.Name "range" p) [a] [] pos) (iRng1 tl):=⟨pi_r1 hg hm ha.out h1⟩
theorem eN:QIfs X [] tYes:=⟨akI⟩
theorem Z8(h:QT X c tA):QIfs X [c] tA:=⟨akJ h.out⟩
variable {sc:Scope} {N':List Str} {k:Nat} {ixs:List Nat} {ifs:List Expr} {wi:TI} {g:TG} {elt:Expr}
theorem Y6(C:CompOk X.N X.env.scope.names sc N' k ixs)(hi:QI X tg e wi)(hg:∀ C zw zt fp pins,QG (M4 X sc N' C zw zt fp pins) tg g)(hc:∀ C zw zt fp pins,QIfs (M4 X sc N' C zw zt fp pins) ifs tA)(he:∀ C zw zt fp pins,QE (M4 X sc N' C zw zt fp pins) elt te)(L6:X.calm=true:=by rfl)(hs:∀ x,foldedSetIterable e X.env x=pure x:=by intro _;rfl):QE X (.ListComp elt [⟨tg,e,ifs,0⟩] sc pos) (tComp wi k ixs g tA te):=
 ⟨amB C L6 hi.out (fun _ _ _ _ _=>(hg _ _ _ _ _).out) (fun _ _ _ _ _=>(hc _ _ _ _ _).out) (fun _ _ _ _ _=>(he _ _ _ _ _).out) hs⟩
theorem gP(hN:X.N.Nodup)(hiN:X.N[n]?=some x)(hx:k4 X.env.scope x)(C:CompOk X.N X.env.scope.names sc N' k ixs)(hi:QI X tg e wi)(hg:∀ C zw zt fp pins,QG (M4 X sc N' C zw zt fp pins) tg g)(hc:∀ C zw zt fp pins,QIfs (M4 X sc N' C zw zt fp pins) ifs tA)(he:∀ C zw zt fp pins,QE (M4 X sc N' C zw zt fp pins) elt te)(wG:swapsWith (.ListComp elt [⟨tg,e,ifs,0⟩] sc pos) (some (.Name x pos')) spos.line X.env=pure true:=by rfl)(L6:X.calm=true:=by rfl)(hf:X.fn x=true:=by rfl)(hs:∀ x,foldedSetIterable e X.env x=pure x:=by intro _;rfl) :
  QS X (.Assign [.Name x pos'] (.ListComp elt [⟨tg,e,ifs,0⟩] sc pos) spos) (tAsg (tComp wi k ixs g tA te) (gName n)):=
 ⟨ah4 hN hiN hx C L6 hi.out (fun _ _ _ _ _=>(hg _ _ _ _ _).out) (fun _ _ _ _ _=>(hc _ _ _ _ _).out) (fun _ _ _ _ _=>(he _ _ _ _ _).out) wG (.inl hf) hs⟩
theorem q_add(hK:X.K=K:=by rfl):QOp X (binaryOp .Add) (rAddU K):=by subst hK;exact ⟨p_add⟩
theorem q_sub:QOp X (binaryOp .Sub) (u4 fun i j=>.int (i-j)):=⟨p_sub⟩
theorem q_mul:QOp X (binaryOp .Mult) rMulU:=⟨p_mul⟩
theorem u5:QOp X (binaryOp .FloorDiv) (rI CDiv fun i j=>.int (i / j)):=⟨aof⟩
theorem q_mod:QOp X (binaryOp .Mod) (rI (fun _ j=>0<j) fun i j=>.int (i % j)):=⟨p_mod⟩
theorem q_eq(hu:X.A.units+64<cLine)(hK:X.K=K:=by rfl):QOp X (compareOp .Eq) (rEqU K):=by subst hK;exact ⟨p_eq hu⟩
theorem q_ne(hu:X.A.units+64<cLine)(hK:X.K=K:=by rfl):QOp X (compareOp .NotEq) (rNeU K):=by subst hK;exact ⟨p_ne hu⟩
theorem q_lt:QOp X (compareOp .Lt) rLtU:=⟨p_lt⟩
theorem q_le:QOp X (compareOp .LtE) rLeU:=⟨p_le⟩
theorem q_gt:QOp X (compareOp .Gt) rGtU:=⟨p_gt⟩
theorem q_in(hu:X.A.units+64<cLine)(hK:X.K=K:=by rfl):QOp X (compareOp .In) (rInU K false):=by subst hK;exact ⟨p_in hu⟩
theorem eO(hu:X.A.units+64<cLine)(hK:X.K=K:=by rfl):QOp X (compareOp .NotIn) (rInU K true):=by subst hK;exact ⟨amC hu⟩
theorem alN:QOp X (compareOp .IsNot) (fun x y H Q=>y=.non/\Q (.bl (!decide (x=.non))) H):=⟨amf⟩
theorem q_neg:QUn X (unaryOp .USub) (rU fun i=>.int (-i)):=⟨anT⟩
theorem q_len(hK:X.K=K:=by rfl):QCall X (.builtin "len") (rLenU K):=by subst hK;exact ⟨p_len⟩
theorem q_isi:QCall X (.builtin "isinstance") rIsi:=⟨akK⟩
theorem Z9(hK:X.K=K:=by rfl)(lT:X.calm=calm:=by rfl):QCall X (.type "list") (sM K calm):=by subst hK;subst lT;exact ⟨aoi⟩
theorem W2:QMt X "list.append" gF:=⟨fun pins s Y H x xs v us Q I rx rv h=>zN pins s Y H x xs v us Q I rx rv h⟩
theorem sT:QMt X "list.reverse" sB:=⟨fun pins s Y H x xs v us Q I rx rv h=>ah3 pins s Y H x xs v us Q I rx rv h⟩
theorem alO:QIp X .Add (rL fun i j=>i+j):=⟨anM⟩
theorem aoG:QIn X .Add rAdd:=⟨anX⟩
theorem aoH:QIn X .Sub rSub:=⟨anY⟩
end
end L2
set_option maxRecDepth 100000
namespace L2
open PySem PySem.Spec PyProof.Rows
noncomputable def ModD (P:Program) (w:World) (K:PySem.W.Frag) (a:Addr) (kvs:List (C3×V)):Prop:=(a==sysModules)=false/\∀ h:Heap,K.In h->∃ vs,KV kvs vs/\h.DictOf (N8 P w) a vs
noncomputable abbrev ModE (w:World):List DictEntry->List (C3×V)->Prop:=Paired fun e kv=>keyIs kv.1 e.key=true/\e.hash=keyH w kv.1/\RelV kv.2 e.val
theorem ModE.pairs{P:Program}{w:World} : ∀ {es:List DictEntry} {kvs:List (C3×V)},ModE w es kvs->∃ vs:List (C3×Value),KV kvs vs/\Pairs (N8 P w) es vs/\(∀ e∈es,∃ k,(N8 P w).is k e.key=true/\e.hash=(N8 P w).hash k)/\vs.map (·.1)=kvs.map (·.1)
 | _,_,.nil=>⟨[],.nil,.nil,fun e h=>(nomatch h),rfl⟩
 | e::es,kv::kvs,.cons ⟨h1,h2,h3⟩ t=>by
  obtain ⟨vs,a1,a2,a3,a4⟩:=ModE.pairs (P:=P) t;refine ⟨(kv.1,e.val)::vs,.cons ⟨rfl,h3⟩ a1,.cons h1 rfl a2,fun e' he=>?_,by rw [G6,G6,a4]⟩
  rcases D9.mp he with z | z
  .rw [z];exact ⟨kv.1,h1,h2⟩
  .exact a3 e' z
theorem ajl{P:Program}{w:World}{es:Array DictEntry}{ep:Nat}(l:K.lookup a=some { cls:=.type "dict",dict:=none,data:=.dict es ep,slots:=#[] })(hs:(a==sysModules)=false)(he:ModE w es.toList kvs)(hn:(kvs.map (·.1)).Nodup):ModD P w K a kvs:=by
 refine ⟨hs,fun h X=>?_⟩;obtain ⟨vs,a1,a2,a3,a4⟩:=he.pairs (P:=P);exact ⟨vs,a1,_,es,ep,X a _ l,⟨rfl,rfl,rfl⟩,rfl,fun e h=>a3 e (Array.mem_toList_iff.mpr h),a2,by rw [a4];exact hn⟩
noncomputable def rInM (neg:Bool) (a:Addr) (kvs:List (C3×V)):R2:=fun x y H Q=>y=.ref a/\∃ k,x=kV k/\Q (.bl (neg.xor (valV kvs k).isSome)) H
noncomputable def alP (a:Addr) (kvs:List (C3×V)) (to ti:TE):TE:=fun Y H Q=>to Y H fun x H1=>ti Y H1 fun y H2=>x=.ref a/\∃ k v,y=kV k/\valV kvs k=some v/\Q v H2
section
variable {X:Cx} {a:Addr} {kvs:List (C3×V)} {o i:Expr} {to ti:TE} {pos:Pos}
theorem q_inM(M:ModD X.prog X.w X.K a kvs):QOp X (compareOp .In) (rInM false a kvs):=⟨by
 intro pins s Y H x y v u Q I rx ry h;obtain ⟨rfl,k,rfl,q⟩:=h;obtain rfl:u=Value.ref a:=ry;obtain ⟨hd,M⟩:=M;obtain ⟨vs,rel,dd⟩:=M s.heap I.kIn;refine wpAny_in_of (kV_is rx) hd dd.mapOf ?_;rw [<- (rel.val k).isSome_eq];exact ⟨.bl _,H,I.tok _,rfl,by simpa using q⟩⟩
theorem ak2(M:ModD X.prog X.w X.K a kvs):QOp X (compareOp .NotIn) (rInM true a kvs):=⟨by
 intro pins s Y H x y v u Q I rx ry h;obtain ⟨rfl,k,rfl,q⟩:=h;obtain rfl:u=Value.ref a:=ry;obtain ⟨hd,M⟩:=M;obtain ⟨vs,rel,dd⟩:=M s.heap I.kIn;refine wpAny_notIn_of (kV_is rx) hd dd.mapOf ?_;rw [<- (rel.val k).isSome_eq];exact ⟨.bl _,H,I.tok _,rfl,by simpa using q⟩⟩
theorem oB(M:ModD X.prog X.w X.K a kvs)(ho:QE X o to)(hi:QE X i ti)(hs:NoSl i:=by exact fun _ _=>rfl):QE X (.Subscript o i pos) (alP a kvs to ti):=⟨by
 intro pins s Y H Q I h;refine zS PySem.F.slot_dict_getitem.lookup hs (C4 (ho.out pins s Y H _ I h) fun u s1 ⟨x,H1,I1,rx,q1⟩=>C4 (hi.out pins s1 Y H1 _ I1 q1) fun iv s2 ⟨y,H2,I2,ry,ex,k,v,ey,l,q2⟩=>?_);subst ex ey;obtain rfl:u=Value.ref a:=rx;obtain ⟨hd,M⟩:=M;obtain ⟨vs,rel,dd⟩:=M s2.heap I2.kIn;obtain ⟨w',hw,rw'⟩:=nM (v:=v) (o:=valueAt vs k) (by rw [<- l];exact rel.val k);exact ⟨dd.typeIs,wpAny_getItem_of (kV_is ry) dd.mapOf hw ⟨v,H2,I2.tok _,rw',q2⟩⟩⟩
end
theorem alQ{k:C3} : (V.str z=kV k)=(k=Sum.inr z):=by
 cases k with
 | inl i=>exact propext ⟨fun h=>(by cases h),fun h=>(by cases h)⟩
 | inr x=>exact propext ⟨fun h=>(by cases h;rfl),fun h=>(by cases h;rfl)⟩
theorem aoI : rInM neg a kvs (.str z) (.ref b) H Q=(V.ref b=V.ref a/\Q (.bl (neg.xor (valV kvs (Sum.inr z)).isSome)) H):=by
 unfold rInM;simp only [alQ,exists_eq_left]
theorem ak3{to ti:TE} : alP a kvs to ti Y H Q=to Y H fun x H1=>ti Y H1 fun y H2=>x=.ref a/\∃ k v,y=kV k/\valV kvs k=some v/\Q v H2:=rfl
noncomputable def sU (c:TT) (tb:TS) (D:Ends) (Y:St) (H:Hp):Prop:=nJ c tb D Y H
theorem ak4 : nJ c tb D Y H=sU c tb D Y H:=rfl
theorem oC(Pv:Nat->St->Hp->Prop)(m:Nat)(h0:Pv m Y H)(hs:∀ m Y H,Pv m Y H->c Y H fun b H1=>if b=true then ∃ N:St->Hp->Prop,(∀ σ' H',N σ' H'->∃ m',m'<m/\Pv m' σ' H')/\tb { D with nx:=N,ct:=N,bk:=D.nx } Y H1 else D.nx Y H1):sU c tb D Y H:=⟨Pv,⟨m,h0⟩,hs⟩
noncomputable def rTupR (K:PySem.W.Frag) (p:Addr) (H:Hp) (Q:VK):Prop:=∃ ys,(E5 K H p ys/\∀ l,H l=none->Q (.ref l) (A4 H l (.tup ys)))\/(C9 K H p ys/\Q (.ref p) H)
theorem rTupR.l{ys:List V}(h1:E5 K H p ys)(h:∀ l,H l=none->Q (.ref l) (A4 H l (.tup ys))):rTupR K p H Q:=⟨ys,.inl ⟨h1,h⟩⟩
noncomputable def rTupU (K:PySem.W.Frag):List V->Hp->VK->Prop
 | [.ref p],H,Q=>rTupR K p H Q
 | _,_,_=>False
theorem tup_r : rTupU K [.ref p] H Q=rTupR K p H Q:=rfl
theorem cG(hK:X.K=K:=by rfl):QCall X (.type "tuple") (rTupU K):=by
 subst hK;refine ⟨fun pins s Y H xs us Q I r h=>?_⟩
 match xs,h with
 | [.ref p],⟨ys,h⟩=>exact aff pins s Y H _ us Q I r ⟨p,ys,rfl,h⟩
noncomputable def rMin:List V->Hp->VK->Prop:=fun xs H Q=>∃ i j,xs=[.int i,.int j]/\Q (.int (if j<i then j else i)) H
noncomputable def rMax:List V->Hp->VK->Prop:=fun xs H Q=>∃ i j,xs=[.int i,.int j]/\Q (.int (if j > i then j else i)) H
theorem aoJ{i j:Int} : rMin [.int i,.int j] H Q=Q (.int (if j<i then j else i)) H:=propext ⟨fun ⟨_,_,e,q⟩=>(by cases e;exact q),fun q=>⟨_,_,rfl,q⟩⟩
theorem aoK{i j:Int} : rMax [.int i,.int j] H Q=Q (.int (if j > i then j else i)) H:=propext ⟨fun ⟨_,_,e,q⟩=>(by cases e;exact q),fun q=>⟨_,_,rfl,q⟩⟩
noncomputable def rCalm (calm:Bool) (r:List V->Hp->VK->Prop):List V->Hp->VK->Prop:=fun xs H Q=>calm=true/\r xs H Q
theorem anb{r:List V->Hp->VK->Prop} : rCalm true r xs H Q=r xs H Q:=propext ⟨fun h=>h.2,fun h=>⟨rfl,h⟩⟩
end L2
set_option maxRecDepth 100000
namespace L2
open PySem PySem.Spec PyProof.Rows
open PySem.Builtin PySem.Builtin.Str PySem.StrLaws
noncomputable def tSeqM (t u:TS):TS:=fun D Y H=>∃ M:St->Hp->Prop,t { D with nx:=M } Y H/\∀ σ' H',M σ' H'->u D σ' H'
theorem eP{rest:List Stmt}{t u:TS}(h1:QS X st t)(h2:QSs X rest u):QSs X (st::rest) (tSeqM t u):=⟨by
 intro pins s Y H D I h;obtain ⟨M,h,hm⟩:=h;refine wpAny_execs_cons (C4 (h1.out pins s Y H { D with nx:=M } I h) fun f s1 q=>?_)
 cases f with
 | next=>
  obtain ⟨σ',H',I',q⟩:=q;exact h2.out pins s1 σ' H' D I' (hm _ _ q)
 | ret v=>exact q
 | brk=>exact q
 | cont=>exact q⟩
theorem gQ{t u:TS}(M:St->Hp->Prop)(h:t { D with nx:=M } Y H)(h2:∀ σ' H',M σ' H'->u D σ' H'):tSeqM t u D Y H:=⟨M,h,h2⟩
theorem gR(h:H p=some (.lst xs)):TruV K (.ref p) H (!xs.isEmpty):=.inl ⟨xs,.of h,rfl⟩
theorem cH(xs:List V)(k:Nat):cutV xs (some (k:Int)) none=xs.drop k:=by
 unfold cutV;have e1:HT.sIx xs.length 0 (some (k:Int))=min k xs.length:=by unfold HT.sIx;simp;lia
 have e2:HT.sIx xs.length xs.length none=xs.length:=rfl;rw [e1,e2,j0 (by rw [j4];exact C5 _)]
 by_cases h:k<=xs.length
 .rw [fZ h]
 .rw [Nat.min_eq_right (by lia),nF (C5 _),nF (by lia)]
theorem kD(xs:List V)(k:Nat):cutV xs none (some (k:Int))=xs.take k:=by
 unfold cutV;have e1:HT.sIx xs.length xs.length (some (k:Int))=min k xs.length:=by unfold HT.sIx;simp;lia
 have e2:HT.sIx xs.length 0 none=0:=rfl;rw [e1,e2,List.drop_zero,Nat.sub_zero]
 by_cases h:k<=xs.length
 .rw [fZ h]
 .rw [Nat.min_eq_right (by lia),j0 (C5 _),j0 (by lia)]
theorem oE(x:V)(xs:List V):cutV (x::xs) (some 1) none=xs:=cH (x::xs) 1
theorem N5{α:Type}(x:α)(xs:List α):J9 (x::xs) 0=some x:=by
 have e:Y1 (x::xs).length 0=some 0:=by unfold Y1;rw [if_pos (Int.le_refl 0),if_pos (by rw [F8];lia)];rfl
 unfold J9;rw [e];rfl
theorem ak5{o f:Expr}(hu:X.A.units+1<cLine)(ho:QE X o td)(he:QE X e ty)(hf:QE X f tx)(h1:K2 e=false:=by rfl)(h2:K2 f=false:=by rfl)(G1:attributeBase o "get" X.env (eval o X.env)=eval o X.env:=by rfl)(G2:(apos.endLine==cpos.line)=true:=by rfl):QE X (.Call (.Attribute o "get" apos) [e,f] [] cpos) (sJ td ty tx):=
 ⟨akH hu ho.out he.out hf.out ⟨G1,by rw [N3 h1,N3 h2];rfl,G2,by rw [N3 h1,N3 h2];rfl⟩⟩
theorem anc{trs:List (TE×TE)} : tDisp trs Y H Q=∀ p,H p=none->gH trs Y (A4 H p (.dK [])) fun ps H2=>H2 p=some (.dK [])/\∃ kvs:List (C3×V),ps=kvs.map (fun kv=>(kV kv.1,kv.2))/\kvs.length<=15/\Q (.ref p) (A4 H2 p (.dK (W0 [] kvs))):=rfl
theorem ane{Q:List (V×V)->Hp->Prop} : gH [] Y H Q=Q [] H:=rfl
theorem ak6{tk tv:TE}{r:List (TE×TE)}{Q:List (V×V)->Hp->Prop} : gH ((tk,tv)::r) Y H Q=tk Y H fun x H1=>tv Y H1 fun y H2=>gH r Y H2 fun ps H3=>Q ((x,y)::ps) H3:=rfl
theorem ak7 : sJ td ty tx Y H Q=td Y H fun x H1=>∃ a,x=.ref a/\eE H1 a/\ty Y H1 fun y H2=>tx Y H2 fun z H3=>∃ o,DGet H3 a y o/\Q (o.getD z) H3:=rfl
theorem adN:∀ {zs:List Str} {us:List Value},Vals (zs.map V.str) us->StrsAre us zs
 | [],_,.nil=>.nil
 | z::zs,_::_,.cons ⟨t,h⟩ r=>by subst h;exact .cons _ _ (adN r)
end L2
set_option maxRecDepth 100000
namespace L2
open PySem PySem.Spec PyProof.Rows
theorem acJ:entryFor table "dict.update.loop"=some Builtin.«dict.update.loop»:=entryFor_of_tree (by kernel_rfl)
theorem oF:plainId "dict.update.loop"=true:=by decide +kernel
section
variable {prog:Program} {w:World} {A:Around} {R:Result->Shared->Prop} {I:Addr} {fp wr:List Addr} {G:Array GenState->Array GenState->Prop} {n:Nat} {P:Nat->Value->Prop} {St:Nat->Shared->Prop}
variable {K:Type} [DecidableEq K] {knd:KeyKind prog w K}
noncomputable def m3 (ks:Nat->K) (vl:Nat->Value):Nat->List (K×Value)
 | 0=>[]
 | i+1=>stored (m3 ks vl i) (ks i) (vl i)
theorem aeg(ks:Nat->K)(vl:Nat->Value):∀ i,(m3 ks vl i).length<=i
 | 0=>C5 _
 | i+1=>by
  have h1:=aeg ks vl i;have h2:(stored (m3 ks vl i) (ks i) (vl i)).length<=(m3 ks vl i).length+1:=by
   unfold stored
   split
   .rw [A7];lia
   .rw [D1];exact C5 _
  show (stored (m3 ks vl i) (ks i) (vl i)).length<=i+1;lia
theorem ajm(W:WalksS prog w A.in1 I fp wr G n P St)(d:Addr)(x6:d∉fp)(tp:Nat->Addr)(ky vl:Nat->Value)(ks:Nat->K)(hP:∀ i v,P i v->v=.ref (tp i))(hk:∀ i,i<n->knd.is (ks i) (ky i)=true)(ht:∀ i,i<n->tp i≠d/\tp i∉wr)(hn:n<=sizeLine) :
  ∀ (k i:Nat) (s:Shared) (j:Int) (t:Tok),n-i=k->i<=n->St i s->(∀ i,i<n->IsTup s.heap (tp i) #[ky i,vl i])->s.heap.DictOf knd d (m3 ks vl i)->
   (∀ s',Moved (d::wr) G s s'->s'.heap.DictOf knd d (m3 ks vl n)->R (.ok (.ret .none)) s')->
   codeAny (model prog w) A (.builtin "dict.update.loop" ⟨[.ref d,.ref I,.int j t,.none],[]⟩) R s:=by
 have hdw:d∉wr:=fun h=>x6 (W.sub _ h)
 have f7:∀ b∈wr,b∈d::wr:=fun b hb=>I0 _ hb
 intro k
 induction k with
 | zero=>
  intro i s j t wI hi T8 hT hD hR;have M0:i=n:=by lia
  subst M0;refine codeAny_builtin acJ ?_;rw [Around.under_plainId oF _];show wpAny _ A.in1 (pyNext (.ref I) >>= _) _ _ s;refine wpAny_bind (W.done s _ _ T8 fun s' hm=>?_);have e0:Builtin.Dict.addKeywords d []=pure ():=rfl;show wpAny _ A.in1 (Builtin.Dict.addKeywords d [] >>= fun _=>ret Value.none) _ _ s';rw [e0];refine wpAny_bind (wpAny_pure (wpAny_pure (hR s' (hm.mono f7) ?_)));obtain ⟨o,es,ep,ho,rest⟩:=hD;exact ⟨o,es,ep,hm.heap d _ hdw ho,rest⟩
 | succ k ih=>
  intro i s j t wI hi T8 hT hD hR;have D0:i<n:=by lia
  refine codeAny_builtin acJ ?_;rw [Around.under_plainId oF _];show wpAny _ A.in1 (pyNext (.ref I) >>= _) _ _ s;refine wpAny_bind (W.item i s _ _ D0 T8 fun v s' hv wJ hm=>?_);obtain rfl:=hP i v hv;have hD':s'.heap.DictOf knd d (m3 ks vl i):=by
   obtain ⟨o,es,ep,ho,rest⟩:=hD;exact ⟨o,es,ep,hm.heap d _ hdw ho,rest⟩
  have hT':∀ i,i<n->IsTup s'.heap (tp i) #[ky i,vl i]:=fun i hi=>by
   obtain ⟨o,ho,rest⟩:=hT i hi;exact ⟨o,hm.heap _ _ (ht i hi).2 ho,rest⟩
  have hTi:=hT' i D0;obtain ⟨o,ho,vX,n0,qB⟩:=id hTi;refine wpAny_bind (wpAny_holding (wpAny_bind (wpAny_tryCatch ?_)));unfold Builtin.Dict.pairItems;refine wpAny_bind (wpAny_typeOf hTi.typeIs ?_);rw [if_pos (by decide)];refine wpAny_bind (wpAny_seqItems ho qB ?_);refine wpAny_pure ?_;show wpAny _ _ (holding [ky i,vl i] (dictSet d (ky i) (vl i))) _ _ s';have hl:=aeg ks vl i;refine wpAny_holding (wpAny_dictSet_pairs (hk i D0) hD' (fun h' hD2 wK=>?_) (by lia));refine wpAny_pure ⟨plainId_quiet oF _,ih (i+1) _ (j+1) 0 (by lia) D0 (W.frame _ s' _ _ wJ (Nat.le_succ _) fun b hb o e=>?_) (fun i hi=>?_) hD2 fun s'' hm'' hD''=>?_⟩
  .rw [wK.2 b (fun h:b=d=>x6 (by rw [<- h];exact hb))];exact e
  .obtain ⟨o,ho,rest⟩:=hT' i hi;exact ⟨o,(wK.2 _ (ht i hi).1).trans ho,rest⟩
  .refine hR s'' (Moved.trans W.gtrans ((hm.mono f7).then_heap (Nat.le_succ _) fun b o hb e=>?_) hm'') hD'';rw [wK.2 b (fun h:b=d=>hb (by rw [h];exact J7))];exact e
end
theorem ah5:typeLookup (.type "list") "__getattribute__"=pure (some (.builtin "list.__getattribute__")):=by rw [typeLookup_type,builtinLookup_eq_fast];kernel_rfl
theorem afY:typeLookup (.type "list") "keys"=pure none:=by rw [typeLookup_type,builtinLookup_eq_fast];kernel_rfl
theorem afZ:typeLookup (.type "list") "__getattr__"=pure none:=by rw [typeLookup_type,builtinLookup_eq_fast];kernel_rfl
theorem af0{w:World}{l:Addr}{xs:Array Value}{Q:Option Value->Shared->Prop}(hx:s.heap.get? l=some o)(hc:o.cls=.type "list")(lU:o.data=.seq xs k)(hd:o.dict=none)(hA:A.handled=none)(h:∀ h' tk,(∀ b o,s.heap.get? b=some o->h'.get? b=some o)->Q none { s with heap:=h',toks:=tk }):wpAny (model prog w) A (getAttr? (.ref l) "keys") Q E s:=by
 obtain ⟨c,dct,dat,sl⟩:=o;simp only at hc lU hd;subst hc lU hd;obtain ⟨hp,g,d,tk,os⟩:=s;have hT:∀ tk',(⟨hp,g,d,tk',os⟩:Shared).TypeIs (.ref l) "list":=fun _=>⟨_,hx,rfl⟩
 have f4:=F.slot_list_getattribute.bind (.ref l);unfold getAttr? getAttrBy? getAttrBy;refine wpAny_bind (wpAny_mkText (wpAny_bind (wpAny_attempt (wpAny_holding (wpAny_bind (wpAny_typeOf (hT _) ?_))))));rw [ah5];refine wpAny_bind (wpAny_pure ?_);show wpAny _ _ (getAttrByItsOwn _ _ _ _ _ _) _ _ _;unfold getAttrByItsOwn;refine wpAny_bind (wpAny_pure ?_);refine wpAny_bind (wpAny_attempt (wpAny_holding ?_));show wpAny _ _ (boundAndCalled _ _ _) _ _ _;unfold boundAndCalled;rw [f4];refine wpAny_bind (wpAny_pure ?_);refine call_meets F.slot_list_getattribute (hT _) am_entry_list_getattribute (F.args_list_getattribute_2 _ _) (meets_getattribute_miss_list l xs k sl "keys" _ afY (by decide +kernel) (by decide +kernel)) ⟨hx,hA,fun h' tk' e new=>?_⟩;obtain ⟨t',u',he⟩:=new.there;have hTe:∀ tk',(⟨h',g,d,tk',os⟩:Shared).TypeIs (.ref e) "AttributeError":=fun _=>⟨_,he,rfl⟩
 show wpAny _ _ (getattributeRaised _ _ _ _ _ _ _) _ _ _;unfold getattributeRaised;refine wpAny_bind (wpAny_isInstance (hTe _) sub_AttributeError ?_);rw [if_pos rfl];show wpAny _ _ (hookBehind _ _ >>= _) _ _ _;unfold hookBehind;rw [if_neg (by decide),afZ];refine wpAny_bind (wpAny_pure ?_);unfold hookOrError attributeErrorLeaves;show wpAny _ _ (if (!false)=true then _ else _) _ _ _;rw [if_pos (by decide)];refine wpAny_bind (wpAny_throw ?_);show wpAny _ _ (isInstance _ _ >>= _) _ _ _;refine wpAny_bind (wpAny_isInstance (hTe _) sub_AttributeError ?_);rw [if_pos rfl];exact wpAny_pure (h h' tk' new.keeps)
section
variable {prog:Program} {w:World} {A:Around} {E:Value->Shared->Prop} {s:Shared} {K:Type} [DecidableEq K] {knd:KeyKind prog w K}
theorem aeh{l:Addr}{Q:Value->Shared->Prop}(hl:PlainL s.heap l items)(hA:A.handled=none)(tp:Nat->Addr)(ky vl:Nat->Value)(ks:Nat->K)(hP:∀ (i:Nat) (v:Value),items[i]?=some v->v=Value.ref (tp i))(hk:∀ i,i<items.size->knd.is (ks i) (ky i)=true)(hT:∀ i,i<items.size->IsTup s.heap (tp i) #[ky i,vl i])(hn:items.size<=sizeLine)(h:∀ h' tk,(∀ b o,s.heap.get? b=some o->h'.get? b=some o)->h'.DictOf knd s.heap.objs.size (m3 ks vl items.size)->Q (.ref s.heap.objs.size) { s with heap:=h',toks:=tk }) :
  wpAny (model prog w) A (call (.type "dict") [.ref l]) Q E s:=by
 refine callType_codes (Q₁:=fun obj zu=>obj=.ref s.heap.objs.size/\zu={ s with heap:=s.heap.push { cls:=.type "dict",data:=.dict #[] } }) F.kt_called_dict (F.kt_typeCall_dict_1 _) F.entry_dict_init (kt_code_dict_new _ ⟨rfl,rfl⟩) ?_;rintro obj zu ⟨rfl,rfl⟩;have Q9:(s.heap.push { cls:=.type "dict",data:=.dict #[] }).DictOf knd s.heap.objs.size []:=Heap.DictOf.new s.heap;obtain ⟨ol,nl,hol,wL,hld,cY⟩:=hl;have fG:(s.heap.push { cls:=.type "dict",data:=.dict #[] }).get? l=some ol:=Heap.get?_push_of_some _ hol;have D0:l<s.heap.objs.size:=Heap.lt_size hol;refine ⟨Q9.typeIs,F.args_dict_init_2 _ _,?_⟩;unfold Builtin.«dict.__init__»;refine wpAny_bind ?_;unfold Builtin.Dict.selfAndRest;refine wpAny_bind (wpAny_notOrdered_dict Q9.typeIs ?_);show wpAny _ _ (pure (s.heap.objs.size,[Value.ref l])) _ _ _;refine wpAny_pure ?_;show wpAny _ _ (Builtin.Dict.updateFrom "dict.__init__" s.heap.objs.size (.ref l) [] .none) _ _ _;unfold Builtin.Dict.updateFrom;refine wpAny_bind (wpAny_typeOf (T:="list") ⟨_,fG,wL⟩ ?_);rw [if_pos (by decide)];refine wpAny_bind (af0 fG wL cY hld (by simp [hA]) fun h2 tk2 keep2=>?_);rw [if_pos (show (none:Option Value).isNone=true from rfl)];refine wpAny_bind (wpAny_rule ?_);have e9:h2.IsList l items:=⟨ol,keep2 _ _ fG,wL,nl,cY⟩
 refine wpAny_bind (wpAny_pyIter_list e9 ?_);obtain ⟨od,es,ep,qB,restd⟩:=Q9;have aX:s.heap.objs.size<h2.objs.size:=Heap.lt_size (keep2 _ _ qB);have G3:l≠h2.objs.size:=N1 (Nat.lt_trans D0 aX);have hh:A.in1.in1.handled=none:=by simp [hA]
 have x6:s.heap.objs.size∉[h2.objs.size,l]:=by
  simp only [D9,W8,or_false,not_or];exact ⟨N1 aX,Nat.ne_of_gt D0⟩
 have qC:∀ i,i<items.size->tp i<s.heap.objs.size:=fun i hi=>by
  obtain ⟨o,ho,_⟩:=hT i hi;exact Heap.lt_size ho
 refine wpAny_pure ⟨plainId_quiet oF _,ajm ((Walks.list hh _ l G3 items).toS) s.heap.objs.size x6 tp ky vl ks hP hk (fun i hi=>⟨N1 (qC i hi),?_⟩) hn (items.size-0) 0 _ 0 0 (by lia) (K1 _) ⟨⟨_,Heap.get?_push_size _ rfl,rfl,rfl⟩,e9.push _⟩ (fun i hi=>?_) ?_ fun s' hm hD'=>?_⟩
 .simp only [D9,W8,or_false];exact N1 (Nat.lt_trans (qC i hi) aX)
 .obtain ⟨o,ho,rest⟩:=hT i hi;exact ⟨o,Heap.get?_push_of_some _ (keep2 _ _ (Heap.get?_push_of_some _ ho)),rest⟩
 .exact ⟨od,es,ep,Heap.get?_push_of_some _ (keep2 _ _ qB),restd⟩
 .obtain ⟨h',g',d',tk',os'⟩:=s';have eg:g'=s.gens:=hm.gens;have ed:d'=s.drawn:=hm.drawn;have eo:os'=s.os:=hm.os;subst eg ed eo;refine ⟨rfl,h h' tk' (fun b o hb=>hm.heap b o ?_ (Heap.get?_push_of_some _ (keep2 _ _ (Heap.get?_push_of_some _ hb)))) hD'⟩;have lV:b<s.heap.objs.size:=Heap.lt_size hb;simp only [D9,W8,or_false,not_or];exact ⟨N1 lV,N1 (Nat.lt_trans lV aX)⟩
end
noncomputable def aoL (K:PySem.W.Frag) (calm:Bool):List V->Hp->VK->Prop:=fun xs H Q=>calm=true/\∃ (p:Addr) (ts:List Addr) (kxs:List (C3×V)),xs=[.ref p]/\E5 K H p (ts.map V.ref)/\Paired (fun t kx=>C9 K H t [kV kx.1,kx.2]) ts kxs/\∀ d,H d=none->Q (.ref d) (A4 H d (.dK (W0 [] kxs)))
theorem aht(I:Inv X pins Y H s):∀ {ts:List Addr} {kxs:List (C3×V)},Paired (fun t kx=>C9 X.K H t [kV kx.1,kx.2]) ts kxs->
  ∃ ws:List (Value×Value),Paired (fun t w=>IsTup s.heap t #[w.1,w.2]) ts ws/\Paired (fun (kx:C3×V) (w:Value×Value)=>keyIs kx.1 w.1=true/\RelV kx.2 w.2) kxs ws
 | _,_,.nil=>⟨[],.nil,.nil⟩
 | _,_,.cons h t=>by
  obtain ⟨ws,h1,h2⟩:=aht I t;obtain ⟨its,r,ht,_⟩:=I.tuple h;obtain ⟨u1,u2,rfl,r1,r2⟩:=vals2 r;exact ⟨(u1,u2)::ws,.cons ht h1,.cons ⟨kV_is (P:=X.prog) (w:=X.w) r1,r2⟩ h2⟩
theorem ajn:∀ {ts:List Addr} {us:List Value},Vals (ts.map V.ref) us->us=ts.map Value.ref
 | [],_,.nil=>rfl
 | t::ts,_::_,.cons h r=>by
  rw [G6,<- ajn r];cases h;rfl
theorem ajo(hK:X.K=K:=by rfl)(hc:X.calm=calm:=by rfl):QCall X (.type "dict") (aoL K calm):=⟨by
 subst hK;intro pins s Y H xs us Q I r h;obtain ⟨lT,p,ts,kxs,rfl,hp,hP,q⟩:=h;obtain ⟨u,rfl,rx⟩:=vals1 r
 cases rx
 obtain ⟨its,r',pl,hz⟩:=I.list hp;have lW:=ajn r';obtain ⟨ws,h1,h2⟩:=aht I hP;have W6:ts.length=ws.length:=Paired.length h1;have e9:kxs.length=ws.length:=Paired.length h2;rw [A7] at hz;have hsz:its.toArray.size=ts.length:=by rw [K3,lW,A7]
 have aY:∀ i,i<=ts.length->KV (W0 [] (kxs.take i)) (m3 (fun i=>(kxs.getD i (Sum.inl 0,.non)).1) (fun i=>(ws.getD i (.none,.none)).2) i):=by
  intro i
  induction i with
  | zero=>intro _;exact .nil
  | succ i ih=>
   intro hi;have wM:i<kxs.length:=by lia
   obtain ⟨w',hw,hr⟩:=Paired.at h2 (N0 wM);have e1:W0 [] (kxs.take (i+1))=putK (W0 [] (kxs.take i)) kxs[i].1 kxs[i].2:=by
    unfold W0;rw [U0,N0 wM,dY,j3];rfl
   rw [e1];show KV _ (stored _ (kxs.getD i (Sum.inl 0,.non)).1 (ws.getD i (.none,.none)).2);have e2:(kxs.getD i (Sum.inl 0,.non))=kxs[i]:=by rw [dN,N0 wM];rfl
   have e3:(ws.getD i (.none,.none))=w':=by rw [dN,hw];rfl
   rw [e2,e3];exact (ih (by lia)).put _ hr.2
 refine aeh (knd:=N8 X.prog X.w) pl (I.ok.hd (hc.trans lT)) (fun i=>ts.getD i 0) (fun i=>(ws.getD i (.none,.none)).1) (fun i=>(ws.getD i (.none,.none)).2) (fun i=>(kxs.getD i (Sum.inl 0,.non)).1) (fun i v hv=>?_) (fun i hi=>?_) (fun i hi=>?_) (by lia) fun h' tk keep hD=>?_
 .rw [<- Array.getElem?_toList,lW,V2] at hv;rw [dN];cases e:ts[i]? with
  | none=>rw [e] at hv;cases hv
  | some t=>rw [e] at hv;cases hv;rfl
 .obtain ⟨w',hw,hr⟩:=Paired.at h2 (N0 (show i<kxs.length by lia));have e2:(kxs.getD i (Sum.inl 0,.non))=kxs[i]'(by lia):=by rw [dN,N0 (show i<kxs.length by lia)];rfl
  have e3:(ws.getD i (.none,.none))=w':=by rw [dN,hw];rfl
  rw [e2,e3];exact hr.1
 .have hi':i<ts.length:=by lia
  obtain ⟨w',hw,hr⟩:=Paired.at h1 (N0 hi');have e3:(ws.getD i (.none,.none))=w':=by rw [dN,hw];rfl
  have e4:ts.getD i 0=ts[i]:=by rw [dN,N0 hi'];rfl
  rw [e3,e4];exact hr
 .have hD2:KV (W0 [] kxs) (m3 (fun i=>(kxs.getD i (Sum.inl 0,.non)).1) (fun i=>(ws.getD i (.none,.none)).2) its.toArray.size):=by
   have:=aY ts.length (C5 _)
   rw [j0 (by lia)] at this;rw [hsz];exact this
  have C1:=zT kxs [];rw [V4] at C1;exact ⟨.ref s.heap.objs.size,_,I.laid (t':=tk) keep (C5 _) (sF (by lia) (beq_eq_false_iff_ne.mpr (Ne.symm (N1 I.big))) hD2 hD),rfl,q _ (I.hok.fresh (C5 _))⟩⟩
end L2
set_option maxRecDepth 100000
namespace L2
open PySem PySem.Spec PyProof.Rows
section
variable {X:Cx} {pins:List (Addr×Obj)} {Y:St} {H:Hp} {s:Shared} {h':Heap}
theorem Inv.turnNew{ch:List Addr}{T:Addr}{o:HO}(I:Inv X pins Y H s)(hf:∀ b∈ch,FpOk X pins H b)(k:∀ b u,b∉ch->s.heap.get? b=some u->h'.get? b=some u)(hT:s.heap.objs.size<=T)(new:ObjOk X.prog X.w (A4 H T o) h' T o):Inv X pins Y (A4 H T o) { s with heap:=h',toks:=t' }:=by
 have hn:H T=none:=I.hok.fresh hT;have nch:∀ b u,H b=some u->b∉ch:=fun b u e z=>by rw [(hf b z).1] at e;cases e
 have neT:∀ b u,s.heap.get? b=some u->b≠T:=fun b u e=>N1 (T5 (Heap.lt_size e) hT)
 refine I.step (g':=s.gens) (d':=s.drawn) (ch:=ch) (fun b hb=>?_) (fun b u _ _ hc e _=>k b u hc e) (fun b u _ _ hc e _=>⟨u.slots,k b u hc e⟩) (fun b u _ e n=>by rw [A9 (neT b u e)];exact n)
  (fun b u hc e=>⟨u,k b u hc e⟩) (fun b xs e=>B3 e hn) (fun b ob u e=>B3 e hn) (fun b ps e=>⟨#[],by rw [B3 e hn];simp⟩) (fun m hm=>?_) (fun b u e=>?_) I.bare
 .obtain ⟨f0,f1,f2,f3,f4,f5⟩:=hf b hb;exact ⟨f3,f1,f4,f5⟩
 .obtain ⟨ob,es,ep,ho,r⟩:=hm;exact ⟨ob,es,ep,k _ ob (fun z=>(hf _ z).2.1 rfl) ho,r⟩
 .by_cases hb:b=T
  .subst hb;rw [A5] at e;cases e;exact new
  .rw [A9 hb] at e;refine (I.hok b u e).stay (fun c v hc q=>k c v ?_ q) (fun c q=>B3 q hn) fun c xs q=>B3 q hn
   rcases hc with z | z
   .rw [z];exact nch b u e
   .exact nch c _ z
end
theorem i3{a b:Nat}(h:a<b\/b<a):(show Addr from a)≠(show Addr from b):=fun e=>by
 have e:a=b:=e;lia
noncomputable def oG (l1 l2 : Addr) : It :=
  ⟨fun i H => ∃ xs ys x y, H l1 = some (.lst xs) /\ H l2 = some (.lst ys) /\ xs[i]? = some x /\ ys[i]? = some y,
   fun i H v H' => ∃ t xs ys x y, H l1 = some (.lst xs) /\ H l2 = some (.lst ys) /\ xs[i]? = some x /\ ys[i]? = some y /\ H t = none /\ v = .ref t /\ H' = A4 H t (.tup [x, y]),
   fun i H => ∃ xs ys, H l1 = some (.lst xs) /\ H l2 = some (.lst ys) /\ (xs.length <= i \/ ys.length <= i)⟩
theorem ak8{P:Program}{w:World}{pos:Pos}(z TI TO i1 i2 l1 l2:Addr)(a1:TI≠z)(a2:TO≠z)(a3:i1≠z)(a4:i2≠z)(a5:TI≠TO)(a6:TI≠i1)(a7:TI≠i2)(a8:TO≠i1)(a9:TO≠i2)(a10:i1≠i2) :
  Turn P w K (.Tuple elts x1 pos) (oG l1 l2) [z,TO,i1,i2,TI] z (fun i h=>IsZip h z TI TO .none/\IsPair h TI (.ref i1) (.ref i2)/\(∃ a b,IsPair h TO a b)/\h.IsListIter i1 l1 i/\h.IsListIter i2 l2 i) where
 mem:=by simp
 obj:=fun i h ⟨hz,hTI,⟨a,b,hTO⟩,h1,h2⟩ c hc=>by
  have e:c=z\/c=TO\/c=i1\/c=i2\/c=TI:=by simpa using hc
  rcases e with rfl | rfl | rfl | rfl | rfl
  .exact ⟨_,hz,fun v q=>by cases q⟩
  .exact ⟨_,hTO,fun v q=>by cases q⟩
  .obtain ⟨o,e,c,d⟩:=h1;exact ⟨o,e,fun v z=>by rw [d] at z;cases z⟩
  .obtain ⟨o,e,c,d⟩:=h2;exact ⟨o,e,fun v z=>by rw [d] at z;cases z⟩
  .exact ⟨_,hTI,fun v q=>by cases q⟩
 keep:=fun i h h' ⟨hz,hTI,⟨a,b,hTO⟩,h1,h2⟩ k=>⟨k z (by simp) _ hz,k TI (by simp) _ hTI,⟨a,b,k TO (by simp) _ hTO⟩,h1.at fun o e=>k i1 (by simp) o e,h2.at fun o e=>k i2 (by simp) o e⟩
 item:=by
  intro X hP hw hK hc i pins s Y H E I hf ⟨hz,hTI,⟨a,b,hTO⟩,h1,h2⟩ hg;subst hP hw hK;obtain ⟨xs,ys,x,y,e1,e2,hx,hy⟩:=hg;obtain ⟨its1,Z1,p1,_⟩:=I.list (E5.of (K:=X.K) e1);obtain ⟨its2,qD,p2,_⟩:=I.list (E5.of (K:=X.K) e2);obtain ⟨u1,C7,r1⟩:=Z1.get hx;obtain ⟨u2,aZ,r2⟩:=qD.get hy;have nl:∀ c∈[z,TO,i1,i2,TI],l1≠c/\l2≠c:=fun c hc=>⟨fun q=>(by rw [q,(hf c hc).1] at e1;cases e1),fun q=>(by rw [q,(hf c hc).1] at e2;cases e2)⟩
  have D:ZipApart z TI TO i1 i2 l1 l2:=⟨a1,a2,a3,a4,a5,a6,a7,a8,a9,a10,(nl z (by simp)).1,(nl TO (by simp)).1,(nl i1 (by simp)).1,(nl i2 (by simp)).1,(nl z (by simp)).2,(nl TO (by simp)).2,(nl i1 (by simp)).2,(nl i2 (by simp)).2⟩
  refine wpAny_pyNext_zip_item D hz hTI hTO h1 h2 p1.isList p2.isList (x:=u1) (y:=u2) (by simpa using C7) (by simpa using aZ) fun h' b1 b2 b3 b4 b5 b6 b7=>⟨_,rfl,wpAny_letOwnedTupleGo_zip b1 fun h2' c1 c2=>?_⟩
  have N7:z<s.heap.objs.size:=Heap.lt_size hz;have up:∀ c o,c≠z->h'.get? c=some o->h2'.get? c=some o:=fun c o hc e=>(c2.2 c hc).trans e
  have nT:∀ c∈[z,TO,i1,i2,TI],c≠s.heap.objs.size:=fun c hc=>by
   have e:c=z\/c=TO\/c=i1\/c=i2\/c=TI:=by simpa using hc
   refine N1 ?_
   rcases e with rfl | rfl | rfl | rfl | rfl
   .exact Heap.lt_size hz
   .exact Heap.lt_size hTO
   .obtain ⟨o,e,_⟩:=h1;exact Heap.lt_size e
   .obtain ⟨o,e,_⟩:=h2;exact Heap.lt_size e
   .exact Heap.lt_size hTI
  have hT:=up _ _ (Nat.ne_of_gt N7) b5;refine ⟨.ref s.heap.objs.size,A4 H s.heap.objs.size (.tup [x,y]),I.turnNew (t':=s.toks) (ch:=[z,TO,i1,i2,TI]) hf (fun c u hc e=>?_) (C5 _) ⟨by show 2<=sizeLine;decide,[u1,u2],.cons r1 (.cons r2 .nil),?_⟩,rfl,⟨_,xs,ys,x,y,e1,e2,hx,hy,I.fresh,rfl,rfl⟩,
   ⟨c1,up _ _ a1 (b7 _ _ a1 a5 a6 a7 hTI),⟨_,_,up _ _ a2 b2⟩,b3.at fun o e=>up _ o a3 e,b4.at fun o e=>up _ o a4 e⟩,fun c hc=>by rw [A9 (nT c hc)];exact (hf c hc).1⟩
  .have q:c≠z/\c≠TO/\c≠i1/\c≠i2:=by
    refine ⟨fun q=>hc (by simp [q]),fun q=>hc (by simp [q]),fun q=>hc (by simp [q]),fun q=>hc (by simp [q])⟩
   exact up c u q.1 (b7 c u q.1 q.2.1 q.2.2.1 q.2.2.2 e)
  .exact ⟨_,hT,rfl,_,rfl⟩
 done:=by
  intro X hP hw hK hc i pins s Y H E I hf ⟨hz,hTI,⟨a,b,hTO⟩,h1,h2⟩ hg;subst hP hw hK;obtain ⟨xs,ys,e1,e2,fH⟩:=hg;obtain ⟨its1,Z1,p1,_⟩:=I.list (E5.of (K:=X.K) e1);obtain ⟨its2,qD,p2,_⟩:=I.list (E5.of (K:=X.K) e2);have q1:=Z1.length;have q2:=qD.length;have nl:∀ c∈[z,TO,i1,i2,TI],l1≠c/\l2≠c:=fun c hc=>⟨fun q=>(by rw [q,(hf c hc).1] at e1;cases e1),fun q=>(by rw [q,(hf c hc).1] at e2;cases e2)⟩
  have D:ZipApart z TI TO i1 i2 l1 l2:=⟨a1,a2,a3,a4,a5,a6,a7,a8,a9,a10,(nl z (by simp)).1,(nl TO (by simp)).1,(nl i1 (by simp)).1,(nl i2 (by simp)).1,(nl z (by simp)).2,(nl TO (by simp)).2,(nl i1 (by simp)).2,(nl i2 (by simp)).2⟩
  refine wpAny_pyNext_zip_end (I.ok.hd hc) D hz hTI hTO h1 h2 p1.isList p2.isList (by rcases fH with q | q <;> simp <;> lia) fun h' k=>⟨rfl,?_⟩
  refine I.step (h':=h') (t':=s.toks) (g':=s.gens) (d':=s.drawn) (ch:=[z,TO,i1,i2,TI]) (fun b hb=>?_) (fun b u _ _ hc e _=>?_) (fun b u _ _ hc e _=>⟨u.slots,?_⟩) (fun b u _ e n=>n)
   (fun b u hc e=>⟨u,?_⟩) (fun b xs e=>e) (fun b ob u e=>e) (fun b ps e=>⟨#[],by rw [e];simp⟩) (fun m hm=>?_) (fun b u e=>?_) I.bare
  .obtain ⟨f0,f1,f2,f3,f4,f5⟩:=hf b hb;exact ⟨f3,f1,f4,f5⟩
  .exact k b u (fun q=>hc (by simp [q])) (fun q=>hc (by simp [q])) (fun q=>hc (by simp [q])) (fun q=>hc (by simp [q])) e
  .exact k b u (fun q=>hc (by simp [q])) (fun q=>hc (by simp [q])) (fun q=>hc (by simp [q])) (fun q=>hc (by simp [q])) e
  .exact k b u (fun q=>hc (by simp [q])) (fun q=>hc (by simp [q])) (fun q=>hc (by simp [q])) (fun q=>hc (by simp [q])) e
  .obtain ⟨ob,es,ep,ho,r⟩:=hm;have nL:∀ c∈[z,TO,i1,i2,TI],X.env.locals≠c:=fun c hc q=>(hf c hc).2.1 q.symm
   exact ⟨ob,es,ep,k _ ob (nL z (by simp)) (nL TO (by simp)) (nL i1 (by simp)) (nL i2 (by simp)) ho,r⟩
  .have nch:∀ b u,H b=some u->∀ c∈[z,TO,i1,i2,TI],b≠c:=fun b u e c hc q=>by rw [q,(hf c hc).1] at e;cases e
   refine (I.hok b u e).stay (fun c v hc q=>?_) (fun c q=>q) fun c xs q=>q
   have:∀ d∈[z,TO,i1,i2,TI],c≠d:=by
    rcases hc with z | z
    .rw [z];exact nch b u e
    .exact nch c _ z
   exact k c v (this z (by simp)) (this TO (by simp)) (this i1 (by simp)) (this i2 (by simp)) q
 self:=fun _ _ _ _ _ st h=>wpAny_pyIter_zip st.1 h
section
variable {X:Cx}
noncomputable def iZip (ta:TA):TI:=fun Y H R=>ta Y H fun vs H1=>∃ (l1 l2:Addr) (xs ys:List V),vs=[.ref l1,.ref l2]/\H1 l1=some (.lst xs)/\H1 l2=some (.lst ys)/\R (oG l1 l2) H1
theorem aoM{a b:Expr}{p pos:Pos}(hg:Gl X "zip")(hm:X.mg "zip"=none)(ha:PA X [a,b] ta)(h1:K2 a=false:=by rfl)(h2:K2 b=false:=by rfl) :
  PI X (.Tuple elts x1 tpos) (.Call (.Name "zip" p) [a,b] [] pos) (iZip ta):=by
 intro pins s Y H R I h;refine Call_ (bY I hg hm boot_zip (PyProof.Rows.callWith_type1 (C4 (ha pos pins s Y H _ I h) fun us s1 ⟨vs,H1,I1,r1,q1⟩=>?_) (N3 h1) (by rw [N3 h2];rfl)));obtain ⟨l1,l2,xs,ys,rfl,e1,e2,q⟩:=q1;obtain ⟨u1,u2,rfl,lX,lY⟩:=vals2 r1
 cases lX
 cases lY
 obtain ⟨its1,Z1,p1,_⟩:=I1.list (E5.of (K:=X.K) e1);obtain ⟨its2,qD,p2,_⟩:=I1.list (E5.of (K:=X.K) e2);refine call_zip_2 p1.isList p2.isList fun h' z1 z2 z3 z4 z5 z6 z7=>wpAny_pyIter_zip z1 ?_
 refine ⟨s1.heap.objs.size+4,[s1.heap.objs.size+4,s1.heap.objs.size+3,s1.heap.objs.size,s1.heap.objs.size+1,s1.heap.objs.size+2],_,_,H1,rfl,I1.kept (t':=s1.toks) z7,
  ak8 _ (s1.heap.objs.size+2) (s1.heap.objs.size+3) s1.heap.objs.size (s1.heap.objs.size+1) l1 l2 (i3 (by lia)) (i3 (by lia)) (i3 (by lia)) (i3 (by lia)) (i3 (by lia)) (i3 (by lia)) (i3 (by lia)) (i3 (by lia)) (i3 (by lia)) (i3 (by lia)),⟨z1,z2,⟨_,_,z3⟩,z4,z5⟩,fun b hb=>?_,q⟩
 have cZ:s1.heap.objs.size<=b:=by
  have e:b=s1.heap.objs.size+4\/b=s1.heap.objs.size+3\/b=s1.heap.objs.size\/b=s1.heap.objs.size+1\/b=s1.heap.objs.size+2:=by simpa using hb
  rcases e with rfl | rfl | rfl | rfl | rfl
  .exact z9 _ _
  .exact z9 _ _
  .exact C5 _
  .exact z9 _ _
  .exact z9 _ _
 exact I1.fpOk cZ (I1.hok.fresh cZ)
theorem aoN{a b:Expr}{p pos:Pos}(hm:X.mg "zip"=none)(ha:QA X [a,b] ta)(hg:Gl X "zip":=by rfl)(h1:K2 a=false:=by rfl)(h2:K2 b=false:=by rfl) :
  QI X (.Tuple elts x1 tpos) (.Call (.Name "zip" p) [a,b] [] pos) (iZip ta):=⟨aoM hg hm ha.out h1 h2⟩
end
theorem anf{R:It->Hp->Prop} : iZip ta Y H R=ta Y H fun vs H1=>∃ (l1 l2:Addr) (xs ys:List V),vs=[.ref l1,.ref l2]/\H1 l1=some (.lst xs)/\H1 l2=some (.lst ys)/\R (oG l1 l2) H1:=rfl
theorem forZ{l1 l2:Addr}{ys:List V}{g:TG}(Pv:Nat->St->Hp->Prop)(h0:Pv 0 Y H)(hl:∀ i Y H,Pv i Y H->H l1=some (.lst xs)/\H l2=some (.lst ys))(hs:∀ i x y t Y H,xs[i]?=some x->ys[i]?=some y->Pv i Y H->H t=none->g (.ref t) Y (A4 H t (.tup [x,y])) fun σ2 H2=>tb { D with nx:=Pv (i+1),ct:=Pv (i+1),bk:=D.nx } σ2 H2)(hd:∀ Y H,Pv (min xs.length ys.length) Y H->D.nx Y H):ForIt (oG l1 l2) g tb D Y H:=by
 refine ⟨fun i m Y H=>m=min xs.length ys.length-i/\i<=min xs.length ys.length/\Pv i Y H,⟨min xs.length ys.length,by simp,K1 _,h0⟩,?_⟩;rintro i m Y H ⟨rfl,hi,p⟩;obtain ⟨e1,e2⟩:=hl i Y H p
 by_cases D0:i<min xs.length ys.length
 .refine .inr ⟨⟨xs,ys,xs[i]'(by lia),ys[i]'(by lia),e1,e2,by simp,by simp⟩,Pv (i+1),fun σ' H' p'=>⟨_,by lia,rfl,D0,p'⟩,fun v H' y=>?_⟩;obtain ⟨t,xs',ys',x,y',f1,f2,hx,hy,ht,rfl,rfl⟩:=y;rw [e1] at f1;cases f1;rw [e2] at f2;cases f2;exact hs i x y' t Y H hx hy p ht
 .have e:i=min xs.length ys.length:=by lia
  subst e;exact .inl ⟨⟨xs,ys,e1,e2,by lia⟩,hd Y H p⟩
noncomputable def Itr3 (lo st:Int) (n:Nat):It:=⟨fun i _=>i<n,fun i H x H'=>H'=H/\x=.int (lo+i*st),fun i _=>n<=i⟩
theorem agM{P:Program}{w:World}(it:Addr)(lo st:Int)(n:Nat):Turn P w K tg (Itr3 lo st n) [it] it (fun i h=>IsRangeIter h it (lo+(i:Nat)*st) ((n:Int)-(i:Nat)) st) where
 mem:=by simp
 obj:=fun i h st b hb=>by
  have e:b=it:=by simpa using hb
  subst e;exact ⟨_,st,fun v z=>by
   have z':Data.fields _=Data.cell v:=z
   cases z'⟩
 keep:=fun i h h' st k=>k it (by simp) _ st
 item:=by
  intro X hP hw hK hc i pins s Y H E I hf T8 hg;subst hP hw hK;obtain ⟨f0,f1,f2,f3,f4,f5⟩:=hf it (by simp);have W:=Walks.range (prog:=X.prog) (w:=X.w) (I.ok.hd hc) it lo st n;refine W.item i s _ _ hg T8 fun v h' tk hv st' kk=>?_
  obtain ⟨t,rfl⟩:=hv;have I1:Inv X pins Y H { s with heap:=h',toks:=tk }:=I.turned (fun b o hb e=>kk b o (by simpa using hb) e) f0 f1 f3 f4 f5;exact ⟨_,rfl,go_of (s:={ s with heap:=h',toks:=tk }) (n:="range_iterator") st' rfl rfl (by decide) ⟨.int (lo+i*st),H,I1,⟨t,rfl⟩,⟨rfl,rfl⟩,st',fun b hb=>(hf b hb).1⟩⟩
 done:=by
  intro X hP hw hK hc i pins s Y H E I hf st hg;subst hP hw hK;obtain ⟨f0,f1,f2,f3,f4,f5⟩:=hf it (by simp);exact wpAny_pyNext_range_end (I.ok.hd hc) st (by have:n<=i:=hg;lia) fun h' eb=>⟨rfl,I.turned (t':=s.toks) (fun b o hb e=>eb b o hb e) f0 f1 f3 f4 f5⟩
 self:=fun _ _ _ _ _ st h=>wpAny_pyIter_rangeiter st h
theorem aeQ:∀ {vs:List Value} {zs:List Str},StrsAre vs zs->∀ {j:Nat} {z:Str},zs[j]?=some z->∃ t,vs[j]?=some (.str z t)
 | _,_,.nil,_,_,h=>by simp at h
 | _,_,.cons _ _ _,0,_,h=>by simp at h;subst h;exact ⟨_,rfl⟩
 | _,_,.cons _ _ r,j+1,z,h=>by
  obtain ⟨t,q⟩:=aeQ r (j:=j) (z:=z) (by simpa using h);exact ⟨t,by simpa using q⟩
theorem oH{α β:Type}(f:α->β):∀ (l:List α) (i:Nat),(l.eraseIdx i).map f=(l.map f).eraseIdx i
 | [],_=>rfl
 | _::_,0=>rfl
 | x::l,i+1=>by
  show f x::(l.eraseIdx i).map f=f x::(l.map f).eraseIdx i;rw [oH f l i]
noncomputable def sV (td ty tx:TE):TE:=fun Y H Q=>td Y H fun x H1=>∃ a,x=.ref a/\eE H1 a/\ty Y H1 fun y H2=>tx Y H2 fun z H3=>∃ kvs k,H3 a=some (.dK kvs)/\kvs.length<sizeLine/\y=kV k/\
 (∀ v,valV kvs k=some v->Q v H3)/\(valV kvs k=none->Q z (A4 H3 a (.dK (putK kvs k z))))
section
variable {X:Cx} {o e f:Expr} {apos cpos:Pos} {td ty tx:TE} {pins:List (Addr×Obj)} {Y:St} {H:Hp} {s:Shared} {a:Addr} {A:Around} {E:Value->Shared->Prop}
theorem aoO{k:C3}{z:V}{r:Value}{Q:Value->Shared->Prop}(I:Inv X pins Y H s)(e:H a=some (.dK kvs))(hl:kvs.length<sizeLine)(ry:RelV (kV k) u)(rz:RelV z r)(h1:∀ v w' s',valV kvs k=some v->Inv X pins Y H s'->RelV v w'->Q w' s')(h2:∀ s',valV kvs k=none->Inv X pins Y (A4 H a (.dK (putK kvs k z))) s'->Q r s') :
  wpAny (model X.prog X.w) A (call (.builtin "dict.setdefault") [.ref a,u,r]) Q E s:=by
 obtain ⟨hz,hd,vs,rel,dd⟩:=dk_of I.hok e;have C1:=rel.length;refine call_meetsIn PySem.F.slot_dict_setdefault dd.typeIs PySem.F.entry_dict_setdefault (PySem.F.args_dict_setdefault_3 _ _ _) (kt_meets_setdefault (N8 X.prog X.w) a (kV_is ry) hd r) ⟨vs,dd,by lia,fun v hv=>?_,fun hn h' hm hs=>?_⟩
 .have:=rel.val k
  rw [hv] at this;cases fI:valV kvs k with
  | none=>rw [fI] at this;exact this.elim
  | some x=>rw [fI] at this;exact h1 x v _ fI (I.tok _) this
 .have:=rel.val k
  rw [hn] at this;cases fI:valV kvs k with
  | some x=>rw [fI] at this;exact this.elim
  | none=>
   have R8:(putK kvs k z).length<=sizeLine:=by rw [akD z fI,D1,W7];lia
   obtain ⟨ob,_,_,ho,_⟩:=id hm;exact h2 _ fI (sE (t':=s.toks+1) I (by rw [e];exact trivial) hs ⟨ob,ho⟩ (sF R8 hd (rel.put k rz) hm))
theorem ak9(ho:PE X o td)(he:PE X e ty)(hf:PE X f tx)(m:M2 X o "setdefault" apos e f cpos):PE X (.Call (.Attribute o "setdefault" apos) [e,f] [] cpos) (sV td ty tx):=by
 intro pins s Y H Q I h;refine wpAny_Call_method m.base m.few m.line PySem.F.plainAttrs_dict PySem.F.slot_dict_setdefault PySem.F.type_dict_setdefault (C4 (ho pins s Y H _ I h) fun u s1 ⟨x,H1,I1,rx,a,ex,d,q1⟩=>?_);subst ex;obtain rfl:u=Value.ref a:=rx;obtain ⟨t1,t2,_⟩:=sH I1 d;refine ⟨t1,t2,?_⟩;rw [m.trees];refine Calls.callWith_builtin rfl (Calls.evalArgs_plain (Calls.spliced_cons (C4 (he pins s1 Y H1 _ I1 q1) fun iv s2 ⟨y,H2,I2,ry,q2⟩=>
  Calls.spliced_cons (C4 (hf pins s2 Y H2 _ I2 q2) fun fv s3 ⟨z,H3,I3,rz,kvs,k,e3,hl,ey,q3,q4⟩=>Calls.spliced_nil ?_))))
 subst ey;exact aoO I3 e3 hl ry rz (fun v w' s4 hv I4 rw'=>⟨v,H3,I4,rw',q3 v hv⟩) fun s4 hn I4=>⟨z,_,I4,rz,q4 hn⟩
theorem ala(ho:QE X o td)(he:QE X e ty)(hf:QE X f tx)(h1:K2 e=false:=by rfl)(h2:K2 f=false:=by rfl)(G1:attributeBase o "setdefault" X.env (eval o X.env)=eval o X.env:=by rfl)(G2:(apos.endLine==cpos.line)=true:=by rfl):QE X (.Call (.Attribute o "setdefault" apos) [e,f] [] cpos) (sV td ty tx):=
 ⟨ak9 ho.out he.out hf.out ⟨G1,by rw [N3 h1,N3 h2];rfl,G2,by rw [N3 h1,N3 h2];rfl⟩⟩
theorem alb:sV td ty tx Y H Q=td Y H fun x H1=>∃ a,x=.ref a/\eE H1 a/\ty Y H1 fun y H2=>tx Y H2 fun z H3=>∃ kvs k,H3 a=some (.dK kvs)/\kvs.length<sizeLine/\y=kV k/\
 (∀ v,valV kvs k=some v->Q v H3)/\(valV kvs k=none->Q z (A4 H3 a (.dK (putK kvs k z)))):=rfl
end
section
variable {X:Cx} {tg:Expr}
noncomputable def m4 (i j k:Int):Nat:=(if i<j then (j-i-1) / k+1 else 0).toNat
noncomputable def iRng3 (ta:TA):TI:=fun Y H R=>ta Y H fun vs H1=>∃ i j k:Int,vs=[.int i,.int j,.int k]/\(-(2 ^ 60)<=i/\i<2 ^ 60/\-(2 ^ 60)<=j/\j<2 ^ 60/\0<k/\k<1000000)/\R (Itr3 i k (m4 i j k)) H1
theorem agN{a b c:Int}(h1:-(2 ^ 60)<=a)(h2:a<2 ^ 60)(h3:-(2 ^ 60)<=b)(h4:b<2 ^ 60)(h5:0<c)(h6:c<1000000):Builtin.Range.small a b c=true:=by
 have hq:0<=(b-a-1) / c\/¬ a<b:=by
  by_cases h:a<b
  .exact .inl (Int.ediv_nonneg (by lia) (by lia))
  .exact .inr h
 have hq2:(b-a-1) / c<=b-a-1\/¬ a<b:=by
  by_cases h:a<b
  .exact .inl (Int.ediv_le_self _ (by lia))
  .exact .inr h
 have hm:(b-a-1) / c*c<=b-a-1:=Int.ediv_mul_le _ (by lia);have hc:0<=(b-a-1) / c->0<=(b-a-1) / c*c:=fun h=>Int.mul_nonneg h (by lia)
 unfold Builtin.Range.small Builtin.Range.rangeSize;simp only [Builtin.Range.rangeFitsLong,W9,Bool.or_eq_true,decide_eq_true_eq,beq_iff_eq,show c > 0 from h5,if_true]
 split <;> lia
theorem ajq{a b c:Expr}{p pos:Pos}(hg:Gl X "range")(hm:X.mg "range"=none)(ha:PA X [a,b,c] ta)(h1:K2 a=false)(h2:K2 b=false)(h3:K2 c=false):PI X tg (.Call (.Name "range" p) [a,b,c] [] pos) (iRng3 ta):=by
 intro pins s Y H R I h;refine Call_ (bY I hg hm boot_range (PyProof.Rows.callWith_type1 (C4 (ha pos pins s Y H _ I h) fun us s1 ⟨vs,H1,I1,r1,q1⟩=>?_) (N3 h1) (by rw [N3 h2,N3 h3];rfl)));obtain ⟨i,j,k,rfl,⟨b1,b2,b3,b4,b5,b6⟩,q⟩:=q1
 cases r1 with
 | cons r rr=>
 cases rr with
 | cons r' rr=>
 cases rr with
 | cons r'' rr=>
 cases rr
 obtain ⟨t,rfl⟩:=r;obtain ⟨t',rfl⟩:=r';obtain ⟨t'',rfl⟩:=r'';refine call_range_3 (by lia) ?_ (.inl (PyProof.noPylong_small (by lia)));refine wpAny_pyIter_range (IsRange.new ..) (agN b1 b2 b3 b4 b5 b6) ?_;have I2:Inv X pins Y H1 { s1 with heap:=s1.heap.push { cls:=.type "range",data:=.fields #[.int i t,.int j t',.int k t''] },toks:=s1.toks }:=I1.kept fun b o e=>Heap.get?_push_of_some _ e
 refine ⟨(s1.heap.push { cls:=.type "range",data:=.fields #[.int i t,.int j t',.int k t''] }).objs.size,[(s1.heap.push { cls:=.type "range",data:=.fields #[.int i t,.int j t',.int k t''] }).objs.size],_,_,H1,rfl,
  I2.kept (t':=s1.toks) fun b o e=>Heap.get?_push_of_some _ e,agM _ i k (m4 i j k),?_,fun b hb=>?_,q⟩
 .have e1:i+((0:Nat):Int)*k=i:=by simp
  have e2:((m4 i j k:Nat):Int)-((0:Nat):Int)=Builtin.Range.rangeSize i j k:=by
   unfold m4 Builtin.Range.rangeSize;rw [if_pos b5]
   split
   .have:0<=(j-i-1) / k:=Int.ediv_nonneg (by lia) (by lia)
    lia
   .rfl
  show IsRangeIter _ _ (i+((0:Nat):Int)*k) (((m4 i j k:Nat):Int)-((0:Nat):Int)) k;rw [e1,e2];exact Heap.get?_push_size _ rfl
 .have e:b=(s1.heap.push { cls:=.type "range",data:=.fields #[.int i t,.int j t',.int k t''] }).objs.size:=by simpa using hb
  subst e;exact I2.fpOk (C5 _) (I2.hok.fresh (C5 _))
theorem qi_r3{a b c:Expr}{p pos:Pos}(hm:X.mg "range"=none)(ha:QA X [a,b,c] ta)(hg:Gl X "range":=by rfl)(h1:K2 a=false:=by rfl)(h2:K2 b=false:=by rfl)(h3:K2 c=false:=by rfl):QI X tg (.Call (.Name "range" p) [a,b,c] [] pos) (iRng3 ta):=⟨ajq hg hm ha.out h1 h2 h3⟩
end
theorem alc{R:It->Hp->Prop} : iRng3 ta Y H R=ta Y H fun vs H1=>∃ i j k:Int,vs=[.int i,.int j,.int k]/\(-(2 ^ 60)<=i/\i<2 ^ 60/\-(2 ^ 60)<=j/\j<2 ^ 60/\0<k/\k<1000000)/\R (Itr3 i k (m4 i j k)) H1:=rfl
section
variable {X:Cx} {pins:List (Addr×Obj)} {Y:St} {H:Hp} {s:Shared} {a:Addr}
theorem Inv.swap{u u':HO}(I:Inv X pins Y H s)(e:H a=some u)(n1:∀ xs,u≠.tup xs)(n2:∀ x,u≠.own x)(n3:∀ ps,u≠.tbl ps)(n4:∀ o v,X.H₀ a≠some (.frz o v))(new:ObjOk X.prog X.w H s.heap a u'):Inv X pins Y (A4 H a u') s:=by
 have ne:∀ b,H b=none->b≠a:=fun b h q=>by rw [q,e] at h;cases h
 have own:∀ c x,H c=some (.own x)->A4 H a u' c=some (.own x):=fun c x q=>by
  rw [A9 (fun z=>by rw [z,e] at q;exact n2 x (Option.some.inj q))];exact q
 have tup:∀ c xs,H c=some (.tup xs)->A4 H a u' c=some (.tup xs):=fun c x q=>by
  rw [A9 (fun z=>by rw [z,e] at q;exact n1 x (Option.some.inj q))];exact q
 refine ⟨I.ok,I.os,I.bare,⟨I.base.keep,I.base.slot,fun b o h1 h2 h3=>?_,I.base.there,fun b xs h=>tup b xs (I.base.tups b xs h),fun b o v h=>?_,fun b ps h=>?_⟩,I.loc,I.cell,?_,fun x c h=>?_,fun p hp=>?_,fun b v h=>?_,I.len⟩
 .have:=I.base.free b o h1 h2 h3
  rw [A9 (ne b this)];exact this
 .rw [A9 (fun z=>n4 o v (by rw [<- z];exact h))];exact I.base.frzs b o v h
 .obtain ⟨m,q⟩:=I.base.tbls b ps h;exact ⟨m,by rw [A9 (fun z=>by rw [z,e] at q;exact n3 _ (Option.some.inj q))];exact q⟩
 .rw [A9 (ne _ I.free)];exact I.free
 .rw [A9 (ne _ (I.freeC x c h))];exact I.freeC x c h
 .obtain ⟨h1,h2,h3⟩:=I.pin p hp;exact ⟨h1,by rw [A9 (ne _ h2)];exact h2,h3⟩
 .by_cases hb:b=a
  .subst hb;rw [A5] at h;cases h;exact new.stay (fun _ _ _ q=>q) (fun c q=>own c _ q) fun c xs q=>tup c xs q
  .rw [A9 hb] at h;exact (I.hok b v h).stay (fun _ _ _ q=>q) (fun c q=>own c _ q) fun c xs q=>tup c xs q
end
noncomputable def kE (a:Addr) (o:Obj) (kvs:List (C3×V)):It:=
 ⟨fun i H=>H a=some (.frz o (.dK kvs))/\i<kvs.length,fun i H x H'=>H'=H/\∃ k v,kvs[i]?=some (k,v)/\x=kV k,fun i H=>H a=some (.frz o (.dK kvs))/\kvs.length<=i⟩
theorem ajr{P:Program}{w:World}(a it:Addr)(o:Obj)(kvs:List (C3×V))(vs:List (C3×Value))(ep:Nat)(N6:∀ h:Heap,h.get? a=some o->h.DictAt (N8 P w) a vs ep)(rel:KV kvs vs):Turn P w K tg (kE a o kvs) [it] it (fun i h=>h.IsKeyIter it a i vs.length ep) where
 mem:=by simp
 obj:=fun i h st b hb=>by
  have e:b=it:=by simpa using hb
  subst e;obtain ⟨o,e,c,d⟩:=st;exact ⟨o,e,fun v z=>by rw [d] at z;cases z⟩
 keep:=fun i h h' st k=>st.at fun o e=>k it (by simp) o e
 item:=by
  intro X hP hw hK hc i pins s Y H E I hf st hg;subst hP hw hK;obtain ⟨f0,f1,f2,f3,f4,f5⟩:=hf it (by simp);obtain ⟨wN,lZ⟩:=hg;have hd:=N6 s.heap (I.hok a _ wN).1;have mB:i<vs.length:=by rw [<- rel.length];exact lZ
  refine wpAny_pyNext_dict_item st hd (k:=vs[i].1) (v:=vs[i].2) (by rw [N0 mB]) fun key h' e8 mC qE=>?_
  have I1:Inv X pins Y H { s with heap:=h' }:=I.turned (t':=s.toks) (fun b o hb e=>(qE.2 b hb).trans e) f0 f1 f3 f4 f5;obtain ⟨oi,e,c,d⟩:=id mC;have hk:kvs[i].1=vs[i].1:=by
   have:=congrArg (·[i]?) rel.keys
   simpa [lZ,mB] using this
  have rk:RelV (kV kvs[i].1) key:=by
   rw [hk];have e8:keyIs vs[i].1 key=true:=e8;generalize vs[i].1=kk at e8
   rcases j9 e8 with ⟨j,t,rfl,rfl⟩ | ⟨x,t,rfl,rfl⟩
   .exact ⟨t,rfl⟩
   .exact ⟨t,rfl⟩
  exact ⟨key,rfl,go_of (s:={ s with heap:=h' }) e c d (by decide) ⟨kV kvs[i].1,H,I1,rk,⟨rfl,kvs[i].1,kvs[i].2,by rw [N0 lZ],rfl⟩,mC,fun b hb=>(hf b hb).1⟩⟩
 done:=by
  intro X hP hw hK hc i pins s Y H E I hf st hg;subst hP hw hK;obtain ⟨f0,f1,f2,f3,f4,f5⟩:=hf it (by simp);obtain ⟨wN,lZ⟩:=hg;have hd:=N6 s.heap (I.hok a _ wN).1;exact wpAny_pyNext_dict_end (I.ok.hd hc) st hd (by rw [List.getElem?_eq_none_iff,<- rel.length];exact lZ) fun h' eb=>⟨rfl,I.turned (t':=s.toks) (fun b o hb e=>eb b o hb e) f0 f1 f3 f4 f5⟩
 self:=fun _ _ _ _ _ st h=>wpAny_pyIter_keyiter st h
noncomputable def Ends.thaw (D:Ends) (a:Addr) (kvs:List (C3×V)):Ends where
 nx:=fun Y H=>(∃ o,H a=some (.frz o (.dK kvs)))/\D.nx Y (A4 H a (.dK kvs))
 rt:=fun v H=>(∃ o,H a=some (.frz o (.dK kvs)))/\D.rt v (A4 H a (.dK kvs))
noncomputable def tForD (tl:TE) (g:TG) (tb:TS):TS:=fun D Y H=>tl Y H fun x H1=>∃ a kvs,x=.ref a/\H1 a=some (.dK kvs)/\∀ o,ForIt (kE a o kvs) g tb (D.thaw a kvs) Y (A4 H1 a (.frz o (.dK kvs)))
theorem ang{l:Expr}{body:List Stmt}{g:TG}{pos:Pos}(hp:PassesOwn (model X.prog X.w) X.A X.env X.xe)(hc:X.calm=true)(hl:PE X l tl)(hg:PG X tg g)(hb:X0 X body tb)(hs:∀ x,foldedSetIterable l X.env x=pure x):PS X (.For tg l body [] pos) (tForD tl g tb):=by
 intro pins s Y H D I h;refine wpAny_For (C4 (hl pins s Y H _ I h) fun v s1 ⟨x,H1,I1,r1,q1⟩=>?_) hs;obtain ⟨a,kvs,rfl,e,q⟩:=q1
 cases r1
 obtain ⟨z,hd,vs,rel,dd⟩:=dk_of I1.hok e;obtain ⟨ep,N6⟩:=dd.dictAt;obtain ⟨o,es,ho,cW⟩:=id N6;refine wpAny_pyIter_dict hd N6 ?_;have NF:∀ o' v',X.H₀ a≠some (.frz o' v'):=fun o' v' z=>by
  have:=I1.base.frzs _ _ _ z
  rw [e] at this;cases this
 have I1':Inv X pins Y H1 { s1 with heap:=s1.heap.push { cls:=.type "dict_keyiterator",data:=.fields #[.ref a,.int 0 0,.int vs.length 0,.int ep 0] } }:=I1.kept (t':=s1.toks) fun b u e=>Heap.get?_push_of_some _ e
 have I2:=I1'.swap (u':=.frz o (.dK kvs)) e (fun _ q=>by cases q) (fun _ q=>by cases q) (fun _ q=>by cases q) NF ⟨Heap.get?_push_of_some _ ho,I1'.hok a _ e⟩;have thaw:∀ {σ':St} {H':Hp} {s':Shared},Inv X pins σ' H' s'->(∃ o,H' a=some (.frz o (.dK kvs)))->Inv X pins σ' (A4 H' a (.dK kvs)) s':=fun {σ' H' s'} I' ⟨o',e'⟩=>
  I'.swap e' (fun _ q=>by cases q) (fun _ q=>by cases q) (fun _ q=>by cases q) NF (I'.hok a _ e').2
 have T:Turn X.prog X.w X.K tg (kE a o kvs) [s1.heap.objs.size] s1.heap.objs.size (fun i h=>h.IsKeyIter s1.heap.objs.size a i vs.length ep):=ajr a _ o kvs vs ep (fun h e=>⟨o,es,e,cW⟩) rel;have n8:A4 H1 a (.frz o (.dK kvs)) s1.heap.objs.size=none:=by rw [A9 (fun q=>by rw [<- q,I1.fresh] at e;cases e)];exact I1.fresh
 have f2:∀ b∈[s1.heap.objs.size],FpOk X pins (A4 H1 a (.frz o (.dK kvs))) b:=fun b hb=>by
  have e:b=s1.heap.objs.size:=by simpa using hb
  subst e;exact I1.fpOk (C5 _) n8
 obtain ⟨W,⟨m0,w0⟩,turn⟩:=q o;have stat:∀ {H':Hp},(∀ b∈[s1.heap.objs.size],H' b=none)->∀ b∈[s1.heap.objs.size],FpOk X pins H' b:=fun hn b hb=>⟨hn b hb,(f2 b hb).2⟩
 refine codeAny_forLoop_any (fun n s'=>∃ i σ' H',Inv X pins σ' H' s'/\s'.heap.IsKeyIter s1.heap.objs.size a i vs.length ep/\(∀ b∈[s1.heap.objs.size],H' b=none)/\W i n σ' H') ?_ m0 ⟨0,Y,_,I2,⟨_,Heap.get?_push_size _ rfl,rfl,rfl⟩,fun b hb=>(f2 b hb).1,w0⟩;rintro n s3 ⟨i,σ3,H3,I3,cS,lK,w3⟩
 rcases turn i n σ3 H3 w3 with ⟨stop,qn⟩ | ⟨go,N,hN,step⟩
 .refine wpAny_passesOwn hp (C4 (T.done X rfl rfl rfl hc i pins s3 σ3 H3 X.xe I3 (stat lK) cS stop) fun r s4 ⟨hr,I4⟩=>?_);subst hr;exact wpAny_execs_nil ⟨σ3,_,thaw I4 qn.1,qn.2⟩
 .refine wpAny_passesOwn hp (C4 (T.item X rfl rfl rfl hc i pins s3 σ3 H3 X.xe I3 (stat lK) cS go) fun r s4 ⟨u,hr,h4⟩=>?_);subst hr;refine wpAny_passesOwn hp (C4 h4 fun _ s5 ⟨x,H5,I5,r5,y5,fA,vZ⟩=>?_);have I5':=I5.pinned (stat vZ) (T.obj _ _ fA);refine wpAny_passesOwn hp (C4 (hg _ s5 σ3 H5 x u _ I5' r5 (step x H5 y5)) fun _ s6 ⟨σ6,H6,I6,q6⟩=>?_);refine wpAny_passesOwn hp (C4 (hb _ s6 σ6 H6 _ I6 q6) fun f s7 q7=>?_);have again:∀ {σ7:St} {H7:Hp},Inv X (pins++gB [s1.heap.objs.size] s5.heap) σ7 H7 s7->N σ7 H7->∃ m,m<n/\∃ i σ' H',Inv X pins σ' H' s7/\s7.heap.IsKeyIter s1.heap.objs.size a i vs.length ep/\(∀ b∈[s1.heap.objs.size],H' b=none)/\W i m σ' H':=fun {σ7 H7} I7 n7=>by
   obtain ⟨m',hm,w7⟩:=hN σ7 H7 n7;refine ⟨m',hm,i+1,σ7,H7,I7.unpinned,T.keep _ _ _ fA fun b hb o e=>(I7.pin (b,o) (O0 _ (O0 _ (gC hb e)))).1,fun b hb=>?_,w7⟩;obtain ⟨o,e,d⟩:=T.obj _ _ fA b hb;exact (I7.pin (b,o) (O0 _ (O0 _ (gC hb e)))).2.1
  cases f with
  | next=>obtain ⟨σ7,H7,I7,n7⟩:=q7;exact again I7 n7
  | cont=>obtain ⟨σ7,H7,I7,n7⟩:=q7;exact again I7 n7
  | brk=>obtain ⟨σ7,H7,I7,q7⟩:=q7;exact ⟨σ7,_,thaw I7.unpinned q7.1,q7.2⟩
  | ret v=>obtain ⟨x7,σ7,H7,I7,r7,q7⟩:=q7;exact ⟨x7,σ7,_,thaw I7.unpinned q7.1,r7,q7.2⟩
theorem sW{l:Expr}{body:List Stmt}{g:TG}{pos:Pos}(hp:PassesOwn (model X.prog X.w) X.A X.env X.xe)(hl:QE X l tl)(hg:QG X tg g)(hb:QSs X body tb)(hc:X.calm=true:=by rfl)(hs:∀ x,foldedSetIterable l X.env x=pure x:=by intro _;rfl):QS X (.For tg l body [] pos) (tForD tl g tb):=⟨ang hp hc hl.out hg.out hb.out hs⟩
theorem anh{g:TG} : tForD tl g tb D Y H=tl Y H fun x H1=>∃ a kvs,x=.ref a/\H1 a=some (.dK kvs)/\∀ o,ForIt (kE a o kvs) g tb (D.thaw a kvs) Y (A4 H1 a (.frz o (.dK kvs))):=rfl
theorem forD{g:TG}(Pv:Nat->St->Hp->Prop)(h0:Pv 0 Y H)(hl:∀ i Y H,Pv i Y H->H a=some (.frz o (.dK kvs)))(hs:∀ i k v Y H,kvs[i]?=some (k,v)->Pv i Y H->g (kV k) Y H fun σ2 H2=>tb { D.thaw a kvs with nx:=Pv (i+1),ct:=Pv (i+1),bk:=(D.thaw a kvs).nx } σ2 H2)(hd:∀ Y H,Pv kvs.length Y H->D.nx Y (A4 H a (.dK kvs))):ForIt (kE a o kvs) g tb (D.thaw a kvs) Y H:=by
 refine ⟨fun i m Y H=>m=kvs.length-i/\i<=kvs.length/\Pv i Y H,⟨kvs.length,by simp,K1 _,h0⟩,?_⟩;rintro i m Y H ⟨rfl,hi,p⟩;have e:=hl i Y H p
 by_cases D0:i<kvs.length
 .refine .inr ⟨⟨e,D0⟩,Pv (i+1),fun σ' H' p'=>⟨_,by lia,rfl,D0,p'⟩,fun v H' y=>?_⟩;obtain ⟨rfl,k,v',hk,rfl⟩:=y;exact hs i k v' Y _ hk p
 .have e2:i=kvs.length:=by lia
  subst e2;exact .inl ⟨⟨e,C5 _⟩,⟨o,e⟩,hd Y H p⟩
end L2
set_option maxRecDepth 100000
namespace L2
open PySem PySem.Spec PyProof.Rows
noncomputable def R1 (row:List Str):List (Str×Str):=row.zip row.tail
noncomputable def edges (rows:List (List Str)):List (Str×Str):=rows.flatMap R1
noncomputable def F7 (E:List (Str×Str)) (p:Str):List Str:=(E.filter fun e=>decide (e.1=p)).map (·.2)
noncomputable def G4 (E:List (Str×Str)) (line:List Str) (q:Str):Nat:=E.countP fun e=>decide (e.2=q) && !decide (e.1∈line)
noncomputable def cntIn (E:List (Str×Str)) (S:List Str) (q:Str):Nat:=E.countP fun e=>decide (e.2=q)&&decide (e.1∈S)
theorem ald(E:List (Str×Str))(a b p:Str):F7 (E++[(a,b)]) p=if a=p then F7 E p++[b] else F7 E p:=by
 unfold F7;rw [V1,E4]
 by_cases h:a=p
 .rw [if_pos h,bN (by simpa using h)];rfl
 .rw [if_neg h,bO (by simpa using h)];simp
theorem af1(E:List (Str×Str))(p q:Str):(F7 E p).count q=E.countP fun e=>decide (e.2=q)&&decide (e.1=p):=by
 induction E with
 | nil=>rfl
 | cons e E ih=>
  unfold F7 at ih ⊢
  by_cases h:e.1=p
  .rw [bN (by simpa using h),G6,List.count_cons,ih,bQ]
   by_cases h2:e.2=q
   .simp [h,h2]
   .simp [h,h2]
  .rw [bO (by simpa using h),ih,bQ];simp [h]
theorem ah6{E:List (Str×Str)}{p:Str}(h:p∉S):cntIn E (S++[p]) q=cntIn E S q+(F7 E p).count q:=by
 rw [af1];unfold cntIn
 induction E with
 | nil=>rfl
 | cons e E ih=>
  rw [bQ,bQ,bQ,ih]
  by_cases h2:e.2=q
  .by_cases h1:e.1=p
   .have:e.1∉S:=by rw [h1];exact h
    simp [h2,h1,h];lia
   .by_cases h3:e.1∈S
    .simp [h2,h1,h3];lia
    .simp [h2,h1,h3]
  .simp [h2]
theorem ahu{E:List (Str×Str)}{p:Str}(h:p∉line):G4 E line q=G4 E (line++[p]) q+(F7 E p).count q:=by
 rw [af1];unfold G4
 induction E with
 | nil=>rfl
 | cons e E ih=>
  rw [bQ,bQ,bQ,ih]
  by_cases h2:e.2=q
  .by_cases h1:e.1=p
   .simp [h2,h1,h];lia
   .by_cases h3:e.1∈line
    .simp [h2,h1,h3]
    .simp [h2,h1,h3];lia
  .simp [h2]
theorem ajs{E:List (Str×Str)}(h:∀ e∈E,e.1∈S)(q:Str):cntIn E S q=G4 E [] q:=by
 unfold cntIn G4;refine List.countP_congr fun e he=>?_
 simp [h e he]
theorem ajt(E:List (Str×Str))(q:Str):cntIn E [] q=0:=by
 unfold cntIn
 simp
theorem cnt_zero{E:List (Str×Str)} : G4 E line q=0↔∀ e∈E,e.2=q->e.1∈line:=by
 unfold G4;rw [List.countP_eq_zero]
 constructor
 .intro h e he h2
  have:=h e he
  simpa [h2] using this
 .intro h e he
  by_cases h2:e.2=q
  .simp [h2,h e he h2]
  .simp [h2]
noncomputable def nextP (E:List (Str×Str)) (ts pre:List Str):Option Str:=(ts.filter fun p=>!decide (p∈pre)).find? fun p=>decide (G4 E pre p=0)
noncomputable def S9 (E:List (Str×Str)) (ts line:List Str):Prop:=∀ pre q post,line=pre++q::post->nextP E ts pre=some q
theorem S9.nil(E:List (Str×Str))(ts:List Str):S9 E ts []:=fun pre q post h=>by
 have:=congrArg X9 h
 simp at this
theorem S9.snoc{E:List (Str×Str)}{p:Str}(r:S9 E ts line)(h:nextP E ts line=some p):S9 E ts (line++[p]):=fun pre q post e=>by
 rcases List.append_eq_append_iff.mp e with ⟨m,h1,h2⟩ | ⟨m,h1,h2⟩
 .cases m with
  | nil=>
   rw [L7] at h1;rw [fY] at h2
   cases (List.cons.inj h2).1
   rw [h1];exact h
  | cons a m=>
   have:=congrArg X9 h2
   simp at this
 .cases m with
  | nil=>
   rw [L7] at h1;rw [fY] at h2
   cases (List.cons.inj h2).1
   rw [<- h1];exact h
  | cons a m=>
   rw [List.cons_append] at h2;have h3:=(List.cons.inj h2).1;exact r pre q m (by rw [h1,h3])
theorem gS{E:List (Str×Str)}{pre:List Str}(h:nextP E ts pre=some q):q∈ts/\q∉pre/\G4 E pre q=0:=by
 have h1:=List.mem_of_find?_eq_some h;have h2:=List.find?_some h;rw [O1] at h1;exact ⟨h1.1,by simpa using h1.2,by simpa using h2⟩
theorem S9.nodup{E:List (Str×Str)} : ∀ {line:List Str},S9 E ts line->line.Nodup:=by
 intro line r;rw [f9,q5];intro i j hi hj wO e;have e1:line=line.take j++line[j]::line.drop (j+1):=by rw [<- List.drop_eq_getElem_cons hj,q9]
 have:=(gS (r _ _ _ e1)).2.1
 exact this (V0.mpr ⟨i,by rw [K5];lia,by rw [List.getElem_take];exact e⟩)
theorem S9.sub{E:List (Str×Str)}(r:S9 E ts line)(h:q∈line):q∈ts:=by
 obtain ⟨pre,post,e⟩:=List.append_of_mem h;exact (gS (r pre q post e)).1
theorem ale{E:List (Str×Str)}{rank:Str->Nat}(hr:∀ e∈E,rank e.1<rank e.2)(hE:∀ e∈E,e.1∈ts)(hw:∃ p∈ts,p∉line):∃ q,nextP E ts line=some q:=by
 have key:∀ n p,rank p<=n->p∈ts->p∉line->∃ q∈ts,q∉line/\G4 E line q=0:=by
  intro n
  induction n with
  | zero=>
   intro p hp ht hl;refine ⟨p,ht,hl,cnt_zero.mpr fun e he h2=>?_⟩
   have:=hr e he
   rw [h2] at this;lia
  | succ n ih=>
   intro p hp ht hl
   by_cases hc:G4 E line p=0
   .exact ⟨p,ht,hl,hc⟩
   .have:∃ e∈E,e.2=p/\e.1∉line:=by
     refine Classical.byContradiction fun hn=>hc (cnt_zero.mpr fun e he h2=>Classical.byContradiction fun h3=>hn ⟨e,he,h2,h3⟩)
    obtain ⟨e,he,h2,h3⟩:=this;have h4:=hr e he;rw [h2] at h4;exact ih e.1 (by lia) (hE e he) h3
 obtain ⟨p,hp,hl⟩:=hw;obtain ⟨q,h1,h2,h3⟩:=key (rank p) p (C5 _) hp hl;cases h:nextP E ts line with
 | some q=>exact ⟨q,rfl⟩
 | none=>
  have:=List.find?_eq_none.mp h q (O1.mpr ⟨h1,by simpa using h2⟩)
  simp [h3] at this
theorem oI{E:List (Str×Str)}(nd:ts.Nodup)(r:S9 E ts line)(h:∀ p∈ts,p∈line):line.length=ts.length:=
 ((List.perm_ext_iff_of_nodup r.nodup nd).mpr fun a=>⟨r.sub,h a⟩).length_eq
theorem aeR(E:List (Str×Str))(pre:List Str):∀ ts:List Str,nextP E ts pre=ts.find? fun p=>!decide (p∈pre)&&decide (∀ e∈E,e.2=p->e.1∈pre)
 | []=>rfl
 | t::ts=>by
  have ih:=aeR E pre ts;unfold nextP at ih ⊢
  by_cases h:t∈pre
  .rw [bO (by simpa using h),t4,ih];simp [h]
  .rw [bN (by simpa using h),t4,t4,ih]
   by_cases h2:G4 E pre t=0
   .have:=cnt_zero.mp h2
    rw [decide_eq_true h2,decide_eq_true this];simp [h]
   .have:¬ ∀ e∈E,e.2=t->e.1∈pre:=fun z=>h2 (cnt_zero.mpr z)
    rw [decide_eq_false h2,decide_eq_false this];simp [h]
theorem ah7{e:Str×Str}(h:e∈R1 row):e.1∈row/\e.2∈row:=by
 unfold R1 at h;exact ⟨(List.of_mem_zip h).1,List.mem_of_mem_tail (List.of_mem_zip h).2⟩
theorem af2{rows:List (List Str)}{e:Str×Str}(h:e∈edges rows):e.1∈rows.flatten/\e.2∈rows.flatten:=by
 unfold edges at h;obtain ⟨row,h1,h2⟩:=V3.mp h
 have:=ah7 h2
 exact ⟨List.mem_flatten.mpr ⟨row,h1,this.1⟩,List.mem_flatten.mpr ⟨row,h1,this.2⟩⟩
noncomputable def C2 (ts:List Str) (f:Str->V):List (C3×V):=ts.map fun t=>(Sum.inr t,f t)
theorem sX(f:Str->V)(z:Str):∀ ts:List Str,((C2 ts f).any fun kv=>decide (kv.1=(Sum.inr z:C3)))=decide (z∈ts)
 | []=>by simp [C2]
 | y::ts=>by
  have ih:=sX f z ts;unfold C2 at ih ⊢
  rw [G6,z8,ih]
  by_cases e:y=z
  .subst e
   simp
  .have e1:decide ((Sum.inr y:C3)=Sum.inr z)=false:=decide_eq_false fun q=>e (Sum.inr.inj q)
   rw [e1,Bool.false_or]
   by_cases h:z∈ts
   .rw [decide_eq_true h,decide_eq_true (I0 _ h)]
   .rw [decide_eq_false h,decide_eq_false];intro q
    rcases D9.mp q with q | q
    .exact e q.symm
    .exact h q
theorem O4(f:Str->V)(z:Str):∀ ts:List Str,valV (C2 ts f) (Sum.inr z)=if z∈ts then some (f z) else none
 | []=>rfl
 | y::ts=>by
  have ih:=O4 f z ts;unfold C2 at ih ⊢
  rw [G6]
  by_cases e:y=z
  .subst e;rw [nP rfl,if_pos J7]
  .rw [aH (fun q=>e (Sum.inr.inj q)),ih]
   by_cases h:z∈ts
   .rw [if_pos h,if_pos (I0 _ h)]
   .rw [if_neg h,if_neg];intro q
    rcases D9.mp q with q | q
    .exact e q.symm
    .exact h q
theorem oJ{f:Str->V}(v:V)(h:z∈ts):putK (C2 ts f) (Sum.inr z:C3) v=C2 ts fun t=>if t=z then v else f t:=by
 unfold putK;rw [sX,decide_eq_true h,if_pos rfl];unfold C2;rw [g8];refine jG fun y _=>?_
 show (if (Sum.inr y:C3)=Sum.inr z then ((Sum.inr y:C3),v) else (Sum.inr y,f y))=((Sum.inr y:C3),if y=z then v else f y)
 by_cases e:y=z
 .rw [if_pos (by rw [e]),if_pos e]
 .rw [if_neg (fun q=>e (Sum.inr.inj q)),if_neg e]
theorem aN{f:Str->V}(v:V)(h:z∉ts):putK (C2 ts f) (Sum.inr z:C3) v=C2 (ts++[z]) fun t=>if t=z then v else f t:=by
 unfold putK;rw [sX,decide_eq_false h,if_neg K7];unfold C2;rw [E4]
 congr 1
 .refine jG fun y hy=>?_
  show _=((Sum.inr y:C3),if y=z then v else f y);rw [if_neg (fun e:y=z=>h (by rw [<- e];exact hy))]
 .simp
theorem T0{f g:Str->V}(h:∀ t∈ts,f t=g t):C2 ts f=C2 ts g:=by
 unfold C2;exact jG fun t ht=>by rw [h t ht]
theorem b0(f:Str->V)(ts:List Str):(C2 ts f).length=ts.length:=by unfold C2;rw [A7]
theorem alR{f:Str->V}{k:C3}{v:V}(h:(C2 ts f)[i]?=some (k,v)):∃ t,ts[i]?=some t/\k=Sum.inr t/\v=f t:=by
 unfold C2 at h;obtain ⟨t,h1,h2⟩:=G5 h;cases h2;exact ⟨t,h1,rfl,rfl⟩
theorem alf(f:Str->V)(ts:List Str):((C2 ts f).map fun kv=>kV kv.1)=ts.map V.str:=by
 unfold C2;rw [g8];rfl
structure DL(H0 H:Hp)(ts:List Str)(ad:Str->Addr)(F:Str->List Str):Prop where
 row:∀ t∈ts,H (ad t)=some (.lst ((F t).map V.str))
 inj:∀ t∈ts,∀ u∈ts,ad t=ad u->t=u
 new:∀ t∈ts,H0 (ad t)=none
theorem DL.same{ad:Str->Addr}{F:Str->List Str}(x:DL H0 H ts ad F)(s:Same H H'):DL H0 H' ts ad F:=⟨fun t h=>s _ _ (x.row t h),x.inj,x.new⟩
theorem DL.app{ad:Str->Addr}{F:Str->List Str}(x:DL H0 H ts ad F)(hz:z∈ts)(ys:List Str):DL H0 (A4 H (ad z) (.lst (ys.map V.str))) ts ad fun t=>if t=z then ys else F t:=by
 refine ⟨fun t ht=>?_,x.inj,x.new⟩;show _=some (HO.lst ((if t=z then ys else F t).map V.str))
 by_cases e:t=z
 .subst e;rw [A5,if_pos rfl]
 .rw [A9 (fun q=>e (x.inj t ht z hz q)),if_neg e];exact x.row t ht
theorem DL.more{ad:Str->Addr}{F:Str->List Str}(x:DL H0 H ts ad F)(hz:z∉ts)(np:H p=none)(n0:H0 p=none):DL H0 (A4 H p (.lst [])) (ts++[z]) (fun t=>if t=z then p else ad t) fun t=>if t=z then [] else F t:=by
 have ne:∀ t∈ts,t≠z:=fun t ht e=>hz (by rw [<- e];exact ht)
 have nad:∀ t∈ts,ad t≠p:=fun t ht e=>by have:=x.row t ht;rw [e,np] at this;cases this
 have cases':∀ t,t∈ts++[z]->(t∈ts/\t≠z)\/t=z:=fun t ht=>by
  rcases F6.mp ht with h | h
  .exact .inl ⟨h,ne t h⟩
  .exact .inr (E6.mp h)
 refine ⟨fun t ht=>?_,fun t ht u hu e=>?_,fun t ht=>?_⟩
 .show A4 H p (.lst []) (if t=z then p else ad t)=some (.lst ((if t=z then [] else F t).map V.str))
  rcases cases' t ht with ⟨h1,h2⟩ | rfl
  .rw [if_neg h2,if_neg h2,A9 (nad t h1)];exact x.row t h1
  .rw [if_pos rfl,if_pos rfl,A5];rfl
 .have e:(if t=z then p else ad t)=(if u=z then p else ad u):=e
  rcases cases' t ht with ⟨h1,h2⟩ | rfl <;> rcases cases' u hu with ⟨h3,h4⟩ | rfl
  .rw [if_neg h2,if_neg h4] at e;exact x.inj t h1 u h3 e
  .rw [if_neg h2,if_pos rfl] at e;exact absurd e (nad t h1)
  .rw [if_pos rfl,if_neg h4] at e;exact absurd e.symm (nad u h3)
  .rfl
 .show H0 (if t=z then p else ad t)=none
  rcases cases' t ht with ⟨h1,h2⟩ | rfl
  .rw [if_neg h2];exact x.new t h1
  .rw [if_pos rfl];exact n0
theorem alg(h:acc.Nodup)(z:Str):(dd acc z).Nodup:=by
 unfold dd
 split
 .exact h
 .rename_i hz
  rw [g7];refine ⟨h,by simp,fun a ha b hb e=>hz ?_⟩;rw [<- E6.mp hb,<- e];exact ha
theorem oK:∀ {zs acc:List Str},acc.Nodup->(E9 acc zs).Nodup
 | [],_,h=>h
 | z::zs,acc,h=>oK (zs:=zs) (alg h z)
theorem gT(zss:List (List Str)):(toldL zss).Nodup:=by
 unfold toldL;rw [nW];exact oK (by simp)
theorem m5(x:Str):∀ (zs acc:List Str),x∈E9 acc zs↔x∈acc\/x∈zs
 | [],acc=>by simp [E9]
 | z::zs,acc=>by
  show x∈E9 (dd acc z) zs↔_;rw [m5 x zs];unfold dd
  by_cases h:z∈acc
  .rw [if_pos h,D9]
   constructor
   .rintro (h1 | h1)
    .exact .inl h1
    .exact .inr (.inr h1)
   .rintro (h1 | rfl | h1)
    .exact .inl h1
    .exact .inl h
    .exact .inr h1
  .rw [if_neg h,F6,E6,D9,or_assoc]
theorem sY(x:Str)(zss:List (List Str)):x∈toldL zss↔x∈zss.flatten:=by
 unfold toldL;rw [nW,m5]
 simp
theorem ah8{zss:List (List Str)}{e:Str×Str}(h:e∈edges zss):e.1∈toldL zss/\e.2∈toldL zss:=⟨(sY _ _).mpr (af2 h).1,(sY _ _).mpr (af2 h).2⟩
theorem ah9{zss:List (List Str)}(h:zss[i]?=some zs):edges (zss.take (i+1))=edges (zss.take i)++R1 zs:=by
 rw [U0,h];unfold edges;rw [j1]
 simp
theorem sZ(zs:List Str):(R1 zs).length=min zs.length zs.tail.length:=by unfold R1;rw [List.length_zip]
theorem af3{x y:Str}(h1:zs[j]?=some x)(h2:zs.tail[j]?=some y):(R1 zs)[j]?=some (x,y):=by
 unfold R1;rw [List.getElem?_zip_eq_some];exact ⟨h1,h2⟩
theorem af4(zss:List (List Str)):(edges zss).length<=zss.flatten.length:=by
 induction zss with
 | nil=>exact C5 _
 | cons zs zss ih=>
  unfold edges at ih ⊢
  rw [Z5,D1,r8,D1,sZ];lia
theorem DL.put{ad:Str->Addr}{F:Str->List Str}(x:DL H0 H ts ad F){o u:HO}(hb:H0 b=some u):DL H0 (A4 H b o) ts ad F:=
 ⟨fun t ht=>by rw [A9 (fun e=>by have:=x.new t ht;rw [e,hb] at this;cases this)];exact x.row t ht,x.inj,x.new⟩
theorem DL.congr{ad:Str->Addr}{F G:Str->List Str}(x:DL H0 H ts ad F)(h:∀ t∈ts,F t=G t):DL H0 H ts ad G:=⟨fun t ht=>by rw [<- h t ht];exact x.row t ht,x.inj,x.new⟩
theorem DL.old{H00:Hp}{ad:Str->Addr}{F:Str->List Str}(x:DL H0 H ts ad F)(s:Same H00 H0):DL H00 H ts ad F:=⟨x.row,x.inj,fun t ht=>s.free (x.new t ht)⟩
theorem kF(nd:ts.Nodup)(h:ts[i]?=some z):z∉ts.take i:=fun hm=>by
 obtain ⟨hi,e⟩:=G9.mp h;obtain ⟨j,hj,e2⟩:=V0.mp hm;rw [K5] at hj;rw [List.getElem_take] at e2
 have:=(f9.mp nd)
 rw [q5] at this;exact this j i (by lia) hi (by lia) (e2.trans e.symm)
theorem L9{α:Type}{ts:List α}{z:α}(h:ts[i]?=some z):ts.take (i+1)=ts.take i++[z]:=by rw [U0,h];rfl
noncomputable def SameBut (d:Addr) (H H':Hp):Prop:=∀ b o,b≠d->H b=some o->H' b=some o
theorem SameBut.put{d q:Addr}{u:HO}(s:SameBut d H0 H)(n:H0 q=none):SameBut d H0 (A4 H q u):=fun b o hb h=>by rw [A9 (aE h n)];exact s b o hb h
theorem SameBut.thaw{d:Addr}{u:HO}(s:SameBut d H0 H)(h:H0 d=some u):Same H0 (A4 H d u):=fun b o hb=>by
 by_cases e:b=d
 .subst e;rw [A5,<- hb,h]
 .rw [A9 e];exact s b o e hb
theorem RowsAt.grow{q:Addr}{zss:List (List Str)}(R:RowsAt H0 H a rs zss)(S:Same H H')(hq:H q=none)(fB:H' q=some (.lst (zs.map V.str))):RowsAt H0 (A4 H' a (.lst (rs.map V.ref++[V.ref q]))) a (rs++[q]) (zss++[zs]):=by
 have nq:∀ r∈a::rs,r≠q:=fun r hr z=>by
  obtain ⟨o,e⟩:=R.live hr;rw [z,hq] at e;cases e
 obtain ⟨na,_⟩:=Q4.mp R.nd;refine ⟨⟨by rw [A5,E4];rfl,?_⟩,?_,?_,?_⟩
 .refine Paired.snoc (gM R.rows.row fun r hr zs h=>?_) ?_
  .rw [A9 (fun z:r=a=>na (by rw [<- z];exact hr))];exact S _ _ h
  .rw [A9 (nq a J7).symm];exact fB
 .show (a::(rs++[q])).Nodup;exact nQ R.nd fun h=>nq q h rfl
 .intro r hr
  rcases D9.mp hr with h | h
  .exact R.new r (by rw [h];exact J7)
  .rcases F6.mp h with h | h
   .exact R.new r (I0 _ h)
   .rw [E6.mp h];exact R.same.free hq
 .exact (R.same.trans S).put (R.new a J7)
noncomputable def spFol:Sp:=fun vs H Q _=>∃ (a:Addr) (rs:List Addr) (zss:List (List Str)),vs=[.ref a]/\IsRows H a rs zss/\zss.flatten.length<=100000/\
 ∀ (d:Addr) (ad:Str->Addr) (H':Hp),H d=none->Same H H'->H' d=some (.dK (C2 (toldL zss) fun t=>.ref (ad t)))->DL H H' (toldL zss) ad (F7 (edges zss))->Q (.ref d) H'
noncomputable def aju:Sp:=fun vs H Q _=>∃ (d:Addr) (ts:List Str) (ad:Str->Addr) (E:List (Str×Str)),vs=[.ref d]/\H d=some (.dK (C2 ts fun t=>.ref (ad t)))/\ts.Nodup/\ts.length<=100000/\E.length<=100000/\
 (∀ t∈ts,H (ad t)=some (.lst ((F7 E t).map V.str)))/\(∀ e∈E,e.1∈ts/\e.2∈ts)/\∀ c H',H c=none->Same H H'->H' c=some (.dK (C2 ts fun t=>.int (G4 E [] t:Nat)))->Q (.ref c) H'
noncomputable def orNon:Option Str->V
 | some z=>.str z
 | none=>.non
theorem af5:∀ {l m:List Str},l.Nodup->(∀ x∈l,x∈m)->l.length<=m.length
 | [],_,_,_=>K1 _
 | x::l,m,nd,h=>by
  obtain ⟨n1,n2⟩:=Q4.mp nd;have hx:=h x J7
  have:=af5 (l:=l) (m:=m.erase x) n2 fun y hy=>(List.mem_erase_of_ne (fun e=>n1 (by rw [<- e];exact hy))).mpr (h y (I0 _ hy))
  rw [nE hx] at this;have U6:=List.length_pos_of_mem hx;rw [F8];lia
noncomputable def ajv:Sp:=fun vs H Q _=>∃ (a:Addr) (rs:List Addr) (zss:List (List Str)) (rank:Str->Nat),vs=[.ref a]/\IsRows H a rs zss/\zss.flatten.length<=100000/\(∀ e∈edges zss,rank e.1<rank e.2)/\
 ∀ (l:Addr) (line:List Str) (H':Hp),H l=none->Same H H'->H' l=some (.lst (line.map V.str))->S9 (edges zss) (toldL zss) line->(∀ p∈toldL zss,p∈line)->Q (.ref l) H'
theorem SameBut.free{d:Addr}(s:SameBut d H0 H)(n:H p=none)(h:p≠d):H0 p=none:=by
 cases e:H0 p with
 | none=>rfl
 | some o=>
  have:=s p o h e
  rw [n] at this;cases this
theorem SameBut.same{d:Addr}(s:SameBut d H1 H2)(S:Same H H1)(n:H d=none):Same H H2:=fun b o h=>s b o (aE h n) (S b o h)
theorem SameBut.refl(d:Addr)(H:Hp):SameBut d H H:=fun _ _ _ h=>h
theorem SameBut.at{d:Addr}{o:HO}(s:SameBut d H H'):SameBut d H (A4 H' d o):=fun b u hb h=>by rw [A9 hb];exact s b u hb h
noncomputable def one (c:Nat):Str:=⟨#[c]⟩
noncomputable def two (c d:Nat):Str:=⟨#[c,d]⟩
noncomputable def i4 (i:Int):Nat:=(J9 SG i).getD 33
theorem SG_nd:SG.Nodup:=by decide +kernel
theorem oM{i:Int}(h0:0<=i)(h1:i<93):J9 SS.cps.toList i=some (i4 i)/\signB (i4 i)=true:=by
 obtain ⟨c,h2,h3⟩:=SS_at h0 h1;unfold i4;rw [SS_eq] at h2 ⊢
 rw [h2];exact ⟨rfl,h3⟩
theorem ajw{i j:Int}(h0:0<=i)(h1:i<93)(h2:0<=j)(h3:j<93)(h:i4 i=i4 j):i=j:=by
 have ei:((i.toNat:Nat):Int)=i:=by lia
 have ej:((j.toNat:Nat):Int)=j:=by lia
 have li:i.toNat<SG.length:=by rw [sP];lia
 have lj:j.toNat<SG.length:=by rw [sP];lia
 have a1:J9 SG i=some SG[i.toNat]:=by
  have:=P9 (xs:=SG) (j:=i.toNat) (v:=SG[i.toNat]) (by simp)
  rw [ei] at this;exact this
 have a2:J9 SG j=some SG[j.toNat]:=by
  have:=P9 (xs:=SG) (j:=j.toNat) (v:=SG[j.toNat]) (by simp)
  rw [ej] at this;exact this
 unfold i4 at h;rw [a1,a2] at h
 have:=(f9.mp SG_nd)
 rw [q5] at this
 rcases Nat.lt_trichotomy i.toNat j.toNat with z | z | z
 .exact absurd h (this _ _ li lj z)
 .lia
 .exact absurd h.symm (this _ _ lj li z)
noncomputable def stepL:List Int:=[1,2,5,94,187,1000,4001,8648]
theorem aoP{s:Int}(hs:s∈stepL){b k l:Int}(h0:0<=k)(h1:k<93)(h2:0<=l)(h3:l<93)(h:(b+k*s) % 8649 % 93=(b+l*s) % 8649 % 93):k=l:=by
 obtain ⟨t,q,e⟩:∃ t q:Int,s*t=93*q+1:=by
  have all:∀ s∈stepL,∃ p∈[((1:Int),(0:Int)),(47,1),(56,3),(1,1),(1,2),(4,43),(47,2022),(-1,-93)],s*p.1=93*p.2+1:=by decide
  obtain ⟨p,_,e⟩:=all s hs;exact ⟨p.1,p.2,e⟩
 rw [Int.emod_emod_of_dvd _ (by decide),Int.emod_emod_of_dvd _ (by decide)] at h;have d1:(93:Int) ∣ (k-l)*s:=by
  refine Int.dvd_of_emod_eq_zero ?_;rw [Int.sub_mul,show k*s-l*s=(b+k*s)-(b+l*s) by lia];exact Int.emod_eq_emod_iff_emod_sub_eq_zero.mp h
 have d2:(93:Int) ∣ (k-l)*s*t:=Int.dvd_mul_of_dvd_left d1;rw [Int.mul_assoc,e,Int.mul_add,Int.mul_one,Int.mul_left_comm] at d2;have d3:(93:Int) ∣ k-l:=(Int.dvd_add_right (Int.dvd_mul_right _ _)).mp d2;omega
noncomputable def b8 (b st sh:Int) (k:Nat):Str:=
 if sh=0\/(sh=1/\(k:Int) % 2=1) then one (i4 ((b+k*st) % 8649 % 93)) else two (i4 ((b+k*st) % 8649 / 93)) (i4 ((b+k*st) % 8649 % 93))
theorem ani{b st:Int}(hs:st∈stepL){l:Nat}(hk:k<93)(hl:l<93)(h:b8 b st sh k=b8 b st sh l):k=l:=by
 have key:(b+k*st) % 8649 % 93=(b+l*st) % 8649 % 93->k=l:=fun e=>by
  have:=aoP hs (k:=k) (l:=l) (by lia) (by lia) (by lia) (by lia) e
  lia
 have r1:∀ x:Int,0<=x % 93/\x % 93<93:=fun x=>by lia
 have lone:∀ c d e:Nat,one c≠two d e:=fun c d e q=>by
  have:=congrArg (fun z:Str=>z.cps.size) q
  exact absurd this (by show ¬ (1:Nat)=2;decide)
 have o1:∀ c d:Nat,one c=one d->c=d:=fun c d q=>by
  have:=congrArg (fun z:Str=>z.cps.toList) q
  simpa [one] using this
 have t1:∀ c d e f:Nat,two c d=two e f->d=f:=fun c d e f q=>by
  have:=congrArg (fun z:Str=>z.cps.toList) q
  have:[c,d]=[e,f]:=by simpa [two] using this
  simp at this;exact this.2
 unfold b8 at h
 split at h <;> split at h
 .exact key (ajw (r1 _).1 (r1 _).2 (r1 _).1 (r1 _).2 (o1 _ _ h))
 .exact absurd h (lone _ _ _)
 .exact absurd h.symm (lone _ _ _)
 .exact key (ajw (r1 _).1 (r1 _).2 (r1 _).1 (r1 _).2 (t1 _ _ _ _ h))
theorem ajx{b st:Int}(hs:st∈stepL)(hm:m<=93):((t7 m).map (b8 b st sh)).Nodup:=by
 rw [f9,List.pairwise_map];refine List.Pairwise.imp_of_mem (fun {x y} hx hy G3 e=>?_) (f9.mp List.nodup_range);rw [List.mem_range] at hx hy;exact G3 (ani hs (by lia) (by lia) e)
noncomputable def spPcs:Sp:=fun vs H Q _=>∃ c m:Int,vs=[.int c,.int m]/\0<=m/\m<=90/\
 ∀ l (ps:List Str) H',H l=none->Same H H'->H' l=some (.lst (ps.map V.str))->ps.length=m.toNat->ps.Nodup->(∀ z∈ps,X3 z=true)->Q (.ref l) H'
end L2
set_option maxRecDepth 100000
namespace L2
open PySem PySem.Spec PyProof.Rows
section
variable {X:Cx}
noncomputable def rAnyB (calm:Bool):List V->Hp->VK->Prop
 | [.ref p],H,Q=>∃ bs:List Bool,calm=true/\H p=some (.lst (bs.map V.bl))/\Q (.bl (bs.any id)) H
 | _,_,_=>False
theorem p_any:CallR X (.builtin "any") (rAnyB X.calm):=by
 intro pins s Y H xs us Q I r h
 match xs,h with
 | [.ref p],⟨bs,hc,hp,q⟩=>
  obtain ⟨u,rfl,rx⟩:=vals1 r
  cases rx
  obtain ⟨z,its,n,rv,hl,e⟩:=I.lstM hp;have pl:s.heap.IsList p its.toArray:=⟨_,e,rfl,n,rfl⟩
  refine call_any_walk (wpAny_pyIter_list pl ?_);have G3:p≠s.heap.objs.size:=N1 (Heap.lt_size e);have hk:∀ b o,s.heap.get? b=some o->(s.heap.push { cls:=.type "list_iterator",data:=.fields #[.ref p,.int 0 0] }).get? b=some o:=fun b o q=>Heap.get?_push_of_some _ q
  refine ⟨_,_,_,_,_,_,fun i=>(bs[i]?).getD false,rfl,Walks.list (show X.A.in1.handled=none from I.ok.hd hc) s.heap.objs.size p G3 its.toArray,⟨⟨_,Heap.get?_push_size _ rfl,rfl,rfl⟩,pl.at fun o q=>hk p o q⟩,?_,?_⟩
  .intro i v s' Q' E' hv hq;have pV:its[i]?=some v:=by simpa using hv
   have hb:∃ b,bs[i]?=some b/\v=.bool b:=by
    cases eb:(bs.map V.bl)[i]? with
    | none=>
     have:=rv.none_of eb
     rw [pV] at this
     cases this
    | some y=>
     obtain ⟨u,h1,h2⟩:=rv.get eb;rw [pV] at h1;cases h1;rw [V2] at eb;cases e3:bs[i]? with
     | none=>rw [e3] at eb;cases eb
     | some b=>
      rw [e3] at eb;cases eb;exact ⟨b,rfl,h2⟩
   obtain ⟨b,e1,rfl⟩:=hb;have hq:Q' ((bs[i]?).getD false) s':=hq;rw [e1] at hq;exact wpAny_truthy_bool hq
  .intro h' tk mD;have e1:(t7 its.toArray.size).any (fun i=>(bs[i]?).getD false)=bs.any id:=by
    have C1:its.toArray.size=bs.length:=by
     rw [K3,<- hl,A7]
    rw [C1,dS,List.any_eq_true,List.any_eq_true]
    constructor
    .rintro ⟨i,hi,hb⟩;rw [List.mem_range] at hi;rw [N0 hi,Option.getD_some] at hb;exact ⟨bs[i],List.getElem_mem hi,hb⟩
    .rintro ⟨b,hb,ht⟩;obtain ⟨i,hi,rfl⟩:=V0.mp hb;exact ⟨i,List.mem_range.mpr hi,by rw [N0 hi];exact ht⟩
   rw [e1];have I1:Inv X pins Y H { s with heap:=h',toks:=tk }:=I.kept fun b o q=>mD b o (by
    intro hm
    have:b=s.heap.objs.size:=by simpa using hm
    rw [this] at q;exact absurd (Heap.lt_size q) (j5 _)) (hk b o q)
   exact ⟨.bl _,H,I1,rfl,q⟩
theorem q_any(lT:X.calm=calm:=by rfl):QCall X (.builtin "any") (rAnyB calm):=by subst lT;exact ⟨p_any⟩
theorem any_r{cm:Bool} : rAnyB cm [.ref p] H Q=∃ bs:List Bool,cm=true/\H p=some (.lst (bs.map V.bl))/\Q (.bl (bs.any id)) H:=rfl
end
noncomputable def kG (l : Addr) : It :=
  ⟨fun i H => ∃ xs x, H l = some (.lst xs) /\ xs[i]? = some x,
   fun i H v H' => ∃ t xs x, H l = some (.lst xs) /\ xs[i]? = some x /\ H t = none /\ v = .ref t /\ H' = A4 H t (.tup [.int i, x]),
   fun i H => ∃ xs, H l = some (.lst xs) /\ xs.length <= i⟩
theorem ajy{P:Program}{w:World}{pos:Pos}(e it l:Addr)(G3:e≠it) :
  Turn P w K (.Tuple elts x1 pos) (kG l) [e,it] e (fun i h=>(∃ old,IsEnum h e it ((i:Nat):Int) old)/\h.IsListIter it l i) where
 mem:=by simp
 obj:=fun i h ⟨⟨old,he⟩,hi⟩ c hc=>by
  have q:c=e\/c=it:=by simpa using hc
  rcases q with rfl | rfl
  .exact ⟨_,he,fun v q=>by cases q⟩
  .obtain ⟨o,e,c,d⟩:=hi;exact ⟨o,e,fun v z=>by rw [d] at z;cases z⟩
 keep:=fun i h h' ⟨⟨old,he⟩,hi⟩ k=>⟨⟨old,k e (by simp) _ he⟩,hi.at fun o q=>k it (by simp) o q⟩
 item:=by
  intro X hP hw hK hc i pins s Y H E I hf ⟨⟨old,he⟩,hi⟩ hg;subst hP hw hK;obtain ⟨xs,x,e1,hx⟩:=hg;obtain ⟨its1,Z1,p1,_⟩:=I.list (E5.of (K:=X.K) e1);obtain ⟨u1,C7,r1⟩:=Z1.get hx;refine wpAny_pyNext_enum_item he hi p1.isList (x:=u1) (by simpa using C7) G3 fun h' b1 b2 b3 b4 b5=>⟨_,rfl,wpAny_letOwnedTupleGo_enum b1 fun h2' c1 c2=>?_⟩
  have x8:e<s.heap.objs.size:=Heap.lt_size he;have up:∀ c o,c≠e->h'.get? c=some o->h2'.get? c=some o:=fun c o hc q=>(c2.2 c hc).trans q
  have hT:=up _ _ (Nat.ne_of_gt x8) b3;have nT:∀ c∈[e,it],c≠s.heap.objs.size:=fun c hc=>by
   have q:c=e\/c=it:=by simpa using hc
   refine N1 ?_
   rcases q with rfl | rfl
   .exact x8
   .obtain ⟨o,q,_⟩:=hi;exact Heap.lt_size q
  refine ⟨.ref s.heap.objs.size,A4 H s.heap.objs.size (.tup [.int i,x]),I.turnNew (t':=s.toks+1) (ch:=[e,it]) hf (fun c u hc q=>?_) (C5 _) ⟨by show 2<=sizeLine;decide,[.int i s.toks,u1],.cons ⟨_,rfl⟩ (.cons r1 .nil),?_⟩,rfl,⟨_,xs,x,e1,hx,I.fresh,rfl,rfl⟩,
   ⟨⟨_,c1⟩,b2.at fun o q=>up _ o G3.symm q⟩,fun c hc=>by rw [A9 (nT c hc)];exact (hf c hc).1⟩
  .have q1:c≠e/\c≠it:=⟨fun q=>hc (by simp [q]),fun q=>hc (by simp [q])⟩
   exact up c u q1.1 (b5 c u q1.1 q1.2 q)
  .exact ⟨_,hT,rfl,_,rfl⟩
 done:=by
  intro X hP hw hK hc i pins s Y H E I hf ⟨⟨old,he⟩,hi⟩ hg;subst hP hw hK;obtain ⟨xs,e1,fH⟩:=hg;obtain ⟨its1,Z1,p1,_⟩:=I.list (E5.of (K:=X.K) e1);have q1:=Z1.length;obtain ⟨f0,f1,f2,f3,f4,f5⟩:=hf it (by simp);exact wpAny_pyNext_enum_end (I.ok.hd hc) he hi p1.isList (by simp;lia) fun h' eb=>⟨rfl,I.turned (t':=s.toks) (fun b o hb q=>eb b o hb q) f0 f1 f3 f4 f5⟩
 self:=fun _ _ _ _ _ st h=>by
  obtain ⟨⟨old,he⟩,_⟩:=st;exact wpAny_pyIter_enum he h
section
variable {X:Cx}
noncomputable def iEnum (ta:TA):TI:=fun Y H R=>ta Y H fun vs H1=>∃ (l:Addr) (xs:List V),vs=[.ref l]/\H1 l=some (.lst xs)/\R (kG l) H1
theorem anj{a:Expr}{p pos:Pos}(hg:Gl X "enumerate")(hm:X.mg "enumerate"=none)(ha:PA X [a] ta)(h1:K2 a=false:=by rfl) :
  PI X (.Tuple elts x1 tpos) (.Call (.Name "enumerate" p) [a] [] pos) (iEnum ta):=by
 intro pins s Y H R I h;refine Call_ (bY I hg hm boot_enumerate (PyProof.Rows.callWith_type1 (C4 (ha pos pins s Y H _ I h) fun us s1 ⟨vs,H1,I1,r1,q1⟩=>?_) (N3 h1) rfl));obtain ⟨l,xs,rfl,e1,q⟩:=q1;obtain ⟨u1,rfl,lX⟩:=vals1 r1
 cases lX
 obtain ⟨its1,Z1,p1,_⟩:=I1.list (E5.of (K:=X.K) e1);refine call_enumerate_list p1.isList fun h' z1 z2 z3 z4=>wpAny_pyIter_enum z1 ?_
 refine ⟨s1.heap.objs.size+1,[s1.heap.objs.size+1,s1.heap.objs.size],_,_,H1,rfl,I1.kept (t':=s1.toks) z4,ajy _ s1.heap.objs.size l (i3 (by lia)),⟨⟨_,z1⟩,z2⟩,fun b hb=>?_,q⟩;have cZ:s1.heap.objs.size<=b:=by
  have e:b=s1.heap.objs.size+1\/b=s1.heap.objs.size:=by simpa using hb
  rcases e with rfl | rfl
  .exact z9 _ _
  .exact C5 _
 exact I1.fpOk cZ (I1.hok.fresh cZ)
theorem kH{a:Expr}{p pos:Pos}(hm:X.mg "enumerate"=none)(ha:QA X [a] ta)(hg:Gl X "enumerate":=by rfl)(h1:K2 a=false:=by rfl) :
  QI X (.Tuple elts x1 tpos) (.Call (.Name "enumerate" p) [a] [] pos) (iEnum ta):=⟨anj hg hm ha.out h1⟩
end
theorem alh{R:It->Hp->Prop} : iEnum ta Y H R=ta Y H fun vs H1=>∃ (l:Addr) (xs:List V),vs=[.ref l]/\H1 l=some (.lst xs)/\R (kG l) H1:=rfl
theorem forE{l:Addr}{g:TG}(Pv:Nat->St->Hp->Prop)(h0:Pv 0 Y H)(hl:∀ i Y H,Pv i Y H->H l=some (.lst xs))(hs:∀ i x t Y H,xs[i]?=some x->Pv i Y H->H t=none->g (.ref t) Y (A4 H t (.tup [.int i,x])) fun σ2 H2=>tb { D with nx:=Pv (i+1),ct:=Pv (i+1),bk:=D.nx } σ2 H2)(hd:∀ Y H,Pv xs.length Y H->D.nx Y H):ForIt (kG l) g tb D Y H:=by
 refine ⟨fun i m Y H=>m=xs.length-i/\i<=xs.length/\Pv i Y H,⟨xs.length,by simp,K1 _,h0⟩,?_⟩;rintro i m Y H ⟨rfl,hi,p⟩;have e1:=hl i Y H p
 by_cases D0:i<xs.length
 .refine .inr ⟨⟨xs,xs[i],e1,by simp⟩,Pv (i+1),fun σ' H' p'=>⟨_,by lia,rfl,D0,p'⟩,fun v H' y=>?_⟩;obtain ⟨t,xs',x,f1,hx,ht,rfl,rfl⟩:=y;rw [e1] at f1;cases f1;exact hs i x t Y H hx p ht
 .have e:i=xs.length:=by lia
  subst e;exact .inl ⟨⟨xs,e1,by lia⟩,hd Y H p⟩
noncomputable def MO (P:Program) (w:World) (K:PySem.W.Frag) (mg:Str->Option Value) (base:Heap) (k:Nat) (C:Addr) (m:Str) (ps:List Str) (sp:Sp):Prop:=
 ∃ f fd,FnOk P w K mg base E8 k f fd ps sp/\Cls K C/\Meth K C m f/\Binds K fd ps []
noncomputable def KO (P:Program) (w:World) (K:PySem.W.Frag) (mg:Str->Option Value) (base:Heap) (k:Nat) (C:Addr) (x:Str) (ps:List Str) (sp:Sp):Prop:=
 ∃ f fd,FnOk P w K mg base E8 k f fd ps sp/\Mk K C f/\mg x=some (.ref C)/\Binds K fd ps []
section
variable {X:Cx} {k:Nat} {C:Addr} {ps:List Str} {sp:Sp} {x m:Str} {p pos apos:Pos} {e o:Expr} {es:List Expr} {ta:TE} {t:TA}
theorem ank(G:KO X.prog X.w X.K X.mg X.base k C x ps sp)(hr:Room (k+1) X.A)(ha:QA X (e::es) t)(hg:Gl X x:=by rfl)(h1:K2 e=false:=by rfl)(h2:W1 es=true:=by rfl)(Q8:(x==("__debug__" : Str))=false:=by decide) :
  QE X (.Call (.Name x p) (e::es) [] pos) (tMake C sp [] E0 t):=by
 obtain ⟨f,fd,F,M,hm,hb⟩:=G;exact ⟨amo M F hr hg hm hb .nil pass0 ha.out Q8 (N3 h1) (eF h2)⟩
theorem ajz(ho:QE X o ta)(G:MO X.prog X.w X.K X.mg X.base k C m ps sp)(hr:Room k X.A)(ha:QA X (e::es) t)(h1:K2 e=false:=by rfl)(h2:W1 es=true:=by rfl){pl:Sem Bool}(ht:eval (.Call (.Attribute o m apos) (e::es) [] pos) X.env=(do
   let ov <- eval o X.env
   standAt apos.atName
   let (f,first) <- holding [ov] (getMethod ov m pl)
   callWith pos f first (backTo pos (starEach (e::es) X.env)) (backToKw pos (keywordEach [] X.env))):=by rfl) :
  QE X (.Call (.Attribute o m apos) (e::es) [] pos) (tMeth C m sp [] E0 ta t):=by
 obtain ⟨f,fd,F,c,hm,hb⟩:=G;exact ⟨amn ho.out c hm F hr hb .nil pass0 ha.out (N3 h1) (eF h2) ht⟩
theorem tD(ho:QE X o ta)(G:MO X.prog X.w X.K X.mg X.base k C m ps sp)(hr:Room k X.A){pl:Sem Bool}(ht:eval (.Call (.Attribute o m apos) [] [] pos) X.env=(do
   let ov <- eval o X.env
   standAt apos.atName
   let (f,first) <- holding [ov] (getMethod ov m pl)
   callWith pos f first (backTo pos (starEach [] X.env)) (backToKw pos (keywordEach [] X.env))):=by rfl) :
  QE X (.Call (.Attribute o m apos) [] [] pos) (tMeth C m sp [] E0 ta tNil):=by
 obtain ⟨f,fd,F,c,hm,hb⟩:=G;exact ⟨akw ho.out c hm F hr hb .nil pass0 ht⟩
end
section
variable {C:Addr} {m f:Str} {sp:Sp} {K:PySem.W.Frag} {ta tv:TE} {t:TA} {Y:St} {H:Hp} {Q:VK} {D:Ends}
theorem anl:tMake C sp [] E0 t Y H Q=t Y H fun vs H1=>∀ x dx,H1 x=none->H1 dx=none->dx≠x->sp (.ref x::(vs++[])) (A4 (A4 H1 dx (.own x)) x (.ins C dx [])) (fun v H2=>v=.non/\Q (.ref x) H2) E0:=rfl
theorem anm:tMeth C m sp [] E0 ta t Y H Q=ta Y H fun x H1=>∃ a dx fs,x=.ref a/\H1 a=some (.ins C dx fs)/\fs.lookup m=none/\t Y H1 fun vs H2=>sp (x::(vs++[])) H2 Q E0:=rfl
theorem aoQ:tFld K ta f Y H Q=ta Y H fun x H1=>∃ a C dx fs v,x=.ref a/\H1 a=some (.ins C dx fs)/\Cls K C/\NoAttr K C f/\fs.lookup f=some v/\Q v H1:=rfl
theorem ann:sFld K ta tv f D Y H=tv Y H fun y H1=>ta Y H1 fun x H2=>∃ a C dx fs,x=.ref a/\H2 a=some (.ins C dx fs)/\Cls K C/\NoAttr K C f/\fs.length<1000/\D.nx Y (A4 H2 a (.ins C dx (putF f y fs))):=rfl
end
section
variable {X:Cx} {o e:Expr} {apos cpos:Pos} {td ty:TE}
theorem oN(hu:X.A.units+1<cLine)(ho:QE X o td)(he:QE X e ty)(h1:K2 e=false:=by rfl)(G1:attributeBase o "get" X.env (eval o X.env)=eval o X.env:=by rfl)(G2:(apos.endLine==cpos.line)=true:=by rfl):QE X (.Call (.Attribute o "get" apos) [e] [] cpos) (sI td ty):=
 ⟨akG hu ho.out he.out ⟨G1,by rw [N3 h1];rfl,G2,by rw [N3 h1];rfl⟩⟩
theorem ali : sI td ty Y H Q=td Y H fun x H1=>∃ a,x=.ref a/\eE H1 a/\ty Y H1 fun y H2=>∃ o,DGet H2 a y o/\Q (o.getD .non) H2:=rfl
end
end L2
set_option maxRecDepth 100000
namespace L2
open PySem PySem.Spec PyProof.Rows
noncomputable abbrev Rl:=Str×List Str
noncomputable def tupR (z:Rl):HO:=.tup ((z.1::z.2).map V.str)
structure IsRules(H:Hp)(a:Addr)(rs:List Addr)(R:List Rl):Prop where
 top:H a=some (.lst (rs.map V.ref))
 row:Paired (fun r z=>H r=some (tupR z)) rs R
theorem IsRules.same{R:List Rl}(h:IsRules H a rs R)(s:Same H H'):IsRules H' a rs R:=⟨s _ _ h.top,O6 h.row fun _ _ e=>s _ _ e⟩
theorem IsRules.cat{l:Addr}{ts us:List Addr}{A B:List Rl}(x:IsRules H a ts A)(y:IsRules H b us B)(n:H l=none):IsRules (A4 H l (.lst (ts.map V.ref++us.map V.ref))) l (ts++us) (A++B):=by
 refine ⟨by rw [A5,E4],?_⟩;have ap:∀ {l₁ zh:List Addr} {l₂ zg:List Rl},Paired (fun r z=>A4 H l (.lst (ts.map V.ref++us.map V.ref)) r=some (tupR z)) l₁ l₂->Paired (fun r z=>A4 H l (.lst (ts.map V.ref++us.map V.ref)) r=some (tupR z)) zh zg->Paired (fun r z=>A4 H l (.lst (ts.map V.ref++us.map V.ref)) r=some (tupR z)) (l₁++zh) (l₂++zg):=by
  intro l₁ zh l₂ zg h
  induction h with
  | nil=>intro h';exact h'
  | cons h t ih=>intro h';exact .cons h (ih h')
 exact ap (O6 x.row fun r z h=>B3 h n) (O6 y.row fun r z h=>B3 h n)
theorem IsRules.len{R:List Rl}(h:IsRules H a rs R):rs.length=R.length:=Paired.length h.row
noncomputable def O5 (z:Rl):List Str:=if z.1=("great" : Str) then z.2.drop 1 else if z.1=("as" : Str) then z.2.take 1 else if z.1=("row" : Str)\/z.1=("marks" : Str)\/z.1=("over" : Str) then z.2 else []
noncomputable def jobD (w:Str):Str:=if w=("row" : Str) then "letter" else if w=("marks" : Str) then "mark" else w
noncomputable def D4 (R:List Rl):List (Str×Str):=R.flatMap fun z=>(O5 z).map fun p=>(p,jobD z.1)
noncomputable def hasW (R:List Rl) (w:Str):Bool:=R.any fun z=>decide (z.1=w)
noncomputable def figO (c:Nat):Bool:=decide (48<=c)&&decide (c<=57)
noncomputable def gU:List Str:=["letter", "mark", "over"]
noncomputable def NC (figs:Bool) (g:Str->Str) (PL:List (Str×Str)):Prop:=∀ i p j,PL[i]?=some (p,j)->j=g p/\(p∈(PL.take i).map (·.1)->j∈gU)/\(figs=true->∀ c∈p.cps.toList,figO c=false)/\p.length<=1000
noncomputable def keysP (PL:List (Str×Str)):List Str:=E9 [] (PL.map (·.1))
theorem aeT{R:List Rl}{z:Rl}(h:R[i]?=some z):D4 (R.take (i+1))=D4 (R.take i)++(O5 z).map fun p=>(p,jobD z.1):=by
 rw [U0,h];unfold D4;rw [j1]
 simp
theorem af6(R:List Rl)(i:Nat):∃ more,D4 R=D4 (R.take i)++more:=⟨D4 (R.drop i),by
 unfold D4;rw [<- j1,q9]⟩
theorem aia(PL:List (Str×Str))(p j:Str):keysP (PL++[(p,j)])=dd (keysP PL) p:=by
 unfold keysP E9;rw [E4,j3];rfl
theorem kI(x:Str)(PL:List (Str×Str)):x∈keysP PL↔x∈PL.map (·.1):=by
 unfold keysP;rw [m5]
 simp
theorem af7(PL:List (Str×Str)):(keysP PL).length<=PL.length:=by
 have:=eJ (PL.map (·.1)) []
 rw [A7] at this
 simpa [keysP] using this
noncomputable def rowsW (R:List Rl) (w:Str):List (List Str):=(R.filter fun z=>decide (z.1=w)).map (·.2)
theorem aeU{R:List Rl}{z:Rl}{w:Str}(h:R[i]?=some z):rowsW (R.take (i+1)) w=if z.1=w then rowsW (R.take i) w++[z.2] else rowsW (R.take i) w:=by
 rw [U0,h];unfold rowsW;rw [V1,E4]
 by_cases e:z.1=w
 .rw [if_pos e,dY,bN (by simpa using e)];rfl
 .rw [if_neg e,dY,bO (by simpa using e)];simp
theorem b9{hi:Option Int}(hk:1<=k)(hn:1<=n):¬ (HT.sIx n 0 (some (k:Int))=0/\HT.sIx n n hi=n):=fun h=>by
 have:=h.1
 rw [HT.sIx_nat] at this;lia
noncomputable abbrev jobsL:List (C3×V):=[((Sum.inr ("row" : Str):C3),V.str "letter"),(Sum.inr ("marks" : Str),V.str "mark"),(Sum.inr ("great" : Str),V.str "great"),(Sum.inr ("as" : Str),V.str "as"),(Sum.inr ("over" : Str),V.str "over")]
noncomputable def eQ (w:Str):Prop:=w=("row" : Str)\/w=("marks" : Str)\/w=("great" : Str)\/w=("as" : Str)\/w=("over" : Str)
theorem tE{w:Str}(h:eQ w):valV jobsL (Sum.inr w)=some (.str (jobD w)):=by
 rcases h with rfl | rfl | rfl | rfl | rfl <;> decide +kernel
theorem alj{w:Str}(h:¬ eQ w):valV jobsL (Sum.inr w)=none:=by
 unfold eQ at h;have n:∀ u:Str,w≠u->¬ ((Sum.inr u:C3)=Sum.inr w):=fun u hu e=>hu (Sum.inr.inj e).symm
 rw [aH (n _ (fun e=>h (.inl e))),aH (n _ (fun e=>h (.inr (.inl e)))),aH (n _ (fun e=>h (.inr (.inr (.inl e))))),aH (n _ (fun e=>h (.inr (.inr (.inr (.inl e)))))),aH (n _ (fun e=>h (.inr (.inr (.inr (.inr e))))))];rfl
theorem kJ{z:Rl}{p:Str}(h:p∈O5 z):eQ z.1:=by
 unfold O5 at h;unfold eQ
 split at h
 .rename_i e;exact .inr (.inr (.inl e))
 .split at h
  .rename_i e;exact .inr (.inr (.inr (.inl e)))
  .split at h
   .rename_i e
    rcases e with e | e | e
    .exact .inl e
    .exact .inr (.inl e)
    .exact .inr (.inr (.inr (.inr e)))
   .cases h
theorem aoR{R:List Rl}{z:Rl}{p:Str}(hz:R[i]?=some z)(hp:(O5 z)[j]?=some p) :
  (D4 R)[(D4 (R.take i)).length+j]?=some (p,jobD z.1)/\(D4 R).take ((D4 (R.take i)).length+j)=D4 (R.take i)++((O5 z).take j).map fun p=>(p,jobD z.1):=by
 obtain ⟨more,e⟩:=af6 R (i+1);rw [aeT hz,U1] at e;have hj:j<(O5 z).length:=(G9.mp hp).1;rw [e]
 constructor
 .rw [dM (z9 _ _),Nat.add_sub_cancel_left,bM (by rw [A7];exact hj),V2,hp];rfl
 .rw [List.take_append,j0 (z9 _ _),Nat.add_sub_cancel_left,List.take_append_of_le_length (by rw [A7];lia),bS]
theorem aoS{c d:Nat} : (([c]:List Nat)<[d])↔c<d:=by
 constructor
 .intro h;cases h with
  | rel h=>exact h
  | cons h=>cases h
 .intro h;exact List.Lex.rel h
theorem C9.same(e:Same H H')(h:C9 K H a xs):C9 K H' a xs:=by
 rcases h with (h | ⟨o,h⟩) | h
 .exact .inl (.inl (e _ _ h))
 .exact .inl (.inr ⟨o,e _ _ h⟩)
 .exact .inr h
theorem C9.dput{d:Addr}{o:HO}(hd:H d=some (.dK kvs))(h:C9 K H a xs):C9 K (A4 H d o) a xs:=by
 rcases h with (h | ⟨o,h⟩) | h
 .exact .inl (.inl (by rw [A9 (fun e=>by rw [e,hd] at h;cases h)];exact h))
 .exact .inl (.inr ⟨o,by rw [A9 (fun e=>by rw [e,hd] at h;cases h)];exact h⟩)
 .exact .inr h
noncomputable def spHas (K:PySem.W.Frag):Sp:=fun vs H Q _=>∃ (a:Addr) (ts:List Addr) (R:List Rl) (w:Str),vs=[.ref a,.str w]/\IsRules H a ts R/\R.length<=1000/\∀ H',Same H H'->Q (.bl (hasW R w)) H'
noncomputable def ajA (K:PySem.W.Frag):Sp:=fun vs H Q _=>∃ (t:Addr) (z:Rl),vs=[.ref t]/\H t=some (tupR z)/\∀ p H',Same H H'->C9 K H' p ((O5 z).map V.str)->Q (.ref p) H'
noncomputable def ajB:Sp:=fun vs H Q _=>∃ (d:Addr) (p j:Str) (fg:Bool) (ks:List Str) (g:Str->Str),vs=[.ref d,.str p,.str j,.bl fg]/\H d=some (.dK (C2 ks fun t=>.str (g t)))/\p.length<=1000/\(p∈ks->g p=j/\j∈gU)/\(fg=true->∀ c∈p.cps.toList,figO c=false)/\
 ∀ H',Same H H'->Q (.bl false) H'
noncomputable def Y7 (R:List Rl):List Str:=if hasW R "blanks"=true then [" "] else []
noncomputable def jobG (g:Str->Str):Str->V:=fun t=>if t=(" " : Str) then .str "over" else .str (g t)
noncomputable def alS (K:PySem.W.Frag):Sp:=fun vs H Q _=>∃ (a:Addr) (ts:List Addr) (R:List Rl) (g:Str->Str),vs=[.ref a]/\IsRules H a ts R/\R.length<=1000/\(D4 R).length<=10000/\NC (hasW R "figures") g (D4 R)/\(" " : Str)∉(D4 R).map (·.1)/\
 ∀ d H',H d=none->Same H H'->H' d=some (.dK (C2 (keysP (D4 R)++Y7 R) (jobG g)))->Q (.ref d) H'
noncomputable def ordF (f b:Bool) (j ll ml md:Addr):List (Str×V):=putF "made" (.ref md) (putF "mark_line" (.ref ml) (putF "letter_line" (.ref ll) (putF "jobs" (.ref j) (putF "behind" (.bl b) (putF "figures" (.bl f) [])))))
theorem adO(f b:Bool)(j ll ml md:Addr):(ordF f b j ll ml md).lookup ("figures" : Str)=some (V.bl f):=by
 unfold ordF;rw [L0,if_neg (by decide +kernel),L0,if_neg (by decide +kernel),L0,if_neg (by decide +kernel),L0,if_neg (by decide +kernel),L0,if_neg (by decide +kernel),L0,if_pos rfl]
theorem agR(f b:Bool)(j ll ml md:Addr):(ordF f b j ll ml md).lookup ("behind" : Str)=some (V.bl b):=by
 unfold ordF;rw [L0,if_neg (by decide +kernel),L0,if_neg (by decide +kernel),L0,if_neg (by decide +kernel),L0,if_neg (by decide +kernel),L0,if_pos rfl]
theorem af8(f b:Bool)(j ll ml md:Addr):(ordF f b j ll ml md).lookup ("jobs" : Str)=some (V.ref j):=by
 unfold ordF;rw [L0,if_neg (by decide +kernel),L0,if_neg (by decide +kernel),L0,if_neg (by decide +kernel),L0,if_pos rfl]
theorem af9(f b:Bool)(j ll ml md:Addr):(ordF f b j ll ml md).lookup ("letter_line" : Str)=some (V.ref ll):=by
 unfold ordF;rw [L0,if_neg (by decide +kernel),L0,if_neg (by decide +kernel),L0,if_pos rfl]
theorem aib(f b:Bool)(j ll ml md:Addr):(ordF f b j ll ml md).lookup ("mark_line" : Str)=some (V.ref ml):=by
 unfold ordF;rw [L0,if_neg (by decide +kernel),L0,if_pos rfl]
theorem kK(f b:Bool)(j ll ml md:Addr){m:Str}(h:m∉(["made", "mark_line", "letter_line", "jobs", "behind", "figures"]:List Str)):(ordF f b j ll ml md).lookup m=none:=by
 unfold ordF;have n:∀ u∈(["made", "mark_line", "letter_line", "jobs", "behind", "figures"]:List Str),¬ m=u:=fun u hu e=>h (by rw [e];exact hu)
 rw [L0,if_neg (n _ (by simp)),L0,if_neg (n _ (by simp)),L0,if_neg (n _ (by simp)),L0,if_neg (n _ (by simp)),L0,if_neg (n _ (by simp)),L0,if_neg (n _ (by simp))];rfl
theorem IsRules.but{x:Addr}{R:List Rl}(h:IsRules H a rs R)(s:SameBut x H H'){dx:Addr}{fs:List (Str×V)}(hx:H x=some (.ins C dx fs)):IsRules H' a rs R:=
 ⟨s _ _ (fun e=>by have:=h.top;rw [e,hx] at this;cases this) h.top,O6 h.row fun t z e=>s _ _ (fun q=>by rw [q,hx] at e;cases e) e⟩
theorem SameBut.trans{x:Addr}(a:SameBut x H H1)(b:SameBut x H1 H2):SameBut x H H2:=fun c o hc h=>b c o hc (a c o hc h)
theorem Same.but{x:Addr}(a:Same H H1):SameBut x H H1:=fun c o _ h=>a c o h
noncomputable def T7 (R:List Rl) (w:Str) (L:List Str):Prop:=S9 (edges (rowsW R w)) (toldL (rowsW R w)) L/\∀ p∈toldL (rowsW R w),p∈L
structure IsOrder(C:Addr)(H:Hp)(x:Addr)(g:Str->Str)(R:List Rl)(L M:List Str):Prop where
 ob:∃ dx j ll ml md,H x=some (.ins C dx (ordF (hasW R "figures") (hasW R "behind") j ll ml md))/\H j=some (.dK (C2 (keysP (D4 R)++Y7 R) (jobG g)))/\H ll=some (.lst (L.map V.str))/\H ml=some (.lst (M.map V.str))
 l1:T7 R "row" L
 l2:T7 R "marks" M
noncomputable def alT (K:PySem.W.Frag):Sp:=fun vs H Q _=>∃ (a:Addr) (ts:List Addr) (R:List Rl) (w:Str) (rank:Str->Nat),vs=[.ref a,.str w]/\IsRules H a ts R/\R.length<=1000/\(rowsW R w).flatten.length<=100000/\(∀ e∈edges (rowsW R w),rank e.1<rank e.2)/\
 ∀ (l:Addr) (line:List Str) (H':Hp),H l=none->Same H H'->H' l=some (.lst (line.map V.str))->S9 (edges (rowsW R w)) (toldL (rowsW R w)) line->(∀ p∈toldL (rowsW R w),p∈line)->Q (.ref l) H'
noncomputable def cellF (ns:List Int) (k:Int):Int:=if k<(ns.length:Int) then ns.getD k.toNat 0 else 0
noncomputable def SA:Str:=Str.ofString "!\"#$&'()*+,-./:;<=>?@ABCDEFGHIJKLMNOPQRSTUVWXYZ[\\]^_`abcdefghijklmnopqrstuvwxyz{|}~"
noncomputable def LA:List Nat:=SG.filter fun c=>!figO c
noncomputable def LB:List Nat:=LA++[48,49,50,51,52,53,54,55,56,57]
noncomputable def listF (d:Bool):List Nat:=if d=true then LB else LA
noncomputable def lenF (d:Bool):Int:=if d=true then 93 else 83
noncomputable def tF (ns:List Int):Bool:=decide (cellF ns 1 / 12 % 2=0)
noncomputable def stepO:List Int:=[1,2,4,5,7,8,10,11,13,23,44,80]
noncomputable def stO (ns:List Int):Int:=(J9 stepO (cellF ns 1 % 12)).getD 0
noncomputable def gW (ns:List Int) (k:Int):Nat:=(J9 (listF (tF ns)) ((cellF ns 0+k*stO ns) % lenF (tF ns))).getD 33
end L2
set_option maxRecDepth 100000
namespace L2
open PySem PySem.Spec PyProof.Rows
open AutoSeq1 (wpAny_loadPart' idx_int)
noncomputable abbrev bareL (ys:Array Value) (k:Nat):Obj:=⟨.type "list",none,.seq ys k,#[]⟩
noncomputable abbrev anyT (dd:Option Addr) (ys:Array Value) (k:Nat) (ss:Array (Option Value)):Obj:=⟨.type "tuple",dd,.seq ys k,ss⟩
theorem aek{l:Addr}{ys zs:Array Value}{k2:Nat}{dd:Option Addr}(short:¬ (!ys.isEmpty&&Builtin.List.listTooLong (ys.size+zs.size))=true)(h1:ys.size<=sizeLine)(h2:ys.size+zs.size<=sizeLine+1) :
  Meets (Builtin.«list.extend» ⟨[.ref l,.ref b],[]⟩) (fun _ R s=>s.heap.get? l=some (bareL ys k)/\s.heap.get? b=some (anyT dd zs k2 ss)/\R (.ok (.ret .none)) { s with heap:=s.heap.update l (Obj.mapSeq (·++zs)),toks:=s.toks }):=by
 refine .of_wp fun _ _ _ R s ⟨gl,gb,fin⟩=>?_
 rcases s with ⟨hp,gens,dr,tk,sys⟩
 have c1:=idx_int;have c2:=AutoSeq1.sub_tuple_tuple;have c3:=AutoSeq1.sub_list_list;have c4:=AutoSeq1.sub_tuple_list;have c5:=AutoSeq1.sub_list_tuple;have room:(ys++zs).size<=sizeLine+1:=Array.size_append ▸ h2
 wp_walk using (wpAny_updateSeq gl rfl (hz:=h1) (_hz':=room)),wpAny_loadPart' gl,wpAny_loadPart' gb
 exact ⟨_,rfl,fin⟩
section
variable {X:Cx}
noncomputable def ahw (K:PySem.W.Frag):V->List V->Hp->VK->Prop:=fun x vs H Q=>∃ l b xs zs,x=.ref l/\vs=[.ref b]/\H l=some (.lst xs)/\C9 K H b zs/\xs.length+zs.length<=sizeLine/\Q .non (A4 H l (.lst (xs++zs)))
theorem aic:eC X "list.extend" (ahw X.K):=by
 intro pins s Y H x vs v us Q I rx rv h;obtain ⟨l,b,xs,zs,rfl,rfl,hH,hB,hz,q⟩:=h
 cases rx
 obtain ⟨u,rfl,ru⟩:=rv.one
 cases ru
 obtain ⟨z,its,n,r,hl,e⟩:=I.lstM hH;obtain ⟨its2,r2,⟨⟨c,dct,dt,sl⟩,e2,hc,n2,hd⟩,e9⟩:=I.tuple hB
 replace hc:c=.type "tuple":=hc
 replace hd:dt=.seq its2.toArray n2:=hd
 subst hc hd;have q1:=r2.length;have hsz:its.toArray.size+its2.toArray.size<=sizeLine:=by rw [K3,K3];lia
 have n5:¬ (!its.toArray.isEmpty&&Builtin.List.listTooLong (its.toArray.size+its2.toArray.size))=true:=by
  rw [zM hsz,Bool.and_false];exact K7
 refine call_meets F.slot_list_extend ⟨_,e,rfl⟩ F.entry_list_extend (F.args_list_extend_2 _ _)
  (aek (k:=n) (k2:=n2) (dd:=dct) (ss:=sl) n5 (by rw [K3];lia) (by lia)) ⟨e,e2,?_⟩
 refine ⟨.non,_,I.lset (its':=its++its2) hH e (by simp) (r.append r2) ?_,rfl,q⟩;rw [D1];lia
theorem ajC(hK:X.K=K:=by rfl):QMt X "list.extend" (ahw K):=by subst hK;exact ⟨fun pins s Y H x xs v us Q I rx rv h=>aic pins s Y H x xs v us Q I rx rv h⟩
end
noncomputable def Itv (l : Addr) (n : Nat) : It :=
  ⟨fun i H => ∃ xs x, H l = some (.lst xs) /\ i<n /\ xs[n-1-i]? = some x,
   fun i H v H' => H' = H /\ ∀ xs, H l = some (.lst xs) -> xs[n-1-i]? = some v,
   fun i H => ∃ xs, H l = some (.lst xs) /\ n <= i⟩
section
variable {X:Cx}
noncomputable def iRev (ta:TA):TI:=fun Y H R=>ta Y H fun vs H1=>∃ (l:Addr) (xs:List V),vs=[.ref l]/\H1 l=some (.lst xs)/\R (Itv l xs.length) H1
end
theorem ano{R:It->Hp->Prop} : iRev ta Y H R=ta Y H fun vs H1=>∃ (l:Addr) (xs:List V),vs=[.ref l]/\H1 l=some (.lst xs)/\R (Itv l xs.length) H1:=rfl
noncomputable abbrev cI (l:Addr):Obj:={ cls:=.type "list_iterator",data:=.fields #[.ref l,.int 0 0] }
noncomputable abbrev gX (it:Addr) (i:Int):Obj:={ cls:=.type "enumerate",data:=.fields #[.none,.bool false,.ref it,rawInt i,.none,.none] }
noncomputable abbrev anyL (dd:Option Addr) (ys:Array Value) (k:Nat) (ss:Array (Option Value)):Obj:=⟨.type "list",dd,.seq ys k,ss⟩
set_option maxHeartbeats 4000000 in
theorem aex{l:Addr}{ys:Array Value}{dd:Option Addr}{i:Int}{t:Tok}(fits:Builtin.SmallTypes.fitsIndex i=true) :
  Meets (Builtin.«enumerate.__new__» ⟨[.type "enumerate",.ref l],[("start",.int i t)]⟩) (fun _ R s=>s.heap.get? l=some (anyL dd ys k ss)/\
   R (.ok (.ret (.ref (s.heap.push (cI l)).objs.size))) { s with heap:=(s.heap.push (cI l)).push (gX s.heap.objs.size i) }):=by
 refine .of_wp fun _ _ _ R s ⟨gl,fin⟩=>?_
 rcases s with ⟨hp,gens,dr,tk,sys⟩
 have c1:=sub_enumerate;have isl:Heap.IsList (Shared.heap ⟨hp,gens,dr,tk,sys⟩) l ys:=⟨_,gl,rfl,k,rfl⟩
 wp_walk using wpAny_loadPart' gl
 refine wpAny_stack_any fun _=>wpAny_pure ?_
 split
 case h_1 c _ _ _ _ _=>
  generalize (c==Value.type "enumerate")=truth
  cases truth <;> (wp_walk using wpAny_loadPart' gl,wpAny_pyIter_list isl;exact ⟨_,rfl,fin⟩)
 case h_2=>(wp_walk using wpAny_loadPart' gl,wpAny_pyIter_list isl;exact ⟨_,rfl,fin⟩)
theorem aid(a b:Value):checkTypeCall "enumerate" ⟨[a],[("start",b)]⟩=pure ():=by kernel_rfl
theorem ajD(a b:Value):checkBuiltinCall "enumerate.__new__" ⟨[.type "enumerate",a],[("start",b)]⟩=pure ():=by kernel_rfl
theorem aie(a b c:Value):argsOk "object.__init__" ⟨[a,b],[("start",c)]⟩:=by
 unfold argsOk;rw [signature?_of (id:="object.__init__") (n:="__init__".toList.reverse) (o:="object".toList.reverse) (by kernel_rfl) F.owner_object]
 kernel_rfl
theorem ajE{self b c:Value} : Meets (Builtin.«object.__init__» ⟨[self,b],[("start",c)]⟩) (fun _ R s=>s.TypeIs self "enumerate"/\R (.ok (.ret .none)) s):=by
 have c1:=F.called_enumerate.init.lookup;have c2:=F.called_enumerate.made;refine .of_wp fun _ _ _ R s ⟨isT,fin⟩=>?_
 repeat (any_goals (first | assumption | wp_step))
 exact ⟨_,rfl,fin⟩
section
variable {prog:Program} {w:World} {A:Around} {E:Value->Shared->Prop} {s:Shared}
theorem ael{l:Addr}{ys:Array Value}{i:Int}{t:Tok}{Q:Value->Shared->Prop}(isl:s.heap.IsList l ys)(fits:Builtin.SmallTypes.fitsIndex i=true)(fin:∀ h',IsEnum h' (s.heap.objs.size+1) s.heap.objs.size i .none->h'.IsListIter s.heap.objs.size l 0->(∀ b o,s.heap.get? b=some o->h'.get? b=some o)->Q (.ref (s.heap.objs.size+1)) { s with heap:=h' }) :
  wpAny (model prog w) A (call (.type "enumerate") [.ref l] [("start",.int i t)]) Q E s:=by
 obtain ⟨⟨c,dd,dt,ss⟩,gl,hc,k,hd⟩:=isl;obtain rfl:c=.type "list":=hc;obtain rfl:dt=.seq ys k:=hd;obtain ⟨hd0,tl,c1⟩:=F.called_enumerate.mro;have c2:=F.called_enumerate.made;have c3:=F.called_enumerate.sub;have c4:=F.called_enumerate.notType;have c5:=F.called_enumerate.canCreate;have c6:=F.called_enumerate.init.lookup;have c7:=aid (.ref l) (.int i t);refine wpAny_call (codeAny_of_tree (show wpAny _ _ (callAny (.type "enumerate") _) _ _ _ from wpAny_pure ⟨Code.quiet_builtin _ (by decide +kernel),codeAny_builtin F.entry_type_call ?_⟩));rw [Around.under_plain (weight_type_call_type "enumerate" [.ref l] [("start",.int i t)]) (units_type_call_type "enumerate" [.ref l] [("start",.int i t)])]
 repeat (any_goals (first | assumption | wp_step))
 have z:(s.heap.push (cI l)).objs.size=s.heap.objs.size+1:=Heap.size_push ..;have made:IsEnum ((s.heap.push (cI l)).push (gX s.heap.objs.size i)) (s.heap.objs.size+1) s.heap.objs.size i .none:=by
  have g:=Heap.get?_push_size (s.heap.push (cI l)) (o:=gX s.heap.objs.size i) rfl;rw [z] at g;exact g
 have done:=fin _ made ⟨_,Heap.get?_push_of_some _ (Heap.get?_push_size _ rfl),rfl,rfl⟩ fun b o g=>Heap.get?_push_of_some _ (Heap.get?_push_of_some _ g)
 refine codeAny_mono (codeAny_call_builtin F.called_enumerate.plain F.entry_enumerate_new (wpAny_of_eq (ajD _ _) (aex (dd:=dd) (k:=k) (ss:=ss) fits prog w A.in1 (wants (fun v s2=>v=.ref (s.heap.objs.size+1)/\s2={ s with heap:=(s.heap.push (cI l)).push (gX s.heap.objs.size i) }) E) s ⟨gl,?_,?_⟩))) ?_
 .rw [z]
 .rfl
 .intro r s1 hr
  rcases r with e | fl
  .exact hr
  .cases fl with
   | ret v=>
    obtain ⟨rfl,rfl⟩:=hr;have isT:Shared.TypeIs { s with heap:=(s.heap.push (cI l)).push (gX s.heap.objs.size i) } (.ref (s.heap.objs.size+1)) "enumerate":=⟨_,made,rfl⟩
    have c8:=F.called_enumerate.init.bind (.ref (s.heap.objs.size+1))
    repeat (any_goals (first | assumption | wp_step))
    have ran:=ajE (self:=.ref (s.heap.objs.size+1)) (b:=.ref l) (c:=.int i t) prog w A.in1 (wants (fun v s2=>v=.none/\s2={ s with heap:=(s.heap.push (cI l)).push (gX s.heap.objs.size i) }) E) _ ⟨isT,rfl,rfl⟩;refine codeAny_mono (codeAny_call_builtin F.called_enumerate.init.plain F.entry_object_init (F.called_enumerate.init.check _ _ _ _ _ _ _ _ isT (aie _ _ _) ran)) fun r s2 hr=>?_
    rcases r with e | fl
    .exact hr
    .cases fl with
     | ret v=>
      obtain ⟨rfl,rfl⟩:=hr
      repeat (any_goals (first | assumption | wp_step))
     | next=>exact hr.elim
     | brk=>exact hr.elim
     | cont=>exact hr.elim
   | next=>exact hr.elim
   | brk=>exact hr.elim
   | cont=>exact hr.elim
end
theorem aoT{w:World}(calm:A.handled=none){l:Addr}(apart:l≠it)(ys:Array Value) :
  Draws prog w A it [it,l] (ys.size+1) (fun i v=>1<=i/\ys[i-1]?=some v) (fun i h=>1<=i/\h.IsListIter it l (i-1)/\h.IsList l ys):=by
 have D:=Draws.list (prog:=prog) (w:=w) calm it l apart ys;refine ⟨fun i h st=>D.live (i-1) h st.2,fun i h h' st same=>⟨st.1,D.frame (i-1) h h' st.2 same⟩,fun i s Q E hi st fin=>?_,fun s Q E st fin=>D.done s Q E st.2 fin⟩;refine D.item (i-1) s Q E (by have:=st.1;lia) st.2 fun x h' tk px st' sb=>fin x h' tk ⟨st.1,px⟩ ⟨by lia,?_⟩ sb
 rw [show i+1-1=i-1+1 by have:=st.1;lia];exact st'
theorem aoU{w : World}(calm : A.handled = none){l: Addr}{ys : Array Value}(none : ys[i]? = none) :
    Draws prog w A it [it, l] (i+1) (fun _ _ => True) (fun k h => k = i+1 /\ h.IsListIter it l i /\ h.IsList l ys) :=
  ⟨fun _ _ st => let ⟨o, ho, _⟩ := st.2.1; ⟨o, ho⟩, fun _ _ _ st same => ⟨st.1, st.2.1.at fun o g => same it (by simp) o g, st.2.2.at fun o g => same l (by simp) o g⟩,
   fun k s Q E hk st => absurd st.1 (by lia), fun s Q E st fin => wpAny_nextOf_list_end calm st.2.1 st.2.2 none fin⟩
noncomputable def Ite1 (l : Addr) : It :=
  ⟨fun i H => ∃ xs x, H l = some (.lst xs) /\ xs[i]? = some x,
   fun i H v H' => ∃ t xs x, H l = some (.lst xs) /\ xs[i]? = some x /\ H t = none /\ v = .ref t /\ H' = A4 H t (.tup [.int (i+1 : Nat), x]),
   fun i H => ∃ xs, H l = some (.lst xs) /\ xs.length <= i⟩
theorem aif{P:Program}{w:World}{pos:Pos}(e it l:Addr)(G3:e≠it) :
  Turn P w K (.Tuple elts x1 pos) (Ite1 l) [e,it] e (fun i h=>(∃ old,IsEnum h e it ((i+1:Nat):Int) old)/\h.IsListIter it l i) where
 mem:=by simp
 obj:=fun i h ⟨⟨old,he⟩,hi⟩ c hc=>by
  have q:c=e\/c=it:=by simpa using hc
  rcases q with rfl | rfl
  .exact ⟨_,he,fun v q=>by cases q⟩
  .obtain ⟨o,e,c,d⟩:=hi;exact ⟨o,e,fun v z=>by rw [d] at z;cases z⟩
 keep:=fun i h h' ⟨⟨old,he⟩,hi⟩ k=>⟨⟨old,k e (by simp) _ he⟩,hi.at fun o q=>k it (by simp) o q⟩
 item:=by
  intro X hP hw hK hc i pins s Y H E I hf ⟨⟨old,he⟩,hi⟩ hg;subst hP hw hK;obtain ⟨xs,x,e1,hx⟩:=hg;obtain ⟨its1,Z1,p1,_⟩:=I.list (E5.of (K:=X.K) e1);obtain ⟨u1,C7,r1⟩:=Z1.get hx;have D0:i<its1.length:=(G9.mp C7).1;obtain ⟨ol,gl,cl,_⟩:=p1.isList;have nli:l≠it:=fun q=>by
   obtain ⟨oi,gi,ci,_⟩:=hi;rw [q,gi] at gl
   cases gl
   rw [ci] at cl;exact absurd cl (by decide)
  have nle:e≠l:=fun q=>by
   rw [<- q,he] at gl
   cases gl
   exact absurd (show Value.type "enumerate"=Value.type "list" from cl) (by decide)
  refine wpAny_pyNext_enum_itemD (i:=i+1) (aoT (A:=X.A.in1) (show X.A.in1.handled=none from I.ok.hd hc) nli its1.toArray) he ⟨by lia,by simpa using hi,p1.isList⟩ (by simp;lia) G3 (by simp [G3,nle]) fun y h' tk py b1 b2 b3 b4 b5=>?_
  obtain rfl:u1=y:=by
   have:=py.2
   simp [C7] at this;exact this
  refine ⟨_,rfl,wpAny_letOwnedTupleGo_enum b1 fun h2' c1 c2=>?_⟩;have x8:e<s.heap.objs.size:=Heap.lt_size he;have up:∀ c o,c≠e->h'.get? c=some o->h2'.get? c=some o:=fun c o hc q=>(c2.2 c hc).trans q
  have hT:=up _ _ (Nat.ne_of_gt x8) b3;have nT:∀ c∈[e,it],c≠s.heap.objs.size:=fun c hc=>by
   have q:c=e\/c=it:=by simpa using hc
   refine N1 ?_
   rcases q with rfl | rfl
   .exact x8
   .obtain ⟨o,q,_⟩:=hi;exact Heap.lt_size q
  refine ⟨.ref s.heap.objs.size,A4 H s.heap.objs.size (.tup [.int (i+1:Nat),x]),I.turnNew (t':=tk+1) (ch:=[e,it]) hf (fun c u hc q=>?_) (C5 _) ⟨by show 2<=sizeLine;decide,[.int (i+1:Nat) tk,u1],.cons ⟨_,rfl⟩ (.cons r1 .nil),?_⟩,rfl,⟨_,xs,x,e1,hx,I.fresh,rfl,rfl⟩,
   ⟨⟨_,c1⟩,(show h'.IsListIter it l (i+1) by simpa using b2.2.1).at fun o q=>up _ o G3.symm q⟩,fun c hc=>by rw [A9 (nT c hc)];exact (hf c hc).1⟩
  .have q1:c≠e/\c≠it:=⟨fun q=>hc (by simp [q]),fun q=>hc (by simp [q])⟩
   exact up c u q1.1 (b5 c u q1.1 q1.2 q)
  .exact ⟨_,hT,rfl,_,rfl⟩
 done:=by
  intro X hP hw hK hc i pins s Y H E I hf ⟨⟨old,he⟩,hi⟩ hg;subst hP hw hK;obtain ⟨xs,e1,fH⟩:=hg;obtain ⟨its1,Z1,p1,_⟩:=I.list (E5.of (K:=X.K) e1);have q1:=Z1.length;obtain ⟨f0,f1,f2,f3,f4,f5⟩:=hf it (by simp);exact wpAny_pyNext_enum_endD (aoU (A:=X.A.in1) (show X.A.in1.handled=none from I.ok.hd hc) (ys:=its1.toArray) (i:=i) (by simp;lia)) he ⟨rfl,hi,p1.isList⟩ fun h' eb=>⟨rfl,I.turned (t':=s.toks) (fun b o hb q=>eb b o hb q) f0 f1 f3 f4 f5⟩
 self:=fun _ _ _ _ _ st h=>by
  obtain ⟨⟨old,he⟩,_⟩:=st;exact wpAny_pyIter_enum he h
theorem ajF:bootBuiltins "enumerate"=some (.type "enumerate"):=by decide +kernel
section
variable {X:Cx}
noncomputable def tG (ta:TA):TI:=fun Y H R=>ta Y H fun vs H1=>∃ (l:Addr) (xs:List V),vs=[.ref l]/\H1 l=some (.lst xs)/\R (Ite1 l) H1
theorem alk{a:Expr}{p pos:Pos}(hg:Gl X "enumerate")(hm:X.mg "enumerate"=none)(ha:PA X [a] ta)(h1:K2 a=false:=by rfl) :
  PI X (.Tuple elts x1 tpos) (.Call (.Name "enumerate" p) [a] [⟨some "start",.Constant (.int 1) ck cpos,kpos⟩] pos) (tG ta):=by
 intro pins s Y H R I h;refine wpAny_Call_Name_kw (bY I hg hm ajF (PySem.W.callWith_of (P:=fun _=>True) ?_ (fun _ _=>⟨_,.inr (.inl rfl),PySem.W.Looks.of_pure rfl⟩) (PyProof.Rows.evalArgs_kw2 rfl (C4 (ha pos pins s Y H _ I h) fun us s1 ⟨vs,H1,I1,r1,q1⟩=>?_) (N3 h1))))
 .rw [N3 h1];rfl
 have kw:PK X [⟨some "start",.Constant (.int 1) ck cpos,kpos⟩] (tCons (tC (.int 1)) tNil):=amp yO an2;refine C4 (kw pos pins s1 Y H1 (fun zs H2=>zs=[.int 1]/\H2=H1) I1 ⟨rfl,rfl⟩) fun ws s2 ⟨zs,H2,I2,rz,e1,e2⟩=>⟨trivial,?_⟩
 subst e1 e2;obtain ⟨l,xs,rfl,e1,q⟩:=q1;obtain ⟨u1,rfl,lX⟩:=vals1 r1
 cases lX
 obtain ⟨u2,rfl,lY⟩:=vals1 rz;obtain ⟨t,rfl⟩:=lY;obtain ⟨its1,Z1,p1,_⟩:=I2.list (E5.of (K:=X.K) e1);refine ael p1.isList (by decide) fun h' z1 z2 z4=>wpAny_pyIter_enum z1 ?_
 refine ⟨s2.heap.objs.size+1,[s2.heap.objs.size+1,s2.heap.objs.size],_,_,H2,rfl,I2.kept (t':=s2.toks) z4,aif _ s2.heap.objs.size l (i3 (by lia)),⟨⟨_,z1⟩,z2⟩,fun b hb=>?_,q⟩;have cZ:s2.heap.objs.size<=b:=by
  have e:b=s2.heap.objs.size+1\/b=s2.heap.objs.size:=by simpa using hb
  rcases e with rfl | rfl
  .exact z9 _ _
  .exact C5 _
 exact I2.fpOk cZ (I2.hok.fresh cZ)
theorem alm{a:Expr}{p pos:Pos}(hm:X.mg "enumerate"=none)(ha:QA X [a] ta)(hg:Gl X "enumerate":=by rfl)(h1:K2 a=false:=by rfl) :
  QI X (.Tuple elts x1 tpos) (.Call (.Name "enumerate" p) [a] [⟨some "start",.Constant (.int 1) ck cpos,kpos⟩] pos) (tG ta):=⟨alk hg hm ha.out h1⟩
end
theorem ajH{R:It->Hp->Prop} : tG ta Y H R=ta Y H fun vs H1=>∃ (l:Addr) (xs:List V),vs=[.ref l]/\H1 l=some (.lst xs)/\R (Ite1 l) H1:=rfl
theorem forE1{l:Addr}{g:TG}(Pv:Nat->St->Hp->Prop)(h0:Pv 0 Y H)(hl:∀ i Y H,Pv i Y H->H l=some (.lst xs))(hs:∀ i x t Y H,xs[i]?=some x->Pv i Y H->H t=none->g (.ref t) Y (A4 H t (.tup [.int (i+1:Nat),x])) fun σ2 H2=>tb { D with nx:=Pv (i+1),ct:=Pv (i+1),bk:=D.nx } σ2 H2)(hd:∀ Y H,Pv xs.length Y H->D.nx Y H):ForIt (Ite1 l) g tb D Y H:=by
 refine ⟨fun i m Y H=>m=xs.length-i/\i<=xs.length/\Pv i Y H,⟨xs.length,by simp,K1 _,h0⟩,?_⟩;rintro i m Y H ⟨rfl,hi,p⟩;have e1:=hl i Y H p
 by_cases D0:i<xs.length
 .refine .inr ⟨⟨xs,xs[i],e1,by simp⟩,Pv (i+1),fun σ' H' p'=>⟨_,by lia,rfl,D0,p'⟩,fun v H' y=>?_⟩;obtain ⟨t,xs',x,f1,hx,ht,rfl,rfl⟩:=y;rw [e1] at f1;cases f1;exact hs i x t Y H hx p ht
 .have e:i=xs.length:=by lia
  subst e;exact .inl ⟨⟨xs,e1,by lia⟩,hd Y H p⟩
end L2
set_option maxRecDepth 100000
namespace L2
open PySem PySem.Spec PyProof.Rows
noncomputable def tH:V->List V->Hp->VK->Prop:=fun x vs H Q=>∃ (l:Addr) (xs:List V) (i:Int) (y:V),x=.ref l/\vs=[.int i,y]/\H l=some (.lst xs)/\0<=i/\i<2 ^ 62/\i.toNat<=xs.length/\xs.length<sizeLine/\Q .non (A4 H l (.lst (xs.take i.toNat++y::xs.drop i.toNat)))
theorem ajI : eC X "list.insert" tH:=by
 intro pins s Y H x vs v us Q I rx rv h;obtain ⟨l,xs,i,y,rfl,rfl,hH,h0,h1,h2,hz,q⟩:=h
 cases rx
 obtain ⟨u,u2,rfl,ru,lY⟩:=rv.two;obtain ⟨t,rfl⟩:=ru;obtain ⟨z,its,n,r,hl,e⟩:=I.lstM hH;refine call_meets F.slot_list_insert ⟨_,e,rfl⟩ F.entry_list_insert (F.args_list_insert_3 _ _ _) (AutoSeq1.list_insert_list_int_val_1 l its.toArray n i t u2 (by rw [fitsIndex_both (by lia) (by lia)];decide) (by rw [K3];lia)) ⟨e,?_⟩;refine ⟨.non,_,I.lset (its':=its.take i.toNat++u2::its.drop i.toNat) hH e ?_ (Vals.append (Vals.take _ r) (.cons lY (Vals.drop _ r))) ?_,rfl,q⟩
 .show (its.toArray.extract 0 (if i<0 then (i+(its.toArray.size:Int)).toNat else min i.toNat its.toArray.size)).push u2++its.toArray.extract (if i<0 then (i+(its.toArray.size:Int)).toNat else min i.toNat its.toArray.size)=_;rw [if_neg (by lia),show min i.toNat its.toArray.size=i.toNat by rw [K3];lia];exact PySem.W.kl_ins_eq its i.toNat u2
 .rw [D1,F8,K5,j4];lia
theorem aln : QMt X "list.insert" tH:=⟨fun pins s Y H x xs v us Q I rx rv h=>ajI pins s Y H x xs v us Q I rx rv h⟩
theorem insOk{l:Addr}{i:Int}(h:H l=some (.lst xs))(h0:0<=i)(h1:i<2 ^ 62)(h2:i.toNat<=xs.length)(hz:xs.length<sizeLine)(q:Q .non (A4 H l (.lst (xs.take i.toNat++y::xs.drop i.toNat)))):tH (.ref l) [.int i,y] H Q:=⟨l,xs,i,y,rfl,rfl,h,h0,h1,h2,hz,q⟩
noncomputable def rPopN:V->List V->Hp->VK->Prop:=fun x vs H Q=>∃ (l:Addr) (xs:List V) (i:Int) (y:V),x=.ref l/\vs=[.int i]/\H l=some (.lst xs)/\0<=i/\i<2 ^ 62/\xs[i.toNat]?=some y/\Q y (A4 H l (.lst (xs.eraseIdx i.toNat)))
theorem alU : QMt X "list.pop" rPopN:=⟨fun pins s Y H x xs v us Q I rx rv h=>by
 obtain ⟨l,ys,i,y,rfl,rfl,hH,h0,h1,h2,q⟩:=h;refine akB pins s Y H _ _ v us Q I rx rv ⟨l,ys,i,i.toNat,y,rfl,rfl,hH,by lia,by lia,?_,h2,q⟩
 have:=(G9.mp h2).1
 unfold seqIndex?;have h3:¬ i<0:=by lia
 have h4:i<(ys.length:Int):=by lia
 simp [h3,h0,h4]⟩
theorem popOk{l:Addr}{i:Int}(h:H l=some (.lst xs))(h0:0<=i)(h1:i<2 ^ 62)(h2:xs[i.toNat]?=some y)(q:Q y (A4 H l (.lst (xs.eraseIdx i.toNat)))):rPopN (.ref l) [.int i] H Q:=⟨l,xs,i,y,rfl,rfl,h,h0,h1,h2,q⟩
noncomputable def ajJ:V->List V->Hp->VK->Prop:=fun x vs H Q=>∃ (l:Addr) (zs:List Str) (z:Str),x=.ref l/\vs=[.str z]/\H l=some (.lst (zs.map V.str))/\z∈zs/\Q (.int (zs.idxOf z:Nat)) H
theorem ajK : eC X "list.index" ajJ:=by
 intro pins s Y H x vs v us Q I rx rv h;obtain ⟨l,zs,zz,rfl,rfl,hH,hm,q⟩:=h
 cases rx
 obtain ⟨u,rfl,ru⟩:=rv.one;obtain ⟨t,rfl⟩:=ru;obtain ⟨z,its,n,r,hl,e⟩:=I.lstM hH;have sa:=adN r;have hj:zs.idxOf zz<zs.length:=y8.mpr hm;rw [A7] at hl z;have N6:∀ (j:Nat) (hj:j<its.toArray.size),∃ y t',zs[j]?=some y/\its.toArray[j]=.str y t':=fun j wP=>by
  have qF:j<zs.length:=by rw [hl];simpa using wP
  obtain ⟨t',ht⟩:=aeQ sa (j:=j) (z:=zs[j]) (by simp);refine ⟨zs[j],t',by simp,?_⟩
  have:=(G9.mp ht).2
  simpa using this
 have hsz:zs.idxOf zz<its.toArray.size:=by rw [K3,<- hl];exact hj
 rw [sizeLine_eq] at z;refine call_meets F.slot_list_index ⟨_,e,rfl⟩ F.entry_list_index (F.args_list_index_2 _ _)
  (MeetsSeq.list_index l its.toArray n (.str zz t) (isStrOf zz) (fun y hy=>eq_isStrOf zz t sa y (by simpa using hy)) (zs.idxOf zz) hsz (by lia) ?_ (fun m bA D0=>?_)) ⟨e,?_⟩
 .obtain ⟨y,t',h1,h2⟩:=N6 _ hsz;rw [h2]
  have:y=zz:=by
   have:=bP hj
   rw [N0 hj,this] at h1;exact (Option.some.inj h1).symm
  subst this;simp [isStrOf]
 .obtain ⟨y,t',h1,h2⟩:=N6 _ bA;rw [h2]
  have:y≠zz:=fun q=>by
   obtain ⟨h3,h4⟩:=G9.mp h1
   have:=List.not_of_lt_findIdx (show m<zs.findIdx (· == zz) from D0)
   rw [h4] at this;simp [q] at this
  simp [isStrOf,this]
 .exact ⟨.int (zs.idxOf zz:Nat),H,I.tok _,⟨_,rfl⟩,q⟩
theorem alo : QMt X "list.index" ajJ:=⟨fun pins s Y H x xs v us Q I rx rv h=>ajK pins s Y H x xs v us Q I rx rv h⟩
noncomputable def tI:V->List V->Hp->VK->Prop:=fun x vs H Q=>∃ (l:Addr) (zs:List Int) (z:Int),x=.ref l/\vs=[.int z]/\H l=some (.lst (zs.map V.int))/\z∈zs/\Q .non (A4 H l (.lst ((zs.erase z).map V.int)))
theorem aeV:∀ {vs:List Value} {zs:List Int},IntsAre vs zs->∀ {j:Nat} {z:Int},zs[j]?=some z->∃ t,vs[j]?=some (.int z t)
 | _,_,.nil,_,_,h=>by simp at h
 | _,_,.cons _ _ _,0,_,h=>by simp at h;subst h;exact ⟨_,rfl⟩
 | _,_,.cons _ _ r,j+1,z,h=>by
  obtain ⟨t,q⟩:=aeV r (j:=j) (z:=z) (by simpa using h);exact ⟨t,by simpa using q⟩
theorem aig : eC X "list.remove" tI:=by
 intro pins s Y H x vs v us Q I rx rv h;obtain ⟨l,zs,zz,rfl,rfl,hH,hm,q⟩:=h
 cases rx
 obtain ⟨u,rfl,ru⟩:=rv.one;obtain ⟨t,rfl⟩:=ru;obtain ⟨z,its,n,r,hl,e⟩:=I.lstM hH;have sa:=zF r;have hj:zs.idxOf zz<zs.length:=y8.mpr hm;rw [A7] at hl;have N6:∀ (j:Nat) (hj:j<its.toArray.size),∃ y t',zs[j]?=some y/\its.toArray[j]=.int y t':=fun j wP=>by
  have qF:j<zs.length:=by rw [hl];simpa using wP
  obtain ⟨t',ht⟩:=aeV sa (j:=j) (z:=zs[j]) (by simp);refine ⟨zs[j],t',by simp,?_⟩
  have:=(G9.mp ht).2
  simpa using this
 have hsz:zs.idxOf zz<its.toArray.size:=by rw [K3,<- hl];exact hj
 refine call_meets F.slot_list_remove ⟨_,e,rfl⟩ F.entry_list_remove (F.args_list_remove_2 _ _)
  (MeetsSeq.list_remove l its.toArray n (.int zz t) (isInt zz) (fun y hy=>eq_isInt zz t sa y (by simpa using hy)) (zs.idxOf zz) hsz ?_ (fun m bA D0=>?_) (by rw [K3,<- hl];rw [A7] at z;exact z)) ⟨e,?_⟩
 .obtain ⟨y,t',h1,h2⟩:=N6 _ hsz;rw [h2]
  have:y=zz:=by
   have:=bP hj
   rw [N0 hj,this] at h1;exact (Option.some.inj h1).symm
  subst this;simp [isInt]
 .obtain ⟨y,t',h1,h2⟩:=N6 _ bA;rw [h2]
  have:y≠zz:=fun q=>by
   obtain ⟨h3,h4⟩:=G9.mp h1
   have:=List.not_of_lt_findIdx (show m<zs.findIdx (· == zz) from D0)
   rw [h4] at this;simp [q] at this
  simp [isInt,this]
 .refine ⟨.non,_,I.lset (its':=its.eraseIdx (zs.idxOf zz)) hH e ?_ ?_ ?_,rfl,q⟩
  .show its.toArray.eraseIdxIfInBounds (zs.idxOf zz)=_;rw [List.eraseIdxIfInBounds_toArray]
  .rw [List.erase_eq_eraseIdx_of_idxOf (l:=zs) (a:=zz) (w:=rfl),oH];exact r.eraseIdx _
  .rw [A7,nE hm];rw [A7] at z;lia
theorem ajL : QMt X "list.remove" tI:=⟨fun pins s Y H x xs v us Q I rx rv h=>aig pins s Y H x xs v us Q I rx rv h⟩
theorem aoV{l:Addr}{zs:List Int}{z:Int}(h:H l=some (.lst (zs.map V.int)))(hm:z∈zs)(q:Q .non (A4 H l (.lst ((zs.erase z).map V.int)))):tI (.ref l) [.int z] H Q:=⟨l,zs,z,rfl,rfl,h,hm,q⟩
noncomputable def rMinL:List V->Hp->VK->Prop:=fun xs H Q=>∃ (p:Addr) (ns:List Int),xs=[.ref p]/\H p=some (.lst (ns.map V.int))/\ns≠[]/\∀ M:Int,M∈ns->(∀ a∈ns,M<=a)->Q (.int M) H
theorem ajM(hc:X.calm=true):CallR X (.builtin "min") rMinL:=by
 intro pins s Y H xs us Q I r h;obtain ⟨p,ns,rfl,hH,G3,q⟩:=h;obtain ⟨u,rfl,ru⟩:=vals1 r
 cases ru
 obtain ⟨z,its,n,rr,hl,e⟩:=I.lstM hH;have hi:=zF rr;have hL:s.heap.IsList p its.toArray:=⟨_,e,rfl,n,rfl⟩
 obtain ⟨ys,e2⟩:=hi.allInts.items;have cV:ns=ys.toList.map (·.1):=by rw [<- hi.numsOf,<- nums_intItems,<- e2]
 have hsz:0<ys.size:=by
  have h3:=r0.mpr G3;rw [cV,A7,dX] at h3;exact h3
 rw [e2] at hL;refine min_intList (I.ok.hd hc) hL hsz fun v h' tk hv hk=>?_
 obtain ⟨t,rfl⟩:=intItems_at hv;obtain ⟨h1,h2⟩:=argBest_lt (numAt ys) (ys.size-1);refine ⟨.int _,H,I.kept hk,⟨t,rfl⟩,q _ ?_ fun a ha=>?_⟩
 .rw [cV,numAt_eq];exact getD_mem (by rw [A7,dX];lia)
 .rw [cV] at ha;obtain ⟨j,hj,rfl⟩:=mem_getD ha;rw [A7,dX] at hj;rw [<- numAt_eq];exact h2 j (by lia)
theorem aoW(hc:X.calm=calm:=by rfl):QCall X (.builtin "min") (rCalm calm rMinL):=⟨fun pins s Y H xs us Q I r h=>ajM (hc.trans h.1) pins s Y H xs us Q I r h.2⟩
theorem aoX : rMinL [.ref p] H Q=∃ ns:List Int,H p=some (.lst (ns.map V.int))/\ns≠[]/\∀ M:Int,M∈ns->(∀ a∈ns,M<=a)->Q (.int M) H:=
 propext ⟨fun ⟨_,ns,e,h⟩=>(by cases e;exact ⟨ns,h⟩),fun ⟨ns,h⟩=>⟨p,ns,rfl,h⟩⟩
noncomputable def gY (n:Nat) (fr:St) (Pv:Nat->List V->Hp->Prop) (i:Nat) (ys:List V) (σ2:St) (H2:Hp):Prop:=i<=n/\ys.length<=i/\(∃ v w,σ2=v::w::fr)/\Pv i ys H2
theorem gY.put{fr:St}{Pv:Nat->List V->Hp->Prop}{ys:List V}{o o2:Option V}(hi:i<n)(hy:ys.length<=i)(p:Pv (i+1) (ys++[y]) H):gY n fr Pv (i+1) (ys++[y]) (o::o2::fr) H:=
 ⟨hi,by rw [D1,W7];lia,⟨_,_,rfl⟩,p⟩
theorem compE{l:Addr}(fr:St)(n8:compStart 2 ixs Y=none::none::fr)(Pv:Addr->Nat->List V->Hp->Prop)(h0:∀ D,H1 D=none->Pv D 0 [] (A4 H1 D (.lst [])))(hl:∀ D i ys H,H1 D=none->i<=xs.length->Pv D i ys H->H l=some (.lst xs))(hs:∀ D i x t ys H,H1 D=none->i<xs.length->xs[i]?=some x->Pv D i ys H->H D=some (.lst ys)->ys.length<=i->H t=none->c (some (.int i)::some x::fr) (A4 H t (.tup [.int i,x])) fun b H4=>
   if b=true then te (some (.int i)::some x::fr) H4 fun y H5=>H5 D=some (.lst ys)/\ys.length<sizeLine/\gY xs.length fr (Pv D) (i+1) (ys++[y]) (some (.int i)::some x::fr) (A4 H5 D (.lst (ys++[y])))
   else H4 D=some (.lst ys)/\gY xs.length fr (Pv D) (i+1) ys (some (.int i)::some x::fr) H4)(hd:∀ D ys H,H1 D=none->Pv D xs.length ys H->H D=some (.lst ys)->ys.length<=xs.length->Q (.ref D) H):cD (kG l) 2 ixs (gTup K 2 (gCons (gName 0) (gCons (gName 1) gNil))) c te Y Q H1:=by
 intro D hD;refine ⟨xs.length,gY xs.length fr (Pv D),⟨K1 _,K1 _,⟨none,none,n8⟩,h0 D hD⟩,?_⟩;rintro i ys σ2 H2 ⟨hi,hy,⟨v,w,rfl⟩,p⟩ hDy;have q:=hl D i ys H2 hD hi p
 by_cases D0:i<xs.length
 .refine .inr ⟨D0,⟨xs,xs[i],q,by simp [D0]⟩,fun x H' y=>?_⟩;obtain ⟨t,xs',x',f1,hx,ht,rfl,rfl⟩:=y;rw [q] at f1;cases f1;exact ⟨t,_,rfl,C9.of A5,rfl,_,_,rfl,_,_,rfl,rfl,hs D i x' t ys H2 hD D0 hx p hDy hy ht⟩
 .have e:i=xs.length:=by lia
  subst e;exact .inl ⟨⟨xs,q,C5 _⟩,hd D ys H2 hD p hDy hy⟩
end L2
set_option maxRecDepth 100000
namespace L2
open PySem PySem.Spec PyProof.Rows
section
variable {X:Cx} {o value:Expr} {to tv:TE} {pos tpos:Pos} {st:Stmt} {t:TS} {h₀:ExceptHandler} {hs:List ExceptHandler}
end
end L2
set_option maxRecDepth 100000
namespace L2
open PySem PySem.Spec PyProof.Rows
theorem aoY{k:Int}{v:V}{Q:Hp->Prop} : rSetL (.ref p) (.int k) v H Q=∃ xs j,H p=some (.lst xs)/\Y1 xs.length k=some j/\Q (A4 H p (.lst (xs.set j v))):=
 propext ⟨fun ⟨_,xs,_,j,e1,e2,h⟩=>(by cases e1;cases e2;exact ⟨xs,j,h⟩),fun ⟨xs,j,h⟩=>⟨p,xs,k,j,rfl,rfl,h⟩⟩
end L2
set_option maxRecDepth 100000
namespace L2
open PySem PySem.Spec PyProof.Rows
noncomputable def FS (ts bad:List Str) (z:Str->Prop) (fr:List Int):Prop:=fr.Nodup/\∀ n:Int,n∈fr↔∃ (m:Nat) (q:Str),n=(m:Int)/\ts[m]?=some q/\q∉bad/\z q
theorem FS.nil(z:Str->Prop):FS [] [] z []:=⟨by simp,fun n=>by simp⟩
theorem FS.snoc{z:Str->Prop}(h:FS ts bad z fr)(hi:i=ts.length)(hb:q∉bad):(z q->FS (ts++[q]) bad z (fr++[(i:Int)]))/\(¬ z q->FS (ts++[q]) bad z fr):=by
 have M0:∀ (m:Nat) (x:Str),(ts++[q])[m]?=some x↔(ts[m]?=some x\/(m=i/\x=q)):=fun m x=>by
  rcases Nat.lt_trichotomy m ts.length with hm | hm | hm
  .rw [bM hm]
   constructor
   .exact .inl
   .rintro (h | ⟨h,_⟩)
    .exact h
    .lia
  .subst hm;rw [dM (C5 _),Nat.sub_self]
   have:ts[ts.length]?=none:=by simp
   rw [this];simp [hi,eq_comm]
  .have h1:ts[m]?=none:=by simp;lia
   have h2:(ts++[q])[m]?=none:=by simp;lia
   rw [h1,h2]
   simp
   lia
 have lN:(i:Int)∉fr:=fun hm=>by
  obtain ⟨m,x,e,h1,_⟩:=(h.2 _).mp hm
  have:=(G9.mp h1).1
  lia
 refine ⟨fun hz=>⟨?_,fun n=>?_⟩,fun hz=>⟨h.1,fun n=>?_⟩⟩
 .rw [g7];refine ⟨h.1,by simp,fun x hx y hy e=>lN ?_⟩;rw [<- E6.mp hy,<- e];exact hx
 .rw [F6,h.2,E6]
  constructor
  .rintro (⟨m,x,e,h1,h2,h3⟩ | rfl)
   .exact ⟨m,x,e,(M0 m x).mpr (.inl h1),h2,h3⟩
   .exact ⟨i,q,rfl,(M0 i q).mpr (.inr ⟨rfl,rfl⟩),hb,hz⟩
  .rintro ⟨m,x,e,h1,h2,h3⟩
   rcases (M0 m x).mp h1 with h1 | ⟨rfl,rfl⟩
   .exact .inl ⟨m,x,e,h1,h2,h3⟩
   .exact .inr e
 .rw [h.2]
  constructor
  .rintro ⟨m,x,e,h1,h2,h3⟩;exact ⟨m,x,e,(M0 m x).mpr (.inl h1),h2,h3⟩
  .rintro ⟨m,x,e,h1,h2,h3⟩
   rcases (M0 m x).mp h1 with h1 | ⟨rfl,rfl⟩
   .exact ⟨m,x,e,h1,h2,h3⟩
   .exact absurd h3 hz
theorem ahx(nd:ts.Nodup)(h1:ts[i]?=some q)(h2:ts[j]?=some q):i=j:=by
 obtain ⟨a1,b1⟩:=G9.mp h1;obtain ⟨a2,b2⟩:=G9.mp h2
 have:=f9.mp nd
 rw [q5] at this
 rcases Nat.lt_trichotomy i j with hl | hl | hl
 .exact absurd (b1.trans b2.symm) (this i j a1 a2 hl)
 .exact hl
 .exact absurd (b2.trans b1.symm) (this j i a2 a1 hl)
theorem FS.take{z:Str->Prop}(nd:ts.Nodup)(h:FS ts bad z fr){M:Nat}{p:Str}(hp:ts[M]?=some p):FS ts (bad++[p]) z (fr.erase (M:Int)):=by
 refine ⟨h.1.erase _,fun n=>?_⟩;rw [h.1.mem_erase_iff,h.2]
 constructor
 .rintro ⟨G3,m,x,e,h1,h2,h3⟩;refine ⟨m,x,e,h1,fun hm=>?_,h3⟩
  rcases F6.mp hm with hm | hm
  .exact h2 hm
  .rw [E6.mp hm] at h1;exact G3 (by rw [e,ahx nd h1 hp])
 .rintro ⟨m,x,e,h1,h2,h3⟩;refine ⟨fun e2=>h2 ?_,m,x,e,h1,fun hm=>h2 (L4 _ hm),h3⟩
  have:m=M:=by lia
  subst this;rw [hp] at h1;cases h1
  simp
theorem FS.turn{z z':Str->Prop}(nd:ts.Nodup)(h:FS ts bad z fr){y:Str}(G3:∀ q,q≠y->(z' q↔z q))(hy:¬ z y)(hm:ts[m]?=some y)(hb:y∉bad):(z' y->FS ts bad z' (fr++[(m:Int)]))/\(¬ z' y->FS ts bad z' fr):=by
 have lN:(m:Int)∉fr:=fun h1=>by
  obtain ⟨k,x,e,h2,_,h3⟩:=(h.2 _).mp h1
  have:k=m:=by lia
  subst this;rw [hm] at h2;cases h2;exact hy h3
 have Z2:∀ (k:Nat) (x:Str),ts[k]?=some x->x≠y\/(k=m/\x=y):=fun k x hk=>by
  by_cases e:x=y
  .subst e;exact .inr ⟨ahx nd hk hm,rfl⟩
  .exact .inl e
 refine ⟨fun hz=>⟨?_,fun n=>?_⟩,fun hz=>⟨h.1,fun n=>?_⟩⟩
 .rw [g7];refine ⟨h.1,by simp,fun x hx w hw e=>lN ?_⟩;rw [<- E6.mp hw,<- e];exact hx
 .rw [F6,h.2,E6]
  constructor
  .rintro (⟨k,x,e,h1,h2,h3⟩ | rfl)
   .rcases Z2 k x h1 with c | ⟨_,rfl⟩
    .exact ⟨k,x,e,h1,h2,(G3 x c).mpr h3⟩
    .exact absurd h3 hy
   .exact ⟨m,y,rfl,hm,hb,hz⟩
  .rintro ⟨k,x,e,h1,h2,h3⟩
   rcases Z2 k x h1 with c | ⟨rfl,rfl⟩
   .exact .inl ⟨k,x,e,h1,h2,(G3 x c).mp h3⟩
   .exact .inr e
 .rw [h.2]
  constructor
  .rintro ⟨k,x,e,h1,h2,h3⟩
   rcases Z2 k x h1 with c | ⟨_,rfl⟩
   .exact ⟨k,x,e,h1,h2,(G3 x c).mpr h3⟩
   .exact absurd h3 hy
  .rintro ⟨k,x,e,h1,h2,h3⟩
   rcases Z2 k x h1 with c | ⟨_,rfl⟩
   .exact ⟨k,x,e,h1,h2,(G3 x c).mp h3⟩
   .exact absurd h3 hz
theorem FS.congr{z z':Str->Prop}(h:FS ts bad z fr)(e:∀ q,z' q↔z q):FS ts bad z' fr:=⟨h.1,fun n=>by rw [h.2];exact ⟨fun ⟨m,x,a,b,c,d⟩=>⟨m,x,a,b,c,(e x).mpr d⟩,fun ⟨m,x,a,b,c,d⟩=>⟨m,x,a,b,c,(e x).mp d⟩⟩⟩
theorem agT{E:List (Str×Str)}(h:FS ts line (fun q=>G4 E line q=0) fr){M:Int}(hM:M∈fr)(fJ:∀ a∈fr,M<=a):∃ (m:Nat) (p:Str),M=(m:Int)/\ts[m]?=some p/\nextP E ts line=some p:=by
 obtain ⟨m,p,e,h1,h2,h3⟩:=(h.2 M).mp hM;refine ⟨m,p,e,h1,?_⟩;rw [aeR];obtain ⟨hm,rfl⟩:=G9.mp h1;have e1:ts=ts.take m++ts[m]::ts.drop (m+1):=by rw [<- List.drop_eq_getElem_cons hm,q9]
 generalize hP:(fun p=>!decide (p∈line)&&decide (∀ e∈E,e.2=p->e.1∈line))=P;have hp:P ts[m]=true:=by
  rw [<- hP];simp only [W9,jI,decide_eq_false_iff_not,decide_eq_true_eq];exact ⟨h2,cnt_zero.mp h3⟩
 have mE:(ts.take m).find? P=none:=by
  rw [List.find?_eq_none];intro x hx hxP;obtain ⟨k,hk,rfl⟩:=V0.mp hx;rw [K5] at hk;rw [List.getElem_take,<- hP] at hxP;simp only [W9,jI,decide_eq_false_iff_not,decide_eq_true_eq] at hxP
  have:=fJ (k:Int) ((h.2 _).mpr ⟨k,ts[k],rfl,by simp,hxP.1,cnt_zero.mpr hxP.2⟩)
  lia
 conv=>lhs;rw [e1]
 rw [List.find?_append,mE,t4,hp];rfl
theorem alp{E:List (Str×Str)}(r:S9 E ts line)(h:q∈line):G4 E line q=0:=by
 obtain ⟨pre,post,rfl⟩:=List.append_of_mem h
 have:=(gS (r pre q post rfl)).2.2
 rw [cnt_zero] at this ⊢
 intro e he h2;exact L4 _ (this e he h2)
theorem aga{f:Str->V} : ∀ {ts pre:List Str},(pre++ts).Nodup->W0 (C2 pre f) (C2 ts f)=C2 (pre++ts) f
 | [],pre,_=>by rw [L7];rfl
 | t::ts,pre,h=>by
  have ht:t∉pre:=fun hm=>(g7.mp h).2.2 t hm t J7 rfl
  show W0 (putK (C2 pre f) (Sum.inr t) (f t)) (C2 ts f)=_;rw [aN _ ht,show C2 (pre++[t]) (fun x=>if x=t then f t else f x)=C2 (pre++[t]) f from T0 fun x _=>by
   by_cases e:x=t
   .rw [if_pos e,e]
   .rw [if_neg e]]
  rw [aga (pre:=pre++[t]) (by simpa using h)]
  simp
theorem aeW:∀ {l m:List Int},l.Nodup->(∀ x∈l,x∈m)->l.length<=m.length
 | [],_,_,_=>K1 _
 | x::l,m,nd,h=>by
  obtain ⟨n1,n2⟩:=Q4.mp nd;have hx:=h x J7
  have:=aeW (l:=l) (m:=m.erase x) n2 fun y hy=>(List.mem_erase_of_ne (fun e=>n1 (by rw [<- e];exact hy))).mpr (h y (I0 _ hy))
  rw [nE hx] at this;have U6:=List.length_pos_of_mem hx;rw [F8];lia
theorem ahy{f:Str->V} : ∀ {qs:List Addr} {ts:List Str},Paired (fun q t=>H q=some (.tup [.str t,f t])) qs ts->Paired (fun q (kx:C3×V)=>C9 K H q [kV kx.1,kx.2]) qs (C2 ts f)
 | _,_,.nil=>.nil
 | _,_,.cons h t=>.cons (.of h) (ahy t)
theorem forRs{g:TG}(Pv:Nat->St->Hp->Prop)(h0:Pv 0 Y H)(hs:∀ (P':Nat->St->Hp->Prop) (B':St->Hp->Prop),(∀ i Y H,Pv i Y H->P' i Y H)->∀ i Y H,i<n->Pv i Y H->g (.int (lo+i)) Y H fun σ2 H2=>tb { D with nx:=P' (i+1),ct:=P' (i+1),bk:=B' } σ2 H2)(hd:∀ Y H,Pv n Y H->D.nx Y H):ForIt (k6 lo n) g tb D Y H:=forR Pv h0 (hs Pv _ fun _ _ _ h=>h) hd
theorem forLs{g:TG}(Pv:Nat->St->Hp->Prop)(h0:Pv 0 Y H)(hl:∀ i Y H,i<=xs.length->Pv i Y H->E5 K H a xs)(hs:∀ (P':Nat->St->Hp->Prop) (B':St->Hp->Prop),(∀ i Y H,Pv i Y H->P' i Y H)->∀ i x Y H,xs[i]?=some x->Pv i Y H->g x Y H fun σ2 H2=>tb { D with nx:=P' (i+1),ct:=P' (i+1),bk:=B' } σ2 H2)(hd:∀ Y H,Pv xs.length Y H->D.nx Y H):ForIt (k5 K a) g tb D Y H:=forL Pv h0 hl (hs Pv _ fun _ _ _ h=>h) hd
theorem midS{t u:TS}(M:St->Hp->Prop)(h:∀ M':St->Hp->Prop,(∀ Y H,M Y H->M' Y H)->t { D with nx:=M' } Y H)(h2:∀ σ' H',M σ' H'->u D σ' H'):tSeqM t u D Y H:=⟨M,h M fun _ _ h=>h,h2⟩
noncomputable def alV:Sp:=fun vs H Q _=>∃ (a:Addr) (rs:List Addr) (zss:List (List Str)),vs=[.ref a]/\IsRows H a rs zss/\zss.flatten.length<=100000/\
 ∀ l H',H l=none->Same H H'->H' l=some (.lst ((toldL zss).map V.str))->Q (.ref l) H'
noncomputable def gZ:Sp:=fun vs H Q _=>∃ c,vs=[.str ⟨#[c]⟩]/\Q (.bl (figO c)) H
noncomputable def L1 (R:List Rl):List (Str×List Str):=R.filterMap fun z=>if z.1=("great" : Str) then z.2.head?.map fun y=>(y,z.2.drop 1) else none
noncomputable def E7 (R:List Rl):List Str:=E9 [] ((L1 R).map (·.1))
noncomputable def G0 (R:List Rl) (y:Str):List Str:=((L1 R).filter fun e=>decide (e.1=y)).flatMap (·.2)
theorem oO(A B:List Rl):L1 (A++B)=L1 A++L1 B:=by
 unfold L1;rw [fU]
theorem tJ{R:List Rl}{z:Rl}(h:R[i]?=some z):L1 (R.take (i+1))=L1 (R.take i)++L1 [z]:=by
 rw [L9 h,oO]
theorem oP{z:Rl}(h:z.1≠("great" : Str)):L1 [z]=[]:=by
 unfold L1;rw [g6,if_neg h];rfl
theorem tK{y:Str}{fs:List Str} : L1 [(("great" : Str),y::fs)]=[(y,fs)]:=by
 unfold L1;rw [g6,if_pos rfl];rfl
theorem tL{A:List Rl}{y:Str}{fs:List Str}(x:Str):G0 (A++[(("great" : Str),y::fs)]) x=if x=y then G0 A x++fs else G0 A x:=by
 unfold G0;rw [oO,tK,V1,j1]
 by_cases h:x=y
 .subst h;simp
 .have:¬ (y=x):=fun e=>h e.symm
  simp [this,h]
theorem oQ{A:List Rl}{y:Str}{fs:List Str} : E7 (A++[(("great" : Str),y::fs)])=dd (E7 A) y:=by
 unfold E7 E9;rw [oO,tK,E4,j3];rfl
noncomputable def ahz (K:PySem.W.Frag):Sp:=fun vs H Q _=>∃ (a:Addr) (ts:List Addr) (R:List Rl),vs=[.ref a]/\IsRules H a ts R/\(∀ z∈R,z.1=("great" : Str)->z.2≠[])/\R.length<=1000/\(∀ i y,(G0 (R.take i) y).length<=10000)/\
 ∀ d ad H',H d=none->Same H H'->H' d=some (.dK (C2 (E7 R) fun y=>.ref (ad y)))->DL H H' (E7 R) ad (G0 R)->Q (.ref d) H'
theorem tM(xs:List V)(h:i<=j):cutV xs (some (i:Int)) (some (j:Int))=(xs.drop i).take (j-i):=by
 unfold cutV;rw [HT.sIx_nat,HT.sIx_nat]
 by_cases hi:i<=xs.length
 .rw [fZ hi]
  by_cases hj:j<=xs.length
  .rw [fZ hj]
  .rw [Nat.min_eq_right (by lia),j0 (by rw [j4];exact C5 _),j0 (by rw [j4];lia)]
 .rw [Nat.min_eq_right (by lia:xs.length<=i),nF (C5 _),nF (by lia),List.take_nil,List.take_nil]
structure Used(ks:List Str)(g:Str->V)(z:Rl):Prop where
 gr:z.1=("great" : Str)->∀ p∈z.2.take 1,p∈ks/\g p=.str "letter"
 a1:z.1=("as" : Str)->∀ p∈(z.2.drop 1).take 1,p∈ks/\g p=.str "letter"
 a2:z.1=("as" : Str)->∀ p∈z.2.drop 2,p∈ks/\(g p=.str "letter"\/g p=.str "mark")
noncomputable def alW (K:PySem.W.Frag):Sp:=fun vs H Q _=>∃ (t d:Addr) (z:Rl) (ks:List Str) (g:Str->V),vs=[.ref t,.ref d]/\H t=some (tupR z)/\H d=some (.dK (C2 ks g))/\Used ks g z/\z.2.length<=1000/\∀ p H',H p=none->Same H H'->H' p=some (.lst [])->Q (.ref p) H'
noncomputable def ahA (K:PySem.W.Frag):Sp:=fun vs H Q _=>∃ (a d:Addr) (ts:List Addr) (R:List Rl) (ks:List Str) (g:Str->V),vs=[.ref a,.ref d]/\IsRules H a ts R/\H d=some (.dK (C2 ks g))/\(∀ z∈R,Used ks g z/\z.2.length<=1000)/\∀ H',Same H H'->Q .non H'
noncomputable abbrev Tr:=Int×Int×Int
noncomputable def tupT (s:Tr):HO:=.tup [.int s.1,.int s.2.1,.int s.2.2]
structure StepAt(H:Hp)(r:Addr)(ss:List Tr):Prop where
 ex:∃ ts:List Addr,H r=some (.tup (ts.map V.ref))/\Paired (fun t s=>H t=some (tupT s)) ts ss
theorem StepAt.same{ss:List Tr}(h:StepAt H r ss)(S:Same H H'):StepAt H' r ss:=
 let ⟨ts,h1,h2⟩:=h.ex
 ⟨ts,S _ _ h1,O6 h2 fun _ _ e=>S _ _ e⟩
theorem StepAt.put{d:Addr}{ss:List Tr}{o o':HO}(h:StepAt H r ss)(hd:H d=some o')(hn:∀ xs,o'≠.tup xs):StepAt (A4 H d o) r ss:=by
 obtain ⟨ts,h1,h2⟩:=h.ex;refine ⟨ts,?_,O6 h2 fun t s e=>?_⟩
 .rw [A9 (fun e=>by rw [e,hd] at h1;exact hn _ (Option.some.inj h1))];exact h1
 .rw [A9 (fun q=>by rw [q,hd] at e;exact hn _ (Option.some.inj e))];exact e
theorem StepAt.one{t:Addr}{s:Tr}(h1:H r=some (.tup [.ref t]))(h2:H t=some (tupT s)):StepAt H r [s]:=⟨[t],h1,.cons h2 .nil⟩
noncomputable def IsMade (H:Hp) (d:Addr) (ks:List Str) (F:Str->List Tr):Prop:=∃ ad:Str->Addr,H d=some (.dK (C2 ks fun y=>.ref (ad y)))/\∀ y∈ks,StepAt H (ad y) (F y)
theorem IsMade.same{d:Addr}{F:Str->List Tr}(h:IsMade H d ks F)(S:Same H H'):IsMade H' d ks F:=
 let ⟨ad,h1,h2⟩:=h
 ⟨ad,S _ _ h1,fun y hy=>(h2 y hy).same S⟩
theorem IsMade.put{d:Addr}{F:Str->List Tr}{ad:Str->Addr}(h1:H d=some (.dK (C2 ks fun y=>.ref (ad y))))(h2:∀ y∈ks,StepAt H (ad y) (F y)){l:Str}(hp:StepAt H p (F l)) :
  IsMade (A4 H d (.dK (putK (C2 ks fun y=>.ref (ad y)) (Sum.inr l) (.ref p)))) d (dd ks l) F:=by
 refine ⟨fun y=>if y=l then p else ad y,?_,fun y hy=>?_⟩
 .rw [A5];have e:∀ t,(if t=l then V.ref p else V.ref (ad t))=V.ref (if t=l then p else ad t):=fun t=>by
   by_cases h:t=l
   .rw [if_pos h,if_pos h]
   .rw [if_neg h,if_neg h]
  unfold dd
  by_cases hl:l∈ks
  .rw [if_pos hl,oJ _ hl];exact congrArg (fun x=>some (HO.dK x)) (T0 fun t _=>e t)
  .rw [if_neg hl,aN _ hl];exact congrArg (fun x=>some (HO.dK x)) (T0 fun t _=>e t)
 .by_cases h:y=l
  .subst h;show StepAt _ (if y=y then p else ad y) _;rw [if_pos rfl];exact hp.put h1 (by intro xs e;cases e)
  .show StepAt _ (if y=l then p else ad y) _;rw [if_neg h];refine (h2 y ?_).put h1 (by intro xs e;cases e);unfold dd at hy
   by_cases hl:l∈ks
   .rw [if_pos hl] at hy;exact hy
   .rw [if_neg hl] at hy
    rcases F6.mp hy with q | q
    .exact q
    .exact absurd (E6.mp q) h
structure StI(H H2:Hp)(d:Addr)(P:List Str)(F:Str->List Tr):Prop where
 same:Same H H2
 made:IsMade H2 d (E9 [] P) F
theorem alq(P:List Str)(x:Str):E9 [] (P++[x])=dd (E9 [] P) x:=by
 unfold E9;rw [j3];rfl
theorem StI.putX{d:Addr}{P:List Str}{F:Str->List Tr}(nd:H d=none)(h:StI H H2 d P F)(hP:P.length<100000){l:Str}(hp:StepAt H2 p (F l)) :
  ∃ kvs o,H2 d=some (.dK kvs)/\DPut H2 d (V.str l) (V.ref p) (A4 H2 d o)/\StI H (A4 H2 d o) d (P++[l]) F:=by
 obtain ⟨ad,h1,h2⟩:=h.made;have hl:=eJ P [];rw [V4,Nat.zero_add] at hl;refine ⟨_,_,h1,k8 (k:=Sum.inr l) h1 (by rw [b0];exact G7 (by lia)),h.same.put nd,?_⟩;rw [alq];exact IsMade.put h1 h2 hp
theorem StI.put{d:Addr}{P:List Str}{F:Str->List Tr}(nd:H d=none)(h:StI H H2 d P F)(hP:P.length<100000){l:Str}(hp:StepAt H2 p (F l)) :
  ∃ x,DPut H2 d (V.str l) (V.ref p) x/\StI H x d (P++[l]) F:=
 let ⟨_,_,_,h1,h2⟩:=h.putX nd hP hp
 ⟨_,h1,h2⟩
theorem StI.more{d:Addr}{P:List Str}{F:Str->List Tr}(h:StI H H2 d P F)(S:Same H2 H3):StI H H3 d P F:=⟨h.same.trans S,h.made.same S⟩
theorem StI.frz{d:Addr}{P:List Str}{F:Str->List Tr}{o:HO}(h:StI H H2 d P F)(hf:H2 f=some (.dK kvs))(n:H f=none)(nf:f≠d):StI H (A4 H2 f o) d P F:=
 let ⟨ad,h1,h2⟩:=h.made
 ⟨h.same.put n,ad,by rw [A9 nf.symm];exact h1,fun y hy=>(h2 y hy).put hf (by intro xs e;cases e)⟩
theorem StI.thaw{d:Addr}{P:List Str}{F:Str->List Tr}{q:Obj}{o o':HO}(h:StI H H2 d P F)(hf:H2 f=some (.frz q o'))(n:H f=none)(nf:f≠d):StI H (A4 H2 f o) d P F:=
 let ⟨ad,h1,h2⟩:=h.made
 ⟨h.same.put n,ad,by rw [A9 nf.symm];exact h1,fun y hy=>(h2 y hy).put hf (by intro xs e;cases e)⟩
structure FoI(H H2:Hp)(d f:Addr)(o:Obj)(ts:List Str)(af:Str->Addr)(G:Str->List Str)(P:List Str)(F:Str->List Tr):Prop where
 frz:H2 f=some (.frz o (.dK (C2 ts fun y=>.ref (af y))))
 rows:∀ y∈ts,H2 (af y)=some (.lst ((G y).map V.str))
 st:StI H H2 d P F
theorem FoI.more{d:Addr}{af:Str->Addr}{G:Str->List Str}{P:List Str}{F:Str->List Tr}(h:FoI H H2 d f o ts af G P F)(S:Same H2 H3):FoI H H3 d f o ts af G P F:=⟨S _ _ h.frz,fun y hy=>S _ _ (h.rows y hy),h.st.more S⟩
theorem FoI.put{d:Addr}{af:Str->Addr}{G:Str->List Str}{P:List Str}{F:Str->List Tr}(nd:H d=none)(h:FoI H H2 d f o ts af G P F)(hP:P.length<100000){l:Str}(hp:StepAt H2 p (F l)) :
  ∃ x,DPut H2 d (V.str l) (V.ref p) x/\FoI H x d f o ts af G (P++[l]) F:=by
 obtain ⟨kvs,o',h0,h1,h2⟩:=h.st.putX nd hP hp;refine ⟨_,h1,?_,fun y hy=>?_,h2⟩
 .rw [A9 (fun e=>by have:=h.frz;rw [e,h0] at this;cases this)];exact h.frz
 .rw [A9 (fun e=>by have:=h.rows y hy;rw [e,h0] at this;cases this)];exact h.rows y hy
theorem StI.putL{d:Addr}{P:List Str}{F:Str->List Tr}{o:HO}(h:StI H H2 d P F)(hf:H2 f=some (.lst xs))(n:H f=none):StI H (A4 H2 f o) d P F:=
 let ⟨ad,h1,h2⟩:=h.made
 ⟨h.same.put n,ad,by rw [A9 (fun e=>by rw [e,hf] at h1;cases h1)];exact h1,fun y hy=>(h2 y hy).put hf (by intro xs e;cases e)⟩
structure AsI(H H7 H2:Hp)(d:Addr)(P:List Str)(F:Str->List Tr)(ts:List Addr)(ss:List Tr):Prop where
 st:StI H H2 d P F
 pr:Paired (fun t s=>H2 t=some (tupT s)) ts ss
 sm:Same H7 H2
theorem AsI.putL{H7:Hp}{d:Addr}{P:List Str}{F:Str->List Tr}{ts:List Addr}{ss:List Tr}{o:HO}(h:AsI H H7 H2 d P F ts ss)(hf:H2 f=some (.lst xs))(n:H f=none)(n7:H7 f=none):AsI H H7 (A4 H2 f o) d P F ts ss:=
 ⟨h.st.putL hf n,O6 h.pr fun t s e=>by rw [A9 (fun q=>by rw [q,hf] at e;cases e)];exact e,h.sm.put n7⟩
noncomputable def asKs (R:List Rl):List Str:=R.filterMap fun z=>if z.1=("as" : Str) then z.2.head? else none
theorem agb{R:List Rl}{z:Rl}(h:R[i]?=some z):asKs (R.take (i+1))=asKs (R.take i)++asKs [z]:=by
 rw [L9 h];unfold asKs;rw [fU]
theorem ajN{z:Rl}(h:z.1≠("as" : Str)):asKs [z]=[]:=by
 unfold asKs;rw [g6,if_neg h];rfl
theorem ahB{y:Str}{fs:List Str} : asKs [(("as" : Str),y::fs)]=[y]:=by
 unfold asKs;rw [g6,if_pos rfl];rfl
theorem alr(R:List Rl):(asKs R).length<=R.length:=List.length_filterMap_le _ _
structure Made(R:List Rl)(L M:List Str)(F:Str->List Tr):Prop where
 lt:∀ (i:Nat) y,L[i]?=some y->F y=[(2,(i:Int),0)]
 mr:∀ (i:Nat) y,M[i]?=some y->F y=[(0,(i:Int),0)]
 gl:∀ y∈E7 R,y∈L
 gr:∀ y∈E7 R,∀ (c:Nat) f,(G0 R y)[c]?=some f->F f=[(2,(L.idxOf y:Int),((c+1:Nat):Int))]
 ne:∀ z∈R,z.1=("as" : Str)\/z.1=("great" : Str)->z.2≠[]
 pt:∀ z∈R,z.1=("as" : Str)->∀ q∈z.2.drop 1,q∈L\/q∈M
 as:∀ z∈R,z.1=("as" : Str)->∀ p qs,z.2=p::qs->F p=qs.map fun q=>(F q).headD (0,0,0)
noncomputable def allKs (R:List Rl) (L M:List Str):List Str:=L++M++(E7 R).flatMap (G0 R)++asKs R
theorem Made.base{R:List Rl}{F:Str->List Tr}(m:Made R L M F)(h:q∈L\/q∈M):∃ s,F q=[s]:=by
 rcases h with h | h
 .obtain ⟨i,hi,e⟩:=V0.mp h;exact ⟨_,m.lt i q (by rw [N0 hi,e])⟩
 .obtain ⟨i,hi,e⟩:=V0.mp h;exact ⟨_,m.mr i q (by rw [N0 hi,e])⟩
theorem Made.letter{R:List Rl}{F:Str->List Tr}(m:Made R L M F)(h:q∈L):F q=[(2,(L.idxOf q:Int),0)]:=by
 have hi:=y8.mpr h;exact m.lt (L.idxOf q) q (by rw [N0 hi,bP])
noncomputable def ahC (K:PySem.W.Frag):Sp:=fun vs H Q _=>∃ (a b c:Addr) (ts:List Addr) (R:List Rl) (L M:List Str) (F:Str->List Tr),vs=[.ref a,.ref b,.ref c]/\IsRules H a ts R/\Made R L M F/\H b=some (.lst (L.map V.str))/\H c=some (.lst (M.map V.str))/\(∀ z∈R,z.2.length<=1000)/\R.length<=1000/\(∀ i y,(G0 (R.take i) y).length<=10000)/\(allKs R L M).length<=50000/\
 ∀ d H',H d=none->Same H H'->IsMade H' d (E9 [] (allKs R L M)) F->Q (.ref d) H'
noncomputable def baseT (L M:List Str) (q:Str):Tr:=if q∈L then (2,(L.idxOf q:Int),0) else (0,(M.idxOf q:Int),0)
noncomputable def oR (L M:List Str) (R:List Rl):List (Str×List Tr):=R.filterMap fun z=>if z.1=("as" : Str) then z.2.head?.map fun p=>(p,(z.2.drop 1).map (baseT L M)) else none
noncomputable def putsL (R:List Rl) (L M:List Str):List (Str×List Tr):=
 (L.zipIdx.map fun e=>(e.1,[((2:Int),(e.2:Int),(0:Int))]))++(M.zipIdx.map fun e=>(e.1,[((0:Int),(e.2:Int),(0:Int))]))++((E7 R).flatMap fun y=>(G0 R y).zipIdx.map fun e=>(e.1,[((2:Int),(L.idxOf y:Int),((e.2+1:Nat):Int))]))++oR L M R
noncomputable def stepF (R:List Rl) (L M:List Str) (p:Str):List Tr:=((putsL R L M).lookup p).getD []
theorem ajO{p:Str}{s:List Tr} : ∀ {l:List (Str×List Tr)},(l.map (·.1)).Nodup->(p,s)∈l->l.lookup p=some s
 | [],_,h=>by cases h
 | (y,t)::l,nd,h=>by
  rw [G6,Q4] at nd;rw [List.lookup_cons]
  rcases D9.mp h with h | h
  .obtain ⟨rfl,rfl⟩:=Prod.mk.inj h
   simp
  .have:p≠y:=fun e=>nd.1 (E2.mpr ⟨_,h,e⟩)
   have e:(p==y)=false:=by simpa using this
   rw [e];exact ajO nd.2 h
theorem agc(R:List Rl)(L M:List Str):(putsL R L M).map (·.1)=allKs R L M:=by
 have z:∀ (l:List Str) (f:Nat->List Tr),(l.zipIdx.map fun e=>(e.1,f e.2)).map (·.1)=l:=fun l f=>by
  rw [g8];exact List.zipIdx_map_fst 0 l
 have a:(oR L M R).map (·.1)=asKs R:=by
  unfold oR asKs;rw [List.map_filterMap]
  congr 1
  funext z
  by_cases h:z.1=("as" : Str)
  .rw [if_pos h,if_pos h]
   cases z.2 <;> rfl
  .rw [if_neg h,if_neg h];rfl
 unfold putsL allKs;rw [E4,E4,E4,z L fun i=>[(2,(i:Int),0)],z M fun i=>[(0,(i:Int),0)],a,List.map_flatMap]
 congr 2
 congr 1
 funext y
 exact z (G0 R y) fun i=>[(2,(L.idxOf y:Int),((i+1:Nat):Int))]
theorem hJ{R:List Rl}(nd:(allKs R L M).Nodup){p:Str}{s:List Tr}(h:(p,s)∈putsL R L M):stepF R L M p=s:=by
 unfold stepF;rw [ajO (by rw [agc];exact nd) h];rfl
theorem anp{R:List Rl}(nd:(allKs R L M).Nodup)(gl:∀ y∈E7 R,y∈L)(ne:∀ z∈R,z.1=("as" : Str)\/z.1=("great" : Str)->z.2≠[])(pt:∀ z∈R,z.1=("as" : Str)->∀ q∈z.2.drop 1,q∈L\/q∈M):Made R L M (stepF R L M):=by
 have m1:∀ (i:Nat) y,L[i]?=some y->(y,[((2:Int),(i:Int),(0:Int))])∈putsL R L M:=fun i y h=>by
  refine L4 _ (L4 _ (L4 _ (E2.mpr ⟨(y,i),?_,rfl⟩)));rw [List.mem_zipIdx_iff_getElem?];exact h
 have m2:∀ (i:Nat) y,M[i]?=some y->(y,[((0:Int),(i:Int),(0:Int))])∈putsL R L M:=fun i y h=>by
  refine L4 _ (L4 _ (O0 _ (E2.mpr ⟨(y,i),?_,rfl⟩)));rw [List.mem_zipIdx_iff_getElem?];exact h
 have hb:∀ q,q∈L\/q∈M->stepF R L M q=[baseT L M q]:=fun q hq=>by
  unfold baseT
  by_cases h:q∈L
  .rw [if_pos h];have hi:=y8.mpr h;exact hJ nd (m1 (L.idxOf q) q (by rw [N0 hi,bP]))
  .rw [if_neg h];have hm:=hq.resolve_left h;have hi:=y8.mpr hm;exact hJ nd (m2 (M.idxOf q) q (by rw [N0 hi,bP]))
 refine ⟨fun i y h=>hJ nd (m1 i y h),fun i y h=>hJ nd (m2 i y h),gl,fun y hy c f h=>hJ nd ?_,ne,pt,fun z hz e p qs ez=>?_⟩
 .refine L4 _ (O0 _ (V3.mpr ⟨y,hy,E2.mpr ⟨(f,c),?_,rfl⟩⟩));rw [List.mem_zipIdx_iff_getElem?];exact h
 .have:(p,qs.map (baseT L M))∈putsL R L M:=O0 _ (dR.mpr ⟨z,hz,by rw [if_pos e,ez];rfl⟩)
  rw [hJ nd this];refine jG fun q hq=>?_
  rw [hb q (pt z hz e q (by rw [ez];exact hq))];rfl
theorem anq{g:Str->Str}{PL:List (Str×Str)}(nc:NC fg g PL):PL.Pairwise fun a b=>a.1=b.1->b.2∈gU:=by
 rw [q5];intro i j hi hj wO e;refine (nc j PL[j].1 PL[j].2 (by rw [N0 hj])).2.1 ?_;rw [<- e];refine E2.mpr ⟨PL[i],?_,rfl⟩;rw [List.mem_take_iff_getElem];exact ⟨i,by lia,rfl⟩
theorem kL{g:Str->Str}{PL:List (Str×Str)}(nc:NC fg g PL){p j:Str}(h:(p,j)∈PL):g p=j:=by
 obtain ⟨i,hi,e⟩:=V0.mp h;exact (nc i p j (by rw [N0 hi,e])).1.symm
theorem ajP{g:Str->Str}{PL:List (Str×Str)}(nc:NC fg g PL){j:Str}(hj:j∉gU):((PL.filter fun e=>decide (e.2=j)).map (·.1)).Nodup:=by
 rw [f9,List.pairwise_map];refine List.Pairwise.imp_of_mem ?_ ((anq nc).filter _);intro a b _ hb h e
 have:=h e
 have mF:b.2=j:=by simpa using (O1.mp hb).2
 rw [mF] at this;exact hj this
theorem oS{w:Str}(h:eQ w):(jobD w=("great" : Str)↔w="great")/\(jobD w=("as" : Str)↔w="as")/\(jobD w=("letter" : Str)↔w="row")/\(jobD w=("mark" : Str)↔w="marks")/\(jobD w=("over" : Str)↔w="over"):=by
 rcases h with rfl | rfl | rfl | rfl | rfl <;> decide +kernel
theorem age{R:List Rl}{p j:Str} : (p,j)∈D4 R↔∃ z∈R,p∈O5 z/\jobD z.1=j:=by
 unfold D4;rw [V3]
 constructor
 .rintro ⟨z,hz,h⟩;obtain ⟨q,hq,e⟩:=E2.mp h;obtain ⟨rfl,rfl⟩:=Prod.mk.inj e;exact ⟨z,hz,hq,rfl⟩
 .rintro ⟨z,hz,hp,rfl⟩;exact ⟨z,hz,E2.mpr ⟨p,hp,rfl⟩⟩
theorem hV(z:Rl)(R:List Rl):D4 (z::R)=((O5 z).map fun p=>(p,jobD z.1))++D4 R:=by
 unfold D4;rw [Z5]
theorem u6{z:Rl} : (z.1=("great" : Str)->O5 z=z.2.drop 1)/\(z.1=("as" : Str)->O5 z=z.2.take 1)/\(z.1=("row" : Str)\/z.1=("marks" : Str)\/z.1=("over" : Str)->O5 z=z.2):=by
 unfold O5;refine ⟨fun h=>by rw [if_pos h],fun h=>?_,fun h=>?_⟩
 .rw [if_neg (by rw [h];decide +kernel),if_pos h]
 .rw [if_neg,if_neg,if_pos h]
  .rcases h with h | h | h <;> rw [h] <;> decide +kernel
  .rcases h with h | h | h <;> rw [h] <;> decide +kernel
theorem kM:∀ R:List Rl,((D4 R).filter fun e=>decide (e.2=("great" : Str))).map (·.1)=(L1 R).flatMap (·.2)
 | []=>rfl
 | z::R=>by
  rw [hV,V1,E4,kM R];have e:L1 (z::R)=L1 [z]++L1 R:=oO [z] R;rw [e,j1]
  congr 1
  by_cases h:z.1=("great" : Str)
  .obtain ⟨w,ps⟩:=z;obtain rfl:w=("great" : Str):=h;rw [u6.1 rfl,dQ.mpr,g8]
   .cases ps with
    | nil=>simp [L1]
    | cons y fs=>
     rw [tK];show List.map _ fs=_;simp [Function.comp_def]
   .intro a ha;obtain ⟨q,_,rfl⟩:=E2.mp ha;exact decide_eq_true (show jobD "great"=("great" : Str) by decide +kernel)
  .rw [oP h,fT.mpr]
   .rfl
   .intro a ha;obtain ⟨q,hq,rfl⟩:=E2.mp ha
    have:=(oS (kJ hq)).1
    simp only [decide_eq_true_eq];exact fun e=>h (this.mp e)
theorem oT:∀ R:List Rl,((D4 R).filter fun e=>decide (e.2=("as" : Str))).map (·.1)=asKs R
 | []=>rfl
 | z::R=>by
  rw [hV,V1,E4,oT R];have e:asKs (z::R)=asKs [z]++asKs R:=by unfold asKs;rw [<- fU];rfl
  rw [e]
  congr 1
  by_cases h:z.1=("as" : Str)
  .obtain ⟨w,ps⟩:=z;obtain rfl:w=("as" : Str):=h;rw [u6.2.1 rfl,dQ.mpr,g8]
   .cases ps with
    | nil=>simp [asKs]
    | cons y fs=>
     rw [ahB];rfl
   .intro a ha;obtain ⟨q,_,rfl⟩:=E2.mp ha;exact decide_eq_true (show jobD "as"=("as" : Str) by decide +kernel)
  .rw [ajN h,fT.mpr]
   .rfl
   .intro a ha;obtain ⟨q,hq,rfl⟩:=E2.mp ha
    have:=(oS (kJ hq)).2.1
    simp only [decide_eq_true_eq];exact fun e=>h (this.mp e)
theorem agf{R:List Rl}{w p:Str} : p∈(rowsW R w).flatten↔∃ z∈R,z.1=w/\p∈z.2:=by
 unfold rowsW;rw [List.mem_flatten]
 constructor
 .rintro ⟨l,hl,hp⟩;obtain ⟨z,hz,rfl⟩:=E2.mp hl;obtain ⟨h1,h2⟩:=O1.mp hz;exact ⟨z,h1,by simpa using h2,hp⟩
 .rintro ⟨z,hz,e,hp⟩;exact ⟨z.2,E2.mpr ⟨z,O1.mpr ⟨hz,by simpa using e⟩,rfl⟩,hp⟩
theorem mem_letter{R:List Rl}{p:Str} : (p,("letter" : Str))∈D4 R↔p∈(rowsW R "row").flatten:=by
 rw [age,agf]
 constructor
 .rintro ⟨z,hz,hp,e⟩
  have:=(oS (kJ hp)).2.2.1.mp e
  exact ⟨z,hz,this,by rw [u6.2.2 (.inl this)] at hp;exact hp⟩
 .rintro ⟨z,hz,e,hp⟩;exact ⟨z,hz,by rw [u6.2.2 (.inl e)];exact hp,by rw [e];decide +kernel⟩
theorem mem_mark{R:List Rl}{p:Str} : (p,("mark" : Str))∈D4 R↔p∈(rowsW R "marks").flatten:=by
 rw [age,agf]
 constructor
 .rintro ⟨z,hz,hp,e⟩
  have:=(oS (kJ hp)).2.2.2.1.mp e
  exact ⟨z,hz,this,by rw [u6.2.2 (.inr (.inl this))] at hp;exact hp⟩
 .rintro ⟨z,hz,e,hp⟩;exact ⟨z,hz,by rw [u6.2.2 (.inr (.inl e))];exact hp,by rw [e];decide +kernel⟩
theorem tN{zss:List (List Str)}{p:Str} : p∈toldL zss↔p∈zss.flatten:=by
 unfold toldL;rw [nW,m5]
 simp
theorem cJ{R:List Rl}{w:Str}(h:T7 R w L){p:Str} : p∈L↔p∈(rowsW R w).flatten:=by
 rw [<- tN];exact ⟨h.1.sub,h.2 p⟩
structure GoodR(g:Str->Str)(r1 r2:Str->Nat)(R:List Rl):Prop where
 len:R.length<=1000
 plen:(D4 R).length<=10000
 nc:NC (hasW R "figures") g (D4 R)
 nb:(" " : Str)∉(D4 R).map (·.1)
 zl:∀ z∈R,z.2.length<=1000
 ne:∀ z∈R,z.1=("as" : Str)\/z.1=("great" : Str)->z.2≠[]
 gl:∀ z∈R,z.1=("great" : Str)->∀ p∈z.2.take 1,(p,("letter" : Str))∈D4 R
 al:∀ z∈R,z.1=("as" : Str)->∀ p∈(z.2.drop 1).take 1,(p,("letter" : Str))∈D4 R
 am:∀ z∈R,z.1=("as" : Str)->∀ p∈z.2.drop 2,(p,("letter" : Str))∈D4 R\/(p,("mark" : Str))∈D4 R
 f1:(rowsW R "row").flatten.length<=10000
 f2:(rowsW R "marks").flatten.length<=10000
 a1:∀ e∈edges (rowsW R "row"),r1 e.1<r1 e.2
 a2:∀ e∈edges (rowsW R "marks"),r2 e.1<r2 e.2
theorem GoodR.job{g:Str->Str}{r1 r2:Str->Nat}{R:List Rl}(h:GoodR g r1 r2 R){p j:Str}(hp:(p,j)∈D4 R):p∈keysP (D4 R)++Y7 R/\jobG g p=.str j:=by
 have hm:p∈(D4 R).map (·.1):=E2.mpr ⟨_,hp,rfl⟩;refine ⟨L4 _ ((kI _ _).mpr hm),?_⟩;unfold jobG;rw [if_neg (fun e=>h.nb (by rw [<- e];exact hm)),kL h.nc hp]
theorem GoodR.used{g:Str->Str}{r1 r2:Str->Nat}{R:List Rl}(h:GoodR g r1 r2 R){z:Rl}(hz:z∈R):Used (keysP (D4 R)++Y7 R) (jobG g) z:=
 ⟨fun e p hp=>h.job (h.gl z hz e p hp),fun e p hp=>h.job (h.al z hz e p hp),fun e p hp=>(h.am z hz e p hp).elim (fun q=>⟨(h.job q).1,.inl (h.job q).2⟩) fun q=>⟨(h.job q).1,.inr (h.job q).2⟩⟩
theorem forms_mem{R:List Rl}{y f:Str} : f∈G0 R y↔∃ e∈L1 R,e.1=y/\f∈e.2:=by
 unfold G0;rw [V3]
 constructor
 .rintro ⟨e,he,hf⟩;obtain ⟨h1,h2⟩:=O1.mp he;exact ⟨e,h1,by simpa using h2,hf⟩
 .rintro ⟨e,he,h,hf⟩;exact ⟨e,O1.mpr ⟨he,by simpa using h⟩,hf⟩
theorem mem_formKs{R:List Rl}{y:Str} : y∈E7 R↔∃ e∈L1 R,e.1=y:=by
 unfold E7;rw [m5,E2]
 simp
theorem alX{g:Str->Str}{r1 r2:Str->Nat}{R:List Rl}(h:GoodR g r1 r2 R)(hL:T7 R "row" L)(hM:T7 R "marks" M):(allKs R L M).Nodup:=by
 have Z:((L1 R).flatMap (·.2)).Nodup:=by rw [<- kM];exact ajP h.nc (by decide +kernel)
 have jl:∀ p∈L,g p="letter":=fun p hp=>kL h.nc (mem_letter.mpr ((cJ hL).mp hp))
 have jm:∀ p∈M,g p="mark":=fun p hp=>kL h.nc (mem_mark.mpr ((cJ hM).mp hp))
 have jf:∀ p∈(E7 R).flatMap (G0 R),g p="great":=fun p hp=>by
  obtain ⟨y,_,hp⟩:=V3.mp hp;obtain ⟨e,he,_,hf⟩:=forms_mem.mp hp
  have:p∈(L1 R).flatMap (·.2):=V3.mpr ⟨e,he,hf⟩
  rw [<- kM] at this;obtain ⟨⟨q,j⟩,hq,rfl⟩:=E2.mp this;obtain ⟨h1,h2⟩:=O1.mp hq;have h2:j=("great" : Str):=by simpa using h2
  subst h2;exact kL h.nc h1
 have ja:∀ p∈asKs R,g p="as":=fun p hp=>by
  rw [<- oT] at hp;obtain ⟨⟨q,j⟩,hq,rfl⟩:=E2.mp hp;obtain ⟨h1,h2⟩:=O1.mp hq;have h2:j=("as" : Str):=by simpa using h2
  subst h2;exact kL h.nc h1
 have nf:((E7 R).flatMap (G0 R)).Nodup:=by
  rw [f9,List.pairwise_flatMap] at Z ⊢
  obtain ⟨z1,z2⟩:=Z;refine ⟨fun y _=>?_,?_⟩
  .unfold G0;rw [List.pairwise_flatMap];exact ⟨fun e he=>z1 e (O1.mp he).1,z2.filter _⟩
  .have nk:(E7 R).Nodup:=by unfold E7;exact oK (by simp)
   refine List.Pairwise.imp ?_ (f9.mp nk);intro y y' hyy f hf f' hf' e;subst e;obtain ⟨e1,h1,r1,f1⟩:=forms_mem.mp hf;obtain ⟨e2,h2,r2,f2⟩:=forms_mem.mp hf';obtain ⟨i,hi,q1⟩:=V0.mp h1;obtain ⟨j,hj,q2⟩:=V0.mp h2;rw [q5] at z2
   rcases Nat.lt_trichotomy i j with c | c | c
   .exact z2 i j hi hj c f (by rw [q1];exact f1) f (by rw [q2];exact f2) rfl
   .subst c;exact hyy (by rw [<- r1,<- r2,<- q1,<- q2])
   .exact z2 j i hj hi c f (by rw [q2];exact f2) f (by rw [q1];exact f1) rfl
 have na:(asKs R).Nodup:=by rw [<- oT];exact ajP h.nc (by decide +kernel)
 have n1:("letter" : Str)≠"mark"/\("letter" : Str)≠"great"/\("letter" : Str)≠"as"/\("mark" : Str)≠"great"/\("mark" : Str)≠"as"/\("great" : Str)≠"as":=by decide +kernel
 unfold allKs;rw [g7,g7,g7];refine ⟨⟨⟨hL.1.nodup,hM.1.nodup,fun a ha b hb e=>?_⟩,nf,fun a ha b hb e=>?_⟩,na,fun a ha b hb e=>?_⟩
 .subst e;exact n1.1 ((jl a ha).symm.trans (jm a hb))
 .subst e
  rcases F6.mp ha with ha | ha
  .exact n1.2.1 ((jl a ha).symm.trans (jf a hb))
  .exact n1.2.2.2.1 ((jm a ha).symm.trans (jf a hb))
 .subst e
  rcases F6.mp ha with ha | ha
  .rcases F6.mp ha with ha | ha
   .exact n1.2.2.1 ((jl a ha).symm.trans (ja a hb))
   .exact n1.2.2.2.2.1 ((jm a ha).symm.trans (ja a hb))
  .exact n1.2.2.2.2.2 ((jf a ha).symm.trans (ja a hb))
theorem ajQ{g:Str->Str}{r1 r2:Str->Nat}{R:List Rl}(h:GoodR g r1 r2 R)(hL:T7 R "row" L)(hM:T7 R "marks" M):Made R L M (stepF R L M):=by
 refine anp (alX h hL hM) (fun y hy=>?_) h.ne fun z hz e q hq=>?_
 .obtain ⟨e,he,rfl⟩:=mem_formKs.mp hy;unfold L1 at he;obtain ⟨z,hz,hh⟩:=dR.mp he
  by_cases hg:z.1=("great" : Str)
  .rw [if_pos hg] at hh;obtain ⟨w,ps⟩:=z
   cases ps with
   | nil=>cases hh
   | cons y fs=>
    have hh:=Option.some.inj hh;rw [<- hh];exact (cJ hL).mpr (mem_letter.mp (h.gl _ hz hg y (by simp)))
  .rw [if_neg hg] at hh;cases hh
 .rw [<- q9 1 (z.2.drop 1)] at hq
  rcases F6.mp hq with hq | hq
  .exact .inl ((cJ hL).mpr (mem_letter.mp (h.al z hz e q hq)))
  .rw [List.drop_drop] at hq
   rcases h.am z hz e q hq with h1 | h1
   .exact .inl ((cJ hL).mpr (mem_letter.mp h1))
   .exact .inr ((cJ hM).mpr (mem_mark.mp h1))
theorem anr{g:Str->Str}{r1 r2:Str->Nat}{R:List Rl}(h:GoodR g r1 r2 R)(hL:T7 R "row" L)(hM:T7 R "marks" M):(allKs R L M).length<=10000:=by
 refine K6 ?_ h.plen
 have:=List.Nodup.length_le_of_subset (l₂:=(D4 R).map (·.1)) (alX h hL hM) fun p hp=>by
  unfold allKs at hp
  rcases F6.mp hp with hp | hp
  .rcases F6.mp hp with hp | hp
   .rcases F6.mp hp with hp | hp
    .exact E2.mpr ⟨_,mem_letter.mpr ((cJ hL).mp hp),rfl⟩
    .exact E2.mpr ⟨_,mem_mark.mpr ((cJ hM).mp hp),rfl⟩
   .obtain ⟨y,_,hp⟩:=V3.mp hp;obtain ⟨e,he,_,hf⟩:=forms_mem.mp hp
    have:p∈(L1 R).flatMap (·.2):=V3.mpr ⟨e,he,hf⟩
    rw [<- kM] at this;obtain ⟨q,hq,rfl⟩:=E2.mp this;exact E2.mpr ⟨q,(O1.mp hq).1,rfl⟩
  .rw [<- oT] at hp;obtain ⟨q,hq,rfl⟩:=E2.mp hp;exact E2.mpr ⟨q,(O1.mp hq).1,rfl⟩
 rw [A7] at this;exact this
theorem ajR{g:Str->Str}{r1 r2:Str->Nat}{R:List Rl}(h:GoodR g r1 r2 R)(i:Nat)(y:Str):(G0 (R.take i) y).length<=10000:=by
 refine K6 ?_ h.plen;have h1:(G0 (R.take i) y).length<=((L1 (R.take i)).flatMap (·.2)).length:=by
  unfold G0;generalize L1 (R.take i)=E
  induction E with
  | nil=>exact C5 _
  | cons e E ih=>
   rw [List.filter_cons]
   split
   .rw [Z5,Z5,D1,D1];lia
   .rw [Z5,D1];lia
 have h2:((L1 (R.take i)).flatMap (·.2)).length<=(D4 (R.take i)).length:=by
  rw [<- kM,A7];exact dO _ _
 obtain ⟨more,e⟩:=af6 R i;rw [e,D1];lia
theorem IsMade.mod{d:Addr}{F:Str->List Tr}{o o':HO}(h:IsMade H d ks F)(ha:H a=some o')(hn:∀ xs,o'≠.tup xs)(nd:d≠a):IsMade (A4 H a o) d ks F:=
 let ⟨ad,h1,h2⟩:=h
 ⟨ad,by rw [A9 nd];exact h1,fun y hy=>(h2 y hy).put ha hn⟩
structure IsOrd(C:Addr)(H:Hp)(x j ll ml md:Addr)(g:Str->Str)(R:List Rl)(L M:List Str):Prop where
 ob:∃ dx,H x=some (.ins C dx (ordF (hasW R "figures") (hasW R "behind") j ll ml md))
 jobs:H j=some (.dK (C2 (keysP (D4 R)++Y7 R) (jobG g)))
 lets:H ll=some (.lst (L.map V.str))
 mrks:H ml=some (.lst (M.map V.str))
 made:IsMade H md (E9 [] (allKs R L M)) (stepF R L M)
 l1:T7 R "row" L
 l2:T7 R "marks" M
theorem IsOrd.same{x j ll ml md:Addr}{g:Str->Str}{R:List Rl}(h:IsOrd C H x j ll ml md g R L M)(s:Same H H'):IsOrd C H' x j ll ml md g R L M:=
 ⟨let ⟨dx,e⟩:=h.ob;⟨dx,s _ _ e⟩,s _ _ h.jobs,s _ _ h.lets,s _ _ h.mrks,h.made.same s,h.l1,h.l2⟩
noncomputable def tO (C:Addr):Sp:=fun vs H Q _=>∃ (x dx a:Addr) (ts:List Addr) (R:List Rl) (g:Str->Str) (r1 r2:Str->Nat),vs=[.ref x,.ref a]/\H x=some (.ins C dx [])/\IsRules H a ts R/\GoodR g r1 r2 R/\
 ∀ j ll ml md L M H',H j=none->H ll=none->H ml=none->H md=none->SameBut x H H'->IsOrd C H' x j ll ml md g R L M->Q .non H'
noncomputable def tP (C:Addr):Sp:=fun vs H Q _=>∃ (x j ll ml md:Addr) (g:Str->Str) (R:List Rl) (L M:List Str),vs=[.ref x]/\IsOrd C H x j ll ml md g R L M/\∀ l,H l=none->Q (.ref l) (A4 H l (.lst (L.map V.str)))
noncomputable def tQ (C:Addr):Sp:=fun vs H Q _=>∃ (x j ll ml md:Addr) (g:Str->Str) (R:List Rl) (L M:List Str),vs=[.ref x]/\IsOrd C H x j ll ml md g R L M/\∀ l,H l=none->Q (.ref l) (A4 H l (.lst (M.map V.str)))
noncomputable def tR (C:Addr):Sp:=fun vs H Q _=>∃ (x j ll ml md:Addr) (p:Str) (g:Str->Str) (R:List Rl) (L M:List Str),vs=[.ref x,.str p]/\IsOrd C H x j ll ml md g R L M/\Q (if p∈keysP (D4 R)++Y7 R then jobG g p else .non) H
end L2
set_option maxRecDepth 100000
namespace L2
open PySem PySem.Spec PyProof.Rows
structure RulesAt(H0 H:Hp)(a:Addr)(ts:List Addr)(R:List Rl):Prop where
 rows:IsRules H a ts R
 nd:(a::ts).Nodup
 new:∀ r∈a::ts,H0 r=none
 same:Same H0 H
theorem ahE(A B:List Rl)(w:Str):hasW (A++B) w=(hasW A w || hasW B w):=by
 unfold hasW;rw [List.any_append]
theorem aih{E:List (Str×Str)}(r:S9 E ts line){e:Str×Str}(he:e∈E)(h2:e.2∈line):line.idxOf e.1<line.idxOf e.2:=by
 obtain ⟨pre,post,el⟩:=List.append_of_mem h2;obtain ⟨h3,h4,h5⟩:=gS (r pre e.2 post el);have h6:=cnt_zero.mp h5 e he rfl;rw [el,List.idxOf_append,if_pos h6,List.idxOf_append,if_neg h4]
 have:=y8.mpr h6
 lia
theorem ajT{E:List (Str×Str)}(nd:ps.Nodup)(tnd:ts.Nodup)(r:S9 E ts line)(cov:∀ p∈ts,p∈line)(hm:∀ p,p∈ts↔p∈ps)(hE:∀ e∈R1 ps,e∈E):line=ps:=by
 have hl:line.length=ps.length:=by
  rw [oI tnd r cov];exact ((List.perm_ext_iff_of_nodup tnd nd).mpr fun a=>hm a).length_eq
 have M0:∀ p∈ps,p∈line:=fun p hp=>cov p ((hm p).mpr hp)
 have D0:∀ i (h:i<ps.length),line.idxOf ps[i]<ps.length:=fun i h=>by
  rw [<- hl];exact y8.mpr (M0 _ (List.getElem_mem h))
 have step:∀ i (h:i+1<ps.length),line.idxOf ps[i]<line.idxOf ps[i+1]:=fun i h=>by
  have he:(ps[i],ps[i+1])∈R1 ps:=by
   have:=af3 (zs:=ps) (j:=i) (x:=ps[i]) (y:=ps[i+1]) (N0 (by lia)) (by rw [List.getElem?_tail];exact N0 h)
   exact L3 this
  exact aih r (hE _ he) (M0 _ (List.getElem_mem h))
 have up:∀ i (h:i<ps.length),i<=line.idxOf ps[i]:=by
  intro i
  induction i with
  | zero=>intro h;exact K1 _
  | succ i ih=>
   intro h
   have:=ih (by lia)
   have:=step i h
   lia
 have down:∀ d i (h:i<ps.length),ps.length-1-i=d->line.idxOf ps[i]<=i:=by
  intro d
  induction d with
  | zero=>
   intro i h e
   have:=D0 i h
   lia
  | succ d ih=>
   intro i h e;have h1:=ih (i+1) (by lia) (by lia);have h2:=step i (by lia);lia
 refine List.ext_getElem hl fun i h1 h2=>?_
 have e:line.idxOf ps[i]=i:=Nat.le_antisymm (down _ i h2 rfl) (up i h2)
 have:=bP (x:=ps[i]) (xs:=line) (by rw [e];exact h1)
 simp only [e] at this;exact this
noncomputable def ruleD (z:Rl):PyData:=.tuple ((z.1::z.2).map .str)
theorem als(z:Rl):O9 (ruleD z) (ruleD z)=true:=by
 unfold ruleD;rw [O9,nS]
 simp
theorem adP:∀ R:List Rl,Z6 (R.map ruleD) (R.map ruleD)=true
 | []=>by simp [Z6]
 | z::R=>by rw [G6,Z6,als,adP R];rfl
theorem ajU(R:List Rl):O9 (.list (R.map ruleD)) (.list (R.map ruleD))=true:=by rw [O9,adP]
theorem aii(z:Rl):(ruleD z).depth<=1:=by
 unfold ruleD;rw [dW,gK];decide
theorem tS:∀ R:List Rl,bW (R.map ruleD)<=1
 | []=>K1 _
 | z::R=>by
  rw [G6,bW];have h1:=aii z;have h2:=tS R;lia
theorem aen : ∀ {rs:List Addr} {R:List Rl},Paired (fun r z=>H r=some (tupR z)) rs R->(∀ z∈R,∀ y∈z.1::z.2,U3 y=true)->DnAll K H (rs.map V.ref) (R.map ruleD)
 | _,_,.nil,_=>.nil
 | _,_,.cons h t,hz=>.cons (.tup (.of h) (R9 (hz _ J7))) (aen t fun z mG=>hz z (I0 _ mG))
theorem tT{R:List Rl}(h:IsRules H a rs R)(hz:∀ z∈R,∀ y∈z.1::z.2,U3 y=true):Dn K H (.ref a) (.list (R.map ruleD)):=.lst (.of h.top) (aen h.row hz)
noncomputable def tU (ns:List Int) (k:Int) (p:Str):Prop:=∃ rest:List Nat,p.cps.toList=gW ns k::rest/\rest.length<=1/\∀ c∈rest,∃ m:Int,c=gW ns m
noncomputable def PcS (ns:List Int) (S:Int->Prop) (p:Str):Prop:=∃ k,S k/\tU ns k p
structure Dis(ns:List Int)(S:Int->Prop)(ps:List Str):Prop where
 nd:ps.Nodup
 pc:∀ p∈ps,PcS ns S p
 uq:∀ p∈ps,∀ q∈ps,∀ k:Int,20<=k->k<83->tU ns k p->tU ns k q->p=q
noncomputable def LetS (k:Int):Prop:=0<=k/\k<16
structure LetW(ns:List Int)(n:Int)(ps:List Str):Prop where
 n0:2<=n
 n1:n<=16
 all:∀ k:Int,0<=k->k<n->one (gW ns k)∈ps
 each:∀ p∈ps,∃ k:Int,0<=k/\k<n/\(p=one (gW ns k)\/∃ m:Int,0<=m/\m<n/\p=one (gW ns k)++one (gW ns m))
noncomputable def OthZ (ls ms:List Str) (z:Rl):Prop:=(z.1=("great" : Str)/\∃ l fs,z.2=l::fs/\l∈ls/\1<=fs.length/\fs.length<=2)\/(z.1=("as" : Str)/\∃ p q qs,z.2=p::q::qs/\q∈ls/\(∀ r∈qs,r∈ls\/r∈ms)/\qs.length<=2)\/(z.1=("over" : Str)/\z.2.length<=2)
structure OthI(ns:List Int)(ls ms:List Str)(S:Int->Prop)(n:Nat)(R:List Rl):Prop where
 dis:Dis ns S ((D4 R).map (·.1))
 each:∀ z∈R,OthZ ls ms z
 len:R.length<=n
noncomputable def GS (i:Nat) (k:Int):Prop:=(30<=k/\k<30+(i:Int))\/(34<=k/\k<34+(i:Int))
noncomputable def AS (i:Nat) (k:Int):Prop:=GS 3 k\/(40<=k/\k<40+(i:Int))
noncomputable def OS (k:Int):Prop:=AS 3 k\/(50<=k/\k<52)
noncomputable def MarkS (k:Int):Prop:=20<=k/\k<25
noncomputable def flagW (w:Str):Prop:=w=("figures" : Str)\/w=("behind" : Str)\/w=("blanks" : Str)
structure RulP(ns:List Int)(ls ms:List Str)(b:Bool)(n:Nat)(R:List Rl):Prop where
 dis:Dis ns (fun k=>LetS k\/OS k\/(b=true/\MarkS k)) ((D4 R).map (·.1))
 row:rowsW R "row"=[ls]
 mrk:rowsW R "marks"=if b=true then [ms] else []
 each:∀ z∈R,z=(("row" : Str),ls)\/(z=(("marks" : Str),ms)/\b=true)\/OthZ ls ms z\/(z.2=[]/\flagW z.1)
 len:R.length<=n
 fig:hasW R "figures"=true->tF ns=false
 oi:∀ z∈R,OthZ ls ms z->∀ p∈O5 z,PcS ns OS p
theorem ajV(nd:ps.Nodup){e:Str×Str}(he:e∈R1 ps):ps.idxOf e.1<ps.idxOf e.2:=by
 unfold R1 at he;obtain ⟨i,hi,e1⟩:=V0.mp he;rw [List.getElem_zip] at e1;have dA:i+1<ps.length:=by rw [List.length_zip,List.length_tail] at hi;lia
 have hi3:i<ps.tail.length:=by rw [List.length_tail];lia
 have e3:ps.tail[i]'hi3=ps[i+1]:=List.getElem_tail hi3;have f1:ps[i]=e.1:=congrArg Prod.fst e1;have f2:ps[i+1]=e.2:=e3.symm.trans (congrArg Prod.snd e1);have a1:ps.idxOf ps[i]=i:=List.Nodup.idxOf_getElem nd i (by lia);have a2:ps.idxOf ps[i+1]=i+1:=List.Nodup.idxOf_getElem nd (i+1) dA;rw [<- f1,<- f2,a1,a2];lia
structure RulG(ns:List Int)(ls ms:List Str)(R:List Rl):Prop where
 p:∃ b,RulP ns ls ms b 12 R/\(b=false->ms=[])
 l0:2<=ls.length
 l1:ls.length<=19
 ld:Dis ns LetS ls
 lw:∃ n,LetW ns n ls
 m1:ms.length<=4
 md:Dis ns MarkS ms
noncomputable def spLaw (K:PySem.W.Frag):Sp:=fun vs H Q _=>∃ (a:Addr) (ns:List Int),vs=[.ref a]/\E5 K H a (ns.map V.int)/\ns.length<=63/\∀ H',Q (.bl true) H'
end L2
set_option maxRecDepth 100000
namespace L2
open PySem PySem.Spec PyProof.Rows
noncomputable def rIntU:List V->Hp->VK->Prop
 | [.bl b],H,Q=>Q (.int (if b then 1 else 0)) H
 | [.str x],H,Q=>PySem.NumText.AllDigits x.cps.toList/\1<=x.length/\x.length<=640/\Q (.int ((jL x.cps.toList:Nat):Int)) H
 | _,_,_=>False
theorem alY : QCall X (.type "int") rIntU:=⟨by
 intro pins s Y H xs us Q I r h
 match xs,h with
 | [.bl b],h=>exact aiS pins s Y H _ us Q I r (.inr ⟨b,rfl,h⟩)
 | [.str x],h=>
  obtain ⟨h1,h2,h3,q⟩:=h;obtain ⟨u,rfl,r1⟩:=vals1 r;obtain ⟨t,rfl⟩:=r1;have G3:x.cps.toList≠[]:=fun e=>by
   have:x.cps.toList.length=x.length:=by simp [Str.length]
   rw [e] at this;simp at this;lia
  exact PySem.W.KIN.call_text (PySem.intText_digits h1 G3 (by lia)) h3 ⟨V.int ((jL x.cps.toList:Nat):Int),H,I.tok _,⟨_,rfl⟩,q⟩⟩
theorem aoZ{b:Bool} : rIntU [.bl b] H Q=Q (.int (if b then 1 else 0)) H:=rfl
theorem ao0{x:Str} : rIntU [.str x] H Q=(PySem.NumText.AllDigits x.cps.toList/\1<=x.length/\x.length<=640/\Q (.int ((jL x.cps.toList:Nat):Int)) H):=rfl
noncomputable def rInD (K:PySem.W.Frag) (x y:V) (H:Hp) (Q:VK):Prop:=∃ (d:PyData) (ds:List PyData),Dn K H x d/\Dn K H y (.list ds)/\min (bW ds) d.depth<=60/\Q (.bl (ds.any fun e=>O9 e d)) H
theorem q_inD(hu:X.A.units+64<cLine)(hK:X.K=K:=by rfl):QOp X (compareOp .In) (rInD K):=by
 subst hK;refine ⟨?_⟩;intro pins s Y H x y v u Q I rx ry h;obtain ⟨d,ds,h1,h2,h3,q⟩:=h;obtain ⟨c1,as1,r1⟩:=h1.reads I rfl rx;obtain ⟨c2,as2,r2⟩:=h2.reads I rfl ry;exact SeqAt.in_list_reads r2 r1 c2 c1 (by lia) ⟨.bl _,H,I,rfl,q⟩
theorem ao1 : rInD K x y H Q=∃ (d:PyData) (ds:List PyData),Dn K H x d/\Dn K H y (.list ds)/\min (bW ds) d.depth<=60/\Q (.bl (ds.any fun e=>O9 e d)) H:=rfl
end L2
set_option maxRecDepth 100000
namespace L2
open PySem PySem.Spec PyProof.Rows
open PySem.Builtin PySem.Builtin.Str PySem.StrLaws
noncomputable def rTupA (K:PySem.W.Frag):R2:=fun x y H Q=>∃ a b xs ys,x=.ref a/\y=.ref b/\C9 K H a xs/\C9 K H b ys/\ys≠[]/\xs.length+ys.length<=sizeLine/\∀ p H',Same H H'->C9 K H' p (xs++ys)->(H' p=some (.tup (xs++ys))\/xs=[]/\p=b)->Q (.ref p) H'
theorem ao2 : rTupA K (.ref a) (.ref b) H Q=∃ xs ys,C9 K H a xs/\C9 K H b ys/\ys≠[]/\xs.length+ys.length<=sizeLine/\∀ p H',Same H H'->C9 K H' p (xs++ys)->(H' p=some (.tup (xs++ys))\/xs=[]/\p=b)->Q (.ref p) H':=
 propext ⟨fun ⟨_,_,xs,ys,e1,e2,h⟩=>(by cases e1;cases e2;exact ⟨xs,ys,h⟩),fun ⟨xs,ys,h⟩=>⟨a,b,xs,ys,rfl,rfl,h⟩⟩
end L2
set_option maxRecDepth 100000
namespace L2
open PySem PySem.Spec PyProof.Rows
theorem ao3{d:Value}(h:(us++[d]).length=3):∃ u1 u2,us=[u1,u2]:=by
 match us,h with
 | [a,b],_=>exact ⟨a,b,rfl⟩
 | [],h=>simp at h
 | [_],h=>simp at h
 | _::_::_::r,h=>simp at h
theorem cK(g:List Str)(z:Str):(valV (kvOf g) (Sum.inr z)).isSome=decide (z∈g):=by
 rw [<- sQ];unfold valV;rw [Option.isSome_map,List.isSome_find?]
theorem tV{y rest:List Nat}(h:z.cps.toList=pre++(y++rest)):cutS z (some (pre.length:Int)) (some ((pre.length:Int)+(y.length:Int)))=⟨y.toArray⟩:=by
 have hl:z.length=pre.length+(y.length+rest.length):=by
  have:=congrArg X9 h
  simp [Str.length] at this ⊢
  lia
 apply Str.ext'
 apply Array.toList_inj.mp
 rw [afW,h];have e1:HT.sIx z.length 0 (some (pre.length:Int))=pre.length:=by rw [HT.sIx_nat];lia
 have e2:HT.sIx z.length z.length (some ((pre.length:Int)+(y.length:Int)))=pre.length+y.length:=by
  rw [show (pre.length:Int)+(y.length:Int)=((pre.length+y.length:Nat):Int) by lia,HT.sIx_nat];lia
 rw [e1,e2,List.drop_left,show pre.length+y.length-pre.length=y.length by lia,List.take_left]
theorem agg{c:Nat}(h:z.cps.toList=pre++[c]):cutS z (some (pre.length:Int)) (some ((pre.length:Int)+2))=one c:=by
 have hl:z.length=pre.length+1:=by
  have:=congrArg X9 h
  simp [Str.length] at this ⊢
  lia
 apply Str.ext'
 apply Array.toList_inj.mp
 rw [afW,h];have e1:HT.sIx z.length 0 (some (pre.length:Int))=pre.length:=by rw [HT.sIx_nat];lia
 have e2:HT.sIx z.length z.length (some ((pre.length:Int)+2))=pre.length+1:=by
  rw [show (pre.length:Int)+2=((pre.length+2:Nat):Int) by lia,HT.sIx_nat];lia
 rw [e1,e2,List.drop_left,show pre.length+1-pre.length=1 by lia];rfl
theorem ajW{r:List Nat}{c:Nat} : J9 (pre++c::r) (pre.length:Int)=some c:=P9 (by rw [dM (C5 _),Nat.sub_self];rfl)
theorem aeY:∀ (zs acc:List Str),W0 (kvOf acc) (kvOf zs)=kvOf (E9 acc zs)
 | [],acc=>rfl
 | z::zs,acc=>by
  show W0 (putK (kvOf acc) (Sum.inr z) (.bl true)) (kvOf zs)=kvOf (E9 (dd acc z) zs);rw [sR,aeY zs]
noncomputable def ajX:Sp:=fun vs H Q _=>∃ (z:Str) (pre rest:List Nat),vs=[.str z,.int pre.length]/\z.length<=1000/\z.cps.toList=pre++rest/\Q (.str ⟨(rest.takeWhile figO).toArray⟩) H
theorem alt(h:(us++[]).length=3):∃ u1 u2 u3,us=[u1,u2,u3]:=by
 match us,h with
 | [a,b,c],_=>exact ⟨a,b,c,rfl⟩
 | [],h=>simp at h
 | [_],h=>simp at h
 | [_,_],h=>simp at h
 | _::_::_::_::r,h=>simp at h
theorem lenL(z:Str):z.cps.toList.length=z.length:=by simp [Str.length]
noncomputable def partG (g:List Str):List Nat->Option Str
 | []=>none
 | [c]=>if one c∈g then some (one c) else none
 | c::d::_=>if two c d∈g then some (two c d) else if one c∈g then some (one c) else none
theorem hW(g:List Str)(c:Nat):partG g [c]=if one c∈g then some (one c) else none:=rfl
theorem hX(g:List Str)(c d:Nat)(r:List Nat):partG g (c::d::r)=if two c d∈g then some (two c d) else if one c∈g then some (one c) else none:=rfl
noncomputable def partF (w:Bool) (g:List Str):List Nat->Option Str
 | []=>none
 | c::r=>if (w&&figO c)=true then some ⟨((c::r).takeWhile figO).toArray⟩ else partG g (c::r)
theorem eR(w:Bool)(g:List Str)(c:Nat)(r:List Nat):partF w g (c::r)=if (w&&figO c)=true then some ⟨((c::r).takeWhile figO).toArray⟩ else partG g (c::r):=rfl
theorem aeZ{y:Str} : ∀ {l:List Nat},partG g l=some y->∃ rest,l=y.cps.toList++rest/\1<=y.length
 | [],h=>by cases h
 | [c],h=>by
  rw [hW] at h
  by_cases hc:one c∈g
  .rw [if_pos hc] at h;cases h;exact ⟨[],rfl,by show 1<=1;decide⟩
  .rw [if_neg hc] at h;cases h
 | c::d::r,h=>by
  rw [hX] at h
  by_cases h2:two c d∈g
  .rw [if_pos h2] at h;cases h;exact ⟨r,rfl,by show 1<=2;decide⟩
  .rw [if_neg h2] at h
   by_cases hc:one c∈g
   .rw [if_pos hc] at h;cases h;exact ⟨d::r,rfl,by show 1<=1;decide⟩
   .rw [if_neg hc] at h;cases h
theorem agX(h:∀ x,x∈g↔x∈g'):∀ l,partG g l=partG g' l
 | []=>rfl
 | [c]=>by
  rw [hW,hW]
  by_cases hc:one c∈g
  .rw [if_pos hc,if_pos ((h _).mp hc)]
  .rw [if_neg hc,if_neg (fun z=>hc ((h _).mpr z))]
 | c::d::r=>by
  rw [hX,hX]
  by_cases h2:two c d∈g
  .rw [if_pos h2,if_pos ((h _).mp h2)]
  .rw [if_neg h2,if_neg (fun z=>h2 ((h _).mpr z))]
   by_cases hc:one c∈g
   .rw [if_pos hc,if_pos ((h _).mp hc)]
   .rw [if_neg hc,if_neg (fun z=>hc ((h _).mpr z))]
theorem agY{w:Bool}(h:∀ x,x∈g↔x∈g')(l:List Nat):partF w g l=partF w g' l:=by
 cases l with
 | nil=>rfl
 | cons c r=>rw [eR,eR,agX h]
theorem ae0{w:Bool}{y:Str}{l:List Nat}(h:partF w g l=some y):∃ rest,l=y.cps.toList++rest/\1<=y.length:=by
 cases l with
 | nil=>cases h
 | cons c r=>
  rw [eR] at h
  by_cases hw:(w&&figO c)=true
  .rw [if_pos hw] at h;cases h;rw [W9] at hw;refine ⟨(c::r).dropWhile figO,(List.takeWhile_append_dropWhile).symm,?_⟩;show 1<=((c::r).takeWhile figO).length;rw [List.takeWhile_cons_of_pos hw.2]
   simp
  .rw [if_neg hw] at h;exact aeZ h
noncomputable def cutFn (w:Bool) (g:List Str):Nat->List Nat->Nat×List Str
 | 0,_=>(0,[])
 | n+1,l=>match partF w g l with
  | none=>(0,[])
  | some y=>((cutFn w g n (l.drop y.length)).1+y.length,y::(cutFn w g n (l.drop y.length)).2)
noncomputable def cutF (w:Bool) (g:List Str) (l:List Nat):Nat×List Str:=cutFn w g l.length l
theorem ae1(w:Bool)(g:List Str):∀ (n m:Nat) (l:List Nat),l.length<=n->l.length<=m->cutFn w g n l=cutFn w g m l
 | 0,0,_,_,_=>rfl
 | 0,m+1,l,h,_=>by
  have:l=[]:=y9.mp (by lia)
  subst this;rfl
 | n+1,0,l,_,h=>by
  have:l=[]:=y9.mp (by lia)
  subst this;rfl
 | n+1,m+1,l,h1,h2=>by
  cases e:partF w g l with
  | none=>show (match partF w g l with | none=>_ | some y=>_)=(match partF w g l with | none=>_ | some y=>_);rw [e]
  | some y=>
   obtain ⟨rest,e1,e2⟩:=ae0 e;have hd:(l.drop y.length).length=l.length-y.length:=j4
   have:=ae1 w g n m (l.drop y.length) (by lia) (by lia)
   show (match partF w g l with | none=>_ | some y=>_)=(match partF w g l with | none=>_ | some y=>_);rw [e]
   dsimp only
   rw [this]
theorem kN{w:Bool}{l:List Nat}(h:partF w g l=none):cutF w g l=(0,[]):=by
 unfold cutF;cases hl:l.length with
 | zero=>rfl
 | succ n=>
  show (match partF w g l with | none=>_ | some y=>_)=_;rw [h]
theorem kO(w:Bool)(g:List Str):cutF w g []=(0,[]):=rfl
theorem hZ{w:Bool}{y:Str}{l:List Nat}(h:partF w g l=some y):∃ rest,l=y.cps.toList++rest/\cutF w g l=((cutF w g rest).1+y.length,y::(cutF w g rest).2)/\1<=y.length:=by
 obtain ⟨rest,e1,e2⟩:=ae0 h;refine ⟨rest,e1,?_,e2⟩;have el:l.length=y.length+rest.length:=by rw [e1,D1,lenL]
 have ed:l.drop y.length=rest:=by rw [e1,<- lenL,List.drop_left]
 unfold cutF;cases hl:l.length with
 | zero=>lia
 | succ k=>
  show (match partF w g l with | none=>_ | some y=>_)=_;rw [h]
  dsimp only
  rw [ed,ae1 w g k rest.length rest (by lia) (C5 _)]
theorem aij{w:Bool}(h:∀ x,x∈g↔x∈g')(l:List Nat):cutF w g l=cutF w g' l:=by
 have:∀ n l,cutFn w g n l=cutFn w g' n l:=by
  intro n
  induction n with
  | zero=>intro l;rfl
  | succ n ih=>
   intro l;show (match partF w g l with | none=>_ | some y=>_)=(match partF w g' l with | none=>_ | some y=>_);rw [agY h]
   cases partF w g' l with
   | none=>rfl
   | some y=>dsimp only;rw [ih]
 exact this _ _
theorem ae2{w:Bool}{g:List Str} : ∀ (n:Nat) (l:List Nat),l.length<=n->(cutF w g l).1<=l.length/\(cutF w g l).2.length<=l.length/\∀ y∈(cutF w g l).2,∀ c∈y.cps.toList,c∈l
 | 0,l,h=>by
  have:l=[]:=y9.mp (by lia)
  subst this;rw [kO];exact ⟨C5 _,C5 _,by simp⟩
 | n+1,l,h=>by
  cases e:partF w g l with
  | none=>rw [kN e];exact ⟨K1 _,K1 _,by simp⟩
  | some y=>
   obtain ⟨rest,e1,e2,e3⟩:=hZ e;have hl:l.length=y.length+rest.length:=by rw [e1,D1,lenL]
   obtain ⟨a,b,c⟩:=ae2 (w:=w) (g:=g) n rest (by lia);rw [e2];refine ⟨by dsimp only;lia,by dsimp only;rw [F8];lia,fun z hz x hx=>?_⟩;rw [e1]
   rcases D9.mp hz with r | r
   .rw [r] at hx;exact F6.mpr (.inl hx)
   .exact F6.mpr (.inr (c z r x hx))
noncomputable def iA (w:Bool) (g:List Str) (z:Str):Prop:=(cutF w g z.cps.toList).1=z.length
noncomputable def ajY:Sp:=fun vs H Q _=>∃ (d:Addr) (z:Str) (g:List Str) (pre:List Nat) (c:Nat) (r:List Nat) (w:Bool) (y:Str),vs=[.ref d,.str z,.int pre.length,.bl w]/\H d=some (.dK (kvOf g))/\z.length<=1000/\z.cps.toList=pre++c::r/\partF w g (c::r)=some y/\Q (.str y) H
noncomputable def oU (K:PySem.W.Frag):Sp:=fun vs H Q _=>∃ (a:Addr) (z:Str) (ks:List Str) (w:Bool),vs=[.ref a,.str z,.bl w]/\E5 K H a (ks.map V.str)/\ks.length<=1000/\z.length<=1000/\iA w ks z/\
 ∀ l H',H l=none->Same H H'->H' l=some (.lst ((cutF w ks z.cps.toList).2.map V.str))->Q (.ref l) H'
noncomputable abbrev M5:=Int×Int×List Int×Int
noncomputable def addM (U:List M5) (p:Int):List M5:=match U.getLast? with
 | none=>[(0,0,[p],0)]
 | some u=>U.dropLast++[(u.1,u.2.1,u.2.2.1++[p],u.2.2.2)]
noncomputable def addS (U:List M5) (s:Tr):List M5:=if s.1=0 then addM U s.2.1 else U++[(s.1,s.2.1,[],s.2.2)]
noncomputable def UnAt (H:Hp) (e:Addr×Addr) (u:M5):Prop:=H e.1=some (.tup [.int u.1,.int u.2.1,.ref e.2,.int u.2.2.2])/\H e.2=some (.lst (u.2.2.1.map V.int))
structure UnI(H0 H:Hp)(l:Addr)(es:List (Addr×Addr))(U:List M5):Prop where
 top:H l=some (.lst (es.map fun e=>V.ref e.1))
 row:Paired (UnAt H) es U
 nd:(l::es.map (·.2)).Nodup
 new:∀ a∈l::es.map (·.2),H0 a=none
 same:Same H0 H
theorem UnI.more{l:Addr}{es:List (Addr×Addr)}{U:List M5}(h:UnI H0 H l es U)(S:Same H H'):UnI H0 H' l es U:=⟨S _ _ h.top,O6 h.row fun _ _ e=>⟨S _ _ e.1,S _ _ e.2⟩,h.nd,h.new,h.same.trans S⟩
theorem UnI.live{l:Addr}{es:List (Addr×Addr)}{U:List M5}(h:UnI H0 H l es U)(ha:a∈es.map (·.2)):∃ xs,H a=some (.lst xs):=by
 obtain ⟨e,he,rfl⟩:=E2.mp ha;obtain ⟨i,hi,q⟩:=V0.mp he;obtain ⟨u,_,hu⟩:=Paired.at h.row (i:=i) (a:=e) (by rw [N0 hi,q]);exact ⟨_,hu.2⟩
theorem UnI.push{l m t:Addr}{es:List (Addr×Addr)}{U:List M5}(h:UnI H0 H l es U)(nm:H m=none){k w c:Int}(nt:A4 H m (.lst []) t=none) :
  UnI H0 (A4 (A4 (A4 H m (.lst [])) t (.tup [.int k,.int w,.ref m,.int c])) l (.lst ((es.map fun e=>V.ref e.1)++[V.ref t]))) l (es++[(t,m)]) (U++[(k,w,[],c)]):=by
 have nlm:l≠m:=fun e=>by have:=h.top;rw [e,nm] at this;cases this
 have nmt:m≠t:=fun e=>by rw [<- e,A5] at nt;cases nt
 have S:Same H (A4 (A4 H m (.lst [])) t (.tup [.int k,.int w,.ref m,.int c])):=(Same.new nm).trans (Same.new nt);have hl:=S _ _ h.top;have nlt:l≠t:=fun e=>by rw [<- e,(Same.new nm) _ _ h.top] at nt;cases nt
 have qG:=Q4.mp h.nd;refine ⟨by rw [A5,E4];rfl,Paired.snoc (gM h.row fun e he u hu=>⟨?_,?_⟩) ⟨?_,?_⟩,?_,fun a ha=>?_,(h.same.trans S).put (h.new l J7)⟩
 .rw [A9 (fun q=>by have:=S _ _ hu.1;rw [q,hl] at this;cases this)];exact S _ _ hu.1
 .rw [A9 (fun q=>qG.1 (by rw [<- q];exact E2.mpr ⟨e,he,rfl⟩))];exact S _ _ hu.2
 .rw [A9 nlt.symm,A5]
 .rw [A9 nlm.symm,A9 nmt,A5];rfl
 .rw [E4];exact nQ h.nd fun q=>by
   rcases D9.mp q with q | q
   .exact nlm q.symm
   .obtain ⟨xs,hx⟩:=h.live q;rw [nm] at hx;cases hx
 .rw [E4] at ha
  rcases D9.mp ha with q | q
  .rw [q];exact h.new l J7
  .rcases F6.mp q with q | q
   .exact h.new a (I0 _ q)
   .rw [E6.mp q];exact h.same.free nm
theorem UnI.mark{l:Addr}{es:List (Addr×Addr)}{e:Addr×Addr}{U:List M5}{u:M5}(h:UnI H0 H l (es++[e]) (U++[u]))(p:Int) :
  UnI H0 (A4 H e.2 (.lst (u.2.2.1.map V.int++[V.int p]))) l (es++[e]) (U++[(u.1,u.2.1,u.2.2.1++[p],u.2.2.2)]):=by
 obtain ⟨hr,he⟩:=sS h.row;have qG:=h.nd;have nl:l≠e.2:=fun q=>(Q4.mp qG).1 (by rw [q];simp)
 have nn:∀ x∈es,x.2≠e.2:=fun x hx q=>by
  have:=(Q4.mp qG).2
  rw [E4,g7] at this;exact this.2.2 x.2 (E2.mpr ⟨x,hx,rfl⟩) e.2 (by simp) q
 have nt:∀ {x:Addr×Addr} {v:M5},UnAt H x v->x.1≠e.2:=fun {x v} hx q=>by
  have:=hx.1;rw [q,he.2] at this;cases this
 refine ⟨by rw [A9 nl];exact h.top,Paired.snoc (gM hr fun x hx v hv=>⟨?_,?_⟩) ⟨?_,?_⟩,h.nd,h.new,h.same.put (h.new _ (I0 _ (by simp)))⟩
 .rw [A9 (nt hv)];exact hv.1
 .rw [A9 (nn x hx)];exact hv.2
 .rw [A9 (nt he)];exact he.1
 .rw [A5,E4];rfl
noncomputable def IsUn (H:Hp) (l:Addr) (U:List M5):Prop:=∃ es:List (Addr×Addr),H l=some (.lst (es.map fun e=>V.ref e.1))/\Paired (fun e (u:M5)=>H e.1=some (.tup [.int u.1,.int u.2.1,.ref e.2,.int u.2.2.2])/\H e.2=some (.tup (u.2.2.1.map V.int))) es U
noncomputable def Q1 (R:List Rl):List Str:=keysP (D4 R)++Y7 R
noncomputable def m6 (S:Str->List Tr) (ps:List Str):List M5:=(ps.flatMap S).foldl addS []
noncomputable def tW (C:Addr):Sp:=fun vs H Q _=>∃ (x j ll ml md:Addr) (g:Str->Str) (R:List Rl) (L M:List Str),vs=[.ref x]/\IsOrd C H x j ll ml md g R L M/\∀ l,H l=none->Q (.ref l) (A4 H l (.lst ((Q1 R).map V.str)))
noncomputable def oV (C:Addr):Sp:=fun vs H Q _=>∃ (x j ll ml md:Addr) (p:Str) (g:Str->Str) (R:List Rl) (L M:List Str),vs=[.ref x,.str p]/\IsOrd C H x j ll ml md g R L M/\∀ r H',Same H H'->StepAt H' r (stepF R L M p)->Q (.ref r) H'
noncomputable def ahG (C:Addr):Sp:=fun vs H Q _=>∃ (x j ll ml md:Addr) (z:Str) (g:Str->Str) (R:List Rl) (L M:List Str),vs=[.ref x,.str z]/\IsOrd C H x j ll ml md g R L M/\(Q1 R).length<=1000/\z.length<=1000/\iA (hasW R "figures") (Q1 R) z/\
 ∀ l H',H l=none->Same H H'->H' l=some (.lst ((cutF (hasW R "figures") (Q1 R) z.cps.toList).2.map V.str))->Q (.ref l) H'
theorem aik{R:List Rl}{p:Str}(h:p∉allKs R L M):stepF R L M p=[]:=by
 unfold stepF
 have:(putsL R L M).lookup p=none:=by
  rw [List.lookup_eq_none_iff];intro e he
  have:e.1∈allKs R L M:=by rw [<- agc];exact E2.mpr ⟨e,he,rfl⟩
  have ne:p≠e.1:=fun q=>h (by rw [q];exact this)
  simpa using ne
 rw [this];rfl
noncomputable def stepY (R:List Rl) (L M:List Str) (y:Str):List Tr:=if (hasW R "figures" && figO (y.cps.toList.headD 0))=true then [(1,((jL y.cps.toList:Nat):Int),0)] else stepF R L M y
theorem ahH{R:List Rl}(h:hasW R "figures"=false)(L M:List Str):stepY R L M=stepF R L M:=by
 funext y
 unfold stepY;rw [h,dU,if_neg K7]
noncomputable def FigR (y:Str):Prop:=figO (y.cps.toList.headD 0)=true->PySem.NumText.AllDigits y.cps.toList
noncomputable def agh (C:Addr):Sp:=fun vs H Q _=>∃ (x j ll ml md:Addr) (c:Nat) (r:List Nat) (y:Str) (g:Str->Str) (R:List Rl) (L M:List Str),vs=[.ref x,.str y]/\y.cps.toList=c::r/\y.length<=640/\IsOrd C H x j ll ml md g R L M/\(hasW R "figures"=true->FigR y)/\∀ r H',Same H H'->StepAt H' r (stepY R L M y)->Q (.ref r) H'
noncomputable def agi (K:PySem.W.Frag):Sp:=fun vs H Q _=>∃ (l:Addr) (p:Int) (H0:Hp) (es:List (Addr×Addr)) (U:List M5),vs=[.ref l,.int p]/\UnI H0 H l es U/\U.length<=10000/\(∀ u∈U,u.2.2.1.length<=10000)/\∀ es' H',UnI H0 H' l es' (addM U p)->Q .non H'
noncomputable def agj (C:Addr):Sp:=fun vs H Q _=>∃ (x l j ll ml md:Addr) (c:Nat) (r:List Nat) (y:Str) (g:Str->Str) (R:List Rl) (L M:List Str) (H0:Hp) (es:List (Addr×Addr)) (U:List M5),vs=[.ref x,.ref l,.str y]/\y.cps.toList=c::r/\y.length<=640/\IsOrd C H0 x j ll ml md g R L M/\(hasW R "figures"=true->FigR y)/\UnI H0 H l es U/\(stepY R L M y).length<=1000/\U.length<=9000/\(∀ u∈U,u.2.2.1.length<=9000)/\
 ∀ es' H',UnI H0 H' l es' ((stepY R L M y).foldl addS U)->Q .non H'
theorem alu{U:List M5}{p:Int} : (addM U p).length<=U.length+1:=by
 unfold addM;cases e:U.getLast? with
 | none=>simp
 | some u=>simp only [D1,List.length_dropLast,W7];lia
theorem ail{U:List M5}{p:Int}(h:∀ u∈U,u.2.2.1.length<=n):∀ u∈addM U p,u.2.2.1.length<=n+1:=by
 unfold addM;cases e:U.getLast? with
 | none=>intro u hu;rw [E6.mp hu];simp
 | some v=>
  intro u hu
  rcases F6.mp hu with q | q
  .have:=h u ((List.dropLast_sublist U).subset q);lia
  .rw [E6.mp q]
   have:=h v (List.mem_of_getLast? e)
   simp only [D1,W7];lia
theorem alv{U:List M5}{s:Tr} : (addS U s).length<=U.length+1:=by
 unfold addS
 split
 .exact alu
 .simp
theorem aim{U:List M5}{s:Tr}(h:∀ u∈U,u.2.2.1.length<=n):∀ u∈addS U s,u.2.2.1.length<=n+1:=by
 unfold addS
 split
 .exact ail h
 .intro u hu
  rcases F6.mp hu with q | q
  .have:=h u q;lia
  .rw [E6.mp q];exact K1 _
theorem tX:∀ (ss:List Tr) (U:List M5),(ss.foldl addS U).length<=U.length+ss.length
 | [],U=>C5 _
 | s::ss,U=>by
  rw [List.foldl_cons,F8];have h1:=tX ss (addS U s);have h2:=alv (U:=U) (s:=s);lia
theorem tY:∀ (ss:List Tr) (U:List M5) (n:Nat),(∀ u∈U,u.2.2.1.length<=n)->∀ u∈ss.foldl addS U,u.2.2.1.length<=n+ss.length
 | [],U,n,h=>h
 | s::ss,U,n,h=>by
  intro u hu
  have:=tY ss (addS U s) (n+1) (aim h) u hu
  rw [F8];lia
theorem ajZ(f b:Bool)(j ll ml md:Addr):(ordF f b j ll ml md).lookup ("made" : Str)=some (V.ref md):=by
 unfold ordF;rw [L0,if_pos rfl]
noncomputable def cutH (H:Hp) (as:List Addr):Hp:=fun a=>if a∈as then none else H a
theorem agk(H:Hp)(as:List Addr):Same (cutH H as) H:=fun a o h=>by
 unfold cutH at h
 by_cases q:a∈as
 .rw [if_pos q] at h;cases h
 .rw [if_neg q] at h;exact h
theorem UnI.base{l:Addr}{es:List (Addr×Addr)}{U:List M5}(S:Same H0 H1)(h:UnI H1 H l es U):UnI H0 H l es U:=⟨h.top,h.row,h.nd,fun a ha=>S.free (h.new a ha),S.trans h.same⟩
theorem UnI.cut{l:Addr}{es:List (Addr×Addr)}{U:List M5}(h:UnI H0 H l es U):∃ H1,Same H0 H1/\UnI H1 H l es U/\∀ a xs,H a=some (.tup xs)->H1 a=some (.tup xs):=by
 refine ⟨cutH H (l::es.map (fun e=>e.2)),fun a o ha=>?_,⟨h.top,h.row,h.nd,fun a ha=>by unfold cutH;exact if_pos ha,agk _ _⟩,fun a xs ha=>?_⟩
 .unfold cutH;rw [if_neg (fun q=>by rw [h.new a q] at ha;cases ha)];exact h.same _ _ ha
 .unfold cutH;rw [if_neg fun q=>?_]
  .exact ha
  .rcases D9.mp q with q | q
   .rw [q,h.top] at ha;cases ha
   .obtain ⟨ys,hy⟩:=h.live q;rw [hy] at ha;cases ha
theorem ain{α β:Type}{F:α->β->Prop}{m:List β}(h:Paired F [] m):m=[]:=by cases h;rfl
theorem aj0{α:Type}{l:List α}(h:l≠[]):∃ l' x,l=l'++[x]:=⟨l.dropLast,l.getLast h,(List.dropLast_concat_getLast h).symm⟩
noncomputable def aj1 (C:Addr):Sp:=fun vs H Q _=>∃ (x j ll ml md:Addr) (z:Str) (g:Str->Str) (R:List Rl) (L M:List Str),vs=[.ref x,.str z]/\IsOrd C H x j ll ml md g R L M/\(Q1 R).length<=1000/\z.length<=500/\iA (hasW R "figures") (Q1 R) z/\(∀ y,(stepY R L M y).length<=15)/\
 ∀ l H',H l=none->Same H H'->IsUn H' l (m6 (stepY R L M) (cutF (hasW R "figures") (Q1 R) z.cps.toList).2)->Q (.ref l) H'
noncomputable def tZ (n:Nat) (fr:St) (Pv:Nat->List V->Hp->Prop) (i:Nat) (ys:List V) (σ2:St) (H2:Hp):Prop:=i<=n/\ys.length<=i/\(∃ v0 v1 v2 v3,σ2=v0::v1::v2::v3::fr)/\Pv i ys H2
theorem ao4(fr:St)(n8:compStart 4 ixs Y=none::none::none::none::fr)(Pv:Addr->Nat->List V->Hp->Prop)(h0:∀ D,H1 D=none->Pv D 0 [] (A4 H1 D (.lst [])))(hl:∀ D i ys H,H1 D=none->i<=xs.length->Pv D i ys H->E5 K H a xs)(hs:∀ D i x ys H,H1 D=none->i<xs.length->xs[i]?=some x->Pv D i ys H->H D=some (.lst ys)->ys.length<=i->∃ t v0 v1 v2 v3,x=.ref t/\C9 K H t [v0,v1,v2,v3]/\c (some v0::some v1::some v2::some v3::fr) H fun b H4=>
   if b=true then te (some v0::some v1::some v2::some v3::fr) H4 fun y H5=>H5 D=some (.lst ys)/\ys.length<sizeLine/\tZ xs.length fr (Pv D) (i+1) (ys++[y]) (some v0::some v1::some v2::some v3::fr) (A4 H5 D (.lst (ys++[y])))
   else H4 D=some (.lst ys)/\tZ xs.length fr (Pv D) (i+1) ys (some v0::some v1::some v2::some v3::fr) H4)(hd:∀ D ys H,H1 D=none->Pv D xs.length ys H->H D=some (.lst ys)->ys.length<=xs.length->Q (.ref D) H):cD (k5 K a) 4 ixs (gTup K 4 (gCons (gName 0) (gCons (gName 1) (gCons (gName 2) (gCons (gName 3) gNil))))) c te Y Q H1:=by
 intro D hD;refine ⟨xs.length,tZ xs.length fr (Pv D),⟨K1 _,K1 _,⟨none,none,none,none,n8⟩,h0 D hD⟩,?_⟩;rintro i ys σ2 H2 ⟨hi,hy,⟨w0,w1,w2,w3,rfl⟩,p⟩ hDy;have q:=hl D i ys H2 hD hi p
 by_cases D0:i<xs.length
 .refine .inr ⟨D0,⟨xs,xs[i],q,by simp [D0]⟩,fun x H' y=>?_⟩;obtain ⟨e,y⟩:=y;subst e;obtain ⟨t,v0,v1,v2,v3,rfl,ht,z⟩:=hs D i x ys _ hD D0 (y xs q) p hDy hy;exact ⟨t,_,rfl,ht,rfl,_,_,rfl,_,_,rfl,_,_,rfl,_,_,rfl,rfl,z⟩
 .have e:i=xs.length:=by lia
  subst e;exact .inl ⟨⟨xs,q,C5 _⟩,hd D ys H2 hD p hDy hy⟩
theorem aj2{w:Bool} : ∀ (n:Nat) (l:List Nat),l.length<=n->∀ y∈(cutF w g l).2,1<=y.length
 | 0,l,h,y,hy=>by
  have:l=[]:=y9.mp (by lia)
  subst this;rw [kO] at hy;cases hy
 | n+1,l,h,y,hy=>by
  cases e:partF w g l with
  | none=>rw [kN e] at hy;cases hy
  | some x=>
   obtain ⟨rest,e1,e2,e3⟩:=hZ e;rw [e2] at hy
   rcases D9.mp hy with q | q
   .rw [q];exact e3
   .refine aj2 n rest ?_ y q
    have:=congrArg X9 e1
    rw [D1,lenL] at this;lia
theorem agZ{S:Str->List Tr}{y:Str}(h:ps[i]?=some y):m6 S (ps.take (i+1))=(S y).foldl addS (m6 S (ps.take i)):=by
 unfold m6;rw [L9 h,j1,j3,Z5,fX,L7]
theorem ae4{S:Str->List Tr}(hs:∀ y,(S y).length<=15):∀ (ps:List Str),(m6 S ps).length<=15*ps.length/\∀ u∈m6 S ps,u.2.2.1.length<=15*ps.length:=fun ps=>by
 have h0:(ps.flatMap S).length<=15*ps.length:=by
  induction ps with
  | nil=>exact C5 _
  | cons p ps ih=>
   rw [Z5,D1,F8]
   have:=hs p
   lia
 have h1:=tX (ps.flatMap S) [];have h2:=tY (ps.flatMap S) [] 0 (by simp);unfold m6;rw [V4] at h1;exact ⟨by lia,fun u hu=>by have:=h2 u hu;lia⟩
theorem agl{w:Bool} : ∀ (n:Nat) (l:List Nat),l.length<=n->∀ y∈(cutF w g l).2,y.length<=l.length
 | 0,l,h,y,hy=>by
  have:l=[]:=y9.mp (by lia)
  subst this;rw [kO] at hy;cases hy
 | n+1,l,h,y,hy=>by
  cases e:partF w g l with
  | none=>rw [kN e] at hy;cases hy
  | some x=>
   obtain ⟨rest,e1,e2,e3⟩:=hZ e;rw [e2] at hy;have hl:=congrArg X9 e1;rw [D1,lenL] at hl
   rcases D9.mp hy with q | q
   .rw [q];lia
   .have:=agl n rest (by lia) y q
    lia
theorem alZ{p:Nat->Bool}{d:Nat} : ∀ {l:List Nat},d∈l.takeWhile p->p d=true
 | [],h=>by cases h
 | c::r,h=>by
  rw [List.takeWhile_cons] at h
  by_cases hc:p c=true
  .rw [if_pos hc] at h
   rcases D9.mp h with q | q
   .rw [q];exact hc
   .exact alZ q
  .rw [if_neg hc] at h;cases h
theorem aj3{w:Bool}{l:List Nat}{y:Str}(h:partF w g l=some y):w=true->FigR y:=by
 intro hw hf
 cases l with
 | nil=>cases h
 | cons c r=>
  rw [eR,hw,Bool.true_and] at h
  by_cases hc:figO c=true
  .rw [if_pos hc] at h;obtain rfl:=Option.some.inj h;intro d hd;have hd:d∈(c::r).takeWhile figO:=by simpa using hd
   have:=alZ hd
   unfold figO at this;rw [W9,decide_eq_true_eq,decide_eq_true_eq] at this;exact this
  .exfalso
   rw [if_neg hc] at h;obtain ⟨rest,e,hl⟩:=aeZ h
   have:y.cps.toList.headD 0=c:=by
    cases hy:y.cps.toList with
    | nil=>rw [<- lenL,hy] at hl;simp at hl
    | cons d t=>rw [hy] at e;exact (List.cons.inj e).1.symm
   rw [this] at hf;exact hc hf
theorem ahI{w:Bool} : ∀ (n:Nat) (l:List Nat),l.length<=n->∀ y∈(cutF w g l).2,w=true->FigR y
 | 0,l,h,y,hy=>by
  have:l=[]:=y9.mp (by lia)
  subst this;rw [kO] at hy;cases hy
 | n+1,l,h,y,hy=>by
  cases e:partF w g l with
  | none=>rw [kN e] at hy;cases hy
  | some x=>
   obtain ⟨rest,e1,e2,e3⟩:=hZ e;rw [e2] at hy;have hl:=congrArg X9 e1;rw [D1,lenL] at hl
   rcases D9.mp hy with q | q
   .rw [q];exact aj3 e
   .exact ahI n rest (by lia) y q
end L2
variable {R mo rows:List L2.Rl}{zss:List (List PySem.Str)}{G:List (PySem.Str×PySem.Str)}
set_option maxRecDepth 100000
namespace L2
open PySem PySem.Spec PyProof.Rows
structure StepL(H:Hp)(r:Addr)(ss:List Tr):Prop where
 ex:∃ ts:List Addr,H r=some (.lst (ts.map V.ref))/\Paired (fun t s=>H t=some (tupT s)) ts ss
noncomputable def IsMk (H:Hp) (d:Addr) (ks:List Str) (F:Str->List Tr):Prop:=∃ ad:Str->Addr,H d=some (.dK (C2 ks fun y=>.ref (ad y)))/\∀ y∈ks,StepL H (ad y) (F y)
structure MkI(H H2:Hp)(d:Addr)(P:List Str)(F:Str->List Tr):Prop where
 same:Same H H2
 made:IsMk H2 d (E9 [] P) F
theorem rV{t:Addr}(hT:C9 K H t xs)(q:∀ p H',Same H H'->C9 K H' p (xs.take 2)->Q (.ref p) H'):rSlR K t none (some 2) H Q:=by
 by_cases h:xs.length<=2
 .refine rSlR.w hT ⟨rfl,?_⟩ (q t H (Same.refl H) (by rw [j0 h];exact hT));rw [show ((2:Int))=((2:Nat):Int) from rfl,HT.sIx_nat];lia
 .refine rSlR.t hT (fun e=>?_) fun p np=>q p _ (Same.new np) (.of ?_)
  .have:=e.2
   rw [show ((2:Int))=((2:Nat):Int) from rfl,HT.sIx_nat] at this;lia
  .rw [A5,show cutV xs none (some 2)=_ from kD xs 2]
theorem ahJ(xs ys:List Str):O9 (.tuple (xs.map .str)) (.tuple (ys.map .str))=decide (xs=ys):=by rw [O9,nS]
theorem ans(R:List Rl)(w:Str)(hf:∀ z∈R,z.1=w->z.2=[]):((R.map ruleD).any fun e=>O9 e (ruleD (w,[])))=hasW R w:=by
 unfold hasW;rw [List.any_map,dS,List.any_eq_true,List.any_eq_true];have key:∀ z:Rl,O9 (ruleD z) (ruleD (w,[]))=decide (z.1::z.2=[w]):=fun z=>by
  unfold ruleD;exact ahJ _ _
 constructor
 .rintro ⟨z,hz,h⟩;refine ⟨z,hz,?_⟩;have h:O9 (ruleD z) (ruleD (w,[]))=true:=h;rw [key,decide_eq_true_eq] at h;exact decide_eq_true (List.cons.inj h).1
 .rintro ⟨z,hz,h⟩;have h:z.1=w:=by simpa using h
  refine ⟨z,hz,?_⟩;show O9 (ruleD z) (ruleD (w,[]))=true;rw [key,decide_eq_true_eq,h,hf z hz h]
noncomputable def UnT (H:Hp) (e:Addr×Addr) (u:M5):Prop:=H e.1=some (.tup [.int u.1,.int u.2.1,.ref e.2,.int u.2.2.2])/\H e.2=some (.tup (u.2.2.1.map V.int))
structure UnJ(H0 H:Hp)(l:Addr)(es:List (Addr×Addr))(U:List M5):Prop where
 same:Same H0 H
 new:H0 l=none
 top:H l=some (.lst (es.map fun e=>V.ref e.1))
 row:Paired (UnT H) es U
theorem alw{p:Str}(hp:p∈(D4 R).map (·.1)):p∈Q1 R:=L4 _ ((kI _ _).mpr hp)
end L2
open L2 in
local macro_rules | `(tactic| walk_at "rd")=>`(tactic| simp only [↓zZ,↓ap_c,↓amJ,↓aoo,↓akQ,↓amK,↓amL,↓aop,↓amM,↓aoq,↓aor,↓amN,↓ap_op,↓amE,↓ap_tB,↓aom,↓aol,↓ap_or,↓amH,↓aon,↓amI,↓amG,↓ap_if,↓akP,↓ap_cb,↓amR,↓aou,↓amS,↓aov,↓aow,↓ap_sl,↓ajc,↓amT,↓aoz,↓am3,↓akU,↓am1,↓am2,↓akV,↓akW,↓ap_bm,↓aox,↓aos,↓amP,↓amO,↓akS,↓amQ,↓ap_un,↓ap_rU,↓aot,↓aoy,↓amU,↓amV,↓amW,↓amX,↓akR,↓amY,↓akT,↓amZ,↓amF,am0,am4,akX,akY,akZ,↓ad_ii,↓ad_ss,↓ad_rr,↓mu_ii,↓mu_ri,↓eq_ii,↓eq_ss,↓eq_bb,↓eq_rx,↓eq_xr,↓ne_ii,↓ne_ss,↓ne_bb,↓ne_rx,↓ne_xr,↓L2.lt_ii,↓L2.lt_ss,↓le_ii,↓le_ss,↓gt_ii,↓gt_ss,↓ge_ii,↓ge_ss,↓in_xs,↓in_xr,↓sl_s,↓sl_r,↓len_s,↓len_r,↓aoB,↓all_r,↓isi_t,↓ord_s,↓aoI,↓ak3,alQ,↓ak4,↓tup_r,↓anb,↓aoJ,↓aoK,↓anc,↓ane,↓ak6,↓ak7,↓am5,↓am6,↓ao2,↓aoY,↓aoX,↓ano,↓ajH,↓aoZ,↓ao0,↓ao1,↓any_r,↓alh,↓anl,↓anm,↓aoQ,↓ann,↓ali,↓anf,↓alc,↓anh,↓alb,ak0,afU,cxK,cxKn,cxKb,cxC,cxCn,cxCb,G6,List.map_nil,F8,V4,Nat.sub_self,Nat.reduceAdd,Nat.reduceSub,Nat.zero_add,Nat.add_one_sub_one,List.replicate_zero,fV,L7,fY,List.cons_append,List.getElem?_cons_zero,List.getElem?_cons_succ,List.set_cons_zero,List.set_cons_succ,Option.some.injEq,Option.join_some,Option.join_none,exists_eq_left',exists_eq_left,exists_eq',exists_eq,reduceCtorEq,false_and,and_false,exists_false,exists_const,false_or,or_false,true_and,and_true,V.str.injEq,V.int.injEq,V.bl.injEq,V.ref.injEq,V.ty.injEq,List.cons.injEq,exists_and_left,exists_and_right,and_assoc,if_true,if_false,Bool.false_eq_true,Bool.not_true,Bool.not_false,ite_true,ite_false,Int.reduceLT,Int.reduceLE,K1])
namespace K83
open PySem PySem.Spec PyProof.Rows L2
set_option maxRecDepth 100000
set_option maxHeartbeats 4000000
noncomputable def top (i:Nat):Stmt:=PySem.Challenge.pw_sortlore_k83_whole_change.main.body.getD i (.Pass ⟨0,0,0,0⟩)
noncomputable abbrev u7:Stmt:=top 12
noncomputable abbrev Y8:Stmt:=top 13
noncomputable abbrev u8:Stmt:=top 16
noncomputable abbrev Q2:Stmt:=top 19
noncomputable abbrev oW:Stmt:=top 21
noncomputable abbrev kP:Stmt:=top 31
noncomputable abbrev oX:Stmt:=top 32
noncomputable abbrev cL:Stmt:=top 33
noncomputable abbrev i5:Stmt:=top 34
noncomputable abbrev aO:Stmt:=top 35
noncomputable abbrev aP:Stmt:=top 36
noncomputable abbrev kQ:Stmt:=top 37
noncomputable abbrev cM:Stmt:=top 38
noncomputable abbrev P0:Stmt:=top 39
noncomputable abbrev cN:Stmt:=gG (top 40) 0
noncomputable abbrev eS:Stmt:=gG (top 40) 1
noncomputable abbrev eT:Stmt:=gG (top 40) 2
noncomputable abbrev cO:Stmt:=gG (top 40) 3
noncomputable abbrev eU:Stmt:=top 22
noncomputable abbrev aQ:Stmt:=top 23
noncomputable abbrev s_cut:Stmt:=top 24
noncomputable abbrev eV:Stmt:=gG (top 40) 4
noncomputable abbrev cP:Stmt:=gG (top 40) 5
noncomputable abbrev kR:Stmt:=top 47
noncomputable abbrev kS:Stmt:=top 48
noncomputable abbrev kT:Stmt:=top 49
noncomputable abbrev i6:Stmt:=top 50
noncomputable abbrev u9:Stmt:=top 51
noncomputable abbrev v4:Stmt:=top 1
noncomputable abbrev v6:Stmt:=top 2
noncomputable abbrev T3:Stmt:=top 3
noncomputable abbrev v7:Stmt:=top 43
noncomputable abbrev v8:Stmt:=top 44
noncomputable abbrev c9:Stmt:=top 45
noncomputable abbrev kU:Stmt:=top 53
noncomputable abbrev Q6:Stmt:=top 54
noncomputable abbrev Q7:Stmt:=top 55
noncomputable abbrev aR:Stmt:=top 4
noncomputable abbrev v9:Stmt:=top 56
noncomputable abbrev Y9:Stmt:=top 57
noncomputable abbrev X6:Stmt:=top 58
noncomputable abbrev s_law:Stmt:=top 59
noncomputable def visB (S:Scope) (x:Str):Bool:=decide (S.names.lookup x=some .local) || decide (S.names.lookup x=some .cell) || decide (S.names.lookup x=some .free)
theorem qvd{pos:Pos}{S:Scope}{x:Str}(hN:X.N=N)(hs:X.env.scope=S)(h:(decide (N[n]?=some x)&&visB S x && !(x==("__debug__" : Str)) && !(x==("__classdict__" : Str)))=true):QE X (.Name x pos) (tVar n):=by
 subst hN hs;simp only [visB,W9,Bool.or_eq_true,decide_eq_true_eq,jI] at h;exact qe_v h.1.1.1 (h.1.1.2.elim (fun z=>z.elim .inl fun z=>.inr (.inl z)) fun z=>.inr (.inr z)) h.1.2 h.2
theorem len1{α:Type}{F:List α->Prop}(h:∀ a,F [a]):∀ us:List α,us.length=1->F us
 | [a],_=>h a
theorem len2{α:Type}{F:List α->Prop}(h:∀ a b,F [a,b]):∀ us:List α,us.length=2->F us
 | [a,b],_=>h a b
theorem len3{α:Type}{F:List α->Prop}(h:∀ a b c,F [a,b,c]):∀ us:List α,us.length=3->F us
 | [a,b,c],_=>h a b c
theorem len4{α:Type}{F:List α->Prop}(h:∀ a b c d,F [a,b,c,d]):∀ us:List α,us.length=4->F us
 | [a,b,c,d],_=>h a b c d
theorem len5{α:Type}{F:List α->Prop}(h:∀ a b c d e,F [a,b,c,d,e]):∀ us:List α,us.length=5->F us
 | [a,b,c,d,e],_=>h a b c d e
theorem G8{Q:List Str}{sc:Scope}(h1:sc.kind=.function:=by rfl)(h2:sc.isCoroutine=false:=by rfl)(h3:sc.isGenerator=false:=by rfl)(h4:N.Nodup:=by decide +kernel)(h5:N.take Q.length=Q:=by rfl)(h6:∀ x∈Q,sc.names.lookup x=some .local\/sc.names.lookup x=some .cell:=by decide +kernel)(h7:∀ y∈sc.names,y.2≠.free:=by decide +kernel):FnScope N Q sc:=⟨h1,h2,h3,h4,h5,h6,h7⟩
theorem R3{kn:List (Str×NameKind)}{sc:Scope}(h1:sc.kind=.function:=by rfl)(h2:∀ x∈sc.names,x.2≠.cell:=by decide +kernel)(h3:∀ x∈sc.names,x.2=.local->sc.names.lookup x.1=some .local:=by decide +kernel)(h4:∀ x∈sc.names,x.2=.free->kn.lookup x.1=some .cell\/kn.lookup x.1=some .free:=by decide +kernel)(h5:∀ x∈sc.names,x.2=.free->sc.names.lookup x.1=some .free:=by decide +kernel)(h6:N'.length=k+ixs.length:=by rfl)(h7:ixs.map (fun i=>N[i]?)=(N'.drop k).map some:=by decide +kernel)(h8:∀ x∈N'.drop k,(x,NameKind.free)∈sc.names:=by decide +kernel):CompOk N kn sc N' k ixs:=⟨h1,h2,h3,h4,h5,h6,h7,h8⟩
theorem hm(r:Room k A)(h:j<=k:=by decide):Room j A:=r.mono h
structure DF(K:PySem.W.Frag)(n:Str)(s:Stmt):Prop where
 ex:∃ (f:Addr) (oc:Value) (od:Option Addr) (kV dc pm:Value) (an:Option Addr) (cd ct:Value) (sl:Array (Option Value)),P8 K mainGlobals n=some (some (.ref f))/\K.lookup f=some ⟨oc,od,.func (T6 n n (V9 s) (U4 s) (C6 s) .none kV dc pm an cd ct),sl⟩/\Y0 K cd n=true/\V8 K (.ref f)=true
theorem df_mk{n:Str}{s:Stmt}{kV dc:Value}{sl:Array (Option Value)}(a:P8 K mainGlobals n=some (some (.ref f)))(l:K.lookup f=some ⟨oc,od,.func (T6 n n (V9 s) (U4 s) (C6 s) .none kV dc pm an cd ct),sl⟩)(c:Y0 K cd n=true)(k:V8 K (.ref f)=true):DF K n s:=⟨f,oc,od,kV,dc,pm,an,cd,ct,sl,a,l,c,k⟩
theorem DF.go{P:Program}{w:World}{base:Heap}{n:Str}{s:Stmt}(d:DF K n s)(X:K.In h)(G:h.Ns mainGlobals mg)(_:K.In base)(ok:∀ {f fd},FunD K n n s f fd->FnOk P w K mg base E8 k f fd ps sp)(hl:∀ (kV dc pm:Value) (an:Option Addr) (cd ct:Value) (us:List Value),us.length=ps.length->bindArgs (T6 n n (V9 s) (U4 s) (C6 s) .none kV dc pm an cd ct) ⟨us,[]⟩=pure (ps.zip us):=by first | exact fun _ _ _ _ _ _=>len1 fun _=>rfl | exact fun _ _ _ _ _ _=>len2 fun _ _=>rfl | exact fun _ _ _ _ _ _=>len3 fun _ _ _=>rfl | exact fun _ _ _ _ _ _=>len4 fun _ _ _ _=>rfl | exact fun _ _ _ _ _ _=>len5 fun _ _ _ _ _=>rfl):FO P w K mg base k n ps [] sp:=by
 obtain ⟨f,oc,od,kV,dc,pm,an,cd,ct,sl,a,l,c,kp⟩:=d.ex;exact ⟨_,_,ok (aI (st:=s) l c),j8 X G a,kp,[],.all (hl kV dc pm an cd ct),.nil⟩
structure Txt(P:Program)(w:World)(K:PySem.W.Frag)(mg:Str->Option Value)(C:Addr):Prop where
 cl:Cls K C
 na_figures:NoAttr K C "figures"
 na_behind:NoAttr K C "behind"
 na_jobs:NoAttr K C "jobs"
 na_letter_line:NoAttr K C "letter_line"
 na_mark_line:NoAttr K C "mark_line"
 na_made:NoAttr K C "made"
 b_any:mg "any"=none
 b_dict:mg "dict"=none
 b_enumerate:mg "enumerate"=none
 b_int:mg "int"=none
 b_isinstance:mg "isinstance"=none
 b_len:mg "len"=none
 b_list:mg "list"=none
 b_min:mg "min"=none
 b_range:mg "range"=none
 b_tuple:mg "tuple"=none
 b_zip:mg "zip"=none
 g_MARK:∃ t,mg "MARK"=some (.int 0 t)
 g_LETTER:∃ t,mg "LETTER"=some (.int 2 t)
 g_FIGURES:∃ t,mg "FIGURES"=some (.int 1 t)
 x_JOBS:∃ a,mg "JOBS"=some (.ref a)/\ModD P w K a [((Sum.inr ("row" : Str):C3),V.str "letter"),((Sum.inr ("marks" : Str):C3),V.str "mark"),((Sum.inr ("great" : Str):C3),V.str "great"),((Sum.inr ("as" : Str):C3),V.str "as"),((Sum.inr ("over" : Str):C3),V.str "over")]
 x_AGAIN:∃ a,mg "AGAIN"=some (.ref a)/\∀ H:Hp,C9 K H a [V.str "letter",V.str "mark",V.str "over"]
 x_STAYING:∃ a,mg "STAYING"=some (.ref a)/\ModD P w K a [((Sum.inr ("row" : Str):C3),V.int 1),((Sum.inr ("marks" : Str):C3),V.int 1),((Sum.inr ("over" : Str):C3),V.int 1),((Sum.inr ("great" : Str):C3),V.int 2)]
noncomputable def lastP {α:Type} (pos:α->Nat) (g:List α):Nat:=(g.getLast?.map pos).getD 0
noncomputable def grpAt {α:Type} (pos:α->Nat) (gs:List (List α)) (t:α):Nat:=gs.findIdx fun g=>decide (pos t<lastP pos g)
noncomputable def addG {α:Type} (pos:α->Nat) (gs:List (List α)) (t:α):List (List α):=(if grpAt pos gs t=gs.length then gs++[[]] else gs).modify (grpAt pos gs t) (·++[t])
noncomputable def grps {α:Type} (pos:α->Nat) (ts:List α):List (List α):=ts.foldl (addG pos) []
noncomputable def i7 {α:Type} (gs:List (List α)) (i:Nat):Option α:=if 0<i then gs[i-1]?.bind List.getLast? else none
theorem aj4{α:Type}(pos:α->Nat)(ts:List α)(t:α):grps pos (ts++[t])=addG pos (grps pos ts) t:=by unfold grps;rw [j3];rfl
theorem uA{α:Type}(pos:α->Nat)(gs:List (List α))(t:α):grpAt pos gs t<=gs.length:=List.findIdx_le_length
theorem aj5{α:Type}{pos:α->Nat}{gs:List (List α)}{t:α}{g:List α}(h:gs[grpAt pos gs t]?=some g):pos t<lastP pos g:=by
 obtain ⟨h1,h2⟩:=G9.mp h
 have:=List.findIdx_getElem (p:=fun g=>decide (pos t<lastP pos g)) (w:=h1)
 rw [<- h2];unfold grpAt
 simpa using this
theorem aio{α:Type}{pos:α->Nat}{gs:List (List α)}{t:α}{g:List α}(hj:j<grpAt pos gs t)(h:gs[j]?=some g):lastP pos g<=pos t:=by
 obtain ⟨h1,h2⟩:=G9.mp h
 have:=List.not_of_lt_findIdx (p:=fun g=>decide (pos t<lastP pos g)) hj
 rw [h2] at this
 simpa using this
theorem alx{α:Type}{pos:α->Nat}{g:List α}(h:g.Pairwise fun x y=>pos y<pos x){x:α}(hx:x∈g):lastP pos g<=pos x:=by
 rcases List.eq_nil_or_concat g with rfl | ⟨g0,l,rfl⟩
 .cases hx
 .unfold lastP;rw [List.concat_eq_append] at h hx ⊢
  rw [List.getLast?_append,List.getLast?_singleton];show pos l<=pos x;rw [List.pairwise_append] at h
  rcases F6.mp hx with h1 | h1
  .exact Nat.le_of_lt (h.2.2 x h1 l (by simp))
  .rw [E6.mp h1];exact C5 _
theorem oY{α:Type}{pos:α->Nat}{g:List α}(h:g≠[]):∃ u,g.getLast?=some u/\u∈g/\lastP pos g=pos u:=by
 refine ⟨g.getLast h,List.getLast?_eq_some_getLast h,List.getLast_mem h,?_⟩;unfold lastP;rw [List.getLast?_eq_some_getLast h];rfl
theorem aj6{α:Type}{pos:α->Nat}{gs:List (List α)}{t:α}{g:List α}(h:(addG pos gs t)[k]?=some g) :
  (k≠grpAt pos gs t/\gs[k]?=some g)\/(k=grpAt pos gs t/\∃ g0,g=g0++[t]/\((k=gs.length/\g0=[])\/(gs[k]?=some g0/\pos t<lastP pos g0))):=by
 unfold addG at h;rw [List.getElem?_modify] at h
 by_cases hi:grpAt pos gs t=gs.length
 .rw [if_pos hi] at h
  by_cases hk:grpAt pos gs t=k
  .refine .inr ⟨hk.symm,[],?_⟩;rw [<- hk,hi,dM (C5 _),Nat.sub_self] at h;simp at h;exact ⟨h.symm,.inl ⟨hk.symm.trans hi,rfl⟩⟩
  .refine .inl ⟨fun e=>hk e.symm,?_⟩;simp only [hk,if_false] at h;have h2:(gs++[[]])[k]?=some g:=by simpa using h
   by_cases hl:k<gs.length
   .rw [bM hl] at h2;exact h2
   .have:=(G9.mp h2).1
    rw [D1,W7] at this;lia
 .rw [if_neg hi] at h
  by_cases hk:grpAt pos gs t=k
  .cases h3:gs[k]? with
   | none=>rw [h3] at h;simp at h
   | some g0=>
    rw [h3] at h;refine .inr ⟨hk.symm,g0,?_,.inr ⟨rfl,aj5 (by rw [hk];exact h3)⟩⟩;simp [hk] at h;exact h.symm
  .refine .inl ⟨fun e=>hk e.symm,?_⟩
   simpa [hk] using h
theorem ahK{α:Type}{pos:α->Nat}{gs:List (List α)}{t:α}{g:List α}(h:gs[k]?=some g):∃ g',(addG pos gs t)[k]?=some g'/\∀ x∈g,x∈g':=by
 have hl:=(G9.mp h).1;unfold addG;rw [List.getElem?_modify];have h2:(if grpAt pos gs t=gs.length then gs++[[]] else gs)[k]?=some g:=by
  split
  .rw [bM hl];exact h
  .exact h
 rw [h2];refine ⟨_,rfl,fun x hx=>?_⟩;show x∈if grpAt pos gs t=k then g++[t] else g
 split
 .exact L4 _ hx
 .exact hx
theorem aeo{α:Type}(t:α):∀ (gs:List (List α)) (i:Nat),i<gs.length->(gs.modify i (·++[t])).flatten.Perm (gs.flatten++[t])
 | [],i,h=>absurd h (Nat.not_lt_zero _)
 | g::gs,0,_=>by
  show (g++[t]++gs.flatten).Perm (g++gs.flatten++[t]);rw [U1,U1];exact List.Perm.append_left _ List.perm_append_comm
 | g::gs,i+1,h=>by
  show (g++(gs.modify i (·++[t])).flatten).Perm (g++gs.flatten++[t]);rw [U1];exact List.Perm.append_left _ (aeo t gs i (by simpa using h))
theorem aj7{α:Type}(pos:α->Nat)(gs:List (List α))(t:α):(addG pos gs t).flatten.Perm (gs.flatten++[t]):=by
 unfold addG;have iQ:=uA pos gs t;have h1:grpAt pos gs t<(if grpAt pos gs t=gs.length then gs++[[]] else gs).length:=by
  split
  .rw [D1,W7];lia
  .lia
 refine (aeo t _ _ h1).trans ?_
 split
 .rw [fW];simp
 .exact List.Perm.refl _
structure GI{α:Type}[BEq α](pos:α->Nat)(ts:List α)(gs:List (List α))(ah:α->Option α):Prop where
 perm:gs.flatten.Perm ts
 grp:∀ (k:Nat) (g:List α),gs[k]?=some g->g≠[]/\(g.Pairwise fun x y=>pos y<pos x)/\g.Sublist ts
 chain:∀ (k:Nat) (g:List α),gs[k]?=some g->∀ t∈g,(k=0->ah t=none)/\∀ j:Nat,k=j+1->∃ (g':List α) (u:α),gs[j]?=some g'/\u∈g'/\ah t=some u/\pos u<pos t/\ts.idxOf u<ts.idxOf t
theorem GI.nil{α:Type}[BEq α](pos:α->Nat)(ah:α->Option α):GI pos [] [] ah:=⟨.refl _,fun k g h=>by simp at h,fun k g h=>by simp at h⟩
theorem GI.add{α:Type}[BEq α][LawfulBEq α][DecidableEq α]{pos:α->Nat}{ts:List α}{gs:List (List α)}{ah:α->Option α}{t:α}(G:GI pos ts gs ah)(hn:t∉ts)(wQ:∀ x∈ts,pos x≠pos t) :
  GI pos (ts++[t]) (addG pos gs t) fun x=>if x=t then i7 gs (grpAt pos gs t) else ah x:=by
 have sub:∀ {k g x},gs[k]?=some g->x∈g->x∈ts:=fun h hx=>(G.grp _ _ h).2.2.subset hx
 have idx:∀ x∈ts,(ts++[t]).idxOf x=ts.idxOf x:=fun x hx=>by rw [List.idxOf_append,if_pos hx]
 have idt:(ts++[t]).idxOf t=ts.length:=by rw [List.idxOf_append,if_neg hn];simp
 have old:∀ k g,gs[k]?=some g->∀ x∈g,(k=0->(if x=t then i7 gs (grpAt pos gs t) else ah x)=none)/\∀ j,k=j+1->∃ g' u,(addG pos gs t)[j]?=some g'/\u∈g'/\(if x=t then i7 gs (grpAt pos gs t) else ah x)=some u/\pos u<pos x/\(ts++[t]).idxOf u<(ts++[t]).idxOf x:=by
  intro k g hk x hx;have bB:=sub hk hx;have G3:x≠t:=fun e=>hn (by rw [<- e];exact bB)
  rw [if_neg G3];obtain ⟨c1,c2⟩:=G.chain k g hk x hx;refine ⟨c1,fun j hj=>?_⟩;obtain ⟨g',u,h1,h2,h3,h4,h5⟩:=c2 j hj;obtain ⟨g'',h6,h7⟩:=ahK (t:=t) (pos:=pos) h1;exact ⟨g'',u,h6,h7 u h2,h3,h4,by rw [idx u (sub h1 h2),idx x bB];exact h5⟩
 refine ⟨(aj7 pos gs t).trans (List.Perm.append_right _ G.perm),fun k g h=>?_,fun k g h=>?_⟩
 .rcases aj6 h with ⟨_,h1⟩ | ⟨h0,g0,rfl,h1⟩
  .obtain ⟨a,b,c⟩:=G.grp k g h1;exact ⟨a,b,c.trans (List.sublist_append_left _ _)⟩
  .refine ⟨by simp,?_,?_⟩
   .rcases h1 with ⟨_,rfl⟩ | ⟨h1,h2⟩
    .simp
    .rw [List.pairwise_append];refine ⟨(G.grp k g0 h1).2.1,by simp,fun a ha b hb=>?_⟩;rw [E6.mp hb];exact T5 h2 (alx (G.grp k g0 h1).2.1 ha)
   .refine List.Sublist.append ?_ (List.Sublist.refl _)
    rcases h1 with ⟨_,rfl⟩ | ⟨h1,h2⟩
    .exact List.nil_sublist _
    .exact (G.grp k g0 h1).2.2
 .rcases aj6 h with ⟨_,h1⟩ | ⟨h0,g0,rfl,h1⟩
  .exact old k g h1
  .intro x hx
   rcases F6.mp hx with hx | hx
   .rcases h1 with ⟨_,rfl⟩ | ⟨h1,h2⟩
    .cases hx
    .exact old k g0 h1 x hx
   .rw [E6.mp hx,if_pos rfl];refine ⟨fun e=>?_,fun j hj=>?_⟩
    .unfold i7;rw [<- h0,e,if_neg (j5 _)]
    .have D0:j<grpAt pos gs t:=by lia
     have qF:j<gs.length:=T5 D0 (uA pos gs t);obtain ⟨u,u1,u2,u3⟩:=oY (pos:=pos) (G.grp j gs[j] (by simp)).1;have hu:u∈ts:=sub (k:=j) (g:=gs[j]) (by simp) u2;have iQ:=aio D0 (show gs[j]?=some gs[j] by simp);obtain ⟨g'',h6,h7⟩:=ahK (t:=t) (pos:=pos) (show gs[j]?=some gs[j] by simp);refine ⟨g'',u,h6,h7 u u2,?_,?_,?_⟩
     .unfold i7;rw [if_pos (by lia),show grpAt pos gs t-1=j by lia,show gs[j]?=some gs[j] by simp];exact u1
     .have:=wQ u hu
      lia
     .rw [idx u hu,idt];exact List.idxOf_lt_length_of_mem hu
theorem uB{α:Type} : ∀ {xs:List α} {i:Nat} {y:α},xs[i]?=some y->xs.Perm (y::xs.eraseIdx i)
 | [],i,y,h=>by simp at h
 | x::xs,0,y,h=>by simp at h;subst h;exact .refl _
 | x::xs,i+1,y,h=>by
  have:=uB (xs:=xs) (i:=i) (y:=y) (by simpa using h)
  exact (List.Perm.cons x this).trans (List.Perm.swap y x _)
theorem aly{α:Type}(xs:List α)(i:Nat)(y:α):(xs.take i++y::xs.drop i).Perm (y::xs):=by
 have:=@List.perm_middle _ y (xs.take i) (xs.drop i)
 rwa [q9] at this
noncomputable def E3 (ys:List Str) (z:Str):Nat:=ys.idxOf z
theorem ae5{α β:Type}{F G:α->β->Prop} : ∀ {l₁:List α} {l₂:List β},Paired F l₁ l₂->(∀ (j:Nat) (a:α) (b:β),l₁[j]?=some a->F a b->G a b)->Paired G l₁ l₂
 | _,_,.nil,_=>.nil
 | _,_,.cons h t,k=>.cons (k 0 _ _ rfl h) (ae5 t fun j a b ha hb=>k (j+1) a b (by simpa using ha) hb)
theorem ae6{α β:Type}{F G:α->β->Prop}{f:β->β} : ∀ {l₁:List α} {l₂:List β} {i:Nat},Paired F l₁ l₂->(∀ (j:Nat) (a:α) (b:β),l₁[j]?=some a->j≠i->F a b->G a b)->(∀ (a:α) (b:β),l₁[i]?=some a->l₂[i]?=some b->F a b->G a (f b))->Paired G l₁ (l₂.modify i f)
 | _,_,_,.nil,_,_=>by simp only [List.modify_nil];exact .nil
 | _,_,0,.cons h t,k1,k2=>.cons (k2 _ _ rfl rfl h) (ae5 t fun j a b ha hb=>k1 (j+1) a b (by simpa using ha) (by lia) hb)
 | _,_,i+1,.cons h t,k1,k2=>.cons (k1 0 _ _ rfl (by lia) h) (ae6 t (fun j a b ha hn hb=>k1 (j+1) a b (by simpa using ha) (by lia) hb) fun a b ha hb=>k2 a b (by simpa using ha) (by simpa using hb))
theorem _root_.L2.RowsAt.modi(R:RowsAt H0 H a rs zss)(hr:rs[i]?=some r)(hz:zss[i]?=some zs)(z:Str):RowsAt H0 (A4 H r (.lst (zs.map V.str++[V.str z]))) a rs (zss.modify i (·++[z])):=by
 obtain ⟨na,ndr⟩:=Q4.mp R.nd;have hm:r∈rs:=L3 hr;refine ⟨⟨?_,?_⟩,R.nd,R.new,R.same.put (R.new r (I0 _ hm))⟩
 .rw [A9 (fun e=>na (by rw [e];exact hm))];exact R.rows.top
 .refine ae6 R.rows.row (fun j b ys hb G3 h=>?_) fun b ys hb mH h=>?_
  .have hbr:b≠r:=fun e=>by
    obtain ⟨h1,h2⟩:=G9.mp hb;obtain ⟨h3,h4⟩:=G9.mp hr
    have:=f9.mp ndr
    rw [q5] at this
    rcases Nat.lt_or_gt_of_ne G3 with hl | hl
    .exact this j i h1 h3 hl (by rw [h2,h4,e])
    .exact this i j h3 h1 hl (by rw [h2,h4,e])
   show A4 H r (HO.lst (zs.map V.str++[V.str z])) b=some (HO.lst (ys.map V.str));rw [A9 hbr];exact h
  .have e1:b=r:=Option.some.inj (hb.symm.trans hr);have e2:ys=zs:=Option.some.inj (mH.symm.trans hz);show A4 H r (HO.lst (zs.map V.str++[V.str z])) b=some (HO.lst ((ys++[z]).map V.str));rw [e1,e2,A5,E4];rfl
noncomputable def ahL:Sp:=fun vs H Q _=>∃ (b:Addr) (ys:List Str),vs=[.ref b]/\H b=some (.lst (ys.map V.str))/\ys.Nodup/\ys.length<=1000/\∀ (d:Addr) (H':Hp),H d=none->Same H H'->H' d=some (.dK (C2 ys fun t=>.int (E3 ys t:Nat)))->Q (.ref d) H'
noncomputable def spGrp:Sp:=fun vs H Q _=>∃ (g d:Addr) (t:Str) (rs:List Addr) (gs:List (List Str)) (dom:List Str) (pos:Str->Nat),vs=[.ref g,.ref d,.str t]/\IsRows H g rs gs/\H d=some (.dK (C2 dom fun x=>.int (pos x:Nat)))/\(∀ gr∈gs,gr≠[]/\∀ x∈gr,x∈dom)/\t∈dom/\∀ H',Same H H'->Q (.int (grpAt pos gs t:Nat)) H'
noncomputable def uC:Sp:=fun vs H Q _=>∃ (a b:Addr) (xs ys:List Str),vs=[.ref a,.ref b]/\H a=some (.lst (xs.map V.str))/\H b=some (.lst (ys.map V.str))/\xs.Nodup/\ys.Nodup/\(∀ x∈xs,x∈ys)/\xs.length<=1000/\ys.length<=1000/\
 ∀ (p k g:Addr) (rs:List Addr) (ks:List Str) (ah:Str->Option Str) (H':Hp),H p=none->H k=none->H' p=some (.tup [.ref k,.ref g])->H' k=some (.lst (ks.map V.str))->RowsAt H H' g rs (grps (E3 ys) xs)->k∉g::rs->GI (E3 ys) xs (grps (E3 ys) xs) ah->
  (ks.Pairwise fun x y=>E3 ys x<E3 ys y/\E3 xs x<E3 xs y)->(∀ x∈ks,x∈xs)->ks.length=(grps (E3 ys) xs).length->Q (.ref p) H'
noncomputable def oZ (K:PySem.W.Frag):Sp:=fun vs H Q _=>∃ (a:Addr) (ns:List Int) (k:Int),vs=[.ref a,.int k]/\E5 K H a (ns.map V.int)/\0<=k/\∀ n:Int,Q (.int n) H
noncomputable def aj9 (K:PySem.W.Frag):Sp:=fun vs H Q _=>∃ (a:Addr) (ns:List Int) (m:Int),vs=[.ref a,.int m]/\E5 K H a (ns.map V.int)/\ns.length<=63/\0<=m/\m<=60/\
 ∀ (p l1 l2:Addr) (xs ys:List Str) (H':Hp),Same H H'->H' p=some (.tup [.ref l1,.ref l2])->H' l1=some (.lst (xs.map V.str))->H' l2=some (.lst (ys.map V.str))->H l1=none->H l2=none->l1≠l2->xs.length=m.toNat->xs.Nodup->ys.Perm xs->(∀ z∈xs,X3 z=true)->Q (.ref p) H'
noncomputable def TuSt (H:Hp) (a l1:Addr) (m sh:Int) (xs:List Str) (Y:L2.St) (H2:Hp):Prop:=∃ (p:Addr) (ys:List Str) (u v w x y:Option V),Y=[some (.ref a),some (.int m),some (.ref l1),some (.ref p),some (.int sh),u,v,w,x,y]/\Same H H2/\H2 l1=some (.lst (xs.map V.str))/\H2 p=some (.lst (ys.map V.str))/\H p=none/\p≠l1/\ys.Perm xs
theorem _root_.L2.RowsAt.keep(R:RowsAt H0 H a rs zss)(s:Same H H'):RowsAt H0 H' a rs zss:=⟨R.rows.same s,R.nd,R.new,R.same.trans s⟩
theorem _root_.L2.RowsAt.other{v:HO}(R:RowsAt H0 H a rs zss)(hb:b∉a::rs)(h0:H0 b=none):RowsAt H0 (A4 H b v) a rs zss:=by
 refine ⟨⟨?_,gM R.rows.row fun r hr zs h=>?_⟩,R.nd,R.new,R.same.put h0⟩
 .rw [A9 (fun e=>hb (by rw [<- e];exact J7))];exact R.rows.top
 .rw [A9 (fun e=>hb (by rw [<- e];exact I0 _ hr))];exact h
theorem _root_.L2.RowsAt.noDict{d:Addr}(R:RowsAt H0 H a rs zss)(hd:H d=some (.dK kvs)):d∉a::rs:=fun hm=>by
 rcases D9.mp hm with h | h
 .subst h;rw [R.rows.top] at hd;cases hd
 .obtain ⟨i,hi,rfl⟩:=V0.mp h;obtain ⟨zs,_,h2⟩:=Paired.at R.rows.row (i:=i) (a:=rs[i]) (by simp [hi]);rw [h2] at hd;cases hd
structure KeptW(xs ys:List Str)(gs:List (List Str))(m:Nat)(ks:List Str)(lo:Option Str):Prop where
 len:ks.length+m=gs.length
 zero:m=0->lo=none
 more:∀ j:Nat,m=j+1->∃ (gr:List Str) (t:Str),gs[j]?=some gr/\t∈gr/\lo=some t/\∀ x∈ks,E3 ys t<E3 ys x/\E3 xs t<E3 xs x
 pw:ks.Pairwise fun x y=>E3 ys y<E3 ys x/\E3 xs y<E3 xs x
 sub:∀ x∈ks,x∈xs
theorem KeptW.next{xs:List Str}{gs:List (List Str)}{t:Str}{ah:Str->Option Str}(G:GI (E3 ys) xs gs ah)(w:KeptW xs ys gs (j+1) ks (some t)):t∈xs/\KeptW xs ys gs j (ks++[t]) (ah t):=by
 obtain ⟨gr,t',h1,h2,h3,h4⟩:=w.more j rfl;cases h3;have qH:t∈xs:=(G.grp j gr h1).2.2.subset h2;obtain ⟨c1,c2⟩:=G.chain j gr h1 t h2;refine ⟨qH,⟨?_,c1,fun i hi=>?_,?_,?_⟩⟩
 .have:=w.len
  rw [D1,W7];lia
 .obtain ⟨g',u,h5,h6,h7,h8,h9⟩:=c2 i hi;refine ⟨g',u,h5,h6,h7,fun x hx=>?_⟩
  rcases F6.mp hx with hx | hx
  .exact ⟨Nat.lt_trans h8 (h4 x hx).1,Nat.lt_trans h9 (h4 x hx).2⟩
  .rw [E6.mp hx];exact ⟨h8,h9⟩
 .rw [List.pairwise_append];refine ⟨w.pw,by simp,fun x hx y hy=>?_⟩;rw [E6.mp hy];exact h4 x hx
 .intro x hx
  rcases F6.mp hx with hx | hx
  .exact w.sub x hx
  .rw [E6.mp hx];exact qH
theorem ant{x y:Str}(hx:x∈ys)(hy:y∈ys)(h:E3 ys x=E3 ys y):x=y:=by
 unfold E3 at h;have a1:=bP (y8.mpr hx);have a2:=bP (y8.mpr hy);rw [<- a1,<- a2]
 congr 1
theorem ao5(nd:ys.Nodup)(h:ys[i]?=some z):E3 ys z=i:=by
 obtain ⟨hi,rfl⟩:=G9.mp h;exact List.Nodup.idxOf_getElem nd i hi
theorem ae7{α:Type}{g:List α}{u:α}(h:g.getLast?=some u):∃ g0,g=g0++[u]:=by
 rcases List.eq_nil_or_concat g with rfl | ⟨g0,l,rfl⟩
 .simp at h
 .rw [List.concat_eq_append] at h ⊢
  rw [List.getLast?_append,List.getLast?_singleton] at h;exact ⟨g0,by rw [show l=u by simpa using h]⟩
theorem uD{u:Str}(h:g.getLast?=some u):J9 (g.map V.str) (-1)=some (V.str u):=by
 obtain ⟨g0,rfl⟩:=ae7 h;rw [E4];exact rZ _ _
theorem aka(h:rs.getLast?=some r):J9 (rs.map V.ref) (-1)=some (V.ref r):=by
 obtain ⟨g0,rfl⟩:=ae7 h;rw [E4];exact rZ _ _
noncomputable def Good (w:Str) (ps:List Str):Prop:=ps.length<=1000/\(∀ z∈ps,X3 z=true)/\((w∈(["figures", "blanks", "behind"]:List Str)/\ps=[])\/∃ n:Int,(w,n)∈([("row",1),("marks",1),("great",2),("as",2),("over",1),("forget",1)]:List (Str×Int))/\n<=ps.length)
theorem Good.word{w:Str}(h:Good w ps):32∉w.cps.toList/\w.length<=7/\U3 w=true:=by
 rcases h.2.2 with ⟨hw,_⟩ | ⟨n,hw,_⟩
 .simp only [D9,W8,or_false] at hw
  rcases hw with rfl | rfl | rfl <;> decide +kernel
 .simp only [D9,W8,or_false,Prod.mk.injEq] at hw
  rcases hw with ⟨rfl,_⟩ | ⟨rfl,_⟩ | ⟨rfl,_⟩ | ⟨rfl,_⟩ | ⟨rfl,_⟩ | ⟨rfl,_⟩ <;> decide +kernel
noncomputable def Fine (z:Rl):Prop:=Good z.1 z.2
noncomputable abbrev M6:Str:="forget"
noncomputable def goneL (R:List Rl):List Str:=R.foldl (fun acc z=>if z.1=M6 then E9 acc z.2 else acc) []
noncomputable def stay (w:Str):Option Nat:=if w=("row" : Str)\/w=("marks" : Str)\/w=("over" : Str) then some 0 else if w=("great" : Str) then some 1 else none
noncomputable def keepR (g:List Str) (ps:List Str):List Str:=ps.filter fun p=>decide (p∉g)
noncomputable def K8 (g:List Str) (z:Rl):Option Rl:=
 if z.1=("as" : Str) then (if z.2.headD ""∈g then none else some z)
 else match stay z.1 with
  | none=>some z
  | some k=>if keepR g (z.2.drop k)=[] then none else some (z.1,z.2.take k++keepR g (z.2.drop k))
noncomputable def young (M:List Rl):List Rl:=M.filter fun z=>decide (z.1≠M6)
noncomputable def uE (R M:List Rl):List Rl:=young (R.filterMap (K8 (goneL M))++M)
noncomputable def RelR (H:Hp) (x:V):Option Rl->Prop
 | none=>x=.non
 | some z=>∃ r,x=.ref r/\H r=some (tupR z)
noncomputable def aep:Sp:=fun vs H Q _=>∃ (a:Addr) (rs:List Addr) (R:List Rl),vs=[.ref a]/\IsRules H a rs R/\(∀ z∈R,Fine z)/\R.length<=500/\∀ d H',H d=none->Same H H'->H' d=some (.dK (kvOf (goneL R)))->Q (.ref d) H'
noncomputable def agm:Sp:=fun vs H Q _=>∃ (a d:Addr) (z:Rl) (g:List Str),vs=[.ref a,.ref d]/\H a=some (tupR z)/\H d=some (.dK (kvOf g))/\Fine z/\∀ x H',Same H H'->RelR H' x (K8 g z)->Q x H'
noncomputable def agn:Sp:=fun vs H Q _=>∃ (a b:Addr) (rs ms:List Addr) (R M:List Rl),vs=[.ref a,.ref b]/\IsRules H a rs R/\IsRules H b ms M/\(∀ z∈R,Fine z)/\(∀ z∈M,Fine z)/\R.length<=500/\M.length<=500/\
 ∀ l qs H',H l=none->Same H H'->IsRules H' l qs (uE R M)->Q (.ref l) H'
theorem aip{z:Rl}(h:R[i]?=some z):goneL (R.take (i+1))=if z.1=M6 then E9 (goneL (R.take i)) z.2 else goneL (R.take i):=by
 unfold goneL;rw [U0,h];simp [j3]
theorem akb(h:∀ z∈R,Fine z):(goneL R).length<=1000*R.length:=by
 have key:∀ (R:List Rl) (acc:List Str),(∀ z∈R,Fine z)->(R.foldl (fun acc z=>if z.1=M6 then E9 acc z.2 else acc) acc).length<=acc.length+1000*R.length:=by
  intro R
  induction R with
  | nil=>intro acc _;exact C5 _
  | cons z R ih=>
   intro acc h;rw [List.foldl_cons];have h1:=ih (if z.1=M6 then E9 acc z.2 else acc) fun y hy=>h y (I0 _ hy)
   have h2:=eJ z.2 acc;have h3:=(h z J7).1;rw [F8]
   by_cases hw:z.1=M6
   .rw [if_pos hw] at h1 ⊢;lia
   .rw [if_neg hw] at h1 ⊢;lia
 have:=key R [] h
 simpa [goneL] using this
theorem aiq{lo:Option Int}(hn:k<n):¬ (HT.sIx n 0 lo=0/\HT.sIx n n (some (k:Int))=n):=fun h=>by
 have:=h.2
 rw [HT.sIx_nat] at this;lia
noncomputable abbrev STAY:List (C3×V):=[((Sum.inr ("row" : Str):C3),V.int 1),(Sum.inr ("marks" : Str),V.int 1),(Sum.inr ("over" : Str),V.int 1),(Sum.inr ("great" : Str),V.int 2)]
theorem air{z:Rl}(h:Fine z):(z.1=("as" : Str)/\stay z.1=none/\valV STAY (Sum.inr z.1)=none/\z.1≠M6/\∃ y ys,z.2=y::ys)\/(z.1≠("as" : Str)/\stay z.1=none/\valV STAY (Sum.inr z.1)=none)\/
  (z.1≠("as" : Str)/\z.1≠M6/\∃ k:Nat,stay z.1=some k/\valV STAY (Sum.inr z.1)=some (V.int ((k+1:Nat):Int))/\k<z.2.length):=by
 obtain ⟨w,ps⟩:=z;obtain ⟨_,_,h⟩:=h
 dsimp only at h ⊢
 rcases h with ⟨hw,rfl⟩ | ⟨n,hw,hn⟩
 .simp only [D9,W8,or_false] at hw
  rcases hw with rfl | rfl | rfl <;> exact .inr (.inl (by decide +kernel))
 .simp only [D9,W8,or_false,Prod.mk.injEq] at hw
  rcases hw with ⟨rfl,rfl⟩ | ⟨rfl,rfl⟩ | ⟨rfl,rfl⟩ | ⟨rfl,rfl⟩ | ⟨rfl,rfl⟩ | ⟨rfl,rfl⟩
  .exact .inr (.inr ⟨by decide +kernel,by decide +kernel,0,by decide +kernel,by rfl,by lia⟩)
  .exact .inr (.inr ⟨by decide +kernel,by decide +kernel,0,by decide +kernel,by rfl,by lia⟩)
  .exact .inr (.inr ⟨by decide +kernel,by decide +kernel,1,by decide +kernel,by rfl,by lia⟩)
  .refine .inl ⟨rfl,by decide +kernel,by rfl,by decide +kernel,?_⟩
   cases ps with
   | nil=>simp at hn
   | cons y ys=>exact ⟨y,ys,rfl⟩
  .exact .inr (.inr ⟨by decide +kernel,by decide +kernel,0,by decide +kernel,by rfl,by lia⟩)
  .exact .inr (.inl (by decide +kernel))
theorem RelR.same(S:Same H H'){o:Option Rl}(h:RelR H x o):RelR H' x o:=by
 cases o with
 | none=>exact h
 | some z=>obtain ⟨r,e,h⟩:=h;exact ⟨r,e,S _ _ h⟩
theorem kW{D:Addr}{ys:List V}{z:Rl}(hD:H D=some (.lst xs))(h:H r=some (tupR z)):A4 H D (.lst ys) r=some (tupR z):=by
 rw [A9 (fun e=>by rw [e,hD] at h;cases h)];exact h
theorem RelR.put{D:Addr}{ys:List V}(hD:H D=some (.lst xs)){o:Option Rl}(h:RelR H x o):RelR (A4 H D (.lst ys)) x o:=by
 cases o with
 | none=>exact h
 | some z=>obtain ⟨r,e,h⟩:=h;exact ⟨r,e,kW hD h⟩
theorem alz(z:Rl)(k:Nat):cutV ((z.1::z.2).map V.str) (some ((k+1:Nat):Int)) none=(z.2.drop k).map V.str:=by
 rw [cH,G6,jH,bT]
theorem akc(z:Rl)(k:Nat):cutV ((z.1::z.2).map V.str) none (some ((k+1:Nat):Int))=(z.1::z.2.take k).map V.str:=by
 rw [kD,G6,List.take_succ_cons,G6,bS]
theorem Paired.append{α β:Type}{F:α->β->Prop} : ∀ {l₁ zh:List α} {l₂ zg:List β},Paired F l₁ l₂->Paired F zh zg->Paired F (l₁++zh) (l₂++zg)
 | _,_,_,_,.nil,h=>h
 | _,_,_,_,.cons h t,h'=>.cons h (Paired.append t h')
theorem kX{g:Str->Str}{PL:List (Str×Str)}{j:Str}(h:NC false g PL)(hg:∀ p∈ps,g p=j/\p.length<=1000)(hn:j∈gU\/(ps.Nodup/\∀ p∈ps,p∉PL.map (·.1))):NC false g (PL++ps.map fun p=>(p,j)):=by
 intro i p q hi
 by_cases hl:i<PL.length
 .rw [bM hl] at hi;rw [List.take_append_of_le_length (by lia)];exact h i p q hi
 .rw [dM (by lia),V2] at hi;obtain ⟨p',pZ,e⟩:=Option.map_eq_some_iff.mp hi;obtain ⟨rfl,rfl⟩:=Prod.mk.inj e;have hm:=L3 pZ;refine ⟨(hg p' hm).1.symm,fun hq=>?_,fun f=>absurd f (by decide),(hg p' hm).2⟩
  rcases hn with hn | ⟨n1,n2⟩
  .exact hn
  .exfalso
   rw [List.take_append,E4,j0 (by lia)] at hq
   rcases F6.mp hq with hq | hq
   .exact n2 p' hm hq
   .obtain ⟨⟨p2,j2⟩,hq1,hq2⟩:=E2.mp hq;rw [<- bS] at hq1;obtain ⟨p3,hq3,hq4⟩:=E2.mp hq1;obtain ⟨m,hm1,bA⟩:=List.mem_take_iff_getElem.mp hq3;obtain ⟨dA,e2⟩:=G9.mp pZ;rw [f9,q5] at n1;refine n1 m (i-PL.length) (by lia) dA (by lia) ?_;rw [bA,e2,(Prod.mk.inj hq4).1];exact hq2
theorem uF{α:Type}[DecidableEq α]:∀ {l m:List α},l.Nodup->(∀ x∈l,x∈m)->l.length<=m.length
 | [],_,_,_=>K1 _
 | x::l,m,nd,h=>by
  obtain ⟨n1,n2⟩:=Q4.mp nd;have hx:=h x J7
  have:=uF (l:=l) (m:=m.erase x) n2 fun y hy=>(List.mem_erase_of_ne (fun e=>n1 (by rw [<- e];exact hy))).mpr (h y (I0 _ hy))
  rw [nE hx] at this;have U6:=List.length_pos_of_mem hx;rw [F8];lia
theorem aer{α β:Type}{F:α->β->Prop} : ∀ {l₁:List α} {l₂:List β},Paired F l₁ l₂->Paired F l₁.reverse l₂.reverse
 | _,_,.nil=>.nil
 | _,_,.cons h t=>by
  rw [List.reverse_cons,List.reverse_cons];exact Paired.snoc (aer t) h
theorem rw_ne{w u:Str}(n:u≠w):rowsW ((u,zs)::R) w=rowsW R w:=by
 unfold rowsW;rw [bO (by simpa using n)]
theorem rw_eq{w:Str} : rowsW ((w,zs)::R) w=zs::rowsW R w:=by
 unfold rowsW;rw [bN (by simp)];rfl
theorem uG{f:Str->Nat} : ∀ {a b:List Str},(a.Pairwise fun x y=>f x<f y)->(b.Pairwise fun x y=>f x<f y)->(∀ x,x∈a↔x∈b)->a=b
 | [],[],_,_,_=>rfl
 | [],y::b,_,_,h=>absurd ((h y).mpr J7) (by simp)
 | x::a,[],_,_,h=>absurd ((h x).mp J7) (by simp)
 | x::a,y::b,p,q,h=>by
  rw [List.pairwise_cons] at p q;have e:x=y:=by
   rcases D9.mp ((h x).mp J7) with e | hx
   .exact e
   .rcases D9.mp ((h y).mpr J7) with e | hy
    .exact e.symm
    .have h1:=q.1 x hx;have h2:=p.1 y hy;lia
  subst e;rw [uG p.2 q.2 fun z=>⟨fun hz=>?_,fun hz=>?_⟩]
  .rcases D9.mp ((h z).mp (I0 _ hz)) with e | wR
   .have:=p.1 z hz;rw [e] at this;lia
   .exact wR
  .rcases D9.mp ((h z).mpr (I0 _ hz)) with e | wR
   .have:=q.1 z hz;rw [e] at this;lia
   .exact wR
theorem pA{xs:List Str}(nd:xs.Nodup):xs.Pairwise fun x y=>E3 xs x<E3 xs y:=by
 rw [q5];intro i j hi hj wO;unfold E3;rw [nd.idxOf_getElem i hi,nd.idxOf_getElem j hj];exact wO
structure Kp(xs ys ks:List Str):Prop where
 px:ks.Pairwise fun x y=>E3 xs x<E3 xs y
 py:ks.Pairwise fun x y=>E3 ys x<E3 ys y
 sub:∀ x∈ks,x∈xs
 same:xs=ys->∀ x∈xs,x∈ks
noncomputable def D5 (xs ks:List Str):List Str:=xs.filter fun x=>!decide (x∈ks)
theorem kp_of{xs:List Str}{ah:Str->Option Str}(nx:xs.Nodup)(G:GI (E3 ys) xs (grps (E3 ys) xs) ah)(hp:ks.Pairwise fun x y=>E3 ys x<E3 ys y/\E3 xs x<E3 xs y)(hs:∀ x∈ks,x∈xs)(hl:ks.length=(grps (E3 ys) xs).length):Kp xs ys ks:=by
 refine ⟨hp.imp fun h=>h.2,hp.imp fun h=>h.1,hs,fun e x hx=>?_⟩;subst e;have one:∀ g∈grps (E3 xs) xs,g.length=1:=fun g hg=>by
  obtain ⟨k,hk,e⟩:=V0.mp hg;obtain ⟨h1,h2,h3⟩:=G.grp k g (by rw [N0 hk,e]);have h4:=(pA nx).sublist h3
  match g,h1,h2,h4 with
  | [],h1,_,_=>exact absurd rfl h1
  | [a],_,_,_=>rfl
  | a::b::r,_,h2,h4=>
   have a1:=(List.pairwise_cons.mp h2).1 b J7;have a2:=(List.pairwise_cons.mp h4).1 b J7;lia
 have flen:∀ gs:List (List Str),(∀ g∈gs,g.length=1)->gs.flatten.length=gs.length:=fun gs=>by
  induction gs with
  | nil=>intro _;rfl
  | cons g gs ih=>
   intro h;rw [r8,D1,h g J7,ih fun g' cX=>h g' (I0 _ cX),F8];lia
 have l1:=flen _ one;rw [G.perm.length_eq] at l1
 by_cases hk:x∈ks
 .exact hk
 .exfalso
  have nk:ks.Nodup:=by
   rw [f9];exact hp.imp fun h e=>by rw [e] at h;lia
  have:=uF (Q4.mpr ⟨hk,nk⟩) (m:=xs) fun y hy=>(D9.mp hy).elim (fun e=>e ▸ hx) (hs y)
  rw [F8] at this;lia
theorem Kp.fx{xs:List Str}(h:Kp xs ys ks)(nx:xs.Nodup):xs.filter (fun x=>decide (x∉D5 xs ks))=ks:=by
 refine uG (f:=E3 xs) ((pA nx).filter _) h.px fun x=>?_
 rw [O1,decide_eq_true_iff];unfold D5;rw [O1]
 constructor
 .rintro ⟨hx,hn⟩
  by_cases hk:x∈ks
  .exact hk
  .exact absurd ⟨hx,by simpa using hk⟩ hn
 .intro hk;exact ⟨h.sub x hk,fun q=>by simp [hk] at q⟩
theorem Kp.fy{xs:List Str}(h:Kp xs ys ks)(ny:ys.Nodup)(pm:ys.Perm xs):ys.filter (fun x=>decide (x∉D5 xs ks))=ks:=by
 refine uG (f:=E3 ys) ((pA ny).filter _) h.py fun x=>?_
 rw [O1,decide_eq_true_iff];unfold D5;rw [O1]
 constructor
 .rintro ⟨hx,hn⟩
  by_cases hk:x∈ks
  .exact hk
  .exact absurd ⟨pm.mem_iff.mp hx,by simpa using hk⟩ hn
 .intro hk;exact ⟨pm.mem_iff.mpr (h.sub x hk),fun q=>by simp [hk] at q⟩
theorem Kp.ne{xs:List Str}(h:Kp xs ys ks)(nx:xs.Nodup)(ny:ys.Nodup)(pm:ys.Perm xs):D5 xs ks=[]↔xs=ys:=by
 constructor
 .intro e;have h1:=h.fx nx;have h2:=h.fy ny pm;rw [e,dQ.mpr (fun a _=>by simp)] at h1 h2;exact h1.trans h2.symm
 .intro e;unfold D5;rw [fT];intro x hx;simp [h.same e x hx]
noncomputable def ahN:Sp:=fun vs H Q _=>∃ (a b:Addr) (xs ys:List Str),vs=[.ref a,.ref b]/\H a=some (.lst (xs.map V.str))/\H b=some (.lst (ys.map V.str))/\xs.Nodup/\ys.Nodup/\ys.Perm xs/\xs.length<=100/\
 ∀ (l:Addr) (ts:List Addr) (ks:List Str) (H':Hp),H l=none->Same H H'->Kp xs ys ks->ks.length=(grps (E3 ys) xs).length->IsRules H' l ts (if D5 xs ks=[] then [] else [(M6,D5 xs ks),(("row" : Str),ys)])->Q (.ref l) H'
structure S83(xs:List Str)(m0 m1 f2 f3 f4 ov:Str):Prop where
 nd:(xs++[m0,m1,f2,f3,f4,ov]).Nodup
 pc:∀ p∈xs++[m0,m1,f2,f3,f4,ov],X3 p=true
 ln:xs.length<=40
 l1:1<=xs.length
noncomputable def W3 (G:List (Str×Str)):List Rl:=G.map fun e=>(("great" : Str),[e.1,e.2])
structure D83(xs:List Str)(f2 f3 f4 ov:Str)(mo rows:List Rl)(G:List (Str×Str)):Prop where
 mo:mo=[]\/mo=[(("behind" : Str),[])]\/mo=[(("blanks" : Str),[])]\/mo=[(("over" : Str),[ov])]
 rw:∀ z∈rows,z.1="row"/\z.2≠[]/\z.2.Sublist xs
 rl:rows.length<=60
 gl:∀ e∈G,e.1∈xs
 gf:∃ k,G.map (·.2)=[f2,f3,f4].take k
noncomputable def P1 (mo rows:List Rl) (m0 m1:Str) (G:List (Str×Str)):List Rl:=mo++(rows++(("marks" : Str),[m0,m1])::W3 G)
theorem ahO(h:∀ p∈ps,p∉g):keepR g ps=ps:=by
 unfold keepR;exact dQ.mpr fun p hp=>decide_eq_true (h p hp)
theorem ao6 : K8 g (("row" : Str),ps)=if keepR g ps=[] then none else some (("row" : Str),keepR g ps):=by
 unfold K8;rw [if_neg (show ¬ Str.ofString "row"=Str.ofString "as" by decide +kernel),show stay (("row" : Str),ps).1=some 0 from (by decide +kernel:stay (Str.ofString "row")=some 0)];rfl
theorem akd{w:Str}(hw:w="marks"\/w="over")(hn:ps≠[])(h:∀ p∈ps,p∉g):K8 g (w,ps)=some (w,ps):=by
 unfold K8;have e1:¬ w=("as" : Str):=by rcases hw with rfl | rfl <;> decide +kernel
 have e2:stay w=some 0:=by rcases hw with rfl | rfl <;> decide +kernel
 rw [if_neg (show ¬ (w,ps).1=("as" : Str) from e1),show stay (w,ps).1=some 0 from e2];show (if keepR g ps=[] then none else some (w,keepR g ps))=_;rw [ahO h,if_neg hn]
theorem ake{w:Str}(hw:w="behind"\/w="blanks"):K8 g (w,[])=some (w,[]):=by
 unfold K8;have e1:¬ w=("as" : Str):=by rcases hw with rfl | rfl <;> decide +kernel
 have e2:stay w=none:=by rcases hw with rfl | rfl <;> decide +kernel
 rw [if_neg (show ¬ (w,([]:List Str)).1=("as" : Str) from e1),show stay (w,([]:List Str)).1=none from e2]
theorem alA{l f:Str}(h:f∉g):K8 g (("great" : Str),[l,f])=some (("great" : Str),[l,f]):=by
 unfold K8;rw [if_neg (show ¬ Str.ofString "great"=Str.ofString "as" by decide +kernel),show stay (("great" : Str),[l,f]).1=some 1 from (by decide +kernel:stay (Str.ofString "great")=some 1)];show (if keepR g [f]=[] then none else some ((("great" : Str)),[l]++keepR g [f]))=_;rw [ahO (fun p hp=>by rw [E6.mp hp];exact h),if_neg (by simp)];rfl
theorem ao7(h:∀ p,p∈g↔p∈g'):K8 g=K8 g':=by
 funext z
 have hk:∀ ps,keepR g ps=keepR g' ps:=fun ps=>by
  unfold keepR
  congr 1
  funext p
  exact decide_eq_decide.mpr (not_congr (h p))
 unfold K8;simp only [hk,h]
noncomputable def rowsK (g:List Str) (rows:List Rl):List Rl:=rows.filterMap (K8 g)
theorem D83.rk{xs:List Str}(h:D83 xs f2 f3 f4 ov mo rows G)(kp:Kp xs ys ks)(nx:xs.Nodup)(ny:ys.Nodup)(pm:ys.Perm xs):(∀ z∈rowsK (D5 xs ks) rows,z.1="row"/\z.2≠[]/\z.2.Sublist ys)/\(rowsK (D5 xs ks) rows).length<=60:=by
 refine ⟨fun z hz=>?_,K6 (List.length_filterMap_le _ _) h.rl⟩;obtain ⟨z0,hz0,e⟩:=dR.mp hz;obtain ⟨h1,_,h3⟩:=h.rw z0 hz0;obtain ⟨w,ps⟩:=z0;obtain rfl:w="row":=h1;rw [ao6] at e
 by_cases hk:keepR (D5 xs ks) ps=[]
 .rw [if_pos hk] at e;cases e
 rw [if_neg hk] at e;obtain rfl:=Option.some.inj e;refine ⟨rfl,hk,?_⟩;show (keepR (D5 xs ks) ps).Sublist ys;have h4:(keepR (D5 xs ks) ps).Sublist (xs.filter fun x=>decide (x∉D5 xs ks)):=List.Sublist.filter _ h3;rw [kp.fx nx] at h4;have h5:ks.Sublist ys:=by
  have:=(List.filter_sublist (p:=fun x=>decide (x∉D5 xs ks)) (l:=ys))
  rw [kp.fy ny pm] at this;exact this
 exact h4.trans h5
theorem D83.changed{xs:List Str}(s:S83 xs m0 m1 f2 f3 f4 ov)(h:D83 xs f2 f3 f4 ov mo rows G)(kp:Kp xs ys ks)(nx:xs.Nodup)(ny:ys.Nodup)(pm:ys.Perm xs) :
  uE (P1 mo rows m0 m1 G) [(M6,D5 xs ks),(("row" : Str),ys)]=P1 mo (rowsK (D5 xs ks) rows) m0 m1 G++[(("row" : Str),ys)]:=by
 have ot:∀ p∈[m0,m1,f2,f3,f4,ov],p∉D5 xs ks:=fun p hp hm=>(g7.mp s.nd).2.2 p (O1.mp hm).1 p hp rfl
 have hg:K8 (goneL [(M6,D5 xs ks),(("row" : Str),ys)])=K8 (D5 xs ks):=by
  refine ao7 fun p=>?_
  show p∈(if Str.ofString "row"=M6 then E9 (if M6=M6 then E9 [] (D5 xs ks) else []) ys else (if M6=M6 then E9 [] (D5 xs ks) else []))↔_;rw [if_neg (by decide +kernel),if_pos rfl,m5]
  simp
 have emo:mo.filterMap (K8 (D5 xs ks))=mo:=by
  rcases h.mo with rfl | rfl | rfl | rfl
  .rfl
  .rw [g6,ake (.inl rfl)];rfl
  .rw [g6,ake (.inr rfl)];rfl
  .rw [g6,akd (.inr rfl) (by simp) fun p hp=>by rw [E6.mp hp];exact ot ov (by simp)];rfl
 have eG:(W3 G).filterMap (K8 (D5 xs ks))=W3 G:=by
  have hf:∀ e∈G,e.2∉D5 xs ks:=fun e he=>by
   obtain ⟨k,hk⟩:=h.gf
   have:e.2∈[f2,f3,f4].take k:=by rw [<- hk];exact E2.mpr ⟨e,he,rfl⟩
   have:=dP this
   exact ot e.2 (by simp at this ⊢;rcases this with e | e | e <;> simp [e])
  clear h;unfold W3
  induction G with
  | nil=>rfl
  | cons e G ih=>
   rw [G6,g6,alA (hf e J7),ih fun e' he'=>hf e' (I0 _ he')]
 unfold uE P1;rw [hg,fU,fU,emo,g6,akd (.inl rfl) (by simp) (fun p hp=>ot p (by simp at hp ⊢;rcases hp with e | e <;> simp [e])),eG]
 have y1:∀ l:List Rl,(∀ z∈l,z.1≠M6)->young l=l:=fun l hl=>dQ.mpr fun z hz=>decide_eq_true (hl z hz)
 have y2:∀ a b:List Rl,young (a++b)=young a++young b:=fun a b=>V1 a b
 have rk:=(h.rk kp nx ny pm).1;rw [y2,y1 (mo++_) fun z hz=>?_]
 .congr 1
 .rcases F6.mp hz with hz | hz
  .rcases h.mo with rfl | rfl | rfl | rfl
   .cases hz
   .rw [E6.mp hz];exact (by decide +kernel:Str.ofString "behind"≠M6)
   .rw [E6.mp hz];exact (by decide +kernel:Str.ofString "blanks"≠M6)
   .rw [E6.mp hz];exact (by decide +kernel:Str.ofString "over"≠M6)
  .rcases F6.mp hz with hz | hz
   .rw [(rk z hz).1];decide +kernel
   .rcases D9.mp hz with rfl | hz
    .exact (by decide +kernel:Str.ofString "marks"≠M6)
    .obtain ⟨e,_,rfl⟩:=E2.mp hz;exact (by decide +kernel:Str.ofString "great"≠M6)
noncomputable def fin83 (mo rows:List Rl) (m0 m1:Str) (G:List (Str×Str)) (ys:List Str):List Rl:=P1 mo rows m0 m1 G++[(("row" : Str),ys)]
noncomputable def g83 (ys:List Str) (m0 m1 ov:Str) (p:Str):Str:=if p∈ys then "letter" else if p=m0\/p=m1 then "mark" else if p=ov then "over" else "great"
section
variable {ys:List Str} {m0 m1 f2 f3 f4 ov:Str} {mo rows:List Rl} {G:List (Str×Str)}
theorem uH(A B:List Rl):D4 (A++B)=D4 A++D4 B:=by unfold D4;rw [j1]
theorem uI:∀ {R:List Rl},(∀ z∈R,z.1="row")->D4 R=(R.flatMap (·.2)).map fun p=>(p,("letter" : Str))
 | [],_=>rfl
 | (w,ps)::R,h=>by
  obtain rfl:w="row":=h _ J7;rw [hV,uI fun z hz=>h z (I0 _ hz),(@u6 (("row" : Str),ps)).2.2 (.inl rfl),Z5,E4]
  congr 1
theorem al0:∀ G:List (Str×Str),D4 (W3 G)=(G.map (·.2)).map fun p=>(p,("great" : Str))
 | []=>rfl
 | e::G=>by
  have ih:=al0 G;unfold W3 at ih ⊢
  rw [G6,hV,ih,(@u6 (("great" : Str),[e.1,e.2])).1 rfl];rfl
noncomputable def w5 (mo:List Rl) (ov:Str):List Str:=if mo=[(("over" : Str),[ov])] then [ov] else []
theorem D83.prs(d:D83 ys f2 f3 f4 ov mo rows G):D4 (fin83 mo rows m0 m1 G ys)=(((((w5 mo ov).map fun p=>(p,("over" : Str)))++(rows.flatMap (·.2)).map fun p=>(p,("letter" : Str)))++[m0,m1].map fun p=>(p,("mark" : Str)))++(G.map (·.2)).map fun p=>(p,("great" : Str)))++ys.map fun p=>(p,("letter" : Str)):=by
 have e1:D4 mo=(w5 mo ov).map fun p=>(p,("over" : Str)):=by
  unfold w5
  rcases d.mo with rfl | rfl | rfl | rfl
  .rfl
  .rw [if_neg (fun e=>(by decide +kernel:Str.ofString "behind"≠Str.ofString "over") (Prod.mk.inj (List.cons.inj e).1).1)];decide +kernel
  .rw [if_neg (fun e=>(by decide +kernel:Str.ofString "blanks"≠Str.ofString "over") (Prod.mk.inj (List.cons.inj e).1).1)];decide +kernel
  .rw [if_pos rfl,hV,(@u6 (("over" : Str),[ov])).2.2 (.inr (.inr rfl))];rfl
 unfold fin83 P1;rw [uH,uH,uH,e1,uI fun z hz=>(d.rw z hz).1,hV,al0,(@u6 (("marks" : Str),[m0,m1])).2.2 (.inr (.inl rfl)),uI (R:=[(("row" : Str),ys)]) (by simp),Z5,fX,L7];simp only [U1];rfl
theorem D83.each(d:D83 ys f2 f3 f4 ov mo rows G)(hy:ys≠[]){z:Rl}(hz:z∈fin83 mo rows m0 m1 G ys):(z.1="row"/\z.2≠[]/\z.2.Sublist ys)\/z=(("marks" : Str),[m0,m1])\/(∃ e∈G,z=(("great" : Str),[e.1,e.2]))\/z=(("behind" : Str),[])\/z=(("blanks" : Str),[])\/z=(("over" : Str),[ov]):=by
 unfold fin83 P1 at hz
 rcases F6.mp hz with hz | hz
 .rcases F6.mp hz with hz | hz
  .rcases d.mo with rfl | rfl | rfl | rfl
   .cases hz
   .rw [E6.mp hz];simp
   .rw [E6.mp hz];simp
   .rw [E6.mp hz];simp
  .rcases F6.mp hz with hz | hz
   .exact .inl (d.rw z hz)
   .rcases D9.mp hz with rfl | hz
    .exact .inr (.inl rfl)
    .obtain ⟨e,he,rfl⟩:=E2.mp hz;exact .inr (.inr (.inl ⟨e,he,rfl⟩))
 .rw [E6.mp hz];exact .inl ⟨rfl,hy,List.Sublist.refl _⟩
theorem D83.form(d:D83 ys f2 f3 f4 ov mo rows G){e:Str×Str}(he:e∈G):e.2=f2\/e.2=f3\/e.2=f4:=by
 obtain ⟨k,hk⟩:=d.gf
 have:e.2∈[f2,f3,f4].take k:=by rw [<- hk];exact E2.mpr ⟨e,he,rfl⟩
 simpa using dP this
theorem S83.far(s:S83 ys m0 m1 f2 f3 f4 ov):(∀ p∈ys,p≠m0/\p≠m1/\p≠f2/\p≠f3/\p≠f4/\p≠ov)/\[m0,m1,f2,f3,f4,ov].Nodup:=by
 obtain ⟨_,h2,h3⟩:=g7.mp s.nd;exact ⟨fun p hp=>⟨h3 p hp m0 (by simp),h3 p hp m1 (by simp),h3 p hp f2 (by simp),h3 p hp f3 (by simp),h3 p hp f4 (by simp),h3 p hp ov (by simp)⟩,h2⟩
theorem D83.nc(s:S83 ys m0 m1 f2 f3 f4 ov)(d:D83 ys f2 f3 f4 ov mo rows G):NC false (g83 ys m0 m1 ov) (D4 (fin83 mo rows m0 m1 G ys)):=by
 obtain ⟨far,O7⟩:=s.far;have hp:∀ p∈ys++[m0,m1,f2,f3,f4,ov],p.length<=1000:=fun p hp=>by
  have:=s.pc p hp
  unfold X3 at this;simp only [W9,decide_eq_true_eq] at this;lia
 simp only [Q4,D9,W8,not_or,or_false] at O7;have n1:∀ p,(p=m0\/p=m1\/p=f2\/p=f3\/p=f4\/p=ov)->p∉ys:=fun p h hy=>by
  obtain ⟨a0,a1,a2,a3,a4,a5⟩:=far p hy
  rcases h with h | h | h | h | h | h <;> contradiction
 have gl:∀ p∈ys,g83 ys m0 m1 ov p="letter"/\p.length<=1000:=fun p h=>⟨by unfold g83;rw [if_pos h],hp p (L4 _ h)⟩
 rw [d.prs];refine kX (kX (kX (kX ?_ ?_ (.inl (by decide +kernel))) ?_ (.inl (by decide +kernel))) ?_ (.inr ?_)) gl (.inl (by decide +kernel))
 .have:=kX (g:=g83 ys m0 m1 ov) (PL:=[]) (ps:=w5 mo ov) (j:="over") (fun i p j h=>by cases h) (fun p h=>?_) (.inl (by decide +kernel))
  .rw [fY] at this;exact this
  .unfold w5 at h
   split at h
   .rw [E6.mp h];refine ⟨?_,hp ov (by simp)⟩;unfold g83;rw [if_neg (n1 ov (by simp)),if_neg (fun q=>by rcases q with q | q;exact O7.1.2.2.2.2 q.symm;exact O7.2.1.2.2.2 q.symm),if_pos rfl]
   .cases h
 .intro p h;obtain ⟨z,hz,bC⟩:=V3.mp h;exact gl p ((d.rw z hz).2.2.subset bC)
 .intro p h;have h':p=m0\/p=m1:=by simpa using h
  refine ⟨?_,hp p (by rcases h' with rfl | rfl <;> simp)⟩;unfold g83;rw [if_neg (n1 p (by rcases h' with rfl | rfl <;> simp)),if_pos h']
 .intro p h;obtain ⟨e,he,rfl⟩:=E2.mp h;have hf:=d.form he;refine ⟨?_,hp e.2 (by rcases hf with q | q | q <;> simp [q])⟩;unfold g83;rw [if_neg (n1 e.2 (by rcases hf with q | q | q <;> simp [q])),if_neg,if_neg]
  .rcases hf with q | q | q <;> rw [q]
   .exact O7.2.2.1.2.2
   .exact O7.2.2.2.1.2
   .exact O7.2.2.2.2.1
  .rintro (q2 | q2) <;> rcases hf with q | q | q <;> rw [q] at q2
   .exact O7.1.2.1 q2.symm
   .exact O7.1.2.2.1 q2.symm
   .exact O7.1.2.2.2.1 q2.symm
   .exact O7.2.1.1 q2.symm
   .exact O7.2.1.2.1 q2.symm
   .exact O7.2.1.2.2.1 q2.symm
 .obtain ⟨k,hk⟩:=d.gf;refine ⟨?_,fun p h=>?_⟩
  .rw [hk];refine List.Nodup.sublist (List.take_sublist _ _) ?_;simp only [Q4,D9,W8,not_or,or_false,not_false_eq_true,List.nodup_nil,and_true];exact ⟨⟨O7.2.2.1.1,O7.2.2.1.2.1⟩,O7.2.2.2.1.1⟩
  .obtain ⟨e,he,rfl⟩:=E2.mp h;have hf:=d.form he;intro hm;simp only [E4,g8,F6,E2,Function.comp_def] at hm
   rcases hm with (⟨q,hq,e2⟩ | ⟨q,hq,e2⟩) | ⟨q,hq,e2⟩
   .have e3:q=e.2:=e2;rw [e3] at hq;unfold w5 at hq
    split at hq
    .have:=E6.mp hq
     rcases hf with q | q | q <;> rw [q] at this
     .exact O7.2.2.1.2.2 this
     .exact O7.2.2.2.1.2 this
     .exact O7.2.2.2.2.1 this
    .cases hq
   .have e3:q=e.2:=e2;rw [e3] at hq;obtain ⟨z,hz,bC⟩:=V3.mp hq;exact n1 e.2 (by rcases hf with q | q | q <;> simp [q]) ((d.rw z hz).2.2.subset bC)
   .have e3:q=e.2:=e2;rw [e3] at hq;have h':e.2=m0\/e.2=m1:=by simpa using hq
    rcases h' with q2 | q2 <;> rcases hf with q | q | q <;> rw [q] at q2
    .exact O7.1.2.1 q2.symm
    .exact O7.1.2.2.1 q2.symm
    .exact O7.1.2.2.2.1 q2.symm
    .exact O7.2.1.1 q2.symm
    .exact O7.2.1.2.1 q2.symm
    .exact O7.2.1.2.2.1 q2.symm
theorem ahP{ys:List Str}(nd:ys.Nodup)(h:row.Sublist ys){e:Str×Str}(he:e∈R1 row):ys.idxOf e.1<ys.idxOf e.2:=by
 have hp:=(pA nd).sublist h;unfold R1 at he;obtain ⟨i,hi,e1⟩:=V0.mp he;rw [List.getElem_zip] at e1;have hl:i+1<row.length:=by
  simp only [List.length_zip,List.length_tail] at hi;lia
 have e2:e=(row[i]'(by lia),row[i+1]'hl):=by
  rw [<- e1]
  simp
 rw [e2];exact q5.mp hp i (i+1) (by lia) hl (by lia)
theorem S83.ny(s:S83 ys m0 m1 f2 f3 f4 ov):ys.Nodup:=(g7.mp s.nd).1
theorem S83.ne(s:S83 ys m0 m1 f2 f3 f4 ov):ys≠[]:=fun e=>by have:=s.l1;rw [e] at this;simp at this
theorem D83.rowsW(d:D83 ys f2 f3 f4 ov mo rows G):L2.rowsW (fin83 mo rows m0 m1 G ys) "row"=rows.map (·.2)++[ys]/\L2.rowsW (fin83 mo rows m0 m1 G ys) "marks"=[[m0,m1]]:=by
 have ap:∀ (A B:List Rl) (w:Str),L2.rowsW (A++B) w=L2.rowsW A w++L2.rowsW B w:=fun A B w=>by unfold L2.rowsW;rw [V1,E4]
 have no:∀ {A:List Rl} {w:Str},(∀ z∈A,z.1≠w)->L2.rowsW A w=[]:=fun {A w} h=>by
  unfold L2.rowsW;rw [fT.mpr (fun z hz=>by simpa using h z hz)];rfl
 have mI:∀ w:Str,(w="row"\/w="marks")->L2.rowsW mo w=[]:=fun w hw=>no fun z hz=>by
  rcases d.mo with rfl | rfl | rfl | rfl
  .cases hz
  .rw [E6.mp hz];rcases hw with rfl | rfl <;> exact (by decide +kernel)
  .rw [E6.mp hz];rcases hw with rfl | rfl <;> exact (by decide +kernel)
  .rw [E6.mp hz];rcases hw with rfl | rfl
   .exact (by decide +kernel:Str.ofString "over"≠Str.ofString "row")
   .exact (by decide +kernel:Str.ofString "over"≠Str.ofString "marks")
 have n9:∀ w:Str,(w="row"\/w="marks")->L2.rowsW (W3 G) w=[]:=fun w hw=>no fun z hz=>by
  obtain ⟨e,_,rfl⟩:=E2.mp hz
  rcases hw with rfl | rfl
  .exact (by decide +kernel:Str.ofString "great"≠Str.ofString "row")
  .exact (by decide +kernel:Str.ofString "great"≠Str.ofString "marks")
 have mJ:L2.rowsW rows "row"=rows.map (·.2):=by
  unfold L2.rowsW;rw [dQ.mpr (fun z hz=>decide_eq_true (d.rw z hz).1)]
 have hr2:L2.rowsW rows "marks"=[]:=no fun z hz=>by rw [(d.rw z hz).1];decide +kernel
 unfold fin83 P1
 constructor
 .rw [ap,ap,ap,mI _ (.inl rfl),mJ,rw_ne (by decide +kernel),n9 _ (.inl rfl),rw_eq];simp [L2.rowsW]
 .rw [ap,ap,ap,mI _ (.inr rfl),hr2,rw_eq,n9 _ (.inr rfl),rw_ne (by decide +kernel)];simp [L2.rowsW]
theorem D83.has(d:D83 ys f2 f3 f4 ov mo rows G)(hy:ys≠[]):hasW (fin83 mo rows m0 m1 G ys) "figures"=false:=by
 unfold hasW;rw [List.any_eq_false];intro z hz;rw [decide_eq_true_iff]
 rcases d.each hy hz with ⟨h,_⟩ | rfl | ⟨e,_,rfl⟩ | rfl | rfl | rfl
 .rw [h];decide +kernel
 .exact (by decide +kernel:¬ Str.ofString "marks"=Str.ofString "figures")
 .exact (by decide +kernel:¬ Str.ofString "great"=Str.ofString "figures")
 .exact (by decide +kernel:¬ Str.ofString "behind"=Str.ofString "figures")
 .exact (by decide +kernel:¬ Str.ofString "blanks"=Str.ofString "figures")
 .exact (by decide +kernel:¬ Str.ofString "over"=Str.ofString "figures")
theorem D83.flat(s:S83 ys m0 m1 f2 f3 f4 ov)(d:D83 ys f2 f3 f4 ov mo rows G):(rows.flatMap (·.2)).length<=2400:=by
 have hr:=d.rw;have hl:=d.rl;have hy:=s.ln;clear s d
 have:(rows.flatMap (·.2)).length<=40*rows.length:=by
  clear hl
  induction rows with
  | nil=>exact K1 _
  | cons z R ih=>
   rw [Z5,D1,F8];have h1:=(hr z J7).2.2.length_le;have h2:=ih fun z' mG=>hr z' (I0 _ mG)
   lia
 lia
theorem D83.glen(d:D83 ys f2 f3 f4 ov mo rows G):G.length<=3:=by
 obtain ⟨k,hk⟩:=d.gf
 have:=congrArg X9 hk
 rw [A7,K5] at this;simp at this;lia
theorem D83.great(s:S83 ys m0 m1 f2 f3 f4 ov)(d:D83 ys f2 f3 f4 ov mo rows G){z:Rl}(hz:z∈P1 mo rows m0 m1 G)(hw:z.1=("great" : Str)):∃ e∈G,z=(("great" : Str),[e.1,e.2]):=by
 rcases d.each (m0:=m0) (m1:=m1) s.ne (L4 _ hz) with ⟨h,_⟩ | rfl | h | rfl | rfl | rfl
 .rw [h] at hw;exact absurd hw (by decide +kernel)
 .exact absurd hw (by decide +kernel:¬ Str.ofString "marks"=Str.ofString "great")
 .exact h
 .exact absurd hw (by decide +kernel:¬ Str.ofString "behind"=Str.ofString "great")
 .exact absurd hw (by decide +kernel:¬ Str.ofString "blanks"=Str.ofString "great")
 .exact absurd hw (by decide +kernel:¬ Str.ofString "over"=Str.ofString "great")
theorem D83.letter(s:S83 ys m0 m1 f2 f3 f4 ov)(d:D83 ys f2 f3 f4 ov mo rows G){p:Str}(hp:p∈ys):(p,("letter" : Str))∈D4 (fin83 mo rows m0 m1 G ys):=by
 rw [d.prs];exact O0 _ (E2.mpr ⟨p,hp,rfl⟩)
theorem D83.good(s:S83 ys m0 m1 f2 f3 f4 ov)(d:D83 ys f2 f3 f4 ov mo rows G):GoodR (g83 ys m0 m1 ov) (ys.idxOf ·) ([m0,m1].idxOf ·) (fin83 mo rows m0 m1 G ys):=by
 have hy:=s.ln;have o0:=s.ne;have x9:=d.flat s;have hG:=d.glen;have bD:=d.rl;have mI:mo.length<=1:=by rcases d.mo with rfl | rfl | rfl | rfl <;> simp
 have hmp:(w5 mo ov).length<=1:=by unfold w5;split <;> simp
 obtain ⟨qI,qJ⟩:=d.rowsW (m0:=m0) (m1:=m1);have noas:∀ z∈fin83 mo rows m0 m1 G ys,z.1≠("as" : Str):=fun z hz=>by
  rcases d.each o0 hz with ⟨h,_⟩ | rfl | ⟨e,_,rfl⟩ | rfl | rfl | rfl
  .rw [h];decide +kernel
  .exact (by decide +kernel:Str.ofString "marks"≠Str.ofString "as")
  .exact (by decide +kernel:Str.ofString "great"≠Str.ofString "as")
  .exact (by decide +kernel:Str.ofString "behind"≠Str.ofString "as")
  .exact (by decide +kernel:Str.ofString "blanks"≠Str.ofString "as")
  .exact (by decide +kernel:Str.ofString "over"≠Str.ofString "as")
 have gr:∀ z∈fin83 mo rows m0 m1 G ys,z.1=("great" : Str)->∃ e∈G,z=(("great" : Str),[e.1,e.2]):=fun z hz hw=>by
  rcases d.each o0 hz with ⟨h,_⟩ | rfl | h | rfl | rfl | rfl
  .rw [h] at hw;exact absurd hw (by decide +kernel)
  .exact absurd hw (by decide +kernel:¬ Str.ofString "marks"=Str.ofString "great")
  .exact h
  .exact absurd hw (by decide +kernel:¬ Str.ofString "behind"=Str.ofString "great")
  .exact absurd hw (by decide +kernel:¬ Str.ofString "blanks"=Str.ofString "great")
  .exact absurd hw (by decide +kernel:¬ Str.ofString "over"=Str.ofString "great")
 have nb:(" " : Str)∉(D4 (fin83 mo rows m0 m1 G ys)).map (·.1):=fun hb=>by
  have sp:X3 " "=false:=by decide +kernel
  have bad:∀ p∈ys++[m0,m1,f2,f3,f4,ov],p≠" ":=fun p hp e=>by
   have:=s.pc p hp
   rw [e,sp] at this
   cases this
  rw [d.prs] at hb;simp only [E4,g8,F6,E2,Function.comp_def] at hb
  rcases hb with (((⟨q,hq,e⟩ | ⟨q,hq,e⟩) | ⟨q,hq,e⟩) | ⟨e0,wS,e⟩) | ⟨q,hq,e⟩
  .unfold w5 at hq
   split at hq
   .rw [E6.mp hq] at e;exact bad ov (by simp) e
   .cases hq
  .obtain ⟨z,hz,bC⟩:=V3.mp hq;exact bad q (L4 _ ((d.rw z hz).2.2.subset bC)) e
  .exact bad q (by simp at hq ⊢;rcases hq with h | h <;> simp [h]) e
  .exact bad e0.2 (by rcases d.form wS with h | h | h <;> simp [h]) e
  .exact bad q (L4 _ hq) e
 refine ⟨?_,?_,by rw [d.has o0];exact d.nc s,nb,fun z hz=>?_,fun z hz hw=>?_,fun z hz hw p hp=>?_,fun z hz hw=>absurd hw (noas z hz),fun z hz hw=>absurd hw (noas z hz),?_,?_,fun e he=>?_,fun e he=>?_⟩
 .unfold fin83 P1 W3;simp only [D1,F8,A7,V4];lia
 .rw [d.prs];simp only [D1,A7,F8,V4];lia
 .rcases d.each o0 hz with ⟨_,_,h⟩ | rfl | ⟨e,_,rfl⟩ | rfl | rfl | rfl
  .have:=h.length_le;lia
  .show 2<=1000;decide
  .show 2<=1000;decide
  .decide
  .decide
  .show 1<=1000;decide
 .rcases hw with hw | hw
  .exact absurd hw (noas z hz)
  .obtain ⟨e,_,rfl⟩:=gr z hz hw
   simp
 .obtain ⟨e,he,rfl⟩:=gr z hz hw;rw [E6.mp (show p∈[e.1] from hp)];exact d.letter s (d.gl e he)
 .rw [qI,fW,D1,<- List.flatMap_def];simp only [r8,List.flatten_nil,L7];lia
 .rw [qJ];simp
 .rw [qI] at he;unfold edges at he;obtain ⟨row,hr,he⟩:=V3.mp he
  rcases F6.mp hr with hr | hr
  .obtain ⟨z,hz,rfl⟩:=E2.mp hr;exact ahP s.ny (d.rw z hz).2.2 he
  .rw [E6.mp hr] at he;exact ahP s.ny (List.Sublist.refl _) he
 .rw [qJ] at he;refine ajV ?_ (by simpa [edges] using he)
  have:=s.far.2
  simp only [Q4,D9,W8,not_or,or_false] at this;simp [this.1.1]
theorem D83.lets(s:S83 ys m0 m1 f2 f3 f4 ov)(d:D83 ys f2 f3 f4 ov mo rows G)(hL:T7 (fin83 mo rows m0 m1 G ys) "row" L)(hM:T7 (fin83 mo rows m0 m1 G ys) "marks" M):L=ys/\M=[m0,m1]:=by
 obtain ⟨qI,qJ⟩:=d.rowsW (m0:=m0) (m1:=m1);unfold T7 at hL hM;rw [qI] at hL;rw [qJ] at hM;have G3:m0≠m1:=by
  have:=s.far.2
  simp only [Q4,D9,W8,not_or,or_false] at this;exact this.1.1
 refine ⟨ajT s.ny (gT _) hL.1 hL.2 (fun p=>?_) fun e he=>?_,ajT (by simp [G3]) (gT _) hM.1 hM.2 (fun p=>?_) fun e he=>?_⟩
 .rw [tN,fW,F6]
  constructor
  .rintro (h | h)
   .rw [<- List.flatMap_def] at h;obtain ⟨z,hz,bC⟩:=V3.mp h;exact (d.rw z hz).2.2.subset bC
   .simpa using h
  .intro h;exact .inr (by simpa using h)
 .unfold edges;rw [j1];exact O0 _ (by simpa using he)
 .rw [tN];simp
 .simpa [edges] using he
theorem D83.unit(s:S83 ys m0 m1 f2 f3 f4 ov)(d:D83 ys f2 f3 f4 ov mo rows G)(hL:T7 (fin83 mo rows m0 m1 G ys) "row" ys)(hM:T7 (fin83 mo rows m0 m1 G ys) "marks" [m0,m1]){e:Str×Str}(he:e∈G):∃ c:Int,stepF (fin83 mo rows m0 m1 G ys) ys [m0,m1] e.2=[(2,(ys.idxOf e.1:Int),c)]:=by
 have md:=ajQ (d.good s) hL hM;have hz:(("great" : Str),[e.1,e.2])∈fin83 mo rows m0 m1 G ys:=L4 _ (O0 _ (O0 _ (I0 _ (E2.mpr ⟨e,he,rfl⟩))));have hg:(e.1,[e.2])∈L1 (fin83 mo rows m0 m1 G ys):=dR.mpr ⟨_,hz,by rw [if_pos rfl];rfl⟩;have hf:e.2∈G0 (fin83 mo rows m0 m1 G ys) e.1:=V3.mpr ⟨_,O1.mpr ⟨hg,by simp⟩,by simp⟩;obtain ⟨c,hc,e1⟩:=V0.mp hf;exact ⟨_,md.gr e.1 (mem_formKs.mpr ⟨_,hg,rfl⟩) c e.2 (by rw [N0 hc,e1])⟩
theorem akf{p:Str}(hp:p∈ks)(hb:X3 p=true):cutF false ks p.cps.toList=(p.length,[p]):=by
 obtain ⟨_,h1,h2⟩:=jW hb;have hpt:partF false ks p.cps.toList=some p:=by
  rcases (show p.length=1\/p.length=2 by lia) with h | h <;> rw [<- lenL] at h
  .obtain ⟨c,hc⟩:=List.length_eq_one_iff.mp h;have e:p=one c:=by rw [show p=⟨p.cps.toList.toArray⟩ by simp,hc];rfl
   rw [hc,eR,dU,if_neg K7,hW,<- e,if_pos hp]
  .obtain ⟨c,d,hc⟩:∃ c d,p.cps.toList=[c,d]:=by
    match p.cps.toList,h with
    | [c,d],_=>exact ⟨c,d,rfl⟩
   have e:p=two c d:=by rw [show p=⟨p.cps.toList.toArray⟩ by simp,hc];rfl
   rw [hc,eR,dU,if_neg K7,hX,<- e,if_pos hp]
 obtain ⟨rest,e1,e2,_⟩:=hZ hpt;have hr:rest=[]:=by
  have:=congrArg X9 e1
  rw [D1] at this;exact y9.mp (by lia)
 rw [e2,hr,kO]
 simp
theorem D83.steps(s:S83 ys m0 m1 f2 f3 f4 ov)(d:D83 ys f2 f3 f4 ov mo rows G)(L M:List Str)(y:Str):(stepY (fin83 mo rows m0 m1 G ys) L M y).length<=15:=by
 unfold stepY;rw [d.has s.ne,dU,if_neg (by decide)];unfold stepF;cases e:(putsL (fin83 mo rows m0 m1 G ys) L M).lookup y with
 | none=>simp
 | some t=>
  have hm:∃ p,(p,t)∈putsL (fin83 mo rows m0 m1 G ys) L M:=by
   generalize putsL (fin83 mo rows m0 m1 G ys) L M=l at e
   induction l with
   | nil=>cases e
   | cons x l ih=>
    rw [List.lookup_cons] at e
    split at e
    .obtain rfl:=Option.some.inj e;exact ⟨x.1,J7⟩
    .obtain ⟨p,hp⟩:=ih e;exact ⟨p,I0 _ hp⟩
  obtain ⟨p,hp⟩:=hm;show t.length<=15;unfold putsL at hp
  rcases F6.mp hp with hp | hp
  .rcases F6.mp hp with hp | hp
   .rcases F6.mp hp with hp | hp
    .obtain ⟨e,_,q⟩:=E2.mp hp;rw [<- (Prod.mk.inj q).2];exact Nat.le_add_left 1 14
    .obtain ⟨e,_,q⟩:=E2.mp hp;rw [<- (Prod.mk.inj q).2];exact Nat.le_add_left 1 14
   .obtain ⟨w,_,hp⟩:=V3.mp hp;obtain ⟨e,_,q⟩:=E2.mp hp;rw [<- (Prod.mk.inj q).2];exact Nat.le_add_left 1 14
  .unfold oR at hp;obtain ⟨z,hz,q⟩:=dR.mp hp;rw [if_neg] at q
   .cases q
   .rcases d.each s.ne hz with ⟨h,_⟩ | rfl | ⟨e,_,rfl⟩ | rfl | rfl | rfl
    .rw [h];decide +kernel
    .exact (by decide +kernel:¬ Str.ofString "marks"=Str.ofString "as")
    .exact (by decide +kernel:¬ Str.ofString "great"=Str.ofString "as")
    .exact (by decide +kernel:¬ Str.ofString "behind"=Str.ofString "as")
    .exact (by decide +kernel:¬ Str.ofString "blanks"=Str.ofString "as")
    .exact (by decide +kernel:¬ Str.ofString "over"=Str.ofString "as")
end
theorem iB{w:Str}(hl:ps.length<=1000)(hp:∀ z∈ps,X3 z=true){n:Int}(h:(w,n)∈([("row",1),("marks",1),("great",2),("as",2),("over",1),("forget",1)]:List (Str×Int)))(hn:n<=ps.length):Good w ps:=⟨hl,hp,.inr ⟨n,h,hn⟩⟩
theorem D83.fine{xs:List Str}(s:S83 xs m0 m1 f2 f3 f4 ov)(d:D83 xs f2 f3 f4 ov mo rows G):∀ z∈P1 mo rows m0 m1 G,Fine z:=fun z hz=>by
 have hln:=s.ln;have pc:=s.pc;unfold P1 at hz
 rcases F6.mp hz with hz | hz
 .rcases d.mo with rfl | rfl | rfl | rfl
  .cases hz
  .rw [E6.mp hz];exact ⟨by simp,by simp,.inl ⟨by simp,rfl⟩⟩
  .rw [E6.mp hz];exact ⟨by simp,by simp,.inl ⟨by simp,rfl⟩⟩
  .rw [E6.mp hz];exact iB (w:="over") (ps:=[ov]) (by simp) (fun p hp=>by rw [E6.mp hp];exact pc ov (by simp)) (n:=1) (by simp) (by simp)
 .rcases F6.mp hz with hz | hz
  .obtain ⟨h1,h2,h3⟩:=d.rw z hz;have hl:=h3.length_le;obtain ⟨w,ps⟩:=z;obtain rfl:w="row":=h1;have h4:1<=ps.length:=r0.mpr h2;exact iB (w:="row") (ps:=ps) (show ps.length<=1000 by have:ps.length<=xs.length:=hl;lia) (fun p hp=>pc p (L4 _ (h3.subset hp))) (n:=1) (by simp) (by lia)
  .rcases D9.mp hz with rfl | hz
   .exact iB (w:="marks") (ps:=[m0,m1]) (by simp) (fun p hp=>pc p (by simp at hp ⊢;rcases hp with h | h <;> simp [h])) (n:=1) (by simp) (by simp)
   .obtain ⟨e,he,rfl⟩:=E2.mp hz;refine iB (w:="great") (ps:=[e.1,e.2]) (by simp) (fun p hp=>?_) (n:=2) (by simp) (by simp)
    rcases D9.mp hp with rfl | hp
    .exact pc _ (L4 _ (d.gl e he))
    .rw [E6.mp hp];exact pc _ (by rcases d.form he with h | h | h <;> simp [h])
theorem D83.str{xs:List Str}(s:S83 xs m0 m1 f2 f3 f4 ov)(d:D83 xs f2 f3 f4 ov mo rows G):∀ z∈P1 mo rows m0 m1 G,∀ y∈z.1::z.2,U3 y=true:=fun z hz y hy=>by
 have hf:=d.fine s z hz
 rcases D9.mp hy with rfl | hy
 .obtain ⟨_,_,h⟩:=hf;have hw:z.1∈(["figures", "blanks", "behind", "row", "marks", "great", "as", "over", "forget"]:List Str):=by
   rcases h with ⟨h,_⟩ | ⟨n,h,_⟩
   .simp only [D9,W8,or_false] at h ⊢
    rcases h with h | h | h <;> simp [h]
   .simp only [D9,W8,or_false,Prod.mk.injEq] at h ⊢
    rcases h with ⟨h,_⟩ | ⟨h,_⟩ | ⟨h,_⟩ | ⟨h,_⟩ | ⟨h,_⟩ | ⟨h,_⟩ <;> simp [h]
  exact (by decide +kernel:∀ w∈(["figures", "blanks", "behind", "row", "marks", "great", "as", "over", "forget"]:List Str),U3 w=true) z.1 hw
 .exact (jW (hf.2.1 y hy)).1
theorem alB{xs:List Str}(s:S83 xs m0 m1 f2 f3 f4 ov)(pm:ys.Perm xs)(hm:D5 xs ks≠[]):∀ z∈[(M6,D5 xs ks),(("row" : Str),ys)],Fine z:=fun z hz=>by
 have hln:=s.ln;have W6:=s.l1;have T4:=pm.length_eq
 rcases D9.mp hz with rfl | hz
 .have h1:(D5 xs ks).length<=xs.length:=dO _ _;have h2:1<=(D5 xs ks).length:=r0.mpr hm;exact iB (w:="forget") (ps:=D5 xs ks) (by lia) (fun p hp=>s.pc p (L4 _ (O1.mp hp).1)) (n:=1) (by simp) (by lia)
 .rw [E6.mp hz];exact iB (w:="row") (ps:=ys) (by lia) (fun p hp=>s.pc p (L4 _ (pm.mem_iff.mp hp))) (n:=1) (by simp) (by lia)
theorem S83.perm{xs:List Str}(s:S83 xs m0 m1 f2 f3 f4 ov)(pm:ys.Perm xs):S83 ys m0 m1 f2 f3 f4 ov:=
 ⟨(pm.append_right _).nodup_iff.mpr s.nd,fun p hp=>s.pc p ((pm.append_right _).mem_iff.mp hp),by rw [pm.length_eq];exact s.ln,by rw [pm.length_eq];exact s.l1⟩
theorem D83.after{xs:List Str}(d:D83 xs f2 f3 f4 ov mo rows G)(kp:Kp xs ys ks)(nx:xs.Nodup)(ny:ys.Nodup)(pm:ys.Perm xs):D83 ys f2 f3 f4 ov mo (rowsK (D5 xs ks) rows) G:=
 ⟨d.mo,(d.rk kp nx ny pm).1,(d.rk kp nx ny pm).2,fun e he=>pm.mem_iff.mpr (d.gl e he),d.gf⟩
theorem _root_.L2.IsRules.push{l t:Addr}{ts:List Addr}{z:Rl}(h:IsRules H l ts R)(ht:H t=some (tupR z)):IsRules (A4 H l (.lst (ts.map V.ref++[V.ref t]))) l (ts++[t]) (R++[z]):=by
 have ne:∀ {b:Addr} {z:Rl},H b=some (tupR z)->b≠l:=fun hb e=>by rw [e,h.top] at hb;cases hb
 exact ⟨by rw [A5,E4];rfl,Paired.snoc (O6 h.row fun b z hb=>by rw [A9 (ne hb)];exact hb) (by rw [A9 (ne ht)];exact ht)⟩
theorem ao8{st:Int}{g:TG}{Y:L2.St}(Pv:Nat->L2.St->Hp->Prop)(h0:Pv 0 Y H)(hs:∀ (P':Nat->L2.St->Hp->Prop) (B':L2.St->Hp->Prop),(∀ i Y H,Pv i Y H->P' i Y H)->∀ i Y H,i<n->Pv i Y H->g (.int (lo+i*st)) Y H fun σ2 H2=>tb { D with nx:=P' (i+1),ct:=P' (i+1),bk:=B' } σ2 H2)(hd:∀ Y H,Pv n Y H->D.nx Y H):ForIt (Itr3 lo st n) g tb D Y H:=by
 refine ⟨fun i m Y H=>m=n-i/\i<=n/\Pv i Y H,⟨n,by simp,K1 _,h0⟩,?_⟩;rintro i m Y H ⟨rfl,hi,p⟩
 by_cases D0:i<n
 .refine .inr ⟨D0,Pv (i+1),fun σ' H' p'=>⟨n-(i+1),by lia,rfl,D0,p'⟩,fun x H' y=>?_⟩;obtain ⟨rfl,rfl⟩:=y;exact hs Pv _ (fun _ _ _ h=>h) i Y _ D0 p
 .have e:i=n:=by lia
  subst e;exact .inl ⟨C5 _,hd Y H p⟩
theorem akg{xs:List Str}{i:Int} : J9 (xs.map V.str) i=(J9 xs i).map V.str:=by
 unfold J9;rw [A7]
 cases Y1 xs.length i with
 | none=>rfl
 | some j=>show (xs.map V.str)[j]?=(xs[j]?).map V.str;rw [V2]
noncomputable def al1 (xs:List Str) (R:List Rl):Prop:=∀ z∈R,z.1="row"/\z.2≠[]/\z.2.Sublist xs
noncomputable def ahQ:Sp:=fun vs H Q _=>∃ (a:Addr) (sh sz:Int) (xs:List Str),vs=[.ref a,.int sh,.int sz]/\H a=some (.lst (xs.map V.str))/\1<=sz/\sz<=9/\xs≠[]/\xs.length<=40/\∀ l ts R H',H l=none->Same H H'->IsRules H' l ts R->al1 xs R->R.length<=40->Q (.ref l) H'
noncomputable def agp (K:PySem.W.Frag):Sp:=fun vs H Q _=>∃ (s a b:Addr) (ns:List Int) (xs:List Str) (m0 m1 f2 f3 f4 ov:Str),vs=[.ref s,.ref a,.ref b]/\E5 K H s (ns.map V.int)/\H a=some (.lst (xs.map V.str))/\H b=some (.lst ([m0,m1,f2,f3,f4,ov].map V.str))/\xs≠[]/\xs.length<=40/\
 ∀ l ts mo rows G H',H l=none->Same H H'->IsRules H' l ts (P1 mo rows m0 m1 G)->D83 xs f2 f3 f4 ov mo rows G->Q (.ref l) H'
noncomputable def ahR (K:PySem.W.Frag):Sp:=fun vs H Q _=>∃ (g a b:Addr) (ts:List Addr) (xs ys ks:List Str),vs=[.ref g,.ref a,.ref b]/\IsRules H g ts [(M6,D5 xs ks),(("row" : Str),ys)]/\H a=some (.lst (xs.map V.str))/\H b=some (.lst (ys.map V.str))/\Kp xs ys ks/\xs.Nodup/\ys.Nodup/\ys.Perm xs/\xs.length<=40/\xs≠[]/\D5 xs ks≠[]/\(∀ x∈xs,U3 x=true)/\∀ H',Same H H'->Q (.int (ks.length:Nat)) H'
section
variable {ys:List Str} {m0 m1 f2 f3 f4 ov:Str} {mo rows:List Rl} {G:List (Str×Str)}
theorem D83.known(s:S83 ys m0 m1 f2 f3 f4 ov)(d:D83 ys f2 f3 f4 ov mo rows G):(Q1 (fin83 mo rows m0 m1 G ys)).length<=1000:=by
 have hy:=s.ln;have h2:(Y7 (fin83 mo rows m0 m1 G ys)).length<=1:=by unfold Y7;split <;> simp
 have h1:(keysP (D4 (fin83 mo rows m0 m1 G ys))).length<=(ys++[m0,m1,f2,f3,f4,ov]).length:=by
  refine uF (by unfold keysP;exact oK (by simp)) fun p hp=>?_
  rw [kI,d.prs] at hp;simp only [E4,g8,F6,E2,Function.comp_def] at hp
  rcases hp with (((⟨q,hq,e⟩ | ⟨q,hq,e⟩) | ⟨q,hq,e⟩) | ⟨e0,wS,e⟩) | ⟨q,hq,e⟩
  .unfold w5 at hq
   split at hq
   .rw [E6.mp hq] at e;rw [<- show ov=p from e];simp
   .cases hq
  .obtain ⟨z,hz,bC⟩:=V3.mp hq;rw [<- show q=p from e];exact L4 _ ((d.rw z hz).2.2.subset bC)
  .rw [<- show q=p from e]
   have:q=m0\/q=m1:=by simpa using hq
   rcases this with h | h <;> simp [h]
  .rw [<- show e0.2=p from e]
   rcases d.form wS with h | h | h <;> simp [h]
  .rw [<- show q=p from e];exact L4 _ hq
 rw [D1] at h1;simp only [F8,V4] at h1;unfold Q1;rw [D1];lia
theorem D83.pr(d:D83 ys f2 f3 f4 ov mo rows G){e:Str×Str}(he:e∈G):(e.2,("great" : Str))∈D4 (fin83 mo rows m0 m1 G ys):=by
 rw [d.prs];exact L4 _ (O0 _ (E2.mpr ⟨e.2,E2.mpr ⟨e,he,rfl⟩,rfl⟩))
theorem D83.units(s:S83 ys m0 m1 f2 f3 f4 ov)(d:D83 ys f2 f3 f4 ov mo rows G)(hL:T7 (fin83 mo rows m0 m1 G ys) "row" ys)(hM:T7 (fin83 mo rows m0 m1 G ys) "marks" [m0,m1]){e:Str×Str}(he:e∈G) :
  iA (hasW (fin83 mo rows m0 m1 G ys) "figures") (Q1 (fin83 mo rows m0 m1 G ys)) e.2/\∃ c:Int,m6 (stepY (fin83 mo rows m0 m1 G ys) ys [m0,m1]) (cutF (hasW (fin83 mo rows m0 m1 G ys) "figures") (Q1 (fin83 mo rows m0 m1 G ys)) e.2.cps.toList).2=[(2,(ys.idxOf e.1:Int),[],c)]:=by
 have hp:X3 e.2=true:=s.pc _ (by rcases d.form he with h | h | h <;> simp [h]);have hk:e.2∈Q1 (fin83 mo rows m0 m1 G ys):=alw (E2.mpr ⟨_,d.pr he,rfl⟩);have hc:=akf hk hp;obtain ⟨c,hu⟩:=d.unit s hL hM he;unfold iA;rw [d.has s.ne,hc,ahH (d.has s.ne)];refine ⟨rfl,c,?_⟩;unfold m6;rw [Z5,fX,hu];rfl
theorem D83.beh(d:D83 ys f2 f3 f4 ov mo rows G):hasW (P1 mo rows m0 m1 G) "behind"=hasW mo "behind"/\hasW (fin83 mo rows m0 m1 G ys) "behind"=hasW mo "behind":=by
 have no:∀ {l:List Rl},(∀ z∈l,z.1≠"behind")->hasW l "behind"=false:=fun {l} h=>by
  unfold hasW;rw [List.any_eq_false];intro z hz;rw [decide_eq_true_iff];exact h z hz
 have e:hasW (P1 mo rows m0 m1 G) "behind"=hasW mo "behind":=by
  unfold P1;rw [ahE,no (l:=rows++(("marks" : Str),[m0,m1])::W3 G),Bool.or_false];intro z hz
  rcases F6.mp hz with hz | hz
  .rw [(d.rw z hz).1];decide +kernel
  .rcases D9.mp hz with rfl | hz
   .exact (by decide +kernel:Str.ofString "marks"≠Str.ofString "behind")
   .obtain ⟨e,_,rfl⟩:=E2.mp hz;exact (by decide +kernel:Str.ofString "great"≠Str.ofString "behind")
 refine ⟨e,?_⟩;unfold fin83;rw [ahE,e,no (l:=[(("row" : Str),ys)]),Bool.or_false];intro z hz;rw [E6.mp hz];exact (by decide +kernel:Str.ofString "row"≠Str.ofString "behind")
theorem D83.flag(d:D83 ys f2 f3 f4 ov mo rows G)(hy:ys≠[]):∀ z∈P1 mo rows m0 m1 G,z.1="behind"->z.2=[]:=fun z hz e=>by
 rcases d.each (m0:=m0) (m1:=m1) hy (L4 _ hz) with ⟨h,_⟩ | rfl | ⟨e0,_,rfl⟩ | rfl | rfl | rfl
 .rw [h] at e;exact absurd e (by decide +kernel)
 .exact absurd e (by decide +kernel:¬ Str.ofString "marks"=Str.ofString "behind")
 .exact absurd e (by decide +kernel:¬ Str.ofString "great"=Str.ofString "behind")
 .rfl
 .rfl
 .exact absurd e (by decide +kernel:¬ Str.ofString "over"=Str.ofString "behind")
end
section
variable {P:Program} {w:World} {K:PySem.W.Frag} {mg:Str->Option Value} {base:Heap} {C:Addr}
theorem sc_told:FnScope ["rows", "seen", "row", "piece"] ["rows"] (C6 u7):=G8
abbrev VS(N:List Str)(s:Stmt)(x:Str)(n:Nat):Prop:=∀ {X:Cx} {pos:Pos},X.N=N->X.env.scope=C6 s->QE X (.Name x pos) (tVar n)
theorem vq{s:Stmt}{x:Str}(h:(decide (N[n]?=some x)&&visB (C6 s) x && !(x==("__debug__" : Str)) && !(x==("__classdict__" : Str)))=true:=by decide +kernel):VS N s x n:=fun hN hs=>qvd hN hs h
theorem vi{s:Stmt}{x:Str}{pos:Pos}(h:VS N s x n)(h1:X.N=N:=by rfl)(h2:X.env.scope=C6 s:=by rfl):QE X (.Name x pos) (tVar n):=h h1 h2
abbrev LS(s:Stmt)(x:Str):Prop:=k4 (C6 s) x
theorem lq{s:Stmt}{x:Str}(h:(C6 s).names.lookup x=some .local\/(C6 s).names.lookup x=some .cell:=by decide +kernel):LS s x:=h
abbrev pB:List Str:=["rows", "seen", "row", "piece"]
theorem vaa:VS pB u7 "rows" 0:=vq
theorem vab:VS pB u7 "seen" 1:=vq
theorem vac:VS pB u7 "row" 2:=vq
theorem vad:VS pB u7 "piece" 3:=vq
theorem vae:LS u7 "seen":=lq
theorem vaf:LS u7 "row":=lq
theorem vag:LS u7 "piece":=lq
theorem anu(F:FunD K "told" "told" u7 f fd)(T:Txt P w K mg C):FnOk P w K mg base E8 1 f fd ["rows"] alV:=by
 refine F.ok sc_told ?_ ?_
 .rintro _ _ _ _ ⟨a,rs,zss,rfl,_⟩;rfl
 .intro cdv A outer s H vs Q E hr h;have C7:=hu_of hr;have hu:=hr.units;refine ⟨_,QSs.out (B1 (D6 (n:=1) sc_told.nd rfl vae aK)
   (B1 (M8 PassesOwn.never (M9 (K:=K) (vi vaa)) (D7 (n:=2) sc_told.nd rfl vaf (.inl rfl)) (B5 (M8 PassesOwn.never (M9 (K:=K) (vi vac)) (D7 (n:=3) sc_told.nd rfl vag (.inl rfl)) (B5 (i0 C7 (vi vab) (vi vad) qe_bl)))))
   (B5 (E1 (qe_cT (Z9 (K:=K) (calm:=true)) T.b_list Y3 (qa_c (vi vab) A6)))))),?_⟩
  obtain ⟨a,rs,zss,rfl,hR,hz,q⟩:=h;walk_at "rd";intro d nd;have hlz:∀ n:Nat,n<=100000->n<sizeLine:=fun n h=>G7 (by lia)
  refine ⟨⟨_,.of (B3 hR.top nd)⟩,forL (xs:=rs.map V.ref) (fun i Y H2=>∃ (u v:Option V),Y=[some (.ref a),some (.ref d),u,v]/\Same H H2/\H2 d=some (.dK (kvOf (toldL (zss.take i)))))
   ⟨none,none,rfl,Same.new nd,by rw [A5];rfl⟩ (by rintro i Y H2 _ ⟨_,_,_,S,_⟩;exact .of (S _ _ hR.top)) ?_ ?_⟩
  .rintro i x Y H2 hx ⟨u,v,rfl,S,hd⟩;obtain ⟨r,hr,rfl⟩:=G5 hx;obtain ⟨zs,iR,C8⟩:=Paired.at hR.row hr;have hcount:(toldL (zss.take i)).length+zs.length<=100000:=by
    have h1:zss.take (i+1)=zss.take i++[zs]:=by rw [U0,iR];rfl
    have h2:=jX (zss.take i);have h3:(zss.take (i+1)).flatten.length<=zss.flatten.length:=by
     conv=>rhs;rw [<- q9 (i+1) zss]
     rw [fW,D1];lia
    rw [h1,fW,D1] at h3;simp at h3;simp at h2 hz h3 ⊢
    lia
   walk_at "rd";refine ⟨⟨_,.of (S _ _ C8)⟩,forL (xs:=zs.map V.str) (fun j Y H3=>∃ (v:Option V),Y=[some (.ref a),some (.ref d),some (.ref r),v]/\Same H H3/\H3 d=some (.dK (kvOf (E9 (toldL (zss.take i)) (zs.take j)))))
    ⟨v,rfl,S,hd⟩ (by rintro j Y H3 _ ⟨_,_,S3,_⟩;exact .of (S3 _ _ C8)) ?_ ?_⟩
   .rintro j y Y H3 hy ⟨v,rfl,S3,P3⟩;obtain ⟨z,mG,rfl⟩:=G5 hy;walk_at "rd";refine ⟨_,k8 (k:=Sum.inr z) P3 ?_,S3.put nd,?_⟩
    .unfold kvOf;rw [A7];refine hlz _ ?_
     have:=eJ (zs.take j) (toldL (zss.take i))
     rw [K5] at this;lia
    .rw [A5,sR,ahq mG]
   .rintro Y H3 ⟨v,rfl,S3,P3⟩;walk_at "rd";refine ⟨S3,?_⟩;rw [P3,aji iR,A7,K4]
  .rintro Y H2 ⟨u,v,rfl,S,hd⟩;walk_at "rd";refine rListR.d (.of hd) fun l nl=>?_
   refine q l _ (S.free nl) (fun b o h=>B3 (S b o h) nl) ?_;rw [A5,ajj,A7];rw [show rs.length=zss.length from Paired.length hR.row,K4]
theorem sc_followers:FnScope ["rows", "after", "piece", "row", "one", "other"] ["rows"] (C6 Y8):=G8
abbrev iC:List Str:=["rows", "after", "piece", "row", "one", "other"]
theorem vah:VS iC Y8 "rows" 0:=vq
theorem uJ:VS iC Y8 "after" 1:=vq
theorem vaj:VS iC Y8 "piece" 2:=vq
theorem vak:VS iC Y8 "row" 3:=vq
theorem vam:VS iC Y8 "one" 4:=vq
theorem van:VS iC Y8 "other" 5:=vq
theorem vao:LS Y8 "after":=lq
theorem vap:LS Y8 "piece":=lq
theorem vaq:LS Y8 "row":=lq
theorem var:LS Y8 "one":=lq
theorem vas:LS Y8 "other":=lq
theorem agq(F:FunD K "followers" "followers" Y8 f fd)(T:Txt P w K mg C)(G_told:FO P w K mg base 1 "told" ["rows"] [] alV):FnOk P w K mg base E8 2 f fd ["rows"] spFol:=by
 refine F.ok sc_followers ?_ ?_
 .rintro _ _ _ _ ⟨a,rs,zss,rfl,_⟩;rfl
 .intro cdv A outer s H vs Q E hr h;have C7:=hu_of hr;have hu:=hr.units;refine ⟨_,QSs.out (B1 (D6 (n:=1) sc_followers.nd rfl vao aK)
   (B1 (M8 PassesOwn.never (M9 (K:=K) (F9 G_told (hm hr) (qa_c (vi vah) A6))) (D7 (n:=2) sc_followers.nd rfl vap (.inl rfl)) (B5 (i0 C7 (vi uJ) (vi vaj) (N9 A6))))
   (B1 (M8 PassesOwn.never (M9 (K:=K) (vi vah)) (D7 (n:=3) sc_followers.nd rfl vaq (.inl rfl)) (B5 (M8 PassesOwn.never (aoN T.b_zip (qa_c (vi vak) (qa_c (Q0 (K:=K) (vi vak) (M7 A8) X4) A6))) (aM (K:=K) (n:=2) (Q5 ((D7 (n:=4) sc_followers.nd rfl var (.inl rfl))) (Q5 ((D7 (n:=5) sc_followers.nd rfl vas (.inl rfl))) aL))) (B5 (O3 (qe_mB (K:=K) O2 V7 V6 W2 (Y5 C7 (vi uJ) (vi vam)) (qa_c (vi van) A6)))))))
   (B5 (E1 (vi uJ)))))),?_⟩
  obtain ⟨a,rs,zss,rfl,hR,hz,q⟩:=h;walk_at "rd";intro d nd;have S0:Same H (A4 H d (.dK [])):=Same.new nd;refine ⟨a,rs,zss,rfl,hR.same S0,hz,fun l H1 nl S1 hl=>?_⟩;have wT:H1 d=some (.dK []):=S1 _ _ A5;have S01:=S0.trans S1;have C1:(toldL zss).length<=100000:=K6 (jX zss) hz;have tnd:=gT zss;refine ⟨l,rfl,⟨_,.of hl⟩,forL (xs:=(toldL zss).map V.str) (fun i Y H2=>∃ (u v w x:Option V) (ad:Str->Addr),Y=[some (.ref a),some (.ref d),u,v,w,x]/\SameBut d H1 H2/\H2 d=some (.dK (C2 ((toldL zss).take i) fun t=>.ref (ad t)))/\DL H1 H2 ((toldL zss).take i) ad fun _=>[])
   ⟨none,none,none,none,fun _=>0,rfl,SameBut.refl _ _,wT,⟨fun t h=>by simp at h,fun t h=>by simp at h,fun t h=>by simp at h⟩⟩ (fun i Y H2 _ ⟨_,_,_,_,_,_,S,_⟩=>.of (S _ _ (fun e=>by rw [e,wT] at hl;cases hl) hl)) ?_ ?_⟩
  .rintro i x Y H2 hx ⟨u,v,w,y,ad,rfl,S,hd,dl⟩;obtain ⟨z,hk,rfl⟩:=G5 hx;have hi:i<(toldL zss).length:=(G9.mp hk).1;have Q9:=kF tnd hk;walk_at "rd";refine fun p np=>⟨_,k8 (k:=Sum.inr z) (B3 hd np) (by rw [b0,K5];exact G7 (by lia)),?_⟩
   have n1:H1 p=none:=S.free np (fun e=>by rw [e,hd] at np;cases np);refine ⟨(S.put n1).at,fun t=>if t=z then p else ad t,?_,?_⟩
   .rw [A5,aN _ Q9,L9 hk];have e:(fun t=>if t=z then V.ref p else V.ref (ad t))=fun t=>V.ref (if t=z then p else ad t):=by funext t;split <;> rfl
    rw [e]
   .rw [L9 hk];exact ((dl.more Q9 np n1).congr fun t _=>by split <;> rfl).put wT
  .rintro Y H2 ⟨u,v,w,y,ad,rfl,S,hd,dl⟩;rw [A7,K4] at hd dl;have S2:Same H H2:=S.same S01 nd;walk_at "rd";have dl0:DL H H2 (toldL zss) ad fun _=>[]:=dl.old S01
   refine ⟨⟨_,.of (S2 _ _ hR.top)⟩,forL (xs:=rs.map V.ref) (fun i Y H3=>∃ (v w x:Option V),Y=[some (.ref a),some (.ref d),u,v,w,x]/\Same H H3/\H3 d=some (.dK (C2 (toldL zss) fun t=>.ref (ad t)))/\DL H H3 (toldL zss) ad (F7 (edges (zss.take i))))
    ⟨v,w,y,rfl,S2,hd,dl0⟩ (by rintro i Y H3 _ ⟨_,_,_,_,S,_⟩;exact .of (S _ _ hR.top)) ?_ ?_⟩
   .rintro i x Y H3 hx ⟨v,w,y,rfl,S3,P3,y0⟩;obtain ⟨r,hr,rfl⟩:=G5 hx;obtain ⟨zs,iR,C8⟩:=Paired.at hR.row hr;have dB:=S3 _ _ C8;have M0:∀ x∈zs,x∈toldL zss:=fun x hx=>(sY _ _).mpr (List.mem_flatten.mpr ⟨zs,L3 iR,hx⟩)
    walk_at "rd";refine rSlR.l (.of dB) fun p np=>?_
    have ecut:cutV (zs.map V.str) (some 1) none=zs.tail.map V.str:=by
     have:=cH (zs.map V.str) 1
     rw [show ((1:Nat):Int)=1 from rfl] at this;rw [this,<- bT,List.drop_one]
    rw [ecut];have np0:H p=none:=S3.free np;have nad:∀ t∈toldL zss,ad t≠p:=fun t ht e=>by have:=y0.row t ht;rw [e,np] at this;cases this
    have nadr:∀ t∈toldL zss,ad t≠r:=fun t ht e=>by have:=y0.new t ht;rw [e,C8] at this;cases this
    have ndp:d≠p:=fun e=>by rw [<- e,P3] at np;cases np
    have nadd:∀ t∈toldL zss,ad t≠d:=fun t ht e=>by have:=y0.row t ht;rw [e,P3] at this;cases this
    refine ⟨p,rfl,⟨_,B3 dB np⟩,⟨_,A5⟩,forZ (xs:=zs.map V.str) (ys:=zs.tail.map V.str) (fun j Y H4=>∃ (w x:Option V),Y=[some (.ref a),some (.ref d),u,some (.ref r),w,x]/\Same H H4/\H4 p=some (.lst (zs.tail.map V.str))/\H4 d=some (.dK (C2 (toldL zss) fun t=>.ref (ad t)))/\DL H H4 (toldL zss) ad (F7 (edges (zss.take i)++(R1 zs).take j)))
     ⟨w,y,rfl,S3.put np0,A5,B3 P3 np,?_⟩ (by rintro j Y H4 ⟨_,_,_,S,hp,_⟩;exact ⟨S _ _ C8,hp⟩) ?_ ?_⟩
    .rw [bR,L7];exact y0.same (Same.new np)
    .rintro j xv yv t Y H4 hxv hyv ⟨w,v,rfl,S4,mK,T9,iS⟩ nt;obtain ⟨x,hx,rfl⟩:=G5 hxv;obtain ⟨y,hy,rfl⟩:=G5 hyv;have bB:=M0 x (L3 hx);have nt0:H t=none:=S4.free nt;have wU:=iS.row x bB;have hE:(R1 zs)[j]?=some (x,y):=af3 hx hy;walk_at "rd";refine ⟨_,.of A5,rfl,_,_,rfl,_,_,rfl,rfl,V.ref (ad x),.inl ⟨_,Sum.inr x,.inl (B3 T9 nt),rfl,by rw [O4,if_pos bB]⟩,N4 (B3 wU nt),appOk (B3 wU nt) ?_ ⟨(S4.put nt0).put (iS.new x bB),?_,?_,?_⟩⟩
     .rw [A7];refine G7 ?_;have h1:(F7 (edges (zss.take i)++(R1 zs).take j) x).length<=(edges (zss.take i)++(R1 zs).take j).length:=by
       unfold F7;rw [A7];exact dO _ _
      have h2:=af4 (zss.take i);have h3:(zss.take i).flatten.length<=zss.flatten.length:=by
       conv=>rhs;rw [<- q9 i zss]
       rw [fW,D1];lia
      have h4:zs.length<=zss.flatten.length:=List.Sublist.length_le (List.sublist_flatten_of_mem (L3 iR));rw [D1,K5,sZ] at h1;lia
     .rw [A9 (nad x bB).symm];exact B3 mK nt
     .rw [A9 (nadd x bB).symm];exact B3 T9 nt
     .have h1:=(iS.same (Same.new (u:=.tup [V.str x,V.str y]) nt)).app bB (F7 (edges (zss.take i)++(R1 zs).take j) x++[y]);rw [E4] at h1;refine h1.congr fun t _=>?_
      rw [L9 hE,<- U1,ald]
      by_cases e:t=x
      .rw [if_pos e,if_pos e.symm,e]
      .rw [if_neg e,if_neg (fun z=>e z.symm)]
    .rintro Y H4 ⟨w,x,rfl,S4,mK,T9,iS⟩;walk_at "rd";refine ⟨S4,T9,?_⟩;rw [ah9 iR];rw [j0 (l:=R1 zs) (by rw [sZ,A7,A7];exact C5 _)] at iS;exact iS
   .rintro Y H3 ⟨v,w,y,rfl,S3,P3,y0⟩;rw [A7,show rs.length=zss.length from Paired.length hR.row,K4] at y0;walk_at "rd";exact q d ad H3 nd S3 P3 y0
theorem sc_count_ahead:FnScope ["after", "ahead", "piece", "other"] ["after"] (C6 u8):=G8
abbrev pC:List Str:=["after", "ahead", "piece", "other"]
theorem uK:VS pC u8 "after" 0:=vq
theorem uL:VS pC u8 "ahead" 1:=vq
theorem vav:VS pC u8 "piece" 2:=vq
theorem vaw:VS pC u8 "other" 3:=vq
theorem vax:LS u8 "ahead":=lq
theorem vay:LS u8 "piece":=lq
theorem vaz:LS u8 "other":=lq
theorem aey(F:FunD K "count_ahead" "count_ahead" u8 f fd)(T:Txt P w K mg C):FnOk P w K mg base E8 1 f fd ["after"] aju:=by
 refine F.ok sc_count_ahead ?_ ?_
 .rintro _ _ _ _ ⟨d,ts,ad,E,rfl,_⟩;rfl
 .intro cdv A outer s H vs Q E hr h;have C7:=hu_of hr;have hu:=hr.units;refine ⟨_,QSs.out (B1 (D6 (n:=1) sc_count_ahead.nd rfl vax aK)
   (B1 (sW PassesOwn.never (vi uK) (D7 (n:=2) sc_count_ahead.nd rfl vay (.inl rfl)) (B5 (i0 C7 (vi uL) (vi vav) A8)))
   (B1 (sW PassesOwn.never (vi uK) (D7 (n:=2) sc_count_ahead.nd rfl vay (.inl rfl)) (B5 (M8 PassesOwn.never (M9 (K:=K) (Y5 C7 (vi uK) (vi vav))) (D7 (n:=3) sc_count_ahead.nd rfl vaz (.inl rfl)) (B5 (ajk C7 (vi uL) (vi vaw) A8 aoG)))))
   (B5 (E1 (vi uL)))))),?_⟩
  obtain ⟨d,ts,ad,E,rfl,hd,tnd,C1,hElen,C8,hE,q⟩:=h;walk_at "rd";intro c nc;have ndc:d≠c:=fun e=>by rw [e,nc] at hd;cases hd
  refine ⟨_,B3 hd nc,fun o=>forD (fun i Y H2=>∃ (u v:Option V),Y=[some (.ref d),some (.ref c),u,v]/\H2 d=some (.frz o (.dK (C2 ts fun t=>.ref (ad t))))/\SameBut d H H2/\H2 c=some (.dK (C2 (ts.take i) fun _=>.int 0)))
   ⟨none,none,rfl,A5,(SameBut.put (SameBut.refl _ _) nc).at,by rw [A9 ndc.symm,A5];rfl⟩ (by rintro i Y H2 ⟨_,_,_,h,_⟩;exact h) ?_ ?_⟩
  .rintro i k v Y H2 hk ⟨u,w,rfl,hf,S,hc⟩;obtain ⟨t,ht,rfl,rfl⟩:=alR hk;have hi:i<ts.length:=(G9.mp ht).1;walk_at "rd";refine ⟨_,k8 (k:=Sum.inr t) hc (by rw [b0,K5];exact G7 (by lia)),?_,S.put nc,?_⟩
   .rw [A9 ndc];exact hf
   .rw [A5,aN _ (kF tnd ht),L9 ht];exact congrArg (fun x=>some (HO.dK x)) (T0 fun t _=>by split <;> rfl)
  .rintro Y H2 ⟨u,w,rfl,hf,S,hc⟩;rw [b0,K4] at hc;have S2:Same H (A4 H2 d (.dK (C2 ts fun t=>.ref (ad t)))):=S.thaw hd;have W4:A4 H2 d (.dK (C2 ts fun t=>.ref (ad t))) d=some (.dK (C2 ts fun t=>.ref (ad t))):=A5;have x5:A4 H2 d (.dK (C2 ts fun t=>.ref (ad t))) c=some (.dK (C2 ts fun _=>.int 0)):=by rw [A9 ndc.symm];exact hc
   generalize A4 H2 d (.dK (C2 ts fun t=>.ref (ad t)))=H3 at S2 W4 x5;walk_at "rd";refine ⟨_,W4,fun o=>forD (fun i Y H4=>∃ (u v:Option V),Y=[some (.ref d),some (.ref c),u,v]/\H4 d=some (.frz o (.dK (C2 ts fun t=>.ref (ad t))))/\SameBut d H H4/\H4 c=some (.dK (C2 ts fun t=>.int (cntIn E (ts.take i) t:Nat))))
    ⟨u,w,rfl,A5,fun b o hb h=>by rw [A9 hb];exact S2 b o h,?_⟩ (by rintro i Y H2 ⟨_,_,_,h,_⟩;exact h) ?_ ?_⟩
   .rw [A9 ndc.symm,x5];exact congrArg (fun x=>some (HO.dK x)) (T0 fun t _=>by rw [bR,ajt];rfl)
   .rintro i k v Y H4 hk ⟨u,w,rfl,hf,S4,iT⟩;obtain ⟨t,ht,rfl,rfl⟩:=alR hk;have mL:t∈ts:=L3 ht;have hl4:H4 (ad t)=some (.lst ((F7 E t).map V.str)):=S4 _ _ (fun e=>by have:=C8 t mL;rw [e,hd] at this;cases this) (C8 t mL);walk_at "rd";refine ⟨V.ref (ad t),.inl ⟨_,Sum.inr t,.inr ⟨o,hf⟩,rfl,by rw [O4,if_pos mL]⟩,ad t,rfl,⟨_,.of hl4⟩,forL (xs:=(F7 E t).map V.str) (fun j Y H5=>∃ (v:Option V),Y=[some (.ref d),some (.ref c),some (kV (Sum.inr t)),v]/\H5 d=some (.frz o (.dK (C2 ts fun t=>.ref (ad t))))/\SameBut d H H5/\
     H5 c=some (.dK (C2 ts fun q=>.int (cntIn E (ts.take i) q+((F7 E t).take j).count q:Nat)))) ⟨w,rfl,hf,S4,by rw [iT];rfl⟩ (fun j Y H5 _ ⟨_,_,_,S5,_⟩=>.of (S5 _ _ (fun e=>by have:=C8 t mL;rw [e,hd] at this;cases this) (C8 t mL))) ?_ ?_⟩
    .rintro j v5 Y H5 wV ⟨v,rfl,wW,S5,Z3⟩;obtain ⟨y,fK,rfl⟩:=G5 wV;have dC:y∈ts:=by
      have:=L3 fK
      unfold F7 at this;obtain ⟨e,he,rfl⟩:=E2.mp this;exact (hE e (O1.mp he).1).2
     walk_at "rd";refine ⟨V.int (cntIn E (ts.take i) y+((F7 E t).take j).count y:Nat),.inl ⟨_,Sum.inr y,.inl Z3,rfl,by rw [O4,if_pos dC]⟩,_,_,rfl,rfl,_,k8 (k:=Sum.inr y) Z3 (by rw [b0];exact G7 (by lia)),?_,S5.put nc,?_⟩
     .rw [A9 ndc];exact wW
     .rw [A5,oJ _ dC];refine congrArg (fun x=>some (HO.dK x)) (T0 fun q _=>?_);rw [L9 fK,List.count_append,List.count_singleton]
      by_cases e:q=y
      .rw [if_pos e,e,if_pos (by simp)];exact congrArg V.int (by lia)
      .rw [if_neg e,if_neg (by simpa using fun z:y=q=>e z.symm)];rfl
    .rintro Y H5 ⟨v,rfl,wW,S5,Z3⟩;walk_at "rd";refine ⟨wW,S5,?_⟩;rw [A7,K4] at Z3;rw [Z3];refine congrArg (fun x=>some (HO.dK x)) (T0 fun q _=>?_);rw [L9 ht,ah6 (kF tnd ht)]
   .rintro Y H4 ⟨u,w,rfl,hf,S4,iT⟩;rw [b0,K4] at iT;walk_at "rd";refine q c _ nc (S4.thaw hd) ?_;rw [A9 ndc.symm,iT];exact congrArg (fun x=>some (HO.dK x)) (T0 fun t _=>by rw [ajs (fun e he=>(hE e he).1)])
theorem sc_lined_up:FnScope ["rows", "after", "ahead", "pieces", "numbers", "free", "line", "number", "other"] ["rows"] (C6 Q2):=G8
abbrev aS:List Str:=["rows", "after", "ahead", "pieces", "numbers", "free", "line", "number", "other"]
theorem vaA:VS aS Q2 "rows" 0:=vq
theorem uM:VS aS Q2 "after" 1:=vq
theorem vaC:VS aS Q2 "ahead" 2:=vq
theorem kY:VS aS Q2 "pieces" 3:=vq
theorem vaE:VS aS Q2 "numbers" 4:=vq
theorem pD:VS aS Q2 "free" 5:=vq
theorem uN:VS aS Q2 "line" 6:=vq
theorem uO:VS aS Q2 "number" 7:=vq
theorem uP:VS aS Q2 "other" 8:=vq
theorem vaJ:LS Q2 "after":=lq
theorem vaK:LS Q2 "ahead":=lq
theorem vaL:LS Q2 "pieces":=lq
theorem vaM:LS Q2 "numbers":=lq
theorem vaN:LS Q2 "free":=lq
theorem vaO:LS Q2 "line":=lq
theorem vaP:LS Q2 "number":=lq
theorem vaQ:LS Q2 "other":=lq
theorem ag2(F:FunD K "lined_up" "lined_up" Q2 f fd)(T:Txt P w K mg C)(G_followers:FO P w K mg base 2 "followers" ["rows"] [] spFol)(G_count_ahead:FO P w K mg base 1 "count_ahead" ["after"] [] aju):FnOk P w K mg base E8 3 f fd ["rows"] ajv:=by
 refine F.ok sc_lined_up ?_ ?_
 .rintro _ _ _ _ ⟨a,rs,zss,rank,rfl,_⟩;rfl
 .intro cdv A outer s H vs Q E hr h;have C7:=hu_of hr;have hu:=hr.units;refine ⟨_,QSs.out (B1 (D6 (n:=1) sc_lined_up.nd rfl vaJ (F9 G_followers (hm hr) (qa_c (vi vaA) A6)))
   (B1 (D6 (n:=2) sc_lined_up.nd rfl vaK (F9 G_count_ahead (hm hr) (qa_c (vi uM) A6)))
   (B1 (D6 (n:=3) sc_lined_up.nd rfl vaL (qe_cT (Z9 (K:=K) (calm:=true)) T.b_list Y3 (qa_c (vi uM) A6)))
   (B1 (D6 (n:=4) sc_lined_up.nd rfl vaM (qe_cT (ajo (K:=K) (calm:=true)) T.b_dict ajd (qa_c (Y6  (R3:CompOk ["rows", "after", "ahead", "pieces", "numbers", "free", "line", "number", "other"] (C6 Q2).names _ ["number", "piece"] 2 []) (kH T.b_enumerate (qa_c (vi kY) A6)) (fun _ _ _ _ _=>(aM (K:=K) (n:=2) (Q5 (D7 (n:=0) (show List.Nodup (["number", "piece"]:List Str) by decide +kernel) rfl (Or.inl rfl)) (Q5 (D7 (n:=1) (show List.Nodup (["number", "piece"]:List Str) by decide +kernel) rfl (Or.inl rfl)) aL)))) (fun _ _ _ _ _=>eN) (fun _ _ _ _ _=>(L8 (qa_c (qv 1) (qa_c (qv 0) A6))))) A6)))
   (B1 (gP (n:=5) sc_lined_up.nd rfl vaN (R3:CompOk ["rows", "after", "ahead", "pieces", "numbers", "free", "line", "number", "other"] (C6 Q2).names _ ["piece", "numbers", "ahead"] 1 [4,2]) (M9 (K:=K) (vi kY)) (fun _ _ _ _ _=>D7 (n:=0) (show List.Nodup (["piece", "numbers", "ahead"]:List Str) by decide +kernel) rfl (Or.inl rfl)) (fun _ _ _ _ _=>(Z8 (D8 (q_eq (K:=K) hu) (Y5 C7 (qv 2) (qv 0)) A8))) (fun _ _ _ _ _=>(Y5 C7 (qv 1) (qv 0))))
   (B1 (D6 (n:=6) sc_lined_up.nd rfl vaO (N9 A6))
   (B1 (oA PassesOwn.never (X5 (K:=K) (vi pD)) (B1 (D6 (n:=7) sc_lined_up.nd rfl vaP (qe_cB (aoW (calm:=true)) T.b_min aoA (qa_c (vi pD) A6)))
   (B1 (O3 (qe_mB (K:=K) O2 PySem.F.slot_list_remove PySem.F.type_list_remove ajL (vi pD) (qa_c (vi uO) A6)))
   (B1 (O3 (qe_mB (K:=K) O2 V7 V6 W2 (vi uN) (qa_c (qe_ix (K:=K) (vi kY) (vi uO)) A6)))
   (B5 (M8 PassesOwn.never (M9 (K:=K) (Y5 C7 (vi uM) (qe_ix (K:=K) (vi kY) (vi uO)))) (D7 (n:=8) sc_lined_up.nd rfl vaQ (.inl rfl)) (B1 (ajk C7 (vi vaC) (vi uP) A8 aoH)
   (B5 (qs_if (D8 (q_eq (K:=K) hu) (Y5 C7 (vi vaC) (vi uP)) A8) (B5 (O3 (qe_mB (K:=K) O2 V7 V6 W2 (vi pD) (qa_c (Y5 C7 (vi vaE) (vi uP)) A6)))) J8)))))))))
   (B1 (qs_if (D8 q_lt (qe_cB (q_len (K:=K)) T.b_len X2 (qa_c (vi uN) A6)) (qe_cB (q_len (K:=K)) T.b_len X2 (qa_c (vi kY) A6))) (B5 nZ) J8)
   (B5 (E1 (vi uN))))))))))),?_⟩
  obtain ⟨a,rs,zss,rank,rfl,hR,hz,o3,q⟩:=h;walk_at "rd";have C1:(toldL zss).length<=100000:=K6 (jX zss) hz;have hElen:(edges zss).length<=100000:=K6 (af4 zss) hz;have tnd:=gT zss;have etold:∀ e∈edges zss,e.1∈toldL zss/\e.2∈toldL zss:=fun e he=>ah8 he
  refine ⟨a,rs,zss,rfl,hR,hz,fun d ad H1 nd S1 hd dl=>?_⟩;generalize hts:toldL zss=ts at *;generalize hEE:edges zss=E at *;refine ⟨d,ts,ad,E,rfl,hd,tnd,C1,hElen,dl.row,etold,fun c H2 nc S2 hc=>?_⟩;walk_at "rd";refine rListR.d (.of (S2 _ _ hd)) fun w nw=>?_
  rw [alf];have o4:=S1.trans S2;have ncH:H c=none:=S1.free nc;have W4:=S2 _ _ hd;have ncd:c≠d:=fun e=>by rw [e,hd] at nc;cases nc
  have nac:∀ t∈ts,ad t≠c:=fun t ht e=>by have:=dl.row t ht;rw [e,nc] at this;cases this
  have qK:A4 H2 w (.lst (ts.map V.str)) w=some (.lst (ts.map V.str)):=A5;have Sw:Same H2 (A4 H2 w (.lst (ts.map V.str))):=Same.new nw;generalize A4 H2 w (.lst (ts.map V.str))=H3 at qK Sw ⊢
  have idx:∀ {i:Nat} {z:Str},ts[i]?=some z->ts.idxOf z=i:=fun {i z} h=>by
   obtain ⟨hi,rfl⟩:=G9.mp h;exact List.Nodup.idxOf_getElem tnd i hi
  refine ⟨w,rfl,⟨_,qK⟩,compE (xs:=ts.map V.str) [] rfl (fun D i ys H4=>∃ qs:List Addr,ys=qs.map V.ref/\Same H3 H4/\Paired (fun q t=>H4 q=some (.tup [.str t,.int (ts.idxOf t:Nat)])) qs (ts.take i)) (fun D nD=>⟨[],rfl,Same.new nD,.nil⟩) (by rintro D i ys H4 nD _ ⟨_,_,S,_⟩;exact S _ _ qK) ?_ ?_⟩
  .rintro D i x t ys H4 nD hi hx ⟨qs,rfl,S,P4⟩ hD hy nt;obtain ⟨z,hz,rfl⟩:=G5 hx;rw [A7] at hi hy;walk_at "rd";refine ⟨by decide,fun p np=>⟨B3 (B3 hD nt) np,by rw [A7];exact G7 (by lia),gY.put (by rw [A7];exact hi) (by rw [A7];exact hy) ⟨qs++[p],by rw [E4];rfl,((S.trans (Same.new nt)).trans (Same.new np)).put nD,?_⟩⟩⟩;rw [L9 hz];refine Paired.snoc (O6 P4 fun q t' h=>?_) ?_
   .rw [A9 (fun e=>by rw [e,hD] at h;cases h)];exact B3 (B3 h nt) np
   .rw [A9 (fun e=>by rw [e,B3 hD nt] at np;cases np),A5,idx hz]
  rintro D ys H4 nD ⟨qs,rfl,wX,P4⟩ hD hy;rw [A7,K4] at P4;refine ⟨rfl,D,qs,_,rfl,.of hD,ahy (f:=fun t=>.int (ts.idxOf t:Nat)) P4,fun nm nnm=>?_⟩;rw [show W0 [] (C2 ts fun t=>V.int (ts.idxOf t:Nat))=C2 ts fun t=>V.int (ts.idxOf t:Nat) from aga (pre:=[]) (by simpa using tnd)];have S5:Same H2 (A4 H4 nm (.dK (C2 ts fun t=>V.int (ts.idxOf t:Nat)))):=(Sw.trans wX).trans (Same.new nnm);have bE:A4 H4 nm (.dK (C2 ts fun t=>V.int (ts.idxOf t:Nat))) w=some (.lst (ts.map V.str)):=B3 (wX _ _ qK) nnm;have wY:A4 H4 nm (.dK (C2 ts fun t=>V.int (ts.idxOf t:Nat))) nm=some (.dK (C2 ts fun t=>V.int (ts.idxOf t:Nat))):=A5;have iT:H4 c=some (.dK (C2 ts fun t=>.int (G4 E [] t:Nat))):=wX _ _ (Sw _ _ hc);have ncn:c≠nm:=fun e=>by rw [<- e,iT] at nnm;cases nnm
  generalize A4 H4 nm (.dK (C2 ts fun t=>V.int (ts.idxOf t:Nat)))=H5 at S5 bE wY ⊢
  have Z3:=S5 _ _ hc;have qL:=S5 _ _ W4;have iO:∀ t∈ts,H5 (ad t)=some (.lst ((F7 E t).map V.str)):=fun t ht=>S5 _ _ (S2 _ _ (dl.row t ht))
  have S05:=o4.trans S5;have ncw:c≠w:=fun e=>by rw [e,bE] at Z3;cases Z3
  refine ⟨w,rfl,⟨_,.of bE⟩,compL (xs:=ts.map V.str) [some (.ref nm),some (.ref c)] rfl (fun D i ys H6=>∃ fr:List Int,ys=fr.map V.int/\Same H5 H6/\FS (ts.take i) [] (fun q=>G4 E [] q=0) fr) (fun D nD=>⟨[],rfl,Same.new nD,FS.nil _⟩) (by rintro D i ys H6 nD _ ⟨_,_,S,_⟩;exact .of (S _ _ bE)) ?_ ?_⟩
  .rintro D i x ys H6 nD hi hx ⟨fr,rfl,S,F⟩ hD hy;obtain ⟨z,hz,rfl⟩:=G5 hx;have fL:z∈ts:=L3 hz;have wZ:i<ts.length:=(G9.mp hz).1;rw [A7] at hy;have hs:=F.snoc (i:=i) (q:=z) (by rw [K5];lia) (by simp);rw [<- L9 hz] at hs;walk_at "rd";refine ⟨V.int (G4 E [] z:Nat),.inl ⟨_,Sum.inr z,.inl (S _ _ Z3),rfl,by rw [O4,if_pos fL]⟩,?_⟩
   try walk_at "rd"
   refine iteD (fun h0=>⟨V.int (ts.idxOf z:Nat),.inl ⟨_,Sum.inr z,.inl (S _ _ wY),rfl,by rw [O4,if_pos fL]⟩,hD,by rw [A7];exact G7 (by lia),CW.put hi (by rw [A7];exact hy) ⟨fr++[(i:Int)],by rw [E4,idx hz];rfl,S.put nD,hs.1 (by lia)⟩⟩) fun h0=>⟨hD,jV hi (by rw [A7];exact hy) ⟨fr,rfl,S,hs.2 (by lia)⟩⟩
  rintro f ys H6 nf ⟨fr,rfl,xA,F0⟩ xB hy;rw [A7,K4] at F0;intro ln nln;have nln5:H5 ln=none:=xA.free nln;have x9:f≠ln:=fun e=>by rw [e,nln] at xB;cases xB
  have frlen:∀ {line fr z},FS ts line z fr->fr.length<=ts.length:=fun {line fr z} F=>by
   have h1:∀ n∈fr,n∈(t7 ts.length).map fun (n:Nat)=>(n:Int):=fun n hn=>by
    obtain ⟨m,q,e,h2,_⟩:=(F.2 n).mp hn;exact E2.mpr ⟨m,List.mem_range.mpr (G9.mp h2).1,e.symm⟩
   have:=aeW F.1 h1
   simpa using this
  refine oC (fun m Y H7=>∃ (u v:Option V) (line:List Str) (fr:List Int),Y=[some (.ref a),some (.ref d),some (.ref c),some (.ref w),some (.ref nm),some (.ref f),some (.ref ln),u,v]/\SameBut c H5 H7/\
    H7 c=some (.dK (C2 ts fun t=>.int (G4 E line t:Nat)))/\H7 f=some (.lst (fr.map V.int))/\FS ts line (fun q=>G4 E line q=0) fr/\H7 ln=some (.lst (line.map V.str))/\S9 E ts line/\m=ts.length-line.length) ts.length
   ⟨none,none,[],fr,rfl,fun b o _ h=>B3 (xA _ _ h) nln,B3 (xA _ _ Z3) nln,B3 xB nln,F0,A5,S9.nil _ _,rfl⟩ ?_
  rintro m Y H7 ⟨u,v,line,fr,rfl,B7,hc7,qM,F,iU,run,rfl⟩;have S07:Same H H7:=B7.same S05 ncH;walk_at "rd";refine ⟨_,gR qM,?_⟩
  by_cases U7:fr=[]
  .have aW:∀ p∈ts,p∈line:=fun p hp=>Classical.byContradiction fun hn=>by
    obtain ⟨q',hq⟩:=ale (line:=line) o3 (fun e he=>(etold e he).1) ⟨p,hp,hn⟩;obtain ⟨h1,h2,h3⟩:=gS hq;obtain ⟨k,hk⟩:=jF.mp h1
    have:=(F.2 (k:Int)).mpr ⟨k,q',rfl,hk,h2,h3⟩
    rw [U7] at this
    cases this
   have hsl:=oI tnd run aW;rw [U7];refine iteF ?_
   try walk_at "rd"
   refine ⟨line.length,.inl ⟨_,.of iU,by rw [A7]⟩,ts.length,.inl ⟨_,.of (B7 _ _ ncw.symm bE),by rw [A7]⟩,?_⟩
   try walk_at "rd"
   exact iteD (fun h=>absurd h (by lia)) fun _=>q ln line H7 (S05.free nln5) S07 iU run aW
  rw [show (!(fr.map V.int).isEmpty)=true by cases fr with | nil=>exact absurd rfl U7 | cons=>rfl];refine iteT ⟨fun σ' H'=>∃ (u v:Option V) (line':List Str) (fr:List Int),σ'=[some (.ref a),some (.ref d),some (.ref c),some (.ref w),some (.ref nm),some (.ref f),some (.ref ln),u,v]/\SameBut c H5 H'/\
    H' c=some (.dK (C2 ts fun t=>.int (G4 E line' t:Nat)))/\H' f=some (.lst (fr.map V.int))/\FS ts line' (fun q=>G4 E line' q=0) fr/\H' ln=some (.lst (line'.map V.str))/\S9 E ts line'/\ts.length-line'.length<ts.length-line.length,?_,?_⟩
  .rintro σ' H' ⟨u,v,line',fr',rfl,h1,h2,h3,h4,h5,h6,h7⟩;exact ⟨_,h7,⟨_,_,rfl⟩,h1,line',h2,fr',h3,h4,h5,h6,rfl⟩
  try walk_at "rd"
  refine ⟨fr,qM,U7,fun M hM fJ=>?_⟩;obtain ⟨mm,p,rfl,iV,Z4⟩:=agT F hM fJ;obtain ⟨o5,fE,y3⟩:=gS Z4;have mM:line.length<ts.length:=by
   have h1:(line++[p]).Nodup:=(run.snoc Z4).nodup;have h3:=af5 h1 fun x hx=>(run.snoc Z4).sub hx
   rw [D1,W7] at h3;lia
  have F1:=F.take tnd iV
  try walk_at "rd"
  refine ⟨N4 qM,aoV qM hM ?_⟩;have hwf:w≠f:=fun e=>by rw [e,nf] at bE;cases bE
  have xC:c≠f:=fun e=>by rw [e,nf] at Z3;cases Z3
  have hcl:c≠ln:=fun e=>by rw [e,nln5] at Z3;cases Z3
  have B8:SameBut c H5 (A4 H7 f (.lst ((fr.erase (mm:Int)).map V.int))):=B7.put nf;have qN:A4 H7 f (.lst ((fr.erase (mm:Int)).map V.int)) ln=some (.lst (line.map V.str)):=by rw [A9 x9.symm];exact iU
  have hf8:A4 H7 f (.lst ((fr.erase (mm:Int)).map V.int)) f=some (.lst ((fr.erase (mm:Int)).map V.int)):=A5;have hc8:A4 H7 f (.lst ((fr.erase (mm:Int)).map V.int)) c=some (.dK (C2 ts fun t=>.int (G4 E line t:Nat))):=by rw [A9 xC];exact hc7
  generalize A4 H7 f (.lst ((fr.erase (mm:Int)).map V.int))=H8 at B8 qN hf8 hc8 ⊢
  have atp:J9 (ts.map V.str) (mm:Int)=some (V.str p):=P9 (by rw [V2,iV];rfl);refine ⟨N4 qN,_,.inl (.of (B8 _ _ ncw.symm bE)),V.str p,atp,appOk qN (by rw [A7];exact G7 (by lia)) ?_⟩;have B9:SameBut c H5 (A4 H8 ln (.lst (line.map V.str++[V.str p]))):=B8.put nln5;have hl9:A4 H8 ln (.lst (line.map V.str++[V.str p])) ln=some (.lst ((line++[p]).map V.str)):=by rw [A5,E4];rfl
  have hf9:A4 H8 ln (.lst (line.map V.str++[V.str p])) f=some (.lst ((fr.erase (mm:Int)).map V.int)):=by rw [A9 x9];exact hf8
  have hc9:A4 H8 ln (.lst (line.map V.str++[V.str p])) c=some (.dK (C2 ts fun t=>.int (G4 E line t:Nat))):=by rw [A9 hcl];exact hc8
  generalize A4 H8 ln (.lst (line.map V.str++[V.str p]))=H9 at B9 hl9 hf9 hc9 ⊢
  refine ⟨_,.inl (.of (B9 _ _ ncw.symm bE)),V.str p,atp,V.ref (ad p),.inl ⟨_,Sum.inr p,.inl (B9 _ _ ncd.symm qL),rfl,by rw [O4,if_pos o5]⟩,ad p,rfl,⟨_,.of (B9 _ _ (nac p o5) (iO p o5))⟩,
   forL (xs:=(F7 E p).map V.str) (fun j Y H7=>∃ (x:Option V) (fr:List Int),Y=[some (.ref a),some (.ref d),some (.ref c),some (.ref w),some (.ref nm),some (.ref f),some (.ref ln),some (.int (mm:Int)),x]/\SameBut c H5 H7/\
    H7 c=some (.dK (C2 ts fun t=>.int ((G4 E line t:Nat)-(((F7 E p).take j).count t:Nat))))/\H7 f=some (.lst (fr.map V.int))/\FS ts (line++[p]) (fun q=>G4 E line q=((F7 E p).take j).count q) fr/\H7 ln=some (.lst ((line++[p]).map V.str)))
   ⟨v,_,rfl,B9,?_,hf9,F1.congr fun q=>(by simp),hl9⟩ (by rintro j Y H7 _ ⟨_,_,_,B,_⟩;exact .of (B _ _ (nac p o5) (iO p o5))) ?_ ?_⟩
  .rw [hc9];exact congrArg (fun x=>some (HO.dK x)) (T0 fun t _=>congrArg V.int (by simp))
  .rintro j v5 Y f6 wV ⟨x,fr,rfl,B,o6,fM,F,fN⟩;obtain ⟨y,hy,rfl⟩:=G5 wV;have dC:y∈ts:=by
    have:=L3 hy
    unfold F7 at this;obtain ⟨e,he,rfl⟩:=E2.mp this;exact (etold e (O1.mp he).1).2
   have U6:((F7 E p).take j).count y<G4 E line y:=by
    have h1:=ahu (E:=E) (q:=y) fE;have h2:(F7 E p).count y=((F7 E p).take (j+1)).count y+((F7 E p).drop (j+1)).count y:=by rw [<- List.count_append,q9]
    rw [L9 hy,List.count_append,List.count_singleton,if_pos (by simp)] at h2;lia
   have hyb:y∉line++[p]:=fun hm=>by
    rcases F6.mp hm with hm | hm
    .have:=alp run hm;lia
    .rw [E6.mp hm] at U6;lia
   obtain ⟨my,hmy⟩:=jF.mp dC;have mN:∀ q,((F7 E p).take (j+1)).count q=((F7 E p).take j).count q+if y=q then 1 else 0:=fun q=>by
    rw [L9 hy,List.count_append,List.count_singleton]
    by_cases e:y=q
    .rw [if_pos e,if_pos (by simpa using e)]
    .rw [if_neg e,if_neg (by simpa using e)]
   have turn:=F.turn (z':=fun q=>G4 E line q=((F7 E p).take (j+1)).count q) tnd (y:=y) (fun q hq=>by rw [mN,if_neg (fun e=>hq e.symm),Nat.add_zero]) (by lia) hmy hyb;have Q9:C2 ts (fun t=>V.int (if t=y then (G4 E line y:Nat)-(((F7 E p).take j).count y:Nat)-1 else (G4 E line t:Nat)-(((F7 E p).take j).count t:Nat)))=C2 ts (fun t=>V.int ((G4 E line t:Nat)-(((F7 E p).take (j+1)).count t:Nat))):=T0 fun q _=>by
    rw [mN]
    by_cases e:q=y
    .rw [if_pos e,e,if_pos rfl];exact congrArg V.int (by lia)
    .rw [if_neg e,if_neg (fun z=>e z.symm)];exact congrArg V.int (by lia)
   walk_at "rd";refine ⟨_,.inl ⟨_,Sum.inr y,.inl o6,rfl,by rw [O4,if_pos dC]⟩,_,_,rfl,rfl,_,k8 (k:=Sum.inr y) o6 (by rw [b0];exact G7 (by lia)),?_⟩;have bF:A4 f6 c (.dK (putK (C2 ts fun t=>V.int ((G4 E line t:Nat)-(((F7 E p).take j).count t:Nat))) (Sum.inr y) (V.int ((G4 E line y:Nat)-(((F7 E p).take j).count y:Nat)-1)))) c=some (.dK (C2 ts (fun t=>V.int ((G4 E line t:Nat)-(((F7 E p).take (j+1)).count t:Nat))))):=by
    rw [A5,oJ _ dC,<- Q9];refine congrArg (fun x=>some (HO.dK x)) (T0 fun q _=>?_)
    by_cases e:q=y
    .rw [if_pos e,if_pos e]
    .rw [if_neg e,if_neg e]
   have B11:SameBut c H5 (A4 f6 c (.dK (putK (C2 ts fun t=>V.int ((G4 E line t:Nat)-(((F7 E p).take j).count t:Nat))) (Sum.inr y) (V.int ((G4 E line y:Nat)-(((F7 E p).take j).count y:Nat)-1))))):=B.at;have bG:A4 f6 c (.dK (putK (C2 ts fun t=>V.int ((G4 E line t:Nat)-(((F7 E p).take j).count t:Nat))) (Sum.inr y) (V.int ((G4 E line y:Nat)-(((F7 E p).take j).count y:Nat)-1)))) f=some (.lst (fr.map V.int)):=by rw [A9 xC.symm];exact fM
   have fO:A4 f6 c (.dK (putK (C2 ts fun t=>V.int ((G4 E line t:Nat)-(((F7 E p).take j).count t:Nat))) (Sum.inr y) (V.int ((G4 E line y:Nat)-(((F7 E p).take j).count y:Nat)-1)))) ln=some (.lst ((line++[p]).map V.str)):=by rw [A9 hcl.symm];exact fN
   generalize A4 f6 c (.dK (putK (C2 ts fun t=>V.int ((G4 E line t:Nat)-(((F7 E p).take j).count t:Nat))) (Sum.inr y) (V.int ((G4 E line y:Nat)-(((F7 E p).take j).count y:Nat)-1))))=H11 at bF B11 bG fO ⊢
   refine ⟨V.int ((G4 E line y:Nat)-(((F7 E p).take (j+1)).count y:Nat)),.inl ⟨_,Sum.inr y,.inl bF,rfl,by rw [O4,if_pos dC]⟩,?_⟩
   try walk_at "rd"
   have xD:=frlen F;refine iteD (fun h0=>⟨N4 bG,V.int (ts.idxOf y:Nat),.inl ⟨_,Sum.inr y,.inl (B11 _ _ ncn.symm wY),rfl,by rw [O4,if_pos dC]⟩,appOk bG (by rw [A7];exact G7 (by lia)) ?_⟩) fun h0=>?_
   .refine ⟨B11.put nf,?_,fr++[(my:Int)],?_,turn.1 (by lia),?_⟩
    .rw [A9 xC];exact bF
    .rw [A5,E4,idx hmy];rfl
    .rw [A9 x9.symm];exact fO
   .exact ⟨B11,bF,fr,bG,turn.2 (by lia),fO⟩
  .rintro Y f6 ⟨x,fr,rfl,B,o6,fM,F,fN⟩;rw [A7,K4] at o6 F;have U8:∀ q,G4 E line q=G4 E (line++[p]) q+(F7 E p).count q:=fun q=>ahu (E:=E) (q:=q) fE
   refine ⟨⟨_,_,rfl⟩,B,line++[p],?_,fr,fM,F.congr fun q=>?_,fN,run.snoc Z4,by rw [D1,W7];lia⟩
   .rw [o6];exact congrArg (fun x=>some (HO.dK x)) (T0 fun q _=>congrArg V.int (by have:=U8 q;lia))
   .have:=U8 q
    lia
theorem agr:FnScope ["sign"] ["sign"] (C6 oW):=G8
abbrev ag3:List Str:=["sign"]
theorem vaR:VS ag3 oW "sign" 0:=vq
theorem ags(F:FunD K "is_figure" "is_figure" oW f fd)(T:Txt P w K mg C):FnOk P w K mg base E8 1 f fd ["sign"] gZ:=by
 refine F.ok agr ?_ ?_
 .rintro _ _ _ _ ⟨c,rfl,_⟩;rfl
 .intro cdv A outer s H vs Q E hr h;have C7:=hu_of hr;have hu:=hr.units;refine ⟨_,QSs.out (B5 (E1 (ak1 q_le q_le K0 (vi vaR) K0))),?_⟩;obtain ⟨c,rfl,q⟩:=h;walk_at "rd";have e1:(Str.ofString "0").cps.toList=[48]:=by decide +kernel
  have e2:(Str.ofString "9").cps.toList=[57]:=by decide +kernel
  rw [e1,e2];simp only [aoS];refine iteN (fun h1=>?_) fun h1=>?_
  .have e:figO c=!decide (57<c):=by
    unfold figO;rw [decide_eq_true (by lia:48<=c)]
    by_cases h2:c<=57
    .rw [decide_eq_true h2,decide_eq_false (by lia:¬ 57<c)];rfl
    .rw [decide_eq_false h2,decide_eq_true (by lia:57<c)];rfl
   rw [e] at q;exact q
  .have e:figO c=false:=by unfold figO;rw [decide_eq_false (by lia:¬ 48<=c)];rfl
   rw [e] at q;exact q
theorem ag4:FnScope ["rules", "word"] ["rules", "word"] (C6 kP):=G8
abbrev ais:List Str:=["rules", "word"]
theorem vaS:VS ais kP "rules" 0:=vq
theorem ag5(F:FunD K "has_rule" "has_rule" kP f fd)(T:Txt P w K mg C):FnOk P w K mg base E8 1 f fd ["rules", "word"] (spHas K):=by
 refine F.ok ag4 ?_ ?_
 .rintro _ _ _ _ ⟨a,ts,R,w,rfl,_⟩;rfl
 .intro cdv A outer s H vs Q E hr h;have C7:=hu_of hr;have hu:=hr.units;refine ⟨_,QSs.out (B5 (E1 (qe_cB (q_any (calm:=true)) T.b_any alK (qa_c (Y6  (R3:CompOk ["rules", "word"] (C6 kP).names _ ["rule", "word"] 1 [1]) (M9 (K:=K) (vi vaS)) (fun _ _ _ _ _=>D7 (n:=0) (show List.Nodup (["rule", "word"]:List Str) by decide +kernel) rfl (Or.inl rfl)) (fun _ _ _ _ _=>eN) (fun _ _ _ _ _=>(jZ (q_eq (K:=K) hu) (qe_ix (K:=K) (qv 0) A8) (qv 1)))) A6)))),?_⟩;obtain ⟨a,ts,R,w,rfl,hR,hl,q⟩:=h;walk_at "rd";refine ⟨⟨_,.of hR.top⟩,compL (xs:=ts.map V.ref) [some (.str w)] rfl (fun D i ys H4=>ys=((R.take i).map fun z=>decide (z.1=w)).map V.bl/\Same H H4) (fun D nD=>⟨rfl,Same.new nD⟩) (by rintro D i ys H4 nD _ ⟨_,S⟩;exact .of (S _ _ hR.top)) ?_ ?_⟩
  .rintro D i x ys H4 nD hi hx ⟨rfl,S⟩ hD hy;obtain ⟨t,ht,rfl⟩:=G5 hx;obtain ⟨z,hz,C8⟩:=Paired.at hR.row ht;have dA:i<R.length:=(G9.mp hz).1;walk_at "rd";refine ⟨_,.inr (.of (S _ _ C8)),V.str z.1,N5 _ _,?_⟩;walk_at "rd";refine ⟨hD,by rw [A7,A7,K5];exact G7 (by lia),CW.put hi hy ⟨?_,S.put nD⟩⟩;rw [U0,hz]
   simp
  rintro D ys H4 nD ⟨rfl,S⟩ hD hy;rw [A7,hR.len,K4] at hD;refine ⟨_,rfl,hD,?_⟩;have e:((R.map fun z=>decide (z.1=w)).any id)=hasW R w:=by
   unfold hasW;rw [List.any_map];rfl
  rw [e];exact q H4 S
theorem aez:FnScope ["rule"] ["rule"] (C6 oX):=G8
abbrev afx:List Str:=["rule"]
theorem iD:VS afx oX "rule" 0:=vq
theorem aeA(F:FunD K "pieces_told" "pieces_told" oX f fd)(T:Txt P w K mg C):FnOk P w K mg base E8 1 f fd ["rule"] (ajA K):=by
 refine F.ok aez ?_ ?_
 .rintro _ _ _ _ ⟨t,z,rfl,_⟩;rfl
 .intro cdv A outer s H vs Q E hr h;have C7:=hu_of hr;have hu:=hr.units;obtain ⟨a_JOBS,m_JOBS,M_JOBS⟩:=T.x_JOBS;refine ⟨_,QSs.out (B1 (qs_if (D8 (q_eq (K:=K) hu) (qe_ix (K:=K) (vi iD) A8) K0) (B5 (E1 (Q0 (K:=K) (vi iD) (M7 A8) X4))) J8)
   (B1 (qs_if (D8 (q_eq (K:=K) hu) (qe_ix (K:=K) (vi iD) A8) K0) (B5 (E1 (Q0 (K:=K) (vi iD) (M7 A8) (M7 A8)))) J8)
   (B5 (E1 (kA (D8 (q_inM M_JOBS) (qe_ix (K:=K) (vi iD) A8) (eK m_JOBS)) (Q0 (K:=K) (vi iD) (M7 A8) X4) (L8 A6)))))),?_⟩
  obtain ⟨t,z,rfl,ht,q⟩:=h;have hT:C9 K H t ((z.1::z.2).map V.str):=.of ht;have C1:1<=((z.1::z.2).map V.str).length:=by rw [A7,F8];lia
  walk_at "rd";refine ⟨_,.inr hT,V.str z.1,N5 _ _,?_⟩;walk_at "rd";refine iteD (fun e=>?_) fun n1=>⟨_,.inr hT,V.str z.1,N5 _ _,?_⟩
  .refine rSlR.t hT (b9 (k:=2) (by decide) C1) fun p np=>q p _ (Same.new np) (.of ?_)
   rw [A5,show ((2:Int))=((2:Nat):Int) from rfl,cH,G6,jH,<- bT];unfold O5;rw [if_pos e]
  walk_at "rd";refine iteD (fun e=>?_) fun n2=>⟨_,.inr hT,V.str z.1,N5 _ _,?_⟩
  .refine rSlR.t hT (b9 (k:=1) (by decide) C1) fun p np=>q p _ (Same.new np) (.of ?_)
   have ecut:cutV ((z.1::z.2).map V.str) (some 1) (some 2)=(z.2.take 1).map V.str:=by
    unfold cutV
    cases z.2 with
    | nil=>rfl
    | cons y r=>
     have e1:HT.sIx ((z.1::y::r).map V.str).length 0 (some 1)=1:=by
      rw [show ((1:Int))=((1:Nat):Int) from rfl,HT.sIx_nat,A7,F8,F8];lia
     have e2:HT.sIx ((z.1::y::r).map V.str).length ((z.1::y::r).map V.str).length (some 2)=2:=by
      rw [show ((2:Int))=((2:Nat):Int) from rfl,HT.sIx_nat,A7,F8,F8];lia
     rw [e1,e2];rfl
   rw [A5,ecut];unfold O5;rw [if_neg n1,if_pos e]
  walk_at "rd"
  by_cases hj:eQ z.1
  .rw [tE hj];refine iteT (rSlR.t hT (b9 (k:=1) (by decide) C1) fun p np=>q p _ (Same.new np) (.of ?_));rw [A5,G6,oE];unfold O5;have h3:z.1=("row" : Str)\/z.1=("marks" : Str)\/z.1=("over" : Str):=by
    rcases hj with h | h | h | h | h
    .exact .inl h
    .exact .inr (.inl h)
    .exact absurd h n1
    .exact absurd h n2
    .exact .inr (.inr h)
   rw [if_neg n1,if_neg n2,if_pos h3]
  .rw [alj hj];refine iteF fun p np=>q p _ (Same.new np) (.of ?_)
   rw [A5];unfold O5;rw [if_neg n1,if_neg n2,if_neg (fun h=>hj (by
    rcases h with h | h | h
    .exact .inl h
    .exact .inr (.inl h)
    .exact .inr (.inr (.inr (.inr h)))))]
   rfl
theorem ag6:FnScope ["jobs", "piece", "job", "figures"] ["jobs", "piece", "job", "figures"] (C6 cL):=G8
abbrev pE:List Str:=["jobs", "piece", "job", "figures"]
theorem vaU:VS pE cL "jobs" 0:=vq
theorem uQ:VS pE cL "piece" 1:=vq
theorem vaW:VS pE cL "job" 2:=vq
theorem vaX:VS pE cL "figures" 3:=vq
theorem ag7(F:FunD K "is_clash" "is_clash" cL f fd)(T:Txt P w K mg C)(G_is_figure:FO P w K mg base 1 "is_figure" ["sign"] [] gZ):FnOk P w K mg base E8 2 f fd ["jobs", "piece", "job", "figures"] ajB:=by
 refine F.ok ag6 ?_ ?_
 .rintro _ _ _ _ ⟨d,p,j,fg,ks,g,rfl,_⟩;rfl
 .intro cdv A outer s H vs Q E hr h;have C7:=hu_of hr;have hu:=hr.units;obtain ⟨a_AGAIN,m_AGAIN,M_AGAIN⟩:=T.x_AGAIN;refine ⟨_,QSs.out (B1 (qs_if (QW.pt (kC (D8 (q_in (K:=K) hu) (vi uQ) (vi vaU)) (kB (QW.pt (qw_or (D8 (q_ne (K:=K) hu) (Y5 C7 (vi vaU) (vi uQ)) (vi vaW)) (cE (D8 (eO (K:=K) hu) (vi vaW) (eK m_AGAIN)))))))) (B5 (E1 qe_bl)) J8)
   (B5 (E1 (aoE (vi vaX) (aoD (qe_cB (q_any (calm:=true)) T.b_any alK (qa_c (Y6  (R3:CompOk ["jobs", "piece", "job", "figures"] (C6 cL).names _ ["sign"] 1 []) (aoF (vi uQ)) (fun _ _ _ _ _=>D7 (n:=0) (show List.Nodup (["sign"]:List Str) by decide +kernel) rfl (Or.inl rfl)) (fun _ _ _ _ _=>eN) (fun _ _ _ _ _=>(F9 G_is_figure (hm hr) (qa_c (qv 0) A6)))) A6))))))),?_⟩
  obtain ⟨d,p,j,fg,ks,g,rfl,hd,hp,h1,h2,q⟩:=h;walk_at "rd";have tail:(if fg=true then cD (gJ p) 1 [] (gName 0) tYes (tCall gZ [] E0 (tCons (tVar 0) tNil)) [some (V.ref d),some (V.str p),some (V.str j),some (V.bl fg)] (fun x H1=>rAnyB true [x] H1 Q) H else Q (V.bl false) H):=by
   by_cases hf:fg=true
   .rw [if_pos hf];refine compS [] rfl (fun D i ys H4=>ys=((p.cps.toList.take i).map figO).map V.bl/\Same H H4) (fun D nD=>⟨rfl,Same.new nD⟩) ?_ ?_
    .rintro D i x ys H4 nD hi hx ⟨rfl,S⟩ hD hy;walk_at "rd";refine ⟨x,rfl,hD,?_,CW.put hi hy ⟨?_,S.put nD⟩⟩
     .rw [A7,A7,K5];exact G7 (by have:p.cps.size=p.length:=rfl;lia)
     .rw [U0,hx]
      simp
    .rintro D ys H4 nD ⟨rfl,S⟩ hD hy;walk_at "rd";refine ⟨_,hD,?_⟩;have e:((p.cps.toList.take p.cps.size).map figO).any id=false:=by
      rw [List.any_eq_false];intro b hb;obtain ⟨c,hc,rfl⟩:=E2.mp hb;rw [h2 hf c (dP hc)];decide
     rw [e];exact q H4 S
   .rw [if_neg hf];exact q H (Same.refl H)
  refine rInR.d (Y2 (k:=Sum.inr p) hd) ⟨_,rfl,?_⟩;rw [O4,aA]
  by_cases hk:p∈ks
  .obtain ⟨e1,e2⟩:=h1 hk;rw [if_pos hk];refine iteT ⟨V.str (g p),.inl ⟨_,Sum.inr p,.inl hd,rfl,by rw [O4,if_pos hk]⟩,?_⟩;walk_at "rd";rw [decide_eq_true e1];refine iteF (rInR.l (.inr (M_AGAIN _)) rfl rfl ⟨_,rfl,?_⟩);have e3:cB (.str j) [V.str "letter",V.str "mark",V.str "over"]=true:=by
    have:=jY j gU
    rw [decide_eq_true e2] at this;exact this
   rw [e3];exact iteF tail
  .rw [if_neg hk];exact iteF tail
theorem sc_jobs_of:FnScope ["rules", "figures", "jobs", "rule", "piece"] ["rules"] (C6 i5):=G8
abbrev kZ:List Str:=["rules", "figures", "jobs", "rule", "piece"]
theorem uR:VS kZ i5 "rules" 0:=vq
theorem vaZ:VS kZ i5 "figures" 1:=vq
theorem pF:VS kZ i5 "jobs" 2:=vq
theorem uS:VS kZ i5 "rule" 3:=vq
theorem va2:VS kZ i5 "piece" 4:=vq
theorem va3:LS i5 "figures":=lq
theorem va4:LS i5 "jobs":=lq
theorem va5:LS i5 "rule":=lq
theorem va6:LS i5 "piece":=lq
theorem ait(F:FunD K "jobs_of" "jobs_of" i5 f fd)(T:Txt P w K mg C)(G_has_rule:FO P w K mg base 1 "has_rule" ["rules", "word"] [] (spHas K))(G_pieces_told:FO P w K mg base 1 "pieces_told" ["rule"] [] (ajA K))(G_is_clash:FO P w K mg base 2 "is_clash" ["jobs", "piece", "job", "figures"] [] ajB):FnOk P w K mg base E8 3 f fd ["rules"] (alS K):=by
 refine F.ok sc_jobs_of ?_ ?_
 .rintro _ _ _ _ ⟨a,ts,R,g,rfl,_⟩;rfl
 .intro cdv A outer s H vs Q E hr h;have C7:=hu_of hr;have hu:=hr.units;obtain ⟨a_JOBS,m_JOBS,M_JOBS⟩:=T.x_JOBS;refine ⟨_,QSs.out (B1 (D6 (n:=1) sc_jobs_of.nd rfl va3 (F9 G_has_rule (hm hr) (qa_c (vi uR) (qa_c K0 A6))))
   (B1 (D6 (n:=2) sc_jobs_of.nd rfl va4 aK)
   (B1 (M8 PassesOwn.never (M9 (K:=K) (vi uR)) (D7 (n:=3) sc_jobs_of.nd rfl va5 (.inl rfl)) (B5 (M8 PassesOwn.never (cF (K:=K) (F9 G_pieces_told (hm hr) (qa_c (vi uS) A6))) (D7 (n:=4) sc_jobs_of.nd rfl va6 (.inl rfl)) (B1 (qs_if (X5 (K:=K) (F9 G_is_clash (hm hr) (qa_c (vi pF) (qa_c (vi va2) (qa_c (oB M_JOBS (eK m_JOBS) (qe_ix (K:=K) (vi uS) A8)) (qa_c (vi vaZ) A6)))))) (B5 nZ) J8)
   (B5 (i0 C7 (vi pF) (vi va2) (oB M_JOBS (eK m_JOBS) (qe_ix (K:=K) (vi uS) A8))))))))
   (B1 (qs_if (X5 (K:=K) (F9 G_has_rule (hm hr) (qa_c (vi uR) (qa_c K0 A6)))) (B5 (i0 C7 (vi pF) K0 K0)) J8)
   (B5 (E1 (vi pF))))))),?_⟩
  obtain ⟨a,ts,R,g,rfl,hR,hl,R8,hnc,hbl,q⟩:=h;walk_at "rd";refine ⟨a,ts,R, "figures",rfl,hR,hl,fun H1 S1=>?_⟩;generalize hasW R "figures"=fg at hnc;intro d nd;have qO:H d=none:=S1.free nd;have S2:Same H (A4 H1 d (.dK [])):=fun b o h=>B3 (S1 b o h) nd
  refine ⟨⟨_,.of (S2 _ _ hR.top)⟩,forL (xs:=ts.map V.ref) (fun i Y H2=>∃ (u v:Option V),Y=[some (.ref a),some (.bl fg),some (.ref d),u,v]/\Same H H2/\H2 d=some (.dK (C2 (keysP (D4 (R.take i))) fun t=>.str (g t))))
   ⟨none,none,rfl,S2,by rw [A5];rfl⟩ (by rintro i Y H2 _ ⟨_,_,_,S,_⟩;exact .of (S _ _ hR.top)) ?_ ?_⟩
  .rintro i x Y H2 hx ⟨u,v,rfl,S,hd⟩;obtain ⟨t,ht,rfl⟩:=G5 hx;obtain ⟨z,hz,C8⟩:=Paired.at hR.row ht;walk_at "rd";refine ⟨t,z,rfl,S _ _ C8,fun p H3 S3 hp=>⟨p,rfl,⟨_,hp⟩,forT (xs:=(O5 z).map V.str) (fun j Y H4=>∃ (v:Option V),Y=[some (.ref a),some (.bl fg),some (.ref d),some (.ref t),v]/\C9 K H4 p ((O5 z).map V.str)/\Same H H4/\H4 d=some (.dK (C2 (keysP (D4 (R.take i)++((O5 z).take j).map fun p=>(p,jobD z.1))) fun t=>.str (g t))))
    ⟨v,rfl,hp,S.trans S3,by rw [bR,List.map_nil,L7];exact S3 _ _ hd⟩ (by rintro j Y H4 _ ⟨_,_,h,_⟩;exact h) ?_ ?_⟩⟩
   .rintro j x Y H4 iW ⟨v,rfl,mK,S4,T9⟩;obtain ⟨pc,iX,rfl⟩:=G5 iW;obtain ⟨e1,e2⟩:=aoR hz iX;obtain ⟨n1,n2,n3,n4⟩:=hnc _ _ _ e1;rw [e2] at n2;have hw:=kJ (L3 iX);have U9:C9 K H4 t ((z.1::z.2).map V.str):=.of (S4 _ _ C8);have W5:(keysP (D4 (R.take i)++((O5 z).take j).map fun p=>(p,jobD z.1))).length<=10000:=by
     have h1:=af7 (D4 (R.take i)++((O5 z).take j).map fun p=>(p,jobD z.1));have h2:=congrArg X9 e2;rw [K5] at h2;lia
    walk_at "rd";refine ⟨_,.inr U9,V.str z.1,N5 _ _,Sum.inr z.1,rfl,V.str (jobD z.1),tE hw,d,pc,jobD z.1,fg,_,g,rfl,T9,n4,fun hk=>⟨n1.symm,n2 ((kI _ _).mp hk)⟩,n3,fun H5 S5=>⟨false,rfl,iteF ⟨_,.inr (U9.same S5),V.str z.1,N5 _ _,Sum.inr z.1,rfl,V.str (jobD z.1),tE hw,_,k8 (k:=Sum.inr pc) (S5 _ _ T9) (by rw [b0];exact G7 (by lia)),(mK.same S5).dput (S5 _ _ T9),(S4.trans S5).put qO,?_⟩⟩⟩;rw [A5,L9 iX,E4,<- U1];rw [show ([pc].map fun p=>(p,jobD z.1))=[(pc,jobD z.1)] from rfl,aia];unfold dd
    by_cases M0:pc∈keysP (D4 (R.take i)++((O5 z).take j).map fun p=>(p,jobD z.1))
    .rw [if_pos M0,oJ _ M0];refine congrArg (fun x=>some (HO.dK x)) (T0 fun t _=>?_)
     by_cases e:t=pc
     .rw [if_pos e,e,n1]
     .rw [if_neg e]
    .rw [if_neg M0,aN _ M0];refine congrArg (fun x=>some (HO.dK x)) (T0 fun t _=>?_)
     by_cases e:t=pc
     .rw [if_pos e,e,n1]
     .rw [if_neg e]
   .rintro Y H4 ⟨v,rfl,mK,S4,T9⟩;walk_at "rd";refine ⟨S4,?_⟩;rw [aeT hz];rw [A7,K4] at T9;exact T9
  .rintro Y H2 ⟨u,v,rfl,S,hd⟩;rw [A7,hR.len,K4] at hd;walk_at "rd";refine ⟨a,ts,R, "blanks",rfl,hR.same S,hl,fun H3 S3=>⟨hasW R "blanks",rfl,?_⟩⟩;have P3:=S3 _ _ hd;have hkn:(" " : Str)∉keysP (D4 R):=fun h=>hbl ((kI _ _).mp h)
   have W5:=af7 (D4 R);have hg:∀ t∈keysP (D4 R),V.str (g t)=jobG g t:=fun t ht=>by
    unfold jobG;rw [if_neg (fun e=>hkn (by rw [<- e];exact ht))]
   by_cases hb:hasW R "blanks"=true
   .rw [hb];refine iteT ⟨_,k8 (k:=Sum.inr (" " : Str)) P3 (by rw [b0];exact G7 (by lia)),q d _ qO ((S.trans S3).put qO) ?_⟩;rw [A5,aN _ hkn];unfold Y7;rw [if_pos hb];refine congrArg (fun x=>some (HO.dK x)) (T0 fun t ht=>?_);unfold jobG
    by_cases e:t=(" " : Str)
    .simp only [if_pos e]
    .simp only [if_neg e]
   .rw [jJ] at hb;rw [hb];refine iteF (q d _ qO (S.trans S3) ?_);unfold Y7;rw [hb,if_neg K7,L7,P3];exact congrArg (fun x=>some (HO.dK x)) (T0 hg)
theorem sc_misused:FnScope ["rule", "jobs", "first"] ["rule", "jobs"] (C6 aO):=G8
abbrev agt:List Str:=["rule", "jobs", "first"]
theorem lA:VS agt aO "rule" 0:=vq
theorem va8:VS agt aO "first" 2:=vq
theorem va9:LS aO "first":=lq
theorem aiu(F:FunD K "misused" "misused" aO f fd)(T:Txt P w K mg C):FnOk P w K mg base E8 1 f fd ["rule", "jobs"] (alW K):=by
 refine F.ok sc_misused ?_ ?_
 .rintro _ _ _ _ ⟨t,d,z,ks,g,rfl,_⟩;rfl
 .intro cdv A outer s H vs Q E hr h;have C7:=hu_of hr;have hu:=hr.units;refine ⟨_,QSs.out (B1 (qs_if (D8 (q_eq (K:=K) hu) (qe_ix (K:=K) (vi lA) A8) K0) (B5 (E1 (Y6  (R3:CompOk ["rule", "jobs", "first"] (C6 aO).names _ ["piece", "jobs"] 1 [1]) (cF (K:=K) (Q0 (K:=K) (vi lA) (M7 A8) (M7 A8))) (fun _ _ _ _ _=>D7 (n:=0) (show List.Nodup (["piece", "jobs"]:List Str) by decide +kernel) rfl (Or.inl rfl)) (fun _ _ _ _ _=>(Z8 (D8 (q_ne (K:=K) hu) (oN C7 (qv 1) (qv 0)) K0))) (fun _ _ _ _ _=>(qv 0))))) J8)
   (B1 (qs_if (D8 (q_eq (K:=K) hu) (qe_ix (K:=K) (vi lA) A8) K0) (B1 (gP (n:=2) sc_misused.nd rfl va9 (R3:CompOk ["rule", "jobs", "first"] (C6 aO).names _ ["piece", "jobs"] 1 [1]) (cF (K:=K) (Q0 (K:=K) (vi lA) (M7 A8) (M7 A8))) (fun _ _ _ _ _=>D7 (n:=0) (show List.Nodup (["piece", "jobs"]:List Str) by decide +kernel) rfl (Or.inl rfl)) (fun _ _ _ _ _=>(Z8 (D8 (q_ne (K:=K) hu) (oN C7 (qv 1) (qv 0)) K0))) (fun _ _ _ _ _=>(qv 0)))
   (B5 (E1 (qe_op (q_add (K:=K)) (vi va8) (Y6  (R3:CompOk ["rule", "jobs", "first"] (C6 aO).names _ ["piece", "jobs"] 1 [1]) (cF (K:=K) (Q0 (K:=K) (vi lA) (M7 A8) X4)) (fun _ _ _ _ _=>D7 (n:=0) (show List.Nodup (["piece", "jobs"]:List Str) by decide +kernel) rfl (Or.inl rfl)) (fun _ _ _ _ _=>(Z8 (D8 (eO (K:=K) hu) (oN C7 (qv 1) (qv 0)) (L8 (qa_c K0 (qa_c K0 A6)))))) (fun _ _ _ _ _=>(qv 0))))))) J8)
   (B5 (E1 (N9 A6))))),?_⟩
  obtain ⟨t,d,z,ks,g,rfl,ht,hd,us,hl,q⟩:=h;have hT:C9 K H t ((z.1::z.2).map V.str):=.of ht;walk_at "rd";refine ⟨_,.inr hT,V.str z.1,N5 _ _,?_⟩;walk_at "rd"
  by_cases h1:z.1=("great" : Str)
  .rw [decide_eq_true h1];have C1:1<=((z.1::z.2).map V.str).length:=by rw [A7,F8];lia
   refine iteT (rSlR.t hT (b9 (k:=1) (by decide) C1) fun s ns=>?_);have ecut:cutV ((z.1::z.2).map V.str) (some 1) (some 2)=(z.2.take 1).map V.str:=by
    rw [show cutV ((z.1::z.2).map V.str) (some 1) (some 2)=_ from tM ((z.1::z.2).map V.str) (i:=1) (j:=2) (by decide),G6,jH,List.drop_zero,<- bS]
   rw [ecut];have S1:Same H (A4 H s (.tup ((z.2.take 1).map V.str))):=Same.new ns;have hs:A4 H s (.tup ((z.2.take 1).map V.str)) s=some (.tup ((z.2.take 1).map V.str)):=A5;generalize A4 H s (.tup ((z.2.take 1).map V.str))=H1 at S1 hs;refine ⟨s,rfl,⟨_,.of hs⟩,compT (xs:=(z.2.take 1).map V.str) [some (.ref d)] rfl (fun D i ys H2=>ys=[]/\Same H1 H2) (fun D nD=>⟨rfl,Same.new nD⟩) (by rintro D i ys H2 nD _ ⟨_,S⟩;exact .of (S _ _ hs)) ?_ ?_⟩
   .rintro D i y ys H2 nD hi hy ⟨rfl,S⟩ hD T4;obtain ⟨p,hp,rfl⟩:=G5 hy;obtain ⟨m1,m2⟩:=us.gr h1 p (L3 hp);have W4:=S _ _ (S1 _ _ hd);walk_at "rd";refine ⟨.inl ⟨_,.inl W4⟩,_,Y2 (k:=Sum.inr p) W4,?_⟩;rw [O4,if_pos m1,Option.getD_some,m2];refine ⟨_,rfl,?_⟩;rw [show ∀ v:Str,(!decide (v=v))=false by intro v;simp];exact iteF ⟨hD,hi,K1 _,⟨_,rfl⟩,rfl,S⟩
   .rintro D ys H2 nD ⟨rfl,S⟩ hD T4;exact q D H2 (S1.free nD) (S1.trans S) hD
  rw [decide_eq_false h1];refine iteF ⟨_,.inr hT,V.str z.1,N5 _ _,?_⟩;walk_at "rd"
  by_cases h2:z.1=("as" : Str)
  .rw [decide_eq_true h2];have C1:1<=((z.1::z.2).map V.str).length:=by rw [A7,F8];lia
   refine iteT (rSlR.t hT (b9 (k:=2) (by decide) C1) fun s ns=>?_);have ecut:cutV ((z.1::z.2).map V.str) (some 2) (some 3)=((z.2.drop 1).take 1).map V.str:=by
    rw [show cutV ((z.1::z.2).map V.str) (some 2) (some 3)=_ from tM ((z.1::z.2).map V.str) (i:=2) (j:=3) (by decide),G6,jH,<- bT,<- bS]
   rw [ecut];have S1:Same H (A4 H s (.tup (((z.2.drop 1).take 1).map V.str))):=Same.new ns;have hs:A4 H s (.tup (((z.2.drop 1).take 1).map V.str)) s=some (.tup (((z.2.drop 1).take 1).map V.str)):=A5;generalize A4 H s (.tup (((z.2.drop 1).take 1).map V.str))=H1 at S1 hs;refine ⟨s,rfl,⟨_,.of hs⟩,compT (xs:=((z.2.drop 1).take 1).map V.str) [some (.ref d)] rfl (fun D i ys H2=>ys=[]/\Same H1 H2) (fun D nD=>⟨rfl,Same.new nD⟩) (by rintro D i ys H2 nD _ ⟨_,S⟩;exact .of (S _ _ hs)) ?_ ?_⟩
   .rintro D i y ys H2 nD hi hy ⟨rfl,S⟩ hD T4;obtain ⟨p,hp,rfl⟩:=G5 hy;obtain ⟨m1,m2⟩:=us.a1 h2 p (L3 hp);have W4:=S _ _ (S1 _ _ hd);walk_at "rd";refine ⟨.inl ⟨_,.inl W4⟩,_,Y2 (k:=Sum.inr p) W4,?_⟩;rw [O4,if_pos m1,Option.getD_some,m2];refine ⟨_,rfl,?_⟩;rw [show ∀ v:Str,(!decide (v=v))=false by intro v;simp];exact iteF ⟨hD,hi,K1 _,⟨_,rfl⟩,rfl,S⟩
   rintro D ys H2 nD ⟨rfl,S⟩ hD T4;have S2:=S1.trans S;have hT2:C9 K H2 t ((z.1::z.2).map V.str):=.of (S2 _ _ ht);refine rSlR.t hT2 (b9 (k:=3) (by decide) C1) fun s2 ns2=>?_
   have ecut2:cutV ((z.1::z.2).map V.str) (some 3) none=(z.2.drop 2).map V.str:=by
    rw [show cutV ((z.1::z.2).map V.str) (some 3) none=_ from cH ((z.1::z.2).map V.str) 3,G6,jH,<- bT]
   rw [ecut2];have S3:Same H2 (A4 H2 s2 (.tup ((z.2.drop 2).map V.str))):=Same.new ns2;have iM:A4 H2 s2 (.tup ((z.2.drop 2).map V.str)) s2=some (.tup ((z.2.drop 2).map V.str)):=A5;generalize A4 H2 s2 (.tup ((z.2.drop 2).map V.str))=H3 at S3 iM;refine ⟨s2,rfl,⟨_,.of iM⟩,compT (xs:=(z.2.drop 2).map V.str) [some (.ref d)] rfl (fun D i ys H4=>ys=[]/\Same H3 H4) (fun D nD=>⟨rfl,Same.new nD⟩) (by rintro D i ys H4 nD _ ⟨_,S⟩;exact .of (S _ _ iM)) ?_ ?_⟩
   .rintro D2 i y ys H4 nD2 hi hy ⟨rfl,S4⟩ hD2 xE;obtain ⟨p,hp,rfl⟩:=G5 hy;obtain ⟨m1,m2⟩:=us.a2 h2 p (L3 hp);have T9:=S4 _ _ (S3 _ _ (S2 _ _ hd));walk_at "rd";refine ⟨.inl ⟨_,.inl T9⟩,_,Y2 (k:=Sum.inr p) T9,?_⟩;rw [O4,if_pos m1,Option.getD_some];refine ⟨by decide,fun v nv=>?_⟩;have fin:cB (g p) [V.str (Str.ofString "letter"),V.str (Str.ofString "mark")]=true/\flatV (g p)=true:=by
     rcases m2 with m2 | m2 <;> rw [m2] <;> exact ⟨by decide +kernel,rfl⟩
    refine rInR.l (.inr (.of A5)) fin.2 rfl ?_;rw [fin.1,Bool.true_xor];exact ⟨_,rfl,iteF ⟨B3 hD2 nv,hi,K1 _,⟨_,rfl⟩,rfl,S4.trans (Same.new nv)⟩⟩
   rintro D2 ys H4 nD2 ⟨rfl,S4⟩ hD2 xE;have hD4:=S4 _ _ (S3 _ _ hD);refine rAddR.l hD4 hD2 (by decide) fun l nl=>?_
   exact q l _ ((S2.trans (S3.trans S4)).free nl) ((S2.trans (S3.trans S4)).trans (Same.new nl)) A5
  rw [decide_eq_false h2];exact iteF fun p np=>q p _ np (Same.new np) A5
theorem sc_check_letters:FnScope ["rules", "jobs", "rule", "wrong"] ["rules", "jobs"] (C6 aP):=G8
abbrev pG:List Str:=["rules", "jobs", "rule", "wrong"]
theorem vba:VS pG aP "rules" 0:=vq
theorem vbb:VS pG aP "jobs" 1:=vq
theorem vbc:VS pG aP "rule" 2:=vq
theorem vbd:VS pG aP "wrong" 3:=vq
theorem vbe:LS aP "rule":=lq
theorem vbf:LS aP "wrong":=lq
theorem adQ(F:FunD K "check_letters" "check_letters" aP f fd)(T:Txt P w K mg C)(G_misused:FO P w K mg base 1 "misused" ["rule", "jobs"] [] (alW K)):FnOk P w K mg base E8 2 f fd ["rules", "jobs"] (ahA K):=by
 refine F.ok sc_check_letters ?_ ?_
 .rintro _ _ _ _ ⟨a,d,ts,R,ks,g,rfl,_⟩;rfl
 .intro cdv A outer s H vs Q E hr h;have C7:=hu_of hr;have hu:=hr.units;refine ⟨_,QSs.out (B5 (M8 PassesOwn.never (M9 (K:=K) (vi vba)) (D7 (n:=2) sc_check_letters.nd rfl vbe (.inl rfl)) (B1 (D6 (n:=3) sc_check_letters.nd rfl vbf (F9 G_misused (hm hr) (qa_c (vi vbc) (qa_c (vi vbb) A6))))
   (B5 (qs_if (X5 (K:=K) (vi vbd)) (B5 nZ) J8))))),?_⟩
  obtain ⟨a,d,ts,R,ks,g,rfl,hR,hd,hw,q⟩:=h;walk_at "rd";refine ⟨⟨_,.of hR.top⟩,forL (xs:=ts.map V.ref) (fun i Y H2=>∃ (u v:Option V),Y=[some (.ref a),some (.ref d),u,v]/\Same H H2) ⟨none,none,rfl,Same.refl H⟩ (by rintro i Y H2 _ ⟨_,_,_,S⟩;exact .of (S _ _ hR.top)) ?_ ?_⟩
  .rintro i x Y H2 hx ⟨u,v,rfl,S⟩;obtain ⟨t,ht,rfl⟩:=G5 hx;obtain ⟨z,hz,C8⟩:=Paired.at hR.row ht;obtain ⟨n1,n2⟩:=hw z (L3 hz);walk_at "rd";refine ⟨t,d,z,ks,g,rfl,S _ _ C8,S _ _ hd,n1,n2,fun p H3 np S3 hp=>⟨_,gR hp,iteF (S.trans S3)⟩⟩
  .rintro Y H2 ⟨u,v,rfl,S⟩;exact q H2 S
theorem aiv:FnScope ["rules", "word"] ["rules", "word"] (C6 kQ):=G8
abbrev akh:List Str:=["rules", "word"]
theorem vbg:VS akh kQ "rules" 0:=vq
theorem aiw(F:FunD K "line_of" "line_of" kQ f fd)(T:Txt P w K mg C)(G_lined_up:FO P w K mg base 3 "lined_up" ["rows"] [] ajv):FnOk P w K mg base E8 4 f fd ["rules", "word"] (alT K):=by
 refine F.ok aiv ?_ ?_
 .rintro _ _ _ _ ⟨a,ts,R,w,rank,rfl,_⟩;rfl
 .intro cdv A outer s H vs Q E hr h;have C7:=hu_of hr;have hu:=hr.units;refine ⟨_,QSs.out (B5 (E1 (F9 G_lined_up (hm hr) (qa_c (Y6  (R3:CompOk ["rules", "word"] (C6 kQ).names _ ["rule", "word"] 1 [1]) (M9 (K:=K) (vi vbg)) (fun _ _ _ _ _=>D7 (n:=0) (show List.Nodup (["rule", "word"]:List Str) by decide +kernel) rfl (Or.inl rfl)) (fun _ _ _ _ _=>(Z8 (D8 (q_eq (K:=K) hu) (qe_ix (K:=K) (qv 0) A8) (qv 1)))) (fun _ _ _ _ _=>(qe_cT (Z9 (K:=K) (calm:=true)) T.b_list Y3 (qa_c (Q0 (K:=K) (qv 0) (M7 A8) X4) A6)))) A6)))),?_⟩;obtain ⟨a,ts,R,w,rank,rfl,hR,hl,x9,o3,q⟩:=h;walk_at "rd";refine ⟨⟨_,.of hR.top⟩,compL (xs:=ts.map V.ref) [some (.str w)] rfl (fun D i ys H4=>∃ qs:List Addr,ys=qs.map V.ref/\RowsAt H H4 D qs (rowsW (R.take i) w)) (fun D nD=>⟨[],rfl,⟨⟨A5,.nil⟩,by simp,fun r hr=>by rw [E6.mp hr];exact nD,Same.new nD⟩⟩)
   (by rintro D i ys H4 nD _ ⟨qs,_,RA⟩;exact .of (RA.same _ _ hR.top)) ?_ ?_⟩
  .rintro D i x ys H4 nD hi hx ⟨qs,rfl,RA⟩ hD hy;obtain ⟨t,ht,rfl⟩:=G5 hx;obtain ⟨z,hz,C8⟩:=Paired.at hR.row ht;have dA:i<R.length:=(G9.mp hz).1;have U9:C9 K H4 t ((z.1::z.2).map V.str):=.of (RA.same _ _ C8);have C1:1<=((z.1::z.2).map V.str).length:=by rw [A7,F8];lia
   walk_at "rd";refine ⟨_,.inr U9,V.str z.1,N5 _ _,?_⟩;walk_at "rd";refine iteD (fun e=>rSlR.t U9 (b9 (k:=1) (by decide) C1) fun p np=>?_) fun e=>⟨hD,jV hi hy ⟨qs,rfl,?_⟩⟩
   .rw [G6,oE];walk_at "rd";refine rListR.l (.inr (.of A5)) fun p2 dE=>⟨B3 (B3 hD np) dE,?_,CW.put hi hy ⟨qs++[p2],by rw [E4];rfl,?_⟩⟩
    .rw [A7] at hy;rw [A7];exact G7 (by lia)
    .rw [aeU hz,if_pos e];have n2:H4 p2=none:=(Same.new np).free dE;exact RA.grow (fun b o h=>B3 (B3 h np) dE) n2 A5
   .rw [aeU hz,if_neg e];exact RA
  rintro D ys H4 nD ⟨qs,rfl,RA⟩ hD hy;rw [A7,hR.len,K4] at RA;refine ⟨D,qs,rowsW R w,rank,rfl,RA.rows,x9,o3,fun l line H5 nl S5 hl5 run cov=>?_⟩;exact q l line H5 (RA.same.free nl) (RA.same.trans S5) hl5 run cov
theorem sc_forms_of:FnScope ["rules", "forms", "rule"] ["rules"] (C6 cM):=G8
abbrev uT:List Str:=["rules", "forms", "rule"]
theorem vbh:VS uT cM "rules" 0:=vq
theorem vbi:VS uT cM "forms" 1:=vq
theorem uU:VS uT cM "rule" 2:=vq
theorem vbk:LS cM "forms":=lq
theorem vbl:LS cM "rule":=lq
theorem ag8(F:FunD K "forms_of" "forms_of" cM f fd)(T:Txt P w K mg C):FnOk P w K mg base E8 1 f fd ["rules"] (ahz K):=by
 refine F.ok sc_forms_of ?_ ?_
 .rintro _ _ _ _ ⟨a,ts,R,rfl,_⟩;rfl
 .intro cdv A outer s H vs Q E hr h;have C7:=hu_of hr;have hu:=hr.units;refine ⟨_,QSs.out (B1 (D6 (n:=1) sc_forms_of.nd rfl vbk aK)
   (B1 (M8 PassesOwn.never (M9 (K:=K) (vi vbh)) (D7 (n:=2) sc_forms_of.nd rfl vbl (.inl rfl)) (B5 (qs_if (D8 (q_eq (K:=K) hu) (qe_ix (K:=K) (vi uU) A8) K0) (B5 (O3 (qe_mB (K:=K) O2 PySem.F.slot_list_extend PySem.F.type_list_extend (ajC (K:=K)) (ala (vi vbi) (qe_ix (K:=K) (vi uU) A8) (N9 A6)) (qa_c (Q0 (K:=K) (vi uU) (M7 A8) X4) A6)))) J8)))
   (B5 (E1 (vi vbi))))),?_⟩
  obtain ⟨a,ts,R,rfl,hR,hg,hl,hf,q⟩:=h;walk_at "rd";intro d nd;refine ⟨⟨_,.of (B3 hR.top nd)⟩,forL (xs:=ts.map V.ref) (fun i Y H2=>∃ (u:Option V) (ad:Str->Addr),Y=[some (.ref a),some (.ref d),u]/\Same H H2/\H2 d=some (.dK (C2 (E7 (R.take i)) fun y=>.ref (ad y)))/\DL (A4 H d (.dK [])) H2 (E7 (R.take i)) ad (G0 (R.take i))) ⟨none,fun _=>d,rfl,Same.new nd,A5,⟨by simp [E7,L1,E9],by simp [E7,L1,E9],by simp [E7,L1,E9]⟩⟩ (by rintro i Y H2 _ ⟨_,_,_,S,_⟩;exact .of (S _ _ hR.top)) ?_ ?_⟩
  .rintro i x Y H2 hx ⟨u,ad,rfl,S,hd,dl⟩;obtain ⟨t,ht,rfl⟩:=G5 hx;obtain ⟨z,hz,C8⟩:=Paired.at hR.row ht;have hT:C9 K H2 t ((z.1::z.2).map V.str):=.of (S _ _ C8);walk_at "rd";refine ⟨_,.inr hT,V.str z.1,N5 _ _,?_⟩;walk_at "rd"
   by_cases bH:z.1=("great" : Str)
   .rw [decide_eq_true bH];refine iteT ?_;obtain ⟨w,ps⟩:=z;obtain rfl:w=("great" : Str):=bH;obtain ⟨y,fs,rfl⟩:∃ y fs,ps=y::fs:=by
     cases ps with
     | nil=>exact absurd rfl (hg _ (L3 hz) rfl)
     | cons y fs=>exact ⟨y,fs,rfl⟩
    have etk:R.take (i+1)=R.take i++[(("great" : Str),y::fs)]:=L9 hz;have x9:(G0 (R.take i) y).length+fs.length<=10000:=by
     have:=hf (i+1) y
     rw [etk,tL,if_pos rfl,D1] at this;exact this
    have W5:(C2 (E7 (R.take i)) fun y=>V.ref (ad y)).length<=1000:=by
     rw [b0];unfold E7;have h1:=eJ ((L1 (R.take i)).map (·.1)) [];have h2:(L1 (R.take i)).length<=(R.take i).length:=List.length_filterMap_le _ _;rw [A7,V4] at h1;rw [K5] at h2;lia
    have N6:J9 (((("great" : Str),y::fs).1::(("great" : Str),y::fs).2).map V.str) 1=some (V.str y):=P9 (j:=1) rfl;have bI:cutV (((("great" : Str),y::fs).1::(("great" : Str),y::fs).2).map V.str) (some 2) none=fs.map V.str:=cH _ 2;refine ⟨.inl ⟨_,.inl hd⟩,_,.inr hT,V.str y,N6,fun p np=>⟨_,B3 hd np,Nat.lt_of_le_of_lt W5 (by decide),Sum.inr y,rfl,fun v hv=>?_,fun hn=>?_⟩⟩
    .rw [O4] at hv
     by_cases hy:y∈E7 (R.take i)
     .rw [if_pos hy] at hv;cases hv;have dF:=dl.row y hy;have ndy:ad y≠d:=fun e=>by have:=dl.new y hy;rw [e,A5] at this;cases this
      have nHy:H (ad y)=none:=by have:=dl.new y hy;rw [A9 ndy] at this;exact this
      have T1:Same H2 (A4 H2 p (.lst [])):=Same.new np;generalize A4 H2 p (.lst [])=H3 at T1;refine ⟨N4 (T1 _ _ dF),rSlR.t (hT.same T1) (b9 (k:=2) (by decide) (by simp)) fun s ns=>?_⟩;rw [bI];have T2:Same H3 (A4 H3 s (.tup (fs.map V.str))):=Same.new ns;have hs:A4 H3 s (.tup (fs.map V.str)) s=some (.tup (fs.map V.str)):=A5;generalize A4 H3 s (.tup (fs.map V.str))=H4 at T2 hs;have T:=T1.trans T2;refine ⟨ad y,s,_,_,rfl,rfl,T _ _ dF,.of hs,by rw [A7,A7];exact Y4 (by lia),(S.trans T).put nHy,ad,?_,?_⟩
      .rw [A9 ndy.symm,T _ _ hd,etk,oQ];unfold dd;rw [if_pos hy]
      .rw [etk,oQ];unfold dd;rw [if_pos hy,<- E4];refine ((dl.same T).app hy (G0 (R.take i) y++fs)).congr fun x _=>?_
       rw [tL]
       by_cases X7:x=y
       .subst X7;simp
       .simp [X7]
     .rw [if_neg hy] at hv;cases hv
    .have hy:y∉E7 (R.take i):=fun hy=>by rw [O4,if_pos hy] at hn;cases hn
     have ndp:d≠p:=fun e=>by rw [<- e,hd] at np;cases np
     have n0:A4 H d (.dK []) p=none:=by rw [A9 ndp.symm];exact S.free np
     have dl2:=dl.more hy np n0;have y0:=dl2.put (b:=d) (o:=.dK (C2 (E7 (R.take i)++[y]) fun t=>if t=y then V.ref p else V.ref (ad t))) (u:=.dK []) A5;rw [aN (V.ref p) hy];have y3:A4 (A4 H2 p (.lst [])) d (.dK (C2 (E7 (R.take i)++[y]) fun t=>if t=y then V.ref p else V.ref (ad t))) p=some (.lst []):=by rw [A9 ndp.symm,A5]
     have P3:A4 (A4 H2 p (.lst [])) d (.dK (C2 (E7 (R.take i)++[y]) fun t=>if t=y then V.ref p else V.ref (ad t))) d=some (.dK (C2 (E7 (R.take i)++[y]) fun t=>if t=y then V.ref p else V.ref (ad t))):=A5;have S3:Same H (A4 (A4 H2 p (.lst [])) d (.dK (C2 (E7 (R.take i)++[y]) fun t=>if t=y then V.ref p else V.ref (ad t)))):=(S.trans (Same.new np)).put nd;generalize A4 (A4 H2 p (.lst [])) d (.dK (C2 (E7 (R.take i)++[y]) fun t=>if t=y then V.ref p else V.ref (ad t)))=H3 at y0 y3 P3 S3;have hT3:C9 K H3 t (((("great" : Str),y::fs).1::(("great" : Str),y::fs).2).map V.str):=.of (S3 _ _ C8);refine ⟨N4 y3,rSlR.t hT3 (b9 (k:=2) (by decide) (by simp)) fun s ns=>?_⟩;rw [bI];have T2:Same H3 (A4 H3 s (.tup (fs.map V.str))):=Same.new ns;have hs:A4 H3 s (.tup (fs.map V.str)) s=some (.tup (fs.map V.str)):=A5;generalize A4 H3 s (.tup (fs.map V.str))=H4 at T2 hs;refine ⟨p,s,_,_,rfl,rfl,T2 _ _ y3,.of hs,by rw [A7];exact Y4 (by simp;lia),(S3.trans T2).put (S.free np),fun t=>if t=y then p else ad t,?_,?_⟩
     .rw [A9 ndp,T2 _ _ P3,etk,oQ];unfold dd;rw [if_neg hy];refine congrArg (fun z=>some (HO.dK z)) (T0 fun x _=>?_);show (if x=y then V.ref p else V.ref (ad x))=V.ref (if x=y then p else ad x)
      by_cases X7:x=y
      .rw [if_pos X7,if_pos X7]
      .rw [if_neg X7,if_neg X7]
     .rw [etk,oQ];unfold dd;rw [if_neg hy,fY]
      have:=((y0.same T2).app (z:=y) (by simp) fs).congr (G:=G0 (R.take i++[(("great" : Str),y::fs)])) fun x _=>by
       rw [tL]
       by_cases X7:x=y
       .subst X7;have e0:G0 (R.take i) x=[]:=by
         unfold G0;rw [fT.mpr fun e he=>?_]
         .rfl
         .intro h;have h:e.1=x:=by simpa using h
          refine hy ?_;unfold E7;rw [m5];exact .inr (E2.mpr ⟨e,he,h⟩)
        simp [e0]
       .simp [X7]
      rw [if_pos rfl] at this;exact this
   .rw [decide_eq_false bH];refine iteF ⟨S,ad,?_,?_⟩
    .rw [show E7 (R.take (i+1))=E7 (R.take i) by unfold E7;rw [tJ hz,oP bH,L7]];exact hd
    .rw [show E7 (R.take (i+1))=E7 (R.take i) by unfold E7;rw [tJ hz,oP bH,L7]];refine dl.congr fun x _=>?_
     unfold G0;rw [tJ hz,oP bH,L7]
  .rintro Y H2 ⟨u,ad,rfl,S,hd,dl⟩;walk_at "rd";rw [A7,hR.len,K4] at hd dl;exact q d ad H2 nd S hd (dl.old (Same.new nd))
theorem sc_steps_of:FnScope ["rules", "letters", "marks", "steps", "place", "letter", "mark", "forms", "case", "form", "rule"] ["rules", "letters", "marks"] (C6 P0):=G8
abbrev m7:List Str:=["rules", "letters", "marks", "steps", "place", "letter", "mark", "forms", "case", "form", "rule"]
theorem vbm:VS m7 P0 "rules" 0:=vq
theorem vbn:VS m7 P0 "letters" 1:=vq
theorem vbo:VS m7 P0 "marks" 2:=vq
theorem iE:VS m7 P0 "steps" 3:=vq
theorem vbq:VS m7 P0 "place" 4:=vq
theorem uV:VS m7 P0 "letter" 5:=vq
theorem vbs:VS m7 P0 "mark" 6:=vq
theorem vbt:VS m7 P0 "forms" 7:=vq
theorem vbu:VS m7 P0 "case" 8:=vq
theorem vbv:VS m7 P0 "form" 9:=vq
theorem uW:VS m7 P0 "rule" 10:=vq
theorem vbx:LS P0 "steps":=lq
theorem vby:LS P0 "place":=lq
theorem vbz:LS P0 "letter":=lq
theorem vbA:LS P0 "mark":=lq
theorem vbB:LS P0 "forms":=lq
theorem vbC:LS P0 "case":=lq
theorem vbD:LS P0 "form":=lq
theorem vbE:LS P0 "rule":=lq
theorem ag9(F:FunD K "steps_of" "steps_of" P0 f fd)(T:Txt P w K mg C)(G_forms_of:FO P w K mg base 1 "forms_of" ["rules"] [] (ahz K)):FnOk P w K mg base E8 2 f fd ["rules", "letters", "marks"] (ahC K):=by
 refine F.ok sc_steps_of ?_ ?_
 .rintro _ _ _ _ ⟨a,b,c,ts,R,L,M,F,rfl,_⟩;rfl
 .intro cdv A outer s H vs Q E hr h;have C7:=hu_of hr;have hu:=hr.units;refine ⟨_,QSs.out (B1 (D6 (n:=3) sc_steps_of.nd rfl vbx aK)
   (B1 (M8 PassesOwn.never (kH T.b_enumerate (qa_c (vi vbn) A6)) (aM (K:=K) (n:=2) (Q5 ((D7 (n:=4) sc_steps_of.nd rfl vby (.inl rfl))) (Q5 ((D7 (n:=5) sc_steps_of.nd rfl vbz (.inl rfl))) aL))) (B5 (i0 C7 (vi iE) (vi uV) (L8 (qa_c (L8 (qa_c (gN T.g_LETTER) (qa_c (vi vbq) (qa_c A8 A6)))) A6)))))
   (B1 (M8 PassesOwn.never (kH T.b_enumerate (qa_c (vi vbo) A6)) (aM (K:=K) (n:=2) (Q5 ((D7 (n:=4) sc_steps_of.nd rfl vby (.inl rfl))) (Q5 ((D7 (n:=6) sc_steps_of.nd rfl vbA (.inl rfl))) aL))) (B5 (i0 C7 (vi iE) (vi vbs) (L8 (qa_c (L8 (qa_c (gN T.g_MARK) (qa_c (vi vbq) (qa_c A8 A6)))) A6)))))
   (B1 (D6 (n:=7) sc_steps_of.nd rfl vbB (F9 G_forms_of (hm hr) (qa_c (vi vbm) A6)))
   (B1 (sW PassesOwn.never (vi vbt) (D7 (n:=5) sc_steps_of.nd rfl vbz (.inl rfl)) (B5 (M8 PassesOwn.never (alm T.b_enumerate (qa_c (Y5 C7 (vi vbt) (vi uV)) A6)) (aM (K:=K) (n:=2) (Q5 ((D7 (n:=8) sc_steps_of.nd rfl vbC (.inl rfl))) (Q5 ((D7 (n:=9) sc_steps_of.nd rfl vbD (.inl rfl))) aL))) (B5 (i0 C7 (vi iE) (vi vbv) (L8 (qa_c (L8 (qa_c (gN T.g_LETTER) (qa_c (qe_ix (K:=K) (qe_ix (K:=K) (Y5 C7 (vi iE) (vi uV)) A8) A8) (qa_c (vi vbu) A6)))) A6)))))))
   (B1 (M8 PassesOwn.never (M9 (K:=K) (vi vbm)) (D7 (n:=10) sc_steps_of.nd rfl vbE (.inl rfl)) (B5 (qs_if (D8 (q_eq (K:=K) hu) (qe_ix (K:=K) (vi uW) A8) K0) (B5 (i0 C7 (vi iE) (qe_ix (K:=K) (vi uW) A8) (qe_cT (cG (K:=K)) T.b_tuple aJ (qa_c (Y6  (R3:CompOk ["rules", "letters", "marks", "steps", "place", "letter", "mark", "forms", "case", "form", "rule"] (C6 P0).names _ ["part", "steps"] 1 [3]) (cF (K:=K) (Q0 (K:=K) (vi uW) (M7 A8) X4)) (fun _ _ _ _ _=>D7 (n:=0) (show List.Nodup (["part", "steps"]:List Str) by decide +kernel) rfl (Or.inl rfl)) (fun _ _ _ _ _=>eN) (fun _ _ _ _ _=>(qe_ix (K:=K) (Y5 C7 (qv 1) (qv 0)) A8))) A6)))) J8)))
   (B5 (E1 (vi iE))))))))),?_⟩
  obtain ⟨a,b,c,ts,R,L,M,F,rfl,hR,md,hb,hc,N7,hRl,x9,xF,q⟩:=h;have C1:L.length+M.length+((E7 R).flatMap (G0 R)).length+(asKs R).length<=50000:=by
   unfold allKs at xF;simp only [D1] at xF;exact xF
  walk_at "rd";intro d nd;have ndR:∀ {x:Addr} {o:HO},H x=some o->x≠d:=fun h e=>by rw [e,nd] at h;cases h
  refine ⟨⟨_,B3 hb nd⟩,forE (xs:=L.map V.str) (fun i Y H2=>∃ (u v w x y z r:Option V),Y=[some (.ref a),some (.ref b),some (.ref c),some (.ref d),u,v,w,x,y,z,r]/\StI H H2 d (L.take i) F)
   ⟨none,none,none,none,none,none,none,rfl,Same.new nd,fun _=>d,A5,by simp [E9]⟩ (by rintro i Y H2 ⟨_,_,_,_,_,_,_,_,S⟩;exact S.same _ _ hb) ?_ ?_⟩
  .rintro i x t Y H2 hx ⟨u,v,w,x',y,z,r,rfl,S⟩ nt;obtain ⟨l,hl,rfl⟩:=G5 hx;have hi:i<L.length:=(G9.mp hl).1;walk_at "rd";refine ⟨_,.of A5,rfl,_,_,rfl,_,_,rfl,rfl,by decide,fun p np=>⟨by decide,fun p1 R0=>?_⟩⟩;rw [L9 hl];exact StI.put nd (((S.more (Same.new nt)).more (Same.new np)).more (Same.new R0)) (by rw [K5];lia) (by
    rw [md.lt i l hl];exact StepAt.one A5 (B3 A5 R0))
  rintro Y H2 ⟨u,v,w,x',y,z,r,rfl,S⟩;rw [A7,K4] at S;walk_at "rd";refine ⟨⟨_,S.same _ _ hc⟩,forE (xs:=M.map V.str) (fun i Y H2=>∃ (u v w x y z r:Option V),Y=[some (.ref a),some (.ref b),some (.ref c),some (.ref d),u,v,w,x,y,z,r]/\StI H H2 d (L++M.take i) F)
   ⟨u,v,w,x',y,z,r,rfl,by rw [bR,L7];exact S⟩ (by rintro i Y H2 ⟨_,_,_,_,_,_,_,_,S⟩;exact S.same _ _ hc) ?_ ?_⟩
  .clear S;rintro i x t Y H2 hx ⟨u,v,w,x',y,z,r,rfl,S⟩ nt;obtain ⟨l,hl,rfl⟩:=G5 hx;have hi:i<M.length:=(G9.mp hl).1;walk_at "rd";refine ⟨_,.of A5,rfl,_,_,rfl,_,_,rfl,rfl,by decide,fun p np=>⟨by decide,fun p1 R0=>?_⟩⟩;rw [L9 hl,<- U1];exact StI.put nd (((S.more (Same.new nt)).more (Same.new np)).more (Same.new R0)) (by rw [D1,K5];lia) (by
    rw [md.mr i l hl];exact StepAt.one A5 (B3 A5 R0))
  clear S H2 u v w x' y z r;rintro Y H2 ⟨u,v,w,x',y,z,r,rfl,S⟩;rw [A7,K4] at S;walk_at "rd";refine ⟨a,ts,R,rfl,hR.same S.same,fun z hz e=>md.ne z hz (.inr e),hRl,x9,fun fd af H3 nfd S3 qP dl=>?_⟩;have nf0:H fd=none:=S.same.free nfd;have nf1:fd≠d:=fun e=>by
   obtain ⟨ad,h1,_⟩:=S.made;rw [<- e,nfd] at h1;cases h1
  have S':=S.more S3;have C8:=dl.row;clear S S3 dl nfd H2;refine ⟨fd,rfl,_,qP,fun o=>forD (fun i Y H4=>∃ (u v w y z r:Option V),Y=[some (.ref a),some (.ref b),some (.ref c),some (.ref d),u,v,w,some (.ref fd),y,z,r]/\FoI H H4 d fd o (E7 R) af (G0 R) (L++M++((E7 R).take i).flatMap (G0 R)) F)
   ⟨u,v,w,y,z,r,rfl,⟨A5,fun y hy=>by rw [A9 (fun e=>by have:=C8 y hy;rw [e,qP] at this;cases this)];exact C8 y hy,by rw [bR,fX,L7];exact S'.frz qP nf0 nf1⟩⟩ (by rintro i Y H4 ⟨_,_,_,_,_,_,_,h⟩;exact h.frz) ?_ ?_⟩
  .rintro i k v' Y H4 hk ⟨u,v,w,y,z,r,rfl,J⟩;obtain ⟨l,hl,e⟩:=G5 (f:=fun t=>((Sum.inr t:C3),V.ref (af t))) hk;obtain ⟨rfl,rfl⟩:=Prod.mk.inj e;have mO:l∈E7 R:=L3 hl;have hlL:=md.gl l mO;have xD:(((E7 R).take i).flatMap (G0 R)).length+(G0 R l).length<=((E7 R).flatMap (G0 R)).length:=by
    have e:(E7 R).flatMap (G0 R)=((E7 R).take i).flatMap (G0 R)++G0 R l++((E7 R).drop (i+1)).flatMap (G0 R):=by
     have:=q9 (i+1) (E7 R)
     rw [L9 hl] at this;rw [<- this,j1,j1,Z5,fX,L7];rw [this]
    rw [e,D1,D1];lia
   walk_at "rd";refine ⟨V.ref (af l),.inl ⟨_,Sum.inr l,.inr ⟨o,J.frz⟩,rfl,by rw [O4,if_pos mO]⟩,af l,rfl,⟨_,J.rows l mO⟩,forE1 (xs:=(G0 R l).map V.str) (fun j Y H5=>∃ (y z r:Option V),Y=[some (.ref a),some (.ref b),some (.ref c),some (.ref d),u,some (kV (Sum.inr l)),w,some (.ref fd),y,z,r]/\FoI H H5 d fd o (E7 R) af (G0 R) (L++M++((E7 R).take i).flatMap (G0 R)++(G0 R l).take j) F) ⟨y,z,r,rfl,by rw [bR,L7];exact J⟩ (by rintro j Y H5 ⟨_,_,_,_,h⟩;exact h.rows l mO) ?_ ?_⟩
   .clear J y z r;rintro j x t Y H5 hx ⟨y,z,r,rfl,J⟩ nt;obtain ⟨f,hf,rfl⟩:=G5 hx;have hj:j<(G0 R l).length:=(G9.mp hf).1;have T1:Same H5 (A4 H5 t (.tup [.int ((j+1:Nat):Int),.str f])):=Same.new nt;have ht:A4 H5 t (.tup [.int ((j+1:Nat):Int),.str f]) t=some (.tup [.int ((j+1:Nat):Int),.str f]):=A5;generalize A4 H5 t (.tup [.int ((j+1:Nat):Int),.str f])=H6 at T1 ht ⊢
    have J6:=J.more T1;obtain ⟨ad,h1,h2⟩:=J6.st.made;have M0:l∈E9 [] (L++M++((E7 R).take i).flatMap (G0 R)++(G0 R l).take j):=by
     rw [m5];exact .inr (L4 _ (L4 _ (L4 _ hlL)))
    obtain ⟨tt,e1,e2⟩:=(h2 l M0).ex;rw [md.letter hlL] at e2;obtain ⟨t0,rfl,e3⟩:∃ t0,tt=[t0]/\H6 t0=some (tupT (2,(L.idxOf l:Int),0)):=by
     cases e2 with
     | cons h t=>cases t;exact ⟨_,rfl,h⟩
    walk_at "rd";refine ⟨_,.of ht,rfl,_,_,rfl,_,_,rfl,rfl,V.ref (ad l),.inl ⟨_,Sum.inr l,.inl h1,rfl,by rw [O4,if_pos M0]⟩,?_⟩;walk_at "rd";refine ⟨_,.inr (.of e1),V.ref t0,N5 _ _,?_⟩;walk_at "rd";refine ⟨_,.inr (.of e3),V.int (L.idxOf l:Int),P9 (j:=1) rfl,by decide,fun p np=>⟨by decide,fun p1 R0=>?_⟩⟩;rw [L9 hf,<- U1];exact FoI.put nd ((J6.more (Same.new np)).more (Same.new R0)) (by simp only [D1,K5];lia) (by
     rw [md.gr l mO j f hf];exact StepAt.one A5 (B3 A5 R0))
   .rintro Y H5 ⟨y,z,r,rfl,J⟩;rw [A7,K4] at J;refine ⟨⟨_,_,_,_,_,_,rfl⟩,?_⟩;rw [L9 hl,j1,Z5,fX,L7,<- U1];exact J
  rintro Y H4 ⟨u,v,w,y,z,r,rfl,J⟩;rw [b0,K4] at J;have S5:=J.st.thaw (o:=.dK (C2 (E7 R) fun y=>V.ref (af y))) J.frz nf0 nf1;generalize A4 H4 fd (.dK (C2 (E7 R) fun y=>V.ref (af y)))=H5 at S5 ⊢
  clear J qP C8;walk_at "rd";refine ⟨⟨_,.of (S5.same _ _ hR.top)⟩,forL (xs:=ts.map V.ref) (fun i Y H6=>∃ (r:Option V),Y=[some (.ref a),some (.ref b),some (.ref c),some (.ref d),u,v,w,some (.ref fd),y,z,r]/\StI H H6 d (L++M++(E7 R).flatMap (G0 R)++asKs (R.take i)) F) ⟨r,rfl,by rw [bR];rw [show asKs []=[] from rfl,L7];exact S5⟩ (by rintro i Y H6 _ ⟨_,_,S⟩;exact .of (S.same _ _ hR.top)) ?_ ?_⟩
  .clear S5 r;rintro i x Y H6 hx ⟨r,rfl,S⟩;obtain ⟨t,ht,rfl⟩:=G5 hx;obtain ⟨zz,hz,C8⟩:=Paired.at hR.row ht;have iY:=L3 hz;have hT:C9 K H6 t ((zz.1::zz.2).map V.str):=.of (S.same _ _ C8);walk_at "rd";refine ⟨_,.inr hT,V.str zz.1,N5 _ _,?_⟩;walk_at "rd"
   by_cases has:zz.1=("as" : Str)
   .rw [decide_eq_true has];refine iteT ?_;obtain ⟨w1,ps⟩:=zz;obtain rfl:w1=("as" : Str):=has;obtain ⟨p,qs,rfl⟩:∃ p qs,ps=p::qs:=by
     cases ps with
     | nil=>exact absurd rfl (md.ne _ iY (.inl rfl))
     | cons p qs=>exact ⟨p,qs,rfl⟩
    have bI:cutV (((("as" : Str),p::qs).1::(("as" : Str),p::qs).2).map V.str) (some 2) none=qs.map V.str:=cH _ 2;have hql:qs.length<=1000:=by have:=N7 _ iY;simp only [F8] at this;lia
    have xG:=alr (R.take i);rw [K5] at xG;refine rSlR.t hT (b9 (k:=2) (by decide) (by simp)) fun s ns=>?_
    rw [bI];have T1:Same H6 (A4 H6 s (.tup (qs.map V.str))):=Same.new ns;have hs:A4 H6 s (.tup (qs.map V.str)) s=some (.tup (qs.map V.str)):=A5;generalize A4 H6 s (.tup (qs.map V.str))=H7 at T1 hs;have S7:=S.more T1;have hT7:C9 K H7 t (((("as" : Str),p::qs).1::(("as" : Str),p::qs).2).map V.str):=C9.same T1 hT;clear hT S;refine ⟨s,rfl,⟨_,.of hs⟩,compT (xs:=qs.map V.str) [some (.ref d)] rfl (fun D j ys H8=>∃ dG:List Addr,ys=dG.map V.ref/\AsI H H7 H8 d (L++M++(E7 R).flatMap (G0 R)++asKs (R.take i)) F dG ((qs.take j).map fun q=>(F q).headD (0,0,0))) (fun D nD=>⟨[],rfl,S7.more (Same.new nD),.nil,Same.new nD⟩) (by rintro D j ys H8 nD _ ⟨_,_,h⟩;exact .of (h.sm _ _ hs)) ?_ ?_⟩
    .rintro D j yv ys H8 nD hi hy ⟨dG,rfl,J⟩ hD T4;obtain ⟨qq,hq,rfl⟩:=G5 hy;have hqb:=md.pt _ iY rfl qq (L3 hq);obtain ⟨st,T8⟩:=md.base hqb;obtain ⟨ad,h1,h2⟩:=J.st.made;have M0:qq∈E9 [] (L++M++(E7 R).flatMap (G0 R)++asKs (R.take i)):=by
      rw [m5];refine .inr (L4 _ (L4 _ (F6.mpr hqb)))
     obtain ⟨tt,e1,e2⟩:=(h2 qq M0).ex;rw [T8] at e2;obtain ⟨t0,rfl,e3⟩:∃ t0,tt=[t0]/\H8 t0=some (tupT st):=by
      cases e2 with
      | cons h t=>cases t;exact ⟨_,rfl,h⟩
     walk_at "rd";refine ⟨V.ref (ad qq),.inl ⟨_,Sum.inr qq,.inl h1,rfl,by rw [O4,if_pos M0]⟩,?_⟩;walk_at "rd";have qN:dG.length<=1000:=by
      have:=Paired.length J.pr
      rw [A7,K5] at this;lia
     refine ⟨_,.inr (.of e1),V.ref t0,N5 _ _,hD,by rw [A7];exact G7 (by lia),CW.put hi T4 ⟨dG++[t0],by rw [E4];rfl,?_⟩⟩;refine AsI.putL (f:=D) ⟨J.st,?_,J.sm⟩ hD (S7.same.free nD) nD;rw [L9 hq,E4];refine Paired.snoc J.pr ?_;show H8 t0=some (tupT ((F qq).headD (0,0,0)));rw [T8];exact e3
    rintro D ys H8 nD ⟨dG,rfl,J⟩ hD T4;rw [A7,K4] at J;rw [tup_r];refine rTupR.l (.of hD) fun p1 R0=>?_
    have N6:J9 (((("as" : Str),p::qs).1::(("as" : Str),p::qs).2).map V.str) 1=some (V.str p):=P9 (j:=1) rfl;have S8:Same H8 (A4 H8 p1 (.tup (dG.map V.ref))):=Same.new R0;refine ⟨_,.inr (C9.same (J.sm.trans S8) hT7),V.str p,N6,?_⟩;rw [agb hz,ahB,<- U1];refine StI.put nd (J.st.more S8) (by simp only [D1];lia) ?_;rw [md.as _ iY rfl p qs rfl];exact ⟨dG,A5,O6 J.pr fun t s e=>S8 _ _ e⟩
   .rw [decide_eq_false has];refine iteF ?_;rw [agb hz,ajN has,L7];exact S
  rintro Y H6 ⟨r,rfl,S⟩;rw [A7,hR.len,K4] at S;walk_at "rd";exact q d H6 nd S.same S.made
theorem adG:FnScope ["self", "rules"] ["self", "rules"] (C6 cN):=G8
abbrev acE:List Str:=["self", "rules"]
theorem aT:VS acE cN "self" 0:=vq
theorem eW:VS acE cN "rules" 1:=vq
theorem adH(F:FunD K "__init__" "Order.__init__" cN f fd)(T:Txt P w K mg C)(G_has_rule:FO P w K mg base 1 "has_rule" ["rules", "word"] [] (spHas K))(G_jobs_of:FO P w K mg base 3 "jobs_of" ["rules"] [] (alS K))(G_check_letters:FO P w K mg base 2 "check_letters" ["rules", "jobs"] [] (ahA K))(G_line_of:FO P w K mg base 4 "line_of" ["rules", "word"] [] (alT K))(G_steps_of:FO P w K mg base 2 "steps_of" ["rules", "letters", "marks"] [] (ahC K)):FnOk P w K mg base E8 5 f fd ["self", "rules"] (tO C):=by
 refine F.ok adG ?_ ?_
 .rintro _ _ _ _ ⟨x,dx,a,ts,R,g,r1,r2,rfl,_⟩;rfl
 .intro cdv A outer s H vs Q E hr h;have C7:=hu_of hr;have hu:=hr.units;refine ⟨_,QSs.out (B1 (gO (K:=K) (vi aT) (F9 G_has_rule (hm hr) (qa_c (vi eW) (qa_c K0 A6))))
   (B1 (gO (K:=K) (vi aT) (F9 G_has_rule (hm hr) (qa_c (vi eW) (qa_c K0 A6))))
   (B1 (gO (K:=K) (vi aT) (F9 G_jobs_of (hm hr) (qa_c (vi eW) A6)))
   (B1 (O3 (F9 G_check_letters (hm hr) (qa_c (vi eW) (qa_c (l9 (K:=K) (vi aT)) A6))))
   (B1 (gO (K:=K) (vi aT) (F9 G_line_of (hm hr) (qa_c (vi eW) (qa_c K0 A6))))
   (B1 (gO (K:=K) (vi aT) (F9 G_line_of (hm hr) (qa_c (vi eW) (qa_c K0 A6))))
   (B5 (gO (K:=K) (vi aT) (F9 G_steps_of (hm hr) (qa_c (vi eW) (qa_c (l9 (K:=K) (vi aT)) (qa_c (l9 (K:=K) (vi aT)) A6)))))))))))),?_⟩
  obtain ⟨x,dx,a,ts,R,g,r1,r2,rfl,hx,hR,pl,q⟩:=h;have lp:∀ (f:Str) (y:V) (fs:List (Str×V)),(putF f y fs).length<=fs.length+1:=rS;walk_at "rd";refine ⟨a,ts,R, "figures",rfl,hR,pl.len,fun H1 S1=>⟨C,dx,[],S1 _ _ hx,T.cl,T.na_figures,by decide,?_⟩⟩;generalize hF1:putF (Str.ofString "figures") (V.bl (hasW R (Str.ofString "figures"))) []=F1;have l1:F1.length<=1:=by rw [<- hF1];exact lp _ _ _
  have B2:SameBut x H (A4 H1 x (.ins C dx F1)):=(Same.but S1).at;have xH:A4 H1 x (.ins C dx F1) x=some (.ins C dx F1):=A5;generalize A4 H1 x (.ins C dx F1)=H2 at B2 xH;have hR2:=hR.but B2 hx;refine ⟨a,ts,R, "behind",rfl,hR2,pl.len,fun H3 S3=>⟨C,dx,F1,S3 _ _ xH,T.cl,T.na_behind,by lia,?_⟩⟩;generalize hF2:putF (Str.ofString "behind") (V.bl (hasW R (Str.ofString "behind"))) F1=F2;have l2:F2.length<=2:=by rw [<- hF2];exact K6 (lp _ _ _) (by lia)
  have B4:SameBut x H2 (A4 H3 x (.ins C dx F2)):=(Same.but S3).at;have iW:A4 H3 x (.ins C dx F2) x=some (.ins C dx F2):=A5;generalize A4 H3 x (.ins C dx F2)=H4 at B4 iW;have hR4:=hR2.but B4 xH;refine ⟨a,ts,R,g,rfl,hR4,pl.len,pl.plen,pl.nc,pl.nb,fun j H5 nj S5 hj=>?_⟩;have njx:j≠x:=fun e=>by rw [e,iW] at nj;cases nj
  generalize hF3:putF (Str.ofString "jobs") (V.ref j) F2=F3;have l3:F3.length<=3:=by rw [<- hF3];exact K6 (lp _ _ _) (by lia)
  have k3:F3.lookup (Str.ofString "jobs")=some (V.ref j):=by rw [<- hF3,L0,if_pos rfl]
  refine ⟨C,dx,F2,S5 _ _ iW,T.cl,T.na_jobs,by lia,?_⟩;rw [hF3];have B6:SameBut x H4 (A4 H5 x (.ins C dx F3)):=(Same.but S5).at;have mP:A4 H5 x (.ins C dx F3) x=some (.ins C dx F3):=A5;have xI:A4 H5 x (.ins C dx F3) j=some (.dK (C2 (keysP (D4 R)++Y7 R) (jobG g))):=by rw [A9 njx];exact hj
  generalize A4 H5 x (.ins C dx F3)=H6 at B6 mP xI;have hR6:=hR4.but B6 iW;refine ⟨C,dx,F3,mP,T.cl,T.na_jobs,_,k3,a,j,ts,R,_,_,rfl,hR6,xI,fun z hz=>⟨pl.used hz,pl.zl z hz⟩,fun H7 S7=>?_⟩;refine ⟨a,ts,R, "row",r1,rfl,hR6.same S7,pl.len,K6 pl.f1 (by decide),pl.a1,fun ll L H8 nll S8 mM run cov=>?_⟩;have hx8:=S8 _ _ (S7 _ _ mP);have nlx:ll≠x:=fun e=>by rw [e,S7 _ _ mP] at nll;cases nll
  have llen:L.length<=10000:=by
   rw [oI (gT _) run cov];exact K6 (jX _) pl.f1
  generalize hF4:putF (Str.ofString "letter_line") (V.ref ll) F3=F4;have l4:F4.length<=4:=by rw [<- hF4];exact K6 (lp _ _ _) (by lia)
  refine ⟨C,dx,F3,hx8,T.cl,T.na_letter_line,by lia,?_⟩;rw [hF4];have B9:SameBut x H6 (A4 H8 x (.ins C dx F4)):=(Same.but (S7.trans S8)).at;have qQ:A4 H8 x (.ins C dx F4) x=some (.ins C dx F4):=A5;have mQ:A4 H8 x (.ins C dx F4) ll=some (.lst (L.map V.str)):=by rw [A9 nlx];exact mM
  generalize A4 H8 x (.ins C dx F4)=H9 at B9 qQ mQ;have hR9:=hR6.but B9 mP;refine ⟨a,ts,R, "marks",r2,rfl,hR9,pl.len,K6 pl.f2 (by decide),pl.a2,fun ml M f6 nml xJ mR run2 cov2=>?_⟩;have nmx:ml≠x:=fun e=>by rw [e,qQ] at nml;cases nml
  have mlen:M.length<=10000:=by
   rw [oI (gT _) run2 cov2];exact K6 (jX _) pl.f2
  generalize hF5:putF (Str.ofString "mark_line") (V.ref ml) F4=F5;have l5:F5.length<=5:=by rw [<- hF5];exact K6 (lp _ _ _) (by lia)
  refine ⟨C,dx,F4,xJ _ _ qQ,T.cl,T.na_mark_line,by lia,?_⟩;rw [hF5];have B11:SameBut x H9 (A4 f6 x (.ins C dx F5)):=(Same.but xJ).at;have f8:A4 f6 x (.ins C dx F5) x=some (.ins C dx F5):=A5;have o7:A4 f6 x (.ins C dx F5) ml=some (.lst (M.map V.str)):=by rw [A9 nmx];exact mR
  have o8:A4 f6 x (.ins C dx F5) ll=some (.lst (L.map V.str)):=by rw [A9 nlx];exact xJ _ _ mQ
  generalize A4 f6 x (.ins C dx F5)=H11 at B11 f8 o7 o8;have hR11:=hR9.but B11 qQ;have kl:F5.lookup (Str.ofString "letter_line")=some (V.ref ll):=by rw [<- hF5,L0,if_neg (by decide +kernel),<- hF4,L0,if_pos rfl]
  have km:F5.lookup (Str.ofString "mark_line")=some (V.ref ml):=by rw [<- hF5,L0,if_pos rfl]
  refine ⟨C,dx,F5,f8,T.cl,T.na_letter_line,_,kl,C,dx,F5,f8,T.cl,T.na_mark_line,_,km,a,ll,ml,ts,R,L,M,stepF R L M,rfl,hR11,ajQ pl ⟨run,cov⟩ ⟨run2,cov2⟩,o8,o7,pl.zl,pl.len,ajR pl,K6 (anr pl ⟨run,cov⟩ ⟨run2,cov2⟩) (by decide),fun md H12 nmd o4 hmd=>⟨C,dx,F5,o4 _ _ f8,T.cl,T.na_made,by lia,?_⟩⟩;have nmdx:md≠x:=fun e=>by rw [e,f8] at nmd;cases nmd
  have B:SameBut x H (A4 H12 x (.ins C dx (putF (Str.ofString "made") (V.ref md) F5))):=((B2.trans B4).trans ((B6.trans B9).trans (B11.trans (Same.but o4)))).at;have fr:∀ {H':Hp} {y:Addr},SameBut x H H'->H' y=none->y≠x->H y=none:=fun {H' y} b n nx=>by
   cases e:H y with
   | none=>rfl
   | some o=>have:=b _ _ nx e;rw [n] at this;cases this
  have B44:=B2.trans B4;refine q j ll ml md L M _ (fr B44 nj njx) (fr ((B44.trans B6).trans (Same.but S7)) nll nlx) (fr ((B44.trans B6).trans B9) nml nmx) (fr (((B44.trans B6).trans B9).trans B11) nmd nmdx) B ⟨⟨dx,?_⟩,?_,?_,?_,hmd.mod (o4 _ _ f8) (by intro xs e;cases e) nmdx,⟨run,cov⟩,⟨run2,cov2⟩⟩
  .rw [A5,<- hF5,<- hF4,<- hF3,<- hF2,<- hF1];rfl
  .rw [A9 njx];exact o4 _ _ (B11 _ _ njx (B9 _ _ njx xI))
  .rw [A9 nlx];exact o4 _ _ o8
  .rw [A9 nmx];exact o4 _ _ o7
theorem adR:FnScope ["self"] ["self"] (C6 eS):=G8
abbrev aet:List Str:=["self"]
theorem vbH:VS aet eS "self" 0:=vq
theorem adS(F:FunD K "letters" "Order.letters" eS f fd)(T:Txt P w K mg C):FnOk P w K mg base E8 1 f fd ["self"] (tP C):=by
 refine F.ok adR ?_ ?_
 .rintro _ _ _ _ ⟨x,j,ll,ml,md,g,R,L,M,rfl,_⟩;rfl
 .intro cdv A outer s H vs Q E hr h;have C7:=hu_of hr;have hu:=hr.units;refine ⟨_,QSs.out (B5 (E1 (qe_cT (Z9 (K:=K) (calm:=true)) T.b_list Y3 (qa_c (l9 (K:=K) (vi vbH)) A6)))),?_⟩;obtain ⟨x,j,ll,ml,md,g,R,L,M,rfl,hO,q⟩:=h;obtain ⟨dx,h1⟩:=hO.ob;walk_at "rd";refine ⟨_,_,_,h1,T.cl,T.na_letter_line,_,af9 _ _ _ _ _ _,?_⟩;walk_at "rd";exact rListR.l (.inl (.of hO.lets)) fun l nl=>q l nl
theorem aeB:FnScope ["self"] ["self"] (C6 eT):=G8
abbrev afy:List Str:=["self"]
theorem vbI:VS afy eT "self" 0:=vq
theorem aeC(F:FunD K "marks" "Order.marks" eT f fd)(T:Txt P w K mg C):FnOk P w K mg base E8 1 f fd ["self"] (tQ C):=by
 refine F.ok aeB ?_ ?_
 .rintro _ _ _ _ ⟨x,j,ll,ml,md,g,R,L,M,rfl,_⟩;rfl
 .intro cdv A outer s H vs Q E hr h;have C7:=hu_of hr;have hu:=hr.units;refine ⟨_,QSs.out (B5 (E1 (qe_cT (Z9 (K:=K) (calm:=true)) T.b_list Y3 (qa_c (l9 (K:=K) (vi vbI)) A6)))),?_⟩;obtain ⟨x,j,ll,ml,md,g,R,L,M,rfl,hO,q⟩:=h;obtain ⟨dx,h1⟩:=hO.ob;walk_at "rd";refine ⟨_,_,_,h1,T.cl,T.na_mark_line,_,aib _ _ _ _ _ _,?_⟩;walk_at "rd";exact rListR.l (.inl (.of hO.mrks)) fun l nl=>q l nl
theorem agu:FnScope ["self", "piece"] ["self", "piece"] (C6 cO):=G8
abbrev aeu:List Str:=["self", "piece"]
theorem vbJ:VS aeu cO "self" 0:=vq
theorem vbK:VS aeu cO "piece" 1:=vq
theorem agv(F:FunD K "job" "Order.job" cO f fd)(T:Txt P w K mg C):FnOk P w K mg base E8 1 f fd ["self", "piece"] (tR C):=by
 refine F.ok agu ?_ ?_
 .rintro _ _ _ _ ⟨x,j,ll,ml,md,p,g,R,L,M,rfl,_⟩;rfl
 .intro cdv A outer s H vs Q E hr h;have C7:=hu_of hr;have hu:=hr.units;refine ⟨_,QSs.out (B5 (E1 (oN C7 (l9 (K:=K) (vi vbJ)) (vi vbK)))),?_⟩;obtain ⟨x,j,ll,ml,md,p,g,R,L,M,rfl,hO,q⟩:=h;obtain ⟨dx,h1⟩:=hO.ob;walk_at "rd";refine ⟨_,_,_,h1,T.cl,T.na_jobs,_,af8 _ _ _ _ _ _,j,rfl,.inl ⟨_,.inl hO.jobs⟩,_,Y2 (k:=Sum.inr p) hO.jobs,?_⟩;rw [O4]
  by_cases hp:p∈keysP (D4 R)++Y7 R
  .rw [if_pos hp] at q ⊢
   exact q
  .rw [if_neg hp] at q ⊢
   exact q
theorem sc_figures_at:FnScope ["text", "at", "end"] ["text", "at"] (C6 eU):=G8
abbrev uX:List Str:=["text", "at", "end"]
theorem uY:VS uX eU "text" 0:=vq
theorem vbM:VS uX eU "at" 1:=vq
theorem uZ:VS uX eU "end" 2:=vq
theorem vbO:LS eU "end":=lq
theorem afz(F:FunD K "figures_at" "figures_at" eU f fd)(T:Txt P w K mg C)(G_is_figure:FO P w K mg base 1 "is_figure" ["sign"] [] gZ):FnOk P w K mg base E8 2 f fd ["text", "at"] ajX:=by
 refine F.ok sc_figures_at ?_ ?_
 .rintro _ _ _ _ ⟨z,pre,rest,rfl,_⟩;rfl
 .intro cdv A outer s H vs Q E hr h;have C7:=hu_of hr;have hu:=hr.units;refine ⟨_,QSs.out (B1 (D6 (n:=2) sc_figures_at.nd rfl vbO (vi vbM))
   (B1 (oA PassesOwn.never (QW.pt (kC (D8 q_lt (vi uZ) (qe_cB (q_len (K:=K)) T.b_len X2 (qa_c (vi uY) A6))) (kB (X5 (K:=K) (F9 G_is_figure (hm hr) (qa_c (qe_ix (K:=K) (vi uY) (vi uZ)) A6)))))) (B5 (alM (n:=2) sc_figures_at.nd rfl vbO A8 alO)))
   (B5 (E1 (Q0 (K:=K) (vi uY) (M7 (vi vbM)) (M7 (vi uZ))))))),?_⟩
  obtain ⟨z,pre,rest,rfl,hz,N7,q⟩:=h;walk_at "rd";have C1:z.length=pre.length+rest.length:=by
   have:=congrArg X9 N7
   simp [Str.length] at this ⊢
   lia
  have hsz:z.length<=sizeLine:=Y4 (by lia);refine oC (fun m Y H2=>∃ (run left:List Nat),Y=[some (.str z),some (.int pre.length),some (.int ((pre++run).length:Nat))]/\H2=H/\rest=run++left/\rest.takeWhile figO=run++left.takeWhile figO/\m=left.length) rest.length ⟨[],rest,by simp,rfl,rfl,rfl,rfl⟩ ?_;rintro m Y H2 ⟨run,left,rfl,rfl,hr,xK,rfl⟩;have o9:z.cps.toList=pre++(run++left):=by rw [N7,hr]
  have bD:rest.length=run.length+left.length:=by rw [hr,D1]
  have ecut:cutS z (some (pre.length:Int)) (some (((pre++run).length:Nat):Int))=⟨run.toArray⟩:=by
   have:=tV (y:=run) (rest:=left) o9
   rw [show (((pre++run).length:Nat):Int)=(pre.length:Int)+(run.length:Int) by rw [D1];lia];exact this
  have hpr:(pre++run).length=pre.length+run.length:=D1;walk_at "rd";refine ⟨hsz,iteD (fun D0=>⟨hsz,?_⟩) fun xL=>⟨hsz,?_⟩⟩
  .cases left with
   | nil=>simp at bD;lia
   | cons c l2=>
    refine ⟨c,?_,c,rfl,figO c,rfl,?_⟩
    .rw [o9,<- U1];exact ajW
    by_cases hf:figO c=true
    .rw [hf];refine iteT ⟨_,fun _ _ h=>h,l2.length,by simp,run++[c],by simp;lia,rfl,l2,by rw [hr];simp,?_,rfl⟩;rw [xK,List.takeWhile_cons_of_pos hf]
     simp
    .rw [jJ] at hf;rw [hf];refine iteF ⟨hsz,?_⟩;rw [ecut];rw [xK,List.takeWhile_cons_of_neg (by simp [hf]),L7] at q;exact q
  .have lQ:left=[]:=y9.mp (by lia);rw [xK,lQ,List.takeWhile_nil,L7] at q;rw [ecut];exact q
theorem sc_part_at:FnScope ["known", "text", "at", "figures", "two"] ["known", "text", "at", "figures"] (C6 aQ):=G8
abbrev lB:List Str:=["known", "text", "at", "figures", "two"]
theorem vbP:VS lB aQ "known" 0:=vq
theorem lC:VS lB aQ "text" 1:=vq
theorem iF:VS lB aQ "at" 2:=vq
theorem vbS:VS lB aQ "figures" 3:=vq
theorem vbT:VS lB aQ "two" 4:=vq
theorem vbU:LS aQ "two":=lq
theorem aix(F:FunD K "part_at" "part_at" aQ f fd)(T:Txt P w K mg C)(G_is_figure:FO P w K mg base 1 "is_figure" ["sign"] [] gZ)(G_figures_at:FO P w K mg base 2 "figures_at" ["text", "at"] [] ajX):FnOk P w K mg base E8 3 f fd ["known", "text", "at", "figures"] ajY:=by
 refine F.ok sc_part_at ?_ ?_
 .rintro _ _ _ _ ⟨d,z,g,pre,c,r,w,y,rfl,_⟩;rfl
 .intro cdv A outer s H vs Q E hr h;have C7:=hu_of hr;have hu:=hr.units;refine ⟨_,QSs.out (B1 (qs_if (QW.pt (kC (X5 (K:=K) (vi vbS)) (kB (X5 (K:=K) (F9 G_is_figure (hm hr) (qa_c (qe_ix (K:=K) (vi lC) (vi iF)) A6)))))) (B5 (E1 (F9 G_figures_at (hm hr) (qa_c (vi lC) (qa_c (vi iF) A6))))) J8)
   (B1 (D6 (n:=4) sc_part_at.nd rfl vbU (Q0 (K:=K) (vi lC) (M7 (vi iF)) (M7 (qe_op (q_add (K:=K)) (vi iF) A8))))
   (B1 (qs_if (D8 (q_in (K:=K) hu) (vi vbT) (vi vbP)) (B5 (E1 (vi vbT))) J8)
   (B1 (qs_if (D8 (q_in (K:=K) hu) (qe_ix (K:=K) (vi lC) (vi iF)) (vi vbP)) (B5 (E1 (qe_ix (K:=K) (vi lC) (vi iF)))) J8)
   (B5 nZ))))),?_⟩
  obtain ⟨d,z,g,pre,c,r,w,y,rfl,hd,hz,N7,hp,q⟩:=h;have hsz:z.length<=sizeLine:=Y4 (by lia);have ha:J9 z.cps.toList (pre.length:Int)=some c:=by rw [N7];exact ajW
  rw [eR] at hp
  cases w with
  | false=>
   rw [dU,if_neg K7] at hp;walk_at "rd"
   cases r with
   | nil=>
    rw [hW] at hp
    by_cases h1:one c∈g
    .rw [if_pos h1] at hp;obtain rfl:=Option.some.inj hp;rw [agg N7];refine ⟨hsz,rInR.d (Y2 (k:=Sum.inr (one c)) hd) ⟨_,rfl,?_⟩⟩;rw [cK,aA,decide_eq_true h1];exact iteT q
    .rw [if_neg h1] at hp;cases hp
   | cons e r=>
    rw [hX] at hp;have ec:cutS z (some (pre.length:Int)) (some ((pre.length:Int)+2))=two c e:=tV (y:=[c,e]) (rest:=r) N7;rw [ec];refine ⟨hsz,rInR.d (Y2 (k:=Sum.inr (two c e)) hd) ⟨_,rfl,?_⟩⟩;rw [cK,aA];refine iteD (fun h=>?_) fun h=>⟨hsz,c,ha,rInR.d (Y2 (k:=Sum.inr (one c)) hd) ⟨_,rfl,?_⟩⟩
    .rw [if_pos h] at hp;obtain rfl:=Option.some.inj hp;exact q
    .rw [if_neg h] at hp
     by_cases h1:one c∈g
     .rw [if_pos h1] at hp;obtain rfl:=Option.some.inj hp;rw [cK,aA,decide_eq_true h1];exact iteT ⟨hsz,c,ha,q⟩
     .rw [if_neg h1] at hp;cases hp
  | true=>
   rw [Bool.true_and] at hp;walk_at "rd";refine ⟨hsz,c,ha,c,rfl,figO c,rfl,?_⟩
   by_cases hf:figO c=true
   .rw [hf];rw [if_pos hf] at hp;obtain rfl:=Option.some.inj hp;exact iteT ⟨z,pre,c::r,rfl,hz,N7,q⟩
   rw [if_neg hf] at hp;rw [jJ] at hf;rw [hf];refine iteF ?_
   cases r with
   | nil=>
    rw [hW] at hp
    by_cases h1:one c∈g
    .rw [if_pos h1] at hp;obtain rfl:=Option.some.inj hp;rw [agg N7];refine ⟨hsz,rInR.d (Y2 (k:=Sum.inr (one c)) hd) ⟨_,rfl,?_⟩⟩;rw [cK,aA,decide_eq_true h1];exact iteT q
    .rw [if_neg h1] at hp;cases hp
   | cons e r=>
    rw [hX] at hp;have ec:cutS z (some (pre.length:Int)) (some ((pre.length:Int)+2))=two c e:=tV (y:=[c,e]) (rest:=r) N7;rw [ec];refine ⟨hsz,rInR.d (Y2 (k:=Sum.inr (two c e)) hd) ⟨_,rfl,?_⟩⟩;rw [cK,aA];refine iteD (fun h=>?_) fun h=>⟨hsz,c,ha,rInR.d (Y2 (k:=Sum.inr (one c)) hd) ⟨_,rfl,?_⟩⟩
    .rw [if_pos h] at hp;obtain rfl:=Option.some.inj hp;exact q
    .rw [if_neg h] at hp
     by_cases h1:one c∈g
     .rw [if_pos h1] at hp;obtain rfl:=Option.some.inj hp;rw [cK,aA,decide_eq_true h1];exact iteT ⟨hsz,c,ha,q⟩
     .rw [if_neg h1] at hp;cases hp
theorem sc_cut:FnScope ["known", "text", "figures", "pieces", "parts", "at", "part"] ["known", "text", "figures"] (C6 s_cut):=G8
abbrev n_cut:List Str:=["known", "text", "figures", "pieces", "parts", "at", "part"]
theorem vbV:VS n_cut s_cut "known" 0:=vq
theorem vbW:VS n_cut s_cut "text" 1:=vq
theorem vbX:VS n_cut s_cut "figures" 2:=vq
theorem vbY:VS n_cut s_cut "pieces" 3:=vq
theorem vbZ:VS n_cut s_cut "parts" 4:=vq
theorem vb0:VS n_cut s_cut "at" 5:=vq
theorem vb1:VS n_cut s_cut "part" 6:=vq
theorem vb2:LS s_cut "pieces":=lq
theorem vb3:LS s_cut "parts":=lq
theorem vb4:LS s_cut "at":=lq
theorem vb5:LS s_cut "part":=lq
theorem al2(F:FunD K "cut" "cut" s_cut f fd)(T:Txt P w K mg C)(G_part_at:FO P w K mg base 3 "part_at" ["known", "text", "at", "figures"] [] ajY):FnOk P w K mg base E8 4 f fd ["known", "text", "figures"] (oU K):=by
 refine F.ok sc_cut ?_ ?_
 .rintro _ _ _ _ ⟨a,z,ks,w,rfl,_⟩;rfl
 .intro cdv A outer s H vs Q E hr h;have C7:=hu_of hr;have hu:=hr.units;refine ⟨_,QSs.out (B1 (D6 (n:=3) sc_cut.nd rfl vb2 (qe_cT (ajo (K:=K) (calm:=true)) T.b_dict ajd (qa_c (Y6  (R3:CompOk ["known", "text", "figures", "pieces", "parts", "at", "part"] (C6 s_cut).names _ ["piece"] 1 []) (M9 (K:=K) (vi vbV)) (fun _ _ _ _ _=>D7 (n:=0) (show List.Nodup (["piece"]:List Str) by decide +kernel) rfl (Or.inl rfl)) (fun _ _ _ _ _=>eN) (fun _ _ _ _ _=>(L8 (qa_c (qv 0) (qa_c qe_bl A6))))) A6)))
   (B1 (D6 (n:=4) sc_cut.nd rfl vb3 (N9 A6))
   (B1 (D6 (n:=5) sc_cut.nd rfl vb4 A8)
   (B1 (oA PassesOwn.never (D8 q_lt (vi vb0) (qe_cB (q_len (K:=K)) T.b_len X2 (qa_c (vi vbW) A6))) (B1 (D6 (n:=6) sc_cut.nd rfl vb5 (F9 G_part_at (hm hr) (qa_c (vi vbY) (qa_c (vi vbW) (qa_c (vi vb0) (qa_c (vi vbX) A6))))))
   (B1 (O3 (qe_mB (K:=K) O2 V7 V6 W2 (vi vbZ) (qa_c (vi vb1) A6)))
   (B5 (alM (n:=5) sc_cut.nd rfl vb4 (qe_cB (q_len (K:=K)) T.b_len X2 (qa_c (vi vb1) A6)) alO)))))
   (B5 (E1 (vi vbZ))))))),?_⟩
  obtain ⟨a,z,ks,w,rfl,hS,W5,hz,hw,q⟩:=h;walk_at "rd";refine ⟨⟨_,hS⟩,compL (xs:=ks.map V.str) [] rfl (fun D i ys H4=>∃ ts:List Addr,ys=ts.map V.ref/\Paired (fun t k=>H4 t=some (.tup [V.str k,V.bl true])) ts (ks.take i)/\Same H H4) (fun D nD=>⟨[],rfl,.nil,Same.new nD⟩) (by rintro D i ys H4 nD _ ⟨_,_,_,S⟩;exact S.seq hS) ?_ ?_⟩
  .rintro D i x ys H4 nD hi hx ⟨ts,rfl,P,S⟩ hD hy;obtain ⟨k,hk,rfl⟩:=G5 hx;rw [A7] at hi;walk_at "rd";refine ⟨by decide,fun t nt=>⟨B3 hD nt,G7 (by lia),CW.put (by rw [A7];exact hi) hy ⟨ts++[t],by rw [E4];rfl,?_,Same.put (fun b o h=>B3 (S b o h) nt) nD⟩⟩⟩;have hDt:D≠t:=fun e=>by rw [e,nt] at hD;cases hD
   rw [U0,hk,dY];refine Paired.snoc (O6 P fun r k h=>?_) (by rw [A9 hDt.symm,A5]);rw [A9 (fun e=>by rw [e,hD] at h;cases h)];exact B3 h nt
  rintro D ys H4 nD ⟨ts,rfl,P,S⟩ hD hy;rw [A7,K4] at P;have P2:Paired (fun t (kx:C3×V)=>C9 K H4 t [kV kx.1,kx.2]) ts (kvOf ks):=by
   clear hD hy nD S W5 hS q hw
   induction P with
   | nil=>exact .nil
   | cons h t ih=>exact .cons (.of h) ih
  refine ⟨rfl,D,ts,kvOf ks,rfl,.of hD,P2,fun d nd=>?_⟩;rw [show W0 [] (kvOf ks)=kvOf (E9 [] ks) from aeY ks []];have S1:Same H (A4 H4 d (.dK (kvOf (E9 [] ks)))):=fun b o h=>B3 (S b o h) nd
  have hd:A4 H4 d (.dK (kvOf (E9 [] ks))) d=some (.dK (kvOf (E9 [] ks))):=A5;generalize A4 H4 d (.dK (kvOf (E9 [] ks)))=H5 at S1 hd;have xM:∀ l,cutF w (E9 [] ks) l=cutF w ks l:=aij fun x=>by rw [m5];simp
  generalize E9 [] ks=g at hd xM;refine fun p np=>oC (fun m Y H6=>∃ (pre rest:List Nat) (ps:List Str) (u:Option V),Y=[some (.ref a),some (.str z),some (.bl w),some (.ref d),some (.ref p),some (.int pre.length),u]/\Same H5 H6/\H6 p=some (.lst (ps.map V.str))/\z.cps.toList=pre++rest/\(cutF w g z.cps.toList).1=pre.length+(cutF w g rest).1/\(cutF w g z.cps.toList).2=ps++(cutF w g rest).2/\ps.length<=pre.length/\m=rest.length) z.cps.toList.length
   ⟨[],z.cps.toList,[],none,rfl,Same.new np,A5,rfl,by simp,rfl,K1 _,rfl⟩ ?_
  rintro m Y H6 ⟨pre,rest,ps,u,rfl,S6,h6,N7,mS,x5,R8,rfl⟩;have C1:z.length=pre.length+rest.length:=by
   have:=congrArg X9 N7
   simp [Str.length] at this ⊢
   lia
  walk_at "rd";refine ⟨Y4 (by lia),iteD (fun D0=>?_) fun xL=>?_⟩
  .cases rest with
   | nil=>simp at C1;lia
   | cons c r=>
    cases hy:partF w g (c::r) with
    | none=>
     exfalso
     rw [kN hy] at mS;have xN:=hw;unfold iA at xN;rw [<- xM,mS] at xN;simp at C1 xN;lia
    | some y=>
     refine ⟨_,fun _ _ h=>h,d,z,g,pre,c,r,w,y,rfl,S6 _ _ hd,hz,N7,hy,?_⟩;obtain ⟨rest',e1,e2,e3⟩:=hZ hy;rw [e2] at mS x5;have el:y.cps.toList.length=y.length:=by simp [Str.length]
     have erl:(c::r).length=y.length+rest'.length:=by rw [e1,D1,el]
     refine ⟨N4 h6,appOk h6 (by rw [A7];exact G7 (by lia)) ?_⟩;walk_at "rd";refine ⟨Y4 (by lia),rest'.length,by rw [F8] at erl;lia,pre++y.cps.toList,by rw [D1,el];lia,S6.put np,rest',ps++[y],by rw [A5,E4];rfl,N7.trans (by rw [U1];exact congrArg (pre++·) e1),by rw [D1,el,mS];dsimp only;lia,by rw [x5,U1];rfl,by rw [D1,D1,el,W7];lia,rfl⟩
  .have hr:rest=[]:=y9.mp (by lia);rw [hr] at mS x5;refine q p H6 (S1.free np) (S1.trans S6) ?_;rw [h6,<- xM,x5];show some (HO.lst (ps.map V.str))=some (HO.lst ((ps++[]).map V.str));rw [L7]
theorem aeD:FnScope ["self"] ["self"] (C6 eV):=G8
abbrev afA:List Str:=["self"]
theorem vb6:VS afA eV "self" 0:=vq
theorem aeE(F:FunD K "known" "Order.known" eV f fd)(T:Txt P w K mg C):FnOk P w K mg base E8 1 f fd ["self"] (tW C):=by
 refine F.ok aeD ?_ ?_
 .rintro _ _ _ _ ⟨x,j,ll,ml,md,g,R,L,M,rfl,_⟩;rfl
 .intro cdv A outer s H vs Q E hr h;have C7:=hu_of hr;have hu:=hr.units;refine ⟨_,QSs.out (B5 (E1 (qe_cT (Z9 (K:=K) (calm:=true)) T.b_list Y3 (qa_c (l9 (K:=K) (vi vb6)) A6)))),?_⟩;obtain ⟨x,j,ll,ml,md,g,R,L,M,rfl,hO,q⟩:=h;obtain ⟨dx,h1⟩:=hO.ob;walk_at "rd";refine ⟨_,_,_,h1,T.cl,T.na_jobs,_,af8 _ _ _ _ _ _,?_⟩;walk_at "rd";refine rListR.d (.of hO.jobs) fun l nl=>?_
  rw [show (C2 (keysP (D4 R)++Y7 R) (jobG g)).map (fun kv=>kV kv.1)=(Q1 R).map V.str by unfold C2 Q1;rw [g8];rfl];exact q l nl
theorem aeF:FnScope ["self", "piece"] ["self", "piece"] (C6 cP):=G8
abbrev adq:List Str:=["self", "piece"]
theorem vb7:VS adq cP "self" 0:=vq
theorem vb8:VS adq cP "piece" 1:=vq
theorem aeG(F:FunD K "steps" "Order.steps" cP f fd)(T:Txt P w K mg C):FnOk P w K mg base E8 1 f fd ["self", "piece"] (oV C):=by
 refine F.ok aeF ?_ ?_
 .rintro _ _ _ _ ⟨x,j,ll,ml,md,p,g,R,L,M,rfl,_⟩;rfl
 .intro cdv A outer s H vs Q E hr h;have C7:=hu_of hr;have hu:=hr.units;refine ⟨_,QSs.out (B5 (E1 (ak5 C7 (l9 (K:=K) (vi vb7)) (vi vb8) (L8 A6)))),?_⟩;obtain ⟨x,j,ll,ml,md,p,g,R,L,M,rfl,hO,q⟩:=h;obtain ⟨dx,h1⟩:=hO.ob;obtain ⟨ad,a1,a2⟩:=hO.made;walk_at "rd";refine ⟨_,_,_,h1,T.cl,T.na_made,_,ajZ _ _ _ _ _ _,md,rfl,.inl ⟨_,.inl a1⟩,fun e ne=>⟨_,Y2 (k:=Sum.inr p) (B3 a1 ne),?_⟩⟩;rw [O4];have S:Same H (A4 H e (.tup [])):=Same.new ne
  by_cases hp:p∈E9 [] (allKs R L M)
  .rw [if_pos hp];exact q _ _ S ((a2 p hp).same S)
  .rw [if_neg hp];refine q _ _ S ⟨[],A5,?_⟩;rw [aik fun h=>hp ((m5 _ _ _).mpr (.inr h))];exact .nil
theorem aha:FnScope ["order", "text"] ["order", "text"] (C6 kR):=G8
abbrev ae8:List Str:=["order", "text"]
theorem vb9:VS ae8 kR "order" 0:=vq
theorem vca:VS ae8 kR "text" 1:=vq
theorem ahb(F:FunD K "parts_of" "parts_of" kR f fd)(T:Txt P w K mg C)(G3_cut:FO P w K mg base 4 "cut" ["known", "text", "figures"] [] (oU K))(G_Order_known:MO P w K mg base 1 C "known" ["self"] (tW C)):FnOk P w K mg base E8 5 f fd ["order", "text"] (ahG C):=by
 refine F.ok aha ?_ ?_
 .rintro _ _ _ _ ⟨x,j,ll,ml,md,z,g,R,L,M,rfl,_⟩;rfl
 .intro cdv A outer s H vs Q E hr h;have C7:=hu_of hr;have hu:=hr.units;refine ⟨_,QSs.out (B5 (E1 (F9 G3_cut (hm hr) (qa_c (tD (vi vb9) G_Order_known (hm hr)) (qa_c (vi vca) (qa_c (l9 (K:=K) (vi vb9)) A6)))))),?_⟩;obtain ⟨x,j,ll,ml,md,z,g,R,L,M,rfl,hO,hk,hz,hw,q⟩:=h;obtain ⟨dx,h1⟩:=hO.ob;walk_at "rd";refine ⟨_,_,h1,kK _ _ _ _ _ _ (by decide +kernel),x,j,ll,ml,md,g,R,L,M,rfl,hO,fun l nl=>?_⟩;have S:Same H (A4 H l (.lst ((Q1 R).map V.str))):=Same.new nl;exact ⟨_,_,_,S _ _ h1,T.cl,T.na_figures,_,adO _ _ _ _ _ _,l,z,Q1 R,_,rfl,.of A5,hk,hz,hw,fun l2 H2 n2 S2 h2=>q l2 H2 (S.free n2) (S.trans S2) h2⟩
theorem ahc:FnScope ["order", "part"] ["order", "part"] (C6 kS):=G8
abbrev ae9:List Str:=["order", "part"]
theorem vcb:VS ae9 kS "order" 0:=vq
theorem vA:VS ae9 kS "part" 1:=vq
theorem ahd(F:FunD K "steps_by" "steps_by" kS f fd)(T:Txt P w K mg C)(G_is_figure:FO P w K mg base 1 "is_figure" ["sign"] [] gZ)(G_Order_steps:MO P w K mg base 1 C "steps" ["self", "piece"] (oV C)):FnOk P w K mg base E8 2 f fd ["order", "part"] (agh C):=by
 refine F.ok ahc ?_ ?_
 .rintro _ _ _ _ ⟨x,j,ll,ml,md,c,r,y,g,R,L,M,rfl,_⟩;rfl
 .intro cdv A outer s H vs Q E hr h;have C7:=hu_of hr;have hu:=hr.units;refine ⟨_,QSs.out (B1 (qs_if (QW.pt (kC (X5 (K:=K) (l9 (K:=K) (vi vcb))) (kB (X5 (K:=K) (F9 G_is_figure (hm hr) (qa_c (qe_ix (K:=K) (vi vA) A8) A6)))))) (B5 (E1 (L8 (qa_c (L8 (qa_c (gN T.g_FIGURES) (qa_c (qe_cT alY T.b_int alL (qa_c (vi vA) A6)) (qa_c A8 A6)))) A6)))) J8)
   (B5 (E1 (ajz (vi vcb) G_Order_steps (hm hr) (qa_c (vi vA) A6))))),?_⟩
  obtain ⟨x,j,ll,ml,md,c,r,y,g,R,L,M,rfl,hy,T4,hO,hf,q⟩:=h;obtain ⟨dx,h1⟩:=hO.ob;have xO:y.cps.toList.headD 0=c:=by rw [hy];rfl
  walk_at "rd";refine ⟨_,_,_,h1,T.cl,T.na_figures,_,adO _ _ _ _ _ _,?_⟩;walk_at "rd";have fin:stepY R L M y=stepF R L M y->∃ x_5 x_6,H x=some (HO.ins C x_5 x_6)/\bU (Str.ofString "steps") x_6=none/\oV C [V.ref x,V.str y] H Q E0:=fun e=>⟨_,_,h1,kK _ _ _ _ _ _ (by decide +kernel),x,j,ll,ml,md,y,g,R,L,M,rfl,hO,by rw [<- e];exact q⟩
  by_cases hw:hasW R "figures"=true
  .rw [if_pos hw];refine ⟨Y4 (by lia),c,by rw [hy];exact N5 _ _,c,rfl,?_⟩
   by_cases hc:figO c=true
   .have hsy:stepY R L M y=[(1,((jL y.cps.toList:Nat):Int),0)]:=by unfold stepY;rw [hw,xO,hc];rfl
    have hAD:=hf hw (by rw [xO];exact hc);rw [hc];walk_at "rd";refine ⟨hAD,by rw [<- lenL,hy];simp,T4,by decide,fun p np=>⟨by decide,fun p1 R0=>?_⟩⟩;refine q p1 _ ((Same.new np).trans (Same.new R0)) ?_;rw [hsy];exact StepAt.one A5 (B3 A5 R0)
   .rw [jJ] at hc;rw [hc];walk_at "rd";exact fin (by unfold stepY;rw [xO,hc,Bool.and_false,if_neg K7])
  .rw [if_neg hw];rw [jJ] at hw;exact fin (by rw [ahH hw])
theorem ahe:FnScope ["made", "place"] ["made", "place"] (C6 kT):=G8
abbrev afa:List Str:=["made", "place"]
theorem vB:VS afa kT "made" 0:=vq
theorem vce:VS afa kT "place" 1:=vq
theorem ahf(F:FunD K "add_mark" "add_mark" kT f fd)(T:Txt P w K mg C):FnOk P w K mg base E8 1 f fd ["made", "place"] (agi K):=by
 refine F.ok ahe ?_ ?_
 .rintro _ _ _ _ ⟨l,p,H0,es,U,rfl,_⟩;rfl
 .intro cdv A outer s H vs Q E hr h;have C7:=hu_of hr;have hu:=hr.units;refine ⟨_,QSs.out (eP (qs_if (nY (X5 (K:=K) (vi vB))) (B5 (O3 (qe_mB (K:=K) O2 V7 V6 W2 (vi vB) (qa_c (L8 (qa_c (gN T.g_MARK) (qa_c A8 (qa_c (N9 A6) (qa_c A8 A6))))) A6)))) J8)
   (B5 (O3 (qe_mB (K:=K) O2 V7 V6 W2 (qe_ix (K:=K) (qe_ix (K:=K) (vi vB) (qe_un q_neg A8)) A8) (qa_c (vi vce) A6))))),?_⟩
  obtain ⟨l,p,H0,es,U,rfl,J,hU,hM,q⟩:=h;walk_at "rd";refine gQ (fun Y H1=>∃ (es':List (Addr×Addr)) (e:Addr×Addr) (U':List M5) (u:M5),Y=[some (.ref l),some (.int p)]/\UnI H0 H1 l (es'++[e]) (U'++[u])/\addM U p=U'++[(u.1,u.2.1,u.2.2.1++[p],u.2.2.2)]/\u.2.2.1.length<=10000) ?_ ?_
  .walk_at "rd";refine ⟨_,gR J.top,?_⟩
   by_cases he:es=[]
   .subst he;have hU0:=ain J.row;subst hU0;simp only [List.map_nil,List.isEmpty_nil,Bool.not_true,Bool.not_false,if_true];refine ⟨N4 J.top,fun m nm=>⟨by decide,fun t nt=>appOk ((Same.new nm).trans (Same.new nt) _ _ J.top) (by decide) ⟨[],(t,m),[],(0,0,[],0),?_,rfl,by decide⟩⟩⟩;exact J.push nm nt
   .obtain ⟨es',e,rfl⟩:=aj0 he;have hUn:U≠[]:=fun h=>by subst h;have:=Paired.length J.row;simp at this
    obtain ⟨U',u,rfl⟩:=aj0 hUn;have G3:((es'++[e]).map fun e=>V.ref e.1).isEmpty=false:=by simp
    rw [G3];simp only [Bool.not_false,Bool.not_true,Bool.false_eq_true,if_false];refine ⟨es',e,U',u,J,?_,hM u (by simp)⟩;unfold addM;rw [List.getLast?_append,List.getLast?_singleton]
    simp
  rintro Y H1 ⟨es',e,U',u,rfl,J1,ea,hul⟩;obtain ⟨hr,hu⟩:=sS J1.row;have N6:J9 ((es'++[e]).map fun e=>V.ref e.1) (-1)=some (V.ref e.1):=by rw [E4];exact rZ _ _
  walk_at "rd";refine ⟨_,.inl (.of J1.top),_,N6,?_⟩;walk_at "rd";refine ⟨_,.inr (.of hu.1),V.ref e.2,P9 (j:=2) rfl,N4 hu.2,appOk hu.2 (by rw [A7];exact G7 (by lia)) ?_⟩;refine q (es'++[e]) _ ?_;rw [ea];exact J1.mark p
theorem sc_add_part:FnScope ["order", "made", "part", "kind", "worth", "case"] ["order", "made", "part"] (C6 i6):=G8
abbrev iG:List Str:=["order", "made", "part", "kind", "worth", "case"]
theorem vcf:VS iG i6 "order" 0:=vq
theorem vcg:VS iG i6 "made" 1:=vq
theorem vch:VS iG i6 "part" 2:=vq
theorem vci:VS iG i6 "kind" 3:=vq
theorem vcj:VS iG i6 "worth" 4:=vq
theorem vck:VS iG i6 "case" 5:=vq
theorem vcl:LS i6 "kind":=lq
theorem vcm:LS i6 "worth":=lq
theorem vcn:LS i6 "case":=lq
theorem ahg(F:FunD K "add_part" "add_part" i6 f fd)(T:Txt P w K mg C)(G_steps_by:FO P w K mg base 2 "steps_by" ["order", "part"] [] (agh C))(G_add_mark:FO P w K mg base 1 "add_mark" ["made", "place"] [] (agi K)):FnOk P w K mg base E8 3 f fd ["order", "made", "part"] (agj C):=by
 refine F.ok sc_add_part ?_ ?_
 .rintro _ _ _ _ ⟨x,l,j,ll,ml,md,c,r,y,g,R,L,M,H0,es,U,rfl,_⟩;rfl
 .intro cdv A outer s H vs Q E hr h;have C7:=hu_of hr;have hu:=hr.units;refine ⟨_,QSs.out (B5 (M8 PassesOwn.never (cF (K:=K) (F9 G_steps_by (hm hr) (qa_c (vi vcf) (qa_c (vi vch) A6)))) (aM (K:=K) (n:=3) (Q5 ((D7 (n:=3) sc_add_part.nd rfl vcl (.inl rfl))) (Q5 ((D7 (n:=4) sc_add_part.nd rfl vcm (.inl rfl))) (Q5 ((D7 (n:=5) sc_add_part.nd rfl vcn (.inl rfl))) aL)))) (B5 (qs_if (D8 (q_eq (K:=K) hu) (vi vci) (gN T.g_MARK)) (B5 (O3 (F9 G_add_mark (hm hr) (qa_c (vi vcg) (qa_c (vi vcj) A6))))) (B5 (O3 (qe_mB (K:=K) O2 V7 V6 W2 (vi vcg) (qa_c (L8 (qa_c (vi vci) (qa_c (vi vcj) (qa_c (N9 A6) (qa_c (vi vck) A6))))) A6)))))))),?_⟩;obtain ⟨x,l,j,ll,ml,md,c,r,y,g,R,L,M,H0,es,U,rfl,hy,T4,hO,hf,J,hs,hU,hM,q⟩:=h;walk_at "rd";refine ⟨x,j,ll,ml,md,c,r,y,g,R,L,M,rfl,hy,T4,hO.same J.same,hf,fun a H1 S1 T8=>?_⟩;obtain ⟨ts,e1,e2⟩:=T8.ex;obtain ⟨H0',B0,J0,tp⟩:=(J.more S1).cut;have e1':=tp _ _ e1;have e2':=O6 e2 fun t s (e:H1 t=some (tupT s))=>(show H0' t=some (tupT s) from tp _ _ e)
  generalize stepY R L M y=ss at hs e2 e2' q;refine ⟨a,rfl,⟨_,.of e1⟩,forT (xs:=ts.map V.ref) (fun i Y H2=>∃ (u v w:Option V) (es:List (Addr×Addr)),Y=[some (.ref x),some (.ref l),some (.str y),u,v,w]/\UnI H0' H2 l es ((ss.take i).foldl addS U)) ⟨none,none,none,es,rfl,J0⟩ (by rintro i Y H2 _ ⟨_,_,_,_,_,h⟩;exact .of (h.same _ _ e1')) ?_ ?_⟩
  .rintro i v Y H2 hv ⟨u1,u2,u3,es,rfl,J2⟩;obtain ⟨t,ht,rfl⟩:=G5 hv;obtain ⟨s',qE,hts⟩:=Paired.at e2' ht;have hi:i<ss.length:=(G9.mp qE).1;have e9:=tX (ss.take i) U;have bA:=tY (ss.take i) U 9000 hM;rw [K5] at e9 bA;have et:(ss.take (i+1)).foldl addS U=addS ((ss.take i).foldl addS U) s':=by rw [L9 qE,j3];rfl
   have htt:C9 K H2 t [V.int s'.1,V.int s'.2.1,V.int s'.2.2]:=.of (J2.same _ _ hts);walk_at "rd";refine ⟨_,htt,rfl,_,_,rfl,_,_,rfl,_,_,rfl,rfl,?_⟩;walk_at "rd";rw [et];generalize (ss.take i).foldl addS U=U2 at J2 e9 bA;refine iteD (fun e=>⟨l,s'.2.1,H0',es,U2,rfl,J2,by lia,fun u hu=>by have:=bA u hu;lia,fun es' H3 J3=>?_⟩) fun e=>⟨N4 J2.top,fun m nm=>⟨by decide,fun t2 p5=>appOk ((Same.new nm).trans (Same.new p5) _ _ J2.top) (by rw [A7,Paired.length J2.row];exact G7 (by lia)) ?_⟩⟩
   .unfold addS;rw [if_pos e];exact ⟨es',J3⟩
   .unfold addS;rw [if_neg e];exact ⟨_,J2.push nm p5⟩
  rintro Y H2 ⟨u1,u2,u3,es,rfl,J2⟩;rw [A7,Paired.length e2,K4] at J2;exact q es H2 (J2.base B0)
theorem sc_units:FnScope ["order", "text", "made", "part"] ["order", "text"] (C6 u9):=G8
abbrev pH:List Str:=["order", "text", "made", "part"]
theorem vco:VS pH u9 "order" 0:=vq
theorem vcp:VS pH u9 "text" 1:=vq
theorem vcq:VS pH u9 "made" 2:=vq
theorem vcr:VS pH u9 "part" 3:=vq
theorem vcs:LS u9 "made":=lq
theorem vct:LS u9 "part":=lq
theorem alC(F:FunD K "units" "units" u9 f fd)(T:Txt P w K mg C)(G_parts_of:FO P w K mg base 5 "parts_of" ["order", "text"] [] (ahG C))(G_add_part:FO P w K mg base 3 "add_part" ["order", "made", "part"] [] (agj C)):FnOk P w K mg base E8 6 f fd ["order", "text"] (aj1 C):=by
 refine F.ok sc_units ?_ ?_
 .rintro _ _ _ _ ⟨x,j,ll,ml,md,z,g,R,L,M,rfl,_⟩;rfl
 .intro cdv A outer s H vs Q E hr h;have C7:=hu_of hr;have hu:=hr.units;refine ⟨_,QSs.out (B1 (D6 (n:=2) sc_units.nd rfl vcs (N9 A6))
   (B1 (M8 PassesOwn.never (M9 (K:=K) (F9 G_parts_of (hm hr) (qa_c (vi vco) (qa_c (vi vcp) A6)))) (D7 (n:=3) sc_units.nd rfl vct (.inl rfl)) (B5 (O3 (F9 G_add_part (hm hr) (qa_c (vi vco) (qa_c (vi vcq) (qa_c (vi vcr) A6)))))))
   (B5 (E1 (Y6  (R3:CompOk ["order", "text", "made", "part"] (C6 u9).names _ ["kind", "worth", "marks", "case"] 4 []) (M9 (K:=K) (vi vcq)) (fun _ _ _ _ _=>(aM (K:=K) (n:=4) (Q5 (D7 (n:=0) (show List.Nodup (["kind", "worth", "marks", "case"]:List Str) by decide +kernel) rfl (Or.inl rfl)) (Q5 (D7 (n:=1) (show List.Nodup (["kind", "worth", "marks", "case"]:List Str) by decide +kernel) rfl (Or.inl rfl)) (Q5 (D7 (n:=2) (show List.Nodup (["kind", "worth", "marks", "case"]:List Str) by decide +kernel) rfl (Or.inl rfl)) (Q5 (D7 (n:=3) (show List.Nodup (["kind", "worth", "marks", "case"]:List Str) by decide +kernel) rfl (Or.inl rfl)) aL)))))) (fun _ _ _ _ _=>eN) (fun _ _ _ _ _=>(L8 (qa_c (qv 0) (qa_c (qv 1) (qa_c (qe_cT (cG (K:=K)) T.b_tuple aJ (qa_c (qv 2) A6)) (qa_c (qv 3) A6))))))))))),?_⟩
  obtain ⟨x,j,ll,ml,md,z,g,R,L,M,rfl,hO,hk,hz,hw,hs,q⟩:=h;have hf:=ahI (w:=hasW R "figures") (g:=Q1 R) _ z.cps.toList (C5 _);have G3:=aj2 (w:=hasW R "figures") (g:=Q1 R) _ z.cps.toList (C5 _);have qR:=(ae2 (w:=hasW R "figures") (g:=Q1 R) _ z.cps.toList (C5 _)).2.1;rw [lenL] at qR;have p6:=agl (w:=hasW R "figures") (g:=Q1 R) _ z.cps.toList (C5 _);rw [lenL] at p6;walk_at "rd";intro l nl;have S1:Same H (A4 H l (.lst [])):=Same.new nl;have W6:A4 H l (.lst []) l=some (.lst []):=A5;generalize A4 H l (.lst [])=H1 at S1 W6;refine ⟨x,j,ll,ml,md,z,g,R,L,M,rfl,hO.same S1,hk,by lia,hw,fun a H2 na S2 ha=>?_⟩;generalize (cutF (hasW R "figures") (Q1 R) z.cps.toList).2=ps at ha hf G3 qR p6 q;have nal:a≠l:=fun e=>by rw [e,W6] at na;cases na
  have C0:UnI (cutH H2 [l]) H2 l [] []:=⟨S2 _ _ W6,.nil,by simp,fun b hb=>by unfold cutH;exact if_pos (by simpa using hb),agk _ _⟩
  have S0:Same H (cutH H2 [l]):=fun b o hb=>by
   unfold cutH;rw [if_neg (fun e=>by rw [E6.mp e,nl] at hb;cases hb)];exact S2 _ _ (S1 _ _ hb)
  have ha0:cutH H2 [l] a=some (.lst (ps.map V.str)):=by
   unfold cutH;rw [if_neg (fun e=>nal (E6.mp e))];exact ha
  have hO0:=hO.same S0;generalize cutH H2 [l]=H0 at C0 S0 ha0 hO0;refine ⟨a,rfl,⟨_,.of ha⟩,forL (xs:=ps.map V.str) (fun i Y H3=>∃ (u:Option V) (es:List (Addr×Addr)),Y=[some (.ref x),some (.str z),some (.ref l),u]/\UnI H0 H3 l es (m6 (stepY R L M) (ps.take i))) ⟨none,[],rfl,C0⟩ (by rintro i Y H3 _ ⟨_,_,_,h⟩;exact .of (h.same _ _ ha0)) ?_ ?_⟩
  .rintro i v Y H3 hv ⟨u,es,rfl,J⟩;obtain ⟨y,hy,rfl⟩:=G5 hv;have hi:i<ps.length:=(G9.mp hy).1;have xP:=L3 hy;obtain ⟨C7,aZ⟩:=ae4 (S:=stepY R L M) hs (ps.take i);rw [K5] at C7 aZ;obtain ⟨c,r,hcr⟩:∃ c r,y.cps.toList=c::r:=by
    have:=G3 y xP
    rw [<- lenL] at this;cases e:y.cps.toList with
    | nil=>rw [e] at this;simp at this
    | cons c r=>exact ⟨c,r,rfl⟩
   have T4:y.length<=640:=by have:=p6 y xP;lia
   walk_at "rd";refine ⟨x,l,j,ll,ml,md,c,r,y,g,R,L,M,H0,es,_,rfl,hcr,T4,hO0,hf y xP,J,by have:=hs y;lia,by lia,fun v hv=>by have:=aZ v hv;lia,fun es' H4 J4=>?_⟩;rw [<- agZ hy] at J4;exact ⟨es',J4⟩
  rintro Y H3 ⟨u,es,rfl,J⟩;rw [A7,K4] at J;obtain ⟨C7,aZ⟩:=ae4 (S:=stepY R L M) hs ps;have x8:=Paired.length J.row;generalize m6 (stepY R L M) ps=U at J C7 aZ x8 q;walk_at "rd";refine ⟨⟨_,.of J.top⟩,ao4 (xs:=es.map fun e=>V.ref e.1) [] rfl (fun D i ys H4=>∃ fs:List (Addr×Addr),ys=fs.map (fun e=>V.ref e.1)/\Same H3 H4/\Paired (fun e (u:M5)=>H4 e.1=some (.tup [.int u.1,.int u.2.1,.ref e.2,.int u.2.2.2])/\H4 e.2=some (.tup (u.2.2.1.map V.int))) fs (U.take i)) (fun D nD=>⟨[],rfl,Same.new nD,.nil⟩) (by rintro D i ys H4 nD _ ⟨_,_,S,_⟩;exact .of (S _ _ J.top)) ?_ ?_⟩
  .rintro D i v ys H4 nD hi hv ⟨fs,rfl,S4,P⟩ hD T4;obtain ⟨e,he,rfl⟩:=G5 hv;obtain ⟨w,hw,hue⟩:=Paired.at J.row he;have x9:fs.length<=7500:=by
    have:=Paired.length P
    rw [K5] at this;lia
   refine ⟨e.1,_,_,_,_,rfl,.of (S4 _ _ hue.1),?_⟩;walk_at "rd";refine rTupR.l (.of (S4 _ _ hue.2)) fun m nm=>⟨by decide,fun t nt=>?_⟩
   have S5:Same H4 (A4 (A4 H4 m (.tup (w.2.2.1.map V.int))) t (.tup [V.int w.1,V.int w.2.1,V.ref m,V.int w.2.2.2])):=(Same.new nm).trans (Same.new nt);have xQ:A4 (A4 H4 m (.tup (w.2.2.1.map V.int))) t (.tup [V.int w.1,V.int w.2.1,V.ref m,V.int w.2.2.2]) m=some (.tup (w.2.2.1.map V.int)):=B3 A5 nt;have xR:A4 (A4 H4 m (.tup (w.2.2.1.map V.int))) t (.tup [V.int w.1,V.int w.2.1,V.ref m,V.int w.2.2.2]) t=some (.tup [V.int w.1,V.int w.2.1,V.ref m,V.int w.2.2.2]):=A5;generalize A4 (A4 H4 m (.tup (w.2.2.1.map V.int))) t (.tup [V.int w.1,V.int w.2.1,V.ref m,V.int w.2.2.2])=H5 at S5 xQ xR;have hD5:=S5 _ _ hD;have dn:∀ {b:Addr} {xs:List V},H5 b=some (.tup xs)->b≠D:=fun h q=>by rw [q,hD5] at h;cases h
   refine ⟨hD5,by rw [A7];exact G7 (by lia),hi,by rw [D1,W7];lia,⟨_,_,_,_,rfl⟩,fs++[(t,m)],by rw [E4];rfl,(S4.trans S5).put nD,?_⟩;rw [L9 hw];refine Paired.snoc (O6 P fun f w h=>⟨?_,?_⟩) ⟨?_,?_⟩
   .rw [A9 (dn (S5 _ _ h.1))];exact S5 _ _ h.1
   .rw [A9 (dn (S5 _ _ h.2))];exact S5 _ _ h.2
   .rw [A9 (dn xR)];exact xR
   .rw [A9 (dn xQ)];exact xQ
  rintro D ys H4 nD ⟨fs,rfl,S4,P⟩ hD T4;rw [A7,x8,K4] at P;have SS:Same H H3:=S0.trans J.same;exact q D H4 (SS.free nD) (SS.trans S4) ⟨fs,hD,P⟩
theorem sc_places_of:FnScope ["things", "places", "place", "thing"] ["things"] (C6 v4):=G8
abbrev pI:List Str:=["things", "places", "place", "thing"]
theorem vcu:VS pI v4 "things" 0:=vq
theorem vcv:VS pI v4 "places" 1:=vq
theorem vcw:VS pI v4 "place" 2:=vq
theorem vcx:VS pI v4 "thing" 3:=vq
theorem vcy:LS v4 "places":=lq
theorem vcz:LS v4 "place":=lq
theorem vcA:LS v4 "thing":=lq
theorem agw(F:FunD K "places_of" "places_of" v4 f fd)(T:Txt P w K mg C):FnOk P w K mg base E8 1 f fd ["things"] ahL:=by
 refine F.ok sc_places_of ?_ ?_
 .rintro _ _ _ _ ⟨b,ys,rfl,_⟩;rfl
 .intro cdv A outer s H vs Q E hr h;have C7:=hu_of hr;have hu:=hr.units;refine ⟨_,QSs.out (B1 (D6 (n:=1) sc_places_of.nd rfl vcy aK)
   (B1 (M8 PassesOwn.never (kH T.b_enumerate (qa_c (vi vcu) A6)) (aM (K:=K) (n:=2) (Q5 ((D7 (n:=2) sc_places_of.nd rfl vcz (.inl rfl))) (Q5 ((D7 (n:=3) sc_places_of.nd rfl vcA (.inl rfl))) aL))) (B5 (i0 C7 (vi vcv) (vi vcx) (vi vcw))))
   (B5 (E1 (vi vcv))))),?_⟩
  obtain ⟨b,ys,rfl,hb,hy,hl,q⟩:=h;walk_at "rd";intro d nd;refine ⟨⟨_,B3 hb nd⟩,forE (xs:=ys.map V.str) (fun i Y H2=>∃ (u v:Option V),Y=[some (.ref b),some (.ref d),u,v]/\Same H H2/\H2 d=some (.dK (C2 (ys.take i) fun t=>.int (E3 ys t:Nat)))) ⟨none,none,rfl,Same.new nd,by rw [A5];rfl⟩ (by rintro i Y H2 ⟨_,_,_,S,_⟩;exact S _ _ hb) ?_ ?_⟩
  .rintro i x t Y H2 hx ⟨u,v,rfl,S,hd⟩ nt;obtain ⟨z,hz,rfl⟩:=G5 hx;walk_at "rd";refine ⟨_,.of A5,rfl,_,_,rfl,_,_,rfl,rfl,_,k8 (k:=Sum.inr z) (B3 hd nt) (by rw [b0,K5];exact G7 (by lia)),Same.put (fun b u h=>B3 (S b u h) nt) nd,?_⟩;rw [A5,aN _ (kF hy hz),L9 hz];refine congrArg (fun x=>some (HO.dK x)) (T0 fun q hq=>?_)
   by_cases e:q=z
   .rw [if_pos e,e,ao5 hy hz]
   .rw [if_neg e]
  .rintro Y H2 ⟨u,v,rfl,S,hd⟩;rw [A7,K4] at hd;walk_at "rd";exact q d H2 nd S hd
theorem sc_group_for:FnScope ["groups", "places", "thing", "at", "group"] ["groups", "places", "thing"] (C6 v6):=G8
abbrev lD:List Str:=["groups", "places", "thing", "at", "group"]
theorem vcB:VS lD v6 "groups" 0:=vq
theorem vcC:VS lD v6 "places" 1:=vq
theorem vcD:VS lD v6 "thing" 2:=vq
theorem vcE:VS lD v6 "at" 3:=vq
theorem vcF:VS lD v6 "group" 4:=vq
theorem vcG:LS v6 "at":=lq
theorem vcH:LS v6 "group":=lq
theorem agx(F:FunD K "group_for" "group_for" v6 f fd)(T:Txt P w K mg C):FnOk P w K mg base E8 1 f fd ["groups", "places", "thing"] spGrp:=by
 refine F.ok sc_group_for ?_ ?_
 .rintro _ _ _ _ ⟨g,d,t,rs,gs,dom,pos,rfl,_⟩;rfl
 .intro cdv A outer s H vs Q E hr h;have C7:=hu_of hr;have hu:=hr.units;refine ⟨_,QSs.out (B1 (M8 PassesOwn.never (kH T.b_enumerate (qa_c (vi vcB) A6)) (aM (K:=K) (n:=2) (Q5 ((D7 (n:=3) sc_group_for.nd rfl vcG (.inl rfl))) (Q5 ((D7 (n:=4) sc_group_for.nd rfl vcH (.inl rfl))) aL))) (B5 (qs_if (D8 q_gt (Y5 C7 (vi vcC) (qe_ix (K:=K) (vi vcF) (qe_un q_neg A8))) (Y5 C7 (vi vcC) (vi vcD))) (B5 (E1 (vi vcE))) J8)))
   (B5 (E1 (qe_cB (q_len (K:=K)) T.b_len X2 (qa_c (vi vcB) A6))))),?_⟩
  obtain ⟨g,d,t,rs,gs,dom,pos,rfl,R,hd,hg,ht,q⟩:=h;walk_at "rd";refine ⟨⟨_,R.top⟩,forE (xs:=rs.map V.ref) (fun i Y H2=>∃ (u v:Option V),Y=[some (.ref g),some (.ref d),some (.str t),u,v]/\Same H H2/\grpAt pos gs t=i+grpAt pos (gs.drop i) t) ⟨none,none,rfl,Same.refl H,by simp⟩ (by rintro i Y H2 ⟨_,_,_,S,_⟩;exact S _ _ R.top) ?_ ?_⟩
  .rintro i x tt Y H2 hx ⟨u,v,rfl,S,hi⟩ nt;obtain ⟨r,hr,rfl⟩:=G5 hx;obtain ⟨gr,n9,C8⟩:=Paired.at R.row hr;have hgm:=L3 n9;obtain ⟨u0,h1,h2,h3⟩:=oY (pos:=pos) (hg gr hgm).1;have S2:Same H (A4 H2 tt (.tup [.int i,.ref r])):=S.trans (Same.new nt);have hdr:gs.drop i=gr::gs.drop (i+1):=by
    obtain ⟨D0,rfl⟩:=G9.mp n9;rw [List.drop_eq_getElem_cons D0]
   have dA:grpAt pos gs t=i+bif decide (pos t<pos u0) then 0 else grpAt pos (gs.drop (i+1)) t+1:=by
    rw [hi,hdr];unfold grpAt;rw [List.findIdx_cons,h3]
   walk_at "rd";refine ⟨_,.of A5,rfl,_,_,rfl,_,_,rfl,rfl,?_⟩;walk_at "rd";refine ⟨_,.inl (.of (S2 _ _ C8)),V.str u0,uD h1,V.int (pos u0:Nat),.inl ⟨_,Sum.inr u0,.inl (S2 _ _ hd),rfl,by rw [O4,if_pos ((hg gr hgm).2 u0 h2)]⟩,V.int (pos t:Nat),.inl ⟨_,Sum.inr t,.inl (S2 _ _ hd),rfl,by rw [O4,if_pos ht]⟩,_,rfl,?_⟩;refine iteD (fun D0=>?_) fun hn=>⟨S2,?_⟩
   .have e:grpAt pos gs t=i:=by rw [dA,decide_eq_true (by lia)];rfl
    have:=q _ S2
    rw [e] at this;exact this
   .rw [dA,decide_eq_false (by lia)];show i+(grpAt pos (gs.drop (i+1)) t+1)=_;lia
  .rintro Y H2 ⟨u,v,rfl,S,hi⟩;rw [A7,show rs.length=gs.length from Paired.length R.row,List.drop_length] at hi;walk_at "rd";refine ⟨rs.length,.inl ⟨_,.of (S _ _ R.top),by rw [A7]⟩,?_⟩;have e:grpAt pos gs t=gs.length:=by rw [hi];rfl
   have:=q H2 S
   rw [e,<- show rs.length=gs.length from Paired.length R.row] at this;exact this
theorem sc_kept_most:FnScope ["one", "other", "places", "groups", "ahead", "thing", "at", "kept", "last"] ["one", "other"] (C6 T3):=G8
abbrev aU:List Str:=["one", "other", "places", "groups", "ahead", "thing", "at", "kept", "last"]
theorem vcI:VS aU T3 "one" 0:=vq
theorem vcJ:VS aU T3 "other" 1:=vq
theorem vcK:VS aU T3 "places" 2:=vq
theorem cQ:VS aU T3 "groups" 3:=vq
theorem vcM:VS aU T3 "ahead" 4:=vq
theorem vC:VS aU T3 "thing" 5:=vq
theorem pJ:VS aU T3 "at" 6:=vq
theorem vD:VS aU T3 "kept" 7:=vq
theorem vE:VS aU T3 "last" 8:=vq
theorem vcR:LS T3 "places":=lq
theorem vcS:LS T3 "groups":=lq
theorem vcT:LS T3 "ahead":=lq
theorem vcU:LS T3 "thing":=lq
theorem vcV:LS T3 "at":=lq
theorem vcW:LS T3 "kept":=lq
theorem vcX:LS T3 "last":=lq
theorem agy(F:FunD K "kept_most" "kept_most" T3 f fd)(T:Txt P w K mg C)(G_places_of:FO P w K mg base 1 "places_of" ["things"] [] ahL)(G_group_for:FO P w K mg base 1 "group_for" ["groups", "places", "thing"] [] spGrp):FnOk P w K mg base E8 2 f fd ["one", "other"] uC:=by
 refine F.ok sc_kept_most ?_ ?_
 .rintro _ _ _ _ ⟨a,b,xs,ys,rfl,_⟩;rfl
 .intro cdv A outer s H vs Q E hr h;have C7:=hu_of hr;have hu:=hr.units;refine ⟨_,QSs.out (B1 (D6 (n:=2) sc_kept_most.nd rfl vcR (F9 G_places_of (hm hr) (qa_c (vi vcJ) A6)))
   (B1 (D6 (n:=3) sc_kept_most.nd rfl vcS (N9 A6))
   (B1 (D6 (n:=4) sc_kept_most.nd rfl vcT aK)
   (B1 (M8 PassesOwn.never (M9 (K:=K) (vi vcI)) (D7 (n:=5) sc_kept_most.nd rfl vcU (.inl rfl)) (B1 (D6 (n:=6) sc_kept_most.nd rfl vcV (F9 G_group_for (hm hr) (qa_c (vi cQ) (qa_c (vi vcK) (qa_c (vi vC) A6)))))
   (eP (qs_if (D8 (q_eq (K:=K) hu) (vi pJ) (qe_cB (q_len (K:=K)) T.b_len X2 (qa_c (vi cQ) A6))) (B5 (O3 (qe_mB (K:=K) O2 V7 V6 W2 (vi cQ) (qa_c (N9 A6) A6)))) J8)
   (B1 (i0 C7 (vi vcM) (vi vC) (kA (D8 q_gt (vi pJ) A8) (qe_ix (K:=K) (qe_ix (K:=K) (vi cQ) (qe_op q_sub (vi pJ) A8)) (qe_un q_neg A8)) k9))
   (B5 (O3 (qe_mB (K:=K) O2 V7 V6 W2 (qe_ix (K:=K) (vi cQ) (vi pJ)) (qa_c (vi vC) A6))))))))
   (B1 (D6 (n:=7) sc_kept_most.nd rfl vcW (N9 A6))
   (B1 (D6 (n:=8) sc_kept_most.nd rfl vcX (kA (X5 (K:=K) (vi cQ)) (qe_ix (K:=K) (qe_ix (K:=K) (vi cQ) (qe_un q_neg A8)) (qe_un q_neg A8)) k9))
   (B1 (oA PassesOwn.never (D8 alN (vi vE) k9) (B1 (O3 (qe_mB (K:=K) O2 V7 V6 W2 (vi vD) (qa_c (vi vE) A6)))
   (B5 (D6 (n:=8) sc_kept_most.nd rfl vcX (Y5 C7 (vi vcM) (vi vE))))))
   (B1 (O3 (qe_m0 (K:=K) O2 PySem.F.slot_list_reverse PySem.F.type_list_reverse sT (vi vD)))
   (B5 (E1 (L8 (qa_c (vi vD) (qa_c (vi cQ) A6))))))))))))),?_⟩
  obtain ⟨a,b,xs,ys,rfl,ha,hb,X8,o0,M0,wU,hly,q⟩:=h;walk_at "rd";refine ⟨b,ys,rfl,hb,o0,hly,fun d H1 nd S1 hd=>?_⟩
  try walk_at "rd"
  intro g ng e ne;have ngH:H g=none:=S1.free ng;have S2:Same H1 (A4 (A4 H1 g (.lst [])) e (.dK [])):=(Same.new ng).trans (Same.new ne);have xL:g≠e:=fun w=>by rw [<- w,A5] at ne;cases ne
  have neH:H e=none:=(S1.trans (Same.new ng)).free ne;have W4:=S2 _ _ hd;have hde:d≠e:=fun w=>by rw [<- w] at ne;rw [B3 hd ng] at ne;cases ne
  have hg2:A4 (A4 H1 g (.lst [])) e (.dK []) g=some (.lst []):=by rw [A9 xL,A5]
  have he2:A4 (A4 H1 g (.lst [])) e (.dK []) e=some (.dK []):=A5;generalize A4 (A4 H1 g (.lst [])) e (.dK [])=H2 at S2 W4 hg2 he2;have o4:=S1.trans S2;refine ⟨⟨_,.of (o4 _ _ ha)⟩,forL (xs:=xs.map V.str) (fun i Y H3=>∃ (u v:Option V) (rs:List Addr) (ah:Str->Option Str),Y=[some (.ref a),some (.ref b),some (.ref d),some (.ref g),some (.ref e),u,v,none,none]/\RowsAt H H3 g rs (grps (E3 ys) (xs.take i))/\H3 d=some (.dK (C2 ys fun t=>.int (E3 ys t:Nat)))/\H3 e=some (.dK (C2 (xs.take i) fun t=>orNon (ah t)))/\GI (E3 ys) (xs.take i) (grps (E3 ys) (xs.take i)) ah)
   ⟨none,none,[],fun _=>none,rfl,⟨⟨hg2,.nil⟩,by simp,fun r hr=>by rw [E6.mp hr];exact ngH,o4⟩,W4,he2,GI.nil _ _⟩ (by rintro i Y H3 _ ⟨_,_,_,_,_,R,_⟩;exact .of (R.same _ _ ha)) ?_ ?_⟩
  .rintro i x Y H3 hx ⟨u,v,rs,ah,rfl,R,P3,iZ,G⟩;obtain ⟨z,hz,rfl⟩:=G5 hx;have xS:z∉xs.take i:=kF X8 hz;have hzx:z∈xs:=L3 hz;have hzy:=M0 z hzx;have hi:i<xs.length:=(G9.mp hz).1;have hgl:(grps (E3 ys) (xs.take i)).length<=i:=by
    have h1:∀ gs:List (List Str),(∀ g∈gs,g≠[])->gs.length<=gs.flatten.length:=by
     intro gs
     induction gs with
     | nil=>simp
     | cons g gs ih=>
      intro h
      have:=ih fun y hy=>h y (I0 _ hy)
      have h2:=r0.mpr (h g J7);rw [r8,D1,F8];lia
    have:=h1 _ fun gr n9=>by
     obtain ⟨k,hk⟩:=jF.mp n9;exact (G.grp k gr hk).1
    rw [G.perm.length_eq,K5] at this;lia
   have bD:rs.length=(grps (E3 ys) (xs.take i)).length:=Paired.length R.rows.row;walk_at "rd";refine ⟨g,d,z,rs,_,ys,E3 ys,rfl,R.rows,P3,fun gr n9=>?_,hzy,fun H4 S4=>?_⟩
   .obtain ⟨k,hk⟩:=jF.mp n9
    have:=G.grp k gr hk
    exact ⟨this.1,fun y hy=>M0 y (dP (this.2.2.subset hy))⟩
   have R4:=R.keep S4;have T9:=S4 _ _ P3;have xT:=S4 _ _ iZ;have pX:xs.take (i+1)=xs.take i++[z]:=L9 hz;have G':=G.add xS (fun x hx e=>xS (by rw [<- ant (M0 x (dP hx)) hzy e];exact hx));rw [pX,aj4];generalize hgs:grps (E3 ys) (xs.take i)=gs at *;generalize N6:grpAt (E3 ys) gs z=at' at *;have iQ:at'<=gs.length:=by rw [<- N6];exact uA _ _ _
   refine gQ (fun Y H5=>∃ rs',Y=[some (.ref a),some (.ref b),some (.ref d),some (.ref g),some (.ref e),some (.str z),some (.int (at':Nat)),none,none]/\RowsAt H H5 g rs' (if at'=gs.length then gs++[[]] else gs)/\H5 d=some (.dK (C2 ys fun t=>.int (E3 ys t:Nat)))/\H5 e=some (.dK (C2 (xs.take i) fun t=>orNon (ah t)))) ?_ ?_
   .try walk_at "rd"
    refine ⟨rs.length,.inl ⟨_,.of R4.rows.top,by rw [A7]⟩,iteD (fun hc=>?_) fun hc=>?_⟩
    .have i8:at'=gs.length:=by lia
     refine ⟨N4 R4.rows.top,fun p np=>appOk (B3 R4.rows.top np) (by rw [A7];exact G7 (by lia)) ⟨⟨rs++[p],?_⟩,?_,?_⟩⟩
     .rw [if_pos i8];exact R4.add np
     .rw [A9 (fun w=>R4.noDict T9 (by rw [w];exact J7))];exact B3 T9 np
     .rw [A9 (fun w=>R4.noDict xT (by rw [w];exact J7))];exact B3 xT np
    .exact ⟨⟨rs,by rw [if_neg (by lia)];exact R4⟩,T9,xT⟩
   rintro Y H5 ⟨bJ,rfl,R5,qL,qS⟩;generalize p8:(if at'=gs.length then gs++[[]] else gs)=xU at R5;have hl5:at'<xU.length:=by
    rw [<- p8]
    split
    .rw [D1,W7];lia
    .lia
   have hrl5:bJ.length=xU.length:=Paired.length R5.rows.row;have hl52:xU.length<=gs.length+1:=by
    rw [<- p8]
    split
    .rw [D1,W7];lia
    .lia
   have hr:bJ[at']?=some bJ[at']:=by simp
   generalize bJ[at']=r at hr;obtain ⟨g0,jA,p9⟩:=Paired.at R5.rows.row hr;have R6:=R5.other (v:=.dK (putK (C2 (xs.take i) fun t=>orNon (ah t)) (Sum.inr z) (orNon (i7 gs at')))) (R5.noDict qS) neH;have dH:A4 H5 e (.dK (putK (C2 (xs.take i) fun t=>orNon (ah t)) (Sum.inr z) (orNon (i7 gs at')))) r=some (.lst (g0.map V.str)):=by
    rw [A9 (fun w=>R5.noDict qS (by rw [<- w];exact I0 _ (L3 hr)))];exact p9
   have R7:=R6.modi hr jA z;have hrm:r∈g::bJ:=I0 _ (L3 hr);have hg0l:g0.length<=1000:=by
    have h1:(g0++[z]).length<=(addG (E3 ys) gs z).flatten.length:=by
     refine List.Sublist.length_le (List.sublist_flatten_of_mem (L3 (i:=at') ?_));unfold addG;rw [N6,p8,List.getElem?_modify,jA]
     simp
    rw [G'.perm.length_eq,D1,D1,K5] at h1;simp at h1;lia
   have fin:∃ x,DPut H5 e (V.str z) (orNon (i7 gs at')) x/\∃ xs_1,(E5 K x g xs_1\/C9 K x g xs_1)/\∃ x_1,J9 xs_1 (at':Int)=some x_1/\aG K "list" x_1 x/\gF x_1 [V.str z] x fun x H1=>
     (∃ x,RowsAt H H1 g x (addG (E3 ys) gs z))/\H1 d=some (HO.dK (C2 ys fun t=>V.int (E3 ys t:Nat)))/\∃ x,H1 e=some (HO.dK (C2 (List.take i xs++[z]) fun t=>orNon (x t)))/\GI (E3 ys) (List.take i xs++[z]) (addG (E3 ys) gs z) x:=by
    refine ⟨_,k8 (k:=Sum.inr z) qS (by rw [b0,K5];exact G7 (by lia)),_,.inl (.of R6.rows.top),V.ref r,P9 (by rw [V2,hr];rfl),N4 dH,appOk dH (by rw [A7];exact G7 (by lia)) ⟨⟨bJ,?_⟩,?_,_,?_,G'⟩⟩
    .unfold addG;rw [N6,p8];exact R7
    .rw [A9 (fun w=>R5.noDict qL (by rw [w];exact hrm)),A9 hde];exact qL
    .rw [A9 (fun w=>R5.noDict qS (by rw [w];exact hrm)),A5,aN _ xS];refine congrArg (fun x=>some (HO.dK x)) (T0 fun t _=>?_)
     by_cases w:t=z
     .rw [if_pos w,if_pos w]
     .rw [if_neg w,if_neg w]
   walk_at "rd";refine iteD (fun U6=>?_) fun U6=>?_
   .have D0:at'-1<gs.length:=by lia
    have mJ:bJ[at'-1]?=some bJ[at'-1]:=by simp
    generalize bJ[at'-1]=r1 at mJ;obtain ⟨g1,mT,mU⟩:=Paired.at R5.rows.row mJ;have mV:gs[at'-1]?=some g1:=by
     rw [<- p8] at mT
     split at mT
     .rw [bM D0] at mT;exact mT
     .exact mT
    obtain ⟨u0,h1,h2,h3⟩:=oY (pos:=E3 ys) (G.grp _ g1 mV).1;refine ⟨_,.inl (.of R5.rows.top),V.ref r1,?_,?_⟩
    .rw [show ((at':Nat):Int)-1=((at'-1:Nat):Int) by lia];exact P9 (by rw [V2,mJ];rfl)
    walk_at "rd";refine ⟨_,.inl (.of mU),V.str u0,uD h1,?_⟩;have e1:i7 gs at'=some u0:=by
     unfold i7;rw [if_pos (by lia),mV];exact h1
    rw [e1] at fin;exact fin
   .have e1:i7 gs at'=none:=by
     unfold i7;rw [if_neg (by lia)]
    rw [e1] at fin;exact fin
  .rintro Y H3 ⟨u,v,rs,ah,rfl,R,P3,iZ,G⟩;rw [A7,K4] at R iZ G;generalize hgs:grps (E3 ys) xs=gs at *;walk_at "rd";intro k nk;have bD:rs.length=gs.length:=Paired.length R.rows.row;have nkr:k∉g::rs:=fun hm=>by
    obtain ⟨o,ho⟩:=R.live hm;rw [nk] at ho;cases ho
   have nkH:H k=none:=R.same.free nk;have hke:e≠k:=fun w=>by rw [w,nk] at iZ;cases iZ
   have hgsl:gs.length<=1000:=by
    have h1:∀ gs:List (List Str),(∀ g∈gs,g≠[])->gs.length<=gs.flatten.length:=by
     intro gs
     induction gs with
     | nil=>simp
     | cons g gs ih=>
      intro h
      have:=ih fun y hy=>h y (I0 _ hy)
      have h2:=r0.mpr (h g J7);rw [r8,D1,F8];lia
    have:=h1 _ fun gr n9=>by
     obtain ⟨k,hk⟩:=jF.mp n9;exact (G.grp k gr hk).1
    rw [G.perm.length_eq] at this;lia
   have wh:∀ (lo:Option Str),(gs.length=0->lo=none)->(∀ j,gs.length=j+1->∃ gr t,gs[j]?=some gr/\t∈gr/\lo=some t)->
     sU (tTest (k7 (fun x y H Q=>y=V.non/\Q (V.bl !decide (x=V.non)) H) (tVar 8) (tC V.non))) (tSeq (tDrop (jT K "list" gF (tVar 7) (tCons (tVar 8) tNil))) (tAsg (tDGet (tVar 4) (tVar 8)) (gName 8)))
      { nx:=tSeq (tDrop (tBM0 K "list" sB (tVar 7))) (tRet (tTup (tCons (tVar 7) (tCons (tVar 3) tNil)))) { nx:=fun x H'=>Q V.non H',rt:=Q },rt:=Q }
      [some (V.ref a),some (V.ref b),some (V.ref d),some (V.ref g),some (V.ref e),u,v,some (V.ref k),some (orNon lo)] (A4 H3 k (HO.lst [])):=by
    intro lo lQ W6;refine oC (fun m Y H9=>∃ (ks:List Str) (lo:Option Str),Y=[some (V.ref a),some (V.ref b),some (V.ref d),some (V.ref g),some (V.ref e),u,v,some (V.ref k),some (orNon lo)]/\H9=A4 H3 k (.lst (ks.map V.str))/\KeptW xs ys gs m ks lo) gs.length
     ⟨[],lo,rfl,rfl,⟨by simp,lQ,fun j hj=>?_,by simp,by simp⟩⟩ ?_
    .obtain ⟨gr,t,h1,h2,h3⟩:=W6 j hj;exact ⟨gr,t,h1,h2,h3,by simp⟩
    rintro m Y H9 ⟨ks,lo,rfl,rfl,w⟩;have W5:ks.length<=1000:=by have:=w.len;lia
    walk_at "rd"
    cases m with
    | zero=>
     rw [w.zero rfl];refine iteF ⟨N4 A5,k,_,rfl,rfl,A5,by decide,fun p np=>?_⟩;rw [yL] at np ⊢
     have hkp:k≠p:=fun w2=>by rw [<- w2,A5] at np;cases np
     refine q p k g rs ks.reverse ah _ ((R.same.put nkH).free np) nkH A5 ?_ ((R.other nkr nkH).keep (Same.new np)) nkr G ?_ (fun x hx=>w.sub x (List.mem_reverse.mp hx)) (by rw [List.length_reverse];have:=w.len;lia)
     .rw [A9 hkp,A5,List.map_reverse]
     .rw [List.pairwise_reverse];exact w.pw
    | succ j=>
     obtain ⟨gr,t,h1,h2,rfl,h4⟩:=w.more j rfl;obtain ⟨qH,w'⟩:=w.next G;refine iteT ⟨fun σ' H'=>∃ (ks:List Str) (lo:Option Str),σ'=[some (V.ref a),some (V.ref b),some (V.ref d),some (V.ref g),some (V.ref e),u,v,some (V.ref k),some (orNon lo)]/\H'=A4 H3 k (.lst (ks.map V.str))/\KeptW xs ys gs j ks lo,fun σ' H' h=>⟨j,by lia,h⟩,N4 A5,appOk A5 (by rw [A7];exact G7 (by lia)) ?_⟩;rw [yL];refine ⟨orNon (ah t),.inl ⟨_,Sum.inr t,.inl ?_,rfl,by rw [O4,if_pos qH]⟩,ks++[t],ah t,rfl,by rw [E4];rfl,w'⟩;rw [A9 hke];exact iZ
   by_cases U7:gs=[]
   .have hrs:rs=[]:=rE (by rw [bD,U7];rfl);refine ⟨_,gR (B3 R.rows.top nk),?_⟩;rw [hrs];exact iteF (wh none (fun _=>rfl) fun j hj=>by rw [U7] at hj;simp at hj)
   .have U6:0<gs.length:=r0.mpr U7;have hr:rs[rs.length-1]?=some rs[rs.length-1]:=by simp
    have hrlast:rs.getLast?=some rs[rs.length-1]:=by rw [List.getLast?_eq_getElem?,hr]
    generalize rs[rs.length-1]=r at hr hrlast;obtain ⟨g0,jA,p9⟩:=Paired.at R.rows.row hr;obtain ⟨u0,h1,h2,h3⟩:=oY (pos:=E3 ys) (G.grp _ g0 jA).1;refine ⟨_,gR (B3 R.rows.top nk),?_⟩;rw [show (!(rs.map V.ref).isEmpty)=true by cases rs with | nil=>simp at hr | cons=>rfl];refine iteT ⟨_,.inl (.of (B3 R.rows.top nk)),V.ref r,aka hrlast,?_⟩;walk_at "rd";exact ⟨_,.inl (.of (B3 p9 nk)),V.str u0,uD h1,wh (some u0) (fun h=>by lia) fun j hj=>⟨g0,u0,by rw [bD,show gs.length-1=j by lia] at jA;exact jA,h2,rfl⟩⟩
theorem sc_forgotten:FnScope ["rules", "gone", "rule", "piece"] ["rules"] (C6 v7):=G8
abbrev pK:List Str:=["rules", "gone", "rule", "piece"]
theorem vcY:VS pK v7 "rules" 0:=vq
theorem vcZ:VS pK v7 "gone" 1:=vq
theorem vc0:VS pK v7 "rule" 2:=vq
theorem vc1:VS pK v7 "piece" 3:=vq
theorem vc2:LS v7 "gone":=lq
theorem vc3:LS v7 "rule":=lq
theorem vc4:LS v7 "piece":=lq
theorem agz(F:FunD K "forgotten" "forgotten" v7 f fd)(T:Txt P w K mg C):FnOk P w K mg base E8 1 f fd ["rules"] aep:=by
 refine F.ok sc_forgotten ?_ ?_
 .rintro _ _ _ _ ⟨a,rs,R,rfl,_⟩;rfl
 .intro cdv A outer s H vs Q E hr h;have C7:=hu_of hr;have hu:=hr.units;refine ⟨_,QSs.out (B1 (D6 (n:=1) sc_forgotten.nd rfl vc2 aK)
   (B1 (M8 PassesOwn.never (M9 (K:=K) (vi vcY)) (D7 (n:=2) sc_forgotten.nd rfl vc3 (.inl rfl)) (B5 (qs_if (D8 (q_eq (K:=K) hu) (qe_ix (K:=K) (vi vc0) A8) K0) (B5 (M8 PassesOwn.never (cF (K:=K) (Q0 (K:=K) (vi vc0) (M7 A8) X4)) (D7 (n:=3) sc_forgotten.nd rfl vc4 (.inl rfl)) (B5 (i0 C7 (vi vcZ) (vi vc1) qe_bl)))) J8)))
   (B5 (E1 (vi vcZ))))),?_⟩
  obtain ⟨a,rs,R,rfl,hR,hF,hl,q⟩:=h;walk_at "rd";refine fun d nd=>⟨⟨_,.of (B3 hR.top nd)⟩,forL (xs:=rs.map V.ref) (fun i Y H2=>∃ (u v:Option V),Y=[some (.ref a),some (.ref d),u,v]/\Same H H2/\H2 d=some (.dK (kvOf (goneL (R.take i))))) ⟨none,none,rfl,Same.new nd,by rw [A5];rfl⟩ (by rintro i Y H2 _ ⟨_,_,_,S,_⟩;exact .of (S _ _ hR.top)) ?_ ?_⟩
  .rintro i x Y H2 hx ⟨u,v,rfl,S,hd⟩;obtain ⟨r,hr,rfl⟩:=G5 hx;obtain ⟨z,hz,C8⟩:=Paired.at hR.row hr;have dI:=S _ _ C8;have hlz:z.2.length<=1000:=(hF z (L3 hz)).1;have hgl:(goneL (R.take i)).length<=500000:=by
    have h1:=akb (R:=R.take i) fun y hy=>hF y (dP hy)
    rw [K5] at h1;lia
   have estep:=aip hz;walk_at "rd";refine ⟨_,.inr (.of dI),V.str z.1,N5 _ _,?_⟩;walk_at "rd";refine iteD (fun hw=>?_) fun hw=>?_
   .rw [if_pos hw] at estep;refine rSlR.t (.of dI) (b9 (k:=1) (by decide) (by simp)) fun p np=>?_
    rw [show cutV ((z.1::z.2).map V.str) (some 1) none=z.2.map V.str from oE _ _];have hdp:d≠p:=fun e=>by rw [e,np] at hd;cases hd
    refine ⟨p,rfl,⟨_,.of A5⟩,forT (xs:=z.2.map V.str) (fun j Y H3=>∃ (v:Option V),Y=[some (.ref a),some (.ref d),some (.ref r),v]/\Same H H3/\H3 p=some (.tup (z.2.map V.str))/\H3 d=some (.dK (kvOf (E9 (goneL (R.take i)) (z.2.take j)))))
     ⟨v,rfl,fun b o h=>B3 (S b o h) np,A5,by rw [A9 hdp];exact hd⟩ (by rintro j Y H3 _ ⟨_,_,_,h,_⟩;exact .of h) ?_ ?_⟩
    .rintro j y Y H3 hy ⟨v,rfl,S3,y3,P3⟩;obtain ⟨y,xV,rfl⟩:=G5 hy;walk_at "rd";refine ⟨_,k8 (k:=Sum.inr y) P3 ?_,S3.put nd,?_,?_⟩
     .unfold kvOf;rw [A7]
      have:=eJ (z.2.take j) (goneL (R.take i))
      rw [K5] at this;exact G7 (by lia)
     .rw [A9 hdp.symm];exact y3
     .rw [A5,sR,ahq xV]
    .rintro Y H3 ⟨v,rfl,S3,y3,P3⟩;walk_at "rd";refine ⟨S3,?_⟩;rw [P3,estep,A7,K4]
   .rw [if_neg hw] at estep;rw [estep];exact ⟨S,hd⟩
  .rintro Y H2 ⟨u,v,rfl,S,hd⟩;walk_at "rd";refine q d H2 nd S ?_;rw [hd,A7,show rs.length=R.length from Paired.length hR.row,K4]
theorem sc_without:FnScope ["rule", "gone", "word", "left"] ["rule", "gone"] (C6 v8):=G8
abbrev pL:List Str:=["rule", "gone", "word", "left"]
theorem iH:VS pL v8 "rule" 0:=vq
theorem vc6:VS pL v8 "gone" 1:=vq
theorem pM:VS pL v8 "word" 2:=vq
theorem vc8:VS pL v8 "left" 3:=vq
theorem vc9:LS v8 "word":=lq
theorem vda:LS v8 "left":=lq
theorem aiy(F:FunD K "without" "without" v8 f fd)(T:Txt P w K mg C):FnOk P w K mg base E8 1 f fd ["rule", "gone"] agm:=by
 refine F.ok sc_without ?_ ?_
 .rintro _ _ _ _ ⟨a,d,z,g,rfl,_⟩;rfl
 .intro cdv A outer s H vs Q E hr h;have C7:=hu_of hr;have hu:=hr.units;obtain ⟨a_STAYING,m_STAYING,M_STAYING⟩:=T.x_STAYING;refine ⟨_,QSs.out (B1 (D6 (n:=2) sc_without.nd rfl vc9 (qe_ix (K:=K) (vi iH) A8))
   (B1 (qs_if (D8 (q_eq (K:=K) hu) (vi pM) K0) (B5 (E1 (kA (D8 (q_in (K:=K) hu) (qe_ix (K:=K) (vi iH) A8) (vi vc6)) k9 (vi iH)))) J8)
   (B1 (qs_if (D8 (ak2 M_STAYING) (vi pM) (eK m_STAYING)) (B5 (E1 (vi iH))) J8)
   (B1 (D6 (n:=3) sc_without.nd rfl vda (qe_cT (cG (K:=K)) T.b_tuple aJ (qa_c (Y6  (R3:CompOk ["rule", "gone", "word", "left"] (C6 v8).names _ ["piece", "gone"] 1 [1]) (cF (K:=K) (Q0 (K:=K) (vi iH) (M7 (oB M_STAYING (eK m_STAYING) (vi pM))) X4)) (fun _ _ _ _ _=>D7 (n:=0) (show List.Nodup (["piece", "gone"]:List Str) by decide +kernel) rfl (Or.inl rfl)) (fun _ _ _ _ _=>(Z8 (D8 (eO (K:=K) hu) (qv 0) (qv 1)))) (fun _ _ _ _ _=>(qv 0))) A6)))
   (B5 (E1 (kA (X5 (K:=K) (vi vc8)) (qe_op (q_add (K:=K)) (Q0 (K:=K) (vi iH) X4 (M7 (oB M_STAYING (eK m_STAYING) (vi pM)))) (vi vc8)) k9))))))),?_⟩
  obtain ⟨a,d,z,g,rfl,ha,hd,hF,q⟩:=h;walk_at "rd";refine ⟨_,.inr (.of ha),V.str z.1,N5 _ _,?_⟩;walk_at "rd"
  rcases air hF with ⟨hw,_,_,_,y,ys,hy⟩ | ⟨hw,hs,hv⟩ | ⟨hw,_,k,hs,hv,hk⟩
  .rw [decide_eq_true hw];refine iteT ⟨_,.inr (.of ha),V.str y,?_,rInR.d (Y2 (k:=Sum.inr y) hd) ⟨_,rfl,?_⟩⟩
   .rw [hy];exact P9 (j:=1) rfl
   rw [cK,aA];have e:K8 g z=if y∈g then none else some z:=by unfold K8;rw [if_pos hw,hy];rfl
   rw [e] at q;exact iteD (fun hm=>q _ _ (Same.refl H) (by rw [if_pos hm];rfl)) fun hm=>q _ _ (Same.refl H) (by rw [if_neg hm];exact ⟨a,rfl,ha⟩)
  .rw [decide_eq_false hw,hv];have e:K8 g z=some z:=by unfold K8;rw [if_neg hw,hs]
   rw [e] at q;exact iteF (iteT (q _ _ (Same.refl H) ⟨a,rfl,ha⟩))
  .rw [decide_eq_false hw,hv];have e:K8 g z=if keepR g (z.2.drop k)=[] then none else some (z.1,z.2.take k++keepR g (z.2.drop k)):=by unfold K8;rw [if_neg hw,hs]
   rw [e] at q;have N7:z.2.length<=1000:=hF.1;refine iteF (iteF ⟨_,rfl,_,rfl,rSlR.t (.of ha) (b9 (k:=k+1) (by lia) (by simp)) fun p np=>?_⟩);rw [alz];have S1:Same H (A4 H p (.tup ((z.2.drop k).map V.str))):=Same.new np;have hp:A4 H p (.tup ((z.2.drop k).map V.str)) p=some (.tup ((z.2.drop k).map V.str)):=A5;generalize A4 H p (.tup ((z.2.drop k).map V.str))=H1 at S1 hp;refine ⟨p,rfl,⟨_,.of hp⟩,compT (xs:=(z.2.drop k).map V.str) [some (.ref d)] rfl (fun D i ys H4=>ys=(keepR g ((z.2.drop k).take i)).map V.str/\Same H1 H4) (fun D nD=>⟨rfl,Same.new nD⟩) (by rintro D i ys H4 nD _ ⟨_,S⟩;exact .of (S _ _ hp)) ?_ ?_⟩
   .rintro D i x ys H4 nD hi hx ⟨rfl,S⟩ hD hy;obtain ⟨y,xV,rfl⟩:=G5 hx;walk_at "rd";refine rInR.d (Y2 (k:=Sum.inr y) (S _ _ (S1 _ _ hd))) ⟨_,rfl,?_⟩;rw [cK,Bool.true_xor];have es:keepR g ((z.2.drop k).take (i+1))=if y∈g then keepR g ((z.2.drop k).take i) else keepR g ((z.2.drop k).take i)++[y]:=by
     unfold keepR;rw [U0,xV,V1]
     by_cases hm:y∈g
     .rw [if_pos hm];simp [hm]
     .rw [if_neg hm];simp [hm]
    have W5:(keepR g ((z.2.drop k).take i)).length<=1000:=by
     have h1:=dO (fun p=>decide (p∉g)) ((z.2.drop k).take i);rw [K5,j4] at h1;unfold keepR;lia
    refine iteN (fun hm=>⟨hD,by rw [A7];exact G7 (by lia),CW.put hi hy ⟨?_,S.put nD⟩⟩) fun hm=>⟨hD,jV hi hy ⟨?_,S⟩⟩
    .rw [es,if_neg hm,E4];rfl
    .rw [es,if_pos hm]
   .rintro D ys H4 nD ⟨rfl,S⟩ hD hy;rw [A7,K4] at hD;walk_at "rd";refine rTupR.l (.of hD) fun t nt=>?_
    have W5:(keepR g (z.2.drop k)).length<=1000:=by
     have h1:=dO (fun p=>decide (p∉g)) (z.2.drop k);rw [j4] at h1;unfold keepR;lia
    refine ⟨_,.inr (.inl ⟨_,.of A5,rfl⟩),?_⟩;have S2:Same H (A4 H4 t (.tup ((keepR g (z.2.drop k)).map V.str))):=fun b o h=>B3 (S b o (S1 b o h)) nt
    by_cases jB:keepR g (z.2.drop k)=[]
    .rw [jB];rw [if_pos jB] at q;rw [jB] at S2;exact iteF (q _ _ S2 rfl)
    .have G3:(!((keepR g (z.2.drop k)).map V.str).isEmpty)=true:=by
      rw [jI,List.isEmpty_eq_false_iff]
      simpa using jB
     rw [G3];rw [if_neg jB] at q;refine iteT (rSlR.t (.of (S2 _ _ ha)) (aiq (k:=k+1) (by simp;lia)) fun p2 dE=>?_);rw [akc];walk_at "rd";refine rAddR.t (.of A5) (.of (B3 A5 dE)) (by simp) ?_ (fun e=>?_) fun _ p3 Q3=>q _ _ (fun b o h=>B3 (B3 (S2 b o h) dE) Q3) ⟨p3,rfl,?_⟩
     .simp only [F8,A7,K5];exact Y4 (by lia)
     .simp at e;exact absurd e jB
     .rw [A5];show _=some (HO.tup (List.map V.str (z.1::(List.take k z.2++keepR g (List.drop k z.2)))));rw [<- List.cons_append,E4];rfl
theorem sc_changed:FnScope ["rules", "more", "gone", "elder", "both"] ["rules", "more"] (C6 c9):=G8
abbrev pN:List Str:=["rules", "more", "gone", "elder", "both"]
theorem vdb:VS pN c9 "rules" 0:=vq
theorem vdc:VS pN c9 "more" 1:=vq
theorem vdd:VS pN c9 "elder" 3:=vq
theorem vde:VS pN c9 "both" 4:=vq
theorem vdf:LS c9 "gone":=lq
theorem vdg:LS c9 "elder":=lq
theorem vdh:LS c9 "both":=lq
theorem aiz(F:FunD K "changed" "changed" c9 f fd)(T:Txt P w K mg C)(G_forgotten:FO P w K mg base 1 "forgotten" ["rules"] [] aep)(G_without:FO P w K mg base 1 "without" ["rule", "gone"] [] agm):FnOk P w K mg base E8 2 f fd ["rules", "more"] agn:=by
 refine F.ok sc_changed ?_ ?_
 .rintro _ _ _ _ ⟨a,b,rs,ms,R,M,rfl,_⟩;rfl
 .intro cdv A outer s H vs Q E hr h;have C7:=hu_of hr;have hu:=hr.units;refine ⟨_,QSs.out (B1 (D6 (n:=2) sc_changed.nd rfl vdf (F9 G_forgotten (hm hr) (qa_c (vi vdc) A6)))
   (B1 (gP (n:=3) sc_changed.nd rfl vdg (R3:CompOk ["rules", "more", "gone", "elder", "both"] (C6 c9).names _ ["rule", "gone"] 1 [2]) (M9 (K:=K) (vi vdb)) (fun _ _ _ _ _=>D7 (n:=0) (show List.Nodup (["rule", "gone"]:List Str) by decide +kernel) rfl (Or.inl rfl)) (fun _ _ _ _ _=>eN) (fun _ _ _ _ _=>(F9 G_without (hm hr) (qa_c (qv 0) (qa_c (qv 1) A6)))))
   (B1 (D6 (n:=4) sc_changed.nd rfl vdh (qe_op (q_add (K:=K)) (Y6  (R3:CompOk ["rules", "more", "gone", "elder", "both"] (C6 c9).names _ ["rule"] 1 []) (M9 (K:=K) (vi vdd)) (fun _ _ _ _ _=>D7 (n:=0) (show List.Nodup (["rule"]:List Str) by decide +kernel) rfl (Or.inl rfl)) (fun _ _ _ _ _=>(Z8 (D8 alN (qv 0) k9))) (fun _ _ _ _ _=>(qv 0))) (qe_cT (Z9 (K:=K) (calm:=true)) T.b_list Y3 (qa_c (vi vdc) A6))))
   (B5 (E1 (Y6  (R3:CompOk ["rules", "more", "gone", "elder", "both"] (C6 c9).names _ ["rule"] 1 []) (M9 (K:=K) (vi vde)) (fun _ _ _ _ _=>D7 (n:=0) (show List.Nodup (["rule"]:List Str) by decide +kernel) rfl (Or.inl rfl)) (fun _ _ _ _ _=>(Z8 (D8 (q_ne (K:=K) hu) (qe_ix (K:=K) (qv 0) A8) K0))) (fun _ _ _ _ _=>(qv 0)))))))),?_⟩
  obtain ⟨a,b,rs,ms,R,M,rfl,hR,hM,hF,hG,hl,hm,q⟩:=h;have bD:rs.length=R.length:=Paired.length hR.row;have mR:ms.length=M.length:=Paired.length hM.row;walk_at "rd";refine ⟨b,ms,M,rfl,hM,hG,hm,fun d H1 nd S1 hd=>?_⟩;have hR1:=hR.same S1;have hM1:=hM.same S1;refine ⟨⟨_,.of hR1.top⟩,compL (xs:=rs.map V.ref) [some (.ref d)] rfl (fun D i ys H4=>Paired (RelR H4) ys ((R.take i).map (K8 (goneL M)))/\Same H1 H4) (fun D nD=>⟨.nil,Same.new nD⟩) (by rintro D i ys H4 nD _ ⟨_,S⟩;exact .of (S _ _ hR1.top)) ?_ ?_⟩
  .rintro D i x ys H4 nD hi hx ⟨P,S⟩ hD hy;obtain ⟨r,hr,rfl⟩:=G5 hx;obtain ⟨z,hz,C8⟩:=Paired.at hR1.row hr;rw [A7] at hi;walk_at "rd";refine ⟨r,d,z,goneL M,rfl,S _ _ C8,S _ _ hd,hF z (L3 hz),fun x H5 S5 hx=>⟨S5 _ _ hD,G7 (by lia),CW.put (by rw [A7];exact hi) hy ⟨?_,(S.trans S5).put nD⟩⟩⟩;rw [U0,hz,dY,E4];exact Paired.snoc (O6 P fun _ _ h=>(h.same S5).put (S5 _ _ hD)) (hx.put (S5 _ _ hD))
  .rintro D ys H4 nD ⟨P,S⟩ hD hy;rw [A7,bD,K4] at P;have T4:ys.length<=500:=by rw [A7] at hy;lia
   refine ⟨D,rfl,⟨_,.of hD⟩,compL (xs:=ys) [] rfl (fun D2 i ws H5=>∃ qs:List Addr,ws=qs.map V.ref/\Paired (fun r z=>H5 r=some (tupR z)) qs (((R.map (K8 (goneL M))).take i).filterMap id)/\Same H4 H5) (fun D2 nD2=>⟨[],rfl,.nil,Same.new nD2⟩) (by rintro D2 i ws H5 nD2 _ ⟨_,_,_,S⟩;exact .of (S _ _ hD)) ?_ ?_⟩
   .rintro D2 i x ws H5 nD2 hi hx ⟨qs,rfl,P5,S5⟩ hD2 fK;obtain ⟨o,ho,aY⟩:=Paired.at P hx;walk_at "rd";have e2:((R.map (K8 (goneL M))).take (i+1)).filterMap id=((R.map (K8 (goneL M))).take i).filterMap id++[o].filterMap id:=by rw [U0,ho,dY,fU]
    cases o with
    | none=>
     obtain rfl:x=V.non:=aY;rw [decide_eq_true rfl];exact iteF ⟨hD2,jV hi fK ⟨qs,rfl,by rw [e2,List.filterMap_cons_none rfl,List.filterMap_nil,L7];exact P5,S5⟩⟩
    | some z=>
     obtain ⟨r,rfl,hr⟩:=aY;rw [decide_eq_false (by simp)];refine iteT ⟨hD2,G7 (by lia),CW.put hi fK ⟨qs++[r],by rw [E4];rfl,?_,S5.put nD2⟩⟩;rw [e2,show List.filterMap id [some z]=[z] from rfl];exact Paired.snoc (O6 P5 fun _ _ h=>kW hD2 h) (kW hD2 (S5 _ _ hr))
   .rintro D2 ws H5 nD2 ⟨qs,rfl,P5,S5⟩ hD2 fK;rw [show ys.length=(R.map (K8 (goneL M))).length from Paired.length P,K4,List.filterMap_map] at P5;have hM5:=(hM1.same S).same S5;refine rListR.l (.inl (.of hM5.top)) fun l2 fP=>?_
    walk_at "rd";have hql:qs.length<=500:=by rw [A7] at fK;lia
    refine rAddR.l (B3 hD2 fP) A5 (by rw [A7,A7];exact Y4 (by lia)) fun l3 xW=>?_
    have P6:Paired (fun r z=>A4 (A4 H5 l2 (HO.lst (ms.map V.ref))) l3 (HO.lst (qs.map V.ref++ms.map V.ref)) r=some (tupR z)) (qs++ms) (R.filterMap (K8 (goneL M))++M):=
     Paired.append (O6 P5 fun _ _ h=>B3 (B3 h fP) xW) (O6 hM5.row fun _ _ h=>B3 (B3 h fP) xW)
    have h6:A4 (A4 H5 l2 (HO.lst (ms.map V.ref))) l3 (HO.lst (qs.map V.ref++ms.map V.ref)) l3=some (HO.lst ((qs++ms).map V.ref)):=by rw [A5,E4]
    have S6:Same H (A4 (A4 H5 l2 (HO.lst (ms.map V.ref))) l3 (HO.lst (qs.map V.ref++ms.map V.ref))):=fun b o h=>B3 (B3 (S5 b o (S b o (S1 b o h))) fP) xW
    generalize A4 (A4 H5 l2 (HO.lst (ms.map V.ref))) l3 (HO.lst (qs.map V.ref++ms.map V.ref))=H6 at P6 h6 S6;have jC:(qs++ms).length<=1000:=by rw [D1];lia
    have hqr:(qs++ms).length=(R.filterMap (K8 (goneL M))++M).length:=Paired.length P6;refine ⟨l3,rfl,⟨_,.of h6⟩,compL (xs:=(qs++ms).map V.ref) [] rfl (fun D3 i ws H7=>∃ us:List Addr,ws=us.map V.ref/\Paired (fun r z=>H7 r=some (tupR z)) us (young ((R.filterMap (K8 (goneL M))++M).take i))/\Same H6 H7) (fun D3 nD3=>⟨[],rfl,.nil,Same.new nD3⟩) (by rintro D3 i ws H7 nD3 _ ⟨_,_,_,S⟩;exact .of (S _ _ h6)) ?_ ?_⟩
    .rintro D3 i x ws H7 nD3 hi hx ⟨us,rfl,P7,S7⟩ hD3 qT;obtain ⟨r,hr,rfl⟩:=G5 hx;obtain ⟨z,hz,C8⟩:=Paired.at P6 hr;rw [A7] at hi;walk_at "rd";refine ⟨_,.inr (.of (S7 _ _ C8)),V.str z.1,N5 _ _,?_⟩;walk_at "rd";have e:young ((R.filterMap (K8 (goneL M))++M).take (i+1))=young ((R.filterMap (K8 (goneL M))++M).take i)++if z.1=M6 then [] else [z]:=by
      rw [U0,hz,dY];unfold young;rw [V1]
      by_cases hw:z.1=M6
      .rw [if_pos hw];simp [hw]
      .rw [if_neg hw];simp [hw]
     refine iteN (fun hw=>⟨hD3,G7 (by rw [A7] at qT;rw [A7];lia),CW.put (by rw [A7];exact hi) qT ⟨us++[r],by rw [E4];rfl,?_,S7.put nD3⟩⟩) fun hw=>⟨hD3,jV (by rw [A7];exact hi) qT ⟨us,rfl,?_,S7⟩⟩
     .rw [e,if_neg hw];exact Paired.snoc (O6 P7 fun _ _ h=>kW hD3 h) (kW hD3 (S7 _ _ C8))
     .rw [e,if_pos hw,L7];exact P7
    .rintro D3 ws H7 nD3 ⟨us,rfl,P7,S7⟩ hD3 qT;rw [A7,hqr,K4] at P7;exact q D3 us H7 (S6.free nD3) (S6.trans S7) ⟨hD3,P7⟩
theorem agA:FnScope ["_law_script", "_law_k"] ["_law_script", "_law_k"] (C6 kU):=G8
abbrev aev:List Str:=["_law_script", "_law_k"]
theorem vdi:VS aev kU "_law_script" 0:=vq
theorem vdj:VS aev kU "_law_k" 1:=vq
theorem agB(F:FunD K "_law_cell_at" "_law_cell_at" kU f fd)(T:Txt P w K mg C):FnOk P w K mg base E8 1 f fd ["_law_script", "_law_k"] (oZ K):=by
 refine F.ok agA ?_ ?_
 .rintro _ _ _ _ ⟨a,ns,k,rfl,_⟩;rfl
 .intro cdv A outer s H vs Q E hr h;have C7:=hu_of hr;have hu:=hr.units;refine ⟨_,QSs.out (B1 (qs_if (D8 q_lt (vi vdj) (qe_cB (q_len (K:=K)) T.b_len X2 (qa_c (vi vdi) A6))) (B5 (E1 (qe_ix (K:=K) (vi vdi) (vi vdj)))) J8)
   (B5 (E1 A8))),?_⟩
  obtain ⟨a,ns,k,rfl,hS,hk,q⟩:=h;walk_at "rd";refine ⟨ns.length,.inl ⟨_,hS,by rw [A7]⟩,iteD (fun D0=>?_) fun _=>q 0⟩;have h1:k<((ns.map V.int).length:Int):=by rw [A7];exact D0
  obtain ⟨v,h2,h3⟩:=jU hk h1;obtain ⟨n,_,rfl⟩:=E2.mp h3;exact ⟨_,.inl hS,_,h2,q n⟩
theorem sc_l_pieces:FnScope ["_law_cell", "_law_many", "_law_signs", "_law_number", "_law_step", "_law_begin", "_law_shape", "_law_found", "_law_k", "_law_place"] ["_law_cell", "_law_many"] (C6 Q6):=G8
abbrev w6:List Str:=["_law_cell", "_law_many", "_law_signs", "_law_number", "_law_step", "_law_begin", "_law_shape", "_law_found", "_law_k", "_law_place"]
theorem vdk:VS w6 Q6 "_law_cell" 0:=vq
theorem vdl:VS w6 Q6 "_law_many" 1:=vq
theorem pO:VS w6 Q6 "_law_signs" 2:=vq
theorem vF:VS w6 Q6 "_law_number" 3:=vq
theorem vdo:VS w6 Q6 "_law_step" 4:=vq
theorem vdp:VS w6 Q6 "_law_begin" 5:=vq
theorem vdq:VS w6 Q6 "_law_shape" 6:=vq
theorem vG:VS w6 Q6 "_law_found" 7:=vq
theorem vds:VS w6 Q6 "_law_k" 8:=vq
theorem vH:VS w6 Q6 "_law_place" 9:=vq
theorem vdu:LS Q6 "_law_signs":=lq
theorem vdv:LS Q6 "_law_number":=lq
theorem vdw:LS Q6 "_law_step":=lq
theorem vdx:LS Q6 "_law_begin":=lq
theorem vdy:LS Q6 "_law_shape":=lq
theorem vdz:LS Q6 "_law_found":=lq
theorem vdA:LS Q6 "_law_k":=lq
theorem vdB:LS Q6 "_law_place":=lq
theorem ahh(F:FunD K "_law_pieces" "_law_pieces" Q6 f fd)(T:Txt P w K mg C):FnOk P w K mg base E8 1 f fd ["_law_cell", "_law_many"] spPcs:=by
 refine F.ok sc_l_pieces ?_ ?_
 .rintro _ _ _ _ ⟨c,m,rfl,_⟩;rfl
 .intro cdv A outer s H vs Q E hr h;have C7:=hu_of hr;have hu:=hr.units;refine ⟨_,QSs.out (B1 (D6 (n:=2) sc_l_pieces.nd rfl vdu K0)
   (B1 (D6 (n:=2) sc_l_pieces.nd rfl vdu (qe_op (q_add (K:=K)) (vi pO) K0))
   (B1 (D6 (n:=3) sc_l_pieces.nd rfl vdv (qe_op q_mod (qe_op q_mul (vi vdk) A8) A8))
   (B1 (D6 (n:=4) sc_l_pieces.nd rfl vdw (qe_ix (K:=K) (N9 (qa_c A8 (qa_c A8 (qa_c A8 (qa_c A8 (qa_c A8 (qa_c A8 (qa_c A8 (qa_c A8 A6))))))))) (qe_op q_mod (vi vF) A8)))
   (B1 (D6 (n:=5) sc_l_pieces.nd rfl vdx (qe_op q_mod (qe_op u5 (vi vF) A8) A8))
   (B1 (D6 (n:=6) sc_l_pieces.nd rfl vdy (qe_op q_mod (qe_op u5 (vi vF) A8) A8))
   (B1 (D6 (n:=7) sc_l_pieces.nd rfl vdz (N9 A6))
   (B1 (M8 PassesOwn.never (qi_r1 T.b_range (qa_c (vi vdl) A6)) (D7 (n:=8) sc_l_pieces.nd rfl vdA (.inl rfl)) (B1 (D6 (n:=9) sc_l_pieces.nd rfl vdB (qe_op q_mod (qe_op (q_add (K:=K)) (vi vdp) (qe_op q_mul (vi vds) (vi vdo))) A8))
   (B5 (qs_if (QW.pt (qw_or (D8 (q_eq (K:=K) hu) (vi vdq) A8) (cE (QW.pt (kC (D8 (q_eq (K:=K) hu) (vi vdq) A8) (kB (D8 (q_eq (K:=K) hu) (qe_op q_mod (vi vds) A8) A8))))))) (B5 (O3 (qe_mB (K:=K) O2 V7 V6 W2 (vi vG) (qa_c (qe_ix (K:=K) (vi pO) (qe_op q_mod (vi vH) A8)) A6)))) (B5 (O3 (qe_mB (K:=K) O2 V7 V6 W2 (vi vG) (qa_c (qe_op (q_add (K:=K)) (qe_ix (K:=K) (vi pO) (qe_op u5 (vi vH) A8)) (qe_ix (K:=K) (vi pO) (qe_op q_mod (vi vH) A8))) A6))))))))
   (B5 (E1 (vi vG))))))))))),?_⟩
  obtain ⟨c,m,rfl,hm0,hm,q⟩:=h;walk_at "rd";refine ⟨am8,.inr ⟨by decide,by decide⟩,by decide,fun p hp=>?_⟩;obtain ⟨st,T8,xX⟩:=aoC (xs:=[V.int 1,V.int 2,V.int 5,V.int 94,V.int 187,V.int 1000,V.int 4001,V.int 8648]) (i:=c*48271 % 2147483647 % 8) (by simp) (by lia) (by simp only [F8,V4];lia);have U8:st∈stepL:=by simpa [stepL] using xX
  have hst3:0<st/\st<10000:=by
   simp only [stepL,D9,W8,or_false] at U8;lia
  refine ⟨_,.inl (.of A5),_,T8,fun p1 o5=>⟨by lia,by lia,?_⟩⟩;have n0:H p1=none:=(Same.new hp).free o5;generalize hB:c*48271 % 2147483647 / 8 % 8649=B;generalize hSh:c*48271 % 2147483647 / 69192 % 3=sh;refine forR (fun i Y H2=>∃ (u v:Option V),Y=[some (.int c),some (.int m),some (.str SS),some (.int (c*48271 % 2147483647)),some (.int st),some (.int B),some (.int sh),some (.ref p1),u,v]/\
    Same H H2/\H2 p1=some (.lst (((t7 i).map (b8 B st sh)).map V.str)))
   ⟨none,none,rfl,(Same.new hp).trans (Same.new o5),A5⟩ ?_ ?_
  .rintro i Y H2 hi ⟨u,v,rfl,S,hl⟩;have bH:(((t7 i).map (b8 B st sh)).map V.str).length<sizeLine:=by rw [A7,A7,List.length_range];exact G7 (by lia)
   walk_at "rd";rw [Int.zero_add];generalize hP:(B+(i:Int)*st) % 8649=P;have hP0:0<=P:=by rw [<- hP];exact Int.emod_nonneg _ (by decide)
   have hP1:P<8649:=by rw [<- hP];exact jM _ (by decide)
   obtain ⟨a2,a3⟩:=oM (i:=P % 93) (by lia) (by lia);obtain ⟨b2,b3⟩:=oM (i:=P / 93) (by lia) (by lia);have fin:∀ z,b8 B st sh i=z->gF (V.ref p1) [V.str z] H2 fun x H1=>Same H H1/\H1 p1=some (HO.lst (List.map V.str (List.map (b8 B st sh) (t7 (i+1))))):=fun z hz=>
    appOk hl bH ⟨S.put n0,by rw [A5,List.range_succ,E4,E4];simp [hz]⟩
   have l2:∀ x y:Nat,(⟨#[x]⟩:Str).length+(⟨#[y]⟩:Str).length<=sizeLine:=fun _ _=>by show 1+1<=sizeLine;decide
   have f1:sh=0\/(sh=1/\(i:Int) % 2=1)->b8 B st sh i=one (i4 (P % 93)):=fun h=>by unfold b8;rw [if_pos h,hP]
   have f2:¬ (sh=0\/(sh=1/\(i:Int) % 2=1))->b8 B st sh i=two (i4 (P / 93)) (i4 (P % 93)):=fun h=>by unfold b8;rw [if_neg h,hP]
   exact ⟨.inr ⟨by lia,by lia⟩,iteD (fun h=>⟨N4 hl,gL,_,a2,fin _ (f1 (.inl h))⟩) fun h=>iteD (fun h1=>iteD (fun h2=>⟨N4 hl,gL,_,a2,fin _ (f1 (.inr ⟨h1,h2⟩))⟩)
    fun h2=>⟨N4 hl,gL,_,b2,gL,_,a2,l2 _ _,fin _ (f2 (by lia))⟩) fun h1=>⟨N4 hl,gL,_,b2,gL,_,a2,l2 _ _,fin _ (f2 (by lia))⟩⟩
  .rintro Y H2 ⟨u,v,rfl,S,hl⟩;walk_at "rd";refine q p1 _ H2 n0 S hl (by rw [A7,List.length_range]) (ajx U8 (by lia)) fun z hz=>?_
   obtain ⟨k,_,rfl⟩:=E2.mp hz;have r1:=oM (i:=(B+k*st) % 8649 % 93) (by lia) (by lia);have r2:=oM (i:=(B+k*st) % 8649 / 93) (by lia) (by lia);unfold b8
   split
   .exact aje r1.2
   .exact ajg r2.2 r1.2
theorem sc_l_turns:FnScope ["_law_script", "_law_many", "_law_one", "_law_other", "_law_shape", "_law_left", "_law_k", "_law_cell", "_law_number", "_law_thing"] ["_law_script", "_law_many"] (C6 Q7):=G8
abbrev w8:List Str:=["_law_script", "_law_many", "_law_one", "_law_other", "_law_shape", "_law_left", "_law_k", "_law_cell", "_law_number", "_law_thing"]
theorem pP:VS w8 Q7 "_law_script" 0:=vq
theorem lE:VS w8 Q7 "_law_many" 1:=vq
theorem vI:VS w8 Q7 "_law_one" 2:=vq
theorem lF:VS w8 Q7 "_law_other" 3:=vq
theorem vJ:VS w8 Q7 "_law_shape" 4:=vq
theorem vdH:VS w8 Q7 "_law_left" 5:=vq
theorem vdI:VS w8 Q7 "_law_k" 6:=vq
theorem vdJ:VS w8 Q7 "_law_cell" 7:=vq
theorem pQ:VS w8 Q7 "_law_number" 8:=vq
theorem vdL:VS w8 Q7 "_law_thing" 9:=vq
theorem vdM:LS Q7 "_law_one":=lq
theorem vdN:LS Q7 "_law_other":=lq
theorem vdO:LS Q7 "_law_shape":=lq
theorem vdP:LS Q7 "_law_left":=lq
theorem vdQ:LS Q7 "_law_k":=lq
theorem vdR:LS Q7 "_law_cell":=lq
theorem vdS:LS Q7 "_law_number":=lq
theorem vdT:LS Q7 "_law_thing":=lq
theorem aiA(F:FunD K "_law_turns" "_law_turns" Q7 f fd)(T:Txt P w K mg C)(G_l_cell_at:FO P w K mg base 1 "_law_cell_at" ["_law_script", "_law_k"] [] (oZ K))(G_l_pieces:FO P w K mg base 1 "_law_pieces" ["_law_cell", "_law_many"] [] spPcs):FnOk P w K mg base E8 2 f fd ["_law_script", "_law_many"] (aj9 K):=by
 refine F.ok sc_l_turns ?_ ?_
 .rintro _ _ _ _ ⟨a,ns,m,rfl,_⟩;rfl
 .intro cdv A outer s H vs Q E hr h;have C7:=hu_of hr;have hu:=hr.units;refine ⟨_,QSs.out (B1 (D6 (n:=2) sc_l_turns.nd rfl vdM (F9 G_l_pieces (hm hr) (qa_c (F9 G_l_cell_at (hm hr) (qa_c (vi pP) (qa_c A8 A6))) (qa_c (vi lE) A6))))
   (B1 (D6 (n:=3) sc_l_turns.nd rfl vdN (qe_cT (Z9 (K:=K) (calm:=true)) T.b_list Y3 (qa_c (vi vI) A6)))
   (B1 (D6 (n:=4) sc_l_turns.nd rfl vdO (qe_op q_mod (F9 G_l_cell_at (hm hr) (qa_c (vi pP) (qa_c A8 A6))) A8))
   (eP (qs_if (D8 (q_eq (K:=K) hu) (vi vJ) A8) (B5 (O3 (qe_m0 (K:=K) O2 PySem.F.slot_list_reverse PySem.F.type_list_reverse sT (vi lF)))) J8)
   (eP (qs_if (D8 (q_eq (K:=K) hu) (vi vJ) A8) (B1 (D6 (n:=3) sc_l_turns.nd rfl vdN (N9 A6))
   (B1 (D6 (n:=5) sc_l_turns.nd rfl vdP (qe_cT (Z9 (K:=K) (calm:=true)) T.b_list Y3 (qa_c (vi vI) A6)))
   (B5 (M8 PassesOwn.never (qi_r1 T.b_range (qa_c (vi lE) A6)) (D7 (n:=6) sc_l_turns.nd rfl vdQ (.inl rfl)) (B1 (D6 (n:=7) sc_l_turns.nd rfl vdR (F9 G_l_cell_at (hm hr) (qa_c (vi pP) (qa_c (qe_op (q_add (K:=K)) A8 (vi vdI)) A6))))
   (B5 (O3 (qe_mB (K:=K) O2 V7 V6 W2 (vi lF) (qa_c (qe_mB (K:=K) O2 PySem.F.slot_list_pop PySem.F.type_list_pop alU (vi vdH) (qa_c (qe_op q_mod (qe_op q_mod (qe_op q_mul (vi vdJ) A8) A8) (qe_cB (q_len (K:=K)) T.b_len X2 (qa_c (vi vdH) A6))) A6)) A6))))))))) J8)
   (eP (qs_if (D8 q_gt (vi lE) A8) (B5 (M8 PassesOwn.never (M9 (K:=K) (Q0 (K:=K) (vi pP) (M7 A8) (M7 A8))) (D7 (n:=7) sc_l_turns.nd rfl vdR (.inl rfl)) (B1 (D6 (n:=8) sc_l_turns.nd rfl vdS (qe_op q_mod (qe_op q_mul (vi vdJ) A8) A8))
   (B1 (D6 (n:=9) sc_l_turns.nd rfl vdT (qe_mB (K:=K) O2 PySem.F.slot_list_pop PySem.F.type_list_pop alU (vi lF) (qa_c (qe_op q_mod (vi pQ) (vi lE)) A6)))
   (eP (qs_if (QW.pt (qw_or (D8 q_gt (vi vJ) A8) (cE (D8 (q_eq (K:=K) hu) (qe_op q_mod (qe_op u5 (vi pQ) A8) A8) A8)))) (B5 (D6 (n:=8) sc_l_turns.nd rfl vdS (qe_op u5 (vi pQ) A8))) J8)
   (B5 (O3 (qe_mB (K:=K) O2 PySem.F.slot_list_insert PySem.F.type_list_insert aln (vi lF) (qa_c (qe_op q_mod (vi pQ) (vi lE)) (qa_c (vi vdL) A6)))))))))) J8)
   (B5 (E1 (L8 (qa_c (vi vI) (qa_c (vi lF) A6))))))))))),?_⟩
  obtain ⟨a,ns,m,rfl,hS,hn,hm0,hm1,q⟩:=h;walk_at "rd";refine ⟨a,ns,0,rfl,hS,by decide,fun c=>⟨c,m,rfl,hm0,by lia,fun l1 xs H1 nl1 S1 W6 jC X8 hxp=>?_⟩⟩
  try walk_at "rd"
  refine rListR.l (.inl (.of W6)) fun p np=>⟨a,ns,1,rfl,(S1.trans (Same.new np)).seq hS,by decide,fun c1=>?_⟩
  try walk_at "rd"
  generalize hsh:c1 % 4=sh;have npH:H p=none:=S1.free np;have npl:p≠l1:=fun e=>by rw [e,W6] at np;cases np
  refine gQ (TuSt H a l1 m sh xs) ?_ ?_
  .walk_at "rd";have h2:TuSt H a l1 m sh xs [some (.ref a),some (.int m),some (.ref l1),some (.ref p),some (.int sh),none,none,none,none,none] (A4 H1 p (.lst (xs.map V.str))):=⟨p,xs,none,none,none,none,none,rfl,S1.trans (Same.new np),B3 W6 np,A5,npH,npl,.refl _⟩
   refine iteD (fun _=>?_) fun _=>h2
   refine ⟨N4 A5,p,_,rfl,rfl,A5,p,xs.reverse,none,none,none,none,none,rfl,(S1.trans (Same.new np)).put npH,?_,?_,npH,npl,List.reverse_perm xs⟩
   .rw [A9 npl.symm];exact B3 W6 np
   .rw [A5,List.map_reverse]
  rintro Y H2 ⟨p2,dJ,u,v,w,x,y,rfl,S2,h21,h2p,n2,y4,dL⟩;refine gQ (TuSt H a l1 m sh xs) ?_ ?_
  .walk_at "rd";refine iteD (fun _=>?_) fun _=>⟨p2,dJ,u,v,w,x,y,rfl,S2,h21,h2p,n2,y4,dL⟩
   intro p3 Q3;have n3H:H p3=none:=S2.free Q3;have ne3:p3≠l1:=fun e=>by rw [e,h21] at Q3;cases Q3
   refine rListR.l (.inl (.of (B3 h21 Q3))) fun p4 y7=>⟨by lia,by lia,?_⟩
   have S4:Same H (A4 (A4 H2 p3 (.lst [])) p4 (.lst (xs.map V.str))):=(S2.trans (Same.new Q3)).trans (Same.new y7);have h41:A4 (A4 H2 p3 (.lst [])) p4 (.lst (xs.map V.str)) l1=some (.lst (xs.map V.str)):=B3 (B3 h21 Q3) y7;have ne43:p3≠p4:=fun e=>by rw [<- e,A5] at y7;cases y7
   have ne41:p4≠l1:=fun e=>by rw [e,B3 h21 Q3] at y7;cases y7
   have n4H:H p4=none:=(S2.trans (Same.new Q3)).free y7;have h43:A4 (A4 H2 p3 (.lst [])) p4 (.lst (xs.map V.str)) p3=some (.lst []):=by rw [A9 ne43,A5]
   have h44:A4 (A4 H2 p3 (.lst [])) p4 (.lst (xs.map V.str)) p4=some (.lst (xs.map V.str)):=A5;generalize A4 (A4 H2 p3 (.lst [])) p4 (.lst (xs.map V.str))=H4 at S4 h41 h43 h44;refine forR (fun i Y H5=>∃ (v w x y:Option V) (zs ls:List Str),Y=[some (.ref a),some (.int m),some (.ref l1),some (.ref p3),some (.int sh),some (.ref p4),v,w,x,y]/\Same H H5/\H5 l1=some (.lst (xs.map V.str))/\H5 p3=some (.lst (zs.map V.str))/\H5 p4=some (.lst (ls.map V.str))/\(zs++ls).Perm xs/\zs.length=i)
    ⟨v,w,x,y,[],xs,rfl,S4,h41,h43,h44,.refl _,rfl⟩ ?_ ?_
   .rintro i Y H5 hi ⟨v,w,x,y,zs,ls,rfl,S5,h51,h53,h54,pm,N7⟩;have mM:ls.length+i=m.toNat:=by
     have:=pm.length_eq
     rw [D1] at this;lia
    walk_at "rd";refine ⟨a,ns,_,rfl,S5.seq hS,by lia,fun c2=>?_⟩
    try walk_at "rd"
    generalize hN:c2*16807 % 2147483629=N;have hN0:0<=N % (ls.length:Int):=Int.emod_nonneg _ (by lia);have hN1:N % (ls.length:Int)<(ls.length:Int):=jM _ (by lia);refine ⟨N4 h53,N4 h54,.inr ⟨by decide,by decide⟩,ls.length,.inl ⟨_,.of h54,by rw [A7]⟩,by lia,?_⟩;generalize (N % (ls.length:Int))=I at hN0 hN1 ⊢
    obtain ⟨w0,mW⟩:∃ w0,ls[I.toNat]?=some w0:=⟨_,N0 (by lia)⟩
    refine popOk h54 hN0 (by lia) (y:=V.str w0) (by rw [V2,mW];rfl) ?_;rw [<- oH];have h63:A4 H5 p4 (.lst ((ls.eraseIdx I.toNat).map V.str)) p3=some (.lst (zs.map V.str)):=by rw [A9 ne43];exact h53
    refine appOk h63 (by rw [A7];exact G7 (by lia)) ⟨(S5.put n4H).put n3H,?_,zs++[w0],?_,ls.eraseIdx I.toNat,?_,?_,?_⟩
    .rw [A9 ne3.symm,A9 ne41.symm];exact h51
    .rw [A5,E4];rfl
    .rw [A9 ne43.symm,A5]
    .refine List.Perm.trans ?_ pm;rw [U1];exact List.Perm.append_left _ (uB mW).symm
    .rw [D1,N7];rfl
   .rintro Y H5 ⟨v,w,x,y,zs,ls,rfl,S5,h51,h53,h54,pm,N7⟩;have mM:ls=[]:=by
     have:=pm.length_eq
     rw [D1] at this;exact rE (by lia)
    rw [mM,L7] at pm;exact ⟨p3,zs,_,_,_,_,_,rfl,S5,h51,h53,n3H,ne3,pm⟩
  clear u v w x y S2 h21 h2p n2 y4 dL dJ p2 H2;rintro Y H2 ⟨p2,dJ,u,v,w,x,y,rfl,S2,h21,h2p,n2,y4,dL⟩;refine gQ (TuSt H a l1 m sh xs) ?_ ?_
  .walk_at "rd";refine iteD (fun U6=>?_) fun _=>⟨p2,dJ,u,v,w,x,y,rfl,S2,h21,h2p,n2,y4,dL⟩
   refine rSlR.l (S2.seq hS) fun p3 Q3=>⟨p3,rfl,⟨_,.of A5⟩,?_⟩
   have S3:Same H (A4 H2 p3 (.lst (cutV (ns.map V.int) (some 2) (some 62)))):=S2.trans (Same.new Q3);have n3H:H p3=none:=S2.free Q3;have ne31:p3≠l1:=fun e=>by rw [e,h21] at Q3;cases Q3
   have ne32:p3≠p2:=fun e=>by rw [e,h2p] at Q3;cases Q3
   refine forL (xs:=cutV (ns.map V.int) (some 2) (some 62)) (fun i Y H5=>∃ (v w x y:Option V) (zs:List Str),Y=[some (.ref a),some (.int m),some (.ref l1),some (.ref p2),some (.int sh),u,v,w,x,y]/\Same H H5/\H5 l1=some (.lst (xs.map V.str))/\H5 p2=some (.lst (zs.map V.str))/\H5 p3=some (.lst (cutV (ns.map V.int) (some 2) (some 62)))/\zs.Perm xs)
    ⟨v,w,x,y,dJ,rfl,S3,B3 h21 Q3,B3 h2p Q3,A5,dL⟩ (by rintro i Y H5 _ ⟨_,_,_,_,_,_,_,_,_,h,_⟩;exact .of h) ?_ ?_
   .rintro i x0 Y H5 hx ⟨v,w,x,y,zs,rfl,S5,h51,h52,h53,pm⟩;obtain ⟨n,rfl⟩:∃ n,x0=V.int n:=by
     have hm:x0∈ns.map V.int:=by
      have:=L3 hx
      unfold cutV at this;exact List.mem_of_mem_drop (dP this)
     obtain ⟨n,_,rfl⟩:=E2.mp hm;exact ⟨n,rfl⟩
    have N7:zs.length=m.toNat:=by rw [pm.length_eq,jC]
    walk_at "rd";generalize hN:n*48271 % 2147483587=N;have hN0:0<=N % m:=Int.emod_nonneg _ (by lia);have hN1:N % m<m:=jM _ (by lia);refine ⟨.inr ⟨by decide,by decide⟩,N4 h52,by lia,?_⟩;generalize hI:N % m=I at hN0 hN1 ⊢
    obtain ⟨w0,mW⟩:∃ w0,zs[I.toNat]?=some w0:=⟨_,N0 (by lia)⟩
    refine popOk h52 hN0 (by lia) (y:=V.str w0) (by rw [V2,mW];rfl) ?_;rw [<- oH];have pe:=uB mW;have x8:(zs.eraseIdx I.toNat).length+1=m.toNat:=by
     have:=pe.length_eq
     rw [F8] at this;lia
    have h62:A4 H5 p2 (.lst ((zs.eraseIdx I.toNat).map V.str)) p2=some (.lst ((zs.eraseIdx I.toNat).map V.str)):=A5;have S6:Same H (A4 H5 p2 (.lst ((zs.eraseIdx I.toNat).map V.str))):=S5.put n2;have h61:A4 H5 p2 (.lst ((zs.eraseIdx I.toNat).map V.str)) l1=some (.lst (xs.map V.str)):=by rw [A9 y4.symm];exact h51
    have h63:A4 H5 p2 (.lst ((zs.eraseIdx I.toNat).map V.str)) p3=some (.lst (cutV (ns.map V.int) (some 2) (some 62))):=by rw [A9 ne32];exact h53
    generalize A4 H5 p2 (.lst ((zs.eraseIdx I.toNat).map V.str))=H6 at h62 S6 h61 h63;generalize zs.eraseIdx I.toNat=es at pe x8 h62;refine gQ (fun Y H7=>∃ (N2:Int),Y=[some (.ref a),some (.int m),some (.ref l1),some (.ref p2),some (.int sh),u,v,some (.int n),some (.int N2),some (.str w0)]/\H7=H6) ?_ ?_
    .walk_at "rd";exact iteD (fun _=>trivial) fun _=>iteD (fun _=>trivial) fun _=>trivial
    rintro Y H7 ⟨N2,rfl,rfl⟩;walk_at "rd";have hM0:0<=N2 % m:=Int.emod_nonneg _ (by lia);have hM1:N2 % m<m:=jM _ (by lia);refine ⟨N4 h62,by lia,insOk h62 hM0 (by lia) (by rw [A7];lia) (by rw [A7];exact G7 (by lia)) ⟨S6.put n2,?_,es.take (N2 % m).toNat++w0::es.drop (N2 % m).toNat,?_,?_,?_⟩⟩
    .rw [A9 y4.symm];exact h61
    .rw [A5,E4,G6,bS,bT]
    .rw [A9 ne32];exact h63
    .exact ((aly es _ w0).trans pe.symm).trans pm
   .rintro Y H5 ⟨v,w,x,y,zs,rfl,S5,h51,h52,h53,pm⟩;exact ⟨p2,zs,_,_,_,_,_,rfl,S5,h51,h52,n2,y4,pm⟩
  clear u v w x y S2 h21 h2p n2 y4 dL dJ p2 H2;rintro Y H2 ⟨p2,dJ,u,v,w,x,y,rfl,S2,h21,h2p,n2,y4,dL⟩;walk_at "rd";exact ⟨by decide,fun p np=>q p l1 p2 xs dJ _ (S2.trans (Same.new np)) A5 (B3 h21 np) (B3 h2p np) nl1 n2 y4.symm jC X8 dL hxp⟩
theorem sc_change:FnScope ["one", "other", "kept", "moved"] ["one", "other"] (C6 aR):=G8
abbrev vK:List Str:=["one", "other", "kept", "moved"]
theorem vdU:VS vK aR "one" 0:=vq
theorem vdV:VS vK aR "other" 1:=vq
theorem vdW:VS vK aR "moved" 3:=vq
theorem vdX:LS aR "kept":=lq
theorem vdY:LS aR "moved":=lq
theorem aki(F:FunD K "change" "change" aR f fd)(T:Txt P w K mg C)(G_kept_most:FO P w K mg base 2 "kept_most" ["one", "other"] [] uC):FnOk P w K mg base E8 3 f fd ["one", "other"] ahN:=by
 refine F.ok sc_change ?_ ?_
 .rintro _ _ _ _ ⟨a,b,xs,ys,rfl,_⟩;rfl
 .intro cdv A outer s H vs Q E hr h;have C7:=hu_of hr;have hu:=hr.units;refine ⟨_,QSs.out (B1 (D6 (n:=2) sc_change.nd rfl vdX (qe_ix (K:=K) (F9 G_kept_most (hm hr) (qa_c (vi vdU) (qa_c (vi vdV) A6))) A8))
   (B1 (gP (n:=3) sc_change.nd rfl vdY (R3:CompOk ["one", "other", "kept", "moved"] (C6 aR).names _ ["letter", "kept"] 1 [2]) (M9 (K:=K) (vi vdU)) (fun _ _ _ _ _=>D7 (n:=0) (show List.Nodup (["letter", "kept"]:List Str) by decide +kernel) rfl (Or.inl rfl)) (fun _ _ _ _ _=>(Z8 (D8 (eO (K:=K) hu) (qv 0) (qv 1)))) (fun _ _ _ _ _=>(qv 0)))
   (B1 (qs_if (nY (X5 (K:=K) (vi vdW))) (B5 (E1 (N9 A6))) J8)
   (B5 (E1 (N9 (qa_c (qe_op (q_add (K:=K)) (L8 (qa_c K0 A6)) (qe_cT (cG (K:=K)) T.b_tuple aJ (qa_c (vi vdW) A6))) (qa_c (qe_op (q_add (K:=K)) (L8 (qa_c K0 A6)) (qe_cT (cG (K:=K)) T.b_tuple aJ (qa_c (vi vdV) A6))) A6)))))))),?_⟩
  obtain ⟨a,b,xs,ys,rfl,ha,hb,nx,ny,pm,hl,q⟩:=h;have T4:=pm.length_eq;walk_at "rd";refine ⟨a,b,xs,ys,rfl,ha,hb,nx,ny,fun x hx=>pm.mem_iff.mpr hx,by lia,by lia,fun p k g rs ks ah H1 np nk hp hk RR xY GG qU qV W5=>?_⟩;have kp:=kp_of nx GG qU qV W5;have S:=RR.same;clear RR xY GG qU qV np;walk_at "rd";refine ⟨_,.inr (.of hp),V.ref k,N5 _ _,⟨_,.of (S _ _ ha)⟩,compL (xs:=xs.map V.str) [some (.ref k)] rfl (fun D i zs H2=>zs=((xs.take i).filter fun x=>!decide (x∈ks)).map V.str/\Same H1 H2) (fun D nD=>⟨rfl,Same.new nD⟩) (by rintro D i zs H2 nD _ ⟨_,S2⟩;exact .of (S2 _ _ (S _ _ ha))) ?_ ?_⟩
  .rintro D i y zs H2 nD hi hy ⟨rfl,S2⟩ hD N7;obtain ⟨x,hx,rfl⟩:=G5 hy;rw [A7] at N7;have wZ:i<xs.length:=(G9.mp hx).1;walk_at "rd";refine rInR.l (.inl (.of (S2 _ _ hk))) rfl (nX _) ⟨_,rfl,?_⟩;rw [jY,Bool.true_xor]
   by_cases e:(!decide (x∈ks))=true
   .rw [if_pos e];refine ⟨hD,by rw [A7];exact G7 (by lia),CW.put hi (by rw [A7];exact N7) ⟨?_,S2.put nD⟩⟩;rw [L9 hx,V1,bN (p:=fun x=>!decide (x∈ks)) e,E4];rfl
   .rw [if_neg e];refine ⟨hD,hi,by rw [A7];lia,⟨_,rfl⟩,?_,S2⟩;rw [L9 hx,V1,bO (p:=fun x=>!decide (x∈ks)) e,List.filter_nil,L7]
  rintro D zs H2 nD ⟨rfl,S2⟩ hD _;rw [A7,K4] at hD;have hD':H2 D=some (.lst ((D5 xs ks).map V.str)):=hD;have mR:(D5 xs ks).length<=100:=K6 (dO _ _) hl;have qW:=S.trans S2;walk_at "rd";refine ⟨_,gR hD',?_⟩
  by_cases hm:D5 xs ks=[]
  .rw [hm];refine iteT fun l nl=>q l [] ks _ (qW.free nl) (qW.trans (Same.new nl)) kp W5 ?_
   rw [if_pos hm];exact ⟨A5,.nil⟩
  .have G3:((D5 xs ks).map V.str).isEmpty=false:=by
    cases e:D5 xs ks with
    | nil=>exact absurd e hm
    | cons y ys=>rfl
   rw [G3];refine iteF ⟨by decide,fun p1 R0=>?_⟩
   try walk_at "rd"
   refine rTupR.l (.of (B3 hD' R0)) fun t2 p5=>?_
   walk_at "rd";refine rAddR.t (.of (B3 A5 p5)) (.of A5) (by simp) (by simp only [A7,F8,V4];exact Y4 (by lia)) (fun e=>absurd (List.map_eq_nil_iff.mp e) hm) fun _ t3 nt3=>⟨by decide,fun p4 y7=>?_⟩
   have S3:Same H2 (A4 (A4 (A4 (A4 H2 p1 (.tup [V.str (Str.ofString "forget")])) t2 (.tup ((D5 xs ks).map V.str))) t3 (.tup ([V.str (Str.ofString "forget")]++(D5 xs ks).map V.str))) p4 (.tup [V.str (Str.ofString "row")])):=((Same.new R0).trans (Same.new p5)).trans ((Same.new nt3).trans (Same.new y7));have h3:A4 (A4 (A4 (A4 H2 p1 (.tup [V.str (Str.ofString "forget")])) t2 (.tup ((D5 xs ks).map V.str))) t3 (.tup ([V.str (Str.ofString "forget")]++(D5 xs ks).map V.str))) p4 (.tup [V.str (Str.ofString "row")]) t3=some (tupR (M6,D5 xs ks)):=B3 A5 y7;have h4:A4 (A4 (A4 (A4 H2 p1 (.tup [V.str (Str.ofString "forget")])) t2 (.tup ((D5 xs ks).map V.str))) t3 (.tup ([V.str (Str.ofString "forget")]++(D5 xs ks).map V.str))) p4 (.tup [V.str (Str.ofString "row")]) p4=some (.tup [V.str (Str.ofString "row")]):=A5;generalize A4 (A4 (A4 (A4 H2 p1 (.tup [V.str (Str.ofString "forget")])) t2 (.tup ((D5 xs ks).map V.str))) t3 (.tup ([V.str (Str.ofString "forget")]++(D5 xs ks).map V.str))) p4 (.tup [V.str (Str.ofString "row")])=H3 at S3 h3 h4;have o0:ys≠[]:=fun e=>hm (by
    rw [e] at pm;rw [pm.symm.eq_nil];rfl)
   refine rTupR.l (.of (S3 _ _ (qW _ _ hb))) fun t5 xZ=>?_
   walk_at "rd";refine rAddR.t (.of (B3 h4 xZ)) (.of A5) (by simp) (by simp only [A7,F8,V4];exact Y4 (by lia)) (fun e=>absurd (List.map_eq_nil_iff.mp e) o0) fun _ t6 nt6=>⟨by decide,fun l nl=>?_⟩
   have mX:=qW.trans (S3.trans ((Same.new (u:=HO.tup (ys.map V.str)) xZ).trans (Same.new (u:=HO.tup ([V.str (Str.ofString "row")]++ys.map V.str)) nt6)));refine q l [t3,t6] ks _ (mX.free nl) (mX.trans (Same.new nl)) kp W5 ?_;rw [if_neg hm];exact ⟨A5,.cons (B3 (B3 (B3 h3 xZ) nt6) nl) (.cons (B3 A5 nl) .nil)⟩
theorem sc_l_rows:FnScope ["_law_one", "_law_shape", "_law_size", "_law_rows_here", "_law_at"] ["_law_one", "_law_shape", "_law_size"] (C6 v9):=G8
abbrev lG:List Str:=["_law_one", "_law_shape", "_law_size", "_law_rows_here", "_law_at"]
theorem vL:VS lG v9 "_law_one" 0:=vq
theorem vM:VS lG v9 "_law_shape" 1:=vq
theorem vd1:VS lG v9 "_law_size" 2:=vq
theorem vN:VS lG v9 "_law_rows_here" 3:=vq
theorem vd3:VS lG v9 "_law_at" 4:=vq
theorem vd4:LS v9 "_law_rows_here":=lq
theorem vd5:LS v9 "_law_at":=lq
theorem akj(F:FunD K "_law_rows" "_law_rows" v9 f fd)(T:Txt P w K mg C):FnOk P w K mg base E8 1 f fd ["_law_one", "_law_shape", "_law_size"] ahQ:=by
 refine F.ok sc_l_rows ?_ ?_
 .rintro _ _ _ _ ⟨a,sh,sz,xs,rfl,_⟩;rfl
 .intro cdv A outer s H vs Q E hr h;have C7:=hu_of hr;have hu:=hr.units;refine ⟨_,QSs.out (B1 (qs_if (D8 (q_eq (K:=K) hu) (vi vM) A8) (B5 (E1 (N9 (qa_c (qe_op (q_add (K:=K)) (L8 (qa_c K0 A6)) (qe_cT (cG (K:=K)) T.b_tuple aJ (qa_c (vi vL) A6))) A6)))) J8)
   (B1 (D6 (n:=3) sc_l_rows.nd rfl vd4 (N9 A6))
   (B1 (M8 PassesOwn.never (qi_r3 T.b_range (qa_c A8 (qa_c (qe_cB (q_len (K:=K)) T.b_len X2 (qa_c (vi vL) A6)) (qa_c (vi vd1) A6)))) (D7 (n:=4) sc_l_rows.nd rfl vd5 (.inl rfl)) (B5 (O3 (qe_mB (K:=K) O2 V7 V6 W2 (vi vN) (qa_c (qe_op (q_add (K:=K)) (L8 (qa_c K0 A6)) (qe_cT (cG (K:=K)) T.b_tuple aJ (qa_c (Q0 (K:=K) (vi vL) (M7 (vi vd3)) (M7 (qe_op (q_add (K:=K)) (qe_op (q_add (K:=K)) (vi vd3) (vi vd1)) (qe_cT alY T.b_int alL (qa_c (jZ q_lt (vi vM) A8) A6))))) A6))) A6)))))
   (B1 (qs_if (D8 (q_eq (K:=K) hu) (vi vM) A8) (B5 (O3 (qe_m0 (K:=K) O2 PySem.F.slot_list_reverse PySem.F.type_list_reverse sT (vi vN)))) J8)
   (B5 (E1 (vi vN))))))),?_⟩
  obtain ⟨a,sh,sz,xs,rfl,ha,h1,h9,X8,hl,q⟩:=h;have rowT:∀ {H2:Hp} {p b:Addr} {ps:List Str} {Z:VK},H2 p=some (.tup [V.str (Str.ofString "row")])->H2 b=some (.lst (ps.map V.str))->ps≠[]->ps.length<=50->(∀ t H3,H2 t=none->Same H2 H3->H3 t=some (tupR (("row" : Str),ps))->Z (.ref t) H3)->rTupR K b H2 fun y H3=>rAddU K (V.ref p) y H3 Z:=fun {H2 p b ps Z} hp hb hn hl hz=>by
   refine rTupR.l (.of hb) fun t nt=>?_
   walk_at "rd";refine rAddR.t (.of (B3 hp nt)) (.of A5) (by simp) (by simp only [A7,F8,V4];exact Y4 (by lia)) (fun e=>absurd (List.map_eq_nil_iff.mp e) hn) fun _ t2 p5=>?_
   exact hz t2 _ ((Same.new nt).free p5) ((Same.new nt).trans (Same.new p5)) A5
  have hx1:1<=xs.length:=r0.mpr X8;walk_at "rd";refine iteD (fun _=>⟨by decide,fun p np=>?_⟩) fun _ p np=>?_
  .refine rowT A5 (B3 ha np) X8 (by lia) fun t H3 nt S3 ht=>⟨by decide,fun l nl=>?_⟩
   have S:=(Same.new (u:=HO.tup [V.str (Str.ofString "row")]) np).trans S3;exact q l [t] [(("row" : Str),xs)] _ (S.free nl) (S.trans (Same.new nl)) ⟨A5,.cons (B3 ht nl) .nil⟩ (fun z hz=>by rw [E6.mp hz];exact ⟨rfl,X8,List.Sublist.refl _⟩) (by simp)
  obtain ⟨s,rfl,hs1,hs9⟩:∃ s:Nat,sz=s/\1<=s/\s<=9:=⟨sz.toNat,by lia,by lia,by lia⟩
  have hN:∀ i,i<m4 0 (xs.length:Int) (s:Int)->i*s<xs.length:=fun i hi=>by
   unfold m4 at hi;rw [if_pos (by lia)] at hi
   rcases (show s=1\/s=2\/s=3\/s=4\/s=5\/s=6\/s=7\/s=8\/s=9 by lia) with rfl | rfl | rfl | rfl | rfl | rfl | rfl | rfl | rfl <;> lia
  have hNl:m4 0 (xs.length:Int) (s:Int)<=xs.length:=by
   unfold m4;rw [if_pos (by lia)]
   rcases (show s=1\/s=2\/s=3\/s=4\/s=5\/s=6\/s=7\/s=8\/s=9 by lia) with rfl | rfl | rfl | rfl | rfl | rfl | rfl | rfl | rfl <;> lia
  refine ⟨xs.length,.inl ⟨_,.of (B3 ha np),by rw [A7]⟩,by decide,by decide,by lia,by lia,by lia,by lia,?_⟩;generalize m4 0 (xs.length:Int) (s:Int)=N at hN hNl;refine ao8 (fun i Y H2=>∃ (u:Option V) (ts:List Addr) (R:List Rl),Y=[some (.ref a),some (.int sh),some (.int (s:Int)),some (.ref p),u]/\Same H H2/\IsRules H2 p ts R/\al1 xs R/\R.length=i) ⟨none,[],[],rfl,Same.new np,⟨A5,.nil⟩,(by intro z hz;cases hz),rfl⟩ ?_ ?_
  .rintro P' Bk hP i Y H2 hi ⟨u,ts,R,rfl,S2,hR,hRw,hRl⟩;have hlo:=hN i hi;have qC:=hR.len;walk_at "rd";refine ⟨N4 hR.top,by decide,fun p1 R0=>rSlR.l (.of (B3 (S2 _ _ ha) R0)) fun l2 fP=>?_⟩;obtain ⟨b,hb,yA⟩:∃ b:Nat,(0+(i:Int)*(s:Int)+(s:Int)+(if decide (sh<3)=true then 1 else 0))=((i*s+(s+b):Nat):Int)/\b<=1:=by
    have e:((i*s:Nat):Int)=(i:Int)*(s:Int):=Int.natCast_mul i s
    by_cases h:sh<3
    .exact ⟨1,by rw [if_pos (decide_eq_true h)];lia,by decide⟩
    .exact ⟨0,by rw [if_neg (by simpa using h)];lia,by decide⟩
   have ec:cutV (xs.map V.str) (some (0+(i:Int)*(s:Int))) (some (0+(i:Int)*(s:Int)+(s:Int)+(if decide (sh<3)=true then 1 else 0)))=((xs.drop (i*s)).take (s+b)).map V.str:=by
    rw [hb,show (0+(i:Int)*(s:Int))=((i*s:Nat):Int) by rw [Int.zero_add];exact (Int.natCast_mul i s).symm,tM _ (z9 _ _),Nat.add_sub_cancel_left,<- bT,<- bS]
   rw [ec];have f7:((xs.drop (i*s)).take (s+b)).Sublist xs:=(List.take_sublist _ _).trans (List.drop_sublist _ _);have G3:(xs.drop (i*s)).take (s+b)≠[]:=fun e=>by
    have:=congrArg X9 e
    rw [K5,j4,V4] at this;lia
   have iQ:=f7.length_le;generalize (xs.drop (i*s)).take (s+b)=ps at f7 G3 iQ;walk_at "rd";refine rowT (B3 A5 fP) A5 G3 (by lia) fun t H3 nt S3 ht=>?_
   have qX:=((Same.new (u:=HO.tup [V.str (Str.ofString "row")]) R0).trans (Same.new (u:=HO.lst (ps.map V.str)) fP)).trans S3;have hR3:=hR.same qX;refine appOk hR3.top (by rw [A7];exact G7 (by lia)) (hP _ _ _ ⟨_,ts++[t],R++[(("row" : Str),ps)],rfl,(S2.trans qX).put np,hR3.push ht,fun z hz=>?_,by rw [D1,hRl];rfl⟩)
   rcases F6.mp hz with hz | hz
   .exact hRw z hz
   .rw [E6.mp hz];exact ⟨rfl,G3,f7⟩
  rintro Y H2 ⟨u,ts,R,rfl,S2,hR,hRw,hRl⟩;walk_at "rd";refine iteD (fun _=>?_) fun _=>q p ts R H2 np S2 hR hRw (by lia)
  refine ⟨N4 hR.top,p,_,rfl,rfl,hR.top,?_⟩;have ne:∀ {b:Addr} {z:Rl},H2 b=some (tupR z)->b≠p:=fun hb e=>by rw [e,hR.top] at hb;cases hb
  exact q p ts.reverse R.reverse _ np (S2.put np) ⟨by rw [A5,List.map_reverse],aer (O6 hR.row fun b z hb=>by rw [A9 (ne hb)];exact hb)⟩ (fun z hz=>hRw z (List.mem_reverse.mp hz)) (by rw [List.length_reverse];lia)
theorem sc_l_rules:FnScope ["_law_script", "_law_one", "_law_others", "_law_cell", "_law_rules_here", "_law_k", "_law_more"] ["_law_script", "_law_one", "_law_others"] (C6 Y9):=G8
abbrev eX:List Str:=["_law_script", "_law_one", "_law_others", "_law_cell", "_law_rules_here", "_law_k", "_law_more"]
theorem vd6:VS eX Y9 "_law_script" 0:=vq
theorem vO:VS eX Y9 "_law_one" 1:=vq
theorem pR:VS eX Y9 "_law_others" 2:=vq
theorem lH:VS eX Y9 "_law_cell" 3:=vq
theorem vP:VS eX Y9 "_law_rules_here" 4:=vq
theorem veb:VS eX Y9 "_law_k" 5:=vq
theorem vec:VS eX Y9 "_law_more" 6:=vq
theorem ved:LS Y9 "_law_cell":=lq
theorem vee:LS Y9 "_law_rules_here":=lq
theorem vef:LS Y9 "_law_k":=lq
theorem veg:LS Y9 "_law_more":=lq
theorem aiB(F:FunD K "_law_rules" "_law_rules" Y9 f fd)(T:Txt P w K mg C)(G_l_cell_at:FO P w K mg base 1 "_law_cell_at" ["_law_script", "_law_k"] [] (oZ K))(G_l_rows:FO P w K mg base 1 "_law_rows" ["_law_one", "_law_shape", "_law_size"] [] ahQ):FnOk P w K mg base E8 2 f fd ["_law_script", "_law_one", "_law_others"] (agp K):=by
 refine F.ok sc_l_rules ?_ ?_
 .rintro _ _ _ _ ⟨s0,a,b,ns,xs,m0,m1,f2,f3,f4,ov,rfl,_⟩;rfl
 .intro cdv A outer s H vs Q E hr h;have C7:=hu_of hr;have hu:=hr.units;refine ⟨_,QSs.out (B1 (D6 (n:=3) sc_l_rules.nd rfl ved (qe_op u5 (F9 G_l_cell_at (hm hr) (qa_c (vi vd6) (qa_c A8 A6))) A8))
   (B1 (D6 (n:=4) sc_l_rules.nd rfl vee (F9 G_l_rows (hm hr) (qa_c (vi vO) (qa_c (qe_op q_mod (vi lH) A8) (qa_c (qe_op (q_add (K:=K)) A8 (qe_op q_mod (qe_op u5 (vi lH) A8) A8)) A6)))))
   (B1 (O3 (qe_mB (K:=K) O2 V7 V6 W2 (vi vP) (qa_c (L8 (qa_c K0 (qa_c (qe_ix (K:=K) (vi pR) A8) (qa_c (qe_ix (K:=K) (vi pR) A8) A6)))) A6)))
   (B1 (M8 PassesOwn.never (qi_r1 T.b_range (qa_c (qe_op q_mod (qe_op u5 (vi lH) A8) A8) A6)) (D7 (n:=5) sc_l_rules.nd rfl vef (.inl rfl)) (B5 (O3 (qe_mB (K:=K) O2 V7 V6 W2 (vi vP) (qa_c (L8 (qa_c K0 (qa_c (qe_ix (K:=K) (vi vO) (qe_op q_mod (qe_op (q_add (K:=K)) (qe_op u5 (vi lH) A8) (qe_op q_mul A8 (vi veb))) (qe_cB (q_len (K:=K)) T.b_len X2 (qa_c (vi vO) A6)))) (qa_c (qe_ix (K:=K) (vi pR) (qe_op (q_add (K:=K)) A8 (vi veb))) A6)))) A6)))))
   (B1 (D6 (n:=6) sc_l_rules.nd rfl veg (qe_ix (K:=K) (N9 (qa_c (N9 A6) (qa_c (N9 (qa_c (L8 (qa_c K0 A6)) A6)) (qa_c (N9 (qa_c (L8 (qa_c K0 A6)) A6)) (qa_c (N9 (qa_c (L8 (qa_c K0 (qa_c (qe_ix (K:=K) (vi pR) A8) A6))) A6)) A6))))) (qe_op q_mod (qe_op u5 (vi lH) A8) A8)))
   (B5 (E1 (qe_op (q_add (K:=K)) (vi vec) (vi vP))))))))),?_⟩
  obtain ⟨s0,a,b,ns,xs,m0,m1,f2,f3,f4,ov,rfl,hS,ha,hb,X8,hl,q⟩:=h;have hx1:1<=xs.length:=r0.mpr X8;walk_at "rd";refine ⟨s0,ns,1,rfl,hS,by decide,fun c0=>⟨_,rfl,a,_,_,xs,rfl,ha,by lia,by lia,X8,hl,fun l ts rows H1 nl S1 hR hRw hRl=>?_⟩⟩;generalize c0 / 4=c;have yA:=S1 _ _ hb;have qC:=hR.len;refine ⟨N4 hR.top,_,.inl (.of yA),V.str m0,N5 _ _,_,.inl (.of yA),V.str m1,P9 (j:=1) rfl,by decide,fun t1 nt1=>?_⟩;have S2:Same H1 (A4 H1 t1 (.tup [V.str (Str.ofString "marks"),V.str m0,V.str m1])):=Same.new nt1;have ht1:A4 H1 t1 (.tup [V.str (Str.ofString "marks"),V.str m0,V.str m1]) t1=some (tupR (("marks" : Str),[m0,m1])):=A5;generalize A4 H1 t1 (.tup [V.str (Str.ofString "marks"),V.str m0,V.str m1])=H2 at S2 ht1;have hR2:=hR.same S2;refine appOk hR2.top (by rw [A7];exact G7 (by lia)) ?_;have hR3:=hR2.push ht1;have S3:Same H (A4 H2 l (.lst (ts.map V.ref++[V.ref t1]))):=(S1.trans S2).put nl;generalize A4 H2 l (.lst (ts.map V.ref++[V.ref t1]))=H3 at hR3 S3;obtain ⟨k,hk,hk3⟩:∃ k:Nat,(c / 36 % 4).toNat=k/\k<=3:=⟨_,rfl,by lia⟩
  rw [hk];refine ⟨by lia,by lia,forRs (fun i Y H4=>∃ (u:Option V) (mY:List Addr) (G:List (Str×Str)),Y=[some (.ref s0),some (.ref a),some (.ref b),some (.int c),some (.ref l),u,none]/\Same H H4/\IsRules H4 l mY (rows++(("marks" : Str),[m0,m1])::W3 G)/\(∀ e∈G,e.1∈xs)/\G.map (·.2)=[f2,f3,f4].take i/\G.length=i) ⟨none,_,[],rfl,S3,hR3,by simp,rfl,rfl⟩ ?_ ?_⟩
  .rintro P' Bk hP i Y H4 hi ⟨u,mY,G,rfl,S4,hR4,hGx,hGf,hGl⟩;have yB:=hR4.len;have ha4:=S4 _ _ ha;have fQ:=S4 _ _ hb;obtain ⟨x,hx,N6⟩:∃ x∈xs,J9 (xs.map V.str) ((c / 144+5*(0+(i:Int))) % (xs.length:Int))=some (V.str x):=by
    have h1:=Int.emod_nonneg (c / 144+5*(0+(i:Int))) (show (xs.length:Int)≠0 by lia);have h2:=jM (c / 144+5*(0+(i:Int))) (show (0:Int)<xs.length by lia);obtain ⟨v,h3,h4⟩:=jU (xs:=xs) (i:=(c / 144+5*(0+(i:Int))) % (xs.length:Int)) h1 h2;exact ⟨v,h4,by rw [akg,h3];rfl⟩
   obtain ⟨f,hf⟩:∃ f,[f2,f3,f4][i]?=some f:=⟨_,N0 (by simp;lia)⟩
   have yC:J9 ([m0,m1,f2,f3,f4,ov].map V.str) (2+(0+(i:Int)))=some (V.str f):=by
    rw [show (2+(0+(i:Int)))=((i+2:Nat):Int) by lia];refine P9 ?_;rw [V2]
    rcases (show i=0\/i=1\/i=2 by lia) with rfl | rfl | rfl <;> (cases hf;rfl)
   walk_at "rd";refine ⟨N4 hR4.top,.inr ⟨by lia,by lia⟩,xs.length,.inl ⟨_,.of ha4,by rw [A7]⟩,by lia,_,.inl (.of ha4),_,N6,_,.inl (.of fQ),_,yC,by decide,fun t nt=>?_⟩;have S5:Same H4 (A4 H4 t (.tup [V.str (Str.ofString "great"),V.str x,V.str f])):=Same.new nt;have h5:A4 H4 t (.tup [V.str (Str.ofString "great"),V.str x,V.str f]) t=some (tupR (("great" : Str),[x,f])):=A5;generalize A4 H4 t (.tup [V.str (Str.ofString "great"),V.str x,V.str f])=H5 at S5 h5;have hR5:=hR4.same S5;have C1:(rows++(("marks" : Str),[m0,m1])::W3 G).length<=50:=by unfold W3;simp only [D1,F8,A7];lia
   refine appOk hR5.top (by rw [A7];exact G7 (by lia)) (hP _ _ _ ⟨_,mY++[t],G++[(x,f)],rfl,(S4.trans S5).put nl,?_,fun e he=>(F6.mp he).elim (hGx e) fun h=>by rw [E6.mp h];exact hx,?_,by rw [D1,hGl];rfl⟩)
   .have hp:=hR5.push h5;unfold W3 at hp ⊢
    rw [E4]
    simpa [U1] using hp
   .rw [E4,hGf,U0,hf];rfl
  rintro Y H4 ⟨u,mY,G,rfl,S4,hR4,hGx,hGf,hGl⟩;have yB:=hR4.len;have fQ:=S4 _ _ hb;have C1:(rows++(("marks" : Str),[m0,m1])::W3 G).length<=50:=by unfold W3;simp only [D1,F8,A7];lia
  walk_at "rd";refine fun p0 n0=>⟨by decide,fun q1 m1'=>⟨by decide,fun p1 n1=>⟨by decide,fun q2 m2'=>⟨by decide,fun p2 n2=>?_⟩⟩⟩⟩
  have S5:Same H4 (A4 (A4 (A4 (A4 (A4 H4 p0 (.lst [])) q1 (.tup [V.str (Str.ofString "behind")])) p1 (.lst [V.ref q1])) q2 (.tup [V.str (Str.ofString "blanks")])) p2 (.lst [V.ref q2])):=((Same.new n0).trans (Same.new m1')).trans ((Same.new n1).trans ((Same.new m2').trans (Same.new n2)));have A0:IsRules (A4 (A4 (A4 (A4 (A4 H4 p0 (.lst [])) q1 (.tup [V.str (Str.ofString "behind")])) p1 (.lst [V.ref q1])) q2 (.tup [V.str (Str.ofString "blanks")])) p2 (.lst [V.ref q2])) p0 [] []:=⟨B3 (B3 (B3 (B3 A5 m1') n1) m2') n2,.nil⟩
  have A1:IsRules (A4 (A4 (A4 (A4 (A4 H4 p0 (.lst [])) q1 (.tup [V.str (Str.ofString "behind")])) p1 (.lst [V.ref q1])) q2 (.tup [V.str (Str.ofString "blanks")])) p2 (.lst [V.ref q2])) p1 [q1] [(("behind" : Str),[])]:=⟨B3 (B3 A5 m2') n2,.cons (B3 (B3 (B3 A5 n1) m2') n2) .nil⟩
  have A2:IsRules (A4 (A4 (A4 (A4 (A4 H4 p0 (.lst [])) q1 (.tup [V.str (Str.ofString "behind")])) p1 (.lst [V.ref q1])) q2 (.tup [V.str (Str.ofString "blanks")])) p2 (.lst [V.ref q2])) p2 [q2] [(("blanks" : Str),[])]:=⟨A5,.cons (B3 A5 n2) .nil⟩
  generalize A4 (A4 (A4 (A4 (A4 H4 p0 (.lst [])) q1 (.tup [V.str (Str.ofString "behind")])) p1 (.lst [V.ref q1])) q2 (.tup [V.str (Str.ofString "blanks")])) p2 (.lst [V.ref q2])=H5 at S5 A0 A1 A2;refine ⟨_,.inl (.of (S5 _ _ fQ)),V.str ov,P9 (j:=5) rfl,by decide,fun q3 m3'=>⟨by decide,fun p3 n3=>⟨by decide,fun pl npl=>?_⟩⟩⟩;have S6:Same H5 (A4 (A4 (A4 H5 q3 (.tup [V.str (Str.ofString "over"),V.str ov])) p3 (.lst [V.ref q3])) pl (.lst [V.ref p0,V.ref p1,V.ref p2,V.ref p3])):=(Same.new m3').trans ((Same.new n3).trans (Same.new npl));have A3:IsRules (A4 (A4 (A4 H5 q3 (.tup [V.str (Str.ofString "over"),V.str ov])) p3 (.lst [V.ref q3])) pl (.lst [V.ref p0,V.ref p1,V.ref p2,V.ref p3])) p3 [q3] [(("over" : Str),[ov])]:=⟨B3 A5 npl,.cons (B3 (B3 A5 n3) npl) .nil⟩
  have R8:A4 (A4 (A4 H5 q3 (.tup [V.str (Str.ofString "over"),V.str ov])) p3 (.lst [V.ref q3])) pl (.lst [V.ref p0,V.ref p1,V.ref p2,V.ref p3]) pl=some (.lst [V.ref p0,V.ref p1,V.ref p2,V.ref p3]):=A5;generalize A4 (A4 (A4 H5 q3 (.tup [V.str (Str.ofString "over"),V.str ov])) p3 (.lst [V.ref q3])) pl (.lst [V.ref p0,V.ref p1,V.ref p2,V.ref p3])=H6 at S6 A3 R8;obtain ⟨px,tm,mo,N6,hm,mR,mI⟩:∃ px tm mo,J9 [V.ref p0,V.ref p1,V.ref p2,V.ref p3] (c / 144 % 4)=some (V.ref px)/\IsRules H6 px tm mo/\tm.length<=1/\(mo=[]\/mo=[(("behind" : Str),[])]\/mo=[(("blanks" : Str),[])]\/mo=[(("over" : Str),[ov])]):=by
   rcases (show c / 144 % 4=0\/c / 144 % 4=1\/c / 144 % 4=2\/c / 144 % 4=3 by lia) with e | e | e | e <;> rw [e]
   .exact ⟨p0,[],[],rfl,A0.same S6,by simp,.inl rfl⟩
   .exact ⟨p1,_,_,rfl,A1.same S6,by simp,.inr (.inl rfl)⟩
   .exact ⟨p2,_,_,rfl,A2.same S6,by simp,.inr (.inr (.inl rfl))⟩
   .exact ⟨p3,_,_,rfl,A3,by simp,.inr (.inr (.inr rfl))⟩
  refine ⟨_,.inl (.of R8),_,N6,?_⟩;have hR6:=hR4.same (S5.trans S6);walk_at "rd";refine rAddR.l hm.top hR6.top (by simp only [A7];exact Y4 (by lia)) fun r nr=>?_
  have mX:=S4.trans (S5.trans S6);exact q r (tm++mY) mo rows G _ (mX.free nr) (mX.trans (Same.new nr)) (hm.cat hR6 nr) ⟨mI,hRw,by lia,hGx,k,hGf⟩
theorem sc_l_parted:FnScope ["_law_got", "_law_one", "_law_other", "_law_rule", "_law_moved", "_law_stay"] ["_law_got", "_law_one", "_law_other"] (C6 X6):=G8
abbrev iI:List Str:=["_law_got", "_law_one", "_law_other", "_law_rule", "_law_moved", "_law_stay"]
theorem iJ:VS iI X6 "_law_got" 0:=vq
theorem vei:VS iI X6 "_law_one" 1:=vq
theorem vej:VS iI X6 "_law_other" 2:=vq
theorem vek:VS iI X6 "_law_rule" 3:=vq
theorem vel:VS iI X6 "_law_moved" 4:=vq
theorem vem:VS iI X6 "_law_stay" 5:=vq
theorem ven:LS X6 "_law_rule":=lq
theorem veo:LS X6 "_law_moved":=lq
theorem vep:LS X6 "_law_stay":=lq
theorem ahi(F:FunD K "_law_parted" "_law_parted" X6 f fd)(T:Txt P w K mg C):FnOk P w K mg base E8 1 f fd ["_law_got", "_law_one", "_law_other"] (ahR K):=by
 refine F.ok sc_l_parted ?_ ?_
 .rintro _ _ _ _ ⟨g,a,b,ts,xs,ys,ks,rfl,_⟩;rfl
 .intro cdv A outer s H vs Q E hr h;have C7:=hu_of hr;have hu:=hr.units;refine ⟨_,QSs.out (B1 (qs_if (QW.pt (qw_or (nY (X5 (K:=K) (qe_cB q_isi T.b_isinstance adc (qa_c (vi iJ) (qa_c (qe_ty T.b_list Y3) A6))))) (cE (D8 (q_ne (K:=K) hu) (qe_cB (q_len (K:=K)) T.b_len X2 (qa_c (vi iJ) A6)) A8)))) (B5 (E1 k9)) J8)
   (B1 (M8 PassesOwn.never (M9 (K:=K) (vi iJ)) (D7 (n:=3) sc_l_parted.nd rfl ven (.inl rfl)) (B5 (qs_if (QW.pt (qw_or (nY (X5 (K:=K) (qe_cB q_isi T.b_isinstance adc (qa_c (vi vek) (qa_c (qe_ty T.b_tuple aJ) A6))))) (cE (D8 q_lt (qe_cB (q_len (K:=K)) T.b_len X2 (qa_c (vi vek) A6)) A8)))) (B5 (E1 k9)) J8)))
   (B1 (D6 (n:=4) sc_l_parted.nd rfl veo (qe_cT (Z9 (K:=K) (calm:=true)) T.b_list Y3 (qa_c (Q0 (K:=K) (qe_ix (K:=K) (vi iJ) A8) (M7 A8) X4) A6)))
   (B1 (gP (n:=5) sc_l_parted.nd rfl vep (R3:CompOk ["_law_got", "_law_one", "_law_other", "_law_rule", "_law_moved", "_law_stay"] (C6 X6).names _ ["_law_letter", "_law_moved"] 1 [4]) (M9 (K:=K) (vi vei)) (fun _ _ _ _ _=>D7 (n:=0) (show List.Nodup (["_law_letter", "_law_moved"]:List Str) by decide +kernel) rfl (Or.inl rfl)) (fun _ _ _ _ _=>(Z8 (D8 (eO (K:=K) hu) (qv 0) (qv 1)))) (fun _ _ _ _ _=>(qv 0)))
   (B1 (qs_if (QW.pt (qw_or (D8 (q_ne (K:=K) hu) (qe_ix (K:=K) (qe_ix (K:=K) (vi iJ) A8) A8) K0) (cE (D8 (q_ne (K:=K) hu) (vi vel) (Y6  (R3:CompOk ["_law_got", "_law_one", "_law_other", "_law_rule", "_law_moved", "_law_stay"] (C6 X6).names _ ["_law_letter", "_law_moved"] 1 [4]) (M9 (K:=K) (vi vei)) (fun _ _ _ _ _=>D7 (n:=0) (show List.Nodup (["_law_letter", "_law_moved"]:List Str) by decide +kernel) rfl (Or.inl rfl)) (fun _ _ _ _ _=>(Z8 (D8 (q_in (K:=K) hu) (qv 0) (qv 1)))) (fun _ _ _ _ _=>(qv 0))))))) (B5 (E1 k9)) J8)
   (B1 (qs_if (D8 (q_ne (K:=K) hu) (vi vem) (Y6  (R3:CompOk ["_law_got", "_law_one", "_law_other", "_law_rule", "_law_moved", "_law_stay"] (C6 X6).names _ ["_law_letter", "_law_moved"] 1 [4]) (M9 (K:=K) (vi vej)) (fun _ _ _ _ _=>D7 (n:=0) (show List.Nodup (["_law_letter", "_law_moved"]:List Str) by decide +kernel) rfl (Or.inl rfl)) (fun _ _ _ _ _=>(Z8 (D8 (eO (K:=K) hu) (qv 0) (qv 1)))) (fun _ _ _ _ _=>(qv 0)))) (B5 (E1 k9)) J8)
   (B1 (qs_if (D8 (q_ne (K:=K) hu) (qe_ix (K:=K) (vi iJ) A8) (qe_op (q_add (K:=K)) (L8 (qa_c K0 A6)) (qe_cT (cG (K:=K)) T.b_tuple aJ (qa_c (vi vej) A6)))) (B5 (E1 k9)) J8)
   (B5 (E1 (qe_cB (q_len (K:=K)) T.b_len X2 (qa_c (vi vem) A6))))))))))),?_⟩
  obtain ⟨g,a,b,ts,xs,ys,ks,rfl,hR,ha,hb,kp,nx,ny,pm,hl,X8,hmv,hok,q⟩:=h;obtain ⟨t1,t2,rfl,h1,h2⟩:∃ t1 t2,ts=[t1,t2]/\H t1=some (tupR (M6,D5 xs ks))/\H t2=some (tupR (("row" : Str),ys)):=by
   have h:=hR.row;cases h with
   | cons a1 h=>cases h with
    | cons a2 h=>cases h;exact ⟨_,_,rfl,a1,a2⟩
  have T4:=pm.length_eq;have o0:ys≠[]:=fun e=>X8 (by rw [e] at pm;exact pm.symm.eq_nil)
  have mR:(D5 xs ks).length<=40:=K6 (dO _ _) hl;have hT1:C9 K H t1 ((M6::D5 xs ks).map V.str):=.of h1;have flt:∀ (neg:Bool) {H3:Hp} {c l:Addr} {zs ms:List Str} {Z:VK} {s0 s1 s2 s3 s5:Option V},H3 c=some (.lst (zs.map V.str))->H3 l=some (.lst (ms.map V.str))->zs.length<=40->(∀ D H4,H3 D=none->Same H3 H4->H4 D=some (.lst ((zs.filter fun x=>neg ^^ decide (x∈ms)).map V.str))->Z (.ref D) H4)->cD (k5 K c) 1 [4] (gName 0) (tTest (k7 (rInU K neg) (tVar 0) (tVar 1))) (tVar 0) [s0,s1,s2,s3,some (.ref l),s5] Z H3:=fun neg {H3 c l zs ms Z s0 s1 s2 s3 s5} hc e9 hz40 hz=>by
   refine compL (xs:=zs.map V.str) [some (.ref l)] rfl (fun D i ws H4=>ws=((zs.take i).filter fun x=>neg ^^ decide (x∈ms)).map V.str/\Same H3 H4) (fun D nD=>⟨rfl,Same.new nD⟩) (by rintro D i ws H4 nD _ ⟨_,S⟩;exact .of (S _ _ hc)) ?_ ?_
   .rintro D i y ws H4 nD hi hy ⟨rfl,S⟩ hD cU;obtain ⟨x,hx,rfl⟩:=G5 hy;rw [A7] at cU;have wZ:i<zs.length:=(G9.mp hx).1;walk_at "rd";refine rInR.l (.inl (.of (S _ _ e9))) rfl (nX _) ⟨_,rfl,?_⟩;rw [jY]
    by_cases e:(neg ^^ decide (x∈ms))=true
    .rw [if_pos e];refine ⟨hD,by rw [A7];exact G7 (by lia),CW.put hi (by rw [A7];exact cU) ⟨?_,S.put nD⟩⟩;rw [L9 hx,V1,bN (p:=fun x=>neg ^^ decide (x∈ms)) e,E4];rfl
    .rw [if_neg e];refine ⟨hD,hi,by rw [A7];lia,⟨_,rfl⟩,?_,S⟩;rw [L9 hx,V1,bO (p:=fun x=>neg ^^ decide (x∈ms)) e,List.filter_nil,L7]
   .rintro D ws H4 nD ⟨rfl,S⟩ hD _;rw [A7,K4] at hD;exact hz D H4 nD S hD
  have rowT:∀ {H2:Hp} {p b:Addr} {ps:List Str} {Z:VK},H2 p=some (.tup [V.str (Str.ofString "row")])->H2 b=some (.lst (ps.map V.str))->ps≠[]->ps.length<=50->(∀ t H3,H2 t=none->Same H2 H3->H3 t=some (tupR (("row" : Str),ps))->Z (.ref t) H3)->rTupR K b H2 fun y H3=>rAddU K (V.ref p) y H3 Z:=fun {H2 p b ps Z} hp hb hn hl hz=>by
   refine rTupR.l (.of hb) fun t nt=>?_
   walk_at "rd";refine rAddR.t (.of (B3 hp nt)) (.of A5) (by simp) (by simp only [A7,F8,V4];exact Y4 (by lia)) (fun e=>absurd (List.map_eq_nil_iff.mp e) hn) fun _ t2 p5=>?_
   exact hz t2 _ ((Same.new nt).free p5) ((Same.new nt).trans (Same.new p5)) A5
  walk_at "rd";refine ⟨"list",am9 hR.top,rfl,?_⟩;rw [if_neg (by decide)];refine ⟨2,.inl ⟨_,.of hR.top,rfl⟩,?_⟩;rw [if_neg (by decide)];refine ⟨⟨_,.of hR.top⟩,forLs (xs:=[t1,t2].map V.ref) (fun i Y H2=>∃ (u:Option V),Y=[some (.ref g),some (.ref a),some (.ref b),u,none,none]/\H2=H) ⟨none,rfl,rfl⟩ (fun i Y H2 _ ⟨_,_,e⟩=>by rw [e];exact .of hR.top) ?_ ?_⟩
  .rintro P' Bk hP i x Y H2 hx ⟨u,rfl,rfl⟩;obtain ⟨t,ht,rfl⟩:=G5 hx;obtain ⟨z,jD,C8⟩:=Paired.at hR.row ht;have bH:1<=z.2.length:=by
    have hm:=L3 jD
    rcases D9.mp hm with rfl | hm
    .exact r0.mpr hmv
    .rw [E6.mp hm];exact r0.mpr o0
   walk_at "rd";refine ⟨"tuple",ana C8,rfl,?_⟩;rw [if_neg (by decide)];refine ⟨z.2.length+1,.inr (.inl ⟨_,.of C8,by simp⟩),?_⟩;rw [if_neg (by rw [decide_eq_true_iff];lia)];exact hP _ _ _ ⟨_,rfl,rfl⟩
  rintro Y H2 ⟨u,rfl,rfl⟩
  try walk_at "rd"
  refine ⟨_,.inl (.of hR.top),_,N5 _ _,?_⟩
  try walk_at "rd"
  refine rSlR.t hT1 (b9 (k:=1) (by decide) (by simp)) fun s1 ns1=>?_
  rw [G6,oE]
  try walk_at "rd"
  refine rListR.l (.inr (.of A5)) fun l nl=>?_
  have S3:Same H2 (A4 (A4 H2 s1 (.tup ((D5 xs ks).map V.str))) l (.lst ((D5 xs ks).map V.str))):=(Same.new ns1).trans (Same.new nl);have mZ:A4 (A4 H2 s1 (.tup ((D5 xs ks).map V.str))) l (.lst ((D5 xs ks).map V.str)) l=some (.lst ((D5 xs ks).map V.str)):=A5;generalize A4 (A4 H2 s1 (.tup ((D5 xs ks).map V.str))) l (.lst ((D5 xs ks).map V.str))=H3 at S3 mZ;have okm:∀ x∈D5 xs ks,U3 x=true:=fun x hx=>hok x (O1.mp hx).1
  have okk:∀ x∈ks,U3 x=true:=fun x hx=>hok x (kp.sub x hx)
  have oky:∀ x∈ys,U3 x=true:=fun x hx=>hok x (pm.mem_iff.mp hx)
  have dep:∀ X zy:List Str,min (PyData.list (X.map bX)).depth (PyData.list (zy.map bX)).depth<=60:=fun X zy=>by rw [dW,gK];exact K6 (Nat.min_le_left _ _) (by decide)
  refine ⟨⟨_,.of (S3 _ _ ha)⟩,flt true (S3 _ _ ha) mZ hl fun D H4 nD S4 hD=>?_⟩;rw [show (fun x=>true ^^ decide (x∈D5 xs ks))=fun x=>decide (x∉D5 xs ks) from funext fun x=>by rw [Bool.true_xor,decide_not],kp.fx nx] at hD;have bK:=S3.trans S4;refine ⟨_,.inl (.of (bK _ _ hR.top)),_,N5 _ _,?_⟩
  try walk_at "rd"
  refine ⟨_,.inr (.of (bK _ _ h1)),V.str M6,N5 _ _,?_⟩
  try walk_at "rd"
  rw [if_neg (by decide +kernel)];refine ⟨⟨_,.of (bK _ _ ha)⟩,flt false (bK _ _ ha) (S4 _ _ mZ) hl fun D2 H5 nD2 S5 hD2=>?_⟩;rw [show (xs.filter fun x=>false ^^ decide (x∈D5 xs ks))=D5 xs ks by
   conv=>rhs;unfold D5
   refine List.filter_congr fun x hx=>?_
   rw [aA];unfold D5;rw [dS,decide_eq_true_iff,O1];exact ⟨fun h=>h.2,fun h=>⟨hx,h⟩⟩] at hD2
  have fR:=bK.trans S5
  try walk_at "rd"
  refine ⟨_,.lst (.of ((S4.trans S5) _ _ mZ)) (R9 okm),_,.lst (.of hD2) (R9 okm),dep _ _,?_⟩;rw [eI,decide_eq_true rfl,if_neg (by decide)];refine ⟨⟨_,.of (fR _ _ hb)⟩,flt true (fR _ _ hb) ((S4.trans S5) _ _ mZ) (by lia) fun D3 H6 nD3 S6 hD3=>?_⟩;rw [show (fun x=>true ^^ decide (x∈D5 xs ks))=fun x=>decide (x∉D5 xs ks) from funext fun x=>by rw [Bool.true_xor,decide_not],kp.fy ny pm] at hD3;have yD:=fR.trans S6
  try walk_at "rd"
  refine ⟨_,.lst (.of ((S5.trans S6) _ _ hD)) (R9 okk),_,.lst (.of hD3) (R9 okk),dep _ _,?_⟩;rw [eI,decide_eq_true rfl,if_neg (by decide)];refine ⟨_,.inl (.of (yD _ _ hR.top)),V.ref t2,P9 (j:=1) rfl,by decide,fun p7 yE=>?_⟩
  try walk_at "rd"
  refine rowT A5 (B3 (yD _ _ hb) yE) o0 (by lia) fun t8 H8 nt8 S8 ht8=>?_
  have S28:=yD.trans ((Same.new (u:=HO.tup [V.str (Str.ofString "row")]) yE).trans S8);have okr:∀ y∈(("row" : Str)::ys),U3 y=true:=fun y hy=>(D9.mp hy).elim (fun e=>by rw [e];decide +kernel) (oky y)
  try walk_at "rd"
  refine ⟨_,.tup (.of (S28 _ _ h2)) (R9 okr),_,.tup (.of ht8) (R9 okr),by rw [dW,gK];exact K6 (Nat.min_le_left _ _) (by decide),?_⟩;rw [ahJ,decide_eq_true rfl,if_neg (by decide)];refine ⟨ks.length,.inl ⟨_,.of (((S5.trans S6).trans ((Same.new (u:=HO.tup [V.str (Str.ofString "row")]) yE).trans S8)) _ _ hD),by rw [A7]⟩,q _ S28⟩
theorem sc_law:FnScope ["_law_script", "_law_many", "_law_both", "_law_others", "_law_one", "_law_other", "_law_rules_here", "_law_handed", "_law_got", "_law_order", "_law_rule"] ["_law_script"] (C6 s_law):=G8
abbrev n_law:List Str:=["_law_script", "_law_many", "_law_both", "_law_others", "_law_one", "_law_other", "_law_rules_here", "_law_handed", "_law_got", "_law_order", "_law_rule"]
theorem vQ:VS n_law s_law "_law_script" 0:=vq
theorem vR:VS n_law s_law "_law_many" 1:=vq
theorem vS:VS n_law s_law "_law_both" 2:=vq
theorem vet:VS n_law s_law "_law_others" 3:=vq
theorem iK:VS n_law s_law "_law_one" 4:=vq
theorem eY:VS n_law s_law "_law_other" 5:=vq
theorem pS:VS n_law s_law "_law_rules_here" 6:=vq
theorem pT:VS n_law s_law "_law_handed" 7:=vq
theorem vT:VS n_law s_law "_law_got" 8:=vq
theorem lI:VS n_law s_law "_law_order" 9:=vq
theorem pU:VS n_law s_law "_law_rule" 10:=vq
theorem veB:LS s_law "_law_many":=lq
theorem veC:LS s_law "_law_both":=lq
theorem veD:LS s_law "_law_others":=lq
theorem veE:LS s_law "_law_one":=lq
theorem veF:LS s_law "_law_other":=lq
theorem veG:LS s_law "_law_rules_here":=lq
theorem veH:LS s_law "_law_handed":=lq
theorem veI:LS s_law "_law_got":=lq
theorem veJ:LS s_law "_law_order":=lq
theorem veK:LS s_law "_law_rule":=lq
theorem ao9(F:FunD K "law" "law" s_law f fd)(T:Txt P w K mg C)(G_Order___init__:KO P w K mg base 5 C "Order" ["self", "rules"] (tO C))(G_Order_letters:MO P w K mg base 1 C "letters" ["self"] (tP C))(G_Order_marks:MO P w K mg base 1 C "marks" ["self"] (tQ C))(G_Order_job:MO P w K mg base 1 C "job" ["self", "piece"] (tR C))(G_units:FO P w K mg base 6 "units" ["order", "text"] [] (aj1 C))(G_kept_most:FO P w K mg base 2 "kept_most" ["one", "other"] [] uC)(G_changed:FO P w K mg base 2 "changed" ["rules", "more"] [] agn)(G_l_cell_at:FO P w K mg base 1 "_law_cell_at" ["_law_script", "_law_k"] [] (oZ K))(G_l_turns:FO P w K mg base 2 "_law_turns" ["_law_script", "_law_many"] [] (aj9 K))(G_change:FO P w K mg base 3 "change" ["one", "other"] [] ahN)(G_l_rules:FO P w K mg base 2 "_law_rules" ["_law_script", "_law_one", "_law_others"] [] (agp K))(G_l_parted:FO P w K mg base 1 "_law_parted" ["_law_got", "_law_one", "_law_other"] [] (ahR K)):FnOk P w K mg base E8 7 f fd ["_law_script"] (spLaw K):=by
 refine F.ok sc_law ?_ ?_
 .rintro _ _ _ _ ⟨a,ns,rfl,_⟩;rfl
 .intro cdv A outer s H vs Q E hr h;have C7:=hu_of hr;have hu:=hr.units;refine ⟨_,QSs.out (B1 (D6 (n:=1) sc_law.nd rfl veB (qe_op (q_add (K:=K)) A8 (qe_op q_mod (F9 G_l_cell_at (hm hr) (qa_c (vi vQ) (qa_c A8 A6))) A8)))
   (B1 (D6 (n:=2) sc_law.nd rfl veC (F9 G_l_turns (hm hr) (qa_c (vi vQ) (qa_c (qe_op (q_add (K:=K)) (vi vR) A8) A6))))
   (B1 (D6 (n:=3) sc_law.nd rfl veD (Q0 (K:=K) (qe_ix (K:=K) (vi vS) A8) (M7 (vi vR)) X4))
   (B1 (D6 (n:=4) sc_law.nd rfl veE (Q0 (K:=K) (qe_ix (K:=K) (vi vS) A8) X4 (M7 (vi vR))))
   (B1 (gP (n:=5) sc_law.nd rfl veF (R3:CompOk ["_law_script", "_law_many", "_law_both", "_law_others", "_law_one", "_law_other", "_law_rules_here", "_law_handed", "_law_got", "_law_order", "_law_rule"] (C6 s_law).names _ ["_law_letter", "_law_others"] 1 [3]) (M9 (K:=K) (qe_ix (K:=K) (vi vS) A8)) (fun _ _ _ _ _=>D7 (n:=0) (show List.Nodup (["_law_letter", "_law_others"]:List Str) by decide +kernel) rfl (Or.inl rfl)) (fun _ _ _ _ _=>(Z8 (D8 (eO (K:=K) hu) (qv 0) (qv 1)))) (fun _ _ _ _ _=>(qv 0)))
   (B1 (D6 (n:=6) sc_law.nd rfl veG (F9 G_l_rules (hm hr) (qa_c (vi vQ) (qa_c (vi iK) (qa_c (vi vet) A6)))))
   (B1 (D6 (n:=7) sc_law.nd rfl veH (N9 (qa_c (qe_cT (Z9 (K:=K) (calm:=true)) T.b_list Y3 (qa_c (vi iK) A6)) (qa_c (qe_cT (Z9 (K:=K) (calm:=true)) T.b_list Y3 (qa_c (vi eY) A6)) (qa_c (qe_cT (Z9 (K:=K) (calm:=true)) T.b_list Y3 (qa_c (vi pS) A6)) A6)))))
   (B1 (D6 (n:=8) sc_law.nd rfl veI (F9 G_change (hm hr) (qa_c (qe_ix (K:=K) (vi pT) A8) (qa_c (qe_ix (K:=K) (vi pT) A8) A6))))
   (B1 (qs_if (D8 (q_eq (K:=K) hu) (vi iK) (vi eY)) (B5 (E1 (jZ (q_eq (K:=K) hu) (vi vT) (N9 A6)))) J8)
   (B1 (qs_if (D8 (q_ne (K:=K) hu) (F9 G_l_parted (hm hr) (qa_c (vi vT) (qa_c (vi iK) (qa_c (vi eY) A6)))) (qe_cB (q_len (K:=K)) T.b_len X2 (qa_c (qe_ix (K:=K) (F9 G_kept_most (hm hr) (qa_c (vi iK) (qa_c (vi eY) A6))) A8) A6))) (B5 (E1 qe_bl)) J8)
   (B1 (D6 (n:=9) sc_law.nd rfl veJ (ank G_Order___init__ (hm hr) (qa_c (F9 G_changed (hm hr) (qa_c (qe_ix (K:=K) (vi pT) A8) (qa_c (vi vT) A6))) A6)))
   (eP (qs_if (QW.pt (qw_or (D8 (q_ne (K:=K) hu) (vi pT) (N9 (qa_c (vi iK) (qa_c (vi eY) (qa_c (vi pS) A6))))) (qw_or (D8 (q_ne (K:=K) hu) (tD (vi lI) G_Order_letters (hm hr)) (vi eY)) (cE (D8 (q_ne (K:=K) hu) (tD (vi lI) G_Order_marks (hm hr)) (Q0 (K:=K) (vi vet) X4 (M7 A8))))))) (B5 (E1 qe_bl)) J8)
   (B1 (M8 PassesOwn.never (M9 (K:=K) (vi pS)) (D7 (n:=10) sc_law.nd rfl veK (.inl rfl)) (B5 (qs_if (D8 (q_eq (K:=K) hu) (qe_ix (K:=K) (vi pU) A8) K0) (B5 (qs_if (QW.pt (qw_or (D8 (q_ne (K:=K) hu) (Q0 (K:=K) (qe_ix (K:=K) (F9 G_units (hm hr) (qa_c (vi lI) (qa_c (qe_ix (K:=K) (vi pU) A8) A6))) A8) X4 (M7 A8)) (L8 (qa_c A8 (qa_c (qe_mB (K:=K) O2 PySem.F.slot_list_index PySem.F.type_list_index alo (vi eY) (qa_c (qe_ix (K:=K) (vi pU) A8) A6)) (qa_c (L8 A6) A6))))) (cE (D8 (q_ne (K:=K) hu) (ajz (vi lI) G_Order_job (hm hr) (qa_c (qe_ix (K:=K) (vi pU) A8) A6)) K0)))) (B5 (E1 qe_bl)) J8)) J8)))
   (B5 (E1 (jZ (q_eq (K:=K) hu) (l9 (K:=K) (vi lI)) (jZ (q_inD (K:=K) hu) (L8 (qa_c K0 A6)) (vi pS)))))))))))))))))),?_⟩
  obtain ⟨a,ns,rfl,hS,C1,q⟩:=h;walk_at "rd";refine ⟨a,ns,0,rfl,hS,by decide,fun c0=>⟨_,rfl,?_⟩⟩;obtain ⟨n,hn,hn1,hn40⟩:∃ n:Nat,1+c0 % 40=n/\1<=n/\n<=40:=⟨(1+c0 % 40).toNat,by lia,by lia,by lia⟩
  rw [hn];refine ⟨a,ns,_,rfl,hS,C1,by lia,by lia,fun p l1 l2 zs ws H1 S1 hp W6 e9 _ _ _ N7 nA iV iX=>?_⟩;have o9:zs.length=n+6:=by lia
  obtain ⟨m0,m1,f2,f3,f4,ov,yF⟩:∃ m0 m1 f2 f3 f4 ov,zs.drop n=[m0,m1,f2,f3,f4,ov]:=by
   have h6:(zs.drop n).length=6:=by rw [j4];lia
   match zs.drop n,h6 with
   | [a,b,c,d,e,f],_=>exact ⟨a,b,c,d,e,f,rfl⟩
  obtain ⟨xs,qY⟩:∃ xs,zs.take n=xs:=⟨_,rfl⟩
  have jD:zs=xs++[m0,m1,f2,f3,f4,ov]:=by rw [<- qY,<- yF,q9]
  have jC:xs.length=n:=by rw [<- qY,K5];lia
  have X8:xs≠[]:=fun e=>by rw [e] at jC;simp at jC;lia
  have s83:S83 xs m0 m1 f2 f3 f4 ov:=⟨by rw [<- jD];exact nA,by rw [<- jD];exact iX,by lia,by lia⟩
  have nx:xs.Nodup:=s83.ny;walk_at "rd";refine ⟨_,.inr (.of hp),V.ref l1,N5 _ _,?_⟩;walk_at "rd";refine rSlR.l (.of W6) fun b nb=>?_
  rw [cH,<- bT,yF];have S2:Same H1 (A4 H1 b (.lst ([m0,m1,f2,f3,f4,ov].map V.str))):=Same.new nb;have mF:A4 H1 b (.lst ([m0,m1,f2,f3,f4,ov].map V.str)) b=some (.lst ([m0,m1,f2,f3,f4,ov].map V.str)):=A5;generalize A4 H1 b (.lst ([m0,m1,f2,f3,f4,ov].map V.str))=H2 at S2 mF;refine ⟨_,.inr (.of (S2 _ _ hp)),V.ref l1,N5 _ _,?_⟩;walk_at "rd";refine rSlR.l (.of (S2 _ _ W6)) fun o1 no1=>?_
  rw [kD,<- bS,qY];have S3:Same H2 (A4 H2 o1 (.lst (xs.map V.str))):=Same.new no1;have yG:A4 H2 o1 (.lst (xs.map V.str)) o1=some (.lst (xs.map V.str)):=A5;generalize A4 H2 o1 (.lst (xs.map V.str))=H3 at S3 yG;have yH:=S3 _ _ mF;have fS:=S3 _ _ (S2 _ _ e9);refine ⟨_,.inr (.of (S3 _ _ (S2 _ _ hp))),V.ref l2,P9 (j:=1) rfl,l2,rfl,⟨_,.of fS⟩,?_⟩;have cU:ws.length=n+6:=by rw [iV.length_eq];exact o9
  refine compL (xs:=ws.map V.str) [some (.ref b)] rfl (fun D i vs H4=>vs=((ws.take i).filter fun x=>!decide (x∈[m0,m1,f2,f3,f4,ov])).map V.str/\Same H3 H4) (fun D nD=>⟨rfl,Same.new nD⟩) (by rintro D i vs H4 nD _ ⟨_,S⟩;exact .of (S _ _ fS)) ?_ ?_
  .rintro D i y vs H4 nD hi hy ⟨rfl,S⟩ hD mB;obtain ⟨x,hx,rfl⟩:=G5 hy;rw [A7] at mB;have wZ:i<ws.length:=(G9.mp hx).1;walk_at "rd";refine rInR.l (.inl (.of (S _ _ yH))) rfl (nX _) ⟨_,rfl,?_⟩;rw [jY,Bool.true_xor]
   by_cases e:(!decide (x∈[m0,m1,f2,f3,f4,ov]))=true
   .rw [if_pos e];refine ⟨hD,by rw [A7];exact G7 (by lia),CW.put hi (by rw [A7];exact mB) ⟨?_,S.put nD⟩⟩;rw [L9 hx,V1,bN (p:=fun x=>!decide (x∈[m0,m1,f2,f3,f4,ov])) e,E4];rfl
   .rw [if_neg e];refine ⟨hD,hi,by rw [A7];lia,⟨_,rfl⟩,?_,S⟩;rw [L9 hx,V1,bO (p:=fun x=>!decide (x∈[m0,m1,f2,f3,f4,ov])) e,List.filter_nil,L7]
  rintro o2 vs H4 no2 ⟨rfl,S4⟩ x4 _;rw [A7,K4] at x4;obtain ⟨ys,mH⟩:∃ ys,(ws.filter fun x=>!decide (x∈[m0,m1,f2,f3,f4,ov]))=ys:=⟨_,rfl⟩
  rw [mH] at x4;have pm:ys.Perm xs:=by
   rw [<- mH];refine (iV.filter _).trans ?_;rw [jD,V1,dQ.mpr (fun x hx=>?_),fT.mpr (fun x hx=>by rw [decide_eq_true hx];decide),L7]
   have:=(g7.mp s83.nd).2.2 x hx
   simp only [jI,decide_eq_false_iff_not];intro hm;exact this x hm rfl
  have ny:ys.Nodup:=pm.nodup_iff.mpr nx;have S04:=S1.trans (S2.trans (S3.trans S4));have fQ:=S4 _ _ yH;have bL:=S4 _ _ yG;clear hp W6 e9 fS S1 S2 S3 S4 nb no1 no2 mF yH yG mH iV iX nA N7 o9 cU qY yF jD;have hok:∀ x∈xs,U3 x=true:=fun x hx=>(jW (s83.pc x (L4 _ hx))).1
  have q0:∀ x∈ys,U3 x=true:=fun x hx=>hok x (pm.mem_iff.mp hx)
  have T4:=pm.length_eq;have dep:∀ X zy:List Str,min (PyData.list (X.map bX)).depth (PyData.list (zy.map bX)).depth<=60:=fun X zy=>by rw [dW,gK];exact K6 (Nat.min_le_left _ _) (by decide)
  refine ⟨a,o1,b,ns,xs,m0,m1,f2,f3,f4,ov,rfl,S04.seq hS,bL,fQ,X8,by lia,fun rl ts mo rows G H5 nrl S5 hR5 dD=>?_⟩
  try walk_at "rd"
  refine rListR.l (.inl (.of (S5 _ _ bL))) fun h1 qZ=>?_
  try walk_at "rd"
  refine rListR.l (.inl (.of (B3 (S5 _ _ x4) qZ))) fun h2 rA=>?_
  try walk_at "rd"
  refine rListR.l (.inl (.of (B3 (B3 hR5.top qZ) rA))) fun h3 rB=>⟨by decide,fun hd nhd=>?_⟩
  have S6:Same H5 (A4 (A4 (A4 (A4 H5 h1 (.lst (xs.map V.str))) h2 (.lst (ys.map V.str))) h3 (.lst (ts.map V.ref))) hd (.lst [V.ref h1,V.ref h2,V.ref h3])):=((Same.new qZ).trans (Same.new rA)).trans ((Same.new rB).trans (Same.new nhd));have g1:A4 (A4 (A4 (A4 H5 h1 (.lst (xs.map V.str))) h2 (.lst (ys.map V.str))) h3 (.lst (ts.map V.ref))) hd (.lst [V.ref h1,V.ref h2,V.ref h3]) h1=some (.lst (xs.map V.str)):=B3 (B3 (B3 A5 rA) rB) nhd;have g2:A4 (A4 (A4 (A4 H5 h1 (.lst (xs.map V.str))) h2 (.lst (ys.map V.str))) h3 (.lst (ts.map V.ref))) hd (.lst [V.ref h1,V.ref h2,V.ref h3]) h2=some (.lst (ys.map V.str)):=B3 (B3 A5 rB) nhd;have g3:A4 (A4 (A4 (A4 H5 h1 (.lst (xs.map V.str))) h2 (.lst (ys.map V.str))) h3 (.lst (ts.map V.ref))) hd (.lst [V.ref h1,V.ref h2,V.ref h3]) h3=some (.lst (ts.map V.ref)):=B3 A5 nhd;have g4:A4 (A4 (A4 (A4 H5 h1 (.lst (xs.map V.str))) h2 (.lst (ys.map V.str))) h3 (.lst (ts.map V.ref))) hd (.lst [V.ref h1,V.ref h2,V.ref h3]) hd=some (.lst [V.ref h1,V.ref h2,V.ref h3]):=A5;generalize A4 (A4 (A4 (A4 H5 h1 (.lst (xs.map V.str))) h2 (.lst (ys.map V.str))) h3 (.lst (ts.map V.ref))) hd (.lst [V.ref h1,V.ref h2,V.ref h3])=H6 at S6 g1 g2 g3 g4;have r6:=hR5.same S6;have r63:IsRules H6 h3 ts (P1 mo rows m0 m1 G):=⟨g3,r6.row⟩
  refine ⟨_,.inl (.of g4),V.ref h1,N5 _ _,_,.inl (.of g4),V.ref h2,P9 (j:=1) rfl,h1,h2,xs,ys,rfl,g1,g2,nx,ny,pm,by lia,fun g tg ks H7 ng S7 kp W5 hRg=>?_⟩;have rC:=S6.trans S7;have k1:=rC _ _ (S5 _ _ bL);have k2:=rC _ _ (S5 _ _ x4);have kb:=rC _ _ (S5 _ _ fQ);have kr:=r6.same S7;have yI:=r63.same S7;have kd1:=S7 _ _ g1;have kd2:=S7 _ _ g2;have yJ:=S7 _ _ g4;clear g1 g2 g3 g4 r6 r63 bL x4 fQ hR5 qZ rA rB nhd S6 S7 rC ng nrl S5 S04
  try walk_at "rd"
  refine ⟨_,.lst (.of k1) (R9 hok),_,.lst (.of k2) (R9 q0),dep _ _,?_⟩;rw [eI];have G3:=kp.ne nx ny pm
  by_cases X7:xs=ys
  .rw [decide_eq_true X7,if_pos rfl];rw [if_pos (G3.mpr X7)] at hRg;obtain rfl:tg=[]:=by
    have h:=hRg.row;cases h;rfl
   refine fun e ne=>⟨_,.lst (.of (B3 hRg.top ne)) .nil,_,.lst (.of A5) .nil,by decide,?_⟩
   exact q _
  rw [decide_eq_false X7,if_neg K7];have hm:D5 xs ks≠[]:=fun e=>X7 (G3.mp e)
  rw [if_neg hm] at hRg;refine ⟨g,o1,o2,tg,xs,ys,ks,rfl,hRg,k1,k2,kp,nx,ny,pm,by lia,X8,hm,hok,fun H8 S8=>?_⟩;refine ⟨o1,o2,xs,ys,rfl,S8 _ _ k1,S8 _ _ k2,nx,ny,fun x hx=>pm.mem_iff.mpr hx,by lia,by lia,fun pk kk gg rs ks2 ah H9 npk nkk hpk hkk RR xY GG qU qV yK=>?_⟩;have nB:=S8.trans RR.same
  try walk_at "rd"
  refine ⟨_,.inr (.of hpk),V.ref gg,P9 (j:=1) rfl,?_⟩
  try walk_at "rd"
  refine ⟨(grps (E3 ys) xs).length,.inl ⟨_,.of RR.rows.top,by rw [A7];exact (Paired.length RR.rows.row).symm⟩,?_⟩;rw [W5,decide_eq_true rfl,if_neg (by decide)];refine ⟨_,.inl (.of (nB _ _ yJ)),V.ref h3,P9 (j:=2) rfl,?_⟩;have bD:(P1 mo rows m0 m1 G).length<=100:=by
   have h1:=dD.rl;have h2:=dD.glen;have h3:mo.length<=1:=by rcases dD.mo with rfl | rfl | rfl | rfl <;> simp
   unfold P1 W3;simp only [D1,F8,A7];lia
  refine ⟨h3,g,ts,tg,_,_,rfl,yI.same nB,hRg.same nB,dD.fine s83,alB s83 pm hm,by lia,by simp,fun lc qs HA nlc SA hRc=>?_⟩;rw [dD.changed s83 kp nx ny pm] at hRc;have s83y:S83 ys m0 m1 f2 f3 f4 ov:=s83.perm pm;have dDy:D83 ys f2 f3 f4 ov mo (rowsK (D5 xs ks) rows) G:=dD.after kp nx ny pm;have S7A:=nB.trans SA
  try walk_at "rd"
  intro x dx nx' ndx ndxx;have SB:Same HA (A4 (A4 HA dx (.own x)) x (.ins C dx [])):=(Same.new ndx).trans (Same.new (by rw [A9 ndxx.symm];exact nx'));have hxB:A4 (A4 HA dx (.own x)) x (.ins C dx []) x=some (.ins C dx []):=A5;generalize A4 (A4 HA dx (.own x)) x (.ins C dx [])=HB at SB hxB;refine ⟨x,dx,lc,qs,_,g83 ys m0 m1 ov,_,_,rfl,hxB,hRc.same SB,dDy.good s83y,fun j ll ml md L M HC nj nll nml nmd BC hO=>⟨rfl,?_⟩⟩;obtain ⟨eL,eM⟩:=dDy.lets s83y hO.l1 hO.l2;rw [eL,eM] at hO;have hO:IsOrd C HC x j ll ml md (g83 ys m0 m1 ov) (fin83 mo (rowsK (D5 xs ks) rows) m0 m1 G ys) ys [m0,m1]:=hO;have SC:Same H7 HC:=fun b o hb=>BC _ _ (fun e=>by rw [e] at hb;have:=S7A _ _ hb;rw [nx'] at this;cases this) (SB _ _ (S7A _ _ hb))
  clear BC SB hxB nx' ndx ndxx nj nll nml nmd eL eM hRc S7A SA nlc nB hRg hpk hkk RR GG qU qV yK npk nkk xY;have c1:=SC _ _ k1;have c2:=SC _ _ k2;have cb:=SC _ _ kb;have cr:=kr.same SC;have cr3:=yI.same SC;have cd1:=SC _ _ kd1;have cd2:=SC _ _ kd2;have cd4:=SC _ _ yJ;clear k1 k2 kb kr yI kd1 kd2 yJ SC;have okR:=dD.str s83;refine midS (fun Y HD=>Y=[some (.ref a),some (.int n),some (.ref p),some (.ref b),some (.ref o1),some (.ref o2),some (.ref rl),some (.ref hd),some (.ref g),some (.ref x),none]/\Same HC HD) ?_ ?_
  .intro M' hM';obtain ⟨dx2,jE⟩:=hO.ob;walk_at "rd";refine ⟨by decide,fun pl npl=>?_⟩;have SD:Same HC (A4 HC pl (.lst [V.ref o1,V.ref o2,V.ref rl])):=Same.new npl;have R8:A4 HC pl (.lst [V.ref o1,V.ref o2,V.ref rl]) pl=some (.lst [V.ref o1,V.ref o2,V.ref rl]):=A5;generalize A4 HC pl (.lst [V.ref o1,V.ref o2,V.ref rl])=HD at SD R8;refine ⟨_,.lst (.of (SD _ _ cd4)) (.cons (.lst (.of (SD _ _ cd1)) (R9 hok)) (.cons (.lst (.of (SD _ _ cd2)) (R9 q0)) (.cons (tT (cr3.same SD) okR) .nil))),_,.lst (.of R8) (.cons (.lst (.of (SD _ _ c1)) (R9 hok)) (.cons (.lst (.of (SD _ _ c2)) (R9 q0)) (.cons (tT (cr.same SD) okR) .nil))),?_,?_⟩
   .have hdr:=tS (P1 mo rows m0 m1 G);refine K6 (Nat.min_le_left _ _) ?_;simp only [dW,bW,gK];lia
   rw [O9,Z6,Z6,Z6,Z6,eI,eI,ajU,decide_eq_true rfl,decide_eq_true rfl,if_neg (by decide)];have hOD:=hO.same SD;refine ⟨_,_,SD _ _ jE,kK _ _ _ _ _ _ (by decide +kernel),x,j,ll,ml,md,_,_,_,_,rfl,hOD,fun l6 nl6=>?_⟩;have SE:Same HD (A4 HD l6 (.lst (ys.map V.str))):=Same.new nl6;have hl6:A4 HD l6 (.lst (ys.map V.str)) l6=some (.lst (ys.map V.str)):=A5;generalize A4 HD l6 (.lst (ys.map V.str))=HE at SE hl6;have SCE:=SD.trans SE
   try walk_at "rd"
   refine ⟨_,.lst (.of hl6) (R9 q0),_,.lst (.of (SCE _ _ c2)) (R9 q0),dep _ _,?_⟩;rw [eI,decide_eq_true rfl,if_neg (by decide)];refine ⟨_,_,SCE _ _ jE,kK _ _ _ _ _ _ (by decide +kernel),x,j,ll,ml,md,_,_,_,_,rfl,hO.same SCE,fun l7 nl7=>?_⟩;have SF:Same HE (A4 HE l7 (.lst ([m0,m1].map V.str))):=Same.new nl7;have iU:A4 HE l7 (.lst ([m0,m1].map V.str)) l7=some (.lst ([m0,m1].map V.str)):=A5;generalize A4 HE l7 (.lst ([m0,m1].map V.str))=HF at SF iU;have SCF:=SCE.trans SF
   try walk_at "rd"
   refine rSlR.l (.of (SCF _ _ cb)) fun l8 nl8=>?_
   rw [show cutV ([m0,m1,f2,f3,f4,ov].map V.str) none (some 2)=[m0,m1].map V.str from kD _ 2];have okm:∀ y∈[m0,m1],U3 y=true:=fun y hy=>(jW (s83.pc y (by simp at hy ⊢;rcases hy with h | h <;> simp [h]))).1
   try walk_at "rd"
   refine ⟨_,.lst (.of (B3 iU nl8)) (R9 okm),_,.lst (.of A5) (R9 okm),dep _ _,?_⟩;rw [eI,decide_eq_true rfl,if_neg (by decide)];exact hM' _ _ ⟨rfl,SCF.trans (Same.new nl8)⟩
  rintro Y HD ⟨rfl,SD⟩;walk_at "rd";refine ⟨⟨_,.of (SD _ _ cr.top)⟩,forLs (xs:=ts.map V.ref) (fun _ Y H'=>∃ u,Y=[some (.ref a),some (.int n),some (.ref p),some (.ref b),some (.ref o1),some (.ref o2),some (.ref rl),some (.ref hd),some (.ref g),some (.ref x),u]/\Same HC H') ⟨_,rfl,SD⟩ ?_ ?_ ?_⟩
  .rintro i Y H2 _ ⟨u,rfl,S2⟩;exact .of (S2 _ _ cr.top)
  .rintro P' Bk hP i y Y H2 hi ⟨u,rfl,S2⟩;obtain ⟨t,ht,rfl⟩:=G5 hi;obtain ⟨z,hz,fL⟩:=Paired.at (cr.same S2).row ht;have iY:z∈P1 mo rows m0 m1 G:=L3 hz;walk_at "rd";refine ⟨_,.inr (.of fL),V.str z.1,N5 _ _,?_⟩
   try walk_at "rd"
   refine iteD (fun e=>?_) fun _=>hP _ _ _ ⟨_,rfl,S2⟩
   obtain ⟨eg,rD,rfl⟩:=dD.great s83 iY e;obtain ⟨dx2,jE⟩:=hO.ob;obtain ⟨hw,c,hun⟩:=dDy.units s83y hO.l1 hO.l2 rD;have iQ:eg.2.length<=500:=by
    have:=(jW (s83.pc eg.2 (by rcases dD.form rD with h | h | h <;> simp [h]))).2.2
    lia
   refine ⟨_,.inr (.of fL),V.str eg.2,P9 (j:=2) rfl,x,j,ll,ml,md,eg.2,_,_,_,_,rfl,hO.same S2,dDy.known s83y,iQ,hw,dDy.steps s83y ys [m0,m1],fun u H3 nu S3 hu=>?_⟩;rw [hun] at hu;obtain ⟨es,C7,aZ⟩:=hu;obtain ⟨⟨e1,e2⟩,rfl,hu3,hu5⟩:∃ e:Addr×Addr,es=[e]/\H3 e.1=some (.tup [.int 2,.int (ys.idxOf eg.1:Int),.ref e.2,.int c])/\H3 e.2=some (.tup []):=by
    cases aZ with
    | cons h t=>cases t;exact ⟨_,rfl,h.1,h.2⟩
   have qX:=S2.trans S3;have nC:=S3 _ _ fL;clear aZ hun fL;walk_at "rd";refine ⟨_,.inl (.of C7),_,N5 _ _,?_⟩;refine rSlR.t (.of hu3) (by show ¬ (HT.sIx 4 0 none=0/\HT.sIx 4 4 (some 3)=4);decide +kernel) fun p1 R0=>?_
   rw [show cutV [V.int 2,V.int (ys.idxOf eg.1:Int),V.ref e2,V.int c] none (some 3)=[V.int 2,V.int (ys.idxOf eg.1:Int),V.ref e2] from kD _ 3];have S4:Same H3 (A4 H3 p1 (HO.tup [V.int 2,V.int (ys.idxOf eg.1:Int),V.ref e2])):=Same.new R0;have o5:A4 H3 p1 (HO.tup [V.int 2,V.int (ys.idxOf eg.1:Int),V.ref e2]) p1=some (.tup [V.int 2,V.int (ys.idxOf eg.1:Int),V.ref e2]):=A5;generalize A4 H3 p1 (HO.tup [V.int 2,V.int (ys.idxOf eg.1:Int),V.ref e2])=H4 at S4 o5;have bK:=qX.trans S4;refine ⟨N4 (bK _ _ c2),_,.inr (.of (S4 _ _ nC)),V.str eg.1,P9 (j:=1) rfl,o2,ys,eg.1,rfl,rfl,bK _ _ c2,dDy.gl eg rD,fun p2 dE=>⟨by decide,fun p3 Q3=>?_⟩⟩;have S5:Same H4 (A4 (A4 H4 p2 (HO.tup [])) p3 (HO.tup [V.int 2,V.int (ys.idxOf eg.1:Nat),V.ref p2])):=(Same.new dE).trans (Same.new Q3);have y3:A4 (A4 H4 p2 (HO.tup [])) p3 (HO.tup [V.int 2,V.int (ys.idxOf eg.1:Nat),V.ref p2]) p3=some (.tup [V.int 2,V.int (ys.idxOf eg.1:Int),V.ref p2]):=A5;have fE:A4 (A4 H4 p2 (HO.tup [])) p3 (HO.tup [V.int 2,V.int (ys.idxOf eg.1:Nat),V.ref p2]) p2=some (.tup []):=B3 A5 Q3;generalize A4 (A4 H4 p2 (HO.tup [])) p3 (HO.tup [V.int 2,V.int (ys.idxOf eg.1:Nat),V.ref p2])=H5 at S5 y3 fE;have fR:=bK.trans S5;refine ⟨.tuple [.int 2,.int (ys.idxOf eg.1:Int),.tuple []],.tup (.of (S5 _ _ o5)) (.cons (.int _) (.cons (.int _) (.cons (.tup (.of (S5 _ _ (S4 _ _ hu5))) .nil) .nil))),.tuple [.int 2,.int (ys.idxOf eg.1:Int),.tuple []],.tup (.of y3) (.cons (.int _) (.cons (.int _) (.cons (.tup (.of fE) .nil) .nil))),?_,?_⟩
   .simp [dW,bW]
   rw [show O9 (.tuple [.int 2,.int (ys.idxOf eg.1:Int),.tuple []]) (.tuple [.int 2,.int (ys.idxOf eg.1:Int),.tuple []])=true by simp [O9,Z6],if_neg (by decide)];obtain ⟨hj1,qF⟩:=(dDy.good s83y).job (dDy.pr rD);refine ⟨_,_,fR _ _ jE,kK _ _ _ _ _ _ (by decide +kernel),_,.inr (.of (S5 _ _ (S4 _ _ nC))),V.str eg.2,P9 (j:=2) rfl,x,j,ll,ml,md,eg.2,_,_,_,_,rfl,hO.same fR,?_⟩;rw [if_pos hj1,qF];walk_at "rd";exact hP _ _ _ ⟨_,rfl,fR⟩
  rintro Y H2 ⟨u,rfl,S2⟩;walk_at "rd";obtain ⟨dx2,jE⟩:=hO.ob;refine ⟨C,_,_,S2 _ _ jE,T.cl,T.na_behind,_,agR _ _ _ _ _ _,by decide,fun pb npb=>?_⟩;have S7:Same H2 (A4 H2 pb (.tup [V.str (Str.ofString "behind")])):=Same.new npb;have hp7:A4 H2 pb (.tup [V.str (Str.ofString "behind")]) pb=some (.tup ((("behind" : Str)::[]).map V.str)):=A5;generalize A4 H2 pb (.tup [V.str (Str.ofString "behind")])=H7 at S7 hp7;refine ⟨ruleD ("behind",[]),.tup (.of hp7) (R9 (by intro y hy;rw [E6.mp hy];decide +kernel)),(P1 mo rows m0 m1 G).map ruleD,tT (cr.same (S2.trans S7)) okR,K6 (Nat.min_le_left _ _) (K6 (tS _) (by decide)),?_⟩;rw [ans _ "behind" (dD.flag s83.ne),dD.beh.1,dDy.beh.2];walk_at "rd";exact q _
end
theorem all_mk{l:PySem.W.OpenLaw}{w:World}(X:K.In h)(G:h.Ns mainGlobals mg)(qR:mg "law"=some (.ref fa))(d0:DF K "told" u7)(d1:DF K "followers" Y8)(d2:DF K "count_ahead" u8)(d3:DF K "lined_up" Q2)(d4:DF K "is_figure" oW)(d5:DF K "has_rule" kP)(d6:DF K "pieces_told" oX)(d7:DF K "is_clash" cL)(d8:DF K "jobs_of" i5)(d9:DF K "misused" aO)(d10:DF K "check_letters" aP)(d11:DF K "line_of" kQ)(d12:DF K "forms_of" cM)(d13:DF K "steps_of" P0){f14:Addr}{od14 an14:Option Addr}{sl14:Array (Option Value)}{oc14 kV14 dc14 pm14 cd14 ct14:Value}(a14:O8 K (.ref C) "__init__"=some (some (.ref f14)))(i14:aD K (.ref f14)=true)(l14:K.lookup f14=some ⟨oc14,od14,.func (T6 "__init__" "Order.__init__" (V9 cN) (U4 cN) (C6 cN) .none kV14 dc14 pm14 an14 cd14 ct14),sl14⟩)(c14:Y0 K cd14 "Order.__init__"=true)(k14:V8 K (.ref f14)=true){f15:Addr}{od15 an15:Option Addr}{sl15:Array (Option Value)}{oc15 kV15 dc15 pm15 cd15 ct15:Value}(a15:O8 K (.ref C) "letters"=some (some (.ref f15)))(i15:aD K (.ref f15)=true)(l15:K.lookup f15=some ⟨oc15,od15,.func (T6 "letters" "Order.letters" (V9 eS) (U4 eS) (C6 eS) .none kV15 dc15 pm15 an15 cd15 ct15),sl15⟩)(c15:Y0 K cd15 "Order.letters"=true)(k15:V8 K (.ref f15)=true){f16:Addr}{od16 an16:Option Addr}{sl16:Array (Option Value)}{oc16 kV16 dc16 pm16 cd16 ct16:Value}(a16:O8 K (.ref C) "marks"=some (some (.ref f16)))(i16:aD K (.ref f16)=true)(l16:K.lookup f16=some ⟨oc16,od16,.func (T6 "marks" "Order.marks" (V9 eT) (U4 eT) (C6 eT) .none kV16 dc16 pm16 an16 cd16 ct16),sl16⟩)(c16:Y0 K cd16 "Order.marks"=true)(k16:V8 K (.ref f16)=true){f17:Addr}{od17 an17:Option Addr}{sl17:Array (Option Value)}{oc17 kV17 dc17 pm17 cd17 ct17:Value}(a17:O8 K (.ref C) "job"=some (some (.ref f17)))(i17:aD K (.ref f17)=true)(l17:K.lookup f17=some ⟨oc17,od17,.func (T6 "job" "Order.job" (V9 cO) (U4 cO) (C6 cO) .none kV17 dc17 pm17 an17 cd17 ct17),sl17⟩)(c17:Y0 K cd17 "Order.job"=true)(k17:V8 K (.ref f17)=true)(d18:DF K "figures_at" eU)(d19:DF K "part_at" aQ){f20:Addr}{od20 an20:Option Addr}{sl20:Array (Option Value)}{oc20 kV20 dc20 pm20 cd20 ct20:Value}{tD20:Addr}{nD20:Nat}{cD20:Value}{oD20:Option Addr}{sD20:Array (Option Value)}(dl20:K.lookup tD20=some ⟨cD20,oD20,.seq #[.bool false] nD20,sD20⟩)(a20:P8 K mainGlobals "cut"=some (some (.ref f20)))(l20:K.lookup f20=some ⟨oc20,od20,.func (T6 "cut" "cut" (V9 s_cut) (U4 s_cut) (C6 s_cut) (.ref tD20) kV20 dc20 pm20 an20 cd20 ct20),sl20⟩)(c20:Y0 K cd20 "cut"=true)(k20:V8 K (.ref f20)=true){f21:Addr}{od21 an21:Option Addr}{sl21:Array (Option Value)}{oc21 kV21 dc21 pm21 cd21 ct21:Value}(a21:O8 K (.ref C) "known"=some (some (.ref f21)))(i21:aD K (.ref f21)=true)(l21:K.lookup f21=some ⟨oc21,od21,.func (T6 "known" "Order.known" (V9 eV) (U4 eV) (C6 eV) .none kV21 dc21 pm21 an21 cd21 ct21),sl21⟩)(c21:Y0 K cd21 "Order.known"=true)(k21:V8 K (.ref f21)=true){f22:Addr}{od22 an22:Option Addr}{sl22:Array (Option Value)}{oc22 kV22 dc22 pm22 cd22 ct22:Value}(a22:O8 K (.ref C) "steps"=some (some (.ref f22)))(i22:aD K (.ref f22)=true)(l22:K.lookup f22=some ⟨oc22,od22,.func (T6 "steps" "Order.steps" (V9 cP) (U4 cP) (C6 cP) .none kV22 dc22 pm22 an22 cd22 ct22),sl22⟩)(c22:Y0 K cd22 "Order.steps"=true)(k22:V8 K (.ref f22)=true)(d23:DF K "parts_of" kR)(d24:DF K "steps_by" kS)(d25:DF K "add_mark" kT)(d26:DF K "add_part" i6)(d27:DF K "units" u9)(d28:DF K "places_of" v4)(d29:DF K "group_for" v6)(d30:DF K "kept_most" T3)(d31:DF K "forgotten" v7)(d32:DF K "without" v8)(d33:DF K "changed" c9)(d34:DF K "_law_cell_at" kU)(d35:DF K "_law_pieces" Q6)(d36:DF K "_law_turns" Q7)(d37:DF K "change" aR)(d38:DF K "_law_rows" v9)(d39:DF K "_law_rules" Y9)(d40:DF K "_law_parted" X6){f41:Addr}{od41 an41:Option Addr}{sl41:Array (Option Value)}{oc41 kV41 dc41 pm41 cd41 ct41:Value}(a41:P8 K mainGlobals "law"=some (some (.ref f41)))(l41:K.lookup f41=some ⟨oc41,od41,.func (T6 "law" "law" (V9 s_law) (U4 s_law) (C6 s_law) .none kV41 dc41 pm41 an41 cd41 ct41),sl41⟩)(c41:Y0 K cd41 "law"=true)(k41:V8 K (.ref f41)=true)(aC:P8 K mainGlobals "Order"=some (some (.ref C)))(pgC:jK K C Str.empty=true)(hdC:PySem.W.hasDictIn K C=true)(poC:PySem.W.plainOver K C=true)(saC:O8 K (.ref C) "__setattr__"=some (some (.builtin "object.__setattr__")))(mkC:PySem.W.makesIn K C=true)(kcC:V8 K (.ref C)=true)(nC_figures:O8 K (.ref C) "figures"=some none)(nC_behind:O8 K (.ref C) "behind"=some none)(nC_jobs:O8 K (.ref C) "jobs"=some none)(nC_letter_line:O8 K (.ref C) "letter_line"=some none)(nC_mark_line:O8 K (.ref C) "mark_line"=some none)(nC_made:O8 K (.ref C) "made"=some none)(z_any:P8 K mainGlobals "any"=some none)(z_dict:P8 K mainGlobals "dict"=some none)(z_enumerate:P8 K mainGlobals "enumerate"=some none)(z_int:P8 K mainGlobals "int"=some none)(z_isinstance:P8 K mainGlobals "isinstance"=some none)(z_len:P8 K mainGlobals "len"=some none)(z_list:P8 K mainGlobals "list"=some none)(z_min:P8 K mainGlobals "min"=some none)(z_range:P8 K mainGlobals "range"=some none)(z_tuple:P8 K mainGlobals "tuple"=some none)(z_zip:P8 K mainGlobals "zip"=some none){a_JOBS:Addr}{ep_JOBS:Nat}{h_JOBS_0:Int}{t_JOBS_0 u_JOBS_0:Tok}{h_JOBS_1:Int}{t_JOBS_1 u_JOBS_1:Tok}{h_JOBS_2:Int}{t_JOBS_2 u_JOBS_2:Tok}{h_JOBS_3:Int}{t_JOBS_3 u_JOBS_3:Tok}{h_JOBS_4:Int}{t_JOBS_4 u_JOBS_4:Tok}(y_JOBS:P8 K mainGlobals "JOBS"=some (some (.ref a_JOBS)))(d_JOBS:K.lookup a_JOBS=some { cls:=.type "dict",dict:=none,data:=.dict #[⟨h_JOBS_0,.str "row" t_JOBS_0,.str "letter" u_JOBS_0⟩,⟨h_JOBS_1,.str "marks" t_JOBS_1,.str "mark" u_JOBS_1⟩,⟨h_JOBS_2,.str "great" t_JOBS_2,.str "great" u_JOBS_2⟩,⟨h_JOBS_3,.str "as" t_JOBS_3,.str "as" u_JOBS_3⟩,⟨h_JOBS_4,.str "over" t_JOBS_4,.str "over" u_JOBS_4⟩] ep_JOBS,slots:=#[] })(s_JOBS:(a_JOBS==sysModules)=false)(e_JOBS_0:h_JOBS_0=keyH w (Sum.inr ("row" : Str)))(e_JOBS_1:h_JOBS_1=keyH w (Sum.inr ("marks" : Str)))(e_JOBS_2:h_JOBS_2=keyH w (Sum.inr ("great" : Str)))(e_JOBS_3:h_JOBS_3=keyH w (Sum.inr ("as" : Str)))(e_JOBS_4:h_JOBS_4=keyH w (Sum.inr ("over" : Str))){a_AGAIN:Addr}{n_AGAIN:Nat}{od_AGAIN:Option Addr}{sl_AGAIN:Array (Option Value)}{t_AGAIN_0:Tok}{t_AGAIN_1:Tok}{t_AGAIN_2:Tok}(y_AGAIN:P8 K mainGlobals "AGAIN"=some (some (.ref a_AGAIN)))(d_AGAIN:K.lookup a_AGAIN=some ⟨.type "tuple",od_AGAIN,.seq #[.str "letter" t_AGAIN_0,.str "mark" t_AGAIN_1,.str "over" t_AGAIN_2] n_AGAIN,sl_AGAIN⟩){a_STAYING:Addr}{ep_STAYING:Nat}{h_STAYING_0:Int}{t_STAYING_0 u_STAYING_0:Tok}{h_STAYING_1:Int}{t_STAYING_1 u_STAYING_1:Tok}{h_STAYING_2:Int}{t_STAYING_2 u_STAYING_2:Tok}{h_STAYING_3:Int}{t_STAYING_3 u_STAYING_3:Tok}(y_STAYING:P8 K mainGlobals "STAYING"=some (some (.ref a_STAYING)))(d_STAYING:K.lookup a_STAYING=some { cls:=.type "dict",dict:=none,data:=.dict #[⟨h_STAYING_0,.str "row" t_STAYING_0,.int 1 u_STAYING_0⟩,⟨h_STAYING_1,.str "marks" t_STAYING_1,.int 1 u_STAYING_1⟩,⟨h_STAYING_2,.str "over" t_STAYING_2,.int 1 u_STAYING_2⟩,⟨h_STAYING_3,.str "great" t_STAYING_3,.int 2 u_STAYING_3⟩] ep_STAYING,slots:=#[] })(s_STAYING:(a_STAYING==sysModules)=false)(e_STAYING_0:h_STAYING_0=keyH w (Sum.inr ("row" : Str)))(e_STAYING_1:h_STAYING_1=keyH w (Sum.inr ("marks" : Str)))(e_STAYING_2:h_STAYING_2=keyH w (Sum.inr ("over" : Str)))(e_STAYING_3:h_STAYING_3=keyH w (Sum.inr ("great" : Str))){tMARK tLETTER tFIGURES:Tok}(y_MARK:P8 K mainGlobals "MARK"=some (some (.int 0 tMARK)))(y_LETTER:P8 K mainGlobals "LETTER"=some (some (.int 2 tLETTER)))(y_FIGURES:P8 K mainGlobals "FIGURES"=some (some (.int 1 tFIGURES)))
  : ∃ fd:FuncData,(∀ (s:Shared) (v:Value),BindsTo s fd ⟨[v],[]⟩ [("_law_script",v)])/\∀ base:Heap,K.In base->base.Ns mainGlobals mg->FnOk l.prog w K mg base E8 7 fa fd ["_law_script"] (spLaw K):=by
 have e:=qR.symm.trans (j8 X G a41);cases e;have T:Txt l.prog w K mg C:=⟨⟨pgC,hdC,poC,saC⟩,nC_figures,nC_behind,nC_jobs,nC_letter_line,nC_mark_line,nC_made,j6 X G z_any,j6 X G z_dict,j6 X G z_enumerate,j6 X G z_int,j6 X G z_isinstance,j6 X G z_len,j6 X G z_list,j6 X G z_min,j6 X G z_range,j6 X G z_tuple,j6 X G z_zip,⟨_,j8 X G y_MARK⟩,⟨_,j8 X G y_LETTER⟩,⟨_,j8 X G y_FIGURES⟩,⟨_,j8 X G y_JOBS,ajl d_JOBS s_JOBS (.cons ⟨t9 _ _,e_JOBS_0,⟨_,rfl⟩⟩ ( .cons ⟨t9 _ _,e_JOBS_1,⟨_,rfl⟩⟩ ( .cons ⟨t9 _ _,e_JOBS_2,⟨_,rfl⟩⟩ ( .cons ⟨t9 _ _,e_JOBS_3,⟨_,rfl⟩⟩ ( .cons ⟨t9 _ _,e_JOBS_4,⟨_,rfl⟩⟩ ( .nil)))))) (by decide +kernel)⟩,⟨_,j8 X G y_AGAIN,fun H=>.inr ⟨_,_,_,d_AGAIN,rfl,rfl,(by show 3<=sizeLine;decide),.cons ⟨_,rfl⟩ ( .cons ⟨_,rfl⟩ ( .cons ⟨_,rfl⟩ ( .nil)))⟩⟩,⟨_,j8 X G y_STAYING,ajl d_STAYING s_STAYING (.cons ⟨t9 _ _,e_STAYING_0,⟨_,rfl⟩⟩ ( .cons ⟨t9 _ _,e_STAYING_1,⟨_,rfl⟩⟩ ( .cons ⟨t9 _ _,e_STAYING_2,⟨_,rfl⟩⟩ ( .cons ⟨t9 _ _,e_STAYING_3,⟨_,rfl⟩⟩ ( .nil))))) (by decide +kernel)⟩⟩
 have F14:=aI (st:=cN) l14 c14;have F15:=aI (st:=eS) l15 c15;have F16:=aI (st:=eT) l16 c16;have F17:=aI (st:=cO) l17 c17;have F20:=aI (st:=s_cut) l20 c20;have F21:=aI (st:=eV) l21 c21;have F22:=aI (st:=cP) l22 c22;have F41:=aI (st:=s_law) l41 c41;refine ⟨T6 "law" "law" (V9 s_law) (U4 s_law) (C6 s_law) .none kV41 dc41 pm41 an41 cd41 ct41,fun s v=>.of_eq rfl,fun base hb hn=>?_⟩;have G_told:=d0.go X G hb fun F=>anu F T
 have G_followers:=d1.go X G hb fun F=>agq F T G_told
 have G_count_ahead:=d2.go X G hb fun F=>aey F T
 have G_lined_up:=d3.go X G hb fun F=>ag2 F T G_followers G_count_ahead
 have G_is_figure:=d4.go X G hb fun F=>ags F T
 have G_has_rule:=d5.go X G hb fun F=>ag5 F T
 have G_pieces_told:=d6.go X G hb fun F=>aeA F T
 have G_is_clash:=d7.go X G hb fun F=>ag7 F T G_is_figure
 have G_jobs_of:=d8.go X G hb fun F=>ait F T G_has_rule G_pieces_told G_is_clash
 have G_misused:=d9.go X G hb fun F=>aiu F T
 have G_check_letters:=d10.go X G hb fun F=>adQ F T G_misused
 have G_line_of:=d11.go X G hb fun F=>aiw F T G_lined_up
 have G_forms_of:=d12.go X G hb fun F=>ag8 F T
 have G_steps_of:=d13.go X G hb fun F=>ag9 F T G_forms_of
 have G_Order___init__:KO l.prog w K mg base 5 C "Order" ["self", "rules"] (tO C):=⟨_,_,adH F14 T G_has_rule G_jobs_of G_check_letters G_line_of G_steps_of,⟨mkC,a14,i14,kcC⟩,j8 X G aC,.all (len2 fun _ _=>rfl)⟩
 have G_Order_letters:MO l.prog w K mg base 1 C "letters" ["self"] (tP C):=⟨_,_,adS F15 T,T.cl,⟨a15,i15,k15⟩,.all (len1 fun _=>rfl)⟩
 have G_Order_marks:MO l.prog w K mg base 1 C "marks" ["self"] (tQ C):=⟨_,_,aeC F16 T,T.cl,⟨a16,i16,k16⟩,.all (len1 fun _=>rfl)⟩
 have G_Order_job:MO l.prog w K mg base 1 C "job" ["self", "piece"] (tR C):=⟨_,_,agv F17 T,T.cl,⟨a17,i17,k17⟩,.all (len2 fun _ _=>rfl)⟩
 have G_figures_at:=d18.go X G hb fun F=>afz F T G_is_figure
 have G_part_at:=d19.go X G hb fun F=>aix F T G_is_figure G_figures_at
 have G_cut:FO l.prog w K mg base 4 "cut" ["known", "text", "figures"] [.bl false] (oU K):=⟨_,_,al2 F20 T G_part_at,j8 X G a20,k20,[.bool false],(fun s us M0 hl=>by obtain ⟨u1,u2,rfl⟩:=ao3 hl;exact PySem.W.binds_K M0 rfl dl20 rfl rfl rfl),.cons rfl .nil⟩
 have G3_cut:FO l.prog w K mg base 4 "cut" ["known", "text", "figures"] [] (oU K):=⟨_,_,al2 F20 T G_part_at,j8 X G a20,k20,[],(fun s us M0 hl=>by obtain ⟨u1,u2,u3,rfl⟩:=alt hl;exact PySem.W.binds_K M0 rfl dl20 rfl rfl rfl),.nil⟩
 have G_Order_known:MO l.prog w K mg base 1 C "known" ["self"] (tW C):=⟨_,_,aeE F21 T,T.cl,⟨a21,i21,k21⟩,.all (len1 fun _=>rfl)⟩
 have G_Order_steps:MO l.prog w K mg base 1 C "steps" ["self", "piece"] (oV C):=⟨_,_,aeG F22 T,T.cl,⟨a22,i22,k22⟩,.all (len2 fun _ _=>rfl)⟩
 have G_parts_of:=d23.go X G hb fun F=>ahb F T G3_cut G_Order_known
 have G_steps_by:=d24.go X G hb fun F=>ahd F T G_is_figure G_Order_steps
 have G_add_mark:=d25.go X G hb fun F=>ahf F T
 have G_add_part:=d26.go X G hb fun F=>ahg F T G_steps_by G_add_mark
 have G_units:=d27.go X G hb fun F=>alC F T G_parts_of G_add_part
 have G_places_of:=d28.go X G hb fun F=>agw F T
 have G_group_for:=d29.go X G hb fun F=>agx F T
 have G_kept_most:=d30.go X G hb fun F=>agy F T G_places_of G_group_for
 have G_forgotten:=d31.go X G hb fun F=>agz F T
 have G_without:=d32.go X G hb fun F=>aiy F T
 have G_changed:=d33.go X G hb fun F=>aiz F T G_forgotten G_without
 have G_l_cell_at:=d34.go X G hb fun F=>agB F T
 have G_l_pieces:=d35.go X G hb fun F=>ahh F T
 have G_l_turns:=d36.go X G hb fun F=>aiA F T G_l_cell_at G_l_pieces
 have G_change:=d37.go X G hb fun F=>aki F T G_kept_most
 have G_l_rows:=d38.go X G hb fun F=>akj F T
 have G_l_rules:=d39.go X G hb fun F=>aiB F T G_l_cell_at G_l_rows
 have G_l_parted:=d40.go X G hb fun F=>ahi F T
 exact ao9 F41 T G_Order___init__ G_Order_letters G_Order_marks G_Order_job G_units G_kept_most G_changed G_l_cell_at G_l_turns G_change G_l_rules G_l_parted
theorem walk{l:PySem.W.OpenLaw}{q:Program}{XP:(Str->Option Value)->Heap->Prop}{YP:World->Heap->Prop}{d:DefRec}{K:Params->PySem.W.Frag}(hn:l.most=some 63)(x6:d.params.defaults=[])(hY:∀ (w:World) (h:Heap),YP w h->(K w.params).In h)(F:∀ (w:World) (mg:Str->Option Value) (fa:Addr) (h:Heap),(K w.params).In h->h.Ns mainGlobals mg->mg d.name=some (.ref fa)->
   ∃ fd:FuncData,(∀ (s:Shared) (u:Value),BindsTo s fd ⟨[u],[]⟩ [("_law_script",u)])/\∀ base:Heap,(K w.params).In base->base.Ns mainGlobals mg->FnOk l.prog w (K w.params) mg base E8 7 fa fd ["_law_script"] (spLaw (K w.params))) :
  PySem.W.WalkO q loose XP YP l.row.toRowW d [] (fun f vs=>PySem.call f vs):=
 L2.walk_of (n:=63) (k:=7) (x:="_law_script") (CX:=fun _=>E8) (sp:=fun w=>spLaw (K w.params)) hn (by decide) x6 ⟨rfl,by decide,by decide,rfl⟩ hY F (fun _ _ a ns hl _ hS=>⟨a,ns,rfl,hS,hl,fun _=>rfl⟩) fun _ _ _ _ _ z=>z
end K83
open PySem PySem.W PyProof.Rows
set_option maxRecDepth 100000 in
set_option maxHeartbeats 0 in
theorem PySem.Challenge.cw_sortlore_k83_whole_change_holds : PySem.Challenge.rw_sortlore_k83_whole_change.Holds := by
 w_on;o_law;k_head;(case hw=>w_witness2)
 k_fill
 refine K83.walk (l:=PySem.Challenge.rw_sortlore_k83_whole_change) rfl rfl (fun w h zy=>PySem.W.kIn_of zy) ?F
 case F=>
  intro w mg fa h KX G lO
  refine' K83.all_mk KX G lO ?d0 ?d1 ?d2 ?d3 ?d4 ?d5 ?d6 ?d7 ?d8 ?d9 ?d10 ?d11 ?d12 ?d13 ?a14 ?i14 ?l14 ?c14 ?k14 ?a15 ?i15 ?l15 ?c15 ?k15 ?a16 ?i16 ?l16 ?c16 ?k16 ?a17 ?i17 ?l17 ?c17 ?k17 ?d18 ?d19 ?dl20 ?a20 ?l20 ?c20 ?k20 ?a21 ?i21 ?l21 ?c21 ?k21 ?a22 ?i22 ?l22 ?c22 ?k22 ?d23 ?d24 ?d25 ?d26 ?d27 ?d28 ?d29 ?d30 ?d31 ?d32 ?d33 ?d34 ?d35 ?d36 ?d37 ?d38 ?d39 ?d40 ?a41 ?l41 ?c41 ?k41 ?aC ?pgC ?hdC ?poC ?saC ?mkC ?kcC ?nC_figures ?nC_behind ?nC_jobs ?nC_letter_line ?nC_mark_line ?nC_made ?z_any ?z_dict ?z_enumerate ?z_int ?z_isinstance ?z_len ?z_list ?z_min ?z_range ?z_tuple ?z_zip ?y_JOBS ?d_JOBS ?s_JOBS ?e_JOBS_0 ?e_JOBS_1 ?e_JOBS_2 ?e_JOBS_3 ?e_JOBS_4 ?y_AGAIN ?d_AGAIN ?y_STAYING ?d_STAYING ?s_STAYING ?e_STAYING_0 ?e_STAYING_1 ?e_STAYING_2 ?e_STAYING_3 ?y_MARK ?y_LETTER ?y_FIGURES
  any_goals (refine' K83.df_mk ?da ?dl ?dc ?dk;(case da=>k_is);(case dl=>k_is);(case dc=>k_is);(case dk=>k_is))
  (case aC=>k_is)
  (case a14=>k_is)
  (case i14=>k_is)
  (case l14=>k_is)
  (case c14=>k_is)
  (case k14=>k_is)
  (case a15=>k_is)
  (case i15=>k_is)
  (case l15=>k_is)
  (case c15=>k_is)
  (case k15=>k_is)
  (case a16=>k_is)
  (case i16=>k_is)
  (case l16=>k_is)
  (case c16=>k_is)
  (case k16=>k_is)
  (case a17=>k_is)
  (case i17=>k_is)
  (case l17=>k_is)
  (case c17=>k_is)
  (case k17=>k_is)
  (case a20=>k_is)
  (case l20=>k_is)
  (case c20=>k_is)
  (case k20=>k_is)
  (case a21=>k_is)
  (case i21=>k_is)
  (case l21=>k_is)
  (case c21=>k_is)
  (case k21=>k_is)
  (case a22=>k_is)
  (case i22=>k_is)
  (case l22=>k_is)
  (case c22=>k_is)
  (case k22=>k_is)
  (case a41=>k_is)
  (case l41=>k_is)
  (case c41=>k_is)
  (case k41=>k_is)
  (case pgC=>k_is)
  (case hdC=>k_is)
  (case poC=>k_is)
  (case saC=>k_is)
  (case mkC=>k_is)
  (case kcC=>k_is)
  (case nC_figures=>k_is)
  (case nC_behind=>k_is)
  (case nC_jobs=>k_is)
  (case nC_letter_line=>k_is)
  (case nC_mark_line=>k_is)
  (case nC_made=>k_is)
  (case z_any=>k_is)
  (case z_dict=>k_is)
  (case z_enumerate=>k_is)
  (case z_int=>k_is)
  (case z_isinstance=>k_is)
  (case z_len=>k_is)
  (case z_list=>k_is)
  (case z_min=>k_is)
  (case z_range=>k_is)
  (case z_tuple=>k_is)
  (case z_zip=>k_is)
  (case y_JOBS=>k_is)
  (case d_JOBS=>k_is)
  (case s_JOBS=>rfl)
  (case e_JOBS_0=>rfl)
  (case e_JOBS_1=>rfl)
  (case e_JOBS_2=>rfl)
  (case e_JOBS_3=>rfl)
  (case e_JOBS_4=>rfl)
  (case y_AGAIN=>k_is)
  (case d_AGAIN=>k_is)
  (case y_STAYING=>k_is)
  (case d_STAYING=>k_is)
  (case s_STAYING=>rfl)
  (case e_STAYING_0=>rfl)
  (case e_STAYING_1=>rfl)
  (case e_STAYING_2=>rfl)
  (case e_STAYING_3=>rfl)
  (case y_MARK=>k_is)
  (case y_LETTER=>k_is)
  (case y_FIGURES=>k_is)
  (case dl20=>k_is)
