import PyProof.Rows.All
import Wide.All
import OpenK.AllK
import Wide.FinOn
import Lean
import PyProof.EqAt
import PyProof.EqKinds
import PyProof.TupleCall
import PySem.Challenge.RW_sortlore_k23_clash
set_option compiler.extract_closed false
open List renaming length_map → B3, getElem?_eq_some_iff → F6, mem_singleton → F7, length_append → G0, getElem?_eq_getElem → N7, size_toArray → G7, mem_append → G1, map_append → G2, mem_of_getElem? → M0, take_length → J1, mem_cons_of_mem → M5, length_cons → J9, mem_map → E7, map_cons → G3, mem_cons → G4, mem_cons_self → N1, mem_append_right → O8, mem_append_left → O4, length_take → M6, append_nil → M3, mem_filter → N2, nodup_iff_pairwise_ne → Y1, replicate → O0, take_append_drop → W8, take_add_one → V1, take_of_length_le → j7, mem_iff_getElem → Z8, getElem?_map → W9, getD_eq_getElem?_getD → y3, flatMap_append → Z9, filter_append → b8, nodup_append → b9, nodup_cons → Y2, countP_cons → c9, append_assoc → j8, filter_cons_of_pos → bM, filter_cons_of_neg → bN, mem_flatMap → j9, length_drop → k6, take_zero → d0, length_singleton → bO, length_nil → k7, find?_cons → k8, length_erase_of_mem → dP, flatMap_cons → y4, nil_append → p8, filterMap_cons → bP, filter_eq_nil_iff → dQ, range → V2, mem_iff_getElem? → dR, map_nil → d2, pairwise_iff_getElem → gH, drop_eq_getElem_cons → gI, idxOf_lt_length_iff → gJ, foldl_append → bQ, flatten_cons → bR, map_map → k9, replicate_succ → dS, any_cons → q5, any_eq_true → bS, length_pos_of_mem → gK, head?_eq_getElem? → gL, length_filter_le → gM, count_append → dU, getElem?_append_right → kY, getElem?_append_left → kZ, not_mem_nil → dW, map_congr_left → gN, drop_succ_cons → gO, drop_of_length_le → lA, mem_range → dX, mem_flatten → gP, count_singleton → lB
open Nat renaming le_refl → C4, le_trans → E1, zero_le → G8, ne_of_lt → K4, lt_of_lt_of_le → Q1, lt_irrefl → Y3, le_add_right → y7, ne_of_gt → q9, min_eq_left → dY
open Bool renaming false_ne_true → J5, and_eq_true → R1, not_eq_true' → l6, eq_iff_iff → e8, false_xor → bU
open PySem.W renaming nsIn → E3, kitOne → G6, findIn → G9, mg_of → L8, mroIn → M7, keepIn → O9, mg_none_of → Y4, fnOf → Q2, codeIn → U1, kia_one → Y5, emptyDict → r0, specialIn → bV, instObj → y8, tailIn → y9, hasDictIn → dZ, nsOkIn → bW, takesIn → gQ
open PySem.F renaming plainAttrs_list → Y6, type_list_append → z0, slot_list_append → z8
open PySem.PyData renaming strOk → P7, eqv → Q7, depthAll → r8, str → V3, eqvAll → z9
open Array renaming length_toList → bX
open Option renaming isSome_some → gS
set_option Elab.async false
set_option linter.all false
set_option maxRecDepth 100000
noncomputable section
set_option genInjectivity false in
set_option genSizeOf false in
structure PySem.W.Fast where (tw5581412210003999836 tw14945199070174941387 tw572832256727376520 tw8167378588650584527 tw1190822974001271635 tw4640068744543507433 tw16423291867609709847 tw4245674985159699050 tw8957442046444485283 tw15238200771845945172 tw17161906534362254391 tw9746214362311079560 tw15487485798743349714 tw4830712954615424591 tw13123267086838891042 tw16675995408195738404 tw5291445487619465487 tw4481938463865904813 tw3926274873230538133 tw1104224304411358548 tw17814057347584119846 tw12797088721038861546 tw10813760964181853699 tw3811283455278246177 tw1985907899393872401 tw17124348277758827515 tw2985057465749034810 tw10811641716035208344 tw13863076194302294285 tw3108340716138740722 tw4000309146885405652 tw5861145415045933630 tw2929704392793520777 tw4993880799183172431 tw1278031688937304276 tw16466790301679748619 tw4550908319765188006 tw4847568395205519108 tw14343153316807561097
tw1293946600506818999 tw17586163674586430782 tw760172432439890019 tw17304459239452929202 tw393714053498717178 tw5796521509650645396 tw4063104574004955723 tw9797444300576459019 tw8089399285516286169 tw5438798538137958787 tw10583481206107763042 tw13704857146136262676 tw9648328807699374774 tw8931027642868335186 tw4976085361780742787 tw1158101630954019039 tw4981463755815265902 tw6163006472533162081 tw3677055148715586283 tw7025865503152937660 tw11187578937135344029 tw9814837094772688020 tw10872062677075770623 tw9322695256126832539 tw2923689715546639450 tw3405428513574694248 tw14920046667064605499 tw12727258876781523225 tw13030051911633174860 tw16019813583917334563 tw7504614133228857715 tw8022346874262559391 tw216645358699006024 tw17357376554102843265 tw11255485025770461751 tw14445707736766942850 tw1706577038567395083 tw15415915056366548698 tw15072789078087964018 tw9045755091899364804
tw14477300397381896338 tw1651023011206645831 tw6973997253948128980 tw1407181159152109218 tw15248916226106369965 tw449436819487171385 tw10068799061484387610 tw14755252470449088536 tw2663830731435020671 tw8884568186320182945 tw10430792592642299234 tw7776062367018956319 tw11067270153398161050 tw10824496910318756281 tw11349427715932492573 tw14721424225096162989 tw10054685123217730498 tw15456730337930088640 tw7006688631994273655 tw15279066373361679520 tw2186612505063578056 tw5819101356413741727 tw8840277728700424983 tw15190616067515169095 tw16962668145155221371 tw16230689142521675879 tw2623519337827767706 tw5591279764386030218 tw11933629104167492199 tw3692070038847681058 tw5998410597552003853 tw993503419482275193 tw16912211046317640754 tw17264980563279027766 tw12305073271282414121 tw7878324834850162 tw1079566321170122391 tw10352861247093308427 tw4907382172859845380 tw4610100061027493097
tw639118152876266358 tw14043691907164532725 tw10218284388677345226 tw11510052815417578444 tw6960963279428248550 tw12018898985812610536 tw17538216660089785501 tw8478608185161491172 tw11890139125977176225 tw4047330619369382076 tw4789678950901666560 tw18256978653968207348 tw6681392445177723134 tw10591078656674895007 tw13622625288898477788 tw12693747838834931758 tw15929228024382754013 tw3356624393985986401 tw1380001221583142077 tw18136513020925956062 tw3957864308238010382 tw9461579106475782683 tw5959468812284119525 tw5317948099788862030 tw16791657802222280555 tw10407091575191946628 tw3195794077138985744 tw7254306971554444985 tw18297568230017027385 tw804488384312095436 tw16482468434062478703 tw15140898526457224928 tw9143436712428758532 tw10959939433347351975 tw17290433579638214844 tw12936138018936170711 tw9187271424283128942 tw9611483711555624338 tw14396631847662285166 tw7400711165355981168
tw1989939941946503096 tw1162738542962173785 tw1992272197590705889 tw1562800910235838489 tw11343453661101423596 tw7936386192050028627 tw2884848160075797570 tw8055160170222464623 tw4698001037696723302 tw16061835447912153432 tw15796603233899071684 tw6766656268480524413 tw17712692661315163877 tw16260474905433631756 tw3550841819225671882 tw6770210559583640036 tw405879646754869800 tw11930544336157168245 tw4348841877447895234 tw7443051728479028565 tw17746857535991348995 tw962662783958636741 tw4676669163045824078 tw13150435833286821120 tw16560253856391430696 tw3492687037802347327 tw13858705195205619359 tw3881366463081817 tw9807574396947184979 tw688216046071571200 tw13318542369573889025 tw18255220791505260448 tw16750038832684103929 tw3091315091420632382 tw17470093129992798138 tw224041640998568858 tw12471948551115892637 tw11312664758581186971 tw4122562330571342504 tw8083199439451689528
tw15255748303814499907 tw12383267669808930619 tw12771265410457640619 tw14237262336392569565 tw12610058174235205434 tw6839562753036729909 tw14169027674691460593 tw12038419362325779867 tw16034321669043709521 tw5163485715941627193 tw1598596276145462551 tw15772288738934216410 tw4095613743065558260 tw5466711131915182638 tw2043860250507484218 tw1728257520190418221 tw6288194029775375289 tw5014293255079939674 tw8769139110867767985 tw15731379529216956869 tw3626010007065268245 tw13607898829032516538 tw15253077009775509345 tw3943297657581648840 tw2921851898862843605 tw14189461965131601595 tw10551298210749379651 tw7913758141755160559 tw18106202256273456229 tw2734993225905270187 tw5530702335312471464 tw865922581596716011 tw13613544401947368984 tw15570233274705060826 tw17386224635748474224 tw83831940419013748 tw13614870235742863179 tw13697162352425740287 tw12781664098245901262 tw15165934440624587540
tw5506735252478595219 tw11837779261623196532 tw16755367018954512568 tw596892140848258446 tw6660455248411009571 tw4608380355654915759 tw16942323268867305673 tw7071569295074491430 tw10914850303260318268 tw1367032608117697739 tw13267819226613726618 tw8815841641132862864 tw9054242396607009244 tw12823510413531810013 tw14953010524192182629 tw12919875025525064435 tw3076574216838584117 tw14110184456851823392 tw4549975846932904543 tw13100700202271084366 tw10833019488498363329 tw3035620638110240489 tw6483373905175818407 tw2191646966335960987 tw2360144261411178658 tw4916879803738598714 tw10605935987370479674 tw16015922176067453824 tw7221444975298508156 tw15601269904437311548 tw1500039429746174362 tw13930294808112108518 tw6475778039641439340 tw4599394165036083215 tw7497390439297087641 tw6061827149330445595 tw11133912883437602115 tw17026824151743486883 tw4466796743187505364 tw11771233915709734131
tw17949967182822265748 tw8765783368210676272 tw15909726266726291763 tw16182605784992415133 tw3592472726663548466 tw11598882327553237201 tw9951498188078386751 tw13000909314046918222 tw6177069254104863928 tw8820107063444832259 tw10716886464402718457 tw10670876672588493902 tw16384710262979020952 tw3967839835378458502 tw10553137273892222351 tw2689941663104065871 tw17025485735791649770 tw16574679643621270299 tw1740353746842597960 tw5691915260539350889 tw2828563044890645780 tw13014953961999553995 tw4108709247000660883 tw18321749698454568910 tw9208918251341920040 tw15159942371859217683 tw13848116526099657811 tw11942132022926361172 tw9205183478579556289 tw10392253769954419168 tw13235014771044403384 tw2016569714657347554 tw6940780467970283658 tw2474795035938444939 tw2479288274965686362 tw17107541731814323217 tw12234058138419819475 tw15023222718970350782 tw15876357420765403004 tw7689215662115575299
tw11559821074011460695 tw13810604072554750001 tw12132788630956680548 tw18003586450777508650 tw8851057569014414041 tw10261449536571493234 tw825260116791292124 tw14629661841312474971 tw12910391798266003611 tw11999470064576170306 tw11538530803687454627 tw14102057537070802773 tw9276948723063189038 tw17726595158408711752 tw8763890004123615861 tw10568829888547197179 tw10783392532200736006 tw9648578015977529808 tw4693860137886884732 tw16735044914462129591 tw10996939911458010247 tw8070389713063262602 tw14326199271063174756 tw11580861374878597497 tw14667061455122066516 tw4444033289564504135 tw6909218031583931222 tw18245327320124528181 tw8165907640090231043 tw8881875281801990094 tw9042675238613094700 tw5541562170616727828 tw8171722411185198134 tw8081841988603631027 tw16106488674486900879 tw11299187954817678653 tw4415279556179628909 tw3069492799491005704 tw10499392191774361362 tw8001365970684874020
tw15996760933960443374 tw16685558040617404719 tw3449108767664921170 tw15074100083638867834 tw15925842816987386325 tw11828331980175010937 tw2939425391759102560 tw13367644034782116013 tw12717408646051434642 tw15765041705558627356 tw5493315746668733306 tw10752006705842334226 tw2342038469012045103 tw7038560462567736811 tw16345432096862759607 tw16790385341103563194 tw14780441593208205202 tw4401760330789628290 tw12206832491796244778 tw13011556872961843485 tw10205042040701390641 tw11566325162823713658 tw15420065694168204183 tw6567919365494149240 tw7195213154618681423 tw1508722533195001703 tw2865445741669628205 tw5405672041651545357 tw12312816865167942157 tw6314190037190794260 tw8078762496200546362 tw15580277931537271614 tw7148774277128267510 tw16156500652176272314 tw9280473450570259862 tw16188933854174633992 tw7048608699728181679 tw4962867655609381617 tw6037188384474898289 tw16647700200235337661
tw4677261325856906675 tw16988947416536240851 tw8679571611982734253 tw15094226803202327460 tw10559783697983205418 tw12990455729166965421 tw16736964809104714633 tw8822410024352272757 tw6499645008222290393 tw1203061767473140814 tw16876804577236916335 tw7859511097851266861 tw17817875629187453482 tw6667899778027336811 tw3435995355940706646 tw15884346877563803644 tw10556171203183712935 tw15465601484701104426 tw6811364414381832665 tw6752470227270421572 tw1248031399934923073 tw4375335020711658540 tw6543788009920661840 tw1561261983339976959 tw3070046810209001599 tw9529860412567778207 tw3127322687763040615 tw5857419952316680583 tw6071690411737696650 tw1501978224749271835 tw12928673256455707664 tw13144362502576752314 tw12627728223461147138 tw9293101888367579849 tw6506483285277173526 tw11850036795904572204 tw10480795679692542293 tw16653833636099436319 tw14004226225143319477 tw8544192459699420122
tw8766439677973613292 tw17058029383117192809 tw2572476690339982267 tw6820710022369523810 tw2762709505745122616 tw2334534683341251503 tw9067765178124562355 tw12596440761459511087 tw5273140412802010367 tw15287094560169386013 tw13634371487897413361 tw14697157142364925323 tw2739206277381045405 tw3057829280597169983 tw568920731830923714 tw13239031576271052591 tw15152776946068449579 tw5149612499121035376 tw12935305159249637577 tw5047749869135110794 tw18076808778997671375 tw5233715237062657810 tw4606551098641070643 tw5186618686375420163 tw258954302816270865 tw665710461616216425 tw16970396660945652070 tw13670824578779313487 tw16976330876363691779 tw9601230542526422732 tw14744410137341230564 tw6198080548954893294 tw8600395012182744402 tw12781970881368980247 tw15241811077116591138 tw1512262761706340201 tw9806000481825276613 tw1117425216764639197 tw2703706510684469660 tw7443378133549143315
tw3679387131155616789 tw12568839453213943110 tw13122298193266430860 tw5712048077499923357 tw7953635743813699556 tw11361430955844370230 tw8947062519239573748 tw5405489894512971074 tw1407436952057409223 tw2120023668475666958 tw748973518718745970 tw4467793125180457128 tw18343257232517684387 tw16688365244555074116 tw16989326528670023405 tw10352791583215821540 tw6509107151994358064 tw11612752225512633998 tw16837797763164668433 tw18173998318417967381 tw15377530333986148744 tw7398045673188779838 tw8001865967292925762 tw284322407978800130 tw12516031413954583945 tw4444346076150600259 tw17392116188453362391 tw2207646155205210705 tw17457020992629028815 tw16964391016440861393 tw12973157833071892431 tw7152521077844617191 tw9094252444399222579 tw11457601947326532485 tw6160768454138293072 tw3060078817137792590 tw16821824167827475848 tw3920372843549649860 tw4178298336856239368 tw14275494859721893198
tw6018314717371310792 tw5769453296825533843 tw7092259741934329165 tw14509900817059174045 tw15992434595197453032 tw6082229479691543787 tw18235217893247907448 tw4889910810127401492 tw2250943417612835232 tw803682466956412881 tw14290400868618294670 tw7663717605650588255 tw3974107783461876915 tw1182011291136098 tw1097489763251250575 tw16682135785862182935 tw12953932115065464689 tw13835281255514809925 tw3949740156593630669 tw2822361664308416939 tw11079750306915832771 tw7696191431273625276 tw15927031608633303133 tw9506555246272432684 tw6081547126655395257 tw17515552280859636719 tw6815911401154917697 tw11880828231192159882 tw8254818731264725842 tw9059299481369418095:Nat)
set_option maxRecDepth 100000
namespace L2
open PySem PySem.Spec PyProof.Rows
noncomputable abbrev C2:=Sum Int Str
noncomputable def keyIs:C2->Value->Bool
 | .inl k,v=>Value.isInt k v
 | .inr x,v=>Value.isStrOf x v
noncomputable def keyH (w:World):C2->Int
 | .inl k=>hashInt k
 | .inr x=>hashStr w x
theorem e9:∀ {k:C2} {v:Value},keyIs k v=true->(∃ i t,k=Sum.inl i/\v=Value.int i t)\/(∃ x t,k=Sum.inr x/\v=Value.str x t)
 | .inl i,v,h=>by
  obtain ⟨t,e⟩:=Value.isInt_shape (k:=i) (v:=v) h;exact .inl ⟨i,t,rfl,e⟩
 | .inr x,v,h=>by
  obtain ⟨t,e⟩:=Value.isStrOf_shape (x:=x) (v:=v) h;exact .inr ⟨x,t,rfl,e⟩
theorem aho(i:Int)(t:Tok):keyIs (.inl i) (.int i t)=true:=by simp [keyIs,Value.isInt]
theorem eA(x:Str)(t:Tok):keyIs (.inr x) (.str x t)=true:=by simp [keyIs,Value.isStrOf]
theorem amB(a b:Int):decide ((Sum.inl a:C2)=Sum.inl b)=(a==b):=by
 by_cases e:a=b
 .subst e;simp
 .have h:¬ (Sum.inl a:C2)=Sum.inl b:=fun q=>e (Sum.inl.inj q)
  rw [decide_eq_false h];exact (beq_eq_false_iff_ne.mpr e).symm
theorem amC(a b:Str):decide ((Sum.inr a:C2)=Sum.inr b)=decide (a=b):=by
 by_cases e:a=b
 .subst e;simp
 .have h:¬ (Sum.inr a:C2)=Sum.inr b:=fun q=>e (Sum.inr.inj q)
  rw [decide_eq_false h,decide_eq_false e]
theorem amD(a:Int)(b:Str):decide ((Sum.inl a:C2)=Sum.inr b)=false:=decide_eq_false (fun q=>nomatch q)
theorem amE(a:Str)(b:Int):decide ((Sum.inr a:C2)=Sum.inl b)=false:=decide_eq_false (fun q=>nomatch q)
noncomputable def N3 (prog:Program) (w:World):PySem.KeyKind prog w C2 where
 is:=keyIs
 hash:=keyH w
 inj:=fun v a b ha hb=>by
  rcases e9 ha with ⟨i,t,rfl,rfl⟩ | ⟨x,t,rfl,rfl⟩
  .rcases e9 hb with ⟨j,u,rfl,e⟩ | ⟨y,u,rfl,e⟩
   .injection e with e1 _;rw [e1]
   .exact nomatch e
  .rcases e9 hb with ⟨j,u,rfl,e⟩ | ⟨y,u,rfl,e⟩
   .exact nomatch e
   .injection e with e1 _;rw [e1]
 byValue:=fun k v h=>by
  rcases e9 h with ⟨i,t,rfl,rfl⟩ | ⟨x,t,rfl,rfl⟩ <;> rfl
 pyHash:=fun hv h=>by
  rcases e9 hv with ⟨i,t,rfl,rfl⟩ | ⟨x,t,rfl,rfl⟩
  .exact wpAny_pyHash_int h
  .exact wpAny_pyHash_str h
 eqBool:=fun hu hv h=>by
  rcases e9 hu with ⟨i,t,rfl,rfl⟩ | ⟨x,t,rfl,rfl⟩
  .rcases e9 hv with ⟨j,u,rfl,rfl⟩ | ⟨y,u,rfl,rfl⟩
   .rw [amB] at h;exact wpAny_eqBool_int h
   .rw [amD] at h;exact SeqAt.EqAt.int_str i t y u _ _ _ _ h
  .rcases e9 hv with ⟨j,u,rfl,rfl⟩ | ⟨y,u,rfl,rfl⟩
   .rw [amE] at h;exact SeqAt.EqAt.str_int x t j u _ _ _ _ h
   .rw [amC] at h;exact wpAny_eqBool_str h
 «strs»:=fun k x t v h=>by
  rcases e9 h with ⟨i,u,rfl,e⟩ | ⟨y,u,rfl,e⟩
  .exact nomatch e
  .injection e with e1 _
   subst e1
   cases v <;> rfl
theorem afI(prog:Program)(w:World)(i:Int)(t:Tok):(N3 prog w).is (.inl i) (.int i t)=true:=aho i t
theorem afJ(prog:Program)(w:World)(x:Str)(t:Tok):(N3 prog w).is (.inr x) (.str x t)=true:=eA x t
end L2
namespace L2
open PySem PySem.Spec PyProof.Rows
inductive V where
 | non | bl (b:Bool) | int (i:Int) | str (x:Str) | byt (b:Array UInt8) | flt (b:UInt64) | ref (a:Addr) | ty (n:String)
 deriving DecidableEq
noncomputable def RelV:V->Value->Prop
 | .non,u=>u=Value.none
 | .bl b,u=>u=Value.bool b
 | .int i,u=>∃ t,u=Value.int i t
 | .str x,u=>∃ t,u=Value.str x t
 | .byt b,u=>∃ t,u=Value.bytes b t
 | .flt b,u=>∃ t,u=Value.float b t
 | .ref a,u=>u=Value.ref a
 | .ty n,u=>u=Value.type n
noncomputable abbrev Vals:List V->List Value->Prop:=Paired RelV
theorem Vals.length{xs:List V}{us:List Value}(r:Vals xs us):xs.length=us.length:=Paired.length r
theorem Vals.get:∀ {xs:List V} {us:List Value} {i:Nat} {x:V},Vals xs us->xs[i]?=some x->∃ u,us[i]?=some u/\RelV x u
 | _,_,_,_,.nil,e=>by simp at e
 | _,_,0,_,.cons r _,e=>by simp at e;subst e;exact ⟨_,rfl,r⟩
 | _,_,i+1,x,.cons _ t,e=>by
  obtain ⟨u,h1,h2⟩:=Vals.get (i:=i) (x:=x) t (by simpa using e);exact ⟨u,by simpa using h1,h2⟩
theorem Vals.set{x:V}{u:Value}(r:RelV x u):∀ {xs:List V} {us:List Value} (i:Nat),Vals xs us->Vals (xs.set i x) (us.set i u)
 | _,_,_,.nil=>.nil
 | _,_,0,.cons _ t=>.cons r t
 | _,_,i+1,.cons q t=>.cons q (Vals.set r i t)
theorem Vals.append:∀ {xs ys:List V} {us ws:List Value},Vals xs us->Vals ys ws->Vals (xs++ys) (us++ws)
 | _,_,_,_,.nil,s=>s
 | _,_,_,_,.cons r t,s=>.cons r (Vals.append t s)
theorem Vals.take:∀ {xs:List V} {us:List Value} (n:Nat),Vals xs us->Vals (xs.take n) (us.take n)
 | _,_,0,_=>.nil
 | _,_,_+1,.nil=>.nil
 | _,_,n+1,.cons r t=>.cons r (Vals.take n t)
theorem Vals.drop:∀ {xs:List V} {us:List Value} (n:Nat),Vals xs us->Vals (xs.drop n) (us.drop n)
 | _,_,0,r=>r
 | _,_,_+1,.nil=>.nil
 | _,_,n+1,.cons _ t=>Vals.drop n t
theorem Vals.none_of:∀ {xs:List V} {us:List Value} {i:Nat},Vals xs us->xs[i]?=none->us[i]?=none:=fun {xs us i} r e=>by
 have h1:=r.length;have h2:xs.length<=i:=List.getElem?_eq_none_iff.mp e;exact List.getElem?_eq_none_iff.mpr (by lia)
noncomputable def RelO:Option V->Option Value->Prop
 | some v,some u=>RelV v u
 | none,none=>True
 | _,_=>False
noncomputable def KV {κ:Type} : List (κ×V)->List (κ×Value)->Prop:=Paired fun (p:κ×V) (q:κ×Value)=>p.1=q.1/\RelV p.2 q.2
noncomputable def kV:C2->V
 | .inl i=>.int i
 | .inr x=>.str x
inductive HO where
 | lst (xs:List V)
 | tup (xs:List V)
 | dK (kvs:List (C2×V)) | dT (kvs:List (List C2×V))
 | set (S:Int->Bool) (n:Nat)
 | ins (C dx:Addr) (fs:List (Str×V))
 | own (x:Addr)
 | xd (fs:List (Str×V))
 | met (f x:Addr)
 | rng (lo hi:Int)
 | frz (o:Obj) (u:HO)
 | tbl (ps:Array Value)
 | ext (φ:Heap->Prop)
noncomputable abbrev Hp:=Addr->Option HO
noncomputable def A0 (H:Hp) (a:Addr) (o:HO):Hp:=fun b=>if b=a then some o else H b
theorem A6{H:Hp}{a:Addr}{o:HO} : A0 H a o a=some o:=by unfold A0;rw [if_pos rfl]
theorem A7{H:Hp}{a b:Addr}{o:HO}(h:b≠a):A0 H a o b=H b:=by unfold A0;rw [if_neg h]
theorem ne_of{H:Hp}{a b:Addr}{o u:HO}(h:H a=some o)(h':H b=some u)(d:o≠u):a≠b:=by
 intro e;subst e;rw [h] at h';exact d (Option.some.inj h')
theorem M8{H:Hp}{a b:Addr}{o:HO}(h:H a=some o)(h':H b=none):a≠b:=by
 intro e;subst e;rw [h] at h';cases h'
section
variable (P:Program) (w:World)
noncomputable def ObjOk (H:Hp) (h:Heap) (a:Addr):HO->Prop
 | .lst xs=>xs.length<=sizeLine/\∃ (its:List Value) (n:Nat),Vals xs its/\h.get? a=some { cls:=.type "list",data:=.seq its.toArray n }
 | .tup xs=>xs.length<=sizeLine/\∃ its:List Value,Vals xs its/\IsTup h a its.toArray
 | .dK kvs=>kvs.length<=sizeLine/\(a==sysModules)=false/\∃ vs,KV kvs vs/\h.DictOf (N3 P w) a vs
 | .dT kvs=>kvs.length<=sizeLine/\(a==sysModules)=false/\∃ xs:List (List C2×Addr×Value),
   Paired (fun (p:List C2×V) (q:List C2×Addr×Value)=>p.1=q.1/\H q.2.1=some (.tup (p.1.map kV))/\RelV p.2 q.2.2) kvs xs/\
   ∃ o es ep,h.get? a=some o/\o.ExactDict/\o.data=.dict es ep/\es.toList=xs.map (entryOfKey (tupleKind (N3 P w)))/\(xs.map (·.1)).Nodup
 | .set S n=>h.SetOf (intKind P w) a S n
 | .ins C dx fs=>H dx=some (.own a)/\fs.length<=1000/\dx≠a/\h.get? a=some (y8 C dx)/\
   ∃ mA,h.Ns1 dx mA/\(∀ f,RelO (fs.lookup f) (mA f))/\PySem.Within mA (fs.map (·.1))
 | .own _=>∃ o,h.get? a=some o
 | .xd fs=>∃ mA,h.Ns1 a mA/\∀ f,RelO (fs.lookup f) (mA f)
 | .rng lo hi=>∃ t u v,h.get? a=some { cls:=.type "range",data:=.fields #[.int lo t,.int hi u,.int 1 v] }
 | .frz o u=>h.get? a=some o/\ObjOk H h a u
 | .tbl ps=>h.get? a=some { cls:=.none,data:=.fields ps }
 | .met f x=>h.get? a=some (PySem.W.methodObj (.ref f) (.ref x))
 | .ext φ=>φ h/\(∃ o,h.get? a=some o)/\∀ h1 h2:Heap,φ h1->(∀ o,h1.get? a=some o->h2.get? a=some o)->φ h2
noncomputable def J7 (H:Hp) (h:Heap):Prop:=∀ a o,H a=some o->ObjOk P w H h a o
end
section
variable {P:Program} {w:World} {H H':Hp} {h h':Heap} {a:Addr} {o:HO}
theorem ObjOk.lt(x:ObjOk P w H h a o):a<h.objs.size:=by
 cases o with
 | lst xs=>obtain ⟨_,_,_,_,e⟩:=x;exact Heap.lt_size e
 | tup xs=>obtain ⟨_,_,_,p⟩:=x;exact p.lt
 | dK kvs=>obtain ⟨_,_,_,_,o,_,_,e,_⟩:=x;exact Heap.lt_size e
 | dT kvs=>obtain ⟨_,_,_,_,o,_,_,e,_⟩:=x;exact Heap.lt_size e
 | set S n=>obtain ⟨o,_,_,_,e,_⟩:=x;exact Heap.lt_size e
 | ins C dx fs=>obtain ⟨_,_,_,e,_⟩:=x;exact Heap.lt_size e
 | own y=>obtain ⟨_,e⟩:=x;exact Heap.lt_size e
 | xd fs=>obtain ⟨_,⟨_,_,_,e,_⟩,_⟩:=x;exact Heap.lt_size e
 | rng lo hi=>obtain ⟨_,_,_,e⟩:=x;exact Heap.lt_size e
 | frz ob u=>obtain ⟨e,_⟩:=x;exact Heap.lt_size e
 | tbl ps=>exact Heap.lt_size (show h.get? a=some _ from x)
 | met f y=>exact Heap.lt_size (show h.get? a=some _ from x)
 | ext φ=>obtain ⟨_,⟨_,e⟩,_⟩:=x;exact Heap.lt_size e
theorem f6{α β:Type}{F G:α->β->Prop} : ∀ {zx:List α} {l₂:List β},Paired F zx l₂->(∀ a b,F a b->G a b)->Paired G zx l₂
 | _,_,.nil,_=>.nil
 | _,_,.cons r t,f=>.cons (f _ _ r) (f6 t f)
theorem ObjOk.stay(x:ObjOk P w H h a o)(k:∀ b u,(b=a\/H b=some (.own a))->h.get? b=some u->h'.get? b=some u)(ho:∀ b,H b=some (.own a)->H' b=some (.own a))(ht:∀ b xs,H b=some (.tup xs)->H' b=some (.tup xs)):ObjOk P w H' h' a o:=by
 induction o with
 | lst xs=>obtain ⟨z,its,n,r,e⟩:=x;exact ⟨z,its,n,r,k _ _ (.inl rfl) e⟩
 | tup xs=>obtain ⟨z,its,r,ob,e,c⟩:=x;exact ⟨z,its,r,ob,k _ _ (.inl rfl) e,c⟩
 | dK kvs=>obtain ⟨z,y,vs,r,ob,es,ep,e,c⟩:=x;exact ⟨z,y,vs,r,ob,es,ep,k _ _ (.inl rfl) e,c⟩
 | dT kvs=>
  obtain ⟨z,y,xs,r,ob,es,ep,e,c⟩:=x;exact ⟨z,y,xs,f6 r fun p q z=>⟨z.1,ht _ _ z.2.1,z.2.2⟩,ob,es,ep,k _ _ (.inl rfl) e,c⟩
 | set S n=>obtain ⟨ob,es,ep,t,e,c⟩:=x;exact ⟨ob,es,ep,t,k _ _ (.inl rfl) e,c⟩
 | ins C dx fs=>
  obtain ⟨d,z,ne,e,mA,⟨od,es,ep,e2,c⟩,r⟩:=x;exact ⟨ho _ d,z,ne,k _ _ (.inl rfl) e,mA,⟨od,es,ep,k _ _ (.inr d) e2,c⟩,r⟩
 | own y=>obtain ⟨ob,e⟩:=x;exact ⟨ob,k _ _ (.inl rfl) e⟩
 | xd fs=>obtain ⟨mA,⟨od,es,ep,e,c⟩,r⟩:=x;exact ⟨mA,⟨od,es,ep,k _ _ (.inl rfl) e,c⟩,r⟩
 | rng lo hi=>obtain ⟨t,u,v,e⟩:=x;exact ⟨t,u,v,k _ _ (.inl rfl) e⟩
 | frz ob u ih=>obtain ⟨e,q⟩:=x;exact ⟨k _ _ (.inl rfl) e,ih q⟩
 | tbl ps=>
  have e:h.get? a=some { cls:=.none,data:=.fields ps }:=x;show h'.get? a=some { cls:=.none,data:=.fields ps };exact k a _ (.inl rfl) e
 | met f y=>
  have e:h.get? a=some (PySem.W.methodObj (.ref f) (.ref y)):=x;show h'.get? a=some (PySem.W.methodObj (.ref f) (.ref y));exact k a _ (.inl rfl) e
 | ext φ=>obtain ⟨p,⟨o,e⟩,st⟩:=x;exact ⟨st _ _ p fun o q=>k _ _ (.inl rfl) q,⟨o,k _ _ (.inl rfl) e⟩,st⟩
theorem J7.lt(x:J7 P w H h)(e:H a=some o):a<h.objs.size:=(x a o e).lt
theorem J7.fresh(x:J7 P w H h)(e:h.objs.size<=a):H a=none:=by
 cases q:H a with
 | none=>rfl
 | some u=>exact absurd (Q1 (x.lt q) e) (Y3 _)
theorem J7.kept(x:J7 P w H h)(k:∀ b u,h.get? b=some u->h'.get? b=some u):J7 P w H h':=fun a o e=>
 (x a o e).stay (fun b u _ q=>k b u q) (fun _ q=>q) fun _ _ q=>q
theorem J7.laid(x:J7 P w H h)(k:∀ b u,h.get? b=some u->h'.get? b=some u)(hp:h.objs.size<=a)(new:ObjOk P w (A0 H a o) h' a o):J7 P w (A0 H a o) h':=fun b u e=>by
 have hn:=x.fresh hp
 by_cases hb:b=a
 .subst hb;rw [A6] at e;cases e;exact new
 .rw [A7 hb] at e;exact (x b u e).stay (fun c v _ q=>k c v q) (fun c q=>by rw [A7 (M8 q hn)];exact q) fun c xs q=>by rw [A7 (M8 q hn)];exact q
end
noncomputable def Rd (H:Hp) (a:Addr) (u:HO):Prop:=H a=some u\/∃ o,H a=some (.frz o u)
theorem Rd.of{H:Hp}{a:Addr}{u:HO}(h:H a=some u):Rd H a u:=.inl h
theorem Rd.ok{P:Program}{w:World}{H:Hp}{h:Heap}{a:Addr}{u:HO}(r:Rd H a u)(x:J7 P w H h):ObjOk P w H h a u:=by
 rcases r with r | ⟨o,r⟩
 .exact x a u r
 .obtain ⟨_,q⟩:=x a _ r;exact q
noncomputable def eB:Option HO->Prop
 | some (.lst _)=>True
 | some (.dK _)=>True
 | some (.dT _)=>True
 | some (.set _ _)=>True
 | some (.ins _ _ _)=>True
 | some (.ext _)=>True
 | _=>False
section
variable {P:Program} {w:World} {H:Hp} {h h':Heap} {x e:Addr} {o':HO}
theorem J7.write(ok:J7 P w H h)(mu:eB (H x))(he:e=x\/H e=some (.own x))(k:∀ b u,b≠e->h.get? b=some u->h'.get? b=some u)(fK:∃ u,h'.get? e=some u)(new:ObjOk P w (A0 H x o') h' x o'):J7 P w (A0 H x o') h':=fun b u q=>by
 have nown:∀ c y,H c=some (.own y)->c≠x:=fun c y r z=>by subst z;rw [r] at mu;exact mu
 have ntup:∀ c xs,H c=some (.tup xs)->c≠x:=fun c xs r z=>by subst z;rw [r] at mu;exact mu
 by_cases hb:b=x
 .subst hb;rw [A6] at q;cases q;exact new
 .rw [A7 hb] at q
  by_cases cW:b=e
  .have q':H b=some (.own x):=by
    rcases he with z | z
    .exact absurd (cW.trans z) hb
    .rw [cW];exact z
   rw [q] at q';cases q';obtain ⟨v,hv⟩:=fK;exact ⟨v,by rw [cW];exact hv⟩
  .refine (ok b u q).stay (fun c v hc r=>k c v ?_ r) (fun c r=>by rw [A7 (nown c b r)];exact r) fun c xs r=>by rw [A7 (ntup c xs r)];exact r
   rcases hc with rfl | hc
   .exact cW
   .rintro rfl
    rcases he with z | z
    .exact nown c b hc z
    .rw [hc] at z;cases z;exact hb rfl
end
structure Un(fs ex:List Addr)(H H':Hp)(h h':Heap):Prop where
 keep:∀ b o,h.get? b=some o->H b=none->b∉fs->b∉ex->h'.get? b=some o
 slot:∀ b o,h.get? b=some o->H b=none->b∈fs->b∉ex->∃ sl,h'.get? b=some { o with slots:=sl }
 free:∀ b o,h.get? b=some o->H b=none->b∉ex->H' b=none
 there:∀ b o,h.get? b=some o->b∉ex->∃ o',h'.get? b=some o'
 tups:∀ b xs,H b=some (.tup xs)->H' b=some (.tup xs)
 frzs:∀ b o u,H b=some (.frz o u)->H' b=some (.frz o u)
 tbls:∀ b ps,H b=some (.tbl ps)->∃ more,H' b=some (.tbl (ps++more))
section
variable {fs fs' ex ex':List Addr} {H H1 H2:Hp} {h h1 h2 h':Heap} {a x e:Addr} {o:HO}
theorem Un.any(u:Un fs ex H H1 h h1){b:Addr}{ob:Obj}(q:h.get? b=some ob)(n:H b=none)(hx:b∉ex):∃ sl,h1.get? b=some { ob with slots:=sl }:=by
 by_cases hb:b∈fs
 .exact u.slot b ob q n hb hx
 .exact ⟨ob.slots,u.keep b ob q n hb hx⟩
theorem Un.kept(k:∀ b u,h.get? b=some u->h'.get? b=some u):Un fs ex H H h h':=
 ⟨fun b ob q _ _ _=>k b ob q,fun b ob q _ _ _=>⟨ob.slots,k b ob q⟩,fun _ _ _ n _=>n,fun b ob q _=>⟨ob,k b ob q⟩,fun _ _ q=>q,fun _ _ _ q=>q,fun _ ps q=>⟨#[],by rw [q];simp⟩⟩
theorem uaa:Un fs ex H H h h:=Un.kept fun _ _ q=>q
theorem Un.laid(k:∀ b u,h.get? b=some u->h'.get? b=some u)(hp:h.objs.size<=a)(hn:H a=none):Un fs ex H (A0 H a o) h h' where
 keep:=fun b u q _ _ _=>k b u q
 slot:=fun b u q _ _ _=>⟨u.slots,k b u q⟩
 free:=fun b u q n _=>by rw [A7 (K4 (Q1 (Heap.lt_size q) hp))];exact n
 there:=fun b u q _=>⟨u,k b u q⟩
 tups:=fun b xs q=>by rw [A7 (M8 q hn)];exact q
 frzs:=fun b u xs q=>by rw [A7 (M8 q hn)];exact q
 tbls:=fun b ps q=>⟨#[],by rw [A7 (M8 q hn),q];simp⟩
theorem Un.write(mu:eB (H x))(he:e=x\/H e=some (.own x))(k:∀ b u,b≠e->h.get? b=some u->h'.get? b=some u)(fK:∃ u,h'.get? e=some u):Un fs ex H (A0 H x o) h h':=by
 have hx:∀ b,H b=none->b≠x:=fun b n z=>by subst z;rw [n] at mu;exact mu
 have hb:∀ b,H b=none->b≠e:=fun b n z=>by
  subst z
  rcases he with r | r
  .exact hx b n r
  .rw [n] at r;cases r
 have hm:∀ b u,H b=some u->¬ eB (some u)->b≠x:=fun b u q nm z=>by subst z;rw [q] at mu;exact nm mu
 refine ⟨fun b u q n _ _=>k b u (hb b n) q,fun b u q n _ _=>⟨u.slots,k b u (hb b n) q⟩,fun b u q n _=>by rw [A7 (hx b n)];exact n,fun b u q _=>?_,
  fun b xs q=>by rw [A7 (hm b _ q fun z=>z)];exact q,fun b u xs q=>by rw [A7 (hm b _ q fun z=>z)];exact q,fun b ps q=>⟨#[],by rw [A7 (hm b _ q fun z=>z),q];simp⟩⟩
 by_cases cW:b=e
 .subst cW;exact fK
 .exact ⟨u,k b u cW q⟩
end
noncomputable def lC (h:Heap) (H:Hp):List Addr:=(V2 h.objs.size).filter fun a=>(H a).isSome
noncomputable def hidT (h:Heap) (H:Hp):Heap:=PySem.W.hideAll h (lC h H)
theorem ahp(h:Heap)(H:Hp):(hidT h H).objs.size=h.objs.size:=PySem.W.hideAll_size _ _
theorem aiY{h:Heap}{H:Hp}{b:Addr}{o:Obj}(e:h.get? b=some o)(n:H b=none):(hidT h H).get? b=some o:=
 PySem.W.hideAll_get _ e fun hm=>by
  have q:(H b).isSome=true:=(N2.mp hm).2;rw [n] at q;simp at q
theorem akJ{h:Heap}{H:Hp}{b:Addr}{o:Obj}(e:(hidT h H).get? b=some o):h.get? b=some o/\H b=none:=by
 have e':h.get? b=some o:=PySem.W.of_hideAll (lC h H) e;refine ⟨e',?_⟩
 cases q:H b with
 | none=>rfl
 | some x=>
  have hm:b∈lC h H:=N2.mpr ⟨dX.mpr (Heap.lt_size e'),by simp [q]⟩;have z:(hidT h H).get? b=none:=PySem.W.hideAll_none (lC h H) hm;rw [z] at e;cases e
noncomputable def akK (g h:Heap) (L:Addr):List (Addr×Obj):=(V2 h.objs.size).filterMap fun a=>if a=L\/(g.get? a).isSome=true then none else (h.get? a).map fun o=>(a,o)
noncomputable def rest (g h:Heap) (L d:Addr):List (Addr×Obj):=(akK g h L).filter fun p=>decide (p.1≠d)
end L2
namespace L2
open PySem PySem.Spec PyProof.Rows
structure Mod(K:PySem.W.Frag)(mg:Str->Option Value)(base:Heap):Prop where
 kin:K.In base
 glob:base.Ns mainGlobals mg
 blt:∃ mb,base.Ns builtinsNs mb/\∀ x:Str,x≠"__name__"->mb x=bootBuiltins x
 nolimit:base.NoLimit
structure Cx where
 prog:Program
 w:World
 K:PySem.W.Frag
 mg:Str->Option Value
 base:Heap
 A:Around
 N:List Str
 s₀:Shared
 H₀:Hp
 env:Env
 outer:List Env
 stack:List Env
 ex:List Addr
 fn:Str->Bool
 calm:Bool
 pn:List (Addr×Obj)
 xe:Value->Shared->Prop
noncomputable def P8 (l:List Env):List Addr:=l.filterMap (·.frame)
noncomputable abbrev Cx.fs (X:Cx):List Addr:=P8 X.outer
noncomputable def gT (sc:Scope) (x:Str):Prop:=sc.names.lookup x=some .local\/sc.names.lookup x=some .cell\/sc.names.lookup x=some .free
noncomputable def f7 (sc:Scope) (x:Str):Prop:=sc.names.lookup x=some .local\/sc.names.lookup x=some .cell
noncomputable def Look (env:Env) (h:Heap) (m:Str->Option Value) (x:Str) (u:Value):Prop:=
 (env.kindOf x=some .local/\m x=some u)\/((env.kindOf x=some .cell\/env.kindOf x=some .free)/\∃ c,env.cells.lookup x=some c/\h.IsCell c (some u))
structure Cx.Ok(X:Cx):Prop where
 mod:Mod X.K X.mg X.base
 kind:X.env.scope.kind=.function
 glob:X.env.globals=mainGlobals
 blt:X.env.builtins=builtinsNs
 above:X.s₀.heap.objs.size<=X.env.locals
 inj:∀ x y c,X.env.cells.lookup x=some c->X.env.cells.lookup y=some c->x=y
 has:∀ x,(X.env.kindOf x=some .cell\/X.env.kindOf x=some .free)->∃ c,X.env.cells.lookup x=some c
 cab:∀ x c,X.fn x=true->X.env.cells.lookup x=some c->X.s₀.heap.objs.size<=c
 hd:X.calm=true->X.A.handled=none
 frames:X.A.frames=some X.stack
 stk:X.stack=X.outer\/(X.stack=X.env::X.outer/\X.env.frame=some X.env.locals)
 exf:∀ b∈X.ex,b≠X.env.locals/\∀ x c,X.env.cells.lookup x=some c->c≠b
 bs:∀ b o,X.base.get? b=some o->X.s₀.heap.get? b=some o/\X.H₀ b=none
 bsz:X.base.objs.size<=X.s₀.heap.objs.size
 noex:∀ b o,X.base.get? b=some o->b∉X.ex
 exfs:∀ b∈X.ex,b∉X.fs
 funs:X.s₀.heap.FunFrames X.base X.outer
 frf:∀ b∈X.fs,X.H₀ b=none
structure Inv(X:Cx)(pins:List (Addr×Obj))(Y:List (Option V))(H:Hp)(s:Shared):Prop where
 ok:X.Ok
 os:s.os=X.s₀.os
 bare:AllBare s.gens
 base:Un X.fs X.ex X.H₀ H X.s₀.heap s.heap
 loc:∃ m,s.heap.Ns X.env.locals m/\∀ (i:Nat) (x:Str) (v:V),X.N[i]?=some x->Y[i]?=some (some v)->gT X.env.scope x->∃ u,RelV v u/\Look X.env s.heap m x u
 cell:∀ x c,X.env.cells.lookup x=some c->∃ v,s.heap.IsCell c v
 free:H X.env.locals=none
 freeC:∀ x c,X.env.cells.lookup x=some c->H c=none
 pin:∀ p∈X.pn++pins,s.heap.get? p.1=some p.2/\H p.1=none/\p.1≠X.env.locals/\p.1∉X.fs/\∀ v,p.2.data≠.cell v
 hok:J7 X.prog X.w H s.heap
 len:Y.length=X.N.length
section
variable {X:Cx} {pins:List (Addr×Obj)} {Y:List (Option V)} {H H':Hp} {s:Shared} {h':Heap}
theorem Cx.Ok.nofr(ok:X.Ok){b:Addr}{o:Obj}(e:X.base.get? b=some o):b∉X.fs:=fun hb=>by
 have:=(ok.funs.mem hb).1
 rw [e] at this;cases this
theorem Inv.bs(I:Inv X pins Y H s):∀ b o,X.base.get? b=some o->s.heap.get? b=some o/\H b=none:=fun b o e=>
 ⟨I.base.keep b o (I.ok.bs b o e).1 (I.ok.bs b o e).2 (I.ok.nofr e) (I.ok.noex b o e),I.base.free b o (I.ok.bs b o e).1 (I.ok.bs b o e).2 (I.ok.noex b o e)⟩
theorem Inv.bk(I:Inv X pins Y H s):∀ b o,X.base.get? b=some o->s.heap.get? b=some o:=fun b o e=>(I.bs b o e).1
theorem Inv.mod(I:Inv X pins Y H s):Mod X.K X.mg X.base:=I.ok.mod
theorem Inv.kIn(I:Inv X pins Y H s):X.K.In s.heap:=I.ok.mod.kin.keeps I.bk
theorem Inv.lt(I:Inv X pins Y H s):X.env.locals<s.heap.objs.size:=let ⟨_,hn,_⟩:=I.loc;hn.lt
theorem Inv.sz(I:Inv X pins Y H s):X.s₀.heap.objs.size<=s.heap.objs.size:=E1 I.ok.above (Nat.le_of_lt I.lt)
theorem Inv.nofs(I:Inv X pins Y H s){a:Addr}(h:s.heap.objs.size<=a):a∉X.fs:=fun hb=>by
 obtain ⟨_,o,ho,_⟩:=I.ok.funs.mem hb;exact absurd (Q1 (Heap.lt_size ho) (E1 I.sz h)) (Y3 _)
theorem Inv.cne(I:Inv X pins Y H s):∀ x c,X.env.cells.lookup x=some c->c≠X.env.locals:=fun x c e z=>by
 obtain ⟨v,o,ho,hd⟩:=I.cell x c e;obtain ⟨m,⟨o',es,ep,i3,sH,_⟩,_⟩:=I.loc;rw [z,i3] at ho;cases ho;rw [sH] at hd;cases hd
theorem Inv.funs(I:Inv X pins Y H s):s.heap.FunFrames X.base X.outer:=by
 have all:∀ (l:List Env),(∀ b∈P8 l,b∈X.fs)->X.s₀.heap.FunFrames X.base l->s.heap.FunFrames X.base l:=by
  intro l
  induction l with
  | nil=>intro _ _;trivial
  | cons env r ih=>
   intro hs hl;obtain ⟨hk,⟨L,o,hf,hn,ho,hd⟩,hr⟩:=hl;have hL:L∈X.fs:=hs L (by unfold P8;rw [bP,hf];exact N1);obtain ⟨sl,e⟩:=I.base.slot L o ho (I.ok.frf L hL) hL fun z=>I.ok.exfs L z hL
   exact ⟨hk,⟨L,_,hf,hn,e,hd⟩,ih (fun b hb=>hs b (by unfold P8;rw [bP,hf];exact M5 _ hb)) hr⟩
 exact all X.outer (fun _ hb=>hb) I.ok.funs
theorem Inv.stack(I:Inv X pins Y H s):s.heap.FunFrames X.base X.stack:=by
 rcases I.ok.stk with e | ⟨e,hf⟩
 .rw [e];exact I.funs
 .rw [e];obtain ⟨m,hn,_⟩:=I.loc;refine .cons (by rw [I.ok.kind];decide) hf hn ?_ I.funs;exact Heap.get?_none_of_le (E1 I.ok.bsz I.ok.above)
theorem Inv.stkSub(I:Inv X pins Y H s):∀ b∈P8 X.stack,b∈X.env.locals::X.fs:=fun b hb=>by
 rcases I.ok.stk with e | ⟨e,hf⟩
 .rw [e] at hb;exact M5 _ hb
 .rw [e] at hb;unfold P8 at hb;rw [bP,hf] at hb;exact hb
theorem Inv.stkFree(I:Inv X pins Y H s):∀ b∈P8 X.stack,H b=none:=fun b hb=>by
 rcases G4.mp (I.stkSub b hb) with e | hb
 .rw [e];exact I.free
 .obtain ⟨_,o,ho,_⟩:=I.ok.funs.mem hb;exact I.base.free b o ho (I.ok.frf b hb) fun z=>I.ok.exfs b z hb
theorem Inv.step{g':Array GenState}{t':Nat}{d':Drawn}{ch:List Addr}(I:Inv X pins Y H s)(o0:∀ b∈ch,(b∈X.ex\/X.s₀.heap.objs.size<=b)/\b≠X.env.locals/\(∀ x c,X.env.cells.lookup x=some c->c≠b)/\∀ p∈X.pn++pins,p.1≠b)(keep:∀ b o,b≠X.env.locals->b∉X.fs->b∉ch->s.heap.get? b=some o->H b=none->h'.get? b=some o)(slot:∀ b o,b≠X.env.locals->b∈X.fs->b∉ch->s.heap.get? b=some o->H b=none->∃ sl,h'.get? b=some { o with slots:=sl })(free:∀ b o,b∉ch->s.heap.get? b=some o->H b=none->H' b=none)(there:∀ b o,b∉ch->s.heap.get? b=some o->∃ o',h'.get? b=some o')(tups:∀ b xs,H b=some (.tup xs)->H' b=some (.tup xs))(frzs:∀ b o u,H b=some (.frz o u)->H' b=some (.frz o u))(tbls:∀ b ps,H b=some (.tbl ps)->∃ more,H' b=some (.tbl (ps++more)))(ns:∀ m,s.heap.Ns X.env.locals m->h'.Ns X.env.locals m)(hok:J7 X.prog X.w H' h')(hg:AllBare g') :
  Inv X pins Y H' { s with heap:=h',gens:=g',drawn:=d',toks:=t' }:=by
 have neL:∀ b o,X.s₀.heap.get? b=some o->b≠X.env.locals:=fun b o e=>K4 (Q1 (Heap.lt_size e) I.ok.above)
 have neC:∀ b o,X.s₀.heap.get? b=some o->b∉X.ex->b∉ch:=fun b o e hx hb=>by
  rcases (o0 b hb).1 with z | z
  .exact hx z
  .exact absurd (Q1 (Heap.lt_size e) z) (Y3 _)
 have cellK:∀ x c,X.env.cells.lookup x=some c->∀ v,s.heap.IsCell c v->h'.IsCell c v:=fun x c e v ⟨o,ho,hd⟩=>by
  have nch:c∉ch:=fun z=>(o0 c z).2.2.1 x c e rfl
  by_cases hc:c∈X.fs
  .obtain ⟨sl,q⟩:=slot c o (I.cne x c e) hc nch ho (I.freeC x c e);exact ⟨_,q,hd⟩
  .exact ⟨o,keep c o (I.cne x c e) hc nch ho (I.freeC x c e),hd⟩
 refine ⟨I.ok,I.os,hg,⟨fun b o e n hb hx=>?_,fun b o e n hb hx=>?_,fun b o e n hx=>?_,fun b o e hx=>?_,fun b xs e=>tups b xs (I.base.tups b xs e),fun b o xs e=>frzs b o xs (I.base.frzs b o xs e),fun b ps e=>?_⟩,?_,fun x c e=>?_,?_,fun x c e=>?_,fun p hp=>?_,hok,I.len⟩
 .exact keep b o (neL b o e) hb (neC b o e hx) (I.base.keep b o e n hb hx) (I.base.free b o e n hx)
 .obtain ⟨sl,e1⟩:=I.base.slot b o e n hb hx;obtain ⟨sl',e2⟩:=slot b _ (neL b o e) hb (neC b o e hx) e1 (I.base.free b o e n hx);exact ⟨sl',e2⟩
 .obtain ⟨o',e1⟩:=I.base.there b o e hx;exact free b o' (neC b o e hx) e1 (I.base.free b o e n hx)
 .obtain ⟨o',e1⟩:=I.base.there b o e hx;exact there b o' (neC b o e hx) e1
 .obtain ⟨m1,e1⟩:=I.base.tbls b ps e;obtain ⟨m2,e2⟩:=tbls b _ e1;exact ⟨m1++m2,by rw [e2,Array.append_assoc]⟩
 .obtain ⟨m,hn,hl⟩:=I.loc;refine ⟨m,ns m hn,fun i x v e1 e2 e3=>?_⟩;obtain ⟨u,r,l⟩:=hl i x v e1 e2 e3;refine ⟨u,r,?_⟩
  rcases l with l | ⟨k,c,e,z⟩
  .exact .inl l
  .exact .inr ⟨k,c,e,cellK x c e _ z⟩
 .obtain ⟨v,z⟩:=I.cell x c e;exact ⟨v,cellK x c e v z⟩
 .obtain ⟨m,⟨o,_,_,ho,_⟩,_⟩:=I.loc;exact free _ o (fun z=>(o0 _ z).2.1 rfl) ho I.free
 .obtain ⟨v,o,ho,hd⟩:=I.cell x c e;exact free c o (fun z=>(o0 c z).2.2.1 x c e rfl) ho (I.freeC x c e)
 .obtain ⟨e,n,ne,nf,d⟩:=I.pin p hp;have nch:p.1∉ch:=fun z=>(o0 p.1 z).2.2.2 p hp rfl
  exact ⟨keep p.1 p.2 ne nf nch e n,free p.1 p.2 nch e n,ne,nf,d⟩
theorem Inv.un{t':Nat}(I:Inv X pins Y H s)(u:Un X.fs [] H H' s.heap h')(hok:J7 X.prog X.w H' h'):Inv X pins Y H' { s with heap:=h',toks:=t' }:=by
 obtain ⟨m,⟨o,es,ep,ho,r⟩,_⟩:=id I.loc;obtain ⟨sl,hL⟩:=u.any ho I.free (by simp);exact I.step (g':=s.gens) (d':=s.drawn) (ch:=[]) (fun _ z=>nomatch z) (fun b o _ hb _ e n=>u.keep b o e n hb (by simp)) (fun b o _ hb _ e n=>u.slot b o e n hb (by simp)) (fun b o _ e n=>u.free b o e n (by simp)) (fun b o _ e=>u.there b o e (by simp)) u.tups u.frzs u.tbls (fun m' hm=>by
  obtain ⟨o',es',ep',i3,r'⟩:=hm;rw [ho] at i3;cases i3;exact ⟨_,es',ep',hL,r'⟩) hok I.bare
theorem Inv.call{g':Array GenState}{t':Nat}{d':Drawn}{ch:List Addr}(I:Inv X pins Y H s)(u:Un (P8 X.stack) ch H H' s.heap h')(hok:J7 X.prog X.w H' h')(hg:AllBare g')(o0:∀ b∈ch,(b∈X.ex\/X.s₀.heap.objs.size<=b)/\b≠X.env.locals/\(∀ x c,X.env.cells.lookup x=some c->c≠b)/\∀ p∈X.pn++pins,p.1≠b) :
  Inv X pins Y H' { s with heap:=h',gens:=g',drawn:=d',toks:=t' }:=by
 obtain ⟨m,⟨o,es,ep,ho,r⟩,_⟩:=id I.loc;obtain ⟨sl,hL⟩:=u.any ho I.free fun z=>(o0 _ z).2.1 rfl
 exact I.step (ch:=ch) o0 (fun b o hL hb hc e n=>u.keep b o e n (fun z=>(G4.mp (I.stkSub b z)).elim hL hb) hc) (fun b o _ _ hc e n=>u.any e n hc) (fun b o hc e n=>u.free b o e n hc) (fun b o hc e=>u.there b o e hc) u.tups u.frzs u.tbls (fun m' hm=>by
  obtain ⟨o',es',ep',i3,r'⟩:=hm;rw [ho] at i3;cases i3;exact ⟨_,es',ep',hL,r'⟩) hok hg
theorem Inv.turned{t':Nat}{it:Addr}(I:Inv X pins Y H s)(k:∀ b o,b≠it->s.heap.get? b=some o->h'.get? b=some o)(hn:H it=none)(hL:it≠X.env.locals)(h1:it∈X.ex\/X.s₀.heap.objs.size<=it)(h2:∀ x c,X.env.cells.lookup x=some c->c≠it)(h3:∀ p∈X.pn++pins,p.1≠it):Inv X pins Y H { s with heap:=h',toks:=t' }:=by
 have nit:∀ b u,H b=some u->b≠it:=fun b u e z=>by rw [z,hn] at e;cases e
 refine I.step (g':=s.gens) (d':=s.drawn) (ch:=[it]) (fun b hb=>?_) (fun b o _ _ hc e _=>k b o (fun z=>hc (by simp [z])) e) (fun b o _ _ hc e _=>⟨o.slots,k b o (fun z=>hc (by simp [z])) e⟩) (fun _ _ _ _ n=>n)
  (fun b o hc e=>⟨o,k b o (fun z=>hc (by simp [z])) e⟩) (fun _ _ e=>e) (fun _ _ _ e=>e) (fun b ps e=>⟨#[],by rw [e];simp⟩) (fun m hm=>?_) (fun b u e=>?_) I.bare
 .have e:b=it:=by simpa using hb
  subst e;exact ⟨h1,hL,h2,h3⟩
 .obtain ⟨o,es,ep,ho,r⟩:=hm;exact ⟨o,es,ep,k _ o (Ne.symm hL) ho,r⟩
 .refine (I.hok b u e).stay (fun c v hc q=>k c v ?_ q) (fun _ q=>q) fun _ _ q=>q
  rcases hc with z | z
  .rw [z];exact nit b u e
  .exact nit c _ z
theorem Inv.tok(I:Inv X pins Y H s)(t:Nat):Inv X pins Y H { s with toks:=t }:=I.un (h':=s.heap) (t':=t) uaa I.hok
theorem Inv.kept{t':Nat}(I:Inv X pins Y H s)(k:∀ b u,s.heap.get? b=some u->h'.get? b=some u):Inv X pins Y H { s with heap:=h',toks:=t' }:=I.un (Un.kept k) (I.hok.kept k)
theorem Inv.laid{a:Addr}{o:HO}{t':Nat}(I:Inv X pins Y H s)(k:∀ b u,s.heap.get? b=some u->h'.get? b=some u)(hp:s.heap.objs.size<=a)(new:ObjOk X.prog X.w (A0 H a o) h' a o) :
  Inv X pins Y (A0 H a o) { s with heap:=h',toks:=t' }:=I.un (Un.laid k hp (I.hok.fresh hp)) (I.hok.laid k hp new)
theorem Inv.write{x e:Addr}{o:HO}{t':Nat}(I:Inv X pins Y H s)(mu:eB (H x))(he:e=x\/H e=some (.own x))(k:∀ b u,b≠e->s.heap.get? b=some u->h'.get? b=some u)(fK:∃ u,h'.get? e=some u)(new:ObjOk X.prog X.w (A0 H x o) h' x o):Inv X pins Y (A0 H x o) { s with heap:=h',toks:=t' }:=I.un (Un.write mu he k fK) (I.hok.write mu he k fK new)
theorem Inv.pins_of{pins':List (Addr×Obj)}(I:Inv X pins Y H s)(h:∀ p∈pins',s.heap.get? p.1=some p.2/\H p.1=none/\p.1≠X.env.locals/\p.1∉X.fs/\∀ v,p.2.data≠.cell v):Inv X pins' Y H s:=
 ⟨I.ok,I.os,I.bare,I.base,I.loc,I.cell,I.free,I.freeC,fun p hp=>(G1.mp hp).elim (fun z=>I.pin p (O4 _ z)) (h p),I.hok,I.len⟩
theorem oC{N:List Str}(hN:N.Nodup){i j:Nat}{x:Str}(a:N[i]?=some x)(b:N[j]?=some x):i=j:=by
 obtain ⟨h1,e1⟩:=F6.mp a;obtain ⟨h2,e2⟩:=F6.mp b;exact (List.getElem_inj hN).mp (e1.trans e2.symm)
theorem ahq{M:Model}{A:Around}{E:Value->Shared->Prop}{i:Nat}{x:Str}{v:V}{u:Value}{Q:Unit->Shared->Prop}(I:Inv X pins Y H s)(hN:X.N.Nodup)(hi:X.N[i]?=some x)(hx:f7 X.env.scope x)(r:RelV v u)(h:∀ s',Inv X pins (Y.set i (some v)) H s'->(∃ a,Heap.SameBut a s.heap s'.heap/\(a=X.env.locals\/X.env.cells.lookup x=some a))->Q () s')(hf:X.fn x=true\/X.env.scope.names.lookup x=some .local:=by first | exact .inl rfl | exact .inr rfl | assumption):wpAny M A (storeName X.env x u) Q E s:=by
 obtain ⟨m,hn,hl⟩:=id I.loc;have cX:(X.env.scope.kind == .class || (X.env.scope.kind == .module&&X.env.locals != X.env.globals))=false:=by rw [I.ok.kind];rfl
 have hiσ:i<Y.length:=by rw [I.len];exact (F6.mp hi).1
 have cne:=I.cne;have tracked:∀ {a:Addr} {h':Heap},(∃ o,s.heap.get? a=some o/\H a=none)->Heap.SameBut a s.heap h'->J7 X.prog X.w H h':=fun {a h'} ha hs b ob e=>by
  obtain ⟨_,_,aY⟩:=ha;refine (I.hok b ob e).stay (fun c w' hc q=>(hs.2 c ?_).trans q) (fun _ q=>q) fun _ _ q=>q
  rintro rfl
  rcases hc with rfl | hc
  .rw [aY] at e;cases e
  .rw [aY] at hc;cases hc
 rcases hx with hk | hk
 .refine wpAny_storeName_local hk hn (fun h' fL hs=>?_) cX;obtain ⟨oL,_,_,hoL,_⟩:=id hn;refine h _ ⟨I.ok,I.os,I.bare,⟨fun b o e n hb hx=>?_,fun b o e n hb hx=>?_,I.base.free,fun b o e hx=>?_,I.base.tups,I.base.frzs,I.base.tbls⟩,⟨_,fL,fun j y v' e1 e2 e3=>?_⟩,fun y c e=>?_,I.free,I.freeC,fun p hp=>?_,tracked ⟨oL,hoL,I.free⟩ hs,by simpa using I.len⟩ ⟨_,hs,.inl rfl⟩
  .exact (hs.2 b (K4 (Q1 (Heap.lt_size e) I.ok.above))).trans (I.base.keep b o e n hb hx)
  .obtain ⟨sl,e1⟩:=I.base.slot b o e n hb hx;exact ⟨sl,(hs.2 b (K4 (Q1 (Heap.lt_size e) I.ok.above))).trans e1⟩
  .obtain ⟨o',e1⟩:=I.base.there b o e hx;exact ⟨o',(hs.2 b (K4 (Q1 (Heap.lt_size e) I.ok.above))).trans e1⟩
  .by_cases hj:j=i
   .subst hj;rw [hi] at e1;cases e1;rw [List.getElem?_set_self hiσ] at e2;cases e2;exact ⟨u,r,.inl ⟨hk,by simp⟩⟩
   .rw [List.getElem?_set_ne (Ne.symm hj)] at e2;obtain ⟨u',r',q⟩:=hl j y v' e1 e2 e3;refine ⟨u',r',?_⟩
    rcases q with ⟨k,e⟩ | ⟨k,c,e,z⟩
    .refine .inl ⟨k,?_⟩
     have:y≠x:=fun e=>hj (oC hN e1 (e ▸ hi))
     simp [this,e]
    .exact .inr ⟨k,c,e,z.sameBut hs (cne y c e)⟩
  .obtain ⟨w',z⟩:=I.cell y c e;exact ⟨w',z.sameBut hs (cne y c e)⟩
  .obtain ⟨e,n,ne,nf,d⟩:=I.pin p hp;exact ⟨(hs.2 p.1 ne).trans e,n,ne,nf,d⟩
 .have sI:X.fn x=true:=by
   rcases hf with z | z
   .exact z
   .rw [z] at hk;cases hk
  obtain ⟨c,hc⟩:=I.ok.has x (.inl hk);obtain ⟨w',z⟩:=I.cell x c hc;refine wpAny_storeName_cell I.ok.kind hk hc z (fun h' o1 hs=>?_);obtain ⟨oc,sJ,sK⟩:=id z;refine h { s with heap:=h' } ⟨I.ok,I.os,I.bare,⟨fun b o e n hb hx=>?_,fun b o e n hb hx=>?_,I.base.free,fun b o e hx=>?_,I.base.tups,I.base.frzs,I.base.tbls⟩,⟨m,hn.sameBut hs (Ne.symm (cne x c hc)),fun j y v' e1 e2 e3=>?_⟩,fun y c' e=>?_,I.free,I.freeC,fun p hp=>?_,tracked ⟨oc,sJ,I.freeC x c hc⟩ hs,by simpa using I.len⟩ ⟨c,hs,.inr hc⟩
  .exact (hs.2 b (K4 (Q1 (Heap.lt_size e) (I.ok.cab x c sI hc)))).trans (I.base.keep b o e n hb hx)
  .obtain ⟨sl,e1⟩:=I.base.slot b o e n hb hx;exact ⟨sl,(hs.2 b (K4 (Q1 (Heap.lt_size e) (I.ok.cab x c sI hc)))).trans e1⟩
  .obtain ⟨o',e1⟩:=I.base.there b o e hx;exact ⟨o',(hs.2 b (K4 (Q1 (Heap.lt_size e) (I.ok.cab x c sI hc)))).trans e1⟩
  .by_cases hj:j=i
   .subst hj;rw [hi] at e1;cases e1;rw [List.getElem?_set_self hiσ] at e2;cases e2;exact ⟨u,r,.inr ⟨.inl hk,c,hc,o1⟩⟩
   .rw [List.getElem?_set_ne (Ne.symm hj)] at e2;obtain ⟨u',r',q⟩:=hl j y v' e1 e2 e3;refine ⟨u',r',?_⟩
    rcases q with q | ⟨k,c',e,z'⟩
    .exact .inl q
    .refine .inr ⟨k,c',e,z'.sameBut hs ?_⟩;rintro rfl;exact hj (oC hN e1 (I.ok.inj _ _ _ e hc ▸ hi))
  .by_cases hcc:c'=c
   .subst hcc;exact ⟨_,o1⟩
   .obtain ⟨w2,z2⟩:=I.cell y c' e;exact ⟨w2,z2.sameBut hs hcc⟩
  .obtain ⟨e,n,ne,nf,d⟩:=I.pin p hp;refine ⟨(hs.2 p.1 ?_).trans e,n,ne,nf,d⟩;intro q;rw [q,sJ] at e;have q':oc=p.2:=Option.some.inj e;exact d w' (by rw [<- q'];exact sK)
theorem gU{M:Model}{A:Around}{E:Value->Shared->Prop}{i:Nat}{x:Str}{v:V}{u:Value}{Q:Unit->Shared->Prop}(I:Inv X pins Y H s)(hN:X.N.Nodup)(hi:X.N[i]?=some x)(hx:f7 X.env.scope x)(r:RelV v u)(h:∀ s',Inv X pins (Y.set i (some v)) H s'->Q () s')(hf:X.fn x=true\/X.env.scope.names.lookup x=some .local:=by first | exact .inl rfl | exact .inr rfl | assumption):wpAny M A (storeName X.env x u) Q E s:=
 ahq I hN hi hx r (fun s' I' _=>h s' I') hf
theorem Inv.call'{s':Shared}{ch:List Addr}(I:Inv X pins Y H s)(ho:s'.os=s.os)(u:Un (P8 X.stack) ch H H' s.heap s'.heap)(hok:J7 X.prog X.w H' s'.heap)(hg:AllBare s'.gens)(o0:∀ b∈ch,(b∈X.ex\/X.s₀.heap.objs.size<=b)/\b≠X.env.locals/\(∀ x c,X.env.cells.lookup x=some c->c≠b)/\∀ p∈X.pn++pins,p.1≠b):Inv X pins Y H' s':=by
 obtain ⟨h',g',d',t',o'⟩:=s';have e:o'=s.os:=ho;subst e;exact I.call (g':=g') (t':=t') (d':=d') u hok hg o0
end
noncomputable abbrev XK:=Value->Option Addr->Hp->Prop
noncomputable abbrev St:=List (Option V)
noncomputable abbrev VK:=V->Hp->Prop
noncomputable abbrev TE:=St->Hp->VK->Prop
noncomputable abbrev TT:=St->Hp->(Bool->Hp->Prop)->Prop
noncomputable abbrev TA:=St->Hp->(List V->Hp->Prop)->Prop
structure Ends where
 nx:St->Hp->Prop
 rt:VK
 bk:St->Hp->Prop:=fun _ _=>False
 ct:St->Hp->Prop:=fun _ _=>False
noncomputable abbrev TS:=Ends->St->Hp->Prop
noncomputable def EP (X:Cx) (pins:List (Addr×Obj)) (Y:St) (Q:VK) (u:Value) (s':Shared):Prop:=∃ v H',Inv X pins Y H' s'/\RelV v u/\Q v H'
noncomputable def TP (X:Cx) (pins:List (Addr×Obj)) (Y:St) (Q:Bool->Hp->Prop) (b:Bool) (s':Shared):Prop:=∃ H',Inv X pins Y H' s'/\Q b H'
noncomputable def AP (X:Cx) (pins:List (Addr×Obj)) (Y:St) (Q:List V->Hp->Prop) (us:List Value) (s':Shared):Prop:=∃ vs H',Inv X pins Y H' s'/\Vals vs us/\Q vs H'
noncomputable def SP (X:Cx) (pins:List (Addr×Obj)) (D:Ends) (f:Flow) (s':Shared):Prop:=
 match f with
 | .next=>∃ σ' H',Inv X pins σ' H' s'/\D.nx σ' H'
 | .brk=>∃ σ' H',Inv X pins σ' H' s'/\D.bk σ' H'
 | .cont=>∃ σ' H',Inv X pins σ' H' s'/\D.ct σ' H'
 | .ret u=>∃ v σ' H',Inv X pins σ' H' s'/\RelV v u/\D.rt v H'
noncomputable def PE (X:Cx) (e:Expr) (t:TE):Prop:=
 ∀ (pins:List (Addr×Obj)) (s:Shared) (Y:St) (H:Hp) (Q:VK),Inv X pins Y H s->t Y H Q->wpAny (model X.prog X.w) X.A (eval e X.env) (EP X pins Y Q) X.xe s
noncomputable def PT (X:Cx) (e:Expr) (t:TT):Prop:=
 ∀ (pins:List (Addr×Obj)) (s:Shared) (Y:St) (H:Hp) (Q:Bool->Hp->Prop),Inv X pins Y H s->t Y H Q->wpAny (model X.prog X.w) X.A (isTrue e X.env (eval e X.env)) (TP X pins Y Q) X.xe s
noncomputable def PW (X:Cx) (e:Expr) (t:TT):Prop:=
 ∀ (whole:Sem Value) (pins:List (Addr×Obj)) (s:Shared) (Y:St) (H:Hp) (Q:Bool->Hp->Prop),Inv X pins Y H s->t Y H Q->wpAny (model X.prog X.w) X.A (isTrue e X.env whole) (TP X pins Y Q) X.xe s
theorem PW.pt{X:Cx}{e:Expr}{t:TT}(h:PW X e t):PT X e t:=h _
noncomputable def PA (X:Cx) (es:List Expr) (t:TA):Prop:=
 ∀ (pos:Pos) (pins:List (Addr×Obj)) (s:Shared) (Y:St) (H:Hp) (Q:List V->Hp->Prop),Inv X pins Y H s->t Y H Q->wpAny (model X.prog X.w) X.A (spliced (backTo pos (starEach es X.env))) (AP X pins Y Q) X.xe s
noncomputable def PS (X:Cx) (st:Stmt) (t:TS):Prop:=
 ∀ (pins:List (Addr×Obj)) (s:Shared) (Y:St) (H:Hp) (D:Ends),Inv X pins Y H s->t D Y H->wpAny (model X.prog X.w) X.A (exec st X.env) (SP X pins D) X.xe s
noncomputable def T3 (X:Cx) (st:List Stmt) (t:TS):Prop:=
 ∀ (pins:List (Addr×Obj)) (s:Shared) (Y:St) (H:Hp) (D:Ends),Inv X pins Y H s->t D Y H->wpAny (model X.prog X.w) X.A (execs st X.env) (SP X pins D) X.xe s
theorem C0{α:Type}{t:Sem α}{Q Q':α->Shared->Prop}{M:Model}{A:Around}{E:Value->Shared->Prop}{s:Shared}(h:wpAny M A t Q E s)(hQ:∀ a s,Q a s->Q' a s):wpAny M A t Q' E s:=wpAny_mono h hQ fun _ _ x=>x
end L2
namespace L2
open PySem PySem.Spec PyProof.Rows
section
variable {X:Cx}
noncomputable def tVar (i:Nat):TE:=fun Y H Q=>∃ v,Y[i]?=some (some v)/\Q v H
noncomputable def tC (v:V):TE:=fun _ H Q=>Q v H
theorem uX{i:Nat}{x:Str}{pos:Pos}(hN:X.N[i]?=some x)(hv:gT X.env.scope x)(hd:(x==("__debug__" : Str))=false:=by decide)(Q5:(x==("__classdict__" : Str))=false:=by decide):PE X (.Name x pos) (tVar i):=by
 intro pins s Y H Q I h;obtain ⟨v,e,h⟩:=h;obtain ⟨m,hn,hl⟩:=I.loc;obtain ⟨u,r,l⟩:=hl i x v hN e hv;have fin:EP X pins Y Q u s:=⟨v,H,I,r,h⟩
 rcases l with ⟨hk,hm⟩ | ⟨hk,c,hc,K2⟩
 .exact wpAny_Name (wpAny_loadName_local I.ok.kind hk hn hm fin) hd
 .rcases hk with hk | hk
  .exact wpAny_Name (wpAny_loadName_cell I.ok.kind hk hc K2 fin) hd
  .exact wpAny_Name (wpAny_loadName_free I.ok.kind hk hc K2 fin Q5) hd
theorem uY{i j pos} : PE X (.Constant (.int i) j pos) (tC (.int i)):=fun _ _ _ H _ I h=>wpAny_Constant_int ⟨.int i,H,I.tok _,⟨_,rfl⟩,h⟩
theorem pe_bl{b j pos} : PE X (.Constant (.bool b) j pos) (tC (.bl b)):=fun _ _ _ H _ I h=>Constant_bool ⟨.bl b,H,I,rfl,h⟩
theorem amF{j pos} : PE X (.Constant .none j pos) (tC .non):=fun _ _ _ H _ I h=>Constant_none ⟨.non,H,I,rfl,h⟩
theorem amG{x j pos} : PE X (.Constant (.str x) j pos) (tC (.str x)):=fun _ _ _ H _ I h=>Calls.Constant_str ⟨.str x,H,I.tok _,⟨_,rfl⟩,h⟩
noncomputable def Gl (X:Cx) (x:Str):Prop:=X.env.kindOf x=some .globalImplicit
theorem eC{E:Value->Shared->Prop}{pins:List (Addr×Obj)}{s:Shared}{Y:St}{H:Hp}{x:Str}{u:Value}{pos:Pos}{Q:Value->Shared->Prop}(I:Inv X pins Y H s)(hg:Gl X x)(hm:X.mg x=some u)(h:Q u s)(hd:(x==("__debug__" : Str))=false:=by decide):wpAny (model X.prog X.w) X.A (eval (.Name x pos) X.env) Q E s:=
 Calls.Name_function_global I.ok.kind hg (Calls.loadGlobal_global (by rw [I.ok.glob];exact I.mod.glob.keeps I.bk) hm h) hd
theorem bY{E:Value->Shared->Prop}{pins:List (Addr×Obj)}{s:Shared}{Y:St}{H:Hp}{x:Str}{u:Value}{pos:Pos}{Q:Value->Shared->Prop}(I:Inv X pins Y H s)(hg:Gl X x)(hm:X.mg x=none)(hv:bootBuiltins x=some u)(h:Q u s)(hn:x≠"__name__":=by decide)(hd:(x==("__debug__" : Str))=false:=by decide):wpAny (model X.prog X.w) X.A (eval (.Name x pos) X.env) Q E s:=by
 obtain ⟨mb,h1,h2⟩:=I.mod.blt;exact Calls.Name_function_global I.ok.kind hg (Calls.loadGlobal_builtin (by rw [I.ok.glob];exact I.mod.glob.keeps I.bk) hm (by rw [I.ok.blt];exact h1.keeps I.bk) ((h2 x hn).trans hv) h) hd
theorem uZ{x:Str}{v:V}{u:Value}{pos:Pos}(hg:Gl X x)(hm:X.mg x=some u)(r:RelV v u)(hd:(x==("__debug__" : Str))=false:=by decide):PE X (.Name x pos) (tC v):=
 fun _ _ _ H _ I h=>eC I hg hm ⟨v,H,I,r,h⟩ hd
theorem akL{x:Str}{v:V}{u:Value}{pos:Pos}(hg:Gl X x)(hm:X.mg x=none)(hv:bootBuiltins x=some u)(r:RelV v u)(hn:x≠"__name__":=by decide)(hd:(x==("__debug__" : Str))=false:=by decide):PE X (.Name x pos) (tC v):=
 fun _ _ _ H _ I h=>bY I hg hm hv ⟨v,H,I,r,h⟩ hn hd
variable {a b:Expr} {ta tb:TE} {pos:Pos}
noncomputable def tB (t:TE):TT:=fun Y H Q=>t Y H fun x H1=>∃ c,x=.bl c/\Q c H1
variable {tA tB':TT} {rest:List Expr}
noncomputable def tAnd (t u:TT):TT:=fun Y H Q=>t Y H fun c H1=>if c=true then u Y H1 Q else Q false H1
noncomputable def oE (t u:TT):TT:=fun Y H Q=>t Y H fun c H1=>if c=true then Q true H1 else u Y H1 Q
noncomputable def tNot (t:TT):TT:=fun Y H Q=>t Y H fun c H1=>Q (!c) H1
theorem akM(ha:PT X a tA):PW X (.BoolOp .And [a] pos) tA:=by
 intro wh pins s Y H Q I h;refine isTrue_and (C0 (ha pins s Y H Q I h) fun c s1 e=>?_)
 cases c with
 | true=>exact isTrue_and_nil e
 | false=>exact e
theorem amH(ha:PT X a tA):PW X (.BoolOp .Or [a] pos) tA:=by
 intro wh pins s Y H Q I h;refine isTrue_or (C0 (ha pins s Y H Q I h) fun c s1 e=>?_)
 cases c with
 | false=>exact isTrue_or_nil e
 | true=>exact e
theorem amI(ha:PT X a tA)(hb:PW X (.BoolOp .And (b::rest) pos) tB'):PW X (.BoolOp .And (a::b::rest) pos) (tAnd tA tB'):=by
 intro wh pins s Y H Q I h;refine isTrue_and (C0 (ha pins s Y H _ I h) fun c s1 ⟨H1,I1,q1⟩=>?_)
 cases c with
 | true=>exact hb wh pins s1 Y H1 Q I1 q1
 | false=>exact ⟨H1,I1,q1⟩
theorem pw_or(ha:PT X a tA)(hb:PW X (.BoolOp .Or (b::rest) pos) tB'):PW X (.BoolOp .Or (a::b::rest) pos) (oE tA tB'):=by
 intro wh pins s Y H Q I h;refine isTrue_or (C0 (ha pins s Y H _ I h) fun c s1 ⟨H1,I1,q1⟩=>?_)
 cases c with
 | true=>exact ⟨H1,I1,q1⟩
 | false=>exact hb wh pins s1 Y H1 Q I1 q1
noncomputable def tAndV (ta tb:TE):TE:=fun Y H Q=>ta Y H fun x H1=>∃ c,x=.bl c/\if c=true then tb Y H1 Q else Q (.bl false) H1
noncomputable def tOrV (ta tb:TE):TE:=fun Y H Q=>ta Y H fun x H1=>∃ c,x=.bl c/\if c=true then Q (.bl true) H1 else tb Y H1 Q
noncomputable def tNotV (ta:TE):TE:=fun Y H Q=>ta Y H fun x H1=>∃ c,x=.bl c/\Q (.bl (!c)) H1
theorem amJ{op}{t:TE}(h:PE X a t):PE X (.BoolOp op [a] pos) t:=fun pins s Y H Q I hw=>BoolOp_one (h pins s Y H Q I hw)
theorem amK(ha:PE X a ta)(hb:PE X (.BoolOp .And (b::rest) pos) tb):PE X (.BoolOp .And (a::b::rest) pos) (tAndV ta tb):=by
 intro pins s Y H Q I h;refine BoolOp_and (C0 (ha pins s Y H _ I h) fun v s1 ⟨x,H1,I1,r1,q1⟩=>?_);obtain ⟨c,rfl,q1⟩:=q1
 cases r1
 refine wpAny_truthy_bool ?_
 cases c with
 | true=>exact hb pins s1 Y H1 Q I1 q1
 | false=>exact ⟨.bl false,H1,I1,rfl,q1⟩
theorem pe_or(ha:PE X a ta)(hb:PE X (.BoolOp .Or (b::rest) pos) tb):PE X (.BoolOp .Or (a::b::rest) pos) (tOrV ta tb):=by
 intro pins s Y H Q I h;refine BoolOp_or (C0 (ha pins s Y H _ I h) fun v s1 ⟨x,H1,I1,r1,q1⟩=>?_);obtain ⟨c,rfl,q1⟩:=q1
 cases r1
 refine wpAny_truthy_bool ?_
 cases c with
 | false=>exact hb pins s1 Y H1 Q I1 q1
 | true=>exact ⟨.bl true,H1,I1,rfl,q1⟩
noncomputable def oF (t:TT) (ta tb:TE):TE:=fun Y H Q=>t Y H fun c H1=>if c=true then ta Y H1 Q else tb Y H1 Q
theorem aiZ{c:Expr}(hc:PT X c tA)(ha:PE X a ta)(hb:PE X b tb):PE X (.IfExp c a b pos) (oF tA ta tb):=by
 intro pins s Y H Q I h;refine wpAny_IfExp (C0 (hc pins s Y H _ I h) fun d s1 ⟨H1,I1,q1⟩=>?_)
 cases d with
 | true=>exact ha pins s1 Y H1 Q I1 q1
 | false=>exact hb pins s1 Y H1 Q I1 q1
end
end L2
namespace L2
open PySem PySem.Spec PyProof.Rows
noncomputable def D3 (K:PySem.W.Frag) (H:Hp) (a:Addr) (xs:List V):Prop:=
 Rd H a (.lst xs)\/
  ∃ (o:Obj) (its:Array Value) (n:Nat),K.lookup a=some o/\o.cls=.type "list"/\o.dict=none/\o.data=.seq its n/\its.size<=sizeLine/\Vals xs its.toList
noncomputable def D0 (K:PySem.W.Frag) (H:Hp) (a:Addr) (xs:List V):Prop:=
 Rd H a (.tup xs)\/
  ∃ (o:Obj) (its:Array Value) (n:Nat),K.lookup a=some o/\o.cls=.type "tuple"/\o.data=.seq its n/\its.size<=sizeLine/\Vals xs its.toList
noncomputable def absV:Value->Option V
 | .none=>some .non
 | .bool b=>some (.bl b)
 | .int i _=>some (.int i)
 | .str x _=>some (.str x)
 | .bytes b _=>some (.byt b)
 | .float b _=>some (.flt b)
 | .ref a=>some (.ref a)
 | .type n=>some (.ty n)
 | _=>none
theorem RelV.abs{x:V}{u:Value}(r:RelV x u):absV u=some x:=by
 cases x with
 | non=>cases r;rfl
 | bl _=>cases r;rfl
 | int _=>obtain ⟨t,rfl⟩:=r;rfl
 | str _=>obtain ⟨t,rfl⟩:=r;rfl
 | byt _=>obtain ⟨t,rfl⟩:=r;rfl
 | flt _=>obtain ⟨t,rfl⟩:=r;rfl
 | ref _=>cases r;rfl
 | ty _=>cases r;rfl
theorem RelV.inj{x y:V}{u:Value}(r:RelV x u)(q:RelV y u):x=y:=Option.some.inj (r.abs.symm.trans q.abs)
theorem Vals.inj:∀ {xs ys:List V} {us:List Value},Vals xs us->Vals ys us->xs=ys
 | _,_,_,.nil,.nil=>rfl
 | _,_,_,.cons r t,.cons r' t'=>by rw [r.inj r',Vals.inj t t']
section
variable {X:Cx} {pins:List (Addr×Obj)} {Y:St} {H:Hp} {s:Shared} {a:Addr} {xs ys:List V}
theorem D3.of{K:PySem.W.Frag}(h:H a=some (.lst xs)):D3 K H a xs:=.inl (.inl h)
theorem D0.of{K:PySem.W.Frag}(h:H a=some (.tup xs)):D0 K H a xs:=.inl (.inl h)
theorem Inv.list(I:Inv X pins Y H s)(h:D3 X.K H a xs):∃ its:List Value,Vals xs its/\PlainL s.heap a its.toArray/\xs.length<=sizeLine:=by
 rcases h with h | ⟨o,its,n,hk,hc,hd,hs,hz,r⟩
 .obtain ⟨z,its,n,r,e⟩:=h.ok I.hok;exact ⟨its,r,⟨_,n,e,rfl,rfl,rfl⟩,z⟩
 .refine ⟨its.toList,r,⟨o,n,I.kIn a o hk,hc,hd,by simpa using hs⟩,?_⟩;have e:=r.length;simp only [bX] at e;lia
theorem Inv.tuple(I:Inv X pins Y H s)(h:D0 X.K H a xs):∃ its:List Value,Vals xs its/\IsTup s.heap a its.toArray/\xs.length<=sizeLine:=by
 rcases h with h | ⟨o,its,n,hk,hc,hs,hz,r⟩
 .obtain ⟨z,its,r,p⟩:=h.ok I.hok;exact ⟨its,r,p,z⟩
 .refine ⟨its.toList,r,⟨o,I.kIn a o hk,hc,n,by simpa using hs⟩,?_⟩;have e:=r.length;simp only [bX] at e;lia
theorem Inv.list_inj(I:Inv X pins Y H s)(h:D3 X.K H a xs)(h':D3 X.K H a ys):xs=ys:=by
 obtain ⟨its,r,⟨o,n,e,_,_,d⟩,_⟩:=I.list h;obtain ⟨its',r',⟨o',n',e',_,_,d'⟩,_⟩:=I.list h';rw [e] at e';cases e';rw [d] at d'
 injection d' with d1 _
 have:its=its':=by simpa using congrArg Array.toList d1
 subst this;exact r.inj r'
theorem Inv.tuple_inj(I:Inv X pins Y H s)(h:D0 X.K H a xs)(h':D0 X.K H a ys):xs=ys:=by
 obtain ⟨its,r,⟨o,e,_,n,d⟩,_⟩:=I.tuple h;obtain ⟨its',r',⟨o',e',_,n',d'⟩,_⟩:=I.tuple h';rw [e] at e';cases e';rw [d] at d'
 injection d' with d1 _
 have:its=its':=by simpa using congrArg Array.toList d1
 subst this;exact r.inj r'
end
noncomputable abbrev Cx.wish (X:Cx) (E:Value->Shared->Prop):Cx:={ X with xe:=E }
noncomputable abbrev Cx.nox (X:Cx):Cx:=X.wish fun _ _=>False
theorem Cx.Ok.wish{X:Cx}(ok:X.Ok)(E:Value->Shared->Prop):(X.wish E).Ok:=
 ⟨ok.mod,ok.kind,ok.glob,ok.blt,ok.above,ok.inj,ok.has,ok.cab,ok.hd,ok.frames,ok.stk,ok.exf,ok.bs,ok.bsz,ok.noex,ok.exfs,ok.funs,ok.frf⟩
theorem Cx.Ok.unwish{X:Cx}{E:Value->Shared->Prop}(ok:(X.wish E).Ok):X.Ok:=
 ⟨ok.mod,ok.kind,ok.glob,ok.blt,ok.above,ok.inj,ok.has,ok.cab,ok.hd,ok.frames,ok.stk,ok.exf,ok.bs,ok.bsz,ok.noex,ok.exfs,ok.funs,ok.frf⟩
section
variable {X:Cx} {pins:List (Addr×Obj)} {Y:St} {H:Hp} {s:Shared} {E:Value->Shared->Prop}
theorem Inv.wish(I:Inv X pins Y H s)(E:Value->Shared->Prop):Inv (X.wish E) pins Y H s:=⟨I.ok.wish E,I.os,I.bare,I.base,I.loc,I.cell,I.free,I.freeC,I.pin,I.hok,I.len⟩
theorem Inv.unwish(I:Inv (X.wish E) pins Y H s):Inv X pins Y H s:=⟨I.ok.unwish,I.os,I.bare,I.base,I.loc,I.cell,I.free,I.freeC,I.pin,I.hok,I.len⟩
theorem SP.unwish{D:Ends}{f:Flow}{s':Shared}(h:SP (X.wish E) pins D f s'):SP X pins D f s':=by
 cases f with
 | next=>obtain ⟨σ',H',I,q⟩:=h;exact ⟨σ',H',I.unwish,q⟩
 | brk=>obtain ⟨σ',H',I,q⟩:=h;exact ⟨σ',H',I.unwish,q⟩
 | cont=>obtain ⟨σ',H',I,q⟩:=h;exact ⟨σ',H',I.unwish,q⟩
 | ret u=>obtain ⟨v,σ',H',I,r,q⟩:=h;exact ⟨v,σ',H',I.unwish,r,q⟩
theorem T3.nox{st:List Stmt}{t:TS}(h:T3 X.nox st t):T3 X st t:=fun pins s Y H D I hw=>
 wpAny_mono (h pins s Y H D (I.wish _) hw) (fun _ _ q=>q.unwish) fun _ _ z=>False.elim z
end
section
variable {X:Cx} {st:Stmt} {rest:List Stmt} {t u:TS} {e:Expr} {te:TE} {pos:Pos}
noncomputable def tNext:TS:=fun D Y H=>D.nx Y H
noncomputable def tSeq (t u:TS):TS:=fun D Y H=>t { D with nx:=u D } Y H
theorem akN:T3 X [] tNext:=fun _ _ Y H _ I h=>wpAny_execs_nil ⟨Y,H,I,h⟩
theorem ai0(h1:PS X st t)(h2:T3 X rest u):T3 X (st::rest) (tSeq t u):=by
 intro pins s Y H D I h;refine wpAny_execs_cons (C0 (h1 pins s Y H { D with nx:=u D } I h) fun f s1 q=>?_)
 cases f with
 | next=>
  obtain ⟨σ',H',I',q⟩:=q;exact h2 pins s1 σ' H' D I' q
 | ret v=>exact q
 | brk=>exact q
 | cont=>exact q
theorem akO(h1:PS X st t):T3 X [st] t:=by
 intro pins s Y H D I h;refine wpAny_execs_cons (C0 (h1 pins s Y H D I h) fun f s1 q=>?_)
 cases f with
 | next=>exact wpAny_execs_nil q
 | ret v=>exact q
 | brk=>exact q
 | cont=>exact q
noncomputable def amL:TS:=fun D Y H=>D.bk Y H
noncomputable def tCont:TS:=fun D Y H=>D.ct Y H
theorem Inv.quiet{pins:List (Addr×Obj)}{Y:St}{H:Hp}{s:Shared}(I:Inv X pins Y H s):interactive X.env=false:=by simp [interactive,I.ok.kind]
noncomputable def tDrop (te:TE):TS:=fun D Y H=>te Y H fun _ H1=>D.nx Y H1
theorem akP(he:PE X e te)(hs:swapsWith e none pos.line X.env=pure false:=by rfl):PS X (.Expr e pos) (tDrop te):=by
 intro pins s Y H D I h;exact wpAny_Expr_any (C0 (he pins s Y H _ I h) fun v s1 ⟨x,H1,I1,r1,q1⟩=>⟨Y,H1,I1,q1⟩) I.quiet hs
noncomputable def tRet (te:TE):TS:=fun D Y H=>te Y H D.rt
theorem amM(he:PE X e te):PS X (.Return (some e) pos) (tRet te):=by
 intro pins s Y H D I h;exact wpAny_Return_some (C0 (he pins s Y H _ I h) fun v s1 ⟨x,H1,I1,r1,q1⟩=>⟨x,Y,H1,I1,r1,q1⟩)
noncomputable def tRetN:TS:=fun D _ H=>D.rt .non H
noncomputable def tIfS (c:TT) (t u:TS):TS:=fun D Y H=>c Y H fun b H1=>if b=true then t D Y H1 else u D Y H1
theorem ps_if{c:Expr}{a b:List Stmt}{tc:TT}(hc:PT X c tc)(ha:T3 X a t)(hb:T3 X b u):PS X (.If c a b pos) (tIfS tc t u):=by
 intro pins s Y H D I h;refine wpAny_If (C0 (hc pins s Y H _ I h) fun d s1 ⟨H1,I1,q1⟩=>?_)
 cases d with
 | true=>exact ha pins s1 Y H1 D I1 q1
 | false=>exact hb pins s1 Y H1 D I1 q1
noncomputable def amN:TS:=fun _ _ _=>False
end
noncomputable abbrev TG:=V->St->Hp->(St->Hp->Prop)->Prop
noncomputable abbrev Y7:=List V->St->Hp->(St->Hp->Prop)->Prop
noncomputable def PG (X:Cx) (target:Expr) (t:TG):Prop:=
 ∀ (pins:List (Addr×Obj)) (s:Shared) (Y:St) (H:Hp) (v:V) (u:Value) (Q:St->Hp->Prop),Inv X pins Y H s->RelV v u->t v Y H Q->
  wpAny (model X.prog X.w) X.A (assign target X.env u) (fun _ s'=>∃ σ' H',Inv X pins σ' H' s'/\Q σ' H') X.xe s
noncomputable def gW (X:Cx) (ts:List Expr) (t:Y7):Prop:=
 ∀ (pins:List (Addr×Obj)) (s:Shared) (Y:St) (H:Hp) (vs:List V) (us:List Value) (Q:St->Hp->Prop),Inv X pins Y H s->Vals vs us->t vs Y H Q->
  wpAny (model X.prog X.w) X.A (assignInOrder ((assignEach ts X.env).map (·.2)) us) (fun _ s'=>∃ σ' H',Inv X pins σ' H' s'/\Q σ' H') X.xe s
noncomputable abbrev TSet:=V->V->V->Hp->(Hp->Prop)->Prop
noncomputable abbrev bZ:=V->V->Hp->VK->Prop
noncomputable def oG (X:Cx) (op:Operator) (t:bZ):Prop:=
 ∀ (pins:List (Addr×Obj)) (s:Shared) (Y:St) (H:Hp) (x y:V) (v u:Value) (Q:VK),Inv X pins Y H s->RelV x v->RelV y u->t x y H Q->
  wpAny (model X.prog X.w) X.A (inplaceOp op v u) (EP X pins Y Q) X.xe s
section
variable {X:Cx} {pos:Pos}
noncomputable def gName (i:Nat):TG:=fun v Y H Q=>Q (Y.set i (some v)) H
theorem akQ{i:Nat}{x:Str}(hN:X.N.Nodup)(hi:X.N[i]?=some x)(hx:f7 X.env.scope x)(hf:X.fn x=true\/X.env.scope.names.lookup x=some .local:=by first | exact .inl rfl | exact .inr rfl | assumption):PG X (.Name x pos) (gName i):=by
 intro pins s Y H v u Q I r h;exact wpAny_assign_Name (gU I hN hi hx r (fun s' I'=>⟨_,H,I',h⟩) hf)
noncomputable def gNil:Y7:=fun vs Y H Q=>vs=[]/\Q Y H
noncomputable def gCons (t:TG) (u:Y7):Y7:=fun vs Y H Q=>∃ v r,vs=v::r/\t v Y H fun σ' H'=>u r σ' H' Q
theorem akR:gW X [] gNil:=by
 intro pins s Y H vs us Q I r h;obtain ⟨e,h⟩:=h;subst e
 cases r
 exact assignInOrder_nil ⟨Y,H,I,h⟩
theorem ai1{e:Expr}{es:List Expr}{t:TG}{u:Y7}(h1:PG X e t)(h2:gW X es u)(hs:(assignEach (e::es) X.env).map (·.2)=assign e X.env::(assignEach es X.env).map (·.2):=by rfl):gW X (e::es) (gCons t u):=by
 intro pins s Y H vs us Q I r h;obtain ⟨v,vr,e1,h⟩:=h;subst e1
 cases r with
 | cons r rr=>
  rw [hs];refine assignInOrder_cons (C0 (h1 pins s Y H _ _ _ I r h) fun _ s1 ⟨σ1,H1,I1,q1⟩=>?_);exact h2 pins s1 σ1 H1 _ _ Q I1 rr q1
noncomputable def gTup (K:PySem.W.Frag) (n:Nat) (t:Y7):TG:=fun v Y H Q=>∃ a xs,v=.ref a/\D0 K H a xs/\xs.length=n/\t xs Y H Q
theorem amO{es:List Expr}{k:Nat}{t:Y7}{n:Nat}(hc:X.calm=true)(h:gW X es t)(hn:(assignEach es X.env).length=n:=by rfl)(o3:(assignEach es X.env).findIdx? (·.1)=none:=by rfl):PG X (.Tuple es k pos) (gTup X.K n t):=by
 intro pins s Y H v u Q I r hw;obtain ⟨a,xs,e1,hq,hl,hw⟩:=hw;subst e1
 cases r
 obtain ⟨its,rv,ht,hz⟩:=I.tuple hq;refine assign_Tuple_tuple (I.ok.hd hc) ht (by simp [hn,<- hl,rv.length]) o3 fun h' hx=>?_
 have I1:Inv X pins Y H { s with heap:=h' }:=I.kept (t':=s.toks) fun b o e=>hx b o (K4 (Heap.lt_size e)) e
 exact h pins _ Y H xs _ Q I1 (by simpa using rv) hw
noncomputable def gSub (to ti:TE) (t:TSet):TG:=fun v Y H Q=>to Y H fun o H1=>ti Y H1 fun i H2=>t o i v H2 fun H3=>Q Y H3
noncomputable def tAsg (te:TE) (g:TG):TS:=fun D Y H=>te Y H fun x H1=>g x Y H1 D.nx
theorem amP{i:Nat}{x:Str}{e:Expr}{te:TE}{pos':Pos}(hN:X.N.Nodup)(hi:X.N[i]?=some x)(hx:f7 X.env.scope x)(he:PE X e te)(hs:swapsWith e (some (.Name x pos')) pos.line X.env=pure false:=by rfl)(hf:X.fn x=true\/X.env.scope.names.lookup x=some .local:=by first | exact .inl rfl | exact .inr rfl | assumption) :
  PS X (.Assign [.Name x pos'] e pos) (tAsg te (gName i)):=by
 intro pins s Y H D I h;refine wpAny_Assign_Name (C0 (he pins s Y H _ I h) fun v s1 ⟨y,H1,I1,r1,q1⟩=>?_) hs;exact gU I1 hN hi hx r1 (fun s2 I2=>⟨_,H1,I2,q1⟩) hf
noncomputable def tAug (i:Nat) (te:TE) (ti:bZ):TS:=fun D Y H=>∃ x,Y[i]?=some (some x)/\te Y H fun y H1=>ti x y H1 fun z H2=>D.nx (Y.set i (some z)) H2
theorem amQ{i:Nat}{x:Str}{e:Expr}{te:TE}{op:Operator}{ti:bZ}{pos':Pos}(hN:X.N.Nodup)(hi:X.N[i]?=some x)(hx:f7 X.env.scope x)(he:PE X e te)(ho:oG X op ti)(hf:X.fn x=true\/X.env.scope.names.lookup x=some .local:=by first | exact .inl rfl | exact .inr rfl | assumption) :
  PS X (.AugAssign (.Name x pos') op e pos) (tAug i te ti):=by
 intro pins s Y H D I h;obtain ⟨v,e1,h⟩:=h;obtain ⟨m,hn,hl⟩:=I.loc;have vis:gT X.env.scope x:=by rcases hx with k | k;exact .inl k;exact .inr (.inl k)
 obtain ⟨u,r,l⟩:=hl i x v hi e1 vis;refine wpAny_AugAssign_Name ?_;have go:wpAny (model X.prog X.w) X.A (eval e X.env) (fun w zw=>wpAny (model X.prog X.w) X.A (inplaceOp op u w) (fun r zu=>wpAny (model X.prog X.w) X.A (storeName X.env x r) (fun _=>SP X pins D .next) X.xe zu) X.xe zw) X.xe s:=by
  refine C0 (he pins s Y H _ I h) fun w s1 ⟨y,H1,I1,r1,q1⟩=>?_
  refine C0 (ho pins s1 Y H1 v y u w _ I1 r r1 q1) fun z s2 ⟨zv,H2,I2,r2,q2⟩=>?_
  exact gU I2 hN hi hx r2 (fun s3 I3=>⟨_,H2,I3,q2⟩) hf
 rcases l with ⟨hk,hm⟩ | ⟨hk,c,hc,K2⟩
 .exact wpAny_loadName_local I.ok.kind hk hn hm go
 .rcases hk with hk | hk
  .exact wpAny_loadName_cell I.ok.kind hk hc K2 go
  .rcases hx with k | k
   .have:X.env.scope.names.lookup x=some .free:=hk
    rw [k] at this;cases this
   .have:X.env.scope.names.lookup x=some .free:=hk
    rw [k] at this;cases this
noncomputable def oH (f:Int->Int->Int):bZ:=fun x y H Q=>∃ i j,x=.int i/\y=.int j/\Q (.int (f i j)) H
theorem amR:oG X .Add (oH fun i j=>i+j):=by
 intro pins s Y H x y v u Q I r1 r2 h;obtain ⟨i,j,e1,e2,q⟩:=h;subst e1;subst e2;obtain ⟨t,rfl⟩:=r1;obtain ⟨t',rfl⟩:=r2;exact iadd_int ⟨.int _,H,I.tok _,⟨_,rfl⟩,q⟩
end
section
variable {X:Cx} {pos:Pos}
noncomputable def lD (c:TT) (tb:TS):TS:=fun D Y H=>∃ W:Nat->St->Hp->Prop,(∃ m,W m Y H)/\∀ m Y H,W m Y H->
 c Y H fun b H1=>if b=true then ∃ N:St->Hp->Prop,(∀ σ' H',N σ' H'->∃ m',m'<m/\W m' σ' H')/\tb { D with nx:=N,ct:=N,bk:=D.nx } Y H1 else D.nx Y H1
theorem ai2{c:Expr}{body:List Stmt}{tc:TT}{tb:TS}(hp:PassesOwn (model X.prog X.w) X.A X.env X.xe)(hc:PT X c tc)(hb:T3 X body tb):PS X (.While c body [] pos) (lD tc tb):=by
 intro pins s Y H D I h;obtain ⟨W,⟨m0,w0⟩,turn⟩:=h;refine wpAny_While (codeAny_whileLoop (fun n s'=>∃ σ' H',Inv X pins σ' H' s'/\W n σ' H') ?_ m0 ⟨Y,H,I,w0⟩);rintro n s1 ⟨σ1,H1,I1,w1⟩;refine wpAny_passesOwn hp (C0 (hc pins s1 σ1 H1 _ I1 (turn n σ1 H1 w1)) fun b s2 ⟨H2,I2,q2⟩=>?_)
 cases b with
 | true=>
  obtain ⟨N,hN,q2⟩:=q2;rw [if_pos rfl];refine wpAny_passesOwn hp (C0 (hb pins s2 σ1 H2 _ I2 q2) fun f s3 q3=>?_)
  cases f with
  | next=>
   obtain ⟨σ3,H3,I3,n3⟩:=q3;obtain ⟨m',hm,w3⟩:=hN σ3 H3 n3;exact ⟨m',hm,σ3,H3,I3,w3⟩
  | cont=>
   obtain ⟨σ3,H3,I3,n3⟩:=q3;obtain ⟨m',hm,w3⟩:=hN σ3 H3 n3;exact ⟨m',hm,σ3,H3,I3,w3⟩
  | brk=>exact q3
  | ret v=>exact q3
 | false=>
  rw [if_neg J5];exact wpAny_execs_nil ⟨σ1,H2,I2,q2⟩
end
structure It where
 go:Nat->Hp->Prop
 yld:Nat->Hp->V->Hp->Prop
 stop:Nat->Hp->Prop
noncomputable def FpOk (X:Cx) (pins:List (Addr×Obj)) (H:Hp) (b:Addr):Prop:=
 H b=none/\b≠X.env.locals/\b∉X.fs/\(b∈X.ex\/X.s₀.heap.objs.size<=b)/\(∀ x c,X.env.cells.lookup x=some c->c≠b)/\∀ p∈X.pn++pins,p.1≠b
theorem Inv.fpOk{X:Cx}{pins:List (Addr×Obj)}{Y:St}{H H':Hp}{s:Shared}{b:Addr}(I:Inv X pins Y H s)(hb:s.heap.objs.size<=b)(hn:H' b=none):FpOk X pins H' b:=by
 refine ⟨hn,q9 (Q1 I.lt hb),I.nofs hb,.inr (E1 I.sz hb),fun x c e z=>?_,fun p hp z=>?_⟩
 .obtain ⟨v,q⟩:=I.cell x c e;exact absurd (Q1 q.lt (by rw [z];exact hb)) (Y3 _)
 .exact absurd (Q1 (Heap.lt_size (I.pin p hp).1) (by rw [z];exact hb)) (Y3 _)
structure Turn(P:Program)(w:World)(K:PySem.W.Frag)(tg:Expr)(J:It)(fp:List Addr)(it:Addr)(tn:Nat->Heap->Prop):Prop where
 mem:it∈fp
 obj:∀ i h,tn i h->∀ b∈fp,∃ o,h.get? b=some o/\∀ v,o.data≠.cell v
 keep:∀ i h h',tn i h->(∀ b∈fp,∀ o,h.get? b=some o->h'.get? b=some o)->tn i h'
 item:∀ (X:Cx),X.prog=P->X.w=w->X.K=K->X.calm=true->∀ (i:Nat) (pins:List (Addr×Obj)) (s:Shared) (Y:St) (H:Hp) (E:Value->Shared->Prop),Inv X pins Y H s->(∀ b∈fp,FpOk X pins H b)->tn i s.heap->J.go i H->
  wpAny (model P w) X.A (pyNext (.ref it)) (fun r s1=>∃ u,r=some u/\
   wpAny (model P w) X.A (letOwnedTupleGo tg (.ref it) u) (fun _ s2=>∃ x H',Inv X pins Y H' s2/\RelV x u/\J.yld i H x H'/\tn (i+1) s2.heap/\∀ b∈fp,H' b=none) E s1) E s
 done:∀ (X:Cx),X.prog=P->X.w=w->X.K=K->X.calm=true->∀ (i:Nat) (pins:List (Addr×Obj)) (s:Shared) (Y:St) (H:Hp) (E:Value->Shared->Prop),Inv X pins Y H s->(∀ b∈fp,FpOk X pins H b)->tn i s.heap->J.stop i H->
  wpAny (model P w) X.A (pyNext (.ref it)) (fun r s1=>r=none/\Inv X pins Y H s1) E s
 self:∀ (A:Around) (i:Nat) (s:Shared) (Q:Value->Shared->Prop) (E:Value->Shared->Prop),tn i s.heap->Q (.ref it) s->wpAny (model P w) A (pyIter (.ref it)) Q E s
noncomputable abbrev TI:=St->Hp->(It->Hp->Prop)->Prop
noncomputable def oI (X:Cx) (pins:List (Addr×Obj)) (Y:St) (tg:Expr) (R:It->Hp->Prop) (itv:Value) (s2:Shared):Prop:=
 ∃ (it:Addr) (fp:List Addr) (tn:Nat->Heap->Prop) (J:It) (H':Hp),itv=.ref it/\Inv X pins Y H' s2/\Turn X.prog X.w X.K tg J fp it tn/\tn 0 s2.heap/\(∀ b∈fp,FpOk X pins H' b)/\R J H'
noncomputable def PI (X:Cx) (tg iter:Expr) (wi:TI):Prop:=
 ∀ (pins:List (Addr×Obj)) (s:Shared) (Y:St) (H:Hp) (R:It->Hp->Prop),Inv X pins Y H s->wi Y H R->
  wpAny (model X.prog X.w) X.A (eval iter X.env) (fun v s1=>wpAny (model X.prog X.w) X.A (pyIter v) (oI X pins Y tg R) X.xe s1) X.xe s
theorem go_of{M : Model}{A : Around}{E : Value -> Shared -> Prop}{s : Shared}{tg : Expr}{it : Addr}{u : Value}{o : Obj}{n : String}{vs : Array Value}{Q : Unit -> Shared -> Prop}(ho : s.heap.get? it = some o)(hc : o.cls = .type n)(hd : o.data = .fields vs)(hn : ["enumerate", "zip", "dict_itemiterator", "dict_reverseitemiterator", "odict_iterator", "itertools.zip_longest", "itertools.pairwise"].contains n = false)(hQ : Q () s) : wpAny M A (letOwnedTupleGo tg (.ref it) u) Q E s := by
  unfold letOwnedTupleGo
  cases tg <;> first
    | exact wpAny_pure hQ
    | (cases u <;> first
        | exact wpAny_pure hQ
        | (refine wpAny_bind (wpAny_load ho ?_)
           rw [hc, hd];show wpAny M A (if (["enumerate", "zip", "dict_itemiterator", "dict_reverseitemiterator", "odict_iterator", "itertools.zip_longest", "itertools.pairwise"].contains n&&vs[0]? == some (rawInt _)) = true then _ else _) Q E s;rw [if_neg (by intro h; rw [hn, Bool.false_and] at h; cases h)];exact wpAny_pure hQ))
noncomputable def s0 (K:PySem.W.Frag) (a:Addr):It:=
 ⟨fun i H=>∃ xs x,D3 K H a xs/\xs[i]?=some x,fun i H x H'=>H'=H/\∀ xs,D3 K H a xs->xs[i]?=some x,fun i H=>∃ xs,D3 K H a xs/\xs.length<=i⟩
noncomputable def aA (K:PySem.W.Frag) (a:Addr):It:=
 ⟨fun i H=>∃ xs x,D0 K H a xs/\xs[i]?=some x,fun i H x H'=>H'=H/\∀ xs,D0 K H a xs->xs[i]?=some x,fun i H=>∃ xs,D0 K H a xs/\xs.length<=i⟩
noncomputable def cA (lo:Int) (n:Nat):It:=⟨fun i _=>i<n,fun i H x H'=>H'=H/\x=.int (lo+i),fun i _=>n<=i⟩
theorem ahs{P:Program}{w:World}{K:PySem.W.Frag}{tg:Expr}(a it:Addr):Turn P w K tg (s0 K a) [it] it (fun i h=>h.IsListIter it a i) where
 mem:=by simp
 obj:=fun i h st b hb=>by
  have e:b=it:=by simpa using hb
  subst e;obtain ⟨o,e,c,d⟩:=st;exact ⟨o,e,fun v z=>by rw [d] at z;cases z⟩
 keep:=fun i h h' st k=>st.at fun o e=>k it (by simp) o e
 item:=by
  intro X hP hw hK hc i pins s Y H E I hf st hg;subst hP hw hK;obtain ⟨xs,x,hq,hx⟩:=hg;obtain ⟨its,rv,p,hz⟩:=I.list hq;obtain ⟨u,hu,ru⟩:=rv.get hx;obtain ⟨f0,f1,f2,f3,f4,f5⟩:=hf it (by simp);refine wpAny_pyNext_list_item st p.isList (x:=u) (by simpa using hu) fun h' st' sb=>?_
  have I1:Inv X pins Y H { s with heap:=h' }:=I.turned (t':=s.toks) (fun b o hb e=>(sb.2 b hb).trans e) f0 f1 f3 f4 f5;obtain ⟨o,e,c,d⟩:=id st';exact ⟨u,rfl,go_of (s:={ s with heap:=h' }) e c d (by decide) ⟨x,H,I1,ru,⟨rfl,fun ys hy=>by rw [I.list_inj hy hq];exact hx⟩,st',fun b hb=>(hf b hb).1⟩⟩
 done:=by
  intro X hP hw hK hc i pins s Y H E I hf st hg;subst hP hw hK;obtain ⟨xs,hq,hx⟩:=hg;obtain ⟨its,rv,p,hz⟩:=I.list hq;obtain ⟨f0,f1,f2,f3,f4,f5⟩:=hf it (by simp);have hl:=rv.length;exact wpAny_pyNext_list_end (I.ok.hd hc) st p.isList (by simp;lia) fun h' eb=>⟨rfl,I.turned (t':=s.toks) (fun b o hb e=>eb b o hb e) f0 f1 f3 f4 f5⟩
 self:=fun _ _ _ _ _ st h=>wpAny_pyIter_listiter st h
theorem agQ{P:Program}{w:World}{K:PySem.W.Frag}{tg:Expr}(a it:Addr):Turn P w K tg (aA K a) [it] it (fun i h=>h.IsTupleIter it a i) where
 mem:=by simp
 obj:=fun i h st b hb=>by
  have e:b=it:=by simpa using hb
  subst e;obtain ⟨o,e,c,d⟩:=st;exact ⟨o,e,fun v z=>by rw [d] at z;cases z⟩
 keep:=fun i h h' st k=>st.at fun o e=>k it (by simp) o e
 item:=by
  intro X hP hw hK hc i pins s Y H E I hf st hg;subst hP hw hK;obtain ⟨xs,x,hq,hx⟩:=hg;obtain ⟨its,rv,p,hz⟩:=I.tuple hq;obtain ⟨u,hu,ru⟩:=rv.get hx;obtain ⟨f0,f1,f2,f3,f4,f5⟩:=hf it (by simp);refine wpAny_pyNext_tuple_item st (show s.heap.IsTuple a its.toArray from p) (x:=u) (by simpa using hu) fun h' st' sb=>?_
  have I1:Inv X pins Y H { s with heap:=h' }:=I.turned (t':=s.toks) (fun b o hb e=>(sb.2 b hb).trans e) f0 f1 f3 f4 f5;obtain ⟨o,e,c,d⟩:=id st';exact ⟨u,rfl,go_of (s:={ s with heap:=h' }) e c d (by decide) ⟨x,H,I1,ru,⟨rfl,fun ys hy=>by rw [I.tuple_inj hy hq];exact hx⟩,st',fun b hb=>(hf b hb).1⟩⟩
 done:=by
  intro X hP hw hK hc i pins s Y H E I hf st hg;subst hP hw hK;obtain ⟨xs,hq,hx⟩:=hg;obtain ⟨its,rv,p,hz⟩:=I.tuple hq;obtain ⟨f0,f1,f2,f3,f4,f5⟩:=hf it (by simp);have hl:=rv.length;exact wpAny_pyNext_tuple_end (I.ok.hd hc) st (show s.heap.IsTuple a its.toArray from p) (by simp;lia) fun h' eb=>⟨rfl,I.turned (t':=s.toks) (fun b o hb e=>eb b o hb e) f0 f1 f3 f4 f5⟩
 self:=fun _ _ _ _ _ st h=>wpAny_pyIter_tupleiter st h
theorem agR{P:Program}{w:World}{K:PySem.W.Frag}{tg:Expr}(it:Addr)(lo:Int)(n:Nat):Turn P w K tg (cA lo n) [it] it (fun i h=>IsRangeIter h it (lo+(i:Nat)*1) ((n:Int)-(i:Nat)) 1) where
 mem:=by simp
 obj:=fun i h st b hb=>by
  have e:b=it:=by simpa using hb
  subst e;exact ⟨_,st,fun v z=>by
   have z':Data.fields _=Data.cell v:=z
   cases z'⟩
 keep:=fun i h h' st k=>k it (by simp) _ st
 item:=by
  intro X hP hw hK hc i pins s Y H E I hf st hg;subst hP hw hK;obtain ⟨f0,f1,f2,f3,f4,f5⟩:=hf it (by simp);have W:=Walks.range (prog:=X.prog) (w:=X.w) (I.ok.hd hc) it lo 1 n;refine W.item i s _ _ hg st fun v h' tk hv st' kk=>?_
  obtain ⟨t,rfl⟩:=hv;have I1:Inv X pins Y H { s with heap:=h',toks:=tk }:=I.turned (fun b o hb e=>kk b o (by simpa using hb) e) f0 f1 f3 f4 f5;refine ⟨_,rfl,go_of (s:={ s with heap:=h',toks:=tk }) (n:="range_iterator") st' rfl rfl (by decide) ⟨.int (lo+i),H,I1,⟨t,?_⟩,⟨rfl,rfl⟩,st',fun b hb=>(hf b hb).1⟩⟩;rw [Int.mul_one]
 done:=by
  intro X hP hw hK hc i pins s Y H E I hf st hg;subst hP hw hK;obtain ⟨f0,f1,f2,f3,f4,f5⟩:=hf it (by simp);exact wpAny_pyNext_range_end (I.ok.hd hc) st (by have:n<=i:=hg;lia) fun h' eb=>⟨rfl,I.turned (t':=s.toks) (fun b o hb e=>eb b o hb e) f0 f1 f3 f4 f5⟩
 self:=fun _ _ _ _ _ st h=>wpAny_pyIter_rangeiter st h
end L2
namespace L2
open PySem PySem.Spec PyProof.Rows
section
variable {X:Cx} {tg:Expr}
noncomputable def iList (K:PySem.W.Frag) (tl:TE):TI:=fun Y H R=>tl Y H fun x H1=>∃ a,x=.ref a/\(∃ xs,D3 K H1 a xs)/\R (s0 K a) H1
noncomputable def iTup (K:PySem.W.Frag) (tl:TE):TI:=fun Y H R=>tl Y H fun x H1=>∃ a,x=.ref a/\(∃ xs,D0 K H1 a xs)/\R (aA K a) H1
theorem akS{l:Expr}{tl:TE}(hl:PE X l tl):PI X tg l (iList X.K tl):=by
 intro pins s Y H R I h;refine C0 (hl pins s Y H _ I h) fun v s1 ⟨x,H1,I1,r1,q1⟩=>?_
 obtain ⟨a,e,⟨xs,hq⟩,q⟩:=q1;subst e
 cases r1
 obtain ⟨its,rv,p,hz⟩:=I1.list hq;refine wpAny_pyIter_list p.isList ?_;refine ⟨s1.heap.objs.size,[s1.heap.objs.size],_,_,H1,rfl,I1.kept (t':=s1.toks) fun b o e=>Heap.get?_push_of_some _ e,ahs a _,⟨_,Heap.get?_push_size _ rfl,rfl,rfl⟩,fun b hb=>?_,q⟩;have e:b=s1.heap.objs.size:=by simpa using hb
 subst e;exact I1.fpOk (C4 _) (I1.hok.fresh (C4 _))
theorem amS{l:Expr}{tl:TE}(hl:PE X l tl):PI X tg l (iTup X.K tl):=by
 intro pins s Y H R I h;refine C0 (hl pins s Y H _ I h) fun v s1 ⟨x,H1,I1,r1,q1⟩=>?_
 obtain ⟨a,e,⟨xs,hq⟩,q⟩:=q1;subst e
 cases r1
 obtain ⟨its,rv,p,hz⟩:=I1.tuple hq;refine wpAny_pyIter_tuple (show s1.heap.IsTuple a its.toArray from p) ?_;refine ⟨s1.heap.objs.size,[s1.heap.objs.size],_,_,H1,rfl,I1.kept (t':=s1.toks) fun b o e=>Heap.get?_push_of_some _ e,agQ a _,⟨_,Heap.get?_push_size _ rfl,rfl,rfl⟩,fun b hb=>?_,q⟩;have e:b=s1.heap.objs.size:=by simpa using hb
 subst e;exact I1.fpOk (C4 _) (I1.hok.fresh (C4 _))
theorem ai3{pins:List (Addr×Obj)}{Y:St}{H:Hp}{s:Shared}{R:It->Hp->Prop}{E:Value->Shared->Prop}{lo hi:Int}{t u v:Tok}{tk:Nat}(I:Inv X pins Y H s)(h1:-(2 ^ 62)<=lo)(h2:lo<2 ^ 62)(h3:-(2 ^ 62)<=hi)(h4:hi<2 ^ 62)(q:R (cA lo (hi-lo).toNat) H):wpAny (model X.prog X.w) X.A (pyIter (.ref s.heap.objs.size)) (oI X pins Y tg R) E { s with heap:=s.heap.push { cls:=.type "range",data:=.fields #[.int lo t,.int hi u,.int 1 v] },toks:=tk }:=by
 refine wpAny_pyIter_range (IsRange.new ..) (small_one h1 h2 h3 h4) ?_;have I1:Inv X pins Y H { s with heap:=s.heap.push { cls:=.type "range",data:=.fields #[.int lo t,.int hi u,.int 1 v] },toks:=tk }:=I.kept fun b o e=>Heap.get?_push_of_some _ e
 refine ⟨(s.heap.push { cls:=.type "range",data:=.fields #[.int lo t,.int hi u,.int 1 v] }).objs.size,[(s.heap.push { cls:=.type "range",data:=.fields #[.int lo t,.int hi u,.int 1 v] }).objs.size],_,_,H,rfl,
  I1.kept (t':=tk) fun b o e=>Heap.get?_push_of_some _ e,agR _ lo (hi-lo).toNat,?_,fun b hb=>?_,q⟩
 .have e1:lo+((0:Nat):Int)*1=lo:=by simp
  have e2:(((hi-lo).toNat:Nat):Int)-((0:Nat):Int)=Builtin.Range.rangeSize lo hi 1:=by rw [rangeSize_one];split <;> lia
  show IsRangeIter _ _ (lo+((0:Nat):Int)*1) ((((hi-lo).toNat:Nat):Int)-((0:Nat):Int)) 1;rw [e1,e2];exact Heap.get?_push_size _ rfl
 .have e:b=(s.heap.push { cls:=.type "range",data:=.fields #[.int lo t,.int hi u,.int 1 v] }).objs.size:=by simpa using hb
  subst e;exact I1.fpOk (C4 _) (I1.hok.fresh (C4 _))
noncomputable def iRng1 (ta:TA):TI:=fun Y H R=>ta Y H fun vs H1=>∃ j:Int,vs=[.int j]/\-(2 ^ 62)<=j/\j<2 ^ 62/\R (cA 0 j.toNat) H1
noncomputable def iRng2 (ta:TA):TI:=fun Y H R=>ta Y H fun vs H1=>∃ i j:Int,vs=[.int i,.int j]/\(-(2 ^ 62)<=i/\i<2 ^ 62/\-(2 ^ 62)<=j/\j<2 ^ 62)/\R (cA i (j-i).toNat) H1
theorem aht{a:Expr}{ta:TA}{p pos:Pos}(hg:Gl X "range")(hm:X.mg "range"=none)(ha:PA X [a] ta)(hs:starEach [a] X.env=[(false,eval a X.env)]:=by rfl):PI X tg (.Call (.Name "range" p) [a] [] pos) (iRng1 ta):=by
 intro pins s Y H R I h;refine Call_ (bY I hg hm boot_range (PyProof.Rows.callWith_type1 (C0 (ha pos pins s Y H _ I h) fun us s1 ⟨vs,H1,I1,r1,q1⟩=>?_) hs rfl));obtain ⟨j,e,q1,q2,q⟩:=q1;subst e
 cases r1 with
 | cons r rr=>
  cases rr
  obtain ⟨t,rfl⟩:=r;exact call_range_1 (ai3 I1 (by lia) (by lia) q1 q2 (by simpa using q))
noncomputable def tFor (wi:TI) (g:TG) (tb:TS):TS:=fun D Y H=>wi Y H fun J H1=>∃ W:Nat->Nat->St->Hp->Prop,(∃ m,W 0 m Y H1)/\∀ i m Y H,W i m Y H->
 (J.stop i H/\D.nx Y H)\/(J.go i H/\∃ N:St->Hp->Prop,(∀ σ' H',N σ' H'->∃ m',m'<m/\W (i+1) m' σ' H')/\∀ x H',J.yld i H x H'->g x Y H' fun σ2 H2=>tb { D with nx:=N,ct:=N,bk:=D.nx } σ2 H2)
noncomputable def eD (fp:List Addr) (h:Heap):List (Addr×Obj):=fp.filterMap fun b=>(h.get? b).map fun o=>(b,o)
theorem eE{fp:List Addr}{h:Heap}{b:Addr}{o:Obj}(hb:b∈fp)(e:h.get? b=some o):(b,o)∈eD fp h:=List.mem_filterMap.mpr ⟨b,hb,by rw [e];rfl⟩
theorem ahu{fp:List Addr}{h:Heap}{p:Addr×Obj}(hp:p∈eD fp h):p.1∈fp/\h.get? p.1=some p.2:=by
 obtain ⟨b,hb,e⟩:=List.mem_filterMap.mp hp
 cases q:h.get? b with
 | none=>rw [q] at e;cases e
 | some o=>
  rw [q] at e;have e':(b,o)=p:=Option.some.inj e;subst e';exact ⟨hb,q⟩
theorem Inv.pinned{pins:List (Addr×Obj)}{Y:St}{H:Hp}{s:Shared}{fp:List Addr}(I:Inv X pins Y H s)(hf:∀ b∈fp,FpOk X pins H b)(ho:∀ b∈fp,∃ o,s.heap.get? b=some o/\∀ v,o.data≠.cell v):Inv X (pins++eD fp s.heap) Y H s:=
 I.pins_of fun p hp=>(G1.mp hp).elim (fun z=>I.pin p (O8 _ z)) fun z=>by
  obtain ⟨hb,e⟩:=ahu z;obtain ⟨f0,f1,f2,_⟩:=hf p.1 hb;obtain ⟨o,e',d⟩:=ho p.1 hb;rw [e] at e';cases e';exact ⟨e,f0,f1,f2,d⟩
theorem Inv.unpinned{pins pl:List (Addr×Obj)}{Y:St}{H:Hp}{s:Shared}(I:Inv X (pins++pl) Y H s):Inv X pins Y H s:=I.pins_of fun p hp=>I.pin p (O8 _ (O4 _ hp))
theorem amT{iter:Expr}{body:List Stmt}{wi:TI}{g:TG}{tb:TS}{pos:Pos}(hp:PassesOwn (model X.prog X.w) X.A X.env X.xe)(hc:X.calm=true)(hi:PI X tg iter wi)(hg:PG X tg g)(hb:T3 X body tb)(hs:∀ x,foldedSetIterable iter X.env x=pure x:=by intro _;rfl):PS X (.For tg iter body [] pos) (tFor wi g tb):=by
 intro pins s Y H D I h;refine wpAny_For (C0 (hi pins s Y H _ I h) fun v s1 h1=>C0 h1 fun itv s2 h2=>?_) hs;obtain ⟨it,fp,tn,J,H2,e,I2,T,jG,f2,W,⟨m0,w0⟩,turn⟩:=h2;subst e;have stat:∀ {H':Hp},(∀ b∈fp,H' b=none)->∀ b∈fp,FpOk X pins H' b:=fun hn b hb=>⟨hn b hb,(f2 b hb).2⟩
 refine codeAny_forLoop_any (fun n s'=>∃ i σ' H',Inv X pins σ' H' s'/\tn i s'.heap/\(∀ b∈fp,H' b=none)/\W i n σ' H') ?_ m0 ⟨0,Y,H2,I2,jG,fun b hb=>(f2 b hb).1,w0⟩;rintro n s3 ⟨i,σ3,H3,I3,aZ,jH,w3⟩
 rcases turn i n σ3 H3 w3 with ⟨stop,qn⟩ | ⟨go,N,hN,step⟩
 .refine wpAny_passesOwn hp (C0 (T.done X rfl rfl rfl hc i pins s3 σ3 H3 X.xe I3 (stat jH) aZ stop) fun r s4 ⟨hr,I4⟩=>?_);subst hr;exact wpAny_execs_nil ⟨σ3,H3,I4,qn⟩
 .refine wpAny_passesOwn hp (C0 (T.item X rfl rfl rfl hc i pins s3 σ3 H3 X.xe I3 (stat jH) aZ go) fun r s4 ⟨u,hr,h4⟩=>?_);subst hr;refine wpAny_passesOwn hp (C0 h4 fun _ s5 ⟨x,H5,I5,r5,y5,cY,sL⟩=>?_);have I5':=I5.pinned (stat sL) (T.obj _ _ cY);refine wpAny_passesOwn hp (C0 (hg _ s5 σ3 H5 x u _ I5' r5 (step x H5 y5)) fun _ s6 ⟨σ6,H6,I6,q6⟩=>?_);refine wpAny_passesOwn hp (C0 (hb _ s6 σ6 H6 _ I6 q6) fun f s7 q7=>?_);have again:∀ {σ7:St} {H7:Hp},Inv X (pins++eD fp s5.heap) σ7 H7 s7->N σ7 H7->∃ m,m<n/\∃ i σ' H',Inv X pins σ' H' s7/\tn i s7.heap/\(∀ b∈fp,H' b=none)/\W i m σ' H':=fun {σ7 H7} I7 n7=>by
   obtain ⟨m',hm,w7⟩:=hN σ7 H7 n7;refine ⟨m',hm,i+1,σ7,H7,I7.unpinned,T.keep _ _ _ cY fun b hb o e=>(I7.pin (b,o) (O8 _ (O8 _ (eE hb e)))).1,fun b hb=>?_,w7⟩;obtain ⟨o,e,d⟩:=T.obj _ _ cY b hb;exact (I7.pin (b,o) (O8 _ (O8 _ (eE hb e)))).2.1
  cases f with
  | next=>obtain ⟨σ7,H7,I7,n7⟩:=q7;exact again I7 n7
  | cont=>obtain ⟨σ7,H7,I7,n7⟩:=q7;exact again I7 n7
  | brk=>obtain ⟨σ7,H7,I7,q7⟩:=q7;exact ⟨σ7,H7,I7.unpinned,q7⟩
  | ret v=>obtain ⟨x7,σ7,H7,I7,r7,q7⟩:=q7;exact ⟨x7,σ7,H7,I7.unpinned,r7,q7⟩
end
theorem ai4{K:PySem.W.Frag}{a:Addr}{xs:List V}{g:TG}{tb:TS}{D:Ends}{Y:St}{H:Hp}(Pv:Nat->St->Hp->Prop)(h0:Pv 0 Y H)(hl:∀ i Y H,i<=xs.length->Pv i Y H->D3 K H a xs)(hs:∀ i x Y H,xs[i]?=some x->Pv i Y H->g x Y H fun σ2 H2=>tb { D with nx:=Pv (i+1),ct:=Pv (i+1),bk:=D.nx } σ2 H2)(hd:∀ Y H,Pv xs.length Y H->D.nx Y H) :
  ∃ W:Nat->Nat->St->Hp->Prop,(∃ m,W 0 m Y H)/\∀ i m Y H,W i m Y H->
   ((s0 K a).stop i H/\D.nx Y H)\/((s0 K a).go i H/\∃ N:St->Hp->Prop,(∀ σ' H',N σ' H'->∃ m',m'<m/\W (i+1) m' σ' H')/\∀ x H',(s0 K a).yld i H x H'->g x Y H' fun σ2 H2=>tb { D with nx:=N,ct:=N,bk:=D.nx } σ2 H2):=by
 refine ⟨fun i m Y H=>m=xs.length-i/\i<=xs.length/\Pv i Y H,⟨xs.length,by simp,G8 _,h0⟩,?_⟩;rintro i m Y H ⟨rfl,hi,p⟩;have q:=hl i Y H hi p
 by_cases D1:i<xs.length
 .refine .inr ⟨⟨xs,xs[i],q,by simp [D1]⟩,Pv (i+1),fun σ' H' p'=>⟨xs.length-(i+1),by lia,rfl,D1,p'⟩,fun x H' y=>?_⟩;obtain ⟨e,y⟩:=y;subst e;exact hs i x Y _ (y xs q) p
 .have e:i=xs.length:=by lia
  subst e;exact .inl ⟨⟨xs,q,C4 _⟩,hd Y H p⟩
theorem akT{K:PySem.W.Frag}{a:Addr}{xs:List V}{g:TG}{tb:TS}{D:Ends}{Y:St}{H:Hp}(Pv:Nat->St->Hp->Prop)(h0:Pv 0 Y H)(hl:∀ i Y H,i<=xs.length->Pv i Y H->D0 K H a xs)(hs:∀ i x Y H,xs[i]?=some x->Pv i Y H->g x Y H fun σ2 H2=>tb { D with nx:=Pv (i+1),ct:=Pv (i+1),bk:=D.nx } σ2 H2)(hd:∀ Y H,Pv xs.length Y H->D.nx Y H) :
  ∃ W:Nat->Nat->St->Hp->Prop,(∃ m,W 0 m Y H)/\∀ i m Y H,W i m Y H->
   ((aA K a).stop i H/\D.nx Y H)\/((aA K a).go i H/\∃ N:St->Hp->Prop,(∀ σ' H',N σ' H'->∃ m',m'<m/\W (i+1) m' σ' H')/\∀ x H',(aA K a).yld i H x H'->g x Y H' fun σ2 H2=>tb { D with nx:=N,ct:=N,bk:=D.nx } σ2 H2):=by
 refine ⟨fun i m Y H=>m=xs.length-i/\i<=xs.length/\Pv i Y H,⟨xs.length,by simp,G8 _,h0⟩,?_⟩;rintro i m Y H ⟨rfl,hi,p⟩;have q:=hl i Y H hi p
 by_cases D1:i<xs.length
 .refine .inr ⟨⟨xs,xs[i],q,by simp [D1]⟩,Pv (i+1),fun σ' H' p'=>⟨xs.length-(i+1),by lia,rfl,D1,p'⟩,fun x H' y=>?_⟩;obtain ⟨e,y⟩:=y;subst e;exact hs i x Y _ (y xs q) p
 .have e:i=xs.length:=by lia
  subst e;exact .inl ⟨⟨xs,q,C4 _⟩,hd Y H p⟩
end L2
namespace L2
open PySem PySem.Spec PyProof.Rows
noncomputable abbrev R2:=V->V->Hp->VK->Prop
noncomputable def F8 (X:Cx) (f:Value->Value->Sem Value) (r:R2):Prop:=
 ∀ (pins:List (Addr×Obj)) (s:Shared) (Y:St) (H:Hp) (x y:V) (v u:Value) (Q:VK),Inv X pins Y H s->RelV x v->RelV y u->r x y H Q->
  wpAny (model X.prog X.w) X.A (f v u) (EP X pins Y Q) X.xe s
noncomputable def lE (X:Cx) (f:Value->Sem Value) (r:V->Hp->VK->Prop):Prop:=
 ∀ (pins:List (Addr×Obj)) (s:Shared) (Y:St) (H:Hp) (x:V) (v:Value) (Q:VK),Inv X pins Y H s->RelV x v->r x H Q->
  wpAny (model X.prog X.w) X.A (f v) (EP X pins Y Q) X.xe s
noncomputable def CallR (X:Cx) (f:Value) (r:List V->Hp->VK->Prop):Prop:=
 ∀ (pins:List (Addr×Obj)) (s:Shared) (Y:St) (H:Hp) (xs:List V) (us:List Value) (Q:VK),Inv X pins Y H s->Vals xs us->r xs H Q->
  wpAny (model X.prog X.w) X.A (call f us) (EP X pins Y Q) X.xe s
noncomputable def TruR (X:Cx) (r:V->Hp->(Bool->Hp->Prop)->Prop):Prop:=
 ∀ (pins:List (Addr×Obj)) (s:Shared) (Y:St) (H:Hp) (x:V) (v:Value) (Q:Bool->Hp->Prop),Inv X pins Y H s->RelV x v->r x H Q->
  wpAny (model X.prog X.w) X.A (truthy v) (TP X pins Y Q) X.xe s
noncomputable def t5 (r:R2) (ta tb:TE):TE:=fun Y H Q=>ta Y H fun x H1=>tb Y H1 fun y H2=>r x y H2 Q
noncomputable def oJ (r:V->Hp->VK->Prop) (ta:TE):TE:=fun Y H Q=>ta Y H fun x H1=>r x H1 Q
noncomputable def rI (C:Int->Int->Prop) (g:Int->Int->V):R2:=fun x y H Q=>∃ i j,x=.int i/\y=.int j/\C i j/\Q (g i j) H
noncomputable def t8 (g:Int->Int->V):R2:=fun x y H Q=>∃ i j,x=.int i/\y=.int j/\Q (g i j) H
noncomputable def rU (g:Int->V):V->Hp->VK->Prop:=fun x H Q=>∃ i,x=.int i/\Q (g i) H
section
variable {X:Cx} {a b c:Expr} {ta tb tc:TE} {pos:Pos}
theorem binT(ha:PE X a ta)(hb:PE X b tb){pins:List (Addr×Obj)}{s:Shared}{Y:St}{H:Hp}{R:V->V->Hp->Prop}(I:Inv X pins Y H s)(h:ta Y H fun x H1=>tb Y H1 fun y H2=>R x y H2){Q:Value->Shared->Prop}{f:Value->Value->Sem Value}(hf:∀ v u s2 x y H2,Inv X pins Y H2 s2->RelV x v->RelV y u->R x y H2->wpAny (model X.prog X.w) X.A (f v u) Q X.xe s2) :
  wpAny (model X.prog X.w) X.A (eval a X.env) (fun v zt=>wpAny (model X.prog X.w) X.A (eval b X.env) (fun u zw=>wpAny (model X.prog X.w) X.A (f v u) Q X.xe zw) X.xe zt) X.xe s:=by
 refine C0 (ha pins s Y H _ I h) fun v s1 ⟨x,H1,I1,r1,q1⟩=>?_
 refine C0 (hb pins s1 Y H1 _ I1 q1) fun u s2 ⟨y,H2,I2,r2,q2⟩=>?_
 exact hf v u s2 x y H2 I2 r1 r2 q2
theorem pe_op{op:Operator}{r:R2}(ho:F8 X (binaryOp op) r)(ha:PE X a ta)(hb:PE X b tb):PE X (.BinOp a op b pos) (t5 r ta tb):=by
 intro pins s Y H Q I h;exact wpAny_BinOp (binT ha hb I h fun v u s2 x y H2 I2 rx ry q=>ho pins s2 Y H2 x y v u Q I2 rx ry q)
theorem pe_un{op:UnaryOp}{r:V->Hp->VK->Prop}(ho:lE X (unaryOp op) r)(ha:PE X a ta):PE X (.UnaryOp op a pos) (oJ r ta):=by
 intro pins s Y H Q I h;exact UnaryOp_ (C0 (ha pins s Y H _ I h) fun v s1 ⟨x,H1,I1,r1,q1⟩=>ho pins s1 Y H1 x v Q I1 r1 q1)
theorem lF{f:Value->Value->Sem Value}{C:Int->Int->Prop}{g:Int->Int->Int}(rule:∀ (i j:Int) (t u:Tok) (s:Shared) (Q:Value->Shared->Prop) (E:Value->Shared->Prop),C i j->Q (.int (g i j) s.toks) { s with toks:=s.toks+1 }->wpAny (model X.prog X.w) X.A (f (.int i t) (.int j u)) Q E s) :
  F8 X f (rI C fun i j=>.int (g i j)):=by
 intro pins s Y H x y v u Q I rx ry h;obtain ⟨i,j,rfl,rfl,hc,q⟩:=h;obtain ⟨t,rfl⟩:=rx;obtain ⟨t',rfl⟩:=ry;exact rule i j t t' s _ _ hc ⟨.int (g i j),H,I.tok _,⟨_,rfl⟩,q⟩
theorem opI0{f:Value->Value->Sem Value}{g:Int->Int->Int}(rule:∀ (i j:Int) (t u:Tok) (s:Shared) (Q:Value->Shared->Prop) (E:Value->Shared->Prop),Q (.int (g i j) s.toks) { s with toks:=s.toks+1 }->wpAny (model X.prog X.w) X.A (f (.int i t) (.int j u)) Q E s) :
  F8 X f (t8 fun i j=>.int (g i j)):=by
 intro pins s Y H x y v u Q I rx ry h;obtain ⟨i,j,rfl,rfl,q⟩:=h;obtain ⟨t,rfl⟩:=rx;obtain ⟨t',rfl⟩:=ry;exact rule i j t t' s _ _ ⟨.int (g i j),H,I.tok _,⟨_,rfl⟩,q⟩
theorem opB0{f:Value->Value->Sem Value}{g:Int->Int->Bool}(rule:∀ (i j:Int) (t u:Tok) (s:Shared) (Q:Value->Shared->Prop) (E:Value->Shared->Prop),Q (.bool (g i j)) s->wpAny (model X.prog X.w) X.A (f (.int i t) (.int j u)) Q E s) :
  F8 X f (t8 fun i j=>.bl (g i j)):=by
 intro pins s Y H x y v u Q I rx ry h;obtain ⟨i,j,rfl,rfl,q⟩:=h;obtain ⟨t,rfl⟩:=rx;obtain ⟨t',rfl⟩:=ry;exact rule i j t t' s _ _ ⟨.bl (g i j),H,I,rfl,q⟩
noncomputable def CDiv (i j:Int):Prop:=0<j/\j<1073741824
noncomputable def CPow (i j:Int):Prop:=0<=j/\j<=1000000/\i.natAbs<2 ^ 64
noncomputable def CMul (i j:Int):Prop:=(-(2 ^ 64)<i/\i<2 ^ 64)\/(-(2 ^ 64)<j/\j<2 ^ 64)
theorem CMul.ok{i j:Int}(h:CMul i j):IntMulOk i j:=by
 rcases h with ⟨h1,h2⟩ | ⟨h1,h2⟩
 .exact .of_left (intBits_le_64 h1 h2)
 .exact .of_right (intBits_le_64 h1 h2)
theorem amU:F8 X (binaryOp .Add) (t8 fun i j=>.int (i+j)):=opI0 fun _ _ _ _ _ _ _ q=>add_int q
theorem amV:F8 X (binaryOp .Sub) (t8 fun i j=>.int (i-j)):=opI0 fun _ _ _ _ _ _ _ q=>sub_int q
theorem amW:F8 X (binaryOp .Mult) (rI CMul fun i j=>.int (i*j)):=lF fun _ _ _ _ _ _ _ hc q=>mul_int q hc.ok
theorem akU:F8 X (binaryOp .FloorDiv) (rI CDiv fun i j=>.int (i / j)):=lF fun i j _ _ _ _ _ hc q=>by
 have h1:(0:Int)<j:=hc.1;have h2:j<1073741824:=hc.2;exact floordiv_int (by lia) (by rw [Int.fdiv_eq_ediv_of_nonneg i (by lia)];exact q) (.inl (PyProof.noPylong_small (by lia)))
theorem amX:F8 X (binaryOp .Mod) (rI (fun _ j=>0<j) fun i j=>.int (i % j)):=lF fun i j _ _ _ _ _ hc q=>by
 have h1:(0:Int)<j:=hc;exact mod_int' (by lia) (by rw [Int.fmod_eq_emod_of_nonneg i (by lia)];exact q)
theorem amY:F8 X (binaryOp .Pow) (rI CPow fun i j=>.int (i ^ j.toNat)):=lF fun _ _ _ _ _ _ _ hc q=>pow_int_small hc.1 hc.2.1 hc.2.2 q
theorem unI{f:Value->Sem Value}{g:Int->Int}(rule:∀ (i:Int) (t:Tok) (s:Shared) (Q:Value->Shared->Prop) (E:Value->Shared->Prop),Q (.int (g i) s.toks) { s with toks:=s.toks+1 }->wpAny (model X.prog X.w) X.A (f (.int i t)) Q E s) :
  lE X f (rU fun i=>.int (g i)):=by
 intro pins s Y H x v Q I rx h;obtain ⟨i,rfl,q⟩:=h;obtain ⟨t,rfl⟩:=rx;exact rule i t s _ _ ⟨.int (g i),H,I.tok _,⟨_,rfl⟩,q⟩
theorem amZ:lE X (unaryOp .USub) (rU fun i=>.int (-i)):=unI fun _ _ _ _ _ q=>neg_int q
end
noncomputable def scal:V->V->Bool
 | .non,.non=>true | .non,.int _=>true | .int _,.non=>true | .non,.bl _=>true | .bl _,.non=>true | .non,.str _=>true | .str _,.non=>true
 | .int _,.int _=>true | .bl _,.bl _=>true | .str _,.str _=>true | .byt _,.byt _=>true
 | .int _,.str _=>true | .str _,.int _=>true | .bl _,.str _=>true | .str _,.bl _=>true
 | _,_=>false
noncomputable def vA:R2:=fun x y H Q=>scal x y=true/\Q (.bl (decide (x=y))) H
noncomputable def vB:R2:=fun x y H Q=>scal x y=true/\Q (.bl (!decide (x=y))) H
theorem vC{i j:Int} : decide (V.int i=V.int j)=(i==j):=by
 rw [e8]
 simp
theorem vD{i j:Bool} : decide (V.bl i=V.bl j)=(i==j):=by
 rw [e8]
 simp
theorem vE{i j:Str} : decide (V.str i=V.str j)=(i==j):=by
 rw [e8]
 simp
theorem vF{i j:Array UInt8} : decide (V.byt i=V.byt j)=(i.toList==j.toList):=by
 rw [e8]
 cases i
 cases j
 simp
section
variable {X:Cx} {a b c:Expr} {ta tb tc:TE} {pos:Pos}
theorem J2{pins:List (Addr×Obj)}{Y:St}{H:Hp}{s:Shared}{Q:VK}{k k':Bool}(I:Inv X pins Y H s)(q:Q (.bl k) H)(e:k=k'):EP X pins Y Q (.bool k') s:=by
 subst e;exact ⟨.bl k,H,I,rfl,q⟩
theorem op_eq:F8 X (compareOp .Eq) vA:=by
 intro pins s Y H x y v u Q I rx ry h;obtain ⟨hs,q⟩:=h
 cases x with
 | non=>
  cases rx
  cases y with
  | non=>cases ry;exact PySem.EqNone.eq_none_none (J2 I q (by simp))
  | bl j=>cases ry;exact PySem.EqNone.eq_none_bool (J2 I q (by simp))
  | int j=>obtain ⟨t',rfl⟩:=ry;exact PySem.EqNone.eq_none_int (J2 I q (by simp))
  | str j=>obtain ⟨t',rfl⟩:=ry;exact PySem.EqNone.eq_none_str (J2 I q (by simp))
  | _=>exact absurd (show false=true from hs) J5
 | bl i=>
  cases rx
  cases y with
  | non=>cases ry;exact PySem.EqNone.eq_bool_none (J2 I q (by simp))
  | bl j=>cases ry;exact eq_bool (J2 I q vD)
  | str j=>obtain ⟨t',rfl⟩:=ry;exact PySem.EqMixed.eq_bool_str (J2 I q (by simp))
  | _=>exact absurd (show false=true from hs) J5
 | int i=>
  obtain ⟨t,rfl⟩:=rx
  cases y with
  | non=>cases ry;exact PySem.EqNone.eq_int_none (J2 I q (by simp))
  | int j=>obtain ⟨t',rfl⟩:=ry;exact eq_int (J2 I q vC)
  | str j=>obtain ⟨t',rfl⟩:=ry;exact PySem.EqMixed.eq_int_str (J2 I q (by simp))
  | _=>exact absurd (show false=true from hs) J5
 | str i=>
  obtain ⟨t,rfl⟩:=rx
  cases y with
  | non=>cases ry;exact PySem.EqNone.eq_str_none (J2 I q (by simp))
  | bl j=>cases ry;exact PySem.EqMixed.eq_str_bool (J2 I q (by simp))
  | int j=>obtain ⟨t',rfl⟩:=ry;exact PySem.EqMixed.eq_str_int (J2 I q (by simp))
  | str j=>obtain ⟨t',rfl⟩:=ry;exact eq_str (J2 I q vE)
  | _=>exact absurd (show false=true from hs) J5
 | byt i=>
  obtain ⟨t,rfl⟩:=rx
  cases y with
  | byt j=>obtain ⟨t',rfl⟩:=ry;exact PySem.W.eq_bytes (J2 I q vF)
  | _=>exact absurd (show false=true from hs) J5
 | _=>cases y <;> exact absurd (show false=true from hs) J5
theorem op_ne:F8 X (compareOp .NotEq) vB:=by
 intro pins s Y H x y v u Q I rx ry h;obtain ⟨hs,q⟩:=h
 cases x with
 | non=>
  cases rx
  cases y with
  | non=>cases ry;exact PySem.EqNone.ne_none_none (J2 I q (by simp))
  | bl j=>cases ry;exact PySem.EqNone.ne_none_bool (J2 I q (by simp))
  | int j=>obtain ⟨t',rfl⟩:=ry;exact PySem.EqNone.ne_none_int (J2 I q (by simp))
  | str j=>obtain ⟨t',rfl⟩:=ry;exact PySem.EqNone.ne_none_str (J2 I q (by simp))
  | _=>exact absurd (show false=true from hs) J5
 | bl i=>
  cases rx
  cases y with
  | non=>cases ry;exact PySem.EqNone.ne_bool_none (J2 I q (by simp))
  | bl j=>cases ry;exact ne_bool (J2 I q (congrArg not vD))
  | str j=>obtain ⟨t',rfl⟩:=ry;exact PySem.EqMixed.ne_bool_str (J2 I q (by simp))
  | _=>exact absurd (show false=true from hs) J5
 | int i=>
  obtain ⟨t,rfl⟩:=rx
  cases y with
  | non=>cases ry;exact PySem.EqNone.ne_int_none (J2 I q (by simp))
  | int j=>obtain ⟨t',rfl⟩:=ry;exact ne_int (J2 I q (congrArg not vC))
  | str j=>obtain ⟨t',rfl⟩:=ry;exact PySem.EqMixed.ne_int_str (J2 I q (by simp))
  | _=>exact absurd (show false=true from hs) J5
 | str i=>
  obtain ⟨t,rfl⟩:=rx
  cases y with
  | non=>cases ry;exact PySem.EqNone.ne_str_none (J2 I q (by simp))
  | bl j=>cases ry;exact PySem.EqMixed.ne_str_bool (J2 I q (by simp))
  | int j=>obtain ⟨t',rfl⟩:=ry;exact PySem.EqMixed.ne_str_int (J2 I q (by simp))
  | str j=>obtain ⟨t',rfl⟩:=ry;exact ne_str (J2 I q (congrArg not vE))
  | _=>exact absurd (show false=true from hs) J5
 | byt i=>
  obtain ⟨t,rfl⟩:=rx
  cases y with
  | byt j=>obtain ⟨t',rfl⟩:=ry;exact PySem.W.ne_bytes (J2 I q (congrArg not vF))
  | _=>exact absurd (show false=true from hs) J5
 | _=>cases y <;> exact absurd (show false=true from hs) J5
theorem op_lt:F8 X (compareOp .Lt) (t8 fun i j=>.bl (decide (i<j))):=opB0 fun _ _ _ _ _ _ _ q=>lt_int q
theorem op_le:F8 X (compareOp .LtE) (t8 fun i j=>.bl (decide (i<=j))):=opB0 fun _ _ _ _ _ _ _ q=>le_int q
theorem ahy:F8 X (compareOp .Lt) (fun x y H Q=>∃ i j,x=.str i/\y=.str j/\Q (.bl (decide (i.cps.toList<j.cps.toList))) H):=by
 intro pins s Y H x y v u Q I rx ry h;obtain ⟨i,j,rfl,rfl,q⟩:=h;obtain ⟨t,rfl⟩:=rx;obtain ⟨t',rfl⟩:=ry;exact lt_str (J2 I q rfl)
theorem ahz:F8 X (compareOp .In) (fun x y H Q=>∃ i j,x=.str i/\y=.str j/\Q (.bl (!(Builtin.Str.occurrences j i 0 j.length 1).isEmpty)) H):=by
 intro pins s Y H x y v u Q I rx ry h;obtain ⟨i,j,rfl,rfl,q⟩:=h;obtain ⟨t,rfl⟩:=rx;obtain ⟨t',rfl⟩:=ry;exact in_str (J2 I q rfl)
theorem am0:F8 X (compareOp .Is) (fun x y H Q=>y=.non/\Q (.bl (decide (x=.non))) H):=by
 intro pins s Y H x y v u Q I rx ry h;obtain ⟨rfl,q⟩:=h
 cases ry
 refine is_none_gen (J2 I q ?_)
 cases x <;> first
  | (cases rx;rfl)
  | (obtain ⟨t,rfl⟩:=rx;rfl)
theorem akV:F8 X (compareOp .IsNot) (fun x y H Q=>y=.non/\Q (.bl (!decide (x=.non))) H):=by
 intro pins s Y H x y v u Q I rx ry h;obtain ⟨rfl,q⟩:=h
 cases ry
 refine isnot_none_gen (J2 I q ?_)
 cases x <;> first
  | (cases rx;rfl)
  | (obtain ⟨t,rfl⟩:=rx;rfl)
theorem vG(b:Expr){op:CmpOp}(h:op≠.In:=by decide)(h2:op≠.NotIn:=by decide):behindInMarks op b=false:=by
 have e1:(op==CmpOp.In)=false:=by cases op <;> first | rfl | exact absurd rfl h
 have e2:(op==CmpOp.NotIn)=false:=by cases op <;> first | rfl | exact absurd rfl h2
 cases b <;> simp [behindInMarks,e1,e2]
theorem akW{op:CmpOp}{r:R2}(ho:F8 X (compareOp op) r)(ha:PE X a ta)(hb:PE X b tb)(hm:behindInMarks op b=false):PE X (.Compare a [op] [b] pos) (t5 r ta tb):=by
 intro pins s Y H Q I h;exact wpAny_Compare1 (binT ha hb I h fun v u s2 x y H2 I2 rx ry q=>ho pins s2 Y H2 x y v u Q I2 rx ry q) hm
noncomputable def tTest (t:TE):TT:=fun Y H Q=>t Y H fun x H'=>∃ k,x=.bl k/\Q k H'
theorem akX{op:CmpOp}{r:R2}(ho:F8 X (compareOp op) r)(ha:PE X a ta)(hb:PE X b tb)(hm:behindInMarks op b=false):PT X (.Compare a [op] [b] pos) (tTest (t5 r ta tb)):=by
 intro pins s Y H Q I h;refine wpAny_isTrue_Compare1 (C0 (ha pins s Y H _ I h) fun v s1 ⟨x,H1,I1,r1,q1⟩=>C0 (hb pins s1 Y H1 _ I1 q1) fun u s2 ⟨y,H2,I2,r2,q2⟩=>
  C0 (ho pins s2 Y H2 x y v u _ I2 r1 r2 q2) fun c s3 ⟨z,H3,I3,r3,k,e,q3⟩=>?_) hm
 subst e
 cases r3
 exact wpAny_truthy_bool ⟨H3,I3,q3⟩
noncomputable def oK (r r':R2) (ta tb tc:TE):TE:=fun Y H Q=>ta Y H fun x H1=>tb Y H1 fun y H2=>r x y H2 fun z H3=>∃ k,z=.bl k/\
 (if k=true then tc Y H3 fun w' H4=>r' y w' H4 Q else Q (.bl false) H3)
theorem ai5{op op':CmpOp}{r r':R2}(ho:F8 X (compareOp op) r)(i3:F8 X (compareOp op') r')(ha:PE X a ta)(hb:PE X b tb)(hc:PE X c tc)(hm:lastMarks [op,op'] [b,c]=false:=by with_unfolding_all rfl):PE X (.Compare a [op,op'] [b,c] pos) (oK r r' ta tb tc):=by
 intro pins s Y H Q I h;refine Compare_chain (C0 (ha pins s Y H _ I h) fun v s1 ⟨x,H1,I1,r1,q1⟩=>chain_link (C0 (hb pins s1 Y H1 _ I1 q1) fun u s2 ⟨y,H2,I2,r2,q2⟩=>
  C0 (ho pins s2 Y H2 x y v u _ I2 r1 r2 q2) fun d s3 ⟨z,H3,I3,r3,k,e,q3⟩=>?_)) hm
 subst e
 cases r3
 refine wpAny_truthy_bool ?_
 cases k with
 | false=>exact ite_ff ⟨.bl false,H3,I3,rfl,q3⟩
 | true=>exact ite_tt (chain_last (C0 (hc pins s3 Y H3 _ I3 q3) fun w' s4 ⟨z',H4,I4,r4,q4⟩=>i3 pins s4 Y H4 y z' u w' Q I4 r2 r4 q4))
noncomputable def TruV (K:PySem.W.Frag) (x:V) (H:Hp) (k:Bool):Prop:=
 match x with
 | .non=>k=false
 | .bl b=>k=b
 | .int i=>k=(i != 0)
 | .str y=>y.length<=sizeLine/\k=((y.length:Int) != 0)
 | .byt y=>y.size<=sizeLine/\k=((y.size:Int) != 0)
 | .ref p=>(∃ xs,D3 K H p xs/\k=!xs.isEmpty)\/(∃ xs,D0 K H p xs/\k=!xs.isEmpty)\/∃ kvs,H p=some (.dK kvs)/\k=!kvs.isEmpty
 | _=>False
theorem agS{κ:Type}{kvs:List (κ×V)}{vs:List (κ×Value)}(r:KV kvs vs):(!vs.isEmpty)=!kvs.isEmpty:=by
 cases r <;> rfl
theorem vH{xs:List V}{its:List Value}(r:Vals xs its):(!its.toArray.isEmpty)=!xs.isEmpty:=by
 cases r <;> simp
theorem gX:(sizeLine:Nat)<2 ^ 63:=by rw [sizeLine_eq];decide
theorem vI:TruR X (fun x H Q=>∃ k,TruV X.K x H k/\Q k H):=by
 intro pins s Y H x v Q I rx h;obtain ⟨k,e,q⟩:=h;have hl:=gX;have hs:sizeLine=16777216:=sizeLine_eq
 cases x with
 | non=>
  cases rx
  have e':k=false:=e;subst e';exact truthy_none ⟨H,I,q⟩
 | bl b=>
  cases rx
  have e':k=b:=e;subst e';exact wpAny_truthy_bool ⟨H,I,q⟩
 | int i=>
  obtain ⟨t,rfl⟩:=rx;have e':k=(i != 0):=e;subst e';exact PySem.P.truthy_int ⟨H,I,q⟩
 | str y=>
  obtain ⟨t,rfl⟩:=rx;obtain ⟨hy,e'⟩:y.length<=sizeLine/\k=((y.length:Int) != 0):=e;subst e';exact PySem.P.truthy_str (by lia) ⟨H,I.tok _,q⟩
 | byt y=>
  obtain ⟨t,rfl⟩:=rx;obtain ⟨hy,e'⟩:y.size<=sizeLine/\k=((y.size:Int) != 0):=e;subst e';exact PySem.W.truthy_bytes (by lia) ⟨H,I.tok _,q⟩
 | ref p=>
  cases rx
  have e':(∃ xs,D3 X.K H p xs/\k=!xs.isEmpty)\/(∃ xs,D0 X.K H p xs/\k=!xs.isEmpty)\/∃ kvs,H p=some (.dK kvs)/\k=!kvs.isEmpty:=e
  rcases e' with ⟨xs,hx,e'⟩ | ⟨xs,hx,e'⟩ | ⟨kvs,hx,e'⟩
  .subst e';obtain ⟨its,r,pl,hz⟩:=I.list hx;have B1:=r.length;exact wpAny_truthy_list pl.isList (by simp only [G7];lia) ⟨H,I.tok _,by rw [vH r];exact q⟩
  .subst e';obtain ⟨its,r,pl,hz⟩:=I.tuple hx;have B1:=r.length;exact truthy_tuple pl (by simp only [G7];lia) ⟨H,I.tok _,by rw [vH r];exact q⟩
  .subst e';obtain ⟨hz,hS,vs,r,m⟩:kvs.length<=sizeLine/\(p==sysModules)=false/\∃ vs,KV kvs vs/\s.heap.DictOf (N3 X.prog X.w) p vs:=I.hok p _ hx;have B1:kvs.length=vs.length:=Paired.length r;exact wpAny_truthy_dict hS m (by lia) ⟨H,I.tok _,by rw [agS r];exact q⟩
 | _=>exact (show False from e).elim
theorem ai6(ha:PE X a ta)(he:∀ whole,isTrue a X.env whole=(do let v <- whole;standAt a.pos;holding [v] (truthy v))) :
  PT X a (fun Y H Q=>ta Y H fun x H'=>∃ k,TruV X.K x H' k/\Q k H'):=by
 intro pins s Y H Q I h;exact isTrue_plain (C0 (ha pins s Y H _ I h) fun v s1 ⟨x,H1,I1,r1,q1⟩=>vI pins s1 Y H1 x v Q I1 r1 q1) (he _)
theorem agT:F8 X (binaryOp .Add) (fun x y H Q=>∃ i j,x=.str i/\y=.str j/\i.length+j.length<=sizeLine/\Q (.str (i++j)) H):=by
 intro pins s Y H x y v u Q I rx ry h;obtain ⟨i,j,rfl,rfl,hz,q⟩:=h;obtain ⟨t,rfl⟩:=rx;obtain ⟨t',rfl⟩:=ry;exact add_str (fun t' tk=>⟨.str (i++j),H,I.tok _,⟨_,rfl⟩,q⟩) hz
theorem vals1{x:V}{us:List Value}(r:Vals [x] us):∃ u,us=[u]/\RelV x u:=by
 cases r with
 | cons r1 r2=>cases r2;exact ⟨_,rfl,r1⟩
theorem vals2{x y:V}{us:List Value}(r:Vals [x,y] us):∃ u w',us=[u,w']/\RelV x u/\RelV y w':=by
 cases r with
 | cons r1 r2=>
  cases r2 with
  | cons r3 r4=>cases r4;exact ⟨_,_,rfl,r1,r3⟩
noncomputable def LenV (K:PySem.W.Frag) (x:V) (H:Hp) (n:Nat):Prop:=
 match x with
 | .str y=>y.length<=sizeLine/\n=y.length
 | .byt y=>y.size<=sizeLine/\n=y.size
 | .ref p=>(∃ xs,D3 K H p xs/\n=xs.length)\/∃ xs,D0 K H p xs/\n=xs.length
 | _=>False
theorem oM:CallR X (.builtin "len") (fun xs H Q=>∃ x n,xs=[x]/\LenV X.K x H n/\Q (.int n) H):=by
 intro pins s Y H xs us Q I r h;obtain ⟨x,n,rfl,e,q⟩:=h;obtain ⟨u,rfl,rx⟩:=vals1 r;have hl:=gX;have hs:sizeLine=16777216:=sizeLine_eq
 cases x with
 | str y=>
  obtain ⟨t,rfl⟩:=rx;obtain ⟨hy,e'⟩:y.length<=sizeLine/\n=y.length:=e;subst e';exact len_str (by lia) ⟨.int _,H,I.tok _,⟨_,rfl⟩,q⟩
 | byt y=>
  obtain ⟨t,rfl⟩:=rx;obtain ⟨hy,e'⟩:y.size<=sizeLine/\n=y.size:=e;subst e';exact PySem.W.len_bytes (by lia) ⟨.int _,H,I.tok _,⟨_,rfl⟩,q⟩
 | ref p=>
  cases rx
  have e':(∃ xs,D3 X.K H p xs/\n=xs.length)\/∃ xs,D0 X.K H p xs/\n=xs.length:=e
  rcases e' with ⟨xs,hx,e'⟩ | ⟨xs,hx,e'⟩
  .subst e';obtain ⟨its,r',pl,hz⟩:=I.list hx;have B1:=r'.length;exact Calls.call_len_list pl.isList (by simp only [G7];lia) ⟨.int xs.length,H,I.tok _,⟨_,by simp only [G7];rw [B1]⟩,q⟩
  .subst e';obtain ⟨its,r',pl,hz⟩:=I.tuple hx;have B1:=r'.length;exact len_tuple pl (by simp only [G7];lia) ⟨.int xs.length,H,I.tok _,⟨_,by simp only [G7];rw [B1]⟩,q⟩
 | _=>exact (show False from e).elim
end
end L2
namespace L2
open PySem PySem.Spec PyProof.Rows
structure ObjM(h:Heap)(x dx C:Addr)(mA:Str->Option Value):Prop where
 obj:h.get? x=some (y8 C dx)
 ns:h.Ns1 dx mA
 ne:dx≠x
theorem vJ{h:Heap}{dx:Addr}{mA:Str->Option Value}(n:h.Ns1 dx mA):∃ od,h.get? dx=some od/\∀ name,PySem.W.lookIn name od=some (mA name):=by
 obtain ⟨o,es,ep,ho,hd,hk,_,hm⟩:=n;refine ⟨o,ho,fun name=>?_⟩;have e:=hm name;unfold nsFind findBy at e;rw [<- Array.find?_toList] at e;unfold PySem.W.lookIn;rw [hd]
 dsimp only
 split
 .rename_i y q
  rw [q] at e;exact congrArg some e
 .rename_i q
  rw [q] at e;have a:es.toList.any (·.refKey)=false:=by
   rw [List.any_eq_false];intro y hy;obtain ⟨z,t,X5⟩:=hk y (Array.mem_toList_iff.mp hy);simp [DictEntry.refKey,X5]
  have a':¬ es.toList.any (·.refKey)=true:=by rw [a];exact J5
  rw [if_neg a'];exact congrArg some e
theorem ObjM.look{h:Heap}{x dx C:Addr}{mA:Str->Option Value}(I:ObjM h x dx C mA):∃ od,PySem.W.InstAt h x (y8 C dx) C (some od)/\∀ name,PySem.W.lookIn name od=some (mA name):=
 let ⟨od,ho,hl⟩:=vJ I.ns
 ⟨od,⟨I.obj,rfl,rfl,ho⟩,hl⟩
section
variable {prog:Program} {w:World} {A:Around} {E:Value->Shared->Prop} {s:Shared} {K:PySem.W.Frag} {x dx C f:Addr} {mA:Str->Option Value} {name:Str} {v:Value}
theorem akY{expr:Bool}{Q:Value->Shared->Prop}(X:K.In s.heap)(I:ObjM s.heap x dx C mA)(hg:PySem.W.plainGet K C name=true)(hh:dZ K C=true)(ha:G9 K (.ref C) name=some none)(hv:mA name=some v)(nH:PySem.W.handedIn v=true)(h:Q v { s with toks:=s.toks+1 }) :
  wpAny (model prog w) A (getAttr (.ref x) name expr) Q E s:=by
 obtain ⟨od,J,hl⟩:=I.look;exact PySem.W.get_value X J (PySem.W.plainGet_of hg).1 (PySem.W.findObj_own hh ha rfl (by rw [hl,hv])) nH h
theorem akZ{ns:List Str}{Q:Unit->Shared->Prop}(X:K.In s.heap)(I:ObjM s.heap x dx C mA)(hs:G9 K (.ref C) "__setattr__"=some (some (.builtin "object.__setattr__")))(hp:PySem.W.plainOver K C=true)(ht:PySem.W.takerIn K C name=some none)(hh:dZ K C=true)(hw:PySem.Within mA ns)(hsz:ns.length<=sizeLine)(h:∀ h',ObjM h' x dx C (fun y=>if y=name then some v else mA y)->Heap.SameBut dx s.heap h'->Q () { s with heap:=h',toks:=s.toks+2 }) :
  wpAny (model prog w) A (setAttr (.ref x) name v) Q E s:=by
 obtain ⟨od,J,hl⟩:=I.look;refine PySem.W.set_plain X J hs (PySem.W.osa_open (s:={ s with toks:=s.toks+1 }) (r:=none) X J hp ht fun b=>?_);obtain ⟨cd,hc,sH⟩:=PySem.W.any_some hh;have hx:s.heap.get? x=some ⟨.ref C,some dx,.plain,#[]⟩:=I.obj;refine wpAny_bind (wpAny_pure (wpAny_bind (wpAny_bind (wpAny_loadPart hx (wpAny_bind (PySem.W.Looks.here (s:={ s with toks:=s.toks+1 }) (PySem.W.looks_clsIn X hc) ?_))))));rw [sH];refine wpAny_pure (a:=some dx) (wpAny_bind (wpAny_pure (wpAny_bind ?_)));refine wpAny_nsSet1 (s:={ s with toks:=s.toks+1 }) I.ns fun h' nI fM=>?_
 obtain ⟨oD,esD,epD,hoD,hdD,hcD⟩:=nI.count (PySem.Within.cons name v hw);refine wpAny_bind (wpAny_lookBehind hoD (by rw [hdD];exact pastItsLine_dict (E1 hcD (by rw [J9];lia))) ?_);exact wpAny_pure (h _ ⟨(fM.2 _ (Ne.symm I.ne)).trans I.obj,nI,I.ne⟩ fM)
theorem ai7{R:Result->Shared->Prop}{vs:List Value}{kw:List (Str×Value)}(X:K.In s.heap)(hm:PySem.W.makesIn K C=true)(hi:G9 K (.ref C) "__init__"=some (some (.ref f)))(hf:PySem.W.typeIn K (.ref f)=some (.type "function"))(h:codeAny (model prog w) (A.under (.builtin "type.__call__" ⟨.ref C::vs,kw⟩)) (.call (.ref f) ⟨.ref (s.heap.objs.size+1)::vs,kw⟩) (PySem.W.InitBack (s.heap.objs.size+1) R)
   { s with heap:=(s.heap.push r0).push (y8 C s.heap.objs.size) }) :
  codeAny (model prog w) A (.call (.ref C) ⟨vs,kw⟩) R s:=by
 obtain ⟨hh,g,d,t,os⟩:=s;exact PySem.W.make_core (PySem.W.makes_of X hm) (PySem.W.looks_findIn X hi) (fun self=>PySem.W.bind_fn X self hf) (.inl rfl) h
end
noncomputable def putF (f:Str) (v:V):List (Str×V)->List (Str×V)
 | []=>[(f,v)]
 | (g,x)::r=>if g=f then (g,v)::r else (g,x)::putF f v r
theorem eF(f g:Str)(v:V):∀ fs:List (Str×V),(putF f v fs).lookup g=if g=f then some v else fs.lookup g
 | []=>by
  show List.lookup g [(f,v)]=_
  by_cases h:g=f
  .have hb:(g==f)=true:=beq_iff_eq.mpr h;simp only [List.lookup,hb,if_pos h]
  .have hb:(g==f)=false:=beq_eq_false_iff_ne.mpr h;simp only [List.lookup,hb,if_neg h]
 | (k,x)::r=>by
  have ih:=eF f g v r;rw [show putF f v ((k,x)::r)=(if k=f then (k,v)::r else (k,x)::putF f v r) from rfl]
  by_cases hk:k=f
  .rw [if_pos hk]
   by_cases h:g=k
   .have hb:(g==k)=true:=beq_iff_eq.mpr h;simp only [List.lookup,hb,if_pos (h.trans hk)]
   .have hb:(g==k)=false:=beq_eq_false_iff_ne.mpr h;simp only [List.lookup,hb,if_neg (fun e:g=f=>h (e.trans hk.symm))]
  .rw [if_neg hk]
   by_cases h:g=k
   .have hb:(g==k)=true:=beq_iff_eq.mpr h;simp only [List.lookup,hb,if_neg (fun e:g=f=>hk (h.symm.trans e))]
   .have hb:(g==k)=false:=beq_eq_false_iff_ne.mpr h;simp only [List.lookup,hb];exact ih
theorem oN(f:Str)(v:V):∀ fs:List (Str×V),f∈(putF f v fs).map (·.1)/\∀ g,g∈fs.map (·.1)->g∈(putF f v fs).map (·.1)
 | []=>⟨by simp [putF],fun g h=>by simp at h⟩
 | (k,x)::r=>by
  obtain ⟨i1,i2⟩:=oN f v r;rw [show putF f v ((k,x)::r)=(if k=f then (k,v)::r else (k,x)::putF f v r) from rfl]
  by_cases hk:k=f
  .rw [if_pos hk];subst hk;exact ⟨by simp,fun g h=>by simpa using h⟩
  .rw [if_neg hk];refine ⟨?_,fun g h=>?_⟩
   .rw [G3];exact M5 _ i1
   .rw [G3] at h ⊢
    rcases G4.mp h with e | e
    .exact G4.mpr (.inl e)
    .exact M5 _ (i2 g e)
theorem oO(f:Str)(v:V):∀ fs:List (Str×V),(putF f v fs).length<=fs.length+1
 | []=>by simp [putF]
 | (k,x)::r=>by
  have ih:=oO f v r;rw [show putF f v ((k,x)::r)=(if k=f then (k,v)::r else (k,x)::putF f v r) from rfl]
  by_cases hk:k=f
  .rw [if_pos hk,J9,J9];lia
  .rw [if_neg hk,J9,J9];lia
theorem eG{v:V}{o:Option Value}(r:RelO (some v) o):∃ u,o=some u/\RelV v u:=by
 cases o with
 | none=>exact (show False from r).elim
 | some u=>exact ⟨u,rfl,r⟩
theorem vK{v:V}{u:Value}(r:RelV v u):PySem.W.handedIn u=true:=by
 cases v with
 | non=>cases (show u=Value.none from r);rfl
 | bl b=>cases (show u=Value.bool b from r);rfl
 | int i=>obtain ⟨t,e⟩:=(show ∃ t,u=Value.int i t from r);cases e;rfl
 | str x=>obtain ⟨t,e⟩:=(show ∃ t,u=Value.str x t from r);cases e;rfl
 | byt b=>obtain ⟨t,e⟩:=(show ∃ t,u=Value.bytes b t from r);cases e;rfl
 | flt b=>obtain ⟨t,e⟩:=(show ∃ t,u=Value.float b t from r);cases e;rfl
 | ref a=>cases (show u=Value.ref a from r);rfl
 | ty n=>cases (show u=Value.type n from r);rfl
section
variable {P:Program} {w:World} {H H':Hp} {h h':Heap} {a C dx:Addr} {fs fs':List (Str×V)}
theorem oP(hok:J7 P w H h)(e:H a=some (.ins C dx fs)):∃ mA,ObjM h a dx C mA/\(∀ f,RelO (fs.lookup f) (mA f))/\PySem.Within mA (fs.map (·.1))/\fs.length<=1000/\H dx=some (.own a):=by
 obtain ⟨d,z,ne,ob,mA,n,r,q⟩:=(show ObjOk P w H h a (.ins C dx fs) from hok a _ e)
 exact ⟨mA,⟨ob,n,ne⟩,r,q,z,d⟩
end
structure Cls(K:PySem.W.Frag)(C:Addr):Prop where
 pg:PySem.W.plainGet K C Str.empty=true
 hd:dZ K C=true
 po:PySem.W.plainOver K C=true
 sa:G9 K (.ref C) "__setattr__"=some (some (.builtin "object.__setattr__"))
theorem Cls.get{K:PySem.W.Frag}{C:Addr}(c:Cls K C)(f:Str):PySem.W.plainGet K C f=true:=c.pg
noncomputable def NoAttr (K:PySem.W.Frag) (C:Addr) (f:Str):Prop:=G9 K (.ref C) f=some none
theorem NoAttr.taker{K:PySem.W.Frag}{C:Addr}{f:Str}(n:NoAttr K C f):PySem.W.takerIn K C f=some none:=by
 unfold PySem.W.takerIn;rw [show G9 K (.ref C) f=some none from n];rfl
section
variable {X:Cx} {pins:List (Addr×Obj)} {Y:St} {H:Hp} {s:Shared} {a C dx:Addr} {fs:List (Str×V)} {f:Str} {v:V} {A:Around} {E:Value->Shared->Prop}
theorem agU{b:Bool}{Q:Value->Shared->Prop}(I:Inv X pins Y H s)(e:H a=some (.ins C dx fs))(c:Cls X.K C)(n:NoAttr X.K C f)(l:fs.lookup f=some v)(h:∀ u s',Inv X pins Y H s'->RelV v u->Q u s'):wpAny (model X.prog X.w) A (getAttr (.ref a) f b) Q E s:=by
 obtain ⟨mA,O,r,_,_,_⟩:=oP I.hok e;obtain ⟨u,hu,ru⟩:=eG (v:=v) (o:=mA f) (by rw [<- l];exact r f);exact akY I.kIn O (c.get f) c.hd n hu (vK ru) (h u _ (I.tok _) ru)
theorem agV{y:V}{u:Value}{Q:Unit->Shared->Prop}(I:Inv X pins Y H s)(e:H a=some (.ins C dx fs))(c:Cls X.K C)(n:NoAttr X.K C f)(hl:fs.length<1000)(ry:RelV y u)(h:∀ s',Inv X pins Y (A0 H a (.ins C dx (putF f y fs))) s'->Q () s'):wpAny (model X.prog X.w) A (setAttr (.ref a) f u) Q E s:=by
 obtain ⟨mA,O,r,wi,_,ho⟩:=oP I.hok e;have hz:(fs.map (·.1)).length<=sizeLine:=by rw [B3,sizeLine_eq];lia
 refine akZ I.kIn O c.sa c.po n.taker c.hd wi hz fun h' O' sb=>h _ ?_
 have hd:∃ o,h'.get? dx=some o:=let ⟨o,_,_,e',_⟩:=O'.ns;⟨o,e'⟩
 refine I.write (x:=a) (e:=dx) (by rw [e];exact True.intro) (.inr ho) (fun b q hb z=>(sb.2 b hb).trans z) hd ?_;refine ⟨by rw [A7 O.ne];exact ho,?_,O.ne,O'.obj,_,O'.ns,fun g=>?_,fun g hg=>?_⟩
 .have:=oO f y fs;lia
 .show RelO ((putF f y fs).lookup g) (if g=f then some u else mA g);rw [eF]
  by_cases q:g=f
  .rw [if_pos q,if_pos q];exact ry
  .rw [if_neg q,if_neg q];exact r g
 .by_cases q:g=f
  .rw [q];exact (oN f y fs).1
  .refine (oN f y fs).2 g (wi g fun z=>hg ?_);show (if g=f then some u else mA g)=none;rw [if_neg q];exact z
theorem Inv.made(I:Inv X pins Y H s):Inv X pins Y (A0 (A0 H s.heap.objs.size (.own (s.heap.objs.size+1))) (s.heap.objs.size+1) (.ins C s.heap.objs.size []))
  { s with heap:=(s.heap.push r0).push (y8 C s.heap.objs.size) }:=by
 have e1:(s.heap.push r0).get? s.heap.objs.size=some r0:=Heap.get?_push_size s.heap rfl;have e2:((s.heap.push r0).push (y8 C s.heap.objs.size)).get? (s.heap.objs.size+1)=some (y8 C s.heap.objs.size):=by
  have:=Heap.get?_push_size (s.heap.push r0) (o:=y8 C s.heap.objs.size) rfl
  rwa [Heap.size_push] at this
 have e3:(s.heap.push r0).Ns s.heap.objs.size (fun _=>none):=⟨r0,#[],_,e1,rfl,(fun e he=>absurd he (by simp)),fun _=>rfl⟩
 have I1:=I.laid (a:=s.heap.objs.size) (o:=.own (s.heap.objs.size+1)) (h':=s.heap.push r0) (t':=s.toks) (fun b u q=>Heap.get?_push_of_some _ q) (C4 _) ⟨_,e1⟩;refine I1.laid (a:=s.heap.objs.size+1) (o:=.ins C s.heap.objs.size []) (t':=s.toks) (fun b u q=>Heap.get?_push_of_some _ q) (Nat.le_of_eq (Heap.size_push _ _)) ?_;have ne:s.heap.objs.size≠s.heap.objs.size+1:=K4 (Nat.lt_succ_self _);refine ⟨by rw [A7 ne,A6],G8 _,ne,e2,fun _=>none,(Heap.Ns1.of_empty e3).at fun o q=>Heap.get?_push_of_some _ q,fun _=>True.intro,fun y hy=>absurd rfl hy⟩
theorem vL{prog:Program}{w:World}{env:Env}{e:Expr}{f:Str}{pos:Pos}{s:Shared}{Q:Value->Shared->Prop}(hb:attributeBase e f env (eval e env)=eval e env)(h:wpAny (model prog w) A (eval e env) (fun o zt=>wpAny (model prog w) A (getAttr o f true) Q E zt) E s):wpAny (model prog w) A (eval (.Attribute e f pos) env) Q E s:=
 Attribute_any_ h (by rw [arm_eval_Attribute,hb])
end
noncomputable def tFld (K:PySem.W.Frag) (ta:TE) (f:Str):TE:=fun Y H Q=>ta Y H fun x H1=>∃ a C dx fs v,x=.ref a/\H1 a=some (.ins C dx fs)/\Cls K C/\NoAttr K C f/\fs.lookup f=some v/\Q v H1
noncomputable def sFld (K:PySem.W.Frag) (ta tv:TE) (f:Str):TS:=fun D Y H=>tv Y H fun y H1=>ta Y H1 fun x H2=>∃ a C dx fs,x=.ref a/\H2 a=some (.ins C dx fs)/\Cls K C/\NoAttr K C f/\fs.length<1000/\
 D.nx Y (A0 H2 a (.ins C dx (putF f y fs)))
noncomputable def InOp (X:Cx) (op:Operator) (rd:V->V->Hp->VK->Prop):Prop:=
 ∀ (pins:List (Addr×Obj)) (s:Shared) (Y:St) (H:Hp) (x y:V) (u v:Value) (Q:VK),Inv X pins Y H s->RelV x u->RelV y v->rd x y H Q->wpAny (model X.prog X.w) X.A (inplaceOp op u v) (EP X pins Y Q) X.xe s
section
variable {X:Cx} {o e value:Expr} {f:Str} {pos pos' tpos:Pos} {ta tv:TE}
theorem am1(he:PE X e ta)(hb:attributeBase e f X.env (eval e X.env)=eval e X.env):PE X (.Attribute e f pos) (tFld X.K ta f):=by
 intro pins s Y H Q I h;refine vL hb (C0 (he pins s Y H _ I h) fun u s1 ⟨x,H1,I1,rx,a,C,dx,fs,v,ex,ea,c,n,l,q⟩=>?_);subst ex;obtain rfl:u=Value.ref a:=rx;exact agU I1 ea c n l fun u' s2 I2 ru=>⟨v,H1,I2,ru,q⟩
theorem am2(ha:PE X o ta)(hv:PE X value tv)(hs:swapsWith value (some (.Attribute o f pos')) pos.line X.env=pure false):PS X (.Assign [.Attribute o f pos'] value pos) (sFld X.K ta tv f):=by
 intro pins s Y H D I h;refine plainObj_wpAny_Assign_Attribute (C0 (hv pins s Y H _ I h) fun u s1 ⟨y,H1,I1,ry,q⟩=>C0 (ha pins s1 Y H1 _ I1 q) fun ov s2 ⟨x,H2,I2,rx,a,C,dx,fs,ex,ea,c,n,l,q2⟩=>?_) hs;subst ex;obtain rfl:ov=Value.ref a:=rx;exact agV I2 ea c n l ry fun s3 I3=>⟨Y,_,I3,q2⟩
noncomputable def rAdd:V->V->Hp->VK->Prop:=fun x y H Q=>∃ i j,x=.int i/\y=.int j/\Q (.int (i+j)) H
noncomputable def rSub:V->V->Hp->VK->Prop:=fun x y H Q=>∃ i j,x=.int i/\y=.int j/\Q (.int (i-j)) H
theorem am3:InOp X .Add rAdd:=by
 rintro pins s Y H x y u v Q I rx ry ⟨i,j,rfl,rfl,q⟩;obtain ⟨t,rfl⟩:=(show ∃ t,u=Value.int i t from rx)
 obtain ⟨t',rfl⟩:=(show ∃ t',v=Value.int j t' from ry)
 exact PyProof.Rows.iadd_int ⟨.int (i+j),H,I.tok _,⟨_,rfl⟩,q⟩
theorem am4:InOp X .Sub rSub:=by
 rintro pins s Y H x y u v Q I rx ry ⟨i,j,rfl,rfl,q⟩;obtain ⟨t,rfl⟩:=(show ∃ t,u=Value.int i t from rx)
 obtain ⟨t',rfl⟩:=(show ∃ t',v=Value.int j t' from ry)
 exact PyProof.Rows.isub_int ⟨.int (i-j),H,I.tok _,⟨_,rfl⟩,q⟩
end
section
variable {X:Cx} {pins:List (Addr×Obj)} {Y:St} {H:Hp} {s:Shared} {A:Around} {E:Value->Shared->Prop} {Q:Value->Shared->Prop} {c:Value} {b:Bool}
inductive TyOf (K:PySem.W.Frag) (H:Hp):V->Value->Prop where
 | non:TyOf K H .non (.type "NoneType")
 | bl (x:Bool):TyOf K H (.bl x) (.type "bool")
 | int (i:Int):TyOf K H (.int i) (.type "int")
 | str (x:Str):TyOf K H (.str x) (.type "str")
 | flt (x:UInt64):TyOf K H (.flt x) (.type "float")
 | lst {a:Addr} {xs:List V} (e:H a=some (.lst xs)):TyOf K H (.ref a) (.type "list")
 | frz {a:Addr} {o:Obj} {xs:List V} (e:H a=some (.frz o (.lst xs))):TyOf K H (.ref a) (.type "list")
 | tup {a:Addr} {xs:List V} (e:H a=some (.tup xs)):TyOf K H (.ref a) (.type "tuple")
 | dK {a:Addr} {kvs:List (C2×V)} (e:H a=some (.dK kvs)):TyOf K H (.ref a) (.type "dict")
 | dT {a:Addr} {kvs:List (List C2×V)} (e:H a=some (.dT kvs)):TyOf K H (.ref a) (.type "dict")
 | ins {a C dx:Addr} {fs:List (Str×V)} (e:H a=some (.ins C dx fs)) (cl:Cls K C) (ha:G9 K (.ref C) "__class__"=some (some (.builtin "object.__class__")))
   (hn:bV K (.builtin "object.__class__") "__get__"=some (some (.builtin "getset_descriptor.__get__"))) (o4:gQ K (.builtin "object.__class__")=some true)
   (hm:M7 K C (.type "object")=some true):TyOf K H (.ref a) (.ref C)
theorem ahC{x:V}{u t:Value}(I:Inv X pins Y H s)(rx:RelV x u)(ty:TyOf X.K H x t)(e:G6 X.K t c=some b)(h:∀ tk,Q (.bool b) { s with toks:=tk }) :
  wpAny (model X.prog X.w) A (call (.builtin "isinstance") [u,c]) Q E s:=by
 cases ty with
 | non=>cases (show u=Value.none from rx);exact Y5 PySem.W.kitx_none I.kIn True.intro e (fun z=>nomatch z) h
 | bl y=>cases (show u=Value.bool y from rx);exact Y5 PySem.W.kitx_bool I.kIn True.intro e (fun z=>nomatch z) h
 | int i=>obtain ⟨t,q⟩:=(show ∃ t,u=Value.int i t from rx);cases q;exact Y5 PySem.W.kitx_int I.kIn True.intro e (fun z=>nomatch z) h
 | str y=>obtain ⟨t,q⟩:=(show ∃ t,u=Value.str y t from rx);cases q;exact Y5 PySem.W.kitx_str I.kIn True.intro e (fun z=>nomatch z) h
 | flt y=>obtain ⟨t,q⟩:=(show ∃ t,u=Value.float y t from rx);cases q;exact Y5 PySem.W.kitx_float I.kIn True.intro e (fun z=>nomatch z) h
 | @lst a xs ea=>
  cases (show u=Value.ref a from rx)
  obtain ⟨_,_,n,_,h1⟩:=(show ObjOk X.prog X.w H s.heap a (.lst xs) from I.hok a _ ea)
  exact Y5 PySem.W.kitx_list I.kIn ⟨_,h1,rfl⟩ e (fun z=>nomatch z) h
 | @frz a ob xs ea=>
  cases (show u=Value.ref a from rx)
  obtain ⟨_,_,_,n,_,h1⟩:=(show ObjOk X.prog X.w H s.heap a (.frz ob (.lst xs)) from I.hok a _ ea)
  exact Y5 PySem.W.kitx_list I.kIn ⟨_,h1,rfl⟩ e (fun z=>nomatch z) h
 | @tup a xs ea=>
  cases (show u=Value.ref a from rx)
  obtain ⟨_,_,_,p⟩:=(show ObjOk X.prog X.w H s.heap a (.tup xs) from I.hok a _ ea)
  obtain ⟨o,h1,h2,_⟩:=p;exact Y5 PySem.W.kitx_tuple I.kIn ⟨o,h1,h2⟩ e (fun z=>nomatch z) h
 | @dK a kvs ea=>
  cases (show u=Value.ref a from rx)
  obtain ⟨_,_,vs,_,p⟩:=(show ObjOk X.prog X.w H s.heap a (.dK kvs) from I.hok a _ ea)
  obtain ⟨o,es,ep,h1,h2,_⟩:=p;exact Y5 PySem.W.kitx_dict I.kIn ⟨o,h1,h2.1⟩ e (fun z=>nomatch z) h
 | @dT a kvs ea=>
  cases (show u=Value.ref a from rx)
  obtain ⟨_,_,xs,_,o,es,ep,h1,h2,_⟩:=(show ObjOk X.prog X.w H s.heap a (.dT kvs) from I.hok a _ ea)
  exact Y5 PySem.W.kitx_dict I.kIn ⟨o,h1,h2.1⟩ e (fun z=>nomatch z) h
 | @ins a C dx fs ea cl ha hn o4 hm=>
  cases (show u=Value.ref a from rx)
  obtain ⟨mA,O,_⟩:=oP I.hok ea;obtain ⟨od,J,_⟩:=O.look;exact Y5 (PySem.W.kitx_own (cl.get _) cl.hd ha hn o4 hm) I.kIn J e (fun z=>nomatch z) h
end
end L2
namespace L2
open PySem PySem.Spec PyProof.Rows
structure Room(k:Nat)(A:Around):Prop where
 hd:A.handled=none
 dp:A.depth+3*k+5<recursionLimit
 un:A.units+16*k+200<cLine
 gd:A.guards=some []
theorem Room.mono{j k:Nat}{A:Around}(r:Room k A)(h:j<=k):Room j A:=⟨r.hd,by have:=r.dp;lia,by have:=r.un;lia,r.gd⟩
theorem Room.deeper{k:Nat}{A:Around}(r:Room (k+1) A)(env:Env):Room k (A.deeper env):=
 ⟨r.hd,by have:=r.dp;show A.depth+1+3*k+5<_;lia,by have:=r.un;show A.units+3+16*k+200<_;lia,r.gd⟩
theorem agW{A:Around}{C:Addr}{us:List Value}{kw:List (Str×Value)} : (A.under (.builtin "type.__call__" ⟨.ref C::us,kw⟩)).depth=A.depth+1:=by
 first | rfl | simp [Around.under,Code.weight,Code.isCreation,Code.isGuard,Code.isCaller,Code.frames,Code.isFrame,guardIds]
theorem agX{A:Around}{C:Addr}{us:List Value}{kw:List (Str×Value)} : (A.under (.builtin "type.__call__" ⟨.ref C::us,kw⟩)).units=A.units+1:=by
 first | rfl | simp [Around.under,Code.cUnits,Code.frames,Code.isFrame]
theorem Room.make{k:Nat}{A:Around}(r:Room (k+1) A)(C:Addr)(us:List Value)(kw:List (Str×Value)):Room k (A.under (.builtin "type.__call__" ⟨.ref C::us,kw⟩)):=
 ⟨r.hd,by have:=r.dp;rw [agW];lia,by have:=r.un;rw [agX];lia,r.gd⟩
theorem Room.depth{k:Nat}{A:Around}(r:Room k A):A.depth<recursionLimit:=by have:=r.dp;lia
theorem Room.units{k:Nat}{A:Around}(r:Room k A):A.units+64<cLine:=by have:=r.un;lia
noncomputable def tNil:TA:=fun _ H Q=>Q [] H
noncomputable def tCons (ta:TE) (tr:TA):TA:=fun Y H Q=>ta Y H fun x H1=>tr Y H1 fun xs H2=>Q (x::xs) H2
section
variable {X:Cx} {e:Expr} {es:List Expr} {te:TE} {t:TA} {pos:Pos}
theorem am5:PA X [] tNil:=fun _ _ _ _ H Q I h=>Calls.spliced_nil ⟨[],H,I,.nil,h⟩
theorem ak0(ha:PE X e te)(hr:PA X es t)(hs:starEach (e::es) X.env=(false,eval e X.env)::starEach es X.env:=by rfl):PA X (e::es) (tCons te t):=by
 intro pos pins s Y H Q I h;rw [hs];show wpAny _ _ (spliced ((false,eval e X.env)::backTo pos (starEach es X.env))) _ _ s;refine Calls.spliced_cons (C0 (ha pins s Y H _ I h) fun u s1 ⟨x,H1,I1,r1,q1⟩=>?_);exact C0 (hr pos pins s1 Y H1 _ I1 q1) fun us s2 ⟨xs,H2,I2,r2,q2⟩=>⟨x::xs,H2,I2,.cons r1 r2,q2⟩
noncomputable def tTup (t:TA):TE:=fun Y H Q=>t Y H fun xs H1=>xs.length<=sizeLine/\∀ p,H1 p=none->Q (.ref p) (A0 H1 p (.tup xs))
noncomputable def tLst (t:TA):TE:=fun Y H Q=>t Y H fun xs H1=>xs.length<=sizeLine/\∀ p,H1 p=none->Q (.ref p) (A0 H1 p (.lst xs))
theorem am6{x1}(h:PA X es t):PE X (.Tuple es x1 pos) (tTup t):=by
 intro pins s Y H Q I hq;refine wpAny_Tuple_spliced (C0 (h pos pins s Y H _ I hq) fun us s1 ⟨xs,H1,I1,r,z,q⟩=>⟨by rw [<- r.length];exact z,?_⟩);have hf:H1 s1.heap.objs.size=none:=I1.hok.fresh (C4 _);refine ⟨.ref s1.heap.objs.size,A0 H1 s1.heap.objs.size (.tup xs),I1.laid (t':=s1.toks) (fun b u e=>Heap.get?_push_of_some _ e) (C4 _) ?_,rfl,q _ hf⟩;exact ⟨z,us,r,⟨_,Heap.get?_push_size _ rfl,rfl,_,rfl⟩⟩
theorem am7(h:PA X es t):PE X (.List es pos) (tLst t):=by
 intro pins s Y H Q I hq;refine wpAny_List_spliced (C0 (h pos pins s Y H _ I hq) fun us s1 ⟨xs,H1,I1,r,z,q⟩=>⟨by rw [<- r.length];exact z,?_⟩);have hf:H1 s1.heap.objs.size=none:=I1.hok.fresh (C4 _);refine ⟨.ref s1.heap.objs.size,A0 H1 s1.heap.objs.size (.lst xs),I1.laid (t':=s1.toks) (fun b u e=>Heap.get?_push_of_some _ e) (C4 _) ?_,rfl,q _ hf⟩;exact ⟨z,us,0,r,Heap.get?_push_size _ rfl⟩
end
noncomputable abbrev Sp:=List V->Hp->VK->XK->Prop
noncomputable abbrev V4:=List Env->Hp->Shared->XK->Value->Shared->Prop
structure Env0(P:Program)(w:World)(K:PySem.W.Frag)(mg:Str->Option Value)(base:Heap)(A:Around)(outer:List Env)(s:Shared)(H:Hp):Prop where
 frames:A.frames=some outer
 mod:Mod K mg base
 bs:∀ b o,base.get? b=some o->s.heap.get? b=some o/\H b=none
 bsz:base.objs.size<=s.heap.objs.size
 funs:s.heap.FunFrames base outer
 frf:∀ b∈P8 outer,H b=none
 hok:J7 P w H s.heap
 bare:AllBare s.gens
noncomputable def CE (outer:List Env) (P:Program) (w:World) (H:Hp) (s:Shared) (Q:VK) (u:Value) (s':Shared):Prop:=
 ∃ v H',s'.os=s.os/\AllBare s'.gens/\Un (P8 outer) [] H H' s.heap s'.heap/\J7 P w H' s'.heap/\RelV v u/\Q v H'
noncomputable def CR (CX:V4) (outer:List Env) (P:Program) (w:World) (H:Hp) (s:Shared) (Q:VK) (E:XK) (r:Result) (s':Shared):Prop:=
 match r with
 | .ok (.ret u)=>CE outer P w H s Q u s'
 | .ok _=>False
 | .error e=>CX outer H s E e s'
structure FnOk(P:Program)(w:World)(K:PySem.W.Frag)(mg:Str->Option Value)(base:Heap)(CX:V4)(k:Nat)(f:Addr)(fd:FuncData)(ps:List Str)(sp:Sp):Prop where
 len:∀ vs H Q E,sp vs H Q E->vs.length=ps.length
 run:∀ (A:Around) (outer:List Env) (s:Shared) (H:Hp) (args:Args) (us:List Value) (vs:List V) (Q:VK) (E:XK),Room k A->Env0 P w K mg base A outer s H->BindsTo s fd args (ps.zip us)->Vals vs us->sp vs H Q E->
  codeAny (model P w) A (.call (.ref f) args) (CR CX outer P w H s Q E) s
theorem Env0.make{P:Program}{w:World}{K:PySem.W.Frag}{mg:Str->Option Value}{base:Heap}{A:Around}{outer:List Env}{s:Shared}{H:Hp}(e:Env0 P w K mg base A outer s H)(C:Addr)(us:List Value)(kw:List (Str×Value)) :
  Env0 P w K mg base (A.under (.builtin "type.__call__" ⟨.ref C::us,kw⟩)) outer s H:=⟨by first | exact e.frames | (simpa [Around.under,Code.envs,Code.isFrame,pushEnvs] using e.frames),e.mod,e.bs,e.bsz,e.funs,e.frf,e.hok,e.bare⟩
section
variable {X:Cx} {pins:List (Addr×Obj)} {Y:St} {H:Hp} {s s':Shared}
theorem Inv.env0(I:Inv X pins Y H s):Env0 X.prog X.w X.K X.mg X.base X.A X.stack s H:=
 ⟨I.ok.frames,I.ok.mod,I.bs,E1 I.ok.bsz I.sz,I.stack,I.stkFree,I.hok,I.bare⟩
theorem Inv.after{Q:VK}{u:Value}(I:Inv X pins Y H s)(h:CE X.stack X.prog X.w H s Q u s'):EP X pins Y Q u s':=by
 obtain ⟨v,H',os,bare,un,hok,r,q⟩:=h;obtain ⟨hh,g,d,t,os'⟩:=s';obtain rfl:os'=s.os:=os;exact ⟨v,H',I.call (h':=hh) (g':=g) (d':=d) (t':=t) (ch:=[]) un hok bare (fun b z=>absurd z (by simp)),r,q⟩
end
noncomputable def tCall (sp:Sp) (dvs:List V) (E:XK) (t:TA):TE:=fun Y H Q=>t Y H fun vs H1=>sp (vs++dvs) H1 Q E
noncomputable def tMeth (C:Addr) (m:Str) (sp:Sp) (dvs:List V) (E:XK) (ta:TE) (t:TA):TE:=fun Y H Q=>ta Y H fun x H1=>∃ a dx fs,x=.ref a/\H1 a=some (.ins C dx fs)/\fs.lookup m=none/\
 t Y H1 fun vs H2=>sp (x::(vs++dvs)) H2 Q E
noncomputable def tMake (C:Addr) (sp:Sp) (dvs:List V) (E:XK) (t:TA):TE:=fun Y H Q=>t Y H fun vs H1=>∀ x dx,H1 x=none->H1 dx=none->dx≠x->
 sp (.ref x::(vs++dvs)) (A0 (A0 H1 dx (.own x)) x (.ins C dx [])) (fun v H2=>v=.non/\Q (.ref x) H2) E
noncomputable def Binds (K:PySem.W.Frag) (fd:FuncData) (ps:List Str) (ds:List Value):Prop:=
 ∀ (s:Shared) (us:List Value),K.In s.heap->(us++ds).length=ps.length->BindsTo s fd ⟨us,[]⟩ (ps.zip (us++ds))
theorem Binds.all{K:PySem.W.Frag}{fd:FuncData}{ps:List Str}(h:∀ us:List Value,us.length=ps.length->bindArgs fd ⟨us,[]⟩=pure (ps.zip us)):Binds K fd ps []:=fun s us _ hl=>by
 rw [M3] at hl ⊢
 exact .of_eq (h us hl)
noncomputable def gY (CX:V4) (X:Cx) (E:XK):Prop:=∀ (pins:List (Addr×Obj)) (Y:St) (H:Hp) (s:Shared) (e:Value) (s':Shared),Inv X pins Y H s->CX X.stack H s E e s'->X.xe e s'
section
variable {X:Cx} {CX:V4} {k:Nat} {f C:Addr} {fd:FuncData} {ps:List Str} {sp:Sp} {dvs:List V} {ds:List Value} {E:XK} {x m:Str} {p pos apos:Pos} {e o:Expr} {es:List Expr} {ta:TE} {t:TA}
theorem am8{pins:List (Addr×Obj)}{Y:St}{H:Hp}{s:Shared}{Q:VK}{us:List Value}{vs:List V}(F:FnOk X.prog X.w X.K X.mg X.base CX k f fd ps sp)(hr:Room k X.A)(hb:Binds X.K fd ps ds)(hd:Vals dvs ds)(hx:gY CX X E)(I:Inv X pins Y H s)(r:Vals vs us)(h:sp (vs++dvs) H Q E):wpAny (model X.prog X.w) X.A (call (.ref f) us) (EP X pins Y Q) X.xe s:=by
 have r2:Vals (vs++dvs) (us++ds):=r.append hd;have hl:(us++ds).length=ps.length:=by rw [<- r2.length];exact F.len _ _ _ _ h
 refine wpAny_call (codeAny_mono (F.run X.A X.stack s H ⟨us,[]⟩ (us++ds) (vs++dvs) Q E hr I.env0 (hb s us I.kIn hl) r2 h) fun r s' hq=>?_)
 cases r with
 | error e=>exact hx pins Y H s e s' I hq
 | ok fl=>
  cases fl with
  | ret u=>exact I.after hq
  | next=>exact False.elim hq
  | brk=>exact False.elim hq
  | cont=>exact False.elim hq
theorem vM(F:FnOk X.prog X.w X.K X.mg X.base CX k f fd ps sp)(hr:Room k X.A)(hg:Gl X x)(hm:X.mg x=some (.ref f))(hk:O9 X.K (.ref f)=true)(hb:Binds X.K fd ps ds)(hd:Vals dvs ds)(hx:gY CX X E)(ha:PA X (e::es) t)(K6:(x==("__debug__" : Str))=false:=by decide)(he:starEach (e::es) X.env=(false,eval e X.env)::starEach es X.env:=by rfl)(R8:(backTo pos (starEach es X.env)).any (·.1)=false:=by rfl) :
  PE X (.Call (.Name x p) (e::es) [] pos) (tCall sp dvs E t):=by
 intro pins s Y H Q I h;refine wpAny_Call_Name_kw (eC I hg hm ?_ K6);refine PySem.W.callWith_K (h₀:=X.base) I.ok.mod.kin hk (C0 (ha pos pins s Y H _ I h) fun us s1 ⟨vs,H1,I1,r,q⟩=>⟨I1.kIn,?_⟩) he R8;exact am8 F hr hb hd hx I1 r q
structure Mk(K:PySem.W.Frag)(C f:Addr):Prop where
 makes:PySem.W.makesIn K C=true
 init:G9 K (.ref C) "__init__"=some (some (.ref f))
 fn:PySem.W.isFn K (.ref f)=true
 kp:O9 K (.ref C)=true
end
noncomputable def PK (X:Cx) (kws:List Keyword) (t:TA):Prop:=
 ∀ (pos:Pos) (pins:List (Addr×Obj)) (s:Shared) (Y:St) (H:Hp) (Q:List V->Hp->Prop),Inv X pins Y H s->t Y H Q->wpAny (model X.prog X.w) X.A (evalAll ((backToKw pos (keywordEach kws X.env)).map (·.2))) (AP X pins Y Q) X.xe s
section
variable {X:Cx} {CX:V4} {k:Nat} {f C:Addr} {fd:FuncData} {ps ks:List Str} {sp:Sp} {E:XK} {x m:Str} {p pos apos kpos:Pos} {e o:Expr} {es:List Expr} {kws:List Keyword} {te ta:TE} {t tk:TA} {nm:Option Str}
theorem am9:PK X [] tNil:=fun _ _ _ _ H Q I h=>wpAny_evalAll_nil ⟨[],H,I,.nil,h⟩
theorem ak1(ha:PE X e te)(hr:PK X kws t):PK X (⟨nm,e,kpos⟩::kws) (tCons te t):=by
 intro pos pins s Y H Q I h;show wpAny _ _ (evalAll ((do let v <- eval e X.env;standAt pos;pure v)::(backToKw pos (keywordEach kws X.env)).map (·.2))) _ _ s;refine wpAny_evalAll_cons (wpAny_bind (C0 (ha pins s Y H _ I h) fun u s1 ⟨x,H1,I1,r1,q1⟩=>wpAny_bind (wpAny_standAt (wpAny_pure ?_))));exact C0 (hr pos pins s1 Y H1 _ I1 q1) fun us s2 ⟨xs,H2,I2,r2,q2⟩=>⟨x::xs,H2,I2,.cons r1 r2,q2⟩
variable {g:List Value->List Value->List Value} {gV:List V->List V->List V}
end
structure FnScope(N P:List Str)(sc:Scope):Prop where
 kind:sc.kind=.function
 co:sc.isCoroutine=false
 gen:sc.isGenerator=false
 nd:N.Nodup
 pre:N.take P.length=P
 par:∀ x∈P,sc.names.lookup x=some .local\/sc.names.lookup x=some .cell
 nofree:∀ y∈sc.names,y.2≠.free
theorem vN{kindOf:Str->Option NameKind}{x:Str} : ∀ {binds:List (Str×Value)} {m:Str->Option Value},(∀ v,(x,v)∉binds)->bindL kindOf binds m x=m x
 | [],_,_=>rfl
 | (n,v)::r,m,h=>by
  unfold bindL;rw [vN fun w hw=>h w (M5 _ hw)]
  split
  .have:x≠n:=by rintro rfl;exact h v N1
   simp [this]
  .rfl
theorem vO{kindOf:Str->Option NameKind}{x:Str} : ∀ {binds:List (Str×Value)} {m:Str->Option Value},(∀ v,(x,v)∉binds)->bindC kindOf binds m x=m x
 | [],_,_=>rfl
 | (n,v)::r,m,h=>by
  unfold bindC;rw [vO fun w hw=>h w (M5 _ hw)]
  split
  .rfl
  .have:x≠n:=by rintro rfl;exact h v N1
   simp [this]
theorem vP{kindOf:Str->Option NameKind}{x:Str}{v:Value} : ∀ {P:List Str} {vs:List Value} {i:Nat} {m:Str->Option Value},P.Nodup->P[i]?=some x->vs[i]?=some v->kindOf x=some .local->
  bindL kindOf (P.zip vs) m x=some v
 | [],_,_,_,_,h,_,_=>by simp at h
 | _::_,[],_,_,_,_,h,_=>by simp at h
 | p::P,w::vs,0,m,nd,h1,h2,hk=>by
  simp at h1 h2;subst h1;subst h2;show bindL kindOf ((p,w)::P.zip vs) m p=_;unfold bindL;rw [vN fun v hv=>(Y2.mp nd).1 (List.of_mem_zip hv).1,if_pos hk]
  simp
 | p::P,w::vs,i+1,m,nd,h1,h2,hk=>by
  show bindL kindOf ((p,w)::P.zip vs) m x=_;unfold bindL;exact vP (i:=i) (Y2.mp nd).2 (by simpa using h1) (by simpa using h2) hk
theorem vQ{kindOf:Str->Option NameKind}{x:Str}{v:Value} : ∀ {P:List Str} {vs:List Value} {i:Nat} {m:Str->Option Value},P.Nodup->P[i]?=some x->vs[i]?=some v->kindOf x≠some .local->
  bindC kindOf (P.zip vs) m x=some v
 | [],_,_,_,_,h,_,_=>by simp at h
 | _::_,[],_,_,_,_,h,_=>by simp at h
 | p::P,w::vs,0,m,nd,h1,h2,hk=>by
  simp at h1 h2;subst h1;subst h2;show bindC kindOf ((p,w)::P.zip vs) m p=_;unfold bindC;rw [vO fun v hv=>(Y2.mp nd).1 (List.of_mem_zip hv).1,if_neg hk]
  simp
 | p::P,w::vs,i+1,m,nd,h1,h2,hk=>by
  show bindC kindOf ((p,w)::P.zip vs) m x=_;unfold bindC;exact vQ (i:=i) (Y2.mp nd).2 (by simpa using h1) (by simpa using h2) hk
noncomputable def start (N:List Str) (vs:List V):St:=vs.map some++O0 (N.length-vs.length) none
noncomputable def cxOf (CX:V4) (P:Program) (w:World) (K:PySem.W.Frag) (mg:Str->Option Value) (base:Heap) (N:List Str) (qual:Str) (scope:Scope) (f:Addr) (cd:Value) (A:Around) (outer:List Env) (s:Shared) (H:Hp) (E:XK):Cx where
 prog:=P
 w:=w
 K:=K
 mg:=mg
 base:=base
 A:=A.deeper (envOfC qual scope s.heap.objs.size f cd)
 N:=N
 s₀:=s
 H₀:=H
 env:=envOfC qual scope s.heap.objs.size f cd
 outer:=outer
 stack:=envOfC qual scope s.heap.objs.size f cd::outer
 ex:=[]
 calm:=true
 fn:=fun _=>true
 pn:=[]
 xe:=fun e s'=>wpAny (model P w) (A.deeper (envOfC qual scope s.heap.objs.size f cd)) (leaving (envOfC qual scope s.heap.objs.size f cd) e) (fun _ s''=>CX outer H s E e s'') (fun e' s''=>CX outer H s E e' s'') s'
theorem vR{sc:Scope}{n:Nat}{x:Str}(h:sc.names.lookup x=some .cell):∃ c,(cellsFrom n sc.names []).lookup x=some c:=by
 have q:=PySem.W.cellsFrom_some sc.names n [] (.inl h);exact Option.isSome_iff_exists.mp q
theorem ahE{CX:V4}{P:Program}{w:World}{K:PySem.W.Frag}{mg:Str->Option Value}{base:Heap}{N ps:List Str}{qual:Str}{scope:Scope}{f:Addr}{cd:Value}{A:Around}{outer:List Env}{s s1:Shared}{H:Hp}{E:XK}{us:List Value}{vs:List V}(S:FnScope N ps scope)(hd:A.handled=none)(e0:Env0 P w K mg base A outer s H)(hl:vs.length=ps.length)(r:Vals vs us)(x:InCallC s s.heap.objs.size (bindL (envOfC qual scope s.heap.objs.size f cd).kindOf (ps.zip us) fun _=>none) (cellsFrom (s.heap.objs.size+1) scope.names []) (bindC (envOfC qual scope s.heap.objs.size f cd).kindOf (ps.zip us) fun _=>none) s1) :
  Inv (cxOf CX P w K mg base N qual scope f cd A outer s H E) [] (start N vs) H s1:=by
 have R8:ps.length<=N.length:=by have:=congrArg List.length S.pre;rw [M6] at this;lia
 obtain ⟨h1,tk,rfl,hk⟩:=x.done;have noA:∀ b:Addr,b∉(cxOf CX P w K mg base N qual scope f cd A outer s H E).ex:=fun b z=>absurd (show b∈([]:List Addr) from z) (by simp)
 refine ⟨⟨e0.mod,S.kind,rfl,rfl,C4 _,fun y z c h1 h2=>?_,fun y hy=>?_,fun y c _ h=>?_,fun _=>hd,Around.frames_deeper e0.frames,.inr ⟨rfl,rfl⟩,fun b z=>absurd z (noA b),e0.bs,e0.bsz,fun b _ _=>noA b,fun b z=>absurd z (noA b),e0.funs,e0.frf⟩,
  rfl,e0.bare,Un.kept hk,⟨_,x.toInCall.ns,fun i y v h1 h2 h3=>?_⟩,fun y c h=>⟨_,x.cell y c h⟩,e0.hok.fresh (C4 _),fun y c h=>?_,fun p hp=>absurd (show p∈([]:List (Addr×Obj)) from hp) (by simp),e0.hok.kept hk,?_⟩
 .exact name_of_addr x.apart (PySem.mem_of_lookup h1) (PySem.mem_of_lookup h2)
 .have hy:scope.names.lookup y=some .cell\/scope.names.lookup y=some .free:=hy
  rcases hy with hy | hy
  .exact vR hy
  .exact absurd rfl (S.nofree _ (PySem.mem_of_lookup hy))
 .exact Nat.le_of_lt (x.above y c (PySem.mem_of_lookup h))
 .have hi:i<vs.length:=by
   unfold start at h2
   by_cases hi:i<vs.length
   .exact hi
   .rw [kY (by simpa using hi)] at h2;rw [List.getElem?_replicate] at h2
    split at h2 <;> cases h2
  have ha:vs[i]?=some v:=by
   unfold start at h2;rw [kZ (by simpa using hi),W9] at h2;cases e:vs[i]? with
   | none=>rw [e] at h2;cases h2
   | some a=>rw [e] at h2;cases h2;rfl
  obtain ⟨u,hu,rv⟩:=r.get ha;have hp:ps[i]?=some y:=by
   rw [<- S.pre,List.getElem?_take_of_lt (by lia)];exact h1
  have ndP:ps.Nodup:=by rw [<- S.pre];exact S.nd.sublist (List.take_sublist _ _)
  refine ⟨u,rv,?_⟩
  rcases S.par y (M0 hp) with k | k
  .exact .inl ⟨k,vP ndP hp hu k⟩
  .obtain ⟨c,e⟩:=vR (n:=s.heap.objs.size+1) k;refine .inr ⟨.inl k,c,e,?_⟩;have q:=x.cell y c e;rw [vQ ndP hp hu (by show scope.names.lookup y≠_;rw [k];decide)] at q;exact q
 .exact e0.hok.fresh (Nat.le_of_lt (x.above y c (PySem.mem_of_lookup h)))
 .unfold start;show _=N.length;rw [G0,B3,List.length_replicate];lia
theorem fn_of{CX:V4}{P:Program}{w:World}{K:PySem.W.Frag}{mg:Str->Option Value}{base:Heap}{k:Nat}{f:Addr}{name qual:Str}{params:Arguments}{body:List Stmt}{scope:Scope}{dV kV doc pm cdv ct oc:Value}{an od:Option Addr}{osl:Array (Option Value)}{N ps:List Str}{sp:Sp}(lk:K.lookup f=some ⟨oc,od,.func (Q2 name qual params body scope dV kV doc pm an cdv ct),osl⟩)(Q5:U1 K cdv qual=true)(S:FnScope N ps scope)(len:∀ vs H Q E,sp vs H Q E->vs.length=ps.length)(R9:∀ (A:Around) (outer:List Env) (s:Shared) (H:Hp) (vs:List V) (Q:VK) (E:XK),Room k (A.deeper (envOfC qual scope s.heap.objs.size f cdv))->sp vs H Q E->
   ∃ t,T3 (cxOf CX P w K mg base N qual scope f cdv A outer s H E) body t/\t { nx:=fun _ H'=>Q .non H',rt:=Q } (start N vs) H) :
  FnOk P w K mg base CX (k+1) f (Q2 name qual params body scope dV kV doc pm an cdv ct) ps sp:=by
 refine ⟨len,fun A outer s H args us vs Q E hr e0 hb r o5=>?_⟩;have hl:=len _ _ _ _ o5;have KX:K.In s.heap:=e0.mod.kin.keeps fun b o e=>(e0.bs b o e).1
 have lim:s.heap.NoLimit:=e0.mod.nolimit.keeps fun b o e=>(e0.bs b o e).1
 have jI:∀ y∈ps.zip us,scope.names.lookup y.1=some .local\/(scope.names.lookup y.1=some .cell/\((cellsFrom (s.heap.objs.size+1) scope.names []).lookup y.1).isSome=true):=fun ⟨n,v⟩ hy=>by
  rcases S.par n (List.of_mem_zip hy).1 with q | q
  .exact .inl q
  .exact .inr ⟨q,PySem.W.cellsFrom_some _ _ _ (.inl q)⟩
 refine codeAny_call_function hr.depth (KX _ _ lk) rfl S.co S.gen rfl (PySem.W.codeRec_of KX Q5) (hb _ _ _ _ ?_);refine wpAny_newFunctionEnv_cells S.kind jI fun env he s1 x=>?_
 subst he;refine ⟨lim.keeps x.toInCall.keep,codeAny_func ?_⟩;obtain ⟨t,ht,hq⟩:=R9 A outer s H vs Q E (hr.deeper _) o5;have I:Inv (cxOf CX P w K mg base N qual scope f cdv A outer s H E) [] (start N vs) H s1:=ahE S hr.hd e0 hl r x;refine wpAny_mono (ht [] s1 (start N vs) H _ I hq) (fun fl s' hs=>?_) fun e s' hs=>hs
 have fin:∀ {σ':St} {H':Hp} {v:V} {u:Value},Inv (cxOf CX P w K mg base N qual scope f cdv A outer s H E) [] σ' H' s'->RelV v u->Q v H'->CE outer P w H s Q u s':=
  fun {σ' H' v u} J rv q=>⟨v,H',J.os,J.bare,J.base,J.hok,rv,q⟩
 cases fl with
 | ret u=>
  obtain ⟨v,σ',H',J,rv,q⟩:=hs;exact fin J rv q
 | next=>
  obtain ⟨σ',H',J,q⟩:=hs;exact fin (v:=V.non) (u:=Value.none) J rfl q
 | brk=>
  obtain ⟨_,_,_,q⟩:=hs;exact False.elim q
 | cont=>
  obtain ⟨_,_,_,q⟩:=hs;exact False.elim q
end L2
section
variable {C T a b dx f fa it r sl t0:PySem.Addr}{dvs vs xs ys:List L2.V}{Q:L2.VK}{cd ct oc pm u v vl vu:PySem.Value}{ck i j k m n t' x1:Nat}{items:Array PySem.Value}{fr ns:List Int}{bmB its us:List PySem.Value}{A:PySem.Around}{s s' zu:PySem.Shared}{y:L2.V}{fld name p q qual x y0 z:PySem.Str}{pins:List (PySem.Addr×PySem.Obj)}{Y:L2.St}{H H' H0 H1 H2 H3 zr:L2.Hp}{h h' h2:PySem.Heap}{L M N N' R S U acc bad cs T8 ks line loose ps ts ws zs:List PySem.Str}{K:PySem.W.Frag}{mg:PySem.Str->Option PySem.Value}{fd:PySem.FuncData}{sp:L2.Sp}{X:L2.Cx}{kvs:List (L2.C2×L2.V)}{prog:PySem.Program}{ixs:List Nat}{e elt target tg:PySem.Expr}{elts es ifs:List PySem.Expr}{g:L2.TG}{c:L2.TT}{te tl:L2.TE}{fp rs:List PySem.Addr}{apos cpos kpos spos tpos:PySem.Pos}{calm fg neg:Bool}{st:PySem.Stmt}{an od:Option PySem.Addr}{tb:L2.TS}{D:L2.Ends}{o:PySem.Obj}{ta:L2.TA}{ss:Array (Option PySem.Value)}{mo:Int}
namespace L2
open PySem PySem.Spec PyProof.Rows
section
variable {X:Cx} {x:Str} {p pos:Pos} {e:Expr} {es:List Expr} {t:TA} {id T:String} {r:List V->Hp->VK->Prop}
noncomputable def cB (r:List V->Hp->VK->Prop) (t:TA):TE:=fun Y H Q=>t Y H fun vs H1=>r vs H1 Q
theorem ai8(hc:CallR X (.builtin id) r)(hg:Gl X x)(hm:X.mg x=none)(hv:bootBuiltins x=some (.builtin id))(ha:PA X (e::es) t)(hn:x≠"__name__":=by decide)(K6:(x==("__debug__" : Str))=false:=by decide)(he:starEach (e::es) X.env=(false,eval e X.env)::starEach es X.env:=by rfl)(R8:(backTo pos (starEach es X.env)).any (·.1)=false:=by rfl):PE X (.Call (.Name x p) (e::es) [] pos) (cB r t):=by
 intro pins s Y H Q I h;refine wpAny_Call_Name_kw (bY I hg hm hv ?_ hn K6);exact PyProof.Rows.callWith_builtin1 (C0 (ha pos pins s Y H _ I h) fun us s1 ⟨vs,H1,I1,r1,q1⟩=>hc pins s1 Y H1 vs us Q I1 r1 q1) he R8
theorem ahF(hc:CallR X (.type T) r)(hg:Gl X x)(hm:X.mg x=none)(hv:bootBuiltins x=some (.type T))(ha:PA X (e::es) t)(hn:x≠"__name__":=by decide)(K6:(x==("__debug__" : Str))=false:=by decide)(he:starEach (e::es) X.env=(false,eval e X.env)::starEach es X.env:=by rfl)(R8:(backTo pos (starEach es X.env)).any (·.1)=false:=by rfl):PE X (.Call (.Name x p) (e::es) [] pos) (cB r t):=by
 intro pins s Y H Q I h;refine wpAny_Call_Name_kw (bY I hg hm hv ?_ hn K6);exact PyProof.Rows.callWith_type1 (C0 (ha pos pins s Y H _ I h) fun us s1 ⟨vs,H1,I1,r1,q1⟩=>hc pins s1 Y H1 vs us Q I1 r1 q1) he R8
end
end L2
namespace HT
open PySem PyProof.Rows
section
open PySem.SeqAt
open PySem.AutoSeq1 (wpAny_loadPart')
open PySem.MeetsSeq PySem.MeetsSeq2 PySem.MeetsSeq3
end
section
variable {prog:Program} {w:World} {A:Around} {E:Value->Shared->Prop} {s:Shared}
theorem cat_tup{t:Addr}{vs ws:List Value}{Q:Value->Shared->Prop}(ht:IsTup s.heap t vs.toArray)(hb:IsTup s.heap b ws.toArray)(hv:vs≠[])(h1:ws=[]->Q (.ref t) s)(h2:ws≠[]->Q (.ref s.heap.objs.size) { s with heap:=s.heap.push { cls:=.type "tuple",data:=.seq (vs++ws).toArray } })(hsz:vs.length+ws.length<=sizeLine):wpAny (model prog w) A (binaryOp .Add (.ref t) (.ref b)) Q E s:=by
 obtain ⟨⟨cls,dd,data,sl⟩,ho,hc,n,hd⟩:=id ht;obtain ⟨⟨cls2,dd2,data2,gZ⟩,nJ,v7,n2,T9⟩:=id hb;simp only at hc hd v7 T9;subst hc hd v7 T9;have e:vs.toArray++ws.toArray=(vs++ws).toArray:=by simp
 by_cases hw:ws=[]
 .exact concat_meets ⟨_,ho,rfl⟩ ⟨_,nJ,rfl⟩ noFill_tuple_add seq_tuple_add PySem.F.slot_tuple_add PySem.F.entry_tuple_add (PySem.F.args_tuple_add_2 _ _)
   (tuple_addW1 t b vs.toArray ws.toArray n n2 dd dd2 sl gZ (by simpa using hv) (by simp [hw])) ⟨ho,nJ,h1 hw⟩
 .refine concat_meets ⟨_,ho,rfl⟩ ⟨_,nJ,rfl⟩ noFill_tuple_add seq_tuple_add PySem.F.slot_tuple_add PySem.F.entry_tuple_add (PySem.F.args_tuple_add_2 _ _)
   (tuple_addW2 t b vs.toArray ws.toArray n n2 dd dd2 sl gZ (by simpa using hv) (by simpa using hw) (by rw [G7,G7];exact hsz)) ⟨ho,nJ,?_⟩
  rw [e];exact h2 hw
noncomputable def sIx (n d:Nat):Option Int->Nat
 | none=>d
 | some v=>if v<0 then (v+(n:Int)).toNat else min v.toNat n
theorem sIx_nat(n d k:Nat):sIx n d (some (k:Int))=min k n:=by
 show (if (k:Int)<0 then ((k:Int)+(n:Int)).toNat else min (k:Int).toNat n)=min k n;rw [if_neg (by lia),Int.toNat_natCast]
theorem sIx_le(n d:Nat)(hd:d<=n)(o:Option Int):sIx n d o<=n:=by
 cases o with
 | none=>exact hd
 | some v=>
  show (if v<0 then (v+(n:Int)).toNat else min v.toNat n)<=n
  by_cases hv:v<0
  .rw [if_pos hv];lia
  .rw [if_neg hv];exact Nat.min_le_right _ _
theorem clip_eq(v:Int)(n d:Nat):(if v<0 then max (v+(n:Int)) 0 else min v (n:Int))=((sIx n d (some v):Nat):Int):=by
 show (if v<0 then max (v+(n:Int)) 0 else min v (n:Int))=(((if v<0 then (v+(n:Int)).toNat else min v.toNat n):Nat):Int)
 by_cases hv:v<0
 .simp only [if_pos hv];lia
 .simp only [if_neg hv];lia
theorem agY(lo hi:Option Int)(n:Nat):Builtin.Slice.sliceAdjust lo hi 1 (n:Int)=(((sIx n 0 lo:Nat):Int),((sIx n n hi:Nat):Int)):=by
 have h1:¬ ((1:Int)<0):=by lia
 unfold Builtin.Slice.sliceAdjust;simp only [h1,if_false];refine Prod.ext ?_ ?_
 .cases lo with
  | none=>rfl
  | some v=>exact clip_eq v n 0
 .cases hi with
  | none=>rfl
  | some v=>exact clip_eq v n n
theorem agZ(i j:Nat):Builtin.Slice.slicePlaces (i:Int) (j:Int) 1=j-i:=by
 unfold Builtin.Slice.slicePlaces;have h1:(1:Int) > 0:=by lia
 simp only [h1,if_true,Int.ediv_one]
 split <;> lia
theorem vS{o:Option Int}{Q:Option Int->Shared->Prop}(p:IsPart v o)(h:Q o s):wpAny (model prog w) A (Builtin.Slice.slicePartIndex v) Q E s:=by
 cases p with
 | none=>exact slicePart_none h
 | int i t=>exact slicePart_int h
theorem sliceApplied_gen{lo hi:Option Int}{Q:Int×Int×Nat->Shared->Prop}(hs:s.heap.IsSliceOf sl vl vu .none)(pl:IsPart vl lo)(pu:IsPart vu hi)(h:Q (((sIx n 0 lo:Nat):Int),1,sIx n n hi-sIx n 0 lo) s):wpAny (model prog w) A (Builtin.Slice.sliceApplied (.ref sl) (pure (n:Int))) Q E s:=by
 obtain ⟨os,cZ,nK,jJ⟩:=id hs;unfold Builtin.Slice.sliceApplied Builtin.Slice.sliceFields;refine wpAny_bind (wpAny_bind (wpAny_field cZ jJ (x:=vl) rfl (wpAny_bind (wpAny_field cZ jJ (x:=vu) rfl (wpAny_bind (wpAny_field cZ jJ (x:=.none) rfl (wpAny_pure ?_)))))));refine wpAny_bind (slicePart_none ?_);show wpAny _ _ (if ((1:Int)==0)=true then _ else _) _ _ s;rw [if_neg (by decide)];refine wpAny_bind (vS pl (wpAny_bind (vS pu (wpAny_bind (wpAny_pure ?_)))));show wpAny _ _ (match Builtin.Slice.sliceAdjust lo hi 1 (n:Int) with | (lo,hi)=>pure (lo,(1:Int),Builtin.Slice.slicePlaces lo hi 1)) _ _ s;rw [agY lo hi n];show wpAny _ _ (pure (((sIx n 0 lo:Nat):Int),(1:Int),Builtin.Slice.slicePlaces ((sIx n 0 lo:Nat):Int) ((sIx n n hi:Nat):Int) 1)) _ _ s;rw [agZ];exact wpAny_pure h
theorem ai9(xs:Array Value)(i k:Nat):((V2 k).filterMap fun (m:Nat)=>xs[((i:Int)+(m:Int)*1).toNat]?).toArray=((xs.toList.drop i).take k).toArray:=by
 have e:(fun (m:Nat)=>xs[((i:Int)+(m:Int)*1).toNat]?)=fun m=>xs[i+m]?:=by
  funext m
  have:((i:Int)+(m:Int)*1).toNat=i+m:=by lia
  rw [this]
 rw [e]
 have:=pick_run xs i k
 rw [List.filterMap_map] at this;have e2:((fun x=>xs[x]?)∘fun x=>i+x)=fun m=>xs[i+m]?:=rfl
 rw [e2] at this;rw [this]
theorem getItem_tuple_cut{t:Addr}{lo hi:Option Int}{Q:Value->Shared->Prop}(ht:IsTup s.heap t items)(hs:s.heap.IsSliceOf sl vl vu .none)(pl:IsPart vl lo)(pu:IsPart vu hi)(hw:¬ (sIx items.size 0 lo=0/\sIx items.size items.size hi=items.size))(h:Q (.ref s.heap.objs.size) { s with heap:=s.heap.push { cls:=.type "tuple",data:=.seq ((items.toList.drop (sIx items.size 0 lo)).take (sIx items.size items.size hi-sIx items.size 0 lo)).toArray } })(hsz:items.size<=sizeLine):wpAny (model prog w) A (getItem (.ref t) (.ref sl)) Q E s:=by
 have W2:sizeOk (.seq ((items.toList.drop (sIx items.size 0 lo)).take (sIx items.size items.size hi-sIx items.size 0 lo)).toArray):=by
  show ((items.toList.drop (sIx items.size 0 lo)).take (sIx items.size items.size hi-sIx items.size 0 lo)).toArray.size<=sizeLine;rw [G7,M6,k6,bX];lia
 have hj:sIx items.size items.size hi<=items.size:=sIx_le _ _ (C4 _) hi;obtain ⟨os,cZ,nK,jJ⟩:=id hs;have hTs:s.TypeIs (.ref sl) "slice":=⟨os,cZ,nK⟩
 unfold getItem
 try with_reducible refine wpAny_holding ?_
 first | refine wpAny_bind (wpAny_pure ?_) | skip
 refine wpAny_bind (wpAny_sequenceKey ht.typeIs (by decide) ?_);refine wpAny_bind (wpAny_callSpecial?_slot (name:=Str.ofString "__getitem__") ht.typeIs PyProof.Rows.slot_tuple_getitem
  (wpAny_call_entry PyProof.Rows.slot_tuple_getitem ht.typeIs entry_tuple_getitem ?_ (args_tuple_getitem _ _)))
 show wpAny _ _ (Builtin.Tuple.tupleItemsOf (.ref t) >>= _) _ _ s;refine wpAny_bind (tupleItemsOf_ ht ?_);refine wpAny_bind (wpAny_typeOf hTs ?_);rw [if_pos (by decide)];refine wpAny_bind (sliceApplied_gen hs pl pu ?_);have i4:¬ ((((sIx items.size 0 lo:Nat):Int)==0&&(1:Int)==1&&(sIx items.size items.size hi-sIx items.size 0 lo)==items.size)=true):=by
  intro q;rw [R1,R1] at q;have q1:((sIx items.size 0 lo:Nat):Int)=0:=eq_of_beq q.1.1;have q2:sIx items.size items.size hi-sIx items.size 0 lo=items.size:=eq_of_beq q.2;exact hw ⟨by lia,by lia⟩
 show wpAny _ _ (if (((sIx items.size 0 lo:Nat):Int)==0&&(1:Int)==1&&(sIx items.size items.size hi-sIx items.size 0 lo)==items.size)=true then _ else _) _ _ s;rw [if_neg i4,ai9]
 first
  | exact wpAny_bind (m:=Builtin.Tuple.tupleExact _) (wpAny_newObj_type (wpAny_pure ⟨_,rfl,wpAny_pure h⟩) W2)
  | exact wpAny_bind (m:=Builtin.Tuple.tupleExact _) (wpAny_newObj_type (wpAny_bind (wpAny_pure (wpAny_pure ⟨_,rfl,wpAny_pure h⟩))) W2)
  | exact wpAny_bind (wpAny_bind (m:=Builtin.Tuple.tupleExact _) (wpAny_newObj_type (wpAny_pure (wpAny_pure ⟨_,rfl,wpAny_pure h⟩)) W2))
  | exact wpAny_bind (wpAny_bind (m:=Builtin.Tuple.tupleExact _) (wpAny_newObj_type (wpAny_pure ⟨_,rfl,wpAny_pure h⟩) W2))
end
end HT
namespace L2
open PySem PySem.Spec PyProof.Rows
noncomputable abbrev TO:=St->Hp->(Option Int->Hp->Prop)->Prop
noncomputable def PO (X:Cx) (e:Option Expr) (t:TO):Prop:=
 ∀ (pins:List (Addr×Obj)) (s:Shared) (Y:St) (H:Hp) (Q:Option Int->Hp->Prop),Inv X pins Y H s->t Y H Q->
  wpAny (model X.prog X.w) X.A (evalPart e X.env) (fun u s'=>∃ o H',Inv X pins Y H' s'/\IsPart u o/\Q o H') X.xe s
noncomputable def oQ:TO:=fun _ H Q=>Q none H
noncomputable def tPart (t:TE):TO:=fun Y H Q=>t Y H fun x H1=>∃ i,x=.int i/\Q (some i) H1
theorem vT : ∀ {us:List Value},Vals (ns.map V.int) us->IntsAre us ns:=by
 induction ns with
 | nil=>intro us r;rw [d2] at r;cases r;exact .nil
 | cons n ns ih=>
  intro us r;rw [G3] at r
  cases r with
  | cons r1 r2=>
   obtain ⟨t,e⟩:=r1;subst e;exact .cons n t (ih r2)
section
variable {X:Cx} {e:Expr} {te:TE} {lo hi:Option Expr} {tl th:TO} {pos p2:Pos}
theorem ak2:PO X none oQ:=by
 intro pins s Y H Q I h;rw [evalPart_none];exact wpAny_pure ⟨none,H,I,.none,h⟩
theorem ak3(h:PE X e te):PO X (some e) (tPart te):=by
 intro pins s Y H Q I hw;rw [evalPart_some];refine C0 (h pins s Y H _ I hw) fun u s1 ⟨x,H1,I1,r1,q1⟩=>?_
 obtain ⟨i,rfl,q⟩:=q1;obtain ⟨t,rfl⟩:=r1;exact ⟨some i,H1,I1,.int i t,q⟩
noncomputable def eI (X:Cx) (r:V->Option Int->Option Int->Hp->VK->Prop):Prop:=
 ∀ (pins:List (Addr×Obj)) (s:Shared) (Y:St) (H:Hp) (x:V) (v vl vu:Value) (lo hi:Option Int) (sl:Addr) (Q:VK),Inv X pins Y H s->RelV x v->s.heap.IsSliceOf sl vl vu .none->IsPart vl lo->IsPart vu hi->r x lo hi H Q->
  ∃ T id,typeLookup (.type T) "__getitem__"=pure (some (.builtin id))/\s.TypeIs v T/\wpAny (model X.prog X.w) X.A (getItem v (.ref sl)) (EP X pins Y Q) X.xe s
noncomputable def oR (r:V->Option Int->Option Int->Hp->VK->Prop) (te:TE) (tl th:TO):TE:=fun Y H Q=>te Y H fun x H1=>tl Y H1 fun l H2=>th Y H2 fun u H3=>r x l u H3 Q
theorem aja{r:V->Option Int->Option Int->Hp->VK->Prop}(hr:eI X r)(he:PE X e te)(hl:PO X lo tl)(hu:PO X hi th):PE X (.Subscript e (.Slice lo hi none p2) pos) (oR r te tl th):=by
 intro pins s Y H Q I h;refine Subscript_ (C0 (he pins s Y H _ I h) fun v s1 ⟨x,H1,I1,r1,q1⟩=>?_);refine wpAny_Slice (C0 (hl pins s1 Y H1 _ I1 q1) fun vl s2 ⟨l,H2,I2,pl,q2⟩=>C0 (hu pins s2 Y H2 _ I2 q2) fun vu s3 ⟨u,H3,I3,pu,q3⟩=>?_);rw [evalPart_none];refine wpAny_pure ?_;have I4:Inv X pins Y H3 { s3 with heap:=s3.heap.push { cls:=.type "slice",data:=.fields #[vl,vu,.none] } }:=I3.kept (t':=s3.toks) fun b ob q=>Heap.get?_push_of_some _ q
 obtain ⟨T,id,hT,ht,hg⟩:=hr pins { s3 with heap:=s3.heap.push { cls:=.type "slice",data:=.fields #[vl,vu,.none] } } Y H3 x v vl vu l u s3.heap.objs.size Q I4 r1 (Heap.IsSliceOf.new ..) pl pu q3;show wpAny (model X.prog X.w) X.A (subscriptTail e (.Slice lo hi none p2) v (.ref s3.heap.objs.size)) (EP X pins Y Q) X.xe { s3 with heap:=s3.heap.push { cls:=.type "slice",data:=.fields #[vl,vu,.none] } };exact tail_any (ops:=[.ref s3.heap.objs.size,v]) ht hT hg (by with_unfolding_all rfl)
noncomputable def cutV (xs:List V) (lo hi:Option Int):List V:=(xs.drop (HT.sIx xs.length 0 lo)).take (HT.sIx xs.length xs.length hi-HT.sIx xs.length 0 lo)
theorem vU(xs:List V)(lo hi:Option Int):(cutV xs lo hi).length<=xs.length:=by
 unfold cutV;rw [M6,k6];lia
noncomputable def rSlT (K:PySem.W.Frag):V->Option Int->Option Int->Hp->VK->Prop:=fun x lo hi H Q=>∃ a xs,x=.ref a/\D0 K H a xs/\
 ¬ (HT.sIx xs.length 0 lo=0/\HT.sIx xs.length xs.length hi=xs.length)/\∀ p,H p=none->Q (.ref p) (A0 H p (.tup (cutV xs lo hi)))
theorem ana:eI X (rSlT X.K):=by
 intro pins s Y H x v vl vu lo hi sl Q I rx hs pl pu h;obtain ⟨a,xs,rfl,hx,hw,q⟩:=h
 cases rx
 obtain ⟨its,r,ht,hz⟩:=I.tuple hx;have B1:its.toArray.size=xs.length:=by rw [G7];exact r.length.symm
 refine ⟨"tuple",_,PyProof.Rows.slot_tuple_getitem.lookup,ht.typeIs,?_⟩;refine HT.getItem_tuple_cut ht hs pl pu (by rw [B1];exact hw) ?_ (by rw [B1];exact hz);rw [B1];refine ⟨.ref s.heap.objs.size,_,I.laid (t':=s.toks) (o:=.tup (cutV xs lo hi)) (fun b ob q=>Heap.get?_push_of_some _ q) (C4 _) ?_,rfl,q _ (I.hok.fresh (C4 _))⟩;exact ⟨E1 (vU xs lo hi) hz,_,(r.drop (HT.sIx xs.length 0 lo)).take (HT.sIx xs.length xs.length hi-HT.sIx xs.length 0 lo),IsTup.new _ _⟩
noncomputable def rCatT (K:PySem.W.Frag):R2:=fun x y H Q=>∃ a b xs ys,x=.ref a/\y=.ref b/\D0 K H a xs/\D0 K H b ys/\xs≠[]/\xs.length+ys.length<=sizeLine/\
 (ys=[]->Q (.ref a) H)/\(ys≠[]->∀ p,H p=none->Q (.ref p) (A0 H p (.tup (xs++ys))))
theorem Vals.nil_iff(r:Vals xs us):us=[]↔xs=[]:=by
 cases r with
 | nil=>simp
 | cons _ _=>simp
theorem ak4:F8 X (binaryOp .Add) (rCatT X.K):=by
 intro pins s Y H x y v u Q I rx ry h;obtain ⟨a,b,xs,ys,rfl,rfl,ha,hb,hx,hz,q1,q2⟩:=h
 cases rx
 cases ry
 obtain ⟨its,r1,p1,_⟩:=I.tuple ha;obtain ⟨its2,r2,p2,_⟩:=I.tuple hb;refine HT.cat_tup p1 p2 (fun z=>hx (r1.nil_iff.mp z)) (fun z=>⟨.ref a,H,I,rfl,q1 (r2.nil_iff.mp z)⟩) (fun z=>?_) (by rw [<- r1.length,<- r2.length];exact hz);refine ⟨.ref s.heap.objs.size,_,I.laid (t':=s.toks) (o:=.tup (xs++ys)) (fun b ob q=>Heap.get?_push_of_some _ q) (C4 _) ?_,rfl,q2 (fun w=>z (r2.nil_iff.mpr w)) _ (I.hok.fresh (C4 _))⟩;exact ⟨by rw [G0];exact hz,_,r1.append r2,IsTup.new _ _⟩
end
end L2
namespace L2
open PySem PySem.Spec PyProof.Rows
noncomputable def Y8 (n:Nat) (i:Int):Option Nat:=if 0<=i then (if i<n then some i.toNat else none) else if -(n:Int)<=i then some (i+n).toNat else none
noncomputable def J3 {α:Type} (xs:List α) (i:Int):Option α:=(Y8 xs.length i).bind fun j=>xs[j]?
theorem ak5{i:Int}(h:Y8 n i=some j):seqIndex? i n=some j/\j<n/\-(n:Int)<=i/\i<n:=by
 unfold Y8 at h
 by_cases h0:0<=i
 .rw [if_pos h0] at h
  by_cases h1:i<n
  .rw [if_pos h1] at h;have e:i.toNat=j:=Option.some.inj h;exact ⟨by rw [seqIndex_of h0 h1,e],by lia,by lia,h1⟩
  .rw [if_neg h1] at h;cases h
 .rw [if_neg h0] at h
  by_cases h1:-(n:Int)<=i
  .rw [if_pos h1] at h;have e:(i+n).toNat=j:=Option.some.inj h;exact ⟨by rw [seqIndex_neg (by lia) h1,e],by lia,h1,by lia⟩
  .rw [if_neg h1] at h;cases h
theorem oS{α:Type}{xs:List α}{i:Int}{v:α}(h:J3 xs i=some v):∃ j,seqIndex? i xs.length=some j/\xs[j]?=some v/\j<xs.length/\-(xs.length:Int)<=i/\i<xs.length:=by
 unfold J3 at h;cases e:Y8 xs.length i with
 | none=>rw [e] at h;cases h
 | some j=>
  rw [e] at h;obtain ⟨h1,h2,h3,h4⟩:=ak5 e;exact ⟨j,h1,h,h2,h3,h4⟩
theorem l7{α:Type}{xs:List α}{v:α}(h:xs[j]?=some v):J3 xs (j:Int)=some v:=by
 have hj:j<xs.length:=(F6.mp h).1;have e:Y8 xs.length (j:Int)=some j:=by
  unfold Y8;rw [if_pos (by lia),if_pos (by lia)];simp
 unfold J3;rw [e];exact h
theorem ajb{α:Type}(xs:List α)(v:α):J3 (xs++[v]) (-1)=some v:=by
 have hl:(xs++[v]).length=xs.length+1:=by simp
 have e:Y8 (xs++[v]).length (-1)=some xs.length:=by
  unfold Y8;rw [hl,if_neg (by decide),if_pos (by lia)]
  congr 1
  lia
 unfold J3;rw [e];show (xs++[v])[xs.length]?=some v
 simp
noncomputable def vV (b:Expr):Prop:=∀ o i,subscripted b false o i=operate [o,i] (getItem o i)
noncomputable def u0 (X:Cx) (r:R2):Prop:=
 ∀ (value slice:Expr) (pins:List (Addr×Obj)) (s:Shared) (Y:St) (H:Hp) (x y:V) (v u:Value) (Q:VK),Inv X pins Y H s->RelV x v->RelV y u->r x y H Q->
  subscripted slice false v u=operate [v,u] (getItem v u)->wpAny (model X.prog X.w) X.A (subscriptTail value slice v u) (EP X pins Y Q) X.xe s
noncomputable def lG (X:Cx) (id:String) (r:V->List V->Hp->VK->Prop):Prop:=
 ∀ (pins:List (Addr×Obj)) (s:Shared) (Y:St) (H:Hp) (x:V) (xs:List V) (v:Value) (us:List Value) (Q:VK),Inv X pins Y H s->RelV x v->Vals xs us->r x xs H Q->
  wpAny (model X.prog X.w) X.A (call (.builtin id) (v::us)) (EP X pins Y Q) X.xe s
section
variable {X:Cx} {a b:Expr} {ta tb:TE} {pos:Pos}
theorem u0.or{r r':R2}(h:u0 X r)(h':u0 X r'):u0 X (fun x y H Q=>r x y H Q\/r' x y H Q):=by
 intro value slice pins s Y H x y v u Q I rx ry q hs
 rcases q with q | q
 .exact h value slice pins s Y H x y v u Q I rx ry q hs
 .exact h' value slice pins s Y H x y v u Q I rx ry q hs
theorem pe_ix{r:R2}(hr:u0 X r)(ha:PE X a ta)(hb:PE X b tb)(hs:vV b):PE X (.Subscript a b pos) (t5 r ta tb):=by
 intro pins s Y H Q I h;exact Subscript_ (binT ha hb I h fun v u s2 x y H2 I2 rx ry q=>hr a b pins s2 Y H2 x y v u Q I2 rx ry q (hs _ _))
noncomputable def rIxL (K:PySem.W.Frag):R2:=fun x y H Q=>∃ p xs i v,x=.ref p/\y=.int i/\D3 K H p xs/\J3 xs i=some v/\Q v H
noncomputable def rIxT (K:PySem.W.Frag):R2:=fun x y H Q=>∃ p xs i v,x=.ref p/\y=.int i/\D0 K H p xs/\J3 xs i=some v/\Q v H
noncomputable def rIxS:R2:=fun x y H Q=>∃ z i c,x=.str z/\y=.int i/\z.length<=sizeLine/\J3 z.cps.toList i=some c/\Q (.str ⟨#[c]⟩) H
theorem ix_list:u0 X (rIxL X.K):=by
 intro value slice pins s Y H x y v u Q I rx ry h hs;obtain ⟨p,xs,i,z,rfl,rfl,hq,he,q⟩:=h
 cases rx
 obtain ⟨t,rfl⟩:=ry;obtain ⟨its,r,pl,hz⟩:=I.list hq;obtain ⟨j,h1,h2,h3,h4,h5⟩:=oS he;obtain ⟨w,ew,rw'⟩:=r.get h2;have hl:=r.length;have hn:=gX;have fin:EP X pins Y Q w s:=⟨z,H,I,rw',q⟩
 by_cases h0:0<=i
 .have hj:i.toNat=j:=by
   rw [seqIndex_of h0 h5] at h1;exact Option.some.inj h1
  exact item_listR pl.isList h0 (by lia) (by rw [hj];simpa using ew) fin hs
 .have hj:(i+(its.toArray.size:Int)).toNat=j:=by
   rw [seqIndex_neg (by lia) h4] at h1;rw [G7,<- hl];exact Option.some.inj h1
  exact subscriptTail_builtinR (x:=w) pl.isList.typeIs slot_list_getitem.lookup
   (wpAny_getItem_list_neg (Q:=fun r s'=>r=w/\EP X pins Y Q r s') pl.isList (by lia) (by rw [G7] <;> lia) (by lia) (by rw [hj];simpa using ew) ⟨rfl,fin⟩) hs
theorem ix_tup:u0 X (rIxT X.K):=by
 intro value slice pins s Y H x y v u Q I rx ry h hs;obtain ⟨p,xs,i,z,rfl,rfl,hq,he,q⟩:=h
 cases rx
 obtain ⟨t,rfl⟩:=ry;obtain ⟨its,r,pl,hz⟩:=I.tuple hq;obtain ⟨j,h1,h2,h3,h4,h5⟩:=oS he;obtain ⟨w,ew,rw'⟩:=r.get h2;have hl:=r.length;have hn:=gX;have fin:EP X pins Y Q w s:=⟨z,H,I,rw',q⟩
 exact subscriptTail_builtinR (x:=w) pl.typeIs slot_tuple_getitem.lookup
  (getItem_tuple (j:=j) (Q:=fun r s'=>r=w/\EP X pins Y Q r s') pl (by lia) (by lia) (by rw [G7,<- hl];exact h1) (by simpa using ew) ⟨rfl,fin⟩) hs
theorem anb:u0 X rIxS:=by
 intro value slice pins s Y H x y v u Q I rx ry h hs;obtain ⟨z,i,c,rfl,rfl,hz,he,q⟩:=h;obtain ⟨t,rfl⟩:=rx;obtain ⟨t',rfl⟩:=ry;obtain ⟨j,h1,h2,h3,h4,h5⟩:=oS he;have hl:z.cps.toList.length=z.length:=by simp [Str.length]
 rw [hl] at h1 h4 h5;have hn:=gX;exact tail_any (typeIs_str s z t) slot_str_getitem.lookup (getItem_str (c:=c) (by
  have e1:decide (i < -(2 ^ 63:Int))=false:=decide_eq_false (by lia);have e2:decide (i≥2 ^ 63)=false:=decide_eq_false (by lia);rw [e1,e2,Bool.or_false]) (by rw [h1];simpa using h2) ⟨.str ⟨#[c]⟩,H,I.tok _,⟨_,rfl⟩,q⟩) hs
noncomputable def eJ (K:PySem.W.Frag):R2:=fun x y H Q=>rIxL K x y H Q\/rIxT K x y H Q\/rIxS x y H Q
theorem anc:u0 X (eJ X.K):=ix_list.or (ix_tup.or anb)
theorem aeW(lo hi:Option Int)(n:Nat):(sliceBounds lo hi none n).1=((HT.sIx n 0 lo:Nat):Int)/\(sliceBounds lo hi none n).2.1=((HT.sIx n n hi:Nat):Int)/\(sliceBounds lo hi none n).2.2=1:=by
 refine ⟨?_,?_,rfl⟩
 .cases lo with
  | none=>simp [sliceBounds,HT.sIx]
  | some i=>
   simp only [sliceBounds,HT.sIx,Option.getD_none,show (1:Int) > 0 by decide,if_true]
   by_cases h:i<0
   .simp only [h,if_true] <;> lia
   .simp only [h,if_false] <;> lia
 .cases hi with
  | none=>simp [sliceBounds,HT.sIx]
  | some i=>
   simp only [sliceBounds,HT.sIx,Option.getD_none,show (1:Int) > 0 by decide,if_true]
   by_cases h:i<0
   .simp only [h,if_true] <;> lia
   .simp only [h,if_false] <;> lia
theorem aen(its:List Value)(lo hi:Option Int):slicePick its.toArray lo hi none=((its.drop (HT.sIx its.length 0 lo)).take (HT.sIx its.length its.length hi-HT.sIx its.length 0 lo)).toArray:=by
 obtain ⟨h1,h2,h3⟩:=aeW lo hi its.toArray.size;unfold slicePick;rw [h1,h2,h3];simp only [sliceRange_one,pick_run,G7] <;> rfl
noncomputable def rSlL (K:PySem.W.Frag):V->Option Int->Option Int->Hp->VK->Prop:=fun x lo hi H Q=>∃ a xs,x=.ref a/\D3 K H a xs/\∀ p,H p=none->Q (.ref p) (A0 H p (.lst (cutV xs lo hi)))
theorem ak6:eI X (rSlL X.K):=by
 intro pins s Y H x v vl vu lo hi sl Q I rx hs pl pu h;obtain ⟨a,xs,rfl,hx,q⟩:=h
 cases rx
 obtain ⟨its,r,ht,hz⟩:=I.list hx;have B1:=r.length;refine ⟨"list",_,slot_list_getitem.lookup,ht.isList.typeIs,?_⟩;refine wpAny_getItem_list_slice ht.isList hs pl pu .none (by simp) ?_ (by rw [G7] <;> lia);rw [aen,<- B1];refine ⟨.ref s.heap.objs.size,_,I.laid (t':=s.toks) (o:=.lst (cutV xs lo hi)) (fun b ob q=>Heap.get?_push_of_some _ q) (C4 _) ?_,rfl,q _ (I.hok.fresh (C4 _))⟩;exact ⟨E1 (vU xs lo hi) hz,_,0,(r.drop (HT.sIx xs.length 0 lo)).take (HT.sIx xs.length xs.length hi-HT.sIx xs.length 0 lo),Heap.get?_push_size _ rfl⟩
noncomputable def flatV:V->Bool
 | .non=>true
 | .bl _=>true
 | .int _=>true
 | .str _=>true
 | _=>false
noncomputable def aB:V->V->Bool
 | .non,.non=>true
 | .bl a,.bl b=>a==b
 | .bl a,.int b=>(if a then 1 else 0)==b
 | .int a,.bl b=>a==(if b then 1 else 0)
 | .int a,.int b=>a==b
 | .str a,.str b=>a==b
 | _,_=>false
theorem ane{x:V}(ry:RelV y u)(rx:RelV x v)(fy:flatV y=true)(fx:flatV x=true):SeqAt.EqAt A s u v (aB y x):=by
 cases y with
 | non=>
  cases ry
  cases x with
  | non=>cases rx;exact SeqAt.EqAt.same _
  | bl b=>cases rx;exact SeqAt.EqAt.none_bool b
  | int b=>obtain ⟨t,rfl⟩:=rx;exact SeqAt.EqAt.none_int b t
  | str b=>obtain ⟨t,rfl⟩:=rx;exact SeqAt.EqAt.none_str b t
  | _=>exact absurd (show false=true from fx) J5
 | bl a=>
  cases ry
  cases x with
  | non=>cases rx;exact SeqAt.EqAt.bool_none a
  | bl b=>cases rx;exact SeqAt.EqAt.bool_bool a b
  | int b=>obtain ⟨t,rfl⟩:=rx;exact SeqAt.EqAt.bool_int a b t
  | str b=>obtain ⟨t,rfl⟩:=rx;exact SeqAt.EqAt.bool_str a b t
  | _=>exact absurd (show false=true from fx) J5
 | int a=>
  obtain ⟨t',rfl⟩:=ry
  cases x with
  | non=>cases rx;exact SeqAt.EqAt.int_none a t'
  | bl b=>cases rx;exact SeqAt.EqAt.int_bool a t' b
  | int b=>obtain ⟨t,rfl⟩:=rx;exact SeqAt.EqAt.int_int a t' b t
  | str b=>obtain ⟨t,rfl⟩:=rx;exact SeqAt.EqAt.int_str a t' b t
  | _=>exact absurd (show false=true from fx) J5
 | str a=>
  obtain ⟨t',rfl⟩:=ry
  cases x with
  | non=>cases rx;exact SeqAt.EqAt.str_none a t'
  | bl b=>cases rx;exact SeqAt.EqAt.str_bool a t' b
  | int b=>obtain ⟨t,rfl⟩:=rx;exact SeqAt.EqAt.str_int a t' b t
  | str b=>obtain ⟨t,rfl⟩:=rx;exact SeqAt.EqAt.str_str a t' b t
  | _=>exact absurd (show false=true from fx) J5
 | _=>exact absurd (show false=true from fy) J5
noncomputable def U2 (x:V) (u:Value):Bool:=match u with
 | .none=>aB .non x
 | .bool b=>aB (.bl b) x
 | .int i _=>aB (.int i) x
 | .str z _=>aB (.str z) x
 | _=>false
theorem vW{x:V}(r:RelV y u)(f:flatV y=true):U2 x u=aB y x:=by
 cases y with
 | non=>cases r;rfl
 | bl b=>cases r;rfl
 | int i=>obtain ⟨t,rfl⟩:=r;rfl
 | str z=>obtain ⟨t,rfl⟩:=r;rfl
 | _=>exact absurd (show false=true from f) J5
theorem hG{x:V} : ∀ {xs:List V} {us:List Value},Vals xs us->xs.all flatV=true->us.any (U2 x)=xs.any fun y=>aB y x
 | _,_,.nil,_=>rfl
 | y::xs,u::us,.cons r t,f=>by
  rw [List.all_cons,R1] at f;rw [q5,q5,vW r f.1,hG t f.2]
theorem hJ{x:V}(rx:RelV x v)(fx:flatV x=true):∀ {xs:List V} {us:List Value},Vals xs us->xs.all flatV=true->∀ u∈us,SeqAt.EqAt A s u v (U2 x u)
 | _,_,.nil,_=>fun u hu=>by cases hu
 | y::xs,u::us,.cons r t,f=>fun u' hu=>by
  rw [List.all_cons,R1] at f
  rcases G4.mp hu with rfl | hu
  .rw [vW r f.1];exact ane r rx f.1 fx
  .exact hJ rx fx t f.2 u' hu
noncomputable def Y9 (x:V) (xs:List V):Bool:=xs.any fun y=>aB y x
noncomputable def oU (K:PySem.W.Frag) (neg:Bool):R2:=fun x y H Q=>∃ p xs,y=.ref p/\(D3 K H p xs\/D0 K H p xs)/\flatV x=true/\xs.all flatV=true/\Q (.bl (if neg then !Y9 x xs else Y9 x xs)) H
theorem ahH:F8 X (compareOp .In) (oU X.K false):=by
 intro pins s Y H x y v u Q I rx ry h;obtain ⟨p,xs,rfl,hq,fx,fs,q⟩:=h
 cases ry
 rcases hq with hq | hq
 .obtain ⟨its,r,pl,hz⟩:=I.list hq;refine SeqAt.in_listAt (U2 x) pl.isList (fun w hw=>hJ rx fx r fs w (by simpa using hw)) ⟨.bl _,H,I,rfl,?_⟩;rw [show its.toArray.any (U2 x)=its.any (U2 x) by simp,hG r fs];exact q
 .obtain ⟨its,r,pl,hz⟩:=I.tuple hq;refine SeqAt.in_tupleAt (U2 x) pl (fun w hw=>hJ rx fx r fs w (by simpa using hw)) ⟨.bl _,H,I,rfl,?_⟩;rw [show its.toArray.any (U2 x)=its.any (U2 x) by simp,hG r fs];exact q
theorem aeX:F8 X (compareOp .NotIn) (oU X.K true):=by
 intro pins s Y H x y v u Q I rx ry h;obtain ⟨p,xs,rfl,hq,fx,fs,q⟩:=h
 cases ry
 rcases hq with hq | hq
 .obtain ⟨its,r,pl,hz⟩:=I.list hq;refine SeqAt.notIn_listAt (U2 x) pl.isList (fun w hw=>hJ rx fx r fs w (by simpa using hw)) ⟨.bl _,H,I,rfl,?_⟩;rw [show its.toArray.any (U2 x)=its.any (U2 x) by simp,hG r fs];exact q
 .obtain ⟨its,r,pl,hz⟩:=I.tuple hq;refine SeqAt.notIn_tupleAt (U2 x) pl (fun w hw=>hJ rx fx r fs w (by simpa using hw)) ⟨.bl _,H,I,rfl,?_⟩;rw [show its.toArray.any (U2 x)=its.any (U2 x) by simp,hG r fs];exact q
theorem aeY:F8 X (compareOp .NotIn) (fun x y H Q=>∃ i j,x=.str i/\y=.str j/\Q (.bl (!(!(Builtin.Str.occurrences j i 0 j.length 1).isEmpty))) H):=by
 intro pins s Y H x y v u Q I rx ry h;obtain ⟨i,j,rfl,rfl,q⟩:=h;obtain ⟨t,rfl⟩:=rx;obtain ⟨t',rfl⟩:=ry;exact notIn_str ⟨.bl _,H,I,rfl,q⟩
theorem aeZ:CallR X (.type "list") (fun xs H Q=>∃ p ys,xs=[.ref p]/\(D3 X.K H p ys\/D0 X.K H p ys)/\∀ l,H l=none->Q (.ref l) (A0 H l (.lst ys))):=by
 intro pins s Y H xs us Q I r h;obtain ⟨p,ys,rfl,hq,q⟩:=h;obtain ⟨u,rfl,rx⟩:=vals1 r
 cases rx
 have fin:∀ (its:List Value),Vals ys its->ys.length<=sizeLine->∀ (h':Heap) (c':Nat),(∀ b o',s.heap.get? b=some o'->h'.get? b=some o')->
   h'.get? s.heap.objs.size=some { cls:=.type "list",dict:=none,data:=.seq its.toArray c',slots:=#[] }->EP X pins Y Q (.ref s.heap.objs.size) { s with heap:=h' }:=fun its r' hz h' c' kp e=>
  ⟨.ref s.heap.objs.size,_,I.laid (t':=s.toks) kp (C4 _) (show ObjOk X.prog X.w _ h' _ (.lst ys) from ⟨hz,its,c',r',e⟩),rfl,q _ (I.hok.fresh (C4 _))⟩
 rcases hq with hq | hq
 .obtain ⟨its,r',pl,hz⟩:=I.list hq;have B1:=r'.length;obtain ⟨o,ho,hc,n,hd⟩:=pl.isList;exact call_list_seq p (.inl rfl) ho hc hd (fun h' c' kp e=>fin its r' hz h' c' kp e) (by simp only [G7] <;> lia)
 .obtain ⟨its,r',pl,hz⟩:=I.tuple hq;have B1:=r'.length;obtain ⟨o,ho,hc,n,hd⟩:=pl;exact call_list_seq p (.inr rfl) ho hc hd (fun h' c' kp e=>fin its r' hz h' c' kp e) (by simp only [G7] <;> lia)
theorem aeo:CallR X (.type "tuple") (fun xs H Q=>∃ p ys,xs=[.ref p]/\((D3 X.K H p ys/\∀ l,H l=none->Q (.ref l) (A0 H l (.tup ys)))\/(D0 X.K H p ys/\Q (.ref p) H))):=by
 intro pins s Y H xs us Q I r h;obtain ⟨p,ys,rfl,h⟩:=h;obtain ⟨u,rfl,rx⟩:=vals1 r
 cases rx
 rcases h with ⟨hq,q⟩ | ⟨hq,q⟩
 .obtain ⟨its,r',pl,hz⟩:=I.list hq;have B1:=r'.length;refine call_tuple_list pl.isList (fun h' kp=>?_) (by simp only [G7] <;> lia);have I1:Inv X pins Y H { s with heap:=h' }:=I.kept (t':=s.toks) kp;have I2:Inv X pins Y (A0 H h'.objs.size (.tup ys)) { s with heap:=h'.push { cls:=.type "tuple",data:=.seq its.toArray } }:=
   I1.laid (t':=s.toks) (fun b o e=>Heap.get?_push_of_some _ e) (C4 _) (show ObjOk X.prog X.w _ _ _ (.tup ys) from ⟨hz,its,r',IsTup.new _ _⟩)
  exact ⟨.ref h'.objs.size,_,I2,rfl,q _ (I1.hok.fresh (C4 _))⟩
 .obtain ⟨its,r',pl,hz⟩:=I.tuple hq;exact call_tuple_same pl ⟨.ref p,H,I,rfl,q⟩
noncomputable def aD (K:PySem.W.Frag) (T:String) (x:V) (H:Hp):Prop:=match x with
 | .str _=>T="str"
 | .int _=>T="int"
 | .ref p=>(T="list"/\∃ xs,D3 K H p xs)\/(T="tuple"/\∃ o,K.lookup p=some o/\o.cls=.type "tuple"/\o.dict=none)\/
   (T="dict"/\((∃ kvs,H p=some (.dK kvs))\/∃ kvs,H p=some (.dT kvs)))\/(T="set"/\∃ S n,H p=some (.set S n))
 | _=>False
theorem vX{T:String}{x:V}(I:Inv X pins Y H s)(r:RelV x v)(ty:aD X.K T x H) :
  s.TypeIs v T/\∀ a,v=.ref a->∃ ob,s.heap.get? a=some ob/\ob.dict=none:=by
 cases x with
 | str z=>
  obtain ⟨t,rfl⟩:=r
  cases (show T="str" from ty)
  exact ⟨typeIs_str s z t,fun _ e=>nomatch e⟩
 | int i=>
  obtain ⟨t,rfl⟩:=r
  cases (show T="int" from ty)
  exact ⟨typeIs_int s i t,fun _ e=>nomatch e⟩
 | ref p=>
  cases r
  rcases ty with ⟨rfl,xs,hq⟩ | ⟨rfl,o,hk,hc,hd⟩ | ⟨rfl,hk⟩ | ⟨rfl,S,n,hk⟩
  .obtain ⟨its,_,pl,_⟩:=I.list hq;refine ⟨pl.isList.typeIs,fun a e=>?_⟩;cases e;obtain ⟨o,n,e,c,hd,_⟩:=pl;exact ⟨o,e,hd⟩
  .refine ⟨⟨o,I.kIn p o hk,hc⟩,fun a e=>?_⟩;cases e;exact ⟨o,I.kIn _ o hk,hd⟩
  .have z:∃ o,s.heap.get? p=some o/\o.ExactDict:=by
    rcases hk with ⟨kvs,hk⟩ | ⟨kvs,hk⟩
    .obtain ⟨_,_,_,_,o,_,_,e,ex,_⟩:=I.hok p _ hk;exact ⟨o,e,ex⟩
    .obtain ⟨_,_,_,_,o,_,_,e,ex,_⟩:=I.hok p _ hk;exact ⟨o,e,ex⟩
   obtain ⟨o,e,ex⟩:=z;refine ⟨⟨o,e,ex.1⟩,fun a e2=>?_⟩;cases e2;exact ⟨o,e,ex.2.1⟩
  .obtain ⟨o,_,_,_,e,ex,_⟩:=I.hok p _ hk;refine ⟨⟨o,e,ex.1⟩,fun a e2=>?_⟩;cases e2;exact ⟨o,e,ex.2.1⟩
 | _=>exact False.elim ty
noncomputable def tBM0 (K:PySem.W.Frag) (T:String) (r:V->List V->Hp->VK->Prop) (to:TE):TE:=fun Y H Q=>to Y H fun x H1=>aD K T x H1/\r x [] H1 Q
noncomputable def lH (K:PySem.W.Frag) (T:String) (r:V->List V->Hp->VK->Prop) (to:TE) (t:TA):TE:=fun Y H Q=>to Y H fun x H1=>aD K T x H1/\t Y H1 fun xs H2=>r x xs H2 Q
variable {o e:Expr} {es:List Expr} {to:TE} {t:TA} {name:Str} {apos cpos:Pos} {T id:String} {r:V->List V->Hp->VK->Prop}
theorem anf(pa:PlainAttrs T)(slot:Slot T name id)(S9:typeOf (.builtin id)=pure (.type "method_descriptor"))(hm:lG X id r)(ho:PE X o to)(D8:attributeBase o name X.env (eval o X.env)=eval o X.env:=by rfl)(E5:(apos.endLine==cpos.line)=true:=by rfl):PE X (.Call (.Attribute o name apos) [] [] cpos) (tBM0 X.K T r to):=by
 intro pins s Y H Q I h;refine wpAny_Call_method0_late D8 E5 (C0 (ho pins s Y H _ I h) fun v s1 ⟨x,H1,I1,r1,ty,q1⟩=>?_);obtain ⟨h1,h2⟩:=vX I1 r1 ty;exact ⟨T,id,pa,slot,S9,h1,h2,Calls.callWith_builtin rfl (PySem.evalArgs_none (hm pins s1 Y H1 x [] v [] Q I1 r1 .nil q1))⟩
theorem pe_bm(pa:PlainAttrs T)(slot:Slot T name id)(S9:typeOf (.builtin id)=pure (.type "method_descriptor"))(hm:lG X id r)(ho:PE X o to)(ha:PA X (e::es) t)(D8:attributeBase o name X.env (eval o X.env)=eval o X.env:=by rfl)(sM:((backTo cpos (starEach (e::es) X.env)).all (fun x=>!x.1)&&(backToKw cpos (keywordEach [] X.env)).all (fun x=>x.1.isSome)
   && decide ((e::es).length+([]:List Keyword).length+(if ([]:List Keyword).isEmpty then 0 else 1)<30))=true:=by rfl)(E5:(apos.endLine==cpos.line)=true:=by rfl)(hs:starEach (e::es) X.env=(false,eval e X.env)::starEach es X.env:=by rfl)(hplain:(backTo cpos (starEach es X.env)).any (·.1)=false:=by rfl) :
  PE X (.Call (.Attribute o name apos) (e::es) [] cpos) (lH X.K T r to t):=by
 intro pins s Y H Q I h;refine wpAny_Call_method_late D8 sM E5 rfl (C0 (ho pins s Y H _ I h) fun v s1 ⟨x,H1,I1,r1,ty,q1⟩=>?_);obtain ⟨h1,h2⟩:=vX I1 r1 ty;refine ⟨T,id,pa,slot,S9,h1,h2,?_⟩;have hA:=ha cpos pins s1 Y H1 _ I1 q1;rw [hs] at hA ⊢
 refine Calls.callWith_builtin (by show (false || (backTo cpos (starEach es X.env)).any (·.1))=false;rw [hplain] <;> rfl) (Calls.evalArgs_plain ?_);exact C0 hA fun us s2 ⟨vs,H2,I2,r2,q2⟩=>hm pins s2 Y H2 x vs v us Q I2 r1 r2 q2
end
end L2
namespace L2
open PySem PySem.Spec PyProof.Rows
noncomputable def hV (X:Cx) (id:String) (r:V->List V->Hp->VK->Prop):Prop:=
 ∀ (pins:List (Addr×Obj)) (s:Shared) (Y:St) (H:Hp) (x:V) (xs:List V) (v:Value) (us:List Value) (Q:VK),Inv X pins Y H s->RelV x v->Vals xs us->r x xs H Q->
  wpAny (model X.prog X.w) X.A (call (.builtin id) (v::us)) (EP X pins Y Q) X.xe s
theorem Vals.one:∀ {x:V} {us:List Value},Vals [x] us->∃ u,us=[u]/\RelV x u
 | _,_,.cons r .nil=>⟨_,rfl,r⟩
theorem Vals.zero:∀ {us:List Value},Vals [] us->us=[]
 | _,.nil=>rfl
theorem Vals.dropLast(h:Vals xs us):Vals xs.dropLast us.dropLast:=by
 induction h with
 | nil=>exact .nil
 | cons r t ih=>
  cases t with
  | nil=>exact .nil
  | cons q t'=>exact .cons r ih
theorem Vals.eraseIdx:∀ {xs:List V} {us:List Value} (i:Nat),Vals xs us->Vals (xs.eraseIdx i) (us.eraseIdx i)
 | _,_,_,.nil=>.nil
 | _,_,0,.cons _ t=>t
 | _,_,i+1,.cons r t=>.cons r (Vals.eraseIdx i t)
theorem Vals.reverse(h:Vals xs us):Vals xs.reverse us.reverse:=by
 induction h with
 | nil=>exact .nil
 | cons r t ih=>rw [List.reverse_cons,List.reverse_cons];exact Vals.append ih (.cons r .nil)
theorem Vals.rep(h:Vals xs us):∀ k:Nat,Vals (O0 k xs).flatten (O0 k us).flatten
 | 0=>.nil
 | k+1=>by
  rw [dS,dS,bR,bR];exact Vals.append h (Vals.rep h k)
theorem ag0{α:Type}(l:List α):l.eraseIdx (l.length-1)=l.dropLast:=by
 induction l with
 | nil=>rfl
 | cons a r ih=>
  cases r with
  | nil=>rfl
  | cons b r=>
   have e:(a::b::r).length-1=((b::r).length-1)+1:=by
    have h1:(a::b::r).length=r.length+2:=rfl;have h2:(b::r).length=r.length+1:=rfl;lia
   rw [e,List.eraseIdx_cons_succ,ih]
   all_goals rfl
theorem vY(its:List Value):∀ (k:Nat) (acc:List Value),
  List.foldl (fun x1 x2=>x1++x2) acc.toArray (O0 k its.toArray)=(acc++(O0 k its).flatten).toArray
 | 0,acc=>by simp
 | k+1,acc=>by
  have e:acc.toArray++its.toArray=(acc++its).toArray:=by simp
  have e2:(acc++its)++(O0 k its).flatten=acc++(O0 (k+1) its).flatten:=by
   rw [dS,bR,j8]
  rw [<- e2,<- vY its k (acc++its),<- e,dS,List.foldl_cons]
section
variable {X:Cx} {pins:List (Addr×Obj)} {Y:St} {H:Hp} {s:Shared} {l b:Addr} {xs ys zs:List V}
theorem Inv.lset{its':List Value}{f:Array Value->Array Value}(I:Inv X pins Y H s)(hH:H l=some (.lst xs))(e:s.heap.get? l=some { cls:=.type "list",data:=.seq its.toArray n })(hf:f its.toArray=its'.toArray)(hv:Vals ys its')(hz:ys.length<=sizeLine) :
  Inv X pins Y (A0 H l (.lst ys)) { s with heap:=s.heap.update l (Obj.mapSeq f),toks:=t' }:=by
 have q:=PySem.IsL.update e f;rw [hf] at q;refine I.write (x:=l) (e:=l) (by rw [hH];exact trivial) (.inl rfl) (fun b' u hb hu=>(Heap.get?_update_other s.heap (Obj.mapSeq f) (Ne.symm hb)).trans hu) ⟨_,q⟩ ?_;exact ⟨hz,its',_,hv,q⟩
theorem Inv.lnew(I:Inv X pins Y H s)(hv:Vals ys its)(hz:ys.length<=sizeLine) :
  Inv X pins Y (A0 H s.heap.objs.size (.lst ys)) { s with heap:=s.heap.push { cls:=.type "list",data:=.seq its.toArray },toks:=t' }:=
 I.laid (fun _ _ q=>Heap.get?_push_of_some _ q) (C4 _) ⟨hz,its,0,hv,Heap.get?_push_size _ rfl⟩
theorem Inv.fresh(I:Inv X pins Y H s):H s.heap.objs.size=none:=I.hok.fresh (C4 _)
theorem Inv.lstM(I:Inv X pins Y H s)(hH:H l=some (.lst xs)):xs.length<=sizeLine/\∃ (its:List Value) (n:Nat),Vals xs its/\xs.length=its.length/\s.heap.get? l=some { cls:=.type "list",data:=.seq its.toArray n }:=by
 obtain ⟨z,its,n,r,e⟩:=I.hok l _ hH;exact ⟨z,its,n,r,r.length,e⟩
theorem vZ(h:n<=sizeLine):Builtin.List.listTooLong n=false:=by
 unfold Builtin.List.listTooLong;exact decide_eq_false (by lia)
end
section
variable {X:Cx}
noncomputable def oV:V->List V->Hp->VK->Prop:=fun x vs H Q=>∃ l xs y,x=.ref l/\vs=[y]/\H l=some (.lst xs)/\xs.length<sizeLine/\Q .non (A0 H l (.lst (xs++[y])))
theorem wA:hV X "list.append" oV:=by
 intro pins s Y H x vs v us Q I rx rv h;obtain ⟨l,xs,y,rfl,rfl,hH,hz,q⟩:=h
 cases rx
 obtain ⟨u,rfl,ru⟩:=rv.one;obtain ⟨z,its,n,r,hl,e⟩:=I.lstM hH;refine call_meets F.slot_list_append ⟨_,e,rfl⟩ F.entry_list_append (F.args_list_append_2 _ _) (PySem.list_append l its.toArray n u (by rw [G7];lia)) ⟨e,?_⟩;refine ⟨.non,_,I.lset (its':=its++[u]) hH e (by simp) (r.append (.cons ru .nil)) ?_,rfl,q⟩;rw [G0,bO];lia
noncomputable def rPop:V->List V->Hp->VK->Prop:=fun x vs H Q=>∃ l xs y,x=.ref l/\vs=[]/\H l=some (.lst xs)/\xs[xs.length-1]?=some y/\Q y (A0 H l (.lst xs.dropLast))
theorem ang:hV X "list.pop" rPop:=by
 intro pins s Y H x vs v us Q I rx rv h;obtain ⟨l,xs,y,rfl,rfl,hH,hy,q⟩:=h
 cases rx
 have sN:=rv.zero;subst sN;obtain ⟨z,its,n,r,hl,e⟩:=I.lstM hH;obtain ⟨u,hu,ru⟩:=r.get hy;have hy':its.toArray[its.toArray.size-1]?=some u:=by
  show its.toArray[its.length-1]?=some u;rw [<- Array.getElem?_toList,<- hl];exact hu
 refine call_meets F.slot_list_pop ⟨_,e,rfl⟩ F.entry_list_pop (F.args_list_pop_1 _) (MeetsSeq.list_pop_last l its.toArray n u hy' (by rw [G7];lia)) ⟨e,?_⟩;refine ⟨y,_,I.lset (its':=its.dropLast) hH e ?_ r.dropLast ?_,ru,q⟩
 .show its.toArray.eraseIdxIfInBounds (its.toArray.size-1)=its.dropLast.toArray;rw [G7,List.eraseIdxIfInBounds_toArray,ag0]
 .rw [List.length_dropLast];lia
noncomputable def wB:V->List V->Hp->VK->Prop:=fun x vs H Q=>∃ l xs,x=.ref l/\vs=[]/\H l=some (.lst xs)/\Q .non (A0 H l (.lst xs.reverse))
theorem ag1:hV X "list.reverse" wB:=by
 intro pins s Y H x vs v us Q I rx rv h;obtain ⟨l,xs,rfl,rfl,hH,q⟩:=h
 cases rx
 have sN:=rv.zero;subst sN;obtain ⟨z,its,n,r,hl,e⟩:=I.lstM hH;refine call_meets F.slot_list_reverse ⟨_,e,rfl⟩ F.entry_list_reverse (F.args_list_reverse_1 _) (AutoSeq1.list_reverse_list_0 l its.toArray n (by rw [G7];lia)) ⟨e,?_⟩;refine ⟨.non,_,I.lset (its':=its.reverse) hH e (by simp) r.reverse ?_,rfl,q⟩;rw [List.length_reverse];lia
noncomputable def rCat:R2:=fun x y H Q=>∃ l b xs zs,x=.ref l/\y=.ref b/\H l=some (.lst xs)/\H b=some (.lst zs)/\xs.length+zs.length<=sizeLine/\∀ p,H p=none->Q (.ref p) (A0 H p (.lst (xs++zs)))
theorem anh:F8 X (binaryOp .Add) rCat:=by
 intro pins s Y H x y v u Q I rx ry h;obtain ⟨l,b,xs,zs,rfl,rfl,hH,hB,hz,q⟩:=h
 cases rx
 cases ry
 obtain ⟨z,its,n,r,hl,e⟩:=I.lstM hH;obtain ⟨z2,its2,n2,r2,jK,e2⟩:=I.lstM hB;refine PySem.P.add_list e e2 ?_ (by rw [G7,G7];lia);have ea:its.toArray++its2.toArray=(its++its2).toArray:=by simp
 rw [ea];exact ⟨.ref _,_,I.lnew (t':=s.toks) (r.append r2) (by rw [G0];lia),rfl,q _ I.fresh⟩
noncomputable def rRep:R2:=fun x y H Q=>∃ l k xs,x=.ref l/\y=.int k/\H l=some (.lst xs)/\-(2 ^ 63)<=k/\k<2 ^ 63/\xs.length*k.toNat<=sizeLine/\
 ∀ p,H p=none->Q (.ref p) (A0 H p (.lst (O0 k.toNat xs).flatten))
theorem ak7{α:Type}(xs:List α)(k:Nat):(O0 k xs).flatten.length=k*xs.length:=by
 induction k with
 | zero=>simp
 | succ k ih=>rw [dS,bR,G0,ih,Nat.succ_mul,Nat.add_comm]
theorem ani:F8 X (binaryOp .Mult) rRep:=by
 intro pins s Y H x y v u Q I rx ry h;obtain ⟨l,k,xs,rfl,rfl,hH,h1,h2,hz,q⟩:=h
 cases rx
 obtain ⟨t,rfl⟩:=ry;obtain ⟨z,its,n,r,hl,e⟩:=I.lstM hH;have B1:its.toArray.size*k.toNat<=sizeLine:=by rw [G7,<- hl];exact hz
 have sO:¬ its.toArray.size*k.toNat > (2 ^ 63-1) / 8:=by
  have:(sizeLine:Nat)<=(2 ^ 63-1) / 8:=by decide
  lia
 have sP:¬ (!Builtin.List.listFitsIndex k)=true:=by
  rw [fitsIndex_both h1 h2];exact J5
 have i5:¬ Builtin.List.listTooLong (its.toArray.size*k.toNat)=true:=by
  rw [vZ B1];exact J5
 have P1:List.foldl (fun x1 x2=>x1++x2) #[] (O0 (if its.toArray.isEmpty=true then 0 else k.toNat) its.toArray)=(O0 k.toNat its).flatten.toArray:=by
  have f0:∀ m:Nat,List.foldl (fun x1 x2=>x1++x2) #[] (O0 m its.toArray)=(O0 m its).flatten.toArray:=fun m=>by
   have:=vY its m []
   rw [p8] at this;exact this
  rw [f0]
  cases its with
  | nil=>simp
  | cons a r'=>rw [if_neg (by simp)]
 refine wpAny_binaryOp_repeat_ref (T:="list") (U:="int") (by decide) ⟨_,e,rfl⟩ (fun s'=>typeIs_int s' k t) noFill_list_mul F.fills_int_mul F.slot_int_rmul repeat_list F.slot_int_index.lookup
  (call_meets F.slot_int_rmul (typeIs_int s k t) F.entry_int_rmul (F.args_int_rmul_2 _ _) (int___rmul___int_list k t l its.toArray n)
   ⟨e,rfl,⟨_,e,rfl⟩,call_meets F.slot_list_mul ⟨_,e,rfl⟩ F.entry_list_mul (F.args_list_mul_2 _ _) (AutoListH.list___mul___list_int_3 l its.toArray n k t sP sO i5) ⟨e,?_⟩⟩)
 rw [P1];exact ⟨.ref _,_,I.lnew (t':=s.toks) (r.rep k.toNat) (by rw [ak7,Nat.mul_comm];exact hz),rfl,q _ I.fresh⟩
end
section
variable {prog:Program} {w:World} {A:Around} {E:Value->Shared->Prop} {s:Shared}
end
section
variable {X:Cx}
end
end L2
namespace Att
open PySem PySem.W PySem.Calls PyProof.Rows
theorem adv{P:Params} : ∀ (ns:List Int) (vs:List Value),WellAll P h vs (ns.map WData.int)->IntsAre vs ns:=by
 intro ns
 induction ns with
 | nil=>
  intro vs w;rw [d2] at w
  cases w
  exact .nil
 | cons n ns ih=>
  intro vs w;rw [G3] at w
  cases w with
  | cons a b=>
   cases a
   exact .cons _ _ (ih _ b)
theorem ahI{l:OpenLaw}(hn:l.most=some n){P:Params}{args:List WData}{vals:List Value}(i6:l.row.toRowW.claim.pre args=true)(sQ:WellAll P h vals args) :
  ∃ a vs ns,vals=[Value.ref a]/\args=[WData.list (ns.map WData.int)]/\h.get? a=some { cls:=.type "list",data:=.seq vs.toArray }/\IntsAre vs ns/\ns.length<=n:=by
 have jL:WShape.hasAll [] args [.list .int]=true:=(pre_splitW i6).1;have hc:l.pre.holds [] { args:=args }=true:=(pre_splitW i6).2;obtain ⟨d,r,rfl,h1,h2⟩:=hasAllW_cons jL;obtain rfl:=hasAllW_nil h2;obtain ⟨xs,rfl,h3⟩:=hasW_list h1;obtain ⟨ns,rfl⟩:=items_int h3;have B1:ns.length<=n:=by
  unfold OpenLaw.pre at hc;have h4:(WTm.not (.lt (.lit (.int (n:Int))) (.len (.arg 0)))).holds [] { args:=[.list (ns.map .int)] }=true:=by
   have h4:=(holds_andW hc).1;rw [hn] at h4;exact h4
  have h5:=condW_of h4 (w_not (w_lt w_lit (w_len_list (w_arg rfl))));rw [B3] at h5;refine Nat.le_of_not_lt fun q=>?_
  have q':(n:Int)<((ns.length:Nat):Int):=by lia
  first
   | (rw [decide_eq_true q'] at h5;exact absurd h5 (by decide))
   | (simp at h5;lia)
 cases sQ with
 | cons w1 w2=>
  cases w2
  cases w1 with
  | list ho J8=>exact ⟨_,_,ns,rfl,rfl,ho,adv ns _ J8,B1⟩
theorem ahJ(l:OpenLaw)(args:List WData):l.row.toRowW.claim.post args (.bool true) args=true:=
 postW_of (r:=l.row.toRowW) (X:=(true==true))
  (show WShape.has [] (.bool true) .bool=true by first | rfl | decide | simp [WShape.has,WShape.arms,WShape.armsAll])
  (show (WTm.eq .res (.lit (.bool true))).value [] { args:=args,res:=some (.bool true),after:=args }=some (.bool (true==true)) from w_eq_bool (w_res rfl) w_lit) rfl
theorem attach_call{l:OpenLaw}{q:Program}{XP:(Str->Option Value)->Heap->Prop}{YP:World->Heap->Prop}{d:DefRec}(hn:l.most=some n)(o6:d.params.defaults=[])(call:∀ (w:World) (s₀ zt:Shared) (mg mb:Str->Option Value) (fa:Addr) (o:Obj) (pm cd doc:Value) (a:Addr) (vs:List Value) (ns:List Int),
   Ground q loose [] XP w s₀ mg mb zt.heap->YP w zt.heap->
   zt.heap.get? fa=some o->o.data=.func (docDef d.name d.params d.body d.scope pm cd doc)->zt.heap.CodeRec cd d.name->mg d.name=some (.ref fa)->
   zt.heap.get? a=some { cls:=.type "list",data:=.seq vs.toArray }->IntsAre vs ns->ns.length<=n->zt.gens=#[]->
   codeAny (model l.prog w) callerA (.call (.ref fa) ⟨[.ref a],[]⟩) (fun r s'=>r=.ok (.ret (.bool true))/\OldK zt.heap s'.heap/\s'.os=zt.os/\AllBare s'.gens) zt) :
  WalkO q loose XP YP l.row.toRowW d [] (fun f vs=>PySem.call f vs):=by
 intro w s₀ zt mg mb G zy fa o pm cd doc dV kV ho hd Q5 hD dA hg args vals as i6 hlay hrd sQ hlo;obtain rfl:dV=.none:=Dflts.none hD o6;obtain rfl:kV=.none:=Dflts.noKw hD;obtain ⟨a,vs,ns,rfl,rfl,dB,i7,B1⟩:=ahI hn i6 sQ;refine enter_call (codeAny_mono (call w s₀ zt mg mb fa o pm cd doc a vs ns G zy ho (fd_plain hd) Q5 dA dB i7 B1 hg) fun r s' hq=>?_);obtain ⟨rfl,h2,h3,h4⟩:=hq;exact ⟨.inl ⟨.bool true,.bool true,[],rfl,fun _=>rfl,.bool true,ahJ l _,fun _=>⟨List.Pairwise.nil,fun _ hm=>(nomatch hm)⟩⟩,h2,h3,h4⟩
section
variable {prog:Program} {w:World} {A:Around} {E:Value->Shared->Prop} {s:Shared} {K:Frag}
end
end Att
namespace L2
open PySem PySem.Spec PyProof.Rows
theorem wC:∀ {vs:List Value} {ns:List Int},IntsAre vs ns->Vals (ns.map V.int) vs
 | _,_,.nil=>.nil
 | _,_,.cons n t h=>.cons ⟨t,rfl⟩ (wC h)
noncomputable def Only (H:Hp):Prop:=∀ b,H b=none\/∃ o xs,H b=some (.frz o (.lst xs))
theorem ajc{P:Program}{w:World}{mb:Str->Option Value}{CX:V4}{zt:Shared}{vs:List Value}(KX:K.In zt.heap)(bA:zt.heap.Ns mainGlobals mg)(hb:zt.heap.Ns builtinsNs mb)(hbb:∀ x:Str,x≠"__name__"->mb x=bootBuiltins x)(sR:zt.heap.NoLimit)(hg:zt.gens=#[])(ha:zt.heap.get? a=some { cls:=.type "list",data:=.seq vs.toArray })(hi:IntsAre vs ns)(hl:ns.length<=sizeLine)(hr:Room k callerA)(F:∀ base:Heap,K.In base->base.Ns mainGlobals mg->FnOk P w K mg base CX k fa fd [x] sp)(jM:∀ (s:Shared) (u:Value),BindsTo s fd ⟨[u],[]⟩ [(x,u)])(o5:∀ H:Hp,Only H->D3 K H a (ns.map V.int)->sp [.ref a] H (fun v _=>v=.bl true) fun _ _ _=>False)(hCX:∀ H e s',CX [] H zt (fun _ _ _=>False) e s'->False) :
  codeAny (model P w) callerA (.call (.ref fa) ⟨[.ref a],[]⟩) (fun r s'=>r=.ok (.ret (.bool true))/\OldK zt.heap s'.heap/\s'.os=zt.os/\AllBare s'.gens) zt:=by
 have rv:=wC hi;have lenV:=hi.length;have core:∀ H:Hp,Only H->D3 K H a (ns.map V.int)->J7 P w H zt.heap->(∀ b,H b≠none->b=a)->(H a≠none->K.lookup a=none)->
   codeAny (model P w) callerA (.call (.ref fa) ⟨[.ref a],[]⟩) (fun r s'=>r=.ok (.ret (.bool true))/\OldK zt.heap s'.heap/\s'.os=zt.os/\AllBare s'.gens) zt:=by
  intro H hO hS hok hA hK;have base_of:∀ {b:Addr} {o:Obj},zt.heap.get? b=some o->H b=none->(hidT zt.heap H).get? b=some o:=fun e n=>aiY e n
  have noA:∀ {b:Addr} {o:Obj} {es:Array DictEntry} {ep:Nat},zt.heap.get? b=some o->o.data=.dict es ep->H b=none:=fun {b o es ep} e d=>by
   cases q:H b with
   | none=>rfl
   | some u=>
    have e':b=a:=hA b (by rw [q];simp);subst e';rw [ha] at e;cases e;have d':Data.seq vs.toArray _=Data.dict es ep:=d
    cases d'
  have nsK:∀ {b:Addr} {m:Str->Option Value},zt.heap.Ns b m->(hidT zt.heap H).Ns b m:=fun {b m} ⟨o,es,ep,e,d,r⟩=>⟨o,es,ep,base_of e (noA e d),d,r⟩
  have hKb:K.In (hidT zt.heap H):=fun b o e=>base_of (KX b o e) (by
   cases q:H b with
   | none=>rfl
   | some u=>
    have e':b=a:=hA b (by rw [q];simp);subst e';rw [hK (by rw [q];simp)] at e;cases e)
  have hM:Mod K mg (hidT zt.heap H):=⟨hKb,nsK bA,⟨mb,nsK hb,hbb⟩,let ⟨mc,h1,h2⟩:=sR;⟨mc,nsK h1,h2⟩⟩
  have e0:Env0 P w K mg (hidT zt.heap H) callerA [] zt H:=⟨rfl,hM,fun b o e=>akJ e,Nat.le_of_eq (ahp _ _),trivial,fun b hb=>absurd (show b∈([]:List Addr) from hb) (by simp),hok,.of_eq hg⟩
  refine codeAny_mono ((F _ hKb (nsK bA)).run callerA [] zt H ⟨[.ref a],[]⟩ [.ref a] [.ref a] _ _ hr e0 (jM zt (.ref a)) (.cons rfl .nil) (o5 H hO hS)) fun r s' h=>?_
  cases r with
  | error e=>exact (hCX H e s' h).elim
  | ok fl=>
   cases fl with
   | next=>exact False.elim h
   | brk=>exact False.elim h
   | cont=>exact False.elim h
   | ret u=>
    obtain ⟨v,H',os,bare,un,sS,r',q⟩:=h;have q':v=.bl true:=q;subst q';obtain rfl:u=Value.bool true:=r';refine ⟨rfl,OldK.of_keep fun b o e=>?_,os,bare⟩
    cases q:H b with
    | none=>exact un.keep b o e q (by intro z;exact absurd (show b∈([]:List Addr) from z) (by simp)) (by simp)
    | some u=>
     rcases hO b with z | ⟨ob,xs,z⟩
     .rw [q] at z;cases z
     .have z2:=un.frzs b ob _ z;obtain ⟨e1,_⟩:=hok b _ z;obtain ⟨e2,_⟩:=sS b _ z2;rw [e] at e1;cases e1;exact e2
 cases hk:K.lookup a with
 | some o=>
  have e:=KX a o hk;rw [ha] at e;cases e;refine core (fun _=>none) (fun _=>.inl rfl) (.inr ⟨_,vs.toArray,_,hk,rfl,rfl,rfl,by rw [G7,lenV];exact hl,by simpa using rv⟩) (fun b u z=>by have z':(none:Option HO)=some u:=z;cases z') (fun b z=>absurd rfl z) fun z=>absurd rfl z
 | none=>
  refine core (fun b=>if b=a then some (.frz { cls:=.type "list",data:=.seq vs.toArray } (.lst (ns.map V.int))) else none) (fun b=>?_) (.inl (.inr ⟨{ cls:=.type "list",data:=.seq vs.toArray },if_pos rfl⟩)) (fun b u z=>?_) (fun b z=>?_) fun _=>hk
  .by_cases hb:b=a
   .exact .inr ⟨_,_,if_pos hb⟩
   .exact .inl (if_neg hb)
  .by_cases hb:b=a
   .have z':=(if_pos hb).symm.trans z
    cases z'
    subst hb;exact ⟨ha,by rw [B3];exact hl,vs,_,rv,ha⟩
   .have z':=(if_neg hb).symm.trans z
    cases z'
  .by_cases hb:b=a
   .exact hb
   .exact absurd (if_neg hb) z
end L2
namespace L2
open PySem PySem.Spec PyProof.Rows
theorem walk_of{l:PySem.W.OpenLaw}{q:Program}{XP:(Str->Option Value)->Heap->Prop}{YP:World->Heap->Prop}{d:DefRec}{K:Params->PySem.W.Frag}{CX:World->V4}{sp:World->Sp}(hn:l.most=some n)(nI:n<=sizeLine)(o6:d.params.defaults=[])(hr:Room k callerA)(hY:∀ (w:World) (h:Heap),YP w h->(K w.params).In h)(F:∀ (w:World) (mg:Str->Option Value) (fa:Addr) (h:Heap),(K w.params).In h->h.Ns mainGlobals mg->mg d.name=some (.ref fa)->
   ∃ fd:FuncData,(∀ (s:Shared) (u:Value),BindsTo s fd ⟨[u],[]⟩ [(x,u)])/\
    ∀ base:Heap,(K w.params).In base->base.Ns mainGlobals mg->FnOk l.prog w (K w.params) mg base (CX w) k fa fd [x] (sp w))(o5:∀ (w:World) (H:Hp) (a:Addr) (ns:List Int),ns.length<=n->Only H->D3 (K w.params) H a (ns.map V.int)->sp w [.ref a] H (fun v _=>v=.bl true) fun _ _ _=>False)(hCX:∀ (w:World) (H:Hp) (s:Shared) (e:Value) (s':Shared),CX w [] H s (fun _ _ _=>False) e s'->False) :
  PySem.W.WalkO q loose XP YP l.row.toRowW d [] (fun f vs=>PySem.call f vs):=by
 refine Att.attach_call hn o6 fun w s₀ zt mg mb fa o pm cd doc a vs ns G zy ho hd Q5 dA dB i7 B1 hg=>?_
 have KX:=hY w _ zy;obtain ⟨fd,hb,hF⟩:=F w mg fa _ KX G.T.g dA;exact ajc KX G.T.g G.T.b G.T.builtins G.T.nolimit hg dB i7 (E1 B1 nI) hr hF hb (fun H hO hS=>o5 w H a ns B1 hO hS) fun H e s'=>hCX w H zt e s'
end L2
namespace L2
open PySem PySem.Spec PyProof.Rows
noncomputable def lI (s:Stmt) (j:Nat):Stmt:=match s with
 | .ClassDef _ _ _ body _ _ _ _ _ _ _=>body.getD j (.Pass ⟨0,0,0,0⟩)
 | _=>.Pass ⟨0,0,0,0⟩
noncomputable def R3 (s:Stmt):Arguments:=match s with
 | .FunctionDef _ a _ _ _ _ _ _ _ _=>a
 | _=>{ posonlyargs:=[],args:=[],vararg:=none,kwonlyargs:=[],kw_defaults:=[],kwarg:=none,defaults:=[] }
noncomputable def Q3 (s:Stmt):List Stmt:=match s with
 | .FunctionDef _ _ b _ _ _ _ _ _ _=>b
 | _=>[]
noncomputable def C7 (s:Stmt):Scope:=match s with
 | .FunctionDef _ _ _ _ _ _ sc _ _ _=>sc
 | _=>{ kind:=.function,names:=[],isGenerator:=false,isCoroutine:=false }
noncomputable abbrev F9:V4:=fun _ _ _ _ _ _=>False
noncomputable abbrev E0:XK:=fun _ _ _=>False
theorem pass0 : gY F9 X E0:=fun _ _ _ _ _ _ _ h=>h.elim
structure Fun(K:PySem.W.Frag)(x qual:Str)(st:Stmt)(f:Addr)(fd:FuncData):Prop where
 ex:∃ (oc:Value) (od:Option Addr) (kV doc pm:Value) (an:Option Addr) (cdv ct:Value) (osl:Array (Option Value)),
  fd=Q2 x qual (R3 st) (Q3 st) (C7 st) .none kV doc pm an cdv ct/\K.lookup f=some ⟨oc,od,.func fd,osl⟩/\U1 K cdv qual=true
 kp:O9 K (.ref f)=true
section
variable {P:Program} {w:World} {K:PySem.W.Frag} {mg:Str->Option Value} {base:Heap}
end
theorem hu_of(hr:Room k A):A.units+1<cLine:=Nat.lt_of_le_of_lt (Nat.add_le_add_left (by decide:1<=64) _) hr.units
section
variable {X:Cx}
end
theorem iteF{A B:Prop}(h:B):if false=true then A else B:=by
 rw [if_neg J5];exact h
theorem iteT{A B:Prop}(h:A):if true=true then A else B:=by
 rw [if_pos rfl];exact h
noncomputable def Same (H H':Hp):Prop:=∀ b o,H b=some o->H' b=some o
theorem Q8(H:Hp):Same H H:=fun _ _ h=>h
theorem Same.trans(a:Same H H1)(b:Same H1 H2):Same H H2:=fun c o h=>b c o (a c o h)
theorem Same.free(e:Same H H'){l:Addr}(h:H' l=Option.none):H l=Option.none:=by
 cases q:H l with
 | none=>rfl
 | some o=>
  rw [e l o q] at h;cases h
theorem Same.seq(e:Same H H')(h:D3 K H a xs):D3 K H' a xs:=by
 rcases h with (h | ⟨o,h⟩) | h
 .exact .inl (.inl (e _ _ h))
 .exact .inl (.inr ⟨o,e _ _ h⟩)
 .exact .inr h
end L2
set_option maxRecDepth 100000
namespace L2
open PySem PySem.Spec PyProof.Rows
section
variable {κ:Type} [DecidableEq κ]
noncomputable def valV (kvs:List (κ×V)) (k:κ):Option V:=(kvs.find? fun kv=>decide (kv.1=k)).map (·.2)
noncomputable def putK (kvs:List (κ×V)) (k:κ) (v:V):List (κ×V):=
 if (kvs.any fun kv=>decide (kv.1=k))=true then kvs.map (fun kv=>if kv.1=k then (kv.1,v) else kv) else kvs++[(k,v)]
noncomputable def dropK (kvs:List (κ×V)) (k:κ):List (κ×V):=kvs.filter fun kv=>decide (kv.1≠k)
theorem lJ{p:κ×V}{r:List (κ×V)}{k:κ}(e:p.1=k):valV (p::r) k=some p.2:=by simp [valV,k8,e]
theorem u3{p:κ×V}{r:List (κ×V)}{k:κ}(e:¬ p.1=k):valV (p::r) k=valV r k:=by simp [valV,k8,e]
theorem oW(k:κ):∀ kvs:List (κ×V),(kvs.any fun kv=>decide (kv.1=k))=(valV kvs k).isSome
 | []=>rfl
 | p::r=>by
  rw [q5]
  by_cases e:p.1=k
  .simp only [lJ e,decide_eq_true e,Bool.true_or,gS]
  .rw [u3 e,decide_eq_false e,Bool.false_or];exact oW k r
theorem oX(kvs:List (κ×V))(k:κ)(v:V):(putK kvs k v).length<=kvs.length+1:=by
 unfold putK
 split
 .rw [B3];lia
 .rw [G0,J9,k7];lia
theorem ajd{kvs:List (κ×V)}{k:κ}(v:V)(h:valV kvs k=none):putK kvs k v=kvs++[(k,v)]:=by
 unfold putK;rw [oW,h];exact if_neg (by decide)
theorem RelO.isSome_eq{o:Option V}{u:Option Value}(r:RelO o u):o.isSome=u.isSome:=by
 cases o with
 | none=>cases u with
  | none=>rfl
  | some _=>exact (show False from r).elim
 | some _=>cases u with
  | none=>exact (show False from r).elim
  | some _=>rfl
theorem RelO.getD{o:Option V}{u:Option Value}{d:V}{d':Value}(r:RelO o u)(rd:RelV d d'):RelV (o.getD d) (u.getD d'):=by
 cases o with
 | none=>cases u with
  | none=>exact rd
  | some _=>exact (show False from r).elim
 | some _=>cases u with
  | none=>exact (show False from r).elim
  | some _=>exact r
theorem KV.val{kvs:List (κ×V)}{vs:List (κ×Value)}(r:KV kvs vs)(k:κ):RelO (valV kvs k) (valueAt vs k):=by
 unfold KV at r
 induction r with
 | nil=>exact True.intro
 | @cons p q ps qs h t ih=>
  obtain ⟨h1,h2⟩:=h
  by_cases e:p.1=k
  .have e':q.1=k:=h1.symm.trans e;have b:valueAt (q::qs) k=some q.2:=by simp [valueAt,k8,e']
   rw [lJ e,b];exact h2
  .have e':¬ q.1=k:=fun z=>e (h1.trans z)
   have b:valueAt (q::qs) k=valueAt qs k:=by simp [valueAt,k8,e']
   rw [u3 e,b];exact ih
theorem KV.any{kvs:List (κ×V)}{vs:List (κ×Value)}(r:KV kvs vs)(k:κ):(kvs.any fun kv=>decide (kv.1=k))=vs.any fun kv=>decide (kv.1=k):=by
 unfold KV at r
 induction r with
 | nil=>rfl
 | cons h t ih=>rw [q5,q5,ih,h.1]
theorem KV.repl{kvs:List (κ×V)}{vs:List (κ×Value)}(r:KV kvs vs)(k:κ)(ry:RelV y u) :
  KV (kvs.map fun kv=>if kv.1=k then (kv.1,y) else kv) (vs.map fun kv=>if kv.1=k then (kv.1,u) else kv):=by
 unfold KV at r ⊢
 induction r with
 | nil=>exact .nil
 | @cons p q ps qs h t ih=>
  rw [G3,G3];refine .cons ?_ ih;obtain ⟨h1,h2⟩:=h
  by_cases e:p.1=k
  .rw [if_pos e,if_pos (h1.symm.trans e)];exact ⟨h1,ry⟩
  .rw [if_neg e,if_neg (fun z=>e (h1.trans z))];exact ⟨h1,h2⟩
theorem KV.put{kvs:List (κ×V)}{vs:List (κ×Value)}(r:KV kvs vs)(k:κ)(ry:RelV y u):KV (putK kvs k y) (stored vs k u):=by
 unfold putK stored;rw [r.any k]
 by_cases e:(vs.any fun kv=>decide (kv.1=k))=true
 .rw [if_pos e,if_pos e];exact r.repl k ry
 .rw [if_neg e,if_neg e];exact Paired.snoc r ⟨rfl,ry⟩
theorem KV.drop{kvs:List (κ×V)}{vs:List (κ×Value)}(r:KV kvs vs)(k:κ):KV (dropK kvs k) (without vs k):=by
 unfold KV at r ⊢
 unfold dropK without
 induction r with
 | nil=>exact .nil
 | @cons p q ps qs h t ih=>
  obtain ⟨h1,h2⟩:=h;rw [List.filter_cons,List.filter_cons]
  by_cases e:p.1=k
  .have a:¬ decide (p.1≠k)=true:=by simp [e]
   have b:¬ decide (q.1≠k)=true:=by simp [h1.symm.trans e]
   rw [if_neg a,if_neg b];exact ih
  .have e':¬ q.1=k:=fun z=>e (h1.trans z)
   have a:decide (p.1≠k)=true:=by simp [e]
   have b:decide (q.1≠k)=true:=by simp [e']
   rw [if_pos a,if_pos b];exact .cons ⟨h1,h2⟩ ih
theorem KV.keys{kvs:List (κ×V)}{vs:List (κ×Value)}(r:KV kvs vs):kvs.map (·.1)=vs.map (·.1):=by
 unfold KV at r
 induction r with
 | nil=>rfl
 | cons h t ih=>rw [G3,G3,ih,h.1]
theorem KV.length{kvs:List (κ×V)}{vs:List (κ×Value)}(r:KV kvs vs):kvs.length=vs.length:=Paired.length r
theorem aje(kvs:List (κ×V))(k:κ):(dropK kvs k).length<=kvs.length:=gM _ _
end
theorem kV_is{P:Program}{w:World}{k:C2}(r:RelV (kV k) u):(N3 P w).is k u=true:=by
 cases k with
 | inl i=>obtain ⟨t,e⟩:=(show ∃ t,u=Value.int i t from r);subst e;exact afI P w i t
 | inr x=>obtain ⟨t,e⟩:=(show ∃ t,u=Value.str x t from r);subst e;exact afJ P w x t
theorem wD{P:Program}{w:World} : ∀ {ks:List C2} {us:List Value},Vals (ks.map kV) us->ItemsAre (N3 P w) ks us
 | [],_,r=>by rw [d2] at r;cases r;exact .nil
 | k::ks,_,r=>by
  rw [G3] at r
  cases r with
  | cons h t=>exact .cons (kV_is h) (wD t)
noncomputable abbrev KT (H:Hp):List (List C2×V)->List (List C2×Addr×Value)->Prop:=Paired fun p q=>p.1=q.1/\H q.2.1=some (.tup (p.1.map kV))/\RelV p.2 q.2.2
theorem KT.val{kvs:List (List C2×V)}{xs:List (List C2×Addr×Value)}(r:KT H kvs xs)(k:List C2):RelO (valV kvs k) ((atKey xs k).map (·.2)):=by
 induction r with
 | nil=>exact True.intro
 | @cons p q ps qs h t ih=>
  obtain ⟨h1,_,h2⟩:=h
  by_cases e:p.1=k
  .have e':q.1=k:=h1.symm.trans e;have b:atKey (q::qs) k=some q.2:=by simp [atKey,k8,e']
   rw [lJ e,b];exact h2
  .have e':¬ q.1=k:=fun z=>e (h1.trans z)
   have b:atKey (q::qs) k=atKey qs k:=by simp [atKey,k8,e']
   rw [u3 e,b];exact ih
theorem KT.repl{kvs:List (List C2×V)}{xs:List (List C2×Addr×Value)}(r:KT H kvs xs)(k:List C2)(ry:RelV y u) :
  KT H (kvs.map fun kv=>if kv.1=k then (kv.1,y) else kv) (xs.map (putAt k u)):=by
 induction r with
 | nil=>exact .nil
 | @cons p q ps qs h t ih=>
  rw [G3,G3];refine .cons ?_ ih;obtain ⟨h1,h2,h3⟩:=h;unfold putAt
  by_cases e:p.1=k
  .rw [if_pos e,if_pos (h1.symm.trans e)];exact ⟨h1,h2,ry⟩
  .rw [if_neg e,if_neg (fun z=>e (h1.trans z))];exact ⟨h1,h2,h3⟩
theorem KT.put{kvs:List (List C2×V)}{xs:List (List C2×Addr×Value)}(r:KT H kvs xs)(k:List C2)(hb:H b=some (.tup (k.map kV)))(ry:RelV y u) :
  KT H (putK kvs k y) (storedH xs k b u):=by
 have e:(kvs.any fun kv=>decide (kv.1=k))=(atKey xs k).isSome:=by
  rw [oW,(r.val k).isSome_eq,Option.isSome_map]
 unfold putK storedH;rw [e]
 by_cases q:(atKey xs k).isSome=true
 .rw [if_pos q,if_pos q];exact r.repl k ry
 .rw [if_neg q,if_neg q];exact Paired.snoc r ⟨rfl,hb,ry⟩
theorem KT.keeps{kvs:List (List C2×V)}{xs:List (List C2×Addr×Value)}(r:KT H kvs xs)(ht:∀ b ys,H b=some (.tup ys)->H' b=some (.tup ys)):KT H' kvs xs:=
 f6 r fun _ _ z=>⟨z.1,ht _ _ z.2.1,z.2.2⟩
section
variable {P:Program} {w:World} {H:Hp} {h:Heap} {a:Addr}
theorem rd_of{u:HO}(ok:J7 P w H h)(e:Rd H a u):ObjOk P w H h a u:=e.ok ok
theorem dk_rd(ok:J7 P w H h)(e:Rd H a (.dK kvs)):kvs.length<=sizeLine/\(a==sysModules)=false/\∃ vs,KV kvs vs/\h.DictOf (N3 P w) a vs:=
 show ObjOk P w H h a (.dK kvs) from rd_of ok e
theorem dk_of(ok:J7 P w H h)(e:H a=some (.dK kvs)):kvs.length<=sizeLine/\(a==sysModules)=false/\∃ vs,KV kvs vs/\h.DictOf (N3 P w) a vs:=dk_rd ok (.inl e)
theorem eK{ks:List C2}(ok:J7 P w H h)(e:H a=some (.tup (ks.map kV))):(tupleKind (N3 P w)).is h ks a:=by
 obtain ⟨_,its,r,o,h1,h2,n,h3⟩:=(show ObjOk P w H h a (.tup (ks.map kV)) from ok a _ e)
 exact ⟨o,its.toArray,n,h1,h2,h3,by simpa using wD r⟩
theorem dt_rd{kvs:List (List C2×V)}(ok:J7 P w H h)(e:Rd H a (.dT kvs)):kvs.length<=sizeLine/\(a==sysModules)=false/\
  ∃ xs,KT H kvs xs/\h.DictOfH (tupleKind (N3 P w)) a xs:=by
 obtain ⟨z,y,xs,r,o,es,ep,h1,h2,h3,h4,h5⟩:=(show ObjOk P w H h a (.dT kvs) from rd_of ok e)
 refine ⟨z,y,xs,r,o,es,ep,h1,h2,h3,h4,fun x hx=>?_,h5⟩;have all:∀ {l:List (List C2×V)} {m:List (List C2×Addr×Value)},KT H l m->∀ x∈m,(tupleKind (N3 P w)).is h x.1 x.2.1:=by
  intro l m q
  induction q with
  | nil=>intro x hx;exact nomatch hx
  | @cons p q ps qs hq t ih=>
   intro x hx
   rcases G4.mp hx with e | hx
   .subst e;exact eK ok (by rw [<- hq.1];exact hq.2.1)
   .exact ih x hx
 exact all r x hx
theorem dt_of{kvs:List (List C2×V)}(ok:J7 P w H h)(e:H a=some (.dT kvs)):kvs.length<=sizeLine/\(a==sysModules)=false/\
  ∃ xs,KT H kvs xs/\h.DictOfH (tupleKind (N3 P w)) a xs:=dt_rd ok (.inl e)
end
noncomputable def DGet (H:Hp) (a:Addr) (y:V) (r:Option V):Prop:=
 (∃ kvs k,Rd H a (.dK kvs)/\y=kV k/\r=valV kvs k)\/∃ kvs k b,Rd H a (.dT kvs)/\y=.ref b/\H b=some (.tup (k.map kV))/\r=valV kvs k
noncomputable def DPut (H:Hp) (a:Addr) (y v:V) (H':Hp):Prop:=
 (∃ kvs k,H a=some (.dK kvs)/\y=kV k/\kvs.length<sizeLine/\H'=A0 H a (.dK (putK kvs k v)))\/
 ∃ kvs k b,H a=some (.dT kvs)/\y=.ref b/\H b=some (.tup (k.map kV))/\kvs.length<sizeLine/\H'=A0 H a (.dT (putK kvs k v))
theorem aE{k:C2}(e:H a=some (.dK kvs)):DGet H a (kV k) (valV kvs k):=.inl ⟨kvs,k,.inl e,rfl,rfl⟩
theorem l8{k:C2}{v:V}(e:H a=some (.dK kvs))(hl:kvs.length<sizeLine):DPut H a (kV k) v (A0 H a (.dK (putK kvs k v))):=.inl ⟨kvs,k,e,rfl,hl,rfl⟩
section
variable {X:Cx} {pins:List (Addr×Obj)} {Y:St} {H:Hp} {s:Shared} {a:Addr} {y v:V} {u r:Value} {o:Option V} {A:Around} {E:Value->Shared->Prop}
theorem Inv.big(I:Inv X pins Y H s):sysModules<s.heap.objs.size:=by
 have h:mainGlobals<s.heap.objs.size:=(I.mod.glob.keeps I.bk).lt;exact Nat.lt_trans (by decide) h
theorem wE{Q:Value->Shared->Prop}(hu:A.units+1<cLine)(I:Inv X pins Y H s)(g:DGet H a y (some v))(ry:RelV y u)(h:∀ w' s',Inv X pins Y H s'->RelV v w'->Q w' s') :
  wpAny (model X.prog X.w) A (getItem (.ref a) u) Q E s:=by
 rcases g with ⟨kvs,k,e,ey,l⟩ | ⟨kvs,k,b,e,ey,eb,l⟩
 .subst ey;obtain ⟨z,hd,vs,rel,dd⟩:=dk_rd I.hok e;obtain ⟨w',hw,rw'⟩:=eG (v:=v) (o:=valueAt vs k) (by rw [l];exact rel.val k);exact wpAny_getItem_of (kV_is ry) dd.mapOf hw (h w' _ (I.tok _) rw')
 .subst ey
  cases (show u=Value.ref b from ry)
  obtain ⟨z,hd,xs,rel,dd⟩:=dt_rd I.hok e;obtain ⟨w',hw,rw'⟩:=eG (v:=v) (o:=(atKey xs k).map (·.2)) (by rw [l];exact rel.val k);obtain ⟨p,hp,fO⟩:=Option.map_eq_some_iff.mp hw;refine wpAny_getItem_heap (tupleKind_room_in1 hu) (eK I.hok eb) dd hp ?_;rw [fO];exact h w' _ (I.tok _) rw'
theorem d_in{Q:Value->Shared->Prop}(hu:A.units+1<cLine)(I:Inv X pins Y H s)(g:DGet H a y o)(ry:RelV y u)(h:∀ s',Inv X pins Y H s'->Q (.bool o.isSome) s') :
  wpAny (model X.prog X.w) A (compareOp .In u (.ref a)) Q E s:=by
 rcases g with ⟨kvs,k,e,ey,l⟩ | ⟨kvs,k,b,e,ey,eb,l⟩
 .subst ey;obtain ⟨z,hd,vs,rel,dd⟩:=dk_rd I.hok e;refine wpAny_in_of (kV_is ry) hd dd.mapOf ?_;rw [<- (rel.val k).isSome_eq,<- l];exact h _ (I.tok _)
 .subst ey
  cases (show u=Value.ref b from ry)
  obtain ⟨z,hd,xs,rel,dd⟩:=dt_rd I.hok e;refine wpAny_in_heap (tupleKind_room_in1 hu) (eK I.hok eb) hd dd ?_;have q:=(rel.val k).isSome_eq;rw [Option.isSome_map] at q;rw [<- q,<- l];exact h _ (I.tok _)
theorem ak8{Q:Value->Shared->Prop}(hu:A.units+1<cLine)(I:Inv X pins Y H s)(g:DGet H a y o)(ry:RelV y u)(h:∀ s',Inv X pins Y H s'->Q (.bool (!o.isSome)) s') :
  wpAny (model X.prog X.w) A (compareOp .NotIn u (.ref a)) Q E s:=by
 rcases g with ⟨kvs,k,e,ey,l⟩ | ⟨kvs,k,b,e,ey,eb,l⟩
 .subst ey;obtain ⟨z,hd,vs,rel,dd⟩:=dk_rd I.hok e;refine wpAny_notIn_of (kV_is ry) hd dd.mapOf ?_;rw [<- (rel.val k).isSome_eq,<- l];exact h _ (I.tok _)
 .subst ey
  cases (show u=Value.ref b from ry)
  obtain ⟨z,hd,xs,rel,dd⟩:=dt_rd I.hok e;refine wpAny_notIn_heap (tupleKind_room_in1 hu) (eK I.hok eb) hd dd ?_;have q:=(rel.val k).isSome_eq;rw [Option.isSome_map] at q;rw [<- q,<- l];exact h _ (I.tok _)
theorem lK{ob:HO}(I:Inv X pins Y H s)(mu:eB (H a))(hs:Heap.SameBut a s.heap h')(he:∃ q,h'.get? a=some q)(new:ObjOk X.prog X.w (A0 H a ob) h' a ob) :
  Inv X pins Y (A0 H a ob) { s with heap:=h',toks:=t' }:=
 I.write (x:=a) (e:=a) mu (.inl rfl) (fun b q hb z=>(hs.2 b hb).trans z) he new
theorem lL{P:Program}{w:World}{vs:List (C2×Value)}(z:kvs.length<=sizeLine)(hd:(a==sysModules)=false)(rel:KV kvs vs)(dd:h'.DictOf (N3 P w) a vs) :
  ObjOk P w H' h' a (.dK kvs):=⟨z,hd,vs,rel,dd⟩
theorem wF{Q:Unit->Shared->Prop}(hu:A.units+1<cLine)(I:Inv X pins Y H s)(g:DPut H a y v H')(ry:RelV y u)(rv:RelV v r)(h:∀ s',Inv X pins Y H' s'->Q () s') :
  wpAny (model X.prog X.w) A (setItem (.ref a) u r) Q E s:=by
 rcases g with ⟨kvs,k,e,ey,l,eH⟩ | ⟨kvs,k,b,e,ey,eb,l,eH⟩
 .subst ey eH;obtain ⟨z,hd,vs,rel,dd⟩:=dk_of I.hok e;have hz:vs.length<=sizeLine:=by rw [<- rel.length];exact z
  have hl:(putK kvs k v).length<=sizeLine:=by have:=oX kvs k v;lia
  refine wpAny_setItem_pairs (hsz:=hz) (kV_is ry) dd fun h' dd' hs=>h _ ?_
  have he:∃ q,h'.get? a=some q:=let ⟨q,_,_,hq,_⟩:=dd';⟨q,hq⟩
  exact lK I (by rw [e];exact True.intro) hs he (lL hl hd (rel.put k rv) dd')
 .subst ey eH
  cases (show u=Value.ref b from ry)
  obtain ⟨z,hd,xs,rel,dd⟩:=dt_of I.hok e;have hz:xs.length<=sizeLine:=by rw [<- Paired.length rel];exact z
  have hl:(putK kvs k v).length<=sizeLine:=by have:=oX kvs k v;lia
  refine wpAny_setItem_heap (hsz:=hz) (tupleKind_room_in1 hu) (eK I.hok eb) dd fun h' dd' hs=>h _ ?_
  obtain ⟨q,es,ep,hq,h2,h3,h4,_,h5⟩:=dd';refine lK I (by rw [e];exact True.intro) hs ⟨q,hq⟩ ⟨hl,hd,_,(rel.put k eb rv).keeps fun c ys ec=>?_,q,es,ep,hq,h2,h3,h4,h5⟩;rw [A7 (ne_of ec e (fun z=>nomatch z))];exact ec
end
section
variable {X:Cx} {pins:List (Addr×Obj)} {Y:St} {H:Hp} {s:Shared} {a:Addr} {kvs:List (C2×V)} {k:C2} {u:Value} {A:Around} {E:Value->Shared->Prop}
theorem d_pop{v:V}{more:List Value}{Q:Value->Shared->Prop}(I:Inv X pins Y H s)(e:H a=some (.dK kvs))(ry:RelV (kV k) u)(l:valV kvs k=some v)(hm:more=[]\/∃ x,more=[x])(h:∀ w' s',Inv X pins Y (A0 H a (.dK (dropK kvs k))) s'->RelV v w'->Q w' s'):wpAny (model X.prog X.w) A (call (.builtin "dict.pop") (.ref a::u::more)) Q E s:=by
 obtain ⟨z,hd,vs,rel,dd⟩:=dk_of I.hok e;obtain ⟨w',hw,rw'⟩:=eG (v:=v) (o:=valueAt vs k) (by rw [<- l];exact rel.val k);have hp:(keyPart u).isSome=true:=by
  cases k with
  | inl i=>obtain ⟨t,q⟩:=(show ∃ t,u=Value.int i t from ry);subst q;rfl
  | inr x=>obtain ⟨t,q⟩:=(show ∃ t,u=Value.str x t from ry);subst q;rfl
 have ha:argsOk "dict.pop" ⟨.ref a::u::more,[]⟩:=by
  rcases hm with q | ⟨x,q⟩
  .subst q;exact PySem.F.args_dict_pop_2 _ _
  .subst q;exact PySem.F.args_dict_pop_3 _ _ _
 refine call_meetsIn PySem.F.slot_dict_pop dd.typeIs PySem.F.entry_dict_pop ha (meets_dict_pop_there (N3 X.prog X.w) a (kV_is ry) more hm hp)
  ⟨vs,w',dd,by rw [<- rel.length];exact z,hw,fun h' dd' hs=>h w' _ ?_ rw'⟩
 have he:∃ q,h'.get? a=some q:=let ⟨q,_,_,hq,_⟩:=dd';⟨q,hq⟩
 exact lK I (by rw [e];exact True.intro) hs he (lL (E1 (aje kvs k) z) hd (rel.drop k) dd')
theorem d_len{Q:Value->Shared->Prop}(I:Inv X pins Y H s)(e:Rd H a (.dK kvs))(h:∀ t s',Inv X pins Y H s'->Q (.int kvs.length t) s'):wpAny (model X.prog X.w) A (call (.builtin "len") [.ref a]) Q E s:=by
 obtain ⟨z,hd,vs,rel,dd⟩:=dk_rd I.hok e;refine call_len_dict hd dd (by rw [<- rel.length];rw [sizeLine_eq] at z;lia) ?_;rw [<- rel.length];exact h _ _ (I.tok _)
end
noncomputable def NoSl (i:Expr):Prop:=∀ ov iv,subscripted i false ov iv=operate [ov,iv] (getItem ov iv)
theorem wG{w:World}{E:Value->Shared->Prop}{env:Env}{value slice:Expr}{pos:Pos}{T id:String}{Q:Value->Shared->Prop}(hl:typeLookup (.type T) "__getitem__"=pure (some (.builtin id)))(hs:NoSl slice)(h:wpAny (model prog w) A (eval value env) (fun o zt=>wpAny (model prog w) A (eval slice env) (fun i zw=>zw.TypeIs o T/\wpAny (model prog w) A (getItem o i) Q E zw) E zt) E s) :
  wpAny (model prog w) A (eval (.Subscript value slice pos) env) Q E s:=by
 refine Subscript_ (wpAny_mono h (fun o zt zq=>wpAny_mono zq (fun i zw zp=>?_) fun _ _ x=>x) fun _ _ x=>x);obtain ⟨hT,zp⟩:=zp;unfold subscriptTail;refine wpAny_bind ?_;rw [getitemInPython_of_ne hT.not_modules];refine wpAny_bind (wpAny_specialOf hT hl ?_);have fin:wpAny (model prog w) A (subscripted slice false o i) (fun r zu=>wpAny (model prog w) A (letTemporaryGo value o r >>= fun _=>pure r) Q E zu) E zw:=by
  rw [hs o i];exact wpAny_operating (wpAny_mono zp (fun r zu zo=>wpAny_bind (wpAny_letTemporaryGo (wpAny_pure zo))) fun _ _ x=>x)
 first
  | exact wpAny_pure (wpAny_bind fin)
  | exact wpAny_bind (wpAny_pure (wpAny_bind fin))
  | exact wpAny_bind fin
theorem afO{o:Option V}(I:Inv X pins Y H s)(g:DGet H a y o):s.TypeIs (.ref a) "dict":=by
 rcases g with ⟨kvs,k,e,_,_⟩ | ⟨kvs,k,b,e,_,_,_⟩
 .obtain ⟨_,_,vs,_,dd⟩:=dk_rd I.hok e;exact dd.typeIs
 .obtain ⟨_,_,xs,_,dd⟩:=dt_rd I.hok e;exact dd.typeIs
noncomputable def tDGet (td ty:TE):TE:=fun Y H Q=>td Y H fun x H1=>ty Y H1 fun y H2=>∃ a v,x=.ref a/\DGet H2 a y (some v)/\Q v H2
noncomputable def sDPut (td ty tv:TE):TS:=fun D Y H=>tv Y H fun v H1=>td Y H1 fun x H2=>ty Y H2 fun y H3=>∃ a H4,x=.ref a/\DPut H3 a y v H4/\D.nx Y H4
noncomputable def sDAug (td ty tv:TE) (rd:V->V->Hp->VK->Prop):TS:=fun D Y H=>td Y H fun x H1=>ty Y H1 fun y H2=>∃ a v,x=.ref a/\DGet H2 a y (some v)/\
 tv Y H2 fun y2 H3=>rd v y2 H3 fun z H4=>∃ H5,DPut H4 a y z H5/\D.nx Y H5
section
variable {X:Cx} {o i e value:Expr} {pos pos' tpos:Pos} {td ty tv:TE}
theorem ak9(hu:X.A.units+1<cLine)(ho:PE X o td)(hi:PE X i ty)(hs:NoSl i):PE X (.Subscript o i pos) (tDGet td ty):=by
 intro pins s Y H Q I h;refine wG PySem.F.slot_dict_getitem.lookup hs (C0 (ho pins s Y H _ I h) fun u s1 ⟨x,H1,I1,rx,q1⟩=>C0 (hi pins s1 Y H1 _ I1 q1) fun iv s2 ⟨y,H2,I2,ry,a,v,ex,g,q2⟩=>?_);subst ex;obtain rfl:u=Value.ref a:=rx;exact ⟨afO I2 g,wE hu I2 g ry fun w' s3 I3 rw'=>⟨v,H2,I3,rw',q2⟩⟩
theorem ala(hu:X.A.units+1<cLine)(ho:PE X o td)(hi:PE X i ty)(hv:PE X value tv)(hs:swapsWith value (some (.Subscript o i pos')) pos.line X.env=pure false) :
  PS X (.Assign [.Subscript o i pos'] value pos) (sDPut td ty tv):=by
 intro pins s Y H D I h;refine wpAny_Assign_Subscript (C0 (hv pins s Y H _ I h) fun r s1 ⟨v,H1,I1,rv,q1⟩=>C0 (ho pins s1 Y H1 _ I1 q1) fun u s2 ⟨x,H2,I2,rx,q2⟩=>C0 (hi pins s2 Y H2 _ I2 q2) fun iv s3 ⟨y,H3,I3,ry,a,H4,ex,g,q3⟩=>?_) hs;subst ex;obtain rfl:u=Value.ref a:=rx;exact wF hu I3 g ry rv fun s4 I4=>⟨Y,H4,I4,q3⟩
theorem alb{op:Operator}{rd:V->V->Hp->VK->Prop}(hu:X.A.units+1<cLine)(ho:PE X o td)(hi:PE X i ty)(hv:PE X value tv)(sT:InOp X op rd)(ha:∀ ov iv new,augStore i ov iv new=(do holding [new,ov,iv] (setItem ov iv new);release [new,ov,iv] [];pure .next)):PS X (.AugAssign (.Subscript o i tpos) op value pos) (sDAug td ty tv rd):=by
 intro pins s Y H D I h;refine wpAny_AugAssign_SubscriptAny (C0 (ho pins s Y H _ I h) fun u s1 ⟨x,H1,I1,rx,q1⟩=>C0 (hi pins s1 Y H1 _ I1 q1) fun iv s2 ⟨y,H2,I2,ry,a,v,ex,g,q2⟩=>?_) ha;subst ex;obtain rfl:u=Value.ref a:=rx;refine wE hu I2 g ry fun w' s3 I3 rw'=>C0 (hv pins s3 Y H2 _ I3 q2) fun w2 s4 ⟨y2,H3,I4,ry2,q3⟩=>C0 (sT pins s4 Y H3 v y2 w' w2 _ I4 rw' ry2 q3) fun w3 s5 ⟨z,H4,I5,rz,H5,g5,q4⟩=>?_
 exact wF hu I5 g5 ry rz fun s6 I6=>⟨Y,H5,I6,q4⟩
end
theorem ajf{P:Program}{w:World}(h:Heap)(hb:sysModules<h.objs.size):ObjOk P w H (h.push { cls:=.type "dict",data:=.dict #[] }) h.objs.size (.dK []):=
 ⟨G8 _,beq_eq_false_iff_ne.mpr (Ne.symm (K4 hb)),[],.nil,Heap.DictOf.new h⟩
noncomputable def oY:TE:=fun _ H Q=>∀ p,H p=none->Q (.ref p) (A0 H p (.dK []))
section
variable {X:Cx} {pos:Pos}
theorem ajg:PE X (.Dict [] [] pos) oY:=fun pins s Y H Q I h=>
 wpAny_Dict_empty ⟨.ref s.heap.objs.size,_,I.laid (a:=s.heap.objs.size) (o:=.dK []) (t':=s.toks) (fun _ _ q=>Heap.get?_push_of_some _ q) (C4 _) (ajf s.heap I.big),rfl,h _ (I.hok.fresh (C4 _))⟩
end
noncomputable def eM:List (TE×TE)->St->Hp->(List (V×V)->Hp->Prop)->Prop
 | [],_,H,Q=>Q [] H
 | (tk,tv)::r,Y,H,Q=>tk Y H fun x H1=>tv Y H1 fun y H2=>eM r Y H2 fun ps H3=>Q ((x,y)::ps) H3
noncomputable def X0 (kvs more:List (C2×V)):List (C2×V):=more.foldl (fun acc kv=>putK acc kv.1 kv.2) kvs
theorem wH:∀ (more kvs:List (C2×V)),(X0 kvs more).length<=kvs.length+more.length
 | [],kvs=>by show kvs.length<=kvs.length+0;lia
 | p::r,kvs=>by
  have h1:=wH r (putK kvs p.1 p.2);have h2:=oX kvs p.1 p.2;show (X0 (putK kvs p.1 p.2) r).length<=_;rw [J9];lia
noncomputable def tDisp (trs:List (TE×TE)):TE:=fun Y H Q=>∀ p,H p=none->eM trs Y (A0 H p (.dK [])) fun ps H2=>H2 p=some (.dK [])/\∃ kvs:List (C2×V),ps=kvs.map (fun kv=>(kV kv.1,kv.2))/\kvs.length<=15/\Q (.ref p) (A0 H2 p (.dK (X0 [] kvs)))
structure M1(X:Cx)(o:Expr)(m:Str)(apos:Pos)(e:Expr)(cpos:Pos):Prop where
 base:attributeBase o m X.env (eval o X.env)=eval o X.env
 few:((backTo cpos (starEach [e] X.env)).all (fun x=>!x.1)&&(backToKw cpos (keywordEach [] X.env)).all (fun x=>x.1.isSome)
  && decide (([e]:List Expr).length+([]:List Keyword).length+(if ([]:List Keyword).isEmpty then 0 else 1)<30))=true
 line:(apos.endLine==cpos.line)=true
 trees:backTo cpos (starEach [e] X.env)=[(false,eval e X.env)]
structure M2(X:Cx)(o:Expr)(m:Str)(apos:Pos)(e f:Expr)(cpos:Pos):Prop where
 base:attributeBase o m X.env (eval o X.env)=eval o X.env
 few:((backTo cpos (starEach [e,f] X.env)).all (fun x=>!x.1)&&(backToKw cpos (keywordEach [] X.env)).all (fun x=>x.1.isSome)
  && decide (([e,f]:List Expr).length+([]:List Keyword).length+(if ([]:List Keyword).isEmpty then 0 else 1)<30))=true
 line:(apos.endLine==cpos.line)=true
 trees:backTo cpos (starEach [e,f] X.env)=[(false,eval e X.env),(false,eval f X.env)]
noncomputable def u4 (H:Hp) (a:Addr):Prop:=(∃ kvs,Rd H a (.dK kvs))\/∃ kvs,Rd H a (.dT kvs)
theorem oZ(I:Inv X pins Y H s)(d:u4 H a) :
  s.TypeIs (.ref a) "dict"/\(∀ b,Value.ref a=.ref b->∃ ob,s.heap.get? b=some ob/\ob.dict=none)/\(a==sysModules)=false:=by
 rcases d with ⟨kvs,e⟩ | ⟨kvs,e⟩
 .obtain ⟨_,hd,vs,_,dd⟩:=dk_rd I.hok e;refine ⟨dd.typeIs,fun b q=>?_,hd⟩
  cases q
  obtain ⟨ob,_,_,h1,h2,_⟩:=dd;exact ⟨ob,h1,h2.2.1⟩
 .obtain ⟨_,hd,xs,_,dd⟩:=dt_rd I.hok e;refine ⟨dd.typeIs,fun b q=>?_,hd⟩
  cases q
  obtain ⟨ob,_,_,h1,h2,_⟩:=dd;exact ⟨ob,h1,h2.2.1⟩
section
variable {X:Cx} {pins:List (Addr×Obj)} {Y:St} {H:Hp} {s:Shared} {a:Addr} {y d:V} {u r:Value} {o:Option V} {A:Around} {E:Value->Shared->Prop}
theorem anj{Q:Value->Shared->Prop}(hu:A.units+1<cLine)(I:Inv X pins Y H s)(g:DGet H a y o)(ry:RelV y u)(h:∀ w' s',Inv X pins Y H s'->RelV (o.getD .non) w'->Q w' s') :
  wpAny (model X.prog X.w) A (call (.builtin "dict.get") [.ref a,u]) Q E s:=by
 rcases g with ⟨kvs,k,e,ey,l⟩ | ⟨kvs,k,b,e,ey,eb,l⟩
 .subst ey;obtain ⟨z,hd,vs,rel,dd⟩:=dk_rd I.hok e;refine call_meetsIn PySem.F.slot_dict_get dd.typeIs PySem.F.entry_dict_get (PySem.F.args_dict_get_2 _ _) (meets_dict_get (N3 X.prog X.w) a (kV_is ry) hd) ⟨_,dd.mapOf,h _ _ (I.tok _) ?_⟩;rw [l];exact (rel.val k).getD rfl
 .subst ey
  cases (show u=Value.ref b from ry)
  obtain ⟨z,hd,xs,rel,dd⟩:=dt_rd I.hok e;refine call_meetsIn PySem.F.slot_dict_get dd.typeIs PySem.F.entry_dict_get (PySem.F.args_dict_get_2 _ _) (meetsH_dict_get (tupleKind (N3 X.prog X.w)) a b hd) ⟨tupleKind_room_in1 hu,k,xs,eK I.hok eb,dd,h _ _ (I.tok _) ?_⟩;rw [l];exact (rel.val k).getD rfl
end
noncomputable def pA (td ty:TE):TE:=fun Y H Q=>td Y H fun x H1=>∃ a,x=.ref a/\u4 H1 a/\ty Y H1 fun y H2=>∃ o,DGet H2 a y o/\Q (o.getD .non) H2
noncomputable def ank (td ty tx:TE):TE:=fun Y H Q=>td Y H fun x H1=>∃ a,x=.ref a/\u4 H1 a/\ty Y H1 fun y H2=>tx Y H2 fun z H3=>∃ o,DGet H3 a y o/\Q (o.getD z) H3
noncomputable def pB (td ty:TE):TE:=fun Y H Q=>td Y H fun x H1=>∃ a,x=.ref a/\u4 H1 a/\ty Y H1 fun y H2=>∃ kvs k v,H2 a=some (.dK kvs)/\y=kV k/\valV kvs k=some v/\Q v (A0 H2 a (.dK (dropK kvs k)))
section
variable {X:Cx} {o e f:Expr} {apos cpos:Pos} {td ty tx:TE}
theorem ajh(hu:X.A.units+1<cLine)(ho:PE X o td)(he:PE X e ty)(m:M1 X o "get" apos e cpos):PE X (.Call (.Attribute o "get" apos) [e] [] cpos) (pA td ty):=by
 intro pins s Y H Q I h;refine wpAny_Call_method m.base m.few m.line PySem.F.plainAttrs_dict PySem.F.slot_dict_get PySem.F.type_dict_get (C0 (ho pins s Y H _ I h) fun u s1 ⟨x,H1,I1,rx,a,ex,d,q1⟩=>?_);subst ex;obtain rfl:u=Value.ref a:=rx;obtain ⟨t1,t2,_⟩:=oZ I1 d;refine ⟨t1,t2,?_⟩;rw [m.trees];refine Calls.callWith_builtin rfl (Calls.evalArgs_plain (Calls.spliced_cons (C0 (he pins s1 Y H1 _ I1 q1) fun iv s2 ⟨y,H2,I2,ry,ov,g,q2⟩=>Calls.spliced_nil ?_)));exact anj hu I2 g ry fun w' s3 I3 rw'=>⟨_,H2,I3,rw',q2⟩
theorem aji(ho:PE X o td)(he:PE X e ty)(m:M1 X o "pop" apos e cpos):PE X (.Call (.Attribute o "pop" apos) [e] [] cpos) (pB td ty):=by
 intro pins s Y H Q I h;refine wpAny_Call_method m.base m.few m.line PySem.F.plainAttrs_dict PySem.F.slot_dict_pop PySem.F.type_dict_pop (C0 (ho pins s Y H _ I h) fun u s1 ⟨x,H1,I1,rx,a,ex,d,q1⟩=>?_);subst ex;obtain rfl:u=Value.ref a:=rx;obtain ⟨t1,t2,_⟩:=oZ I1 d;refine ⟨t1,t2,?_⟩;rw [m.trees];refine Calls.callWith_builtin rfl (Calls.evalArgs_plain (Calls.spliced_cons (C0 (he pins s1 Y H1 _ I1 q1) fun iv s2 ⟨y,H2,I2,ry,kvs,k,v,ea,ey,l,q2⟩=>Calls.spliced_nil ?_)));subst ey;exact d_pop I2 ea ry l (.inl rfl) fun w' s3 I3 rw'=>⟨v,_,I3,rw',q2⟩
end
section
variable {X:Cx} {pins:List (Addr×Obj)} {Y:St} {H:Hp} {s:Shared} {a:Addr} {kvs:List (C2×V)} {A:Around} {E:Value->Shared->Prop}
end
section
variable {X:Cx} {pins:List (Addr×Obj)} {Y:St} {H:Hp} {s:Shared} {a:Addr} {y:V} {u:Value} {A:Around} {E:Value->Shared->Prop}
end
end L2
namespace L2
open PySem PySem.Spec PyProof.Rows
section
variable {X:Cx}
end
section
variable {κ:Type} [DecidableEq κ]
theorem pC:∀ {l:List κ} {k:κ},l.Nodup->¬ k∈l->(l++[k]).Nodup
 | [],k,_,_=>by simp
 | a::r,k,h,hk=>by
  obtain ⟨h1,h2⟩:=Y2.mp h;show (a::(r++[k])).Nodup;refine Y2.mpr ⟨fun m=>?_,pC h2 fun m=>hk (G4.mpr (Or.inr m))⟩
  rcases G1.mp m with q | q
  .exact h1 q
  .exact hk (G4.mpr (Or.inl (F7.mp q).symm))
end
end L2
set_option maxRecDepth 100000
namespace L2
open PySem PySem.Spec PyProof.Rows
noncomputable def cloOf (cells:List (Str×Addr)):List (Str×NameKind)->List (Str×Addr)->List (Str×Addr)
 | [],acc=>acc
 | (n,k)::r,acc=>if k=.free then cloOf cells r ((n,(cells.lookup n).getD 0)::acc) else cloOf cells r acc
theorem pD{env:Env} : ∀ (names:List (Str×NameKind)) (acc:List (Str×Addr)),(∀ x∈names,x.2=.free->∃ c,env.cells.lookup x.1=some c)->
  (forIn names acc fun (x:Str×NameKind) (cs:List (Str×Addr))=>(if (x.2==NameKind.free)=true then do
   let c <- cellOf env x.1
   pure (ForInStep.yield ((x.1,c)::cs)) else pure (ForInStep.yield cs):Sem (ForInStep (List (Str×Addr)))))=(pure (cloOf env.cells names acc):Sem (List (Str×Addr)))
 | [],acc,_=>rfl
 | (n,k)::r,acc,h=>by
  rw [List.forIn_cons];have hr:∀ x∈r,x.2=.free->∃ c,env.cells.lookup x.1=some c:=fun x hx=>h x (M5 _ hx)
  by_cases hk:k=.free
  .subst hk;obtain ⟨c,hc⟩:=h (n,.free) N1 rfl;have e1:cellOf env n=pure c:=by unfold cellOf;rw [show env.cells.lookup n=some c from hc]
   simp only [beq_self_eq_true,if_true];rw [e1];show (forIn r ((n,c)::acc) _:Sem _)=_;rw [pD r _ hr];show _=pure (if NameKind.free=.free then cloOf env.cells r ((n,(env.cells.lookup n).getD 0)::acc) else _);rw [if_pos rfl,show env.cells.lookup n=some c from hc];rfl
  .have hb:(k==NameKind.free)=false:=by simpa using hk
   simp only [hb,Bool.false_eq_true,if_false];show (forIn r acc _:Sem _)=_;rw [pD r _ hr];show _=pure (if k=.free then _ else cloOf env.cells r acc);rw [if_neg hk]
theorem wI{scope:Scope}{env:Env}(h:∀ x∈scope.names,x.2=.free->∃ c,env.cells.lookup x.1=some c):closureFor scope env=pure (cloOf env.cells scope.names []):=by
 simp only [closureFor];have e:=pD (env:=env) scope.names [] h;rw [e];rfl
theorem lM{cells:List (Str×Addr)} : ∀ (names:List (Str×NameKind)) (acc:List (Str×Addr)),
  (cloOf cells names acc).lookup x=if (x,NameKind.free)∈names then some ((cells.lookup x).getD 0) else acc.lookup x
 | [],acc=>by simp [cloOf]
 | (n,k)::r,acc=>by
  show (if k=.free then cloOf cells r ((n,(cells.lookup n).getD 0)::acc) else cloOf cells r acc).lookup x=_
  by_cases hk:k=.free
  .subst hk;rw [if_pos rfl,lM r]
   by_cases hm:(x,NameKind.free)∈r
   .rw [if_pos hm,if_pos (M5 _ hm)]
   .rw [if_neg hm,List.lookup_cons]
    by_cases hx:x=n
    .subst hx;rw [if_pos N1]
     simp
    .have e:(x==n)=false:=by simpa using hx
     rw [e,if_neg];intro z
     rcases G4.mp z with z | z
     .exact hx (Prod.mk.inj z).1
     .exact hm z
  .rw [if_neg hk,lM r]
   by_cases hm:(x,NameKind.free)∈r
   .rw [if_pos hm,if_pos (M5 _ hm)]
   .rw [if_neg hm,if_neg];intro z
    rcases G4.mp z with z | z
    .exact hk (Prod.mk.inj z).2.symm
    .exact hm z
theorem pE{α:Type} : ∀ {l:List (Str×α)} {k:α},l.lookup x=some k->(x,k)∈l
 | [],_,h=>by simp at h
 | (n,a)::r,k,h=>by
  rw [List.lookup_cons] at h
  by_cases hx:x=n
  .subst hx;simp at h;subst h;exact N1
  .have e:(x==n)=false:=by simpa using hx
   rw [e] at h;exact M5 _ (pE h)
theorem wJ{sc:Scope}{env:Env}{k:NameKind}(hc:∀ y∈sc.names,y.2≠.cell)(h:(relabel sc env).names.lookup x=some k)(hk:k=.cell\/k=.free):(x,NameKind.free)∈sc.names:=by
 have m:=pE h;unfold relabel at m;obtain ⟨⟨n,k'⟩,hm,e⟩:=E7.mp m;have L9:=hc _ hm
 by_cases hf:k'=.free
 .subst hf
  have:n=x:=by
   dsimp only at e
   split at e
   .exact (Prod.mk.inj e).1
   .exact (Prod.mk.inj e).1
  subst this;exact hm
 .have hb:(k'==NameKind.free)=false:=by simpa using hf
  simp only [hb,Bool.false_and,Bool.false_eq_true,if_false] at e;obtain ⟨e1,e2⟩:=Prod.mk.inj e;subst e1 e2
  rcases hk with z | z
  .exact absurd z L9
  .subst z;exact absurd rfl hf
structure CompOk(N:List Str)(kn:List (Str×NameKind))(sc:Scope)(N':List Str)(k:Nat)(ixs:List Nat):Prop where
 kind:sc.kind=.function
 cell:∀ x∈sc.names,x.2≠.cell
 names:∀ x∈sc.names,x.2=.local->sc.names.lookup x.1=some .local
 free:∀ x∈sc.names,x.2=.free->kn.lookup x.1=some .cell\/kn.lookup x.1=some .free
 clean:∀ x∈sc.names,x.2=.free->sc.names.lookup x.1=some .free
 len:N'.length=k+ixs.length
 at_:ixs.map (fun i=>N[i]?)=(N'.drop k).map some
 fr:∀ x∈N'.drop k,(x,NameKind.free)∈sc.names
noncomputable def K7 (X:Cx) (sc:Scope) (N':List Str) (C:Addr) (zu:Shared) (zr:Hp) (fp:List Addr) (pins:List (Addr×Obj)):Cx:=
 {prog:=X.prog,w:=X.w,K:=X.K,mg:=X.mg,base:=X.base,A:=X.A,N:=N',s₀:=zu,H₀:=zr,
  env:=compEnvC sc (cloOf X.env.cells sc.names []) C X.env,outer:=X.stack,stack:=X.stack,ex:=fp,fn:=fun _=>false,calm:=X.calm,
  pn:=X.pn++pins,xe:=fun _ _=>False }
noncomputable def compStart (k:Nat) (ixs:List Nat) (Y:St):St:=O0 k none++ixs.map fun i=>(Y[i]?).join
theorem aes : (compStart k ixs Y).length=k+ixs.length:=by simp [compStart]
section
variable {X:Cx} {sc:Scope} {N':List Str} {k:Nat} {ixs:List Nat} {pins:List (Addr×Obj)} {Y:St} {H:Hp} {s:Shared} {fp:List Addr}
theorem eN(C:CompOk X.N X.env.scope.names sc N' k ixs)(I:Inv X pins Y H s){c:Addr}(e:(cloOf X.env.cells sc.names []).lookup x=some c):X.env.cells.lookup x=some c/\(x,NameKind.free)∈sc.names:=by
 rw [lM] at e
 by_cases hm:(x,NameKind.free)∈sc.names
 .rw [if_pos hm] at e;obtain ⟨c',o1⟩:=I.ok.has x (C.free _ hm rfl);rw [o1] at e;exact ⟨o1.trans e,hm⟩
 .rw [if_neg hm] at e;cases e
theorem wK(C:CompOk X.N X.env.scope.names sc N' k ixs)(I:Inv X pins Y H s)(hm:(x,NameKind.free)∈sc.names):∃ c,(cloOf X.env.cells sc.names []).lookup x=some c/\X.env.cells.lookup x=some c:=by
 obtain ⟨c',o1⟩:=I.ok.has x (C.free _ hm rfl);refine ⟨c',?_,o1⟩;rw [lM,if_pos hm,o1];rfl
theorem anl(C:CompOk X.N X.env.scope.names sc N' k ixs)(I:Inv X pins Y H s)(hf:∀ b∈fp,FpOk X pins H b)(ho:∀ b∈fp,∃ o,s.heap.get? b=some o):(K7 X sc N' s.heap.objs.size s H fp pins).Ok where
 mod:=I.ok.mod
 kind:=C.kind
 glob:=I.ok.glob
 blt:=I.ok.blt
 above:=C4 _
 inj:=fun x y c e1 e2=>I.ok.inj x y c (eN C I e1).1 (eN C I e2).1
 has:=fun x hx=>by
  have hm:(x,NameKind.free)∈sc.names:=by
   rcases hx with z | z
   .exact wJ C.cell z (.inl rfl)
   .exact wJ C.cell z (.inr rfl)
  obtain ⟨c,h1,_⟩:=wK C I hm;exact ⟨c,h1⟩
 cab:=fun x c h _=>by cases h
 hd:=I.ok.hd
 frames:=I.ok.frames
 stk:=.inl rfl
 exf:=fun b hb=>by
  obtain ⟨o,e⟩:=ho b hb;exact ⟨K4 (Heap.lt_size e),fun x c e1=>(hf b hb).2.2.2.2.1 x c (eN C I e1).1⟩
 bs:=I.bs
 bsz:=E1 I.ok.bsz I.sz
 noex:=fun b o e hb=>by
  rcases (hf b hb).2.2.2.1 with z | z
  .exact I.ok.noex b o e z
  .exact absurd (Q1 (Heap.lt_size e) (E1 I.ok.bsz z)) (Y3 _)
 exfs:=fun b hb hm=>by
  rcases G4.mp (I.stkSub b hm) with z | z
  .exact (hf b hb).2.1 z
  .exact (hf b hb).2.2.1 z
 funs:=I.stack
 frf:=I.stkFree
theorem alc(C:CompOk X.N X.env.scope.names sc N' k ixs)(I:Inv X pins Y H s)(hf:∀ b∈fp,FpOk X pins H b)(ho:∀ b∈fp,∃ o,s.heap.get? b=some o){m:Str->Option Value}(hn:h'.Ns s.heap.objs.size m)(hk:∀ b o,s.heap.get? b=some o->h'.get? b=some o):Inv (K7 X sc N' s.heap.objs.size s H fp pins) [] (compStart k ixs Y) H { s with heap:=h',toks:=t' } where
 ok:=anl C I hf ho
 os:=rfl
 bare:=I.bare
 base:=Un.kept hk
 loc:=by
  refine ⟨m,hn,fun i x v e1 e2 e3=>?_⟩;unfold compStart at e2
  by_cases hi:i<k
  .rw [kZ (by simpa using hi)] at e2;rw [List.getElem?_replicate_of_lt hi] at e2;cases e2
  .rw [kY (by simpa using hi),List.length_replicate] at e2;rw [W9] at e2;cases e4:ixs[i-k]? with
   | none=>rw [e4] at e2;cases e2
   | some j=>
    rw [e4] at e2;have e5:(Y[j]?).join=some v:=Option.some.inj e2;have e6:Y[j]?=some (some v):=by
     cases e7:Y[j]? with
     | none=>rw [e7] at e5;cases e5
     | some o=>rw [e7] at e5;exact congrArg some e5
    have e1':N'[i]?=some x:=e1;have ed:(N'.drop k)[i-k]?=some x:=by rw [List.getElem?_drop,show k+(i-k)=i by lia];exact e1'
    have n3:(x,NameKind.free)∈sc.names:=C.fr x (M0 ed);have n2:X.N[j]?=some x:=by
     have q:=congrArg (fun l=>l[i-k]?) C.at_;simp only [W9,e4,ed,Option.map_some] at q;exact Option.some.inj q
    obtain ⟨m0,hn0,fP⟩:=I.loc;have jN:X.env.scope.names.lookup x=some .cell\/X.env.scope.names.lookup x=some .free:=C.free _ n3 rfl;obtain ⟨u,r,l⟩:=fP j x v n2 e6 (.inr jN);refine ⟨u,r,.inr ?_⟩
    rcases l with ⟨l,_⟩ | ⟨_,c,hc,K2⟩
    .have l':X.env.scope.names.lookup x=some .local:=l
     rcases jN with z | z
     .rw [l'] at z;cases z
     .rw [l'] at z;cases z
    .obtain ⟨c',h1,h2⟩:=wK C I n3;rw [hc] at h2;cases h2;refine ⟨?_,c,h1,?_⟩
     .have e3':(relabel sc X.env).names.lookup x=some .local\/(relabel sc X.env).names.lookup x=some .cell\/(relabel sc X.env).names.lookup x=some .free:=e3
      rcases e3' with z | z
      .exfalso
       have mm:=pE z;unfold relabel at mm;obtain ⟨⟨n,k'⟩,hm,e⟩:=E7.mp mm;have fQ:k'=.local/\n=x:=by
        dsimp only at e
        split at e
        .obtain ⟨_,q⟩:=Prod.mk.inj e
         cases q
        .exact ⟨(Prod.mk.inj e).2,(Prod.mk.inj e).1⟩
       obtain ⟨z1,z2⟩:=fQ;subst z1 z2;have q1:=C.names _ hm rfl;rw [C.clean _ n3 rfl] at q1
       cases q1
      .exact z
     .exact K2.keeps hk
 cell:=fun x c e=>by
  obtain ⟨v,z⟩:=I.cell x c (eN C I e).1;exact ⟨v,z.keeps hk⟩
 free:=I.hok.fresh (C4 _)
 freeC:=fun x c e=>I.freeC x c (eN C I e).1
 pin:=fun p hp=>by
  have hp':p∈X.pn++pins:=by simpa [K7] using hp
  obtain ⟨e,n,ne,nf,d⟩:=I.pin p hp';refine ⟨hk _ _ e,n,K4 (Heap.lt_size e),fun hm=>?_,d⟩
  rcases G4.mp (I.stkSub _ hm) with z | z
  .exact ne z
  .exact nf z
 hok:=I.hok.kept hk
 len:=by rw [aes];exact C.len.symm
end
section
variable {prog:Program} {w:World} {A:Around} {R:Result->Shared->Prop} {s:Shared}
theorem ae6{iter:Expr}{scope:Scope}{pos:Pos}{it acc:Value}{env:Env}(I:Nat->Shared->Prop)(turn:∀ n s,I n s->wpAny (model prog w) A (pyNext it) (fun r zt=>match r with
   | none=>R (.ok .next) zt
   | some v=>wpAny (model prog w) A (letOwnedTupleGo target it v) (fun _ zt=>wpAny (model prog w) A (assign target env v) (fun _ zw=>
     wpAny (model prog w) A (forIn ifs true fun c r=>if r=true then do let ok <- isTrue c env (eval c env);pure (ForInStep.yield ok) else pure (ForInStep.yield r)) (fun ok zu=>
      if ok=true then wpAny (model prog w) A (eval elt env) (fun x zn=>
       wpAny (model prog w) A (call (.builtin "list.append") [acc,x]) (fun _ zm=>∃ m,m<n/\I m zm) (notedBy (model prog w) A env fun e s'=>R (.error e) s') zn) (notedBy (model prog w) A env fun e s'=>R (.error e) s') zu
      else ∃ m,m<n/\I m zu) (notedBy (model prog w) A env fun e s'=>R (.error e) s') zw) (notedBy (model prog w) A env fun e s'=>R (.error e) s') zt) (notedBy (model prog w) A env fun e s'=>R (.error e) s') zt) (notedBy (model prog w) A env fun e s'=>R (.error e) s') s)(n:Nat)(h:I n s) :
  codeAny (model prog w) A (.compLoop (.ListComp elt [⟨target,iter,ifs,0⟩] scope pos) 0 it acc env) R s:=by
 refine codeAny_loop rfl I (fun n s hI=>?_) n h;show wpAny _ A ((compTurn (.ListComp elt [⟨target,iter,ifs,0⟩] scope pos) 0 it acc env).onRaise (fun x=>do noteFrame x env;theTreesLotGoes x)) _ _ s;refine wpAny_noted ?_;rw [compTurn_list];refine wpAny_bind (wpAny_standAt (wpAny_bind (wpAny_mono (turn n s hI) (fun r zt zq=>?_) fun _ _ h'=>h')))
 cases r with
 | none=>exact wpAny_pure zq
 | some v=>
  refine wpAny_bind (wpAny_mono zq (fun _ zt zq=>?_) fun _ _ h'=>h');refine wpAny_bind (wpAny_mono zq (fun _ zw zp=>wpAny_bind (wpAny_mono zp (fun ok zu zo=>?_) fun _ _ h'=>h')) fun _ _ h'=>h')
  cases ok with
  | false=>exact wpAny_pure ⟨rfl,zo⟩
  | true=>
   exact wpAny_bind (wpAny_bind (wpAny_mono zo (fun x zn zk=>wpAny_bind (wpAny_mono zk (fun _ zm zj=>wpAny_pure (wpAny_pure ⟨rfl,zj⟩)) fun _ _ h'=>h')) fun _ _ h'=>h'))
end
noncomputable def PIfs (X:Cx) (ifs:List Expr) (t:TT):Prop:=
 ∀ (pins:List (Addr×Obj)) (s:Shared) (Y:St) (H:Hp) (Q:Bool->Hp->Prop),Inv X pins Y H s->t Y H Q->
  wpAny (model X.prog X.w) X.A (forIn ifs true fun c r=>if r=true then do let ok <- isTrue c X.env (eval c X.env);pure (ForInStep.yield ok) else pure (ForInStep.yield r)) (TP X pins Y Q) X.xe s
noncomputable def tYes:TT:=fun _ H Q=>Q true H
theorem ajj : PIfs X [] tYes:=fun _ _ _ H _ I h=>wpAny_tests_nil ⟨H,I,h⟩
theorem ajk{c:Expr}{t:TT}(hc:PT X c t):PIfs X [c] t:=fun pins s Y H Q I h=>wpAny_tests_one (hc pins s Y H Q I h)
noncomputable def tComp (wi:TI) (k:Nat) (ixs:List Nat) (g:TG) (c:TT) (te:TE):TE:=fun Y H Q=>wi Y H fun J H1=>∀ D,H1 D=none->
 ∃ (n:Nat) (W:Nat->List V->St->Hp->Prop),W 0 [] (compStart k ixs Y) (A0 H1 D (.lst []))/\∀ i ys σ2 H2,W i ys σ2 H2->H2 D=some (.lst ys)->
  (J.stop i H2/\Q (.ref D) H2)\/
  (i<n/\J.go i H2/\∀ x H',J.yld i H2 x H'->g x σ2 H' fun σ3 H3=>c σ3 H3 fun b H4=>
   if b=true then te σ3 H4 fun y H5=>H5 D=some (.lst ys)/\ys.length<sizeLine/\W (i+1) (ys++[y]) σ3 (A0 H5 D (.lst (ys++[y])))
   else H4 D=some (.lst ys)/\W (i+1) ys σ3 H4)
section
variable {X:Cx} {sc:Scope} {N':List Str} {k:Nat} {ixs:List Nat}
theorem wL{iter:Expr}{pos:Pos}{J:It}(C:CompOk X.N X.env.scope.names sc N' k ixs)(K3:X.calm=true)(hg:∀ C zu zr fp pins,PG (K7 X sc N' C zu zr fp pins) target g)(hc:∀ C zu zr fp pins,PIfs (K7 X sc N' C zu zr fp pins) ifs c)(he:∀ C zu zr fp pins,PE (K7 X sc N' C zu zr fp pins) elt te){tn:Nat->Heap->Prop}{E:Value->Shared->Prop}(I:Inv X pins Y H s)(T:Turn X.prog X.w X.K target J fp it tn)(st:tn 0 s.heap)(hf:∀ b∈fp,FpOk X pins H b)(h:∀ D,H D=none->∃ (n:Nat) (W:Nat->List V->St->Hp->Prop),W 0 [] (compStart k ixs Y) (A0 H D (.lst []))/\∀ i ys σ2 H2,W i ys σ2 H2->H2 D=some (.lst ys)->
   (J.stop i H2/\Q (.ref D) H2)\/
   (i<n/\J.go i H2/\∀ x H',J.yld i H2 x H'->g x σ2 H' fun σ3 H3=>c σ3 H3 fun b H4=>
    if b=true then te σ3 H4 fun y H5=>H5 D=some (.lst ys)/\ys.length<sizeLine/\W (i+1) (ys++[y]) σ3 (A0 H5 D (.lst (ys++[y])))
    else H4 D=some (.lst ys)/\W (i+1) ys σ3 H4)){RR:Value->Addr->Result->Shared->Prop}(hRR:∀ D Cc (H':Hp) (s':Shared) (o:Obj) m,Inv X pins Y H' s'->Inv X (pins++[(Cc,o)]) Y H' s'->s'.heap.get? Cc=some o->s'.heap.Ns Cc m->H' Cc=none->Cc≠X.env.locals->X.s₀.heap.objs.size<=Cc->
   (∀ x c,X.env.cells.lookup x=some c->c≠Cc)->(∀ p∈X.pn++pins,p.1≠Cc)->Q (.ref D) H'->RR (.ref D) Cc (.ok .next) s') :
  wpAny (model X.prog X.w) X.A (newList []) (fun acc zu=>wpAny (model X.prog X.w) X.A (newFunctionEnv sc X.env.globals (cloOf X.env.cells sc.names []) [] X.env.qual none .none (some X.env)) (fun cenv zn=>
   codeAny (model X.prog X.w) X.A (.compStart (.ListComp elt [⟨target,iter,ifs,0⟩] sc pos) 0 (.ref it) acc { cenv with scope:=relabel sc X.env }) (RR acc cenv.locals) zn) E zu) E s:=by
 have fresh:=I.hok.fresh (C4 s.heap.objs.size);obtain ⟨n,W,w0,turn⟩:=h s.heap.objs.size fresh;have hfD:∀ b∈fp,b≠s.heap.objs.size:=fun b hb z=>by
  obtain ⟨o,e,_⟩:=T.obj _ _ st b hb;rw [z] at e;exact absurd (Heap.lt_size e) (Y3 _)
 have hf3:∀ b∈fp,FpOk X pins (A0 H s.heap.objs.size (.lst [])) b:=fun b hb=>⟨by rw [A7 (hfD b hb)];exact (hf b hb).1,(hf b hb).2⟩
 have main:∀ (s3:Shared) (zq:Heap) (t1:Nat),Inv X pins Y (A0 H s.heap.objs.size (.lst [])) s3->(∀ b o,s.heap.get? b=some o->s3.heap.get? b=some o)->zq.Ns s3.heap.objs.size (fun x=>([]:List (Str×Value)).reverse.lookup x)->
   (∀ b o,s3.heap.get? b=some o->zq.get? b=some o)->
   tn 0 zq/\codeAny (model X.prog X.w) X.A (.compLoop (.ListComp elt [⟨target,iter,ifs,0⟩] sc pos) 0 (.ref it) (.ref s.heap.objs.size) (K7 X sc N' s3.heap.objs.size s3 (A0 H s.heap.objs.size (.lst [])) fp pins).env) (RR (.ref s.heap.objs.size) s3.heap.objs.size) { s3 with heap:=zq,toks:=t1 }:=by
  intro s3 zq t1 I3 k3 bA keep3;have aZ:tn 0 s3.heap:=T.keep _ _ _ st fun b hb o e=>k3 b o e
  have ho3:∀ b∈fp,∃ o,s3.heap.get? b=some o:=fun b hb=>let ⟨o,e,_⟩:=T.obj _ _ aZ b hb;⟨o,e⟩
  have nM:tn 0 zq:=T.keep _ _ _ aZ fun b hb o e=>keep3 b o e
  have B0:Inv (K7 X sc N' s3.heap.objs.size s3 (A0 H s.heap.objs.size (.lst [])) fp pins) [] (compStart k ixs Y) (A0 H s.heap.objs.size (.lst [])) { s3 with heap:=zq,toks:=t1 }:=alc C I3 hf3 ho3 bA keep3;refine ⟨nM,?_⟩;have fpX:∀ {H':Hp},(∀ b∈fp,H' b=none)->∀ b∈fp,FpOk (K7 X sc N' s3.heap.objs.size s3 (A0 H s.heap.objs.size (.lst [])) fp pins) [] H' b:=fun {H'} hn b hb=>by
   obtain ⟨o,eo⟩:=ho3 b hb;refine ⟨hn b hb,K4 (Heap.lt_size eo),?_,.inl hb,?_,?_⟩
   .intro hm
    rcases G4.mp (I3.stkSub b hm) with z | z
    .exact (hf b hb).2.1 z
    .exact (hf b hb).2.2.1 z
   .intro x cc ec;exact (hf b hb).2.2.2.2.1 x cc (eN C I3 ec).1
   .intro p hp;exact (hf b hb).2.2.2.2.2 p (by simpa [K7] using hp)
  refine ae6 (fun m s'=>∃ i ys σ' H',m=n-i/\Inv (K7 X sc N' s3.heap.objs.size s3 (A0 H s.heap.objs.size (.lst [])) fp pins) [] σ' H' s'/\tn i s'.heap/\(∀ b∈fp,H' b=none)/\H' s.heap.objs.size=some (.lst ys)/\W i ys σ' H') ?_ n ⟨0,[],_,_,rfl,B0,nM,fun b hb=>(hf3 b hb).1,A6,w0⟩;rintro m s4 ⟨i,ys,σ4,H4,rfl,I4,st4,fr4,hD4,w4⟩;have again:∀ {i':Nat} {ys':List V} {σ7:St} {H7:Hp} {s6 s7:Shared},i<n->i'=i+1->tn i' s6.heap->Inv (K7 X sc N' s3.heap.objs.size s3 (A0 H s.heap.objs.size (.lst [])) fp pins) ([]++eD fp s6.heap) σ7 H7 s7->H7 s.heap.objs.size=some (.lst ys')->W i' ys' σ7 H7->
    ∃ m,m<n-i/\∃ i ys σ' H',m=n-i/\Inv (K7 X sc N' s3.heap.objs.size s3 (A0 H s.heap.objs.size (.lst [])) fp pins) [] σ' H' s7/\tn i s7.heap/\(∀ b∈fp,H' b=none)/\H' s.heap.objs.size=some (.lst ys)/\W i ys σ' H':=fun {i' ys' σ7 H7 s6 s7} D1 ei fS I7 hD w=>by
   subst ei;refine ⟨n-(i+1),by lia,i+1,ys',σ7,H7,rfl,I7.unpinned,T.keep _ _ _ fS fun b hb o e=>(I7.pin (b,o) (O8 _ (O8 _ (eE hb e)))).1,fun b hb=>?_,hD,w⟩;obtain ⟨o,e,_⟩:=T.obj _ _ fS b hb;exact (I7.pin (b,o) (O8 _ (O8 _ (eE hb e)))).2.1
  rcases turn i ys σ4 H4 w4 hD4 with ⟨stop,q⟩ | ⟨D1,go,step⟩
  .refine C0 (T.done (K7 X sc N' s3.heap.objs.size s3 (A0 H s.heap.objs.size (.lst [])) fp pins) rfl rfl rfl K3 i [] s4 σ4 H4 _ I4 (fpX fr4) st4 stop) fun r s5 fT=>?_
   obtain ⟨hr,I5⟩:=fT;subst hr;have back:Inv X pins Y H4 s5:=I3.call' (ch:=fp) I5.os I5.base I5.hok I5.bare fun b hb=>⟨(hf b hb).2.2.2.1,(hf b hb).2.1,(hf b hb).2.2.2.2.1,(hf b hb).2.2.2.2.2⟩
   obtain ⟨mm,v8,_⟩:=I5.loc;obtain ⟨o,es,ep,ho,hd,W3⟩:=id v8;have hC:s3.heap.objs.size≠X.env.locals:=q9 I3.lt;refine hRR s.heap.objs.size s3.heap.objs.size H4 s5 o mm back ?_ ho v8 I5.free hC I3.sz ?_ ?_ q
   .refine back.pins_of fun p hp=>?_
    rcases G1.mp hp with z | z
    .exact back.pin p (O8 _ z)
    .have e:p=(s3.heap.objs.size,o):=by simpa using z
     subst e;exact ⟨ho,I5.free,hC,I3.nofs (C4 _),fun v z=>by rw [hd] at z;cases z⟩
   .intro x c e z;obtain ⟨v,q⟩:=I3.cell x c e
    have:=q.lt
    rw [z] at this;exact Y3 _ this
   .intro p hp z
    have:=Heap.lt_size (I3.pin p hp).1
    rw [z] at this;exact Y3 _ this
  .refine C0 (T.item (K7 X sc N' s3.heap.objs.size s3 (A0 H s.heap.objs.size (.lst [])) fp pins) rfl rfl rfl K3 i [] s4 σ4 H4 _ I4 (fpX fr4) st4 go) fun r s5 fT=>?_
   obtain ⟨u,hr,h5⟩:=fT;subst hr;refine C0 h5 fun _ s6 h6=>?_
   obtain ⟨x,H6,I6,r6,y6,fS,fr6⟩:=h6;have I6':=I6.pinned (fpX fr6) (T.obj _ _ fS);refine wpAny_mono (hg _ _ _ _ _ _ s6 σ4 H6 x u _ I6' r6 (step x H6 y6)) (fun _ s7 h7=>?_) fun _ _ z=>False.elim z
   obtain ⟨σ7,H7,I7,q7⟩:=h7;refine wpAny_mono (hc _ _ _ _ _ _ s7 σ7 H7 _ I7 q7) (fun ok s8 h8=>?_) fun _ _ z=>False.elim z
   obtain ⟨H8,I8,q8⟩:=h8
   cases ok with
   | false=>
    rw [if_neg J5] at q8 ⊢
    exact again D1 rfl fS I8 q8.1 q8.2
   | true=>
    rw [if_pos rfl] at q8 ⊢
    refine wpAny_mono (he _ _ _ _ _ _ s8 σ7 H8 _ I8 q8) (fun y s9 h9=>?_) fun _ _ z=>False.elim z
    obtain ⟨yv,H9,I9,r9,hD9,hz9,w9⟩:=h9;refine wpAny_mono (wA (X:=(K7 X sc N' s3.heap.objs.size s3 (A0 H s.heap.objs.size (.lst [])) fp pins)) _ s9 σ7 H9 (.ref s.heap.objs.size) [yv] (.ref s.heap.objs.size) [y] (fun _ H'=>H'=A0 H9 s.heap.objs.size (.lst (ys++[yv]))) I9 rfl (.cons r9 .nil) ⟨_,ys,yv,rfl,rfl,hD9,hz9,rfl⟩) (fun _ s10 h10=>?_) fun _ _ z=>False.elim z
    obtain ⟨_,U8,I10,_,e10⟩:=h10;subst e10;exact again D1 rfl fS I10 A6 w9
 have I3:=I.lnew (ys:=[]) (its:=[]) (t':=s.toks) .nil (G8 _);refine wpAny_newObj_type (wpAny_newFunctionEnv C.cell (by intro y hy;simp at hy) (fun zq zi zh=>?_) C.kind);obtain ⟨nM,loop⟩:=main _ zq (s.toks+([]:List (Str×Value)).length) I3 (fun b o e=>Heap.get?_push_of_some _ e) zi fun b o e=>zh.extBut b o (K4 (Heap.lt_size e)) (Heap.get?_push_of_some _ e)
 exact codeAny_compStart_list loop (T.self X.A 0 _ _ _ nM loop)
theorem ald{iter:Expr}{pos:Pos}{wi:TI}(C:CompOk X.N X.env.scope.names sc N' k ixs)(K3:X.calm=true)(hi:PI X target iter wi)(hg:∀ C zu zr fp pins,PG (K7 X sc N' C zu zr fp pins) target g)(hc:∀ C zu zr fp pins,PIfs (K7 X sc N' C zu zr fp pins) ifs c)(he:∀ C zu zr fp pins,PE (K7 X sc N' C zu zr fp pins) elt te)(hs:∀ x,foldedSetIterable iter X.env x=pure x:=by intro _;rfl):PE X (.ListComp elt [⟨target,iter,ifs,0⟩] sc pos) (tComp wi k ixs g c te):=by
 intro pins s Y H Q I h;rw [eval_ListComp];refine wpAny_comprehension_free (use:=none) rfl hs (wI fun x hx hf=>I.ok.has x.1 (C.free x hx hf)) C.kind C.names (C0 (hi pins s Y H _ I h) fun v s1 h1=>C0 h1 fun itv s2 h2=>?_);obtain ⟨it,fp,tn,J,H2,e,I2,T,jG,f2,q2⟩:=h2;subst e;refine wL (RR:=fun acc C=>compPost (model X.prog X.w) X.A X.xe none (EP X pins Y Q) acc C) C K3 hg hc he I2 T jG f2 q2 ?_;intro D Cc H' s' o m I' _ ho hn hC hL o7 K2 dC q;exact ⟨m,hn,fun h'' hs''=>⟨.ref D,H',I'.turned (t':=s'.toks) (fun b o hb e=>hs''.extBut b o hb e) hC hL (.inr o7) K2 dC,rfl,q⟩⟩
theorem ag2{iter:Expr}{pos py:Pos}{wi:TI}{y:Str}(hN:X.N.Nodup)(hiN:X.N[i]?=some y)(hx:f7 X.env.scope y)(C:CompOk X.N X.env.scope.names sc N' k ixs)(K3:X.calm=true)(hi:PI X target iter wi)(hg:∀ C zu zr fp pins,PG (K7 X sc N' C zu zr fp pins) target g)(hc:∀ C zu zr fp pins,PIfs (K7 X sc N' C zu zr fp pins) ifs c)(he:∀ C zu zr fp pins,PE (K7 X sc N' C zu zr fp pins) elt te)(jO:swapsWith (.ListComp elt [⟨target,iter,ifs,0⟩] sc pos) (some (.Name y py)) spos.line X.env=pure true:=by rfl)(hf:X.fn y=true\/X.env.scope.names.lookup y=some .local:=by first | exact .inl rfl | exact .inr rfl | assumption)(hs:∀ x,foldedSetIterable iter X.env x=pure x:=by intro _;rfl):PS X (.Assign [.Name y py] (.ListComp elt [⟨target,iter,ifs,0⟩] sc pos) spos) (tAsg (tComp wi k ixs g c te) (gName i)):=by
 intro pins s Y H D I h;rw [exec_Assign_Name_used _ _ _ _ jO];refine wpAny_bind (wpAny_standAt (wpAny_bind ?_));show wpAny _ X.A (do let _ <- comprehension (.ListComp elt [⟨target,iter,ifs,0⟩] sc pos) sc X.env _ (newList []) false (eval iter X.env) (some (assign (.Name y py) X.env))) _ _ s;refine wpAny_bind (wpAny_mono (wpAny_comprehension_free (use:=some (assign (.Name y py) X.env)) (Q:=fun _ s'=>SP X pins D .next s') rfl hs (wI fun x hx hf=>I.ok.has x.1 (C.free x hx hf)) C.kind C.names
  (C0 (hi pins s Y H _ I h) fun v s1 h1=>C0 h1 fun itv s2 h2=>?_)) (fun _ s' hq=>wpAny_pure (wpAny_pure hq)) fun _ _ e=>e)
 obtain ⟨it,fp,tn,J,H2,e,I2,T,jG,f2,q2⟩:=h2;subst e;refine wL (Q:=fun x H1=>gName i x Y H1 D.nx) (RR:=fun acc C=>compPost (model X.prog X.w) X.A X.xe (some (assign (.Name y py) X.env)) (fun _ s'=>SP X pins D .next s') acc C) C K3 hg hc he I2 T jG f2 q2 ?_;intro Da Cc H' s' o m _ Ip ho hn hC hL o7 K2 dC q;show wpAny _ X.A (assign (.Name y py) X.env (.ref Da)) _ _ _;refine wpAny_assign_Name (gU (v:=.ref Da) Ip hN hiN hx rfl (fun s'' I''=>?_) hf);have hC2:=(I''.pin (Cc,o) (O8 _ (O8 _ (F7.mpr rfl)))).1;refine ⟨m,hn.at' fun o' e'=>?_,fun h'' hs''=>?_⟩
 .rw [ho] at e';cases e';exact hC2
 .have I3:Inv X pins (Y.set i (some (.ref Da))) H' s'':=I''.unpinned;exact ⟨_,H',I3.turned (t':=s''.toks) (fun b o hb e=>hs''.extBut b o hb e) hC hL (.inr o7) K2 dC,q⟩
end
end L2
end
set_option maxRecDepth 100000
namespace L2
open PySem PySem.Spec PyProof.Rows
section
variable {X:Cx} {a b:Expr} {ta tb:TE} {pos:Pos} {rest:List Expr}
noncomputable def tTru (K:PySem.W.Frag) (te:TE):TT:=fun Y H Q=>te Y H fun x H1=>∃ k,TruV K x H1 k/\Q k H1
theorem anm(ha:PE X a ta)(he:∀ whole,isTrue a X.env whole=(do let v <- whole;standAt a.pos;holding [v] (truthy v)):=by intro _;rfl):PT X a (tTru X.K ta):=ai6 ha he
noncomputable def tNotT (K:PySem.W.Frag) (te:TE):TE:=fun Y H Q=>te Y H fun x H1=>∃ k,TruV K x H1 k/\Q (.bl (!k)) H1
theorem ale(ha:PE X a ta):PE X (.UnaryOp .Not a pos) (tNotT X.K ta):=by
 intro pins s Y H Q I h;refine UnaryOp_ (C0 (ha pins s Y H _ I h) fun v s1 ⟨x,H1,I1,r1,q1⟩=>?_);exact not_of (C0 (vI pins s1 Y H1 x v (fun k H2=>Q (.bl (!k)) H2) I1 r1 q1) fun c s2 ⟨H2,I2,q2⟩=>⟨.bl (!c),H2,I2,rfl,q2⟩)
end
mutual
inductive Dn (K:PySem.W.Frag) (H:Hp):V->PyData->Prop
 | non:Dn K H .non .none
 | bl (b):Dn K H (.bl b) (.bool b)
 | int (i):Dn K H (.int i) (.int i)
 | str (x):P7 x=true->Dn K H (.str x) (.str x)
 | lst {a xs ds} : D3 K H a xs->DnAll K H xs ds->Dn K H (.ref a) (.list ds)
 | tup {a xs ds} : D0 K H a xs->DnAll K H xs ds->Dn K H (.ref a) (.tuple ds)
inductive DnAll (K:PySem.W.Frag) (H:Hp):List V->List PyData->Prop
 | nil:DnAll K H [] []
 | cons {x xs d ds} : Dn K H x d->DnAll K H xs ds->DnAll K H (x::xs) (d::ds)
end
section
variable {X:Cx} {pins:List (Addr×Obj)} {Y:St} {H:Hp} {s:Shared}
mutual
theorem Dn.reads{K:PySem.W.Frag}{x:V}{d:PyData}(I:Inv X pins Y H s)(hK:X.K=K):Dn K H x d->∀ {u:Value},RelV x u->d.canLay0=true/\∃ as,Reads s.heap u d as
 | .non,u,r=>by cases r;exact ⟨rfl,_,.none⟩
 | .bl b,u,r=>by cases r;exact ⟨rfl,_,.bool b⟩
 | .int i,u,r=>by obtain ⟨t,rfl⟩:=r;exact ⟨rfl,_,.int i t⟩
 | .str x hx,u,r=>by obtain ⟨t,rfl⟩:=r;exact ⟨hx,_,.str x t⟩
 | .lst (a:=a) q hs,u,r=>by
  cases r
  subst hK;obtain ⟨its,rv,⟨o,n,e,c,_,dd⟩,_⟩:=I.list q;obtain ⟨h1,as,h2⟩:=DnAll.reads I rfl hs rv;exact ⟨h1,_,.list e c dd (by simpa using h2)⟩
 | .tup (a:=a) q hs,u,r=>by
  cases r
  subst hK;obtain ⟨its,rv,⟨o,e,c,n,dd⟩,_⟩:=I.tuple q;obtain ⟨h1,as,h2⟩:=DnAll.reads I rfl hs rv;exact ⟨h1,_,.tuple e c dd (by simpa using h2)⟩
theorem DnAll.reads{K:PySem.W.Frag}{xs:List V}{ds:List PyData}(I:Inv X pins Y H s)(hK:X.K=K):DnAll K H xs ds->∀ {us:List Value},Vals xs us->PyData.canLayAll0 ds=true/\∃ as,ReadsAll s.heap us ds as
 | .nil,us,r=>by cases r;exact ⟨rfl,_,.nil⟩
 | .cons h t,us,r=>by
  cases r with
  | cons r1 r2=>
   obtain ⟨c1,a1,q1⟩:=Dn.reads I hK h r1;obtain ⟨c2,a2,q2⟩:=DnAll.reads I hK t r2;exact ⟨by simp [PyData.canLayAll0,c1,c2],_,.cons q1 q2⟩
end
end
mutual
theorem Dn.same{K:PySem.W.Frag}{H H':Hp}(hs:Same H H'){x:V}{d:PyData} : Dn K H x d->Dn K H' x d
 | .non=>.non
 | .bl b=>.bl b
 | .int i=>.int i
 | .str x h=>.str x h
 | .lst q h=>.lst (hs.seq q) (DnAll.same hs h)
 | .tup (a:=a) (xs:=xs) q h=>.tup (by
   rcases q with (q | ⟨o,q⟩) | q
   .exact .inl (.inl (hs _ _ q))
   .exact .inl (.inr ⟨o,hs _ _ q⟩)
   .exact .inr q) (DnAll.same hs h)
theorem DnAll.same{K:PySem.W.Frag}{H H':Hp}(hs:Same H H'){xs:List V}{ds:List PyData} : DnAll K H xs ds->DnAll K H' xs ds
 | .nil=>.nil
 | .cons h t=>.cons (Dn.same hs h) (DnAll.same hs t)
end
theorem lN{K:PySem.W.Frag}{H:Hp} : ∀ {zs:List Str},(∀ z∈zs,P7 z=true)->DnAll K H (zs.map V.str) (zs.map V3)
 | [],_=>.nil
 | z::zs,h=>.cons (.str z (h z N1)) (lN fun y hy=>h y (M5 _ hy))
theorem pF:∀ (xs ys:List Str),z9 (xs.map V3) (ys.map V3)=decide (xs=ys)
 | [],[]=>by simp [z9]
 | [],_::_=>by simp [z9]
 | _::_,[]=>by simp [z9]
 | x::xs,y::ys=>by
  rw [G3,G3,z9,pF xs ys];rw [show Q7 (.str x) (.str y)=(x==y) by simp [Q7]]
  by_cases h1:x=y
  .subst h1;simp
  .simp [h1]
noncomputable def rAddR (K:PySem.W.Frag) (a b:Addr) (H:Hp) (Q:VK):Prop:=rCat (.ref a) (.ref b) H Q\/rCatT K (.ref a) (.ref b) H Q
theorem rAddR.l{K:PySem.W.Frag}{a b:Addr}{H:Hp}{Q:VK}{xs ys:List V}(h1:H a=some (.lst xs))(h2:H b=some (.lst ys))(h3:xs.length+ys.length<=sizeLine)(h:∀ p,H p=none->Q (.ref p) (A0 H p (.lst (xs++ys)))):rAddR K a b H Q:=.inl ⟨a,b,xs,ys,rfl,rfl,h1,h2,h3,h⟩
theorem rAddR.t{K:PySem.W.Frag}{a b:Addr}{H:Hp}{Q:VK}{xs ys:List V}(h1:D0 K H a xs)(h2:D0 K H b ys)(h0:xs≠[])(h3:xs.length+ys.length<=sizeLine)(he:ys=[]->Q (.ref a) H)(h:ys≠[]->∀ p,H p=none->Q (.ref p) (A0 H p (.tup (xs++ys)))):rAddR K a b H Q:=.inr ⟨a,b,xs,ys,rfl,rfl,h1,h2,h0,h3,he,h⟩
noncomputable def rAddU (K:PySem.W.Frag):V->V->Hp->VK->Prop
 | .int i,.int j,H,Q=>Q (.int (i+j)) H
 | .str i,.str j,H,Q=>i.length+j.length<=sizeLine/\Q (.str (i++j)) H
 | .ref a,.ref b,H,Q=>rAddR K a b H Q
 | _,_,_,_=>False
noncomputable def rMulU:V->V->Hp->VK->Prop
 | .int i,.int j,H,Q=>CMul i j/\Q (.int (i*j)) H
 | .ref a,.int j,H,Q=>rRep (.ref a) (.int j) H Q
 | _,_,_,_=>False
noncomputable def rEqU (K:PySem.W.Frag):V->V->Hp->VK->Prop
 | .int i,.int j,H,Q=>Q (.bl (decide (i=j))) H
 | .str i,.str j,H,Q=>Q (.bl (decide (i=j))) H
 | .bl i,.bl j,H,Q=>Q (.bl (decide (i=j))) H
 | x,y,H,Q=>∃ d e,Dn K H x d/\Dn K H y e/\min d.depth e.depth<=60/\Q (.bl (Q7 d e)) H
noncomputable def rNeU (K:PySem.W.Frag):V->V->Hp->VK->Prop
 | .int i,.int j,H,Q=>Q (.bl (!decide (i=j))) H
 | .str i,.str j,H,Q=>Q (.bl (!decide (i=j))) H
 | .bl i,.bl j,H,Q=>Q (.bl (!decide (i=j))) H
 | x,y,H,Q=>∃ d e,Dn K H x d/\Dn K H y e/\min d.depth e.depth<=60/\Q (.bl (!PyData.eqv d e)) H
noncomputable def rLtU:V->V->Hp->VK->Prop
 | .int i,.int j,H,Q=>Q (.bl (decide (i<j))) H
 | .str i,.str j,H,Q=>Q (.bl (decide (i.cps.toList<j.cps.toList))) H
 | _,_,_,_=>False
noncomputable def rLeU:V->V->Hp->VK->Prop
 | .int i,.int j,H,Q=>Q (.bl (decide (i<=j))) H
 | .str i,.str j,H,Q=>Q (.bl (!decide (j.cps.toList<i.cps.toList))) H
 | _,_,_,_=>False
noncomputable def rGtU:V->V->Hp->VK->Prop
 | .int i,.int j,H,Q=>Q (.bl (decide (j<i))) H
 | .str i,.str j,H,Q=>Q (.bl (decide (j.cps.toList<i.cps.toList))) H
 | _,_,_,_=>False
noncomputable def rGeU:V->V->Hp->VK->Prop
 | .int i,.int j,H,Q=>Q (.bl (decide (j<=i))) H
 | .str i,.str j,H,Q=>Q (.bl (!decide (i.cps.toList<j.cps.toList))) H
 | _,_,_,_=>False
noncomputable def rInR (K:PySem.W.Frag) (neg:Bool) (x:V) (p:Addr) (H:Hp) (Q:VK):Prop:=oU K neg x (.ref p) H Q\/∃ o,DGet H p x o/\Q (.bl (neg.xor o.isSome)) H
theorem rInR.l{K:PySem.W.Frag}{neg:Bool}{x:V}{p:Addr}{H:Hp}{Q:VK}{xs:List V}(h1:D3 K H p xs\/D0 K H p xs)(h2:flatV x=true)(h3:xs.all flatV=true)(h:Q (.bl (neg.xor (Y9 x xs))) H):rInR K neg x p H Q:=.inl ⟨p,xs,rfl,h1,h2,h3,by cases neg <;> simpa using h⟩
theorem rInR.d{K:PySem.W.Frag}{neg:Bool}{x:V}{p:Addr}{H:Hp}{Q:VK}{o:Option V}(h1:DGet H p x o)(h:Q (.bl (neg.xor o.isSome)) H):rInR K neg x p H Q:=.inr ⟨o,h1,h⟩
noncomputable def rInU (K:PySem.W.Frag) (neg:Bool) (x:V):V->Hp->VK->Prop
 | .str j,H,Q=>∃ i,x=.str i/\Q (.bl (neg.xor (!(Builtin.Str.occurrences j i 0 j.length 1).isEmpty))) H
 | .ref p,H,Q=>rInR K neg x p H Q
 | _,_,_=>False
section
variable {X:Cx} {pins:List (Addr×Obj)} {Y:St} {H:Hp} {s:Shared}
theorem p_add:F8 X (binaryOp .Add) (rAddU X.K):=by
 intro pins s Y H x y v u Q I rx ry h
 cases x <;> cases y <;> try exact h.elim
 .exact amU pins s Y H _ _ v u Q I rx ry ⟨_,_,rfl,rfl,h⟩
 .exact agT pins s Y H _ _ v u Q I rx ry ⟨_,_,rfl,rfl,h⟩
 .rcases h with h | h
  .exact anh pins s Y H _ _ v u Q I rx ry h
  .exact ak4 pins s Y H _ _ v u Q I rx ry h
theorem p_sub:F8 X (binaryOp .Sub) (t8 fun i j=>.int (i-j)):=amV
theorem p_mul:F8 X (binaryOp .Mult) rMulU:=by
 intro pins s Y H x y v u Q I rx ry h
 cases x <;> cases y <;> try exact h.elim
 .exact amW pins s Y H _ _ v u Q I rx ry ⟨_,_,rfl,rfl,h⟩
 .exact ani pins s Y H _ _ v u Q I rx ry h
theorem ann:F8 X (binaryOp .FloorDiv) (rI CDiv fun i j=>.int (i / j)):=akU
theorem p_mod:F8 X (binaryOp .Mod) (rI (fun _ j=>0<j) fun i j=>.int (i % j)):=amX
theorem lO(hu:X.A.units+64<cLine){x y:V}{v u:Value}{Q:VK}(I:Inv X pins Y H s)(rx:RelV x v)(ry:RelV y u)(h:∃ d e,Dn X.K H x d/\Dn X.K H y e/\min d.depth e.depth<=60/\Q (.bl (Q7 d e)) H):wpAny (model X.prog X.w) X.A (compareOp .Eq v u) (EP X pins Y Q) X.xe s:=by
 obtain ⟨d,e,h1,h2,hd,q⟩:=h;obtain ⟨c1,as,r1⟩:=h1.reads I rfl rx;obtain ⟨c2,bs,r2⟩:=h2.reads I rfl ry;exact SeqAt.compareEq_reads r1 r2 c1 c2 (by lia) ⟨.bl _,H,I,rfl,q⟩
theorem lP(hu:X.A.units+64<cLine){x y:V}{v u:Value}{Q:VK}(I:Inv X pins Y H s)(rx:RelV x v)(ry:RelV y u)(h:∃ d e,Dn X.K H x d/\Dn X.K H y e/\min d.depth e.depth<=60/\Q (.bl (!PyData.eqv d e)) H):wpAny (model X.prog X.w) X.A (compareOp .NotEq v u) (EP X pins Y Q) X.xe s:=by
 obtain ⟨d,e,h1,h2,hd,q⟩:=h;obtain ⟨c1,as,r1⟩:=h1.reads I rfl rx;obtain ⟨c2,bs,r2⟩:=h2.reads I rfl ry;exact SeqAt.compareNe_reads r1 r2 c1 c2 (by lia) ⟨.bl _,H,I,rfl,q⟩
theorem p_eq(hu:X.A.units+64<cLine):F8 X (compareOp .Eq) (rEqU X.K):=by
 intro pins s Y H x y v u Q I rx ry h;have sc:∀ {x y:V},vA x y H Q->RelV x v->RelV y u->wpAny (model X.prog X.w) X.A (compareOp .Eq v u) (EP X pins Y Q) X.xe s:=fun {x y} h rx ry=>op_eq pins s Y H x y v u Q I rx ry h
 cases x with
 | int i=>cases y with
  | int j=>exact sc (x:=.int i) (y:=.int j) ⟨rfl,by simpa using (show Q (.bl (decide (i=j))) H from h)⟩ rx ry
  | _=>exact lO hu I rx ry h
 | str i=>cases y with
  | str j=>exact sc (x:=.str i) (y:=.str j) ⟨rfl,by simpa using (show Q (.bl (decide (i=j))) H from h)⟩ rx ry
  | _=>exact lO hu I rx ry h
 | bl i=>cases y with
  | bl j=>exact sc (x:=.bl i) (y:=.bl j) ⟨rfl,by simpa using (show Q (.bl (decide (i=j))) H from h)⟩ rx ry
  | _=>exact lO hu I rx ry h
 | _=>cases y <;> exact lO hu I rx ry h
theorem p_ne(hu:X.A.units+64<cLine):F8 X (compareOp .NotEq) (rNeU X.K):=by
 intro pins s Y H x y v u Q I rx ry h;have sc:∀ {x y:V},vB x y H Q->RelV x v->RelV y u->wpAny (model X.prog X.w) X.A (compareOp .NotEq v u) (EP X pins Y Q) X.xe s:=fun {x y} h rx ry=>op_ne pins s Y H x y v u Q I rx ry h
 cases x with
 | int i=>cases y with
  | int j=>exact sc (x:=.int i) (y:=.int j) ⟨rfl,by simpa using (show Q (.bl (!decide (i=j))) H from h)⟩ rx ry
  | _=>exact lP hu I rx ry h
 | str i=>cases y with
  | str j=>exact sc (x:=.str i) (y:=.str j) ⟨rfl,by simpa using (show Q (.bl (!decide (i=j))) H from h)⟩ rx ry
  | _=>exact lP hu I rx ry h
 | bl i=>cases y with
  | bl j=>exact sc (x:=.bl i) (y:=.bl j) ⟨rfl,by simpa using (show Q (.bl (!decide (i=j))) H from h)⟩ rx ry
  | _=>exact lP hu I rx ry h
 | _=>cases y <;> exact lP hu I rx ry h
theorem p_lt:F8 X (compareOp .Lt) rLtU:=by
 intro pins s Y H x y v u Q I rx ry h
 cases x <;> cases y <;> try exact h.elim
 .exact op_lt pins s Y H _ _ v u Q I rx ry ⟨_,_,rfl,rfl,h⟩
 .exact ahy pins s Y H _ _ v u Q I rx ry ⟨_,_,rfl,rfl,h⟩
theorem p_le:F8 X (compareOp .LtE) rLeU:=by
 intro pins s Y H x y v u Q I rx ry h
 cases x <;> cases y <;> try exact h.elim
 .exact op_le pins s Y H _ _ v u Q I rx ry ⟨_,_,rfl,rfl,h⟩
 .obtain ⟨t,rfl⟩:=rx;obtain ⟨t',rfl⟩:=ry;exact PySem.P.le_str ⟨.bl _,H,I,by simp [RelV],h⟩
theorem p_in(hu:X.A.units+64<cLine):F8 X (compareOp .In) (rInU X.K false):=by
 intro pins s Y H x y v u Q I rx ry h
 cases y with
 | str j=>
  obtain ⟨i,rfl,q⟩:=h;exact ahz pins s Y H _ _ v u Q I rx ry ⟨i,j,rfl,rfl,by simpa using q⟩
 | ref p=>
  rcases h with h | ⟨o,g,q⟩
  .exact ahH pins s Y H _ _ v u Q I rx ry h
  .obtain rfl:u=Value.ref p:=ry;exact d_in (by lia) I g rx fun s3 I3=>⟨.bl o.isSome,H,I3,rfl,by simpa using q⟩
 | _=>exact h.elim
theorem alf(hu:X.A.units+64<cLine):F8 X (compareOp .NotIn) (rInU X.K true):=by
 intro pins s Y H x y v u Q I rx ry h
 cases y with
 | str j=>
  obtain ⟨i,rfl,q⟩:=h;exact aeY pins s Y H _ _ v u Q I rx ry ⟨i,j,rfl,rfl,by simpa using q⟩
 | ref p=>
  rcases h with h | ⟨o,g,q⟩
  .exact aeX pins s Y H _ _ v u Q I rx ry h
  .obtain rfl:u=Value.ref p:=ry;exact ak8 (by lia) I g rx fun s3 I3=>⟨.bl (!o.isSome),H,I3,rfl,by simpa using q⟩
 | _=>exact h.elim
noncomputable def cutS (x:Str) (lo hi:Option Int):Str:=⟨((x.cps.toList.drop (HT.sIx x.length 0 lo)).take (HT.sIx x.length x.length hi-HT.sIx x.length 0 lo)).toArray⟩
noncomputable def rSlS:V->Option Int->Option Int->Hp->VK->Prop:=fun x lo hi H Q=>∃ z,x=.str z/\z.length<=sizeLine/\Q (.str (cutS z lo hi)) H
end
end L2
variable {C T a b dx f fa it r sl t0:PySem.Addr}{dvs vs xs ys:List L2.V}{Q:L2.VK}{cd ct oc pm u v vl vu:PySem.Value}{ck i j k m n t' x1:Nat}{items:Array PySem.Value}{fr ns:List Int}{bmB its us:List PySem.Value}{A:PySem.Around}{s s' zu:PySem.Shared}{y:L2.V}{fld name p q qual x y0 z:PySem.Str}{pins:List (PySem.Addr×PySem.Obj)}{Y:L2.St}{H H' H0 H1 H2 H3 zr:L2.Hp}{h h' h2:PySem.Heap}{L M N N' R S U acc bad cs T8 ks line loose ps ts ws zs:List PySem.Str}{K:PySem.W.Frag}{mg:PySem.Str->Option PySem.Value}{fd:PySem.FuncData}{sp:L2.Sp}{X:L2.Cx}{kvs:List (L2.C2×L2.V)}{prog:PySem.Program}{ixs:List Nat}{e elt target tg:PySem.Expr}{elts es ifs:List PySem.Expr}{g:L2.TG}{c:L2.TT}{te tl:L2.TE}{fp rs:List PySem.Addr}{apos cpos kpos spos tpos:PySem.Pos}{calm fg neg:Bool}{st:PySem.Stmt}{an od:Option PySem.Addr}{tb:L2.TS}{D:L2.Ends}{o:PySem.Obj}{ta:L2.TA}{ss:Array (Option PySem.Value)}{mo:Int}
set_option maxRecDepth 100000
namespace L2
open PySem PySem.Spec PyProof.Rows
section
variable {X:Cx}
theorem ahQ(x:Str)(lo hi:Option Int):Txt.slice x lo hi=cutS x lo hi:=by
 have c1:∀ (o:Option Int) (d:Nat),(match o with | none=>(d:Int) | some i=>if (1:Int) > 0 then max 0 (min (if i<0 then i+(x.length:Int) else i) (x.length:Int)) else max (-1) (min (if i<0 then i+(x.length:Int) else i) ((x.length:Int)-1)))=((HT.sIx x.length d o:Nat):Int):=by
  intro o d
  cases o with
  | none=>rfl
  | some i=>
   rw [<- HT.clip_eq i x.length d];simp only [show ((1:Int) > 0)=True by simp,if_true]
   split <;> lia
 have h2:Builtin.Str.strSliceIndices lo hi 1 x.length=Builtin.Str.strSliceIndices (some ((HT.sIx x.length 0 lo:Nat):Int)) (some ((HT.sIx x.length x.length hi:Nat):Int)) 1 x.length:=by
  have e1:=c1 lo 0;have e2:=c1 hi x.length;have e3:=c1 (some ((HT.sIx x.length 0 lo:Nat):Int)) 0;have e4:=c1 (some ((HT.sIx x.length x.length hi:Nat):Int)) x.length;have l1:=HT.sIx_le x.length 0 (G8 _) lo;have l2:=HT.sIx_le x.length x.length (C4 _) hi;rw [HT.sIx_nat,dY l1] at e3;rw [HT.sIx_nat,dY l2] at e4;unfold Builtin.Str.strSliceIndices
  dsimp only at e3 e4 ⊢
  rw [e3,e4];clear e3 e4 l1 l2;refine congr (congr (congrArg sliceRange ?_) ?_) rfl
  .cases lo with
   | none=>exact e1
   | some i=>exact e1
  .cases hi with
   | none=>exact e2
   | some i=>exact e2
 have l1:=HT.sIx_le x.length 0 (G8 _) lo;have l2:=HT.sIx_le x.length x.length (C4 _) hi;unfold Txt.slice cutS;rw [h2];generalize HT.sIx x.length 0 lo=a at *;generalize HT.sIx x.length x.length hi=b at *;have len:x.length=x.cps.toList.length:=by simp [Str.length]
 by_cases o7:a<=b
 .rw [StrLaws.sliced_plain x o7 l2,StrLaws.strSliceIndices_plain o7 l2]
  split
  .rename_i hc
   have o1:b-a=x.length:=by simpa using hc
   have ha:a=0:=by lia
   subst ha;rw [List.drop_zero,j7 (by lia)]
  .rfl
 .have e:Builtin.Str.strSliceIndices (some (a:Int)) (some (b:Int)) 1 x.length=[]:=by
   have h1:¬ ((a:Int)<0):=by lia
   have h2:¬ ((b:Int)<0):=by lia
   have e1:max (0:Int) (min (a:Int) (x.length:Int))=a:=by lia
   have e2:max (0:Int) (min (b:Int) (x.length:Int))=b:=by lia
   simp only [Builtin.Str.strSliceIndices,sliceRange,h1,h2,if_false,e1,e2,show ((1:Int) > 0)=True from by simp,if_true];rw [if_neg (by lia)];rfl
  rw [e,show b-a=0 by lia,d0]
  split
  .rename_i hc
   have o1:0=x.length:=by simpa using hc
   have:x.cps.toList=[]:=List.eq_nil_of_length_eq_zero (by lia)
   obtain ⟨⟨l⟩⟩:=x;simp at this;subst this;rfl
  .rfl
theorem ano:eI X rSlS:=by
 intro pins s Y H x v vl vu lo hi sl Q I rx hs pl pu h;obtain ⟨z,rfl,hz,q⟩:=h;obtain ⟨t,rfl⟩:=rx;refine ⟨"str",_,F.slot_str_getitem.lookup,typeIs_str _ _ _,?_⟩;rw [<- ahQ] at q;have part:∀ {u:Value} {o:Option Int},IsPart u o->∃ l:Option (Int×Tok),u=partValue l/\l.map (·.1)=o:=fun {u o} p=>by
  cases p with
  | none=>exact ⟨none,rfl,rfl⟩
  | int i t=>exact ⟨some (i,t),rfl,rfl⟩
 obtain ⟨l,rfl,el⟩:=part pl;obtain ⟨u,rfl,eu⟩:=part pu;subst el eu;refine wpAny_getItem_str_slice (l:=l) (u:=u) (st:=none) hs rfl ?_;exact post_val_or_str ⟨E1 (Txt.slice_le z _ _) hz,fun t' k=>⟨.str _,H,I.tok _,⟨t',rfl⟩,q⟩⟩
theorem acY{w:World}{E:Value->Shared->Prop}{t:Addr}{lo hi:Option Int}{Q:Value->Shared->Prop}(ht:IsTup s.heap t items)(hs:s.heap.IsSliceOf sl vl vu .none)(pl:IsPart vl lo)(pu:IsPart vu hi)(hw:HT.sIx items.size 0 lo=0/\HT.sIx items.size items.size hi=items.size)(h:Q (.ref t) s):wpAny (model prog w) A (getItem (.ref t) (.ref sl)) Q E s:=by
 obtain ⟨os,cZ,nK,jJ⟩:=id hs;have hTs:s.TypeIs (.ref sl) "slice":=⟨os,cZ,nK⟩
 unfold getItem
 try with_reducible refine wpAny_holding ?_
 first | refine wpAny_bind (wpAny_pure ?_) | skip
 refine wpAny_bind (wpAny_sequenceKey ht.typeIs (by decide) ?_);refine wpAny_bind (wpAny_callSpecial?_slot (name:=Str.ofString "__getitem__") ht.typeIs PyProof.Rows.slot_tuple_getitem
  (wpAny_call_entry PyProof.Rows.slot_tuple_getitem ht.typeIs PyProof.Rows.entry_tuple_getitem ?_ (PyProof.Rows.args_tuple_getitem _ _)))
 show wpAny _ _ (Builtin.Tuple.tupleItemsOf (.ref t) >>= _) _ _ s;refine wpAny_bind (PyProof.Rows.tupleItemsOf_ ht ?_);refine wpAny_bind (wpAny_typeOf hTs ?_);rw [if_pos (by decide)];refine wpAny_bind (HT.sliceApplied_gen hs pl pu ?_);have sU:((((HT.sIx items.size 0 lo:Nat):Int)==0&&(1:Int)==1&&(HT.sIx items.size items.size hi-HT.sIx items.size 0 lo)==items.size)=true):=by
  rw [hw.1,hw.2]
  simp
 show wpAny _ _ (if (((HT.sIx items.size 0 lo:Nat):Int)==0&&(1:Int)==1&&(HT.sIx items.size items.size hi-HT.sIx items.size 0 lo)==items.size)=true then _ else _) _ _ s;rw [if_pos sU];refine wpAny_bind ?_;show wpAny _ _ (typeOf (.ref t) >>= fun v=>pure (v == .type "tuple")) _ _ s;refine wpAny_bind (wpAny_typeOf ht.typeIs (wpAny_pure ?_));rw [if_pos (by decide)];refine wpAny_bind (wpAny_rule ?_);exact wpAny_pure ⟨_,rfl,wpAny_pure h⟩
noncomputable def rSlW (K:PySem.W.Frag):V->Option Int->Option Int->Hp->VK->Prop:=fun x lo hi H Q=>∃ a xs,x=.ref a/\D0 K H a xs/\(HT.sIx xs.length 0 lo=0/\HT.sIx xs.length xs.length hi=xs.length)/\Q (.ref a) H
theorem anp:eI X (rSlW X.K):=by
 intro pins s Y H x v vl vu lo hi sl Q I rx hs pl pu h;obtain ⟨a,xs,rfl,hx,hw,q⟩:=h
 cases rx
 obtain ⟨its,r,ht,hz⟩:=I.tuple hx;have B1:its.toArray.size=xs.length:=by rw [G7];exact r.length.symm
 refine ⟨"tuple",_,PyProof.Rows.slot_tuple_getitem.lookup,ht.typeIs,?_⟩;exact acY ht hs pl pu (by rw [B1];exact hw) ⟨.ref a,H,I,rfl,q⟩
noncomputable def rSlR (K:PySem.W.Frag) (a:Addr) (lo hi:Option Int) (H:Hp) (Q:VK):Prop:=rSlL K (.ref a) lo hi H Q\/rSlT K (.ref a) lo hi H Q\/rSlW K (.ref a) lo hi H Q
theorem rSlR.l{lo hi:Option Int}(h1:D3 K H a xs)(h:∀ p,H p=none->Q (.ref p) (A0 H p (.lst (cutV xs lo hi)))):rSlR K a lo hi H Q:=.inl ⟨a,xs,rfl,h1,h⟩
theorem rSlR.t{lo hi:Option Int}(h1:D0 K H a xs)(h2:¬ (HT.sIx xs.length 0 lo=0/\HT.sIx xs.length xs.length hi=xs.length))(h:∀ p,H p=none->Q (.ref p) (A0 H p (.tup (cutV xs lo hi)))):rSlR K a lo hi H Q:=.inr (.inl ⟨a,xs,rfl,h1,h2,h⟩)
theorem rSlR.w{lo hi:Option Int}(h1:D0 K H a xs)(h2:HT.sIx xs.length 0 lo=0/\HT.sIx xs.length xs.length hi=xs.length)(h:Q (.ref a) H):rSlR K a lo hi H Q:=.inr (.inr ⟨a,xs,rfl,h1,h2,h⟩)
noncomputable def rSlU (K:PySem.W.Frag):V->Option Int->Option Int->Hp->VK->Prop
 | .str z,lo,hi,H,Q=>z.length<=sizeLine/\Q (.str (cutS z lo hi)) H
 | .ref a,lo,hi,H,Q=>rSlR K a lo hi H Q
 | _,_,_,_,_=>False
theorem p_sl:eI X (rSlU X.K):=by
 intro pins s Y H x v vl vu lo hi sl Q I rx hs pl pu h
 cases x with
 | str z=>exact ano pins s Y H _ v vl vu lo hi sl Q I rx hs pl pu ⟨z,rfl,h⟩
 | ref a=>
  rcases h with h | h | h
  .exact ak6 pins s Y H _ v vl vu lo hi sl Q I rx hs pl pu h
  .exact ana pins s Y H _ v vl vu lo hi sl Q I rx hs pl pu h
  .exact anp pins s Y H _ v vl vu lo hi sl Q I rx hs pl pu h
 | _=>exact h.elim
noncomputable def LenR (K:PySem.W.Frag) (H:Hp) (p:Addr) (n:Nat):Prop:=(∃ xs,D3 K H p xs/\n=xs.length)\/(∃ xs,D0 K H p xs/\n=xs.length)\/∃ kvs,Rd H p (.dK kvs)/\n=kvs.length
noncomputable def rLenU (K:PySem.W.Frag):List V->Hp->VK->Prop
 | [.str z],H,Q=>z.length<=sizeLine/\Q (.int z.length) H
 | [.ref p],H,Q=>∃ n:Nat,LenR K H p n/\Q (.int n) H
 | _,_,_=>False
theorem p_len:CallR X (.builtin "len") (rLenU X.K):=by
 intro pins s Y H xs us Q I r h
 match xs,h with
 | [.str z],h=>exact oM pins s Y H _ us Q I r ⟨.str z,z.length,rfl,⟨h.1,rfl⟩,h.2⟩
 | [.ref p],⟨n,l,q⟩=>
  rcases l with ⟨xs,l,rfl⟩ | ⟨xs,l,rfl⟩ | ⟨kvs,l,rfl⟩
  .exact oM pins s Y H _ us Q I r ⟨.ref p,_,rfl,.inl ⟨xs,l,rfl⟩,q⟩
  .exact oM pins s Y H _ us Q I r ⟨.ref p,_,rfl,.inr ⟨xs,l,rfl⟩,q⟩
  .obtain ⟨u,rfl,ru⟩:=vals1 r
   cases ru
   exact d_len I l fun t s' I'=>⟨.int kvs.length,H,I',⟨t,rfl⟩,q⟩
theorem adV(hc:X.calm=true):CallR X (.type "list") (fun xs H Q=>∃ d kvs,xs=[.ref d]/\Rd H d (.dK kvs)/\∀ l,H l=none->Q (.ref l) (A0 H l (.lst (kvs.map fun kv=>kV kv.1)))):=by
 intro pins s Y H xs us Q I r h;obtain ⟨d,kvs,rfl,e,q⟩:=h;obtain ⟨u,rfl,rx⟩:=vals1 r
 cases rx
 obtain ⟨z,hd,vs,rel,dd⟩:=dk_rd I.hok e;obtain ⟨ep,L5⟩:=dd.dictAt;have hl:=rel.length;refine PySem.W.kdl_call (PySem.W.kdl_dict (knd:=N3 X.prog X.w) (kvs:=vs) (ep:=ep) hd) (I.ok.hd hc) L5 (by lia) fun h' tk acc c' kp hD jP=>?_
 have hv:Vals (kvs.map fun kv=>kV kv.1) acc.toList:=by
  have hk:=rel.keys;have B1:acc.toList.length=kvs.length:=by rw [bX,jP.1,hl]
  have key:∀ (ks:List C2) (us:List Value),us.length=ks.length->(∀ (j:Nat) (v:Value),us[j]?=some v->∃ k,ks[j]?=some k/\keyIs k v=true)->Vals (ks.map kV) us:=by
   intro ks
   induction ks with
   | nil=>intro us h1 _;cases us with
    | nil=>exact .nil
    | cons _ _=>simp at h1
   | cons k ks ih=>
    intro us h1 h2
    cases us with
    | nil=>simp at h1
    | cons u us=>
     obtain ⟨k',e1,e2⟩:=h2 0 u rfl;simp at e1;subst e1;refine .cons ?_ (ih us (by simpa using h1) fun j v hj=>by simpa using h2 (j+1) v (by simpa using hj))
     rcases e9 e2 with ⟨i,t,rfl,rfl⟩ | ⟨x,t,rfl,rfl⟩
     .exact ⟨t,rfl⟩
     .exact ⟨t,rfl⟩
  rw [show (kvs.map fun kv=>kV kv.1)=(kvs.map (·.1)).map kV by rw [k9];rfl];refine key _ _ (by rw [B1,B3]) fun j v hj=>?_
  obtain ⟨k,x,hx,sV⟩:=jP.2 j v (by rw [<- Array.getElem?_toList];exact hj);refine ⟨k,?_,sV⟩;rw [hk,W9,hx];rfl
 refine ⟨.ref s.heap.objs.size,_,I.laid (t':=tk) kp (C4 _) (show ObjOk X.prog X.w _ h' _ (.lst (kvs.map fun kv=>kV kv.1)) from ⟨by rw [B3];exact z,acc.toList,c',hv,by simpa using hD⟩),rfl,q _ (I.hok.fresh (C4 _))⟩
noncomputable def rListR (K:PySem.W.Frag) (calm:Bool) (p:Addr) (H:Hp) (Q:VK):Prop:=(∃ ys,(D3 K H p ys\/D0 K H p ys)/\∀ l,H l=none->Q (.ref l) (A0 H l (.lst ys)))\/(calm=true/\∃ kvs,Rd H p (.dK kvs)/\∀ l,H l=none->Q (.ref l) (A0 H l (.lst (kvs.map fun kv=>kV kv.1))))
theorem rListR.l{p:Addr}(h1:D3 K H p ys\/D0 K H p ys)(h:∀ l,H l=none->Q (.ref l) (A0 H l (.lst ys))):rListR K calm p H Q:=.inl ⟨ys,h1,h⟩
theorem rListR.d{p:Addr}(h1:Rd H p (.dK kvs))(h:∀ l,H l=none->Q (.ref l) (A0 H l (.lst (kvs.map fun kv=>kV kv.1)))):rListR K true p H Q:=.inr ⟨rfl,kvs,h1,h⟩
noncomputable def lQ (K:PySem.W.Frag) (calm:Bool):List V->Hp->VK->Prop
 | [.ref p],H,Q=>rListR K calm p H Q
 | _,_,_=>False
theorem anq:CallR X (.type "list") (lQ X.K X.calm):=by
 intro pins s Y H xs us Q I r h
 match xs,h with
 | [.ref p],h=>
  rcases h with ⟨ys,h1,h2⟩ | ⟨hc,kvs,h1,h2⟩
  .exact aeZ pins s Y H _ us Q I r ⟨p,ys,rfl,h1,h2⟩
  .exact adV hc pins s Y H _ us Q I r ⟨p,kvs,rfl,h1,h2⟩
noncomputable def rAllB (calm:Bool):List V->Hp->VK->Prop
 | [.ref p],H,Q=>∃ bs:List Bool,calm=true/\H p=some (.lst (bs.map V.bl))/\Q (.bl (bs.all id)) H
 | _,_,_=>False
noncomputable def lR (H:Hp):V->Option String
 | .non=>some "NoneType"
 | .bl _=>some "bool"
 | .int _=>some "int"
 | .str _=>some "str"
 | .ref a=>match H a with
  | some (.lst _)=>some "list"
  | some (.frz _ (.lst _))=>some "list"
  | some (.tup _)=>some "tuple"
  | some (.dK _)=>some "dict"
  | _=>none
 | _=>none
noncomputable def pG (T n:String):Bool:=T==n || (T == "bool" && n == "int")
noncomputable def isTys:List String:=["str", "int", "bool", "list", "tuple", "dict"]
noncomputable def rIsi:List V->Hp->VK->Prop
 | [x,.ty n],H,Q=>∃ T,lR H x=some T/\isTys.contains n=true/\Q (.bl (pG T n)) H
 | _,_,_=>False
theorem anr{x:V}{T:String}(h:lR H x=some T):TyOf K H x (.type T)/\["NoneType", "bool", "int", "str", "list", "tuple", "dict"].contains T=true:=by
 cases x with
 | non=>cases h;exact ⟨.non,by decide⟩
 | bl b=>cases h;exact ⟨.bl b,by decide⟩
 | int i=>cases h;exact ⟨.int i,by decide⟩
 | str z=>cases h;exact ⟨.str z,by decide⟩
 | ref a=>
  unfold lR at h
  dsimp only at h
  cases e:H a with
  | none=>rw [e] at h;cases h
  | some o=>
   rw [e] at h
   cases o with
   | lst xs=>cases h;exact ⟨.lst e,by decide⟩
   | tup xs=>cases h;exact ⟨.tup e,by decide⟩
   | dK kvs=>cases h;exact ⟨.dK e,by decide⟩
   | frz ob u=>
    cases u with
    | lst xs=>cases h;exact ⟨.frz e,by decide⟩
    | _=>cases h
   | _=>cases h
 | _=>cases h
theorem alg(K:PySem.W.Frag):∀ T∈["NoneType", "bool", "int", "str", "list", "tuple", "dict"],∀ n∈isTys,G6 K (.type T) (.type n)=some (pG T n):=by
 intro T hT n hn;simp only [G4,dW,or_false,isTys] at hT hn
 rcases hT with rfl | rfl | rfl | rfl | rfl | rfl | rfl <;> rcases hn with rfl | rfl | rfl | rfl | rfl | rfl <;> rfl
theorem ajl:CallR X (.builtin "isinstance") rIsi:=by
 intro pins s Y H xs us Q I r h
 match xs,h with
 | [x,.ty n],⟨T,h1,h2,q⟩=>
  obtain ⟨u,c,rfl,ru,rc⟩:=vals2 r;obtain rfl:c=Value.type n:=rc;obtain ⟨h3,h4⟩:=anr (K:=X.K) h1;exact ahC I ru h3 (alg X.K T (by simpa using h4) n (by simpa using h2)) fun tk=>⟨.bl _,H,I.tok tk,rfl,q⟩
noncomputable def rOrd:List V->Hp->VK->Prop
 | [.str z],H,Q=>z.length=1/\Q (.int (z.cps.getD 0 0:Nat)) H
 | _,_,_=>False
noncomputable def cC (x:Str):It:=⟨fun i _=>i<x.cps.size,fun i H v H'=>H'=H/\∃ c,x.cps.toList[i]?=some c/\v=.str ⟨#[c]⟩,fun i _=>x.cps.size<=i⟩
theorem ajm{P:Program}{w:World}{ty:String}(S9:ty="str_ascii_iterator"\/ty="str_iterator")(it:Addr)(x:Str)(t:Tok):Turn P w K tg (cC x) [it] it (fun i h=>h.IsStrIter it ty x t i) where
 mem:=by simp
 obj:=fun i h st b hb=>by
  have e:b=it:=by simpa using hb
  subst e;obtain ⟨o,e,c,d⟩:=st;exact ⟨o,e,fun v z=>by rw [d] at z;cases z⟩
 keep:=fun i h h' st k=>let ⟨o,e,r⟩:=st;⟨o,k it (by simp) o e,r⟩
 item:=by
  intro X hP hw hK hc i pins s Y H E I hf st hg;subst hP hw hK;obtain ⟨f0,f1,f2,f3,f4,f5⟩:=hf it (by simp);have fU:i<x.cps.size:=hg;have go:∀ h',h'.IsStrIter it ty x t (i+1)->Heap.SameBut it s.heap h'->∃ u,some (Value.str ⟨#[x.cps[i]]⟩ s.toks)=some u/\
    wpAny (model X.prog X.w) X.A (letOwnedTupleGo tg (.ref it) u) (fun _ s2=>∃ y H',Inv X pins Y H' s2/\RelV y u/\(cC x).yld i H y H'/\s2.heap.IsStrIter it ty x t (i+1)/\∀ b∈[it],H' b=none) E { s with heap:=h',toks:=s.toks+1 }:=by
   intro h' st' sb;have I1:Inv X pins Y H { s with heap:=h',toks:=s.toks+1 }:=I.turned (t':=s.toks+1) (fun b o hb e=>(sb.2 b hb).trans e) f0 f1 f3 f4 f5;obtain ⟨o,e,c,d⟩:=id st';refine ⟨_,rfl,go_of (s:={ s with heap:=h',toks:=s.toks+1 }) e c d (by rcases S9 with rfl | rfl <;> decide) ⟨.str ⟨#[x.cps[i]]⟩,H,I1,⟨_,rfl⟩,⟨rfl,x.cps[i],?_,rfl⟩,st',fun b hb=>(hf b hb).1⟩⟩;simp [fU]
  rcases S9 with rfl | rfl
  .exact wpAny_pyNext_ascii_item st (c:=x.cps[i]) (by simp [fU]) go
  .exact wpAny_pyNext_wide_item st (c:=x.cps[i]) (by simp [fU]) go
 done:=by
  intro X hP hw hK hc i pins s Y H E I hf st hg;subst hP hw hK;obtain ⟨f0,f1,f2,f3,f4,f5⟩:=hf it (by simp);have fU:x.cps.size<=i:=hg;have fin:∀ h',Heap.ExtBut it s.heap h'->(none:Option Value)=none/\Inv X pins Y H { s with heap:=h' }:=fun h' eb=>⟨rfl,I.turned (t':=s.toks) (fun b o hb e=>eb b o hb e) f0 f1 f3 f4 f5⟩
  rcases S9 with rfl | rfl
  .exact wpAny_pyNext_ascii_end (I.ok.hd hc) st (by simp [fU]) fin
  .exact wpAny_pyNext_wide_end (I.ok.hd hc) st (by simp [fU]) fin
 self:=fun A i s Q E st h=>by
  rcases S9 with rfl | rfl
  .exact wpAny_pyIter_striter_ascii st h
  .exact wpAny_pyIter_striter_wide st h
noncomputable def iStr (tl:TE):TI:=fun Y H R=>tl Y H fun x H1=>∃ z,x=.str z/\R (cC z) H1
variable {tg:Expr}
theorem ans{l:Expr}(hl:PE X l tl):PI X tg l (iStr tl):=by
 intro pins s Y H R I h;refine C0 (hl pins s Y H _ I h) fun v s1 ⟨x,H1,I1,r1,q1⟩=>?_
 obtain ⟨z,rfl,q⟩:=q1;obtain ⟨t,rfl⟩:=r1;have fin:∀ (ty:String) (S9:ty="str_ascii_iterator"\/ty="str_iterator"),oI X pins Y tg R (.ref s1.heap.objs.size) { s1 with heap:=s1.heap.push { cls:=.type ty,data:=.fields #[.str z t,.int 0 0] } }:=fun ty S9=>by
  refine ⟨s1.heap.objs.size,[s1.heap.objs.size],_,_,H1,rfl,I1.kept (t':=s1.toks) fun b o e=>Heap.get?_push_of_some _ e,ajm S9 s1.heap.objs.size z t,⟨_,Heap.get?_push_size _ rfl,rfl,rfl⟩,fun b hb=>?_,q⟩;have e:b=s1.heap.objs.size:=by simpa using hb
  subst e;exact I1.fpOk (C4 _) (I1.hok.fresh (C4 _))
 cases ha:z.cps.all (· < 128)
 .exact wpAny_pyIter_wide ha (fin _ (.inr rfl))
 .exact wpAny_pyIter_ascii ha (fin _ (.inl rfl))
end
end L2
set_option maxRecDepth 100000
namespace L2
open PySem PySem.Spec PyProof.Rows
noncomputable def K8:Expr->Bool
 | .Starred _ _=>true
 | _=>false
noncomputable def U3 (es:List Expr):Bool:=es.all fun e=>!K8 e
theorem O5{env:Env}(h:K8 e=false):starEach (e::es) env=(false,eval e env)::starEach es env:=by
 cases e <;> first | rfl | cases h
theorem eO{pos:Pos}{env:Env} : ∀ {es:List Expr},U3 es=true->(backTo pos (starEach es env)).any (·.1)=false
 | [],_=>rfl
 | e::es,h=>by
  have h':(!K8 e&&U3 es)=true:=h;rw [R1] at h';rw [O5 (by simpa using h'.1)];have ih:=eO (pos:=pos) (env:=env) h'.2;unfold backTo at ih ⊢
  rw [G3,q5,ih];rfl
theorem wM{pos:Pos}{env:Env} : ∀ {es:List Expr},U3 es=true->(backTo pos (starEach es env)).all (fun x=>!x.1)=true
 | [],_=>rfl
 | e::es,h=>by
  have h':(!K8 e&&U3 es)=true:=h;rw [R1] at h';rw [O5 (by simpa using h'.1)];have ih:=wM (pos:=pos) (env:=env) h'.2;unfold backTo at ih ⊢
  rw [G3,List.all_cons,ih];rfl
section
variable {X:Cx} {e:Expr} {es:List Expr} {te:TE} {t:TA} {x:Str} {p pos:Pos} {id T:String} {r:List V->Hp->VK->Prop}
theorem pa_c(ha:PE X e te)(hr:PA X es t)(h:K8 e=false:=by rfl):PA X (e::es) (tCons te t):=ak0 ha hr (O5 h)
theorem pe_cB(hc:CallR X (.builtin id) r)(hg:Gl X x)(hm:X.mg x=none)(hv:bootBuiltins x=some (.builtin id))(ha:PA X (e::es) t)(h1:K8 e=false:=by rfl)(h2:U3 es=true:=by rfl)(hn:x≠"__name__":=by decide)(K6:(x==("__debug__" : Str))=false:=by decide) :
  PE X (.Call (.Name x p) (e::es) [] pos) (cB r t):=ai8 hc hg hm hv ha hn K6 (O5 h1) (eO h2)
theorem pe_cT(hc:CallR X (.type T) r)(hg:Gl X x)(hm:X.mg x=none)(hv:bootBuiltins x=some (.type T))(ha:PA X (e::es) t)(h1:K8 e=false:=by rfl)(h2:U3 es=true:=by rfl)(hn:x≠"__name__":=by decide)(K6:(x==("__debug__" : Str))=false:=by decide) :
  PE X (.Call (.Name x p) (e::es) [] pos) (cB r t):=ahF hc hg hm hv ha hn K6 (O5 h1) (eO h2)
variable {o:Expr} {to:TE} {name:Str} {apos cpos:Pos} {rm:V->List V->Hp->VK->Prop}
theorem pe_mB(pa:PlainAttrs T)(slot:Slot T name id)(S9:typeOf (.builtin id)=pure (.type "method_descriptor"))(hm:lG X id rm)(ho:PE X o to)(ha:PA X (e::es) t)(h1:K8 e=false:=by rfl)(h2:U3 es=true:=by rfl)(h3:decide ((e::es).length<30)=true:=by rfl)(D8:attributeBase o name X.env (eval o X.env)=eval o X.env:=by rfl)(E5:(apos.endLine==cpos.line)=true:=by rfl):PE X (.Call (.Attribute o name apos) (e::es) [] cpos) (lH X.K T rm to t):=
 pe_bm pa slot S9 hm ho ha D8 (by
  rw [wM (show U3 (e::es)=true by show (!K8 e&&U3 es)=true;rw [h1,h2];rfl)];have h3':(e::es).length<30:=of_decide_eq_true h3;simp only [List.isEmpty_nil,if_true,k7,Nat.add_zero,Bool.true_and];rw [decide_eq_true h3'];rfl) E5 (O5 h1) (eO h2)
variable {tg a b:Expr} {ta:TA}
theorem pi_r1(hg:Gl X "range")(hm:X.mg "range"=none)(ha:PA X [a] ta)(h1:K8 a=false:=by rfl):PI X tg (.Call (.Name "range" p) [a] [] pos) (iRng1 ta):=aht hg hm ha (by rw [O5 h1];rfl)
end
noncomputable def FO (P:Program) (w:World) (K:PySem.W.Frag) (mg:Str->Option Value) (base:Heap) (k:Nat) (x:Str) (ps:List Str) (dvs:List V) (sp:Sp):Prop:=
 ∃ f fd,FnOk P w K mg base F9 k f fd ps sp/\mg x=some (.ref f)/\O9 K (.ref f)=true/\∃ ds,Binds K fd ps ds/\Vals dvs ds
structure FunD(K:PySem.W.Frag)(x qual:Str)(st:Stmt)(f:Addr)(fd:FuncData):Prop where
 ex:∃ (oc:Value) (od:Option Addr) (dV kV doc pm:Value) (an:Option Addr) (cdv ct:Value) (osl:Array (Option Value)),
  fd=Q2 x qual (R3 st) (Q3 st) (C7 st) dV kV doc pm an cdv ct/\K.lookup f=some ⟨oc,od,.func fd,osl⟩/\U1 K cdv qual=true
section
variable {P:Program} {w:World} {K:PySem.W.Frag} {mg:Str->Option Value} {base:Heap}
theorem FunD.ok(F:FunD K x qual st f fd)(S:FnScope N ps (C7 st))(len:∀ vs H Q E,sp vs H Q E->vs.length=ps.length)(R9:∀ (cdv:Value) (A:Around) (outer:List Env) (s:Shared) (H:Hp) (vs:List V) (Q:VK) (E:XK),Room k (A.deeper (envOfC qual (C7 st) s.heap.objs.size f cdv))->sp vs H Q E->
   ∃ t,T3 (cxOf F9 P w K mg base N qual (C7 st) f cdv A outer s H E).nox (Q3 st) t/\t { nx:=fun _ H'=>Q .non H',rt:=Q } (start N vs) H):FnOk P w K mg base F9 (k+1) f fd ps sp:=by
 obtain ⟨oc,od,dV,kV,doc,pm,an,cdv,ct,osl,rfl,lk,Q5⟩:=F.ex;refine fn_of lk Q5 S len fun A outer s H vs Q E hr o5=>?_
 obtain ⟨t,h,q⟩:=R9 cdv A outer s H vs Q E hr o5;exact ⟨t,h.nox,q⟩
theorem l9{osl:Array (Option Value)}{dV kV doc cdv:Value}(l:K.lookup f=some ⟨oc,od,.func (Q2 x qual (R3 st) (Q3 st) (C7 st) dV kV doc pm an cdv ct),osl⟩)(c:U1 K cdv qual=true):FunD K x qual st f (Q2 x qual (R3 st) (Q3 st) (C7 st) dV kV doc pm an cdv ct):=⟨oc,od,dV,kV,doc,pm,an,cdv,ct,osl,rfl,l,c⟩
end
section
variable {X:Cx} {k:Nat} {ps:List Str} {sp:Sp} {dvs:List V} {x:Str} {p pos:Pos} {e:Expr} {es:List Expr} {t:TA}
theorem ajn(G:FO X.prog X.w X.K X.mg X.base k x ps dvs sp)(hr:Room k X.A)(ha:PA X (e::es) t)(hg:Gl X x:=by rfl)(h1:K8 e=false:=by rfl)(h2:U3 es=true:=by rfl)(K6:(x==("__debug__" : Str))=false:=by decide):PE X (.Call (.Name x p) (e::es) [] pos) (tCall sp dvs E0 t):=by
 obtain ⟨f,fd,F,hm,hk,ds,hb,hd⟩:=G;exact vM F hr hg hm hk hb hd pass0 ha K6 (O5 h1) (eO h2)
theorem ajo{i:Int}(h:∃ t,X.mg x=some (.int i t))(hg:Gl X x:=by rfl)(hd:(x==("__debug__" : Str))=false:=by decide):PE X (.Name x p) (tC (.int i)):=by
 obtain ⟨t,h⟩:=h;exact uZ hg h ⟨t,rfl⟩ hd
theorem ajp(h:X.mg x=some (.ref a))(hg:Gl X x:=by rfl)(hd:(x==("__debug__" : Str))=false:=by decide):PE X (.Name x p) (tC (.ref a)):=uZ hg h rfl hd
end
section
variable {Y:St} {H:Hp} {Q:VK} {B:Bool->Hp->Prop} {ta tb tc te:TE} {t u:TS} {tt uu:TT} {D:Ends} {i:Nat} {v:V} {r r':R2} {K:PySem.W.Frag} {taa:TA} {R:List V->Hp->Prop} {g:TG}
theorem wN:tVar i Y H Q=∃ v,(Y[i]?).join=some v/\Q v H:=by
 unfold tVar;refine propext ⟨fun ⟨v,h,q⟩=>⟨v,by rw [h];rfl,q⟩,fun ⟨v,h,q⟩=>⟨v,?_,q⟩⟩;cases e:Y[i]? with
 | none=>rw [e] at h;cases h
 | some o=>rw [e] at h;exact congrArg some h
theorem ap_c:tC v Y H Q=Q v H:=rfl
theorem ap_op:t5 r ta tb Y H Q=ta Y H fun x H1=>tb Y H1 fun y H2=>r x y H2 Q:=rfl
theorem ap_un{ru:V->Hp->VK->Prop} : oJ ru ta Y H Q=ta Y H fun x H1=>ru x H1 Q:=rfl
theorem ap_rU{f:Int->V}{x:V} : rU f x H Q=∃ i,x=.int i/\Q (f i) H:=rfl
theorem alh:tTest ta Y H B=ta Y H fun x H'=>∃ k,x=.bl k/\B k H':=rfl
theorem ap_tB:tB ta Y H B=ta Y H fun x H'=>∃ k,x=.bl k/\B k H':=rfl
theorem ali:tTru K ta Y H B=ta Y H fun x H'=>∃ k,TruV K x H' k/\B k H':=rfl
theorem alj:tNotT K ta Y H Q=ta Y H fun x H'=>∃ k,TruV K x H' k/\Q (.bl (!k)) H':=rfl
theorem ajq:oK r r' ta tb tc Y H Q=ta Y H fun x H1=>tb Y H1 fun y H2=>r x y H2 fun z H3=>∃ k,z=.bl k/\(if k=true then tc Y H3 fun w' H4=>r' y w' H4 Q else Q (.bl false) H3):=rfl
theorem ant:tAnd tt uu Y H B=tt Y H fun c H1=>if c=true then uu Y H1 B else B false H1:=rfl
theorem ap_or:oE tt uu Y H B=tt Y H fun c H1=>if c=true then B true H1 else uu Y H1 B:=rfl
theorem anu:tNot tt Y H B=tt Y H fun c H1=>B (!c) H1:=rfl
theorem alk:tAndV ta tb Y H Q=ta Y H fun x H1=>∃ c,x=.bl c/\if c=true then tb Y H1 Q else Q (.bl false) H1:=rfl
theorem anv:tOrV ta tb Y H Q=ta Y H fun x H1=>∃ c,x=.bl c/\if c=true then Q (.bl true) H1 else tb Y H1 Q:=rfl
theorem alm:tNotV ta Y H Q=ta Y H fun x H1=>∃ c,x=.bl c/\Q (.bl (!c)) H1:=rfl
theorem ap_if:oF tt ta tb Y H Q=tt Y H fun c H1=>if c=true then ta Y H1 Q else tb Y H1 Q:=rfl
theorem aln:tNext D Y H=D.nx Y H:=rfl
theorem anw:tSeq t u D Y H=t { D with nx:=u D } Y H:=rfl
theorem ajr:amL D Y H=D.bk Y H:=rfl
theorem alo:tCont D Y H=D.ct Y H:=rfl
theorem alp:tDrop te D Y H=te Y H fun _ H1=>D.nx Y H1:=rfl
theorem anx:tRet te D Y H=te Y H D.rt:=rfl
theorem alq:tRetN D Y H=D.rt .non H:=rfl
theorem anz:tIfS tt t u D Y H=tt Y H fun b H1=>if b=true then t D Y H1 else u D Y H1:=rfl
theorem ajs:amN D Y H=False:=rfl
theorem alr{Z:St->Hp->Prop} : gName i v Y H Z=Z (Y.set i (some v)) H:=rfl
theorem als{Z:St->Hp->Prop} : gNil vs Y H Z=(vs=[]/\Z Y H):=rfl
theorem ajt{us:Y7}{Z:St->Hp->Prop} : gCons g us vs Y H Z=∃ v r,vs=v::r/\g v Y H fun σ' H'=>us r σ' H' Z:=rfl
theorem alt{us:Y7}{Z:St->Hp->Prop} : gTup K n us v Y H Z=∃ a xs,v=.ref a/\D0 K H a xs/\xs.length=n/\us xs Y H Z:=rfl
theorem alu{ts:TSet}{Z:St->Hp->Prop} : gSub ta tb ts v Y H Z=ta Y H fun o H1=>tb Y H1 fun i H2=>ts o i v H2 fun H3=>Z Y H3:=rfl
theorem anA:tAsg te g D Y H=te Y H fun x H1=>g x Y H1 D.nx:=rfl
theorem anB{ti:bZ} : tAug i te ti D Y H=∃ x,(Y[i]?).join=some x/\te Y H fun y H1=>ti x y H1 fun z H2=>D.nx (Y.set i (some z)) H2:=wN (Q:=fun x H=>te Y H fun y H1=>ti x y H1 fun z H2=>D.nx (Y.set i (some z)) H2)
theorem anC{f:Int->Int->Int}{x:V} : oH f x y H Q=∃ i j,x=.int i/\y=.int j/\Q (.int (f i j)) H:=rfl
theorem alv:tCons te taa Y H R=te Y H fun x H1=>taa Y H1 fun xs H2=>R (x::xs) H2:=rfl
theorem anD:tNil Y H R=R [] H:=rfl
theorem alw{E:XK} : tCall sp dvs E taa Y H Q=taa Y H fun vs H1=>sp (vs++dvs) H1 Q E:=rfl
theorem ap_cb{rc:List V->Hp->VK->Prop} : cB rc taa Y H Q=taa Y H fun vs H1=>rc vs H1 Q:=rfl
theorem anE:tTup taa Y H Q=taa Y H fun xs H1=>xs.length<=sizeLine/\∀ p,H1 p=none->Q (.ref p) (A0 H1 p (.tup xs)):=rfl
theorem anF:tLst taa Y H Q=taa Y H fun xs H1=>xs.length<=sizeLine/\∀ p,H1 p=none->Q (.ref p) (A0 H1 p (.lst xs)):=rfl
theorem ap_sl{rs:V->Option Int->Option Int->Hp->VK->Prop}{tl th:TO} : oR rs te tl th Y H Q=te Y H fun x H1=>tl Y H1 fun l H2=>th Y H2 fun u H3=>rs x l u H3 Q:=rfl
theorem ahR{O:Option Int->Hp->Prop} : oQ Y H O=O none H:=rfl
theorem alx{O:Option Int->Hp->Prop} : tPart te Y H O=te Y H fun x H1=>∃ i,x=.int i/\O (some i) H1:=rfl
theorem ap_bm{T:String}{rm:V->List V->Hp->VK->Prop} : lH K T rm te taa Y H Q=te Y H fun x H1=>aD K T x H1/\taa Y H1 fun xs H2=>rm x xs H2 Q:=rfl
theorem anG{T:String}{rm:V->List V->Hp->VK->Prop} : tBM0 K T rm te Y H Q=te Y H fun x H1=>aD K T x H1/\rm x [] H1 Q:=rfl
theorem anH:tYes Y H B=B true H:=rfl
theorem aly:oY Y H Q=∀ p,H p=none->Q (.ref p) (A0 H p (.dK [])):=rfl
theorem alz:tDGet ta tb Y H Q=ta Y H fun x H1=>tb Y H1 fun y H2=>∃ a v,x=.ref a/\DGet H2 a y (some v)/\Q v H2:=rfl
theorem alA:sDPut ta tb tc D Y H=tc Y H fun v H1=>ta Y H1 fun x H2=>tb Y H2 fun y H3=>∃ a H4,x=.ref a/\DPut H3 a y v H4/\D.nx Y H4:=rfl
theorem alB{rd:V->V->Hp->VK->Prop} : sDAug ta tb tc rd D Y H=ta Y H fun x H1=>tb Y H1 fun y H2=>∃ a v,x=.ref a/\DGet H2 a y (some v)/\tc Y H2 fun y2 H3=>rd v y2 H3 fun z H4=>∃ H5,DPut H4 a y z H5/\D.nx Y H5:=rfl
theorem alC{x:V} : t8 (fun i j=>V.int (i-j)) x y H Q=∃ i j,x=.int i/\y=.int j/\Q (.int (i-j)) H:=rfl
theorem aju{x:V} : rI CDiv (fun i j=>V.int (i / j)) x y H Q=∃ i j,x=.int i/\y=.int j/\(0<j/\j<1073741824)/\Q (.int (i / j)) H:=rfl
theorem alD{x:V} : rI (fun _ j=>0<j) (fun i j=>V.int (i % j)) x y H Q=∃ i j,x=.int i/\y=.int j/\0<j/\Q (.int (i % j)) H:=rfl
theorem alE : aD K "str" (.str z) H=True:=by simp [aD]
noncomputable def ForIt (J:It) (g:TG) (tb:TS) (D:Ends) (Y:St) (H1:Hp):Prop:=∃ W:Nat->Nat->St->Hp->Prop,(∃ m,W 0 m Y H1)/\∀ i m Y H,W i m Y H->
 (J.stop i H/\D.nx Y H)\/(J.go i H/\∃ N:St->Hp->Prop,(∀ σ' H',N σ' H'->∃ m',m'<m/\W (i+1) m' σ' H')/\∀ x H',J.yld i H x H'->g x Y H' fun σ2 H2=>tb { D with nx:=N,ct:=N,bk:=D.nx } σ2 H2)
theorem anI{wi:TI}{tbs:TS} : tFor wi g tbs D Y H=wi Y H fun J H1=>ForIt J g tbs D Y H1:=rfl
theorem ajv{Z:It->Hp->Prop} : iList K te Y H Z=te Y H fun x H1=>∃ a,x=.ref a/\(∃ xs,D3 K H1 a xs)/\Z (s0 K a) H1:=rfl
theorem alF{Z:It->Hp->Prop} : iTup K te Y H Z=te Y H fun x H1=>∃ a,x=.ref a/\(∃ xs,D0 K H1 a xs)/\Z (aA K a) H1:=rfl
theorem alG{Z:It->Hp->Prop} : iStr te Y H Z=te Y H fun x H1=>∃ z,x=.str z/\Z (cC z) H1:=rfl
theorem ajw{Z:It->Hp->Prop} : iRng1 taa Y H Z=taa Y H fun vs H1=>∃ j:Int,vs=[.int j]/\-(2 ^ 62)<=j/\j<2 ^ 62/\Z (cA 0 j.toNat) H1:=rfl
theorem ajx{Z:It->Hp->Prop} : iRng2 taa Y H Z=taa Y H fun vs H1=>∃ i j:Int,vs=[.int i,.int j]/\(-(2 ^ 62)<=i/\i<2 ^ 62/\-(2 ^ 62)<=j/\j<2 ^ 62)/\Z (cA i (j-i).toNat) H1:=rfl
noncomputable def cD (J:It) (k:Nat) (ixs:List Nat) (g:TG) (c:TT) (te:TE) (Y:St) (Q:VK) (H1:Hp):Prop:=∀ D,H1 D=none->
 ∃ (n:Nat) (W:Nat->List V->St->Hp->Prop),W 0 [] (compStart k ixs Y) (A0 H1 D (.lst []))/\∀ i ys σ2 H2,W i ys σ2 H2->H2 D=some (.lst ys)->
  (J.stop i H2/\Q (.ref D) H2)\/
  (i<n/\J.go i H2/\∀ x H',J.yld i H2 x H'->g x σ2 H' fun σ3 H3=>c σ3 H3 fun b H4=>
   if b=true then te σ3 H4 fun y H5=>H5 D=some (.lst ys)/\ys.length<sizeLine/\W (i+1) (ys++[y]) σ3 (A0 H5 D (.lst (ys++[y])))
   else H4 D=some (.lst ys)/\W (i+1) ys σ3 H4)
theorem alH{wi:TI} : tComp wi k ixs g tt te Y H Q=wi Y H fun J H1=>cD J k ixs g tt te Y Q H1:=rfl
end
theorem alI{b k:Bool} : TruV K (.bl b) H k=(k=b):=rfl
theorem ajy{i:Int}{k:Bool} : TruV K (.int i) H k=(k=(i != 0)):=rfl
theorem ajz{k:Bool} : TruV K (.str z) H k=(z.length<=sizeLine/\k=((z.length:Int) != 0)):=rfl
theorem ajA{k:Bool} : TruV K .non H k=(k=false):=rfl
theorem ajB : start N vs=vs.map some++O0 (N.length-vs.length) none:=rfl
theorem ae7 : compStart k ixs Y=O0 k none++ixs.map fun i=>(Y[i]?).join:=rfl
theorem alJ{i:Int} : eJ K (.str z) (.int i) H Q=∃ c,z.length<=sizeLine/\J3 z.cps.toList i=some c/\Q (.str ⟨#[c]⟩) H:=by
 simp only [eJ,rIxL,rIxT,rIxS];refine propext ⟨fun h=>?_,fun ⟨c,h⟩=>.inr (.inr ⟨z,i,c,rfl,rfl,h⟩)⟩
 rcases h with ⟨p,xs,j,v,e,_⟩ | ⟨p,xs,j,v,e,_⟩ | ⟨z',i',c,e1,e2,h⟩
 .cases e
 .cases e
 .cases e1;cases e2;exact ⟨c,h⟩
theorem alK{p:Addr}{i:Int} : eJ K (.ref p) (.int i) H Q=∃ xs v,(D3 K H p xs\/D0 K H p xs)/\J3 xs i=some v/\Q v H:=by
 simp only [eJ,rIxL,rIxT,rIxS];refine propext ⟨fun h=>?_,fun ⟨xs,v,h,r⟩=>?_⟩
 .rcases h with ⟨p',xs,j,v,e1,e2,h1,h2⟩ | ⟨p',xs,j,v,e1,e2,h1,h2⟩ | ⟨z',i',c,e1,e2,h⟩
  .cases e1;cases e2;exact ⟨xs,v,.inl h1,h2⟩
  .cases e1;cases e2;exact ⟨xs,v,.inr h1,h2⟩
  .cases e1
 .rcases h with h | h
  .exact .inl ⟨p,xs,i,v,rfl,rfl,h,r⟩
  .exact .inr (.inl ⟨p,xs,i,v,rfl,rfl,h,r⟩)
theorem pH{α:Type}{xs:List α}{i:Int}(h0:0<=i)(h1:i<xs.length):∃ v,J3 xs i=some v/\v∈xs:=by
 have D1:i.toNat<xs.length:=by lia
 refine ⟨xs[i.toNat],?_,List.getElem_mem D1⟩;unfold J3 Y8;rw [if_pos h0,if_pos h1];simp [D1]
theorem hZ:bootBuiltins "len"=some (.builtin "len"):=by decide +kernel
theorem U4:bootBuiltins "isinstance"=some (.builtin "isinstance"):=by decide +kernel
theorem wO:bootBuiltins "any"=some (.builtin "any"):=by decide +kernel
theorem anJ:bootBuiltins "min"=some (.builtin "min"):=by decide +kernel
theorem cE:bootBuiltins "list"=some (.type "list"):=by decide +kernel
theorem wP:bootBuiltins "tuple"=some (.type "tuple"):=by decide +kernel
theorem alL:bootBuiltins "dict"=some (.type "dict"):=by decide +kernel
theorem anK:bootBuiltins "str"=some (.type "str"):=by decide +kernel
section
variable {K:PySem.W.Frag} {H:Hp} {Q:VK} {i j:Int} {x y:Str} {u v:V} {b c:Bool} {p q:Addr} {lo hi:Option Int} {cm:Bool}
theorem ad_ii:rAddU K (.int i) (.int j) H Q=Q (.int (i+j)) H:=rfl
theorem ad_ss:rAddU K (.str x) (.str y) H Q=(x.length+y.length<=sizeLine/\Q (.str (x++y)) H):=rfl
theorem ad_rr:rAddU K (.ref p) (.ref q) H Q=rAddR K p q H Q:=rfl
theorem mu_ii:rMulU (.int i) (.int j) H Q=(CMul i j/\Q (.int (i*j)) H):=rfl
theorem mu_ri:rMulU (.ref p) (.int j) H Q=rRep (.ref p) (.int j) H Q:=rfl
theorem eq_ii:rEqU K (.int i) (.int j) H Q=Q (.bl (decide (i=j))) H:=rfl
theorem eq_ss:rEqU K (.str x) (.str y) H Q=Q (.bl (decide (x=y))) H:=rfl
theorem eq_bb:rEqU K (.bl b) (.bl c) H Q=Q (.bl (decide (b=c))) H:=rfl
theorem eq_rx:rEqU K (.ref p) v H Q=∃ d e,Dn K H (.ref p) d/\Dn K H v e/\min d.depth e.depth<=60/\Q (.bl (Q7 d e)) H:=by cases v <;> rfl
theorem eq_xr:rEqU K v (.ref p) H Q=∃ d e,Dn K H v d/\Dn K H (.ref p) e/\min d.depth e.depth<=60/\Q (.bl (Q7 d e)) H:=by cases v <;> rfl
theorem ne_ii:rNeU K (.int i) (.int j) H Q=Q (.bl (!decide (i=j))) H:=rfl
theorem ne_ss:rNeU K (.str x) (.str y) H Q=Q (.bl (!decide (x=y))) H:=rfl
theorem ne_bb:rNeU K (.bl b) (.bl c) H Q=Q (.bl (!decide (b=c))) H:=rfl
theorem ne_rx:rNeU K (.ref p) v H Q=∃ d e,Dn K H (.ref p) d/\Dn K H v e/\min d.depth e.depth<=60/\Q (.bl (!PyData.eqv d e)) H:=by cases v <;> rfl
theorem ne_xr:rNeU K v (.ref p) H Q=∃ d e,Dn K H v d/\Dn K H (.ref p) e/\min d.depth e.depth<=60/\Q (.bl (!PyData.eqv d e)) H:=by cases v <;> rfl
theorem lt_ii:rLtU (.int i) (.int j) H Q=Q (.bl (decide (i<j))) H:=rfl
theorem lt_ss:rLtU (.str x) (.str y) H Q=Q (.bl (decide (x.cps.toList<y.cps.toList))) H:=rfl
theorem le_ii:rLeU (.int i) (.int j) H Q=Q (.bl (decide (i<=j))) H:=rfl
theorem le_ss:rLeU (.str x) (.str y) H Q=Q (.bl (!decide (y.cps.toList<x.cps.toList))) H:=rfl
theorem gt_ii:rGtU (.int i) (.int j) H Q=Q (.bl (decide (j<i))) H:=rfl
theorem gt_ss:rGtU (.str x) (.str y) H Q=Q (.bl (decide (y.cps.toList<x.cps.toList))) H:=rfl
theorem ge_ii:rGeU (.int i) (.int j) H Q=Q (.bl (decide (j<=i))) H:=rfl
theorem ge_ss:rGeU (.str x) (.str y) H Q=Q (.bl (!decide (x.cps.toList<y.cps.toList))) H:=rfl
theorem in_xs:rInU K b u (.str x) H Q=∃ i,u=.str i/\Q (.bl (b.xor (!(Builtin.Str.occurrences x i 0 x.length 1).isEmpty))) H:=rfl
theorem in_xr:rInU K b u (.ref p) H Q=rInR K b u p H Q:=rfl
theorem sl_s:rSlU K (.str x) lo hi H Q=(x.length<=sizeLine/\Q (.str (cutS x lo hi)) H):=rfl
theorem sl_r:rSlU K (.ref p) lo hi H Q=rSlR K p lo hi H Q:=rfl
theorem len_s:rLenU K [.str x] H Q=(x.length<=sizeLine/\Q (.int x.length) H):=rfl
theorem len_r:rLenU K [.ref p] H Q=∃ n:Nat,LenR K H p n/\Q (.int n) H:=rfl
theorem anL:lQ K cm [.ref p] H Q=rListR K cm p H Q:=rfl
theorem all_r:rAllB cm [.ref p] H Q=∃ bs:List Bool,cm=true/\H p=some (.lst (bs.map V.bl))/\Q (.bl (bs.all id)) H:=rfl
theorem isi_t{n:String} : rIsi [u,.ty n] H Q=∃ T,lR H u=some T/\isTys.contains n=true/\Q (.bl (pG T n)) H:=rfl
theorem ord_s:rOrd [.str x] H Q=(x.length=1/\Q (.int (x.cps.getD 0 0:Nat)) H):=rfl
end
theorem forL(Pv:Nat->St->Hp->Prop)(h0:Pv 0 Y H)(hl:∀ i Y H,i<=xs.length->Pv i Y H->D3 K H a xs)(hs:∀ i x Y H,xs[i]?=some x->Pv i Y H->g x Y H fun σ2 H2=>tb { D with nx:=Pv (i+1),ct:=Pv (i+1),bk:=D.nx } σ2 H2)(hd:∀ Y H,Pv xs.length Y H->D.nx Y H):ForIt (s0 K a) g tb D Y H:=ai4 Pv h0 hl hs hd
theorem forT(Pv:Nat->St->Hp->Prop)(h0:Pv 0 Y H)(hl:∀ i Y H,i<=xs.length->Pv i Y H->D0 K H a xs)(hs:∀ i x Y H,xs[i]?=some x->Pv i Y H->g x Y H fun σ2 H2=>tb { D with nx:=Pv (i+1),ct:=Pv (i+1),bk:=D.nx } σ2 H2)(hd:∀ Y H,Pv xs.length Y H->D.nx Y H):ForIt (aA K a) g tb D Y H:=akT Pv h0 hl hs hd
theorem forS(Pv:Nat->St->Hp->Prop)(h0:Pv 0 Y H)(hs:∀ i c Y H,z.cps.toList[i]?=some c->Pv i Y H->g (.str ⟨#[c]⟩) Y H fun σ2 H2=>tb { D with nx:=Pv (i+1),ct:=Pv (i+1),bk:=D.nx } σ2 H2)(hd:∀ Y H,Pv z.length Y H->D.nx Y H):ForIt (cC z) g tb D Y H:=by
 refine ⟨fun i m Y H=>m=z.cps.size-i/\i<=z.cps.size/\Pv i Y H,⟨z.cps.size,by simp,G8 _,h0⟩,?_⟩;rintro i m Y H ⟨rfl,hi,p⟩
 by_cases D1:i<z.cps.size
 .refine .inr ⟨D1,Pv (i+1),fun σ' H' p'=>⟨z.cps.size-(i+1),by lia,rfl,D1,p'⟩,fun x H' y=>?_⟩;obtain ⟨e,c,hc,rfl⟩:=y;subst e;exact hs i c Y _ hc p
 .have e:i=z.cps.size:=by lia
  subst e;exact .inl ⟨C4 _,hd Y H p⟩
noncomputable def CW (n:Nat) (fr:St) (Pv:Nat->List V->Hp->Prop) (i:Nat) (ys:List V) (σ2:St) (H2:Hp):Prop:=i<=n/\ys.length<=i/\(∃ v,σ2=v::fr)/\Pv i ys H2
theorem CW.put{fr:St}{Pv:Nat->List V->Hp->Prop}{o:Option V}(hi:i<n)(hy:ys.length<=i)(p:Pv (i+1) (ys++[y]) H):CW n fr Pv (i+1) (ys++[y]) (o::fr) H:=
 ⟨hi,by rw [G0,bO];lia,⟨_,rfl⟩,p⟩
theorem CW.skip{fr:St}{Pv:Nat->List V->Hp->Prop}{o:Option V}(hi:i<n)(hy:ys.length<=i)(p:Pv (i+1) ys H):CW n fr Pv (i+1) ys (o::fr) H:=⟨hi,Nat.le_succ_of_le hy,⟨_,rfl⟩,p⟩
theorem compL(fr:St)(O3:compStart 1 ixs Y=none::fr)(Pv:Addr->Nat->List V->Hp->Prop)(h0:∀ D,H1 D=none->Pv D 0 [] (A0 H1 D (.lst [])))(hl:∀ D i ys H,H1 D=none->i<=xs.length->Pv D i ys H->D3 K H a xs)(hs:∀ D i x ys H,H1 D=none->i<xs.length->xs[i]?=some x->Pv D i ys H->H D=some (.lst ys)->ys.length<=i->c (some x::fr) H fun b H4=>
   if b=true then te (some x::fr) H4 fun y H5=>H5 D=some (.lst ys)/\ys.length<sizeLine/\CW xs.length fr (Pv D) (i+1) (ys++[y]) (some x::fr) (A0 H5 D (.lst (ys++[y])))
   else H4 D=some (.lst ys)/\CW xs.length fr (Pv D) (i+1) ys (some x::fr) H4)(hd:∀ D ys H,H1 D=none->Pv D xs.length ys H->H D=some (.lst ys)->ys.length<=xs.length->Q (.ref D) H):cD (s0 K a) 1 ixs (gName 0) c te Y Q H1:=by
 intro D hD;refine ⟨xs.length,CW xs.length fr (Pv D),⟨G8 _,G8 _,⟨none,O3⟩,h0 D hD⟩,?_⟩;rintro i ys σ2 H2 ⟨hi,hy,⟨v,rfl⟩,p⟩ hDy;have q:=hl D i ys H2 hD hi p
 by_cases D1:i<xs.length
 .refine .inr ⟨D1,⟨xs,xs[i],q,by simp [D1]⟩,fun x H' y=>?_⟩;obtain ⟨e,y⟩:=y;subst e;exact hs D i x ys _ hD D1 (y xs q) p hDy hy
 .have e:i=xs.length:=by lia
  subst e;exact .inl ⟨⟨xs,q,C4 _⟩,hd D ys H2 hD p hDy hy⟩
theorem compT(fr:St)(O3:compStart 1 ixs Y=none::fr)(Pv:Addr->Nat->List V->Hp->Prop)(h0:∀ D,H1 D=none->Pv D 0 [] (A0 H1 D (.lst [])))(hl:∀ D i ys H,H1 D=none->i<=xs.length->Pv D i ys H->D0 K H a xs)(hs:∀ D i x ys H,H1 D=none->i<xs.length->xs[i]?=some x->Pv D i ys H->H D=some (.lst ys)->ys.length<=i->c (some x::fr) H fun b H4=>
   if b=true then te (some x::fr) H4 fun y H5=>H5 D=some (.lst ys)/\ys.length<sizeLine/\CW xs.length fr (Pv D) (i+1) (ys++[y]) (some x::fr) (A0 H5 D (.lst (ys++[y])))
   else H4 D=some (.lst ys)/\CW xs.length fr (Pv D) (i+1) ys (some x::fr) H4)(hd:∀ D ys H,H1 D=none->Pv D xs.length ys H->H D=some (.lst ys)->ys.length<=xs.length->Q (.ref D) H):cD (aA K a) 1 ixs (gName 0) c te Y Q H1:=by
 intro D hD;refine ⟨xs.length,CW xs.length fr (Pv D),⟨G8 _,G8 _,⟨none,O3⟩,h0 D hD⟩,?_⟩;rintro i ys σ2 H2 ⟨hi,hy,⟨v,rfl⟩,p⟩ hDy;have q:=hl D i ys H2 hD hi p
 by_cases D1:i<xs.length
 .refine .inr ⟨D1,⟨xs,xs[i],q,by simp [D1]⟩,fun x H' y=>?_⟩;obtain ⟨e,y⟩:=y;subst e;exact hs D i x ys _ hD D1 (y xs q) p hDy hy
 .have e:i=xs.length:=by lia
  subst e;exact .inl ⟨⟨xs,q,C4 _⟩,hd D ys H2 hD p hDy hy⟩
theorem compS(fr:St)(O3:compStart 1 ixs Y=none::fr)(Pv:Addr->Nat->List V->Hp->Prop)(h0:∀ D,H1 D=none->Pv D 0 [] (A0 H1 D (.lst [])))(hs:∀ D i x ys H,H1 D=none->i<z.cps.size->z.cps.toList[i]?=some x->Pv D i ys H->H D=some (.lst ys)->ys.length<=i->c (some (.str ⟨#[x]⟩)::fr) H fun b H4=>
   if b=true then te (some (.str ⟨#[x]⟩)::fr) H4 fun y H5=>H5 D=some (.lst ys)/\ys.length<sizeLine/\CW z.cps.size fr (Pv D) (i+1) (ys++[y]) (some (.str ⟨#[x]⟩)::fr) (A0 H5 D (.lst (ys++[y])))
   else H4 D=some (.lst ys)/\CW z.cps.size fr (Pv D) (i+1) ys (some (.str ⟨#[x]⟩)::fr) H4)(hd:∀ D ys H,H1 D=none->Pv D z.cps.size ys H->H D=some (.lst ys)->ys.length<=z.cps.size->Q (.ref D) H):cD (cC z) 1 ixs (gName 0) c te Y Q H1:=by
 intro D hD;refine ⟨z.cps.size,CW z.cps.size fr (Pv D),⟨G8 _,G8 _,⟨none,O3⟩,h0 D hD⟩,?_⟩;rintro i ys σ2 H2 ⟨hi,hy,⟨v,rfl⟩,p⟩ hDy
 by_cases D1:i<z.cps.size
 .refine .inr ⟨D1,D1,fun x H' y=>?_⟩;obtain ⟨e,c,hc,rfl⟩:=y;subst e;exact hs D i c ys _ hD D1 hc p hDy hy
 .have e:i=z.cps.size:=by lia
  subst e;exact .inl ⟨C4 _,hd D ys H2 hD p hDy hy⟩
theorem compR{lo:Int}(fr:St)(O3:compStart 1 ixs Y=none::fr)(Pv:Addr->Nat->List V->Hp->Prop)(h0:∀ D,H1 D=none->Pv D 0 [] (A0 H1 D (.lst [])))(hs:∀ D i ys H,H1 D=none->i<n->Pv D i ys H->H D=some (.lst ys)->ys.length<=i->c (some (.int (lo+i))::fr) H fun b H4=>
   if b=true then te (some (.int (lo+i))::fr) H4 fun y H5=>H5 D=some (.lst ys)/\ys.length<sizeLine/\CW n fr (Pv D) (i+1) (ys++[y]) (some (.int (lo+i))::fr) (A0 H5 D (.lst (ys++[y])))
   else H4 D=some (.lst ys)/\CW n fr (Pv D) (i+1) ys (some (.int (lo+i))::fr) H4)(hd:∀ D ys H,H1 D=none->Pv D n ys H->H D=some (.lst ys)->ys.length<=n->Q (.ref D) H):cD (cA lo n) 1 ixs (gName 0) c te Y Q H1:=by
 intro D hD;refine ⟨n,CW n fr (Pv D),⟨G8 _,G8 _,⟨none,O3⟩,h0 D hD⟩,?_⟩;rintro i ys σ2 H2 ⟨hi,hy,⟨v,rfl⟩,p⟩ hDy
 by_cases D1:i<n
 .refine .inr ⟨D1,D1,fun x H' y=>?_⟩;obtain ⟨e,y⟩:=y;subst e y;exact hs D i ys _ hD D1 p hDy hy
 .have e:i=n:=by lia
  subst e;exact .inl ⟨C4 _,hd D ys H2 hD p hDy hy⟩
theorem C9{p q:Addr}{o u:HO}(h:H p=some o)(n:H q=none):A0 H q u p=some o:=by rw [A7 (M8 h n)];exact h
theorem Same.new{q:Addr}{u:HO}(n:H q=none):Same H (A0 H q u):=fun _ _ h=>C9 h n
theorem Same.put{q:Addr}{u:HO}(s:Same H0 H)(n:H0 q=none):Same H0 (A0 H q u):=fun b o h=>by rw [A7 (M8 h n)];exact s b o h
end L2
set_option maxRecDepth 100000
namespace L2
open PySem PySem.Spec PyProof.Rows
theorem cxK{CX:V4}{P:Program}{w:World}{base:Heap}{sc:Scope}{o:List Env}{E:XK} : (cxOf CX P w K mg base N q sc f cd A o s H E).K=K:=rfl
theorem cxKn : X.nox.K=X.K:=rfl
theorem cxKb{sc:Scope} : (K7 X sc N' C zu zr fp pins).K=X.K:=rfl
theorem cxC{CX:V4}{P:Program}{w:World}{base:Heap}{sc:Scope}{o:List Env}{E:XK} : (cxOf CX P w K mg base N q sc f cd A o s H E).calm=true:=rfl
theorem cxCn : X.nox.calm=X.calm:=rfl
theorem cxCb{sc:Scope} : (K7 X sc N' C zu zr fp pins).calm=X.calm:=rfl
theorem iteD{c A B:Prop}[Decidable c](h1:c->A)(h2:¬ c->B):if decide c=true then A else B:=by
 by_cases h:c
 .rw [decide_eq_true h,if_pos rfl];exact h1 h
 .rw [decide_eq_false h,if_neg J5];exact h2 h
theorem iteN{c A B:Prop}[Decidable c](h1:¬ c->A)(h2:c->B):if (!decide c)=true then A else B:=by
 by_cases h:c
 .rw [decide_eq_true h];exact iteF (h2 h)
 .rw [decide_eq_false h];exact iteT (h1 h)
theorem X1{p:Addr}(h:H p=some (.lst xs)):aD K "list" (.ref p) H:=.inl ⟨rfl,_,D3.of h⟩
theorem appOk{l:Addr}(h:H l=some (.lst xs))(hz:xs.length<sizeLine)(q:Q .non (A0 H l (.lst (xs++[y])))):oV (.ref l) [y] H Q:=⟨l,xs,y,rfl,rfl,h,hz,q⟩
theorem K9(h:n<=1000000):n<sizeLine:=Nat.lt_of_le_of_lt h (by decide)
theorem lS(h:n<=1000000):n<=sizeLine:=Nat.le_of_lt (K9 h)
noncomputable def signB (c:Nat):Bool:=decide (33<=c)&&decide (c<=126)&&decide (c≠37)
noncomputable def iA (z:Str):Bool:=decide (1<=z.length)&&decide (z.length<=2)&&z.cps.toList.all signB
theorem ahT(h:iA z=true):P7 z=true/\1<=z.length/\z.length<=2:=by
 unfold iA at h;simp only [R1,decide_eq_true_eq] at h;refine ⟨?_,h.1.1,h.1.2⟩;unfold P7;rw [Array.all_eq_true_iff_forall_mem];intro c hc
 have:=List.all_eq_true.mp h.2 c (Array.mem_toList_iff.mpr hc)
 unfold signB at this;simp only [R1,decide_eq_true_eq] at this;simp only [decide_eq_true_eq];lia
noncomputable def SG:List Nat:=[33,34,35,36]++(V2 89).map (· + 38)
theorem alM:∀ c∈SG,signB c=true:=by decide +kernel
theorem anM:SG.length=93:=by decide +kernel
structure IsRows(H:Hp)(a:Addr)(rs:List Addr)(zss:List (List Str)):Prop where
 top:H a=some (.lst (rs.map V.ref))
 row:Paired (fun r (zs:List Str)=>H r=some (.lst (zs.map V.str))) rs zss
theorem IsRows.same{zss:List (List Str)}(R:IsRows H a rs zss)(s:Same H H'):IsRows H' a rs zss:=⟨s _ _ R.top,f6 R.row fun _ _ h=>s _ _ h⟩
theorem Paired.at{α β:Type}{F:α->β->Prop} : ∀ {zx:List α} {l₂:List β} {i:Nat} {a:α},Paired F zx l₂->zx[i]?=some a->∃ b,l₂[i]?=some b/\F a b
 | _,_,_,_,.nil,h=>by simp at h
 | _,_,0,_,.cons h t,e=>by simp at e;subst e;exact ⟨_,rfl,h⟩
 | _,_,i+1,_,.cons h t,e=>by
  obtain ⟨b,h1,h2⟩:=Paired.at (i:=i) t (by simpa using e);exact ⟨b,by simpa using h1,h2⟩
theorem wQ:∀ zs:List Str,r8 (zs.map V3)=0
 | []=>rfl
 | z::zs=>by rw [G3,r8,wQ zs,PyData.depth];rfl
noncomputable def dd (acc:List Str) (z:Str):List Str:=if z∈acc then acc else acc++[z]
noncomputable def K0 (acc zs:List Str):List Str:=zs.foldl dd acc
noncomputable def toldL (zss:List (List Str)):List Str:=zss.foldl K0 []
theorem iB(zs:List Str):∀ acc:List Str,(K0 acc zs).length<=acc.length+zs.length:=by
 induction zs with
 | nil=>intro acc;exact C4 _
 | cons z zs ih=>
  intro acc;have h1:=ih (dd acc z);have h2:(dd acc z).length<=acc.length+1:=by
   unfold dd
   split
   .lia
   .simp
  show (K0 (dd acc z) zs).length<=_;rw [J9];lia
theorem ajC(h:zs[j]?=some z):K0 acc (zs.take (j+1))=dd (K0 acc (zs.take j)) z:=by
 rw [V1,h];simp [K0,bQ]
theorem ahU{zss:List (List Str)}(h:zss[i]?=some zs):toldL (zss.take (i+1))=K0 (toldL (zss.take i)) zs:=by
 rw [V1,h];simp [toldL,bQ]
theorem lT(zss:List (List Str)):∀ acc,zss.foldl K0 acc=K0 acc zss.flatten:=by
 induction zss with
 | nil=>intro acc;rfl
 | cons zs zss ih=>
  intro acc;rw [List.foldl_cons,ih,bR];unfold K0;rw [bQ]
theorem eP(zss:List (List Str)):(toldL zss).length<=zss.flatten.length:=by
 unfold toldL;rw [lT]
 have:=iB zss.flatten []
 simpa using this
noncomputable def kvOf (zs:List Str):List (C2×V):=zs.map fun z=>(Sum.inr z,V.bl true)
theorem wR(z:Str):∀ acc:List Str,((kvOf acc).any fun kv=>decide (kv.1=(Sum.inr z:C2)))=decide (z∈acc)
 | []=>by simp [kvOf]
 | y::acc=>by
  have ih:=wR z acc;unfold kvOf at ih ⊢
  rw [G3,q5,ih]
  by_cases e:y=z
  .subst e
   simp
  .have e1:decide ((Sum.inr y:C2)=Sum.inr z)=false:=decide_eq_false fun q=>e (Sum.inr.inj q)
   have e2:decide (z∈y::acc)=decide (z∈acc):=by
    by_cases h:z∈acc
    .rw [decide_eq_true h,decide_eq_true (M5 _ h)]
    .rw [decide_eq_false h,decide_eq_false];intro q
     rcases G4.mp q with q | q
     .exact e q.symm
     .exact h q
   rw [e2];simp only [e1,Bool.false_or]
theorem ahV(acc:List Str)(z:Str):putK (kvOf acc) (Sum.inr z:C2) (.bl true)=kvOf (dd acc z):=by
 unfold putK dd;rw [wR]
 by_cases h:z∈acc
 .rw [decide_eq_true h,if_pos rfl,if_pos h];unfold kvOf;rw [k9];refine gN fun y _=>?_
  show (if (Sum.inr y:C2)=Sum.inr z then ((Sum.inr y:C2),V.bl true) else (Sum.inr y,V.bl true))=_
  split <;> rfl
 .rw [decide_eq_false h,if_neg J5,if_neg h];unfold kvOf;rw [G2];rfl
theorem ahW(acc:List Str):((kvOf acc).map fun kv=>kV kv.1)=acc.map V.str:=by
 unfold kvOf;rw [k9];rfl
theorem iC(z:Str):∀ acc:List Str,Y9 (.str z) (acc.map V.str)=decide (z∈acc)
 | []=>by simp [Y9]
 | y::acc=>by
  have ih:=iC z acc;unfold Y9 at ih ⊢
  rw [G3,q5,ih];show ((y==z) || decide (z∈acc))=_
  by_cases e:y=z
  .subst e
   simp
  .have e1:(y==z)=false:=by simpa using e
   rw [e1,Bool.false_or]
   by_cases h:z∈acc
   .rw [decide_eq_true h,decide_eq_true (M5 _ h)]
   .rw [decide_eq_false h,decide_eq_false];intro q
    rcases G4.mp q with q | q
    .exact e q.symm
    .exact h q
theorem J0{α β:Type}{f:α->β}{l:List α}{y:β}(h:(l.map f)[i]?=some y):∃ x,l[i]?=some x/\y=f x:=by
 rw [W9] at h;cases e:l[i]? with
 | none=>rw [e] at h;cases h
 | some x=>rw [e] at h;exact ⟨x,rfl,(Option.some.inj h).symm⟩
noncomputable def SS:Str:=Str.ofString "!\"#$&'()*+,-./0123456789:;<=>?@ABCDEFGHIJKLMNOPQRSTUVWXYZ[\\]^_`"++Str.ofString "abcdefghijklmnopqrstuvwxyz{|}~"
theorem SS_eq:SS.cps.toList=SG:=by decide +kernel
theorem anN:SS.length<=sizeLine:=by decide +kernel
theorem alN:(Str.ofString "!\"#$&'()*+,-./0123456789:;<=>?@ABCDEFGHIJKLMNOPQRSTUVWXYZ[\\]^_`").length+(Str.ofString "abcdefghijklmnopqrstuvwxyz{|}~").length<=sizeLine:=by decide +kernel
theorem SS_at{i:Int}(h0:0<=i)(h1:i<93):∃ c,J3 SS.cps.toList i=some c/\signB c=true:=by
 rw [SS_eq];obtain ⟨c,h2,h3⟩:=pH (xs:=SG) h0 (by rw [anM];exact h1);exact ⟨c,h2,alM c h3⟩
theorem drawn{i:Int}(hx:∀ x∈xs,∃ n,x=V.int n)(h0:0<=i)(h1:i<xs.length):∃ n,J3 xs i=some (V.int n):=by
 obtain ⟨v,h2,h3⟩:=pH h0 h1;obtain ⟨n,rfl⟩:=hx v h3;exact ⟨n,h2⟩
theorem pI{α β:Type}{F G:α->β->Prop} : ∀ {zx:List α} {l₂:List β},Paired F zx l₂->(∀ a∈zx,∀ b,F a b->G a b)->Paired G zx l₂
 | _,_,.nil,_=>.nil
 | _,_,.cons h t,k=>.cons (k _ N1 _ h) (pI t fun a ha b hb=>k a (M5 _ ha) b hb)
structure RowsAt(H0 H:Hp)(a:Addr)(rs:List Addr)(zss:List (List Str)):Prop where
 rows:IsRows H a rs zss
 nd:(a::rs).Nodup
 new:∀ r∈a::rs,H0 r=none
 same:Same H0 H
theorem RowsAt.live{zss:List (List Str)}(R:RowsAt H0 H a rs zss)(h:r∈a::rs):∃ o,H r=some o:=by
 rcases G4.mp h with h | h
 .subst h;exact ⟨_,R.rows.top⟩
 .obtain ⟨i,hi,rfl⟩:=Z8.mp h;obtain ⟨zs,_,h2⟩:=Paired.at R.rows.row (i:=i) (a:=rs[i]) (by simp [hi]);exact ⟨_,h2⟩
end L2
set_option maxRecDepth 100000
namespace L2
open PySem PySem.Spec PyProof.Rows
structure QE(X:Cx)(e:Expr)(t:TE):Prop where
 out:PE X e t
structure QT(X:Cx)(e:Expr)(t:TT):Prop where
 out:PT X e t
structure QW(X:Cx)(e:Expr)(t:TT):Prop where
 out:PW X e t
structure QA(X:Cx)(es:List Expr)(t:TA):Prop where
 out:PA X es t
structure QS(X:Cx)(st:Stmt)(t:TS):Prop where
 out:PS X st t
structure QSs(X:Cx)(st:List Stmt)(t:TS):Prop where
 out:T3 X st t
structure QG(X:Cx)(tg:Expr)(t:TG):Prop where
 out:PG X tg t
structure QGs(X:Cx)(tg:List Expr)(t:Y7):Prop where
 out:gW X tg t
structure QI(X:Cx)(tg iter:Expr)(wi:TI):Prop where
 out:PI X tg iter wi
structure QO(X:Cx)(e:Option Expr)(t:TO):Prop where
 out:PO X e t
structure QIfs(X:Cx)(ifs:List Expr)(t:TT):Prop where
 out:PIfs X ifs t
structure QOp(X:Cx)(f:Value->Value->Sem Value)(r:R2):Prop where
 out:F8 X f r
structure QUn(X:Cx)(f:Value->Sem Value)(r:V->Hp->VK->Prop):Prop where
 out:lE X f r
structure QCall(X:Cx)(f:Value)(r:List V->Hp->VK->Prop):Prop where
 out:CallR X f r
structure QMt(X:Cx)(id:String)(r:V->List V->Hp->VK->Prop):Prop where
 out:lG X id r
structure QIp(X:Cx)(op:Operator)(t:bZ):Prop where
 out:oG X op t
structure QIn(X:Cx)(op:Operator)(t:V->V->Hp->VK->Prop):Prop where
 out:InOp X op t
section
variable {X:Cx} {a b c e o i value:Expr} {es:List Expr} {ta tb tc te to ti tv:TE} {tA tB':TT} {t u:TS} {tl:TA} {pos p pos' tpos:Pos} {rest:List Expr} {r r':R2} {x:Str}
theorem A8{i j} : QE X (.Constant (.int i) j pos) (tC (.int i)):=⟨uY⟩
theorem qe_bl{b j} : QE X (.Constant (.bool b) j pos) (tC (.bl b)):=⟨pe_bl⟩
theorem iD{j} : QE X (.Constant .none j pos) (tC .non):=⟨amF⟩
theorem D4{x j} : QE X (.Constant (.str x) j pos) (tC (.str x)):=⟨amG⟩
theorem qe_v(hN:X.N[n]?=some x)(hv:gT X.env.scope x)(hd:(x==("__debug__" : Str))=false)(Q5:(x==("__classdict__" : Str))=false):QE X (.Name x pos) (tVar n):=⟨uX hN hv hd Q5⟩
theorem qv(n:Nat)(hN:X.N[n]?=some x:=by rfl)(hv:gT X.env.scope x:=by first | exact Or.inl rfl | exact Or.inr (Or.inl rfl) | exact Or.inr (Or.inr rfl))(hd:(x==("__debug__" : Str))=false:=by decide)(Q5:(x==("__classdict__" : Str))=false:=by decide):QE X (.Name x pos) (tVar n):=⟨uX hN hv hd Q5⟩
theorem pJ{i:Int}(h:∃ t,X.mg x=some (.int i t))(hg:Gl X x:=by rfl)(hd:(x==("__debug__" : Str))=false:=by decide):QE X (.Name x p) (tC (.int i)):=⟨ajo h hg hd⟩
theorem R4{a:Addr}(h:X.mg x=some (.ref a))(hg:Gl X x:=by rfl)(hd:(x==("__debug__" : Str))=false:=by decide):QE X (.Name x p) (tC (.ref a)):=⟨ajp h hg hd⟩
theorem qe_ty{n:String}(hm:X.mg x=none)(hv:bootBuiltins x=some (.type n))(hg:Gl X x:=by rfl)(hn:x≠"__name__":=by decide)(hd:(x==("__debug__" : Str))=false:=by decide):QE X (.Name x p) (tC (.ty n)):=⟨akL hg hm hv rfl hn hd⟩
theorem qe_op{op:Operator}(ho:QOp X (binaryOp op) r)(ha:QE X a ta)(hb:QE X b tb):QE X (.BinOp a op b pos) (t5 r ta tb):=⟨pe_op ho.out ha.out hb.out⟩
theorem qe_un{op:UnaryOp}{r:V->Hp->VK->Prop}(ho:QUn X (unaryOp op) r)(ha:QE X a ta):QE X (.UnaryOp op a pos) (oJ r ta):=⟨pe_un ho.out ha.out⟩
theorem alO(ha:QE X a ta)(hK:X.K=K:=by rfl):QE X (.UnaryOp .Not a pos) (tNotT K ta):=by subst hK;exact ⟨ale ha.out⟩
theorem lU{op}(ha:QE X a ta):QE X (.BoolOp op [a] pos) ta:=⟨amJ ha.out⟩
theorem iE(ha:QE X a ta)(hb:QE X (.BoolOp .And (b::rest) pos) tb):QE X (.BoolOp .And (a::b::rest) pos) (tAndV ta tb):=⟨amK ha.out hb.out⟩
theorem qe_or(ha:QE X a ta)(hb:QE X (.BoolOp .Or (b::rest) pos) tb):QE X (.BoolOp .Or (a::b::rest) pos) (tOrV ta tb):=⟨pe_or ha.out hb.out⟩
theorem eQ{op:CmpOp}(ho:QOp X (compareOp op) r)(ha:QE X a ta)(hb:QE X b tb)(hm:behindInMarks op b=false:=by first | exact vG _ | rfl):QE X (.Compare a [op] [b] pos) (t5 r ta tb):=⟨akW ho.out ha.out hb.out hm⟩
theorem ajD{op op':CmpOp}(ho:QOp X (compareOp op) r)(i3:QOp X (compareOp op') r')(ha:QE X a ta)(hb:QE X b tb)(hc:QE X c tc)(hm:lastMarks [op,op'] [b,c]=false:=by with_unfolding_all rfl):QE X (.Compare a [op,op'] [b,c] pos) (oK r r' ta tb tc):=⟨ai5 ho.out i3.out ha.out hb.out hc.out hm⟩
theorem ajE(hc:QT X c tA)(ha:QE X a ta)(hb:QE X b tb):QE X (.IfExp c a b pos) (oF tA ta tb):=⟨aiZ hc.out ha.out hb.out⟩
theorem A5:QA X [] tNil:=⟨am5⟩
theorem qa_c(ha:QE X e te)(hr:QA X es tl)(h:K8 e=false:=by rfl):QA X (e::es) (tCons te tl):=⟨pa_c ha.out hr.out h⟩
theorem M9(h:QA X es tl):QE X (.List es pos) (tLst tl):=⟨am7 h.out⟩
theorem N4{x1}(h:QA X es tl):QE X (.Tuple es x1 pos) (tTup tl):=⟨am6 h.out⟩
theorem cF:QE X (.Dict [] [] pos) oY:=⟨ajg⟩
theorem u5:QO X none oQ:=⟨ak2⟩
theorem R5(h:QE X e te):QO X (some e) (tPart te):=⟨ak3 h.out⟩
theorem X2{lo hi:Option Expr}{tlo thi:TO}{p2:Pos}(he:QE X e te)(hl:QO X lo tlo)(hu:QO X hi thi)(hK:X.K=K:=by rfl):QE X (.Subscript e (.Slice lo hi none p2) pos) (oR (rSlU K) te tlo thi):=by subst hK;exact ⟨aja p_sl he.out hl.out hu.out⟩
theorem V5(hu:X.A.units+1<cLine)(ho:QE X o to)(hi:QE X i ti)(hs:NoSl i:=by exact fun _ _=>rfl):QE X (.Subscript o i pos) (tDGet to ti):=⟨ak9 hu ho.out hi.out hs⟩
theorem qe_ix(ha:QE X a ta)(hb:QE X b tb)(hs:vV b:=by exact fun _ _=>rfl)(hK:X.K=K:=by rfl):QE X (.Subscript a b pos) (t5 (eJ K) ta tb):=by subst hK;exact ⟨pe_ix anc ha.out hb.out hs⟩
theorem qe_cB{id:String}{rc:List V->Hp->VK->Prop}(hc:QCall X (.builtin id) rc)(hm:X.mg x=none)(hv:bootBuiltins x=some (.builtin id))(ha:QA X (e::es) tl)(hg:Gl X x:=by rfl)(h1:K8 e=false:=by rfl)(h2:U3 es=true:=by rfl)(hn:x≠"__name__":=by decide)(K6:(x==("__debug__" : Str))=false:=by decide) :
  QE X (.Call (.Name x p) (e::es) [] pos) (cB rc tl):=⟨pe_cB hc.out hg hm hv ha.out h1 h2 hn K6⟩
theorem qe_cT{T:String}{rc:List V->Hp->VK->Prop}(hc:QCall X (.type T) rc)(hm:X.mg x=none)(hv:bootBuiltins x=some (.type T))(ha:QA X (e::es) tl)(hg:Gl X x:=by rfl)(h1:K8 e=false:=by rfl)(h2:U3 es=true:=by rfl)(hn:x≠"__name__":=by decide)(K6:(x==("__debug__" : Str))=false:=by decide) :
  QE X (.Call (.Name x p) (e::es) [] pos) (cB rc tl):=⟨pe_cT hc.out hg hm hv ha.out h1 h2 hn K6⟩
theorem qe_mB{T id:String}{rm:V->List V->Hp->VK->Prop}(pa:PlainAttrs T)(slot:Slot T name id)(S9:typeOf (.builtin id)=pure (.type "method_descriptor"))(hm:QMt X id rm)(ho:QE X o to)(ha:QA X (e::es) tl)(h1:K8 e=false:=by rfl)(h2:U3 es=true:=by rfl)(h3:decide ((e::es).length<30)=true:=by rfl)(D8:attributeBase o name X.env (eval o X.env)=eval o X.env:=by rfl)(E5:(apos.endLine==cpos.line)=true:=by rfl)(hK:X.K=K:=by rfl):QE X (.Call (.Attribute o name apos) (e::es) [] cpos) (lH K T rm to tl):=by subst hK;exact ⟨pe_mB pa slot S9 hm.out ho.out ha.out h1 h2 h3 D8 E5⟩
theorem qe_m0{T id:String}{rm:V->List V->Hp->VK->Prop}(pa:PlainAttrs T)(slot:Slot T name id)(S9:typeOf (.builtin id)=pure (.type "method_descriptor"))(hm:QMt X id rm)(ho:QE X o to)(D8:attributeBase o name X.env (eval o X.env)=eval o X.env:=by rfl)(E5:(apos.endLine==cpos.line)=true:=by rfl)(hK:X.K=K:=by rfl):QE X (.Call (.Attribute o name apos) [] [] cpos) (tBM0 K T rm to):=by subst hK;exact ⟨anf pa slot S9 hm.out ho.out D8 E5⟩
theorem E2(G:FO X.prog X.w X.K X.mg X.base k x ps dvs sp)(hr:Room k X.A)(ha:QA X (e::es) tl)(hg:Gl X x:=by rfl)(h1:K8 e=false:=by rfl)(h2:U3 es=true:=by rfl)(K6:(x==("__debug__" : Str))=false:=by decide) :
  QE X (.Call (.Name x p) (e::es) [] pos) (tCall sp dvs E0 tl):=⟨ajn G hr ha.out hg h1 h2 K6⟩
theorem E4{op:CmpOp}(ho:QOp X (compareOp op) r)(ha:QE X a ta)(hb:QE X b tb)(hm:behindInMarks op b=false:=by first | exact vG _ | rfl):QT X (.Compare a [op] [b] pos) (tTest (t5 r ta tb)):=⟨akX ho.out ha.out hb.out hm⟩
theorem cG(ha:QT X a tA):QW X (.BoolOp .And [a] pos) tA:=⟨akM ha.out⟩
theorem wS(ha:QT X a tA):QW X (.BoolOp .Or [a] pos) tA:=⟨amH ha.out⟩
theorem cH(ha:QT X a tA)(hb:QW X (.BoolOp .And (b::rest) pos) tB'):QW X (.BoolOp .And (a::b::rest) pos) (tAnd tA tB'):=⟨amI ha.out hb.out⟩
theorem qw_or(ha:QT X a tA)(hb:QW X (.BoolOp .Or (b::rest) pos) tB'):QW X (.BoolOp .Or (a::b::rest) pos) (oE tA tB'):=⟨pw_or ha.out hb.out⟩
theorem QW.pt(h:QW X a tA):QT X a tA:=⟨h.out.pt⟩
theorem aF(ha:QE X a ta)(he:∀ whole,isTrue a X.env whole=(do let v <- whole;standAt a.pos;holding [v] (truthy v)):=by intro _;rfl)(hK:X.K=K:=by rfl):QT X a (tTru K ta):=by subst hK;exact ⟨anm ha.out he⟩
variable {st:Stmt} {sts:List Stmt}
theorem G5:QSs X [] tNext:=⟨akN⟩
theorem C1(h:QS X st t):QSs X [st] t:=⟨akO h.out⟩
theorem B5(h:QS X st t)(h2:QSs X sts u):QSs X (st::sts) (tSeq t u):=⟨ai0 h.out h2.out⟩
theorem D6(he:QE X e te):QS X (.Return (some e) pos) (tRet te):=⟨amM he.out⟩
theorem D9(hN:X.N.Nodup)(hi:X.N[n]?=some x)(hx:f7 X.env.scope x)(he:QE X e te)(hs:swapsWith e (some (.Name x pos')) pos.line X.env=pure false:=by rfl)(hf:X.fn x=true:=by rfl):QS X (.Assign [.Name x pos'] e pos) (tAsg te (gName n)):=⟨amP hN hi hx he.out hs (.inl hf)⟩
theorem eR{f:Str}(ho:QE X o to)(hv:QE X value tv)(hs:swapsWith value (some (.Attribute o f pos')) pos.line X.env=pure false:=by rfl)(hK:X.K=K:=by rfl):QS X (.Assign [.Attribute o f pos'] value pos) (sFld K to tv f):=by subst hK;exact ⟨am2 ho.out hv.out hs⟩
theorem pK{f:Str}(ho:QE X o to)(hb:attributeBase o f X.env (eval o X.env)=eval o X.env:=by rfl)(hK:X.K=K:=by rfl):QE X (.Attribute o f pos) (tFld K to f):=by subst hK;exact ⟨am1 ho.out hb⟩
theorem m3(hu:X.A.units+1<cLine)(ho:QE X o to)(hi:QE X i ti)(hv:QE X value tv)(hs:swapsWith value (some (.Subscript o i pos')) pos.line X.env=pure false:=by rfl):QS X (.Assign [.Subscript o i pos'] value pos) (sDPut to ti tv):=⟨ala hu ho.out hi.out hv.out hs⟩
theorem pL{op:Operator}{rd:V->V->Hp->VK->Prop}(hu:X.A.units+1<cLine)(ho:QE X o to)(hi:QE X i ti)(hv:QE X value tv)(sT:QIn X op rd)(ha:∀ ov iv new,augStore i ov iv new=(do holding [new,ov,iv] (setItem ov iv new);release [new,ov,iv] [];pure .next):=by exact fun _ _ _=>rfl) :
  QS X (.AugAssign (.Subscript o i tpos) op value pos) (sDAug to ti tv rd):=⟨alb hu ho.out hi.out hv.out sT.out ha⟩
theorem anO{op:Operator}{tip:bZ}(hN:X.N.Nodup)(hi:X.N[n]?=some x)(hx:f7 X.env.scope x)(he:QE X e te)(ho:QIp X op tip)(hf:X.fn x=true:=by rfl):QS X (.AugAssign (.Name x pos') op e pos) (tAug n te tip):=⟨amQ hN hi hx he.out ho.out (.inl hf)⟩
theorem T4(he:QE X e te)(hs:swapsWith e none pos.line X.env=pure false:=by rfl):QS X (.Expr e pos) (tDrop te):=⟨akP he.out hs⟩
theorem qs_if{sa sb:List Stmt}(hc:QT X c tA)(ha:QSs X sa t)(hb:QSs X sb u):QS X (.If c sa sb pos) (tIfS tA t u):=⟨ps_if hc.out ha.out hb.out⟩
theorem lV{body:List Stmt}(hp:PassesOwn (model X.prog X.w) X.A X.env X.xe)(hc:QT X c tA)(hb:QSs X body t):QS X (.While c body [] pos) (lD tA t):=⟨ai2 hp hc.out hb.out⟩
theorem N8{iter:Expr}{body:List Stmt}{wi:TI}(hp:PassesOwn (model X.prog X.w) X.A X.env X.xe)(hi:QI X tg iter wi)(hg:QG X tg g)(hb:QSs X body t)(hc:X.calm=true:=by rfl)(hs:∀ x,foldedSetIterable iter X.env x=pure x:=by intro _;rfl):QS X (.For tg iter body [] pos) (tFor wi g t):=⟨amT hp hc hi.out hg.out hb.out hs⟩
theorem E8(hN:X.N.Nodup)(hi:X.N[n]?=some x)(hx:f7 X.env.scope x)(hf:X.fn x=true\/X.env.scope.names.lookup x=some .local:=by first | exact .inl rfl | exact .inr rfl | assumption):QG X (.Name x pos) (gName n):=⟨akQ hN hi hx hf⟩
theorem cI:QGs X [] gNil:=⟨akR⟩
theorem V6{gs:Y7}(h1:QG X e g)(h2:QGs X es gs)(hs:(assignEach (e::es) X.env).map (·.2)=assign e X.env::(assignEach es X.env).map (·.2):=by rfl):QGs X (e::es) (gCons g gs):=⟨ai1 h1.out h2.out hs⟩
theorem cJ{gs:Y7}(h:QGs X es gs)(hc:X.calm=true:=by rfl)(hn:(assignEach es X.env).length=n:=by rfl)(o3:(assignEach es X.env).findIdx? (·.1)=none:=by rfl)(hK:X.K=K:=by rfl):QG X (.Tuple es k pos) (gTup K n gs):=by subst hK;exact ⟨amO hc h.out hn o3⟩
variable {tg:Expr}
theorem P9(h:QE X e te)(hK:X.K=K:=by rfl):QI X tg e (iList K te):=by subst hK;exact ⟨akS h.out⟩
theorem iF(h:QE X e te)(hK:X.K=K:=by rfl):QI X tg e (iTup K te):=by subst hK;exact ⟨amS h.out⟩
theorem wT(h:QE X e te):QI X tg e (iStr te):=⟨ans h.out⟩
theorem qi_r1(hm:X.mg "range"=none)(ha:QA X [a] tl)(hg:Gl X "range":=by rfl)(h1:K8 a=false:=by rfl):QI X tg (.Call (.Name "range" p) [a] [] pos) (iRng1 tl):=⟨pi_r1 hg hm ha.out h1⟩
theorem iG:QIfs X [] tYes:=⟨ajj⟩
theorem iH(h:QT X c tA):QIfs X [c] tA:=⟨ajk h.out⟩
variable {sc:Scope} {N':List Str} {k:Nat} {ixs:List Nat} {ifs:List Expr} {wi:TI} {g:TG} {elt:Expr}
theorem aG(C:CompOk X.N X.env.scope.names sc N' k ixs)(hi:QI X tg e wi)(hg:∀ C zu zr fp pins,QG (K7 X sc N' C zu zr fp pins) tg g)(hc:∀ C zu zr fp pins,QIfs (K7 X sc N' C zu zr fp pins) ifs tA)(he:∀ C zu zr fp pins,QE (K7 X sc N' C zu zr fp pins) elt te)(K3:X.calm=true:=by rfl)(hs:∀ x,foldedSetIterable e X.env x=pure x:=by intro _;rfl):QE X (.ListComp elt [⟨tg,e,ifs,0⟩] sc pos) (tComp wi k ixs g tA te):=
 ⟨ald C K3 hi.out (fun _ _ _ _ _=>(hg _ _ _ _ _).out) (fun _ _ _ _ _=>(hc _ _ _ _ _).out) (fun _ _ _ _ _=>(he _ _ _ _ _).out) hs⟩
theorem wU(hN:X.N.Nodup)(hiN:X.N[n]?=some x)(hx:f7 X.env.scope x)(C:CompOk X.N X.env.scope.names sc N' k ixs)(hi:QI X tg e wi)(hg:∀ C zu zr fp pins,QG (K7 X sc N' C zu zr fp pins) tg g)(hc:∀ C zu zr fp pins,QIfs (K7 X sc N' C zu zr fp pins) ifs tA)(he:∀ C zu zr fp pins,QE (K7 X sc N' C zu zr fp pins) elt te)(jO:swapsWith (.ListComp elt [⟨tg,e,ifs,0⟩] sc pos) (some (.Name x pos')) spos.line X.env=pure true:=by rfl)(K3:X.calm=true:=by rfl)(hf:X.fn x=true:=by rfl)(hs:∀ x,foldedSetIterable e X.env x=pure x:=by intro _;rfl) :
  QS X (.Assign [.Name x pos'] (.ListComp elt [⟨tg,e,ifs,0⟩] sc pos) spos) (tAsg (tComp wi k ixs g tA te) (gName n)):=
 ⟨ag2 hN hiN hx C K3 hi.out (fun _ _ _ _ _=>(hg _ _ _ _ _).out) (fun _ _ _ _ _=>(hc _ _ _ _ _).out) (fun _ _ _ _ _=>(he _ _ _ _ _).out) jO (.inl hf) hs⟩
theorem q_add(hK:X.K=K:=by rfl):QOp X (binaryOp .Add) (rAddU K):=by subst hK;exact ⟨p_add⟩
theorem q_sub:QOp X (binaryOp .Sub) (t8 fun i j=>.int (i-j)):=⟨p_sub⟩
theorem q_mul:QOp X (binaryOp .Mult) rMulU:=⟨p_mul⟩
theorem U5:QOp X (binaryOp .FloorDiv) (rI CDiv fun i j=>.int (i / j)):=⟨ann⟩
theorem q_mod:QOp X (binaryOp .Mod) (rI (fun _ j=>0<j) fun i j=>.int (i % j)):=⟨p_mod⟩
theorem q_eq(hu:X.A.units+64<cLine)(hK:X.K=K:=by rfl):QOp X (compareOp .Eq) (rEqU K):=by subst hK;exact ⟨p_eq hu⟩
theorem q_ne(hu:X.A.units+64<cLine)(hK:X.K=K:=by rfl):QOp X (compareOp .NotEq) (rNeU K):=by subst hK;exact ⟨p_ne hu⟩
theorem q_lt:QOp X (compareOp .Lt) rLtU:=⟨p_lt⟩
theorem q_le:QOp X (compareOp .LtE) rLeU:=⟨p_le⟩
theorem q_in(hu:X.A.units+64<cLine)(hK:X.K=K:=by rfl):QOp X (compareOp .In) (rInU K false):=by subst hK;exact ⟨p_in hu⟩
theorem pM(hu:X.A.units+64<cLine)(hK:X.K=K:=by rfl):QOp X (compareOp .NotIn) (rInU K true):=by subst hK;exact ⟨alf hu⟩
theorem q_isN:QOp X (compareOp .Is) (fun x y H Q=>y=.non/\Q (.bl (decide (x=.non))) H):=⟨am0⟩
theorem anP:QOp X (compareOp .IsNot) (fun x y H Q=>y=.non/\Q (.bl (!decide (x=.non))) H):=⟨akV⟩
theorem q_neg:QUn X (unaryOp .USub) (rU fun i=>.int (-i)):=⟨amZ⟩
theorem q_len(hK:X.K=K:=by rfl):QCall X (.builtin "len") (rLenU K):=by subst hK;exact ⟨p_len⟩
theorem q_isi:QCall X (.builtin "isinstance") rIsi:=⟨ajl⟩
theorem cK(hK:X.K=K:=by rfl)(jQ:X.calm=calm:=by rfl):QCall X (.type "list") (lQ K calm):=by subst hK;subst jQ;exact ⟨anq⟩
theorem aH:QMt X "list.append" oV:=⟨fun pins s Y H x xs v us Q I rx rv h=>wA pins s Y H x xs v us Q I rx rv h⟩
theorem ahY:QMt X "list.reverse" wB:=⟨fun pins s Y H x xs v us Q I rx rv h=>ag1 pins s Y H x xs v us Q I rx rv h⟩
theorem q_pop:QMt X "list.pop" rPop:=⟨fun pins s Y H x xs v us Q I rx rv h=>ang pins s Y H x xs v us Q I rx rv h⟩
theorem anQ:QIp X .Add (oH fun i j=>i+j):=⟨amR⟩
theorem anR:QIn X .Add rAdd:=⟨am3⟩
theorem wV:QIn X .Sub rSub:=⟨am4⟩
end
end L2
set_option maxRecDepth 100000
namespace L2
open PySem PySem.Spec PyProof.Rows
noncomputable def ModD (P:Program) (w:World) (K:PySem.W.Frag) (a:Addr) (kvs:List (C2×V)):Prop:=(a==sysModules)=false/\∀ h:Heap,K.In h->∃ vs,KV kvs vs/\h.DictOf (N3 P w) a vs
noncomputable abbrev ModE (w:World):List DictEntry->List (C2×V)->Prop:=Paired fun e kv=>keyIs kv.1 e.key=true/\e.hash=keyH w kv.1/\RelV kv.2 e.val
theorem ModE.pairs{P:Program}{w:World} : ∀ {es:List DictEntry} {kvs:List (C2×V)},ModE w es kvs->∃ vs:List (C2×Value),KV kvs vs/\Pairs (N3 P w) es vs/\(∀ e∈es,∃ k,(N3 P w).is k e.key=true/\e.hash=(N3 P w).hash k)/\vs.map (·.1)=kvs.map (·.1)
 | _,_,.nil=>⟨[],.nil,.nil,fun e h=>(nomatch h),rfl⟩
 | e::es,kv::kvs,.cons ⟨h1,h2,h3⟩ t=>by
  obtain ⟨vs,a1,a2,a3,a4⟩:=ModE.pairs (P:=P) t;refine ⟨(kv.1,e.val)::vs,.cons ⟨rfl,h3⟩ a1,.cons h1 rfl a2,fun e' he=>?_,by rw [G3,G3,a4]⟩
  rcases G4.mp he with z | z
  .rw [z];exact ⟨kv.1,h1,h2⟩
  .exact a3 e' z
theorem alP{P:Program}{w:World}{es:Array DictEntry}{ep:Nat}(l:K.lookup a=some { cls:=.type "dict",dict:=none,data:=.dict es ep,slots:=#[] })(hs:(a==sysModules)=false)(he:ModE w es.toList kvs)(hn:(kvs.map (·.1)).Nodup):ModD P w K a kvs:=by
 refine ⟨hs,fun h X=>?_⟩;obtain ⟨vs,a1,a2,a3,a4⟩:=he.pairs (P:=P);exact ⟨vs,a1,_,es,ep,X a _ l,⟨rfl,rfl,rfl⟩,rfl,fun e h=>a3 e (Array.mem_toList_iff.mpr h),a2,by rw [a4];exact hn⟩
noncomputable def rInM (neg:Bool) (a:Addr) (kvs:List (C2×V)):R2:=fun x y H Q=>y=.ref a/\∃ k,x=kV k/\Q (.bl (neg.xor (valV kvs k).isSome)) H
noncomputable def wW (a:Addr) (kvs:List (C2×V)) (to ti:TE):TE:=fun Y H Q=>to Y H fun x H1=>ti Y H1 fun y H2=>x=.ref a/\∃ k v,y=kV k/\valV kvs k=some v/\Q v H2
section
variable {X:Cx} {a:Addr} {kvs:List (C2×V)} {o i:Expr} {to ti:TE} {pos:Pos}
theorem q_inM(M:ModD X.prog X.w X.K a kvs):QOp X (compareOp .In) (rInM false a kvs):=⟨by
 intro pins s Y H x y v u Q I rx ry h;obtain ⟨rfl,k,rfl,q⟩:=h;obtain rfl:u=Value.ref a:=ry;obtain ⟨hd,M⟩:=M;obtain ⟨vs,rel,dd⟩:=M s.heap I.kIn;refine wpAny_in_of (kV_is rx) hd dd.mapOf ?_;rw [<- (rel.val k).isSome_eq];exact ⟨.bl _,H,I.tok _,rfl,by simpa using q⟩⟩
theorem wX(M:ModD X.prog X.w X.K a kvs)(ho:QE X o to)(hi:QE X i ti)(hs:NoSl i:=by exact fun _ _=>rfl):QE X (.Subscript o i pos) (wW a kvs to ti):=⟨by
 intro pins s Y H Q I h;refine wG PySem.F.slot_dict_getitem.lookup hs (C0 (ho.out pins s Y H _ I h) fun u s1 ⟨x,H1,I1,rx,q1⟩=>C0 (hi.out pins s1 Y H1 _ I1 q1) fun iv s2 ⟨y,H2,I2,ry,ex,k,v,ey,l,q2⟩=>?_);subst ex ey;obtain rfl:u=Value.ref a:=rx;obtain ⟨hd,M⟩:=M;obtain ⟨vs,rel,dd⟩:=M s2.heap I2.kIn;obtain ⟨w',hw,rw'⟩:=eG (v:=v) (o:=valueAt vs k) (by rw [<- l];exact rel.val k);exact ⟨dd.typeIs,wpAny_getItem_of (kV_is ry) dd.mapOf hw ⟨v,H2,I2.tok _,rw',q2⟩⟩⟩
end
theorem wY{k:C2} : (V.str z=kV k)=(k=Sum.inr z):=by
 cases k with
 | inl i=>exact propext ⟨fun h=>(by cases h),fun h=>(by cases h)⟩
 | inr x=>exact propext ⟨fun h=>(by cases h;rfl),fun h=>(by cases h;rfl)⟩
theorem anS : rInM neg a kvs (.str z) (.ref b) H Q=(V.ref b=V.ref a/\Q (.bl (neg.xor (valV kvs (Sum.inr z)).isSome)) H):=by
 unfold rInM;simp only [wY,exists_eq_left]
theorem ajF{to ti:TE} : wW a kvs to ti Y H Q=to Y H fun x H1=>ti Y H1 fun y H2=>x=.ref a/\∃ k v,y=kV k/\valV kvs k=some v/\Q v H2:=rfl
noncomputable def wZ (c:TT) (tb:TS) (D:Ends) (Y:St) (H:Hp):Prop:=lD c tb D Y H
theorem ajG : lD c tb D Y H=wZ c tb D Y H:=rfl
theorem lW(Pv:Nat->St->Hp->Prop)(m:Nat)(h0:Pv m Y H)(hs:∀ m Y H,Pv m Y H->c Y H fun b H1=>if b=true then ∃ N:St->Hp->Prop,(∀ σ' H',N σ' H'->∃ m',m'<m/\Pv m' σ' H')/\tb { D with nx:=N,ct:=N,bk:=D.nx } Y H1 else D.nx Y H1):wZ c tb D Y H:=⟨Pv,⟨m,h0⟩,hs⟩
noncomputable def rTupR (K:PySem.W.Frag) (p:Addr) (H:Hp) (Q:VK):Prop:=∃ ys,(D3 K H p ys/\∀ l,H l=none->Q (.ref l) (A0 H l (.tup ys)))\/(D0 K H p ys/\Q (.ref p) H)
theorem rTupR.l{p:Addr}(h1:D3 K H p ys)(h:∀ l,H l=none->Q (.ref l) (A0 H l (.tup ys))):rTupR K p H Q:=⟨ys,.inl ⟨h1,h⟩⟩
noncomputable def rTupU (K:PySem.W.Frag):List V->Hp->VK->Prop
 | [.ref p],H,Q=>rTupR K p H Q
 | _,_,_=>False
theorem tup_r{p:Addr} : rTupU K [.ref p] H Q=rTupR K p H Q:=rfl
theorem xA(hK:X.K=K:=by rfl):QCall X (.type "tuple") (rTupU K):=by
 subst hK;refine ⟨fun pins s Y H xs us Q I r h=>?_⟩
 match xs,h with
 | [.ref p],⟨ys,h⟩=>exact aeo pins s Y H _ us Q I r ⟨p,ys,rfl,h⟩
noncomputable def rMin:List V->Hp->VK->Prop:=fun xs H Q=>∃ i j,xs=[.int i,.int j]/\Q (.int (if j<i then j else i)) H
noncomputable def rMax:List V->Hp->VK->Prop:=fun xs H Q=>∃ i j,xs=[.int i,.int j]/\Q (.int (if j > i then j else i)) H
theorem anT{i j:Int} : rMin [.int i,.int j] H Q=Q (.int (if j<i then j else i)) H:=propext ⟨fun ⟨_,_,e,q⟩=>(by cases e;exact q),fun q=>⟨_,_,rfl,q⟩⟩
theorem anU{i j:Int} : rMax [.int i,.int j] H Q=Q (.int (if j > i then j else i)) H:=propext ⟨fun ⟨_,_,e,q⟩=>(by cases e;exact q),fun q=>⟨_,_,rfl,q⟩⟩
noncomputable def rCalm (calm:Bool) (r:List V->Hp->VK->Prop):List V->Hp->VK->Prop:=fun xs H Q=>calm=true/\r xs H Q
theorem alQ{r:List V->Hp->VK->Prop} : rCalm true r xs H Q=r xs H Q:=propext ⟨fun h=>h.2,fun h=>⟨rfl,h⟩⟩
end L2
set_option maxRecDepth 100000
namespace L2
open PySem PySem.Spec PyProof.Rows
open PySem.Builtin PySem.Builtin.Str PySem.StrLaws
noncomputable def tSeqM (t u:TS):TS:=fun D Y H=>∃ M:St->Hp->Prop,t { D with nx:=M } Y H/\∀ σ' H',M σ' H'->u D σ' H'
theorem xB{rest:List Stmt}{t u:TS}(h1:QS X st t)(h2:QSs X rest u):QSs X (st::rest) (tSeqM t u):=⟨by
 intro pins s Y H D I h;obtain ⟨M,h,hm⟩:=h;refine wpAny_execs_cons (C0 (h1.out pins s Y H { D with nx:=M } I h) fun f s1 q=>?_)
 cases f with
 | next=>
  obtain ⟨σ',H',I',q⟩:=q;exact h2.out pins s1 σ' H' D I' (hm _ _ q)
 | ret v=>exact q
 | brk=>exact q
 | cont=>exact q⟩
theorem mid{t u:TS}(M:St->Hp->Prop)(h:t { D with nx:=M } Y H)(h2:∀ σ' H',M σ' H'->u D σ' H'):tSeqM t u D Y H:=⟨M,h,h2⟩
theorem iI{p:Addr}(h:H p=some (.lst xs)):TruV K (.ref p) H (!xs.isEmpty):=.inl ⟨xs,.of h,rfl⟩
theorem cL(xs:List V)(k:Nat):cutV xs (some (k:Int)) none=xs.drop k:=by
 unfold cutV;have e1:HT.sIx xs.length 0 (some (k:Int))=min k xs.length:=by unfold HT.sIx;simp;lia
 have e2:HT.sIx xs.length xs.length none=xs.length:=rfl;rw [e1,e2,j7 (by rw [k6];exact C4 _)]
 by_cases h:k<=xs.length
 .rw [dY h]
 .rw [Nat.min_eq_right (by lia),lA (C4 _),lA (by lia)]
theorem alR(xs:List V)(k:Nat):cutV xs none (some (k:Int))=xs.take k:=by
 unfold cutV;have e1:HT.sIx xs.length xs.length (some (k:Int))=min k xs.length:=by unfold HT.sIx;simp;lia
 have e2:HT.sIx xs.length 0 none=0:=rfl;rw [e1,e2,List.drop_zero,Nat.sub_zero]
 by_cases h:k<=xs.length
 .rw [dY h]
 .rw [Nat.min_eq_right (by lia),j7 (C4 _),j7 (by lia)]
theorem xC(x:V)(xs:List V):cutV (x::xs) (some 1) none=xs:=cL (x::xs) 1
theorem O1{α:Type}(x:α)(xs:List α):J3 (x::xs) 0=some x:=by
 have e:Y8 (x::xs).length 0=some 0:=by unfold Y8;rw [if_pos (Int.le_refl 0),if_pos (by rw [J9];lia)];rfl
 unfold J3;rw [e];rfl
theorem alS{trs:List (TE×TE)} : tDisp trs Y H Q=∀ p,H p=none->eM trs Y (A0 H p (.dK [])) fun ps H2=>H2 p=some (.dK [])/\∃ kvs:List (C2×V),ps=kvs.map (fun kv=>(kV kv.1,kv.2))/\kvs.length<=15/\Q (.ref p) (A0 H2 p (.dK (X0 [] kvs))):=rfl
theorem alT{Q:List (V×V)->Hp->Prop} : eM [] Y H Q=Q [] H:=rfl
theorem ajH{tk tv:TE}{r:List (TE×TE)}{Q:List (V×V)->Hp->Prop} : eM ((tk,tv)::r) Y H Q=tk Y H fun x H1=>tv Y H1 fun y H2=>eM r Y H2 fun ps H3=>Q ((x,y)::ps) H3:=rfl
theorem ajI{td ty tx:TE} : ank td ty tx Y H Q=td Y H fun x H1=>∃ a,x=.ref a/\u4 H1 a/\ty Y H1 fun y H2=>tx Y H2 fun z H3=>∃ o,DGet H3 a y o/\Q (o.getD z) H3:=rfl
theorem xD{c:Nat} : subAt x ⟨#[c]⟩ i=(x.cps.toList[i]? == some c):=by
 rw [subAt_eq];show ((x.cps.toList.drop i).take 1==[c])=_;rw [e8,take1_drop,beq_iff_eq]
end L2
set_option maxRecDepth 100000
namespace L2
open PySem PySem.Spec PyProof.Rows
theorem xE:entryFor table "dict.update.loop"=some Builtin.«dict.update.loop»:=entryFor_of_tree (by kernel_rfl)
theorem lX:plainId "dict.update.loop"=true:=by decide +kernel
section
variable {prog:Program} {w:World} {A:Around} {R:Result->Shared->Prop} {I:Addr} {fp wr:List Addr} {G:Array GenState->Array GenState->Prop} {n:Nat} {P:Nat->Value->Prop} {St:Nat->Shared->Prop}
variable {K:Type} [DecidableEq K] {knd:KeyKind prog w K}
noncomputable def f8 (ks:Nat->K) (vl:Nat->Value):Nat->List (K×Value)
 | 0=>[]
 | i+1=>stored (f8 ks vl i) (ks i) (vl i)
theorem xF(ks:Nat->K)(vl:Nat->Value):∀ i,(f8 ks vl i).length<=i
 | 0=>C4 _
 | i+1=>by
  have h1:=xF ks vl i;have h2:(stored (f8 ks vl i) (ks i) (vl i)).length<=(f8 ks vl i).length+1:=by
   unfold stored
   split
   .rw [B3];lia
   .rw [G0];exact C4 _
  show (stored (f8 ks vl i) (ks i) (vl i)).length<=i+1;lia
theorem ah2(W:WalksS prog w A.in1 I fp wr G n P St)(d:Addr)(o6:d∉fp)(tp:Nat->Addr)(ky vl:Nat->Value)(ks:Nat->K)(hP:∀ i v,P i v->v=.ref (tp i))(hk:∀ i,i<n->knd.is (ks i) (ky i)=true)(ht:∀ i,i<n->tp i≠d/\tp i∉wr)(hn:n<=sizeLine) :
  ∀ (k i:Nat) (s:Shared) (j:Int) (t:Tok),n-i=k->i<=n->St i s->(∀ i,i<n->IsTup s.heap (tp i) #[ky i,vl i])->s.heap.DictOf knd d (f8 ks vl i)->
   (∀ s',Moved (d::wr) G s s'->s'.heap.DictOf knd d (f8 ks vl n)->R (.ok (.ret .none)) s')->
   codeAny (model prog w) A (.builtin "dict.update.loop" ⟨[.ref d,.ref I,.int j t,.none],[]⟩) R s:=by
 have hdw:d∉wr:=fun h=>o6 (W.sub _ h)
 have jR:∀ b∈wr,b∈d::wr:=fun b hb=>M5 _ hb
 intro k
 induction k with
 | zero=>
  intro i s j t sV hi o3 hT hD hR;have M4:i=n:=by lia
  subst M4;refine codeAny_builtin xE ?_;rw [Around.under_plainId lX _];show wpAny _ A.in1 (pyNext (.ref I) >>= _) _ _ s;refine wpAny_bind (W.done s _ _ o3 fun s' hm=>?_);have e0:Builtin.Dict.addKeywords d []=pure ():=rfl;show wpAny _ A.in1 (Builtin.Dict.addKeywords d [] >>= fun _=>ret Value.none) _ _ s';rw [e0];refine wpAny_bind (wpAny_pure (wpAny_pure (hR s' (hm.mono jR) ?_)));obtain ⟨o,es,ep,ho,rest⟩:=hD;exact ⟨o,es,ep,hm.heap d _ hdw ho,rest⟩
 | succ k ih=>
  intro i s j t sV hi o3 hT hD hR;have D1:i<n:=by lia
  refine codeAny_builtin xE ?_;rw [Around.under_plainId lX _];show wpAny _ A.in1 (pyNext (.ref I) >>= _) _ _ s;refine wpAny_bind (W.item i s _ _ D1 o3 fun v s' hv sW hm=>?_);obtain rfl:=hP i v hv;have hD':s'.heap.DictOf knd d (f8 ks vl i):=by
   obtain ⟨o,es,ep,ho,rest⟩:=hD;exact ⟨o,es,ep,hm.heap d _ hdw ho,rest⟩
  have hT':∀ i,i<n->IsTup s'.heap (tp i) #[ky i,vl i]:=fun i hi=>by
   obtain ⟨o,ho,rest⟩:=hT i hi;exact ⟨o,hm.heap _ _ (ht i hi).2 ho,rest⟩
  have hTi:=hT' i D1;obtain ⟨o,ho,sJ,n0,fV⟩:=id hTi;refine wpAny_bind (wpAny_holding (wpAny_bind (wpAny_tryCatch ?_)));unfold Builtin.Dict.pairItems;refine wpAny_bind (wpAny_typeOf hTi.typeIs ?_);rw [if_pos (by decide)];refine wpAny_bind (wpAny_seqItems ho fV ?_);refine wpAny_pure ?_;show wpAny _ _ (holding [ky i,vl i] (dictSet d (ky i) (vl i))) _ _ s';have hl:=xF ks vl i;refine wpAny_holding (wpAny_dictSet_pairs (hk i D1) hD' (fun h' hD2 sX=>?_) (by lia));refine wpAny_pure ⟨plainId_quiet lX _,ih (i+1) _ (j+1) 0 (by lia) D1 (W.frame _ s' _ _ sW (Nat.le_succ _) fun b hb o e=>?_) (fun i hi=>?_) hD2 fun s'' hm'' hD''=>?_⟩
  .rw [sX.2 b (fun h:b=d=>o6 (by rw [<- h];exact hb))];exact e
  .obtain ⟨o,ho,rest⟩:=hT' i hi;exact ⟨o,(sX.2 _ (ht i hi).1).trans ho,rest⟩
  .refine hR s'' (Moved.trans W.gtrans ((hm.mono jR).then_heap (Nat.le_succ _) fun b o hb e=>?_) hm'') hD'';rw [sX.2 b (fun h:b=d=>hb (by rw [h];exact N1))];exact e
end
theorem ag3:typeLookup (.type "list") "__getattribute__"=pure (some (.builtin "list.__getattribute__")):=by rw [typeLookup_type,builtinLookup_eq_fast];kernel_rfl
theorem aff:typeLookup (.type "list") "keys"=pure none:=by rw [typeLookup_type,builtinLookup_eq_fast];kernel_rfl
theorem afg:typeLookup (.type "list") "__getattr__"=pure none:=by rw [typeLookup_type,builtinLookup_eq_fast];kernel_rfl
theorem afh{w:World}{E:Value->Shared->Prop}{l:Addr}{xs:Array Value}{Q:Option Value->Shared->Prop}(hx:s.heap.get? l=some o)(hc:o.cls=.type "list")(jS:o.data=.seq xs k)(hd:o.dict=none)(hA:A.handled=none)(h:∀ h' tk,(∀ b o,s.heap.get? b=some o->h'.get? b=some o)->Q none { s with heap:=h',toks:=tk }):wpAny (model prog w) A (getAttr? (.ref l) "keys") Q E s:=by
 obtain ⟨c,dct,dat,sl⟩:=o;simp only at hc jS hd;subst hc jS hd;obtain ⟨hp,g,d,tk,os⟩:=s;have hT:∀ tk',(⟨hp,g,d,tk',os⟩:Shared).TypeIs (.ref l) "list":=fun _=>⟨_,hx,rfl⟩
 have f4:=F.slot_list_getattribute.bind (.ref l);unfold getAttr? getAttrBy? getAttrBy;refine wpAny_bind (wpAny_mkText (wpAny_bind (wpAny_attempt (wpAny_holding (wpAny_bind (wpAny_typeOf (hT _) ?_))))));rw [ag3];refine wpAny_bind (wpAny_pure ?_);show wpAny _ _ (getAttrByItsOwn _ _ _ _ _ _) _ _ _;unfold getAttrByItsOwn;refine wpAny_bind (wpAny_pure ?_);refine wpAny_bind (wpAny_attempt (wpAny_holding ?_));show wpAny _ _ (boundAndCalled _ _ _) _ _ _;unfold boundAndCalled;rw [f4];refine wpAny_bind (wpAny_pure ?_);refine call_meets F.slot_list_getattribute (hT _) am_entry_list_getattribute (F.args_list_getattribute_2 _ _) (meets_getattribute_miss_list l xs k sl "keys" _ aff (by decide +kernel) (by decide +kernel)) ⟨hx,hA,fun h' tk' e new=>?_⟩;obtain ⟨t',u',he⟩:=new.there;have hTe:∀ tk',(⟨h',g,d,tk',os⟩:Shared).TypeIs (.ref e) "AttributeError":=fun _=>⟨_,he,rfl⟩
 show wpAny _ _ (getattributeRaised _ _ _ _ _ _ _) _ _ _;unfold getattributeRaised;refine wpAny_bind (wpAny_isInstance (hTe _) sub_AttributeError ?_);rw [if_pos rfl];show wpAny _ _ (hookBehind _ _ >>= _) _ _ _;unfold hookBehind;rw [if_neg (by decide),afg];refine wpAny_bind (wpAny_pure ?_);unfold hookOrError attributeErrorLeaves;show wpAny _ _ (if (!false)=true then _ else _) _ _ _;rw [if_pos (by decide)];refine wpAny_bind (wpAny_throw ?_);show wpAny _ _ (isInstance _ _ >>= _) _ _ _;refine wpAny_bind (wpAny_isInstance (hTe _) sub_AttributeError ?_);rw [if_pos rfl];exact wpAny_pure (h h' tk' new.keeps)
section
variable {prog:Program} {w:World} {A:Around} {E:Value->Shared->Prop} {s:Shared} {K:Type} [DecidableEq K] {knd:KeyKind prog w K}
theorem adE{l:Addr}{Q:Value->Shared->Prop}(hl:PlainL s.heap l items)(hA:A.handled=none)(tp:Nat->Addr)(ky vl:Nat->Value)(ks:Nat->K)(hP:∀ (i:Nat) (v:Value),items[i]?=some v->v=Value.ref (tp i))(hk:∀ i,i<items.size->knd.is (ks i) (ky i)=true)(hT:∀ i,i<items.size->IsTup s.heap (tp i) #[ky i,vl i])(hn:items.size<=sizeLine)(h:∀ h' tk,(∀ b o,s.heap.get? b=some o->h'.get? b=some o)->h'.DictOf knd s.heap.objs.size (f8 ks vl items.size)->Q (.ref s.heap.objs.size) { s with heap:=h',toks:=tk }) :
  wpAny (model prog w) A (call (.type "dict") [.ref l]) Q E s:=by
 refine callType_codes (Q₁:=fun obj zt=>obj=.ref s.heap.objs.size/\zt={ s with heap:=s.heap.push { cls:=.type "dict",data:=.dict #[] } }) F.kt_called_dict (F.kt_typeCall_dict_1 _) F.entry_dict_init (kt_code_dict_new _ ⟨rfl,rfl⟩) ?_;rintro obj zt ⟨rfl,rfl⟩;have P1:(s.heap.push { cls:=.type "dict",data:=.dict #[] }).DictOf knd s.heap.objs.size []:=Heap.DictOf.new s.heap;obtain ⟨ol,nl,hol,jT,sY,bB⟩:=hl;have dD:(s.heap.push { cls:=.type "dict",data:=.dict #[] }).get? l=some ol:=Heap.get?_push_of_some _ hol;have D1:l<s.heap.objs.size:=Heap.lt_size hol;refine ⟨P1.typeIs,F.args_dict_init_2 _ _,?_⟩;unfold Builtin.«dict.__init__»;refine wpAny_bind ?_;unfold Builtin.Dict.selfAndRest;refine wpAny_bind (wpAny_notOrdered_dict P1.typeIs ?_);show wpAny _ _ (pure (s.heap.objs.size,[Value.ref l])) _ _ _;refine wpAny_pure ?_;show wpAny _ _ (Builtin.Dict.updateFrom "dict.__init__" s.heap.objs.size (.ref l) [] .none) _ _ _;unfold Builtin.Dict.updateFrom;refine wpAny_bind (wpAny_typeOf (T:="list") ⟨_,dD,jT⟩ ?_);rw [if_pos (by decide)];refine wpAny_bind (afh dD jT bB sY (by simp [hA]) fun h2 tk2 keep2=>?_);rw [if_pos (show (none:Option Value).isNone=true from rfl)];refine wpAny_bind (wpAny_rule ?_);have jK:h2.IsList l items:=⟨ol,keep2 _ _ dD,jT,nl,bB⟩
 refine wpAny_bind (wpAny_pyIter_list jK ?_);obtain ⟨od,es,ep,fV,restd⟩:=P1;have v9:s.heap.objs.size<h2.objs.size:=Heap.lt_size (keep2 _ _ fV);have L9:l≠h2.objs.size:=K4 (Nat.lt_trans D1 v9);have hh:A.in1.in1.handled=none:=by simp [hA]
 have o6:s.heap.objs.size∉[h2.objs.size,l]:=by
  simp only [G4,dW,or_false,not_or];exact ⟨K4 v9,q9 D1⟩
 have dE:∀ i,i<items.size->tp i<s.heap.objs.size:=fun i hi=>by
  obtain ⟨o,ho,_⟩:=hT i hi;exact Heap.lt_size ho
 refine wpAny_pure ⟨plainId_quiet lX _,ah2 ((Walks.list hh _ l L9 items).toS) s.heap.objs.size o6 tp ky vl ks hP hk (fun i hi=>⟨K4 (dE i hi),?_⟩) hn (items.size-0) 0 _ 0 0 (by lia) (G8 _) ⟨⟨_,Heap.get?_push_size _ rfl,rfl,rfl⟩,jK.push _⟩ (fun i hi=>?_) ?_ fun s' hm hD'=>?_⟩
 .simp only [G4,dW,or_false];exact K4 (Nat.lt_trans (dE i hi) v9)
 .obtain ⟨o,ho,rest⟩:=hT i hi;exact ⟨o,Heap.get?_push_of_some _ (keep2 _ _ (Heap.get?_push_of_some _ ho)),rest⟩
 .exact ⟨od,es,ep,Heap.get?_push_of_some _ (keep2 _ _ fV),restd⟩
 .obtain ⟨h',g',d',tk',os'⟩:=s';have eg:g'=s.gens:=hm.gens;have ed:d'=s.drawn:=hm.drawn;have eo:os'=s.os:=hm.os;subst eg ed eo;refine ⟨rfl,h h' tk' (fun b o hb=>hm.heap b o ?_ (Heap.get?_push_of_some _ (keep2 _ _ (Heap.get?_push_of_some _ hb)))) hD'⟩;have jU:b<s.heap.objs.size:=Heap.lt_size hb;simp only [G4,dW,or_false,not_or];exact ⟨K4 jU,K4 (Nat.lt_trans jU v9)⟩
end
noncomputable def anV (K:PySem.W.Frag) (calm:Bool):List V->Hp->VK->Prop:=fun xs H Q=>calm=true/\∃ (p:Addr) (ts:List Addr) (kxs:List (C2×V)),xs=[.ref p]/\D3 K H p (ts.map V.ref)/\Paired (fun t kx=>D0 K H t [kV kx.1,kx.2]) ts kxs/\∀ d,H d=none->Q (.ref d) (A0 H d (.dK (X0 [] kxs)))
theorem xG(I:Inv X pins Y H s):∀ {ts:List Addr} {kxs:List (C2×V)},Paired (fun t kx=>D0 X.K H t [kV kx.1,kx.2]) ts kxs->
  ∃ ws:List (Value×Value),Paired (fun t w=>IsTup s.heap t #[w.1,w.2]) ts ws/\Paired (fun (kx:C2×V) (w:Value×Value)=>keyIs kx.1 w.1=true/\RelV kx.2 w.2) kxs ws
 | _,_,.nil=>⟨[],.nil,.nil⟩
 | _,_,.cons h t=>by
  obtain ⟨ws,h1,h2⟩:=xG I t;obtain ⟨its,r,ht,_⟩:=I.tuple h;obtain ⟨u1,u2,rfl,r1,r2⟩:=vals2 r;exact ⟨(u1,u2)::ws,.cons ht h1,.cons ⟨kV_is (P:=X.prog) (w:=X.w) r1,r2⟩ h2⟩
theorem xH:∀ {ts:List Addr} {us:List Value},Vals (ts.map V.ref) us->us=ts.map Value.ref
 | [],_,.nil=>rfl
 | t::ts,_::_,.cons h r=>by
  rw [G3,<- xH r];cases h;rfl
theorem alU(hK:X.K=K:=by rfl)(hc:X.calm=calm:=by rfl):QCall X (.type "dict") (anV K calm):=⟨by
 subst hK;intro pins s Y H xs us Q I r h;obtain ⟨jQ,p,ts,kxs,rfl,hp,hP,q⟩:=h;obtain ⟨u,rfl,rx⟩:=vals1 r
 cases rx
 obtain ⟨its,r',pl,hz⟩:=I.list hp;have jV:=xH r';obtain ⟨ws,h1,h2⟩:=xG I hP;have hl1:ts.length=ws.length:=Paired.length h1;have jK:kxs.length=ws.length:=Paired.length h2;rw [B3] at hz;have hsz:its.toArray.size=ts.length:=by rw [G7,jV,B3]
 have sZ:∀ i,i<=ts.length->KV (X0 [] (kxs.take i)) (f8 (fun i=>(kxs.getD i (Sum.inl 0,.non)).1) (fun i=>(ws.getD i (.none,.none)).2) i):=by
  intro i
  induction i with
  | zero=>intro _;exact .nil
  | succ i ih=>
   intro hi;have tD:i<kxs.length:=by lia
   obtain ⟨w',hw,hr⟩:=Paired.at h2 (N7 tD);have e1:X0 [] (kxs.take (i+1))=putK (X0 [] (kxs.take i)) kxs[i].1 kxs[i].2:=by
    unfold X0;rw [V1,N7 tD,Option.toList_some,bQ];rfl
   rw [e1];show KV _ (stored _ (kxs.getD i (Sum.inl 0,.non)).1 (ws.getD i (.none,.none)).2);have e2:(kxs.getD i (Sum.inl 0,.non))=kxs[i]:=by rw [y3,N7 tD];rfl
   have e3:(ws.getD i (.none,.none))=w':=by rw [y3,hw];rfl
   rw [e2,e3];exact (ih (by lia)).put _ hr.2
 refine adE (knd:=N3 X.prog X.w) pl (I.ok.hd (hc.trans jQ)) (fun i=>ts.getD i 0) (fun i=>(ws.getD i (.none,.none)).1) (fun i=>(ws.getD i (.none,.none)).2) (fun i=>(kxs.getD i (Sum.inl 0,.non)).1) (fun i v hv=>?_) (fun i hi=>?_) (fun i hi=>?_) (by lia) fun h' tk keep hD=>?_
 .rw [<- Array.getElem?_toList,jV,W9] at hv;rw [y3];cases e:ts[i]? with
  | none=>rw [e] at hv;cases hv
  | some t=>rw [e] at hv;cases hv;rfl
 .obtain ⟨w',hw,hr⟩:=Paired.at h2 (N7 (show i<kxs.length by lia));have e2:(kxs.getD i (Sum.inl 0,.non))=kxs[i]'(by lia):=by rw [y3,N7 (show i<kxs.length by lia)];rfl
  have e3:(ws.getD i (.none,.none))=w':=by rw [y3,hw];rfl
  rw [e2,e3];exact hr.1
 .have hi':i<ts.length:=by lia
  obtain ⟨w',hw,hr⟩:=Paired.at h1 (N7 hi');have e3:(ws.getD i (.none,.none))=w':=by rw [y3,hw];rfl
  have e4:ts.getD i 0=ts[i]:=by rw [y3,N7 hi'];rfl
  rw [e3,e4];exact hr
 .have hD2:KV (X0 [] kxs) (f8 (fun i=>(kxs.getD i (Sum.inl 0,.non)).1) (fun i=>(ws.getD i (.none,.none)).2) its.toArray.size):=by
   have:=sZ ts.length (C4 _)
   rw [j7 (by lia)] at this;rw [hsz];exact this
  have B1:=wH kxs [];rw [k7] at B1;exact ⟨.ref s.heap.objs.size,_,I.laid (t':=tk) keep (C4 _) (lL (by lia) (beq_eq_false_iff_ne.mpr (Ne.symm (K4 I.big))) hD2 hD),rfl,q _ (I.hok.fresh (C4 _))⟩⟩
end L2
set_option maxRecDepth 100000
namespace L2
open PySem PySem.Spec PyProof.Rows
section
variable {X:Cx} {pins:List (Addr×Obj)} {Y:St} {H:Hp} {s:Shared} {h':Heap}
theorem Inv.turnNew{ch:List Addr}{o:HO}(I:Inv X pins Y H s)(hf:∀ b∈ch,FpOk X pins H b)(k:∀ b u,b∉ch->s.heap.get? b=some u->h'.get? b=some u)(hT:s.heap.objs.size<=T)(new:ObjOk X.prog X.w (A0 H T o) h' T o):Inv X pins Y (A0 H T o) { s with heap:=h',toks:=t' }:=by
 have hn:H T=none:=I.hok.fresh hT;have nch:∀ b u,H b=some u->b∉ch:=fun b u e z=>by rw [(hf b z).1] at e;cases e
 have neT:∀ b u,s.heap.get? b=some u->b≠T:=fun b u e=>K4 (Q1 (Heap.lt_size e) hT)
 refine I.step (g':=s.gens) (d':=s.drawn) (ch:=ch) (fun b hb=>?_) (fun b u _ _ hc e _=>k b u hc e) (fun b u _ _ hc e _=>⟨u.slots,k b u hc e⟩) (fun b u _ e n=>by rw [A7 (neT b u e)];exact n)
  (fun b u hc e=>⟨u,k b u hc e⟩) (fun b xs e=>C9 e hn) (fun b ob u e=>C9 e hn) (fun b ps e=>⟨#[],by rw [C9 e hn];simp⟩) (fun m hm=>?_) (fun b u e=>?_) I.bare
 .obtain ⟨f0,f1,f2,f3,f4,f5⟩:=hf b hb;exact ⟨f3,f1,f4,f5⟩
 .obtain ⟨ob,es,ep,ho,r⟩:=hm;exact ⟨ob,es,ep,k _ ob (fun z=>(hf _ z).2.1 rfl) ho,r⟩
 .by_cases hb:b=T
  .subst hb;rw [A6] at e;cases e;exact new
  .rw [A7 hb] at e;refine (I.hok b u e).stay (fun c v hc q=>k c v ?_ q) (fun c q=>C9 q hn) fun c xs q=>C9 q hn
   rcases hc with z | z
   .rw [z];exact nch b u e
   .exact nch c _ z
end
theorem Z0{a b:Nat}(h:a<b\/b<a):(show Addr from a)≠(show Addr from b):=fun e=>by
 have e:a=b:=e;lia
noncomputable def lY (l1 l2 : Addr) : It :=
  ⟨fun i H => ∃ xs ys x y, H l1 = some (.lst xs) /\ H l2 = some (.lst ys) /\ xs[i]? = some x /\ ys[i]? = some y,
   fun i H v H' => ∃ t xs ys x y, H l1 = some (.lst xs) /\ H l2 = some (.lst ys) /\ xs[i]? = some x /\ ys[i]? = some y /\ H t = none /\ v = .ref t /\ H' = A0 H t (.tup [x, y]),
   fun i H => ∃ xs ys, H l1 = some (.lst xs) /\ H l2 = some (.lst ys) /\ (xs.length <= i \/ ys.length <= i)⟩
theorem ajJ{P:Program}{w:World}{pos:Pos}(z TI TO i1 i2 l1 l2:Addr)(a1:TI≠z)(a2:TO≠z)(a3:i1≠z)(a4:i2≠z)(a5:TI≠TO)(a6:TI≠i1)(a7:TI≠i2)(a8:TO≠i1)(a9:TO≠i2)(a10:i1≠i2) :
  Turn P w K (.Tuple elts x1 pos) (lY l1 l2) [z,TO,i1,i2,TI] z (fun i h=>IsZip h z TI TO .none/\IsPair h TI (.ref i1) (.ref i2)/\(∃ a b,IsPair h TO a b)/\h.IsListIter i1 l1 i/\h.IsListIter i2 l2 i) where
 mem:=by simp
 obj:=fun i h ⟨hz,hTI,⟨a,b,hTO⟩,h1,h2⟩ c hc=>by
  have e:c=z\/c=TO\/c=i1\/c=i2\/c=TI:=by simpa using hc
  rcases e with rfl | rfl | rfl | rfl | rfl
  .exact ⟨_,hz,fun v q=>by cases q⟩
  .exact ⟨_,hTO,fun v q=>by cases q⟩
  .obtain ⟨o,e,c,d⟩:=h1;exact ⟨o,e,fun v z=>by rw [d] at z;cases z⟩
  .obtain ⟨o,e,c,d⟩:=h2;exact ⟨o,e,fun v z=>by rw [d] at z;cases z⟩
  .exact ⟨_,hTI,fun v q=>by cases q⟩
 keep:=fun i h h' ⟨hz,hTI,⟨a,b,hTO⟩,h1,h2⟩ k=>⟨k z (by simp) _ hz,k TI (by simp) _ hTI,⟨a,b,k TO (by simp) _ hTO⟩,h1.at fun o e=>k i1 (by simp) o e,h2.at fun o e=>k i2 (by simp) o e⟩
 item:=by
  intro X hP hw hK hc i pins s Y H E I hf ⟨hz,hTI,⟨a,b,hTO⟩,h1,h2⟩ hg;subst hP hw hK;obtain ⟨xs,ys,x,y,e1,e2,hx,hy⟩:=hg;obtain ⟨its1,W4,p1,_⟩:=I.list (D3.of (K:=X.K) e1);obtain ⟨its2,nN,p2,_⟩:=I.list (D3.of (K:=X.K) e2);obtain ⟨u1,C8,r1⟩:=W4.get hx;obtain ⟨u2,hu2,r2⟩:=nN.get hy;have nl:∀ c∈[z,TO,i1,i2,TI],l1≠c/\l2≠c:=fun c hc=>⟨fun q=>(by rw [q,(hf c hc).1] at e1;cases e1),fun q=>(by rw [q,(hf c hc).1] at e2;cases e2)⟩
  have D:ZipApart z TI TO i1 i2 l1 l2:=⟨a1,a2,a3,a4,a5,a6,a7,a8,a9,a10,(nl z (by simp)).1,(nl TO (by simp)).1,(nl i1 (by simp)).1,(nl i2 (by simp)).1,(nl z (by simp)).2,(nl TO (by simp)).2,(nl i1 (by simp)).2,(nl i2 (by simp)).2⟩
  refine wpAny_pyNext_zip_item D hz hTI hTO h1 h2 p1.isList p2.isList (x:=u1) (y:=u2) (by simpa using C8) (by simpa using hu2) fun h' b1 b2 b3 b4 b5 b6 b7=>⟨_,rfl,wpAny_letOwnedTupleGo_zip b1 fun h2' c1 c2=>?_⟩
  have Z5:z<s.heap.objs.size:=Heap.lt_size hz;have up:∀ c o,c≠z->h'.get? c=some o->h2'.get? c=some o:=fun c o hc e=>(c2.2 c hc).trans e
  have nT:∀ c∈[z,TO,i1,i2,TI],c≠s.heap.objs.size:=fun c hc=>by
   have e:c=z\/c=TO\/c=i1\/c=i2\/c=TI:=by simpa using hc
   refine K4 ?_
   rcases e with rfl | rfl | rfl | rfl | rfl
   .exact Heap.lt_size hz
   .exact Heap.lt_size hTO
   .obtain ⟨o,e,_⟩:=h1;exact Heap.lt_size e
   .obtain ⟨o,e,_⟩:=h2;exact Heap.lt_size e
   .exact Heap.lt_size hTI
  have hT:=up _ _ (q9 Z5) b5;refine ⟨.ref s.heap.objs.size,A0 H s.heap.objs.size (.tup [x,y]),I.turnNew (t':=s.toks) (ch:=[z,TO,i1,i2,TI]) hf (fun c u hc e=>?_) (C4 _) ⟨by show 2<=sizeLine;decide,[u1,u2],.cons r1 (.cons r2 .nil),?_⟩,rfl,⟨_,xs,ys,x,y,e1,e2,hx,hy,I.fresh,rfl,rfl⟩,
   ⟨c1,up _ _ a1 (b7 _ _ a1 a5 a6 a7 hTI),⟨_,_,up _ _ a2 b2⟩,b3.at fun o e=>up _ o a3 e,b4.at fun o e=>up _ o a4 e⟩,fun c hc=>by rw [A7 (nT c hc)];exact (hf c hc).1⟩
  .have q:c≠z/\c≠TO/\c≠i1/\c≠i2:=by
    refine ⟨fun q=>hc (by simp [q]),fun q=>hc (by simp [q]),fun q=>hc (by simp [q]),fun q=>hc (by simp [q])⟩
   exact up c u q.1 (b7 c u q.1 q.2.1 q.2.2.1 q.2.2.2 e)
  .exact ⟨_,hT,rfl,_,rfl⟩
 done:=by
  intro X hP hw hK hc i pins s Y H E I hf ⟨hz,hTI,⟨a,b,hTO⟩,h1,h2⟩ hg;subst hP hw hK;obtain ⟨xs,ys,e1,e2,dF⟩:=hg;obtain ⟨its1,W4,p1,_⟩:=I.list (D3.of (K:=X.K) e1);obtain ⟨its2,nN,p2,_⟩:=I.list (D3.of (K:=X.K) e2);have q1:=W4.length;have q2:=nN.length;have nl:∀ c∈[z,TO,i1,i2,TI],l1≠c/\l2≠c:=fun c hc=>⟨fun q=>(by rw [q,(hf c hc).1] at e1;cases e1),fun q=>(by rw [q,(hf c hc).1] at e2;cases e2)⟩
  have D:ZipApart z TI TO i1 i2 l1 l2:=⟨a1,a2,a3,a4,a5,a6,a7,a8,a9,a10,(nl z (by simp)).1,(nl TO (by simp)).1,(nl i1 (by simp)).1,(nl i2 (by simp)).1,(nl z (by simp)).2,(nl TO (by simp)).2,(nl i1 (by simp)).2,(nl i2 (by simp)).2⟩
  refine wpAny_pyNext_zip_end (I.ok.hd hc) D hz hTI hTO h1 h2 p1.isList p2.isList (by rcases dF with q | q <;> simp <;> lia) fun h' k=>⟨rfl,?_⟩
  refine I.step (h':=h') (t':=s.toks) (g':=s.gens) (d':=s.drawn) (ch:=[z,TO,i1,i2,TI]) (fun b hb=>?_) (fun b u _ _ hc e _=>?_) (fun b u _ _ hc e _=>⟨u.slots,?_⟩) (fun b u _ e n=>n)
   (fun b u hc e=>⟨u,?_⟩) (fun b xs e=>e) (fun b ob u e=>e) (fun b ps e=>⟨#[],by rw [e];simp⟩) (fun m hm=>?_) (fun b u e=>?_) I.bare
  .obtain ⟨f0,f1,f2,f3,f4,f5⟩:=hf b hb;exact ⟨f3,f1,f4,f5⟩
  .exact k b u (fun q=>hc (by simp [q])) (fun q=>hc (by simp [q])) (fun q=>hc (by simp [q])) (fun q=>hc (by simp [q])) e
  .exact k b u (fun q=>hc (by simp [q])) (fun q=>hc (by simp [q])) (fun q=>hc (by simp [q])) (fun q=>hc (by simp [q])) e
  .exact k b u (fun q=>hc (by simp [q])) (fun q=>hc (by simp [q])) (fun q=>hc (by simp [q])) (fun q=>hc (by simp [q])) e
  .obtain ⟨ob,es,ep,ho,r⟩:=hm;have nL:∀ c∈[z,TO,i1,i2,TI],X.env.locals≠c:=fun c hc q=>(hf c hc).2.1 q.symm
   exact ⟨ob,es,ep,k _ ob (nL z (by simp)) (nL TO (by simp)) (nL i1 (by simp)) (nL i2 (by simp)) ho,r⟩
  .have nch:∀ b u,H b=some u->∀ c∈[z,TO,i1,i2,TI],b≠c:=fun b u e c hc q=>by rw [q,(hf c hc).1] at e;cases e
   refine (I.hok b u e).stay (fun c v hc q=>?_) (fun c q=>q) fun c xs q=>q
   have:∀ d∈[z,TO,i1,i2,TI],c≠d:=by
    rcases hc with z | z
    .rw [z];exact nch b u e
    .exact nch c _ z
   exact k c v (this z (by simp)) (this TO (by simp)) (this i1 (by simp)) (this i2 (by simp)) q
 self:=fun _ _ _ _ _ st h=>wpAny_pyIter_zip st.1 h
section
variable {X:Cx}
noncomputable def iZip (ta:TA):TI:=fun Y H R=>ta Y H fun vs H1=>∃ (l1 l2:Addr) (xs ys:List V),vs=[.ref l1,.ref l2]/\H1 l1=some (.lst xs)/\H1 l2=some (.lst ys)/\R (lY l1 l2) H1
theorem anW{a b:Expr}{p pos:Pos}(hg:Gl X "zip")(hm:X.mg "zip"=none)(ha:PA X [a,b] ta)(h1:K8 a=false:=by rfl)(h2:K8 b=false:=by rfl) :
  PI X (.Tuple elts x1 tpos) (.Call (.Name "zip" p) [a,b] [] pos) (iZip ta):=by
 intro pins s Y H R I h;refine Call_ (bY I hg hm boot_zip (PyProof.Rows.callWith_type1 (C0 (ha pos pins s Y H _ I h) fun us s1 ⟨vs,H1,I1,r1,q1⟩=>?_) (O5 h1) (by rw [O5 h2];rfl)));obtain ⟨l1,l2,xs,ys,rfl,e1,e2,q⟩:=q1;obtain ⟨u1,u2,rfl,jW,tE⟩:=vals2 r1
 cases jW
 cases tE
 obtain ⟨its1,W4,p1,_⟩:=I1.list (D3.of (K:=X.K) e1);obtain ⟨its2,nN,p2,_⟩:=I1.list (D3.of (K:=X.K) e2);refine call_zip_2 p1.isList p2.isList fun h' z1 z2 z3 z4 z5 z6 z7=>wpAny_pyIter_zip z1 ?_
 refine ⟨s1.heap.objs.size+4,[s1.heap.objs.size+4,s1.heap.objs.size+3,s1.heap.objs.size,s1.heap.objs.size+1,s1.heap.objs.size+2],_,_,H1,rfl,I1.kept (t':=s1.toks) z7,
  ajJ _ (s1.heap.objs.size+2) (s1.heap.objs.size+3) s1.heap.objs.size (s1.heap.objs.size+1) l1 l2 (Z0 (by lia)) (Z0 (by lia)) (Z0 (by lia)) (Z0 (by lia)) (Z0 (by lia)) (Z0 (by lia)) (Z0 (by lia)) (Z0 (by lia)) (Z0 (by lia)) (Z0 (by lia)),⟨z1,z2,⟨_,_,z3⟩,z4,z5⟩,fun b hb=>?_,q⟩
 have N9:s1.heap.objs.size<=b:=by
  have e:b=s1.heap.objs.size+4\/b=s1.heap.objs.size+3\/b=s1.heap.objs.size\/b=s1.heap.objs.size+1\/b=s1.heap.objs.size+2:=by simpa using hb
  rcases e with rfl | rfl | rfl | rfl | rfl
  .exact y7 _ _
  .exact y7 _ _
  .exact C4 _
  .exact y7 _ _
  .exact y7 _ _
 exact I1.fpOk N9 (I1.hok.fresh N9)
theorem anX{a b:Expr}{p pos:Pos}(hm:X.mg "zip"=none)(ha:QA X [a,b] ta)(hg:Gl X "zip":=by rfl)(h1:K8 a=false:=by rfl)(h2:K8 b=false:=by rfl) :
  QI X (.Tuple elts x1 tpos) (.Call (.Name "zip" p) [a,b] [] pos) (iZip ta):=⟨anW hg hm ha.out h1 h2⟩
end
theorem alV{R:It->Hp->Prop} : iZip ta Y H R=ta Y H fun vs H1=>∃ (l1 l2:Addr) (xs ys:List V),vs=[.ref l1,.ref l2]/\H1 l1=some (.lst xs)/\H1 l2=some (.lst ys)/\R (lY l1 l2) H1:=rfl
theorem forZ{l1 l2:Addr}(Pv:Nat->St->Hp->Prop)(h0:Pv 0 Y H)(hl:∀ i Y H,Pv i Y H->H l1=some (.lst xs)/\H l2=some (.lst ys))(hs:∀ i x y t Y H,xs[i]?=some x->ys[i]?=some y->Pv i Y H->H t=none->g (.ref t) Y (A0 H t (.tup [x,y])) fun σ2 H2=>tb { D with nx:=Pv (i+1),ct:=Pv (i+1),bk:=D.nx } σ2 H2)(hd:∀ Y H,Pv (min xs.length ys.length) Y H->D.nx Y H):ForIt (lY l1 l2) g tb D Y H:=by
 refine ⟨fun i m Y H=>m=min xs.length ys.length-i/\i<=min xs.length ys.length/\Pv i Y H,⟨min xs.length ys.length,by simp,G8 _,h0⟩,?_⟩;rintro i m Y H ⟨rfl,hi,p⟩;obtain ⟨e1,e2⟩:=hl i Y H p
 by_cases D1:i<min xs.length ys.length
 .refine .inr ⟨⟨xs,ys,xs[i]'(by lia),ys[i]'(by lia),e1,e2,by simp,by simp⟩,Pv (i+1),fun σ' H' p'=>⟨_,by lia,rfl,D1,p'⟩,fun v H' y=>?_⟩;obtain ⟨t,xs',ys',x,y',f1,f2,hx,hy,ht,rfl,rfl⟩:=y;rw [e1] at f1;cases f1;rw [e2] at f2;cases f2;exact hs i x y' t Y H hx hy p ht
 .have e:i=min xs.length ys.length:=by lia
  subst e;exact .inl ⟨⟨xs,ys,e1,e2,by lia⟩,hd Y H p⟩
noncomputable def Itr3 (lo st:Int) (n:Nat):It:=⟨fun i _=>i<n,fun i H x H'=>H'=H/\x=.int (lo+i*st),fun i _=>n<=i⟩
theorem xI{α β:Type}(f:α->β):∀ (l:List α) (i:Nat),(l.eraseIdx i).map f=(l.map f).eraseIdx i
 | [],_=>rfl
 | _::_,0=>rfl
 | x::l,i+1=>by
  show f x::(l.eraseIdx i).map f=f x::(l.map f).eraseIdx i;rw [xI f l i]
noncomputable def pN (td ty tx:TE):TE:=fun Y H Q=>td Y H fun x H1=>∃ a,x=.ref a/\u4 H1 a/\ty Y H1 fun y H2=>tx Y H2 fun z H3=>∃ kvs k,H3 a=some (.dK kvs)/\kvs.length<sizeLine/\y=kV k/\
 (∀ v,valV kvs k=some v->Q v H3)/\(valV kvs k=none->Q z (A0 H3 a (.dK (putK kvs k z))))
section
variable {X:Cx} {o e f:Expr} {apos cpos:Pos} {td ty tx:TE} {pins:List (Addr×Obj)} {Y:St} {H:Hp} {s:Shared} {a:Addr} {A:Around} {E:Value->Shared->Prop}
theorem anY{k:C2}{z:V}{r:Value}{Q:Value->Shared->Prop}(I:Inv X pins Y H s)(e:H a=some (.dK kvs))(hl:kvs.length<sizeLine)(ry:RelV (kV k) u)(rz:RelV z r)(h1:∀ v w' s',valV kvs k=some v->Inv X pins Y H s'->RelV v w'->Q w' s')(h2:∀ s',valV kvs k=none->Inv X pins Y (A0 H a (.dK (putK kvs k z))) s'->Q r s') :
  wpAny (model X.prog X.w) A (call (.builtin "dict.setdefault") [.ref a,u,r]) Q E s:=by
 obtain ⟨hz,hd,vs,rel,dd⟩:=dk_of I.hok e;have B1:=rel.length;refine call_meetsIn PySem.F.slot_dict_setdefault dd.typeIs PySem.F.entry_dict_setdefault (PySem.F.args_dict_setdefault_3 _ _ _) (kt_meets_setdefault (N3 X.prog X.w) a (kV_is ry) hd r) ⟨vs,dd,by lia,fun v hv=>?_,fun hn h' hm hs=>?_⟩
 .have:=rel.val k
  rw [hv] at this;cases dG:valV kvs k with
  | none=>rw [dG] at this;exact this.elim
  | some x=>rw [dG] at this;exact h1 x v _ dG (I.tok _) this
 .have:=rel.val k
  rw [hn] at this;cases dG:valV kvs k with
  | some x=>rw [dG] at this;exact this.elim
  | none=>
   have R8:(putK kvs k z).length<=sizeLine:=by rw [ajd z dG,G0,bO];lia
   obtain ⟨ob,_,_,ho,_⟩:=id hm;exact h2 _ dG (lK (t':=s.toks+1) I (by rw [e];exact trivial) hs ⟨ob,ho⟩ (lL R8 hd (rel.put k rz) hm))
theorem ajK(ho:PE X o td)(he:PE X e ty)(hf:PE X f tx)(m:M2 X o "setdefault" apos e f cpos):PE X (.Call (.Attribute o "setdefault" apos) [e,f] [] cpos) (pN td ty tx):=by
 intro pins s Y H Q I h;refine wpAny_Call_method m.base m.few m.line PySem.F.plainAttrs_dict PySem.F.slot_dict_setdefault PySem.F.type_dict_setdefault (C0 (ho pins s Y H _ I h) fun u s1 ⟨x,H1,I1,rx,a,ex,d,q1⟩=>?_);subst ex;obtain rfl:u=Value.ref a:=rx;obtain ⟨t1,t2,_⟩:=oZ I1 d;refine ⟨t1,t2,?_⟩;rw [m.trees];refine Calls.callWith_builtin rfl (Calls.evalArgs_plain (Calls.spliced_cons (C0 (he pins s1 Y H1 _ I1 q1) fun iv s2 ⟨y,H2,I2,ry,q2⟩=>
  Calls.spliced_cons (C0 (hf pins s2 Y H2 _ I2 q2) fun fv s3 ⟨z,H3,I3,rz,kvs,k,e3,hl,ey,q3,q4⟩=>Calls.spliced_nil ?_))))
 subst ey;exact anY I3 e3 hl ry rz (fun v w' s4 hv I4 rw'=>⟨v,H3,I4,rw',q3 v hv⟩) fun s4 hn I4=>⟨z,_,I4,rz,q4 hn⟩
theorem ajL(ho:QE X o td)(he:QE X e ty)(hf:QE X f tx)(h1:K8 e=false:=by rfl)(h2:K8 f=false:=by rfl)(D8:attributeBase o "setdefault" X.env (eval o X.env)=eval o X.env:=by rfl)(E5:(apos.endLine==cpos.line)=true:=by rfl):QE X (.Call (.Attribute o "setdefault" apos) [e,f] [] cpos) (pN td ty tx):=
 ⟨ajK ho.out he.out hf.out ⟨D8,by rw [O5 h1,O5 h2];rfl,E5,by rw [O5 h1,O5 h2];rfl⟩⟩
theorem ajM:pN td ty tx Y H Q=td Y H fun x H1=>∃ a,x=.ref a/\u4 H1 a/\ty Y H1 fun y H2=>tx Y H2 fun z H3=>∃ kvs k,H3 a=some (.dK kvs)/\kvs.length<sizeLine/\y=kV k/\
 (∀ v,valV kvs k=some v->Q v H3)/\(valV kvs k=none->Q z (A0 H3 a (.dK (putK kvs k z)))):=rfl
end
section
variable {X:Cx} {tg:Expr}
noncomputable def xJ (i j k:Int):Nat:=(if i<j then (j-i-1) / k+1 else 0).toNat
noncomputable def iRng3 (ta:TA):TI:=fun Y H R=>ta Y H fun vs H1=>∃ i j k:Int,vs=[.int i,.int j,.int k]/\(-(2 ^ 60)<=i/\i<2 ^ 60/\-(2 ^ 60)<=j/\j<2 ^ 60/\0<k/\k<1000000)/\R (Itr3 i k (xJ i j k)) H1
end
theorem ajN{R:It->Hp->Prop} : iRng3 ta Y H R=ta Y H fun vs H1=>∃ i j k:Int,vs=[.int i,.int j,.int k]/\(-(2 ^ 60)<=i/\i<2 ^ 60/\-(2 ^ 60)<=j/\j<2 ^ 60/\0<k/\k<1000000)/\R (Itr3 i k (xJ i j k)) H1:=rfl
section
variable {X:Cx} {pins:List (Addr×Obj)} {Y:St} {H:Hp} {s:Shared} {a:Addr}
theorem Inv.swap{u u':HO}(I:Inv X pins Y H s)(e:H a=some u)(n1:∀ xs,u≠.tup xs)(n2:∀ x,u≠.own x)(n3:∀ ps,u≠.tbl ps)(n4:∀ o v,X.H₀ a≠some (.frz o v))(new:ObjOk X.prog X.w H s.heap a u'):Inv X pins Y (A0 H a u') s:=by
 have ne:∀ b,H b=none->b≠a:=fun b h q=>by rw [q,e] at h;cases h
 have own:∀ c x,H c=some (.own x)->A0 H a u' c=some (.own x):=fun c x q=>by
  rw [A7 (fun z=>by rw [z,e] at q;exact n2 x (Option.some.inj q))];exact q
 have tup:∀ c xs,H c=some (.tup xs)->A0 H a u' c=some (.tup xs):=fun c x q=>by
  rw [A7 (fun z=>by rw [z,e] at q;exact n1 x (Option.some.inj q))];exact q
 refine ⟨I.ok,I.os,I.bare,⟨I.base.keep,I.base.slot,fun b o h1 h2 h3=>?_,I.base.there,fun b xs h=>tup b xs (I.base.tups b xs h),fun b o v h=>?_,fun b ps h=>?_⟩,I.loc,I.cell,?_,fun x c h=>?_,fun p hp=>?_,fun b v h=>?_,I.len⟩
 .have:=I.base.free b o h1 h2 h3
  rw [A7 (ne b this)];exact this
 .rw [A7 (fun z=>n4 o v (by rw [<- z];exact h))];exact I.base.frzs b o v h
 .obtain ⟨m,q⟩:=I.base.tbls b ps h;exact ⟨m,by rw [A7 (fun z=>by rw [z,e] at q;exact n3 _ (Option.some.inj q))];exact q⟩
 .rw [A7 (ne _ I.free)];exact I.free
 .rw [A7 (ne _ (I.freeC x c h))];exact I.freeC x c h
 .obtain ⟨h1,h2,h3⟩:=I.pin p hp;exact ⟨h1,by rw [A7 (ne _ h2)];exact h2,h3⟩
 .by_cases hb:b=a
  .subst hb;rw [A6] at h;cases h;exact new.stay (fun _ _ _ q=>q) (fun c q=>own c _ q) fun c xs q=>tup c xs q
  .rw [A7 hb] at h;exact (I.hok b v h).stay (fun _ _ _ q=>q) (fun c q=>own c _ q) fun c xs q=>tup c xs q
end
noncomputable def iJ (a:Addr) (o:Obj) (kvs:List (C2×V)):It:=
 ⟨fun i H=>H a=some (.frz o (.dK kvs))/\i<kvs.length,fun i H x H'=>H'=H/\∃ k v,kvs[i]?=some (k,v)/\x=kV k,fun i H=>H a=some (.frz o (.dK kvs))/\kvs.length<=i⟩
theorem ah5{P:Program}{w:World}(a it:Addr)(o:Obj)(kvs:List (C2×V))(vs:List (C2×Value))(ep:Nat)(L5:∀ h:Heap,h.get? a=some o->h.DictAt (N3 P w) a vs ep)(rel:KV kvs vs):Turn P w K tg (iJ a o kvs) [it] it (fun i h=>h.IsKeyIter it a i vs.length ep) where
 mem:=by simp
 obj:=fun i h st b hb=>by
  have e:b=it:=by simpa using hb
  subst e;obtain ⟨o,e,c,d⟩:=st;exact ⟨o,e,fun v z=>by rw [d] at z;cases z⟩
 keep:=fun i h h' st k=>st.at fun o e=>k it (by simp) o e
 item:=by
  intro X hP hw hK hc i pins s Y H E I hf st hg;subst hP hw hK;obtain ⟨f0,f1,f2,f3,f4,f5⟩:=hf it (by simp);obtain ⟨w5,jX⟩:=hg;have hd:=L5 s.heap (I.hok a _ w5).1;have hvl:i<vs.length:=by rw [<- rel.length];exact jX
  refine wpAny_pyNext_dict_item st hd (k:=vs[i].1) (v:=vs[i].2) (by rw [N7 hvl]) fun key h' X5 jY nO=>?_
  have I1:Inv X pins Y H { s with heap:=h' }:=I.turned (t':=s.toks) (fun b o hb e=>(nO.2 b hb).trans e) f0 f1 f3 f4 f5;obtain ⟨oi,e,c,d⟩:=id jY;have hk:kvs[i].1=vs[i].1:=by
   have:=congrArg (·[i]?) rel.keys
   simpa [jX,hvl] using this
  have rk:RelV (kV kvs[i].1) key:=by
   rw [hk];have X5:keyIs vs[i].1 key=true:=X5;generalize vs[i].1=kk at X5
   rcases e9 X5 with ⟨j,t,rfl,rfl⟩ | ⟨x,t,rfl,rfl⟩
   .exact ⟨t,rfl⟩
   .exact ⟨t,rfl⟩
  exact ⟨key,rfl,go_of (s:={ s with heap:=h' }) e c d (by decide) ⟨kV kvs[i].1,H,I1,rk,⟨rfl,kvs[i].1,kvs[i].2,by rw [N7 jX],rfl⟩,jY,fun b hb=>(hf b hb).1⟩⟩
 done:=by
  intro X hP hw hK hc i pins s Y H E I hf st hg;subst hP hw hK;obtain ⟨f0,f1,f2,f3,f4,f5⟩:=hf it (by simp);obtain ⟨w5,jX⟩:=hg;have hd:=L5 s.heap (I.hok a _ w5).1;exact wpAny_pyNext_dict_end (I.ok.hd hc) st hd (by rw [List.getElem?_eq_none_iff,<- rel.length];exact jX) fun h' eb=>⟨rfl,I.turned (t':=s.toks) (fun b o hb e=>eb b o hb e) f0 f1 f3 f4 f5⟩
 self:=fun _ _ _ _ _ st h=>wpAny_pyIter_keyiter st h
noncomputable def Ends.thaw (D:Ends) (a:Addr) (kvs:List (C2×V)):Ends where
 nx:=fun Y H=>(∃ o,H a=some (.frz o (.dK kvs)))/\D.nx Y (A0 H a (.dK kvs))
 rt:=fun v H=>(∃ o,H a=some (.frz o (.dK kvs)))/\D.rt v (A0 H a (.dK kvs))
noncomputable def tForD (tl:TE) (g:TG) (tb:TS):TS:=fun D Y H=>tl Y H fun x H1=>∃ a kvs,x=.ref a/\H1 a=some (.dK kvs)/\∀ o,ForIt (iJ a o kvs) g tb (D.thaw a kvs) Y (A0 H1 a (.frz o (.dK kvs)))
theorem alW{l:Expr}{body:List Stmt}{pos:Pos}(hp:PassesOwn (model X.prog X.w) X.A X.env X.xe)(hc:X.calm=true)(hl:PE X l tl)(hg:PG X tg g)(hb:T3 X body tb)(hs:∀ x,foldedSetIterable l X.env x=pure x):PS X (.For tg l body [] pos) (tForD tl g tb):=by
 intro pins s Y H D I h;refine wpAny_For (C0 (hl pins s Y H _ I h) fun v s1 ⟨x,H1,I1,r1,q1⟩=>?_) hs;obtain ⟨a,kvs,rfl,e,q⟩:=q1
 cases r1
 obtain ⟨z,hd,vs,rel,dd⟩:=dk_of I1.hok e;obtain ⟨ep,L5⟩:=dd.dictAt;obtain ⟨o,es,ho,W3⟩:=id L5;refine wpAny_pyIter_dict hd L5 ?_;have NF:∀ o' v',X.H₀ a≠some (.frz o' v'):=fun o' v' z=>by
  have:=I1.base.frzs _ _ _ z
  rw [e] at this;cases this
 have I1':Inv X pins Y H1 { s1 with heap:=s1.heap.push { cls:=.type "dict_keyiterator",data:=.fields #[.ref a,.int 0 0,.int vs.length 0,.int ep 0] } }:=I1.kept (t':=s1.toks) fun b u e=>Heap.get?_push_of_some _ e
 have I2:=I1'.swap (u':=.frz o (.dK kvs)) e (fun _ q=>by cases q) (fun _ q=>by cases q) (fun _ q=>by cases q) NF ⟨Heap.get?_push_of_some _ ho,I1'.hok a _ e⟩;have thaw:∀ {σ':St} {H':Hp} {s':Shared},Inv X pins σ' H' s'->(∃ o,H' a=some (.frz o (.dK kvs)))->Inv X pins σ' (A0 H' a (.dK kvs)) s':=fun {σ' H' s'} I' ⟨o',e'⟩=>
  I'.swap e' (fun _ q=>by cases q) (fun _ q=>by cases q) (fun _ q=>by cases q) NF (I'.hok a _ e').2
 have T:Turn X.prog X.w X.K tg (iJ a o kvs) [s1.heap.objs.size] s1.heap.objs.size (fun i h=>h.IsKeyIter s1.heap.objs.size a i vs.length ep):=ah5 a _ o kvs vs ep (fun h e=>⟨o,es,e,W3⟩) rel;have O3:A0 H1 a (.frz o (.dK kvs)) s1.heap.objs.size=none:=by rw [A7 (fun q=>by rw [<- q,I1.fresh] at e;cases e)];exact I1.fresh
 have f2:∀ b∈[s1.heap.objs.size],FpOk X pins (A0 H1 a (.frz o (.dK kvs))) b:=fun b hb=>by
  have e:b=s1.heap.objs.size:=by simpa using hb
  subst e;exact I1.fpOk (C4 _) O3
 obtain ⟨W,⟨m0,w0⟩,turn⟩:=q o;have stat:∀ {H':Hp},(∀ b∈[s1.heap.objs.size],H' b=none)->∀ b∈[s1.heap.objs.size],FpOk X pins H' b:=fun hn b hb=>⟨hn b hb,(f2 b hb).2⟩
 refine codeAny_forLoop_any (fun n s'=>∃ i σ' H',Inv X pins σ' H' s'/\s'.heap.IsKeyIter s1.heap.objs.size a i vs.length ep/\(∀ b∈[s1.heap.objs.size],H' b=none)/\W i n σ' H') ?_ m0 ⟨0,Y,_,I2,⟨_,Heap.get?_push_size _ rfl,rfl,rfl⟩,fun b hb=>(f2 b hb).1,w0⟩;rintro n s3 ⟨i,σ3,H3,I3,aZ,jH,w3⟩
 rcases turn i n σ3 H3 w3 with ⟨stop,qn⟩ | ⟨go,N,hN,step⟩
 .refine wpAny_passesOwn hp (C0 (T.done X rfl rfl rfl hc i pins s3 σ3 H3 X.xe I3 (stat jH) aZ stop) fun r s4 ⟨hr,I4⟩=>?_);subst hr;exact wpAny_execs_nil ⟨σ3,_,thaw I4 qn.1,qn.2⟩
 .refine wpAny_passesOwn hp (C0 (T.item X rfl rfl rfl hc i pins s3 σ3 H3 X.xe I3 (stat jH) aZ go) fun r s4 ⟨u,hr,h4⟩=>?_);subst hr;refine wpAny_passesOwn hp (C0 h4 fun _ s5 ⟨x,H5,I5,r5,y5,cY,sL⟩=>?_);have I5':=I5.pinned (stat sL) (T.obj _ _ cY);refine wpAny_passesOwn hp (C0 (hg _ s5 σ3 H5 x u _ I5' r5 (step x H5 y5)) fun _ s6 ⟨σ6,H6,I6,q6⟩=>?_);refine wpAny_passesOwn hp (C0 (hb _ s6 σ6 H6 _ I6 q6) fun f s7 q7=>?_);have again:∀ {σ7:St} {H7:Hp},Inv X (pins++eD [s1.heap.objs.size] s5.heap) σ7 H7 s7->N σ7 H7->∃ m,m<n/\∃ i σ' H',Inv X pins σ' H' s7/\s7.heap.IsKeyIter s1.heap.objs.size a i vs.length ep/\(∀ b∈[s1.heap.objs.size],H' b=none)/\W i m σ' H':=fun {σ7 H7} I7 n7=>by
   obtain ⟨m',hm,w7⟩:=hN σ7 H7 n7;refine ⟨m',hm,i+1,σ7,H7,I7.unpinned,T.keep _ _ _ cY fun b hb o e=>(I7.pin (b,o) (O8 _ (O8 _ (eE hb e)))).1,fun b hb=>?_,w7⟩;obtain ⟨o,e,d⟩:=T.obj _ _ cY b hb;exact (I7.pin (b,o) (O8 _ (O8 _ (eE hb e)))).2.1
  cases f with
  | next=>obtain ⟨σ7,H7,I7,n7⟩:=q7;exact again I7 n7
  | cont=>obtain ⟨σ7,H7,I7,n7⟩:=q7;exact again I7 n7
  | brk=>obtain ⟨σ7,H7,I7,q7⟩:=q7;exact ⟨σ7,_,thaw I7.unpinned q7.1,q7.2⟩
  | ret v=>obtain ⟨x7,σ7,H7,I7,r7,q7⟩:=q7;exact ⟨x7,σ7,_,thaw I7.unpinned q7.1,r7,q7.2⟩
theorem pO{l:Expr}{body:List Stmt}{pos:Pos}(hp:PassesOwn (model X.prog X.w) X.A X.env X.xe)(hl:QE X l tl)(hg:QG X tg g)(hb:QSs X body tb)(hc:X.calm=true:=by rfl)(hs:∀ x,foldedSetIterable l X.env x=pure x:=by intro _;rfl):QS X (.For tg l body [] pos) (tForD tl g tb):=⟨alW hp hc hl.out hg.out hb.out hs⟩
theorem alX : tForD tl g tb D Y H=tl Y H fun x H1=>∃ a kvs,x=.ref a/\H1 a=some (.dK kvs)/\∀ o,ForIt (iJ a o kvs) g tb (D.thaw a kvs) Y (A0 H1 a (.frz o (.dK kvs))):=rfl
theorem forD(Pv:Nat->St->Hp->Prop)(h0:Pv 0 Y H)(hl:∀ i Y H,Pv i Y H->H a=some (.frz o (.dK kvs)))(hs:∀ i k v Y H,kvs[i]?=some (k,v)->Pv i Y H->g (kV k) Y H fun σ2 H2=>tb { D.thaw a kvs with nx:=Pv (i+1),ct:=Pv (i+1),bk:=(D.thaw a kvs).nx } σ2 H2)(hd:∀ Y H,Pv kvs.length Y H->D.nx Y (A0 H a (.dK kvs))):ForIt (iJ a o kvs) g tb (D.thaw a kvs) Y H:=by
 refine ⟨fun i m Y H=>m=kvs.length-i/\i<=kvs.length/\Pv i Y H,⟨kvs.length,by simp,G8 _,h0⟩,?_⟩;rintro i m Y H ⟨rfl,hi,p⟩;have e:=hl i Y H p
 by_cases D1:i<kvs.length
 .refine .inr ⟨⟨e,D1⟩,Pv (i+1),fun σ' H' p'=>⟨_,by lia,rfl,D1,p'⟩,fun v H' y=>?_⟩;obtain ⟨rfl,k,v',hk,rfl⟩:=y;exact hs i k v' Y _ hk p
 .have e2:i=kvs.length:=by lia
  subst e2;exact .inl ⟨⟨e,C4 _⟩,⟨o,e⟩,hd Y H p⟩
end L2
set_option maxRecDepth 100000
namespace L2
open PySem PySem.Spec PyProof.Rows
noncomputable def V7 (row:List Str):List (Str×Str):=row.zip row.tail
noncomputable def edges (rows:List (List Str)):List (Str×Str):=rows.flatMap V7
noncomputable def C3 (E:List (Str×Str)) (p:Str):List Str:=(E.filter fun e=>decide (e.1=p)).map (·.2)
noncomputable def E9 (E:List (Str×Str)) (line:List Str) (q:Str):Nat:=E.countP fun e=>decide (e.2=q) && !decide (e.1∈line)
noncomputable def cntIn (E:List (Str×Str)) (S:List Str) (q:Str):Nat:=E.countP fun e=>decide (e.2=q)&&decide (e.1∈S)
theorem ajO(E:List (Str×Str))(a b p:Str):C3 (E++[(a,b)]) p=if a=p then C3 E p++[b] else C3 E p:=by
 unfold C3;rw [b8,G2]
 by_cases h:a=p
 .rw [if_pos h,bM (by simpa using h)];rfl
 .rw [if_neg h,bN (by simpa using h)];simp
theorem pP(E:List (Str×Str))(p q:Str):(C3 E p).count q=E.countP fun e=>decide (e.2=q)&&decide (e.1=p):=by
 induction E with
 | nil=>rfl
 | cons e E ih=>
  unfold C3 at ih ⊢
  by_cases h:e.1=p
  .rw [bM (by simpa using h),G3,List.count_cons,ih,c9]
   by_cases h2:e.2=q
   .simp [h,h2]
   .simp [h,h2]
  .rw [bN (by simpa using h),ih,c9];simp [h]
theorem ag4{E:List (Str×Str)}(h:p∉S):cntIn E (S++[p]) q=cntIn E S q+(C3 E p).count q:=by
 rw [pP];unfold cntIn
 induction E with
 | nil=>rfl
 | cons e E ih=>
  rw [c9,c9,c9,ih]
  by_cases h2:e.2=q
  .by_cases h1:e.1=p
   .have:e.1∉S:=by rw [h1];exact h
    simp [h2,h1,h];lia
   .by_cases h3:e.1∈S
    .simp [h2,h1,h3];lia
    .simp [h2,h1,h3]
  .simp [h2]
theorem xK{E:List (Str×Str)}(h:p∉line):E9 E line q=E9 E (line++[p]) q+(C3 E p).count q:=by
 rw [pP];unfold E9
 induction E with
 | nil=>rfl
 | cons e E ih=>
  rw [c9,c9,c9,ih]
  by_cases h2:e.2=q
  .by_cases h1:e.1=p
   .simp [h2,h1,h];lia
   .by_cases h3:e.1∈line
    .simp [h2,h1,h3]
    .simp [h2,h1,h3];lia
  .simp [h2]
theorem xL{E:List (Str×Str)}(h:∀ e∈E,e.1∈S)(q:Str):cntIn E S q=E9 E [] q:=by
 unfold cntIn E9;refine List.countP_congr fun e he=>?_
 simp [h e he]
theorem ah6(E:List (Str×Str))(q:Str):cntIn E [] q=0:=by
 unfold cntIn
 simp
theorem cnt_zero{E:List (Str×Str)} : E9 E line q=0↔∀ e∈E,e.2=q->e.1∈line:=by
 unfold E9;rw [List.countP_eq_zero]
 constructor
 .intro h e he h2
  have:=h e he
  simpa [h2] using this
 .intro h e he
  by_cases h2:e.2=q
  .simp [h2,h e he h2]
  .simp [h2]
noncomputable def nextP (E:List (Str×Str)) (ts pre:List Str):Option Str:=(ts.filter fun p=>!decide (p∈pre)).find? fun p=>decide (E9 E pre p=0)
noncomputable def R6 (E:List (Str×Str)) (ts line:List Str):Prop:=∀ pre q post,line=pre++q::post->nextP E ts pre=some q
theorem R6.nil(E:List (Str×Str))(ts:List Str):R6 E ts []:=fun pre q post h=>by
 have:=congrArg List.length h
 simp at this
theorem R6.snoc{E:List (Str×Str)}(r:R6 E ts line)(h:nextP E ts line=some p):R6 E ts (line++[p]):=fun pre q post e=>by
 rcases List.append_eq_append_iff.mp e with ⟨m,h1,h2⟩ | ⟨m,h1,h2⟩
 .cases m with
  | nil=>
   rw [M3] at h1;rw [p8] at h2
   cases (List.cons.inj h2).1
   rw [h1];exact h
  | cons a m=>
   have:=congrArg List.length h2
   simp at this
 .cases m with
  | nil=>
   rw [M3] at h1;rw [p8] at h2
   cases (List.cons.inj h2).1
   rw [<- h1];exact h
  | cons a m=>
   rw [List.cons_append] at h2;have h3:=(List.cons.inj h2).1;exact r pre q m (by rw [h1,h3])
theorem iK{E:List (Str×Str)}{pre:List Str}(h:nextP E ts pre=some q):q∈ts/\q∉pre/\E9 E pre q=0:=by
 have h1:=List.mem_of_find?_eq_some h;have h2:=List.find?_some h;rw [N2] at h1;exact ⟨h1.1,by simpa using h1.2,by simpa using h2⟩
theorem R6.nodup{E:List (Str×Str)} : ∀ {line:List Str},R6 E ts line->line.Nodup:=by
 intro line r;rw [Y1,gH];intro i j hi hj dH e;have e1:line=line.take j++line[j]::line.drop (j+1):=by rw [<- gI hj,W8]
 have:=(iK (r _ _ _ e1)).2.1
 exact this (Z8.mpr ⟨i,by rw [M6];lia,by rw [List.getElem_take];exact e⟩)
theorem R6.sub{E:List (Str×Str)}(r:R6 E ts line)(h:q∈line):q∈ts:=by
 obtain ⟨pre,post,e⟩:=List.append_of_mem h;exact (iK (r pre q post e)).1
theorem xM{E:List (Str×Str)}(nd:ts.Nodup)(r:R6 E ts line)(h:∀ p∈ts,p∈line):line.length=ts.length:=
 ((List.perm_ext_iff_of_nodup r.nodup nd).mpr fun a=>⟨r.sub,h a⟩).length_eq
theorem xN(E:List (Str×Str))(pre:List Str):∀ ts:List Str,nextP E ts pre=ts.find? fun p=>!decide (p∈pre)&&decide (∀ e∈E,e.2=p->e.1∈pre)
 | []=>rfl
 | t::ts=>by
  have ih:=xN E pre ts;unfold nextP at ih ⊢
  by_cases h:t∈pre
  .rw [bN (by simpa using h),k8,ih];simp [h]
  .rw [bM (by simpa using h),k8,k8,ih]
   by_cases h2:E9 E pre t=0
   .have:=cnt_zero.mp h2
    rw [decide_eq_true h2,decide_eq_true this];simp [h]
   .have:¬ ∀ e∈E,e.2=t->e.1∈pre:=fun z=>h2 (cnt_zero.mpr z)
    rw [decide_eq_false h2,decide_eq_false this];simp [h]
theorem ag5{row:List Str}{e:Str×Str}(h:e∈V7 row):e.1∈row/\e.2∈row:=by
 unfold V7 at h;exact ⟨(List.of_mem_zip h).1,List.mem_of_mem_tail (List.of_mem_zip h).2⟩
theorem xO{rows:List (List Str)}{e:Str×Str}(h:e∈edges rows):e.1∈rows.flatten/\e.2∈rows.flatten:=by
 unfold edges at h;obtain ⟨row,h1,h2⟩:=j9.mp h
 have:=ag5 h2
 exact ⟨gP.mpr ⟨row,h1,this.1⟩,gP.mpr ⟨row,h1,this.2⟩⟩
noncomputable def A9 (ts:List Str) (f:Str->V):List (C2×V):=ts.map fun t=>(Sum.inr t,f t)
theorem pQ(f:Str->V)(z:Str):∀ ts:List Str,((A9 ts f).any fun kv=>decide (kv.1=(Sum.inr z:C2)))=decide (z∈ts)
 | []=>by simp [A9]
 | y::ts=>by
  have ih:=pQ f z ts;unfold A9 at ih ⊢
  rw [G3,q5,ih]
  by_cases e:y=z
  .subst e
   simp
  .have e1:decide ((Sum.inr y:C2)=Sum.inr z)=false:=decide_eq_false fun q=>e (Sum.inr.inj q)
   rw [e1,Bool.false_or]
   by_cases h:z∈ts
   .rw [decide_eq_true h,decide_eq_true (M5 _ h)]
   .rw [decide_eq_false h,decide_eq_false];intro q
    rcases G4.mp q with q | q
    .exact e q.symm
    .exact h q
theorem L4(f:Str->V)(z:Str):∀ ts:List Str,valV (A9 ts f) (Sum.inr z)=if z∈ts then some (f z) else none
 | []=>rfl
 | y::ts=>by
  have ih:=L4 f z ts;unfold A9 at ih ⊢
  rw [G3]
  by_cases e:y=z
  .subst e;rw [lJ rfl,if_pos N1]
  .rw [u3 (fun q=>e (Sum.inr.inj q)),ih]
   by_cases h:z∈ts
   .rw [if_pos h,if_pos (M5 _ h)]
   .rw [if_neg h,if_neg];intro q
    rcases G4.mp q with q | q
    .exact e q.symm
    .exact h q
theorem iL{f:Str->V}(v:V)(h:z∈ts):putK (A9 ts f) (Sum.inr z:C2) v=A9 ts fun t=>if t=z then v else f t:=by
 unfold putK;rw [pQ,decide_eq_true h,if_pos rfl];unfold A9;rw [k9];refine gN fun y _=>?_
 show (if (Sum.inr y:C2)=Sum.inr z then ((Sum.inr y:C2),v) else (Sum.inr y,f y))=((Sum.inr y:C2),if y=z then v else f y)
 by_cases e:y=z
 .rw [if_pos (by rw [e]),if_pos e]
 .rw [if_neg (fun q=>e (Sum.inr.inj q)),if_neg e]
theorem aI{f:Str->V}(v:V)(h:z∉ts):putK (A9 ts f) (Sum.inr z:C2) v=A9 (ts++[z]) fun t=>if t=z then v else f t:=by
 unfold putK;rw [pQ,decide_eq_false h,if_neg J5];unfold A9;rw [G2]
 congr 1
 .refine gN fun y hy=>?_
  show _=((Sum.inr y:C2),if y=z then v else f y);rw [if_neg (fun e:y=z=>h (by rw [<- e];exact hy))]
 .simp
theorem O6{f g:Str->V}(h:∀ t∈ts,f t=g t):A9 ts f=A9 ts g:=by
 unfold A9;exact gN fun t ht=>by rw [h t ht]
theorem V8(f:Str->V)(ts:List Str):(A9 ts f).length=ts.length:=by unfold A9;rw [B3]
theorem xP{f:Str->V}{k:C2}{v:V}(h:(A9 ts f)[i]?=some (k,v)):∃ t,ts[i]?=some t/\k=Sum.inr t/\v=f t:=by
 unfold A9 at h;obtain ⟨t,h1,h2⟩:=J0 h;cases h2;exact ⟨t,h1,rfl,rfl⟩
theorem ajP(f:Str->V)(ts:List Str):((A9 ts f).map fun kv=>kV kv.1)=ts.map V.str:=by
 unfold A9;rw [k9];rfl
structure DL(H0 H:Hp)(ts:List Str)(ad:Str->Addr)(F:Str->List Str):Prop where
 row:∀ t∈ts,H (ad t)=some (.lst ((F t).map V.str))
 inj:∀ t∈ts,∀ u∈ts,ad t=ad u->t=u
 new:∀ t∈ts,H0 (ad t)=none
theorem DL.same{ad:Str->Addr}{F:Str->List Str}(x:DL H0 H ts ad F)(s:Same H H'):DL H0 H' ts ad F:=⟨fun t h=>s _ _ (x.row t h),x.inj,x.new⟩
theorem DL.app{ad:Str->Addr}{F:Str->List Str}(x:DL H0 H ts ad F)(hz:z∈ts)(ys:List Str):DL H0 (A0 H (ad z) (.lst (ys.map V.str))) ts ad fun t=>if t=z then ys else F t:=by
 refine ⟨fun t ht=>?_,x.inj,x.new⟩;show _=some (HO.lst ((if t=z then ys else F t).map V.str))
 by_cases e:t=z
 .subst e;rw [A6,if_pos rfl]
 .rw [A7 (fun q=>e (x.inj t ht z hz q)),if_neg e];exact x.row t ht
theorem DL.more{ad:Str->Addr}{F:Str->List Str}(x:DL H0 H ts ad F)(hz:z∉ts){p:Addr}(np:H p=none)(n0:H0 p=none):DL H0 (A0 H p (.lst [])) (ts++[z]) (fun t=>if t=z then p else ad t) fun t=>if t=z then [] else F t:=by
 have ne:∀ t∈ts,t≠z:=fun t ht e=>hz (by rw [<- e];exact ht)
 have nad:∀ t∈ts,ad t≠p:=fun t ht e=>by have:=x.row t ht;rw [e,np] at this;cases this
 have cases':∀ t,t∈ts++[z]->(t∈ts/\t≠z)\/t=z:=fun t ht=>by
  rcases G1.mp ht with h | h
  .exact .inl ⟨h,ne t h⟩
  .exact .inr (F7.mp h)
 refine ⟨fun t ht=>?_,fun t ht u hu e=>?_,fun t ht=>?_⟩
 .show A0 H p (.lst []) (if t=z then p else ad t)=some (.lst ((if t=z then [] else F t).map V.str))
  rcases cases' t ht with ⟨h1,h2⟩ | rfl
  .rw [if_neg h2,if_neg h2,A7 (nad t h1)];exact x.row t h1
  .rw [if_pos rfl,if_pos rfl,A6];rfl
 .have e:(if t=z then p else ad t)=(if u=z then p else ad u):=e
  rcases cases' t ht with ⟨h1,h2⟩ | rfl <;> rcases cases' u hu with ⟨h3,h4⟩ | rfl
  .rw [if_neg h2,if_neg h4] at e;exact x.inj t h1 u h3 e
  .rw [if_neg h2,if_pos rfl] at e;exact absurd e (nad t h1)
  .rw [if_pos rfl,if_neg h4] at e;exact absurd e.symm (nad u h3)
  .rfl
 .show H0 (if t=z then p else ad t)=none
  rcases cases' t ht with ⟨h1,h2⟩ | rfl
  .rw [if_neg h2];exact x.new t h1
  .rw [if_pos rfl];exact n0
theorem ajQ(h:acc.Nodup)(z:Str):(dd acc z).Nodup:=by
 unfold dd
 split
 .exact h
 .rename_i hz
  rw [b9];refine ⟨h,by simp,fun a ha b hb e=>hz ?_⟩;rw [<- F7.mp hb,<- e];exact ha
theorem pR:∀ {zs acc:List Str},acc.Nodup->(K0 acc zs).Nodup
 | [],_,h=>h
 | z::zs,acc,h=>pR (zs:=zs) (ajQ h z)
theorem iM(zss:List (List Str)):(toldL zss).Nodup:=by
 unfold toldL;rw [lT];exact pR (by simp)
theorem aJ(x:Str):∀ (zs acc:List Str),x∈K0 acc zs↔x∈acc\/x∈zs
 | [],acc=>by simp [K0]
 | z::zs,acc=>by
  show x∈K0 (dd acc z) zs↔_;rw [aJ x zs];unfold dd
  by_cases h:z∈acc
  .rw [if_pos h,G4]
   constructor
   .rintro (h1 | h1)
    .exact .inl h1
    .exact .inr (.inr h1)
   .rintro (h1 | rfl | h1)
    .exact .inl h1
    .exact .inl h
    .exact .inr h1
  .rw [if_neg h,G1,F7,G4,or_assoc]
theorem lZ(x:Str)(zss:List (List Str)):x∈toldL zss↔x∈zss.flatten:=by
 unfold toldL;rw [lT,aJ]
 simp
theorem iN{zss:List (List Str)}{e:Str×Str}(h:e∈edges zss):e.1∈toldL zss/\e.2∈toldL zss:=⟨(lZ _ _).mpr (xO h).1,(lZ _ _).mpr (xO h).2⟩
theorem ag6{zss:List (List Str)}(h:zss[i]?=some zs):edges (zss.take (i+1))=edges (zss.take i)++V7 zs:=by
 rw [V1,h];unfold edges;rw [Z9]
 simp
theorem pS(zs:List Str):(V7 zs).length=min zs.length zs.tail.length:=by unfold V7;rw [List.length_zip]
theorem ah7{y:Str}(h1:zs[j]?=some x)(h2:zs.tail[j]?=some y):(V7 zs)[j]?=some (x,y):=by
 unfold V7;rw [List.getElem?_zip_eq_some];exact ⟨h1,h2⟩
theorem pT(zss:List (List Str)):(edges zss).length<=zss.flatten.length:=by
 induction zss with
 | nil=>exact C4 _
 | cons zs zss ih=>
  unfold edges at ih ⊢
  rw [y4,G0,bR,G0,pS];lia
theorem DL.put{ad:Str->Addr}{F:Str->List Str}(x:DL H0 H ts ad F){o u:HO}(hb:H0 b=some u):DL H0 (A0 H b o) ts ad F:=
 ⟨fun t ht=>by rw [A7 (fun e=>by have:=x.new t ht;rw [e,hb] at this;cases this)];exact x.row t ht,x.inj,x.new⟩
theorem DL.congr{ad:Str->Addr}{F G:Str->List Str}(x:DL H0 H ts ad F)(h:∀ t∈ts,F t=G t):DL H0 H ts ad G:=⟨fun t ht=>by rw [<- h t ht];exact x.row t ht,x.inj,x.new⟩
theorem DL.old{H00:Hp}{ad:Str->Addr}{F:Str->List Str}(x:DL H0 H ts ad F)(s:Same H00 H0):DL H00 H ts ad F:=⟨x.row,x.inj,fun t ht=>s.free (x.new t ht)⟩
theorem pU(nd:ts.Nodup)(h:ts[i]?=some z):z∉ts.take i:=fun hm=>by
 obtain ⟨hi,e⟩:=F6.mp h;obtain ⟨j,hj,e2⟩:=Z8.mp hm;rw [M6] at hj;rw [List.getElem_take] at e2
 have:=(Y1.mp nd)
 rw [gH] at this;exact this j i (by lia) hi (by lia) (e2.trans e.symm)
theorem K5{α:Type}{ts:List α}{z:α}(h:ts[i]?=some z):ts.take (i+1)=ts.take i++[z]:=by rw [V1,h];rfl
noncomputable def SameBut (d:Addr) (H H':Hp):Prop:=∀ b o,b≠d->H b=some o->H' b=some o
theorem SameBut.put{d q:Addr}{u:HO}(s:SameBut d H0 H)(n:H0 q=none):SameBut d H0 (A0 H q u):=fun b o hb h=>by rw [A7 (M8 h n)];exact s b o hb h
theorem SameBut.thaw{d:Addr}{u:HO}(s:SameBut d H0 H)(h:H0 d=some u):Same H0 (A0 H d u):=fun b o hb=>by
 by_cases e:b=d
 .subst e;rw [A6,<- hb,h]
 .rw [A7 e];exact s b o e hb
theorem RowsAt.grow{q:Addr}{zss:List (List Str)}(R:RowsAt H0 H a rs zss)(S:Same H H')(hq:H q=none)(U9:H' q=some (.lst (zs.map V.str))):RowsAt H0 (A0 H' a (.lst (rs.map V.ref++[V.ref q]))) a (rs++[q]) (zss++[zs]):=by
 have nq:∀ r∈a::rs,r≠q:=fun r hr z=>by
  obtain ⟨o,e⟩:=R.live hr;rw [z,hq] at e;cases e
 obtain ⟨na,_⟩:=Y2.mp R.nd;refine ⟨⟨by rw [A6,G2];rfl,?_⟩,?_,?_,?_⟩
 .refine Paired.snoc (pI R.rows.row fun r hr zs h=>?_) ?_
  .rw [A7 (fun z:r=a=>na (by rw [<- z];exact hr))];exact S _ _ h
  .rw [A7 (nq a N1).symm];exact U9
 .show (a::(rs++[q])).Nodup;exact pC R.nd fun h=>nq q h rfl
 .intro r hr
  rcases G4.mp hr with h | h
  .exact R.new r (by rw [h];exact N1)
  .rcases G1.mp h with h | h
   .exact R.new r (M5 _ h)
   .rw [F7.mp h];exact R.same.free hq
 .exact (R.same.trans S).put (R.new a N1)
noncomputable def spFol:Sp:=fun vs H Q _=>∃ (a:Addr) (rs:List Addr) (zss:List (List Str)),vs=[.ref a]/\IsRows H a rs zss/\zss.flatten.length<=100000/\
 ∀ (d:Addr) (ad:Str->Addr) (H':Hp),H d=none->Same H H'->H' d=some (.dK (A9 (toldL zss) fun t=>.ref (ad t)))->DL H H' (toldL zss) ad (C3 (edges zss))->Q (.ref d) H'
noncomputable def pV:Sp:=fun vs H Q _=>∃ (d:Addr) (ts:List Str) (ad:Str->Addr) (E:List (Str×Str)),vs=[.ref d]/\H d=some (.dK (A9 ts fun t=>.ref (ad t)))/\ts.Nodup/\ts.length<=100000/\E.length<=100000/\
 (∀ t∈ts,H (ad t)=some (.lst ((C3 E t).map V.str)))/\(∀ e∈E,e.1∈ts/\e.2∈ts)/\∀ c H',H c=none->Same H H'->H' c=some (.dK (A9 ts fun t=>.int (E9 E [] t:Nat)))->Q (.ref c) H'
theorem m4:∀ {l m:List Str},l.Nodup->(∀ x∈l,x∈m)->l.length<=m.length
 | [],_,_,_=>G8 _
 | x::l,m,nd,h=>by
  obtain ⟨n1,n2⟩:=Y2.mp nd;have hx:=h x N1
  have:=m4 (l:=l) (m:=m.erase x) n2 fun y hy=>(List.mem_erase_of_ne (fun e=>n1 (by rw [<- e];exact hy))).mpr (h y (M5 _ hy))
  rw [dP hx] at this;have i8:=gK hx;rw [J9];lia
theorem SameBut.free{d p:Addr}(s:SameBut d H0 H)(n:H p=none)(h:p≠d):H0 p=none:=by
 cases e:H0 p with
 | none=>rfl
 | some o=>
  have:=s p o h e
  rw [n] at this;cases this
theorem SameBut.same{d:Addr}(s:SameBut d H1 H2)(S:Same H H1)(n:H d=none):Same H H2:=fun b o h=>s b o (M8 h n) (S b o h)
theorem xQ(d:Addr)(H:Hp):SameBut d H H:=fun _ _ _ h=>h
theorem SameBut.at{d:Addr}{o:HO}(s:SameBut d H H'):SameBut d H (A0 H' d o):=fun b u hb h=>by rw [A7 hb];exact s b u hb h
noncomputable def one (c:Nat):Str:=⟨#[c]⟩
noncomputable def xR (c d:Nat):Str:=⟨#[c,d]⟩
end L2
set_option maxRecDepth 100000
namespace L2
open PySem PySem.Spec PyProof.Rows
section
variable {X:Cx}
noncomputable def rAnyB (calm:Bool):List V->Hp->VK->Prop
 | [.ref p],H,Q=>∃ bs:List Bool,calm=true/\H p=some (.lst (bs.map V.bl))/\Q (.bl (bs.any id)) H
 | _,_,_=>False
theorem p_any:CallR X (.builtin "any") (rAnyB X.calm):=by
 intro pins s Y H xs us Q I r h
 match xs,h with
 | [.ref p],⟨bs,hc,hp,q⟩=>
  obtain ⟨u,rfl,rx⟩:=vals1 r
  cases rx
  obtain ⟨z,its,n,rv,hl,e⟩:=I.lstM hp;have pl:s.heap.IsList p its.toArray:=⟨_,e,rfl,n,rfl⟩
  refine call_any_walk (wpAny_pyIter_list pl ?_);have L9:p≠s.heap.objs.size:=K4 (Heap.lt_size e);have hk:∀ b o,s.heap.get? b=some o->(s.heap.push { cls:=.type "list_iterator",data:=.fields #[.ref p,.int 0 0] }).get? b=some o:=fun b o q=>Heap.get?_push_of_some _ q
  refine ⟨_,_,_,_,_,_,fun i=>(bs[i]?).getD false,rfl,Walks.list (show X.A.in1.handled=none from I.ok.hd hc) s.heap.objs.size p L9 its.toArray,⟨⟨_,Heap.get?_push_size _ rfl,rfl,rfl⟩,pl.at fun o q=>hk p o q⟩,?_,?_⟩
  .intro i v s' Q' E' hv hq;have nH:its[i]?=some v:=by simpa using hv
   have hb:∃ b,bs[i]?=some b/\v=.bool b:=by
    cases eb:(bs.map V.bl)[i]? with
    | none=>
     have:=rv.none_of eb
     rw [nH] at this
     cases this
    | some y=>
     obtain ⟨u,h1,h2⟩:=rv.get eb;rw [nH] at h1;cases h1;rw [W9] at eb;cases e3:bs[i]? with
     | none=>rw [e3] at eb;cases eb
     | some b=>
      rw [e3] at eb;cases eb;exact ⟨b,rfl,h2⟩
   obtain ⟨b,e1,rfl⟩:=hb;have hq:Q' ((bs[i]?).getD false) s':=hq;rw [e1] at hq;exact wpAny_truthy_bool hq
  .intro h' tk jZ;have e1:(V2 its.toArray.size).any (fun i=>(bs[i]?).getD false)=bs.any id:=by
    have B1:its.toArray.size=bs.length:=by
     rw [G7,<- hl,B3]
    rw [B1,e8,bS,bS]
    constructor
    .rintro ⟨i,hi,hb⟩;rw [dX] at hi;rw [N7 hi,Option.getD_some] at hb;exact ⟨bs[i],List.getElem_mem hi,hb⟩
    .rintro ⟨b,hb,ht⟩;obtain ⟨i,hi,rfl⟩:=Z8.mp hb;exact ⟨i,dX.mpr hi,by rw [N7 hi];exact ht⟩
   rw [e1];have I1:Inv X pins Y H { s with heap:=h',toks:=tk }:=I.kept fun b o q=>jZ b o (by
    intro hm
    have:b=s.heap.objs.size:=by simpa using hm
    rw [this] at q;exact absurd (Heap.lt_size q) (Y3 _)) (hk b o q)
   exact ⟨.bl _,H,I1,rfl,q⟩
theorem q_any(jQ:X.calm=calm:=by rfl):QCall X (.builtin "any") (rAnyB calm):=by subst jQ;exact ⟨p_any⟩
theorem any_r{cm:Bool}{p:Addr} : rAnyB cm [.ref p] H Q=∃ bs:List Bool,cm=true/\H p=some (.lst (bs.map V.bl))/\Q (.bl (bs.any id)) H:=rfl
end
noncomputable def eS (l : Addr) : It :=
  ⟨fun i H => ∃ xs x, H l = some (.lst xs) /\ xs[i]? = some x,
   fun i H v H' => ∃ t xs x, H l = some (.lst xs) /\ xs[i]? = some x /\ H t = none /\ v = .ref t /\ H' = A0 H t (.tup [.int i, x]),
   fun i H => ∃ xs, H l = some (.lst xs) /\ xs.length <= i⟩
theorem ah8{P:Program}{w:World}{pos:Pos}(e it l:Addr)(L9:e≠it) :
  Turn P w K (.Tuple elts x1 pos) (eS l) [e,it] e (fun i h=>(∃ old,IsEnum h e it ((i:Nat):Int) old)/\h.IsListIter it l i) where
 mem:=by simp
 obj:=fun i h ⟨⟨old,he⟩,hi⟩ c hc=>by
  have q:c=e\/c=it:=by simpa using hc
  rcases q with rfl | rfl
  .exact ⟨_,he,fun v q=>by cases q⟩
  .obtain ⟨o,e,c,d⟩:=hi;exact ⟨o,e,fun v z=>by rw [d] at z;cases z⟩
 keep:=fun i h h' ⟨⟨old,he⟩,hi⟩ k=>⟨⟨old,k e (by simp) _ he⟩,hi.at fun o q=>k it (by simp) o q⟩
 item:=by
  intro X hP hw hK hc i pins s Y H E I hf ⟨⟨old,he⟩,hi⟩ hg;subst hP hw hK;obtain ⟨xs,x,e1,hx⟩:=hg;obtain ⟨its1,W4,p1,_⟩:=I.list (D3.of (K:=X.K) e1);obtain ⟨u1,C8,r1⟩:=W4.get hx;refine wpAny_pyNext_enum_item he hi p1.isList (x:=u1) (by simpa using C8) L9 fun h' b1 b2 b3 b4 b5=>⟨_,rfl,wpAny_letOwnedTupleGo_enum b1 fun h2' c1 c2=>?_⟩
  have kA:e<s.heap.objs.size:=Heap.lt_size he;have up:∀ c o,c≠e->h'.get? c=some o->h2'.get? c=some o:=fun c o hc q=>(c2.2 c hc).trans q
  have hT:=up _ _ (q9 kA) b3;have nT:∀ c∈[e,it],c≠s.heap.objs.size:=fun c hc=>by
   have q:c=e\/c=it:=by simpa using hc
   refine K4 ?_
   rcases q with rfl | rfl
   .exact kA
   .obtain ⟨o,q,_⟩:=hi;exact Heap.lt_size q
  refine ⟨.ref s.heap.objs.size,A0 H s.heap.objs.size (.tup [.int i,x]),I.turnNew (t':=s.toks+1) (ch:=[e,it]) hf (fun c u hc q=>?_) (C4 _) ⟨by show 2<=sizeLine;decide,[.int i s.toks,u1],.cons ⟨_,rfl⟩ (.cons r1 .nil),?_⟩,rfl,⟨_,xs,x,e1,hx,I.fresh,rfl,rfl⟩,
   ⟨⟨_,c1⟩,b2.at fun o q=>up _ o L9.symm q⟩,fun c hc=>by rw [A7 (nT c hc)];exact (hf c hc).1⟩
  .have q1:c≠e/\c≠it:=⟨fun q=>hc (by simp [q]),fun q=>hc (by simp [q])⟩
   exact up c u q1.1 (b5 c u q1.1 q1.2 q)
  .exact ⟨_,hT,rfl,_,rfl⟩
 done:=by
  intro X hP hw hK hc i pins s Y H E I hf ⟨⟨old,he⟩,hi⟩ hg;subst hP hw hK;obtain ⟨xs,e1,dF⟩:=hg;obtain ⟨its1,W4,p1,_⟩:=I.list (D3.of (K:=X.K) e1);have q1:=W4.length;obtain ⟨f0,f1,f2,f3,f4,f5⟩:=hf it (by simp);exact wpAny_pyNext_enum_end (I.ok.hd hc) he hi p1.isList (by simp;lia) fun h' eb=>⟨rfl,I.turned (t':=s.toks) (fun b o hb q=>eb b o hb q) f0 f1 f3 f4 f5⟩
 self:=fun _ _ _ _ _ st h=>by
  obtain ⟨⟨old,he⟩,_⟩:=st;exact wpAny_pyIter_enum he h
section
variable {X:Cx}
noncomputable def iEnum (ta:TA):TI:=fun Y H R=>ta Y H fun vs H1=>∃ (l:Addr) (xs:List V),vs=[.ref l]/\H1 l=some (.lst xs)/\R (eS l) H1
theorem alY{a:Expr}{p pos:Pos}(hg:Gl X "enumerate")(hm:X.mg "enumerate"=none)(ha:PA X [a] ta)(h1:K8 a=false:=by rfl) :
  PI X (.Tuple elts x1 tpos) (.Call (.Name "enumerate" p) [a] [] pos) (iEnum ta):=by
 intro pins s Y H R I h;refine Call_ (bY I hg hm boot_enumerate (PyProof.Rows.callWith_type1 (C0 (ha pos pins s Y H _ I h) fun us s1 ⟨vs,H1,I1,r1,q1⟩=>?_) (O5 h1) rfl));obtain ⟨l,xs,rfl,e1,q⟩:=q1;obtain ⟨u1,rfl,jW⟩:=vals1 r1
 cases jW
 obtain ⟨its1,W4,p1,_⟩:=I1.list (D3.of (K:=X.K) e1);refine call_enumerate_list p1.isList fun h' z1 z2 z3 z4=>wpAny_pyIter_enum z1 ?_
 refine ⟨s1.heap.objs.size+1,[s1.heap.objs.size+1,s1.heap.objs.size],_,_,H1,rfl,I1.kept (t':=s1.toks) z4,ah8 _ s1.heap.objs.size l (Z0 (by lia)),⟨⟨_,z1⟩,z2⟩,fun b hb=>?_,q⟩;have N9:s1.heap.objs.size<=b:=by
  have e:b=s1.heap.objs.size+1\/b=s1.heap.objs.size:=by simpa using hb
  rcases e with rfl | rfl
  .exact y7 _ _
  .exact C4 _
 exact I1.fpOk N9 (I1.hok.fresh N9)
theorem mB{a:Expr}{p pos:Pos}(hm:X.mg "enumerate"=none)(ha:QA X [a] ta)(hg:Gl X "enumerate":=by rfl)(h1:K8 a=false:=by rfl) :
  QI X (.Tuple elts x1 tpos) (.Call (.Name "enumerate" p) [a] [] pos) (iEnum ta):=⟨alY hg hm ha.out h1⟩
end
theorem ajR{R:It->Hp->Prop} : iEnum ta Y H R=ta Y H fun vs H1=>∃ (l:Addr) (xs:List V),vs=[.ref l]/\H1 l=some (.lst xs)/\R (eS l) H1:=rfl
theorem forE{l:Addr}(Pv:Nat->St->Hp->Prop)(h0:Pv 0 Y H)(hl:∀ i Y H,Pv i Y H->H l=some (.lst xs))(hs:∀ i x t Y H,xs[i]?=some x->Pv i Y H->H t=none->g (.ref t) Y (A0 H t (.tup [.int i,x])) fun σ2 H2=>tb { D with nx:=Pv (i+1),ct:=Pv (i+1),bk:=D.nx } σ2 H2)(hd:∀ Y H,Pv xs.length Y H->D.nx Y H):ForIt (eS l) g tb D Y H:=by
 refine ⟨fun i m Y H=>m=xs.length-i/\i<=xs.length/\Pv i Y H,⟨xs.length,by simp,G8 _,h0⟩,?_⟩;rintro i m Y H ⟨rfl,hi,p⟩;have e1:=hl i Y H p
 by_cases D1:i<xs.length
 .refine .inr ⟨⟨xs,xs[i],e1,by simp⟩,Pv (i+1),fun σ' H' p'=>⟨_,by lia,rfl,D1,p'⟩,fun v H' y=>?_⟩;obtain ⟨t,xs',x,f1,hx,ht,rfl,rfl⟩:=y;rw [e1] at f1;cases f1;exact hs i x t Y H hx p ht
 .have e:i=xs.length:=by lia
  subst e;exact .inl ⟨⟨xs,e1,by lia⟩,hd Y H p⟩
section
variable {X:Cx} {k:Nat} {C:Addr} {ps:List Str} {sp:Sp} {x m:Str} {p pos apos:Pos} {e o:Expr} {es:List Expr} {ta:TE} {t:TA}
end
section
variable {C:Addr} {m f:Str} {sp:Sp} {K:PySem.W.Frag} {ta tv:TE} {t:TA} {Y:St} {H:Hp} {Q:VK} {D:Ends}
theorem alZ:tMake C sp [] E0 t Y H Q=t Y H fun vs H1=>∀ x dx,H1 x=none->H1 dx=none->dx≠x->sp (.ref x::(vs++[])) (A0 (A0 H1 dx (.own x)) x (.ins C dx [])) (fun v H2=>v=.non/\Q (.ref x) H2) E0:=rfl
theorem al0:tMeth C m sp [] E0 ta t Y H Q=ta Y H fun x H1=>∃ a dx fs,x=.ref a/\H1 a=some (.ins C dx fs)/\fs.lookup m=none/\t Y H1 fun vs H2=>sp (x::(vs++[])) H2 Q E0:=rfl
theorem anZ:tFld K ta f Y H Q=ta Y H fun x H1=>∃ a C dx fs v,x=.ref a/\H1 a=some (.ins C dx fs)/\Cls K C/\NoAttr K C f/\fs.lookup f=some v/\Q v H1:=rfl
theorem al1:sFld K ta tv f D Y H=tv Y H fun y H1=>ta Y H1 fun x H2=>∃ a C dx fs,x=.ref a/\H2 a=some (.ins C dx fs)/\Cls K C/\NoAttr K C f/\fs.length<1000/\D.nx Y (A0 H2 a (.ins C dx (putF f y fs))):=rfl
end
section
variable {X:Cx} {o e:Expr} {apos cpos:Pos} {td ty:TE}
theorem pW(hu:X.A.units+1<cLine)(ho:QE X o td)(he:QE X e ty)(h1:K8 e=false:=by rfl)(D8:attributeBase o "get" X.env (eval o X.env)=eval o X.env:=by rfl)(E5:(apos.endLine==cpos.line)=true:=by rfl):QE X (.Call (.Attribute o "get" apos) [e] [] cpos) (pA td ty):=
 ⟨ajh hu ho.out he.out ⟨D8,by rw [O5 h1];rfl,E5,by rw [O5 h1];rfl⟩⟩
theorem ajS : pA td ty Y H Q=td Y H fun x H1=>∃ a,x=.ref a/\u4 H1 a/\ty Y H1 fun y H2=>∃ o,DGet H2 a y o/\Q (o.getD .non) H2:=rfl
end
noncomputable def rIntB:List V->Hp->VK->Prop
 | [.bl b],H,Q=>Q (.int (if b then 1 else 0)) H
 | _,_,_=>False
theorem int_b{b:Bool} : rIntB [.bl b] H Q=Q (.int (if b then 1 else 0)) H:=rfl
end L2
set_option maxRecDepth 100000
namespace L2
open PySem PySem.Spec PyProof.Rows
noncomputable abbrev Rl:=Str×List Str
noncomputable def tupR (z:Rl):HO:=.tup ((z.1::z.2).map V.str)
structure IsRules(H:Hp)(a:Addr)(rs:List Addr)(R:List Rl):Prop where
 top:H a=some (.lst (rs.map V.ref))
 row:Paired (fun r z=>H r=some (tupR z)) rs R
theorem IsRules.same{R:List Rl}(h:IsRules H a rs R)(s:Same H H'):IsRules H' a rs R:=⟨s _ _ h.top,f6 h.row fun _ _ e=>s _ _ e⟩
theorem IsRules.len{R:List Rl}(h:IsRules H a rs R):rs.length=R.length:=Paired.length h.row
noncomputable def D7 (z:Rl):List Str:=if z.1=("great" : Str) then z.2.drop 1 else if z.1=("as" : Str) then z.2.take 1 else if z.1=("row" : Str)\/z.1=("marks" : Str)\/z.1=("over" : Str) then z.2 else []
noncomputable def jobD (w:Str):Str:=if w=("row" : Str) then "letter" else if w=("marks" : Str) then "mark" else w
noncomputable def C5 (R:List Rl):List (Str×Str):=R.flatMap fun z=>(D7 z).map fun p=>(p,jobD z.1)
noncomputable def hasW (R:List Rl) (w:Str):Bool:=R.any fun z=>decide (z.1=w)
noncomputable def figO (c:Nat):Bool:=decide (48<=c)&&decide (c<=57)
noncomputable def f9:List Str:=["letter", "mark", "over"]
noncomputable def NC (figs:Bool) (g:Str->Str) (PL:List (Str×Str)):Prop:=∀ i p j,PL[i]?=some (p,j)->j=g p/\(p∈(PL.take i).map (·.1)->j∈f9)/\(figs=true->∀ c∈p.cps.toList,figO c=false)/\p.length<=1000
noncomputable def keysP (PL:List (Str×Str)):List Str:=K0 [] (PL.map (·.1))
theorem pX{R:List Rl}{z:Rl}(h:R[i]?=some z):C5 (R.take (i+1))=C5 (R.take i)++(D7 z).map fun p=>(p,jobD z.1):=by
 rw [V1,h];unfold C5;rw [Z9]
 simp
theorem xS(R:List Rl)(i:Nat):∃ more,C5 R=C5 (R.take i)++more:=⟨C5 (R.drop i),by
 unfold C5;rw [<- Z9,W8]⟩
theorem ag7(PL:List (Str×Str))(p j:Str):keysP (PL++[(p,j)])=dd (keysP PL) p:=by
 unfold keysP K0;rw [G2,bQ];rfl
theorem cM(x:Str)(PL:List (Str×Str)):x∈keysP PL↔x∈PL.map (·.1):=by
 unfold keysP;rw [aJ]
 simp
theorem xT(PL:List (Str×Str)):(keysP PL).length<=PL.length:=by
 have:=iB (PL.map (·.1)) []
 rw [B3] at this
 simpa [keysP] using this
noncomputable def rowsW (R:List Rl) (w:Str):List (List Str):=(R.filter fun z=>decide (z.1=w)).map (·.2)
theorem xU{R:List Rl}{z:Rl}{w:Str}(h:R[i]?=some z):rowsW (R.take (i+1)) w=if z.1=w then rowsW (R.take i) w++[z.2] else rowsW (R.take i) w:=by
 rw [V1,h];unfold rowsW;rw [b8,G2]
 by_cases e:z.1=w
 .rw [if_pos e,Option.toList_some,bM (by simpa using e)];rfl
 .rw [if_neg e,Option.toList_some,bN (by simpa using e)];simp
theorem g0{hi:Option Int}(hk:1<=k)(hn:1<=n):¬ (HT.sIx n 0 (some (k:Int))=0/\HT.sIx n n hi=n):=fun h=>by
 have:=h.1
 rw [HT.sIx_nat] at this;lia
noncomputable abbrev jobsL:List (C2×V):=[((Sum.inr ("row" : Str):C2),V.str "letter"),(Sum.inr ("marks" : Str),V.str "mark"),(Sum.inr ("great" : Str),V.str "great"),(Sum.inr ("as" : Str),V.str "as"),(Sum.inr ("over" : Str),V.str "over")]
noncomputable def T5 (w:Str):Prop:=w=("row" : Str)\/w=("marks" : Str)\/w=("great" : Str)\/w=("as" : Str)\/w=("over" : Str)
theorem pY{w:Str}(h:T5 w):valV jobsL (Sum.inr w)=some (.str (jobD w)):=by
 rcases h with rfl | rfl | rfl | rfl | rfl <;> decide +kernel
theorem ajT{w:Str}(h:¬ T5 w):valV jobsL (Sum.inr w)=none:=by
 unfold T5 at h;have n:∀ u:Str,w≠u->¬ ((Sum.inr u:C2)=Sum.inr w):=fun u hu e=>hu (Sum.inr.inj e).symm
 rw [u3 (n _ (fun e=>h (.inl e))),u3 (n _ (fun e=>h (.inr (.inl e)))),u3 (n _ (fun e=>h (.inr (.inr (.inl e))))),u3 (n _ (fun e=>h (.inr (.inr (.inr (.inl e)))))),u3 (n _ (fun e=>h (.inr (.inr (.inr (.inr e))))))];rfl
theorem cN{z:Rl}(h:p∈D7 z):T5 z.1:=by
 unfold D7 at h;unfold T5
 split at h
 .rename_i e;exact .inr (.inr (.inl e))
 .split at h
  .rename_i e;exact .inr (.inr (.inr (.inl e)))
  .split at h
   .rename_i e
    rcases e with e | e | e
    .exact .inl e
    .exact .inr (.inl e)
    .exact .inr (.inr (.inr (.inr e)))
   .cases h
theorem xV{R:List Rl}{z:Rl}(hz:R[i]?=some z)(hp:(D7 z)[j]?=some p) :
  (C5 R)[(C5 (R.take i)).length+j]?=some (p,jobD z.1)/\(C5 R).take ((C5 (R.take i)).length+j)=C5 (R.take i)++((D7 z).take j).map fun p=>(p,jobD z.1):=by
 obtain ⟨more,e⟩:=xS R (i+1);rw [pX hz,j8] at e;have hj:j<(D7 z).length:=(F6.mp hp).1;rw [e]
 constructor
 .rw [kY (y7 _ _),Nat.add_sub_cancel_left,kZ (by rw [B3];exact hj),W9,hp];rfl
 .rw [List.take_append,j7 (y7 _ _),Nat.add_sub_cancel_left,List.take_append_of_le_length (by rw [B3];lia),List.map_take]
theorem an3{c d:Nat} : (([c]:List Nat)<[d])↔c<d:=by
 constructor
 .intro h;cases h with
  | rel h=>exact h
  | cons h=>cases h
 .intro h;exact List.Lex.rel h
theorem D0.same(e:Same H H')(h:D0 K H a xs):D0 K H' a xs:=by
 rcases h with (h | ⟨o,h⟩) | h
 .exact .inl (.inl (e _ _ h))
 .exact .inl (.inr ⟨o,e _ _ h⟩)
 .exact .inr h
theorem D0.dput{d:Addr}{o:HO}(hd:H d=some (.dK kvs))(h:D0 K H a xs):D0 K (A0 H d o) a xs:=by
 rcases h with (h | ⟨o,h⟩) | h
 .exact .inl (.inl (by rw [A7 (fun e=>by rw [e,hd] at h;cases h)];exact h))
 .exact .inl (.inr ⟨o,by rw [A7 (fun e=>by rw [e,hd] at h;cases h)];exact h⟩)
 .exact .inr h
noncomputable def spHas (K:PySem.W.Frag):Sp:=fun vs H Q _=>∃ (a:Addr) (ts:List Addr) (R:List Rl) (w:Str),vs=[.ref a,.str w]/\IsRules H a ts R/\R.length<=1000/\∀ H',Same H H'->Q (.bl (hasW R w)) H'
noncomputable def xW (K:PySem.W.Frag):Sp:=fun vs H Q _=>∃ (t:Addr) (z:Rl),vs=[.ref t]/\H t=some (tupR z)/\∀ p H',Same H H'->D0 K H' p ((D7 z).map V.str)->Q (.ref p) H'
noncomputable def X3 (R:List Rl):List Str:=if hasW R "blanks"=true then [" "] else []
noncomputable def jobG (g:Str->Str):Str->V:=fun t=>if t=(" " : Str) then .str "over" else .str (g t)
noncomputable def ordF (f b:Bool) (j ll ml md:Addr):List (Str×V):=putF "made" (.ref md) (putF "mark_line" (.ref ml) (putF "letter_line" (.ref ll) (putF "jobs" (.ref j) (putF "behind" (.bl b) (putF "figures" (.bl f) [])))))
theorem IsRules.but{x:Addr}{R:List Rl}(h:IsRules H a rs R)(s:SameBut x H H'){fs:List (Str×V)}(hx:H x=some (.ins C dx fs)):IsRules H' a rs R:=
 ⟨s _ _ (fun e=>by have:=h.top;rw [e,hx] at this;cases this) h.top,f6 h.row fun t z e=>s _ _ (fun q=>by rw [q,hx] at e;cases e) e⟩
theorem SameBut.trans{x:Addr}(a:SameBut x H H1)(b:SameBut x H1 H2):SameBut x H H2:=fun c o hc h=>b c o hc (a c o hc h)
theorem Same.but{x:Addr}(a:Same H H1):SameBut x H H1:=fun c o _ h=>a c o h
noncomputable def U6 (R:List Rl) (w:Str) (L:List Str):Prop:=R6 (edges (rowsW R w)) (toldL (rowsW R w)) L/\∀ p∈toldL (rowsW R w),p∈L
structure IsOrder(C:Addr)(H:Hp)(x:Addr)(g:Str->Str)(R:List Rl)(L M:List Str):Prop where
 ob:∃ dx j ll ml md,H x=some (.ins C dx (ordF (hasW R "figures") (hasW R "behind") j ll ml md))/\H j=some (.dK (A9 (keysP (C5 R)++X3 R) (jobG g)))/\H ll=some (.lst (L.map V.str))/\H ml=some (.lst (M.map V.str))
 l1:U6 R "row" L
 l2:U6 R "marks" M
noncomputable def cellF (ns:List Int) (k:Int):Int:=if k<(ns.length:Int) then ns.getD k.toNat 0 else 0
noncomputable def xX (K:PySem.W.Frag):Sp:=fun vs H Q _=>∃ (a:Addr) (ns:List Int) (k:Int),vs=[.ref a,.int k]/\D3 K H a (ns.map V.int)/\0<=k/\Q (.int (cellF ns k)) H
noncomputable def LA:List Nat:=SG.filter fun c=>!figO c
noncomputable def LB:List Nat:=LA++[48,49,50,51,52,53,54,55,56,57]
noncomputable def listF (d:Bool):List Nat:=if d=true then LB else LA
noncomputable def lenF (d:Bool):Int:=if d=true then 93 else 83
noncomputable def pZ (ns:List Int):Bool:=decide (cellF ns 1 / 12 % 2=0)
noncomputable def stepO:List Int:=[1,2,4,5,7,8,10,11,13,23,44,80]
noncomputable def stO (ns:List Int):Int:=(J3 stepO (cellF ns 1 % 12)).getD 0
noncomputable def eT (ns:List Int) (k:Int):Nat:=(J3 (listF (pZ ns)) ((cellF ns 0+k*stO ns) % lenF (pZ ns))).getD 33
end L2
set_option maxRecDepth 100000
namespace L2
open PySem PySem.Spec PyProof.Rows
open AutoSeq1 (wpAny_loadPart' idx_int)
noncomputable abbrev bareL (ys:Array Value) (k:Nat):Obj:=⟨.type "list",none,.seq ys k,#[]⟩
noncomputable abbrev anyT (dd:Option Addr) (ys:Array Value) (k:Nat) (ss:Array (Option Value)):Obj:=⟨.type "tuple",dd,.seq ys k,ss⟩
theorem adJ{l:Addr}{ys zs:Array Value}{k2:Nat}{dd:Option Addr}(short:¬ (!ys.isEmpty&&Builtin.List.listTooLong (ys.size+zs.size))=true)(h1:ys.size<=sizeLine)(h2:ys.size+zs.size<=sizeLine+1) :
  Meets (Builtin.«list.extend» ⟨[.ref l,.ref b],[]⟩) (fun _ R s=>s.heap.get? l=some (bareL ys k)/\s.heap.get? b=some (anyT dd zs k2 ss)/\R (.ok (.ret .none)) { s with heap:=s.heap.update l (Obj.mapSeq (·++zs)),toks:=s.toks }):=by
 refine .of_wp fun _ _ _ R s ⟨gl,gb,fin⟩=>?_
 rcases s with ⟨hp,gens,dr,tk,sys⟩
 have c1:=idx_int;have c2:=AutoSeq1.sub_tuple_tuple;have c3:=AutoSeq1.sub_list_list;have c4:=AutoSeq1.sub_tuple_list;have c5:=AutoSeq1.sub_list_tuple;have room:(ys++zs).size<=sizeLine+1:=Array.size_append ▸ h2
 wp_walk using (wpAny_updateSeq gl rfl (hz:=h1) (_hz':=room)),wpAny_loadPart' gl,wpAny_loadPart' gb
 exact ⟨_,rfl,fin⟩
section
variable {X:Cx}
noncomputable def xY (K:PySem.W.Frag):V->List V->Hp->VK->Prop:=fun x vs H Q=>∃ l b xs zs,x=.ref l/\vs=[.ref b]/\H l=some (.lst xs)/\D0 K H b zs/\xs.length+zs.length<=sizeLine/\Q .non (A0 H l (.lst (xs++zs)))
theorem ag8:hV X "list.extend" (xY X.K):=by
 intro pins s Y H x vs v us Q I rx rv h;obtain ⟨l,b,xs,zs,rfl,rfl,hH,hB,hz,q⟩:=h
 cases rx
 obtain ⟨u,rfl,ru⟩:=rv.one
 cases ru
 obtain ⟨z,its,n,r,hl,e⟩:=I.lstM hH;obtain ⟨its2,r2,⟨⟨c,dct,dt,sl⟩,e2,hc,n2,hd⟩,jK⟩:=I.tuple hB
 replace hc:c=.type "tuple":=hc
 replace hd:dt=.seq its2.toArray n2:=hd
 subst hc hd;have q1:=r2.length;have hsz:its.toArray.size+its2.toArray.size<=sizeLine:=by rw [G7,G7];lia
 have i5:¬ (!its.toArray.isEmpty&&Builtin.List.listTooLong (its.toArray.size+its2.toArray.size))=true:=by
  rw [vZ hsz,Bool.and_false];exact J5
 refine call_meets F.slot_list_extend ⟨_,e,rfl⟩ F.entry_list_extend (F.args_list_extend_2 _ _)
  (adJ (k:=n) (k2:=n2) (dd:=dct) (ss:=sl) i5 (by rw [G7];lia) (by lia)) ⟨e,e2,?_⟩
 refine ⟨.non,_,I.lset (its':=its++its2) hH e (by simp) (r.append r2) ?_,rfl,q⟩;rw [G0];lia
theorem aib(hK:X.K=K:=by rfl):QMt X "list.extend" (xY K):=by subst hK;exact ⟨fun pins s Y H x xs v us Q I rx rv h=>ag8 pins s Y H x xs v us Q I rx rv h⟩
end
noncomputable def xZ (l : Addr) (n : Nat) : It :=
  ⟨fun i H => ∃ xs x, H l = some (.lst xs) /\ i<n /\ xs[n-1-i]? = some x,
   fun i H v H' => H' = H /\ ∀ xs, H l = some (.lst xs) -> xs[n-1-i]? = some v,
   fun i H => ∃ xs, H l = some (.lst xs) /\ n <= i⟩
section
variable {X:Cx}
noncomputable def iRev (ta:TA):TI:=fun Y H R=>ta Y H fun vs H1=>∃ (l:Addr) (xs:List V),vs=[.ref l]/\H1 l=some (.lst xs)/\R (xZ l xs.length) H1
end
theorem al2{R:It->Hp->Prop} : iRev ta Y H R=ta Y H fun vs H1=>∃ (l:Addr) (xs:List V),vs=[.ref l]/\H1 l=some (.lst xs)/\R (xZ l xs.length) H1:=rfl
noncomputable abbrev aK (l:Addr):Obj:={ cls:=.type "list_iterator",data:=.fields #[.ref l,.int 0 0] }
noncomputable abbrev eU (it:Addr) (i:Int):Obj:={ cls:=.type "enumerate",data:=.fields #[.none,.bool false,.ref it,rawInt i,.none,.none] }
noncomputable abbrev anyL (dd:Option Addr) (ys:Array Value) (k:Nat) (ss:Array (Option Value)):Obj:=⟨.type "list",dd,.seq ys k,ss⟩
set_option maxHeartbeats 4000000 in
theorem adW{l:Addr}{ys:Array Value}{dd:Option Addr}{i:Int}{t:Tok}(fits:Builtin.SmallTypes.fitsIndex i=true) :
  Meets (Builtin.«enumerate.__new__» ⟨[.type "enumerate",.ref l],[("start",.int i t)]⟩) (fun _ R s=>s.heap.get? l=some (anyL dd ys k ss)/\
   R (.ok (.ret (.ref (s.heap.push (aK l)).objs.size))) { s with heap:=(s.heap.push (aK l)).push (eU s.heap.objs.size i) }):=by
 refine .of_wp fun _ _ _ R s ⟨gl,fin⟩=>?_
 rcases s with ⟨hp,gens,dr,tk,sys⟩
 have c1:=sub_enumerate;have isl:Heap.IsList (Shared.heap ⟨hp,gens,dr,tk,sys⟩) l ys:=⟨_,gl,rfl,k,rfl⟩
 wp_walk using wpAny_loadPart' gl
 refine wpAny_stack_any fun _=>wpAny_pure ?_
 split
 case h_1 c _ _ _ _ _=>
  generalize (c==Value.type "enumerate")=truth
  cases truth <;> (wp_walk using wpAny_loadPart' gl,wpAny_pyIter_list isl;exact ⟨_,rfl,fin⟩)
 case h_2=>(wp_walk using wpAny_loadPart' gl,wpAny_pyIter_list isl;exact ⟨_,rfl,fin⟩)
theorem ag9(a b:Value):checkTypeCall "enumerate" ⟨[a],[("start",b)]⟩=pure ():=by kernel_rfl
theorem aic(a b:Value):checkBuiltinCall "enumerate.__new__" ⟨[.type "enumerate",a],[("start",b)]⟩=pure ():=by kernel_rfl
theorem aha(a b c:Value):argsOk "object.__init__" ⟨[a,b],[("start",c)]⟩:=by
 unfold argsOk;rw [signature?_of (id:="object.__init__") (n:="__init__".toList.reverse) (o:="object".toList.reverse) (by kernel_rfl) F.owner_object]
 kernel_rfl
theorem aid{self b c:Value} : Meets (Builtin.«object.__init__» ⟨[self,b],[("start",c)]⟩) (fun _ R s=>s.TypeIs self "enumerate"/\R (.ok (.ret .none)) s):=by
 have c1:=F.called_enumerate.init.lookup;have c2:=F.called_enumerate.made;refine .of_wp fun _ _ _ R s ⟨isT,fin⟩=>?_
 repeat (any_goals (first | assumption | wp_step))
 exact ⟨_,rfl,fin⟩
section
variable {prog:Program} {w:World} {A:Around} {E:Value->Shared->Prop} {s:Shared}
theorem adK{l:Addr}{ys:Array Value}{i:Int}{t:Tok}{Q:Value->Shared->Prop}(isl:s.heap.IsList l ys)(fits:Builtin.SmallTypes.fitsIndex i=true)(fin:∀ h',IsEnum h' (s.heap.objs.size+1) s.heap.objs.size i .none->h'.IsListIter s.heap.objs.size l 0->(∀ b o,s.heap.get? b=some o->h'.get? b=some o)->Q (.ref (s.heap.objs.size+1)) { s with heap:=h' }) :
  wpAny (model prog w) A (call (.type "enumerate") [.ref l] [("start",.int i t)]) Q E s:=by
 obtain ⟨⟨c,dd,dt,ss⟩,gl,hc,k,hd⟩:=isl;obtain rfl:c=.type "list":=hc;obtain rfl:dt=.seq ys k:=hd;obtain ⟨hd0,tl,c1⟩:=F.called_enumerate.mro;have c2:=F.called_enumerate.made;have c3:=F.called_enumerate.sub;have c4:=F.called_enumerate.notType;have c5:=F.called_enumerate.canCreate;have c6:=F.called_enumerate.init.lookup;have c7:=ag9 (.ref l) (.int i t);refine wpAny_call (codeAny_of_tree (show wpAny _ _ (callAny (.type "enumerate") _) _ _ _ from wpAny_pure ⟨Code.quiet_builtin _ (by decide +kernel),codeAny_builtin F.entry_type_call ?_⟩));rw [Around.under_plain (weight_type_call_type "enumerate" [.ref l] [("start",.int i t)]) (units_type_call_type "enumerate" [.ref l] [("start",.int i t)])]
 repeat (any_goals (first | assumption | wp_step))
 have z:(s.heap.push (aK l)).objs.size=s.heap.objs.size+1:=Heap.size_push ..;have made:IsEnum ((s.heap.push (aK l)).push (eU s.heap.objs.size i)) (s.heap.objs.size+1) s.heap.objs.size i .none:=by
  have g:=Heap.get?_push_size (s.heap.push (aK l)) (o:=eU s.heap.objs.size i) rfl;rw [z] at g;exact g
 have done:=fin _ made ⟨_,Heap.get?_push_of_some _ (Heap.get?_push_size _ rfl),rfl,rfl⟩ fun b o g=>Heap.get?_push_of_some _ (Heap.get?_push_of_some _ g)
 refine codeAny_mono (codeAny_call_builtin F.called_enumerate.plain F.entry_enumerate_new (wpAny_of_eq (aic _ _) (adW (dd:=dd) (k:=k) (ss:=ss) fits prog w A.in1 (wants (fun v s2=>v=.ref (s.heap.objs.size+1)/\s2={ s with heap:=(s.heap.push (aK l)).push (eU s.heap.objs.size i) }) E) s ⟨gl,?_,?_⟩))) ?_
 .rw [z]
 .rfl
 .intro r s1 hr
  rcases r with e | fl
  .exact hr
  .cases fl with
   | ret v=>
    obtain ⟨rfl,rfl⟩:=hr;have isT:Shared.TypeIs { s with heap:=(s.heap.push (aK l)).push (eU s.heap.objs.size i) } (.ref (s.heap.objs.size+1)) "enumerate":=⟨_,made,rfl⟩
    have c8:=F.called_enumerate.init.bind (.ref (s.heap.objs.size+1))
    repeat (any_goals (first | assumption | wp_step))
    have ran:=aid (self:=.ref (s.heap.objs.size+1)) (b:=.ref l) (c:=.int i t) prog w A.in1 (wants (fun v s2=>v=.none/\s2={ s with heap:=(s.heap.push (aK l)).push (eU s.heap.objs.size i) }) E) _ ⟨isT,rfl,rfl⟩;refine codeAny_mono (codeAny_call_builtin F.called_enumerate.init.plain F.entry_object_init (F.called_enumerate.init.check _ _ _ _ _ _ _ _ isT (aha _ _ _) ran)) fun r s2 hr=>?_
    rcases r with e | fl
    .exact hr
    .cases fl with
     | ret v=>
      obtain ⟨rfl,rfl⟩:=hr
      repeat (any_goals (first | assumption | wp_step))
     | next=>exact hr.elim
     | brk=>exact hr.elim
     | cont=>exact hr.elim
   | next=>exact hr.elim
   | brk=>exact hr.elim
   | cont=>exact hr.elim
end
theorem an4{w:World}(calm:A.handled=none){l:Addr}(apart:l≠it)(ys:Array Value) :
  Draws prog w A it [it,l] (ys.size+1) (fun i v=>1<=i/\ys[i-1]?=some v) (fun i h=>1<=i/\h.IsListIter it l (i-1)/\h.IsList l ys):=by
 have D:=Draws.list (prog:=prog) (w:=w) calm it l apart ys;refine ⟨fun i h st=>D.live (i-1) h st.2,fun i h h' st same=>⟨st.1,D.frame (i-1) h h' st.2 same⟩,fun i s Q E hi st fin=>?_,fun s Q E st fin=>D.done s Q E st.2 fin⟩;refine D.item (i-1) s Q E (by have:=st.1;lia) st.2 fun x h' tk px st' sb=>fin x h' tk ⟨st.1,px⟩ ⟨by lia,?_⟩ sb
 rw [show i+1-1=i-1+1 by have:=st.1;lia];exact st'
theorem an5{w : World}(calm : A.handled = none){l: Addr}{ys : Array Value}(none : ys[i]? = none) :
    Draws prog w A it [it, l] (i+1) (fun _ _ => True) (fun k h => k = i+1 /\ h.IsListIter it l i /\ h.IsList l ys) :=
  ⟨fun _ _ st => let ⟨o, ho, _⟩ := st.2.1; ⟨o, ho⟩, fun _ _ _ st same => ⟨st.1, st.2.1.at fun o g => same it (by simp) o g, st.2.2.at fun o g => same l (by simp) o g⟩,
   fun k s Q E hk st => absurd st.1 (by lia), fun s Q E st fin => wpAny_nextOf_list_end calm st.2.1 st.2.2 none fin⟩
noncomputable def Ite1 (l : Addr) : It :=
  ⟨fun i H => ∃ xs x, H l = some (.lst xs) /\ xs[i]? = some x,
   fun i H v H' => ∃ t xs x, H l = some (.lst xs) /\ xs[i]? = some x /\ H t = none /\ v = .ref t /\ H' = A0 H t (.tup [.int (i+1 : Nat), x]),
   fun i H => ∃ xs, H l = some (.lst xs) /\ xs.length <= i⟩
theorem ahb{P:Program}{w:World}{pos:Pos}(e it l:Addr)(L9:e≠it) :
  Turn P w K (.Tuple elts x1 pos) (Ite1 l) [e,it] e (fun i h=>(∃ old,IsEnum h e it ((i+1:Nat):Int) old)/\h.IsListIter it l i) where
 mem:=by simp
 obj:=fun i h ⟨⟨old,he⟩,hi⟩ c hc=>by
  have q:c=e\/c=it:=by simpa using hc
  rcases q with rfl | rfl
  .exact ⟨_,he,fun v q=>by cases q⟩
  .obtain ⟨o,e,c,d⟩:=hi;exact ⟨o,e,fun v z=>by rw [d] at z;cases z⟩
 keep:=fun i h h' ⟨⟨old,he⟩,hi⟩ k=>⟨⟨old,k e (by simp) _ he⟩,hi.at fun o q=>k it (by simp) o q⟩
 item:=by
  intro X hP hw hK hc i pins s Y H E I hf ⟨⟨old,he⟩,hi⟩ hg;subst hP hw hK;obtain ⟨xs,x,e1,hx⟩:=hg;obtain ⟨its1,W4,p1,_⟩:=I.list (D3.of (K:=X.K) e1);obtain ⟨u1,C8,r1⟩:=W4.get hx;have D1:i<its1.length:=(F6.mp C8).1;obtain ⟨ol,gl,cl,_⟩:=p1.isList;have nli:l≠it:=fun q=>by
   obtain ⟨oi,gi,ci,_⟩:=hi;rw [q,gi] at gl
   cases gl
   rw [ci] at cl;exact absurd cl (by decide)
  have nle:e≠l:=fun q=>by
   rw [<- q,he] at gl
   cases gl
   exact absurd (show Value.type "enumerate"=Value.type "list" from cl) (by decide)
  refine wpAny_pyNext_enum_itemD (i:=i+1) (an4 (A:=X.A.in1) (show X.A.in1.handled=none from I.ok.hd hc) nli its1.toArray) he ⟨by lia,by simpa using hi,p1.isList⟩ (by simp;lia) L9 (by simp [L9,nle]) fun y h' tk py b1 b2 b3 b4 b5=>?_
  obtain rfl:u1=y:=by
   have:=py.2
   simp [C8] at this;exact this
  refine ⟨_,rfl,wpAny_letOwnedTupleGo_enum b1 fun h2' c1 c2=>?_⟩;have kA:e<s.heap.objs.size:=Heap.lt_size he;have up:∀ c o,c≠e->h'.get? c=some o->h2'.get? c=some o:=fun c o hc q=>(c2.2 c hc).trans q
  have hT:=up _ _ (q9 kA) b3;have nT:∀ c∈[e,it],c≠s.heap.objs.size:=fun c hc=>by
   have q:c=e\/c=it:=by simpa using hc
   refine K4 ?_
   rcases q with rfl | rfl
   .exact kA
   .obtain ⟨o,q,_⟩:=hi;exact Heap.lt_size q
  refine ⟨.ref s.heap.objs.size,A0 H s.heap.objs.size (.tup [.int (i+1:Nat),x]),I.turnNew (t':=tk+1) (ch:=[e,it]) hf (fun c u hc q=>?_) (C4 _) ⟨by show 2<=sizeLine;decide,[.int (i+1:Nat) tk,u1],.cons ⟨_,rfl⟩ (.cons r1 .nil),?_⟩,rfl,⟨_,xs,x,e1,hx,I.fresh,rfl,rfl⟩,
   ⟨⟨_,c1⟩,(show h'.IsListIter it l (i+1) by simpa using b2.2.1).at fun o q=>up _ o L9.symm q⟩,fun c hc=>by rw [A7 (nT c hc)];exact (hf c hc).1⟩
  .have q1:c≠e/\c≠it:=⟨fun q=>hc (by simp [q]),fun q=>hc (by simp [q])⟩
   exact up c u q1.1 (b5 c u q1.1 q1.2 q)
  .exact ⟨_,hT,rfl,_,rfl⟩
 done:=by
  intro X hP hw hK hc i pins s Y H E I hf ⟨⟨old,he⟩,hi⟩ hg;subst hP hw hK;obtain ⟨xs,e1,dF⟩:=hg;obtain ⟨its1,W4,p1,_⟩:=I.list (D3.of (K:=X.K) e1);have q1:=W4.length;obtain ⟨f0,f1,f2,f3,f4,f5⟩:=hf it (by simp);exact wpAny_pyNext_enum_endD (an5 (A:=X.A.in1) (show X.A.in1.handled=none from I.ok.hd hc) (ys:=its1.toArray) (i:=i) (by simp;lia)) he ⟨rfl,hi,p1.isList⟩ fun h' eb=>⟨rfl,I.turned (t':=s.toks) (fun b o hb q=>eb b o hb q) f0 f1 f3 f4 f5⟩
 self:=fun _ _ _ _ _ st h=>by
  obtain ⟨⟨old,he⟩,_⟩:=st;exact wpAny_pyIter_enum he h
theorem aie:bootBuiltins "enumerate"=some (.type "enumerate"):=by decide +kernel
section
variable {X:Cx}
noncomputable def qA (ta:TA):TI:=fun Y H R=>ta Y H fun vs H1=>∃ (l:Addr) (xs:List V),vs=[.ref l]/\H1 l=some (.lst xs)/\R (Ite1 l) H1
theorem ajU{a:Expr}{p pos:Pos}(hg:Gl X "enumerate")(hm:X.mg "enumerate"=none)(ha:PA X [a] ta)(h1:K8 a=false:=by rfl) :
  PI X (.Tuple elts x1 tpos) (.Call (.Name "enumerate" p) [a] [⟨some "start",.Constant (.int 1) ck cpos,kpos⟩] pos) (qA ta):=by
 intro pins s Y H R I h;refine wpAny_Call_Name_kw (bY I hg hm aie (PySem.W.callWith_of (P:=fun _=>True) ?_ (fun _ _=>⟨_,.inr (.inl rfl),PySem.W.Looks.of_pure rfl⟩) (PyProof.Rows.evalArgs_kw2 rfl (C0 (ha pos pins s Y H _ I h) fun us s1 ⟨vs,H1,I1,r1,q1⟩=>?_) (O5 h1))))
 .rw [O5 h1];rfl
 have kw:PK X [⟨some "start",.Constant (.int 1) ck cpos,kpos⟩] (tCons (tC (.int 1)) tNil):=ak1 uY am9;refine C0 (kw pos pins s1 Y H1 (fun zs H2=>zs=[.int 1]/\H2=H1) I1 ⟨rfl,rfl⟩) fun ws s2 ⟨zs,H2,I2,rz,e1,e2⟩=>⟨trivial,?_⟩
 subst e1 e2;obtain ⟨l,xs,rfl,e1,q⟩:=q1;obtain ⟨u1,rfl,jW⟩:=vals1 r1
 cases jW
 obtain ⟨u2,rfl,tE⟩:=vals1 rz;obtain ⟨t,rfl⟩:=tE;obtain ⟨its1,W4,p1,_⟩:=I2.list (D3.of (K:=X.K) e1);refine adK p1.isList (by decide) fun h' z1 z2 z4=>wpAny_pyIter_enum z1 ?_
 refine ⟨s2.heap.objs.size+1,[s2.heap.objs.size+1,s2.heap.objs.size],_,_,H2,rfl,I2.kept (t':=s2.toks) z4,ahb _ s2.heap.objs.size l (Z0 (by lia)),⟨⟨_,z1⟩,z2⟩,fun b hb=>?_,q⟩;have N9:s2.heap.objs.size<=b:=by
  have e:b=s2.heap.objs.size+1\/b=s2.heap.objs.size:=by simpa using hb
  rcases e with rfl | rfl
  .exact y7 _ _
  .exact C4 _
 exact I2.fpOk N9 (I2.hok.fresh N9)
theorem ajV{a:Expr}{p pos:Pos}(hm:X.mg "enumerate"=none)(ha:QA X [a] ta)(hg:Gl X "enumerate":=by rfl)(h1:K8 a=false:=by rfl) :
  QI X (.Tuple elts x1 tpos) (.Call (.Name "enumerate" p) [a] [⟨some "start",.Constant (.int 1) ck cpos,kpos⟩] pos) (qA ta):=⟨ajU hg hm ha.out h1⟩
end
theorem aig{R:It->Hp->Prop} : qA ta Y H R=ta Y H fun vs H1=>∃ (l:Addr) (xs:List V),vs=[.ref l]/\H1 l=some (.lst xs)/\R (Ite1 l) H1:=rfl
theorem forE1{l:Addr}(Pv:Nat->St->Hp->Prop)(h0:Pv 0 Y H)(hl:∀ i Y H,Pv i Y H->H l=some (.lst xs))(hs:∀ i x t Y H,xs[i]?=some x->Pv i Y H->H t=none->g (.ref t) Y (A0 H t (.tup [.int (i+1:Nat),x])) fun σ2 H2=>tb { D with nx:=Pv (i+1),ct:=Pv (i+1),bk:=D.nx } σ2 H2)(hd:∀ Y H,Pv xs.length Y H->D.nx Y H):ForIt (Ite1 l) g tb D Y H:=by
 refine ⟨fun i m Y H=>m=xs.length-i/\i<=xs.length/\Pv i Y H,⟨xs.length,by simp,G8 _,h0⟩,?_⟩;rintro i m Y H ⟨rfl,hi,p⟩;have e1:=hl i Y H p
 by_cases D1:i<xs.length
 .refine .inr ⟨⟨xs,xs[i],e1,by simp⟩,Pv (i+1),fun σ' H' p'=>⟨_,by lia,rfl,D1,p'⟩,fun v H' y=>?_⟩;obtain ⟨t,xs',x,f1,hx,ht,rfl,rfl⟩:=y;rw [e1] at f1;cases f1;exact hs i x t Y H hx p ht
 .have e:i=xs.length:=by lia
  subst e;exact .inl ⟨⟨xs,e1,by lia⟩,hd Y H p⟩
end L2
set_option maxRecDepth 100000
namespace L2
open PySem PySem.Spec PyProof.Rows
noncomputable def qB:V->List V->Hp->VK->Prop:=fun x vs H Q=>∃ (l:Addr) (zs:List Int) (z:Int),x=.ref l/\vs=[.int z]/\H l=some (.lst (zs.map V.int))/\z∈zs/\Q .non (A0 H l (.lst ((zs.erase z).map V.int)))
theorem yA:∀ {vs:List Value} {zs:List Int},IntsAre vs zs->∀ {j:Nat} {z:Int},zs[j]?=some z->∃ t,vs[j]?=some (.int z t)
 | _,_,.nil,_,_,h=>by simp at h
 | _,_,.cons _ _ _,0,_,h=>by simp at h;subst h;exact ⟨_,rfl⟩
 | _,_,.cons _ _ r,j+1,z,h=>by
  obtain ⟨t,q⟩:=yA r (j:=j) (z:=z) (by simpa using h);exact ⟨t,by simpa using q⟩
theorem ahc : hV X "list.remove" qB:=by
 intro pins s Y H x vs v us Q I rx rv h;obtain ⟨l,zs,zz,rfl,rfl,hH,hm,q⟩:=h
 cases rx
 obtain ⟨u,rfl,ru⟩:=rv.one;obtain ⟨t,rfl⟩:=ru;obtain ⟨z,its,n,r,hl,e⟩:=I.lstM hH;have sa:=vT r;have hj:zs.idxOf zz<zs.length:=gJ.mpr hm;rw [B3] at hl;have L5:∀ (j:Nat) (hj:j<its.toArray.size),∃ y t',zs[j]?=some y/\its.toArray[j]=.int y t':=fun j hj'=>by
  have hj2:j<zs.length:=by rw [hl];simpa using hj'
  obtain ⟨t',ht⟩:=yA sa (j:=j) (z:=zs[j]) (by simp);refine ⟨zs[j],t',by simp,?_⟩
  have:=(F6.mp ht).2
  simpa using this
 have hsz:zs.idxOf zz<its.toArray.size:=by rw [G7,<- hl];exact hj
 refine call_meets F.slot_list_remove ⟨_,e,rfl⟩ F.entry_list_remove (F.args_list_remove_2 _ _)
  (MeetsSeq.list_remove l its.toArray n (.int zz t) (isInt zz) (fun y hy=>eq_isInt zz t sa y (by simpa using hy)) (zs.idxOf zz) hsz ?_ (fun m hm2 D1=>?_) (by rw [G7,<- hl];rw [B3] at z;exact z)) ⟨e,?_⟩
 .obtain ⟨y,t',h1,h2⟩:=L5 _ hsz;rw [h2]
  have:y=zz:=by
   have:=List.getElem_idxOf hj
   rw [N7 hj,this] at h1;exact (Option.some.inj h1).symm
  subst this;simp [isInt]
 .obtain ⟨y,t',h1,h2⟩:=L5 _ hm2;rw [h2]
  have:y≠zz:=fun q=>by
   obtain ⟨h3,h4⟩:=F6.mp h1
   have:=List.not_of_lt_findIdx (show m<zs.findIdx (· == zz) from D1)
   rw [h4] at this;simp [q] at this
  simp [isInt,this]
 .refine ⟨.non,_,I.lset (its':=its.eraseIdx (zs.idxOf zz)) hH e ?_ ?_ ?_,rfl,q⟩
  .show its.toArray.eraseIdxIfInBounds (zs.idxOf zz)=_;rw [List.eraseIdxIfInBounds_toArray]
  .rw [List.erase_eq_eraseIdx_of_idxOf (l:=zs) (a:=zz) (w:=rfl),xI];exact r.eraseIdx _
  .rw [B3,dP hm];rw [B3] at z;lia
theorem aih : QMt X "list.remove" qB:=⟨fun pins s Y H x xs v us Q I rx rv h=>ahc pins s Y H x xs v us Q I rx rv h⟩
theorem an6{l:Addr}{zs:List Int}{z:Int}(h:H l=some (.lst (zs.map V.int)))(hm:z∈zs)(q:Q .non (A0 H l (.lst ((zs.erase z).map V.int)))):qB (.ref l) [.int z] H Q:=⟨l,zs,z,rfl,rfl,h,hm,q⟩
noncomputable def rMinL:List V->Hp->VK->Prop:=fun xs H Q=>∃ (p:Addr) (ns:List Int),xs=[.ref p]/\H p=some (.lst (ns.map V.int))/\ns≠[]/\∀ M:Int,M∈ns->(∀ a∈ns,M<=a)->Q (.int M) H
theorem aii(hc:X.calm=true):CallR X (.builtin "min") rMinL:=by
 intro pins s Y H xs us Q I r h;obtain ⟨p,ns,rfl,hH,L9,q⟩:=h;obtain ⟨u,rfl,ru⟩:=vals1 r
 cases ru
 obtain ⟨z,its,n,rr,hl,e⟩:=I.lstM hH;have hi:=vT rr;have hL:s.heap.IsList p its.toArray:=⟨_,e,rfl,n,rfl⟩
 obtain ⟨ys,e2⟩:=hi.allInts.items;have bA:ns=ys.toList.map (·.1):=by rw [<- hi.numsOf,<- nums_intItems,<- e2]
 have hsz:0<ys.size:=by
  have h3:=List.length_pos_iff.mpr L9;rw [bA,B3,bX] at h3;exact h3
 rw [e2] at hL;refine min_intList (I.ok.hd hc) hL hsz fun v h' tk hv hk=>?_
 obtain ⟨t,rfl⟩:=intItems_at hv;obtain ⟨h1,h2⟩:=argBest_lt (numAt ys) (ys.size-1);refine ⟨.int _,H,I.kept hk,⟨t,rfl⟩,q _ ?_ fun a ha=>?_⟩
 .rw [bA,numAt_eq];exact getD_mem (by rw [B3,bX];lia)
 .rw [bA] at ha;obtain ⟨j,hj,rfl⟩:=mem_getD ha;rw [B3,bX] at hj;rw [<- numAt_eq];exact h2 j (by lia)
theorem an7(hc:X.calm=calm:=by rfl):QCall X (.builtin "min") (rCalm calm rMinL):=⟨fun pins s Y H xs us Q I r h=>aii (hc.trans h.1) pins s Y H xs us Q I r h.2⟩
theorem an8{p:Addr} : rMinL [.ref p] H Q=∃ ns:List Int,H p=some (.lst (ns.map V.int))/\ns≠[]/\∀ M:Int,M∈ns->(∀ a∈ns,M<=a)->Q (.int M) H:=
 propext ⟨fun ⟨_,ns,e,h⟩=>(by cases e;exact ⟨ns,h⟩),fun ⟨ns,h⟩=>⟨p,ns,rfl,h⟩⟩
noncomputable def eV (n:Nat) (fr:St) (Pv:Nat->List V->Hp->Prop) (i:Nat) (ys:List V) (σ2:St) (H2:Hp):Prop:=i<=n/\ys.length<=i/\(∃ v w,σ2=v::w::fr)/\Pv i ys H2
theorem eV.put{fr:St}{Pv:Nat->List V->Hp->Prop}{o o2:Option V}(hi:i<n)(hy:ys.length<=i)(p:Pv (i+1) (ys++[y]) H):eV n fr Pv (i+1) (ys++[y]) (o::o2::fr) H:=
 ⟨hi,by rw [G0,bO];lia,⟨_,_,rfl⟩,p⟩
theorem compE{l:Addr}(fr:St)(O3:compStart 2 ixs Y=none::none::fr)(Pv:Addr->Nat->List V->Hp->Prop)(h0:∀ D,H1 D=none->Pv D 0 [] (A0 H1 D (.lst [])))(hl:∀ D i ys H,H1 D=none->i<=xs.length->Pv D i ys H->H l=some (.lst xs))(hs:∀ D i x t ys H,H1 D=none->i<xs.length->xs[i]?=some x->Pv D i ys H->H D=some (.lst ys)->ys.length<=i->H t=none->c (some (.int i)::some x::fr) (A0 H t (.tup [.int i,x])) fun b H4=>
   if b=true then te (some (.int i)::some x::fr) H4 fun y H5=>H5 D=some (.lst ys)/\ys.length<sizeLine/\eV xs.length fr (Pv D) (i+1) (ys++[y]) (some (.int i)::some x::fr) (A0 H5 D (.lst (ys++[y])))
   else H4 D=some (.lst ys)/\eV xs.length fr (Pv D) (i+1) ys (some (.int i)::some x::fr) H4)(hd:∀ D ys H,H1 D=none->Pv D xs.length ys H->H D=some (.lst ys)->ys.length<=xs.length->Q (.ref D) H):cD (eS l) 2 ixs (gTup K 2 (gCons (gName 0) (gCons (gName 1) gNil))) c te Y Q H1:=by
 intro D hD;refine ⟨xs.length,eV xs.length fr (Pv D),⟨G8 _,G8 _,⟨none,none,O3⟩,h0 D hD⟩,?_⟩;rintro i ys σ2 H2 ⟨hi,hy,⟨v,w,rfl⟩,p⟩ hDy;have q:=hl D i ys H2 hD hi p
 by_cases D1:i<xs.length
 .refine .inr ⟨D1,⟨xs,xs[i],q,by simp [D1]⟩,fun x H' y=>?_⟩;obtain ⟨t,xs',x',f1,hx,ht,rfl,rfl⟩:=y;rw [q] at f1;cases f1;exact ⟨t,_,rfl,D0.of A6,rfl,_,_,rfl,_,_,rfl,rfl,hs D i x' t ys H2 hD D1 hx p hDy hy ht⟩
 .have e:i=xs.length:=by lia
  subst e;exact .inl ⟨⟨xs,q,C4 _⟩,hd D ys H2 hD p hDy hy⟩
end L2
set_option maxRecDepth 100000
namespace L2
open PySem PySem.Spec PyProof.Rows
section
variable {X:Cx} {o e:Expr} {apos cpos:Pos} {td ty:TE}
theorem ajW(ho:QE X o td)(he:QE X e ty)(h1:K8 e=false:=by rfl)(D8:attributeBase o "pop" X.env (eval o X.env)=eval o X.env:=by rfl)(E5:(apos.endLine==cpos.line)=true:=by rfl):QE X (.Call (.Attribute o "pop" apos) [e] [] cpos) (pB td ty):=
 ⟨aji ho.out he.out ⟨D8,by rw [O5 h1];rfl,E5,by rw [O5 h1];rfl⟩⟩
theorem ajX : pB td ty Y H Q=td Y H fun x H1=>∃ a,x=.ref a/\u4 H1 a/\ty Y H1 fun y H2=>∃ kvs k v,H2 a=some (.dK kvs)/\y=kV k/\valV kvs k=some v/\Q v (A0 H2 a (.dK (dropK kvs k))):=rfl
end
end L2
set_option maxRecDepth 100000
namespace L2
open PySem PySem.Spec PyProof.Rows
section
variable {X:Cx} {o value:Expr} {to tv:TE} {pos tpos:Pos} {st:Stmt} {t:TS} {h₀:ExceptHandler} {hs:List ExceptHandler}
end
end L2
set_option maxRecDepth 100000
namespace L2
open PySem PySem.Spec PyProof.Rows
end L2
set_option maxRecDepth 100000
namespace L2
open PySem PySem.Spec PyProof.Rows
noncomputable def FS (ts bad:List Str) (z:Str->Prop) (fr:List Int):Prop:=fr.Nodup/\∀ n:Int,n∈fr↔∃ (m:Nat) (q:Str),n=(m:Int)/\ts[m]?=some q/\q∉bad/\z q
theorem FS.nil(z:Str->Prop):FS [] [] z []:=⟨by simp,fun n=>by simp⟩
theorem FS.snoc{z:Str->Prop}(h:FS ts bad z fr)(hi:i=ts.length)(hb:q∉bad):(z q->FS (ts++[q]) bad z (fr++[(i:Int)]))/\(¬ z q->FS (ts++[q]) bad z fr):=by
 have M4:∀ (m:Nat) (x:Str),(ts++[q])[m]?=some x↔(ts[m]?=some x\/(m=i/\x=q)):=fun m x=>by
  rcases Nat.lt_trichotomy m ts.length with hm | hm | hm
  .rw [kZ hm]
   constructor
   .exact .inl
   .rintro (h | ⟨h,_⟩)
    .exact h
    .lia
  .subst hm;rw [kY (C4 _),Nat.sub_self]
   have:ts[ts.length]?=none:=by simp
   rw [this];simp [hi,eq_comm]
  .have h1:ts[m]?=none:=by simp;lia
   have h2:(ts++[q])[m]?=none:=by simp;lia
   rw [h1,h2]
   simp
   lia
 have i4:(i:Int)∉fr:=fun hm=>by
  obtain ⟨m,x,e,h1,_⟩:=(h.2 _).mp hm
  have:=(F6.mp h1).1
  lia
 refine ⟨fun hz=>⟨?_,fun n=>?_⟩,fun hz=>⟨h.1,fun n=>?_⟩⟩
 .rw [b9];refine ⟨h.1,by simp,fun x hx y hy e=>i4 ?_⟩;rw [<- F7.mp hy,<- e];exact hx
 .rw [G1,h.2,F7]
  constructor
  .rintro (⟨m,x,e,h1,h2,h3⟩ | rfl)
   .exact ⟨m,x,e,(M4 m x).mpr (.inl h1),h2,h3⟩
   .exact ⟨i,q,rfl,(M4 i q).mpr (.inr ⟨rfl,rfl⟩),hb,hz⟩
  .rintro ⟨m,x,e,h1,h2,h3⟩
   rcases (M4 m x).mp h1 with h1 | ⟨rfl,rfl⟩
   .exact .inl ⟨m,x,e,h1,h2,h3⟩
   .exact .inr e
 .rw [h.2]
  constructor
  .rintro ⟨m,x,e,h1,h2,h3⟩;exact ⟨m,x,e,(M4 m x).mpr (.inl h1),h2,h3⟩
  .rintro ⟨m,x,e,h1,h2,h3⟩
   rcases (M4 m x).mp h1 with h1 | ⟨rfl,rfl⟩
   .exact ⟨m,x,e,h1,h2,h3⟩
   .exact absurd h3 hz
theorem yB(nd:ts.Nodup)(h1:ts[i]?=some q)(h2:ts[j]?=some q):i=j:=by
 obtain ⟨a1,b1⟩:=F6.mp h1;obtain ⟨a2,b2⟩:=F6.mp h2
 have:=Y1.mp nd
 rw [gH] at this
 rcases Nat.lt_trichotomy i j with hl | hl | hl
 .exact absurd (b1.trans b2.symm) (this i j a1 a2 hl)
 .exact hl
 .exact absurd (b2.trans b1.symm) (this j i a2 a1 hl)
theorem FS.take{z:Str->Prop}(nd:ts.Nodup)(h:FS ts bad z fr){M:Nat}(hp:ts[M]?=some p):FS ts (bad++[p]) z (fr.erase (M:Int)):=by
 refine ⟨h.1.erase _,fun n=>?_⟩;rw [h.1.mem_erase_iff,h.2]
 constructor
 .rintro ⟨L9,m,x,e,h1,h2,h3⟩;refine ⟨m,x,e,h1,fun hm=>?_,h3⟩
  rcases G1.mp hm with hm | hm
  .exact h2 hm
  .rw [F7.mp hm] at h1;exact L9 (by rw [e,yB nd h1 hp])
 .rintro ⟨m,x,e,h1,h2,h3⟩;refine ⟨fun e2=>h2 ?_,m,x,e,h1,fun hm=>h2 (O4 _ hm),h3⟩
  have:m=M:=by lia
  subst this;rw [hp] at h1;cases h1
  simp
theorem FS.turn{z z':Str->Prop}(nd:ts.Nodup)(h:FS ts bad z fr){y:Str}(L9:∀ q,q≠y->(z' q↔z q))(hy:¬ z y)(hm:ts[m]?=some y)(hb:y∉bad):(z' y->FS ts bad z' (fr++[(m:Int)]))/\(¬ z' y->FS ts bad z' fr):=by
 have i4:(m:Int)∉fr:=fun h1=>by
  obtain ⟨k,x,e,h2,_,h3⟩:=(h.2 _).mp h1
  have:k=m:=by lia
  subst this;rw [hm] at h2;cases h2;exact hy h3
 have L6:∀ (k:Nat) (x:Str),ts[k]?=some x->x≠y\/(k=m/\x=y):=fun k x hk=>by
  by_cases e:x=y
  .subst e;exact .inr ⟨yB nd hk hm,rfl⟩
  .exact .inl e
 refine ⟨fun hz=>⟨?_,fun n=>?_⟩,fun hz=>⟨h.1,fun n=>?_⟩⟩
 .rw [b9];refine ⟨h.1,by simp,fun x hx w hw e=>i4 ?_⟩;rw [<- F7.mp hw,<- e];exact hx
 .rw [G1,h.2,F7]
  constructor
  .rintro (⟨k,x,e,h1,h2,h3⟩ | rfl)
   .rcases L6 k x h1 with c | ⟨_,rfl⟩
    .exact ⟨k,x,e,h1,h2,(L9 x c).mpr h3⟩
    .exact absurd h3 hy
   .exact ⟨m,y,rfl,hm,hb,hz⟩
  .rintro ⟨k,x,e,h1,h2,h3⟩
   rcases L6 k x h1 with c | ⟨rfl,rfl⟩
   .exact .inl ⟨k,x,e,h1,h2,(L9 x c).mp h3⟩
   .exact .inr e
 .rw [h.2]
  constructor
  .rintro ⟨k,x,e,h1,h2,h3⟩
   rcases L6 k x h1 with c | ⟨_,rfl⟩
   .exact ⟨k,x,e,h1,h2,(L9 x c).mpr h3⟩
   .exact absurd h3 hy
  .rintro ⟨k,x,e,h1,h2,h3⟩
   rcases L6 k x h1 with c | ⟨_,rfl⟩
   .exact ⟨k,x,e,h1,h2,(L9 x c).mp h3⟩
   .exact absurd h3 hz
theorem FS.congr{z z':Str->Prop}(h:FS ts bad z fr)(e:∀ q,z' q↔z q):FS ts bad z' fr:=⟨h.1,fun n=>by rw [h.2];exact ⟨fun ⟨m,x,a,b,c,d⟩=>⟨m,x,a,b,c,(e x).mpr d⟩,fun ⟨m,x,a,b,c,d⟩=>⟨m,x,a,b,c,(e x).mp d⟩⟩⟩
theorem afW{E:List (Str×Str)}(h:FS ts line (fun q=>E9 E line q=0) fr){M:Int}(hM:M∈fr)(i9:∀ a∈fr,M<=a):∃ (m:Nat) (p:Str),M=(m:Int)/\ts[m]?=some p/\nextP E ts line=some p:=by
 obtain ⟨m,p,e,h1,h2,h3⟩:=(h.2 M).mp hM;refine ⟨m,p,e,h1,?_⟩;rw [xN];obtain ⟨hm,rfl⟩:=F6.mp h1;have e1:ts=ts.take m++ts[m]::ts.drop (m+1):=by rw [<- gI hm,W8]
 generalize hP:(fun p=>!decide (p∈line)&&decide (∀ e∈E,e.2=p->e.1∈line))=P;have hp:P ts[m]=true:=by
  rw [<- hP];simp only [R1,l6,decide_eq_false_iff_not,decide_eq_true_eq];exact ⟨h2,cnt_zero.mp h3⟩
 have kB:(ts.take m).find? P=none:=by
  rw [List.find?_eq_none];intro x hx hxP;obtain ⟨k,hk,rfl⟩:=Z8.mp hx;rw [M6] at hk;rw [List.getElem_take,<- hP] at hxP;simp only [R1,l6,decide_eq_false_iff_not,decide_eq_true_eq] at hxP
  have:=i9 (k:Int) ((h.2 _).mpr ⟨k,ts[k],rfl,by simp,hxP.1,cnt_zero.mpr hxP.2⟩)
  lia
 conv=>lhs;rw [e1]
 rw [List.find?_append,kB,k8,hp];rfl
theorem ajY{E:List (Str×Str)}(r:R6 E ts line)(h:q∈line):E9 E line q=0:=by
 obtain ⟨pre,post,rfl⟩:=List.append_of_mem h
 have:=(iK (r pre q post rfl)).2.2
 rw [cnt_zero] at this ⊢
 intro e he h2;exact O4 _ (this e he h2)
theorem yC{f:Str->V} : ∀ {ts pre:List Str},(pre++ts).Nodup->X0 (A9 pre f) (A9 ts f)=A9 (pre++ts) f
 | [],pre,_=>by rw [M3];rfl
 | t::ts,pre,h=>by
  have ht:t∉pre:=fun hm=>(b9.mp h).2.2 t hm t N1 rfl
  show X0 (putK (A9 pre f) (Sum.inr t) (f t)) (A9 ts f)=_;rw [aI _ ht,show A9 (pre++[t]) (fun x=>if x=t then f t else f x)=A9 (pre++[t]) f from O6 fun x _=>by
   by_cases e:x=t
   .rw [if_pos e,e]
   .rw [if_neg e]]
  rw [yC (pre:=pre++[t]) (by simpa using h)]
  simp
theorem yD:∀ {l m:List Int},l.Nodup->(∀ x∈l,x∈m)->l.length<=m.length
 | [],_,_,_=>G8 _
 | x::l,m,nd,h=>by
  obtain ⟨n1,n2⟩:=Y2.mp nd;have hx:=h x N1
  have:=yD (l:=l) (m:=m.erase x) n2 fun y hy=>(List.mem_erase_of_ne (fun e=>n1 (by rw [<- e];exact hy))).mpr (h y (M5 _ hy))
  rw [dP hx] at this;have i8:=gK hx;rw [J9];lia
theorem yE{f:Str->V} : ∀ {qs:List Addr} {ts:List Str},Paired (fun q t=>H q=some (.tup [.str t,f t])) qs ts->Paired (fun q (kx:C2×V)=>D0 K H q [kV kx.1,kx.2]) qs (A9 ts f)
 | _,_,.nil=>.nil
 | _,_,.cons h t=>.cons (.of h) (yE t)
theorem forLs(Pv:Nat->St->Hp->Prop)(h0:Pv 0 Y H)(hl:∀ i Y H,i<=xs.length->Pv i Y H->D3 K H a xs)(hs:∀ (P':Nat->St->Hp->Prop) (B':St->Hp->Prop),(∀ i Y H,Pv i Y H->P' i Y H)->∀ i x Y H,xs[i]?=some x->Pv i Y H->g x Y H fun σ2 H2=>tb { D with nx:=P' (i+1),ct:=P' (i+1),bk:=B' } σ2 H2)(hd:∀ Y H,Pv xs.length Y H->D.nx Y H):ForIt (s0 K a) g tb D Y H:=forL Pv h0 hl (hs Pv _ fun _ _ _ h=>h) hd
theorem midS{t u:TS}(M:St->Hp->Prop)(h:∀ M':St->Hp->Prop,(∀ Y H,M Y H->M' Y H)->t { D with nx:=M' } Y H)(h2:∀ σ' H',M σ' H'->u D σ' H'):tSeqM t u D Y H:=⟨M,h M fun _ _ h=>h,h2⟩
noncomputable def qC:Sp:=fun vs H Q _=>∃ (a:Addr) (rs:List Addr) (zss:List (List Str)),vs=[.ref a]/\IsRows H a rs zss/\zss.flatten.length<=100000/\
 ∀ l H',H l=none->Same H H'->H' l=some (.lst ((toldL zss).map V.str))->Q (.ref l) H'
noncomputable def qD:Sp:=fun vs H Q _=>∃ c,vs=[.str ⟨#[c]⟩]/\Q (.bl (figO c)) H
noncomputable def K1 (R:List Rl):List (Str×List Str):=R.filterMap fun z=>if z.1=("great" : Str) then z.2.head?.map fun y=>(y,z.2.drop 1) else none
noncomputable def D5 (R:List Rl):List Str:=K0 [] ((K1 R).map (·.1))
noncomputable def E6 (R:List Rl) (y:Str):List Str:=((K1 R).filter fun e=>decide (e.1=y)).flatMap (·.2)
theorem mC(A B:List Rl):K1 (A++B)=K1 A++K1 B:=by
 unfold K1;rw [List.filterMap_append]
theorem qE{R:List Rl}{z:Rl}(h:R[i]?=some z):K1 (R.take (i+1))=K1 (R.take i)++K1 [z]:=by
 rw [K5 h,mC]
theorem mD{z:Rl}(h:z.1≠("great" : Str)):K1 [z]=[]:=by
 unfold K1;rw [bP,if_neg h];rfl
theorem qF{y:Str}{fs:List Str} : K1 [(("great" : Str),y::fs)]=[(y,fs)]:=by
 unfold K1;rw [bP,if_pos rfl];rfl
theorem qG{A:List Rl}{y:Str}{fs:List Str}(x:Str):E6 (A++[(("great" : Str),y::fs)]) x=if x=y then E6 A x++fs else E6 A x:=by
 unfold E6;rw [mC,qF,b8,Z9]
 by_cases h:x=y
 .subst h;simp
 .have:¬ (y=x):=fun e=>h e.symm
  simp [this,h]
theorem mE{A:List Rl}{y:Str}{fs:List Str} : D5 (A++[(("great" : Str),y::fs)])=dd (D5 A) y:=by
 unfold D5 K0;rw [mC,qF,G2,bQ];rfl
noncomputable def yF (K:PySem.W.Frag):Sp:=fun vs H Q _=>∃ (a:Addr) (ts:List Addr) (R:List Rl),vs=[.ref a]/\IsRules H a ts R/\(∀ z∈R,z.1=("great" : Str)->z.2≠[])/\R.length<=1000/\(∀ i y,(E6 (R.take i) y).length<=10000)/\
 ∀ d ad H',H d=none->Same H H'->H' d=some (.dK (A9 (D5 R) fun y=>.ref (ad y)))->DL H H' (D5 R) ad (E6 R)->Q (.ref d) H'
theorem qH(xs:List V)(h:i<=j):cutV xs (some (i:Int)) (some (j:Int))=(xs.drop i).take (j-i):=by
 unfold cutV;rw [HT.sIx_nat,HT.sIx_nat]
 by_cases hi:i<=xs.length
 .rw [dY hi]
  by_cases hj:j<=xs.length
  .rw [dY hj]
  .rw [Nat.min_eq_right (by lia),j7 (by rw [k6];exact C4 _),j7 (by rw [k6];lia)]
 .rw [Nat.min_eq_right (by lia:xs.length<=i),lA (C4 _),lA (by lia),List.take_nil,List.take_nil]
noncomputable abbrev Tr:=Int×Int×Int
noncomputable def tupT (s:Tr):HO:=.tup [.int s.1,.int s.2.1,.int s.2.2]
structure StepAt(H:Hp)(r:Addr)(ss:List Tr):Prop where
 ex:∃ ts:List Addr,H r=some (.tup (ts.map V.ref))/\Paired (fun t s=>H t=some (tupT s)) ts ss
theorem StepAt.same{ss:List Tr}(h:StepAt H r ss)(S:Same H H'):StepAt H' r ss:=
 let ⟨ts,h1,h2⟩:=h.ex
 ⟨ts,S _ _ h1,f6 h2 fun _ _ e=>S _ _ e⟩
theorem StepAt.put{d:Addr}{ss:List Tr}{o o':HO}(h:StepAt H r ss)(hd:H d=some o')(hn:∀ xs,o'≠.tup xs):StepAt (A0 H d o) r ss:=by
 obtain ⟨ts,h1,h2⟩:=h.ex;refine ⟨ts,?_,f6 h2 fun t s e=>?_⟩
 .rw [A7 (fun e=>by rw [e,hd] at h1;exact hn _ (Option.some.inj h1))];exact h1
 .rw [A7 (fun q=>by rw [q,hd] at e;exact hn _ (Option.some.inj e))];exact e
theorem StepAt.one{t:Addr}{s:Tr}(h1:H r=some (.tup [.ref t]))(h2:H t=some (tupT s)):StepAt H r [s]:=⟨[t],h1,.cons h2 .nil⟩
noncomputable def IsMade (H:Hp) (d:Addr) (ks:List Str) (F:Str->List Tr):Prop:=∃ ad:Str->Addr,H d=some (.dK (A9 ks fun y=>.ref (ad y)))/\∀ y∈ks,StepAt H (ad y) (F y)
theorem IsMade.same{d:Addr}{F:Str->List Tr}(h:IsMade H d ks F)(S:Same H H'):IsMade H' d ks F:=
 let ⟨ad,h1,h2⟩:=h
 ⟨ad,S _ _ h1,fun y hy=>(h2 y hy).same S⟩
theorem IsMade.put{d:Addr}{F:Str->List Tr}{ad:Str->Addr}(h1:H d=some (.dK (A9 ks fun y=>.ref (ad y))))(h2:∀ y∈ks,StepAt H (ad y) (F y)){l:Str}{p:Addr}(hp:StepAt H p (F l)) :
  IsMade (A0 H d (.dK (putK (A9 ks fun y=>.ref (ad y)) (Sum.inr l) (.ref p)))) d (dd ks l) F:=by
 refine ⟨fun y=>if y=l then p else ad y,?_,fun y hy=>?_⟩
 .rw [A6];have e:∀ t,(if t=l then V.ref p else V.ref (ad t))=V.ref (if t=l then p else ad t):=fun t=>by
   by_cases h:t=l
   .rw [if_pos h,if_pos h]
   .rw [if_neg h,if_neg h]
  unfold dd
  by_cases hl:l∈ks
  .rw [if_pos hl,iL _ hl];exact congrArg (fun x=>some (HO.dK x)) (O6 fun t _=>e t)
  .rw [if_neg hl,aI _ hl];exact congrArg (fun x=>some (HO.dK x)) (O6 fun t _=>e t)
 .by_cases h:y=l
  .subst h;show StepAt _ (if y=y then p else ad y) _;rw [if_pos rfl];exact hp.put h1 (by intro xs e;cases e)
  .show StepAt _ (if y=l then p else ad y) _;rw [if_neg h];refine (h2 y ?_).put h1 (by intro xs e;cases e);unfold dd at hy
   by_cases hl:l∈ks
   .rw [if_pos hl] at hy;exact hy
   .rw [if_neg hl] at hy
    rcases G1.mp hy with q | q
    .exact q
    .exact absurd (F7.mp q) h
structure StI(H H2:Hp)(d:Addr)(P:List Str)(F:Str->List Tr):Prop where
 same:Same H H2
 made:IsMade H2 d (K0 [] P) F
theorem ajZ(P:List Str)(x:Str):K0 [] (P++[x])=dd (K0 [] P) x:=by
 unfold K0;rw [bQ];rfl
theorem StI.putX{d:Addr}{P:List Str}{F:Str->List Tr}(nd:H d=none)(h:StI H H2 d P F)(hP:P.length<100000){l:Str}{p:Addr}(hp:StepAt H2 p (F l)) :
  ∃ kvs o,H2 d=some (.dK kvs)/\DPut H2 d (V.str l) (V.ref p) (A0 H2 d o)/\StI H (A0 H2 d o) d (P++[l]) F:=by
 obtain ⟨ad,h1,h2⟩:=h.made;have hl:=iB P [];rw [k7,Nat.zero_add] at hl;refine ⟨_,_,h1,l8 (k:=Sum.inr l) h1 (by rw [V8];exact K9 (by lia)),h.same.put nd,?_⟩;rw [ajZ];exact IsMade.put h1 h2 hp
theorem StI.put{d:Addr}{P:List Str}{F:Str->List Tr}(nd:H d=none)(h:StI H H2 d P F)(hP:P.length<100000){l:Str}{p:Addr}(hp:StepAt H2 p (F l)) :
  ∃ x,DPut H2 d (V.str l) (V.ref p) x/\StI H x d (P++[l]) F:=
 let ⟨_,_,_,h1,h2⟩:=h.putX nd hP hp
 ⟨_,h1,h2⟩
theorem StI.more{d:Addr}{P:List Str}{F:Str->List Tr}(h:StI H H2 d P F)(S:Same H2 H3):StI H H3 d P F:=⟨h.same.trans S,h.made.same S⟩
theorem StI.frz{d:Addr}{P:List Str}{F:Str->List Tr}{o:HO}(h:StI H H2 d P F)(hf:H2 f=some (.dK kvs))(n:H f=none)(nf:f≠d):StI H (A0 H2 f o) d P F:=
 let ⟨ad,h1,h2⟩:=h.made
 ⟨h.same.put n,ad,by rw [A7 nf.symm];exact h1,fun y hy=>(h2 y hy).put hf (by intro xs e;cases e)⟩
theorem StI.thaw{d:Addr}{P:List Str}{F:Str->List Tr}{q:Obj}{o o':HO}(h:StI H H2 d P F)(hf:H2 f=some (.frz q o'))(n:H f=none)(nf:f≠d):StI H (A0 H2 f o) d P F:=
 let ⟨ad,h1,h2⟩:=h.made
 ⟨h.same.put n,ad,by rw [A7 nf.symm];exact h1,fun y hy=>(h2 y hy).put hf (by intro xs e;cases e)⟩
structure FoI(H H2:Hp)(d f:Addr)(o:Obj)(ts:List Str)(af:Str->Addr)(G:Str->List Str)(P:List Str)(F:Str->List Tr):Prop where
 frz:H2 f=some (.frz o (.dK (A9 ts fun y=>.ref (af y))))
 rows:∀ y∈ts,H2 (af y)=some (.lst ((G y).map V.str))
 st:StI H H2 d P F
theorem FoI.more{d:Addr}{af:Str->Addr}{G:Str->List Str}{P:List Str}{F:Str->List Tr}(h:FoI H H2 d f o ts af G P F)(S:Same H2 H3):FoI H H3 d f o ts af G P F:=⟨S _ _ h.frz,fun y hy=>S _ _ (h.rows y hy),h.st.more S⟩
theorem FoI.put{d:Addr}{af:Str->Addr}{G:Str->List Str}{P:List Str}{F:Str->List Tr}(nd:H d=none)(h:FoI H H2 d f o ts af G P F)(hP:P.length<100000){l:Str}{p:Addr}(hp:StepAt H2 p (F l)) :
  ∃ x,DPut H2 d (V.str l) (V.ref p) x/\FoI H x d f o ts af G (P++[l]) F:=by
 obtain ⟨kvs,o',h0,h1,h2⟩:=h.st.putX nd hP hp;refine ⟨_,h1,?_,fun y hy=>?_,h2⟩
 .rw [A7 (fun e=>by have:=h.frz;rw [e,h0] at this;cases this)];exact h.frz
 .rw [A7 (fun e=>by have:=h.rows y hy;rw [e,h0] at this;cases this)];exact h.rows y hy
theorem StI.putL{d:Addr}{P:List Str}{F:Str->List Tr}{o:HO}(h:StI H H2 d P F)(hf:H2 f=some (.lst xs))(n:H f=none):StI H (A0 H2 f o) d P F:=
 let ⟨ad,h1,h2⟩:=h.made
 ⟨h.same.put n,ad,by rw [A7 (fun e=>by rw [e,hf] at h1;cases h1)];exact h1,fun y hy=>(h2 y hy).put hf (by intro xs e;cases e)⟩
structure AsI(H H7 H2:Hp)(d:Addr)(P:List Str)(F:Str->List Tr)(ts:List Addr)(ss:List Tr):Prop where
 st:StI H H2 d P F
 pr:Paired (fun t s=>H2 t=some (tupT s)) ts ss
 sm:Same H7 H2
theorem AsI.putL{H7:Hp}{d:Addr}{P:List Str}{F:Str->List Tr}{ts:List Addr}{ss:List Tr}{o:HO}(h:AsI H H7 H2 d P F ts ss)(hf:H2 f=some (.lst xs))(n:H f=none)(n7:H7 f=none):AsI H H7 (A0 H2 f o) d P F ts ss:=
 ⟨h.st.putL hf n,f6 h.pr fun t s e=>by rw [A7 (fun q=>by rw [q,hf] at e;cases e)];exact e,h.sm.put n7⟩
noncomputable def asKs (R:List Rl):List Str:=R.filterMap fun z=>if z.1=("as" : Str) then z.2.head? else none
theorem yG{R:List Rl}{z:Rl}(h:R[i]?=some z):asKs (R.take (i+1))=asKs (R.take i)++asKs [z]:=by
 rw [K5 h];unfold asKs;rw [List.filterMap_append]
theorem yH{z:Rl}(h:z.1≠("as" : Str)):asKs [z]=[]:=by
 unfold asKs;rw [bP,if_neg h];rfl
theorem yI{y:Str}{fs:List Str} : asKs [(("as" : Str),y::fs)]=[y]:=by
 unfold asKs;rw [bP,if_pos rfl];rfl
theorem aj0(R:List Rl):(asKs R).length<=R.length:=List.length_filterMap_le _ _
structure Made(R:List Rl)(L M:List Str)(F:Str->List Tr):Prop where
 lt:∀ (i:Nat) y,L[i]?=some y->F y=[(2,(i:Int),0)]
 mr:∀ (i:Nat) y,M[i]?=some y->F y=[(0,(i:Int),0)]
 gl:∀ y∈D5 R,y∈L
 gr:∀ y∈D5 R,∀ (c:Nat) f,(E6 R y)[c]?=some f->F f=[(2,(L.idxOf y:Int),((c+1:Nat):Int))]
 ne:∀ z∈R,z.1=("as" : Str)\/z.1=("great" : Str)->z.2≠[]
 pt:∀ z∈R,z.1=("as" : Str)->∀ q∈z.2.drop 1,q∈L\/q∈M
 as:∀ z∈R,z.1=("as" : Str)->∀ p qs,z.2=p::qs->F p=qs.map fun q=>(F q).headD (0,0,0)
noncomputable def allKs (R:List Rl) (L M:List Str):List Str:=L++M++(D5 R).flatMap (E6 R)++asKs R
theorem Made.base{R:List Rl}{F:Str->List Tr}(m:Made R L M F)(h:q∈L\/q∈M):∃ s,F q=[s]:=by
 rcases h with h | h
 .obtain ⟨i,hi,e⟩:=Z8.mp h;exact ⟨_,m.lt i q (by rw [N7 hi,e])⟩
 .obtain ⟨i,hi,e⟩:=Z8.mp h;exact ⟨_,m.mr i q (by rw [N7 hi,e])⟩
theorem Made.letter{R:List Rl}{F:Str->List Tr}(m:Made R L M F)(h:q∈L):F q=[(2,(L.idxOf q:Int),0)]:=by
 have hi:=gJ.mpr h;exact m.lt (L.idxOf q) q (by rw [N7 hi,List.getElem_idxOf])
noncomputable def yJ (K:PySem.W.Frag):Sp:=fun vs H Q _=>∃ (a b c:Addr) (ts:List Addr) (R:List Rl) (L M:List Str) (F:Str->List Tr),vs=[.ref a,.ref b,.ref c]/\IsRules H a ts R/\Made R L M F/\H b=some (.lst (L.map V.str))/\H c=some (.lst (M.map V.str))/\(∀ z∈R,z.2.length<=1000)/\R.length<=1000/\(∀ i y,(E6 (R.take i) y).length<=10000)/\(allKs R L M).length<=50000/\
 ∀ d H',H d=none->Same H H'->IsMade H' d (K0 [] (allKs R L M)) F->Q (.ref d) H'
noncomputable def baseT (L M:List Str) (q:Str):Tr:=if q∈L then (2,(L.idxOf q:Int),0) else (0,(M.idxOf q:Int),0)
noncomputable def qI (L M:List Str) (R:List Rl):List (Str×List Tr):=R.filterMap fun z=>if z.1=("as" : Str) then z.2.head?.map fun p=>(p,(z.2.drop 1).map (baseT L M)) else none
noncomputable def putsL (R:List Rl) (L M:List Str):List (Str×List Tr):=
 (L.zipIdx.map fun e=>(e.1,[((2:Int),(e.2:Int),(0:Int))]))++(M.zipIdx.map fun e=>(e.1,[((0:Int),(e.2:Int),(0:Int))]))++((D5 R).flatMap fun y=>(E6 R y).zipIdx.map fun e=>(e.1,[((2:Int),(L.idxOf y:Int),((e.2+1:Nat):Int))]))++qI L M R
noncomputable def stepF (R:List Rl) (L M:List Str) (p:Str):List Tr:=((putsL R L M).lookup p).getD []
theorem yK{s:List Tr} : ∀ {l:List (Str×List Tr)},(l.map (·.1)).Nodup->(p,s)∈l->l.lookup p=some s
 | [],_,h=>by cases h
 | (y,t)::l,nd,h=>by
  rw [G3,Y2] at nd;rw [List.lookup_cons]
  rcases G4.mp h with h | h
  .obtain ⟨rfl,rfl⟩:=Prod.mk.inj h
   simp
  .have:p≠y:=fun e=>nd.1 (E7.mpr ⟨_,h,e⟩)
   have e:(p==y)=false:=by simpa using this
   rw [e];exact yK nd.2 h
theorem aio(R:List Rl)(L M:List Str):(putsL R L M).map (·.1)=allKs R L M:=by
 have z:∀ (l:List Str) (f:Nat->List Tr),(l.zipIdx.map fun e=>(e.1,f e.2)).map (·.1)=l:=fun l f=>by
  rw [k9];exact List.zipIdx_map_fst 0 l
 have a:(qI L M R).map (·.1)=asKs R:=by
  unfold qI asKs;rw [List.map_filterMap]
  congr 1
  funext z
  by_cases h:z.1=("as" : Str)
  .rw [if_pos h,if_pos h]
   cases z.2 <;> rfl
  .rw [if_neg h,if_neg h];rfl
 unfold putsL allKs;rw [G2,G2,G2,z L fun i=>[(2,(i:Int),0)],z M fun i=>[(0,(i:Int),0)],a,List.map_flatMap]
 congr 2
 congr 1
 funext y
 exact z (E6 R y) fun i=>[(2,(L.idxOf y:Int),((i+1:Nat):Int))]
theorem eW{R:List Rl}(nd:(allKs R L M).Nodup){s:List Tr}(h:(p,s)∈putsL R L M):stepF R L M p=s:=by
 unfold stepF;rw [yK (by rw [aio];exact nd) h];rfl
theorem al3{R:List Rl}(nd:(allKs R L M).Nodup)(gl:∀ y∈D5 R,y∈L)(ne:∀ z∈R,z.1=("as" : Str)\/z.1=("great" : Str)->z.2≠[])(pt:∀ z∈R,z.1=("as" : Str)->∀ q∈z.2.drop 1,q∈L\/q∈M):Made R L M (stepF R L M):=by
 have m1:∀ (i:Nat) y,L[i]?=some y->(y,[((2:Int),(i:Int),(0:Int))])∈putsL R L M:=fun i y h=>by
  refine O4 _ (O4 _ (O4 _ (E7.mpr ⟨(y,i),?_,rfl⟩)));rw [List.mem_zipIdx_iff_getElem?];exact h
 have m2:∀ (i:Nat) y,M[i]?=some y->(y,[((0:Int),(i:Int),(0:Int))])∈putsL R L M:=fun i y h=>by
  refine O4 _ (O4 _ (O8 _ (E7.mpr ⟨(y,i),?_,rfl⟩)));rw [List.mem_zipIdx_iff_getElem?];exact h
 have hb:∀ q,q∈L\/q∈M->stepF R L M q=[baseT L M q]:=fun q hq=>by
  unfold baseT
  by_cases h:q∈L
  .rw [if_pos h];have hi:=gJ.mpr h;exact eW nd (m1 (L.idxOf q) q (by rw [N7 hi,List.getElem_idxOf]))
  .rw [if_neg h];have hm:=hq.resolve_left h;have hi:=gJ.mpr hm;exact eW nd (m2 (M.idxOf q) q (by rw [N7 hi,List.getElem_idxOf]))
 refine ⟨fun i y h=>eW nd (m1 i y h),fun i y h=>eW nd (m2 i y h),gl,fun y hy c f h=>eW nd ?_,ne,pt,fun z hz e p qs ez=>?_⟩
 .refine O4 _ (O8 _ (j9.mpr ⟨y,hy,E7.mpr ⟨(f,c),?_,rfl⟩⟩));rw [List.mem_zipIdx_iff_getElem?];exact h
 .have:(p,qs.map (baseT L M))∈putsL R L M:=O8 _ (List.mem_filterMap.mpr ⟨z,hz,by rw [if_pos e,ez];rfl⟩)
  rw [eW nd this];refine gN fun q hq=>?_
  rw [hb q (pt z hz e q (by rw [ez];exact hq))];rfl
theorem al4{g:Str->Str}{PL:List (Str×Str)}(nc:NC fg g PL):PL.Pairwise fun a b=>a.1=b.1->b.2∈f9:=by
 rw [gH];intro i j hi hj dH e;refine (nc j PL[j].1 PL[j].2 (by rw [N7 hj])).2.1 ?_;rw [<- e];refine E7.mpr ⟨PL[i],?_,rfl⟩;rw [List.mem_take_iff_getElem];exact ⟨i,by lia,rfl⟩
theorem iO{g:Str->Str}{PL:List (Str×Str)}(nc:NC fg g PL){j:Str}(h:(p,j)∈PL):g p=j:=by
 obtain ⟨i,hi,e⟩:=Z8.mp h;exact (nc i p j (by rw [N7 hi,e])).1.symm
theorem yL{g:Str->Str}{PL:List (Str×Str)}(nc:NC fg g PL){j:Str}(hj:j∉f9):((PL.filter fun e=>decide (e.2=j)).map (·.1)).Nodup:=by
 rw [Y1,List.pairwise_map];refine List.Pairwise.imp_of_mem ?_ ((al4 nc).filter _);intro a b _ hb h e
 have:=h e
 have hb2:b.2=j:=by simpa using (N2.mp hb).2
 rw [hb2] at this;exact hj this
theorem mF{w:Str}(h:T5 w):(jobD w=("great" : Str)↔w="great")/\(jobD w=("as" : Str)↔w="as")/\(jobD w=("letter" : Str)↔w="row")/\(jobD w=("mark" : Str)↔w="marks")/\(jobD w=("over" : Str)↔w="over"):=by
 rcases h with rfl | rfl | rfl | rfl | rfl <;> decide +kernel
theorem yM{R:List Rl}{j:Str} : (p,j)∈C5 R↔∃ z∈R,p∈D7 z/\jobD z.1=j:=by
 unfold C5;rw [j9]
 constructor
 .rintro ⟨z,hz,h⟩;obtain ⟨q,hq,e⟩:=E7.mp h;obtain ⟨rfl,rfl⟩:=Prod.mk.inj e;exact ⟨z,hz,hq,rfl⟩
 .rintro ⟨z,hz,hp,rfl⟩;exact ⟨z,hz,E7.mpr ⟨p,hp,rfl⟩⟩
theorem yN(z:Rl)(R:List Rl):C5 (z::R)=((D7 z).map fun p=>(p,jobD z.1))++C5 R:=by
 unfold C5;rw [y4]
theorem aM{z:Rl} : (z.1=("great" : Str)->D7 z=z.2.drop 1)/\(z.1=("as" : Str)->D7 z=z.2.take 1)/\(z.1=("row" : Str)\/z.1=("marks" : Str)\/z.1=("over" : Str)->D7 z=z.2):=by
 unfold D7;refine ⟨fun h=>by rw [if_pos h],fun h=>?_,fun h=>?_⟩
 .rw [if_neg (by rw [h];decide +kernel),if_pos h]
 .rw [if_neg,if_neg,if_pos h]
  .rcases h with h | h | h <;> rw [h] <;> decide +kernel
  .rcases h with h | h | h <;> rw [h] <;> decide +kernel
theorem iP:∀ R:List Rl,((C5 R).filter fun e=>decide (e.2=("great" : Str))).map (·.1)=(K1 R).flatMap (·.2)
 | []=>rfl
 | z::R=>by
  rw [yN,b8,G2,iP R];have e:K1 (z::R)=K1 [z]++K1 R:=mC [z] R;rw [e,Z9]
  congr 1
  by_cases h:z.1=("great" : Str)
  .obtain ⟨w,ps⟩:=z;obtain rfl:w=("great" : Str):=h;rw [aM.1 rfl,List.filter_eq_self.mpr,k9]
   .cases ps with
    | nil=>simp [K1]
    | cons y fs=>
     rw [qF];show List.map _ fs=_;simp [Function.comp_def]
   .intro a ha;obtain ⟨q,_,rfl⟩:=E7.mp ha;exact decide_eq_true (show jobD "great"=("great" : Str) by decide +kernel)
  .rw [mD h,dQ.mpr]
   .rfl
   .intro a ha;obtain ⟨q,hq,rfl⟩:=E7.mp ha
    have:=(mF (cN hq)).1
    simp only [decide_eq_true_eq];exact fun e=>h (this.mp e)
theorem mG:∀ R:List Rl,((C5 R).filter fun e=>decide (e.2=("as" : Str))).map (·.1)=asKs R
 | []=>rfl
 | z::R=>by
  rw [yN,b8,G2,mG R];have e:asKs (z::R)=asKs [z]++asKs R:=by unfold asKs;rw [<- List.filterMap_append];rfl
  rw [e]
  congr 1
  by_cases h:z.1=("as" : Str)
  .obtain ⟨w,ps⟩:=z;obtain rfl:w=("as" : Str):=h;rw [aM.2.1 rfl,List.filter_eq_self.mpr,k9]
   .cases ps with
    | nil=>simp [asKs]
    | cons y fs=>
     rw [yI];rfl
   .intro a ha;obtain ⟨q,_,rfl⟩:=E7.mp ha;exact decide_eq_true (show jobD "as"=("as" : Str) by decide +kernel)
  .rw [yH h,dQ.mpr]
   .rfl
   .intro a ha;obtain ⟨q,hq,rfl⟩:=E7.mp ha
    have:=(mF (cN hq)).2.1
    simp only [decide_eq_true_eq];exact fun e=>h (this.mp e)
theorem yO{R:List Rl}{w:Str} : p∈(rowsW R w).flatten↔∃ z∈R,z.1=w/\p∈z.2:=by
 unfold rowsW;rw [gP]
 constructor
 .rintro ⟨l,hl,hp⟩;obtain ⟨z,hz,rfl⟩:=E7.mp hl;obtain ⟨h1,h2⟩:=N2.mp hz;exact ⟨z,h1,by simpa using h2,hp⟩
 .rintro ⟨z,hz,e,hp⟩;exact ⟨z.2,E7.mpr ⟨z,N2.mpr ⟨hz,by simpa using e⟩,rfl⟩,hp⟩
theorem mem_letter{R:List Rl} : (p,("letter" : Str))∈C5 R↔p∈(rowsW R "row").flatten:=by
 rw [yM,yO]
 constructor
 .rintro ⟨z,hz,hp,e⟩
  have:=(mF (cN hp)).2.2.1.mp e
  exact ⟨z,hz,this,by rw [aM.2.2 (.inl this)] at hp;exact hp⟩
 .rintro ⟨z,hz,e,hp⟩;exact ⟨z,hz,by rw [aM.2.2 (.inl e)];exact hp,by rw [e];decide +kernel⟩
theorem mem_mark{R:List Rl} : (p,("mark" : Str))∈C5 R↔p∈(rowsW R "marks").flatten:=by
 rw [yM,yO]
 constructor
 .rintro ⟨z,hz,hp,e⟩
  have:=(mF (cN hp)).2.2.2.1.mp e
  exact ⟨z,hz,this,by rw [aM.2.2 (.inr (.inl this))] at hp;exact hp⟩
 .rintro ⟨z,hz,e,hp⟩;exact ⟨z,hz,by rw [aM.2.2 (.inr (.inl e))];exact hp,by rw [e];decide +kernel⟩
theorem aiq{zss:List (List Str)} : p∈toldL zss↔p∈zss.flatten:=by
 unfold toldL;rw [lT,aJ]
 simp
theorem aN{R:List Rl}{w:Str}(h:U6 R w L) : p∈L↔p∈(rowsW R w).flatten:=by
 rw [<- aiq];exact ⟨h.1.sub,h.2 p⟩
structure GoodR(g:Str->Str)(r1 r2:Str->Nat)(R:List Rl):Prop where
 len:R.length<=1000
 plen:(C5 R).length<=10000
 nc:NC (hasW R "figures") g (C5 R)
 nb:(" " : Str)∉(C5 R).map (·.1)
 zl:∀ z∈R,z.2.length<=1000
 ne:∀ z∈R,z.1=("as" : Str)\/z.1=("great" : Str)->z.2≠[]
 gl:∀ z∈R,z.1=("great" : Str)->∀ p∈z.2.take 1,(p,("letter" : Str))∈C5 R
 al:∀ z∈R,z.1=("as" : Str)->∀ p∈(z.2.drop 1).take 1,(p,("letter" : Str))∈C5 R
 am:∀ z∈R,z.1=("as" : Str)->∀ p∈z.2.drop 2,(p,("letter" : Str))∈C5 R\/(p,("mark" : Str))∈C5 R
 f1:(rowsW R "row").flatten.length<=10000
 f2:(rowsW R "marks").flatten.length<=10000
 a1:∀ e∈edges (rowsW R "row"),r1 e.1<r1 e.2
 a2:∀ e∈edges (rowsW R "marks"),r2 e.1<r2 e.2
theorem forms_mem{R:List Rl}{y f:Str} : f∈E6 R y↔∃ e∈K1 R,e.1=y/\f∈e.2:=by
 unfold E6;rw [j9]
 constructor
 .rintro ⟨e,he,hf⟩;obtain ⟨h1,h2⟩:=N2.mp he;exact ⟨e,h1,by simpa using h2,hf⟩
 .rintro ⟨e,he,h,hf⟩;exact ⟨e,N2.mpr ⟨he,by simpa using h⟩,hf⟩
theorem mem_formKs{R:List Rl}{y:Str} : y∈D5 R↔∃ e∈K1 R,e.1=y:=by
 unfold D5;rw [aJ,E7]
 simp
theorem yP{g:Str->Str}{r1 r2:Str->Nat}{R:List Rl}(h:GoodR g r1 r2 R)(hL:U6 R "row" L)(hM:U6 R "marks" M):(allKs R L M).Nodup:=by
 have Z:((K1 R).flatMap (·.2)).Nodup:=by rw [<- iP];exact yL h.nc (by decide +kernel)
 have jl:∀ p∈L,g p="letter":=fun p hp=>iO h.nc (mem_letter.mpr ((aN hL).mp hp))
 have jm:∀ p∈M,g p="mark":=fun p hp=>iO h.nc (mem_mark.mpr ((aN hM).mp hp))
 have jf:∀ p∈(D5 R).flatMap (E6 R),g p="great":=fun p hp=>by
  obtain ⟨y,_,hp⟩:=j9.mp hp;obtain ⟨e,he,_,hf⟩:=forms_mem.mp hp
  have:p∈(K1 R).flatMap (·.2):=j9.mpr ⟨e,he,hf⟩
  rw [<- iP] at this;obtain ⟨⟨q,j⟩,hq,rfl⟩:=E7.mp this;obtain ⟨h1,h2⟩:=N2.mp hq;have h2:j=("great" : Str):=by simpa using h2
  subst h2;exact iO h.nc h1
 have ja:∀ p∈asKs R,g p="as":=fun p hp=>by
  rw [<- mG] at hp;obtain ⟨⟨q,j⟩,hq,rfl⟩:=E7.mp hp;obtain ⟨h1,h2⟩:=N2.mp hq;have h2:j=("as" : Str):=by simpa using h2
  subst h2;exact iO h.nc h1
 have nf:((D5 R).flatMap (E6 R)).Nodup:=by
  rw [Y1,List.pairwise_flatMap] at Z ⊢
  obtain ⟨z1,z2⟩:=Z;refine ⟨fun y _=>?_,?_⟩
  .unfold E6;rw [List.pairwise_flatMap];exact ⟨fun e he=>z1 e (N2.mp he).1,z2.filter _⟩
  .have nk:(D5 R).Nodup:=by unfold D5;exact pR (by simp)
   refine List.Pairwise.imp ?_ (Y1.mp nk);intro y y' hyy f hf f' hf' e;subst e;obtain ⟨e1,h1,r1,f1⟩:=forms_mem.mp hf;obtain ⟨e2,h2,r2,f2⟩:=forms_mem.mp hf';obtain ⟨i,hi,q1⟩:=Z8.mp h1;obtain ⟨j,hj,q2⟩:=Z8.mp h2;rw [gH] at z2
   rcases Nat.lt_trichotomy i j with c | c | c
   .exact z2 i j hi hj c f (by rw [q1];exact f1) f (by rw [q2];exact f2) rfl
   .subst c;exact hyy (by rw [<- r1,<- r2,<- q1,<- q2])
   .exact z2 j i hj hi c f (by rw [q2];exact f2) f (by rw [q1];exact f1) rfl
 have na:(asKs R).Nodup:=by rw [<- mG];exact yL h.nc (by decide +kernel)
 have n1:("letter" : Str)≠"mark"/\("letter" : Str)≠"great"/\("letter" : Str)≠"as"/\("mark" : Str)≠"great"/\("mark" : Str)≠"as"/\("great" : Str)≠"as":=by decide +kernel
 unfold allKs;rw [b9,b9,b9];refine ⟨⟨⟨hL.1.nodup,hM.1.nodup,fun a ha b hb e=>?_⟩,nf,fun a ha b hb e=>?_⟩,na,fun a ha b hb e=>?_⟩
 .subst e;exact n1.1 ((jl a ha).symm.trans (jm a hb))
 .subst e
  rcases G1.mp ha with ha | ha
  .exact n1.2.1 ((jl a ha).symm.trans (jf a hb))
  .exact n1.2.2.2.1 ((jm a ha).symm.trans (jf a hb))
 .subst e
  rcases G1.mp ha with ha | ha
  .rcases G1.mp ha with ha | ha
   .exact n1.2.2.1 ((jl a ha).symm.trans (ja a hb))
   .exact n1.2.2.2.2.1 ((jm a ha).symm.trans (ja a hb))
  .exact n1.2.2.2.2.2 ((jf a ha).symm.trans (ja a hb))
theorem al5{g:Str->Str}{r1 r2:Str->Nat}{R:List Rl}(h:GoodR g r1 r2 R)(hL:U6 R "row" L)(hM:U6 R "marks" M):Made R L M (stepF R L M):=by
 refine al3 (yP h hL hM) (fun y hy=>?_) h.ne fun z hz e q hq=>?_
 .obtain ⟨e,he,rfl⟩:=mem_formKs.mp hy;unfold K1 at he;obtain ⟨z,hz,hh⟩:=List.mem_filterMap.mp he
  by_cases hg:z.1=("great" : Str)
  .rw [if_pos hg] at hh;obtain ⟨w,ps⟩:=z
   cases ps with
   | nil=>cases hh
   | cons y fs=>
    have hh:=Option.some.inj hh;rw [<- hh];exact (aN hL).mpr (mem_letter.mp (h.gl _ hz hg y (by simp)))
  .rw [if_neg hg] at hh;cases hh
 .rw [<- W8 1 (z.2.drop 1)] at hq
  rcases G1.mp hq with hq | hq
  .exact .inl ((aN hL).mpr (mem_letter.mp (h.al z hz e q hq)))
  .rw [List.drop_drop] at hq
   rcases h.am z hz e q hq with h1 | h1
   .exact .inl ((aN hL).mpr (mem_letter.mp h1))
   .exact .inr ((aN hM).mpr (mem_mark.mp h1))
theorem al6{g:Str->Str}{r1 r2:Str->Nat}{R:List Rl}(h:GoodR g r1 r2 R)(hL:U6 R "row" L)(hM:U6 R "marks" M):(allKs R L M).length<=10000:=by
 refine E1 ?_ h.plen
 have:=List.Nodup.length_le_of_subset (l₂:=(C5 R).map (·.1)) (yP h hL hM) fun p hp=>by
  unfold allKs at hp
  rcases G1.mp hp with hp | hp
  .rcases G1.mp hp with hp | hp
   .rcases G1.mp hp with hp | hp
    .exact E7.mpr ⟨_,mem_letter.mpr ((aN hL).mp hp),rfl⟩
    .exact E7.mpr ⟨_,mem_mark.mpr ((aN hM).mp hp),rfl⟩
   .obtain ⟨y,_,hp⟩:=j9.mp hp;obtain ⟨e,he,_,hf⟩:=forms_mem.mp hp
    have:p∈(K1 R).flatMap (·.2):=j9.mpr ⟨e,he,hf⟩
    rw [<- iP] at this;obtain ⟨q,hq,rfl⟩:=E7.mp this;exact E7.mpr ⟨q,(N2.mp hq).1,rfl⟩
  .rw [<- mG] at hp;obtain ⟨q,hq,rfl⟩:=E7.mp hp;exact E7.mpr ⟨q,(N2.mp hq).1,rfl⟩
 rw [B3] at this;exact this
theorem air{g:Str->Str}{r1 r2:Str->Nat}{R:List Rl}(h:GoodR g r1 r2 R)(i:Nat)(y:Str):(E6 (R.take i) y).length<=10000:=by
 refine E1 ?_ h.plen;have h1:(E6 (R.take i) y).length<=((K1 (R.take i)).flatMap (·.2)).length:=by
  unfold E6;generalize K1 (R.take i)=E
  induction E with
  | nil=>exact C4 _
  | cons e E ih=>
   rw [List.filter_cons]
   split
   .rw [y4,y4,G0,G0];lia
   .rw [y4,G0];lia
 have h2:((K1 (R.take i)).flatMap (·.2)).length<=(C5 (R.take i)).length:=by
  rw [<- iP,B3];exact gM _ _
 obtain ⟨more,e⟩:=xS R i;rw [e,G0];lia
theorem IsMade.mod{d:Addr}{F:Str->List Tr}{o o':HO}(h:IsMade H d ks F)(ha:H a=some o')(hn:∀ xs,o'≠.tup xs)(nd:d≠a):IsMade (A0 H a o) d ks F:=
 let ⟨ad,h1,h2⟩:=h
 ⟨ad,by rw [A7 nd];exact h1,fun y hy=>(h2 y hy).put ha hn⟩
structure IsOrd(C:Addr)(H:Hp)(x j ll ml md:Addr)(g:Str->Str)(R:List Rl)(L M:List Str):Prop where
 ob:∃ dx,H x=some (.ins C dx (ordF (hasW R "figures") (hasW R "behind") j ll ml md))
 jobs:H j=some (.dK (A9 (keysP (C5 R)++X3 R) (jobG g)))
 lets:H ll=some (.lst (L.map V.str))
 mrks:H ml=some (.lst (M.map V.str))
 made:IsMade H md (K0 [] (allKs R L M)) (stepF R L M)
 l1:U6 R "row" L
 l2:U6 R "marks" M
end L2
set_option maxRecDepth 100000
namespace L2
open PySem PySem.Spec PyProof.Rows
structure RulesAt(H0 H:Hp)(a:Addr)(ts:List Addr)(R:List Rl):Prop where
 rows:IsRules H a ts R
 nd:(a::ts).Nodup
 new:∀ r∈a::ts,H0 r=none
 same:Same H0 H
theorem RulesAt.live{R:List Rl}(h:RulesAt H0 H a rs R)(hr:r∈a::rs):∃ o,H r=some o:=by
 rcases G4.mp hr with h' | h'
 .subst h';exact ⟨_,h.rows.top⟩
 .obtain ⟨i,hi,rfl⟩:=Z8.mp h';obtain ⟨zs,_,h2⟩:=Paired.at h.rows.row (i:=i) (a:=rs[i]) (by simp [hi]);exact ⟨_,h2⟩
theorem RulesAt.grow{q:Addr}{R:List Rl}(h:RulesAt H0 H a rs R)(S:Same H H')(hq:H q=none){z:Rl}(U9:H' q=some (tupR z)):RulesAt H0 (A0 H' a (.lst (rs.map V.ref++[V.ref q]))) a (rs++[q]) (R++[z]):=by
 have nq:∀ r∈a::rs,r≠q:=fun r hr e=>by
  obtain ⟨o,e'⟩:=h.live hr;rw [e,hq] at e';cases e'
 obtain ⟨na,_⟩:=Y2.mp h.nd;refine ⟨⟨by rw [A6,G2];rfl,?_⟩,?_,?_,?_⟩
 .refine Paired.snoc (pI h.rows.row fun r hr zs h=>?_) ?_
  .rw [A7 (fun e:r=a=>na (by rw [<- e];exact hr))];exact S _ _ h
  .rw [A7 (nq a N1).symm];exact U9
 .show (a::(rs++[q])).Nodup;exact pC h.nd fun e=>nq q e rfl
 .intro r hr
  rcases G4.mp hr with e | e
  .exact h.new r (by rw [e];exact N1)
  .rcases G1.mp e with e | e
   .exact h.new r (M5 _ e)
   .rw [F7.mp e];exact h.same.free hq
 .exact (h.same.trans S).put (h.new a N1)
noncomputable def ruleD (z:Rl):PyData:=.tuple ((z.1::z.2).map .str)
theorem aj1(z:Rl):Q7 (ruleD z) (ruleD z)=true:=by
 unfold ruleD;rw [Q7,pF]
 simp
theorem yQ:∀ R:List Rl,z9 (R.map ruleD) (R.map ruleD)=true
 | []=>by simp [z9]
 | z::R=>by rw [G3,z9,aj1,yQ R];rfl
theorem ais(R:List Rl):Q7 (.list (R.map ruleD)) (.list (R.map ruleD))=true:=by rw [Q7,yQ]
theorem ahd(z:Rl):(ruleD z).depth<=1:=by
 unfold ruleD;rw [PyData.depth,wQ];decide
theorem qJ:∀ R:List Rl,r8 (R.map ruleD)<=1
 | []=>G8 _
 | z::R=>by
  rw [G3,r8];have h1:=ahd z;have h2:=qJ R;lia
theorem yR : ∀ {rs:List Addr} {R:List Rl},Paired (fun r z=>H r=some (tupR z)) rs R->(∀ z∈R,∀ y∈z.1::z.2,P7 y=true)->DnAll K H (rs.map V.ref) (R.map ruleD)
 | _,_,.nil,_=>.nil
 | _,_,.cons h t,hz=>.cons (.tup (.of h) (lN (hz _ N1))) (yR t fun z tF=>hz z (M5 _ tF))
theorem qK{R:List Rl}(h:IsRules H a rs R)(hz:∀ z∈R,∀ y∈z.1::z.2,P7 y=true):Dn K H (.ref a) (.list (R.map ruleD)):=.lst (.of h.top) (yR h.row hz)
noncomputable def qL (ns:List Int) (k:Int) (p:Str):Prop:=∃ rest:List Nat,p.cps.toList=eT ns k::rest/\rest.length<=1/\∀ c∈rest,∃ m:Int,c=eT ns m
noncomputable def yS (ns:List Int) (S:Int->Prop) (p:Str):Prop:=∃ k,S k/\qL ns k p
structure Dis(ns:List Int)(S:Int->Prop)(ps:List Str):Prop where
 nd:ps.Nodup
 pc:∀ p∈ps,yS ns S p
 uq:∀ p∈ps,∀ q∈ps,∀ k:Int,20<=k->k<83->qL ns k p->qL ns k q->p=q
noncomputable def LetS (k:Int):Prop:=0<=k/\k<16
structure LetW(ns:List Int)(n:Int)(ps:List Str):Prop where
 n0:2<=n
 n1:n<=16
 all:∀ k:Int,0<=k->k<n->one (eT ns k)∈ps
 each:∀ p∈ps,∃ k:Int,0<=k/\k<n/\(p=one (eT ns k)\/∃ m:Int,0<=m/\m<n/\p=one (eT ns k)++one (eT ns m))
noncomputable def OthZ (ls ms:List Str) (z:Rl):Prop:=(z.1=("great" : Str)/\∃ l fs,z.2=l::fs/\l∈ls/\1<=fs.length/\fs.length<=2)\/(z.1=("as" : Str)/\∃ p q qs,z.2=p::q::qs/\q∈ls/\(∀ r∈qs,r∈ls\/r∈ms)/\qs.length<=2)\/(z.1=("over" : Str)/\z.2.length<=2)
noncomputable def GS (i:Nat) (k:Int):Prop:=(30<=k/\k<30+(i:Int))\/(34<=k/\k<34+(i:Int))
noncomputable def AS (i:Nat) (k:Int):Prop:=GS 3 k\/(40<=k/\k<40+(i:Int))
noncomputable def OS (k:Int):Prop:=AS 3 k\/(50<=k/\k<52)
structure AsR(ls ms:List Str)(H0 H:Hp)(t:Addr)(p:Str)(qs:List Str)(j:Nat):Prop where
 same:Same H0 H
 tup:H t=some (tupR ("as",p::qs))
 new:H0 t=none
 len:qs.length=j
 ok:∀ i q,qs[i]?=some q->q∈ls\/(0<i/\q∈ms)
noncomputable def MarkS (k:Int):Prop:=20<=k/\k<25
noncomputable def flagW (w:Str):Prop:=w=("figures" : Str)\/w=("behind" : Str)\/w=("blanks" : Str)
structure RulP(ns:List Int)(ls ms:List Str)(b:Bool)(n:Nat)(R:List Rl):Prop where
 dis:Dis ns (fun k=>LetS k\/OS k\/(b=true/\MarkS k)) ((C5 R).map (·.1))
 row:rowsW R "row"=[ls]
 mrk:rowsW R "marks"=if b=true then [ms] else []
 each:∀ z∈R,z=(("row" : Str),ls)\/(z=(("marks" : Str),ms)/\b=true)\/OthZ ls ms z\/(z.2=[]/\flagW z.1)
 len:R.length<=n
 fig:hasW R "figures"=true->pZ ns=false
 oi:∀ z∈R,OthZ ls ms z->∀ p∈D7 z,yS ns OS p
theorem yT(z:Rl):(D7 z).length<=z.2.length:=by
 unfold D7
 split
 .rw [k6];lia
 .split
  .rw [M6];lia
  .split
   .exact C4 _
   .exact G8 _
structure RulG(ns:List Int)(ls ms:List Str)(R:List Rl):Prop where
 p:∃ b,RulP ns ls ms b 12 R/\(b=false->ms=[])
 l0:2<=ls.length
 l1:ls.length<=19
 ld:Dis ns LetS ls
 lw:∃ n,LetW ns n ls
 m1:ms.length<=4
 md:Dis ns MarkS ms
noncomputable def spLaw (K:PySem.W.Frag):Sp:=fun vs H Q _=>∃ (a:Addr) (ns:List Int),vs=[.ref a]/\D3 K H a (ns.map V.int)/\ns.length<=63/\∀ H',Q (.bl true) H'
end L2
set_option maxRecDepth 100000
namespace L2
open PySem PySem.Spec PyProof.Rows
noncomputable def rInD (K:PySem.W.Frag) (x y:V) (H:Hp) (Q:VK):Prop:=∃ (d:PyData) (ds:List PyData),Dn K H x d/\Dn K H y (.list ds)/\min (r8 ds) d.depth<=60/\Q (.bl (ds.any fun e=>Q7 e d)) H
theorem q_inD(hu:X.A.units+64<cLine)(hK:X.K=K:=by rfl):QOp X (compareOp .In) (rInD K):=by
 subst hK;refine ⟨?_⟩;intro pins s Y H x y v u Q I rx ry h;obtain ⟨d,ds,h1,h2,h3,q⟩:=h;obtain ⟨c1,as1,r1⟩:=h1.reads I rfl rx;obtain ⟨c2,as2,r2⟩:=h2.reads I rfl ry;exact SeqAt.in_list_reads r2 r1 c2 c1 (by lia) ⟨.bl _,H,I,rfl,q⟩
theorem an9{x:V} : rInD K x y H Q=∃ (d:PyData) (ds:List PyData),Dn K H x d/\Dn K H y (.list ds)/\min (r8 ds) d.depth<=60/\Q (.bl (ds.any fun e=>Q7 e d)) H:=rfl
end L2
set_option maxRecDepth 100000
namespace L2
open PySem PySem.Spec PyProof.Rows
open PySem.Builtin PySem.Builtin.Str PySem.StrLaws
theorem mH{s sub:Str}{hi:Nat}(h1:sub.length=1):∀ (n a:Nat) (st:Array Nat×Nat),st.snd<=a->
  (forIn (List.range' a n) st (occBody s sub hi 1)).run.fst.toList.isEmpty=(st.fst.toList.isEmpty&&(List.range' a n).all fun i=>!(decide (i+1<=hi)&&subAt s sub i))
 | 0,a,st,_=>by simp
 | n+1,a,st,h2=>by
  rw [List.range'_succ,List.forIn_cons,List.all_cons];unfold occBody
  by_cases hc:a+1<=hi/\subAt s sub a=true
  .have e0:(!(decide (a+1<=hi)&&subAt s sub a))=false:=by rw [decide_eq_true hc.1,hc.2];rfl
   rw [e0,Bool.false_and,Bool.and_false]
   by_cases hs:st.fst.size<1
   .rw [if_pos ⟨⟨⟨hs,h2⟩,by lia⟩,hc.2⟩]
    have:=mH (s:=s) (hi:=hi) h1 n (a+1) (st.fst.push a,a+sub.length) (by simp only;lia)
    refine this.trans ?_;rw [Array.toList_push]
    simp
   .rw [if_neg (fun h=>hs h.1.1.1)]
    have:=mH (s:=s) (hi:=hi) h1 n (a+1) (st.fst,st.snd) (by simp only;lia)
    refine this.trans ?_;have e1:st.fst.toList.isEmpty=false:=by
     cases e:st.fst.toList with
     | nil=>
      have:=congrArg List.length e
      simp at this;rw [this] at hs;simp at hs
     | cons x r=>rfl
    rw [e1];rfl
  .rw [if_neg (fun h=>hc ⟨by lia,h.2⟩)]
   have:=mH (s:=s) (hi:=hi) h1 n (a+1) (st.fst,st.snd) (by simp only;lia)
   refine this.trans ?_;have e0:(!(decide (a+1<=hi)&&subAt s sub a))=true:=by
    cases e:(decide (a+1<=hi)&&subAt s sub a) with
    | false=>rfl
    | true=>rw [R1,decide_eq_true_eq] at e;exact absurd e hc
   rw [e0,Bool.true_and]
theorem al7(x:Str)(c:Nat):(!(occurrences x ⟨#[c]⟩ 0 x.length 1).isEmpty)=decide (c∈x.cps.toList):=by
 rw [occ_eq,mH rfl _ _ _ (C4 0)];rw [e8,decide_eq_true_eq];have hl:x.cps.toList.length=x.length:=by simp [Str.length]
 constructor
 .intro h;rw [l6,Bool.and_eq_false_iff] at h
  rcases h with h | h
  .cases h
  .rw [List.all_eq_false] at h;obtain ⟨i,_,h⟩:=h;rw [Bool.not_not_eq,R1,xD,beq_iff_eq] at h;exact M0 h.2
 .intro h;obtain ⟨i,hi⟩:=dR.mp h;have D1:i<x.length:=by rw [<- hl];exact (F6.mp hi).1
  rw [l6,Bool.and_eq_false_iff];refine .inr (List.all_eq_false.mpr ⟨i,by simp [List.mem_range'];lia,?_⟩);rw [xD,hi,decide_eq_true (by lia)]
  simp
noncomputable def D5S:Str:=Str.ofString "0123456789"
theorem aj2:D5S.cps.toList=[48,49,50,51,52,53,54,55,56,57]:=by decide +kernel
theorem al8(c:Nat):decide (c∈D5S.cps.toList)=figO c:=by
 rw [aj2];unfold figO;rw [e8,R1,decide_eq_true_eq,decide_eq_true_eq,decide_eq_true_eq];simp only [G4,dW,or_false];omega
theorem al9(c:Nat):(!(occurrences (Str.ofString "0123456789") ⟨#[c]⟩ 0 (Str.ofString "0123456789").length 1).isEmpty)=figO c:=by
 rw [al7];exact al8 c
end L2
set_option maxRecDepth 100000
namespace L2
open PySem PySem.Spec PyProof.Rows
theorem lenL(z:Str):z.cps.toList.length=z.length:=by simp [Str.length]
noncomputable abbrev mI:=Int×Int×List Int×Int
noncomputable def UnAt (H:Hp) (e:Addr×Addr) (u:mI):Prop:=H e.1=some (.tup [.int u.1,.int u.2.1,.ref e.2,.int u.2.2.2])/\H e.2=some (.lst (u.2.2.1.map V.int))
structure UnI(H0 H:Hp)(l:Addr)(es:List (Addr×Addr))(U:List mI):Prop where
 top:H l=some (.lst (es.map fun e=>V.ref e.1))
 row:Paired (UnAt H) es U
 nd:(l::es.map (·.2)).Nodup
 new:∀ a∈l::es.map (·.2),H0 a=none
 same:Same H0 H
end L2
variable {E PL pre:List (PySem.Str×PySem.Str)}
set_option maxRecDepth 100000
namespace L2
open PySem PySem.Spec PyProof.Rows
structure StepL(H:Hp)(r:Addr)(ss:List Tr):Prop where
 ex:∃ ts:List Addr,H r=some (.lst (ts.map V.ref))/\Paired (fun t s=>H t=some (tupT s)) ts ss
noncomputable def IsMk (H:Hp) (d:Addr) (ks:List Str) (F:Str->List Tr):Prop:=∃ ad:Str->Addr,H d=some (.dK (A9 ks fun y=>.ref (ad y)))/\∀ y∈ks,StepL H (ad y) (F y)
structure MkI(H H2:Hp)(d:Addr)(P:List Str)(F:Str->List Tr):Prop where
 same:Same H H2
 made:IsMk H2 d (K0 [] P) F
theorem gZ{t:Addr}(hT:D0 K H t xs)(q:∀ p H',Same H H'->D0 K H' p (xs.take 2)->Q (.ref p) H'):rSlR K t none (some 2) H Q:=by
 by_cases h:xs.length<=2
 .refine rSlR.w hT ⟨rfl,?_⟩ (q t H (Q8 H) (by rw [j7 h];exact hT));rw [show ((2:Int))=((2:Nat):Int) from rfl,HT.sIx_nat];lia
 .refine rSlR.t hT (fun e=>?_) fun p np=>q p _ (Same.new np) (.of ?_)
  .have:=e.2
   rw [show ((2:Int))=((2:Nat):Int) from rfl,HT.sIx_nat] at this;lia
  .rw [A6,show cutV xs none (some 2)=_ from alR xs 2]
theorem aj3(xs ys:List Str):Q7 (.tuple (xs.map .str)) (.tuple (ys.map .str))=decide (xs=ys):=by rw [Q7,pF]
theorem ama(R:List Rl)(w:Str)(hf:∀ z∈R,z.1=w->z.2=[]):((R.map ruleD).any fun e=>Q7 e (ruleD (w,[])))=hasW R w:=by
 unfold hasW;rw [List.any_map,e8,bS,bS];have key:∀ z:Rl,Q7 (ruleD z) (ruleD (w,[]))=decide (z.1::z.2=[w]):=fun z=>by
  unfold ruleD;exact aj3 _ _
 constructor
 .rintro ⟨z,hz,h⟩;refine ⟨z,hz,?_⟩;have h:Q7 (ruleD z) (ruleD (w,[]))=true:=h;rw [key,decide_eq_true_eq] at h;exact decide_eq_true (List.cons.inj h).1
 .rintro ⟨z,hz,h⟩;have h:z.1=w:=by simpa using h
  refine ⟨z,hz,?_⟩;show Q7 (ruleD z) (ruleD (w,[]))=true;rw [key,decide_eq_true_eq,h,hf z hz h]
noncomputable def UnT (H:Hp) (e:Addr×Addr) (u:mI):Prop:=H e.1=some (.tup [.int u.1,.int u.2.1,.ref e.2,.int u.2.2.2])/\H e.2=some (.tup (u.2.2.1.map V.int))
structure UnJ(H0 H:Hp)(l:Addr)(es:List (Addr×Addr))(U:List mI):Prop where
 same:Same H0 H
 new:H0 l=none
 top:H l=some (.lst (es.map fun e=>V.ref e.1))
 row:Paired (UnT H) es U
theorem q_pow : QOp X (binaryOp .Pow) (rI CPow fun i j=>.int (i ^ j.toNat)):=⟨amY⟩
end L2
set_option maxRecDepth 100000
namespace L2
open PySem PySem.Spec PyProof.Rows
section
variable {prog:Program} {w:World} {K:Type} [DecidableEq K] {knd:KeyKind prog w K}
end
section
variable {prog:Program} {w:World} {A:Around} {R:Result->Shared->Prop} {I:Addr} {fp wr:List Addr} {G:Array GenState->Array GenState->Prop} {n:Nat} {P:Nat->Value->Prop} {St:Nat->Shared->Prop}
variable {K:Type} [DecidableEq K] {knd:KeyKind prog w K}
end
section
variable {prog:Program} {w:World} {A:Around} {E:Value->Shared->Prop} {s:Shared} {K:Type} [DecidableEq K] {knd:KeyKind prog w K}
end
section
variable {prog:Program} {w:World} {A:Around} {E:Value->Shared->Prop} {s:Shared} {K:Type} [DecidableEq K] {knd:KeyKind prog w K}
end
section
variable {prog:Program} {w:World} {A:Around} {E:Value->Shared->Prop} {s:Shared} {K:Type} [DecidableEq K] {knd:KeyKind prog w K}
end
end L2
set_option maxRecDepth 100000
namespace L2
open PySem PySem.Spec PyProof.Rows
section
variable {X:Cx} {P:Program} {w:World} {K:PySem.W.Frag} {calm:Bool}
end
end L2
set_option maxRecDepth 100000
namespace L2
open PySem PySem.Spec PyProof.Rows
section
variable {prog:Program} {w:World} {A:Around} {E:Value->Shared->Prop} {h:Heap} {g:Array GenState} {d:Drawn} {t:Nat} {os:OsState}
variable {nm q:Str} {C N:Addr} {bs bm bmB:List Value} {P5:Bool} {sn:List Str} {sub:List Value} {ab:Bool} {col:Option Bool} {dd:Option Addr} {k0 k1 k2 k3 k5:Option Value} {B Bn newId nid initId inN:String} {bmN:List Value}
theorem aj4(Fn:ExcBaseFacts Bn newId inN bmN)(hBn:bmB.contains (.type Bn)=true)(F:ExcBaseFacts B nid initId bmB)(T:OwnTail h bmB bm){mN:Str->Option Value}{rest:List Value}{of:Obj}{Q:Value->Shared->Prop}(hC:h.get? C=some (excClassObj nm q C N bs bm P5 sn sub ab col dd k0 k1 k2 k3 k5 newId))(hn:h.Ns N mN)(tG:mN "__init__"=some (.ref f))(Z6:h.get? f=some of)(bC:of.cls=.type "function")(W3:rest.length<=sizeLine)(hq:codeAny (model prog w) (A.under (.builtin "type.__call__" ⟨.ref C::rest,[]⟩)) (.call (.ref f) ⟨.ref (h.objs.size+1)::rest,[]⟩) (fun r s'=>match r with | .ok (.ret v)=>v=.none/\Q (.ref (h.objs.size+1)) s' | .ok _=>False | .error e=>E e s')
   ⟨(h.push { cls:=.type "tuple",data:=.seq rest.toArray }).push { cls:=.ref C,data:=.fields #[.ref h.objs.size,.none,.none,.none,.bool false,.none] },g,d,t,os⟩) :
  wpAny (model prog w) A (call (.ref C) rest) Q E ⟨h,g,d,t,os⟩:=by
 have f1:=tc_lookup;have f2:=tc_bind (.ref C);have hT:(⟨h,g,d,t,os⟩:Shared).TypeIs (.ref C) "type":=⟨_,hC,rfl⟩
 refine wpAny_call (codeAny_of_tree ?_);show wpAny _ _ (callAny (.ref C) _) _ _ _
 repeat (any_goals (first | assumption | with_reducible refine wpAny_loadPart_at hC ?_ | wp_step))
 refine ⟨rfl,?_⟩;refine codeAny_call_builtin_at (Code.quiet_builtin _ (by decide +kernel)) entry_typeCall (wpAny_check_type_call_sub hC ?_)
 repeat (first | with_reducible refine wpAny_loadPart_at hC ?_ | with_reducible refine wpAny_madeBy_exc hC ?_ | wp_step)
 refine codeAny_call_builtin_code (Code.quiet_builtin _ Fn.quiet) (wpAny_check_new_subU Fn hBn T hC ?_);refine codeAny_exc_new_subU Fn hBn F T hC ?_ W3;show wpAny _ _ _ _ _ ⟨(h.push { cls:=.type "tuple",data:=.seq rest.toArray }).push { cls:=.ref C,data:=.fields #[.ref h.objs.size,.none,.none,.none,.bool false,.none] },g,d,t,os⟩;generalize hh1:((h.push { cls:=.type "tuple",data:=.seq rest.toArray }).push { cls:=.ref C,data:=.fields #[.ref h.objs.size,.none,.none,.none,.bool false,.none] })=h1 at hq ⊢
 have keep:∀ b o,h.get? b=some o->h1.get? b=some o:=fun b o e=>by rw [<- hh1];exact Heap.get?_push_of_some _ (Heap.get?_push_of_some _ e)
 have hC1:=keep _ _ hC;have hn1:h1.Ns N mN:=let ⟨o,es,ep,e,r⟩:=hn;⟨o,es,ep,keep _ _ e,r⟩
 have tH:h1.get? (h.objs.size+1)=some { cls:=.ref C,data:=.fields #[.ref h.objs.size,.none,.none,.none,.bool false,.none] }:=by rw [<- hh1];heap_get
 have hcC:(Value.ref C::bm).contains (.ref C)=true:=by simp
 have T1:=T.keeps (h':=h1) keep;unfold isInstance
 repeat (first | with_reducible refine wpAny_loadPart_at tH ?_ | (with_reducible refine wpAny_isSubtype_exc hC1 ?_;rw [hcC]) | wp_step)
 show wpAny _ _ (typeLookup (.ref C) _) _ _ _;refine wpAny_typeLookup_tail hC1 hn1 T1 F.mroIs F.init.lookup ?_;rw [tG];show wpAny _ _ (holding _ _) _ _ _;refine wpAny_holding (wpAny_bind (wpAny_bindSpecial_def (keep _ _ Z6) bC ?_));refine wpAny_bind (wpAny_call (codeAny_mono hq fun r s' hr=>?_))
 match r,hr with
 | .error e,z=>exact z
 | .ok (.ret v),⟨e1,z⟩=>
  subst e1;refine wpAny_pure ?_;show wpAny _ _ (ret _) _ _ _;exact wpAny_pure z
end
end L2
set_option maxRecDepth 100000
namespace L2
open PySem PySem.Spec PyProof.Rows
section
variable {prog:Program} {w:World} {A:Around} {E:Value->Shared->Prop} {h:Heap} {g:Array GenState} {d:Drawn} {t:Nat} {os:OsState}
variable {nm q:Str} {C N:Addr} {bs bm bmB:List Value} {P5:Bool} {sn:List Str} {sub:List Value} {ab:Bool} {col:Option Bool} {dd:Option Addr} {k0 k1 k2 k3 k5:Option Value} {B newId nid initId:String}
noncomputable abbrev R7 (C t0:Addr) (od:Option Addr):Obj:={ cls:=.ref C,dict:=od,data:=.fields #[.ref t0,.none,.none,.none,.bool false,.none] }
theorem aeA(F:ExcBaseFacts B nid initId bmB)(T:OwnTail h bmB bm){e a0:Addr}{Q:Value->Shared->Prop}(hC:h.get? C=some (excClassObj nm q C N bs bm P5 sn sub ab col dd k0 k1 k2 k3 k5 newId))(he:h.get? e=some (R7 C a0 od))(hq:∀ h' a1,(∀ b o,b≠e->h.get? b=some o->h'.get? b=some o)->h'.get? e=some (R7 C a1 od)->Q .none ⟨h',g,d,t,os⟩) :
  wpAny (model prog w) A (call (.builtin initId) [.ref e,v]) Q E ⟨h,g,d,t,os⟩:=by
 refine wpAny_call (codeAny_call_builtin F.init.plain F.initEntry (wpAny_check_init_subU F T hC he rfl ?_))
 wp_walk
 refine hq _ h.objs.size (fun b o hb hbo=>?_) ?_
 .rw [Heap.get?_update_other _ _ (Ne.symm hb)];exact Heap.get?_push_of_some _ hbo
 .rw [Heap.get?_update_self _ (Heap.get?_push_of_some _ he) rfl];rfl
end
end L2
set_option maxRecDepth 100000
namespace L2
open PySem PySem.Spec PyProof.Rows
section
variable {M:Model} {A:Around} {E:Value->Shared->Prop} {env:Env}
theorem ait{x:Sem Value}{Q:Flow->Shared->Prop}(hh:A.handled=none)(h:wpAny M A x (fun v zt=>∃ (e C t N:Addr) (od:Option Addr) (nm q:Str) (bs bm:List Value) (P5:Bool) (sn:List Str) (sub:List Value) (ab:Bool) (col:Option Bool) (dd:Option Addr) (k0 k1 k2 k3 k5:Option Value) (newId:String),v=.ref e/\
   zt.heap.get? C=some (excClassObj nm q C N bs bm P5 sn sub ab col dd k0 k1 k2 k3 k5 newId)/\bm.contains (.type "BaseException")=true/\zt.heap.get? e=some (R7 C t od)/\E (.ref e) zt) E s) :
  wpAny M A (raiseStmt env (some x) none) Q E s:=by
 unfold raiseStmt;refine wpAny_bind (wpAny_mono h (fun v zt z=>?_) fun _ _ y=>y);obtain ⟨e,C,t,N,od,nm,q,bs,bm,P5,sn,sub,ab,col,dd,k0,k1,k2,k3,k5,newId,rfl,hC,D8,he,hE⟩:=z;have hcB:(Value.ref C::bm).contains (.type "BaseException")=true:=by rw [List.contains_cons,D8,Bool.or_true]
 obtain ⟨hp,g,d,tk,os⟩:=zt
 repeat (first | with_reducible refine wpAny_loadPart_at he ?_ | with_reducible refine wpAny_loadPart_at hC ?_ | (with_reducible refine wpAny_isSubtype_exc hC ?_;rw [hcB]) | wp_step)
 exact wpAny_raiseNew_none hh hE
end
end L2
set_option maxRecDepth 100000
namespace L2
open PySem PySem.Spec PyProof.Rows PySem.W PySem.Builtin PySem.Builtin.ObjectAttr
noncomputable def g6 (bmB:List Value):List Value->Bool
 | []=>bmB==[]
 | v::r=>(v::r)==bmB || match v with
  | .ref _=>g6 bmB r
  | _=>false
theorem yU{B:String}(SF:StoreFacts B bmB "object.__setattr__" "object")(self:Value):∀ {l:List Value},g6 bmB l=true->refuseLoop self "__setattr__" l=pure ()
 | [],e=>by rw [<- SF.passes self,<- beq_iff_eq.mp e]
 | v::r,e=>by
  unfold g6 at e
  rcases Bool.or_eq_true_iff.mp e with z | z
  .rw [beq_iff_eq.mp z];exact SF.passes self
  .cases v with
   | ref c=>rw [refuseLoop_ref];exact yU SF self z
   | _=>cases z
theorem yV{B:String}(SF:StoreFacts B bmB "object.__setattr__" "object"):∀ {l:List Value},g6 bmB l=true->l.contains (.type "object")=true
 | [],e=>by have:=SF.hasOwner;rw [beq_iff_eq.mp e] at this;exact this
 | v::r,e=>by
  unfold g6 at e
  rcases Bool.or_eq_true_iff.mp e with z | z
  .rw [beq_iff_eq.mp z];exact SF.hasOwner
  .cases v with
   | ref c=>rw [List.contains_cons,yV SF z,Bool.or_true]
   | _=>cases z
section
variable {prog:Program} {w:World} {A:Around} {E:Value->Shared->Prop} {h:Heap} {g:Array GenState} {d:Drawn} {t:Nat} {os:OsState} {K:Frag} {C e t0:Addr} {cd:ClassData} {B:String} {bmB:List Value} {name:Str} {v:Value}
theorem aiu{Q:Unit->Shared->Prop}(SF:StoreFacts B bmB "object.__setattr__" "object")(X:K.In h)(he:h.get? e=some (R7 C t0 none))(hc:clsIn K C=some cd)(hd:cd.hasDict=true)(ho:g6 bmB cd.mro=true)(hs:findIn K (.ref C) "__setattr__"=some (some (.builtin "object.__setattr__")))(ht:findIn K (.ref C) name=some none)(hq:∀ h' dx tk,h.objs.size<=dx->dx≠e->h'.get? e=some (R7 C t0 (some dx))->h'.Ns1 dx (fun y=>if y=name then some v else none)->(∀ b o,b≠e->h.get? b=some o->h'.get? b=some o)->Q () ⟨h',g,d,tk,os⟩) :
  wpAny (model prog w) A (setAttr (.ref e) name v) Q E ⟨h,g,d,t,os⟩:=by
 have I:InstAt h e (R7 C t0 none) C none:=⟨he,rfl,rfl,trivial⟩
 refine set_plain (s:=⟨h,g,d,t,os⟩) X I hs ?_;have ne:cd.mro.isEmpty=false:=by
  cases q:cd.mro with
  | nil=>
   rw [q] at ho
   have:=SF.hasOwner
   rw [beq_iff_eq.mp ho] at this
   cases this
  | cons _ _=>rfl
 have sb:Looks (model prog w) h (isInstance (.ref e) (.type "object")) true:=I.type.andThen (looks_mroIn X (by unfold mroIn;rw [hc,Option.bind_some,if_neg (by rw [ne];decide),yV SF ho]));refine codeAny_call_builtin SF.slot.plain SF.entry (@check_slot (model prog w) _ _ ⟨h,g,d,t+1,os⟩ "object.__setattr__" "object" "__setattr__" (.ref e) [.str name t,v] [] _ SF.kind SF.split sb (SF.args (.ref e) (.str name t) v) ?_);have hm:Looks (model prog w) h (mroOf (.ref C)) cd.mro:=(looks_clsIn X hc).andThen .now;rw [osa_eq,refuse_eq];refine wpAny_bind (wpAny_bind (I.type.here (s:=⟨h,g,d,t+1,os⟩) (wpAny_bind (hm.here (s:=⟨h,g,d,t+1,os⟩) ?_))));rw [yU SF _ ho];refine wpAny_pure (wpAny_bind (I.type.here (s:=⟨h,g,d,t+1,os⟩) (wpAny_bind ((looks_findIn X ht).here (s:=⟨h,g,d,t+1,os⟩) (wpAny_bind (m:=storeTaker? none) (wpAny_pure ?_))))));show wpAny _ _ (ownStreamTells (.ref e) (.ref C) >>= _) _ _ _;refine wpAny_bind (m:=ownStreamTells (.ref e) (.ref C)) (wpAny_pure ?_);show wpAny _ _ (ownDictForStores (.ref e) >>= _) _ _ _;refine wpAny_bind ?_;show wpAny _ _ (instanceDict e true) _ _ _;unfold instanceDict;refine wpAny_bind (wpAny_loadPart (s:=⟨h,g,d,t+1,os⟩) he ?_)
 dsimp only
 refine wpAny_bind ((looks_clsIn X hc).here (s:=⟨h,g,d,t+1,os⟩) ?_);rw [hd,if_neg (by decide),if_neg (by simp [typeHasDict])];have zg:(h.push { cls:=.type "dict",data:=.dict #[] }).get? e=some (R7 C t0 none):=Heap.get?_push_of_some _ he;have tI:e≠h.objs.size:=K4 (Heap.lt_size he);refine wpAny_bind (wpAny_alloc' (wpAny_bind (wpAny_update' zg (wpAny_pure ?_))));have hgd:((h.push { cls:=.type "dict",data:=.dict #[] }).update e fun o=>{ cls:=o.cls,dict:=some h.objs.size,data:=o.data,slots:=o.slots }).get? h.objs.size=some { cls:=.type "dict",data:=.dict #[] }:=(Heap.get?_update_ne _ _ _ _ tI.symm).trans (Heap.get?_push_at rfl rfl);have kC:((h.push { cls:=.type "dict",data:=.dict #[] }).update e fun o=>{ cls:=o.cls,dict:=some h.objs.size,data:=o.data,slots:=o.slots }).get? e=some (R7 C t0 (some h.objs.size)):=Heap.get?_update_self _ zg rfl;have hgo:∀ b o,b≠e->h.get? b=some o->((h.push { cls:=.type "dict",data:=.dict #[] }).update e fun o=>{ cls:=o.cls,dict:=some h.objs.size,data:=o.data,slots:=o.slots }).get? b=some o:=fun b o hb z=>(Heap.get?_update_ne _ _ _ _ hb).trans (Heap.get?_push_of_some _ z)
 generalize ((h.push { cls:=.type "dict",data:=.dict #[] }).update e fun o=>{ cls:=o.cls,dict:=some h.objs.size,data:=o.data,slots:=o.slots })=h2 at hgd kC hgo ⊢
 have hnd:h2.Ns h.objs.size (fun _=>none):=⟨_,#[],_,hgd,rfl,fun e he=>absurd he (by simp),fun _=>rfl⟩
 show wpAny _ _ (storeInDict h.objs.size (.str name t) name v) _ _ _;unfold storeInDict newKeyGuard;refine wpAny_bind (wpAny_pure (wpAny_bind (wpAny_nsSet1 (Heap.Ns1.of_empty hnd) fun h' fL nO=>?_)));obtain ⟨oD,esD,epD,hoD,hdD,hcD⟩:=fL.count (Within.cons name v Within.nil);refine wpAny_bind (wpAny_lookBehind hoD (by rw [hdD];exact pastItsLine_dict (E1 hcD (by rw [J9,k7,sizeLine_eq];lia))) (wpAny_pure ?_));exact hq h' h.objs.size _ (C4 _) tI.symm ((nO.2 e tI).trans kC) fL fun b o hb z=>(nO.2 b (K4 (Heap.lt_size z))).trans (hgo b o hb z)
end
end L2
set_option maxRecDepth 100000
namespace L2
open PySem PySem.Spec PyProof.Rows PySem.W
section
variable {M:Model} {A:Around} {E:Value->Shared->Prop} {s:Shared} {K:Frag} {C D e:Addr} {oe:Obj} {b:Bool}
theorem aiv{Q:Bool->Shared->Prop}(X:K.In s.heap)(he:s.heap.get? e=some oe)(hc:oe.cls=.ref C){cd:ClassData}(hD:clsIn K D=some cd)(hT:typeIn K (.ref D)=some (.type "type"))(hB:mroIn K D (.type "BaseException")=some true)(hm:mroIn K C (.ref D)=some b)(h:Q b s) :
  wpAny M A (excMatches (.ref e) (.ref D)) Q E s:=by
 have t1:Looks M s.heap (isInstance (.ref D) (.type "tuple")) false:=(looks_typeIn X hT).andThen (Looks.of_pure tc_notTuple);have t2:Looks M s.heap (isExcClass (.ref D)) true:=by
  unfold isExcClass;refine Looks.andThen (a:=true) ?_ (by rw [if_pos rfl];exact looks_mroIn X hB);show Looks M s.heap (isType (.ref D)) true;unfold clsIn at hD
  split at hD
  .rename_i ho
   exact (Looks.ld (part:=none) (X _ _ ho)).andThen .now
  .cases hD
 have t3:Looks M s.heap (typeOf (.ref e)) (.ref C):=hc ▸ (Looks.ld he).andThen .now;unfold excMatches;refine wpAny_bind (t1.here ?_);rw [if_neg (by decide)];refine wpAny_bind (wpAny_pure (wpAny_bind ?_));rw [List.forIn_cons];refine wpAny_bind (wpAny_bind (t2.here (wpAny_pure ?_)));refine wpAny_pure (wpAny_bind (t3.here (wpAny_bind ?_)));rw [List.forIn_cons];refine wpAny_bind (wpAny_bind ((looks_mroIn X hm).here ?_))
 cases b with
 | true=>exact wpAny_pure (wpAny_pure (wpAny_pure h))
 | false=>exact wpAny_pure (wpAny_pure (wpAny_pure h))
end
end L2
set_option maxRecDepth 100000
namespace L2
open PySem PySem.Spec PyProof.Rows PySem.W PySem.Builtin PySem.Builtin.ObjectAttr
section
variable {prog:Program} {w:World} {A:Around} {E:Value->Shared->Prop} {K:Frag} {h:Heap} {g:Array GenState} {d:Drawn} {t:Nat} {os:OsState} {C e dx:Addr} {ox od:Obj} {name:Str} {v:Value} {expr:Bool} {Q:Value->Shared->Prop}
theorem amb(X:K.In h)(I:InstAt h e ox C (some od))(w5:findIn K (.ref C) "__getattribute__"=some (some (.builtin "BaseException.__getattribute__")))(kD:findIn K (.ref C) "__getattr__"=some none)(hB:mroIn K C (.type "BaseException")=some true)(hf:findObj K C (some od) name=some (.value v))(hh:handedIn v=true)(hq:Q v ⟨h,g,d,t+1,os⟩):wpAny (model prog w) A (getAttr (.ref e) name expr) Q E ⟨h,g,d,t,os⟩:=by
 have L0:=I.type (M:=model prog w);have L1:=looks_findIn (M:=model prog w) X w5;have L2:=looks_findIn (M:=model prog w) X kD;have L3:=looks_find (M:=model prog w) X I hf;have w6:(Value.builtin "BaseException.__getattribute__" == Value.builtin "object.__getattribute__")=false:=by decide +kernel
 have X6:(onTheHeap (Value.ref C)&&Value.builtin "BaseException.__getattribute__" == Value.builtin "object.__getattribute__")=false:=by rw [w6];rfl
 have dI:(expr&&onTheHeap (Value.builtin "BaseException.__getattribute__"))=false:=by cases expr <;> rfl
 unfold getAttr getAttrBy;refine wpAny_bind (wpAny_mkText (wpAny_holding (wpAny_bind (L0.at (wpAny_bind (L1.at ?_))))))
 dsimp only
 rw [X6,if_neg (by decide)];show wpAny _ _ (getAttrByItsOwn _ _ _ _ _ _) _ _ _;unfold getAttrByItsOwn;refine wpAny_bind ?_;show wpAny _ _ (typeLookup (.ref C) "__getattr__") _ _ _;refine L2.at (wpAny_bind (wpAny_attempt (wpAny_holding ?_)));unfold callGetattribute;rw [dI,if_neg (by decide)];unfold boundAndCalled;have FA:ExcAttrFacts "ValueError":=F.attr_ValueError;rw [FA.ga.bind (.ref e)];refine wpAny_bind (wpAny_pure (wpAny_call ?_));have sb:Looks (model prog w) h (isInstance (.ref e) (.type "BaseException")) true:=L0.andThen (looks_mroIn X hB);refine codeAny_call_builtin FA.ga.plain F.entry_bexc_ga (@check_slot (model prog w) _ _ ⟨h,g,d,t+1,os⟩ "BaseException.__getattribute__" "BaseException" "__getattribute__" (.ref e) [.str name t] [] _ (by decide +kernel) (by decide +kernel) sb (F.args_bexc_ga _ _) ?_);unfold Builtin.«object.__getattribute__»;have e0:slotArgs "__getattribute__" 1 ⟨[Value.ref e]++[Value.str name t],[]⟩=pure (.ref e,[.str name t]):=rfl;rw [e0];refine wpAny_bind (wpAny_pure ?_);show wpAny _ _ (attrName (.str name t) >>= _) _ _ _;refine wpAny_bind (m:=attrName (.str name t)) (wpAny_pure ?_);refine wpAny_bind (L0.at (wpAny_bind (L3.at (wpAny_pure ?_))));show wpAny _ _ (handedOut v) _ _ _;rw [handedOut_of hh];exact wpAny_pure hq
end
end L2
set_option maxRecDepth 100000
namespace L2
open PySem PySem.Spec PyProof.Rows PySem.W PySem.Builtin PySem.Builtin.ObjectAttr
section
variable {prog:Program} {w:World} {A:Around} {E:Value->Shared->Prop} {K:Frag} {h:Heap} {g:Array GenState} {d:Drawn} {t:Nat} {os:OsState} {C e dx:Addr} {ox od:Obj} {Q:Option Value->Shared->Prop}
theorem aiw(X:K.In h)(I:InstAt h e ox C (some od))(w5:findIn K (.ref C) "__getattribute__"=some (some (.builtin "BaseException.__getattribute__")))(kD:findIn K (.ref C) "__getattr__"=some none)(hB:mroIn K C (.type "BaseException")=some true)(hf:findObj K C (some od) "__class__"=some (.bind (.builtin "getset_descriptor.__get__") (.builtin "object.__class__")))(hO:mroIn K C (.type "object")=some true)(hq:Q (some (.ref C)) ⟨h,g,d,t+1,os⟩):wpAny (model prog w) A (getAttr? (.ref e) "__class__") Q E ⟨h,g,d,t,os⟩:=by
 have L0:=I.type (M:=model prog w);have L1:=looks_findIn (M:=model prog w) X w5;have L2:=looks_findIn (M:=model prog w) X kD;have L3:=looks_find (M:=model prog w) X I hf;have w6:(Value.builtin "BaseException.__getattribute__" == Value.builtin "object.__getattribute__")=false:=by decide +kernel
 have X6:(onTheHeap (Value.ref C)&&Value.builtin "BaseException.__getattribute__" == Value.builtin "object.__getattribute__")=false:=by rw [w6];rfl
 unfold getAttr? getAttrBy? getAttrBy;refine wpAny_bind (wpAny_mkText (wpAny_bind (wpAny_attempt (wpAny_holding (wpAny_bind (L0.at (wpAny_bind (L1.at ?_))))))))
 dsimp only
 rw [X6,if_neg (by decide)];show wpAny _ _ (getAttrByItsOwn _ _ _ _ _ _) _ _ _;unfold getAttrByItsOwn;refine wpAny_bind ?_;show wpAny _ _ (typeLookup (.ref C) "__getattr__") _ _ _;refine L2.at (wpAny_bind (wpAny_attempt (wpAny_holding ?_)));unfold callGetattribute;rw [if_neg (by simp)];unfold boundAndCalled;have FA:ExcAttrFacts "ValueError":=F.attr_ValueError;rw [FA.ga.bind (.ref e)];refine wpAny_bind (wpAny_pure (wpAny_call ?_));have sb:Looks (model prog w) h (isInstance (.ref e) (.type "BaseException")) true:=L0.andThen (looks_mroIn X hB);refine codeAny_call_builtin FA.ga.plain F.entry_bexc_ga (@check_slot (model prog w) _ _ ⟨h,g,d,t+1,os⟩ "BaseException.__getattribute__" "BaseException" "__getattribute__" (.ref e) [.str "__class__" t] [] _ (by decide +kernel) (by decide +kernel) sb (F.args_bexc_ga _ _) ?_);unfold Builtin.«object.__getattribute__»;have e0:slotArgs "__getattribute__" 1 ⟨[Value.ref e]++[Value.str "__class__" t],[]⟩=pure (.ref e,[.str "__class__" t]):=rfl;rw [e0];refine wpAny_bind (wpAny_pure ?_);show wpAny _ _ (attrName (.str "__class__" t) >>= _) _ _ _;refine wpAny_bind (m:=attrName (.str "__class__" t)) (wpAny_pure ?_);refine wpAny_bind (L0.at (wpAny_bind (L3.at ?_)));show wpAny _ _ (bindTo (.builtin "getset_descriptor.__get__") (.builtin "object.__class__") (.ref e) (.ref C)) _ _ _;unfold bindTo;refine wpAny_bind (wpAny_holding (wpAny_call (class_get (s:=⟨h,g,d,t+1,os⟩) (ox:=ox) (od:=some od) X I hO ?_)));refine wpAny_pure ?_;show wpAny _ _ (handedOut (.ref C)) _ _ _;rw [handedOut_of rfl];exact wpAny_pure (wpAny_pure hq)
theorem aj5(P5:hasDictIn K C=true)(w5:findIn K (.ref C) "__getattribute__"=some (some (.builtin "BaseException.__getattribute__")))(kD:findIn K (.ref C) "__getattr__"=some none)(hB:mroIn K C (.type "BaseException")=some true)(ha:findIn K (.ref C) "__class__"=some (some (.builtin "object.__class__")))(hn:specialIn K (.builtin "object.__class__") "__get__"=some (some (.builtin "getset_descriptor.__get__")))(o4:takesIn K (.builtin "object.__class__")=some true)(hO:mroIn K C (.type "object")=some true) :
  KitX K (.ref e) (.ref C) (fun h=>InstAt h e ox C (some od)) where
 ty:=fun _ _ _ I=>I.type
 it:=fun _ _ X _=>by
  obtain ⟨cdD,hcD,_⟩:=any_some P5;unfold clsIn at hcD
  split at hcD
  .rename_i ho
   exact (Looks.ld (part:=none) (X _ _ ho)).andThen .now
  .cases hcD
 ne:=fun h tp dd its n sl X htp=>by
  obtain ⟨cdD,hcD,_⟩:=any_some P5;refine Bool.eq_false_iff.mpr fun q=>?_
  have e1:C=tp:=Value.ref.inj (beq_iff_eq.mp q);subst e1;unfold clsIn at hcD
  split at hcD
  .rename_i ho
   cases (X _ _ ho).symm.trans htp
  .cases hcD
 ca:=fun {_ _ _ _ _ s} X I k=>by
  obtain ⟨h,g,d,t,os⟩:=s;exact aiw X I w5 kD hB (findObj_data (by obtain ⟨cd,hc,_⟩:=any_some P5;rw [hc];rfl) ha hn o4) hO k
end
end L2
set_option maxRecDepth 100000
namespace L2
open PySem PySem.Spec PyProof.Rows PySem.W
noncomputable def Flies (h:Heap) (x C dx T:Addr):Prop:=∃ (vs:Array Value) (oT:Obj) (ts:Array Value),h.get? x=some { cls:=.ref C,dict:=some dx,data:=.fields vs }/\vs[1]?=some (.ref T)/\T≠x/\h.get? T=some oT/\oT.data=.fields ts/\ts[3]?=some .none
section
variable {M:Model} {A:Around} {E:Value->Shared->Prop} {s:Shared} {base:Heap} {env:Env} {outer:List Env} {L x C dx:Addr} {Q:Unit->Shared->Prop}
theorem yW{vs:Array Value}{l:List Env}(hl:s.heap.FunFrames base l)(he:s.heap.get? x=some o)(hd:o.data=.fields vs):x∉l.filterMap (·.frame):=fun hm=>by
 obtain ⟨_,o',ho,hn⟩:=hl.mem hm;rw [he] at ho;cases ho;exact hn vs hd
theorem yX{oe:Obj}{vs:Array Value}{head:Value}{hadNext:Bool}(O3:A.frames=some (env::outer))(hl:s.heap.FunFrames base (env::outer))(hf:env.frame=some L)(he:s.heap.get? x=some { cls:=.ref C,dict:=some dx,data:=.fields vs })(hsz:1<vs.size)(h:∀ h' T,s.heap.objs.size<=T->Flies h' x C dx T->(∀ b o,b≠x->b∉(env::outer).filterMap (·.frame)->s.heap.get? b=some o->h'.get? b=some o)->(∀ b o,b≠x->s.heap.get? b=some o->∃ sl,h'.get? b=some { o with slots:=sl })->Q () { s with heap:=h' }) :
  wpAny M A (do let a <- frameOf env;let pl <- entryPlaceOf L hadNext;let b <- EntryCells.newEntry head a .none (rawInt L) .none pl;setField (.ref x) 1 b) (fun _ s'=>wpAny M A (setFlight (.ref x) none) Q E s') E s:=by
 have hxf:=yW hl he rfl;refine wpAny_bind (wpAny_frameOf_fun O3 hl hf fun zq zf=>wpAny_bind (wpAny_entryPlaceOf fun pl R8=>?_));unfold EntryCells.newEntry newFields;refine wpAny_bind (wpAny_newObj_type ?_ (R8.sizeOk5 _ _ _ _ _));have ze:zq.get? x=some { cls:=.ref C,dict:=some dx,data:=.fields vs }:=(zf.2.1 x hxf).trans he;generalize hoT:({ cls:=.type "traceback",dict:=none,data:=.fields ([head,.ref L,.none,rawInt L,.none]++(if pl.isEmpty then O0 6 Value.none else pl)).toArray } : Obj)=oT;have hTd:∃ ts:Array Value,oT.data=.fields ts/\3<ts.size:=⟨_,by rw [<- hoT],by simp only [G7,G0,J9,k7] <;> lia⟩
 obtain ⟨ts,hTd,hT3⟩:=hTd;have hTf:oT.isFreed=false:=by rw [<- hoT];rfl
 have hTe:zq.objs.size≠x:=q9 (Heap.lt_size ze);have zd:=Heap.get?_push_of_some (h:=zq) oT ze;have zc:(zq.push oT).get? zq.objs.size=some oT:=Heap.get?_push_size zq hTf;refine wpAny_setField zd rfl hsz ?_;have zb:=Obj.data_mapFields (o:={ cls:=.ref C,dict:=some dx,data:=.fields vs }) rfl (·.setIfInBounds 1 (Value.ref zq.objs.size));have za:=Heap.get?_update_self (Obj.mapFields (·.setIfInBounds 1 (Value.ref zq.objs.size))) zd (Obj.isFreed_of_fields zb);have yz:=(Heap.get?_update_other (zq.push oT) (Obj.mapFields (·.setIfInBounds 1 (Value.ref zq.objs.size))) (Ne.symm hTe)).trans zc;unfold setFlight;refine wpAny_bind (wpAny_field za zb (x:=.ref zq.objs.size) (by simp [hsz]) ?_);rw [if_pos (show (Value.ref zq.objs.size != Value.none)=true from by simp)];refine wpAny_setField yz hTd hT3 (h _ zq.objs.size ?_ ?_ (fun b o hb tJ z=>?_) fun b o hb z=>?_)
 .rw [zf.1];exact C4 _
 .refine ⟨_,_,_,(by rw [Heap.get?_update_other _ _ hTe];exact za),?_,hTe,Heap.get?_update_self _ yz (Obj.isFreed_of_fields (Obj.data_mapFields hTd _)),Obj.data_mapFields hTd _,?_⟩
  .simp [hsz]
  .simp [hT3]
 .have hbT:zq.objs.size≠b:=q9 (by rw [zf.1];exact Heap.lt_size z);rw [Heap.get?_update_other _ _ hbT,Heap.get?_update_other _ _ (Ne.symm hb)];exact Heap.get?_push_of_some _ ((zf.2.1 b tJ).trans z)
 .have hbT:zq.objs.size≠b:=q9 (by rw [zf.1];exact Heap.lt_size z);obtain ⟨sl,z'⟩:=zf.2.2 b o z;refine ⟨sl,?_⟩;rw [Heap.get?_update_other _ _ hbT,Heap.get?_update_other _ _ (Ne.symm hb)];exact Heap.get?_push_of_some _ z'
theorem aix(O3:A.frames=some (env::outer))(hl:s.heap.FunFrames base (env::outer))(hf:env.frame=some L)(he:s.heap.get? x=some (R7 C t0 (some dx)))(h:∀ h' T,s.heap.objs.size<=T->Flies h' x C dx T->(∀ b o,b≠x->b∉(env::outer).filterMap (·.frame)->s.heap.get? b=some o->h'.get? b=some o)->(∀ b o,b≠x->s.heap.get? b=some o->∃ sl,h'.get? b=some { o with slots:=sl })->Q () { s with heap:=h' }) :
  wpAny M A (noteFrame (.ref x) env) (fun _ s'=>wpAny M A (setFlight (.ref x) none) Q E s') E s:=by
 unfold noteFrame;simp only [hf];refine wpAny_bind (wpAny_field he rfl (x:=.none) rfl ?_);rw [if_neg (by decide)];exact yX (oe:=R7 C t0 (some dx)) O3 hl hf he (by simp) h
theorem yY(O3:A.frames=some (env::outer))(hl:s.heap.FunFrames base (env::outer))(hf:env.frame=some L)(fl:Flies s.heap x C dx T)(h:∀ h' T',s.heap.objs.size<=T'->Flies h' x C dx T'->(∀ b o,b≠x->b≠T->b∉(env::outer).filterMap (·.frame)->s.heap.get? b=some o->h'.get? b=some o)->(∀ b o,b≠x->b≠T->s.heap.get? b=some o->∃ sl,h'.get? b=some { o with slots:=sl })->Q () { s with heap:=h' }) :
  wpAny M A (noteFrame (.ref x) env) (fun _ s'=>wpAny M A (setFlight (.ref x) none) Q E s') E s:=by
 obtain ⟨vs,oT,ts,he,h1,hTx,hT,hTd,h3⟩:=fl;unfold noteFrame;simp only [hf];refine wpAny_bind (wpAny_field he rfl h1 ?_);rw [if_pos (show (Value.ref T != Value.none)=true from by simp)];refine wpAny_bind (wpAny_field hT hTd h3 ?_);rw [if_neg (show ¬ ((Value.none==rawInt L)=true) from by simp [rawInt])];refine wpAny_bind (wpAny_setField hT hTd (Array.getElem?_eq_some_iff.mp h3).1 ?_);have oth:∀ b,b≠T->(s.heap.update T (Obj.mapFields (·.setIfInBounds 3 Value.none))).get? b=s.heap.get? b:=fun b hb=>Heap.get?_update_other _ _ (Ne.symm hb)
 have hTf:T∉(env::outer).filterMap (·.frame):=yW hl hT hTd;have hTn:∀ b o,s.heap.get? b=some o->(∀ vs,o.data≠.fields vs)->b≠T:=fun b o hb hn q=>by rw [q,hT] at hb;cases hb;exact hn ts hTd
 refine yX (oe:=oT) O3 (hl.of_keeps fun b o hb hn=>⟨o,(oth b (hTn b o hb hn)).trans hb,rfl⟩) hf ((oth x (Ne.symm hTx)).trans he) (Array.getElem?_eq_some_iff.mp h1).1 fun h' T' n' fl' k1 k2=>h h' T' ?_ fl' (fun b o hb hbT tJ z=>k1 b o hb tJ ((oth b hbT).trans z)) fun b o hb hbT z=>k2 b o hb ((oth b hbT).trans z)
 exact E1 (Nat.le_of_eq (Heap.size_update ..).symm) n'
theorem aj6(fl:Flies s.heap x C dx T)(h:∀ h',Flies h' x C dx T->(∀ b o,b≠T->s.heap.get? b=some o->h'.get? b=some o)->Q () { s with heap:=h' }):wpAny M A (setFlight (.ref x) none) Q E s:=by
 obtain ⟨vs,oT,ts,he,h1,hTx,hT,hTd,h3⟩:=fl;have h3s:3<ts.size:=(Array.getElem?_eq_some_iff.mp h3).1;unfold setFlight;refine wpAny_bind (wpAny_field he rfl h1 ?_);rw [if_pos (show (Value.ref T != Value.none)=true from by simp)];refine wpAny_setField hT hTd h3s (h _ ⟨vs,_,_,(Heap.get?_update_other _ _ hTx).trans he,h1,hTx,Heap.get?_update_self _ hT (Obj.isFreed_of_fields (Obj.data_mapFields hTd _)),Obj.data_mapFields hTd _,?_⟩ fun b o hb z=>(Heap.get?_update_other _ _ (Ne.symm hb)).trans z);simp [h3s]
end
end L2
set_option maxRecDepth 100000
namespace L2
open PySem PySem.Spec PyProof.Rows
noncomputable def xm (m:Nat) (x C:Addr):HO:=.ext fun h=>m<=x/\∃ t0,h.get? x=some (R7 C t0 none)
noncomputable def xo (m:Nat) (x C dx:Addr):HO:=.ext fun h=>m<=x/\∃ t0,h.get? x=some (R7 C t0 (some dx))
noncomputable def xc (x C dx:Addr):HO:=.ext fun h=>∃ o,h.get? x=some o/\o.cls=.ref C/\o.dict=some dx/\PySem.W.notCls o=true
theorem xm_ok{P:Program}{w:World}{x:Addr}(hm:m<=x)(e:h.get? x=some (R7 C t0 none)):ObjOk P w H h x (xm m x C):=⟨⟨hm,t0,e⟩,⟨_,e⟩,fun _ _ z k=>⟨z.1,z.2.elim fun t a=>⟨t,k _ a⟩⟩⟩
theorem xo_ok{P:Program}{w:World}{x:Addr}(hm:m<=x)(e:h.get? x=some (R7 C t0 (some dx))):ObjOk P w H h x (xo m x C dx):=⟨⟨hm,t0,e⟩,⟨_,e⟩,fun _ _ z k=>⟨z.1,z.2.elim fun t a=>⟨t,k _ a⟩⟩⟩
theorem xc_ok{P:Program}{w:World}{x:Addr}(e:h.get? x=some o)(h1:o.cls=.ref C)(h2:o.dict=some dx)(h3:PySem.W.notCls o=true):ObjOk P w H h x (xc x C dx):=
 ⟨⟨o,e,h1,h2,h3⟩,⟨_,e⟩,fun _ _ z k=>z.elim fun t a=>⟨t,k _ a.1,a.2⟩⟩
theorem yZ{P:Program}{w:World}{o:HO}(x:J7 P w H h)(hn:H a=none)(new:ObjOk P w (A0 H a o) h a o):J7 P w (A0 H a o) h:=fun b u e=>by
 by_cases hb:b=a
 .subst hb;rw [A6] at e;cases e;exact new
 .rw [A7 hb] at e;exact (x b u e).stay (fun c v _ q=>q) (fun c q=>by rw [A7 (M8 q hn)];exact q) fun c xs q=>by rw [A7 (M8 q hn)];exact q
theorem aoa{N:Addr}{m:Str->Option Value}{n:Str}(X:K.In h)(G:h.Ns N m)(e:E3 K N n=some (some v)):m n=some v:=by
 obtain ⟨o,es,ep,ho,hd,_,hf⟩:=G;unfold E3 at e
 split at e
 .rename_i es' n' q
  rw [X _ _ q] at ho;cases ho;cases hd
  split at e
  .rename_i y hy
   cases e;rw [<- hf];unfold nsFind findBy;rw [<- Array.find?_toList,hy];rfl
  .exfalso
   split at e <;> cases e
 .cases e
noncomputable abbrev u6:List Value:=[.type "ValueError",.type "Exception",.type "BaseException",.type "object"]
structure ErrC(K:PySem.W.Frag)(C f:Addr):Prop where
 ex:∃ (nm q:Str) (N:Addr) (bs bm:List Value) (sn:List Str) (sub:List Value) (ab:Bool) (col:Option Bool) (dd:Option Addr) (k0 k1 k2 k3 k5:Option Value),
  K.lookup C=some (excClassObj nm q C N bs bm true sn sub ab col dd k0 k1 k2 k3 k5 "ValueError.__new__")/\y9 K u6 bm=true/\g6 u6 (.ref C::bm)=true/\bW K N=true/\E3 K N "__init__"=some (some (.ref f))
 fn:PySem.W.isFn K (.ref f)=true
 sa:G9 K (.ref C) "__setattr__"=some (some (.builtin "object.__setattr__"))
 ga:G9 K (.ref C) "__getattribute__"=some (some (.builtin "BaseException.__getattribute__"))
 gt:G9 K (.ref C) "__getattr__"=some none
 cl:G9 K (.ref C) "__class__"=some (some (.builtin "object.__class__"))
 bx:M7 K C (.type "BaseException")=some true
 ob:M7 K C (.type "object")=some true
 kp:O9 K (.ref C)=true
theorem ErrC.cls(M:ErrC K C f):∃ cd,PySem.W.clsIn K C=some cd/\cd.hasDict=true/\g6 u6 cd.mro=true:=by
 obtain ⟨nm,q,N,bs,bm,sn,sub,ab,col,dd,k0,k1,k2,k3,k5,l,_,o,_,_⟩:=M.ex;exact ⟨_,by unfold PySem.W.clsIn;rw [l],rfl,o⟩
section
variable {X:Cx} {k:Nat} {f C:Addr} {fd:FuncData} {ps:List Str} {sp:Sp} {x:Str} {p pos:Pos} {e:Expr} {es:List Expr} {t:TA}
noncomputable def tErr (m:Nat) (C:Addr) (sp:Sp) (t:TA):TE:=fun Y H Q=>t Y H fun vs H1=>vs.length<=1000/\∀ x,H1 x=none->sp (.ref x::vs) (A0 H1 x (xm m x C)) (fun v H2=>v=.non/\Q (.ref x) H2) E0
theorem amc(M:ErrC X.K C f)(F:FnOk X.prog X.w X.K X.mg X.base F9 k f fd ps sp)(hr:Room (k+1) X.A)(hb:Binds X.K fd ps [])(I:Inv X pins Y H s)(r:Vals vs us)(B1:vs.length<=1000)(h:∀ x,H x=none->sp (.ref x::vs) (A0 H x (xm X.s₀.heap.objs.size x C)) (fun v H2=>v=.non/\Q (.ref x) H2) E0) :
  wpAny (model X.prog X.w) X.A (call (.ref C) us) (EP X pins Y Q) X.xe s:=by
 have hq:=h (s.heap.objs.size+1) (I.hok.fresh (Nat.le_succ _));obtain ⟨nm,q,N,bs,bm,sn,sub,ab,col,dd,k0,k1,k2,k3,k5,l,ht,ho,hok,hi⟩:=M.ex;have hC:=I.kIn _ _ l;have hN:s.heap.Ns N (s.heap.nsMap N):=.of_isNs (PySem.W.isNs_of_in I.kIn hok);have tG:=aoa I.kIn hN hi;have hf:∃ o,s.heap.get? f=some o/\o.cls=.type "function":=by
  obtain ⟨o,ho,hc⟩:=Option.map_eq_some_iff.mp (beq_iff_eq.mp M.fn);exact ⟨o,I.kIn _ _ ho,hc⟩
 obtain ⟨of,Z6,bC⟩:=hf;have fP:=r.length;have r2:Vals (V.ref (s.heap.objs.size+1)::vs) (Value.ref (s.heap.objs.size+1)::us):=.cons rfl r;have hl:(Value.ref (s.heap.objs.size+1)::us++[]).length=ps.length:=by
  have e:=r2.length;rw [F.len _ _ _ _ hq] at e;rw [M3];exact e.symm
 obtain ⟨h0,g,d,tk,os⟩:=s;refine aj4 PySem.F.excBase_ValueError (by decide) PySem.F.excBase_ValueError (PySem.W.tail_of_in I.kIn ht) hC hN tG Z6 bC (by rw [<- fP];exact E1 B1 (by decide)) ?_;have I2:Inv X pins Y (A0 H (h0.objs.size+1) (xm X.s₀.heap.objs.size (h0.objs.size+1) C)) ⟨(h0.push { cls:=.type "tuple",data:=.seq us.toArray }).push (R7 C h0.objs.size none),g,d,tk,os⟩:=
  I.laid (t':=tk) (fun b u z=>Heap.get?_push_of_some _ (Heap.get?_push_of_some _ z)) (Nat.le_succ _) (xm_ok (t0:=h0.objs.size) (Nat.le_succ_of_le I.sz) (by
   have:=Heap.get?_push_size (h0.push { cls:=.type "tuple",data:=.seq us.toArray }) (o:=R7 C h0.objs.size none) rfl
   rwa [Heap.size_push] at this))
 refine codeAny_mono (F.run _ X.stack _ _ ⟨Value.ref (h0.objs.size+1)::us,[]⟩ (Value.ref (h0.objs.size+1)::us) _ _ E0 (hr.make C us []) (I2.env0.make C us []) (by have:=hb _ (Value.ref (h0.objs.size+1)::us) I2.kIn hl;rwa [M3] at this) r2 hq) fun r s' U9=>?_
 cases r with
 | error e=>exact U9.elim
 | ok fl=>
  cases fl with
  | ret u=>
   obtain ⟨v,H',I3,rv,ev,q3⟩:=I2.after U9;subst ev;exact ⟨rv,⟨V.ref (h0.objs.size+1),H',I3,rfl,q3⟩⟩
  | next=>exact False.elim U9
  | brk=>exact False.elim U9
  | cont=>exact False.elim U9
theorem aob(M:ErrC X.K C f)(F:FnOk X.prog X.w X.K X.mg X.base F9 k f fd ps sp)(hr:Room (k+1) X.A)(hg:Gl X x)(hm:X.mg x=some (.ref C))(hb:Binds X.K fd ps [])(ha:PA X (e::es) t)(K6:(x==("__debug__" : Str))=false:=by decide)(he:starEach (e::es) X.env=(false,eval e X.env)::starEach es X.env:=by rfl)(R8:(backTo pos (starEach es X.env)).any (·.1)=false:=by rfl) :
  PE X (.Call (.Name x p) (e::es) [] pos) (tErr X.s₀.heap.objs.size C sp t):=by
 intro pins s Y H Q I h;refine wpAny_Call_Name_kw (eC I hg hm ?_ K6);refine PySem.W.callWith_K (h₀:=X.base) I.ok.mod.kin M.kp (C0 (ha pos pins s Y H _ I h) fun us s1 ⟨vs,H1,I1,r,q0,q⟩=>⟨I1.kIn,amc M F hr hb I1 r q0 q⟩) he R8
end
theorem aj7{o:HO}(h:H a=some o):A0 H a o=H:=by
 funext b;unfold A0;split
 .rename_i e;rw [e,h]
 .rfl
structure LoreC(K:PySem.W.Frag)(L:Addr):Prop where
 sp:bV K (.ref L) "__getattribute__"=some (some (.builtin "type.__getattribute__"))
 rd:PySem.W.readsIn K L (.type "type")=true
 fc:PySem.W.findCls K (.ref L) (.type "type") "__init__"=some (.val (.builtin "ValueError.__init__"))
noncomputable def tInit (K:PySem.W.Frag) (ta tb:TE):TE:=fun Y H Q=>ta Y H fun x H1=>tb Y H1 fun _ H2=>∃ a m C f,x=.ref a/\H2 a=some (xm m a C)/\ErrC K C f/\Q .non H2
section
variable {X:Cx} {L:Addr} {x:Str} {np ap cp:Pos} {a b:Expr} {ta tb:TE} {pl:Sem Bool}
theorem amd(N:LoreC X.K L)(hg:Gl X x)(hm:X.mg x=some (.ref L))(ha:PE X a ta)(hb:PE X b tb)(K6:(x==("__debug__" : Str))=false:=by decide)(tK:backTo cp (starEach [a,b] X.env)=[(false,eval a X.env),(false,eval b X.env)]:=by rfl)(ht:eval (.Call (.Attribute (.Name x np) "__init__" ap) [a,b] [] cp) X.env=(do
   let ov <- eval (.Name x np) X.env
   standAt ap.atName
   let (f,first) <- holding [ov] (getMethod ov "__init__" pl)
   callWith cp f first (backTo cp (starEach [a,b] X.env)) (backToKw cp (keywordEach [] X.env))):=by rfl) :
  PE X (.Call (.Attribute (.Name x np) "__init__" ap) [a,b] [] cp) (tInit X.K ta tb):=by
 intro pins s Y H Q I h;refine PySem.W.methodCall_KW (pl:=pl) (eC I hg hm ?_ K6) ht;refine PySem.W.method_cls I.kIn N.sp (PySem.W.cls_value I.kIn N.rd N.fc rfl ?_);rw [tK];have I0:=I.tok (s.toks+1);refine Calls.callWith_builtin rfl (Calls.evalArgs_plain (Calls.spliced_cons (C0 (ha pins _ Y H _ I0 h) fun u s1 ⟨v,H1,I1,rv,q1⟩=>Calls.spliced_cons (C0 (hb pins s1 Y H1 _ I1 q1) fun z s2 ⟨y,H2,I2,ry,e,m,C,f,ex,he,M,q2⟩=>Calls.spliced_nil ?_))));subst ex;obtain rfl:u=Value.ref e:=rv;obtain ⟨nm,q,N',bs,bm,sn,sub,ab,col,dd,k0,k1,k2,k3,k5,l,dE,ho,hok,hi⟩:=M.ex;obtain ⟨tL,t0,hx⟩:=(I2.hok _ _ he).1;obtain ⟨h2,g,d,tk,os⟩:=s2;refine aeA PySem.F.excBase_ValueError (PySem.W.tail_of_in I2.kIn dE) (I2.kIn _ _ l) hx fun h' t1 keep fW=>?_
 have I3:=I2.write (x:=e) (e:=e) (t':=tk) (by rw [he];exact True.intro) (.inl rfl) (fun b u hb z=>keep b u hb z) ⟨_,fW⟩ (xm_ok tL fW);rw [aj7 he] at I3;exact ⟨.non,H2,I3,rfl,q2⟩
end
end L2
set_option maxRecDepth 100000
namespace L2
open PySem PySem.Spec PyProof.Rows
noncomputable def tFmtI (te:TE):TE:=fun Y H Q=>te Y H fun v H1=>∃ i:Int,v=.int i/\i.natAbs<10 ^ 9/\∀ z:Str,z.length<=100->Q (.str z) H1
noncomputable def cO:List TE->TE
 | [],_,H,Q=>∀ z:Str,Q (.str z) H
 | t::ts,Y,H,Q=>t Y H fun v H1=>∃ y:Str,v=.str y/\y.length<=100000/\cO ts Y H1 Q
section
variable {X:Cx} {e:Expr} {te:TE} {pos:Pos}
inductive PFs (X:Cx):List Expr->List TE->Prop
 | nil:PFs X [] []
 | cons {e:Expr} {te:TE} {es:List Expr} {ts:List TE} : PE X e te->PFs X es ts->PFs X (e::es) (te::ts)
theorem zA : ∀ {es:List Expr} {ts:List TE} (acc:Str) (n:Nat) (s:Shared) (H:Hp),PFs X es ts->Inv X pins Y H s->acc.length+100000*es.length<=sizeLine->cO ts Y H Q->
  Joins (model X.prog X.w) X.A X.xe (evalEach es X.env) acc (fun out zt=>out.length<=sizeLine/\EP X pins Y Q (.str out zt.toks) { zt with toks:=zt.toks+1 }) s
 | [],_,acc,n,s,H,.nil,I,hl,h=>⟨by simpa using hl,.str acc,H,I.tok _,⟨_,rfl⟩,h acc⟩
 | e::es,_,acc,n,s,H,.cons he hr,I,hl,h=>C0 (he pins s Y H _ I h) fun u s1 ⟨v,H1,I1,rv,y,ev,hy,q⟩=>by
  subst ev;obtain ⟨t,rfl⟩:=rv;rw [J9] at hl;have e1:(acc++y).length=acc.length+y.length:=strLen_append ..;exact ⟨y,t,rfl,by lia,zA (acc++y) n s1 H1 hr I1 (by lia) q⟩
theorem aiy{e1 e2:Expr}{ts:List TE}(h:PFs X (e1::e2::es) ts)(hn:es.length<=2):PE X (.JoinedStr (e1::e2::es) pos) (cO ts):=by
 intro pins s Y H Q I hq;refine wpAny_JoinedStr (zA Str.empty 0 s H h I ?_ hq)
 have:Str.empty.length=0:=rfl
 rw [this,J9,J9,sizeLine_eq];lia
end
noncomputable def sXFld (K:PySem.W.Frag) (ta tv:TE) (f:Str):TS:=fun D Y H=>tv Y H fun y H1=>ta Y H1 fun x H2=>∃ a m C g,x=.ref a/\H2 a=some (xm m a C)/\ErrC K C g/\NoAttr K C f/\∀ dx,H2 dx=none->dx≠a->D.nx Y (A0 (A0 H2 a (xo m a C dx)) dx (.xd [(f,y)]))
section
variable {X:Cx} {o value:Expr} {ta tv:TE} {f:Str} {ap pos:Pos}
theorem Inv.xstore(I:Inv X pins Y H s)(e:H a=some (xm m a C))(hd:s.heap.objs.size<=dx)(ne:dx≠a)(hx:h'.get? a=some (R7 C t0 (some dx)))(hn:h'.Ns1 dx (fun z=>if z=f then some u else none))(k:∀ b o,b≠a->s.heap.get? b=some o->h'.get? b=some o)(ry:RelV y u) :
  Inv X pins Y (A0 (A0 H a (xo m a C dx)) dx (.xd [(f,y)])) { s with heap:=h',toks:=t' }:=by
 have hdn:H dx=none:=I.hok.fresh hd;have tL:m<=a:=(I.hok _ _ e).1.1;have mu:eB (H a):=by rw [e];exact True.intro
 have w8:A0 H a (xo m a C dx) dx=none:=by rw [A7 ne];exact hdn
 have w1:Un X.fs [] H (A0 H a (xo m a C dx)) s.heap h':=Un.write mu (.inl rfl) k ⟨_,hx⟩;have old:∀ b o,s.heap.get? b=some o->b≠dx:=fun b o z q=>by rw [q] at z;exact absurd (Heap.lt_size z) (Nat.not_lt.mpr hd)
 refine I.un ⟨w1.keep,w1.slot,fun b o z n hb=>?_,w1.there,fun b xs z=>?_,fun b o v z=>?_,fun b ps z=>?_⟩ (yZ (I.hok.write mu (.inl rfl) k ⟨_,hx⟩ (xo_ok tL hx)) w8 ⟨_,hn,fun g=>?_⟩)
 .rw [A7 (old b o z)];exact w1.free b o z n hb
 .rw [A7 (M8 (w1.tups b xs z) w8)];exact w1.tups b xs z
 .rw [A7 (M8 (w1.frzs b o v z) w8)];exact w1.frzs b o v z
 .obtain ⟨more,q⟩:=w1.tbls b ps z;exact ⟨more,by rw [A7 (M8 q w8)];exact q⟩
 .show RelO ([(f,y)].lookup g) (if g=f then some u else none)
  by_cases q:g=f
  .rw [if_pos q,q,List.lookup_cons_self];exact ry
  .rw [if_neg q,List.lookup_cons,show (g==f)=false from beq_eq_false_iff_ne.mpr q];exact True.intro
theorem ame(ha:PE X o ta)(hv:PE X value tv)(hs:swapsWith value (some (.Attribute o f ap)) pos.line X.env=pure false):PS X (.Assign [.Attribute o f ap] value pos) (sXFld X.K ta tv f):=by
 intro pins s Y H D I h;refine plainObj_wpAny_Assign_Attribute (C0 (hv pins s Y H _ I h) fun u s1 ⟨y,H1,I1,ry,q⟩=>C0 (ha pins s1 Y H1 _ I1 q) fun ov s2 ⟨x,H2,I2,rx,a,m,C,g,ex,he,M,n,q2⟩=>?_) hs;subst ex;obtain rfl:ov=Value.ref a:=rx;obtain ⟨cd,hc,hd,ho⟩:=M.cls;obtain ⟨_,t0,hx⟩:=(I2.hok _ _ he).1;obtain ⟨h2,gg,d,tk,os⟩:=s2;refine aiu PySem.F.store_ValueError I2.kIn hx hc hd ho M.sa n fun h' dx tk' n1 n2 fW hn keep=>?_
 have I3:=I2.xstore (t':=tk') he n1 n2 fW hn keep ry;exact ⟨Y,_,I3,q2 dx (I2.hok.fresh n1) n2⟩
end
end L2
set_option maxRecDepth 100000
namespace L2
open PySem PySem.Spec PyProof.Rows
noncomputable def T6 (H:Hp) (x:Addr):Hp:=fun b=>if b=x then none else H b
theorem zB{x:Addr} : T6 H x x=none:=by unfold T6;rw [if_pos rfl]
theorem X4{x:Addr}(h:b≠x):T6 H x b=H b:=by unfold T6;rw [if_neg h]
theorem aj8{x:Addr}{o:HO}(h:T6 H x b=some o):b≠x/\H b=some o:=by
 by_cases e:b=x
 .rw [e,zB] at h;cases h
 .rw [X4 e] at h;exact ⟨e,h⟩
noncomputable def Q9 (P:Program) (w:World):V4:=fun outer H s E e s'=>∃ (x C dx T:Addr) (H':Hp),e=.ref x/\s'.os=s.os/\AllBare s'.gens/\Un (P8 outer) [] H H' s.heap s'.heap/\J7 P w H' s'.heap/\s.heap.objs.size<=x/\s.heap.objs.size<=T/\H' x=none/\H' T=none/\Flies s'.heap x C dx T/\E (.ref C) (some dx) H'
section
variable {P:Program} {w:World} {K:PySem.W.Frag} {mg:Str->Option Value} {base:Heap} {N:List Str} {qual:Str} {scope:Scope} {f:Addr} {cd:Value} {A:Around} {outer:List Env} {s s1:Shared} {H H1:Hp} {E:XK} {pins:List (Addr×Obj)} {Y:St} {x C dx:Addr}
theorem qM(I:Inv (cxOf (Q9 P w) P w K mg base N qual scope f cd A outer s H E) pins Y H1 s1)(e:H1 x=some (xo s.heap.objs.size x C dx))(hE:E (.ref C) (some dx) (T6 H1 x)) :
  (cxOf (Q9 P w) P w K mg base N qual scope f cd A outer s H E).xe (.ref x) s1:=by
 obtain ⟨hm,t0,hx⟩:=(I.hok _ _ e).1;have B:Un (P8 outer) [] H H1 s.heap s1.heap:=I.base;have old:∀ b o,s.heap.get? b=some o->b≠x:=fun b o z q=>by rw [q] at z;exact absurd (Heap.lt_size z) (Nat.not_lt.mpr hm)
 have O3:∀ b o,s.heap.get? b=some o->b∉P8 outer->b∉P8 ((envOfC qual scope s.heap.objs.size f cd)::outer):=fun b o z n q=>by
  have z1:b∈(envOfC qual scope s.heap.objs.size f cd).locals::P8 outer:=I.stkSub b q
  rcases G4.mp z1 with r | r
  .have:b<(envOfC qual scope s.heap.objs.size f cd).locals:=Q1 (Heap.lt_size z) I.ok.above
   rw [r] at this;exact absurd this (Y3 _)
  .exact n r
 show wpAny _ _ (leaving _ _) _ _ _;unfold leaving;refine wpAny_bind (aix (s:=s1) I.ok.frames I.stack (L:=s.heap.objs.size) rfl hx fun h' T nT fl k1 k2=>?_);have szl:s.heap.objs.size<=s1.heap.objs.size:=I.sz;refine ⟨x,C,dx,T,T6 H1 x,rfl,I.os,I.bare,⟨fun b o z n hb N9=>?_,fun b o z n hb N9=>?_,fun b o z n N9=>?_,fun b o z N9=>?_,fun b xs z=>?_,fun b o v z=>?_,fun b ps z=>?_⟩,fun b u q=>?_,hm,E1 szl nT,zB,?_,fl,hE⟩
 .exact k1 b o (old b o z) (O3 b o z hb) (B.keep b o z n hb N9)
 .obtain ⟨sl,q⟩:=B.slot b o z n hb N9;obtain ⟨sl',q'⟩:=k2 b _ (old b o z) q;exact ⟨sl',q'⟩
 .rw [X4 (old b o z)];exact B.free b o z n N9
 .obtain ⟨o',q⟩:=B.there b o z N9;obtain ⟨sl',q'⟩:=k2 b o' (old b o z) q;exact ⟨_,q'⟩
 .have q:=B.tups b xs z;rw [X4 (fun r=>by rw [r,e] at q;cases q)];exact q
 .have q:=B.frzs b o v z;rw [X4 (fun r=>by rw [r,e] at q;cases q)];exact q
 .obtain ⟨more,q⟩:=B.tbls b ps z;exact ⟨more,by rw [X4 (fun r=>by rw [r,e] at q;cases q)];exact q⟩
 .obtain ⟨n1,q1⟩:=aj8 q;refine (I.hok b u q1).stay (fun c v hc z=>?_) (fun c z=>by rw [X4 (fun r=>by rw [r,e] at z;cases z)];exact z) fun c xs z=>by rw [X4 (fun r=>by rw [r,e] at z;cases z)];exact z
  have hcH:∃ o,H1 c=some o:=by
   rcases hc with r | r
   .rw [r];exact ⟨_,q1⟩
   .exact ⟨_,r⟩
  obtain ⟨oc,hcH⟩:=hcH;refine k1 c v (fun r=>?_) (fun r=>?_) z
  .rcases hc with r' | r'
   .exact n1 (r'.symm.trans r)
   .rw [r,e] at r';cases r'
  .have:=I.stkFree c r
   rw [hcH] at this;cases this
 .rw [X4 (fun r=>by
   have D1:=Heap.lt_size hx;rw [<- r] at D1;exact absurd D1 (Nat.not_lt.mpr nT))]
  exact I.hok.fresh nT
end
noncomputable def qN (K:PySem.W.Frag) (m:Nat) (E:XK) (te:TE):TS:=fun _ Y H=>te Y H fun v H1=>∃ x C dx f,v=.ref x/\H1 x=some (xo m x C dx)/\ErrC K C f/\E (.ref C) (some dx) (T6 H1 x)
section
variable {X:Cx} {m:Nat} {E:XK} {e:Expr} {te:TE} {pos:Pos}
theorem aj9(hx:∀ (pins:List (Addr×Obj)) (Y:St) (H:Hp) (s:Shared) (x C dx:Addr),Inv X pins Y H s->H x=some (xo m x C dx)->E (.ref C) (some dx) (T6 H x)->X.xe (.ref x) s)(hc:X.calm=true)(he:PE X e te):PS X (.Raise (some e) none pos) (qN X.K m E te):=by
 intro pins s Y H D I h;rw [arm_exec_Raise];refine wpAny_bind (wpAny_standAt (ait (I.ok.hd hc) (wpAny_bind (C0 (he pins s Y H _ I h) fun u s1 z=>wpAny_bind (wpAny_standAt (wpAny_pure ?_))))));obtain ⟨v,H1,I1,rv,x,C,dx,f,ev,ex,M,hE⟩:=z;subst ev;obtain rfl:u=Value.ref x:=rv;obtain ⟨nm,q,N,bs,bm,sn,sub,ab,col,dd,k0,k1,k2,k3,k5,l,dE,ho,hok,hi⟩:=M.ex;obtain ⟨_,t0,fW⟩:=(I1.hok _ _ ex).1;exact ⟨x,C,t0,N,some dx,nm,q,bs,bm,true,sn,sub,ab,col,dd,k0,k1,k2,k3,k5,_,rfl,I1.kIn _ _ l,(PySem.W.tail_of_in I1.kIn dE).hasType (by decide),fW,hx pins Y H1 s1 x C dx I1 ex hE⟩
end
section
variable {P:Program} {w:World} {K:PySem.W.Frag} {mg:Str->Option Value} {base:Heap}
theorem FunD.okX(F:FunD K x qual st f fd)(S:FnScope N ps (C7 st))(len:∀ vs H Q E,sp vs H Q E->vs.length=ps.length)(R9:∀ (cdv:Value) (A:Around) (outer:List Env) (s:Shared) (H:Hp) (vs:List V) (Q:VK) (E:XK),Room k (A.deeper (envOfC qual (C7 st) s.heap.objs.size f cdv))->sp vs H Q E->
   ∃ t,T3 (cxOf (Q9 P w) P w K mg base N qual (C7 st) f cdv A outer s H E) (Q3 st) t/\t { nx:=fun _ H'=>Q .non H',rt:=Q } (start N vs) H):FnOk P w K mg base (Q9 P w) (k+1) f fd ps sp:=by
 obtain ⟨oc,od,dV,kV,doc,pm,an,cdv,ct,osl,rfl,lk,Q5⟩:=F.ex;exact fn_of lk Q5 S len fun A outer s H vs Q E hr o5=>R9 cdv A outer s H vs Q E hr o5
end
section
variable {P:Program} {w:World} {K:PySem.W.Frag} {mg:Str->Option Value} {base:Heap} {N:List Str} {qual:Str} {scope:Scope} {f:Addr} {cd:Value} {A:Around} {outer:List Env} {s s1:Shared} {H H1:Hp} {E:XK} {pins:List (Addr×Obj)} {Y:St}
theorem iQ:gY (Q9 P w) (cxOf (Q9 P w) P w K mg base N qual scope f cd A outer s H E) E:=by
 intro pins Y H1 s1 e s' I ⟨x,C,dx,T,H',ee,os',bare',un,hok,nx,nT,hx,hT,fl,hE⟩;subst ee;have I':=I.call' (ch:=[]) os' un hok bare' (fun b z=>absurd z (by simp));have B:Un (P8 outer) [] H H' s.heap s'.heap:=I'.base;have szl:s.heap.objs.size<=s1.heap.objs.size:=I.sz;have old:∀ (y:Addr),s1.heap.objs.size<=y->∀ b o,s.heap.get? b=some o->b≠y:=fun y hy b o z q=>by rw [q] at z;exact absurd (Heap.lt_size z) (Nat.not_lt.mpr (E1 szl hy))
 have O3:∀ b o,s.heap.get? b=some o->b∉P8 outer->b∉P8 ((envOfC qual scope s.heap.objs.size f cd)::outer):=fun b o z n q=>by
  have z1:b∈(envOfC qual scope s.heap.objs.size f cd).locals::P8 outer:=I.stkSub b q
  rcases G4.mp z1 with r | r
  .have:b<(envOfC qual scope s.heap.objs.size f cd).locals:=Q1 (Heap.lt_size z) I.ok.above
   rw [r] at this;exact absurd this (Y3 _)
  .exact n r
 show wpAny _ _ (leaving _ _) _ _ _;unfold leaving;refine wpAny_bind (yY (s:=s') I'.ok.frames I'.stack (L:=s.heap.objs.size) rfl fl fun h' T' nT' fl' k1 k2=>?_);refine ⟨x,C,dx,T',H',rfl,I'.os,I'.bare,⟨fun b o z n hb N9=>?_,fun b o z n hb N9=>?_,fun b o z n N9=>B.free b o z n N9,fun b o z N9=>?_,B.tups,B.frzs,B.tbls⟩,fun b u q=>?_,E1 szl nx,?_,hx,I'.hok.fresh nT',fl',hE⟩
 .exact k1 b o (old x nx b o z) (old T nT b o z) (O3 b o z hb) (B.keep b o z n hb N9)
 .obtain ⟨sl,q⟩:=B.slot b o z n hb N9;obtain ⟨sl',q'⟩:=k2 b _ (old x nx b o z) (old T nT b o z) q;exact ⟨sl',q'⟩
 .obtain ⟨o',q⟩:=B.there b o z N9;obtain ⟨sl',q'⟩:=k2 b o' (old x nx b o z) (old T nT b o z) q;exact ⟨_,q'⟩
 .refine (I'.hok b u q).stay (fun c v hc z=>?_) (fun c z=>z) fun c xs z=>z
  have hcH:∃ o,H' c=some o:=by
   rcases hc with r | r
   .rw [r];exact ⟨_,q⟩
   .exact ⟨_,r⟩
  obtain ⟨oc,hcH⟩:=hcH;refine k1 c v (fun r=>?_) (fun r=>?_) (fun r=>?_) z
  .rw [r,hx] at hcH;cases hcH
  .rw [r,hT] at hcH;cases hcH
  .have:=I'.stkFree c r
   rw [hcH] at this;cases this
 .exact E1 I'.sz nT'
end
end L2
set_option maxRecDepth 100000
namespace L2
open PySem PySem.Spec PyProof.Rows
noncomputable abbrev Cx.inExc (X:Cx) (x:Addr) (xe:Value->Shared->Prop):Cx:={ X with A:=X.A.mark (some (.ref x)),calm:=false,xe:=xe }
section
variable {X:Cx} {pins:List (Addr×Obj)} {Y:St} {H:Hp} {s:Shared}
theorem Inv.inExc(I:Inv X pins Y H s)(x:Addr)(xe:Value->Shared->Prop):Inv (X.inExc x xe) pins Y H s:=
 ⟨⟨I.ok.mod,I.ok.kind,I.ok.glob,I.ok.blt,I.ok.above,I.ok.inj,I.ok.has,I.ok.cab,(fun z=>by cases z),I.ok.frames,I.ok.stk,I.ok.exf,I.ok.bs,I.ok.bsz,I.ok.noex,I.ok.exfs,I.ok.funs,I.ok.frf⟩,I.os,I.bare,I.base,I.loc,I.cell,I.free,I.freeC,I.pin,I.hok,I.len⟩
theorem Inv.outExc{x:Addr}{xe:Value->Shared->Prop}(hd:X.calm=true->X.A.handled=none)(I:Inv (X.inExc x xe) pins Y H s):Inv X pins Y H s:=
 ⟨⟨I.ok.mod,I.ok.kind,I.ok.glob,I.ok.blt,I.ok.above,I.ok.inj,I.ok.has,I.ok.cab,hd,I.ok.frames,I.ok.stk,I.ok.exf,I.ok.bs,I.ok.bsz,I.ok.noex,I.ok.exfs,I.ok.funs,I.ok.frf⟩,I.os,I.bare,I.base,I.loc,I.cell,I.free,I.freeC,I.pin,I.hok,I.len⟩
theorem Inv.beyond{s':Shared}(I:Inv X pins Y H s)(h:s.heap.objs.size<=b):(b∈X.ex\/X.s₀.heap.objs.size<=b)/\b≠X.env.locals/\(∀ x c,X.env.cells.lookup x=some c->c≠b)/\∀ p∈X.pn++pins,p.1≠b:=by
 refine ⟨.inr (E1 I.sz h),fun e=>?_,fun x c z e=>?_,fun p hp e=>?_⟩
 .have:=I.lt
  rw [<- e] at this;exact absurd this (Nat.not_lt.mpr h)
 .obtain ⟨v,o,ho,_⟩:=I.cell x c z
  have:=Heap.lt_size ho
  rw [e] at this;exact absurd this (Nat.not_lt.mpr h)
 .have:=Heap.lt_size (I.pin p hp).1
  rw [e] at this;exact absurd this (Nat.not_lt.mpr h)
theorem aiB{M:Model}{E:Value->Shared->Prop}{n:Str}{pos:Pos}{Q:Unit->Shared->Prop}(I:Inv X pins Y H s)(hN:X.N.Nodup)(hi:X.N[i]?=some n)(hk:X.env.kindOf n=some .local)(h:∀ s',Inv X pins (Y.set i none) H s'->Q () s'):wpAny M A (do bindName X.env n .none;unbindBehindTheSuite X.env n pos) Q E s:=by
 obtain ⟨m,hn,hl⟩:=I.loc;have cX:(X.env.scope.kind == .class || (X.env.scope.kind == .module&&X.env.locals != X.env.globals))=false:=by rw [I.ok.kind];rfl
 refine wpAny_nameGoes_keeps hk hn cX fun h' v fL hs=>h _ ?_
 have cne:=I.cne;have k:∀ b o,b≠X.env.locals->s.heap.get? b=some o->h'.get? b=some o:=fun b o hb z=>(hs.2 b hb).trans z
 have neL:∀ b o,X.s₀.heap.get? b=some o->b≠X.env.locals:=fun b o e=>K4 (Q1 (Heap.lt_size e) I.ok.above)
 have B:=I.base;refine ⟨I.ok,I.os,I.bare,⟨fun b o z n hb hx=>k b o (neL b o z) (B.keep b o z n hb hx),fun b o z n hb hx=>?_,B.free,fun b o z hx=>?_,B.tups,B.frzs,B.tbls⟩,⟨_,fL,fun j y u h1 h2 h3=>?_⟩,fun y c z=>?_,I.free,I.freeC,fun p hp=>?_,fun b u e=>?_,?_⟩
 .obtain ⟨sl,q⟩:=B.slot b o z n hb hx;exact ⟨sl,k b _ (neL b o z) q⟩
 .obtain ⟨o',q⟩:=B.there b o z hx;exact ⟨o',k b o' (neL b o z) q⟩
 .have dH:i≠j:=fun e=>by
   subst e;rw [List.getElem?_set_self (by rw [I.len];exact (F6.mp hi).1)] at h2;cases h2
  rw [List.getElem?_set_ne dH] at h2;obtain ⟨u',r,lk⟩:=hl j y u h1 h2 h3;have hyn:y≠n:=fun e=>dH (oC hN (by rw [hi,<- e]) h1)
  refine ⟨u',r,?_⟩
  rcases lk with ⟨a,b⟩ | ⟨a,c,b,d⟩
  .exact .inl ⟨a,by show (if y=n then v else m y)=_;rw [if_neg hyn];exact b⟩
  .obtain ⟨o,ho,hd⟩:=d;exact .inr ⟨a,c,b,o,k c o (cne y c b) ho,hd⟩
 .obtain ⟨v',o,ho,hd⟩:=I.cell y c z;exact ⟨v',o,k c o (cne y c z) ho,hd⟩
 .obtain ⟨a,b,c,d,e⟩:=I.pin p hp;exact ⟨k _ _ c a,b,c,d,e⟩
 .refine (I.hok b u e).stay (fun c v' hc z=>k c v' (fun r=>?_) z) (fun _ z=>z) fun _ _ z=>z
  have:=I.free
  rcases hc with r' | r'
  .rw [<- r,r',e] at this;cases this
  .rw [<- r,r'] at this;cases this
 .rw [List.length_set];exact I.len
end
end L2
set_option maxRecDepth 100000
namespace L2
open PySem PySem.Spec PyProof.Rows
section
variable {X:Cx} {pins:List (Addr×Obj)} {Y:St} {H:Hp} {s s':Shared} {E:XK} {e:Value} {Dn n:Str} {dp hp:Pos} {i:Nat} {yy:Stmt} {suite:List Stmt} {ts:TS} {D:Ends} {DC:Addr} {cd:ClassData}
theorem Inv.held{x T2:Addr}(I1:Inv X pins Y H' s')(hbx:(x∈X.ex\/X.s₀.heap.objs.size<=x)/\x≠X.env.locals/\(∀ y c,X.env.cells.lookup y=some c->c≠x)/\∀ p∈X.pn++pins,p.1≠x)(hbT:(T∈X.ex\/X.s₀.heap.objs.size<=T)/\T≠X.env.locals/\(∀ y c,X.env.cells.lookup y=some c->c≠T)/\∀ p∈X.pn++pins,p.1≠T)(hx:H' x=none)(hT:H' T=none)(kE:Flies h2 x C dx T2)(k1:∀ b o,b≠x->b≠T->b∉X.stack.filterMap (·.frame)->s'.heap.get? b=some o->h2.get? b=some o)(k2:∀ b o,b≠x->b≠T->s'.heap.get? b=some o->∃ sl,h2.get? b=some { o with slots:=sl }) :
  Inv X pins Y (A0 H' x (xc x C dx)) { s' with heap:=h2 }:=by
 obtain ⟨vs,oT,tsl,he,h1,hTx,hT2,hTd,h3⟩:=kE;have fr:∀ b,b≠X.env.locals->b∉X.fs->b∉X.stack.filterMap (·.frame):=fun b hL hf q=>by
  rcases G4.mp (I1.stkSub b q) with r | r
  .exact hL r
  .exact hf r
 refine I1.step (g':=s'.gens) (d':=s'.drawn) (t':=s'.toks) (ch:=[x,T]) (fun b hb=>?_) (fun b o hL hf hc z _=>k1 b o (fun r=>hc (by simp [r])) (fun r=>hc (by simp [r])) (fr b hL hf) z) (fun b o hL hf hc z _=>k2 b o (fun r=>hc (by simp [r])) (fun r=>hc (by simp [r])) z) (fun b o hc z n=>?_) (fun b o hc z=>?_) (fun b xs z=>?_) (fun b o u z=>?_) (fun b ps z=>?_) (fun m hm=>?_) (yZ (fun b u q=>?_) hx (xc_ok he rfl rfl rfl)) I1.bare
 .rcases G4.mp hb with r | r
  .rw [r];exact hbx
  .rw [F7.mp r];exact hbT
 .rw [A7 (fun r=>hc (by simp [r]))];exact n
 .obtain ⟨sl,q⟩:=k2 b o (fun r=>hc (by simp [r])) (fun r=>hc (by simp [r])) z;exact ⟨_,q⟩
 .rw [A7 (M8 z hx)];exact z
 .rw [A7 (M8 z hx)];exact z
 .exact ⟨#[],by rw [A7 (M8 z hx),z];simp⟩
 .obtain ⟨o,es,ep,ho,r⟩:=hm;obtain ⟨sl,q⟩:=k2 _ o (Ne.symm hbx.2.1) (Ne.symm hbT.2.1) ho;exact ⟨_,es,ep,q,r⟩
 .refine (I1.hok b u q).stay (fun c v hc z=>?_) (fun c z=>z) fun c xs z=>z
  have hcH:∃ o,H' c=some o:=by
   rcases hc with r | r
   .rw [r];exact ⟨_,q⟩
   .exact ⟨_,r⟩
  obtain ⟨oc,hcH⟩:=hcH;refine k1 c v (M8 hcH hx) (M8 hcH hT) (fun r=>?_) z
  have:=I1.stkFree c r
  rw [hcH] at this;cases this
theorem Inv.other(I:Inv X pins Y H s)(hb:(T∈X.ex\/X.s₀.heap.objs.size<=T)/\T≠X.env.locals/\(∀ y c,X.env.cells.lookup y=some c->c≠T)/\∀ p∈X.pn++pins,p.1≠T)(hT:H T=none)(k:∀ b o,b≠T->s.heap.get? b=some o->h2.get? b=some o):Inv X pins Y H { s with heap:=h2 }:=
 I.turned (t':=s.toks) k hT hb.2.1 hb.1 hb.2.2.1 hb.2.2.2
end
end L2
set_option maxRecDepth 100000
namespace L2
open PySem PySem.Spec PyProof.Rows
section
variable {X:Cx} {pins:List (Addr×Obj)} {Y:St} {H:Hp} {s:Shared} {E:XK} {k:Nat} {f:Addr} {fd:FuncData} {ps:List Str} {sp:Sp} {g:Str} {gp cp:Pos} {e:Expr} {es:List Expr} {t:TA} {Q:VK} {XE:Value->Shared->Prop} {dvs:List V} {ds:List Value}
end
noncomputable def aO (K:PySem.W.Frag) (DC:Addr) (i:Nat) (ts:TS) (D:Ends) (Y:St):XK:=fun cls dx H'=>∃ C d,cls=.ref C/\dx=some d/\M7 K C (.ref DC)=some true/\∀ x,H' x=none->ts { nx:=fun σ' H''=>D.nx (σ'.set i none) H'',rt:=fun _ _=>False } (Y.set i (some (.ref x))) (A0 H' x (xc x C d))
noncomputable def tTryE (K:PySem.W.Frag) (sp:Sp) (dvs:List V) (t:TA) (DC:Addr) (i:Nat) (ts:TS):TS:=fun D Y H=>t Y H fun vs H1=>sp (vs++dvs) H1 (fun _ H2=>D.nx Y H2) (aO K DC i ts D Y)
noncomputable def tTryA (K:PySem.W.Frag) (sp:Sp) (dvs:List V) (t:TA) (j:Nat) (DC:Addr) (i:Nat) (ts:TS):TS:=fun D Y H=>t Y H fun vs H1=>sp (vs++dvs) H1 (fun v H2=>D.nx (Y.set j (some v)) H2) (aO K DC i ts D Y)
structure CatchC(K:PySem.W.Frag)(DC:Addr):Prop where
 cl:∃ cd,PySem.W.clsIn K DC=some cd
 ty:PySem.W.typeIn K (.ref DC)=some (.type "type")
 bx:M7 K DC (.type "BaseException")=some true
section
variable {X:Cx} {k:Nat} {f DC:Addr} {fd:FuncData} {ps:List Str} {sp:Sp} {g Dn n y:Str} {gp cp ep dp hp pos yp:Pos} {e:Expr} {es:List Expr} {t:TA} {i j:Nat} {yy:Stmt} {suite:List Stmt} {ts:TS} {dvs:List V} {ds:List Value}
end
noncomputable def tXGet (K:PySem.W.Frag) (ta:TE) (f:Str):TE:=fun Y H Q=>ta Y H fun x H1=>∃ a C dx g fs v,x=.ref a/\H1 a=some (xc a C dx)/\H1 dx=some (.xd fs)/\ErrC K C g/\NoAttr K C f/\fs.lookup f=some v/\Q v H1
noncomputable def clsV:V->Option Value
 | .ref a=>some (.ref a)
 | .ty t=>some (.type t)
 | _=>none
noncomputable def rIsX (K:PySem.W.Frag):List V->Hp->VK->Prop:=fun xs H Q=>∃ a C dx g fs c cv b,xs=[.ref a,c]/\H a=some (xc a C dx)/\H dx=some (.xd fs)/\ErrC K C g/\clsV c=some cv/\G6 K (.ref C) cv=some b/\Q (.bl b) H
section
variable {X:Cx} {e:Expr} {te:TE} {f:Str} {pos:Pos}
theorem zC{fs:List (Str×V)}(I:Inv X pins Y H s)(h1:H a=some (xc a C dx))(h2:H dx=some (.xd fs)) :
  ∃ (ox od:Obj) (mA:Str->Option Value),PySem.W.InstAt s.heap a ox C (some od)/\(∀ name,PySem.W.lookIn name od=some (mA name))/\∀ g,RelO (fs.lookup g) (mA g):=by
 obtain ⟨o,ho,hc,hd,hn⟩:=(I.hok _ _ h1).1;obtain ⟨mA,ns,rel⟩:=I.hok _ _ h2;obtain ⟨od,fV,hl⟩:=vJ ns;refine ⟨o,od,mA,⟨ho,hc,hn,?_⟩,hl,rel⟩;rw [hd];exact fV
theorem amf(he:PE X e te)(hb:attributeBase e f X.env (eval e X.env)=eval e X.env):PE X (.Attribute e f pos) (tXGet X.K te f):=by
 intro pins s Y H Q I h;refine vL hb (C0 (he pins s Y H _ I h) fun u s1 z=>?_);obtain ⟨x,H1,I1,rx,a,C,dx,g,fs,v,ex,h1,h2,M,n,l,q⟩:=z;subst ex;obtain rfl:u=Value.ref a:=rx;obtain ⟨ox,od,mA,J,hl,rel⟩:=zC I1 h1 h2;obtain ⟨u,hu,ru⟩:=eG (v:=v) (o:=mA f) (by rw [<- l];exact rel f);obtain ⟨cd,hc,hd,_⟩:=M.cls;obtain ⟨hh,g',d,tk,os⟩:=s1;refine amb I1.kIn J M.ga M.gt M.bx (PySem.W.findObj_own (by unfold dZ;rw [hc];exact hd) n rfl (by rw [hl,hu])) (vK ru) ?_;exact ⟨v,H1,I1.tok _,ru,q⟩
theorem aka(hn:bV X.K (.builtin "object.__class__") "__get__"=some (some (.builtin "getset_descriptor.__get__")))(ht:gQ X.K (.builtin "object.__class__")=some true):CallR X (.builtin "isinstance") (rIsX X.K):=by
 intro pins s Y H xs us Q I r h;obtain ⟨a,C,dx,g,fs,c,cv,b,rfl,h1,h2,M,kF,hk,q⟩:=h;obtain ⟨u1,u2,rfl,r1,r2⟩:=vals2 r
 cases r1
 have e2:u2=cv:=by
  cases c with
  | ref D=>cases kF;exact r2
  | ty t=>cases kF;exact r2
  | _=>cases kF
 subst e2;obtain ⟨ox,od,mA,J,hl,rel⟩:=zC I h1 h2;obtain ⟨cd,hc,hd,_⟩:=M.cls;exact Y5 (aj5 (ox:=ox) (od:=od) (by unfold dZ;rw [hc];exact hd) M.ga M.gt M.bx M.cl hn ht M.ob) I.kIn J hk (by intro z;cases z) fun tk=>⟨.bl b,H,I.tok _,rfl,q⟩
end
end L2
set_option maxRecDepth 100000
namespace L2
open PySem PySem.Spec PyProof.Rows
noncomputable def u7 (P:Program) (w:World) (K:PySem.W.Frag) (mg:Str->Option Value) (base:Heap) (k:Nat) (x:Str) (ps:List Str) (dvs:List V) (sp:Sp):Prop:=
 ∃ f fd,FnOk P w K mg base (Q9 P w) k f fd ps sp/\mg x=some (.ref f)/\O9 K (.ref f)=true/\∃ ds,Binds K fd ps ds/\Vals dvs ds
noncomputable def EO (P:Program) (w:World) (K:PySem.W.Frag) (mg:Str->Option Value) (base:Heap) (k:Nat) (C:Addr) (x:Str) (ps:List Str) (sp:Sp):Prop:=
 ∃ f fd,FnOk P w K mg base F9 k f fd ps sp/\mg x=some (.ref C)/\ErrC K C f/\Binds K fd ps []
section
variable {X:Cx} {K:PySem.W.Frag} {k:Nat} {C:Addr} {ps:List Str} {sp:Sp} {x:Str} {p pos np ap cp ep dp hp yp gp:Pos} {e a b:Expr} {es:List Expr} {t:TA} {te ta tb tv:TE} {m:Nat} {E:XK}
theorem qO(G:EO X.prog X.w X.K X.mg X.base k C x ps sp)(hr:Room (k+1) X.A)(ha:QA X (e::es) t)(hg:Gl X x:=by rfl)(hm:X.s₀.heap.objs.size=m:=by rfl)(K6:(x==("__debug__" : Str))=false:=by decide)(he:starEach (e::es) X.env=(false,eval e X.env)::starEach es X.env:=by rfl)(R8:(backTo pos (starEach es X.env)).any (·.1)=false:=by rfl):QE X (.Call (.Name x p) (e::es) [] pos) (tErr m C sp t):=by
 subst hm;obtain ⟨f,fd,F,dA,M,hb⟩:=G;exact ⟨aob M F hr hg dA hb ha.out K6 he R8⟩
theorem qP{L:Addr}{pl:Sem Bool}(N:LoreC X.K L)(hm:X.mg x=some (.ref L))(ha:QE X a ta)(hb:QE X b tb)(hK:X.K=K:=by rfl)(hg:Gl X x:=by rfl)(K6:(x==("__debug__" : Str))=false:=by decide)(tK:backTo cp (starEach [a,b] X.env)=[(false,eval a X.env),(false,eval b X.env)]:=by rfl)(ht:eval (.Call (.Attribute (.Name x np) "__init__" ap) [a,b] [] cp) X.env=(do
   let ov <- eval (.Name x np) X.env
   standAt ap.atName
   let (f,first) <- holding [ov] (getMethod ov "__init__" pl)
   callWith cp f first (backTo cp (starEach [a,b] X.env)) (backToKw cp (keywordEach [] X.env))):=by rfl):QE X (.Call (.Attribute (.Name x np) "__init__" ap) [a,b] [] cp) (tInit K ta tb):=by
 subst hK;exact ⟨amd N hg hm ha.out hb.out K6 tK ht⟩
theorem qQ{t1 t2:TE}(h1:QE X a t1)(h2:QE X b t2):QE X (.JoinedStr [a,b] pos) (cO [t1,t2]):=⟨aiy (.cons h1.out (.cons h2.out .nil)) (by decide)⟩
theorem qR{f:Str}(ha:QE X a ta)(hv:QE X b tv)(hK:X.K=K:=by rfl)(hs:swapsWith b (some (.Attribute a f ap)) pos.line X.env=pure false:=by rfl):QS X (.Assign [.Attribute a f ap] b pos) (sXFld K ta tv f):=by
 subst hK;exact ⟨ame ha.out hv.out hs⟩
theorem qS(hx:∀ (pins:List (Addr×Obj)) (Y:St) (H:Hp) (s:Shared) (x C dx:Addr),Inv X pins Y H s->H x=some (xo m x C dx)->E (.ref C) (some dx) (T6 H x)->X.xe (.ref x) s)(he:QE X e te)(hK:X.K=K:=by rfl)(hc:X.calm=true:=by rfl):QS X (.Raise (some e) none pos) (qN K m E te):=by
 subst hK;exact ⟨aj9 hx hc he.out⟩
theorem iR(G:u7 X.prog X.w X.K X.mg X.base k x ps dvs sp)(hr:Room k X.A)(hx:gY (Q9 X.prog X.w) X E)(ha:QA X (e::es) t)(hg:Gl X x:=by rfl)(K6:(x==("__debug__" : Str))=false:=by decide)(he:starEach (e::es) X.env=(false,eval e X.env)::starEach es X.env:=by rfl)(R8:(backTo pos (starEach es X.env)).any (·.1)=false:=by rfl):QE X (.Call (.Name x p) (e::es) [] pos) (tCall sp dvs E t):=by
 obtain ⟨f,fd,F,hm,hk,ds,hb,hd⟩:=G;exact ⟨vM F hr hg hm hk hb hd hx ha.out K6 he R8⟩
theorem amg{f:Str}(he:QE X e te)(hK:X.K=K:=by rfl)(hb:attributeBase e f X.env (eval e X.env)=eval e X.env:=by rfl):QE X (.Attribute e f pos) (tXGet K te f):=by
 subst hK;exact ⟨amf he.out hb⟩
theorem q_isX(hn:bV X.K (.builtin "object.__class__") "__get__"=some (some (.builtin "getset_descriptor.__get__")))(ht:gQ X.K (.builtin "object.__class__")=some true)(hK:X.K=K:=by rfl):QCall X (.builtin "isinstance") (rIsX K):=by
 subst hK;exact ⟨aka hn ht⟩
variable {DC:Addr} {Dn n y:Str} {i j:Nat} {yy:Stmt} {suite:List Stmt} {ts:TS} {dvs:List V} {N:List Str} {S:Scope}
end
section
variable {Y:St} {H:Hp} {Q:VK} {D:Ends} {m:Nat} {C DC:Addr} {sp:Sp} {t:TA} {te ta tb tv:TE} {K:PySem.W.Frag} {E:XK} {f:Str} {i j:Nat} {ts:TS} {dvs:List V} {tl:List TE}
theorem aoc:tErr m C sp t Y H Q=t Y H fun vs H1=>vs.length<=1000/\∀ x,H1 x=none->sp (.ref x::vs) (A0 H1 x (xm m x C)) (fun v H2=>v=.non/\Q (.ref x) H2) E0:=rfl
theorem akb:qN K m E te D Y H=te Y H fun v H1=>∃ x C dx f,v=.ref x/\H1 x=some (xo m x C dx)/\ErrC K C f/\E (.ref C) (some dx) (T6 H1 x):=rfl
theorem amh:tInit K ta tb Y H Q=ta Y H fun x H1=>tb Y H1 fun _ H2=>∃ a m C f,x=.ref a/\H2 a=some (xm m a C)/\ErrC K C f/\Q .non H2:=rfl
theorem ami:tFmtI te Y H Q=te Y H fun v H1=>∃ i:Int,v=.int i/\i.natAbs<10 ^ 9/\∀ z:Str,z.length<=100->Q (.str z) H1:=rfl
theorem aiD:cO [] Y H Q=∀ z:Str,Q (.str z) H:=rfl
theorem akc:cO (te::tl) Y H Q=te Y H fun v H1=>∃ y:Str,v=.str y/\y.length<=100000/\cO tl Y H1 Q:=rfl
theorem amj:sXFld K ta tv f D Y H=tv Y H fun y H1=>ta Y H1 fun x H2=>∃ a m C g,x=.ref a/\H2 a=some (xm m a C)/\ErrC K C g/\NoAttr K C f/\∀ dx,H2 dx=none->dx≠a->D.nx Y (A0 (A0 H2 a (xo m a C dx)) dx (.xd [(f,y)])):=rfl
theorem amk:tXGet K ta f Y H Q=ta Y H fun x H1=>∃ a C dx g fs v,x=.ref a/\H1 a=some (xc a C dx)/\H1 dx=some (.xd fs)/\ErrC K C g/\NoAttr K C f/\fs.lookup f=some v/\Q v H1:=rfl
theorem aml:tTryE K sp dvs t DC i ts D Y H=t Y H fun vs H1=>sp (vs++dvs) H1 (fun _ H2=>D.nx Y H2) (aO K DC i ts D Y):=rfl
theorem amm:tTryA K sp dvs t j DC i ts D Y H=t Y H fun vs H1=>sp (vs++dvs) H1 (fun v H2=>D.nx (Y.set j (some v)) H2) (aO K DC i ts D Y):=rfl
end
theorem aeC:bootBuiltins "ValueError"=some (.type "ValueError"):=by decide +kernel
theorem nsOk_of{N:Addr}{c:Value}{d:Option Addr}{es:Array DictEntry}{sl:Array (Option Value)}(h:K.lookup N=some ⟨c,d,.dict es n,sl⟩)(ha:(es.toList.all fun e=>match e.key with | .str _ _=>true | _=>false)=true):bW K N=true:=by
 unfold bW;rw [h];show (es.all _)=true;rw [<- Array.all_toList];exact ha
theorem tail_one{A:Addr}{c:Value}{d:Option Addr}{cd:ClassData}{sl:Array (Option Value)}(h:K.lookup A=some ⟨c,d,.cls cd,sl⟩)(h1:bW K cd.ns=true)(h2:E3 K cd.ns "__init__"=some none):y9 K bmB (.ref A::bmB)=true:=by
 unfold y9
 dsimp only
 rw [h];have h3:y9 K bmB bmB=true:=by
  cases bmB with
  | nil=>rfl
  | cons v r=>
   unfold y9;rw [beq_self_eq_true];rfl
 simp only [h1,h2,h3,beq_self_eq_true,Bool.and_self,Bool.or_true]
end L2
set_option maxRecDepth 100000
namespace L2
open PySem PySem.Spec PyProof.Rows
open PySem.Builtin PySem.Builtin.Str PySem.StrLaws
end L2
set_option maxRecDepth 100000
namespace L2
open PySem PySem.Spec PyProof.Rows
open PySem.Builtin PySem.Builtin.Str PySem.StrLaws
end L2
set_option maxRecDepth 100000
namespace L2
open PySem PySem.Spec PyProof.Rows
open PySem.Builtin PySem.Builtin.Str PySem.StrLaws
noncomputable def tFmtR (te:TE):TE:=fun Y H Q=>te Y H fun v H1=>∃ y:Str,v=.str y/\y.length<=1000/\P7 y=true/\∀ z:Str,z.length<=20000->Q (.str z) H1
theorem amn : tFmtR te Y H Q=te Y H fun v H1=>∃ y:Str,v=.str y/\y.length<=1000/\P7 y=true/\∀ z:Str,z.length<=20000->Q (.str z) H1:=rfl
theorem amo{pos:Pos}(he:PE X e te):PE X (.FormattedValue e 114 none pos) (tFmtR te):=by
 intro pins s Y H Q I h;refine wpAny_FormattedValue_repr (C0 (he pins s Y H _ I h) fun u s1 ⟨v,H1,I1,rv,y,ev,hy,ho,q⟩=>?_);subst ev;obtain ⟨t,rfl⟩:=rv;have hc:∀ c∈y.cps.toList,c<16 ^ 8:=fun c hc=>by
  unfold P7 at ho;rw [<- Array.all_toList,List.all_eq_true] at ho
  have:=ho c hc
  simp only [decide_eq_true_eq] at this;exact Nat.lt_trans this (by decide)
 have hl:(reprText y).length<=20000:=E1 (reprText_len y hc) (by lia);have hz:(reprText y).length<=sizeLine:=E1 hl (by decide);exact wpAny_pyReprObj_str (wpAny_formatField_str ⟨.str _,H1,I1.tok _,⟨_,rfl⟩,q _ hl⟩ ⟨.str _,H1,I1.tok _,⟨_,rfl⟩,q _ hl⟩ hz) hz
theorem zD{pos:Pos}(he:QE X e te):QE X (.FormattedValue e 114 none pos) (tFmtR te):=⟨amo he.out⟩
end L2
set_option maxRecDepth 100000
namespace L2
open PySem PySem.Spec PyProof.Rows
open PySem.Builtin PySem.Builtin.Str PySem.StrLaws
noncomputable def m5 (z:Str):Prop:=z.length<=10/\P7 z=true
noncomputable def tFmtL (K:PySem.W.Frag) (te:TE):TE:=fun Y H Q=>te Y H fun v H1=>∃ (a:Addr) (zs:List Str),v=.ref a/\H1 a=some (.lst (zs.map V.str))/\zs.length<=500/\(∀ z∈zs,m5 z)/\∀ z:Str,z.length<=100000->Q (.str z) H1
theorem amp : tFmtL K te Y H Q=te Y H fun v H1=>∃ (a:Addr) (zs:List Str),v=.ref a/\H1 a=some (.lst (zs.map V.str))/\zs.length<=500/\(∀ z∈zs,m5 z)/\∀ z:Str,z.length<=100000->Q (.str z) H1:=rfl
theorem zE:∀ {zs:List Str},(∀ z∈zs,m5 z)->piled (PyData.shownAll (zs.map V3))<=104*zs.length
 | [],_=>C4 _
 | z::zs,h=>by
  have ih:=zE fun y hy=>h y (M5 _ hy)
  obtain ⟨h1,h2⟩:=h z N1;have hc:∀ c∈z.cps.toList,c<16 ^ 8:=fun c hc=>by
   unfold P7 at h2;rw [<- Array.all_toList,List.all_eq_true] at h2
   have:=h2 c hc
   simp only [decide_eq_true_eq] at this;exact Nat.lt_trans this (by decide)
  have hl:=reprText_len z hc;rw [G3,show PyData.shownAll (V3 z::zs.map V3)=reprText z::PyData.shownAll (zs.map V3) from by simp only [PyData.shownAll,PyData.shown],piled_cons,J9];lia
theorem adX(ts:List Str):(listText ts).length<=piled ts+2:=by
 cases ts with
 | nil=>rw [listText_nil];decide
 | cons t r=>
  have h:=textFrom_length_pos r 1 (("[" : Str)++(if (0:Nat) > 0 then ", " else "" : String)++t) (Nat.succ_pos 0);have e:((("[" : Str)++(if (0:Nat) > 0 then ", " else "" : String)++t)).length=1+t.length:=by
   rw [strLen_append,strLen_append];rfl
  have hX:(listText (t::r)).length=(textFrom 0 "[" (t::r)).length+1:=by
   show (textFrom 0 "[" (t::r)++"]").length=_;rw [strLen_append];rfl
  have hY:(textFrom 0 "[" (t::r)).length=(textFrom 1 (("[" : Str)++(if (0:Nat) > 0 then ", " else "" : String)++t) r).length:=rfl;rw [hX,hY,h,e,piled_cons];lia
theorem mJ:∀ zs:List Str,PyData.showableAll (zs.map V3)=true/\PyData.hasDictAll (zs.map V3)=false
 | []=>⟨by simp only [d2,PyData.showableAll],by simp only [d2,PyData.hasDictAll]⟩
 | z::zs=>⟨by simp only [G3,PyData.showableAll,PyData.showable,(mJ zs).1,Bool.and_self],by simp only [G3,PyData.hasDictAll,PyData.hasDict,(mJ zs).2,Bool.or_self]⟩
theorem zF:∀ zs:List Str,r8 (zs.map V3)=0
 | []=>by simp only [d2,r8]
 | z::zs=>by simp only [G3,r8,PyData.depth,zF zs];rfl
theorem amq{pos:Pos}(hr:Room k X.A)(he:PE X e te):PE X (.FormattedValue e 114 none pos) (tFmtL X.K te):=by
 intro pins s Y H Q I h;refine wpAny_FormattedValue_repr (C0 (he pins s Y H _ I h) fun u s1 ⟨v,H1,I1,rv,a,zs,ev,ha,hn,hs,q⟩=>?_);subst ev;have hl:(PyData.list (zs.map V3)).shown.length<=100000:=by
  simp only [PyData.shown];have h1:=adX (PyData.shownAll (zs.map V3));have h2:=zE hs;lia
 have hz:(PyData.list (zs.map V3)).shown.length<=sizeLine:=E1 hl (by decide);obtain ⟨_,as,rd⟩:=Dn.reads I1 rfl (Dn.lst (K:=X.K) (.of ha) (lN fun z hz=>(hs z hz).2)) rv;obtain rfl:u=Value.ref a:=rv;have hu:=hr.units;refine pyReprObj_of_reads rd (by simp only [PyData.showable];exact (mJ zs).1) (PyData.noDict_hsm (by simp only [PyData.hasDict];exact (mJ zs).2)) hr.gd (by rw [PyData.depth,zF];lia) (fun _ _ z=>z) (fun h' u tk hk=>?_) hz;have I2:Inv X pins Y H1 { s1 with heap:=h',toks:=tk }:=I1.kept hk;exact wpAny_formatField_str ⟨.str _,H1,I2,⟨_,rfl⟩,q _ hl⟩ ⟨.str _,H1,I2.tok _,⟨_,rfl⟩,q _ hl⟩ hz
theorem amr{pos:Pos}(hr:Room k X.A)(he:QE X e te):QE X (.FormattedValue e 114 none pos) (tFmtL X.K te):=⟨amq hr he.out⟩
end L2
set_option maxRecDepth 100000
namespace L2
open PySem PySem.Spec PyProof.Rows
section
variable {X:Cx} {K:PySem.W.Frag} {hh:ExceptHandler} {bs sa sb:List Stmt} {t u:TS} {pos:Pos} {c:Expr} {tA:TT}
end
section
variable {X:Cx} {K:PySem.W.Frag} {k:Nat} {DC:Addr} {ps:List Str} {sp:Sp} {x Dn n:Str} {gp cp ep dp hp:Pos} {e:Expr} {es:List Expr} {t:TA} {i:Nat} {yy:Stmt} {suite:List Stmt} {ts:TS} {dvs:List V}
end
end L2
set_option maxRecDepth 100000
namespace L2
open PySem PySem.Spec PyProof.Rows
noncomputable def mK (P:Program) (w:World) (K:PySem.W.Frag) (mg:Str->Option Value) (base:Heap) (k:Nat) (C:Addr) (x:Str) (ps:List Str) (sp:Sp):Prop:=
 ∃ f fd,FnOk P w K mg base (Q9 P w) k f fd ps sp/\Mk K C f/\mg x=some (.ref C)/\Binds K fd ps []
structure QEx(X:Cx)(e:Expr)(t:XK->TE):Prop where
 out:∀ (XE:Value->Shared->Prop) (E:XK) (pins:List (Addr×Obj)) (s:Shared) (Y:St) (H:Hp) (Q:VK),(∀ H1 s1 e' s',Inv X pins Y H1 s1->Q9 X.prog X.w X.stack H1 s1 E e' s'->XE e' s')->Inv X pins Y H s->t E Y H Q->wpAny (model X.prog X.w) X.A (eval e X.env) (EP X pins Y Q) XE s
section
variable {X:Cx} {k:Nat} {f C:Addr} {fd:FuncData} {ps:List Str} {sp:Sp} {x m:Str} {p pos apos:Pos} {e o:Expr} {es:List Expr} {ta:XK->TE} {t:TA} {E:XK} {XE:Value->Shared->Prop}
theorem aiF(M:Mk X.K C f)(F:FnOk X.prog X.w X.K X.mg X.base (Q9 X.prog X.w) k f fd ps sp)(hr:Room (k+1) X.A){ds:List Value}(hb:Binds X.K fd ps ds)(hd:Vals dvs ds)(hx:∀ H1 s1 e' s',Inv X pins Y H1 s1->Q9 X.prog X.w X.stack H1 s1 E e' s'->XE e' s')(I:Inv X pins Y H s)(r:Vals vs us)(h:∀ x dx,H x=none->H dx=none->dx≠x->sp (.ref x::(vs++dvs)) (A0 (A0 H dx (.own x)) x (.ins C dx [])) (fun v H2=>v=.non/\Q (.ref x) H2) E) :
  wpAny (model X.prog X.w) X.A (call (.ref C) us) (EP X pins Y Q) XE s:=by
 have hq:=h (s.heap.objs.size+1) s.heap.objs.size (I.hok.fresh (Nat.le_succ _)) (I.hok.fresh (C4 _)) (K4 (Nat.lt_succ_self _));have I2:=Inv.made (C:=C) I;have r2:Vals (V.ref (s.heap.objs.size+1)::(vs++dvs)) (Value.ref (s.heap.objs.size+1)::(us++ds)):=.cons rfl (r.append hd);have hl:(Value.ref (s.heap.objs.size+1)::us++ds).length=ps.length:=by
  have e:=r2.length;rw [F.len _ _ _ _ hq] at e;exact e.symm
 refine wpAny_call (ai7 (f:=f) I.kIn M.makes M.init (beq_iff_eq.mp M.fn) (codeAny_mono (F.run _ X.stack _ _ ⟨Value.ref (s.heap.objs.size+1)::us,[]⟩ (Value.ref (s.heap.objs.size+1)::(us++ds)) _ _ E (hr.make C us [])
  (I2.env0.make C us []) (hb _ (Value.ref (s.heap.objs.size+1)::us) I2.kIn hl) r2 hq) fun r s' U9=>?_))
 cases r with
 | error e=>exact hx _ _ e s' I2 U9
 | ok fl=>
  cases fl with
  | ret u=>
   obtain ⟨v,H',I3,rv,ev,q3⟩:=I2.after U9;subst ev;exact ⟨rv,⟨V.ref (s.heap.objs.size+1),H',I3,rfl,q3⟩⟩
  | next=>exact False.elim U9
  | brk=>exact False.elim U9
  | cont=>exact False.elim U9
theorem zG(G:mK X.prog X.w X.K X.mg X.base k C x ps sp)(hr:Room (k+1) X.A)(ha:∀ XE,QA (X.wish XE) (e::es) t)(hg:Gl X x:=by rfl)(h1:K8 e=false:=by rfl)(h2:U3 es=true:=by rfl)(K6:(x==("__debug__" : Str))=false:=by decide) :
  QEx X (.Call (.Name x p) (e::es) [] pos) (fun E=>tMake C sp [] E t):=by
 obtain ⟨f,fd,F,M,hm,hb⟩:=G;refine ⟨fun XE E pins s Y H Q hx I h=>?_⟩;refine wpAny_Call_Name_kw (eC I hg hm ?_ K6);refine PySem.W.callWith_K (h₀:=X.base) I.ok.mod.kin M.kp (C0 ((ha XE).out pos pins s Y H _ (I.wish XE) h) fun us s1 z=>?_) (O5 h1) (eO h2);obtain ⟨vs,H1,I1,r,q⟩:=z;have I1:=I1.unwish;exact ⟨I1.kIn,aiF M F hr hb .nil hx I1 r q⟩
end
noncomputable def tTryX (K:PySem.W.Frag) (te:XK->TE) (j:Nat) (DC:Addr) (i:Nat) (ts:TS):TS:=fun D Y H=>te (aO K DC i ts D Y) Y H fun v H2=>D.nx (Y.set j (some v)) H2
noncomputable def aod (K:PySem.W.Frag) (te:XK->TE) (DC:Addr) (i:Nat) (ts:TS):TS:=fun D Y H=>te (aO K DC i ts D Y) Y H fun _ H2=>D.nx Y H2
section
variable {X:Cx} {K:PySem.W.Frag} {DC:Addr} {Dn n y:Str} {ep dp hp yp:Pos} {e:Expr} {te:XK->TE} {i j:Nat} {yy:Stmt} {suite:List Stmt} {ts:TS}
end
section
variable {K:PySem.W.Frag} {te:XK->TE} {DC C:Addr} {i j:Nat} {ts:TS} {D:Ends} {Y:St} {H:Hp} {sp:Sp} {E:XK} {t:TA} {Q:VK}
theorem ams:tTryX K te j DC i ts D Y H=te (aO K DC i ts D Y) Y H fun v H2=>D.nx (Y.set j (some v)) H2:=rfl
theorem akd:aod K te DC i ts D Y H=te (aO K DC i ts D Y) Y H fun _ H2=>D.nx Y H2:=rfl
theorem ake:tMake C sp [] E t Y H Q=t Y H fun vs H1=>∀ x dx,H1 x=none->H1 dx=none->dx≠x->sp (.ref x::(vs++[])) (A0 (A0 H1 dx (.own x)) x (.ins C dx [])) (fun v H2=>v=.non/\Q (.ref x) H2) E:=rfl
end
end L2
set_option maxRecDepth 100000
namespace L2
open PySem PySem.Spec PyProof.Rows
noncomputable abbrev TC:=Ends->St->Addr->Addr->Hp->Prop
structure QHs(X:Cx)(hs:List ExceptHandler)(tc:TC):Prop where
 out:∀ (pins:List (Addr×Obj)) (s:Shared) (Y:St) (H:Hp) (D:Ends) (x C dx T:Addr),Inv X pins Y (A0 H x (xc x C dx)) s->H x=none->((T∈X.ex\/X.s₀.heap.objs.size<=T)/\T≠X.env.locals/\(∀ y c,X.env.cells.lookup y=some c->c≠T)/\∀ p∈X.pn++pins,p.1≠T)->A0 H x (xc x C dx) T=none->Flies s.heap x C dx T->tc D Y C dx H->
  wpAny (model X.prog X.w) X.A (handleBy (.ref x) X.env hs) (SP X pins D) X.xe s
noncomputable def tcNil:TC:=fun _ _ _ _ _=>False
noncomputable def tcAs (K:PySem.W.Frag) (DC:Addr) (i:Nat) (ts:TS) (r:TC):TC:=fun D Y C dx H=>∃ b,M7 K C (.ref DC)=some b/\if b=true then ∀ x,H x=none->ts { nx:=fun σ' H''=>D.nx (σ'.set i none) H'',rt:=fun _ _=>False } (Y.set i (some (.ref x))) (A0 H x (xc x C dx)) else r D Y C dx H
noncomputable def m6 (tc:TC) (D:Ends) (Y:St):XK:=fun cls dx H=>∃ C d,cls=.ref C/\dx=some d/\tc D Y C d H
section
variable {X:Cx} {K:PySem.W.Frag} {DC:Addr} {Dn n:Str} {dp hp:Pos} {i:Nat} {yy:Stmt} {suite:List Stmt} {ts:TS} {hs:List ExceptHandler} {r:TC}
theorem zH:QHs X [] tcNil:=⟨fun _ _ _ _ _ _ _ _ _ _ _ _ _ _ z=>z.elim⟩
theorem qh_as(hmD:X.mg Dn=some (.ref DC))(CC:CatchC X.K DC)(hN:X.N.Nodup)(hi:X.N[i]?=some n)(hk:X.env.kindOf n=some .local)(h:∀ x xe,QSs (X.inExc x xe) (yy::suite) ts)(hr:QHs X hs r)(hK:X.K=K:=by rfl)(hg:Gl X Dn:=by rfl)(K6:(Dn==("__debug__" : Str))=false:=by decide):QHs X (.ExceptHandler (some (.Name Dn dp)) (some n) (yy::suite) hp::hs) (tcAs K DC i ts r):=by
 subst hK;obtain ⟨cd,Q5⟩:=CC.cl;refine ⟨fun pins s Y H D x C dx T I hx bT hT fl z=>?_⟩;obtain ⟨b,tM,z⟩:=z;refine wpAny_handleBy_cons (codeAny_handlers_test ?_) (by intro q;cases q);have I3:=I.inExc x X.xe;refine eC I3 hg hmD ?_ K6;obtain ⟨vs,oT,tsl,he2,r2⟩:=id fl;refine aiv (s:=s) I.kIn he2 rfl Q5 CC.ty CC.bx tM ?_
 cases b with
 | false=>exact hr.out pins s Y H D x C dx T I hx bT hT fl z
 | true=>
  refine codeAny_handlers_suite_as (aj6 (s:=s) fl fun h3 fl3 k3=>?_);have I4:=I.other bT hT k3;refine gU I4 hN hi (.inl hk) (v:=.ref x) rfl (fun s5 I5=>?_) (.inr hk);refine wpAny_mono ((h x _).out pins s5 _ _ _ (I5.inExc x _) (z x hx)) (fun f s6 q=>?_) fun _ _ z=>z
  cases f with
  | next=>
   obtain ⟨σ6,H6,I6,q6⟩:=q;exact aiB (I6.outExc I.ok.hd) hN hi hk fun s7 I7=>⟨_,H6,I7,q6⟩
  | ret u=>obtain ⟨_,_,_,_,_,z⟩:=q;exact z.elim
  | brk=>obtain ⟨_,_,_,z⟩:=q;exact z.elim
  | cont=>obtain ⟨_,_,_,z⟩:=q;exact z.elim
end
noncomputable def zI (X:Cx) (pins:List (Addr×Obj)) (D:Ends) (hs:List ExceptHandler):Value->Shared->Prop:=fun e s'=>wpAny (model X.prog X.w) X.A (noteFrame e X.env) (fun _ zw=>wpAny (model X.prog X.w) X.A (setFlight e none) (fun _ zu=>wpAny (model X.prog X.w) X.A (handleBy e X.env hs) (SP X pins D) X.xe zu) X.xe zw) X.xe s'
theorem aoe{e:Value}{hs:List ExceptHandler}{tc:TC}(hh:QHs X hs tc)(j0:X.stack=X.env::X.outer)(tN:X.env.frame=some X.env.locals)(I:Inv X pins Y H s)(c:Q9 X.prog X.w X.stack H s (m6 tc D Y) e s'):zI X pins D hs e s':=by
 obtain ⟨x,C,dx,T,H',ee,os',bare',un,hok,nx,nT,hx,hT,fl,hE'⟩:=c;subst ee;obtain ⟨C',d',e1,e2,h1⟩:=hE';cases e1;cases e2;have I1:=I.call' (ch:=[]) os' un hok bare' (fun b z=>absurd z (by simp));have bx:=I.beyond (s':=s) nx;have bT:=I.beyond (s':=s) nT;have O3:X.A.frames=some (X.env::X.outer):=by rw [<- j0];exact I.ok.frames
 have X7:s'.heap.FunFrames X.base (X.env::X.outer):=by rw [<- j0];exact I1.stack
 refine yY (s:=s') O3 X7 tN fl fun h2 T2 nT2 kE k1 k2=>?_
 rw [<- j0] at k1;have I2:=I1.held bx bT hx hT kE k1 k2;have bT2:=I1.beyond (s':=s) nT2;have hT2:A0 H' x (xc x C dx) T2=none:=by
  obtain ⟨_,_,_,_,_,hTx,_⟩:=kE;rw [A7 hTx];exact I1.hok.fresh nT2
 exact hh.out pins { s' with heap:=h2 } Y H' D x C dx T2 I2 hx bT2 hT2 kE h1
structure QTN(X:Cx)(hs:List ExceptHandler)(bs:List Stmt)(t:TS):Prop where
 out:∀ (pins:List (Addr×Obj)) (s:Shared) (Y:St) (H:Hp) (D:Ends),Inv X pins Y H s->t D Y H->wpAny (model X.prog X.w) X.A (execs bs X.env) (SP X pins D) (zI X pins D hs) s
noncomputable def tTnE (sp:Sp) (dvs:List V) (t:TA) (tc:TC):TS:=fun D Y H=>t Y H fun vs H1=>sp (vs++dvs) H1 (fun _ H2=>D.nx Y H2) (m6 tc D Y)
noncomputable def tTnA (sp:Sp) (dvs:List V) (t:TA) (j:Nat) (tc:TC):TS:=fun D Y H=>t Y H fun vs H1=>sp (vs++dvs) H1 (fun v H2=>D.nx (Y.set j (some v)) H2) (m6 tc D Y)
noncomputable def tTnX (te:XK->TE) (j:Nat) (tc:TC):TS:=fun D Y H=>te (m6 tc D Y) Y H fun v H2=>D.nx (Y.set j (some v)) H2
noncomputable def tTnXE (te:XK->TE) (tc:TC):TS:=fun D Y H=>te (m6 tc D Y) Y H fun _ H2=>D.nx Y H2
section
variable {X:Cx} {h0:ExceptHandler} {hs:List ExceptHandler} {bs sa sb:List Stmt} {t u:TS} {pos:Pos} {c:Expr} {tA:TT}
theorem zJ(h:QTN X (h0::hs) bs t):QS X (.Try bs (h0::hs) [] [] pos) t:=
 ⟨fun pins s Y H D I z=>wpAny_Try_except (wpAny_mono (h.out pins s Y H D I z) (fun f s1 z=>by cases f <;> first | exact wpAny_execs_nil z | exact z) fun _ _ z=>z)⟩
end
section
variable {X:Cx} {k:Nat} {ps:List Str} {sp:Sp} {x y:Str} {gp cp ep yp:Pos} {e:Expr} {es:List Expr} {t:TA} {j:Nat} {dvs:List V} {hs:List ExceptHandler} {tc:TC} {te:XK->TE}
theorem zK(hh:QHs X hs tc)(he:QEx X e te)(j0:X.stack=X.env::X.outer:=by rfl)(tN:X.env.frame=some X.env.locals:=by rfl)(jO:swapsWith e none ep.line X.env=pure false:=by rfl):QTN X hs [.Expr e ep] (tTnXE te tc):=by
 refine ⟨fun pins s Y H D I h=>?_⟩;refine wpAny_execs_cons (wpAny_Expr_any (wpAny_mono (he.out _ (m6 tc D Y) pins s Y H _ (fun H1 s1 e' s' I1 c=>aoe hh j0 tN I1 c) I h) (fun u s1 z=>?_) fun _ _ z=>z) I.quiet jO);obtain ⟨v,H1,I1,rv,q⟩:=z;exact wpAny_execs_nil ⟨Y,H1,I1,q⟩
end
section
variable {K:PySem.W.Frag} {te:XK->TE} {DC C dx:Addr} {i j:Nat} {ts:TS} {D:Ends} {Y:St} {H:Hp} {sp:Sp} {t:TA} {tc r:TC} {dvs:List V}
theorem aof:tTnE sp dvs t tc D Y H=t Y H fun vs H1=>sp (vs++dvs) H1 (fun _ H2=>D.nx Y H2) (m6 tc D Y):=rfl
theorem aog:tTnA sp dvs t j tc D Y H=t Y H fun vs H1=>sp (vs++dvs) H1 (fun v H2=>D.nx (Y.set j (some v)) H2) (m6 tc D Y):=rfl
theorem aoh:tTnX te j tc D Y H=te (m6 tc D Y) Y H fun v H2=>D.nx (Y.set j (some v)) H2:=rfl
theorem amt:tTnXE te tc D Y H=te (m6 tc D Y) Y H fun _ H2=>D.nx Y H2:=rfl
end
end L2
open L2 in
local macro_rules | `(tactic| walk_at "rd")=>`(tactic| simp only [↓wN,↓ap_c,↓aln,↓anw,↓ajr,↓alo,↓alp,↓anx,↓alq,↓anz,↓anA,↓alr,↓ap_op,↓alh,↓ap_tB,↓anu,↓ant,↓ap_or,↓alk,↓anv,↓alm,↓alj,↓ap_if,↓ajq,↓ap_cb,↓alv,↓anD,↓alw,↓anE,↓anF,↓ap_sl,↓ahR,↓alx,↓anI,↓alH,↓ajv,↓alF,↓alG,↓ajw,↓ajx,↓ap_bm,↓anG,↓anB,↓alt,↓als,↓ajt,↓alu,↓ap_un,↓ap_rU,↓anC,↓anH,↓aly,↓alz,↓alA,↓alB,↓ajs,↓alC,↓aju,↓alD,↓ali,alE,alI,ajy,ajz,ajA,↓ad_ii,↓ad_ss,↓ad_rr,↓mu_ii,↓mu_ri,↓eq_ii,↓eq_ss,↓eq_bb,↓eq_rx,↓eq_xr,↓ne_ii,↓ne_ss,↓ne_bb,↓ne_rx,↓ne_xr,↓L2.lt_ii,↓L2.lt_ss,↓le_ii,↓le_ss,↓gt_ii,↓gt_ss,↓ge_ii,↓ge_ss,↓in_xs,↓in_xr,↓sl_s,↓sl_r,↓len_s,↓len_r,↓anL,↓all_r,↓isi_t,↓ord_s,↓anS,↓ajF,wY,↓ajG,↓tup_r,↓alQ,↓anT,↓anU,↓alS,↓alT,↓ajH,↓ajI,↓alJ,↓alK,↓aoc,↓akb,↓amh,↓ami,↓amn,↓amp,↓ajX,↓an9,↓aiD,↓akc,↓amj,↓amk,↓aml,↓amm,↓aof,↓aog,↓aoh,↓amt,↓ams,↓akd,↓ake,↓an8,↓al2,↓aig,↓int_b,↓any_r,↓ajR,↓alZ,↓al0,↓anZ,↓al1,↓ajS,↓alV,↓ajN,↓alX,↓ajM,ajB,ae7,cxK,cxKn,cxKb,cxC,cxCn,cxCb,G3,d2,J9,k7,Nat.sub_self,Nat.reduceAdd,Nat.reduceSub,Nat.zero_add,Nat.add_one_sub_one,List.replicate_zero,dS,M3,p8,List.cons_append,List.getElem?_cons_zero,List.getElem?_cons_succ,List.set_cons_zero,List.set_cons_succ,Option.some.injEq,Option.join_some,Option.join_none,exists_eq_left',exists_eq_left,exists_eq',exists_eq,reduceCtorEq,false_and,and_false,exists_false,exists_const,false_or,or_false,true_and,and_true,V.str.injEq,V.int.injEq,V.bl.injEq,V.ref.injEq,V.ty.injEq,List.cons.injEq,exists_and_left,exists_and_right,and_assoc,if_true,if_false,Bool.false_eq_true,Bool.not_true,Bool.not_false,ite_true,ite_false,Int.reduceLT,Int.reduceLE,G8])
namespace K23
open PySem PySem.Spec PyProof.Rows L2
set_option maxRecDepth 100000
set_option maxHeartbeats 4000000
noncomputable def top (i:Nat):Stmt:=PySem.Challenge.pw_sortlore_k23_clash.main.body.getD i (.Pass ⟨0,0,0,0⟩)
noncomputable abbrev aP:Stmt:=lI (top 5) 0
noncomputable abbrev aQ:Stmt:=lI (top 6) 0
noncomputable abbrev aR:Stmt:=lI (top 3) 0
noncomputable abbrev m7:Stmt:=top 14
noncomputable abbrev V9:Stmt:=top 15
noncomputable abbrev m8:Stmt:=top 18
noncomputable abbrev aS:Stmt:=top 16
noncomputable abbrev R0:Stmt:=top 17
noncomputable abbrev Z1:Stmt:=top 19
noncomputable abbrev T7:Stmt:=top 20
noncomputable abbrev N5:Stmt:=top 21
noncomputable abbrev mM:Stmt:=top 23
noncomputable abbrev iS:Stmt:=top 29
noncomputable abbrev mO:Stmt:=top 30
noncomputable abbrev aT:Stmt:=top 31
noncomputable abbrev U7:Stmt:=top 32
noncomputable abbrev u8:Stmt:=top 33
noncomputable abbrev Z2:Stmt:=top 34
noncomputable abbrev aU:Stmt:=top 35
noncomputable abbrev aV:Stmt:=top 36
noncomputable abbrev O2:Stmt:=top 37
noncomputable abbrev aW:Stmt:=lI (top 38) 0
noncomputable abbrev iT:Stmt:=top 40
noncomputable abbrev u9:Stmt:=top 41
noncomputable abbrev eX:Stmt:=top 42
noncomputable abbrev iU:Stmt:=top 43
noncomputable abbrev m9:Stmt:=top 44
noncomputable abbrev g7:Stmt:=top 45
noncomputable abbrev mP:Stmt:=top 46
noncomputable abbrev eY:Stmt:=top 47
noncomputable abbrev W0:Stmt:=top 48
noncomputable abbrev n5:Stmt:=top 49
noncomputable abbrev aX:Stmt:=top 50
noncomputable abbrev s_law:Stmt:=top 51
noncomputable def visB (S:Scope) (x:Str):Bool:=decide (S.names.lookup x=some .local) || decide (S.names.lookup x=some .cell) || decide (S.names.lookup x=some .free)
theorem qvd{pos:Pos}{S:Scope}(hN:X.N=N)(hs:X.env.scope=S)(h:(decide (N[n]?=some x)&&visB S x && !(x==("__debug__" : Str)) && !(x==("__classdict__" : Str)))=true):QE X (.Name x pos) (tVar n):=by
 subst hN hs;simp only [visB,R1,Bool.or_eq_true,decide_eq_true_eq,l6] at h;exact qe_v h.1.1.1 (h.1.1.2.elim (fun z=>z.elim .inl fun z=>.inr (.inl z)) fun z=>.inr (.inr z)) h.1.2 h.2
theorem len1{α:Type}{F:List α->Prop}(h:∀ a,F [a]):∀ us:List α,us.length=1->F us
 | [a],_=>h a
theorem len2{α:Type}{F:List α->Prop}(h:∀ a b,F [a,b]):∀ us:List α,us.length=2->F us
 | [a,b],_=>h a b
theorem len3{α:Type}{F:List α->Prop}(h:∀ a b c,F [a,b,c]):∀ us:List α,us.length=3->F us
 | [a,b,c],_=>h a b c
theorem len4{α:Type}{F:List α->Prop}(h:∀ a b c d,F [a,b,c,d]):∀ us:List α,us.length=4->F us
 | [a,b,c,d],_=>h a b c d
theorem len5{α:Type}{F:List α->Prop}(h:∀ a b c d e,F [a,b,c,d,e]):∀ us:List α,us.length=5->F us
 | [a,b,c,d,e],_=>h a b c d e
theorem J4{Q:List Str}{sc:Scope}(h1:sc.kind=.function:=by rfl)(h2:sc.isCoroutine=false:=by rfl)(h3:sc.isGenerator=false:=by rfl)(h4:N.Nodup:=by decide +kernel)(h5:N.take Q.length=Q:=by rfl)(h6:∀ x∈Q,sc.names.lookup x=some .local\/sc.names.lookup x=some .cell:=by decide +kernel)(h7:∀ y∈sc.names,y.2≠.free:=by decide +kernel):FnScope N Q sc:=⟨h1,h2,h3,h4,h5,h6,h7⟩
theorem n6{kn:List (Str×NameKind)}{sc:Scope}(h1:sc.kind=.function:=by rfl)(h2:∀ x∈sc.names,x.2≠.cell:=by decide +kernel)(h3:∀ x∈sc.names,x.2=.local->sc.names.lookup x.1=some .local:=by decide +kernel)(h4:∀ x∈sc.names,x.2=.free->kn.lookup x.1=some .cell\/kn.lookup x.1=some .free:=by decide +kernel)(h5:∀ x∈sc.names,x.2=.free->sc.names.lookup x.1=some .free:=by decide +kernel)(h6:N'.length=k+ixs.length:=by rfl)(h7:ixs.map (fun i=>N[i]?)=(N'.drop k).map some:=by decide +kernel)(h8:∀ x∈N'.drop k,(x,NameKind.free)∈sc.names:=by decide +kernel):CompOk N kn sc N' k ixs:=⟨h1,h2,h3,h4,h5,h6,h7,h8⟩
theorem hm(r:Room k A)(h:j<=k:=by decide):Room j A:=r.mono h
structure DF(K:PySem.W.Frag)(n:Str)(s:Stmt):Prop where
 ex:∃ (f:Addr) (oc:Value) (od:Option Addr) (kV dc pm:Value) (an:Option Addr) (cd ct:Value) (sl:Array (Option Value)),E3 K mainGlobals n=some (some (.ref f))/\K.lookup f=some ⟨oc,od,.func (Q2 n n (R3 s) (Q3 s) (C7 s) .none kV dc pm an cd ct),sl⟩/\U1 K cd n=true/\O9 K (.ref f)=true
theorem df_mk{n:Str}{s:Stmt}{kV dc:Value}{sl:Array (Option Value)}(a:E3 K mainGlobals n=some (some (.ref f)))(l:K.lookup f=some ⟨oc,od,.func (Q2 n n (R3 s) (Q3 s) (C7 s) .none kV dc pm an cd ct),sl⟩)(c:U1 K cd n=true)(k:O9 K (.ref f)=true):DF K n s:=⟨f,oc,od,kV,dc,pm,an,cd,ct,sl,a,l,c,k⟩
theorem DF.go{P:Program}{w:World}{base:Heap}{n:Str}{s:Stmt}(d:DF K n s)(X:K.In h)(G:h.Ns mainGlobals mg)(_:K.In base)(ok:∀ {f fd},FunD K n n s f fd->FnOk P w K mg base F9 k f fd ps sp)(hl:∀ (kV dc pm:Value) (an:Option Addr) (cd ct:Value) (us:List Value),us.length=ps.length->bindArgs (Q2 n n (R3 s) (Q3 s) (C7 s) .none kV dc pm an cd ct) ⟨us,[]⟩=pure (ps.zip us):=by first | exact fun _ _ _ _ _ _=>len1 fun _=>rfl | exact fun _ _ _ _ _ _=>len2 fun _ _=>rfl | exact fun _ _ _ _ _ _=>len3 fun _ _ _=>rfl | exact fun _ _ _ _ _ _=>len4 fun _ _ _ _=>rfl | exact fun _ _ _ _ _ _=>len5 fun _ _ _ _ _=>rfl):FO P w K mg base k n ps [] sp:=by
 obtain ⟨f,oc,od,kV,dc,pm,an,cd,ct,sl,a,l,c,kp⟩:=d.ex;exact ⟨_,_,ok (l9 (st:=s) l c),L8 X G a,kp,[],.all (hl kV dc pm an cd ct),.nil⟩
structure Txt(P:Program)(w:World)(K:PySem.W.Frag)(mg:Str->Option Value)(C:Addr)(C_Clash:Addr)(C_NoLetter:Addr)(C_Round:Addr):Prop where
 cl:Cls K C
 na_figures:NoAttr K C "figures"
 na_behind:NoAttr K C "behind"
 na_jobs:NoAttr K C "jobs"
 na_letter_line:NoAttr K C "letter_line"
 na_mark_line:NoAttr K C "mark_line"
 na_made:NoAttr K C "made"
 lore:∃ L,mg "LoreError"=some (.ref L)/\LoreC K L
 na_Clash:NoAttr K C_Clash "piece"
 er_Clash:∃ f,ErrC K C_Clash f
 na_NoLetter:NoAttr K C_NoLetter "piece"
 er_NoLetter:∃ f,ErrC K C_NoLetter f
 na_Round:NoAttr K C_Round "pieces"
 er_Round:∃ f,ErrC K C_Round f
 cn:bV K (.builtin "object.__class__") "__get__"=some (some (.builtin "getset_descriptor.__get__"))
 ct:gQ K (.builtin "object.__class__")=some true
 c_Clash:∃ a,mg "Clash"=some (.ref a)/\CatchC K a/\M7 K C_Clash (.ref a)=some true/\M7 K C_NoLetter (.ref a)=some false/\M7 K C_Round (.ref a)=some false
 c_LoreError:∃ a,mg "LoreError"=some (.ref a)/\CatchC K a/\M7 K C_Clash (.ref a)=some true/\M7 K C_NoLetter (.ref a)=some true/\M7 K C_Round (.ref a)=some true
 x_NoDeed:∃ a,mg "NoDeed"=some (.ref a)/\G6 K (.ref C_Clash) (.ref a)=some false
 x_NoSign:∃ a,mg "NoSign"=some (.ref a)/\G6 K (.ref C_Clash) (.ref a)=some false
 x_NoName:∃ a,mg "NoName"=some (.ref a)/\G6 K (.ref C_Clash) (.ref a)=some false
 x_NoRule:∃ a,mg "NoRule"=some (.ref a)/\G6 K (.ref C_Clash) (.ref a)=some false
 x_NotPlain:∃ a,mg "NotPlain"=some (.ref a)/\G6 K (.ref C_Clash) (.ref a)=some false
 x_NoText:∃ a,mg "NoText"=some (.ref a)/\G6 K (.ref C_Clash) (.ref a)=some false
 x_Ring:∃ a,mg "Ring"=some (.ref a)/\G6 K (.ref C_Clash) (.ref a)=some false
 x_Twice:∃ a,mg "Twice"=some (.ref a)/\G6 K (.ref C_Clash) (.ref a)=some false
 x_Clash:∃ a,mg "Clash"=some (.ref a)/\G6 K (.ref C_Clash) (.ref a)=some true
 x_NoLetter:∃ a,mg "NoLetter"=some (.ref a)/\G6 K (.ref C_Clash) (.ref a)=some false/\G6 K (.ref C_NoLetter) (.ref a)=some true/\G6 K (.ref C_Round) (.ref a)=some false
 x_Round:∃ a,mg "Round"=some (.ref a)/\G6 K (.ref C_Clash) (.ref a)=some false/\G6 K (.ref C_NoLetter) (.ref a)=some false/\G6 K (.ref C_Round) (.ref a)=some true
 y_ValueError:G6 K (.ref C_Clash) (.type "ValueError")=some true
 b_ValueError:mg "ValueError"=none
 b_any:mg "any"=none
 b_dict:mg "dict"=none
 b_enumerate:mg "enumerate"=none
 b_isinstance:mg "isinstance"=none
 b_len:mg "len"=none
 b_list:mg "list"=none
 b_min:mg "min"=none
 b_range:mg "range"=none
 b_str:mg "str"=none
 b_tuple:mg "tuple"=none
 b_zip:mg "zip"=none
 g_MARK:∃ t,mg "MARK"=some (.int 0 t)
 g_LETTER:∃ t,mg "LETTER"=some (.int 2 t)
 x_JOBS:∃ a,mg "JOBS"=some (.ref a)/\ModD P w K a [((Sum.inr ("row" : Str):C2),V.str "letter"),((Sum.inr ("marks" : Str):C2),V.str "mark"),((Sum.inr ("great" : Str):C2),V.str "great"),((Sum.inr ("as" : Str):C2),V.str "as"),((Sum.inr ("over" : Str):C2),V.str "over")]
 x_AGAIN:∃ a,mg "AGAIN"=some (.ref a)/\∀ H:Hp,D0 K H a [V.str "letter",V.str "mark",V.str "over"]
theorem afZ(nd:R.Nodup)(hx:x∈R)(q:Str):cntIn E R q=cntIn E (R.erase x) q+(C3 E x).count q:=by
 rw [pP];unfold cntIn
 induction E with
 | nil=>rfl
 | cons e E ih=>
  rw [c9,c9,c9,ih];have hm:∀ y,(y∈R.erase x↔y≠x/\y∈R):=fun y=>nd.mem_erase_iff
  by_cases h2:e.2=q
  .by_cases h1:e.1=x
   .have:e.1∉R.erase x:=fun h=>((hm _).mp h).1 h1
    have h3:e.1∈R:=by rw [h1];exact hx
    simp [h2,h3,this,h1,hx]
    have:x∉R.erase x:=fun h=>((hm _).mp h).1 rfl
    simp [this];lia
   .by_cases h3:e.1∈R
    .have:e.1∈R.erase x:=(hm _).mpr ⟨h1,h3⟩
     simp [h2,h1,h3,this];lia
    .have:e.1∉R.erase x:=fun h=>h3 ((hm _).mp h).2
     simp [h2,h1,h3,this]
  .simp [h2]
structure IsRound(E:List (Str×Str))(l:List Str):Prop where
 ne:l≠[]
 nd:l.Nodup
 go:∀ (i:Nat) (a b:Str),l[i]?=some a->l[i+1]?=some b->(a,b)∈E
 back:∀ a b:Str,l.getLast?=some a->l.head?=some b->(a,b)∈E
theorem IsRound.pred{l:List Str}(r:IsRound E l)(hx:x∈l):∃ y∈l,(y,x)∈E:=by
 obtain ⟨i,hi⟩:=dR.mp hx
 cases i with
 | zero=>
  refine ⟨l.getLast r.ne,List.getLast_mem r.ne,r.back _ _ (List.getLast?_eq_some_getLast r.ne) ?_⟩;rw [gL];exact hi
 | succ i=>
  have hl:=(F6.mp hi).1;have h1:l[i]?=some l[i]:=N7 (by lia);exact ⟨l[i],List.getElem_mem _,r.go i _ _ h1 hi⟩
noncomputable def iter (g:Str->Str) (x:Str):Nat->Str
 | 0=>x
 | n+1=>g (iter g x n)
theorem zL{g:Str->Str}(h:∀ x∈U,g x∈U)(hx:x∈U):∀ n,iter g x n∈U
 | 0=>hx
 | n+1=>h _ (zL h hx n)
theorem af0:∀ {l:List Str} {U:List Str},(∀ x∈l,x∈U)->U.length<l.length->¬ l.Nodup:=by
 intro l
 induction l with
 | nil=>intro U _ h;simp at h
 | cons x l ih=>
  intro U h hl nd;obtain ⟨n1,n2⟩:=Y2.mp nd;have hx:=h x N1;refine ih (U:=U.erase x) (fun y hy=>(List.mem_erase_of_ne (fun e=>n1 (by rw [<- e];exact hy))).mpr (h y (M5 _ hy))) ?_ n2;rw [dP hx];rw [J9] at hl
  have:=gK hx
  lia
theorem akf(L9:U≠[])(hp:∀ x∈U,∃ y∈U,(y,x)∈E):∃ l,IsRound E l/\∀ x∈l,x∈U:=by
 have hg:∃ g:Str->Str,∀ x∈U,g x∈U/\(g x,x)∈E:=by
  refine ⟨fun x=>if h:x∈U then Classical.choose (hp x h) else x,fun x h=>?_⟩
  have:=Classical.choose_spec (hp x h)
  simp only [h,dif_pos];exact this
 obtain ⟨g,hg⟩:=hg;obtain ⟨x0,dI⟩:=List.exists_mem_of_ne_nil U L9;have M4:=zL (fun x hx=>(hg x hx).1) dI;have hex:∃ j,∃ i,i<j/\iter g x0 i=iter g x0 j:=by
  refine Classical.byContradiction fun hn=>?_
  refine af0 (l:=(V2 (U.length+1)).map (iter g x0)) (U:=U) (fun x hx=>?_) (by simp) ?_
  .obtain ⟨n,_,rfl⟩:=E7.mp hx;exact M4 n
  .rw [Y1,List.pairwise_map];refine List.Pairwise.imp_of_mem (fun {a b} ha hb o7 e=>?_) (Y1.mp List.nodup_range)
   rcases Nat.lt_or_gt_of_ne o7 with h | h
   .exact hn ⟨b,a,h,e⟩
   .exact hn ⟨a,b,h,e.symm⟩
 have i9:∃ j,(∃ i,i<j/\iter g x0 i=iter g x0 j)/\∀ j'<j,¬ ∃ i,i<j'/\iter g x0 i=iter g x0 j':=by
  obtain ⟨j,hj⟩:=hex;have key:∀ n j,j<=n->(∃ i,i<j/\iter g x0 i=iter g x0 j)->∃ j,(∃ i,i<j/\iter g x0 i=iter g x0 j)/\∀ j'<j,¬ ∃ i,i<j'/\iter g x0 i=iter g x0 j':=by
   intro n
   induction n with
   | zero=>intro j hj ⟨i,hi,_⟩;lia
   | succ n ih=>
    intro j hjn hj
    by_cases h:∃ j'<j,∃ i,i<j'/\iter g x0 i=iter g x0 j'
    .obtain ⟨j',h1,h2⟩:=h;exact ih j' (by lia) h2
    .exact ⟨j,hj,fun j' h1 h2=>h ⟨j',h1,h2⟩⟩
  exact key j j (C4 _) hj
 obtain ⟨j,⟨i,dH,tO⟩,hfirst⟩:=i9;have L5:∀ k,k<j-i->((V2 (j-i)).map fun k=>iter g x0 (j-1-k))[k]?=some (iter g x0 (j-1-k)):=fun k hk=>by
  rw [W9,List.getElem?_range hk];rfl
 refine ⟨(V2 (j-i)).map fun k=>iter g x0 (j-1-k),⟨?_,?_,?_,?_⟩,fun x hx=>?_⟩
 .intro e
  have:=congrArg List.length e
  simp at this;lia
 .rw [Y1,List.pairwise_map];refine List.Pairwise.imp_of_mem (fun {a b} ha hb o7 e=>?_) (Y1.mp List.nodup_range);rw [dX] at ha hb
  rcases Nat.lt_or_gt_of_ne o7 with h | h
  .exact hfirst (j-1-a) (by lia) ⟨j-1-b,by lia,e.symm⟩
  .exact hfirst (j-1-b) (by lia) ⟨j-1-a,by lia,e⟩
 .intro k a b ha hb;have hk:k+1<j-i:=by
   have:=(F6.mp hb).1
   simpa using this
  rw [L5 k (by lia)] at ha;rw [L5 (k+1) hk] at hb;cases ha;cases hb;have e:j-1-k=(j-1-(k+1))+1:=by lia
  rw [e];exact (hg _ (M4 _)).2
 .intro a b ha hb;have hl:((V2 (j-i)).map fun k=>iter g x0 (j-1-k)).length=j-i:=by simp
  rw [List.getLast?_eq_getElem?,hl,L5 _ (by lia)] at ha;rw [gL,L5 0 (by lia)] at hb;cases ha;cases hb;have e1:j-1-(j-i-1)=i:=by lia
  have e2:j-1-0=j-1:=by lia
  rw [e1,e2,tO,show j=(j-1)+1 by lia];exact (hg _ (M4 _)).2
 .obtain ⟨k,_,rfl⟩:=E7.mp hx;exact M4 _
noncomputable def Wk (E:List (Str×Str)) (R:List Str) (s:Str):Nat->Str->Prop
 | 0,x=>x=s
 | k+1,y=>y∈R/\∃ x,Wk E R s k x/\(x,y)∈E
theorem IsRound.wk{C:List Str}(r:IsRound E C)(hR:∀ x∈C,x∈R)(hz:z∈C):∃ x,Wk E R z (C.length-1) x/\(x,z)∈E:=by
 obtain ⟨i0,nP⟩:=dR.mp hz;have fP:=(F6.mp nP).1;have mem:∀ {i:Nat} {x:Str},C[i]?=some x->x∈R:=fun h=>hR _ (M0 h)
 have up:∀ (n:Nat) (x:Str),C[i0+n]?=some x->Wk E R z n x:=by
  intro n
  induction n with
  | zero=>
   intro x h;rw [Nat.add_zero,nP] at h;exact (Option.some.inj h).symm
  | succ n ih=>
   intro x h;have hl:=(F6.mp h).1;have h1:C[i0+n]?=some (C[i0+n]'(by lia)):=N7 (by lia);exact ⟨mem h,_,ih _ h1,r.go _ _ _ h1 h⟩
 have bD:=List.getLast?_eq_some_getLast r.ne;have T0:=List.head?_eq_some_head r.ne;have hb:=r.back _ _ bD T0;have wl:Wk E R z (C.length-1-i0) (C.getLast r.ne):=by
  refine up _ _ ?_;rw [show i0+(C.length-1-i0)=C.length-1 by lia,<- List.getLast?_eq_getElem?];exact bD
 cases i0 with
 | zero=>
  refine ⟨_,wl,?_⟩;rw [gL,nP] at T0;rw [Option.some.inj T0];exact hb
 | succ i=>
  have dn:∀ (j:Nat) (x:Str),j<=i->C[j]?=some x->Wk E R z (C.length-(i+1)+j) x:=by
   intro j
   induction j with
   | zero=>
    intro x _ h;rw [gL,h] at T0;have e:C.length-(i+1)+0=(C.length-1-(i+1))+1:=by lia
    rw [e,Option.some.inj T0];exact ⟨hR _ (List.head_mem r.ne),_,wl,hb⟩
   | succ j ih=>
    intro x hj h;have hl:=(F6.mp h).1;have h1:C[j]?=some (C[j]'(by lia)):=N7 (by lia);exact ⟨mem h,_,ih _ (by lia) h1,r.go _ _ _ h1 h⟩
  have h1:C[i]?=some (C[i]'(by lia)):=N7 (by lia);refine ⟨_,?_,r.go _ _ _ h1 nP⟩
  have:=dn i _ (C4 _) h1
  rwa [show C.length-(i+1)+i=C.length-1 by lia] at this
theorem Wk.fn{s:Str} : ∀ {k:Nat} {x:Str},Wk E R s k x->∃ v:Nat->Str,v 0=s/\v k=x/\∀ i<k,(v i,v (i+1))∈E
 | 0,x,h=>⟨fun _=>s,rfl,h.symm,fun i hi=>absurd hi (Nat.not_lt_zero _)⟩
 | k+1,y,⟨_,x,w,e⟩=>by
  obtain ⟨v,h0,hk,hv⟩:=Wk.fn w;refine ⟨fun i=>if i<=k then v i else y,by simp [h0],if_neg (by lia),fun i hi=>?_⟩
  by_cases h:i+1<=k
  .simp only [h,show i<=k by lia,if_true];exact hv i (by lia)
  .have:i=k:=by lia
   subst this;simp only [C4,if_true,h,if_false];rw [hk];exact e
theorem mem_fol{y:Str} : y∈C3 E p↔(p,y)∈E:=by
 unfold C3;rw [E7]
 constructor
 .rintro ⟨e,he,rfl⟩;rw [N2] at he
  have:e.1=p:=by simpa using he.2
  rw [<- this];exact he.1
 .intro h;exact ⟨(p,y),N2.mpr ⟨h,by simp⟩,rfl⟩
structure BF(E:List (Str×Str))(R:List Str)(z:Str)(n:Nat)(ws cs:List Str)(f:Str->Str)(dep:Str->Nat):Prop where
 cnd:cs.Nodup
 csR:∀ x∈cs,x∈R/\x≠z
 par:∀ x∈cs,(f x=z\/f x∈cs)/\(f x,x)∈E/\dep x=dep (f x)+1
 dz:dep z=0
 wsd:∀ x∈ws,(x=z\/x∈cs)/\dep x=n
 wall:∀ k≤n,∀ x,Wk E R z k x->x=z\/x∈cs
 wlt:∀ k<n,∀ x,Wk E R z k x->x∉ws
 shut:∀ x,(x=z\/x∈cs)->x∉ws->∀ y,(x,y)∈E->y≠z/\(y∈R->y∈cs)
theorem uag(E:List (Str×Str))(R:List Str)(z:Str)(f:Str->Str):BF E R z 0 [z] [] f (fun _=>0):=by
 refine ⟨.nil,by simp,by simp,rfl,fun x hx=>⟨.inl (F7.mp hx),rfl⟩,fun k hk x w=>?_,fun k hk=>absurd hk (Nat.not_lt_zero _),fun x hx hn=>?_⟩
 .have:k=0:=by lia
  subst this;exact .inl w
 .rcases hx with h | h
  .exact absurd (by rw [h];simp) hn
  .cases h
theorem BF.least{f:Str->Str}{dep:Str->Nat}(b:BF E R z n ws cs f dep){C:List Str}(r:IsRound E C)(hR:∀ x∈C,x∈R)(hz:z∈C):n+1<=C.length:=by
 obtain ⟨x,w,e⟩:=r.wk hR hz;have i8:0<C.length:=gK hz;refine Classical.byContradiction fun h=>?_
 have hk:C.length-1<n:=by lia
 exact (b.shut x (b.wall _ (Nat.le_of_lt hk) x w) (b.wlt _ hk x w) z e).1 rfl
theorem BF.none{f:Str->Str}{dep:Str->Nat}(b:BF E R z n [] cs f dep){C:List Str}(r:IsRound E C)(hR:∀ x∈C,x∈R)(hz:z∈C):False:=by
 obtain ⟨x,w,e⟩:=r.wk hR hz;have all:∀ k x,Wk E R z k x->x=z\/x∈cs:=by
  intro k
  induction k with
  | zero=>intro x h;exact .inl h
  | succ k ih=>
   rintro y ⟨hy,x,w,e⟩;exact .inr ((b.shut x (ih x w) (by simp) y e).2 hy)
 exact (b.shut x (all _ x w) (by simp) z e).1 rfl
structure BL(E:List (Str×Str))(R:List Str)(z:Str)(n:Nat)(ws T8:List Str)(pd:Str->Str->Prop)(cs fs:List Str)(f:Str->Str)(dep:Str->Nat):Prop where
 cnd:cs.Nodup
 csR:∀ x∈cs,x∈R/\x≠z
 par:∀ x∈cs,(f x=z\/f x∈cs)/\(f x,x)∈E/\dep x=dep (f x)+1
 dz:dep z=0
 old:∀ x∈T8,x∈cs
 wsd:∀ x∈ws,(x=z\/x∈T8)/\dep x=n
 fsd:∀ x∈fs,x∈cs/\x∉T8/\dep x=n+1
 new:∀ x∈cs,x∈T8\/x∈fs
 len:fs.length<=cs.length
 prs:∀ x y,pd x y->y≠z/\(y∈R->y∈cs)
theorem BF.go{f:Str->Str}{dep:Str->Nat}(b:BF E R z n ws cs f dep):BL E R z n ws cs (fun x y=>x∈ws.take 0/\y∈C3 E x) cs [] f dep:=
 ⟨b.cnd,b.csR,b.par,b.dz,fun _ h=>h,b.wsd,by simp,fun _ h=>.inl h,G8 _,fun x y h=>by simp at h⟩
theorem BL.weak{pd pd':Str->Str->Prop}{fs:List Str}{f:Str->Str}{dep:Str->Nat}(b:BL E R z n ws T8 pd cs fs f dep)(h:∀ x y,pd' x y->pd x y):BL E R z n ws T8 pd' cs fs f dep:=
 ⟨b.cnd,b.csR,b.par,b.dz,b.old,b.wsd,b.fsd,b.new,b.len,fun x y q=>b.prs x y (h x y q)⟩
theorem BL.skip{pd pd':Str->Str->Prop}{fs:List Str}{f:Str->Str}{dep:Str->Nat}(b:BL E R z n ws T8 pd cs fs f dep)(h0:y0≠z)(h1:y0∈R->y0∈cs)(h:∀ x y,pd' x y->pd x y\/y=y0):BL E R z n ws T8 pd' cs fs f dep:=
 ⟨b.cnd,b.csR,b.par,b.dz,b.old,b.wsd,b.fsd,b.new,b.len,fun x y q=>by
  rcases h x y q with q | rfl
  .exact b.prs x y q
  .exact ⟨h0,h1⟩⟩
theorem BL.put{pd pd':Str->Str->Prop}{fs:List Str}{f:Str->Str}{dep:Str->Nat}(b:BL E R z n ws T8 pd cs fs f dep)(hp:p∈ws)(he:(p,y0)∈E)(h0:y0≠z)(hR:y0∈R)(hn:y0∉cs)(h:∀ x y,pd' x y->pd x y\/y=y0) :
  BL E R z n ws T8 pd' (cs++[y0]) (fs++[y0]) (fun t=>if t=y0 then p else f t) (fun t=>if t=y0 then n+1 else dep t):=by
 have hz:z≠y0:=fun e=>h0 e.symm
 have inR:∀ {x:Str},x∈cs->x≠y0:=fun hx e=>hn (by rw [<- e];exact hx)
 obtain ⟨W5,fO⟩:=b.wsd p hp;have hpy:p≠y0:=by
  rcases W5 with q | q
  .rw [q];exact hz
  .exact inR (b.old p q)
 refine ⟨?_,fun x hx=>?_,fun x hx=>?_,by rw [if_neg hz];exact b.dz,fun x hx=>O4 _ (b.old x hx),fun x hx=>?_,fun x hx=>?_,fun x hx=>?_,by rw [G0,G0];exact Nat.add_le_add_right b.len _,fun x y q=>?_⟩
 .rw [b9];refine ⟨b.cnd,by simp,fun a ha c hc e=>hn ?_⟩;rw [<- F7.mp hc,<- e];exact ha
 .rcases G1.mp hx with q | q
  .exact b.csR x q
  .rw [F7.mp q];exact ⟨hR,h0⟩
 .rcases G1.mp hx with q | q
  .obtain ⟨a1,a2,a3⟩:=b.par x q;rw [if_neg (inR q),if_neg (inR q)];have hf:f x≠y0:=by
    rcases a1 with r | r
    .rw [r];exact hz
    .exact inR r
   rw [if_neg hf];exact ⟨a1.imp_right fun r=>O4 _ r,a2,a3⟩
  .have e:=F7.mp q;rw [if_pos e,if_pos e,if_neg hpy,e,fO];exact ⟨W5.imp_right fun r=>O4 _ (b.old p r),he,rfl⟩
 .obtain ⟨a1,a2⟩:=b.wsd x hx;refine ⟨a1,?_⟩;rw [if_neg]
  .exact a2
  .rcases a1 with r | r
   .rw [r];exact hz
   .exact inR (b.old x r)
 .rcases G1.mp hx with q | q
  .obtain ⟨a1,a2,a3⟩:=b.fsd x q;exact ⟨O4 _ a1,a2,by rw [if_neg (inR a1)];exact a3⟩
  .rw [F7.mp q];exact ⟨by simp,fun r=>hn (b.old _ r),by rw [if_pos rfl]⟩
 .rcases G1.mp hx with q | q
  .exact (b.new x q).imp_right fun r=>O4 _ r
  .exact .inr (O8 _ q)
 .rcases h x y q with q | rfl
  .exact ⟨(b.prs x y q).1,fun r=>O4 _ ((b.prs x y q).2 r)⟩
  .exact ⟨h0,fun _=>by simp⟩
theorem BL.done{f0:Str->Str}{dep0:Str->Nat}{fs:List Str}{f:Str->Str}{dep:Str->Nat}(b0:BF E R z n ws T8 f0 dep0)(b:BL E R z n ws T8 (fun x y=>x∈ws.take ws.length/\y∈C3 E x) cs fs f dep):BF E R z (n+1) fs cs f dep:=by
 have hpr:∀ x∈ws,∀ y,(x,y)∈E->y≠z/\(y∈R->y∈cs):=fun x hx y e=>b.prs x y ⟨by rw [J1];exact hx,mem_fol.mpr e⟩
 refine ⟨b.cnd,b.csR,b.par,b.dz,fun x hx=>⟨.inr (b.fsd x hx).1,(b.fsd x hx).2.2⟩,fun k hk x w=>?_,fun k hk x w hx=>?_,fun x hx hn y e=>?_⟩
 .by_cases h:k<=n
  .exact (b0.wall k h x w).imp_right (b.old x)
  .have:k=n+1:=by lia
   subst this;obtain ⟨hx,u,w',e⟩:=w;have hu:=b0.wall n (C4 _) u w'
   by_cases hw:u∈ws
   .exact .inr ((hpr u hw x e).2 hx)
   .exact .inr (b.old x ((b0.shut u hu hw x e).2 hx))
 .obtain ⟨a1,a2,_⟩:=b.fsd x hx
  rcases b0.wall k (by lia) x w with q | q
  .exact (b.csR x a1).2 q
  .exact a2 q
 .have dI:x=z\/x∈T8:=by
   rcases hx with q | q
   .exact .inl q
   .rcases b.new x q with r | r
    .exact .inr r
    .exact absurd r hn
  by_cases hw:x∈ws
  .exact hpr x hw y e
  .obtain ⟨a,c⟩:=b0.shut x dI hw y e;exact ⟨a,fun q=>b.old y (c q)⟩
structure Back(cs:List Str)(z:Str)(f:Str->Str)(x:Str)(n:Nat):Prop where
 mid:∀ k<n,iter f x k∈cs/\iter f x k≠z
 fin:iter f x n=z
noncomputable def backL (f:Str->Str) (x:Str) (n:Nat):List Str:=((V2 (n+1)).map (iter f x)).reverse
theorem BL.back{pd:Str->Str->Prop}{fs:List Str}{f:Str->Str}{dep:Str->Nat}(b:BL E R z n ws T8 pd cs fs f dep)(hz:z∈R)(hp:p∈ws)(he:(p,z)∈E):Back cs z f p n/\IsRound E (backL f p n)/\(∀ x∈backL f p n,x∈R)/\z∈backL f p n/\(backL f p n).length=n+1:=by
 have key:∀ k≤n,(iter f p k=z\/iter f p k∈cs)/\dep (iter f p k)=n-k:=by
  intro k
  induction k with
  | zero=>intro _;obtain ⟨a,c⟩:=b.wsd p hp;exact ⟨a.imp_right (b.old p),c⟩
  | succ k ih=>
   intro hk;obtain ⟨a,c⟩:=ih (by lia);have hc:iter f p k∈cs:=by
    rcases a with q | q
    .rw [q,b.dz] at c;lia
    .exact q
   obtain ⟨a1,_,a3⟩:=b.par _ hc;refine ⟨a1,?_⟩;show dep (f (iter f p k))=n-(k+1);lia
 have mid:∀ k<n,iter f p k∈cs/\iter f p k≠z:=fun k hk=>by
  obtain ⟨a,c⟩:=key k (by lia);have L9:iter f p k≠z:=fun e=>by rw [e,b.dz] at c;lia
  exact ⟨a.resolve_left L9,L9⟩
 have fin:iter f p n=z:=by
  obtain ⟨a,c⟩:=key n (C4 _)
  rcases a with q | q
  .exact q
  .obtain ⟨_,_,a3⟩:=b.par _ q;lia
 have B1:(backL f p n).length=n+1:=by unfold backL;simp
 have L5:∀ i≤n,(backL f p n)[i]?=some (iter f p (n-i)):=fun i hi=>by
  unfold backL;rw [List.getElem?_reverse (by simp;lia),B3,List.length_range,W9,List.getElem?_range (by lia),show n+1-1-i=n-i by lia];rfl
 refine ⟨⟨mid,fin⟩,⟨fun e=>by rw [e] at B1;simp at B1,?_,fun i a c ha hc=>?_,fun a c ha hc=>?_⟩,fun x hx=>?_,?_,B1⟩
 .unfold backL;refine (List.reverse_perm _).nodup_iff.mpr ?_;rw [Y1,List.pairwise_map];refine List.Pairwise.imp_of_mem (fun {i j} hi hj dH e=>dH ?_) (Y1.mp List.nodup_range);rw [dX] at hi hj;have h1:=(key i (by lia)).2;have h2:=(key j (by lia)).2;rw [e] at h1;lia
 .have hi:i+1<=n:=by have:=(F6.mp hc).1;lia
  rw [L5 i (by lia)] at ha;rw [L5 (i+1) hi] at hc;cases ha;cases hc
  have:=(b.par _ (mid (n-(i+1)) (by lia)).1).2.1
  rw [show n-i=(n-(i+1))+1 by lia];exact this
 .rw [List.getLast?_eq_getElem?,B1,Nat.add_sub_cancel,L5 n (C4 _),Nat.sub_self] at ha;rw [gL,L5 0 (G8 _),Nat.sub_zero,fin] at hc;cases ha;cases hc;exact he
 .obtain ⟨i,hi⟩:=dR.mp hx;have hil:=(F6.mp hi).1;rw [L5 i (by lia)] at hi;cases hi
  rcases (key (n-i) (by lia)).1 with q | q
  .rw [q];exact hz
  .exact (b.csR _ q).1
 .have:=L5 0 (G8 _)
  rw [Nat.sub_zero,fin] at this;exact M0 this
theorem akg(f:Str->V)(z:Str)(nd:ts.Nodup):dropK (A9 ts f) (Sum.inr z:C2)=A9 (ts.erase z) f:=by
 rw [List.Nodup.erase_eq_filter nd];unfold dropK A9;rw [List.filter_map]
 congr 1
 refine List.filter_congr fun t _=>?_
 show decide ((Sum.inr t:C2)≠Sum.inr z)=(t != z)
 by_cases h:t=z
 .subst h;simp
 .have:(t != z)=true:=by simpa using h
  rw [this];exact decide_eq_true (fun e=>h (Sum.inr.inj e))
noncomputable def Same2 (d c:Addr) (H H':Hp):Prop:=∀ b o,b≠d->b≠c->H b=some o->H' b=some o
noncomputable def qT (K:PySem.W.Frag) (C:Addr) (fld:Str):Sp:=fun vs H Q _=>∃ (m:Nat) (x l f:Addr) (zs:List Str),vs=[.ref x,.ref l]/\H x=some (xm m x C)/\ErrC K C f/\NoAttr K C fld/\H l=some (.lst (zs.map V.str))/\zs.length<=500/\(∀ z∈zs,m5 z)/\
 ∀ p dx,H p=none->A0 H p (.lst (zs.map V.str)) dx=none->dx≠x->Q .non (A0 (A0 (A0 H p (.lst (zs.map V.str))) x (xo m x C dx)) dx (.xd [(fld,.ref p)]))
noncomputable def spWB:Sp:=fun vs H Q _=>∃ (c:Addr) (z x:Str) (cs:List Str) (f:Str->Str) (n:Nat),vs=[.ref c,.str z,.str x]/\H c=some (.dK (A9 cs fun t=>.str (f t)))/\Back cs z f x n/\n<=1000/\
 ∀ (l:Addr) (H':Hp),H l=none->Same H H'->H' l=some (.lst ((backL f x n).map V.str))->Q (.ref l) H'
structure Best(E:List (Str×Str))(R:List Str)(z:Str)(g:List Str):Prop where
 rnd:IsRound E g
 inR:∀ x∈g,x∈R
 mem:z∈g
 least:∀ C,IsRound E C->(∀ x∈C,x∈R)->z∈C->g.length<=C.length
noncomputable def spRFG:Sp:=fun vs H Q _=>∃ (d:Addr) (z:Str) (m:Int) (R:List Str) (ad:Str->Addr) (E:List (Str×Str)),vs=[.ref d,.str z,.int m]/\H d=some (.dK (A9 R fun t=>.ref (ad t)))/\z∈R/\R.length<=1000/\(∀ t∈R,H (ad t)=some (.lst ((C3 E t).map V.str)))/\m<=1000/\
 ∀ (l:Addr) (g:List Str) (H':Hp),H l=none->Same H H'->H' l=some (.lst (g.map V.str))->((Best E R z g/\(g.length:Int)<=m)\/(g=[]/\∀ C,IsRound E C->(∀ x∈C,x∈R)->z∈C->m<(C.length:Int)))->Q (.ref l) H'
noncomputable def zM:Sp:=fun vs H Q _=>∃ (d c:Addr) (z:Str) (R ts:List Str) (ad:Str->Addr) (E:List (Str×Str)),vs=[.ref d,.ref c,.str z]/\H d=some (.dK (A9 R fun t=>.ref (ad t)))/\H c=some (.dK (A9 ts fun t=>.int (cntIn E R t:Nat)))/\d≠c/\R.Nodup/\(∀ t∈R,t∈ts)/\ts.length<=1000/\R.length<=1000/\(∀ e∈E,e.2∈ts)/\(∀ t∈ts,H (ad t)=some (.lst ((C3 E t).map V.str)))/\z∈R/\
 ∀ (R':List Str) (H':Hp),(∀ t∈R',t∈R)->R'.Nodup->R'.length<=R.length->z∉R'->(∀ C,IsRound E C->(∀ x∈C,x∈R)->z∉C->∀ x∈C,x∈R')->Same2 d c H H'->H' d=some (.dK (A9 R' fun t=>.ref (ad t)))->H' c=some (.dK (A9 ts fun t=>.int (cntIn E R' t:Nat)))->Q .non H'
theorem aiL{C:List Str}(r:IsRound E C)(h:∀ x∈C,x∈R)(hx:x∈C):cntIn E R x≠0:=by
 obtain ⟨y,hy,he⟩:=r.pred hx;unfold cntIn;intro h0
 have:=List.countP_eq_zero.mp h0 (y,x) he
 simp [h y hy] at this
structure TK(E:List (Str×Str))(R:List Str)(z:Str)(R' ls:List Str):Prop where
 a:∀ x∈ls,x=z\/cntIn E R' x=0
 b:ls=[z]\/z∉R'
 c:∀ C,IsRound E C->(∀ x∈C,x∈R)->z∉C->∀ x∈C,x∈R'
theorem TK.step{R' l0:List Str}(t:TK E R z R' (l0++[x]))(nd:R'.Nodup){ls:List Str}(h:∀ y∈ls,cntIn E (R'.erase x) y=0):TK E R z (R'.erase x) ls:=by
 refine ⟨fun y hy=>.inr (h y hy),.inr fun hm=>?_,fun C r hR hz y hy=>?_⟩
 .obtain ⟨h1,h2⟩:=nd.mem_erase_iff.mp hm
  rcases t.b with q | q
  .have e:x=z:=by
    have:=congrArg List.getLast? q
    simpa using this
   exact h1 e.symm
  .exact q h2
 .have hyR:=t.c C r hR hz;refine nd.mem_erase_iff.mpr ⟨fun e=>?_,hyR y hy⟩
  rcases t.a x (by simp) with q | q
  .exact hz (by rw [<- q,<- e];exact hy)
  .exact aiL r hyR (by rw [<- e];exact hy) q
structure Least(E:List (Str×Str))(g:List Str):Prop where
 rnd:IsRound E g
 least:∀ C,IsRound E C->g.length<=C.length
noncomputable def zN:Sp:=fun vs H Q _=>∃ (a:Addr) (rs:List Addr) (zss:List (List Str)),vs=[.ref a]/\IsRows H a rs zss/\zss.flatten.length<=1000/\
 ∀ (l:Addr) (g:List Str) (H':Hp),Same H H'->H' l=some (.lst (g.map V.str))->(Least (edges zss) g\/(g=[]/\∀ C,¬ IsRound (edges zss) C))->Q (.ref l) H'
theorem zO{zss:List (List Str)}{C:List Str}(r:IsRound (edges zss) C):∀ x∈C,x∈toldL zss:=fun x hx=>by
 obtain ⟨y,_,he⟩:=r.pred hx;exact (iN he).2
noncomputable def qU (CR:Addr):Sp:=fun vs H Q E=>∃ (a:Addr) (rs:List Addr) (zss:List (List Str)),vs=[.ref a]/\IsRows H a rs zss/\zss.flatten.length<=500/\(∀ zs∈zss,∀ z∈zs,m5 z)/\
 (∀ l line H',H l=none->Same H H'->H' l=some (.lst (line.map V.str))->R6 (edges zss) (toldL zss) line->(∀ p∈toldL zss,p∈line)->Q (.ref l) H')/\
 (∀ (dx l:Addr) (g:List Str) (H':Hp),Same H H'->H' dx=some (.xd [("pieces",.ref l)])->H' l=some (.lst (g.map V.str))->Least (edges zss) g->E (.ref CR) (some dx) H')
theorem amu{x p:Addr}{o:HO}(nx:H x=none)(np:A0 H x (xm m x C) p=none)(nd:A0 (A0 H x (xm m x C)) p o dx=none)(ne:dx≠x) :
  A0 (A0 (A0 (A0 H x (xm m x C)) p o) x (xo m x C dx)) dx (.xd [(fld,.ref p)]) x=some (xo m x C dx)/\Same H (T6 (A0 (A0 (A0 (A0 H x (xm m x C)) p o) x (xo m x C dx)) dx (.xd [(fld,.ref p)])) x)/\T6 (A0 (A0 (A0 (A0 H x (xm m x C)) p o) x (xo m x C dx)) dx (.xd [(fld,.ref p)])) x dx=some (.xd [(fld,.ref p)])/\T6 (A0 (A0 (A0 (A0 H x (xm m x C)) p o) x (xo m x C dx)) dx (.xd [(fld,.ref p)])) x p=some o:=by
 have tP:p≠x:=fun e=>by rw [e,A6] at np;cases np
 have hdp:dx≠p:=fun e=>by rw [e,A6] at nd;cases nd
 rw [A7 tP] at np;rw [A7 hdp,A7 ne] at nd;refine ⟨by rw [A7 ne.symm,A6],fun b o h=>?_,by rw [X4 ne,A6],by rw [X4 tP,A7 hdp.symm,A7 tP,A6]⟩;have h1:b≠x:=M8 h nx;rw [X4 h1,A7 (M8 h nd),A7 h1,A7 (M8 h np),A7 h1];exact h
structure SH(E:List (Str×Str))(ts R done g:List Str)(mo:Int):Prop where
 nd:R.Nodup
 sub:∀ t∈R,t∈ts
 best:(g=[]/\mo=ts.length)\/(IsRound E g/\mo=(g.length:Int)-1)
 gts:∀ x∈g,x∈ts
 gone:∀ t∈done,t∉R
 all:∀ C,IsRound E C->(∀ x∈C,x∈R)\/(g≠[]/\g.length<=C.length)
theorem uai(nd:ts.Nodup)(rt:∀ C,IsRound E C->∀ x∈C,x∈ts):SH E ts ts (ts.take 0) [] (ts.length:Int):=⟨nd,fun _ h=>h,.inl ⟨rfl,rfl⟩,by simp,by simp,fun C r=>.inl (rt C r)⟩
theorem SH.le{done g:List Str}(s:SH E ts R done g mo):mo<=ts.length:=by
 rcases s.best with ⟨_,h⟩ | ⟨r,h⟩
 .lia
 .have:=m4 r.nd s.gts
  lia
theorem SH.pass{done g:List Str}(s:SH E ts R done g mo){t:Str}(h:t∉R):SH E ts R (done++[t]) g mo:=⟨s.nd,s.sub,s.best,s.gts,fun u hu=>by
 rcases G1.mp hu with q | q
 .exact s.gone u q
 .rw [F7.mp q];exact h,s.all⟩
theorem SH.found{done g g' R2:List Str}{t:Str}(s:SH E ts R done g mo)(b:Best E R t g')(hle:(g'.length:Int)<=mo)(h1:∀ x∈R2,x∈R)(h2:R2.Nodup)(h3:t∉R2)(h4:∀ C,IsRound E C->(∀ x∈C,x∈R)->t∉C->∀ x∈C,x∈R2):SH E ts R2 (done++[t]) g' ((g'.length:Int)-1):=by
 refine ⟨h2,fun x hx=>s.sub x (h1 x hx),.inr ⟨b.rnd,rfl⟩,fun x hx=>s.sub x (b.inR x hx),fun u hu=>?_,fun C r=>?_⟩
 .rcases G1.mp hu with q | q
  .exact fun h=>s.gone u q (h1 u h)
  .rw [F7.mp q];exact h3
 .rcases s.all C r with q | ⟨q1,q2⟩
  .by_cases ht:t∈C
   .exact .inr ⟨b.rnd.ne,b.least C r q ht⟩
   .exact .inl (h4 C r q ht)
  .refine .inr ⟨b.rnd.ne,?_⟩
   rcases s.best with ⟨e,_⟩ | ⟨_,e⟩
   .exact absurd e q1
   .lia
theorem SH.not{done g R2:List Str}{t:Str}(s:SH E ts R done g mo)(i4:∀ C,IsRound E C->(∀ x∈C,x∈R)->t∈C->mo<(C.length:Int))(h1:∀ x∈R2,x∈R)(h2:R2.Nodup)(h3:t∉R2)(h4:∀ C,IsRound E C->(∀ x∈C,x∈R)->t∉C->∀ x∈C,x∈R2):SH E ts R2 (done++[t]) g mo:=by
 refine ⟨h2,fun x hx=>s.sub x (h1 x hx),s.best,s.gts,fun u hu=>?_,fun C r=>?_⟩
 .rcases G1.mp hu with q | q
  .exact fun h=>s.gone u q (h1 u h)
  .rw [F7.mp q];exact h3
 .rcases s.all C r with q | q
  .by_cases ht:t∈C
   .have hl:=i4 C r q ht
    rcases s.best with ⟨_,e⟩ | ⟨rg,e⟩
    .have:=m4 r.nd fun x hx=>s.sub x (q x hx)
     lia
    .exact .inr ⟨rg.ne,by lia⟩
   .exact .inl (h4 C r q ht)
  .exact .inr q
theorem SH.fin{g:List Str}(s:SH E ts R ts g mo)(rt:∀ C,IsRound E C->∀ x∈C,x∈ts):Least E g\/(g=[]/\∀ C,¬ IsRound E C):=by
 have key:∀ C,IsRound E C->g≠[]/\g.length<=C.length:=fun C r=>by
  rcases s.all C r with q | q
  .obtain ⟨x,hx⟩:=List.exists_mem_of_ne_nil C r.ne;exact absurd (q x hx) (s.gone x (rt C r x hx))
  .exact q
 rcases s.best with ⟨e,_⟩ | ⟨r,_⟩
 .exact .inr ⟨e,fun C r=>(key C r).1 e⟩
 .exact .inl ⟨r,fun C r'=>(key C r').2⟩
theorem eZ{x:Addr}{v:V}(nx:H x=none)(nd:A0 H x (xm m x C) dx=none)(ne:dx≠x) :
  A0 (A0 (A0 H x (xm m x C)) x (xo m x C dx)) dx (.xd [(fld,v)]) x=some (xo m x C dx)/\Same H (T6 (A0 (A0 (A0 H x (xm m x C)) x (xo m x C dx)) dx (.xd [(fld,v)])) x)/\T6 (A0 (A0 (A0 H x (xm m x C)) x (xo m x C dx)) dx (.xd [(fld,v)])) x dx=some (.xd [(fld,v)]):=by
 rw [A7 ne] at nd;refine ⟨by rw [A7 ne.symm,A6],fun b o h=>?_,by rw [X4 ne,A6]⟩;have h1:b≠x:=M8 h nx;rw [X4 h1,A7 (M8 h nd),A7 h1,A7 h1];exact h
noncomputable def fA (K:PySem.W.Frag) (C:Addr) (fld:Str):Sp:=fun vs H Q _=>∃ m x z f,vs=[.ref x,.str z]/\H x=some (xm m x C)/\ErrC K C f/\NoAttr K C fld/\z.length<=1000/\P7 z=true/\∀ dx,H dx=none->dx≠x->Q .non (A0 (A0 H x (xo m x C dx)) dx (.xd [(fld,.str z)]))
noncomputable def XP (CN:Addr) (H:Hp) (E:XK) (p:Str):Prop:=∀ dx H',Same H H'->H' dx=some (.xd [("piece",.str p)])->E (.ref CN) (some dx) H'
noncomputable def jobV (ks:List Str) (g:Str->V) (p:Str):V:=if p∈ks then g p else .non
noncomputable def g8 (ks:List Str) (g:Str->V) (p:Str):Bool:=!decide (jobV ks g p=V.str "letter")
noncomputable def cP (ks:List Str) (g:Str->V) (p:Str):Bool:=!(decide (jobV ks g p=V.str "letter") || decide (jobV ks g p=V.str "mark"))
noncomputable def misL (ks:List Str) (g:Str->V) (z:Rl):List Str:=if z.1=("great" : Str) then (z.2.take 1).filter (g8 ks g) else if z.1=("as" : Str) then ((z.2.drop 1).take 1).filter (g8 ks g)++(z.2.drop 2).filter (cP ks g) else []
theorem qV{g:Str->V} : (if p∈ks then some (g p) else none).getD V.non=jobV ks g p:=by
 unfold jobV
 by_cases h:p∈ks
 .rw [if_pos h,if_pos h];rfl
 .rw [if_neg h,if_neg h];rfl
theorem mQ{g:Str->V}(hg:∀ p,∃ s,g p=V.str s)(p:Str):jobV ks g p=.non\/∃ s,jobV ks g p=.str s:=by
 unfold jobV
 by_cases h:p∈ks
 .rw [if_pos h];exact .inr (hg p)
 .rw [if_neg h];exact .inl rfl
theorem zP{v:V}{c:Str}(hv:v=.non\/∃ s,v=.str s)(hc:P7 c=true)(q:Q (.bl (!decide (v=.str c))) H):rNeU K v (.str c) H Q:=by
 rcases hv with rfl | ⟨s,rfl⟩
 .exact ⟨_,_,.non,.str _ hc,E1 (Nat.min_le_left _ _) (by decide),q⟩
 .show Q (.bl (!decide (s=c))) H;rw [show decide (s=c)=decide (V.str s=V.str c) from decide_eq_decide.mpr ⟨fun e=>by rw [e],fun e=>V.str.inj e⟩];exact q
theorem akh{g:Str->V}(hg:∀ p,∃ s,g p=V.str s)(p:Str):flatV (jobV ks g p)=true:=by
 rcases mQ (ks:=ks) hg p with e | ⟨s,e⟩ <;> rw [e] <;> rfl
theorem aoi{g:Str->V}(hg:∀ p,∃ s,g p=V.str s)(p:Str):Y9 (jobV ks g p) [V.str (Str.ofString "letter"),V.str (Str.ofString "mark")]=(decide (jobV ks g p=V.str "letter") || decide (jobV ks g p=V.str "mark")):=by
 rcases mQ (ks:=ks) hg p with e | ⟨s,e⟩
 .rw [e];decide +kernel
 .rw [e];have h:∀ c:Str,decide (V.str s=V.str c)=decide (s=c):=fun c=>decide_eq_decide.mpr ⟨fun e=>V.str.inj e,fun e=>by rw [e]⟩
  rw [h,h];rw [show Y9 (V.str s) [V.str (Str.ofString "letter"),V.str (Str.ofString "mark")]=Y9 (V.str s) (([Str.ofString "letter",Str.ofString "mark"]:List Str).map V.str) from rfl,iC,e8]
  simp
noncomputable def zQ (K:PySem.W.Frag):Sp:=fun vs H Q _=>∃ (t d:Addr) (z:Rl) (ks:List Str) (g:Str->V),vs=[.ref t,.ref d]/\H t=some (tupR z)/\H d=some (.dK (A9 ks g))/\(∀ p,∃ s,g p=V.str s)/\z.2.length<=1000/\∀ p H',H p=none->Same H H'->H' p=some (.lst ((misL ks g z).map V.str))->Q (.ref p) H'
noncomputable def qW (K:PySem.W.Frag) (CN:Addr):Sp:=fun vs H Q E=>∃ (a d:Addr) (ts:List Addr) (R:List Rl) (ks:List Str) (g:Str->V),vs=[.ref a,.ref d]/\IsRules H a ts R/\H d=some (.dK (A9 ks g))/\(∀ p,∃ s,g p=V.str s)/\(∀ z∈R,z.2.length<=1000/\∀ p∈z.2,p.length<=1000/\P7 p=true)/\
 ((R.flatMap (misL ks g)).head?=none->∀ H',Same H H'->Q .non H')/\(∀ p,(R.flatMap (misL ks g)).head?=some p->XP CN H E p)
theorem aki(g:Str->Str)(p:Str):∃ s,jobG g p=V.str s:=by
 unfold jobG
 split
 .exact ⟨_,rfl⟩
 .exact ⟨_,rfl⟩
noncomputable def misR (g:Str->Str) (R:List Rl):List Str:=R.flatMap (misL (keysP (C5 R)++X3 R) (jobG g))
theorem amv{g:Str->V}{z:Rl}(h:p∈misL ks g z):p∈z.2:=by
 unfold misL at h
 split at h
 .exact List.mem_of_mem_take (N2.mp h).1
 split at h
 .rcases G1.mp h with h | h
  .exact List.mem_of_mem_drop (List.mem_of_mem_take (N2.mp h).1)
  .exact List.mem_of_mem_drop (N2.mp h).1
 .cases h
theorem zR{l:List Str}(r:R6 E ts l){e:Str×Str}(he:e∈E)(h2:e.2∈l):l.idxOf e.1<l.idxOf e.2:=by
 obtain ⟨pre,post,rfl⟩:=List.append_of_mem h2;obtain ⟨_,hn,hc⟩:=iK (r pre e.2 post rfl);have h1:e.1∈pre:=cnt_zero.mp hc e he rfl;rw [List.idxOf_append,if_pos h1,List.idxOf_append,if_neg hn]
 have:=gJ.mpr h1
 lia
noncomputable def job1 (PL:List (Str×Str)) (p:Str):Str:=((PL.find? fun e=>decide (e.1=p)).map (·.2)).getD ""
noncomputable def Q4 (fg:Bool) (ks:List Str) (g:Str->Str) (p j:Str):Bool:=(decide (p∈ks)&&(!decide (g p=j) || !decide (j∈f9))) || (fg&&p.cps.toList.any figO)
noncomputable def clGo (fg:Bool):List (Str×Str)->List (Str×Str)->Option Str
 | _,[]=>none
 | pre,e::r=>if Q4 fg (keysP pre) (job1 pre) e.1 e.2=true then some e.1 else clGo fg (pre++[e]) r
noncomputable def cQ (fg:Bool) (PL:List (Str×Str)):Option Str:=clGo fg [] PL
theorem mR : ∀ {xs pre r:List (Str×Str)},clGo fg pre xs=none->clGo fg pre (xs++r)=clGo fg (pre++xs) r
 | [],pre,r,_=>by rw [p8,M3]
 | e::xs,pre,r,h=>by
  unfold clGo at h
  split at h
  .cases h
  .rename_i hb
   rw [List.cons_append];show (if Q4 fg (keysP pre) (job1 pre) e.1 e.2=true then some e.1 else clGo fg (pre++[e]) (xs++r))=_;rw [if_neg hb,mR h,j8];rfl
theorem zS : ∀ {xs pre r:List (Str×Str)},clGo fg pre (xs++r)=none->clGo fg pre xs=none
 | [],_,_,_=>rfl
 | e::xs,pre,r,h=>by
  rw [List.cons_append] at h;unfold clGo at h ⊢
  split at h
  .cases h
  .rename_i hb
   rw [if_neg hb];exact zS h
theorem zT{r:List (Str×Str)}{e:Str×Str}(h:clGo fg [] pre=none)(hb:Q4 fg (keysP pre) (job1 pre) e.1 e.2=true):cQ fg (pre++e::r)=some e.1:=by
 unfold cQ;rw [mR h,p8];unfold clGo;rw [if_pos hb]
theorem zU{e:Str×Str}(h:clGo fg [] pre=none)(hb:Q4 fg (keysP pre) (job1 pre) e.1 e.2=false):clGo fg [] (pre++[e])=none:=by
 rw [mR h,p8];unfold clGo;rw [if_neg (by rw [hb];exact J5)];rfl
theorem qX{r:List (Str×Str)}(h:p∈keysP pre):job1 (pre++r) p=job1 pre p:=by
 unfold job1;rw [List.find?_append];obtain ⟨e,he,e1⟩:=E7.mp ((cM _ _).mp h);cases hf:pre.find? fun e=>decide (e.1=p) with
 | none=>exact absurd e1 (by simpa using List.find?_eq_none.mp hf e he)
 | some x=>rfl
theorem zV{r:List (Str×Str)}{j:Str}(h:p∉keysP pre):job1 (pre++(p,j)::r) p=j:=by
 unfold job1;rw [List.find?_append]
 have:(pre.find? fun e=>decide (e.1=p))=none:=List.find?_eq_none.mpr fun e he=>by
  rw [decide_eq_true_iff];exact fun e1=>h ((cM _ _).mpr (E7.mpr ⟨e,he,e1⟩))
 rw [this]
 simp
theorem akj(h:p∈keysP PL):(p,job1 PL p)∈PL:=by
 obtain ⟨e,he,e1⟩:=E7.mp ((cM _ _).mp h);unfold job1;cases hf:PL.find? fun e=>decide (e.1=p) with
 | none=>exact absurd e1 (by simpa using List.find?_eq_none.mp hf e he)
 | some x=>
  have h1:=List.mem_of_find?_eq_some hf;have h2:x.1=p:=by simpa using List.find?_some hf
  show (p,x.2)∈PL;rw [<- h2];exact h1
theorem zW{g:Str->Str}{j:Str}(h:Q4 fg ks g p j=false):(p∈ks->g p=j/\j∈f9)/\(fg=true->∀ c∈p.cps.toList,figO c=false):=by
 unfold Q4 at h;rw [Bool.or_eq_false_iff] at h;refine ⟨fun hp=>?_,fun hf c hc=>?_⟩
 .have h1:=h.1;rw [decide_eq_true hp,Bool.true_and,Bool.or_eq_false_iff] at h1;exact ⟨by simpa using h1.1,by simpa using h1.2⟩
 .have h2:=h.2;rw [hf,Bool.true_and,List.any_eq_false] at h2
  simpa using h2 c hc
theorem zX(h:cQ fg PL=none)(hl:∀ e∈PL,e.1.length<=1000):NC fg (job1 PL) PL:=fun i p j e=>by
 have hi:=(F6.mp e).1;have es:PL=PL.take i++(p,j)::PL.drop (i+1):=by
  have:=(F6.mp e).2
  rw [<- this,<- gI hi,W8]
 have hp:clGo fg [] (PL.take i++(p,j)::PL.drop (i+1))=none:=by rw [<- es];exact h
 have h1:=zS hp;rw [mR h1,p8] at hp;unfold clGo at hp;have hb:Q4 fg (keysP (PL.take i)) (job1 (PL.take i)) p j=false:=by
  cases q:Q4 fg (keysP (PL.take i)) (job1 (PL.take i)) p j with
  | false=>rfl
  | true=>
   have q':Q4 fg (keysP (PL.take i)) (job1 (PL.take i)) (p,j).1 (p,j).2=true:=q;rw [if_pos q'] at hp;cases hp
 obtain ⟨n1,n2⟩:=zW hb;refine ⟨?_,fun hk=>(n1 ((cM _ _).mpr hk)).2,n2,hl _ (M0 e)⟩
 by_cases hk:p∈keysP (PL.take i)
 .rw [es,qX hk,(n1 hk).1]
 .rw [es,zV hk]
noncomputable def zY:Sp:=fun vs H Q _=>∃ (d:Addr) (p j:Str) (fg:Bool) (ks:List Str) (g:Str->Str),vs=[.ref d,.str p,.str j,.bl fg]/\H d=some (.dK (A9 ks fun t=>.str (g t)))/\p.length<=1000/\∀ H',Same H H'->Q (.bl (Q4 fg ks g p j)) H'
noncomputable def qY (K:PySem.W.Frag) (CC:Addr):Sp:=fun vs H Q E=>∃ (a:Addr) (ts:List Addr) (R:List Rl),vs=[.ref a]/\IsRules H a ts R/\R.length<=1000/\(C5 R).length<=10000/\(∀ e∈C5 R,e.1.length<=1000/\P7 e.1=true)/\(" " : Str)∉(C5 R).map (·.1)/\
 (cQ (hasW R "figures") (C5 R)=none->∀ d H',H d=none->Same H H'->H' d=some (.dK (A9 (keysP (C5 R)++X3 R) (jobG (job1 (C5 R)))))->Q (.ref d) H')/\(∀ p,cQ (hasW R "figures") (C5 R)=some p->XP CC H E p)
noncomputable def qZ (K:PySem.W.Frag) (CR:Addr):Sp:=fun vs H Q E=>∃ (a:Addr) (ts:List Addr) (R:List Rl) (w:Str),vs=[.ref a,.str w]/\IsRules H a ts R/\R.length<=1000/\(rowsW R w).flatten.length<=500/\(∀ zs∈rowsW R w,∀ z∈zs,m5 z)/\
 (∀ l L H',H l=none->Same H H'->H' l=some (.lst (L.map V.str))->U6 R w L->Q (.ref l) H')/\
 (∀ (dx l:Addr) (g:List Str) (H':Hp),Same H H'->H' dx=some (.xd [("pieces",.ref l)])->H' l=some (.lst (g.map V.str))->Least (edges (rowsW R w)) g->E (.ref CR) (some dx) H')
structure Raw(R:List Rl):Prop where
 len:R.length<=1000
 plen:(C5 R).length<=10000
 nb:(" " : Str)∉(C5 R).map (·.1)
 zl:∀ z∈R,z.2.length<=1000
 ok:∀ z∈R,∀ p∈z.2,m5 p
 ne:∀ z∈R,z.1=("as" : Str)\/z.1=("great" : Str)->z.2≠[]
 f1:(rowsW R "row").flatten.length<=500
 f2:(rowsW R "marks").flatten.length<=500
noncomputable def Z3 (R:List Rl):Option Str:=cQ (hasW R "figures") (C5 R)
noncomputable def gR (R:List Rl):Str->Str:=job1 (C5 R)
theorem zZ{R:List Rl}{e:Str×Str}(h:e∈C5 R):∃ z∈R,e.1∈z.2:=by
 unfold C5 at h;obtain ⟨z,hz,he⟩:=j9.mp h;refine ⟨z,hz,?_⟩;obtain ⟨p,hp,rfl⟩:=E7.mp he;obtain ⟨t1,t2,t3⟩:=@aM z;unfold D7 at hp
 split at hp
 .exact List.mem_of_mem_drop hp
 split at hp
 .exact List.mem_of_mem_take hp
 split at hp
 .exact hp
 .cases hp
theorem Raw.short{R:List Rl}(h:Raw R):∀ e∈C5 R,e.1.length<=1000/\P7 e.1=true:=fun e he=>by
 obtain ⟨z,hz,hp⟩:=zZ he
 have:=h.ok z hz _ hp
 exact ⟨E1 this.1 (by decide),this.2⟩
theorem Raw.rows{R:List Rl}(h:Raw R)(w:Str):∀ zs∈rowsW R w,∀ z∈zs,m5 z:=fun zs x4 z hz=>by
 unfold rowsW at x4;obtain ⟨r,hr,rfl⟩:=E7.mp x4;exact h.ok r (N2.mp hr).1 z hz
theorem aiN{α:Type}{l:List α}(h:l.head?=none):l=[]:=by cases l with | nil=>rfl | cons a l=>cases h
theorem rA{R:List Rl}{j:Str}(hn:j≠"over")(h:jobV (keysP (C5 R)++X3 R) (jobG (gR R)) p=V.str j):(p,j)∈C5 R:=by
 unfold jobV at h
 split at h
 .rename_i hm
  unfold jobG at h
  split at h
  .exact absurd (V.str.inj h).symm hn
  .rename_i hb
   rcases G1.mp hm with hm | hm
   .rw [<- V.str.inj h];exact akj hm
   .unfold X3 at hm
    split at hm
    .exact absurd (F7.mp hm) hb
    .cases hm
 .cases h
theorem Raw.good{R:List Rl}(h:Raw R)(hc:Z3 R=none)(hm:(misR (gR R) R).head?=none)(hL:U6 R "row" L)(hM:U6 R "marks" M):GoodR (gR R) (L.idxOf ·) (M.idxOf ·) R:=by
 have tQ:∀ z∈R,misL (keysP (C5 R)++X3 R) (jobG (gR R)) z=[]:=fun z hz=>List.flatMap_eq_nil_iff.mp (aiN hm) z hz
 have nl:∀ {p:Str},¬ (g8 (keysP (C5 R)++X3 R) (jobG (gR R)) p=true)->(p,("letter" : Str))∈C5 R:=fun {p} q=>by
  unfold g8 at q;simp only [l6,decide_eq_false_iff_not,Classical.not_not] at q;exact rA (by decide +kernel) q
 refine ⟨h.len,h.plen,zX hc fun e he=>(h.short e he).1,h.nb,h.zl,h.ne,fun z hz e p hp=>nl fun q=>?_,fun z hz e p hp=>nl fun q=>?_,fun z hz e p hp=>Classical.byContradiction fun q=>?_,E1 h.f1 (by decide),E1 h.f2 (by decide),fun e he=>zR hL.1 he (hL.2 _ (iN he).2),fun e he=>zR hM.1 he (hM.2 _ (iN he).2)⟩
 .have:=tQ z hz
  unfold misL at this;rw [if_pos e] at this;exact absurd q (by simpa using dQ.mp this p hp)
 .have:=tQ z hz
  unfold misL at this;rw [if_neg (by rw [e];decide +kernel),if_pos e] at this;exact absurd q (by simpa using dQ.mp (List.append_eq_nil_iff.mp this).1 p hp)
 .have:=tQ z hz
  unfold misL at this;rw [if_neg (by rw [e];decide +kernel),if_pos e] at this;have h2:=dQ.mp (List.append_eq_nil_iff.mp this).2 p hp;unfold cP at h2;simp only [l6,Bool.or_eq_false_iff,decide_eq_false_iff_not,not_and,Classical.not_not] at h2
  by_cases q2:jobV (keysP (C5 R)++X3 R) (jobG (gR R)) p=V.str "letter"
  .exact q (.inl (rA (by decide +kernel) q2))
  .exact q (.inr (rA (by decide +kernel) (h2 q2)))
noncomputable def mS (C CC CN CR:Addr):Sp:=fun vs H Q E=>∃ (x dx a:Addr) (ts:List Addr) (R:List Rl),vs=[.ref x,.ref a]/\H x=some (.ins C dx [])/\IsRules H a ts R/\Raw R/\
 (Z3 R=none->(misR (gR R) R).head?=none->∀ j ll ml md L M H',H j=none->H ll=none->H ml=none->H md=none->SameBut x H H'->IsOrd C H' x j ll ml md (gR R) R L M->Q .non H')/\
 (∀ p,Z3 R=some p->∀ dx' H',SameBut x H H'->H' dx'=some (.xd [("piece",.str p)])->E (.ref CC) (some dx') H')/\
 (∀ p,Z3 R=none->(misR (gR R) R).head?=some p->∀ dx' H',SameBut x H H'->H' dx'=some (.xd [("piece",.str p)])->E (.ref CN) (some dx') H')/\
 (Z3 R=none->(misR (gR R) R).head?=none->∀ w:Str,(w="row"\/(w="marks"/\∃ L,U6 R "row" L))->∀ (dx' l:Addr) (g:List Str) (H':Hp),SameBut x H H'->H' dx'=some (.xd [("pieces",.ref l)])->H' l=some (.lst (g.map V.str))->Least (edges (rowsW R w)) g->E (.ref CR) (some dx') H')
theorem amw{α β:Type}(f:α->β)(xs:List α)(i:Int):J3 (xs.map f) i=(J3 xs i).map f:=by
 unfold J3;rw [B3]
 cases Y8 xs.length i with
 | none=>rfl
 | some j=>
  show (xs.map f)[j]?=(xs[j]?).map f;rw [W9]
noncomputable def stpN (ns:List Int):Int:=((J3 [1,2,4,5,7,8,10,11,13,23,44,91] (cellF ns 1 % 12)).getD 0:Int)
noncomputable def sgnF (ns:List Int) (k:Int):Nat:=(J3 SG ((cellF ns 0+k*stpN ns) % 93)).getD 33
noncomputable def v0 (K:PySem.W.Frag):Sp:=fun vs H Q _=>∃ (a:Addr) (ns:List Int) (k:Int),vs=[.ref a,.int k]/\D3 K H a (ns.map V.int)/\0<=k/\∀ H',Same H H'->Q (.str (one (sgnF ns k))) H'
theorem amx(ns:List Int):J3 ([1,2,4,5,7,8,10,11,13,23,44,91]:List Int) (cellF ns 1 % 12)=some (stpN ns)/\0<=stpN ns/\stpN ns<=91:=by
 obtain ⟨v,h1,h2⟩:=pH (xs:=([1,2,4,5,7,8,10,11,13,23,44,91]:List Int)) (i:=cellF ns 1 % 12) (by lia) (by simp only [J9,k7];lia);unfold stpN;rw [h1];exact ⟨rfl,(show ∀ s∈([1,2,4,5,7,8,10,11,13,23,44,91]:List Int),0<=s/\s<=91 by decide) v h2⟩
theorem mT(ns:List Int)(k:Int):J3 SG ((cellF ns 0+k*stpN ns) % 93)=some (sgnF ns k)/\signB (sgnF ns k)=true:=by
 obtain ⟨c,h1,h2⟩:=SS_at (i:=(cellF ns 0+k*stpN ns) % 93) (by lia) (by lia);rw [SS_eq] at h1;unfold sgnF;rw [h1];exact ⟨rfl,h2⟩
theorem rB : ∀ bs:List Bool,DnAll K H (bs.map V.bl) (bs.map PyData.bool)
 | []=>.nil
 | b::bs=>.cons (.bl b) (rB bs)
noncomputable def optP:Option Str->V
 | none=>.non
 | some p=>.str p
theorem forEs{l:Addr}{Y:L2.St}(Pv:Nat->L2.St->Hp->Prop)(h0:Pv 0 Y H)(hl:∀ i Y H,Pv i Y H->H l=some (.lst xs))(hs:∀ (P':Nat->L2.St->Hp->Prop) (B':L2.St->Hp->Prop),(∀ i Y H,Pv i Y H->P' i Y H)->∀ i x t Y H,xs[i]?=some x->Pv i Y H->H t=none->g (.ref t) Y (A0 H t (.tup [.int i,x])) fun σ2 H2=>tb { D with nx:=P' (i+1),ct:=P' (i+1),bk:=B' } σ2 H2)(hd:∀ Y H,Pv xs.length Y H->D.nx Y H):ForIt (eS l) g tb D Y H:=forE Pv h0 hl (hs Pv _ fun _ _ _ h=>h) hd
noncomputable def Pc (p:Str):Prop:=m5 p/\p≠" "
theorem pc_of(h:iA p=true):Pc p:=by
 obtain ⟨h1,h2,h3⟩:=ahT h;refine ⟨⟨by lia,h1⟩,fun e=>?_⟩;rw [e] at h;exact absurd h (by decide +kernel)
theorem W1(ns:List Int)(k:Int):Pc (one (sgnF ns k)):=pc_of (by simp [iA,one,(mT ns k).2,Str.length])
theorem aoj(ns:List Int)(k l:Int):Pc (one (sgnF ns k)++one (sgnF ns l)):=pc_of (by
 have h1:=(mT ns k).2;have h2:=(mT ns l).2;rw [show one (sgnF ns k)++one (sgnF ns l)=xR (sgnF ns k) (sgnF ns l) from rfl];simp [iA,xR,h1,h2,Str.length])
structure RL(z:Rl):Prop where
 w:z.1∈(["row", "marks", "great", "as", "over", "behind", "blanks", "forget", "figures"]:List Str)
 l:z.2.length<=3
 p:∀ p∈z.2,Pc p
 a:z.1=("as" : Str)\/z.1=("great" : Str)->z.2≠[]
 f:z.1=("figures" : Str)->z.2=[]
theorem RL.of{w:Str}(hw:w="row"\/w="marks"\/w="great"\/w="as"\/w="over")(h0:ps≠[])(hl:ps.length<=3)(hp:∀ p∈ps,Pc p):RL (w,ps):=
 ⟨by simp only [G4];rcases hw with h | h | h | h | h <;> simp [h],hl,hp,fun _=>h0,fun e=>by
  have e:w="figures":=e;rw [e] at hw;exact absurd hw (by decide +kernel)⟩
theorem RL.bare{w:Str}(hw:w="behind"\/w="blanks"\/w="figures"):RL (w,[]):=
 ⟨by simp only [G4];rcases hw with h | h | h <;> simp [h],by simp,by simp,fun e=>by
  have e:w="as"\/w="great":=e
  rcases hw with h | h | h <;> rw [h] at e <;> exact absurd e (by decide +kernel),fun _=>rfl⟩
theorem RL.fgt(hp:Pc p):RL (("forget" : Str),[p]):=
 ⟨by simp,by simp,by simpa using hp,fun _=>by simp,fun e=>absurd e (by decide +kernel:¬ Str.ofString "forget"=Str.ofString "figures")⟩
noncomputable def iV (K:PySem.W.Frag):Sp:=fun vs H Q _=>∃ (a:Addr) (n:Int) (ns:List Int),vs=[.ref a,.int n]/\D3 K H a (ns.map V.int)/\∀ p H',Pc p->Same H H'->Q (.str p) H'
noncomputable def aiO (K:PySem.W.Frag):Sp:=fun vs H Q _=>∃ (a:Addr) (k:Nat) (n:Int) (ns:List Int),vs=[.ref a,.int k,.int n]/\D3 K H a (ns.map V.int)/\∀ t z H',H t=none->Same H H'->H' t=some (tupR z)->RL z->Q (.ref t) H'
noncomputable def agN (K:PySem.W.Frag):Sp:=fun vs H Q _=>∃ (a:Addr) (k:Nat) (n:Int) (ns:List Int),vs=[.ref a,.int k,.int n]/\D3 K H a (ns.map V.int)/\∀ t z H',H t=none->Same H H'->H' t=some (tupR z)->RL z->Q (.ref t) H'
noncomputable def agO (K:PySem.W.Frag):Sp:=fun vs H Q _=>∃ (t:Addr) (z:Rl),vs=[.ref t]/\H t=some (tupR z)/\RL z/\∀ p H',H p=none->Same H H'->H' p=some (.lst ((D7 z).map V.str))->Q (.ref p) H'
noncomputable def aiP:Sp:=fun vs H Q _=>∃ (z:Str),vs=[.str z]/\Q (.bl (z.cps.toList.any figO)) H
noncomputable def afx (K:PySem.W.Frag):Sp:=fun vs H Q _=>∃ (r:Addr) (ts:List Addr) (R:List Rl),vs=[.ref r]/\IsRules H r ts R/\(∀ z∈R,RL z)/\R.length<=50/\∀ H',Same H H'->Q (optP (Z3 R)) H'
noncomputable def fB (CN CR:Addr) (H:Hp) (t:Addr) (R:List Rl):Prop:=match Z3 R with
 | some p=>H t=some (.tup [.str "clash",.str p])
 | none=>H t=some (.tup [.str "made",.non])\/∃ y Ce d fs,(Ce=CN\/Ce=CR)/\H t=some (.tup [.str "other",.ref y])/\H y=some (xc y Ce d)/\H d=some (.xd fs)
noncomputable def aiQ (CN CR:Addr):Sp:=fun vs H Q _=>∃ (r:Addr) (ts:List Addr) (R:List Rl),vs=[.ref r]/\IsRules H r ts R/\Raw R/\∀ t H',Same H H'->fB CN CR H' t R->Q (.ref t) H'
noncomputable def aiR:Sp:=fun vs H Q _=>∃ (r:Addr) (ts:List Addr) (R:List Rl) (p:Str),vs=[.ref r]/\IsRules H r ts R/\Raw R/\Z3 R=some p/\∀ H',Same H H'->Q (.bl true) H'
theorem RL.str{z:Rl}(h:RL z){y:Str}(hy:y∈z.1::z.2):P7 y=true:=by
 rcases G4.mp hy with rfl | hy
 .exact (by decide +kernel:∀ w∈(["row", "marks", "great", "as", "over", "behind", "blanks", "forget", "figures"]:List Str),P7 w=true) z.1 h.w
 .exact (h.p y hy).1.2
theorem yT(z:Rl):(D7 z).length<=z.2.length:=by
 unfold D7
 split
 .rw [k6];lia
 split
 .rw [M6];lia
 split
 .exact C4 _
 .exact G8 _
theorem akI{R:List Rl}(hz:∀ z∈R,RL z)(hl:R.length<=50):Raw R:=by
 have len:∀ {f:Rl->List (Str×Str)},(∀ z,(f z).length<=z.2.length)->(R.flatMap f).length<=3*R.length:=fun {f} hf=>by
  clear hl
  induction R with
  | nil=>exact G8 _
  | cons z R ih=>
   rw [y4,G0,J9];have h1:=hf z;have h2:=(hz z N1).l;have h3:=ih fun z' h'=>hz z' (M5 _ h')
   lia
 have rows:∀ w:Str,(rowsW R w).flatten.length<=3*R.length:=fun w=>by
  clear hl len
  induction R with
  | nil=>exact G8 _
  | cons z R ih=>
   have h2:=(hz z N1).l;have h3:=ih fun z' h'=>hz z' (M5 _ h')
   unfold rowsW at h3 ⊢
   rw [List.filter_cons,J9]
   split
   .rw [G3,bR,G0];lia
   .lia
 have pl:(C5 R).length<=3*R.length:=len fun z=>by rw [B3];exact yT z
 have r1:=rows "row";have r2:=rows "marks";refine ⟨by lia,by lia,fun hb=>?_,fun z h=>E1 (hz z h).l (by decide),fun z h p hp=>((hz z h).p p hp).1,fun z h=>(hz z h).a,by lia,by lia⟩;obtain ⟨e,he,e1⟩:=E7.mp hb;obtain ⟨z,h,hp⟩:=zZ he;exact ((hz z h).p _ hp).2 e1
noncomputable def P0 (R:List Rl):List (Str×Str):=R.flatMap fun z=>(D7 z).map fun p=>(z.1,p)
noncomputable def wj (W:List (Str×Str)):List (Str×Str):=W.map fun e=>(e.2,jobD e.1)
noncomputable def cR (W:List (Str×Str)):List Rl:=W.map fun e=>(e.1,[e.2])
theorem rD(R:List Rl):C5 R=wj (P0 R):=by
 unfold C5 wj P0;rw [List.map_flatMap]
 congr 1
 funext z
 rw [k9];rfl
theorem amy{R:List Rl}{z:Rl}(h:R[i]?=some z):P0 (R.take (i+1))=P0 (R.take i)++(D7 z).map fun p=>(z.1,p):=by
 rw [V1,h];unfold P0;rw [Z9]
 simp
noncomputable def lawC (w p:Str) (e:Str×Str):Bool:=decide (e.2=p)&&(!decide (e.1=w) || decide (e.1∈(["great", "as"]:List Str)))
theorem amz{u w:Str}(hu:T5 u)(hw:T5 w)(h:jobD u=jobD w):u=w:=by
 unfold T5 at hu hw
 rcases hu with rfl | rfl | rfl | rfl | rfl <;> rcases hw with rfl | rfl | rfl | rfl | rfl <;> first | rfl | exact absurd h (by decide +kernel)
theorem afy{w:Str}(hw:T5 w):jobD w∈f9↔w∉(["great", "as"]:List Str):=by
 unfold T5 at hw
 rcases hw with rfl | rfl | rfl | rfl | rfl <;> decide +kernel
theorem aok{W:List (Str×Str)}{w:Str}(hW:∀ e∈W,T5 e.1)(hw:T5 w)(hn:clGo fg [] (wj W)=none)(hl:∀ e∈wj W,e.1.length<=1000):W.any (lawC w p)=(decide (p∈keysP (wj W))&&(!decide (job1 (wj W) p=jobD w) || !decide (jobD w∈f9))):=by
 have nc:=zX hn hl;have jb:∀ e∈W,e.2=p->job1 (wj W) p=jobD e.1:=fun e he e2=>by
  rw [<- e2];exact iO nc (E7.mpr ⟨e,he,rfl⟩)
 rw [e8,bS]
 constructor
 .rintro ⟨e,he,h⟩;unfold lawC at h;simp only [R1,decide_eq_true_eq,Bool.or_eq_true,l6,decide_eq_false_iff_not] at h ⊢
  refine ⟨(cM _ _).mpr (E7.mpr ⟨(e.2,jobD e.1),E7.mpr ⟨e,he,rfl⟩,h.1⟩),?_⟩;rw [jb e he h.1]
  by_cases ew:e.1=w
  .rcases h.2 with h2 | h2
   .exact absurd ew h2
   .rw [ew] at h2;exact .inr fun q=>(afy hw).mp q h2
  .exact .inl fun q=>ew (amz (hW e he) hw q)
 .intro h;simp only [R1,decide_eq_true_eq,Bool.or_eq_true,l6,decide_eq_false_iff_not] at h;obtain ⟨e',tR,e1⟩:=E7.mp ((cM _ _).mp h.1);obtain ⟨e,he,rfl⟩:=E7.mp tR;have e2:e.2=p:=e1;refine ⟨e,he,?_⟩;unfold lawC;simp only [R1,decide_eq_true_eq,Bool.or_eq_true,l6,decide_eq_false_iff_not];refine ⟨e2,?_⟩
  by_cases ew:e.1=w
  .right
   rw [jb e he e2,ew] at h
   rcases h.2 with h2 | h2
   .exact absurd rfl h2
   .rw [ew];exact Classical.byContradiction fun q=>h2 ((afy hw).mpr q)
  .exact .inl ew
structure KeptP(CN:Addr)(H:Hp)(x:Addr)(p:Str):Prop where
 ex:∃ dx,H x=some (xc x CN dx)/\H dx=some (.xd [("piece",.str p)])
noncomputable def kindN:List Bool:=[true,false,false,false,false,false,false,false,false,false,false,false]
noncomputable def aiS (CN:Addr):Sp:=fun vs H Q _=>∃ (x:Addr) (p:Str),vs=[.ref x]/\KeptP CN H x p/\∀ l H',H l=none->Same H H'->H' l=some (.lst (kindN.map V.bl))->Q (.ref l) H'
section
variable {P:Program} {w:World} {K:PySem.W.Frag} {mg:Str->Option Value} {base:Heap} {C:Addr} {C_Clash:Addr} {C_NoLetter:Addr} {C_Round:Addr}
theorem ac5:FnScope ["self", "piece"] ["self", "piece"] (C7 aP):=J4
abbrev VS(N:List Str)(s:Stmt)(x:Str)(n:Nat):Prop:=∀ {X:Cx} {pos:Pos},X.N=N->X.env.scope=C7 s->QE X (.Name x pos) (tVar n)
theorem vq{s:Stmt}(h:(decide (N[n]?=some x)&&visB (C7 s) x && !(x==("__debug__" : Str)) && !(x==("__classdict__" : Str)))=true:=by decide +kernel):VS N s x n:=fun hN hs=>qvd hN hs h
theorem vi{s:Stmt}{pos:Pos}(h:VS N s x n)(h1:X.N=N:=by rfl)(h2:X.env.scope=C7 s:=by rfl):QE X (.Name x pos) (tVar n):=h h1 h2
abbrev LS(s:Stmt)(x:Str):Prop:=f7 (C7 s) x
theorem lq{s:Stmt}(h:(C7 s).names.lookup x=some .local\/(C7 s).names.lookup x=some .cell:=by decide +kernel):LS s x:=h
abbrev ab7:List Str:=["self", "piece"]
theorem vaa:VS ab7 aP "self" 0:=vq
theorem vab:VS ab7 aP "piece" 1:=vq
theorem ac6(F:FunD K "__init__" "Clash.__init__" aP f fd)(T:Txt P w K mg C C_Clash C_NoLetter C_Round):FnOk P w K mg base F9 1 f fd ["self", "piece"] (fA K C_Clash "piece"):=by
 refine F.ok ac5 ?_ ?_
 .rintro _ _ _ _ ⟨m,x,z,f,rfl,_⟩;rfl
 .intro cdv A outer s H vs Q E hr h;have C8:=hu_of hr;have hu:=hr.units;obtain ⟨aL,mL,NL⟩:=T.lore;refine ⟨_,QSs.out (B5 (T4 (qP NL mL (vi vaa) (qQ (zD (vi vab)) D4) (K:=K)))
   (C1 (qR (vi vaa) (vi vab) (K:=K)))),?_⟩
  obtain ⟨m,x,z,f,rfl,hx,M,n,hz,hok,q⟩:=h;walk_at "rd";exact ⟨hz,hok,fun z1 h1=>⟨by lia,by decide +kernel,fun z2=>⟨m,C_Clash,hx,⟨f,M⟩,m,C_Clash,hx,⟨f,M⟩,n,q⟩⟩⟩
theorem act:FnScope ["self", "piece"] ["self", "piece"] (C7 aQ):=J4
abbrev abK:List Str:=["self", "piece"]
theorem vac:VS abK aQ "self" 0:=vq
theorem vad:VS abK aQ "piece" 1:=vq
theorem acu(F:FunD K "__init__" "NoLetter.__init__" aQ f fd)(T:Txt P w K mg C C_Clash C_NoLetter C_Round):FnOk P w K mg base F9 1 f fd ["self", "piece"] (fA K C_NoLetter "piece"):=by
 refine F.ok act ?_ ?_
 .rintro _ _ _ _ ⟨m,x,z,f,rfl,_⟩;rfl
 .intro cdv A outer s H vs Q E hr h;have C8:=hu_of hr;have hu:=hr.units;obtain ⟨aL,mL,NL⟩:=T.lore;refine ⟨_,QSs.out (B5 (T4 (qP NL mL (vi vac) (qQ (zD (vi vad)) D4) (K:=K)))
   (C1 (qR (vi vac) (vi vad) (K:=K)))),?_⟩
  obtain ⟨m,x,z,f,rfl,hx,M,n,hz,hok,q⟩:=h;walk_at "rd";exact ⟨hz,hok,fun z1 h1=>⟨by lia,by decide +kernel,fun z2=>⟨m,C_NoLetter,hx,⟨f,M⟩,m,C_NoLetter,hx,⟨f,M⟩,n,q⟩⟩⟩
theorem ac7:FnScope ["self", "pieces"] ["self", "pieces"] (C7 aR):=J4
abbrev ab8:List Str:=["self", "pieces"]
theorem vae:VS ab8 aR "self" 0:=vq
theorem vaf:VS ab8 aR "pieces" 1:=vq
theorem ac8(F:FunD K "__init__" "Round.__init__" aR f fd)(T:Txt P w K mg C C_Clash C_NoLetter C_Round):FnOk P w K mg base F9 1 f fd ["self", "pieces"] (qT K C_Round "pieces"):=by
 refine F.ok ac7 ?_ ?_
 .rintro _ _ _ _ ⟨m,x,l,f,zs,rfl,_⟩;rfl
 .intro cdv A outer s H vs Q E hr h;have C8:=hu_of hr;have hu:=hr.units;obtain ⟨aL,mL,NL⟩:=T.lore;refine ⟨_,QSs.out (B5 (T4 (qP NL mL (vi vae) (qQ D4 (amr hr (vi vaf))) (K:=K)))
   (C1 (qR (vi vae) (qe_cT (cK (K:=K) (calm:=true)) T.b_list cE (qa_c (vi vaf) A5)) (K:=K)))),?_⟩
  obtain ⟨m,x,l,f,zs,rfl,hx,M,n,hl,hn,hs,q⟩:=h;walk_at "rd";exact ⟨by decide +kernel,zs,hl,hn,hs,fun z hz=>⟨hz,fun z2=>⟨m,C_Round,hx,⟨f,M⟩,rListR.l (.inl (.of hl)) fun p np=>⟨m,C_Round,C9 hx np,⟨f,M⟩,n,fun dx nd ne=>q p dx np nd ne⟩⟩⟩⟩
theorem sc_told:FnScope ["rows", "seen", "row", "piece"] ["rows"] (C7 m7):=J4
abbrev mU:List Str:=["rows", "seen", "row", "piece"]
theorem vag:VS mU m7 "rows" 0:=vq
theorem vah:VS mU m7 "seen" 1:=vq
theorem vai:VS mU m7 "row" 2:=vq
theorem vaj:VS mU m7 "piece" 3:=vq
theorem vak:LS m7 "seen":=lq
theorem vam:LS m7 "row":=lq
theorem van:LS m7 "piece":=lq
theorem amA(F:FunD K "told" "told" m7 f fd)(T:Txt P w K mg C C_Clash C_NoLetter C_Round):FnOk P w K mg base F9 1 f fd ["rows"] qC:=by
 refine F.ok sc_told ?_ ?_
 .rintro _ _ _ _ ⟨a,rs,zss,rfl,_⟩;rfl
 .intro cdv A outer s H vs Q E hr h;have C8:=hu_of hr;have hu:=hr.units;refine ⟨_,QSs.out (B5 (D9 (n:=1) sc_told.nd rfl vak cF)
   (B5 (N8 PassesOwn.never (P9 (K:=K) (vi vag)) (E8 (n:=2) sc_told.nd rfl vam (.inl rfl)) (C1 (N8 PassesOwn.never (P9 (K:=K) (vi vai)) (E8 (n:=3) sc_told.nd rfl van (.inl rfl)) (C1 (m3 C8 (vi vah) (vi vaj) qe_bl)))))
   (C1 (D6 (qe_cT (cK (K:=K) (calm:=true)) T.b_list cE (qa_c (vi vah) A5)))))),?_⟩
  obtain ⟨a,rs,zss,rfl,hR,hz,q⟩:=h;walk_at "rd";intro d nd;have hlz:∀ n:Nat,n<=100000->n<sizeLine:=fun n h=>K9 (by lia)
  refine ⟨⟨_,.of (C9 hR.top nd)⟩,forL (xs:=rs.map V.ref) (fun i Y H2=>∃ (u v:Option V),Y=[some (.ref a),some (.ref d),u,v]/\Same H H2/\H2 d=some (.dK (kvOf (toldL (zss.take i)))))
   ⟨none,none,rfl,Same.new nd,by rw [A6];rfl⟩ (by rintro i Y H2 _ ⟨_,_,_,S,_⟩;exact .of (S _ _ hR.top)) ?_ ?_⟩
  .rintro i x Y H2 hx ⟨u,v,rfl,S,hd⟩;obtain ⟨r,hr,rfl⟩:=J0 hx;obtain ⟨zs,x4,C6⟩:=Paired.at hR.row hr;have hcount:(toldL (zss.take i)).length+zs.length<=100000:=by
    have h1:zss.take (i+1)=zss.take i++[zs]:=by rw [V1,x4];rfl
    have h2:=eP (zss.take i);have h3:(zss.take (i+1)).flatten.length<=zss.flatten.length:=by
     conv=>rhs;rw [<- W8 (i+1) zss]
     rw [List.flatten_append,G0];lia
    rw [h1,List.flatten_append,G0] at h3;simp at h3;simp at h2 hz h3 ⊢
    lia
   walk_at "rd";refine ⟨⟨_,.of (S _ _ C6)⟩,forL (xs:=zs.map V.str) (fun j Y H3=>∃ (v:Option V),Y=[some (.ref a),some (.ref d),some (.ref r),v]/\Same H H3/\H3 d=some (.dK (kvOf (K0 (toldL (zss.take i)) (zs.take j)))))
    ⟨v,rfl,S,hd⟩ (by rintro j Y H3 _ ⟨_,_,S3,_⟩;exact .of (S3 _ _ C6)) ?_ ?_⟩
   .rintro j y Y H3 hy ⟨v,rfl,S3,V0⟩;obtain ⟨z,tF,rfl⟩:=J0 hy;walk_at "rd";refine ⟨_,l8 (k:=Sum.inr z) V0 ?_,S3.put nd,?_⟩
    .unfold kvOf;rw [B3];refine hlz _ ?_
     have:=iB (zs.take j) (toldL (zss.take i))
     rw [M6] at this;lia
    .rw [A6,ahV,ajC tF]
   .rintro Y H3 ⟨v,rfl,S3,V0⟩;walk_at "rd";refine ⟨S3,?_⟩;rw [V0,ahU x4,B3,J1]
  .rintro Y H2 ⟨u,v,rfl,S,hd⟩;walk_at "rd";refine rListR.d (.of hd) fun l nl=>?_
   refine q l _ (S.free nl) (fun b o h=>C9 (S b o h) nl) ?_;rw [A6,ahW,B3];rw [show rs.length=zss.length from Paired.length hR.row,J1]
theorem sc_followers:FnScope ["rows", "after", "piece", "row", "one", "other"] ["rows"] (C7 V9):=J4
abbrev fD:List Str:=["rows", "after", "piece", "row", "one", "other"]
theorem vao:VS fD V9 "rows" 0:=vq
theorem rE:VS fD V9 "after" 1:=vq
theorem vaq:VS fD V9 "piece" 2:=vq
theorem var:VS fD V9 "row" 3:=vq
theorem vas:VS fD V9 "one" 4:=vq
theorem vat:VS fD V9 "other" 5:=vq
theorem vau:LS V9 "after":=lq
theorem vav:LS V9 "piece":=lq
theorem vaw:LS V9 "row":=lq
theorem vax:LS V9 "one":=lq
theorem vay:LS V9 "other":=lq
theorem afz(F:FunD K "followers" "followers" V9 f fd)(T:Txt P w K mg C C_Clash C_NoLetter C_Round)(G_told:FO P w K mg base 1 "told" ["rows"] [] qC):FnOk P w K mg base F9 2 f fd ["rows"] spFol:=by
 refine F.ok sc_followers ?_ ?_
 .rintro _ _ _ _ ⟨a,rs,zss,rfl,_⟩;rfl
 .intro cdv A outer s H vs Q E hr h;have C8:=hu_of hr;have hu:=hr.units;refine ⟨_,QSs.out (B5 (D9 (n:=1) sc_followers.nd rfl vau cF)
   (B5 (N8 PassesOwn.never (P9 (K:=K) (E2 G_told (hm hr) (qa_c (vi vao) A5))) (E8 (n:=2) sc_followers.nd rfl vav (.inl rfl)) (C1 (m3 C8 (vi rE) (vi vaq) (M9 A5))))
   (B5 (N8 PassesOwn.never (P9 (K:=K) (vi vao)) (E8 (n:=3) sc_followers.nd rfl vaw (.inl rfl)) (C1 (N8 PassesOwn.never (anX T.b_zip (qa_c (vi var) (qa_c (X2 (K:=K) (vi var) (R5 A8) u5) A5))) (cJ (K:=K) (n:=2) (V6 ((E8 (n:=4) sc_followers.nd rfl vax (.inl rfl))) (V6 ((E8 (n:=5) sc_followers.nd rfl vay (.inl rfl))) cI))) (C1 (T4 (qe_mB (K:=K) Y6 z8 z0 aH (V5 C8 (vi rE) (vi vas)) (qa_c (vi vat) A5)))))))
   (C1 (D6 (vi rE)))))),?_⟩
  obtain ⟨a,rs,zss,rfl,hR,hz,q⟩:=h;walk_at "rd";intro d nd;have S0:Same H (A0 H d (.dK [])):=Same.new nd;refine ⟨a,rs,zss,rfl,hR.same S0,hz,fun l H1 nl S1 hl=>?_⟩;have tS:H1 d=some (.dK []):=S1 _ _ A6;have S01:=S0.trans S1;have B1:(toldL zss).length<=100000:=E1 (eP zss) hz;have tnd:=iM zss;refine ⟨l,rfl,⟨_,.of hl⟩,forL (xs:=(toldL zss).map V.str) (fun i Y H2=>∃ (u v w x:Option V) (ad:Str->Addr),Y=[some (.ref a),some (.ref d),u,v,w,x]/\SameBut d H1 H2/\H2 d=some (.dK (A9 ((toldL zss).take i) fun t=>.ref (ad t)))/\DL H1 H2 ((toldL zss).take i) ad fun _=>[])
   ⟨none,none,none,none,fun _=>0,rfl,xQ _ _,tS,⟨fun t h=>by simp at h,fun t h=>by simp at h,fun t h=>by simp at h⟩⟩ (fun i Y H2 _ ⟨_,_,_,_,_,_,S,_⟩=>.of (S _ _ (fun e=>by rw [e,tS] at hl;cases hl) hl)) ?_ ?_⟩
  .rintro i x Y H2 hx ⟨u,v,w,y,ad,rfl,S,hd,dl⟩;obtain ⟨z,hk,rfl⟩:=J0 hx;have hi:i<(toldL zss).length:=(F6.mp hk).1;have P1:=pU tnd hk;walk_at "rd";refine fun p np=>⟨_,l8 (k:=Sum.inr z) (C9 hd np) (by rw [V8,M6];exact K9 (by lia)),?_⟩
   have n1:H1 p=none:=S.free np (fun e=>by rw [e,hd] at np;cases np);refine ⟨(S.put n1).at,fun t=>if t=z then p else ad t,?_,?_⟩
   .rw [A6,aI _ P1,K5 hk];have e:(fun t=>if t=z then V.ref p else V.ref (ad t))=fun t=>V.ref (if t=z then p else ad t):=by funext t;split <;> rfl
    rw [e]
   .rw [K5 hk];exact ((dl.more P1 np n1).congr fun t _=>by split <;> rfl).put tS
  .rintro Y H2 ⟨u,v,w,y,ad,rfl,S,hd,dl⟩;rw [B3,J1] at hd dl;have S2:Same H H2:=S.same S01 nd;walk_at "rd";have dl0:DL H H2 (toldL zss) ad fun _=>[]:=dl.old S01
   refine ⟨⟨_,.of (S2 _ _ hR.top)⟩,forL (xs:=rs.map V.ref) (fun i Y H3=>∃ (v w x:Option V),Y=[some (.ref a),some (.ref d),u,v,w,x]/\Same H H3/\H3 d=some (.dK (A9 (toldL zss) fun t=>.ref (ad t)))/\DL H H3 (toldL zss) ad (C3 (edges (zss.take i))))
    ⟨v,w,y,rfl,S2,hd,dl0⟩ (by rintro i Y H3 _ ⟨_,_,_,_,S,_⟩;exact .of (S _ _ hR.top)) ?_ ?_⟩
   .rintro i x Y H3 hx ⟨v,w,y,rfl,S3,V0,o8⟩;obtain ⟨r,hr,rfl⟩:=J0 hx;obtain ⟨zs,x4,C6⟩:=Paired.at hR.row hr;have bE:=S3 _ _ C6;have M4:∀ x∈zs,x∈toldL zss:=fun x hx=>(lZ _ _).mpr (gP.mpr ⟨zs,M0 x4,hx⟩)
    walk_at "rd";refine rSlR.l (.of bE) fun p np=>?_
    have ecut:cutV (zs.map V.str) (some 1) none=zs.tail.map V.str:=by
     have:=cL (zs.map V.str) 1
     rw [show ((1:Nat):Int)=1 from rfl] at this;rw [this,<- List.map_drop,List.drop_one]
    rw [ecut];have np0:H p=none:=S3.free np;have nad:∀ t∈toldL zss,ad t≠p:=fun t ht e=>by have:=o8.row t ht;rw [e,np] at this;cases this
    have nadr:∀ t∈toldL zss,ad t≠r:=fun t ht e=>by have:=o8.new t ht;rw [e,C6] at this;cases this
    have ndp:d≠p:=fun e=>by rw [<- e,V0] at np;cases np
    have nadd:∀ t∈toldL zss,ad t≠d:=fun t ht e=>by have:=o8.row t ht;rw [e,V0] at this;cases this
    refine ⟨p,rfl,⟨_,C9 bE np⟩,⟨_,A6⟩,forZ (xs:=zs.map V.str) (ys:=zs.tail.map V.str) (fun j Y H4=>∃ (w x:Option V),Y=[some (.ref a),some (.ref d),u,some (.ref r),w,x]/\Same H H4/\H4 p=some (.lst (zs.tail.map V.str))/\H4 d=some (.dK (A9 (toldL zss) fun t=>.ref (ad t)))/\DL H H4 (toldL zss) ad (C3 (edges (zss.take i)++(V7 zs).take j)))
     ⟨w,y,rfl,S3.put np0,A6,C9 V0 np,?_⟩ (by rintro j Y H4 ⟨_,_,_,S,hp,_⟩;exact ⟨S _ _ C6,hp⟩) ?_ ?_⟩
    .rw [d0,M3];exact o8.same (Same.new np)
    .rintro j xv yv t Y H4 hxv hyv ⟨w,v,rfl,S4,kG,Q6,fX⟩ nt;obtain ⟨x,hx,rfl⟩:=J0 hxv;obtain ⟨y,hy,rfl⟩:=J0 hyv;have o9:=M4 x (M0 hx);have nt0:H t=none:=S4.free nt;have kH:=fX.row x o9;have hE:(V7 zs)[j]?=some (x,y):=ah7 hx hy;walk_at "rd";refine ⟨_,.of A6,rfl,_,_,rfl,_,_,rfl,rfl,V.ref (ad x),.inl ⟨_,Sum.inr x,.inl (C9 Q6 nt),rfl,by rw [L4,if_pos o9]⟩,X1 (C9 kH nt),appOk (C9 kH nt) ?_ ⟨(S4.put nt0).put (fX.new x o9),?_,?_,?_⟩⟩
     .rw [B3];refine K9 ?_;have h1:(C3 (edges (zss.take i)++(V7 zs).take j) x).length<=(edges (zss.take i)++(V7 zs).take j).length:=by
       unfold C3;rw [B3];exact gM _ _
      have h2:=pT (zss.take i);have h3:(zss.take i).flatten.length<=zss.flatten.length:=by
       conv=>rhs;rw [<- W8 i zss]
       rw [List.flatten_append,G0];lia
      have h4:zs.length<=zss.flatten.length:=List.Sublist.length_le (List.sublist_flatten_of_mem (M0 x4));rw [G0,M6,pS] at h1;lia
     .rw [A7 (nad x o9).symm];exact C9 kG nt
     .rw [A7 (nadd x o9).symm];exact C9 Q6 nt
     .have h1:=(fX.same (Same.new (u:=.tup [V.str x,V.str y]) nt)).app o9 (C3 (edges (zss.take i)++(V7 zs).take j) x++[y]);rw [G2] at h1;refine h1.congr fun t _=>?_
      rw [K5 hE,<- j8,ajO]
      by_cases e:t=x
      .rw [if_pos e,if_pos e.symm,e]
      .rw [if_neg e,if_neg (fun z=>e z.symm)]
    .rintro Y H4 ⟨w,x,rfl,S4,kG,Q6,fX⟩;walk_at "rd";refine ⟨S4,Q6,?_⟩;rw [ag6 x4];rw [j7 (l:=V7 zs) (by rw [pS,B3,B3];exact C4 _)] at fX;exact fX
   .rintro Y H3 ⟨v,w,y,rfl,S3,V0,o8⟩;rw [B3,show rs.length=zss.length from Paired.length hR.row,J1] at o8;walk_at "rd";exact q d ad H3 nd S3 V0 o8
theorem sc_count_ahead:FnScope ["after", "ahead", "piece", "other"] ["after"] (C7 m8):=J4
abbrev mV:List Str:=["after", "ahead", "piece", "other"]
theorem rF:VS mV m8 "after" 0:=vq
theorem rG:VS mV m8 "ahead" 1:=vq
theorem vaB:VS mV m8 "piece" 2:=vq
theorem vaC:VS mV m8 "other" 3:=vq
theorem vaD:LS m8 "ahead":=lq
theorem vaE:LS m8 "piece":=lq
theorem vaF:LS m8 "other":=lq
theorem adY(F:FunD K "count_ahead" "count_ahead" m8 f fd)(T:Txt P w K mg C C_Clash C_NoLetter C_Round):FnOk P w K mg base F9 1 f fd ["after"] pV:=by
 refine F.ok sc_count_ahead ?_ ?_
 .rintro _ _ _ _ ⟨d,ts,ad,E,rfl,_⟩;rfl
 .intro cdv A outer s H vs Q E hr h;have C8:=hu_of hr;have hu:=hr.units;refine ⟨_,QSs.out (B5 (D9 (n:=1) sc_count_ahead.nd rfl vaD cF)
   (B5 (pO PassesOwn.never (vi rF) (E8 (n:=2) sc_count_ahead.nd rfl vaE (.inl rfl)) (C1 (m3 C8 (vi rG) (vi vaB) A8)))
   (B5 (pO PassesOwn.never (vi rF) (E8 (n:=2) sc_count_ahead.nd rfl vaE (.inl rfl)) (C1 (N8 PassesOwn.never (P9 (K:=K) (V5 C8 (vi rF) (vi vaB))) (E8 (n:=3) sc_count_ahead.nd rfl vaF (.inl rfl)) (C1 (pL C8 (vi rG) (vi vaC) A8 anR)))))
   (C1 (D6 (vi rG)))))),?_⟩
  obtain ⟨d,ts,ad,E,rfl,hd,tnd,B1,hElen,C6,hE,q⟩:=h;walk_at "rd";intro c nc;have ndc:d≠c:=fun e=>by rw [e,nc] at hd;cases hd
  refine ⟨_,C9 hd nc,fun o=>forD (fun i Y H2=>∃ (u v:Option V),Y=[some (.ref d),some (.ref c),u,v]/\H2 d=some (.frz o (.dK (A9 ts fun t=>.ref (ad t))))/\SameBut d H H2/\H2 c=some (.dK (A9 (ts.take i) fun _=>.int 0)))
   ⟨none,none,rfl,A6,(SameBut.put (xQ _ _) nc).at,by rw [A7 ndc.symm,A6];rfl⟩ (by rintro i Y H2 ⟨_,_,_,h,_⟩;exact h) ?_ ?_⟩
  .rintro i k v Y H2 hk ⟨u,w,rfl,hf,S,hc⟩;obtain ⟨t,ht,rfl,rfl⟩:=xP hk;have hi:i<ts.length:=(F6.mp ht).1;walk_at "rd";refine ⟨_,l8 (k:=Sum.inr t) hc (by rw [V8,M6];exact K9 (by lia)),?_,S.put nc,?_⟩
   .rw [A7 ndc];exact hf
   .rw [A6,aI _ (pU tnd ht),K5 ht];exact congrArg (fun x=>some (HO.dK x)) (O6 fun t _=>by split <;> rfl)
  .rintro Y H2 ⟨u,w,rfl,hf,S,hc⟩;rw [V8,J1] at hc;have S2:Same H (A0 H2 d (.dK (A9 ts fun t=>.ref (ad t)))):=S.thaw hd;have T9:A0 H2 d (.dK (A9 ts fun t=>.ref (ad t))) d=some (.dK (A9 ts fun t=>.ref (ad t))):=A6;have v7:A0 H2 d (.dK (A9 ts fun t=>.ref (ad t))) c=some (.dK (A9 ts fun _=>.int 0)):=by rw [A7 ndc.symm];exact hc
   generalize A0 H2 d (.dK (A9 ts fun t=>.ref (ad t)))=H3 at S2 T9 v7;walk_at "rd";refine ⟨_,T9,fun o=>forD (fun i Y H4=>∃ (u v:Option V),Y=[some (.ref d),some (.ref c),u,v]/\H4 d=some (.frz o (.dK (A9 ts fun t=>.ref (ad t))))/\SameBut d H H4/\H4 c=some (.dK (A9 ts fun t=>.int (cntIn E (ts.take i) t:Nat))))
    ⟨u,w,rfl,A6,fun b o hb h=>by rw [A7 hb];exact S2 b o h,?_⟩ (by rintro i Y H2 ⟨_,_,_,h,_⟩;exact h) ?_ ?_⟩
   .rw [A7 ndc.symm,v7];exact congrArg (fun x=>some (HO.dK x)) (O6 fun t _=>by rw [d0,ah6];rfl)
   .rintro i k v Y H4 hk ⟨u,w,rfl,hf,S4,N6⟩;obtain ⟨t,ht,rfl,rfl⟩:=xP hk;have kI:t∈ts:=M0 ht;have fY:H4 (ad t)=some (.lst ((C3 E t).map V.str)):=S4 _ _ (fun e=>by have:=C6 t kI;rw [e,hd] at this;cases this) (C6 t kI);walk_at "rd";refine ⟨V.ref (ad t),.inl ⟨_,Sum.inr t,.inr ⟨o,hf⟩,rfl,by rw [L4,if_pos kI]⟩,ad t,rfl,⟨_,.of fY⟩,forL (xs:=(C3 E t).map V.str) (fun j Y H5=>∃ (v:Option V),Y=[some (.ref d),some (.ref c),some (kV (Sum.inr t)),v]/\H5 d=some (.frz o (.dK (A9 ts fun t=>.ref (ad t))))/\SameBut d H H5/\
     H5 c=some (.dK (A9 ts fun q=>.int (cntIn E (ts.take i) q+((C3 E t).take j).count q:Nat)))) ⟨w,rfl,hf,S4,by rw [N6];rfl⟩ (fun j Y H5 _ ⟨_,_,_,S5,_⟩=>.of (S5 _ _ (fun e=>by have:=C6 t kI;rw [e,hd] at this;cases this) (C6 t kI))) ?_ ?_⟩
    .rintro j v5 Y H5 kJ ⟨v,rfl,tT,S5,W6⟩;obtain ⟨y,nQ,rfl⟩:=J0 kJ;have Z7:y∈ts:=by
      have:=M0 nQ
      unfold C3 at this;obtain ⟨e,he,rfl⟩:=E7.mp this;exact (hE e (N2.mp he).1).2
     walk_at "rd";refine ⟨V.int (cntIn E (ts.take i) y+((C3 E t).take j).count y:Nat),.inl ⟨_,Sum.inr y,.inl W6,rfl,by rw [L4,if_pos Z7]⟩,_,_,rfl,rfl,_,l8 (k:=Sum.inr y) W6 (by rw [V8];exact K9 (by lia)),?_,S5.put nc,?_⟩
     .rw [A7 ndc];exact tT
     .rw [A6,iL _ Z7];refine congrArg (fun x=>some (HO.dK x)) (O6 fun q _=>?_);rw [K5 nQ,dU,lB]
      by_cases e:q=y
      .rw [if_pos e,e,if_pos (by simp)];exact congrArg V.int (by lia)
      .rw [if_neg e,if_neg (by simpa using fun z:y=q=>e z.symm)];rfl
    .rintro Y H5 ⟨v,rfl,tT,S5,W6⟩;walk_at "rd";refine ⟨tT,S5,?_⟩;rw [B3,J1] at W6;rw [W6];refine congrArg (fun x=>some (HO.dK x)) (O6 fun q _=>?_);rw [K5 ht,ag4 (pU tnd ht)]
   .rintro Y H4 ⟨u,w,rfl,hf,S4,N6⟩;rw [V8,J1] at N6;walk_at "rd";refine q c _ nc (S4.thaw hd) ?_;rw [A7 ndc.symm,N6];exact congrArg (fun x=>some (HO.dK x)) (O6 fun t _=>by rw [xL (fun e he=>(hE e he).1)])
theorem sc_way_back:FnScope ["came", "start", "last", "pieces"] ["came", "start", "last"] (C7 aS):=J4
abbrev mW:List Str:=["came", "start", "last", "pieces"]
theorem vaG:VS mW aS "came" 0:=vq
theorem vaH:VS mW aS "start" 1:=vq
theorem vaI:VS mW aS "last" 2:=vq
theorem iW:VS mW aS "pieces" 3:=vq
theorem vaK:LS aS "pieces":=lq
theorem af5(F:FunD K "way_back" "way_back" aS f fd)(T:Txt P w K mg C C_Clash C_NoLetter C_Round):FnOk P w K mg base F9 1 f fd ["came", "start", "last"] spWB:=by
 refine F.ok sc_way_back ?_ ?_
 .rintro _ _ _ _ ⟨c,z,x,cs,f,n,rfl,_⟩;rfl
 .intro cdv A outer s H vs Q E hr h;have C8:=hu_of hr;have hu:=hr.units;refine ⟨_,QSs.out (B5 (D9 (n:=3) sc_way_back.nd rfl vaK (M9 (qa_c (vi vaI) A5)))
   (B5 (lV PassesOwn.never (E4 (q_ne (K:=K) hu) (qe_ix (K:=K) (vi iW) (qe_un q_neg A8)) (vi vaH)) (C1 (T4 (qe_mB (K:=K) Y6 z8 z0 aH (vi iW) (qa_c (V5 C8 (vi vaG) (qe_ix (K:=K) (vi iW) (qe_un q_neg A8))) A5)))))
   (B5 (T4 (qe_m0 (K:=K) Y6 PySem.F.slot_list_reverse PySem.F.type_list_reverse ahY (vi iW)))
   (C1 (D6 (vi iW)))))),?_⟩
  obtain ⟨c,z,x,cs,f,n,rfl,hc,B,hn,q⟩:=h;walk_at "rd";refine ⟨by decide,fun p np=>?_⟩;have L5:∀ k,J3 (((V2 (k+1)).map (iter f x)).map V.str) (-1)=some (V.str (iter f x k)):=fun k=>by
   rw [List.range_succ,G2,G2];exact ajb _ _
  refine lW (fun m Y H2=>∃ k:Nat,k<=n/\Y=[some (.ref c),some (.str z),some (.str x),some (.ref p)]/\Same H H2/\H2 p=some (.lst (((V2 (k+1)).map (iter f x)).map V.str))/\m=n-k) n
   ⟨0,G8 _,rfl,Same.new np,A6,rfl⟩ ?_
  rintro m Y H2 ⟨k,hk,rfl,S,hp,rfl⟩;walk_at "rd";refine ⟨_,.inl (.of hp),_,L5 k,?_⟩
  try walk_at "rd"
  by_cases e:iter f x k=z
  .have fZ:k=n:=Classical.byContradiction fun h=>(B.mid k (by lia)).2 e
   subst fZ;rw [show (!decide (iter f x k=z))=false by simp [e]];refine iteF ?_
   try walk_at "rd"
   refine ⟨X1 hp,p,_,rfl,rfl,hp,q p _ np (S.put np) ?_⟩;rw [A6];unfold backL;rw [List.map_reverse]
  .rw [show (!decide (iter f x k=z))=true by simp [e]];have fZ:k<n:=Classical.byContradiction fun h=>e (by rw [show k=n by lia];exact B.fin)
   refine iteT ⟨fun σ' H'=>σ'=[some (.ref c),some (.str z),some (.str x),some (.ref p)]/\Same H H'/\H' p=some (.lst (((V2 (k+1+1)).map (iter f x)).map V.str)),?_,?_⟩
   .rintro σ' H' ⟨rfl,h1,h2⟩;exact ⟨n-(k+1),by lia,k+1,by lia,rfl,h1,h2,rfl⟩
   try walk_at "rd"
   refine ⟨X1 hp,_,.inl (.of hp),_,L5 k,V.str (f (iter f x k)),.inl ⟨_,Sum.inr (iter f x k),.inl (S _ _ hc),rfl,by rw [L4,if_pos (B.mid k fZ).1]⟩,appOk hp (by rw [B3,B3,List.length_range];exact K9 (by lia)) ⟨S.put np,?_⟩⟩;rw [A6,List.range_succ (n:=k+1),G2,G2];rfl
theorem sc_round_from:FnScope ["after", "start", "most", "came", "newest", "length", "further", "piece", "other"] ["after", "start", "most"] (C7 R0):=J4
abbrev v1:List Str:=["after", "start", "most", "came", "newest", "length", "further", "piece", "other"]
theorem vaL:VS v1 R0 "after" 0:=vq
theorem rH:VS v1 R0 "start" 1:=vq
theorem vaN:VS v1 R0 "most" 2:=vq
theorem rJ:VS v1 R0 "came" 3:=vq
theorem vaP:VS v1 R0 "newest" 4:=vq
theorem vaQ:VS v1 R0 "length" 5:=vq
theorem vaR:VS v1 R0 "further" 6:=vq
theorem rK:VS v1 R0 "piece" 7:=vq
theorem iX:VS v1 R0 "other" 8:=vq
theorem vaU:LS R0 "came":=lq
theorem vaV:LS R0 "newest":=lq
theorem vaW:LS R0 "length":=lq
theorem vaX:LS R0 "further":=lq
theorem vaY:LS R0 "piece":=lq
theorem vaZ:LS R0 "other":=lq
theorem aeL(F:FunD K "round_from" "round_from" R0 f fd)(T:Txt P w K mg C C_Clash C_NoLetter C_Round)(G_way_back:FO P w K mg base 1 "way_back" ["came", "start", "last"] [] spWB):FnOk P w K mg base F9 2 f fd ["after", "start", "most"] spRFG:=by
 refine F.ok sc_round_from ?_ ?_
 .rintro _ _ _ _ ⟨d,z,m,R,ad,E,rfl,_⟩;rfl
 .intro cdv A outer s H vs Q E hr h;have C8:=hu_of hr;have hu:=hr.units;refine ⟨_,QSs.out (B5 (D9 (n:=3) sc_round_from.nd rfl vaU cF)
   (B5 (D9 (n:=4) sc_round_from.nd rfl vaV (M9 (qa_c (vi rH) A5)))
   (B5 (D9 (n:=5) sc_round_from.nd rfl vaW A8)
   (B5 (lV PassesOwn.never (QW.pt (cH (aF (K:=K) (vi vaP)) (cG (E4 q_lt (vi vaQ) (vi vaN))))) (B5 (D9 (n:=6) sc_round_from.nd rfl vaX (M9 A5))
   (B5 (N8 PassesOwn.never (P9 (K:=K) (vi vaP)) (E8 (n:=7) sc_round_from.nd rfl vaY (.inl rfl)) (C1 (N8 PassesOwn.never (P9 (K:=K) (V5 C8 (vi vaL) (vi rK))) (E8 (n:=8) sc_round_from.nd rfl vaZ (.inl rfl)) (B5 (qs_if (E4 (q_eq (K:=K) hu) (vi iX) (vi rH)) (C1 (D6 (E2 G_way_back (hm hr) (qa_c (vi rJ) (qa_c (vi rH) (qa_c (vi rK) A5)))))) G5)
   (C1 (qs_if (QW.pt (cH (E4 (q_in (K:=K) hu) (vi iX) (vi vaL)) (cG (E4 (pM (K:=K) hu) (vi iX) (vi rJ))))) (B5 (m3 C8 (vi rJ) (vi iX) (vi rK))
   (C1 (T4 (qe_mB (K:=K) Y6 z8 z0 aH (vi vaR) (qa_c (vi iX) A5))))) G5))))))
   (B5 (D9 (n:=4) sc_round_from.nd rfl vaV (vi vaR))
   (C1 (anO (n:=5) sc_round_from.nd rfl vaW A8 anQ))))))
   (C1 (D6 (M9 A5))))))),?_⟩
  obtain ⟨d,z,m,R,ad,E,rfl,hd,hz,hRl,C6,hm,q⟩:=h;walk_at "rd";intro c nc;refine ⟨by decide,fun nw nnw=>?_⟩;have ncw:c≠nw:=fun e=>by rw [<- e,A6] at nnw;cases nnw
  have ncH:H c=none:=nc;refine lW (fun k Y H2=>∃ (n:Nat) (nw:Addr) (u v w:Option V) (cs ws:List Str) (f:Str->Str) (dep:Str->Nat),Y=[some (.ref d),some (.str z),some (.int m),some (.ref c),some (.ref nw),some (.int (n:Nat)),u,v,w]/\Same H H2/\H2 c=some (.dK (A9 cs fun t=>.str (f t)))/\H2 nw=some (.lst (ws.map V.str))/\BF E R z n ws cs f dep/\k=(m-n).toNat) m.toNat
   ⟨0,nw,none,none,none,[],[z],fun _=>z,fun _=>0,rfl,(Same.new nc).trans (Same.new nnw),by rw [A7 ncw,A6];rfl,A6,uag _ _ _ _,by simp⟩ ?_
  rintro k Y H2 ⟨n,nw,u,v,w,cs,ws,f,dep,rfl,S,hc,hw,bf,rfl⟩;walk_at "rd";refine ⟨_,iI hw,?_⟩
  by_cases P6:ws=[]
  .rw [P6];rw [P6] at bf;exact iteF fun l nl=>q l [] _ (S.free nl) (S.trans (Same.new nl)) A6 (.inr ⟨rfl,fun C r hR hC=>(bf.none r hR hC).elim⟩)
  rw [show (!(ws.map V.str).isEmpty)=true by cases ws with | nil=>exact absurd rfl P6 | cons=>rfl];refine iteT (iteD (fun D1=>?_) fun kC=>fun l nl=>q l [] _ (S.free nl) (S.trans (Same.new nl)) A6 (.inr ⟨rfl,fun C r hR hC=>by have:=bf.least r hR hC;lia⟩));refine ⟨fun σ' H'=>∃ (nw:Addr) (u v w:Option V) (cs ws:List Str) (f:Str->Str) (dep:Str->Nat),σ'=[some (.ref d),some (.str z),some (.int m),some (.ref c),some (.ref nw),some (.int ((n:Int)+1)),u,v,w]/\Same H H'/\H' c=some (.dK (A9 cs fun t=>.str (f t)))/\H' nw=some (.lst (ws.map V.str))/\BF E R z (n+1) ws cs f dep,?_,?_⟩
  .rintro σ' H' ⟨nw,u,v,w,cs,ws,f,dep,rfl,h1,h2,h3,h4⟩;exact ⟨(m-((n+1:Nat):Int)).toNat,by lia,n+1,nw,⟨_,_,_,rfl⟩,h1,cs,ws,f,h2,h3,⟨dep,h4⟩,rfl⟩
  intro fr nfr;have nfH:H fr=none:=S.free nfr;have hfw:fr≠nw:=fun e=>by rw [e,hw] at nfr;cases nfr
  have bC:fr≠c:=fun e=>by rw [e,hc] at nfr;cases nfr
  have hwR:∀ x∈ws,x∈R:=fun x hx=>by
   rcases (bf.wsd x hx).1 with h | h
   .rw [h];exact hz
   .exact (bf.csR x h).1
  refine ⟨⟨_,.of (C9 hw nfr)⟩,forL (xs:=ws.map V.str) (fun i Y H4=>∃ (v w:Option V) (cs' fs:List Str) (f:Str->Str) (dep:Str->Nat),Y=[some (.ref d),some (.str z),some (.int m),some (.ref c),some (.ref nw),some (.int (n:Nat)),some (.ref fr),v,w]/\Same H H4/\H4 c=some (.dK (A9 cs' fun t=>.str (f t)))/\H4 nw=some (.lst (ws.map V.str))/\H4 fr=some (.lst (fs.map V.str))/\BL E R z n ws cs (fun x y=>x∈ws.take i/\y∈C3 E x) cs' fs f dep)
   ⟨v,w,cs,[],f,dep,rfl,S.trans (Same.new nfr),C9 hc nfr,C9 hw nfr,A6,bf.go⟩ (by rintro i Y H4 _ ⟨_,_,_,_,_,_,_,_,_,h,_⟩;exact .of h) ?_ ?_⟩
  .rintro i x0 Y H4 hx ⟨v,w,tU,fs,f4,dep4,rfl,S4,h4c,h4w,h4f,bl⟩;obtain ⟨p,hp,rfl⟩:=J0 hx;have tV:p∈ws:=M0 hp;have hpR:=hwR p tV;have tk:ws.take (i+1)=ws.take i++[p]:=K5 hp;walk_at "rd";refine ⟨V.ref (ad p),.inl ⟨_,Sum.inr p,.inl (S4 _ _ hd),rfl,by rw [L4,if_pos hpR]⟩,ad p,rfl,⟨_,.of (S4 _ _ (C6 p hpR))⟩,forL (xs:=(C3 E p).map V.str) (fun j Y H5=>∃ (w:Option V) (cs' fs:List Str) (f:Str->Str) (dep:Str->Nat),Y=[some (.ref d),some (.str z),some (.int m),some (.ref c),some (.ref nw),some (.int (n:Nat)),some (.ref fr),some (.str p),w]/\Same H H5/\H5 c=some (.dK (A9 cs' fun t=>.str (f t)))/\H5 nw=some (.lst (ws.map V.str))/\H5 fr=some (.lst (fs.map V.str))/\BL E R z n ws cs (fun x y=>(x∈ws.take i/\y∈C3 E x)\/(x=p/\y∈(C3 E p).take j)) cs' fs f dep)
    ⟨w,tU,fs,f4,dep4,rfl,S4,h4c,h4w,h4f,bl.weak fun x y h=>(by
     rcases h with h | ⟨_,h⟩
     .exact h
     .simp at h)⟩ (by rintro j Y H5 _ ⟨_,_,_,_,_,_,S5,_⟩;exact .of (S5 _ _ (C6 p hpR))) ?_ ?_⟩
   .rintro j x1 Y H5 X6 ⟨w,x5,gA,f5,dep5,rfl,S5,h5c,h5w,h5f,p6⟩;obtain ⟨y,hy,rfl⟩:=J0 X6;have tW:(p,y)∈E:=mem_fol.mp (M0 hy);have U0:x5.length<=R.length:=m4 p6.cnd fun x hx=>(p6.csR x hx).1
    have hfl5:=p6.len;have tX:c≠nw:=fun e=>by rw [e,h5w] at h5c;cases h5c
    have pdn:∀ x y',((x∈ws.take i/\y'∈C3 E x)\/(x=p/\y'∈(C3 E p).take (j+1)))->((x∈ws.take i/\y'∈C3 E x)\/(x=p/\y'∈(C3 E p).take j))\/y'=y:=fun x y' h=>by
     rcases h with h | ⟨h1,h2⟩
     .exact .inl (.inl h)
     .rw [K5 hy] at h2
      rcases G1.mp h2 with h2 | h2
      .exact .inl (.inr ⟨h1,h2⟩)
      .exact .inr (F7.mp h2)
    walk_at "rd";refine iteD (fun kK=>?_) fun kK=>?_
    .rw [kK] at tW;obtain ⟨bk,b1,b2,b3,b4⟩:=p6.back hz tV tW;have hnl:n<=1000:=by lia
     exact ⟨c,z,p,x5,f5,n,rfl,h5c,bk,hnl,fun l H6 nl S6 hl=>q l _ H6 (S5.free nl) (S5.trans S6) hl (.inl ⟨⟨b1,b2,b3,fun C r hR hC=>by rw [b4];exact bf.least r hR hC⟩,by rw [b4];lia⟩)⟩
    refine rInR.d (aE (k:=Sum.inr y) (S5 _ _ hd)) ⟨_,rfl,?_⟩;rw [L4,bU]
    by_cases hyR:y∈R
    .rw [if_pos hyR,gS];refine iteT (rInR.d (aE (k:=Sum.inr y) h5c) ⟨_,rfl,?_⟩);rw [L4,Bool.true_xor]
     by_cases kL:y∈x5
     .rw [if_pos kL,gS];exact iteF ⟨S5,x5,gA,f5,h5c,h5w,h5f,dep5,p6.skip kK (fun _=>kL) pdn⟩
     .rw [if_neg kL,Option.isSome_none];refine iteT ⟨_,l8 (k:=Sum.inr y) h5c (by rw [V8];exact K9 (by lia)),?_⟩;have h6f:A0 H5 c (.dK (putK (A9 x5 fun t=>V.str (f5 t)) (Sum.inr y) (V.str p))) fr=some (.lst (gA.map V.str)):=by rw [A7 bC];exact h5f
      refine ⟨X1 h6f,appOk h6f (by rw [B3];exact K9 (by lia)) ⟨(S5.put ncH).put nfH,x5++[y],gA++[y],fun t=>if t=y then p else f5 t,?_,?_,?_,_,p6.put tV tW kK hyR kL pdn⟩⟩
      .rw [A7 bC.symm,A6,aI _ kL];refine congrArg (fun x=>some (HO.dK x)) (O6 fun t _=>?_);show _=V.str (if t=y then p else f5 t)
       by_cases e:t=y
       .rw [if_pos e,if_pos e]
       .rw [if_neg e,if_neg e]
      .rw [A7 hfw.symm,A7 tX.symm];exact h5w
      .rw [A6,G2];rfl
    .rw [if_neg hyR,Option.isSome_none];exact iteF ⟨S5,x5,gA,f5,h5c,h5w,h5f,dep5,p6.skip kK (fun h=>absurd h hyR) pdn⟩
   .rintro Y H5 ⟨w,x5,gA,f5,dep5,rfl,S5,h5c,h5w,h5f,p6⟩;rw [B3,J1] at p6;exact ⟨⟨_,_,rfl⟩,S5,x5,gA,f5,h5c,h5w,h5f,dep5,p6.weak fun x y h=>(by
     rw [tk] at h
     rcases G1.mp h.1 with h1 | h1
     .exact .inl ⟨h1,h.2⟩
     .have e:=F7.mp h1;exact .inr ⟨e,by rw [<- e];exact h.2⟩)⟩
  .rintro Y H4 ⟨v,w,tU,fs,f4,dep4,rfl,S4,h4c,h4w,h4f,bl⟩;rw [B3] at bl;walk_at "rd";exact ⟨S4,tU,fs,f4,h4c,h4f,dep4,BL.done bf bl⟩
theorem sc_take_out:FnScope ["after", "ahead", "piece", "leaving", "behind", "other"] ["after", "ahead", "piece"] (C7 Z1):=J4
abbrev fE:List Str:=["after", "ahead", "piece", "leaving", "behind", "other"]
theorem va0:VS fE Z1 "after" 0:=vq
theorem va1:VS fE Z1 "ahead" 1:=vq
theorem va2:VS fE Z1 "piece" 2:=vq
theorem rL:VS fE Z1 "leaving" 3:=vq
theorem va4:VS fE Z1 "behind" 4:=vq
theorem mX:VS fE Z1 "other" 5:=vq
theorem va6:LS Z1 "leaving":=lq
theorem va7:LS Z1 "behind":=lq
theorem va8:LS Z1 "other":=lq
theorem af6(F:FunD K "take_out" "take_out" Z1 f fd)(T:Txt P w K mg C C_Clash C_NoLetter C_Round):FnOk P w K mg base F9 1 f fd ["after", "ahead", "piece"] zM:=by
 refine F.ok sc_take_out ?_ ?_
 .rintro _ _ _ _ ⟨d,c,z,R,ts,ad,E,rfl,_⟩;rfl
 .intro cdv A outer s H vs Q E hr h;have C8:=hu_of hr;have hu:=hr.units;refine ⟨_,QSs.out (B5 (D9 (n:=3) sc_take_out.nd rfl va6 (M9 (qa_c (vi va2) A5)))
   (C1 (lV PassesOwn.never (aF (K:=K) (vi rL)) (B5 (D9 (n:=4) sc_take_out.nd rfl va7 (ajW (vi va0) (qe_m0 (K:=K) Y6 PySem.F.slot_list_pop PySem.F.type_list_pop q_pop (vi rL))))
   (C1 (N8 PassesOwn.never (P9 (K:=K) (vi va4)) (E8 (n:=5) sc_take_out.nd rfl va8 (.inl rfl)) (B5 (pL C8 (vi va1) (vi mX) A8 wV)
   (C1 (qs_if (QW.pt (cH (E4 (q_eq (K:=K) hu) (V5 C8 (vi va1) (vi mX)) A8) (cG (E4 (q_in (K:=K) hu) (vi mX) (vi va0))))) (C1 (T4 (qe_mB (K:=K) Y6 z8 z0 aH (vi rL) (qa_c (vi mX) A5)))) G5))))))))),?_⟩
  obtain ⟨d,c,z,R,ts,ad,E,rfl,hd,hc,hdc,hRn,hRt,dE,hRl,hE,C6,hz,q⟩:=h;walk_at "rd";refine ⟨by decide,fun lv nlv=>?_⟩;have nR:d≠lv:=fun e=>by rw [e,nlv] at hd;cases hd
  have U0:c≠lv:=fun e=>by rw [e,nlv] at hc;cases hc
  have gB:∀ t∈ts,ad t≠d/\ad t≠c/\ad t≠lv:=fun t ht=>by
   have:=C6 t ht
   exact ⟨(fun e=>(by rw [e,hd] at this;cases this)),(fun e=>(by rw [e,hc] at this;cases this)),fun e=>(by rw [e,nlv] at this;cases this)⟩
  have put2:∀ {H':Hp} {o:HO},Same2 d c H H'->Same2 d c H (A0 H' lv o):=fun s b o h1 h2 h=>by rw [A7 (fun e=>by rw [e,nlv] at h;cases h)];exact s b o h1 h2 h
  have putd:∀ {H':Hp} {o:HO},Same2 d c H H'->Same2 d c H (A0 H' d o):=fun s b o h1 h2 h=>by rw [A7 h1];exact s b o h1 h2 h
  have putc:∀ {H':Hp} {o:HO},Same2 d c H H'->Same2 d c H (A0 H' c o):=fun s b o h1 h2 h=>by rw [A7 h2];exact s b o h1 h2 h
  refine lW (fun m Y H2=>∃ (u v:Option V) (R' ls:List Str),Y=[some (.ref d),some (.ref c),some (.str z),some (.ref lv),u,v]/\Same2 d c H H2/\H2 d=some (.dK (A9 R' fun t=>.ref (ad t)))/\H2 c=some (.dK (A9 ts fun t=>.int (cntIn E R' t:Nat)))/\H2 lv=some (.lst (ls.map V.str))/\R'.Nodup/\(∀ t∈R',t∈R)/\R'.length<=R.length/\ls.Nodup/\(∀ x∈ls,x∈R')/\(∀ x∈ls.dropLast,cntIn E R' x=0)/\TK E R z R' ls/\m=R'.length) R.length
   ⟨none,none,R,[z],rfl,put2 (fun b o _ _ h=>h),by rw [A7 nR];exact hd,by rw [A7 U0];exact hc,A6,hRn,fun t h=>h,C4 _,by simp,fun x hx=>(by rw [F7.mp hx];exact hz),by simp,⟨fun x hx=>.inl (F7.mp hx),.inl rfl,fun C _ h _=>h⟩,rfl⟩ ?_
  rintro m Y H2 ⟨u,v,R',ls,rfl,S,h2d,h2c,h2l,hR'n,hR's,hR'l,hln,hls,fP,tk,rfl⟩;walk_at "rd";refine ⟨_,iI h2l,?_⟩
  rcases List.eq_nil_or_concat ls with P6 | ⟨l0,x,kH⟩
  .rw [P6] at tk ⊢
   exact iteF (q R' H2 hR's hR'n hR'l (tk.b.resolve_left (by simp)) tk.c S h2d h2c)
  rw [List.concat_eq_append] at kH;subst kH;rw [show (!((l0++[x]).map V.str).isEmpty)=true by simp];have hxR:x∈R':=hls x (by simp);have o9:x∈ts:=hRt x (hR's x hxR);have tY:∀ y∈l0,cntIn E R' y=0:=fun y hy=>fP y (by rw [List.dropLast_concat];exact hy)
  refine iteT ⟨fun σ' H'=>∃ (u v:Option V) (R2 ls:List Str),σ'=[some (.ref d),some (.ref c),some (.str z),some (.ref lv),u,v]/\Same2 d c H H'/\H' d=some (.dK (A9 R2 fun t=>.ref (ad t)))/\H' c=some (.dK (A9 ts fun t=>.int (cntIn E R2 t:Nat)))/\H' lv=some (.lst (ls.map V.str))/\R2.Nodup/\(∀ t∈R2,t∈R)/\R2.length<R'.length/\ls.Nodup/\(∀ x∈ls,x∈R2)/\(∀ x∈ls.dropLast,cntIn E R2 x=0)/\TK E R z R2 ls,?_,?_⟩
  .rintro σ' H' ⟨u,v,R2,ls,rfl,h1,h2,h3,h4,h5,h6,h7,h8,h9,h10,h11⟩;exact ⟨R2.length,h7,⟨_,_,rfl⟩,h1,R2,h2,h3,ls,h4,h5,h6,by lia,h8,h9,h10,h11,rfl⟩
  obtain ⟨ha1,ha2,ha3⟩:=gB x o9;have kM:l0.Nodup/\x∉l0:=by
   obtain ⟨n1,n2,n3⟩:=b9.mp hln;exact ⟨n1,fun h=>n3 x h x (by simp) rfl⟩
  refine ⟨.inl ⟨_,.inl h2d⟩,X1 h2l,lv,_,V.str x,rfl,rfl,h2l,by simp,?_⟩;rw [show ((l0++[x]).map V.str).dropLast=l0.map V.str by rw [G2];exact List.dropLast_concat];have h3d:A0 H2 lv (.lst (l0.map V.str)) d=some (.dK (A9 R' fun t=>.ref (ad t))):=by rw [A7 nR];exact h2d
  refine ⟨_,h3d,Sum.inr x,rfl,V.ref (ad x),by rw [L4,if_pos hxR],ad x,rfl,?_⟩;rw [akg _ _ hR'n];have S4:Same2 d c H (A0 (A0 H2 lv (.lst (l0.map V.str))) d (.dK (A9 (R'.erase x) fun t=>.ref (ad t)))):=putd (put2 S);have h4d:A0 (A0 H2 lv (.lst (l0.map V.str))) d (.dK (A9 (R'.erase x) fun t=>.ref (ad t))) d=some (.dK (A9 (R'.erase x) fun t=>.ref (ad t))):=A6;have h4c:A0 (A0 H2 lv (.lst (l0.map V.str))) d (.dK (A9 (R'.erase x) fun t=>.ref (ad t))) c=some (.dK (A9 ts fun t=>.int (cntIn E R' t:Nat))):=by rw [A7 hdc.symm,A7 U0];exact h2c
  have h4l:A0 (A0 H2 lv (.lst (l0.map V.str))) d (.dK (A9 (R'.erase x) fun t=>.ref (ad t))) lv=some (.lst (l0.map V.str)):=by rw [A7 nR.symm,A6]
  generalize A0 (A0 H2 lv (.lst (l0.map V.str))) d (.dK (A9 (R'.erase x) fun t=>.ref (ad t)))=H4 at S4 h4d h4c h4l ⊢
  have nS:∀ q,cntIn E R' q=cntIn E (R'.erase x) q+(C3 E x).count q:=afZ hR'n hxR;refine ⟨⟨_,.of (S4 _ _ ha1 ha2 (C6 x o9))⟩,forL (xs:=(C3 E x).map V.str) (fun j Y H5=>∃ (v:Option V) (ls:List Str),Y=[some (.ref d),some (.ref c),some (.str z),some (.ref lv),some (.ref (ad x)),v]/\Same2 d c H H5/\H5 d=some (.dK (A9 (R'.erase x) fun t=>.ref (ad t)))/\H5 c=some (.dK (A9 ts fun t=>.int ((cntIn E R' t:Nat)-(((C3 E x).take j).count t:Nat))))/\H5 lv=some (.lst (ls.map V.str))/\ls.Nodup/\(∀ y∈ls,y∈R'.erase x)/\(∀ y∈ls,cntIn E R' y=((C3 E x).take j).count y))
   ⟨v,l0,rfl,S4,h4d,?_,h4l,kM.1,fun y hy=>(hR'n.mem_erase_iff).mpr ⟨fun e=>kM.2 (by rw [<- e];exact hy),hls y (by simp [hy])⟩,fun y hy=>by rw [tY y hy];simp⟩ (by rintro j Y H5 _ ⟨_,_,_,S5,_⟩;exact .of (S5 _ _ ha1 ha2 (C6 x o9))) ?_ ?_⟩
  .rw [h4c];exact congrArg (fun x=>some (HO.dK x)) (O6 fun t _=>congrArg V.int (by simp))
  .rintro j v5 Y H5 kJ ⟨v,ls,rfl,S5,h5d,h5c,h5l,v8,gC,gD⟩;obtain ⟨y,hy,rfl⟩:=J0 kJ;have Z7:y∈ts:=by
    have:=M0 hy
    unfold C3 at this;obtain ⟨e,he,rfl⟩:=E7.mp this;exact hE e (N2.mp he).1
   have X8:∀ q,((C3 E x).take (j+1)).count q=((C3 E x).take j).count q+if y=q then 1 else 0:=fun q=>by
    rw [K5 hy,dU,lB]
    by_cases e:y=q
    .rw [if_pos e,if_pos (by simpa using e)]
    .rw [if_neg e,if_neg (by simpa using e)]
   have i8:((C3 E x).take j).count y<cntIn E R' y:=by
    have h1:=nS y;have h2:(C3 E x).count y=((C3 E x).take (j+1)).count y+((C3 E x).drop (j+1)).count y:=by rw [<- dU,W8]
    rw [X8,if_pos rfl] at h2;lia
   have X9:y∉ls:=fun h=>by have:=gD y h;lia
   have tZ:∀ y2∈ls,cntIn E R' y2=((C3 E x).take (j+1)).count y2:=fun y2 h2=>by
    rw [X8,if_neg (fun e=>X9 (by rw [e];exact h2)),Nat.add_zero];exact gD y2 h2
   walk_at "rd";refine ⟨_,.inl ⟨_,Sum.inr y,.inl h5c,rfl,by rw [L4,if_pos Z7]⟩,_,_,rfl,rfl,_,l8 (k:=Sum.inr y) h5c (by rw [V8];exact K9 (by lia)),?_⟩;have h6c:A0 H5 c (.dK (putK (A9 ts fun t=>V.int ((cntIn E R' t:Nat)-(((C3 E x).take j).count t:Nat))) (Sum.inr y) (V.int ((cntIn E R' y:Nat)-(((C3 E x).take j).count y:Nat)-1)))) c=some (.dK (A9 ts (fun t=>V.int ((cntIn E R' t:Nat)-(((C3 E x).take (j+1)).count t:Nat))))):=by
    rw [A6,iL _ Z7];refine congrArg (fun x=>some (HO.dK x)) (O6 fun q _=>?_);rw [X8]
    by_cases e:q=y
    .rw [if_pos e,e,if_pos rfl];exact congrArg V.int (by lia)
    .rw [if_neg e,if_neg (fun z=>e z.symm)];exact congrArg V.int (by lia)
   have S6:Same2 d c H (A0 H5 c (.dK (putK (A9 ts fun t=>V.int ((cntIn E R' t:Nat)-(((C3 E x).take j).count t:Nat))) (Sum.inr y) (V.int ((cntIn E R' y:Nat)-(((C3 E x).take j).count y:Nat)-1))))):=putc S5;have h6d:A0 H5 c (.dK (putK (A9 ts fun t=>V.int ((cntIn E R' t:Nat)-(((C3 E x).take j).count t:Nat))) (Sum.inr y) (V.int ((cntIn E R' y:Nat)-(((C3 E x).take j).count y:Nat)-1)))) d=some (.dK (A9 (R'.erase x) fun t=>.ref (ad t))):=by rw [A7 hdc];exact h5d
   have h6l:A0 H5 c (.dK (putK (A9 ts fun t=>V.int ((cntIn E R' t:Nat)-(((C3 E x).take j).count t:Nat))) (Sum.inr y) (V.int ((cntIn E R' y:Nat)-(((C3 E x).take j).count y:Nat)-1)))) lv=some (.lst (ls.map V.str)):=by rw [A7 U0.symm];exact h5l
   generalize A0 H5 c (.dK (putK (A9 ts fun t=>V.int ((cntIn E R' t:Nat)-(((C3 E x).take j).count t:Nat))) (Sum.inr y) (V.int ((cntIn E R' y:Nat)-(((C3 E x).take j).count y:Nat)-1))))=H6 at h6c S6 h6d h6l ⊢
   refine ⟨V.int ((cntIn E R' y:Nat)-(((C3 E x).take (j+1)).count y:Nat)),.inl ⟨_,Sum.inr y,.inl h6c,rfl,by rw [L4,if_pos Z7]⟩,?_⟩
   try walk_at "rd"
   refine iteD (fun h0=>rInR.d (aE (k:=Sum.inr y) h6d) ⟨_,rfl,?_⟩) fun h0=>⟨S6,h6d,h6c,ls,h6l,v8,gC,tZ⟩
   rw [L4,bU]
   by_cases hm:y∈R'.erase x
   .rw [if_pos hm,gS];have uA:ls.length<=1000:=by
     have h1:=m4 v8 gC;have h2:=dP hxR;lia
    refine iteT ⟨X1 h6l,appOk h6l (by rw [B3];exact K9 (by lia)) ⟨put2 S6,?_,?_,ls++[y],?_,?_,?_,?_⟩⟩
    .rw [A7 nR];exact h6d
    .rw [A7 U0];exact h6c
    .rw [A6,G2];rfl
    .rw [b9];refine ⟨v8,by simp,fun a ha b hb e=>X9 ?_⟩;rw [<- F7.mp hb,<- e];exact ha
    .intro y2 h2
     rcases G1.mp h2 with h | h
     .exact gC y2 h
     .rw [F7.mp h];exact hm
    .intro y2 h2
     rcases G1.mp h2 with h | h
     .exact tZ y2 h
     .rw [F7.mp h];lia
   .rw [if_neg hm,Option.isSome_none];exact iteF ⟨S6,h6d,h6c,ls,h6l,v8,gC,tZ⟩
  .rintro Y H5 ⟨v,ls,rfl,S5,h5d,h5c,h5l,v8,gC,gD⟩;rw [B3,J1] at h5c gD;refine ⟨_,_,R'.erase x,ls,rfl,S5,h5d,?_,h5l,hR'n.erase _,fun t ht=>hR's t (List.mem_of_mem_erase ht),?_,v8,gC,fun y hy=>?_,tk.step hR'n fun y hy=>(by have h1:=gD y hy;have h2:=nS y;lia)⟩
   .rw [h5c];exact congrArg (fun x=>some (HO.dK x)) (O6 fun q _=>congrArg V.int (by have:=nS q;lia))
   .have h1:=dP hxR;have h2:=gK hxR;lia
   .have h1:=gD y ((List.dropLast_sublist ls).subset hy);have h2:=nS y;lia
theorem sc_shortest_round:FnScope ["rows", "after", "ahead", "best", "most", "piece", "found"] ["rows"] (C7 T7):=J4
abbrev cS:List Str:=["rows", "after", "ahead", "best", "most", "piece", "found"]
theorem va9:VS cS T7 "rows" 0:=vq
theorem iY:VS cS T7 "after" 1:=vq
theorem vbb:VS cS T7 "ahead" 2:=vq
theorem vbc:VS cS T7 "best" 3:=vq
theorem vbd:VS cS T7 "most" 4:=vq
theorem rM:VS cS T7 "piece" 5:=vq
theorem rN:VS cS T7 "found" 6:=vq
theorem vbg:LS T7 "after":=lq
theorem vbh:LS T7 "ahead":=lq
theorem vbi:LS T7 "best":=lq
theorem vbj:LS T7 "most":=lq
theorem vbk:LS T7 "piece":=lq
theorem vbl:LS T7 "found":=lq
theorem ac9(F:FunD K "shortest_round" "shortest_round" T7 f fd)(T:Txt P w K mg C C_Clash C_NoLetter C_Round)(G_told:FO P w K mg base 1 "told" ["rows"] [] qC)(G_followers:FO P w K mg base 2 "followers" ["rows"] [] spFol)(G_count_ahead:FO P w K mg base 1 "count_ahead" ["after"] [] pV)(G_round_from:FO P w K mg base 2 "round_from" ["after", "start", "most"] [] spRFG)(G_take_out:FO P w K mg base 1 "take_out" ["after", "ahead", "piece"] [] zM):FnOk P w K mg base F9 3 f fd ["rows"] zN:=by
 refine F.ok sc_shortest_round ?_ ?_
 .rintro _ _ _ _ ⟨a,rs,zss,rfl,_⟩;rfl
 .intro cdv A outer s H vs Q E hr h;have C8:=hu_of hr;have hu:=hr.units;refine ⟨_,QSs.out (B5 (D9 (n:=1) sc_shortest_round.nd rfl vbg (E2 G_followers (hm hr) (qa_c (vi va9) A5)))
   (B5 (D9 (n:=2) sc_shortest_round.nd rfl vbh (E2 G_count_ahead (hm hr) (qa_c (vi iY) A5)))
   (B5 (D9 (n:=3) sc_shortest_round.nd rfl vbi (M9 A5))
   (B5 (D9 (n:=4) sc_shortest_round.nd rfl vbj (qe_cB (q_len (K:=K)) T.b_len hZ (qa_c (vi iY) A5)))
   (B5 (N8 PassesOwn.never (P9 (K:=K) (E2 G_told (hm hr) (qa_c (vi va9) A5))) (E8 (n:=5) sc_shortest_round.nd rfl vbk (.inl rfl)) (C1 (qs_if (E4 (q_in (K:=K) hu) (vi rM) (vi iY)) (B5 (D9 (n:=6) sc_shortest_round.nd rfl vbl (E2 G_round_from (hm hr) (qa_c (vi iY) (qa_c (vi rM) (qa_c (vi vbd) A5)))))
   (B5 (qs_if (aF (K:=K) (vi rN)) (B5 (D9 (n:=3) sc_shortest_round.nd rfl vbi (vi rN))
   (C1 (D9 (n:=4) sc_shortest_round.nd rfl vbj (qe_op q_sub (qe_cB (q_len (K:=K)) T.b_len hZ (qa_c (vi rN) A5)) A8)))) G5)
   (C1 (T4 (E2 G_take_out (hm hr) (qa_c (vi iY) (qa_c (vi vbb) (qa_c (vi rM) A5)))))))) G5)))
   (C1 (D6 (vi vbc)))))))),?_⟩
  obtain ⟨a,rs,zss,rfl,R,X7,q⟩:=h;walk_at "rd";refine ⟨a,rs,zss,rfl,R,by lia,fun d ad H1 nd S1 hd dl=>?_⟩
  try walk_at "rd"
  have B1:(toldL zss).length<=1000:=E1 (eP zss) X7;have hElen:(edges zss).length<=1000:=E1 (pT zss) X7;have tnd:=iM zss;have etold:∀ e∈edges zss,e.1∈toldL zss/\e.2∈toldL zss:=fun e he=>iN he
  have rtold:∀ C,IsRound (edges zss) C->∀ x∈C,x∈toldL zss:=fun C r=>zO r
  refine ⟨d,toldL zss,ad,edges zss,rfl,hd,tnd,by lia,by lia,dl.row,etold,fun c H2 nc S2 hc bs nbs=>?_⟩;have T9:=S2 _ _ hd;refine ⟨(toldL zss).length,.inr (.inr ⟨_,.inl (C9 T9 nbs),by rw [V8]⟩),a,rs,zss,rfl,(R.same (S1.trans S2)).same (Same.new nbs),by lia,fun l H4 nl S4 hl=>⟨l,rfl,⟨_,.of hl⟩,?_⟩⟩;have S3:Same H2 (A0 H2 bs (.lst [])):=Same.new nbs;have hb4:H4 bs=some (.lst []):=S4 _ _ A6;have bF:=S3.trans S4;have ncH:H c=none:=S1.free nc;have Q5:d≠c:=fun e=>by rw [<- e,hd] at nc;cases nc
  have ndH:H d=none:=nd;have N6:=bF _ _ hc;have Q6:=bF _ _ T9;have L7:∀ t∈toldL zss,H4 (ad t)=some (.lst ((C3 (edges zss) t).map V.str)):=fun t ht=>bF _ _ (S2 _ _ (dl.row t ht))
  generalize hts:toldL zss=ts at *;generalize hEE:edges zss=E at *;have sY:l≠d:=fun e=>by rw [e,Q6] at hl;cases hl
  have jT:l≠c:=fun e=>by rw [e,N6] at hl;cases hl
  have gB:∀ t∈ts,ad t≠d/\ad t≠c:=fun t ht=>by
   have:=L7 t ht
   exact ⟨(fun e=>(by rw [e,Q6] at this;cases this)),fun e=>(by rw [e,N6] at this;cases this)⟩
  have uB:H4 c=some (.dK (A9 ts fun t=>.int (cntIn E ts t:Nat))):=by
   rw [N6];exact congrArg (fun x=>some (HO.dK x)) (O6 fun t _=>by rw [xL fun e he=>(etold e he).1])
  refine forL (xs:=ts.map V.str) (fun i Y H5=>∃ (bs:Addr) (mo:Int) (u v:Option V) (R' g:List Str),Y=[some (.ref a),some (.ref d),some (.ref c),some (.ref bs),some (.int mo),u,v]/\Same2 d c H4 H5/\H5 d=some (.dK (A9 R' fun t=>.ref (ad t)))/\H5 c=some (.dK (A9 ts fun t=>.int (cntIn E R' t:Nat)))/\H5 bs=some (.lst (g.map V.str))/\SH E ts R' (ts.take i) g mo)
   ⟨bs,ts.length,none,none,ts,[],rfl,(fun b o _ _ h=>h),Q6,uB,hb4,uai tnd rtold⟩ (by rintro i Y H5 _ ⟨_,_,_,_,_,_,_,S,_⟩;exact .of (S _ _ sY jT hl)) ?_ ?_
  .rintro i x0 Y H5 hx ⟨bs,mo,u,v,R',g,rfl,S5,h5d,h5c,h5b,sh⟩;obtain ⟨t,ht,rfl⟩:=J0 hx;have htt:t∈ts:=M0 ht;have hbd:bs≠d:=fun e=>by rw [e,h5d] at h5b;cases h5b
   have hbc:bs≠c:=fun e=>by rw [e,h5c] at h5b;cases h5b
   have hR'l:R'.length<=1000:=E1 (m4 sh.nd sh.sub) B1;have hmo:=sh.le;walk_at "rd";rw [K5 ht];refine rInR.d (aE (k:=Sum.inr t) h5d) ⟨_,rfl,?_⟩;rw [L4,bU]
   by_cases hm:t∈R'
   .rw [if_pos hm,gS];refine iteT ⟨d,t,mo,R',ad,E,rfl,h5d,hm,hR'l,fun u hu=>S5 _ _ (gB u (sh.sub u hu)).1 (gB u (sh.sub u hu)).2 (L7 u (sh.sub u hu)),by lia,fun fo g' H6 nfo S6 Z6 L6=>?_⟩;have h6d:=S6 _ _ h5d;have h6c:=S6 _ _ h5c;have h6r:∀ u∈ts,H6 (ad u)=some (.lst ((C3 E u).map V.str)):=fun u hu=>S6 _ _ (S5 _ _ (gB u hu).1 (gB u hu).2 (L7 u hu))
    refine ⟨_,iI Z6,?_⟩
    rcases L6 with ⟨bst,hle⟩ | ⟨kN,i4⟩
    .have L9:g'≠[]:=bst.rnd.ne;have gE:fo≠d:=fun e=>by rw [e,h6d] at Z6;cases Z6
     have bC:fo≠c:=fun e=>by rw [e,h6c] at Z6;cases Z6
     rw [show (!(g'.map V.str).isEmpty)=true by cases g' with | nil=>exact absurd rfl L9 | cons=>rfl];refine iteT ⟨g'.length,.inl ⟨_,.of Z6,by rw [B3]⟩,?_⟩
     try walk_at "rd"
     refine ⟨d,c,t,R',ts,ad,E,rfl,h6d,h6c,Q5,sh.nd,sh.sub,by lia,hR'l,fun e he=>(etold e he).2,h6r,hm,fun R2 H7 g1 g2 g3 g4 g5 s7 h7d h7c=>?_⟩;exact ⟨fun b o h1 h2 h=>s7 b o h1 h2 (S6 _ _ (S5 b o h1 h2 h)),R2,h7d,h7c,g',s7 _ _ gE bC Z6,sh.found bst hle g1 g2 g4 g5⟩
    .rw [kN] at Z6;rw [kN];refine iteF ⟨d,c,t,R',ts,ad,E,rfl,h6d,h6c,Q5,sh.nd,sh.sub,by lia,hR'l,fun e he=>(etold e he).2,h6r,hm,fun R2 H7 g1 g2 g3 g4 g5 s7 h7d h7c=>?_⟩;exact ⟨fun b o h1 h2 h=>s7 b o h1 h2 (S6 _ _ (S5 b o h1 h2 h)),R2,h7d,h7c,g,s7 _ _ hbd hbc (S6 _ _ h5b),sh.not i4 g1 g2 g4 g5⟩
   .rw [if_neg hm,Option.isSome_none];exact iteF ⟨S5,R',h5d,h5c,g,h5b,sh.pass hm⟩
  .rintro Y H5 ⟨bs,mo,u,v,R',g,rfl,S5,h5d,h5c,h5b,sh⟩;rw [B3,J1] at sh;walk_at "rd";have S14:=(S1.trans S2).trans bF;exact q bs g H5 (fun b o h=>S5 b o (M8 h ndH) (M8 h ncH) (S14 b o h)) h5b (sh.fin rtold)
theorem sc_lined_up:FnScope ["rows", "after", "ahead", "pieces", "numbers", "free", "line", "number", "other"] ["rows"] (C7 N5):=J4
abbrev v2:List Str:=["rows", "after", "ahead", "pieces", "numbers", "free", "line", "number", "other"]
theorem vbm:VS v2 N5 "rows" 0:=vq
theorem rO:VS v2 N5 "after" 1:=vq
theorem vbo:VS v2 N5 "ahead" 2:=vq
theorem iZ:VS v2 N5 "pieces" 3:=vq
theorem vbq:VS v2 N5 "numbers" 4:=vq
theorem mY:VS v2 N5 "free" 5:=vq
theorem rP:VS v2 N5 "line" 6:=vq
theorem rQ:VS v2 N5 "number" 7:=vq
theorem rR:VS v2 N5 "other" 8:=vq
theorem vbv:LS N5 "after":=lq
theorem vbw:LS N5 "ahead":=lq
theorem vbx:LS N5 "pieces":=lq
theorem vby:LS N5 "numbers":=lq
theorem vbz:LS N5 "free":=lq
theorem vbA:LS N5 "line":=lq
theorem vbB:LS N5 "number":=lq
theorem vbC:LS N5 "other":=lq
theorem af7(F:FunD K "lined_up" "lined_up" N5 f fd)(T:Txt P w K mg C C_Clash C_NoLetter C_Round)(G_Round___init__:EO P w K mg base 1 C_Round "Round" ["self", "pieces"] (qT K C_Round "pieces"))(G_followers:FO P w K mg base 2 "followers" ["rows"] [] spFol)(G_count_ahead:FO P w K mg base 1 "count_ahead" ["after"] [] pV)(G_shortest_round:FO P w K mg base 3 "shortest_round" ["rows"] [] zN):FnOk P w K mg base (Q9 P w) 4 f fd ["rows"] (qU C_Round):=by
 refine F.okX sc_lined_up ?_ ?_
 .rintro _ _ _ _ ⟨a,rs,zss,rfl,_⟩;rfl
 .intro cdv A outer s H vs Q E hr h;have C8:=hu_of hr;have hu:=hr.units;refine ⟨_,QSs.out (B5 (D9 (n:=1) sc_lined_up.nd rfl vbv (E2 G_followers (hm hr) (qa_c (vi vbm) A5)))
   (B5 (D9 (n:=2) sc_lined_up.nd rfl vbw (E2 G_count_ahead (hm hr) (qa_c (vi rO) A5)))
   (B5 (D9 (n:=3) sc_lined_up.nd rfl vbx (qe_cT (cK (K:=K) (calm:=true)) T.b_list cE (qa_c (vi rO) A5)))
   (B5 (D9 (n:=4) sc_lined_up.nd rfl vby (qe_cT (alU (K:=K) (calm:=true)) T.b_dict alL (qa_c (aG  (n6:CompOk ["rows", "after", "ahead", "pieces", "numbers", "free", "line", "number", "other"] (C7 N5).names _ ["number", "piece"] 2 []) (mB T.b_enumerate (qa_c (vi iZ) A5)) (fun _ _ _ _ _=>(cJ (K:=K) (n:=2) (V6 (E8 (n:=0) (show List.Nodup (["number", "piece"]:List Str) by decide +kernel) rfl (Or.inl rfl)) (V6 (E8 (n:=1) (show List.Nodup (["number", "piece"]:List Str) by decide +kernel) rfl (Or.inl rfl)) cI)))) (fun _ _ _ _ _=>iG) (fun _ _ _ _ _=>(N4 (qa_c (qv 1) (qa_c (qv 0) A5))))) A5)))
   (B5 (wU (n:=5) sc_lined_up.nd rfl vbz (n6:CompOk ["rows", "after", "ahead", "pieces", "numbers", "free", "line", "number", "other"] (C7 N5).names _ ["piece", "numbers", "ahead"] 1 [4,2]) (P9 (K:=K) (vi iZ)) (fun _ _ _ _ _=>E8 (n:=0) (show List.Nodup (["piece", "numbers", "ahead"]:List Str) by decide +kernel) rfl (Or.inl rfl)) (fun _ _ _ _ _=>(iH (E4 (q_eq (K:=K) hu) (V5 C8 (qv 2) (qv 0)) A8))) (fun _ _ _ _ _=>(V5 C8 (qv 1) (qv 0))))
   (B5 (D9 (n:=6) sc_lined_up.nd rfl vbA (M9 A5))
   (B5 (lV PassesOwn.leaving (aF (K:=K) (vi mY)) (B5 (D9 (n:=7) sc_lined_up.nd rfl vbB (qe_cB (an7 (calm:=true)) T.b_min anJ (qa_c (vi mY) A5)))
   (B5 (T4 (qe_mB (K:=K) Y6 PySem.F.slot_list_remove PySem.F.type_list_remove aih (vi mY) (qa_c (vi rQ) A5)))
   (B5 (T4 (qe_mB (K:=K) Y6 z8 z0 aH (vi rP) (qa_c (qe_ix (K:=K) (vi iZ) (vi rQ)) A5)))
   (C1 (N8 PassesOwn.leaving (P9 (K:=K) (V5 C8 (vi rO) (qe_ix (K:=K) (vi iZ) (vi rQ)))) (E8 (n:=8) sc_lined_up.nd rfl vbC (.inl rfl)) (B5 (pL C8 (vi vbo) (vi rR) A8 wV)
   (C1 (qs_if (E4 (q_eq (K:=K) hu) (V5 C8 (vi vbo) (vi rR)) A8) (C1 (T4 (qe_mB (K:=K) Y6 z8 z0 aH (vi mY) (qa_c (V5 C8 (vi vbq) (vi rR)) A5)))) G5)))))))))
   (B5 (qs_if (E4 q_lt (qe_cB (q_len (K:=K)) T.b_len hZ (qa_c (vi rP) A5)) (qe_cB (q_len (K:=K)) T.b_len hZ (qa_c (vi iZ) A5))) (C1 (qS (fun _ _ _ _ _ _ _ I h1 h2=>qM I h1 h2) (qO G_Round___init__ (hm hr) (qa_c (E2 G_shortest_round (hm hr) (qa_c (vi vbm) A5)) A5)) (K:=K))) G5)
   (C1 (D6 (vi rP))))))))))),?_⟩
  obtain ⟨a,rs,zss,rfl,hR,hz,jL,q,qx⟩:=h;obtain ⟨fN,MN⟩:=T.er_Round;walk_at "rd";have B1:(toldL zss).length<=500:=E1 (eP zss) hz;have hElen:(edges zss).length<=500:=E1 (pT zss) hz;have uC:∀ t∈toldL zss,m5 t:=fun t ht=>by
   obtain ⟨zs,h1,h2⟩:=gP.mp ((lZ t zss).mp ht);exact jL zs h1 t h2
  have rtold:∀ C,IsRound (edges zss) C->∀ x∈C,x∈toldL zss:=fun C r=>zO r
  have tnd:=iM zss;have etold:∀ e∈edges zss,e.1∈toldL zss/\e.2∈toldL zss:=fun e he=>iN he
  refine ⟨a,rs,zss,rfl,hR,by lia,fun d ad H1 nd S1 hd dl=>?_⟩;generalize hts:toldL zss=ts at *;generalize hEE:edges zss=E at *;refine ⟨d,ts,ad,E,rfl,hd,tnd,by lia,by lia,dl.row,etold,fun c H2 nc S2 hc=>?_⟩;walk_at "rd";refine rListR.d (.of (S2 _ _ hd)) fun w nw=>?_
  rw [ajP];have bG:=S1.trans S2;have ncH:H c=none:=S1.free nc;have T9:=S2 _ _ hd;have ncd:c≠d:=fun e=>by rw [e,hd] at nc;cases nc
  have nac:∀ t∈ts,ad t≠c:=fun t ht e=>by have:=dl.row t ht;rw [e,nc] at this;cases this
  have nU:A0 H2 w (.lst (ts.map V.str)) w=some (.lst (ts.map V.str)):=A6;have Sw:Same H2 (A0 H2 w (.lst (ts.map V.str))):=Same.new nw;generalize A0 H2 w (.lst (ts.map V.str))=H3 at nU Sw ⊢
  have idx:∀ {i:Nat} {z:Str},ts[i]?=some z->ts.idxOf z=i:=fun {i z} h=>by
   obtain ⟨hi,rfl⟩:=F6.mp h;exact List.Nodup.idxOf_getElem tnd i hi
  refine ⟨w,rfl,⟨_,nU⟩,compE (xs:=ts.map V.str) [] rfl (fun D i ys H4=>∃ qs:List Addr,ys=qs.map V.ref/\Same H3 H4/\Paired (fun q t=>H4 q=some (.tup [.str t,.int (ts.idxOf t:Nat)])) qs (ts.take i)) (fun D nD=>⟨[],rfl,Same.new nD,.nil⟩) (by rintro D i ys H4 nD _ ⟨_,_,S,_⟩;exact S _ _ nU) ?_ ?_⟩
  .rintro D i x t ys H4 nD hi hx ⟨qs,rfl,S,P4⟩ hD hy nt;obtain ⟨z,hz,rfl⟩:=J0 hx;rw [B3] at hi hy;walk_at "rd";refine ⟨by decide,fun p np=>⟨C9 (C9 hD nt) np,by rw [B3];exact K9 (by lia),eV.put (by rw [B3];exact hi) (by rw [B3];exact hy) ⟨qs++[p],by rw [G2];rfl,((S.trans (Same.new nt)).trans (Same.new np)).put nD,?_⟩⟩⟩;rw [K5 hz];refine Paired.snoc (f6 P4 fun q t' h=>?_) ?_
   .rw [A7 (fun e=>by rw [e,hD] at h;cases h)];exact C9 (C9 h nt) np
   .rw [A7 (fun e=>by rw [e,C9 hD nt] at np;cases np),A6,idx hz]
  rintro D ys H4 nD ⟨qs,rfl,uD,P4⟩ hD hy;rw [B3,J1] at P4;refine ⟨rfl,D,qs,_,rfl,.of hD,yE (f:=fun t=>.int (ts.idxOf t:Nat)) P4,fun nm nnm=>?_⟩;rw [show X0 [] (A9 ts fun t=>V.int (ts.idxOf t:Nat))=A9 ts fun t=>V.int (ts.idxOf t:Nat) from yC (pre:=[]) (by simpa using tnd)];have S5:Same H2 (A0 H4 nm (.dK (A9 ts fun t=>V.int (ts.idxOf t:Nat)))):=(Sw.trans uD).trans (Same.new nnm);have x6:A0 H4 nm (.dK (A9 ts fun t=>V.int (ts.idxOf t:Nat))) w=some (.lst (ts.map V.str)):=C9 (uD _ _ nU) nnm;have uE:A0 H4 nm (.dK (A9 ts fun t=>V.int (ts.idxOf t:Nat))) nm=some (.dK (A9 ts fun t=>V.int (ts.idxOf t:Nat))):=A6;have N6:H4 c=some (.dK (A9 ts fun t=>.int (E9 E [] t:Nat))):=uD _ _ (Sw _ _ hc);have ncn:c≠nm:=fun e=>by rw [<- e,N6] at nnm;cases nnm
  generalize A0 H4 nm (.dK (A9 ts fun t=>V.int (ts.idxOf t:Nat)))=H5 at S5 x6 uE ⊢
  have W6:=S5 _ _ hc;have hd5:=S5 _ _ T9;have fT:∀ t∈ts,H5 (ad t)=some (.lst ((C3 E t).map V.str)):=fun t ht=>S5 _ _ (S2 _ _ (dl.row t ht))
  have S05:=bG.trans S5;have ncw:c≠w:=fun e=>by rw [e,x6] at W6;cases W6
  refine ⟨w,rfl,⟨_,.of x6⟩,compL (xs:=ts.map V.str) [some (.ref nm),some (.ref c)] rfl (fun D i ys H6=>∃ fr:List Int,ys=fr.map V.int/\Same H5 H6/\FS (ts.take i) [] (fun q=>E9 E [] q=0) fr) (fun D nD=>⟨[],rfl,Same.new nD,FS.nil _⟩) (by rintro D i ys H6 nD _ ⟨_,_,S,_⟩;exact .of (S _ _ x6)) ?_ ?_⟩
  .rintro D i x ys H6 nD hi hx ⟨fr,rfl,S,F⟩ hD hy;obtain ⟨z,hz,rfl⟩:=J0 hx;have hzt:z∈ts:=M0 hz;have hil:i<ts.length:=(F6.mp hz).1;rw [B3] at hy;have hs:=F.snoc (i:=i) (q:=z) (by rw [M6];lia) (by simp);rw [<- K5 hz] at hs;walk_at "rd";refine ⟨V.int (E9 E [] z:Nat),.inl ⟨_,Sum.inr z,.inl (S _ _ W6),rfl,by rw [L4,if_pos hzt]⟩,?_⟩
   try walk_at "rd"
   refine iteD (fun h0=>⟨V.int (ts.idxOf z:Nat),.inl ⟨_,Sum.inr z,.inl (S _ _ uE),rfl,by rw [L4,if_pos hzt]⟩,hD,by rw [B3];exact K9 (by lia),CW.put hi (by rw [B3];exact hy) ⟨fr++[(i:Int)],by rw [G2,idx hz];rfl,S.put nD,hs.1 (by lia)⟩⟩) fun h0=>⟨hD,CW.skip hi (by rw [B3];exact hy) ⟨fr,rfl,S,hs.2 (by lia)⟩⟩
  rintro f ys H6 nf ⟨fr,rfl,uF,F0⟩ uG hy;rw [B3,J1] at F0;intro ln nln;have nln5:H5 ln=none:=uF.free nln;have X7:f≠ln:=fun e=>by rw [e,nln] at uG;cases uG
  have frlen:∀ {line fr z},FS ts line z fr->fr.length<=ts.length:=fun {line fr z} F=>by
   have h1:∀ n∈fr,n∈(V2 ts.length).map fun (n:Nat)=>(n:Int):=fun n hn=>by
    obtain ⟨m,q,e,h2,_⟩:=(F.2 n).mp hn;exact E7.mpr ⟨m,dX.mpr (F6.mp h2).1,e.symm⟩
   have:=yD F.1 h1
   simpa using this
  refine lW (fun m Y H7=>∃ (u v:Option V) (line:List Str) (fr:List Int),Y=[some (.ref a),some (.ref d),some (.ref c),some (.ref w),some (.ref nm),some (.ref f),some (.ref ln),u,v]/\SameBut c H5 H7/\
    H7 c=some (.dK (A9 ts fun t=>.int (E9 E line t:Nat)))/\H7 f=some (.lst (fr.map V.int))/\FS ts line (fun q=>E9 E line q=0) fr/\H7 ln=some (.lst (line.map V.str))/\R6 E ts line/\m=ts.length-line.length) ts.length
   ⟨none,none,[],fr,rfl,fun b o _ h=>C9 (uF _ _ h) nln,C9 (uF _ _ W6) nln,C9 uG nln,F0,A6,R6.nil _ _,rfl⟩ ?_
  rintro m Y H7 ⟨u,v,line,fr,rfl,B7,hc7,nV,F,uH,run,rfl⟩;have uI:Same H H7:=B7.same S05 ncH;walk_at "rd";refine ⟨_,iI nV,?_⟩
  by_cases P6:fr=[]
  .rw [P6];refine iteF ?_
   try walk_at "rd"
   refine ⟨line.length,.inl ⟨_,.of uH,by rw [B3]⟩,ts.length,.inl ⟨_,.of (B7 _ _ ncw.symm x6),by rw [B3]⟩,?_⟩
   try walk_at "rd"
   refine iteD (fun h=>?_) fun h=>q ln line H7 (S05.free nln5) uI uH run fun p hp=>Classical.byContradiction fun hn=>?_
   .have hU:(ts.filter fun x=>!decide (x∈line))≠[]:=fun e=>by
     have J8:∀ x∈ts,x∈line:=fun x hx=>Classical.byContradiction fun hn=>by
      have:x∈ts.filter fun x=>!decide (x∈line):=N2.mpr ⟨hx,by simp [hn]⟩
      rw [e] at this
      cases this
     have:=m4 tnd J8
     lia
    obtain ⟨C,rC,_⟩:=akf (E:=E) hU fun x hx=>by
     obtain ⟨X6,w6⟩:=N2.mp hx;have uJ:x∉line:=by simpa using w6
     have hc0:E9 E line x≠0:=fun h0=>by
      obtain ⟨k,hk⟩:=dR.mp X6
      have:=(F.2 (k:Int)).mpr ⟨k,x,rfl,hk,uJ,h0⟩
      rw [P6] at this
      cases this
     refine Classical.byContradiction fun i4=>hc0 (cnt_zero.mpr fun e he h2=>Classical.byContradiction fun h1=>i4 ⟨e.1,N2.mpr ⟨(etold e he).1,by simp [h1]⟩,by rw [<- h2];exact he⟩)
    refine ⟨a,rs,zss,rfl,hR.same uI,by lia,fun l g H8 S8 hl L6=>?_⟩;rw [hEE] at L6;have lst:Least E g:=by
     rcases L6 with h | ⟨_,h⟩
     .exact h
     .exact absurd rC (h C)
    have hgl:g.length<=500:=E1 (m4 lst.rnd.nd (rtold g lst.rnd)) B1;refine ⟨by decide,fun x nx=>⟨s.heap.objs.size,x,l,fN,g,rfl,A6,MN,T.na_Round,C9 hl nx,hgl,fun z hz=>uC z (rtold g lst.rnd z hz),fun p dx np nd ne=>?_⟩⟩;obtain ⟨r1,r2,r3,r4⟩:=amu (fld:=Str.ofString "pieces") nx np nd ne;exact ⟨rfl,C_Round,dx,r1,⟨fN,MN⟩,qx dx p g _ (fun b o h=>r2 _ _ (S8 _ _ (uI _ _ h))) r3 r4 lst⟩
   .have h1:(line++[p]).Nodup:=by
     rw [b9];exact ⟨run.nodup,by simp,fun a ha b hb e=>hn (by rw [<- F7.mp hb,<- e];exact ha)⟩
    have h3:=m4 h1 fun x hx=>by
     rcases G1.mp hx with h | h
     .exact run.sub h
     .rw [F7.mp h];exact hp
    rw [G0,bO] at h3;lia
  rw [show (!(fr.map V.int).isEmpty)=true by cases fr with | nil=>exact absurd rfl P6 | cons=>rfl];refine iteT ⟨fun σ' H'=>∃ (u v:Option V) (line':List Str) (fr:List Int),σ'=[some (.ref a),some (.ref d),some (.ref c),some (.ref w),some (.ref nm),some (.ref f),some (.ref ln),u,v]/\SameBut c H5 H'/\
    H' c=some (.dK (A9 ts fun t=>.int (E9 E line' t:Nat)))/\H' f=some (.lst (fr.map V.int))/\FS ts line' (fun q=>E9 E line' q=0) fr/\H' ln=some (.lst (line'.map V.str))/\R6 E ts line'/\ts.length-line'.length<ts.length-line.length,?_,?_⟩
  .rintro σ' H' ⟨u,v,line',fr',rfl,h1,h2,h3,h4,h5,h6,h7⟩;exact ⟨_,h7,⟨_,_,rfl⟩,h1,line',h2,fr',h3,h4,h5,h6,rfl⟩
  try walk_at "rd"
  refine ⟨fr,nV,P6,fun M hM i9=>?_⟩;obtain ⟨mm,p,rfl,nW,W7⟩:=afW F hM i9;obtain ⟨W5,fO,nX⟩:=iK W7;have uA:line.length<ts.length:=by
   have h1:(line++[p]).Nodup:=(run.snoc W7).nodup;have h3:=m4 h1 fun x hx=>(run.snoc W7).sub hx
   rw [G0,bO] at h3;lia
  have F1:=F.take tnd nW
  try walk_at "rd"
  refine ⟨X1 nV,an6 nV hM ?_⟩;have hwf:w≠f:=fun e=>by rw [e,nf] at x6;cases x6
  have uK:c≠f:=fun e=>by rw [e,nf] at W6;cases W6
  have U0:c≠ln:=fun e=>by rw [e,nln5] at W6;cases W6
  have B8:SameBut c H5 (A0 H7 f (.lst ((fr.erase (mm:Int)).map V.int))):=B7.put nf;have nY:A0 H7 f (.lst ((fr.erase (mm:Int)).map V.int)) ln=some (.lst (line.map V.str)):=by rw [A7 X7.symm];exact uH
  have hf8:A0 H7 f (.lst ((fr.erase (mm:Int)).map V.int)) f=some (.lst ((fr.erase (mm:Int)).map V.int)):=A6;have hc8:A0 H7 f (.lst ((fr.erase (mm:Int)).map V.int)) c=some (.dK (A9 ts fun t=>.int (E9 E line t:Nat))):=by rw [A7 uK];exact hc7
  generalize A0 H7 f (.lst ((fr.erase (mm:Int)).map V.int))=H8 at B8 nY hf8 hc8 ⊢
  have atp:J3 (ts.map V.str) (mm:Int)=some (V.str p):=l7 (by rw [W9,nW];rfl);refine ⟨X1 nY,_,.inl (.of (B8 _ _ ncw.symm x6)),V.str p,atp,appOk nY (by rw [B3];exact K9 (by lia)) ?_⟩;have B9:SameBut c H5 (A0 H8 ln (.lst (line.map V.str++[V.str p]))):=B8.put nln5;have hl9:A0 H8 ln (.lst (line.map V.str++[V.str p])) ln=some (.lst ((line++[p]).map V.str)):=by rw [A6,G2];rfl
  have hf9:A0 H8 ln (.lst (line.map V.str++[V.str p])) f=some (.lst ((fr.erase (mm:Int)).map V.int)):=by rw [A7 X7];exact hf8
  have hc9:A0 H8 ln (.lst (line.map V.str++[V.str p])) c=some (.dK (A9 ts fun t=>.int (E9 E line t:Nat))):=by rw [A7 U0];exact hc8
  generalize A0 H8 ln (.lst (line.map V.str++[V.str p]))=H9 at B9 hl9 hf9 hc9 ⊢
  refine ⟨_,.inl (.of (B9 _ _ ncw.symm x6)),V.str p,atp,V.ref (ad p),.inl ⟨_,Sum.inr p,.inl (B9 _ _ ncd.symm hd5),rfl,by rw [L4,if_pos W5]⟩,ad p,rfl,⟨_,.of (B9 _ _ (nac p W5) (fT p W5))⟩,
   forL (xs:=(C3 E p).map V.str) (fun j Y H7=>∃ (x:Option V) (fr:List Int),Y=[some (.ref a),some (.ref d),some (.ref c),some (.ref w),some (.ref nm),some (.ref f),some (.ref ln),some (.int (mm:Int)),x]/\SameBut c H5 H7/\
    H7 c=some (.dK (A9 ts fun t=>.int ((E9 E line t:Nat)-(((C3 E p).take j).count t:Nat))))/\H7 f=some (.lst (fr.map V.int))/\FS ts (line++[p]) (fun q=>E9 E line q=((C3 E p).take j).count q) fr/\H7 ln=some (.lst ((line++[p]).map V.str)))
   ⟨v,_,rfl,B9,?_,hf9,F1.congr fun q=>(by simp),hl9⟩ (by rintro j Y H7 _ ⟨_,_,_,B,_⟩;exact .of (B _ _ (nac p W5) (fT p W5))) ?_ ?_⟩
  .rw [hc9];exact congrArg (fun x=>some (HO.dK x)) (O6 fun t _=>congrArg V.int (by simp))
  .rintro j v5 Y U8 kJ ⟨x,fr,rfl,B,j1,dJ,F,dL⟩;obtain ⟨y,hy,rfl⟩:=J0 kJ;have Z7:y∈ts:=by
    have:=M0 hy
    unfold C3 at this;obtain ⟨e,he,rfl⟩:=E7.mp this;exact (etold e (N2.mp he).1).2
   have i8:((C3 E p).take j).count y<E9 E line y:=by
    have h1:=xK (E:=E) (q:=y) fO;have h2:(C3 E p).count y=((C3 E p).take (j+1)).count y+((C3 E p).drop (j+1)).count y:=by rw [<- dU,W8]
    rw [K5 hy,dU,lB,if_pos (by simp)] at h2;lia
   have hyb:y∉line++[p]:=fun hm=>by
    rcases G1.mp hm with hm | hm
    .have:=ajY run hm;lia
    .rw [F7.mp hm] at i8;lia
   obtain ⟨my,hmy⟩:=dR.mp Z7;have X8:∀ q,((C3 E p).take (j+1)).count q=((C3 E p).take j).count q+if y=q then 1 else 0:=fun q=>by
    rw [K5 hy,dU,lB]
    by_cases e:y=q
    .rw [if_pos e,if_pos (by simpa using e)]
    .rw [if_neg e,if_neg (by simpa using e)]
   have turn:=F.turn (z':=fun q=>E9 E line q=((C3 E p).take (j+1)).count q) tnd (y:=y) (fun q hq=>by rw [X8,if_neg (fun e=>hq e.symm),Nat.add_zero]) (by lia) hmy hyb;have P1:A9 ts (fun t=>V.int (if t=y then (E9 E line y:Nat)-(((C3 E p).take j).count y:Nat)-1 else (E9 E line t:Nat)-(((C3 E p).take j).count t:Nat)))=A9 ts (fun t=>V.int ((E9 E line t:Nat)-(((C3 E p).take (j+1)).count t:Nat))):=O6 fun q _=>by
    rw [X8]
    by_cases e:q=y
    .rw [if_pos e,e,if_pos rfl];exact congrArg V.int (by lia)
    .rw [if_neg e,if_neg (fun z=>e z.symm)];exact congrArg V.int (by lia)
   walk_at "rd";refine ⟨_,.inl ⟨_,Sum.inr y,.inl j1,rfl,by rw [L4,if_pos Z7]⟩,_,_,rfl,rfl,_,l8 (k:=Sum.inr y) j1 (by rw [V8];exact K9 (by lia)),?_⟩;have x8:A0 U8 c (.dK (putK (A9 ts fun t=>V.int ((E9 E line t:Nat)-(((C3 E p).take j).count t:Nat))) (Sum.inr y) (V.int ((E9 E line y:Nat)-(((C3 E p).take j).count y:Nat)-1)))) c=some (.dK (A9 ts (fun t=>V.int ((E9 E line t:Nat)-(((C3 E p).take (j+1)).count t:Nat))))):=by
    rw [A6,iL _ Z7,<- P1];refine congrArg (fun x=>some (HO.dK x)) (O6 fun q _=>?_)
    by_cases e:q=y
    .rw [if_pos e,if_pos e]
    .rw [if_neg e,if_neg e]
   have B11:SameBut c H5 (A0 U8 c (.dK (putK (A9 ts fun t=>V.int ((E9 E line t:Nat)-(((C3 E p).take j).count t:Nat))) (Sum.inr y) (V.int ((E9 E line y:Nat)-(((C3 E p).take j).count y:Nat)-1))))):=B.at;have x9:A0 U8 c (.dK (putK (A9 ts fun t=>V.int ((E9 E line t:Nat)-(((C3 E p).take j).count t:Nat))) (Sum.inr y) (V.int ((E9 E line y:Nat)-(((C3 E p).take j).count y:Nat)-1)))) f=some (.lst (fr.map V.int)):=by rw [A7 uK.symm];exact dJ
   have dM:A0 U8 c (.dK (putK (A9 ts fun t=>V.int ((E9 E line t:Nat)-(((C3 E p).take j).count t:Nat))) (Sum.inr y) (V.int ((E9 E line y:Nat)-(((C3 E p).take j).count y:Nat)-1)))) ln=some (.lst ((line++[p]).map V.str)):=by rw [A7 U0.symm];exact dL
   generalize A0 U8 c (.dK (putK (A9 ts fun t=>V.int ((E9 E line t:Nat)-(((C3 E p).take j).count t:Nat))) (Sum.inr y) (V.int ((E9 E line y:Nat)-(((C3 E p).take j).count y:Nat)-1))))=H11 at x8 B11 x9 dM ⊢
   refine ⟨V.int ((E9 E line y:Nat)-(((C3 E p).take (j+1)).count y:Nat)),.inl ⟨_,Sum.inr y,.inl x8,rfl,by rw [L4,if_pos Z7]⟩,?_⟩
   try walk_at "rd"
   have uL:=frlen F;refine iteD (fun h0=>⟨X1 x9,V.int (ts.idxOf y:Nat),.inl ⟨_,Sum.inr y,.inl (B11 _ _ ncn.symm uE),rfl,by rw [L4,if_pos Z7]⟩,appOk x9 (by rw [B3];exact K9 (by lia)) ?_⟩) fun h0=>?_
   .refine ⟨B11.put nf,?_,fr++[(my:Int)],?_,turn.1 (by lia),?_⟩
    .rw [A7 uK];exact x8
    .rw [A6,G2,idx hmy];rfl
    .rw [A7 X7.symm];exact dM
   .exact ⟨B11,x8,fr,x9,turn.2 (by lia),dM⟩
  .rintro Y U8 ⟨x,fr,rfl,B,j1,dJ,F,dL⟩;rw [B3,J1] at j1 F;have bH:∀ q,E9 E line q=E9 E (line++[p]) q+(C3 E p).count q:=fun q=>xK (E:=E) (q:=q) fO
   refine ⟨⟨_,_,rfl⟩,B,line++[p],?_,fr,dJ,F.congr fun q=>?_,dL,run.snoc W7,by rw [G0,bO];lia⟩
   .rw [j1];exact congrArg (fun x=>some (HO.dK x)) (O6 fun q _=>congrArg V.int (by have:=bH q;lia))
   .have:=bH q
    lia
theorem afA:FnScope ["sign"] ["sign"] (C7 mM):=J4
abbrev af8:List Str:=["sign"]
theorem vbD:VS af8 mM "sign" 0:=vq
theorem afB(F:FunD K "is_figure" "is_figure" mM f fd)(T:Txt P w K mg C C_Clash C_NoLetter C_Round):FnOk P w K mg base F9 1 f fd ["sign"] qD:=by
 refine F.ok afA ?_ ?_
 .rintro _ _ _ _ ⟨c,rfl,_⟩;rfl
 .intro cdv A outer s H vs Q E hr h;have C8:=hu_of hr;have hu:=hr.units;refine ⟨_,QSs.out (C1 (D6 (ajD q_le q_le D4 (vi vbD) D4))),?_⟩;obtain ⟨c,rfl,q⟩:=h;walk_at "rd";have e1:(Str.ofString "0").cps.toList=[48]:=by decide +kernel
  have e2:(Str.ofString "9").cps.toList=[57]:=by decide +kernel
  rw [e1,e2];simp only [an3];refine iteN (fun h1=>?_) fun h1=>?_
  .have e:figO c=!decide (57<c):=by
    unfold figO;rw [decide_eq_true (by lia:48<=c)]
    by_cases h2:c<=57
    .rw [decide_eq_true h2,decide_eq_false (by lia:¬ 57<c)];rfl
    .rw [decide_eq_false h2,decide_eq_true (by lia:57<c)];rfl
   rw [e] at q;exact q
  .have e:figO c=false:=by unfold figO;rw [decide_eq_false (by lia:¬ 48<=c)];rfl
   rw [e] at q;exact q
theorem af9:FnScope ["rules", "word"] ["rules", "word"] (C7 iS):=J4
abbrev ahe:List Str:=["rules", "word"]
theorem vbE:VS ahe iS "rules" 0:=vq
theorem aga(F:FunD K "has_rule" "has_rule" iS f fd)(T:Txt P w K mg C C_Clash C_NoLetter C_Round):FnOk P w K mg base F9 1 f fd ["rules", "word"] (spHas K):=by
 refine F.ok af9 ?_ ?_
 .rintro _ _ _ _ ⟨a,ts,R,w,rfl,_⟩;rfl
 .intro cdv A outer s H vs Q E hr h;have C8:=hu_of hr;have hu:=hr.units;refine ⟨_,QSs.out (C1 (D6 (qe_cB (q_any (calm:=true)) T.b_any wO (qa_c (aG  (n6:CompOk ["rules", "word"] (C7 iS).names _ ["rule", "word"] 1 [1]) (P9 (K:=K) (vi vbE)) (fun _ _ _ _ _=>E8 (n:=0) (show List.Nodup (["rule", "word"]:List Str) by decide +kernel) rfl (Or.inl rfl)) (fun _ _ _ _ _=>iG) (fun _ _ _ _ _=>(eQ (q_eq (K:=K) hu) (qe_ix (K:=K) (qv 0) A8) (qv 1)))) A5)))),?_⟩;obtain ⟨a,ts,R,w,rfl,hR,hl,q⟩:=h;walk_at "rd";refine ⟨⟨_,.of hR.top⟩,compL (xs:=ts.map V.ref) [some (.str w)] rfl (fun D i ys H4=>ys=((R.take i).map fun z=>decide (z.1=w)).map V.bl/\Same H H4) (fun D nD=>⟨rfl,Same.new nD⟩) (by rintro D i ys H4 nD _ ⟨_,S⟩;exact .of (S _ _ hR.top)) ?_ ?_⟩
  .rintro D i x ys H4 nD hi hx ⟨rfl,S⟩ hD hy;obtain ⟨t,ht,rfl⟩:=J0 hx;obtain ⟨z,hz,C6⟩:=Paired.at hR.row ht;have j2:i<R.length:=(F6.mp hz).1;walk_at "rd";refine ⟨_,.inr (.of (S _ _ C6)),V.str z.1,O1 _ _,?_⟩;walk_at "rd";refine ⟨hD,by rw [B3,B3,M6];exact K9 (by lia),CW.put hi hy ⟨?_,S.put nD⟩⟩;rw [V1,hz]
   simp
  rintro D ys H4 nD ⟨rfl,S⟩ hD hy;rw [B3,hR.len,J1] at hD;refine ⟨_,rfl,hD,?_⟩;have e:((R.map fun z=>decide (z.1=w)).any id)=hasW R w:=by
   unfold hasW;rw [List.any_map];rfl
  rw [e];exact q H4 S
theorem adZ:FnScope ["rule"] ["rule"] (C7 mO):=J4
abbrev aeM:List Str:=["rule"]
theorem fF:VS aeM mO "rule" 0:=vq
theorem ad0(F:FunD K "pieces_told" "pieces_told" mO f fd)(T:Txt P w K mg C C_Clash C_NoLetter C_Round):FnOk P w K mg base F9 1 f fd ["rule"] (xW K):=by
 refine F.ok adZ ?_ ?_
 .rintro _ _ _ _ ⟨t,z,rfl,_⟩;rfl
 .intro cdv A outer s H vs Q E hr h;have C8:=hu_of hr;have hu:=hr.units;obtain ⟨a_JOBS,m_JOBS,M_JOBS⟩:=T.x_JOBS;refine ⟨_,QSs.out (B5 (qs_if (E4 (q_eq (K:=K) hu) (qe_ix (K:=K) (vi fF) A8) D4) (C1 (D6 (X2 (K:=K) (vi fF) (R5 A8) u5))) G5)
   (B5 (qs_if (E4 (q_eq (K:=K) hu) (qe_ix (K:=K) (vi fF) A8) D4) (C1 (D6 (X2 (K:=K) (vi fF) (R5 A8) (R5 A8)))) G5)
   (C1 (D6 (ajE (E4 (q_inM M_JOBS) (qe_ix (K:=K) (vi fF) A8) (R4 m_JOBS)) (X2 (K:=K) (vi fF) (R5 A8) u5) (N4 A5)))))),?_⟩
  obtain ⟨t,z,rfl,ht,q⟩:=h;have hT:D0 K H t ((z.1::z.2).map V.str):=.of ht;have B1:1<=((z.1::z.2).map V.str).length:=by rw [B3,J9];lia
  walk_at "rd";refine ⟨_,.inr hT,V.str z.1,O1 _ _,?_⟩;walk_at "rd";refine iteD (fun e=>?_) fun n1=>⟨_,.inr hT,V.str z.1,O1 _ _,?_⟩
  .refine rSlR.t hT (g0 (k:=2) (by decide) B1) fun p np=>q p _ (Same.new np) (.of ?_)
   rw [A6,show ((2:Int))=((2:Nat):Int) from rfl,cL,G3,gO,<- List.map_drop];unfold D7;rw [if_pos e]
  walk_at "rd";refine iteD (fun e=>?_) fun n2=>⟨_,.inr hT,V.str z.1,O1 _ _,?_⟩
  .refine rSlR.t hT (g0 (k:=1) (by decide) B1) fun p np=>q p _ (Same.new np) (.of ?_)
   have ecut:cutV ((z.1::z.2).map V.str) (some 1) (some 2)=(z.2.take 1).map V.str:=by
    unfold cutV
    cases z.2 with
    | nil=>rfl
    | cons y r=>
     have e1:HT.sIx ((z.1::y::r).map V.str).length 0 (some 1)=1:=by
      rw [show ((1:Int))=((1:Nat):Int) from rfl,HT.sIx_nat,B3,J9,J9];lia
     have e2:HT.sIx ((z.1::y::r).map V.str).length ((z.1::y::r).map V.str).length (some 2)=2:=by
      rw [show ((2:Int))=((2:Nat):Int) from rfl,HT.sIx_nat,B3,J9,J9];lia
     rw [e1,e2];rfl
   rw [A6,ecut];unfold D7;rw [if_neg n1,if_pos e]
  walk_at "rd"
  by_cases hj:T5 z.1
  .rw [pY hj];refine iteT (rSlR.t hT (g0 (k:=1) (by decide) B1) fun p np=>q p _ (Same.new np) (.of ?_));rw [A6,G3,xC];unfold D7;have h3:z.1=("row" : Str)\/z.1=("marks" : Str)\/z.1=("over" : Str):=by
    rcases hj with h | h | h | h | h
    .exact .inl h
    .exact .inr (.inl h)
    .exact absurd h n1
    .exact absurd h n2
    .exact .inr (.inr h)
   rw [if_neg n1,if_neg n2,if_pos h3]
  .rw [ajT hj];refine iteF fun p np=>q p _ (Same.new np) (.of ?_)
   rw [A6];unfold D7;rw [if_neg n1,if_neg n2,if_neg (fun h=>hj (by
    rcases h with h | h | h
    .exact .inl h
    .exact .inr (.inl h)
    .exact .inr (.inr (.inr (.inr h)))))]
   rfl
theorem agb:FnScope ["jobs", "piece", "job", "figures"] ["jobs", "piece", "job", "figures"] (C7 aT):=J4
abbrev mZ:List Str:=["jobs", "piece", "job", "figures"]
theorem vbG:VS mZ aT "jobs" 0:=vq
theorem rS:VS mZ aT "piece" 1:=vq
theorem vbI:VS mZ aT "job" 2:=vq
theorem vbJ:VS mZ aT "figures" 3:=vq
theorem agc(F:FunD K "is_clash" "is_clash" aT f fd)(T:Txt P w K mg C C_Clash C_NoLetter C_Round)(G_is_figure:FO P w K mg base 1 "is_figure" ["sign"] [] qD):FnOk P w K mg base F9 2 f fd ["jobs", "piece", "job", "figures"] zY:=by
 refine F.ok agb ?_ ?_
 .rintro _ _ _ _ ⟨d,p,j,fg,ks,g,rfl,_⟩;rfl
 .intro cdv A outer s H vs Q E hr h;have C8:=hu_of hr;have hu:=hr.units;obtain ⟨a_AGAIN,m_AGAIN,M_AGAIN⟩:=T.x_AGAIN;refine ⟨_,QSs.out (B5 (qs_if (QW.pt (cH (E4 (q_in (K:=K) hu) (vi rS) (vi vbG)) (cG (QW.pt (qw_or (E4 (q_ne (K:=K) hu) (V5 C8 (vi vbG) (vi rS)) (vi vbI)) (wS (E4 (pM (K:=K) hu) (vi vbI) (R4 m_AGAIN)))))))) (C1 (D6 qe_bl)) G5)
   (C1 (D6 (iE (vi vbJ) (lU (qe_cB (q_any (calm:=true)) T.b_any wO (qa_c (aG  (n6:CompOk ["jobs", "piece", "job", "figures"] (C7 aT).names _ ["sign"] 1 []) (wT (vi rS)) (fun _ _ _ _ _=>E8 (n:=0) (show List.Nodup (["sign"]:List Str) by decide +kernel) rfl (Or.inl rfl)) (fun _ _ _ _ _=>iG) (fun _ _ _ _ _=>(E2 G_is_figure (hm hr) (qa_c (qv 0) A5)))) A5))))))),?_⟩
  obtain ⟨d,p,j,fg,ks,g,rfl,hd,hp,q⟩:=h;walk_at "rd";have tail:(decide (p∈ks)&&(!decide (g p=j) || !decide (j∈f9)))=false->(if fg=true then cD (cC p) 1 [] (gName 0) tYes (tCall qD [] E0 (tCons (tVar 0) tNil)) [some (V.ref d),some (V.str p),some (V.str j),some (V.bl fg)] (fun x H1=>rAnyB true [x] H1 Q) H else Q (V.bl false) H):=by
   intro hc;unfold Q4 at q;rw [hc,Bool.false_or] at q
   by_cases hf:fg=true
   .rw [if_pos hf];refine compS [] rfl (fun D i ys H4=>ys=((p.cps.toList.take i).map figO).map V.bl/\Same H H4) (fun D nD=>⟨rfl,Same.new nD⟩) ?_ ?_
    .rintro D i x ys H4 nD hi hx ⟨rfl,S⟩ hD hy;walk_at "rd";refine ⟨x,rfl,hD,?_,CW.put hi hy ⟨?_,S.put nD⟩⟩
     .rw [B3,B3,M6];exact K9 (by have:p.cps.size=p.length:=rfl;lia)
     .rw [V1,hx]
      simp
    .rintro D ys H4 nD ⟨rfl,S⟩ hD hy;walk_at "rd";refine ⟨_,hD,?_⟩;have e:((p.cps.toList.take p.cps.size).map figO).any id=(fg&&p.cps.toList.any figO):=by
      rw [hf,Bool.true_and,List.any_map,show p.cps.size=p.cps.toList.length by simp,J1];rfl
     rw [e];exact q H4 S
   .rw [if_neg hf];rw [show fg=false by simpa using hf,Bool.false_and] at q;exact q H (Q8 H)
  refine rInR.d (aE (k:=Sum.inr p) hd) ⟨_,rfl,?_⟩;rw [L4,bU]
  by_cases hk:p∈ks
  .rw [if_pos hk];refine iteT ⟨V.str (g p),.inl ⟨_,Sum.inr p,.inl hd,rfl,by rw [L4,if_pos hk]⟩,?_⟩;walk_at "rd"
   by_cases e1:g p=j
   .rw [decide_eq_true e1];refine iteF (rInR.l (.inr (M_AGAIN _)) rfl rfl ⟨_,rfl,?_⟩);have e3:Y9 (.str j) [V.str "letter",V.str "mark",V.str "over"]=decide (j∈f9):=iC j f9;rw [e3]
    by_cases e2:j∈f9
    .rw [decide_eq_true e2];exact iteF (tail (by rw [decide_eq_true e1,decide_eq_true e2];simp))
    .rw [decide_eq_false e2];refine iteT ?_
     have:=q H (Q8 H)
     rw [show Q4 fg ks g p j=true by unfold Q4;rw [decide_eq_true hk,decide_eq_false e2];simp] at this;exact this
   .rw [decide_eq_false e1];refine iteT ?_
    have:=q H (Q8 H)
    rw [show Q4 fg ks g p j=true by unfold Q4;rw [decide_eq_true hk,decide_eq_false e1];simp] at this;exact this
  .rw [if_neg hk];exact iteF (tail (by rw [decide_eq_false hk,Bool.false_and]))
theorem sc_jobs_of:FnScope ["rules", "figures", "jobs", "rule", "piece"] ["rules"] (C7 U7):=J4
abbrev jA:List Str:=["rules", "figures", "jobs", "rule", "piece"]
theorem rT:VS jA U7 "rules" 0:=vq
theorem vbL:VS jA U7 "figures" 1:=vq
theorem nA:VS jA U7 "jobs" 2:=vq
theorem rV:VS jA U7 "rule" 3:=vq
theorem rW:VS jA U7 "piece" 4:=vq
theorem vbP:LS U7 "figures":=lq
theorem vbQ:LS U7 "jobs":=lq
theorem vbR:LS U7 "rule":=lq
theorem vbS:LS U7 "piece":=lq
theorem ahf(F:FunD K "jobs_of" "jobs_of" U7 f fd)(T:Txt P w K mg C C_Clash C_NoLetter C_Round)(G_Clash___init__:EO P w K mg base 1 C_Clash "Clash" ["self", "piece"] (fA K C_Clash "piece"))(G_has_rule:FO P w K mg base 1 "has_rule" ["rules", "word"] [] (spHas K))(G_pieces_told:FO P w K mg base 1 "pieces_told" ["rule"] [] (xW K))(G_is_clash:FO P w K mg base 2 "is_clash" ["jobs", "piece", "job", "figures"] [] zY):FnOk P w K mg base (Q9 P w) 3 f fd ["rules"] (qY K C_Clash):=by
 refine F.okX sc_jobs_of ?_ ?_
 .rintro _ _ _ _ ⟨a,ts,R,rfl,_⟩;rfl
 .intro cdv A outer s H vs Q E hr h;have C8:=hu_of hr;have hu:=hr.units;obtain ⟨a_JOBS,m_JOBS,M_JOBS⟩:=T.x_JOBS;refine ⟨_,QSs.out (B5 (D9 (n:=1) sc_jobs_of.nd rfl vbP (E2 G_has_rule (hm hr) (qa_c (vi rT) (qa_c D4 A5))))
   (B5 (D9 (n:=2) sc_jobs_of.nd rfl vbQ cF)
   (B5 (N8 PassesOwn.leaving (P9 (K:=K) (vi rT)) (E8 (n:=3) sc_jobs_of.nd rfl vbR (.inl rfl)) (C1 (N8 PassesOwn.leaving (iF (K:=K) (E2 G_pieces_told (hm hr) (qa_c (vi rV) A5))) (E8 (n:=4) sc_jobs_of.nd rfl vbS (.inl rfl)) (B5 (qs_if (aF (K:=K) (E2 G_is_clash (hm hr) (qa_c (vi nA) (qa_c (vi rW) (qa_c (wX M_JOBS (R4 m_JOBS) (qe_ix (K:=K) (vi rV) A8)) (qa_c (vi vbL) A5)))))) (C1 (qS (fun _ _ _ _ _ _ _ I h1 h2=>qM I h1 h2) (qO G_Clash___init__ (hm hr) (qa_c (vi rW) A5)) (K:=K))) G5)
   (C1 (m3 C8 (vi nA) (vi rW) (wX M_JOBS (R4 m_JOBS) (qe_ix (K:=K) (vi rV) A8))))))))
   (B5 (qs_if (aF (K:=K) (E2 G_has_rule (hm hr) (qa_c (vi rT) (qa_c D4 A5)))) (C1 (m3 C8 (vi nA) D4 D4)) G5)
   (C1 (D6 (vi nA))))))),?_⟩
  obtain ⟨a,ts,R,rfl,hR,hl,R8,hok,hbl,q1,q2⟩:=h;obtain ⟨fN,MN⟩:=T.er_Clash;walk_at "rd";refine ⟨a,ts,R, "figures",rfl,hR,hl,fun H1 S1=>?_⟩;generalize hasW R "figures"=fg at q1 q2 ⊢
  intro d nd;have nZ:H d=none:=S1.free nd;have S2:Same H (A0 H1 d (.dK [])):=fun b o h=>C9 (S1 b o h) nd
  refine ⟨⟨_,.of (S2 _ _ hR.top)⟩,forL (xs:=ts.map V.ref) (fun i Y H2=>∃ (u v:Option V),Y=[some (.ref a),some (.bl fg),some (.ref d),u,v]/\Same H H2/\H2 d=some (.dK (A9 (keysP (C5 (R.take i))) fun t=>.str (job1 (C5 (R.take i)) t)))/\clGo fg [] (C5 (R.take i))=none)
   ⟨none,none,rfl,S2,by rw [A6];rfl,rfl⟩ (by rintro i Y H2 _ ⟨_,_,_,S,_⟩;exact .of (S _ _ hR.top)) ?_ ?_⟩
  .rintro i x Y H2 hx ⟨u,v,rfl,S,hd,hc⟩;obtain ⟨t,ht,rfl⟩:=J0 hx;obtain ⟨z,hz,C6⟩:=Paired.at hR.row ht;walk_at "rd";refine ⟨t,z,rfl,S _ _ C6,fun p H3 S3 hp=>⟨p,rfl,⟨_,hp⟩,forT (xs:=(D7 z).map V.str) (fun j Y H4=>∃ (v:Option V),Y=[some (.ref a),some (.bl fg),some (.ref d),some (.ref t),v]/\D0 K H4 p ((D7 z).map V.str)/\Same H H4/\H4 d=some (.dK (A9 (keysP (C5 (R.take i)++((D7 z).take j).map fun p=>(p,jobD z.1))) fun t=>.str (job1 (C5 (R.take i)++((D7 z).take j).map fun p=>(p,jobD z.1)) t)))/\clGo fg [] (C5 (R.take i)++((D7 z).take j).map fun p=>(p,jobD z.1))=none)
    ⟨v,rfl,hp,S.trans S3,by rw [d0,d2,M3];exact S3 _ _ hd,by rw [d0,d2,M3];exact hc⟩ (by rintro j Y H4 _ ⟨_,_,h,_⟩;exact h) ?_ ?_⟩⟩
   .rintro j x Y H4 gF ⟨v,rfl,kG,S4,Q6,N6⟩;obtain ⟨pc,dN,rfl⟩:=J0 gF;obtain ⟨e1,e2⟩:=xV hz dN;have hw:=cN (M0 dN);have L7:D0 K H4 t ((z.1::z.2).map V.str):=.of (S4 _ _ C6);have fQ:(keysP (C5 (R.take i)++((D7 z).take j).map fun p=>(p,jobD z.1))).length<=10000:=by
     have h1:=xT (C5 (R.take i)++((D7 z).take j).map fun p=>(p,jobD z.1));have h2:=congrArg List.length e2;rw [M6] at h2;lia
    have J8:∃ r,C5 R=(C5 (R.take i)++((D7 z).take j).map fun p=>(p,jobD z.1))++(pc,jobD z.1)::r:=by
     rw [<- e2];refine ⟨(C5 R).drop (((C5 (R.take i)).length+j)+1),?_⟩;have j2:=(F6.mp e1).1
     have:=(F6.mp e1).2
     rw [<- this,<- gI j2,W8]
    obtain ⟨rest,J8⟩:=J8;have uM:=hok (pc,jobD z.1) (by rw [J8];simp);rw [K5 dN,G2,<- j8];generalize i6:(C5 (R.take i)++((D7 z).take j).map fun p=>(p,jobD z.1))=pre at Q6 N6 fQ J8;walk_at "rd";refine ⟨_,.inr L7,V.str z.1,O1 _ _,Sum.inr z.1,rfl,V.str (jobD z.1),pY hw,d,pc,jobD z.1,fg,_,job1 pre,rfl,Q6,uM.1,fun H5 S5=>⟨_,rfl,?_⟩⟩;cases hb:Q4 fg (keysP pre) (job1 pre) pc (jobD z.1) with
    | true=>
     refine iteT ⟨by decide,fun x nx=>?_⟩;have hfirst:cQ fg (C5 R)=some pc:=by rw [J8];exact zT (e:=(pc,jobD z.1)) N6 hb
     exact ⟨s.heap.objs.size,x,pc,fN,rfl,A6,MN,T.na_Clash,uM.1,uM.2,fun dx nd ne=>⟨rfl,C_Clash,dx,(eZ nx nd ne).1,⟨fN,MN⟩,(q2 pc hfirst) dx _ ((S4.trans S5).trans (eZ nx nd ne).2.1) (eZ nx nd ne).2.2⟩⟩
    | false=>
     obtain ⟨n1,n2⟩:=zW hb;refine iteF ⟨_,.inr (L7.same S5),V.str z.1,O1 _ _,Sum.inr z.1,rfl,V.str (jobD z.1),pY hw,_,l8 (k:=Sum.inr pc) (S5 _ _ Q6) (by rw [V8];exact K9 (by lia)),(kG.same S5).dput (S5 _ _ Q6),(S4.trans S5).put nZ,?_,?_⟩
     .rw [A6];rw [ag7];unfold dd
      by_cases M4:pc∈keysP pre
      .rw [if_pos M4,iL _ M4];refine congrArg (fun x=>some (HO.dK x)) (O6 fun t ht=>?_);rw [qX ht]
       by_cases e:t=pc
       .rw [if_pos e,e,(n1 M4).1]
       .rw [if_neg e]
      .rw [if_neg M4,aI _ M4];refine congrArg (fun x=>some (HO.dK x)) (O6 fun t ht=>?_)
       by_cases e:t=pc
       .rw [if_pos e,e,zV M4]
       .rw [if_neg e,qX ((G1.mp ht).elim id fun q=>absurd (F7.mp q) e)]
     .exact zU (e:=(pc,jobD z.1)) N6 hb
   .rintro Y H4 ⟨v,rfl,kG,S4,Q6,N6⟩;walk_at "rd";rw [B3,J1] at Q6 N6;refine ⟨S4,?_,?_⟩
    .rw [pX hz];exact Q6
    .rw [pX hz];exact N6
  .rintro Y H2 ⟨u,v,rfl,S,hd,hc⟩;rw [B3,hR.len,J1] at hd hc;have q:=q1 hc;generalize job1 (C5 R)=g at hd q;walk_at "rd";refine ⟨a,ts,R, "blanks",rfl,hR.same S,hl,fun H3 S3=>⟨hasW R "blanks",rfl,?_⟩⟩;have V0:=S3 _ _ hd;have fZ:(" " : Str)∉keysP (C5 R):=fun h=>hbl ((cM _ _).mp h)
   have fQ:=xT (C5 R);have hg:∀ t∈keysP (C5 R),V.str (g t)=jobG g t:=fun t ht=>by
    unfold jobG;rw [if_neg (fun e=>fZ (by rw [<- e];exact ht))]
   by_cases hb:hasW R "blanks"=true
   .rw [hb];refine iteT ⟨_,l8 (k:=Sum.inr (" " : Str)) V0 (by rw [V8];exact K9 (by lia)),q d _ nZ ((S.trans S3).put nZ) ?_⟩;rw [A6,aI _ fZ];unfold X3;rw [if_pos hb];refine congrArg (fun x=>some (HO.dK x)) (O6 fun t ht=>?_);unfold jobG
    by_cases e:t=(" " : Str)
    .simp only [if_pos e]
    .simp only [if_neg e]
   .rw [Bool.not_eq_true] at hb;rw [hb];refine iteF (q d _ nZ (S.trans S3) ?_);unfold X3;rw [hb,if_neg J5,M3,V0];exact congrArg (fun x=>some (HO.dK x)) (O6 hg)
theorem sc_misused:FnScope ["rule", "jobs", "first"] ["rule", "jobs"] (C7 u8):=J4
abbrev afC:List Str:=["rule", "jobs", "first"]
theorem jB:VS afC u8 "rule" 0:=vq
theorem vbU:VS afC u8 "first" 2:=vq
theorem vbV:LS u8 "first":=lq
theorem ahg(F:FunD K "misused" "misused" u8 f fd)(T:Txt P w K mg C C_Clash C_NoLetter C_Round):FnOk P w K mg base F9 1 f fd ["rule", "jobs"] (zQ K):=by
 refine F.ok sc_misused ?_ ?_
 .rintro _ _ _ _ ⟨t,d,z,ks,g,rfl,_⟩;rfl
 .intro cdv A outer s H vs Q E hr h;have C8:=hu_of hr;have hu:=hr.units;refine ⟨_,QSs.out (B5 (qs_if (E4 (q_eq (K:=K) hu) (qe_ix (K:=K) (vi jB) A8) D4) (C1 (D6 (aG  (n6:CompOk ["rule", "jobs", "first"] (C7 u8).names _ ["piece", "jobs"] 1 [1]) (iF (K:=K) (X2 (K:=K) (vi jB) (R5 A8) (R5 A8))) (fun _ _ _ _ _=>E8 (n:=0) (show List.Nodup (["piece", "jobs"]:List Str) by decide +kernel) rfl (Or.inl rfl)) (fun _ _ _ _ _=>(iH (E4 (q_ne (K:=K) hu) (pW C8 (qv 1) (qv 0)) D4))) (fun _ _ _ _ _=>(qv 0))))) G5)
   (B5 (qs_if (E4 (q_eq (K:=K) hu) (qe_ix (K:=K) (vi jB) A8) D4) (B5 (wU (n:=2) sc_misused.nd rfl vbV (n6:CompOk ["rule", "jobs", "first"] (C7 u8).names _ ["piece", "jobs"] 1 [1]) (iF (K:=K) (X2 (K:=K) (vi jB) (R5 A8) (R5 A8))) (fun _ _ _ _ _=>E8 (n:=0) (show List.Nodup (["piece", "jobs"]:List Str) by decide +kernel) rfl (Or.inl rfl)) (fun _ _ _ _ _=>(iH (E4 (q_ne (K:=K) hu) (pW C8 (qv 1) (qv 0)) D4))) (fun _ _ _ _ _=>(qv 0)))
   (C1 (D6 (qe_op (q_add (K:=K)) (vi vbU) (aG  (n6:CompOk ["rule", "jobs", "first"] (C7 u8).names _ ["piece", "jobs"] 1 [1]) (iF (K:=K) (X2 (K:=K) (vi jB) (R5 A8) u5)) (fun _ _ _ _ _=>E8 (n:=0) (show List.Nodup (["piece", "jobs"]:List Str) by decide +kernel) rfl (Or.inl rfl)) (fun _ _ _ _ _=>(iH (E4 (pM (K:=K) hu) (pW C8 (qv 1) (qv 0)) (N4 (qa_c D4 (qa_c D4 A5)))))) (fun _ _ _ _ _=>(qv 0))))))) G5)
   (C1 (D6 (M9 A5))))),?_⟩
  obtain ⟨t,d,z,ks,g,rfl,ht,hd,hg,hl,q⟩:=h;have hT:D0 K H t ((z.1::z.2).map V.str):=.of ht;walk_at "rd";refine ⟨_,.inr hT,V.str z.1,O1 _ _,?_⟩;walk_at "rd"
  by_cases h1:z.1=("great" : Str)
  .rw [decide_eq_true h1];have B1:1<=((z.1::z.2).map V.str).length:=by rw [B3,J9];lia
   refine iteT (rSlR.t hT (g0 (k:=1) (by decide) B1) fun s ns=>?_);have ecut:cutV ((z.1::z.2).map V.str) (some 1) (some 2)=(z.2.take 1).map V.str:=by
    rw [show cutV ((z.1::z.2).map V.str) (some 1) (some 2)=_ from qH ((z.1::z.2).map V.str) (i:=1) (j:=2) (by decide),G3,gO,List.drop_zero,<- List.map_take]
   rw [ecut];have S1:Same H (A0 H s (.tup ((z.2.take 1).map V.str))):=Same.new ns;have hs:A0 H s (.tup ((z.2.take 1).map V.str)) s=some (.tup ((z.2.take 1).map V.str)):=A6;generalize A0 H s (.tup ((z.2.take 1).map V.str))=H1 at S1 hs;refine ⟨s,rfl,⟨_,.of hs⟩,compT (xs:=(z.2.take 1).map V.str) [some (.ref d)] rfl (fun D i ys H2=>ys=(((z.2.take 1).take i).filter (g8 ks g)).map V.str/\Same H1 H2) (fun D nD=>⟨rfl,Same.new nD⟩) (by rintro D i ys H2 nD _ ⟨_,S⟩;exact .of (S _ _ hs)) ?_ ?_⟩
   .rintro D i y ys H2 nD hi hy ⟨rfl,S⟩ hD X9;obtain ⟨p,hp,rfl⟩:=J0 hy;have T9:=S _ _ (S1 _ _ hd);rw [B3] at X9;have j2:=(F6.mp hp).1;rw [M6] at j2;walk_at "rd";refine ⟨.inl ⟨_,.inl T9⟩,_,aE (k:=Sum.inr p) T9,?_⟩;rw [L4,qV];refine zP (mQ hg p) (by decide +kernel) ⟨_,rfl,?_⟩;rw [show (!decide (jobV ks g p=V.str (Str.ofString "letter")))=g8 ks g p from rfl]
    by_cases e:g8 ks g p=true
    .rw [if_pos e];refine ⟨hD,by rw [B3];exact K9 (by lia),CW.put hi (by rw [B3];exact X9) ⟨?_,S.put nD⟩⟩;rw [K5 hp,b8,bM e,G2];rfl
    .rw [if_neg e];refine ⟨hD,hi,by rw [B3];lia,⟨_,rfl⟩,?_,S⟩;rw [K5 hp,b8,bN e,List.filter_nil,M3]
   .rintro D ys H2 nD ⟨rfl,S⟩ hD X9;refine q D H2 (S1.free nD) (S1.trans S) ?_;rw [hD,B3,J1];unfold misL;rw [if_pos h1]
  rw [decide_eq_false h1];refine iteF ⟨_,.inr hT,V.str z.1,O1 _ _,?_⟩;walk_at "rd"
  by_cases h2:z.1=("as" : Str)
  .rw [decide_eq_true h2];have B1:1<=((z.1::z.2).map V.str).length:=by rw [B3,J9];lia
   refine iteT (rSlR.t hT (g0 (k:=2) (by decide) B1) fun s ns=>?_);have ecut:cutV ((z.1::z.2).map V.str) (some 2) (some 3)=((z.2.drop 1).take 1).map V.str:=by
    rw [show cutV ((z.1::z.2).map V.str) (some 2) (some 3)=_ from qH ((z.1::z.2).map V.str) (i:=2) (j:=3) (by decide),G3,gO,<- List.map_drop,<- List.map_take]
   rw [ecut];have S1:Same H (A0 H s (.tup (((z.2.drop 1).take 1).map V.str))):=Same.new ns;have hs:A0 H s (.tup (((z.2.drop 1).take 1).map V.str)) s=some (.tup (((z.2.drop 1).take 1).map V.str)):=A6;generalize A0 H s (.tup (((z.2.drop 1).take 1).map V.str))=H1 at S1 hs;refine ⟨s,rfl,⟨_,.of hs⟩,compT (xs:=((z.2.drop 1).take 1).map V.str) [some (.ref d)] rfl (fun D i ys H2=>ys=((((z.2.drop 1).take 1).take i).filter (g8 ks g)).map V.str/\Same H1 H2) (fun D nD=>⟨rfl,Same.new nD⟩) (by rintro D i ys H2 nD _ ⟨_,S⟩;exact .of (S _ _ hs)) ?_ ?_⟩
   .rintro D i y ys H2 nD hi hy ⟨rfl,S⟩ hD X9;obtain ⟨p,hp,rfl⟩:=J0 hy;have T9:=S _ _ (S1 _ _ hd);rw [B3] at X9;have j2:=(F6.mp hp).1;rw [M6] at j2;walk_at "rd";refine ⟨.inl ⟨_,.inl T9⟩,_,aE (k:=Sum.inr p) T9,?_⟩;rw [L4,qV];refine zP (mQ hg p) (by decide +kernel) ⟨_,rfl,?_⟩;rw [show (!decide (jobV ks g p=V.str (Str.ofString "letter")))=g8 ks g p from rfl]
    by_cases e:g8 ks g p=true
    .rw [if_pos e];refine ⟨hD,by rw [B3];exact K9 (by lia),CW.put hi (by rw [B3];exact X9) ⟨?_,S.put nD⟩⟩;rw [K5 hp,b8,bM e,G2];rfl
    .rw [if_neg e];refine ⟨hD,hi,by rw [B3];lia,⟨_,rfl⟩,?_,S⟩;rw [K5 hp,b8,bN e,List.filter_nil,M3]
   rintro D ys H2 nD ⟨rfl,S⟩ hD X9;rw [B3,J1] at hD;have S2:=S1.trans S;have hT2:D0 K H2 t ((z.1::z.2).map V.str):=.of (S2 _ _ ht);refine rSlR.t hT2 (g0 (k:=3) (by decide) B1) fun s2 ns2=>?_
   have ecut2:cutV ((z.1::z.2).map V.str) (some 3) none=(z.2.drop 2).map V.str:=by
    rw [show cutV ((z.1::z.2).map V.str) (some 3) none=_ from cL ((z.1::z.2).map V.str) 3,G3,gO,<- List.map_drop]
   rw [ecut2];have S3:Same H2 (A0 H2 s2 (.tup ((z.2.drop 2).map V.str))):=Same.new ns2;have fM:A0 H2 s2 (.tup ((z.2.drop 2).map V.str)) s2=some (.tup ((z.2.drop 2).map V.str)):=A6;generalize A0 H2 s2 (.tup ((z.2.drop 2).map V.str))=H3 at S3 fM;refine ⟨s2,rfl,⟨_,.of fM⟩,compT (xs:=(z.2.drop 2).map V.str) [some (.ref d)] rfl (fun D i ys H4=>ys=(((z.2.drop 2).take i).filter (cP ks g)).map V.str/\Same H3 H4) (fun D nD=>⟨rfl,Same.new nD⟩) (by rintro D i ys H4 nD _ ⟨_,S⟩;exact .of (S _ _ fM)) ?_ ?_⟩
   .rintro D2 i y ys H4 nD2 hi hy ⟨rfl,S4⟩ hD2 dO;obtain ⟨p,hp,rfl⟩:=J0 hy;have Q6:=S4 _ _ (S3 _ _ (S2 _ _ hd));rw [B3] at dO;have j2:=(F6.mp hp).1;rw [k6] at j2;walk_at "rd";refine ⟨.inl ⟨_,.inl Q6⟩,_,aE (k:=Sum.inr p) Q6,?_⟩;rw [L4,qV];refine ⟨by decide,fun v nv=>?_⟩;refine rInR.l (.inr (.of A6)) (akh hg p) rfl ?_;rw [aoi hg p];refine ⟨_,rfl,?_⟩;rw [show (true ^^ (decide (jobV ks g p=V.str "letter") || decide (jobV ks g p=V.str "mark")))=cP ks g p by unfold cP;rw [Bool.true_xor]];have S5:=S4.trans (Same.new (u:=HO.tup [V.str (Str.ofString "letter"),V.str (Str.ofString "mark")]) nv)
    by_cases e:cP ks g p=true
    .rw [if_pos e];refine ⟨C9 hD2 nv,by rw [B3];exact K9 (by lia),CW.put hi (by rw [B3];exact dO) ⟨?_,S5.put nD2⟩⟩;rw [K5 hp,b8,bM e,G2];rfl
    .rw [if_neg e];refine ⟨C9 hD2 nv,hi,by rw [B3];lia,⟨_,rfl⟩,?_,S5⟩;rw [K5 hp,b8,bN e,List.filter_nil,M3]
   rintro D2 ys H4 nD2 ⟨rfl,S4⟩ hD2 dO;rw [B3,J1] at hD2;have hD4:=S4 _ _ (S3 _ _ hD);have f1:=gM (g8 ks g) ((z.2.drop 1).take 1);have f2:=gM (cP ks g) (z.2.drop 2);rw [M6,k6] at f1;rw [k6] at f2;refine rAddR.l hD4 hD2 (by rw [B3,B3];exact lS (by lia)) fun l nl=>?_
   refine q l _ ((S2.trans (S3.trans S4)).free nl) ((S2.trans (S3.trans S4)).trans (Same.new nl)) ?_;rw [A6,<- G2];unfold misL;rw [if_neg h1,if_pos h2]
  rw [decide_eq_false h2];refine iteF fun p np=>q p _ np (Same.new np) ?_
  rw [A6];unfold misL;rw [if_neg h1,if_neg h2];rfl
theorem sc_check_letters:FnScope ["rules", "jobs", "rule", "wrong"] ["rules", "jobs"] (C7 Z2):=J4
abbrev nB:List Str:=["rules", "jobs", "rule", "wrong"]
theorem vbW:VS nB Z2 "rules" 0:=vq
theorem vbX:VS nB Z2 "jobs" 1:=vq
theorem vbY:VS nB Z2 "rule" 2:=vq
theorem vbZ:VS nB Z2 "wrong" 3:=vq
theorem vb0:LS Z2 "rule":=lq
theorem vb1:LS Z2 "wrong":=lq
theorem adi(F:FunD K "check_letters" "check_letters" Z2 f fd)(T:Txt P w K mg C C_Clash C_NoLetter C_Round)(G_NoLetter___init__:EO P w K mg base 1 C_NoLetter "NoLetter" ["self", "piece"] (fA K C_NoLetter "piece"))(G_misused:FO P w K mg base 1 "misused" ["rule", "jobs"] [] (zQ K)):FnOk P w K mg base (Q9 P w) 3 f fd ["rules", "jobs"] (qW K C_NoLetter):=by
 refine F.okX sc_check_letters ?_ ?_
 .rintro _ _ _ _ ⟨a,d,ts,R,ks,g,rfl,_⟩;rfl
 .intro cdv A outer s H vs Q E hr h;have C8:=hu_of hr;have hu:=hr.units;refine ⟨_,QSs.out (C1 (N8 PassesOwn.leaving (P9 (K:=K) (vi vbW)) (E8 (n:=2) sc_check_letters.nd rfl vb0 (.inl rfl)) (B5 (D9 (n:=3) sc_check_letters.nd rfl vb1 (E2 G_misused (hm hr) (qa_c (vi vbY) (qa_c (vi vbX) A5))))
   (C1 (qs_if (aF (K:=K) (vi vbZ)) (C1 (qS (fun _ _ _ _ _ _ _ I h1 h2=>qM I h1 h2) (qO G_NoLetter___init__ (hm hr) (qa_c (qe_ix (K:=K) (vi vbZ) A8) A5)) (K:=K))) G5))))),?_⟩
  obtain ⟨a,d,ts,R,ks,g,rfl,hR,hd,hg,hw,q1,q2⟩:=h;obtain ⟨fN,MN⟩:=T.er_NoLetter;walk_at "rd";refine ⟨⟨_,.of hR.top⟩,forL (xs:=ts.map V.ref) (fun i Y H2=>∃ (u v:Option V),Y=[some (.ref a),some (.ref d),u,v]/\Same H H2/\(R.take i).flatMap (misL ks g)=[]) ⟨none,none,rfl,Q8 H,rfl⟩ (by rintro i Y H2 _ ⟨_,_,_,S,_⟩;exact .of (S _ _ hR.top)) ?_ ?_⟩
  .rintro i x Y H2 hx ⟨u,v,rfl,S,h0⟩;obtain ⟨t,ht,rfl⟩:=J0 hx;obtain ⟨z,hz,C6⟩:=Paired.at hR.row ht;obtain ⟨n1,n2⟩:=hw z (M0 hz);walk_at "rd";refine ⟨t,d,z,ks,g,rfl,S _ _ C6,S _ _ hd,hg,n1,fun p H3 np S3 hp=>⟨_,iI hp,?_⟩⟩;have o4:(R.take (i+1)).flatMap (misL ks g)=misL ks g z:=by
    rw [V1,hz,Z9,h0]
    simp
   cases hm:misL ks g z with
   | nil=>
    refine iteF ⟨S.trans S3,?_⟩;rw [o4,hm]
   | cons y more=>
    rw [hm] at hp;have hym:y∈z.2:=amv (ks:=ks) (g:=g) (by rw [hm];exact N1);have hfirst:(R.flatMap (misL ks g)).head?=some y:=by
     rw [<- W8 (i+1) R,Z9,o4,hm];rfl
    refine iteT ?_;walk_at "rd";refine ⟨_,.inl (.of hp),V.str y,O1 _ _,by decide,fun x nx=>?_⟩;exact ⟨s.heap.objs.size,x,y,fN,rfl,A6,MN,T.na_NoLetter,(n2 y hym).1,(n2 y hym).2,fun dx nd ne=>⟨rfl,C_NoLetter,dx,(eZ nx nd ne).1,⟨fN,MN⟩,(q2 y hfirst) dx _ ((S.trans S3).trans (eZ nx nd ne).2.1) (eZ nx nd ne).2.2⟩⟩
  .rintro Y H2 ⟨u,v,rfl,S,h0⟩;rw [B3,hR.len,J1] at h0;exact q1 (by rw [h0];rfl) H2 S
theorem ahh:FnScope ["rules", "word"] ["rules", "word"] (C7 aU):=J4
abbrev aiT:List Str:=["rules", "word"]
theorem vb2:VS aiT aU "rules" 0:=vq
theorem ahi(F:FunD K "line_of" "line_of" aU f fd)(T:Txt P w K mg C C_Clash C_NoLetter C_Round)(G_lined_up:u7 P w K mg base 4 "lined_up" ["rows"] [] (qU C_Round)):FnOk P w K mg base (Q9 P w) 5 f fd ["rules", "word"] (qZ K C_Round):=by
 refine F.okX ahh ?_ ?_
 .rintro _ _ _ _ ⟨a,ts,R,w,rfl,_⟩;rfl
 .intro cdv A outer s H vs Q E hr h;have C8:=hu_of hr;have hu:=hr.units;refine ⟨_,QSs.out (C1 (D6 (iR G_lined_up (hm hr) iQ (qa_c (aG  (n6:CompOk ["rules", "word"] (C7 aU).names _ ["rule", "word"] 1 [1]) (P9 (K:=K) (vi vb2)) (fun _ _ _ _ _=>E8 (n:=0) (show List.Nodup (["rule", "word"]:List Str) by decide +kernel) rfl (Or.inl rfl)) (fun _ _ _ _ _=>(iH (E4 (q_eq (K:=K) hu) (qe_ix (K:=K) (qv 0) A8) (qv 1)))) (fun _ _ _ _ _=>(qe_cT (cK (K:=K) (calm:=true)) T.b_list cE (qa_c (X2 (K:=K) (qv 0) (R5 A8) u5) A5)))) A5)))),?_⟩;obtain ⟨a,ts,R,w,rfl,hR,hl,X7,jL,q1,q2⟩:=h;walk_at "rd";refine ⟨⟨_,.of hR.top⟩,compL (xs:=ts.map V.ref) [some (.str w)] rfl (fun D i ys H4=>∃ qs:List Addr,ys=qs.map V.ref/\RowsAt H H4 D qs (rowsW (R.take i) w)) (fun D nD=>⟨[],rfl,⟨⟨A6,.nil⟩,by simp,fun r hr=>by rw [F7.mp hr];exact nD,Same.new nD⟩⟩)
   (by rintro D i ys H4 nD _ ⟨qs,_,RA⟩;exact .of (RA.same _ _ hR.top)) ?_ ?_⟩
  .rintro D i x ys H4 nD hi hx ⟨qs,rfl,RA⟩ hD hy;obtain ⟨t,ht,rfl⟩:=J0 hx;obtain ⟨z,hz,C6⟩:=Paired.at hR.row ht;have j2:i<R.length:=(F6.mp hz).1;have L7:D0 K H4 t ((z.1::z.2).map V.str):=.of (RA.same _ _ C6);have B1:1<=((z.1::z.2).map V.str).length:=by rw [B3,J9];lia
   walk_at "rd";refine ⟨_,.inr L7,V.str z.1,O1 _ _,?_⟩;walk_at "rd";refine iteD (fun e=>rSlR.t L7 (g0 (k:=1) (by decide) B1) fun p np=>?_) fun e=>⟨hD,CW.skip hi hy ⟨qs,rfl,?_⟩⟩
   .rw [G3,xC];walk_at "rd";refine rListR.l (.inr (.of A6)) fun p2 N0=>⟨C9 (C9 hD np) N0,?_,CW.put hi hy ⟨qs++[p2],by rw [G2];rfl,?_⟩⟩
    .rw [B3] at hy;rw [B3];exact K9 (by lia)
    .rw [xU hz,if_pos e];have n2:H4 p2=none:=(Same.new np).free N0;exact RA.grow (fun b o h=>C9 (C9 h np) N0) n2 A6
   .rw [xU hz,if_neg e];exact RA
  rintro D ys H4 nD ⟨qs,rfl,RA⟩ hD hy;rw [B3,hR.len,J1] at RA;exact ⟨D,qs,rowsW R w,rfl,RA.rows,X7,jL,fun l line H5 nl S5 hl5 run cov=>q1 l line H5 (RA.same.free nl) (RA.same.trans S5) hl5 ⟨run,cov⟩,fun dx l g H5 S5 h1 h2 h3=>q2 dx l g H5 (RA.same.trans S5) h1 h2 h3⟩
theorem sc_forms_of:FnScope ["rules", "forms", "rule"] ["rules"] (C7 aV):=J4
abbrev rX:List Str:=["rules", "forms", "rule"]
theorem vb3:VS rX aV "rules" 0:=vq
theorem vb4:VS rX aV "forms" 1:=vq
theorem rY:VS rX aV "rule" 2:=vq
theorem vb6:LS aV "forms":=lq
theorem vb7:LS aV "rule":=lq
theorem agd(F:FunD K "forms_of" "forms_of" aV f fd)(T:Txt P w K mg C C_Clash C_NoLetter C_Round):FnOk P w K mg base F9 1 f fd ["rules"] (yF K):=by
 refine F.ok sc_forms_of ?_ ?_
 .rintro _ _ _ _ ⟨a,ts,R,rfl,_⟩;rfl
 .intro cdv A outer s H vs Q E hr h;have C8:=hu_of hr;have hu:=hr.units;refine ⟨_,QSs.out (B5 (D9 (n:=1) sc_forms_of.nd rfl vb6 cF)
   (B5 (N8 PassesOwn.never (P9 (K:=K) (vi vb3)) (E8 (n:=2) sc_forms_of.nd rfl vb7 (.inl rfl)) (C1 (qs_if (E4 (q_eq (K:=K) hu) (qe_ix (K:=K) (vi rY) A8) D4) (C1 (T4 (qe_mB (K:=K) Y6 PySem.F.slot_list_extend PySem.F.type_list_extend (aib (K:=K)) (ajL (vi vb4) (qe_ix (K:=K) (vi rY) A8) (M9 A5)) (qa_c (X2 (K:=K) (vi rY) (R5 A8) u5) A5)))) G5)))
   (C1 (D6 (vi vb4))))),?_⟩
  obtain ⟨a,ts,R,rfl,hR,hg,hl,hf,q⟩:=h;walk_at "rd";intro d nd;refine ⟨⟨_,.of (C9 hR.top nd)⟩,forL (xs:=ts.map V.ref) (fun i Y H2=>∃ (u:Option V) (ad:Str->Addr),Y=[some (.ref a),some (.ref d),u]/\Same H H2/\H2 d=some (.dK (A9 (D5 (R.take i)) fun y=>.ref (ad y)))/\DL (A0 H d (.dK [])) H2 (D5 (R.take i)) ad (E6 (R.take i))) ⟨none,fun _=>d,rfl,Same.new nd,A6,⟨by simp [D5,K1,K0],by simp [D5,K1,K0],by simp [D5,K1,K0]⟩⟩ (by rintro i Y H2 _ ⟨_,_,_,S,_⟩;exact .of (S _ _ hR.top)) ?_ ?_⟩
  .rintro i x Y H2 hx ⟨u,ad,rfl,S,hd,dl⟩;obtain ⟨t,ht,rfl⟩:=J0 hx;obtain ⟨z,hz,C6⟩:=Paired.at hR.row ht;have hT:D0 K H2 t ((z.1::z.2).map V.str):=.of (S _ _ C6);walk_at "rd";refine ⟨_,.inr hT,V.str z.1,O1 _ _,?_⟩;walk_at "rd"
   by_cases gG:z.1=("great" : Str)
   .rw [decide_eq_true gG];refine iteT ?_;obtain ⟨w,ps⟩:=z;obtain rfl:w=("great" : Str):=gG;obtain ⟨y,fs,rfl⟩:∃ y fs,ps=y::fs:=by
     cases ps with
     | nil=>exact absurd rfl (hg _ (M0 hz) rfl)
     | cons y fs=>exact ⟨y,fs,rfl⟩
    have etk:R.take (i+1)=R.take i++[(("great" : Str),y::fs)]:=K5 hz;have X7:(E6 (R.take i) y).length+fs.length<=10000:=by
     have:=hf (i+1) y
     rw [etk,qG,if_pos rfl,G0] at this;exact this
    have fQ:(A9 (D5 (R.take i)) fun y=>V.ref (ad y)).length<=1000:=by
     rw [V8];unfold D5;have h1:=iB ((K1 (R.take i)).map (·.1)) [];have h2:(K1 (R.take i)).length<=(R.take i).length:=List.length_filterMap_le _ _;rw [B3,k7] at h1;rw [M6] at h2;lia
    have L5:J3 (((("great" : Str),y::fs).1::(("great" : Str),y::fs).2).map V.str) 1=some (V.str y):=l7 (j:=1) rfl;have y1:cutV (((("great" : Str),y::fs).1::(("great" : Str),y::fs).2).map V.str) (some 2) none=fs.map V.str:=cL _ 2;refine ⟨.inl ⟨_,.inl hd⟩,_,.inr hT,V.str y,L5,fun p np=>⟨_,C9 hd np,Nat.lt_of_le_of_lt fQ (by decide),Sum.inr y,rfl,fun v hv=>?_,fun hn=>?_⟩⟩
    .rw [L4] at hv
     by_cases hy:y∈D5 (R.take i)
     .rw [if_pos hy] at hv;cases hv;have bI:=dl.row y hy;have ndy:ad y≠d:=fun e=>by have:=dl.new y hy;rw [e,A6] at this;cases this
      have nHy:H (ad y)=none:=by have:=dl.new y hy;rw [A7 ndy] at this;exact this
      have T1:Same H2 (A0 H2 p (.lst [])):=Same.new np;generalize A0 H2 p (.lst [])=H3 at T1;refine ⟨X1 (T1 _ _ bI),rSlR.t (hT.same T1) (g0 (k:=2) (by decide) (by simp)) fun s ns=>?_⟩;rw [y1];have T2:Same H3 (A0 H3 s (.tup (fs.map V.str))):=Same.new ns;have hs:A0 H3 s (.tup (fs.map V.str)) s=some (.tup (fs.map V.str)):=A6;generalize A0 H3 s (.tup (fs.map V.str))=H4 at T2 hs;have T:=T1.trans T2;refine ⟨ad y,s,_,_,rfl,rfl,T _ _ bI,.of hs,by rw [B3,B3];exact lS (by lia),(S.trans T).put nHy,ad,?_,?_⟩
      .rw [A7 ndy.symm,T _ _ hd,etk,mE];unfold dd;rw [if_pos hy]
      .rw [etk,mE];unfold dd;rw [if_pos hy,<- G2];refine ((dl.same T).app hy (E6 (R.take i) y++fs)).congr fun x _=>?_
       rw [qG]
       by_cases p7:x=y
       .subst p7;simp
       .simp [p7]
     .rw [if_neg hy] at hv;cases hv
    .have hy:y∉D5 (R.take i):=fun hy=>by rw [L4,if_pos hy] at hn;cases hn
     have ndp:d≠p:=fun e=>by rw [<- e,hd] at np;cases np
     have n0:A0 H d (.dK []) p=none:=by rw [A7 ndp.symm];exact S.free np
     have dl2:=dl.more hy np n0;have o8:=dl2.put (b:=d) (o:=.dK (A9 (D5 (R.take i)++[y]) fun t=>if t=y then V.ref p else V.ref (ad t))) (u:=.dK []) A6;rw [aI (V.ref p) hy];have nX:A0 (A0 H2 p (.lst [])) d (.dK (A9 (D5 (R.take i)++[y]) fun t=>if t=y then V.ref p else V.ref (ad t))) p=some (.lst []):=by rw [A7 ndp.symm,A6]
     have V0:A0 (A0 H2 p (.lst [])) d (.dK (A9 (D5 (R.take i)++[y]) fun t=>if t=y then V.ref p else V.ref (ad t))) d=some (.dK (A9 (D5 (R.take i)++[y]) fun t=>if t=y then V.ref p else V.ref (ad t))):=A6;have S3:Same H (A0 (A0 H2 p (.lst [])) d (.dK (A9 (D5 (R.take i)++[y]) fun t=>if t=y then V.ref p else V.ref (ad t)))):=(S.trans (Same.new np)).put nd;generalize A0 (A0 H2 p (.lst [])) d (.dK (A9 (D5 (R.take i)++[y]) fun t=>if t=y then V.ref p else V.ref (ad t)))=H3 at o8 nX V0 S3;have hT3:D0 K H3 t (((("great" : Str),y::fs).1::(("great" : Str),y::fs).2).map V.str):=.of (S3 _ _ C6);refine ⟨X1 nX,rSlR.t hT3 (g0 (k:=2) (by decide) (by simp)) fun s ns=>?_⟩;rw [y1];have T2:Same H3 (A0 H3 s (.tup (fs.map V.str))):=Same.new ns;have hs:A0 H3 s (.tup (fs.map V.str)) s=some (.tup (fs.map V.str)):=A6;generalize A0 H3 s (.tup (fs.map V.str))=H4 at T2 hs;refine ⟨p,s,_,_,rfl,rfl,T2 _ _ nX,.of hs,by rw [B3];exact lS (by simp;lia),(S3.trans T2).put (S.free np),fun t=>if t=y then p else ad t,?_,?_⟩
     .rw [A7 ndp,T2 _ _ V0,etk,mE];unfold dd;rw [if_neg hy];refine congrArg (fun z=>some (HO.dK z)) (O6 fun x _=>?_);show (if x=y then V.ref p else V.ref (ad x))=V.ref (if x=y then p else ad x)
      by_cases p7:x=y
      .rw [if_pos p7,if_pos p7]
      .rw [if_neg p7,if_neg p7]
     .rw [etk,mE];unfold dd;rw [if_neg hy,p8]
      have:=((o8.same T2).app (z:=y) (by simp) fs).congr (G:=E6 (R.take i++[(("great" : Str),y::fs)])) fun x _=>by
       rw [qG]
       by_cases p7:x=y
       .subst p7;have e0:E6 (R.take i) x=[]:=by
         unfold E6;rw [dQ.mpr fun e he=>?_]
         .rfl
         .intro h;have h:e.1=x:=by simpa using h
          refine hy ?_;unfold D5;rw [aJ];exact .inr (E7.mpr ⟨e,he,h⟩)
        simp [e0]
       .simp [p7]
      rw [if_pos rfl] at this;exact this
   .rw [decide_eq_false gG];refine iteF ⟨S,ad,?_,?_⟩
    .rw [show D5 (R.take (i+1))=D5 (R.take i) by unfold D5;rw [qE hz,mD gG,M3]];exact hd
    .rw [show D5 (R.take (i+1))=D5 (R.take i) by unfold D5;rw [qE hz,mD gG,M3]];refine dl.congr fun x _=>?_
     unfold E6;rw [qE hz,mD gG,M3]
  .rintro Y H2 ⟨u,ad,rfl,S,hd,dl⟩;walk_at "rd";rw [B3,hR.len,J1] at hd dl;exact q d ad H2 nd S hd (dl.old (Same.new nd))
theorem sc_steps_of:FnScope ["rules", "letters", "marks", "steps", "place", "letter", "mark", "forms", "case", "form", "rule"] ["rules", "letters", "marks"] (C7 O2):=J4
abbrev g9:List Str:=["rules", "letters", "marks", "steps", "place", "letter", "mark", "forms", "case", "form", "rule"]
theorem vb8:VS g9 O2 "rules" 0:=vq
theorem vb9:VS g9 O2 "letters" 1:=vq
theorem vca:VS g9 O2 "marks" 2:=vq
theorem fG:VS g9 O2 "steps" 3:=vq
theorem vcc:VS g9 O2 "place" 4:=vq
theorem rZ:VS g9 O2 "letter" 5:=vq
theorem vce:VS g9 O2 "mark" 6:=vq
theorem vcf:VS g9 O2 "forms" 7:=vq
theorem vcg:VS g9 O2 "case" 8:=vq
theorem vch:VS g9 O2 "form" 9:=vq
theorem sA:VS g9 O2 "rule" 10:=vq
theorem vcj:LS O2 "steps":=lq
theorem vck:LS O2 "place":=lq
theorem vcl:LS O2 "letter":=lq
theorem vcm:LS O2 "mark":=lq
theorem vcn:LS O2 "forms":=lq
theorem vco:LS O2 "case":=lq
theorem vcp:LS O2 "form":=lq
theorem vcq:LS O2 "rule":=lq
theorem age(F:FunD K "steps_of" "steps_of" O2 f fd)(T:Txt P w K mg C C_Clash C_NoLetter C_Round)(G_forms_of:FO P w K mg base 1 "forms_of" ["rules"] [] (yF K)):FnOk P w K mg base F9 2 f fd ["rules", "letters", "marks"] (yJ K):=by
 refine F.ok sc_steps_of ?_ ?_
 .rintro _ _ _ _ ⟨a,b,c,ts,R,L,M,F,rfl,_⟩;rfl
 .intro cdv A outer s H vs Q E hr h;have C8:=hu_of hr;have hu:=hr.units;refine ⟨_,QSs.out (B5 (D9 (n:=3) sc_steps_of.nd rfl vcj cF)
   (B5 (N8 PassesOwn.never (mB T.b_enumerate (qa_c (vi vb9) A5)) (cJ (K:=K) (n:=2) (V6 ((E8 (n:=4) sc_steps_of.nd rfl vck (.inl rfl))) (V6 ((E8 (n:=5) sc_steps_of.nd rfl vcl (.inl rfl))) cI))) (C1 (m3 C8 (vi fG) (vi rZ) (N4 (qa_c (N4 (qa_c (pJ T.g_LETTER) (qa_c (vi vcc) (qa_c A8 A5)))) A5)))))
   (B5 (N8 PassesOwn.never (mB T.b_enumerate (qa_c (vi vca) A5)) (cJ (K:=K) (n:=2) (V6 ((E8 (n:=4) sc_steps_of.nd rfl vck (.inl rfl))) (V6 ((E8 (n:=6) sc_steps_of.nd rfl vcm (.inl rfl))) cI))) (C1 (m3 C8 (vi fG) (vi vce) (N4 (qa_c (N4 (qa_c (pJ T.g_MARK) (qa_c (vi vcc) (qa_c A8 A5)))) A5)))))
   (B5 (D9 (n:=7) sc_steps_of.nd rfl vcn (E2 G_forms_of (hm hr) (qa_c (vi vb8) A5)))
   (B5 (pO PassesOwn.never (vi vcf) (E8 (n:=5) sc_steps_of.nd rfl vcl (.inl rfl)) (C1 (N8 PassesOwn.never (ajV T.b_enumerate (qa_c (V5 C8 (vi vcf) (vi rZ)) A5)) (cJ (K:=K) (n:=2) (V6 ((E8 (n:=8) sc_steps_of.nd rfl vco (.inl rfl))) (V6 ((E8 (n:=9) sc_steps_of.nd rfl vcp (.inl rfl))) cI))) (C1 (m3 C8 (vi fG) (vi vch) (N4 (qa_c (N4 (qa_c (pJ T.g_LETTER) (qa_c (qe_ix (K:=K) (qe_ix (K:=K) (V5 C8 (vi fG) (vi rZ)) A8) A8) (qa_c (vi vcg) A5)))) A5)))))))
   (B5 (N8 PassesOwn.never (P9 (K:=K) (vi vb8)) (E8 (n:=10) sc_steps_of.nd rfl vcq (.inl rfl)) (C1 (qs_if (E4 (q_eq (K:=K) hu) (qe_ix (K:=K) (vi sA) A8) D4) (C1 (m3 C8 (vi fG) (qe_ix (K:=K) (vi sA) A8) (qe_cT (xA (K:=K)) T.b_tuple wP (qa_c (aG  (n6:CompOk ["rules", "letters", "marks", "steps", "place", "letter", "mark", "forms", "case", "form", "rule"] (C7 O2).names _ ["part", "steps"] 1 [3]) (iF (K:=K) (X2 (K:=K) (vi sA) (R5 A8) u5)) (fun _ _ _ _ _=>E8 (n:=0) (show List.Nodup (["part", "steps"]:List Str) by decide +kernel) rfl (Or.inl rfl)) (fun _ _ _ _ _=>iG) (fun _ _ _ _ _=>(qe_ix (K:=K) (V5 C8 (qv 1) (qv 0)) A8))) A5)))) G5)))
   (C1 (D6 (vi fG))))))))),?_⟩
  obtain ⟨a,b,c,ts,R,L,M,F,rfl,hR,md,hb,hc,Z5,hRl,X7,uN,q⟩:=h;have B1:L.length+M.length+((D5 R).flatMap (E6 R)).length+(asKs R).length<=50000:=by
   unfold allKs at uN;simp only [G0] at uN;exact uN
  walk_at "rd";intro d nd;have ndR:∀ {x:Addr} {o:HO},H x=some o->x≠d:=fun h e=>by rw [e,nd] at h;cases h
  refine ⟨⟨_,C9 hb nd⟩,forE (xs:=L.map V.str) (fun i Y H2=>∃ (u v w x y z r:Option V),Y=[some (.ref a),some (.ref b),some (.ref c),some (.ref d),u,v,w,x,y,z,r]/\StI H H2 d (L.take i) F)
   ⟨none,none,none,none,none,none,none,rfl,Same.new nd,fun _=>d,A6,by simp [K0]⟩ (by rintro i Y H2 ⟨_,_,_,_,_,_,_,_,S⟩;exact S.same _ _ hb) ?_ ?_⟩
  .rintro i x t Y H2 hx ⟨u,v,w,x',y,z,r,rfl,S⟩ nt;obtain ⟨l,hl,rfl⟩:=J0 hx;have hi:i<L.length:=(F6.mp hl).1;walk_at "rd";refine ⟨_,.of A6,rfl,_,_,rfl,_,_,rfl,rfl,by decide,fun p np=>⟨by decide,fun p1 O7=>?_⟩⟩;rw [K5 hl];exact StI.put nd (((S.more (Same.new nt)).more (Same.new np)).more (Same.new O7)) (by rw [M6];lia) (by
    rw [md.lt i l hl];exact StepAt.one A6 (C9 A6 O7))
  rintro Y H2 ⟨u,v,w,x',y,z,r,rfl,S⟩;rw [B3,J1] at S;walk_at "rd";refine ⟨⟨_,S.same _ _ hc⟩,forE (xs:=M.map V.str) (fun i Y H2=>∃ (u v w x y z r:Option V),Y=[some (.ref a),some (.ref b),some (.ref c),some (.ref d),u,v,w,x,y,z,r]/\StI H H2 d (L++M.take i) F)
   ⟨u,v,w,x',y,z,r,rfl,by rw [d0,M3];exact S⟩ (by rintro i Y H2 ⟨_,_,_,_,_,_,_,_,S⟩;exact S.same _ _ hc) ?_ ?_⟩
  .clear S;rintro i x t Y H2 hx ⟨u,v,w,x',y,z,r,rfl,S⟩ nt;obtain ⟨l,hl,rfl⟩:=J0 hx;have hi:i<M.length:=(F6.mp hl).1;walk_at "rd";refine ⟨_,.of A6,rfl,_,_,rfl,_,_,rfl,rfl,by decide,fun p np=>⟨by decide,fun p1 O7=>?_⟩⟩;rw [K5 hl,<- j8];exact StI.put nd (((S.more (Same.new nt)).more (Same.new np)).more (Same.new O7)) (by rw [G0,M6];lia) (by
    rw [md.mr i l hl];exact StepAt.one A6 (C9 A6 O7))
  clear S H2 u v w x' y z r;rintro Y H2 ⟨u,v,w,x',y,z,r,rfl,S⟩;rw [B3,J1] at S;walk_at "rd";refine ⟨a,ts,R,rfl,hR.same S.same,fun z hz e=>md.ne z hz (.inr e),hRl,X7,fun fd af H3 nfd S3 gE dl=>?_⟩;have nf0:H fd=none:=S.same.free nfd;have nf1:fd≠d:=fun e=>by
   obtain ⟨ad,h1,_⟩:=S.made;rw [<- e,nfd] at h1;cases h1
  have S':=S.more S3;have C6:=dl.row;clear S S3 dl nfd H2;refine ⟨fd,rfl,_,gE,fun o=>forD (fun i Y H4=>∃ (u v w y z r:Option V),Y=[some (.ref a),some (.ref b),some (.ref c),some (.ref d),u,v,w,some (.ref fd),y,z,r]/\FoI H H4 d fd o (D5 R) af (E6 R) (L++M++((D5 R).take i).flatMap (E6 R)) F)
   ⟨u,v,w,y,z,r,rfl,⟨A6,fun y hy=>by rw [A7 (fun e=>by have:=C6 y hy;rw [e,gE] at this;cases this)];exact C6 y hy,by rw [d0,List.flatMap_nil,M3];exact S'.frz gE nf0 nf1⟩⟩ (by rintro i Y H4 ⟨_,_,_,_,_,_,_,h⟩;exact h.frz) ?_ ?_⟩
  .rintro i k v' Y H4 hk ⟨u,v,w,y,z,r,rfl,J⟩;obtain ⟨l,hl,e⟩:=J0 (f:=fun t=>((Sum.inr t:C2),V.ref (af t))) hk;obtain ⟨rfl,rfl⟩:=Prod.mk.inj e;have kO:l∈D5 R:=M0 hl;have hlL:=md.gl l kO;have uL:(((D5 R).take i).flatMap (E6 R)).length+(E6 R l).length<=((D5 R).flatMap (E6 R)).length:=by
    have e:(D5 R).flatMap (E6 R)=((D5 R).take i).flatMap (E6 R)++E6 R l++((D5 R).drop (i+1)).flatMap (E6 R):=by
     have:=W8 (i+1) (D5 R)
     rw [K5 hl] at this;rw [<- this,Z9,Z9,y4,List.flatMap_nil,M3];rw [this]
    rw [e,G0,G0];lia
   walk_at "rd";refine ⟨V.ref (af l),.inl ⟨_,Sum.inr l,.inr ⟨o,J.frz⟩,rfl,by rw [L4,if_pos kO]⟩,af l,rfl,⟨_,J.rows l kO⟩,forE1 (xs:=(E6 R l).map V.str) (fun j Y H5=>∃ (y z r:Option V),Y=[some (.ref a),some (.ref b),some (.ref c),some (.ref d),u,some (kV (Sum.inr l)),w,some (.ref fd),y,z,r]/\FoI H H5 d fd o (D5 R) af (E6 R) (L++M++((D5 R).take i).flatMap (E6 R)++(E6 R l).take j) F) ⟨y,z,r,rfl,by rw [d0,M3];exact J⟩ (by rintro j Y H5 ⟨_,_,_,_,h⟩;exact h.rows l kO) ?_ ?_⟩
   .clear J y z r;rintro j x t Y H5 hx ⟨y,z,r,rfl,J⟩ nt;obtain ⟨f,hf,rfl⟩:=J0 hx;have hj:j<(E6 R l).length:=(F6.mp hf).1;have T1:Same H5 (A0 H5 t (.tup [.int ((j+1:Nat):Int),.str f])):=Same.new nt;have ht:A0 H5 t (.tup [.int ((j+1:Nat):Int),.str f]) t=some (.tup [.int ((j+1:Nat):Int),.str f]):=A6;generalize A0 H5 t (.tup [.int ((j+1:Nat):Int),.str f])=H6 at T1 ht ⊢
    have J6:=J.more T1;obtain ⟨ad,h1,h2⟩:=J6.st.made;have M4:l∈K0 [] (L++M++((D5 R).take i).flatMap (E6 R)++(E6 R l).take j):=by
     rw [aJ];exact .inr (O4 _ (O4 _ (O4 _ hlL)))
    obtain ⟨tt,e1,e2⟩:=(h2 l M4).ex;rw [md.letter hlL] at e2;obtain ⟨t0,rfl,e3⟩:∃ t0,tt=[t0]/\H6 t0=some (tupT (2,(L.idxOf l:Int),0)):=by
     cases e2 with
     | cons h t=>cases t;exact ⟨_,rfl,h⟩
    walk_at "rd";refine ⟨_,.of ht,rfl,_,_,rfl,_,_,rfl,rfl,V.ref (ad l),.inl ⟨_,Sum.inr l,.inl h1,rfl,by rw [L4,if_pos M4]⟩,?_⟩;walk_at "rd";refine ⟨_,.inr (.of e1),V.ref t0,O1 _ _,?_⟩;walk_at "rd";refine ⟨_,.inr (.of e3),V.int (L.idxOf l:Int),l7 (j:=1) rfl,by decide,fun p np=>⟨by decide,fun p1 O7=>?_⟩⟩;rw [K5 hf,<- j8];exact FoI.put nd ((J6.more (Same.new np)).more (Same.new O7)) (by simp only [G0,M6];lia) (by
     rw [md.gr l kO j f hf];exact StepAt.one A6 (C9 A6 O7))
   .rintro Y H5 ⟨y,z,r,rfl,J⟩;rw [B3,J1] at J;refine ⟨⟨_,_,_,_,_,_,rfl⟩,?_⟩;rw [K5 hl,Z9,y4,List.flatMap_nil,M3,<- j8];exact J
  rintro Y H4 ⟨u,v,w,y,z,r,rfl,J⟩;rw [V8,J1] at J;have S5:=J.st.thaw (o:=.dK (A9 (D5 R) fun y=>V.ref (af y))) J.frz nf0 nf1;generalize A0 H4 fd (.dK (A9 (D5 R) fun y=>V.ref (af y)))=H5 at S5 ⊢
  clear J gE C6;walk_at "rd";refine ⟨⟨_,.of (S5.same _ _ hR.top)⟩,forL (xs:=ts.map V.ref) (fun i Y H6=>∃ (r:Option V),Y=[some (.ref a),some (.ref b),some (.ref c),some (.ref d),u,v,w,some (.ref fd),y,z,r]/\StI H H6 d (L++M++(D5 R).flatMap (E6 R)++asKs (R.take i)) F) ⟨r,rfl,by rw [d0];rw [show asKs []=[] from rfl,M3];exact S5⟩ (by rintro i Y H6 _ ⟨_,_,S⟩;exact .of (S.same _ _ hR.top)) ?_ ?_⟩
  .clear S5 r;rintro i x Y H6 hx ⟨r,rfl,S⟩;obtain ⟨t,ht,rfl⟩:=J0 hx;obtain ⟨zz,hz,C6⟩:=Paired.at hR.row ht;have oA:=M0 hz;have hT:D0 K H6 t ((zz.1::zz.2).map V.str):=.of (S.same _ _ C6);walk_at "rd";refine ⟨_,.inr hT,V.str zz.1,O1 _ _,?_⟩;walk_at "rd"
   by_cases has:zz.1=("as" : Str)
   .rw [decide_eq_true has];refine iteT ?_;obtain ⟨w1,ps⟩:=zz;obtain rfl:w1=("as" : Str):=has;obtain ⟨p,qs,rfl⟩:∃ p qs,ps=p::qs:=by
     cases ps with
     | nil=>exact absurd rfl (md.ne _ oA (.inl rfl))
     | cons p qs=>exact ⟨p,qs,rfl⟩
    have y1:cutV (((("as" : Str),p::qs).1::(("as" : Str),p::qs).2).map V.str) (some 2) none=qs.map V.str:=cL _ 2;have hql:qs.length<=1000:=by have:=Z5 _ oA;simp only [J9] at this;lia
    have uO:=aj0 (R.take i);rw [M6] at uO;refine rSlR.t hT (g0 (k:=2) (by decide) (by simp)) fun s ns=>?_
    rw [y1];have T1:Same H6 (A0 H6 s (.tup (qs.map V.str))):=Same.new ns;have hs:A0 H6 s (.tup (qs.map V.str)) s=some (.tup (qs.map V.str)):=A6;generalize A0 H6 s (.tup (qs.map V.str))=H7 at T1 hs;have S7:=S.more T1;have hT7:D0 K H7 t (((("as" : Str),p::qs).1::(("as" : Str),p::qs).2).map V.str):=D0.same T1 hT;clear hT S;refine ⟨s,rfl,⟨_,.of hs⟩,compT (xs:=qs.map V.str) [some (.ref d)] rfl (fun D j ys H8=>∃ bJ:List Addr,ys=bJ.map V.ref/\AsI H H7 H8 d (L++M++(D5 R).flatMap (E6 R)++asKs (R.take i)) F bJ ((qs.take j).map fun q=>(F q).headD (0,0,0))) (fun D nD=>⟨[],rfl,S7.more (Same.new nD),.nil,Same.new nD⟩) (by rintro D j ys H8 nD _ ⟨_,_,h⟩;exact .of (h.sm _ _ hs)) ?_ ?_⟩
    .rintro D j yv ys H8 nD hi hy ⟨bJ,rfl,J⟩ hD X9;obtain ⟨qq,hq,rfl⟩:=J0 hy;have hqb:=md.pt _ oA rfl qq (M0 hq);obtain ⟨st,o3⟩:=md.base hqb;obtain ⟨ad,h1,h2⟩:=J.st.made;have M4:qq∈K0 [] (L++M++(D5 R).flatMap (E6 R)++asKs (R.take i)):=by
      rw [aJ];refine .inr (O4 _ (O4 _ (G1.mpr hqb)))
     obtain ⟨tt,e1,e2⟩:=(h2 qq M4).ex;rw [o3] at e2;obtain ⟨t0,rfl,e3⟩:∃ t0,tt=[t0]/\H8 t0=some (tupT st):=by
      cases e2 with
      | cons h t=>cases t;exact ⟨_,rfl,h⟩
     walk_at "rd";refine ⟨V.ref (ad qq),.inl ⟨_,Sum.inr qq,.inl h1,rfl,by rw [L4,if_pos M4]⟩,?_⟩;walk_at "rd";have nY:bJ.length<=1000:=by
      have:=Paired.length J.pr
      rw [B3,M6] at this;lia
     refine ⟨_,.inr (.of e1),V.ref t0,O1 _ _,hD,by rw [B3];exact K9 (by lia),CW.put hi X9 ⟨bJ++[t0],by rw [G2];rfl,?_⟩⟩;refine AsI.putL (f:=D) ⟨J.st,?_,J.sm⟩ hD (S7.same.free nD) nD;rw [K5 hq,G2];refine Paired.snoc J.pr ?_;show H8 t0=some (tupT ((F qq).headD (0,0,0)));rw [o3];exact e3
    rintro D ys H8 nD ⟨bJ,rfl,J⟩ hD X9;rw [B3,J1] at J;rw [tup_r];refine rTupR.l (.of hD) fun p1 O7=>?_
    have L5:J3 (((("as" : Str),p::qs).1::(("as" : Str),p::qs).2).map V.str) 1=some (V.str p):=l7 (j:=1) rfl;have S8:Same H8 (A0 H8 p1 (.tup (bJ.map V.ref))):=Same.new O7;refine ⟨_,.inr (D0.same (J.sm.trans S8) hT7),V.str p,L5,?_⟩;rw [yG hz,yI,<- j8];refine StI.put nd (J.st.more S8) (by simp only [G0];lia) ?_;rw [md.as _ oA rfl p qs rfl];exact ⟨bJ,A6,f6 J.pr fun t s e=>S8 _ _ e⟩
   .rw [decide_eq_false has];refine iteF ?_;rw [yG hz,yH has,M3];exact S
  rintro Y H6 ⟨r,rfl,S⟩;rw [B3,hR.len,J1] at S;walk_at "rd";exact q d H6 nd S.same S.made
theorem adb:FnScope ["self", "rules"] ["self", "rules"] (C7 aW):=J4
abbrev ab9:List Str:=["self", "rules"]
theorem v3:VS ab9 aW "self" 0:=vq
theorem cT:VS ab9 aW "rules" 1:=vq
theorem adc(F:FunD K "__init__" "Order.__init__" aW f fd)(T:Txt P w K mg C C_Clash C_NoLetter C_Round)(G_has_rule:FO P w K mg base 1 "has_rule" ["rules", "word"] [] (spHas K))(G_jobs_of:u7 P w K mg base 3 "jobs_of" ["rules"] [] (qY K C_Clash))(G_check_letters:u7 P w K mg base 3 "check_letters" ["rules", "jobs"] [] (qW K C_NoLetter))(G_line_of:u7 P w K mg base 5 "line_of" ["rules", "word"] [] (qZ K C_Round))(G_steps_of:FO P w K mg base 2 "steps_of" ["rules", "letters", "marks"] [] (yJ K)):FnOk P w K mg base (Q9 P w) 6 f fd ["self", "rules"] (mS C C_Clash C_NoLetter C_Round):=by
 refine F.okX adb ?_ ?_
 .rintro _ _ _ _ ⟨x,dx,a,ts,R,rfl,_⟩;rfl
 .intro cdv A outer s H vs Q E hr h;have C8:=hu_of hr;have hu:=hr.units;refine ⟨_,QSs.out (B5 (eR (K:=K) (vi v3) (E2 G_has_rule (hm hr) (qa_c (vi cT) (qa_c D4 A5))))
   (B5 (eR (K:=K) (vi v3) (E2 G_has_rule (hm hr) (qa_c (vi cT) (qa_c D4 A5))))
   (B5 (eR (K:=K) (vi v3) (iR G_jobs_of (hm hr) iQ (qa_c (vi cT) A5)))
   (B5 (T4 (iR G_check_letters (hm hr) iQ (qa_c (vi cT) (qa_c (pK (K:=K) (vi v3)) A5))))
   (B5 (eR (K:=K) (vi v3) (iR G_line_of (hm hr) iQ (qa_c (vi cT) (qa_c D4 A5))))
   (B5 (eR (K:=K) (vi v3) (iR G_line_of (hm hr) iQ (qa_c (vi cT) (qa_c D4 A5))))
   (C1 (eR (K:=K) (vi v3) (E2 G_steps_of (hm hr) (qa_c (vi cT) (qa_c (pK (K:=K) (vi v3)) (qa_c (pK (K:=K) (vi v3)) A5)))))))))))),?_⟩
  obtain ⟨x,dx,a,ts,R,rfl,hx,hR,rw',q1,qc,qn,qr⟩:=h;have lp:∀ (f:Str) (y:V) (fs:List (Str×V)),(putF f y fs).length<=fs.length+1:=oO;walk_at "rd";refine ⟨a,ts,R, "figures",rfl,hR,rw'.len,fun H1 S1=>⟨C,dx,[],S1 _ _ hx,T.cl,T.na_figures,by decide,?_⟩⟩;generalize hF1:putF (Str.ofString "figures") (V.bl (hasW R (Str.ofString "figures"))) []=F1;have l1:F1.length<=1:=by rw [<- hF1];exact lp _ _ _
  have B2:SameBut x H (A0 H1 x (.ins C dx F1)):=(Same.but S1).at;have w6:A0 H1 x (.ins C dx F1) x=some (.ins C dx F1):=A6;generalize A0 H1 x (.ins C dx F1)=H2 at B2 w6;have hR2:=hR.but B2 hx;refine ⟨a,ts,R, "behind",rfl,hR2,rw'.len,fun H3 S3=>⟨C,dx,F1,S3 _ _ w6,T.cl,T.na_behind,by lia,?_⟩⟩;generalize hF2:putF (Str.ofString "behind") (V.bl (hasW R (Str.ofString "behind"))) F1=F2;have l2:F2.length<=2:=by rw [<- hF2];exact E1 (lp _ _ _) (by lia)
  have B4:SameBut x H2 (A0 H3 x (.ins C dx F2)):=(Same.but S3).at;have gF:A0 H3 x (.ins C dx F2) x=some (.ins C dx F2):=A6;generalize A0 H3 x (.ins C dx F2)=H4 at B4 gF;have hR4:=hR2.but B4 w6;refine ⟨a,ts,R,rfl,hR4,rw'.len,rw'.plen,rw'.short,rw'.nb,fun U0 j H5 nj S5 hj=>?_,fun p hp dx' H5 S5 hd=>qc p hp dx' H5 ((B2.trans B4).trans (Same.but S5)) hd⟩
  replace hj:H5 j=some (.dK (A9 (keysP (C5 R)++X3 R) (jobG (gR R)))):=hj
  have q2:=q1 U0;have njx:j≠x:=fun e=>by rw [e,gF] at nj;cases nj
  generalize hF3:putF (Str.ofString "jobs") (V.ref j) F2=F3;have l3:F3.length<=3:=by rw [<- hF3];exact E1 (lp _ _ _) (by lia)
  have k3:F3.lookup (Str.ofString "jobs")=some (V.ref j):=by rw [<- hF3,eF,if_pos rfl]
  refine ⟨C,dx,F2,S5 _ _ gF,T.cl,T.na_jobs,by lia,?_⟩;rw [hF3];have B6:SameBut x H4 (A0 H5 x (.ins C dx F3)):=(Same.but S5).at;have kP:A0 H5 x (.ins C dx F3) x=some (.ins C dx F3):=A6;have uP:A0 H5 x (.ins C dx F3) j=some (.dK (A9 (keysP (C5 R)++X3 R) (jobG (gR R)))):=by rw [A7 njx];exact hj
  generalize A0 H5 x (.ins C dx F3)=H6 at B6 kP uP;have hR6:=hR4.but B6 gF;refine ⟨C,dx,F3,kP,T.cl,T.na_jobs,_,k3,a,j,ts,R,_,_,rfl,hR6,uP,aki _,fun z hz=>⟨rw'.zl z hz,fun p hp=>⟨E1 (rw'.ok z hz p hp).1 (by decide),(rw'.ok z hz p hp).2⟩⟩,fun hm H7 S7=>?_,fun p hp dx' H7 S7 hd=>qn p U0 hp dx' H7 (((B2.trans B4).trans B6).trans (Same.but S7)) hd⟩;have q:=q2 hm;refine ⟨a,ts,R, "row",rfl,hR6.same S7,rw'.len,rw'.f1,rw'.rows _,fun ll L H8 nll S8 uA line1=>?_,fun dx' l g H8 S8 h1 h2 h3=>qr U0 hm "row" (.inl rfl) dx' l g H8 (((B2.trans B4).trans B6).trans (Same.but (S7.trans S8))) h1 h2 h3⟩;have hx8:=S8 _ _ (S7 _ _ kP);have nlx:ll≠x:=fun e=>by rw [e,S7 _ _ kP] at nll;cases nll
  have llen:L.length<=10000:=by
   rw [xM (iM _) line1.1 line1.2];exact E1 (eP _) (E1 rw'.f1 (by decide))
  generalize hF4:putF (Str.ofString "letter_line") (V.ref ll) F3=F4;have l4:F4.length<=4:=by rw [<- hF4];exact E1 (lp _ _ _) (by lia)
  refine ⟨C,dx,F3,hx8,T.cl,T.na_letter_line,by lia,?_⟩;rw [hF4];have B9:SameBut x H6 (A0 H8 x (.ins C dx F4)):=(Same.but (S7.trans S8)).at;have oB:A0 H8 x (.ins C dx F4) x=some (.ins C dx F4):=A6;have kQ:A0 H8 x (.ins C dx F4) ll=some (.lst (L.map V.str)):=by rw [A7 nlx];exact uA
  generalize A0 H8 x (.ins C dx F4)=H9 at B9 oB kQ;have hR9:=hR6.but B9 kP;refine ⟨a,ts,R, "marks",rfl,hR9,rw'.len,rw'.f2,rw'.rows _,fun ml M U8 nml kR hml line2=>?_,fun dx' l g U8 kR h1 h2 h3=>qr U0 hm "marks" (.inr ⟨rfl,L,line1⟩) dx' l g U8 ((((B2.trans B4).trans B6).trans B9).trans (Same.but kR)) h1 h2 h3⟩;have pl:=rw'.good U0 hm line1 line2;have nmx:ml≠x:=fun e=>by rw [e,oB] at nml;cases nml
  have mlen:M.length<=10000:=by
   rw [xM (iM _) line2.1 line2.2];exact E1 (eP _) pl.f2
  generalize hF5:putF (Str.ofString "mark_line") (V.ref ml) F4=F5;have l5:F5.length<=5:=by rw [<- hF5];exact E1 (lp _ _ _) (by lia)
  refine ⟨C,dx,F4,kR _ _ oB,T.cl,T.na_mark_line,by lia,?_⟩;rw [hF5];have B11:SameBut x H9 (A0 U8 x (.ins C dx F5)):=(Same.but kR).at;have Y0:A0 U8 x (.ins C dx F5) x=some (.ins C dx F5):=A6;have j3:A0 U8 x (.ins C dx F5) ml=some (.lst (M.map V.str)):=by rw [A7 nmx];exact hml
  have j4:A0 U8 x (.ins C dx F5) ll=some (.lst (L.map V.str)):=by rw [A7 nlx];exact kR _ _ kQ
  generalize A0 U8 x (.ins C dx F5)=H11 at B11 Y0 j3 j4;have hR11:=hR9.but B11 oB;have kl:F5.lookup (Str.ofString "letter_line")=some (V.ref ll):=by rw [<- hF5,eF,if_neg (by decide +kernel),<- hF4,eF,if_pos rfl]
  have km:F5.lookup (Str.ofString "mark_line")=some (V.ref ml):=by rw [<- hF5,eF,if_pos rfl]
  refine ⟨C,dx,F5,Y0,T.cl,T.na_letter_line,_,kl,C,dx,F5,Y0,T.cl,T.na_mark_line,_,km,a,ll,ml,ts,R,L,M,stepF R L M,rfl,hR11,al5 pl line1 line2,j4,j3,pl.zl,pl.len,air pl,E1 (al6 pl line1 line2) (by decide),fun md H12 nmd bG hmd=>⟨C,dx,F5,bG _ _ Y0,T.cl,T.na_made,by lia,?_⟩⟩;have nmdx:md≠x:=fun e=>by rw [e,Y0] at nmd;cases nmd
  have B:SameBut x H (A0 H12 x (.ins C dx (putF (Str.ofString "made") (V.ref md) F5))):=((B2.trans B4).trans ((B6.trans B9).trans (B11.trans (Same.but bG)))).at;have fr:∀ {H':Hp} {y:Addr},SameBut x H H'->H' y=none->y≠x->H y=none:=fun {H' y} b n nx=>by
   cases e:H y with
   | none=>rfl
   | some o=>have:=b _ _ nx e;rw [n] at this;cases this
  have B44:=B2.trans B4;refine q j ll ml md L M _ (fr B44 nj njx) (fr ((B44.trans B6).trans (Same.but S7)) nll nlx) (fr ((B44.trans B6).trans B9) nml nmx) (fr (((B44.trans B6).trans B9).trans B11) nmd nmdx) B ⟨⟨dx,?_⟩,?_,?_,?_,hmd.mod (bG _ _ Y0) (by intro xs e;cases e) nmdx,line1,line2⟩
  .rw [A6,<- hF5,<- hF4,<- hF3,<- hF2,<- hF1];rfl
  .rw [A7 njx];exact bG _ _ (B11 _ _ njx (B9 _ _ njx uP))
  .rw [A7 nlx];exact bG _ _ j4
  .rw [A7 nmx];exact bG _ _ j3
theorem afD:FnScope ["_law_script", "_law_k"] ["_law_script", "_law_k"] (C7 iT):=J4
abbrev adS:List Str:=["_law_script", "_law_k"]
theorem vct:VS adS iT "_law_script" 0:=vq
theorem vcu:VS adS iT "_law_k" 1:=vq
theorem afE(F:FunD K "_law_cell_at" "_law_cell_at" iT f fd)(T:Txt P w K mg C C_Clash C_NoLetter C_Round):FnOk P w K mg base F9 1 f fd ["_law_script", "_law_k"] (xX K):=by
 refine F.ok afD ?_ ?_
 .rintro _ _ _ _ ⟨a,ns,k,rfl,_⟩;rfl
 .intro cdv A outer s H vs Q E hr h;have C8:=hu_of hr;have hu:=hr.units;refine ⟨_,QSs.out (B5 (qs_if (E4 q_lt (vi vcu) (qe_cB (q_len (K:=K)) T.b_len hZ (qa_c (vi vct) A5))) (C1 (D6 (qe_ix (K:=K) (vi vct) (vi vcu)))) G5)
   (C1 (D6 A8))),?_⟩
  obtain ⟨a,ns,k,rfl,hS,hk,q⟩:=h;walk_at "rd";unfold cellF at q;refine ⟨ns.length,.inl ⟨_,hS,by rw [B3]⟩,iteD (fun D1=>?_) fun kC=>?_⟩
  .rw [if_pos D1] at q;have hi:k.toNat<ns.length:=by lia
   refine ⟨_,.inl hS,V.int (ns.getD k.toNat 0),?_,q⟩;have e:((k.toNat:Nat):Int)=k:=by lia
   have h1:J3 (ns.map V.int) ((k.toNat:Nat):Int)=some (V.int (ns.getD k.toNat 0)):=l7 (by rw [W9,y3,N7 hi];rfl);rw [e] at h1;exact h1
  .rw [if_neg kC] at q;exact q
theorem sc_l_sign:FnScope ["_law_script", "_law_k", "_law_some", "_law_step"] ["_law_script", "_law_k"] (C7 u9):=J4
abbrev nC:List Str:=["_law_script", "_law_k", "_law_some", "_law_step"]
theorem vcv:VS nC u9 "_law_script" 0:=vq
theorem vcw:VS nC u9 "_law_k" 1:=vq
theorem vcx:VS nC u9 "_law_some" 2:=vq
theorem vcy:VS nC u9 "_law_step" 3:=vq
theorem vcz:LS u9 "_law_some":=lq
theorem vcA:LS u9 "_law_step":=lq
theorem aiU(F:FunD K "_law_sign" "_law_sign" u9 f fd)(T:Txt P w K mg C C_Clash C_NoLetter C_Round)(G_l_cell_at:FO P w K mg base 1 "_law_cell_at" ["_law_script", "_law_k"] [] (xX K)):FnOk P w K mg base F9 2 f fd ["_law_script", "_law_k"] (v0 K):=by
 refine F.ok sc_l_sign ?_ ?_
 .rintro _ _ _ _ ⟨a,ns,k,rfl,_⟩;rfl
 .intro cdv A outer s H vs Q E hr h;have C8:=hu_of hr;have hu:=hr.units;refine ⟨_,QSs.out (B5 (D9 (n:=2) sc_l_sign.nd rfl vcz D4)
   (B5 (D9 (n:=2) sc_l_sign.nd rfl vcz (qe_op (q_add (K:=K)) (vi vcx) D4))
   (B5 (D9 (n:=3) sc_l_sign.nd rfl vcA (qe_ix (K:=K) (M9 (qa_c A8 (qa_c A8 (qa_c A8 (qa_c A8 (qa_c A8 (qa_c A8 (qa_c A8 (qa_c A8 (qa_c A8 (qa_c A8 (qa_c A8 (qa_c A8 A5))))))))))))) (qe_op q_mod (E2 G_l_cell_at (hm hr) (qa_c (vi vcv) (qa_c A8 A5))) A8)))
   (C1 (D6 (qe_ix (K:=K) (vi vcx) (qe_op q_mod (qe_op (q_add (K:=K)) (E2 G_l_cell_at (hm hr) (qa_c (vi vcv) (qa_c A8 A5))) (qe_op q_mul (vi vcw) (vi vcy))) A8))))))),?_⟩
  obtain ⟨a,ns,k,rfl,hS,hk,q⟩:=h;walk_at "rd";have h1:=amx ns;have h2:=(mT ns k).1;rw [<- SS_eq] at h2;refine ⟨alN,by decide,fun p np=>⟨a,ns,1,rfl,(Same.new np).seq hS,by decide,⟨_,rfl,_,.inl (.of A6),V.int (stpN ns),?_,a,ns,0,rfl,(Same.new np).seq hS,by decide,?_⟩⟩⟩
  .have:=amw V.int ([1,2,4,5,7,8,10,11,13,23,44,91]:List Int) (cellF ns 1 % 12)
   rw [h1.1] at this;exact this
  walk_at "rd";exact ⟨.inr ⟨by lia,by lia⟩,anN,_,h2,q _ (Same.new np)⟩
theorem sc_l_kinds:FnScope ["_law_e", "_law_some"] ["_law_e"] (C7 eX):=J4
abbrev afF:List Str:=["_law_e", "_law_some"]
theorem Z4:VS afF eX "_law_e" 0:=vq
theorem vcC:VS afF eX "_law_some" 1:=vq
theorem vcD:LS eX "_law_some":=lq
theorem ahj(F:FunD K "_law_kinds" "_law_kinds" eX f fd)(T:Txt P w K mg C C_Clash C_NoLetter C_Round):FnOk P w K mg base F9 1 f fd ["_law_e"] (aiS C_Clash):=by
 refine F.ok sc_l_kinds ?_ ?_
 .rintro _ _ _ _ ⟨x,p,rfl,_⟩;rfl
 .intro cdv A outer s H vs Q E hr h;have C8:=hu_of hr;have hu:=hr.units;obtain ⟨a_Clash,m_Clash,M_Clash⟩:=T.x_Clash;obtain ⟨a_NoDeed,m_NoDeed,M_NoDeed⟩:=T.x_NoDeed;obtain ⟨a_NoLetter,m_NoLetter,M_NoLetter⟩:=T.x_NoLetter;obtain ⟨a_NoName,m_NoName,M_NoName⟩:=T.x_NoName;obtain ⟨a_NoRule,m_NoRule,M_NoRule⟩:=T.x_NoRule;obtain ⟨a_NoSign,m_NoSign,M_NoSign⟩:=T.x_NoSign;obtain ⟨a_NoText,m_NoText,M_NoText⟩:=T.x_NoText;obtain ⟨a_NotPlain,m_NotPlain,M_NotPlain⟩:=T.x_NotPlain;obtain ⟨a_Ring,m_Ring,M_Ring⟩:=T.x_Ring;obtain ⟨a_Round,m_Round,M_Round⟩:=T.x_Round;obtain ⟨a_Twice,m_Twice,M_Twice⟩:=T.x_Twice;refine ⟨_,QSs.out (B5 (D9 (n:=1) sc_l_kinds.nd rfl vcD (M9 (qa_c (qe_cB (q_isX T.cn T.ct (K:=K)) T.b_isinstance U4 (qa_c (vi Z4) (qa_c (R4 m_Clash) A5))) (qa_c (qe_cB (q_isX T.cn T.ct (K:=K)) T.b_isinstance U4 (qa_c (vi Z4) (qa_c (R4 m_NoLetter) A5))) (qa_c (qe_cB (q_isX T.cn T.ct (K:=K)) T.b_isinstance U4 (qa_c (vi Z4) (qa_c (R4 m_Round) A5))) (qa_c (qe_cB (q_isX T.cn T.ct (K:=K)) T.b_isinstance U4 (qa_c (vi Z4) (qa_c (R4 m_NoSign) A5))) A5))))))
   (B5 (D9 (n:=1) sc_l_kinds.nd rfl vcD (qe_op (q_add (K:=K)) (vi vcC) (M9 (qa_c (qe_cB (q_isX T.cn T.ct (K:=K)) T.b_isinstance U4 (qa_c (vi Z4) (qa_c (R4 m_NoRule) A5))) (qa_c (qe_cB (q_isX T.cn T.ct (K:=K)) T.b_isinstance U4 (qa_c (vi Z4) (qa_c (R4 m_Twice) A5))) (qa_c (qe_cB (q_isX T.cn T.ct (K:=K)) T.b_isinstance U4 (qa_c (vi Z4) (qa_c (R4 m_NoText) A5))) (qa_c (qe_cB (q_isX T.cn T.ct (K:=K)) T.b_isinstance U4 (qa_c (vi Z4) (qa_c (R4 m_NotPlain) A5))) A5)))))))
   (C1 (D6 (qe_op (q_add (K:=K)) (vi vcC) (M9 (qa_c (qe_cB (q_isX T.cn T.ct (K:=K)) T.b_isinstance U4 (qa_c (vi Z4) (qa_c (R4 m_NoName) A5))) (qa_c (qe_cB (q_isX T.cn T.ct (K:=K)) T.b_isinstance U4 (qa_c (vi Z4) (qa_c (R4 m_Ring) A5))) (qa_c (qe_cB (q_isX T.cn T.ct (K:=K)) T.b_isinstance U4 (qa_c (vi Z4) (qa_c (R4 m_NoDeed) A5))) (qa_c (alO (K:=K) (qe_cB (q_isX T.cn T.ct (K:=K)) T.b_isinstance U4 (qa_c (vi Z4) (qa_c (qe_ty T.b_ValueError aeC) A5)))) A5)))))))))),?_⟩
  obtain ⟨x,p0,rfl,hk,q⟩:=h;obtain ⟨dx,hx,hd⟩:=hk.ex;obtain ⟨fN,MN⟩:=T.er_Clash;have no:∀ {a:Addr} {b:Bool} {H1:Hp} {Q':V->Hp->Prop},Same H H1->G6 K (.ref C_Clash) (.ref a)=some b->Q' (V.bl b) H1->rIsX K [V.ref x,V.ref a] H1 Q':=fun S h1 h2=>⟨x,C_Clash,dx,fN,_,.ref _,.ref _,_,rfl,S _ _ hx,S _ _ hd,MN,rfl,h1,h2⟩
  walk_at "rd";refine no (Q8 _) M_Clash (no (Q8 _) M_NoLetter.1 (no (Q8 _) M_Round.1 (no (Q8 _) M_NoSign ⟨by decide,fun p np=>?_⟩)));have S1:Same H (A0 H p (.lst [V.bl true,V.bl false,V.bl false,V.bl false])):=Same.new np;refine no S1 M_NoRule (no S1 M_Twice (no S1 M_NoText (no S1 M_NotPlain ⟨by decide,fun p1 O7=>?_⟩)));refine rAddR.l (C9 A6 O7) A6 (by decide) fun p2 N0=>?_
  have S2:=(S1.trans (Same.new O7)).trans (Same.new (u:=HO.lst ([V.bl true,V.bl false,V.bl false,V.bl false]++[V.bl false,V.bl false,V.bl false,V.bl false])) N0);refine no S2 M_NoName (no S2 M_Ring (no S2 M_NoDeed ⟨x,C_Clash,dx,fN,_,_,_,true,rfl,S2 _ _ hx,S2 _ _ hd,MN,rfl,T.y_ValueError,true,rfl,by decide,fun p3 bK=>?_⟩));walk_at "rd";refine rAddR.l (C9 A6 bK) A6 (by decide) fun p4 bL=>?_
  have S3:=S2.trans (Same.new (u:=HO.lst [V.bl false,V.bl false,V.bl false,V.bl (!true)]) bK);exact q p4 _ (S3.free bL) (S3.trans (Same.new bL)) A6
theorem ahk:FnScope ["_law_script", "_law_number"] ["_law_script", "_law_number"] (C7 iU):=J4
abbrev afG:List Str:=["_law_script", "_law_number"]
theorem sB:VS afG iU "_law_script" 0:=vq
theorem nE:VS afG iU "_law_number" 1:=vq
theorem ahl(F:FunD K "_law_piece" "_law_piece" iU f fd)(T:Txt P w K mg C C_Clash C_NoLetter C_Round)(G_l_sign:FO P w K mg base 2 "_law_sign" ["_law_script", "_law_k"] [] (v0 K)):FnOk P w K mg base F9 3 f fd ["_law_script", "_law_number"] (iV K):=by
 refine F.ok ahk ?_ ?_
 .rintro _ _ _ _ ⟨a,n,ns,rfl,_⟩;rfl
 .intro cdv A outer s H vs Q E hr h;have C8:=hu_of hr;have hu:=hr.units;refine ⟨_,QSs.out (B5 (qs_if (E4 (q_eq (K:=K) hu) (qe_op q_mod (qe_op U5 (vi nE) A8) A8) A8) (C1 (D6 (qe_op (q_add (K:=K)) (E2 G_l_sign (hm hr) (qa_c (vi sB) (qa_c (qe_op q_mod (vi nE) A8) A5))) (E2 G_l_sign (hm hr) (qa_c (vi sB) (qa_c (qe_op q_mod (qe_op U5 (vi nE) A8) A8) A5)))))) G5)
   (C1 (D6 (E2 G_l_sign (hm hr) (qa_c (vi sB) (qa_c (qe_op q_mod (vi nE) A8) A5)))))),?_⟩
  obtain ⟨a,n,ns,rfl,hS,q⟩:=h;have sg:∀ (e:Int) (H1:Hp) {Z:VK},0<=e->Same H H1->(∀ H2,Same H1 H2->Z (.str (one (sgnF ns e))) H2)->v0 K [V.ref a,V.int e] H1 Z E0:=fun e H1 Z h0 S hz=>⟨a,ns,e,rfl,S.seq hS,h0,hz⟩
  walk_at "rd";refine iteD (fun _=>sg _ _ (by lia) (Q8 _) fun H2 S2=>sg _ _ (by lia) S2 fun H3 S3=>?_) fun _=>sg _ _ (by lia) (Q8 _) fun H2 S2=>q _ H2 (W1 ns _) S2
  walk_at "rd";exact ⟨by show 1+1<=sizeLine;decide,q _ _ (aoj ns _ _) (S2.trans S3)⟩
theorem sc_l_any:FnScope ["_law_script", "_law_k", "_law_number", "_law_word", "_law_form"] ["_law_script", "_law_k", "_law_number"] (C7 m9):=J4
abbrev jC:List Str:=["_law_script", "_law_k", "_law_number", "_law_word", "_law_form"]
theorem cU:VS jC m9 "_law_script" 0:=vq
theorem vcH:VS jC m9 "_law_k" 1:=vq
theorem v4:VS jC m9 "_law_number" 2:=vq
theorem nF:VS jC m9 "_law_word" 3:=vq
theorem vcK:VS jC m9 "_law_form" 4:=vq
theorem vcL:LS m9 "_law_word":=lq
theorem vcM:LS m9 "_law_form":=lq
theorem akk(F:FunD K "_law_any" "_law_any" m9 f fd)(T:Txt P w K mg C C_Clash C_NoLetter C_Round)(G_l_sign:FO P w K mg base 2 "_law_sign" ["_law_script", "_law_k"] [] (v0 K))(G_l_piece:FO P w K mg base 3 "_law_piece" ["_law_script", "_law_number"] [] (iV K)):FnOk P w K mg base F9 4 f fd ["_law_script", "_law_k", "_law_number"] (aiO K):=by
 refine F.ok sc_l_any ?_ ?_
 .rintro _ _ _ _ ⟨a,k,n,ns,rfl,_⟩;rfl
 .intro cdv A outer s H vs Q E hr h;have C8:=hu_of hr;have hu:=hr.units;refine ⟨_,QSs.out (B5 (D9 (n:=3) sc_l_any.nd rfl vcL (qe_ix (K:=K) (M9 (qa_c D4 (qa_c D4 (qa_c D4 (qa_c D4 (qa_c D4 A5)))))) (qe_op q_mod (vi v4) A8)))
   (B5 (qs_if (QW.pt (cH (E4 (q_eq (K:=K) hu) (vi nF) D4) (cG (E4 (q_eq (K:=K) hu) (qe_op q_mod (qe_op U5 (vi v4) A8) A8) A8)))) (B5 (D9 (n:=4) sc_l_any.nd rfl vcM (E2 G_l_piece (hm hr) (qa_c (vi cU) (qa_c (qe_op U5 (vi v4) A8) A5))))
   (C1 (D6 (N4 (qa_c (vi nF) (qa_c (E2 G_l_sign (hm hr) (qa_c (vi cU) (qa_c A8 A5))) (qa_c (vi vcK) (qa_c (qe_ix (K:=K) (M9 (qa_c (vi vcK) (qa_c (E2 G_l_piece (hm hr) (qa_c (vi cU) (qa_c (qe_op U5 (vi v4) A8) A5))) A5))) (qe_op q_mod (qe_op U5 (vi v4) A8) A8)) A5)))))))) G5)
   (B5 (qs_if (E4 (q_eq (K:=K) hu) (qe_op q_mod (qe_op U5 (vi v4) A8) A8) A8) (C1 (D6 (N4 (qa_c (vi nF) (qa_c (E2 G_l_piece (hm hr) (qa_c (vi cU) (qa_c (qe_op U5 (vi v4) A8) A5))) (qa_c (E2 G_l_piece (hm hr) (qa_c (vi cU) (qa_c (qe_op U5 (vi v4) A8) A5))) A5)))))) G5)
   (C1 (D6 (N4 (qa_c (vi nF) (qa_c (E2 G_l_sign (hm hr) (qa_c (vi cU) (qa_c (qe_op (q_add (K:=K)) A8 (vi vcH)) A5))) (qa_c (E2 G_l_sign (hm hr) (qa_c (vi cU) (qa_c (qe_op (q_add (K:=K)) A8 (qe_op q_mod (qe_op U5 (vi v4) A8) (qe_op (q_add (K:=K)) (vi vcH) A8))) A5))) A5))))))))),?_⟩
  obtain ⟨a,k,n,ns,rfl,hS,q⟩:=h;have sg:∀ (e:Int) (H1:Hp) {Z:VK},0<=e->Same H H1->(∀ H2,Same H1 H2->Z (.str (one (sgnF ns e))) H2)->v0 K [V.ref a,V.int e] H1 Z E0:=fun e H1 Z h0 S hz=>⟨a,ns,e,rfl,S.seq hS,h0,hz⟩
  have wds:∀ i:Int,0<=i->i<5->∃ w:Str,J3 [V.str (Str.ofString "row"),V.str (Str.ofString "marks"),V.str (Str.ofString "great"),V.str (Str.ofString "as"),V.str (Str.ofString "over")] i=some (V.str w)/\(w="row"\/w="marks"\/w="great"\/w="as"\/w="over"):=fun i h0 h1=>by
   rcases (show i=0\/i=1\/i=2\/i=3\/i=4 by lia) with e | e | e | e | e <;> rw [e]
   .exact ⟨"row",rfl,by simp⟩
   .exact ⟨"marks",rfl,by simp⟩
   .exact ⟨"great",rfl,by simp⟩
   .exact ⟨"as",rfl,by simp⟩
   .exact ⟨"over",rfl,by simp⟩
  have pc:∀ (e:Int) (H1:Hp) {Z:VK},Same H H1->(∀ p H2,Pc p->Same H1 H2->Z (.str p) H2)->iV K [V.ref a,V.int e] H1 Z E0:=fun e H1 Z S hz=>⟨a,e,ns,rfl,S.seq hS,hz⟩
  walk_at "rd";refine ⟨by decide,fun p np=>?_⟩;have S1:=Same.new (u:=HO.lst [V.str (Str.ofString "row"),V.str (Str.ofString "marks"),V.str (Str.ofString "great"),V.str (Str.ofString "as"),V.str (Str.ofString "over")]) np;obtain ⟨w,hw,hww⟩:=wds (n % 5) (by lia) (by lia);refine ⟨_,.inl (.of A6),V.str w,hw,?_⟩;generalize A0 H p (HO.lst [V.str (Str.ofString "row"),V.str (Str.ofString "marks"),V.str (Str.ofString "great"),V.str (Str.ofString "as"),V.str (Str.ofString "over")])=H1 at S1;have r2:∀ {x y:Str} {H2:Hp},Pc x->Pc y->Same H H2->∀ t,H2 t=none->Q (.ref t) (A0 H2 t (.tup [.str w,.str x,.str y])):=fun {x y H2} hx hy S t nt=>q t (w,[x,y]) _ (S.free nt) (S.trans (Same.new nt)) A6 (RL.of hww (by simp) (by simp) fun p hp=>by simp at hp;rcases hp with rfl | rfl <;> assumption)
  have tail:(if decide (n / 5 % 2=1)=true then iV K [V.ref a,V.int (n / 10)] H1 (fun x_2 H1=>iV K [V.ref a,V.int (n / 7)] H1 (fun x_3 H1=>3<=sizeLine/\∀ (p:Addr),H1 p=none->Q (V.ref p) (A0 H1 p (HO.tup [V.str w,x_2,x_3]))) E0) E0 else v0 K [V.ref a,V.int (30+(k:Int))] H1 (fun x_2 H1=>0<(k:Int)+1/\v0 K [V.ref a,V.int (30+n / 10 % ((k:Int)+1))] H1 (fun x_3 H1=>3<=sizeLine/\∀ (p:Addr),H1 p=none->Q (V.ref p) (A0 H1 p (HO.tup [V.str w,x_2,x_3]))) E0) E0):=by
   have hk:=Int.emod_nonneg (n / 10) (show ((k:Int)+1)≠0 by lia);refine iteD (fun _=>pc _ _ S1 fun x H2 hx S2=>pc _ _ (S1.trans S2) fun y H3 hy S3=>⟨by decide,r2 hx hy ((S1.trans S2).trans S3)⟩) fun _=>sg _ _ (by lia) S1 fun H2 S2=>⟨by lia,sg _ _ (by lia) (S1.trans S2) fun H3 S3=>⟨by decide,r2 (W1 ns _) (W1 ns _) ((S1.trans S2).trans S3)⟩⟩
  walk_at "rd";refine iteD (fun hg=>?_) fun _=>tail
  by_cases h5:decide (n / 5 % 2=1)=true
  .rw [if_pos h5];refine pc _ _ S1 fun x H2 hx S2=>sg _ _ (by decide) (S1.trans S2) fun H3 S3=>pc _ _ ((S1.trans S2).trans S3) fun y H4 hy S4=>⟨by decide,fun p4 bL=>?_⟩
   obtain ⟨y2,nQ,hy3⟩:∃ y2:Str,J3 [V.str x,V.str y] (n / 3 % 2)=some (V.str y2)/\Pc y2:=by
    rcases (show n / 3 % 2=0\/n / 3 % 2=1 by lia) with e | e <;> rw [e]
    .exact ⟨x,rfl,hx⟩
    .exact ⟨y,rfl,hy⟩
   have S5:=(S1.trans (S2.trans (S3.trans S4))).trans (Same.new (u:=HO.lst [V.str x,V.str y]) bL);exact ⟨_,.inl (.of A6),_,nQ,by decide,fun t nt=>q t (w,[one (sgnF ns 0),x,y2]) _ (S5.free nt) (S5.trans (Same.new nt)) A6 (RL.of hww (by simp) (by simp) fun p hp=>by simp at hp;rcases hp with rfl | rfl | rfl;exact W1 ns 0;exact hx;exact hy3)⟩
  .rw [if_neg h5] at tail ⊢
   rw [if_neg h5];exact tail
theorem sc_l_rule:FnScope ["_law_script", "_law_k", "_law_cell", "_law_kind", "_law_number"] ["_law_script", "_law_k", "_law_cell"] (C7 g7):=J4
abbrev jD:List Str:=["_law_script", "_law_k", "_law_cell", "_law_kind", "_law_number"]
theorem n8:VS jD g7 "_law_script" 0:=vq
theorem sC:VS jD g7 "_law_k" 1:=vq
theorem vcP:VS jD g7 "_law_cell" 2:=vq
theorem fH:VS jD g7 "_law_kind" 3:=vq
theorem v6:VS jD g7 "_law_number" 4:=vq
theorem vcS:LS g7 "_law_kind":=lq
theorem vcT:LS g7 "_law_number":=lq
theorem aiV(F:FunD K "_law_rule" "_law_rule" g7 f fd)(T:Txt P w K mg C C_Clash C_NoLetter C_Round)(G_l_sign:FO P w K mg base 2 "_law_sign" ["_law_script", "_law_k"] [] (v0 K))(G_l_any:FO P w K mg base 4 "_law_any" ["_law_script", "_law_k", "_law_number"] [] (aiO K)):FnOk P w K mg base F9 5 f fd ["_law_script", "_law_k", "_law_cell"] (agN K):=by
 refine F.ok sc_l_rule ?_ ?_
 .rintro _ _ _ _ ⟨a,k,n,ns,rfl,_⟩;rfl
 .intro cdv A outer s H vs Q E hr h;have C8:=hu_of hr;have hu:=hr.units;refine ⟨_,QSs.out (B5 (D9 (n:=3) sc_l_rule.nd rfl vcS (qe_op q_mod (vi vcP) A8))
   (B5 (D9 (n:=4) sc_l_rule.nd rfl vcT (qe_op q_mod (qe_op U5 (vi vcP) A8) (qe_op q_pow A8 A8)))
   (B5 (qs_if (E4 q_lt (vi fH) A8) (C1 (D6 (qe_op (q_add (K:=K)) (N4 (qa_c D4 A5)) (qe_cT (xA (K:=K)) T.b_tuple wP (qa_c (aG  (n6:CompOk ["_law_script", "_law_k", "_law_cell", "_law_kind", "_law_number"] (C7 g7).names _ ["_law_j", "_law_script", "_law_number"] 1 [0,4]) (qi_r1 T.b_range (qa_c A8 A5)) (fun _ _ _ _ _=>E8 (n:=0) (show List.Nodup (["_law_j", "_law_script", "_law_number"]:List Str) by decide +kernel) rfl (Or.inl rfl)) (fun _ _ _ _ _=>iG) (fun _ _ _ _ _=>(E2 G_l_sign (hm hr) (qa_c (qv 1) (qa_c (qe_op q_mod (qe_op U5 (qv 2) (qe_ix (K:=K) (M9 (qa_c A8 (qa_c A8 (qa_c A8 A5)))) (qv 0))) A8) A5))))) A5))))) G5)
   (B5 (qs_if (E4 (q_eq (K:=K) hu) (vi fH) A8) (C1 (D6 (N4 (qa_c D4 (qa_c (E2 G_l_sign (hm hr) (qa_c (vi n8) (qa_c (qe_op (q_add (K:=K)) A8 (qe_op q_mod (vi v6) A8)) A5))) (qa_c (E2 G_l_sign (hm hr) (qa_c (vi n8) (qa_c (qe_op (q_add (K:=K)) A8 (qe_op q_mod (qe_op U5 (vi v6) A8) A8)) A5))) A5)))))) G5)
   (B5 (qs_if (E4 (q_eq (K:=K) hu) (vi fH) A8) (C1 (D6 (N4 (qa_c D4 (qa_c (E2 G_l_sign (hm hr) (qa_c (vi n8) (qa_c (qe_op q_mod (vi v6) A8) A5))) (qa_c (E2 G_l_sign (hm hr) (qa_c (vi n8) (qa_c (qe_op (q_add (K:=K)) A8 (vi sC)) A5))) A5)))))) G5)
   (B5 (qs_if (E4 (q_eq (K:=K) hu) (vi fH) A8) (C1 (D6 (N4 (qa_c D4 (qa_c (E2 G_l_sign (hm hr) (qa_c (vi n8) (qa_c (qe_op (q_add (K:=K)) A8 (vi sC)) A5))) (qa_c (E2 G_l_sign (hm hr) (qa_c (vi n8) (qa_c (qe_op q_mod (vi v6) A8) A5))) A5)))))) G5)
   (B5 (qs_if (E4 (q_eq (K:=K) hu) (vi fH) A8) (C1 (D6 (N4 (qa_c D4 (qa_c (E2 G_l_sign (hm hr) (qa_c (vi n8) (qa_c (qe_op (q_add (K:=K)) A8 (qe_op q_mod (vi v6) A8)) A5))) A5))))) G5)
   (B5 (qs_if (E4 (q_eq (K:=K) hu) (vi fH) A8) (C1 (D6 (qe_ix (K:=K) (M9 (qa_c (N4 (qa_c D4 A5)) (qa_c (N4 (qa_c D4 A5)) (qa_c (N4 (qa_c D4 (qa_c (E2 G_l_sign (hm hr) (qa_c (vi n8) (qa_c A8 A5))) A5))) (qa_c (N4 (qa_c D4 A5)) A5))))) (qe_op q_mod (vi v6) A8)))) G5)
   (B5 (qs_if (E4 (q_eq (K:=K) hu) (qe_op q_mod (vi v6) A8) A8) (C1 (D6 (E2 G_l_any (hm hr) (qa_c (vi n8) (qa_c (vi sC) (qa_c (qe_op U5 (vi v6) A8) A5)))))) G5)
   (C1 (D6 (N4 (qa_c D4 (qa_c (E2 G_l_sign (hm hr) (qa_c (vi n8) (qa_c (qe_op q_mod (qe_op U5 (vi v6) A8) A8) A5))) A5)))))))))))))),?_⟩
  obtain ⟨a,k,n,ns,rfl,hS,q⟩:=h;have sg:∀ (e:Int) (H1:Hp) {Z:VK},0<=e->Same H H1->(∀ H2,Same H1 H2->Z (.str (one (sgnF ns e))) H2)->v0 K [V.ref a,V.int e] H1 Z E0:=fun e H1 Z h0 S hz=>⟨a,ns,e,rfl,S.seq hS,h0,hz⟩
  walk_at "rd";refine ⟨10,9,rfl,rfl,⟨by decide,by decide,by decide⟩,_,rfl,by decide,?_⟩;generalize n / 10 % (10:Int) ^ (9:Int).toNat=N;have r1:∀ {w x:Str} {H2:Hp},(w="row"\/w="marks"\/w="great"\/w="as"\/w="over")->Pc x->Same H H2->∀ t,H2 t=none->Q (.ref t) (A0 H2 t (.tup [.str w,.str x])):=fun {w x H2} hw hx S t nt=>q t (w,[x]) _ (S.free nt) (S.trans (Same.new nt)) A6 (RL.of hw (by simp) (by simp) fun p hp=>by rw [F7.mp hp];exact hx)
  have r2:∀ {w x y:Str} {H2:Hp},(w="row"\/w="marks"\/w="great"\/w="as"\/w="over")->Pc x->Pc y->Same H H2->∀ t,H2 t=none->Q (.ref t) (A0 H2 t (.tup [.str w,.str x,.str y])):=fun {w x y H2} hw hx hy S t nt=>q t (w,[x,y]) _ (S.free nt) (S.trans (Same.new nt)) A6 (RL.of hw (by simp) (by simp) fun p hp=>by simp at hp;rcases hp with rfl | rfl <;> assumption)
  refine iteD (fun _=>?_) fun _=>iteD (fun _=>sg _ _ (by lia) (Q8 _) fun H2 S2=>sg _ _ (by lia) S2 fun H3 S3=>⟨by decide,r2 (by simp) (W1 ns _) (W1 ns _) (S2.trans S3)⟩) fun _=>iteD (fun _=>sg _ _ (by lia) (Q8 _) fun H2 S2=>sg _ _ (by lia) S2 fun H3 S3=>⟨by decide,r2 (by simp) (W1 ns _) (W1 ns _) (S2.trans S3)⟩) fun _=>
   iteD (fun _=>sg _ _ (by lia) (Q8 _) fun H2 S2=>sg _ _ (by lia) S2 fun H3 S3=>⟨by decide,r2 (by simp) (W1 ns _) (W1 ns _) (S2.trans S3)⟩) fun _=>iteD (fun _=>sg _ _ (by lia) (Q8 _) fun H2 S2=>⟨by decide,r1 (by simp) (W1 ns _) S2⟩) fun _=>iteD (fun _=>?_) fun _=>iteD (fun _=>⟨a,k,_,ns,rfl,hS,q⟩) fun _=>sg _ _ (by lia) (Q8 _) fun H2 S2=>⟨by decide,r1 (by simp) (W1 ns _) S2⟩
  .refine ⟨by decide,fun p np=>⟨by decide,by decide,?_⟩⟩;have S1:Same H (A0 H p (.tup [V.str (Str.ofString "row")])):=Same.new np;have W5:A0 H p (.tup [V.str (Str.ofString "row")]) p=some (.tup [V.str (Str.ofString "row")]):=A6;generalize A0 H p (.tup [V.str (Str.ofString "row")])=H1 at S1 W5;refine compR [some (.ref a),some (.int N)] rfl (fun D j ys H5=>∃ zs:List Str,ys=zs.map V.str/\zs.length=j/\(∀ p∈zs,Pc p)/\Same H1 H5) (fun D nD=>⟨[],rfl,rfl,by simp,Same.new nD⟩) ?_ ?_
   .rintro D j ys H5 nD hi ⟨zs,rfl,Z5,uQ,S5⟩ hD hy;obtain ⟨x3,uJ,b1,b2⟩:∃ x3:Int,J3 [V.int 1,V.int 5,V.int 25] (0+(j:Int))=some (V.int x3)/\0<x3/\x3<100:=by
     rcases (show j=0\/j=1\/j=2 by have:(3:Int).toNat=3:=rfl;lia) with e | e | e <;> rw [e]
     .exact ⟨1,rfl,by decide,by decide⟩
     .exact ⟨5,rfl,by decide,by decide⟩
     .exact ⟨25,rfl,by decide,by decide⟩
    walk_at "rd";refine ⟨by decide,fun p2 N0=>⟨_,.inl (.of A6),_,uJ,?_⟩⟩;walk_at "rd";have hi3:j<3:=hi;refine ⟨b1,by lia,sg _ _ (Int.emod_nonneg _ (by decide)) (S1.trans (S5.trans (Same.new N0))) fun H6 S6=>⟨S6 _ _ (C9 hD N0),by rw [B3];exact K9 (by lia),CW.put hi hy ⟨zs++[one (sgnF ns (N / x3 % 5))],by rw [G2];rfl,by rw [G0,Z5];rfl,fun p hp=>?_,((S5.trans (Same.new N0)).trans S6).put nD⟩⟩⟩
    rcases G1.mp hp with hp | hp
    .exact uQ p hp
    .rw [F7.mp hp];exact W1 ns _
   rintro D ys H5 nD ⟨zs,rfl,Z5,uQ,S5⟩ hD hy;walk_at "rd";refine rTupR.l (.of hD) fun t6 nt6=>?_
   walk_at "rd";have Z5:zs.length=3:=Z5;refine rAddR.t (.of (C9 (S5 _ _ W5) nt6)) (.of A6) (by simp) (by simp only [B3,J9,k7];exact lS (by lia)) (fun e=>absurd (List.map_eq_nil_iff.mp e) (fun e2=>by rw [e2] at Z5;cases Z5)) fun _ t7 nt7=>?_
   have S7:=(S1.trans S5).trans (Same.new (u:=HO.tup (zs.map V.str)) nt6);exact q t7 (("row" : Str),zs) _ (S7.free nt7) (S7.trans (Same.new nt7)) A6 (RL.of (by simp) (fun e=>by rw [e] at Z5;simp at Z5) (by lia) uQ)
  .refine ⟨by decide,fun p1 O7=>⟨by decide,fun p2 N0=>sg _ _ (by decide) ((Same.new O7).trans (Same.new N0)) fun H3 S3=>⟨by decide,fun p3 bK=>⟨by decide,fun p4 bL=>⟨by decide,fun p5 uR=>?_⟩⟩⟩⟩⟩;have A1:Same H (A0 H p1 (HO.tup [V.str (Str.ofString "behind")])):=Same.new O7;have A2:Same H (A0 (A0 H p1 (HO.tup [V.str (Str.ofString "behind")])) p2 (HO.tup [V.str (Str.ofString "blanks")])):=A1.trans (Same.new N0);have A3:=A2.trans S3;have k1:H3 p1=some (tupR (("behind" : Str),[])):=S3 _ _ (C9 A6 N0);have k2:H3 p2=some (tupR (("blanks" : Str),[])):=S3 _ _ A6;have S4:Same H3 (A0 (A0 (A0 H3 p3 (HO.tup [V.str (Str.ofString "forget"),V.str (one (sgnF ns 5))])) p4 (HO.tup [V.str (Str.ofString "figures")])) p5 (HO.lst [V.ref p1,V.ref p2,V.ref p3,V.ref p4])):=(Same.new bK).trans ((Same.new bL).trans (Same.new uR));have k3:A0 (A0 (A0 H3 p3 (HO.tup [V.str (Str.ofString "forget"),V.str (one (sgnF ns 5))])) p4 (HO.tup [V.str (Str.ofString "figures")])) p5 (HO.lst [V.ref p1,V.ref p2,V.ref p3,V.ref p4]) p3=some (tupR (("forget" : Str),[one (sgnF ns 5)])):=C9 (C9 A6 bL) uR;have k4:A0 (A0 (A0 H3 p3 (HO.tup [V.str (Str.ofString "forget"),V.str (one (sgnF ns 5))])) p4 (HO.tup [V.str (Str.ofString "figures")])) p5 (HO.lst [V.ref p1,V.ref p2,V.ref p3,V.ref p4]) p4=some (tupR (("figures" : Str),[])):=C9 A6 uR;have k5:A0 (A0 (A0 H3 p3 (HO.tup [V.str (Str.ofString "forget"),V.str (one (sgnF ns 5))])) p4 (HO.tup [V.str (Str.ofString "figures")])) p5 (HO.lst [V.ref p1,V.ref p2,V.ref p3,V.ref p4]) p5=some (HO.lst [V.ref p1,V.ref p2,V.ref p3,V.ref p4]):=A6;have n4:H p4=none:=A3.free ((Same.new bK).free bL);generalize A0 (A0 (A0 H3 p3 (HO.tup [V.str (Str.ofString "forget"),V.str (one (sgnF ns 5))])) p4 (HO.tup [V.str (Str.ofString "figures")])) p5 (HO.lst [V.ref p1,V.ref p2,V.ref p3,V.ref p4])=H4 at S4 k3 k4 k5;have A4:=A3.trans S4
   rcases (show N % 4=0\/N % 4=1\/N % 4=2\/N % 4=3 by lia) with e | e | e | e <;> rw [e]
   .exact ⟨_,.inl (.of k5),V.ref p1,rfl,q p1 _ H4 O7 A4 (S4 _ _ k1) (RL.bare (.inl rfl))⟩
   .exact ⟨_,.inl (.of k5),V.ref p2,rfl,q p2 _ H4 (A1.free N0) A4 (S4 _ _ k2) (RL.bare (.inr (.inl rfl)))⟩
   .exact ⟨_,.inl (.of k5),V.ref p3,rfl,q p3 _ H4 (A3.free bK) A4 k3 (RL.fgt (W1 ns 5))⟩
   .exact ⟨_,.inl (.of k5),V.ref p4,rfl,q p4 _ H4 n4 A4 k4 (RL.bare (.inr (.inr rfl)))⟩
theorem aiW:FnScope ["_law_rule_here"] ["_law_rule_here"] (C7 mP):=J4
abbrev akl:List Str:=["_law_rule_here"]
theorem fI:VS akl mP "_law_rule_here" 0:=vq
theorem aiX(F:FunD K "_law_told" "_law_told" mP f fd)(T:Txt P w K mg C C_Clash C_NoLetter C_Round):FnOk P w K mg base F9 1 f fd ["_law_rule_here"] (agO K):=by
 refine F.ok aiW ?_ ?_
 .rintro _ _ _ _ ⟨t,z,rfl,_⟩;rfl
 .intro cdv A outer s H vs Q E hr h;have C8:=hu_of hr;have hu:=hr.units;refine ⟨_,QSs.out (B5 (qs_if (E4 (q_in (K:=K) hu) (qe_ix (K:=K) (vi fI) A8) (M9 (qa_c D4 (qa_c D4 (qa_c D4 A5))))) (C1 (D6 (qe_cT (cK (K:=K) (calm:=true)) T.b_list cE (qa_c (X2 (K:=K) (vi fI) (R5 A8) u5) A5)))) G5)
   (B5 (qs_if (E4 (q_eq (K:=K) hu) (qe_ix (K:=K) (vi fI) A8) D4) (C1 (D6 (qe_cT (cK (K:=K) (calm:=true)) T.b_list cE (qa_c (X2 (K:=K) (vi fI) (R5 A8) u5) A5)))) G5)
   (B5 (qs_if (E4 (q_eq (K:=K) hu) (qe_ix (K:=K) (vi fI) A8) D4) (C1 (D6 (M9 (qa_c (qe_ix (K:=K) (vi fI) A8) A5)))) G5)
   (C1 (D6 (M9 A5)))))),?_⟩
  obtain ⟨t,z,rfl,ht,hz,q⟩:=h;have B1:1<=((z.1::z.2).map V.str).length:=by simp
  obtain ⟨t1,t2,t3⟩:=@aM z;have cut:∀ (k:Nat),1<=k->∀ {H1:Hp} {Z:VK},Same H H1->(∀ p H',H p=none->Same H H'->H' p=some (.lst ((z.2.drop (k-1)).map V.str))->Z (.ref p) H')->rSlR K t (some (k:Int)) none H1 fun x H2=>lQ K true [x] H2 Z:=fun k hk {H1 Z} S hq=>by
   refine rSlR.t (.of (S _ _ ht)) (g0 (k:=k) hk B1) fun p np=>?_
   rw [cL];walk_at "rd";refine rListR.l (.inr (.of A6)) fun p2 N0=>hq p2 _ ((S.trans (Same.new np)).free N0) ((S.trans (Same.new np)).trans (Same.new N0)) ?_
   rw [A6];obtain ⟨k,rfl⟩:∃ j,k=j+1:=⟨k-1,by lia⟩
   rw [gO,<- List.map_drop,Nat.add_sub_cancel]
  walk_at "rd";refine ⟨_,.inr (.of ht),V.str z.1,O1 _ _,by decide,fun p np=>?_⟩;have S1:=Same.new (u:=HO.lst [V.str (Str.ofString "row"),V.str (Str.ofString "marks"),V.str (Str.ofString "over")]) np;refine rInR.l (.inl (.of A6)) rfl rfl ⟨_,rfl,?_⟩;rw [show Y9 (V.str z.1) [V.str (Str.ofString "row"),V.str (Str.ofString "marks"),V.str (Str.ofString "over")]=decide (z.1∈([Str.ofString "row",Str.ofString "marks",Str.ofString "over"]:List Str)) from iC z.1 [Str.ofString "row",Str.ofString "marks",Str.ofString "over"],bU];generalize A0 H p (HO.lst [V.str (Str.ofString "row"),V.str (Str.ofString "marks"),V.str (Str.ofString "over")])=H1 at S1;refine iteD (fun h1=>cut 1 (by decide) S1 fun p H' np S hp=>q p H' np S ?_) fun h1=>⟨_,.inr (.of (S1 _ _ ht)),V.str z.1,O1 _ _,?_⟩
  .rw [hp,t3 (by simpa using h1)];rfl
  walk_at "rd";refine iteD (fun h2=>cut 2 (by decide) S1 fun p H' np S hp=>q p H' np S ?_) fun h2=>⟨_,.inr (.of (S1 _ _ ht)),V.str z.1,O1 _ _,?_⟩
  .rw [hp,t1 h2]
  walk_at "rd";refine iteD (fun h3=>?_) fun h3 p2 N0=>q p2 _ (S1.free N0) (S1.trans (Same.new N0)) ?_
  .have hn:=hz.a (.inl h3);cases e:z.2 with
   | nil=>exact absurd e hn
   | cons y ys=>
    refine ⟨_,.inr (.of (S1 _ _ ht)),V.str y,l7 (j:=1) (by rw [e];rfl),by decide,fun p2 N0=>q p2 _ (S1.free N0) (S1.trans (Same.new N0)) ?_⟩;rw [A6,t2 h3,e];rfl
  .rw [A6]
   have:D7 z=[]:=by
    have hw:=hz.w;unfold D7;simp only [G4,dW,or_false,not_or] at hw h1;rw [if_neg h2,if_neg h3,if_neg (by simp only [not_or];exact ⟨h1.1,h1.2.1,h1.2.2⟩)]
   rw [this];rfl
theorem sc_l_figure:FnScope ["_law_piece_here", "_law_sign_here"] ["_law_piece_here"] (C7 eY):=J4
abbrev aek:List Str:=["_law_piece_here", "_law_sign_here"]
theorem vcV:VS aek eY "_law_piece_here" 0:=vq
theorem vcW:VS aek eY "_law_sign_here" 1:=vq
theorem vcX:LS eY "_law_sign_here":=lq
theorem agf(F:FunD K "_law_figure" "_law_figure" eY f fd)(T:Txt P w K mg C C_Clash C_NoLetter C_Round):FnOk P w K mg base F9 1 f fd ["_law_piece_here"] aiP:=by
 refine F.ok sc_l_figure ?_ ?_
 .rintro _ _ _ _ ⟨z,rfl,_⟩;rfl
 .intro cdv A outer s H vs Q E hr h;have C8:=hu_of hr;have hu:=hr.units;refine ⟨_,QSs.out (B5 (N8 PassesOwn.never (wT (vi vcV)) (E8 (n:=1) sc_l_figure.nd rfl vcX (.inl rfl)) (C1 (qs_if (E4 (q_in (K:=K) hu) (vi vcW) D4) (C1 (D6 qe_bl)) G5)))
   (C1 (D6 qe_bl))),?_⟩
  obtain ⟨z,rfl,q⟩:=h;walk_at "rd";refine forS (fun i Y H2=>∃ u,Y=[some (.str z),u]/\H2=H/\(z.cps.toList.take i).any figO=false) ⟨none,rfl,rfl,rfl⟩ ?_ ?_
  .rintro i c Y H2 hc ⟨u,rfl,rfl,h0⟩;walk_at "rd";rw [al9,bU]
   by_cases hf:figO c=true
   .rw [if_pos hf];rw [bS.mpr ⟨c,M0 hc,hf⟩] at q;exact q
   .rw [if_neg hf,V1,hc,List.any_append,h0]
    simpa using hf
  rintro Y H2 ⟨u,rfl,rfl,h0⟩;walk_at "rd";rw [show z.cps.toList.any figO=false by rw [<- h0,<- lenL,J1]] at q;exact q
theorem sc_l_clash:FnScope ["_law_rules", "_law_ahead", "_law_rule_here", "_law_piece_here", "_law_word", "_law_other"] ["_law_rules"] (C7 W0):=J4
abbrev fJ:List Str:=["_law_rules", "_law_ahead", "_law_rule_here", "_law_piece_here", "_law_word", "_law_other"]
theorem vcY:VS fJ W0 "_law_rules" 0:=vq
theorem vcZ:VS fJ W0 "_law_ahead" 1:=vq
theorem sD:VS fJ W0 "_law_rule_here" 2:=vq
theorem jE:VS fJ W0 "_law_piece_here" 3:=vq
theorem vc2:VS fJ W0 "_law_word" 4:=vq
theorem vc3:VS fJ W0 "_law_other" 5:=vq
theorem vc4:LS W0 "_law_ahead":=lq
theorem vc5:LS W0 "_law_rule_here":=lq
theorem vc6:LS W0 "_law_piece_here":=lq
theorem vc7:LS W0 "_law_word":=lq
theorem vc8:LS W0 "_law_other":=lq
theorem ahm(F:FunD K "_law_clash" "_law_clash" W0 f fd)(T:Txt P w K mg C C_Clash C_NoLetter C_Round)(G_l_told:FO P w K mg base 1 "_law_told" ["_law_rule_here"] [] (agO K))(G_l_figure:FO P w K mg base 1 "_law_figure" ["_law_piece_here"] [] aiP):FnOk P w K mg base F9 2 f fd ["_law_rules"] (afx K):=by
 refine F.ok sc_l_clash ?_ ?_
 .rintro _ _ _ _ ⟨r,ts,R,rfl,_⟩;rfl
 .intro cdv A outer s H vs Q E hr h;have C8:=hu_of hr;have hu:=hr.units;refine ⟨_,QSs.out (B5 (D9 (n:=1) sc_l_clash.nd rfl vc4 (M9 A5))
   (B5 (N8 PassesOwn.never (P9 (K:=K) (vi vcY)) (E8 (n:=2) sc_l_clash.nd rfl vc5 (.inl rfl)) (C1 (N8 PassesOwn.never (P9 (K:=K) (E2 G_l_told (hm hr) (qa_c (vi sD) A5))) (E8 (n:=3) sc_l_clash.nd rfl vc6 (.inl rfl)) (xB (qs_if (QW.pt (cH (aF (K:=K) (E2 G_l_figure (hm hr) (qa_c (vi jE) A5))) (cG (E4 (q_inD (K:=K) hu) (N4 (qa_c D4 A5)) (vi vcY))))) (C1 (D6 (vi jE))) G5)
   (xB (N8 PassesOwn.never (P9 (K:=K) (vi vcZ)) (cJ (K:=K) (n:=2) (V6 ((E8 (n:=4) sc_l_clash.nd rfl vc7 (.inl rfl))) (V6 ((E8 (n:=5) sc_l_clash.nd rfl vc8 (.inl rfl))) cI))) (C1 (qs_if (QW.pt (cH (E4 (q_eq (K:=K) hu) (vi vc3) (vi jE)) (cG (QW.pt (qw_or (E4 (q_ne (K:=K) hu) (vi vc2) (qe_ix (K:=K) (vi sD) A8)) (wS (E4 (q_in (K:=K) hu) (vi vc2) (M9 (qa_c D4 (qa_c D4 A5)))))))))) (C1 (D6 (vi jE))) G5)))
   (C1 (T4 (qe_mB (K:=K) Y6 z8 z0 aH (vi vcZ) (qa_c (N4 (qa_c (qe_ix (K:=K) (vi sD) A8) (qa_c (vi jE) A5))) A5)))))))))
   (C1 (D6 iD)))),?_⟩
  obtain ⟨r,ts,R,rfl,hR,hz,hl,q⟩:=h;have okR:∀ z∈R,∀ y∈z.1::z.2,P7 y=true:=fun z h y hy=>(hz z h).str hy
  have rwR:=akI hz hl;have hwj:∀ i e,e∈P0 (R.take i)->T5 e.1:=fun i e he=>by
   obtain ⟨z,_,he⟩:=j9.mp he;obtain ⟨p,hp,rfl⟩:=E7.mp he;exact cN hp
  have hff:∀ z∈R,z.1="figures"->z.2=[]:=fun z h=>(hz z h).f
  walk_at "rd";intro p np;have RA0:RulesAt H (A0 H p (.lst [])) p [] (cR (P0 (R.take 0))):=⟨⟨A6,.nil⟩,by simp,fun b hb=>by rw [F7.mp hb];exact np,Same.new np⟩
  generalize A0 H p (.lst [])=H0 at RA0;refine ⟨⟨_,.of (RA0.same _ _ hR.top)⟩,forLs (xs:=ts.map V.ref) (fun i Y H2=>∃ (u v x y:Option V) (qs:List Addr),Y=[some (.ref r),some (.ref p),u,v,x,y]/\RulesAt H H2 p qs (cR (P0 (R.take i)))/\clGo (hasW R "figures") [] (C5 (R.take i))=none) ⟨none,none,none,none,[],rfl,RA0,rfl⟩ ?_ ?_ ?_⟩
  .rintro i Y H2 _ ⟨u,v,x,y,qs,rfl,RA,_⟩;exact .of (RA.same _ _ hR.top)
  .rintro P' Bk hP i x0 Y H2 hx ⟨u,v,x,y,qs,rfl,RA,hc⟩;obtain ⟨t,ht,rfl⟩:=J0 hx;obtain ⟨z,uS,C6⟩:=Paired.at hR.row ht;have hrl:=hz z (M0 uS);walk_at "rd";refine ⟨t,z,rfl,RA.same _ _ C6,hrl,fun l H3 nl S3 hl3=>?_⟩;have nlp:l≠p:=fun e=>by rw [e,RA.rows.top] at nl;cases nl
   have RA3:RulesAt H H3 p qs (cR (P0 (R.take i)++((D7 z).take 0).map fun q=>(z.1,q))):=by
    rw [d0,d2,M3];exact ⟨RA.rows.same S3,RA.nd,RA.new,RA.same.trans S3⟩
   refine ⟨l,rfl,⟨_,.of hl3⟩,forLs (xs:=(D7 z).map V.str) (fun j Y H4=>∃ (v x y:Option V) (qs:List Addr),Y=[some (.ref r),some (.ref p),some (.ref t),v,x,y]/\H4 l=some (.lst ((D7 z).map V.str))/\RulesAt H H4 p qs (cR (P0 (R.take i)++((D7 z).take j).map fun q=>(z.1,q)))/\clGo (hasW R "figures") [] (wj (P0 (R.take i)++((D7 z).take j).map fun q=>(z.1,q)))=none) ⟨_,_,_,qs,rfl,hl3,RA3,by rw [d0,d2,M3,<- rD];exact hc⟩ ?_ ?_ ?_⟩
   .rintro j Y H4 _ ⟨v,x,y,qs,rfl,fY,_,_⟩;exact .of fY
   .rintro P2 Bk2 hP2 j y0 Y H4 hy0 ⟨v,x,y,qs,rfl,fY,RA4,N6⟩;obtain ⟨pc,dN,rfl⟩:=J0 hy0;have nW:=M0 dN;have hwz:=cN nW;obtain ⟨e1,e2⟩:=xV uS dN;have hWW:∀ e∈P0 (R.take i)++((D7 z).take j).map fun q=>(z.1,q),T5 e.1:=fun e he=>by
     rcases G1.mp he with he | he
     .exact hwj i e he
     .obtain ⟨p,hp,rfl⟩:=E7.mp he;exact hwz
    have epre:C5 (R.take i)++((D7 z).take j).map (fun p=>(p,jobD z.1))=wj (P0 (R.take i)++((D7 z).take j).map fun q=>(z.1,q)):=by
     rw [rD];unfold wj;rw [G2,k9];rfl
    rw [epre] at e2;have J8:∃ rest,C5 R=wj (P0 (R.take i)++((D7 z).take j).map fun q=>(z.1,q))++(pc,jobD z.1)::rest:=by
     rw [<- e2];refine ⟨(C5 R).drop (((C5 (R.take i)).length+j)+1),?_⟩;have j2:=(F6.mp e1).1
     have:=(F6.mp e1).2
     rw [<- this,<- gI j2,W8]
    obtain ⟨rest,J8⟩:=J8;have B1:∀ e∈wj (P0 (R.take i)++((D7 z).take j).map fun q=>(z.1,q)),e.1.length<=1000:=fun e he=>(rwR.short e (by rw [J8];exact O4 _ he)).1
    have hWl:(P0 (R.take i)++((D7 z).take j).map fun q=>(z.1,q)).length<=10000:=by
     have h1:=rwR.plen;rw [J8,G0] at h1;unfold wj at h1;rw [B3] at h1;lia
    have lc:=aok (p:=pc) hWW hwz N6 B1;have snoc:P0 (R.take i)++((D7 z).take (j+1)).map (fun q=>(z.1,q))=(P0 (R.take i)++((D7 z).take j).map fun q=>(z.1,q))++[(z.1,pc)]:=by
     rw [K5 dN,G2,<- j8];rfl
    have uT:Q4 (hasW R "figures") (keysP (wj (P0 (R.take i)++((D7 z).take j).map fun q=>(z.1,q)))) (job1 (wj (P0 (R.take i)++((D7 z).take j).map fun q=>(z.1,q)))) pc (jobD z.1)=true->∀ H',Same H H'->Q (.str pc) H':=fun hb H' S=>by
     have:Z3 R=some pc:=by
      unfold Z3;rw [J8];exact zT (e:=(pc,jobD z.1)) N6 hb
     have q:=q H' S;rw [this] at q;exact q
    generalize P0 (R.take i)++((D7 z).take j).map (fun q=>(z.1,q))=W at RA4 N6 hWW epre e2 J8 B1 hWl lc snoc uT;have S4:=RA4.same;walk_at "rd";refine midS (fun Y H5=>Y=[some (.ref r),some (.ref p),some (.ref t),some (.str pc),x,y]/\Same H4 H5/\(hasW R "figures" && pc.cps.toList.any figO)=false) ?_ ?_
    .intro M' hM';walk_at "rd";refine ⟨pc,rfl,pc.cps.toList.any figO,rfl,?_⟩
     by_cases hf:pc.cps.toList.any figO=true
     .rw [if_pos hf];refine ⟨by decide,fun p1 O7=>?_⟩;have S5:Same H4 (A0 H4 p1 (.tup [V.str (Str.ofString "figures")])):=Same.new O7;have hp5:A0 H4 p1 (.tup [V.str (Str.ofString "figures")]) p1=some (.tup ((("figures" : Str)::[]).map V.str)):=A6;generalize A0 H4 p1 (.tup [V.str (Str.ofString "figures")])=H5 at S5 hp5;refine ⟨ruleD ("figures",[]),.tup (.of hp5) (lN (by intro y hy;rw [F7.mp hy];decide +kernel)),R.map ruleD,qK (hR.same (S4.trans S5)) okR,E1 (Nat.min_le_left _ _) (E1 (qJ R) (by decide)),?_⟩;rw [ama R "figures" hff]
      by_cases hh:hasW R "figures"=true
      .rw [if_pos hh];exact uT (by unfold Q4;rw [hh,hf];simp) H5 (S4.trans S5)
      .rw [if_neg hh];exact hM' _ _ ⟨rfl,S5,by rw [Bool.not_eq_true] at hh;rw [hh];rfl⟩
     .rw [if_neg hf];exact hM' _ _ ⟨rfl,Q8 _,by rw [Bool.not_eq_true] at hf;rw [hf,Bool.and_false]⟩
    rintro Y H5 ⟨rfl,S5,hfg⟩;have hR5:=RA4.rows.same S5;refine midS (fun Y H6=>∃ x y,Y=[some (.ref r),some (.ref p),some (.ref t),some (.str pc),x,y]/\Same H5 H6/\W.any (lawC z.1 pc)=false) ?_ ?_
    .intro M' hM';walk_at "rd";refine ⟨⟨_,.of hR5.top⟩,forLs (xs:=qs.map V.ref) (fun m Y H6=>∃ x y,Y=[some (.ref r),some (.ref p),some (.ref t),some (.str pc),x,y]/\Same H5 H6/\(W.take m).any (lawC z.1 pc)=false) ⟨_,_,rfl,Q8 _,rfl⟩ ?_ ?_ ?_⟩
     .rintro m Y H6 _ ⟨x,y,rfl,S6,_⟩;exact .of (S6 _ _ hR5.top)
     .rintro P3 Bk3 hP3 m x0 Y H6 dI ⟨x,y,rfl,S6,h0⟩;obtain ⟨t2,ht2,rfl⟩:=J0 dI;obtain ⟨e',tR,kS⟩:=Paired.at hR5.row ht2;obtain ⟨e,he,rfl⟩:∃ e,W[m]?=some e/\e'=(e.1,[e.2]):=J0 tR;have o4:(W.take (m+1)).any (lawC z.1 pc)=lawC z.1 pc e:=by
       rw [V1,he,List.any_append,h0]
       simp
      have hh:lawC z.1 pc e=true->∀ H',Same H H'->Q (.str pc) H':=fun hb=>uT (by unfold Q4;rw [<- lc,bS.mpr ⟨e,M0 he,hb⟩];rfl)
      have uU:=S4.trans (S5.trans S6);walk_at "rd";refine ⟨_,.of (S6 _ _ kS),rfl,_,_,rfl,_,_,rfl,rfl,?_⟩;walk_at "rd";refine iteD (fun e2=>?_) fun e2=>hP3 _ _ _ ⟨_,_,rfl,S6,?_⟩
      .refine ⟨_,.inr (.of (uU _ _ C6)),V.str z.1,O1 _ _,?_⟩;walk_at "rd"
       by_cases e1:e.1=z.1
       .rw [if_neg (by rw [decide_eq_true e1];decide)];refine ⟨by decide,fun p9 np9=>?_⟩;refine rInR.l (.inl (.of A6)) rfl rfl ⟨_,rfl,?_⟩;rw [show Y9 (V.str e.1) [V.str (Str.ofString "great"),V.str (Str.ofString "as")]=decide (e.1∈(["great", "as"]:List Str)) from iC e.1 ["great", "as"],bU];refine iteD (fun e3=>hh (by unfold lawC;rw [decide_eq_true e2,decide_eq_true e3];simp) _ (uU.trans (Same.new np9))) fun e3=>hP3 _ _ _ ⟨_,_,rfl,S6.trans (Same.new np9),?_⟩
        rw [o4];unfold lawC;rw [decide_eq_true e1,decide_eq_false e3]
        simp
       .rw [if_pos (by rw [decide_eq_false e1];rfl)];exact hh (by unfold lawC;rw [decide_eq_true e2,decide_eq_false e1];rfl) _ uU
      .rw [o4];unfold lawC;rw [decide_eq_false e2];rfl
     rintro Y H6 ⟨x,y,rfl,S6,h0⟩;have hql:qs.length=W.length:=by rw [hR5.len];unfold cR;rw [B3]
     rw [B3,hql,J1] at h0;exact hM' _ _ ⟨x,y,rfl,S6,h0⟩
    rintro Y H6 ⟨x,y,rfl,S6,hlw⟩;have kT:=S5.trans S6;have hR6:=RA4.rows.same kT;walk_at "rd";refine ⟨X1 hR6.top,_,.inr (.of (kT _ _ (S4 _ _ C6))),V.str z.1,O1 _ _,by decide,fun t9 n9=>?_⟩;have RB:=RA4.grow (kT.trans (Same.new n9)) (kT.free n9) (z:=(z.1,[pc])) A6;refine appOk (C9 hR6.top n9) (by rw [B3,hR6.len];unfold cR;rw [B3];exact K9 (by lia)) (hP2 _ _ _ ⟨_,_,_,qs++[t9],rfl,?_,?_,?_⟩)
    .rw [A7 nlp];exact C9 (kT _ _ fY) n9
    .rw [snoc];unfold cR;rw [G2];exact RB
    .rw [snoc];unfold wj;rw [G2];exact zU (e:=(pc,jobD z.1)) N6 (by show (_ || _)=false;unfold wj at lc;rw [<- lc,hlw,hfg];rfl)
   rintro Y H4 ⟨v,x,y,qs,rfl,fY,RA4,N6⟩;rw [B3,J1,<- amy uS] at RA4 N6;exact hP _ _ _ ⟨_,_,_,_,qs,rfl,RA4,by rw [rD];exact N6⟩
  rintro Y H2 ⟨u,v,x,y,qs,rfl,RA,hc⟩;rw [B3,hR.len,J1] at hc;walk_at "rd";have q:=q H2 RA.same;rw [show Z3 R=none from hc] at q;exact q
theorem sc_l_asked:FnScope ["_law_rules", "_law_word", "_law_found", "_law_e"] ["_law_rules"] (C7 n5):=J4
abbrev nG:List Str:=["_law_rules", "_law_word", "_law_found", "_law_e"]
theorem vc9:VS nG n5 "_law_rules" 0:=vq
theorem vda:VS nG n5 "_law_word" 1:=vq
theorem vdb:VS nG n5 "_law_found" 2:=vq
theorem vdc:VS nG n5 "_law_e" 3:=vq
theorem sE:LS n5 "_law_word":=lq
theorem sF:LS n5 "_law_found":=lq
theorem adU:(C7 n5).names.lookup ("_law_e" : Str)=some .local:=by decide +kernel
theorem ahn(F:FunD K "_law_asked" "_law_asked" n5 f fd)(T:Txt P w K mg C C_Clash C_NoLetter C_Round)(G_Order___init__:mK P w K mg base 6 C "Order" ["self", "rules"] (mS C C_Clash C_NoLetter C_Round)):FnOk P w K mg base F9 8 f fd ["_law_rules"] (aiQ C_NoLetter C_Round):=by
 refine F.ok sc_l_asked ?_ ?_
 .rintro _ _ _ _ ⟨r,ts,R,rfl,_⟩;rfl
 .intro cdv A outer s H vs Q E hr h;have C8:=hu_of hr;have hu:=hr.units;obtain ⟨d_Clash,md_Clash,CC_Clash,mr_Clash⟩:=T.c_Clash;obtain ⟨d_LoreError,md_LoreError,CC_LoreError,mr_LoreError⟩:=T.c_LoreError;refine ⟨_,QSs.out (B5 (D9 (n:=1) sc_l_asked.nd rfl sE D4)
   (B5 (D9 (n:=2) sc_l_asked.nd rfl sF iD)
   (B5 (zJ (zK (qh_as md_Clash CC_Clash sc_l_asked.nd (i:=3) rfl adU (fun _ _=>(B5 (D9 (n:=1) sc_l_asked.nd rfl sE D4)
   (C1 (D9 (n:=2) sc_l_asked.nd rfl sF (amg (vi vdc) (K:=K)))))) (qh_as md_LoreError CC_LoreError sc_l_asked.nd (i:=3) rfl adU (fun _ _=>(B5 (D9 (n:=1) sc_l_asked.nd rfl sE D4)
   (C1 (D9 (n:=2) sc_l_asked.nd rfl sF (vi vdc))))) zH (K:=K)) (K:=K)) (zG G_Order___init__ (hm hr) (fun _=>(qa_c (vi vc9) A5)))))
   (C1 (D6 (N4 (qa_c (vi vda) (qa_c (vi vdb) A5)))))))),?_⟩
  obtain ⟨r,ts,R,rfl,hR,rw',q⟩:=h;obtain ⟨fC,MC⟩:=T.er_Clash;obtain ⟨mr1,mr2,mr3⟩:=mr_Clash;obtain ⟨ml1,ml2,ml3⟩:=mr_LoreError;walk_at "rd";intro x dx nx ndx ndxx;have S1:Same H (A0 (A0 H dx (.own x)) x (.ins C dx [])):=(Same.new ndx).trans (Same.new (by rw [A7 ndxx.symm];exact nx));have X6:A0 (A0 H dx (.own x)) x (.ins C dx []) x=some (.ins C dx []):=A6;generalize A0 (A0 H dx (.own x)) x (.ins C dx [])=H1 at S1 X6;have Q0:∀ {H2:Hp},SameBut x H1 H2->Same H H2:=fun B b o hb=>B b o (fun e=>by rw [e,nx] at hb;cases hb) (S1 b o hb)
  refine ⟨x,dx,r,ts,R,rfl,X6,hR.same S1,rw',fun hc hm j ll ml md L M H2 _ _ _ _ B2 hO=>⟨rfl,by decide,fun t nt=>q t _ ((Q0 B2).trans (Same.new nt)) ?_⟩,fun p hp dx' H2 B2 hd=>⟨C_Clash,dx',rfl,rfl,true,mr1,?_⟩,fun p hc hp dx' H2 B2 hd=>⟨C_NoLetter,dx',rfl,rfl,false,mr2,?_⟩,fun hc hm w hw dx' l g H2 B2 hd hl hL=>⟨C_Round,dx',rfl,rfl,false,mr3,?_⟩⟩
  .unfold fB;rw [hc];exact .inl A6
  .rw [if_pos rfl];intro y ny;walk_at "rd";refine ⟨C_Clash,dx',A6,fC,_,C9 hd ny,MC,T.na_Clash,_,rfl,by decide,fun t nt=>q t _ ((Q0 B2).trans ((Same.new ny).trans (Same.new nt))) ?_⟩;unfold fB;rw [hp];exact A6
  .rw [if_neg J5];refine ⟨true,ml2,?_⟩;rw [if_pos rfl];intro y ny;walk_at "rd";refine ⟨by decide,fun t nt=>q t _ ((Q0 B2).trans ((Same.new ny).trans (Same.new nt))) ?_⟩;unfold fB;rw [hc];exact .inr ⟨y,C_NoLetter,dx',_,.inl rfl,A6,C9 A6 nt,C9 (C9 hd ny) nt⟩
  .rw [if_neg J5];refine ⟨true,ml3,?_⟩;rw [if_pos rfl];intro y ny;walk_at "rd";refine ⟨by decide,fun t nt=>q t _ ((Q0 B2).trans ((Same.new ny).trans (Same.new nt))) ?_⟩;unfold fB;rw [hc];exact .inr ⟨y,C_Round,dx',_,.inr rfl,A6,C9 A6 nt,C9 (C9 hd ny) nt⟩
theorem sc_l_refused:FnScope ["_law_rules", "_law_kept", "_law_e"] ["_law_rules"] (C7 aX):=J4
abbrev sG:List Str:=["_law_rules", "_law_kept", "_law_e"]
theorem vdf:VS sG aX "_law_rules" 0:=vq
theorem vdg:VS sG aX "_law_kept" 1:=vq
theorem vdh:VS sG aX "_law_e" 2:=vq
theorem vdi:LS aX "_law_kept":=lq
theorem aeN:(C7 aX).names.lookup ("_law_e" : Str)=some .local:=by decide +kernel
theorem afH(F:FunD K "_law_refused" "_law_refused" aX f fd)(T:Txt P w K mg C C_Clash C_NoLetter C_Round)(G_Order___init__:mK P w K mg base 6 C "Order" ["self", "rules"] (mS C C_Clash C_NoLetter C_Round))(G_l_kinds:FO P w K mg base 1 "_law_kinds" ["_law_e"] [] (aiS C_Clash)):FnOk P w K mg base F9 8 f fd ["_law_rules"] aiR:=by
 refine F.ok sc_l_refused ?_ ?_
 .rintro _ _ _ _ ⟨r,ts,R,p,rfl,_⟩;rfl
 .intro cdv A outer s H vs Q E hr h;have C8:=hu_of hr;have hu:=hr.units;obtain ⟨d_LoreError,md_LoreError,CC_LoreError,mr_LoreError⟩:=T.c_LoreError;refine ⟨_,QSs.out (B5 (D9 (n:=1) sc_l_refused.nd rfl vdi iD)
   (B5 (zJ (zK (qh_as md_LoreError CC_LoreError sc_l_refused.nd (i:=2) rfl aeN (fun _ _=>(C1 (D9 (n:=1) sc_l_refused.nd rfl vdi (vi vdh)))) zH (K:=K)) (zG G_Order___init__ (hm hr) (fun _=>(qa_c (vi vdf) A5)))))
   (C1 (D6 (iE (eQ anP (vi vdg) iD) (lU (eQ (q_eq (K:=K) hu) (E2 G_l_kinds (hm hr) (qa_c (vi vdg) A5)) (qe_op (q_add (K:=K)) (M9 (qa_c qe_bl A5)) (qe_op q_mul (M9 (qa_c qe_bl A5)) A8))))))))),?_⟩
  obtain ⟨r,ts,R,p,rfl,hR,rw',hc,q⟩:=h;obtain ⟨ml1,ml2,ml3⟩:=mr_LoreError;walk_at "rd";intro x dx nx ndx ndxx;have S1:Same H (A0 (A0 H dx (.own x)) x (.ins C dx [])):=(Same.new ndx).trans (Same.new (by rw [A7 ndxx.symm];exact nx));have X6:A0 (A0 H dx (.own x)) x (.ins C dx []) x=some (.ins C dx []):=A6;generalize A0 (A0 H dx (.own x)) x (.ins C dx [])=H1 at S1 X6;have Q0:∀ {H2:Hp},SameBut x H1 H2->Same H H2:=fun B b o hb=>B b o (fun e=>by rw [e,nx] at hb;cases hb) (S1 b o hb)
  refine ⟨x,dx,r,ts,R,rfl,X6,hR.same S1,rw',fun h1=>(by rw [hc] at h1;cases h1),fun p' hp dx' H2 B2 hd=>⟨C_Clash,dx',rfl,rfl,true,ml1,?_⟩,fun p' h1=>(by rw [hc] at h1;cases h1),fun h1=>(by rw [hc] at h1;cases h1)⟩;rw [if_pos rfl];intro y ny;walk_at "rd";rw [if_pos (by decide)];have S2:=(Q0 B2).trans (Same.new (u:=xc y C_Clash dx') ny);refine ⟨y,p',rfl,⟨dx',A6,C9 hd ny⟩,fun l H3 nl S3 hl=>⟨by decide,fun p np=>⟨by decide,fun p1 O7=>⟨p1,11,[V.bl false],rfl,rfl,A6,by decide,by decide,by decide,fun p2 N0=>?_⟩⟩⟩⟩;walk_at "rd";refine rAddR.l (C9 (C9 A6 O7) N0) A6 (by decide) fun p3 bK=>?_
  have S4:=(Same.new (u:=HO.lst [V.bl true]) np).trans ((Same.new (u:=HO.lst [V.bl false]) O7).trans ((Same.new (u:=HO.lst (O0 (11:Int).toNat [V.bl false]).flatten) N0).trans (Same.new (u:=HO.lst ([V.bl true]++(O0 (11:Int).toNat [V.bl false]).flatten)) bK)));have h4:A0 (A0 (A0 (A0 H3 p (HO.lst [V.bl true])) p1 (HO.lst [V.bl false])) p2 (HO.lst (O0 (11:Int).toNat [V.bl false]).flatten)) p3 (HO.lst ([V.bl true]++(O0 (11:Int).toNat [V.bl false]).flatten)) p3=some (.lst (kindN.map V.bl)):=A6;generalize A0 (A0 (A0 (A0 H3 p (HO.lst [V.bl true])) p1 (HO.lst [V.bl false])) p2 (HO.lst (O0 (11:Int).toNat [V.bl false]).flatten)) p3 (HO.lst ([V.bl true]++(O0 (11:Int).toNat [V.bl false]).flatten))=H4 at S4 h4;refine ⟨_,.lst (.of (S4 _ _ hl)) (rB _),_,.lst (.of h4) (rB _),by decide,?_⟩;rw [show (PyData.list (kindN.map PyData.bool)).eqv (PyData.list (kindN.map PyData.bool))=true by decide];exact q _ (S2.trans (S3.trans S4))
theorem sc_law:FnScope ["_law_script", "_law_rules", "_law_k", "_law_cell", "_law_due", "_law_handed", "_law_found"] ["_law_script"] (C7 s_law):=J4
abbrev n_law:List Str:=["_law_script", "_law_rules", "_law_k", "_law_cell", "_law_due", "_law_handed", "_law_found"]
theorem vdj:VS n_law s_law "_law_script" 0:=vq
theorem jF:VS n_law s_law "_law_rules" 1:=vq
theorem vdl:VS n_law s_law "_law_k" 2:=vq
theorem vdm:VS n_law s_law "_law_cell" 3:=vq
theorem vdn:VS n_law s_law "_law_due" 4:=vq
theorem vdo:VS n_law s_law "_law_handed" 5:=vq
theorem cV:VS n_law s_law "_law_found" 6:=vq
theorem vdq:LS s_law "_law_rules":=lq
theorem vdr:LS s_law "_law_k":=lq
theorem vds:LS s_law "_law_cell":=lq
theorem vdt:LS s_law "_law_due":=lq
theorem vdu:LS s_law "_law_handed":=lq
theorem vdv:LS s_law "_law_found":=lq
theorem aol(F:FunD K "law" "law" s_law f fd)(T:Txt P w K mg C C_Clash C_NoLetter C_Round)(G_l_rule:FO P w K mg base 5 "_law_rule" ["_law_script", "_law_k", "_law_cell"] [] (agN K))(G_l_clash:FO P w K mg base 2 "_law_clash" ["_law_rules"] [] (afx K))(G_l_asked:FO P w K mg base 8 "_law_asked" ["_law_rules"] [] (aiQ C_NoLetter C_Round))(G_l_refused:FO P w K mg base 8 "_law_refused" ["_law_rules"] [] aiR):FnOk P w K mg base F9 9 f fd ["_law_script"] (spLaw K):=by
 refine F.ok sc_law ?_ ?_
 .rintro _ _ _ _ ⟨a,ns,rfl,_⟩;rfl
 .intro cdv A outer s H vs Q E hr h;have C8:=hu_of hr;have hu:=hr.units;obtain ⟨a_NoLetter,m_NoLetter,M_NoLetter⟩:=T.x_NoLetter;obtain ⟨a_Round,m_Round,M_Round⟩:=T.x_Round;refine ⟨_,QSs.out (B5 (D9 (n:=1) sc_law.nd rfl vdq (M9 A5))
   (B5 (N8 PassesOwn.never (mB T.b_enumerate (qa_c (X2 (K:=K) (vi vdj) (R5 A8) (R5 A8)) A5)) (cJ (K:=K) (n:=2) (V6 ((E8 (n:=2) sc_law.nd rfl vdr (.inl rfl))) (V6 ((E8 (n:=3) sc_law.nd rfl vds (.inl rfl))) cI))) (C1 (T4 (qe_mB (K:=K) Y6 z8 z0 aH (vi jF) (qa_c (E2 G_l_rule (hm hr) (qa_c (vi vdj) (qa_c (vi vdl) (qa_c (vi vdm) A5)))) A5)))))
   (B5 (D9 (n:=4) sc_law.nd rfl vdt (E2 G_l_clash (hm hr) (qa_c (vi jF) A5)))
   (B5 (D9 (n:=5) sc_law.nd rfl vdu (qe_cT (cK (K:=K) (calm:=true)) T.b_list cE (qa_c (vi jF) A5)))
   (B5 (D9 (n:=6) sc_law.nd rfl vdv (E2 G_l_asked (hm hr) (qa_c (vi vdo) A5)))
   (B5 (qs_if (E4 (q_ne (K:=K) hu) (vi vdo) (vi jF)) (C1 (D6 qe_bl)) G5)
   (B5 (qs_if (E4 q_isN (vi vdn) iD) (B5 (qs_if (E4 (q_eq (K:=K) hu) (qe_ix (K:=K) (vi cV) A8) D4) (C1 (D6 (qe_or (qe_cB (q_isX T.cn T.ct (K:=K)) T.b_isinstance U4 (qa_c (qe_ix (K:=K) (vi cV) A8) (qa_c (R4 m_NoLetter) A5))) (lU (qe_cB (q_isX T.cn T.ct (K:=K)) T.b_isinstance U4 (qa_c (qe_ix (K:=K) (vi cV) A8) (qa_c (R4 m_Round) A5))))))) G5)
   (C1 (D6 (eQ (q_eq (K:=K) hu) (qe_ix (K:=K) (vi cV) A8) D4)))) G5)
   (C1 (D6 (iE (eQ (q_eq (K:=K) hu) (qe_ix (K:=K) (vi cV) A8) D4) (iE (qe_cB q_isi T.b_isinstance U4 (qa_c (qe_ix (K:=K) (vi cV) A8) (qa_c (qe_ty T.b_str anK) A5))) (iE (eQ (q_eq (K:=K) hu) (qe_ix (K:=K) (vi cV) A8) (vi vdn)) (lU (E2 G_l_refused (hm hr) (qa_c (vi jF) A5))))))))))))))),?_⟩
  obtain ⟨a,ns,rfl,hS,B1,q⟩:=h;obtain ⟨fN,MN⟩:=T.er_NoLetter;obtain ⟨fR,MR⟩:=T.er_Round;walk_at "rd";refine fun p np=>rSlR.l ((Same.new np).seq hS) fun c nc=>?_
  rw [show cutV (ns.map V.int) (some 2) (some 52)=((ns.drop 2).take 50).map V.int by rw [show cutV (ns.map V.int) (some 2) (some 52)=_ from qH _ (i:=2) (j:=52) (by decide),<- List.map_drop,<- List.map_take]];have U0:((ns.drop 2).take 50).length<=50:=by rw [M6];lia
  generalize (ns.drop 2).take 50=cs at U0;have S1:Same H (A0 (A0 H p (.lst [])) c (.lst (cs.map V.int))):=(Same.new np).trans (Same.new nc);have uV:A0 (A0 H p (.lst [])) c (.lst (cs.map V.int)) c=some (.lst (cs.map V.int)):=A6;have W5:A0 (A0 H p (.lst [])) c (.lst (cs.map V.int)) p=some (.lst []):=C9 A6 nc;have ncp:c≠p:=fun e=>by rw [e,A6] at nc;cases nc
  generalize A0 (A0 H p (.lst [])) c (.lst (cs.map V.int))=H1 at S1 uV W5;have RA0:RulesAt H H1 p [] []:=⟨⟨W5,.nil⟩,by simp,fun b hb=>by rw [F7.mp hb];exact np,S1⟩
  refine ⟨c,rfl,⟨_,uV⟩,forEs (xs:=cs.map V.int) (fun i Y H2=>∃ (u v:Option V) (ts:List Addr) (R:List Rl),Y=[some (.ref a),some (.ref p),u,v,none,none,none]/\RulesAt H H2 p ts R/\H2 c=some (.lst (cs.map V.int))/\R.length=i/\∀ z∈R,RL z) ⟨none,none,[],[],rfl,RA0,uV,rfl,by simp⟩ (by rintro i Y H2 ⟨_,_,_,_,_,_,h,_⟩;exact h) ?_ ?_⟩
  .rintro P' Bk hP i x t Y H2 hx ⟨u,v,ts,R,rfl,RA,v7,hXl,hz⟩ nt;obtain ⟨cv,kF,rfl⟩:=J0 hx;have hi:i<cs.length:=(F6.mp kF).1;have S3:Same H2 (A0 H2 t (.tup [V.int i,V.int cv])):=Same.new nt;have ht3:A0 H2 t (.tup [V.int i,V.int cv]) t=some (.tup [V.int i,V.int cv]):=A6;generalize A0 H2 t (.tup [V.int i,V.int cv])=H3 at S3 ht3;walk_at "rd";refine ⟨_,.of ht3,rfl,_,_,rfl,_,_,rfl,rfl,X1 (S3 _ _ RA.rows.top),a,i,cv,ns,rfl,(RA.same.trans S3).seq hS,fun t4 z4 H4 n4 S4 h4 hz4=>?_⟩;have bF:=S3.trans S4;have RB:=RA.grow bF (S3.free n4) h4;refine appOk (bF _ _ RA.rows.top) (by rw [B3,RA.rows.len];exact K9 (by lia)) ?_;exact hP _ _ _ ⟨_,_,_,R++[z4],rfl,RB,by rw [A7 ncp];exact bF _ _ v7,by rw [G0,hXl];rfl,fun z h=>(G1.mp h).elim (hz z) fun e=>by rw [F7.mp e];exact hz4⟩
  rintro Y H2 ⟨u,v,ts,R,rfl,RA,v7,hXl,hz⟩;rw [B3] at hXl;have hR:=RA.rows;have S2:=RA.same;have hRl:R.length<=50:=by lia
  have rwR:=akI hz hRl;have okR:∀ z∈R,∀ y∈z.1::z.2,P7 y=true:=fun z h y hy=>(hz z h).str hy
  clear RA v7 RA0 hXl;walk_at "rd";refine ⟨p,ts,R,rfl,hR,hz,hRl,fun H3 S3=>?_⟩;have hR3:=hR.same S3
  try walk_at "rd"
  refine rListR.l (.inl (.of hR3.top)) fun r2 nr2=>?_
  have S4:Same H3 (A0 H3 r2 (.lst (ts.map V.ref))):=Same.new nr2;have hR4:IsRules (A0 H3 r2 (.lst (ts.map V.ref))) r2 ts R:=⟨A6,(hR3.same S4).row⟩
  generalize A0 H3 r2 (.lst (ts.map V.ref))=H4 at S4 hR4;refine ⟨r2,ts,R,rfl,hR4,rwR,fun t H5 S5 hA=>?_⟩;have hR5:=hR4.same S5;have hRp:=(hR3.same S4).same S5
  try walk_at "rd"
  refine ⟨_,qK hR5 okR,_,qK hRp okR,E1 (Nat.min_le_left _ _) ?_,?_⟩
  .have hdr:=qJ R;simp only [PyData.depth];lia
  rw [ais,if_neg (by decide)];unfold fB at hA;cases hd:Z3 R with
  | none=>
   rw [hd] at hA;rw [if_pos (show decide (optP none=V.non)=true from rfl)]
   rcases hA with hA | ⟨y,Ce,d,fs,hCe,hA,hy,uW⟩
   .refine ⟨_,.inr (.of hA),_,O1 _ _,?_⟩;walk_at "rd";rw [if_neg (by decide +kernel)];refine ⟨_,.inr (.of hA),_,O1 _ _,?_⟩;walk_at "rd";exact q _
   .refine ⟨_,.inr (.of hA),_,O1 _ _,?_⟩;walk_at "rd";rw [if_pos (by decide +kernel)];refine ⟨_,.inr (.of hA),V.ref y,l7 (j:=1) rfl,?_⟩
    rcases hCe with h | h <;> rw [h] at hy
    .refine ⟨y,C_NoLetter,d,fN,fs,.ref _,.ref _,true,rfl,hy,uW,MN,rfl,M_NoLetter.2.1,true,rfl,?_⟩;rw [if_pos rfl];exact q _
    .refine ⟨y,C_Round,d,fR,fs,.ref _,.ref _,false,rfl,hy,uW,MR,rfl,M_NoLetter.2.2,false,rfl,?_⟩;rw [if_neg J5];exact ⟨_,.inr (.of hA),V.ref y,l7 (j:=1) rfl,y,C_Round,d,fR,fs,.ref _,.ref _,true,rfl,hy,uW,MR,rfl,M_Round.2.2,q _⟩
  | some pp=>
   rw [hd] at hA;rw [if_neg (by rw [decide_eq_true_iff];intro e;cases e)];refine ⟨_,.inr (.of hA),_,O1 _ _,?_⟩;walk_at "rd";refine iteT ⟨_,.inr (.of hA),V.str pp,l7 (j:=1) rfl, "str",rfl,rfl,iteT ⟨_,.inr (.of hA),V.str pp,l7 (j:=1) rfl,?_⟩⟩;show rEqU K (V.str pp) (V.str pp) H5 _;walk_at "rd";rw [if_pos (show decide True=true from rfl)];exact ⟨p,ts,R,pp,rfl,hRp,rwR,hd,fun H' _=>q H'⟩
end
theorem all_mk{l:PySem.W.OpenLaw}{w:World}{C_Clash C_NoLetter C_Round:Addr}(X:K.In h)(G:h.Ns mainGlobals mg)(hfa:mg "law"=some (.ref fa)){f0:Addr}{od0 an0:Option Addr}{sl0:Array (Option Value)}{oc0 kV0 dc0 pm0 cd0 ct0:Value}(i0:PySem.W.isFn K (.ref f0)=true)(l0:K.lookup f0=some ⟨oc0,od0,.func (Q2 "__init__" "Clash.__init__" (R3 aP) (Q3 aP) (C7 aP) .none kV0 dc0 pm0 an0 cd0 ct0),sl0⟩)(c0:U1 K cd0 "Clash.__init__"=true)(k0:O9 K (.ref f0)=true){f1:Addr}{od1 an1:Option Addr}{sl1:Array (Option Value)}{oc1 kV1 dc1 pm1 cd1 ct1:Value}(i1:PySem.W.isFn K (.ref f1)=true)(l1:K.lookup f1=some ⟨oc1,od1,.func (Q2 "__init__" "NoLetter.__init__" (R3 aQ) (Q3 aQ) (C7 aQ) .none kV1 dc1 pm1 an1 cd1 ct1),sl1⟩)(c1:U1 K cd1 "NoLetter.__init__"=true)(k1:O9 K (.ref f1)=true){f2:Addr}{od2 an2:Option Addr}{gZ:Array (Option Value)}{oc2 kV2 dc2 pm2 cd2 ct2:Value}(i2:PySem.W.isFn K (.ref f2)=true)(l2:K.lookup f2=some ⟨oc2,od2,.func (Q2 "__init__" "Round.__init__" (R3 aR) (Q3 aR) (C7 aR) .none kV2 dc2 pm2 an2 cd2 ct2),gZ⟩)(c2:U1 K cd2 "Round.__init__"=true)(k2:O9 K (.ref f2)=true)(d3:DF K "told" m7)(d4:DF K "followers" V9)(d5:DF K "count_ahead" m8)(d6:DF K "way_back" aS)(d7:DF K "round_from" R0)(d8:DF K "take_out" Z1)(d9:DF K "shortest_round" T7){f10:Addr}{od10 an10:Option Addr}{sl10:Array (Option Value)}{oc10 kV10 dc10 pm10 cd10 ct10:Value}(a10:E3 K mainGlobals "lined_up"=some (some (.ref f10)))(l10:K.lookup f10=some ⟨oc10,od10,.func (Q2 "lined_up" "lined_up" (R3 N5) (Q3 N5) (C7 N5) .none kV10 dc10 pm10 an10 cd10 ct10),sl10⟩)(c10:U1 K cd10 "lined_up"=true)(k10:O9 K (.ref f10)=true)(d11:DF K "is_figure" mM)(d12:DF K "has_rule" iS)(d13:DF K "pieces_told" mO)(d14:DF K "is_clash" aT){f15:Addr}{od15 an15:Option Addr}{sl15:Array (Option Value)}{oc15 kV15 dc15 pm15 cd15 ct15:Value}(a15:E3 K mainGlobals "jobs_of"=some (some (.ref f15)))(l15:K.lookup f15=some ⟨oc15,od15,.func (Q2 "jobs_of" "jobs_of" (R3 U7) (Q3 U7) (C7 U7) .none kV15 dc15 pm15 an15 cd15 ct15),sl15⟩)(c15:U1 K cd15 "jobs_of"=true)(k15:O9 K (.ref f15)=true)(d16:DF K "misused" u8){f17:Addr}{od17 an17:Option Addr}{sl17:Array (Option Value)}{oc17 kV17 dc17 pm17 cd17 ct17:Value}(a17:E3 K mainGlobals "check_letters"=some (some (.ref f17)))(l17:K.lookup f17=some ⟨oc17,od17,.func (Q2 "check_letters" "check_letters" (R3 Z2) (Q3 Z2) (C7 Z2) .none kV17 dc17 pm17 an17 cd17 ct17),sl17⟩)(c17:U1 K cd17 "check_letters"=true)(k17:O9 K (.ref f17)=true){f18:Addr}{od18 an18:Option Addr}{sl18:Array (Option Value)}{oc18 kV18 dc18 pm18 cd18 ct18:Value}(a18:E3 K mainGlobals "line_of"=some (some (.ref f18)))(l18:K.lookup f18=some ⟨oc18,od18,.func (Q2 "line_of" "line_of" (R3 aU) (Q3 aU) (C7 aU) .none kV18 dc18 pm18 an18 cd18 ct18),sl18⟩)(c18:U1 K cd18 "line_of"=true)(k18:O9 K (.ref f18)=true)(d19:DF K "forms_of" aV)(d20:DF K "steps_of" O2){f21:Addr}{od21 an21:Option Addr}{sl21:Array (Option Value)}{oc21 kV21 dc21 pm21 cd21 ct21:Value}(a21:G9 K (.ref C) "__init__"=some (some (.ref f21)))(i21:PySem.W.isFn K (.ref f21)=true)(l21:K.lookup f21=some ⟨oc21,od21,.func (Q2 "__init__" "Order.__init__" (R3 aW) (Q3 aW) (C7 aW) .none kV21 dc21 pm21 an21 cd21 ct21),sl21⟩)(c21:U1 K cd21 "Order.__init__"=true)(k21:O9 K (.ref f21)=true)(d22:DF K "_law_cell_at" iT)(d23:DF K "_law_sign" u9)(d24:DF K "_law_kinds" eX)(d25:DF K "_law_piece" iU)(d26:DF K "_law_any" m9)(d27:DF K "_law_rule" g7)(d28:DF K "_law_told" mP)(d29:DF K "_law_figure" eY)(d30:DF K "_law_clash" W0)(d31:DF K "_law_asked" n5)(d32:DF K "_law_refused" aX){f33:Addr}{od33 an33:Option Addr}{sl33:Array (Option Value)}{oc33 kV33 dc33 pm33 cd33 ct33:Value}(a33:E3 K mainGlobals "law"=some (some (.ref f33)))(l33:K.lookup f33=some ⟨oc33,od33,.func (Q2 "law" "law" (R3 s_law) (Q3 s_law) (C7 s_law) .none kV33 dc33 pm33 an33 cd33 ct33),sl33⟩)(c33:U1 K cd33 "law"=true)(k33:O9 K (.ref f33)=true){N_Clash:Addr}{nm_Clash q_Clash:Str}{bs_Clash bm_Clash sub_Clash:List Value}{sn_Clash:List Str}{ab_Clash:Bool}{col_Clash:Option Bool}{dd_Clash:Option Addr}{k0_Clash k1_Clash k2_Clash k3_Clash k5_Clash:Option Value}(aE_Clash:E3 K mainGlobals "Clash"=some (some (.ref C_Clash)))(lE_Clash:K.lookup C_Clash=some (excClassObj nm_Clash q_Clash C_Clash N_Clash bs_Clash bm_Clash true sn_Clash sub_Clash ab_Clash col_Clash dd_Clash k0_Clash k1_Clash k2_Clash k3_Clash k5_Clash "ValueError.__new__"))(t1_Clash:y9 K u6 bm_Clash=true)(t2_Clash:g6 u6 (.ref C_Clash::bm_Clash)=true)(t3_Clash:bW K N_Clash=true)(t4_Clash:E3 K N_Clash "__init__"=some (some (.ref f0)))(sa_Clash:G9 K (.ref C_Clash) "__setattr__"=some (some (.builtin "object.__setattr__")))(ga_Clash:G9 K (.ref C_Clash) "__getattribute__"=some (some (.builtin "BaseException.__getattribute__")))(gt_Clash:G9 K (.ref C_Clash) "__getattr__"=some (none))(cl_Clash:G9 K (.ref C_Clash) "__class__"=some (some (.builtin "object.__class__")))(bx_Clash:M7 K C_Clash (.type "BaseException")=some true)(ob_Clash:M7 K C_Clash (.type "object")=some true)(kp_Clash:O9 K (.ref C_Clash)=true)(nE_Clash:G9 K (.ref C_Clash) "piece"=some none){N_NoLetter:Addr}{nm_NoLetter q_NoLetter:Str}{bs_NoLetter bm_NoLetter sub_NoLetter:List Value}{sn_NoLetter:List Str}{ab_NoLetter:Bool}{col_NoLetter:Option Bool}{dd_NoLetter:Option Addr}{k0_NoLetter k1_NoLetter k2_NoLetter k3_NoLetter k5_NoLetter:Option Value}(aE_NoLetter:E3 K mainGlobals "NoLetter"=some (some (.ref C_NoLetter)))(lE_NoLetter:K.lookup C_NoLetter=some (excClassObj nm_NoLetter q_NoLetter C_NoLetter N_NoLetter bs_NoLetter bm_NoLetter true sn_NoLetter sub_NoLetter ab_NoLetter col_NoLetter dd_NoLetter k0_NoLetter k1_NoLetter k2_NoLetter k3_NoLetter k5_NoLetter "ValueError.__new__"))(t1_NoLetter:y9 K u6 bm_NoLetter=true)(t2_NoLetter:g6 u6 (.ref C_NoLetter::bm_NoLetter)=true)(t3_NoLetter:bW K N_NoLetter=true)(t4_NoLetter:E3 K N_NoLetter "__init__"=some (some (.ref f1)))(sa_NoLetter:G9 K (.ref C_NoLetter) "__setattr__"=some (some (.builtin "object.__setattr__")))(ga_NoLetter:G9 K (.ref C_NoLetter) "__getattribute__"=some (some (.builtin "BaseException.__getattribute__")))(gt_NoLetter:G9 K (.ref C_NoLetter) "__getattr__"=some (none))(cl_NoLetter:G9 K (.ref C_NoLetter) "__class__"=some (some (.builtin "object.__class__")))(bx_NoLetter:M7 K C_NoLetter (.type "BaseException")=some true)(ob_NoLetter:M7 K C_NoLetter (.type "object")=some true)(kp_NoLetter:O9 K (.ref C_NoLetter)=true)(nE_NoLetter:G9 K (.ref C_NoLetter) "piece"=some none){N_Round:Addr}{nm_Round q_Round:Str}{bs_Round bm_Round sub_Round:List Value}{sn_Round:List Str}{ab_Round:Bool}{col_Round:Option Bool}{dd_Round:Option Addr}{k0_Round k1_Round k2_Round k3_Round k5_Round:Option Value}(aE_Round:E3 K mainGlobals "Round"=some (some (.ref C_Round)))(lE_Round:K.lookup C_Round=some (excClassObj nm_Round q_Round C_Round N_Round bs_Round bm_Round true sn_Round sub_Round ab_Round col_Round dd_Round k0_Round k1_Round k2_Round k3_Round k5_Round "ValueError.__new__"))(t1_Round:y9 K u6 bm_Round=true)(t2_Round:g6 u6 (.ref C_Round::bm_Round)=true)(t3_Round:bW K N_Round=true)(t4_Round:E3 K N_Round "__init__"=some (some (.ref f2)))(sa_Round:G9 K (.ref C_Round) "__setattr__"=some (some (.builtin "object.__setattr__")))(ga_Round:G9 K (.ref C_Round) "__getattribute__"=some (some (.builtin "BaseException.__getattribute__")))(gt_Round:G9 K (.ref C_Round) "__getattr__"=some (none))(cl_Round:G9 K (.ref C_Round) "__class__"=some (some (.builtin "object.__class__")))(bx_Round:M7 K C_Round (.type "BaseException")=some true)(ob_Round:M7 K C_Round (.type "object")=some true)(kp_Round:O9 K (.ref C_Round)=true)(nE_Round:G9 K (.ref C_Round) "pieces"=some none){aL:Addr}(eL:E3 K mainGlobals "LoreError"=some (some (.ref aL)))(eL1:bV K (.ref aL) "__getattribute__"=some (some (.builtin "type.__getattribute__")))(eL2:PySem.W.readsIn K aL (.type "type")=true)(eL3:PySem.W.findCls K (.ref aL) (.type "type") "__init__"=some (.val (.builtin "ValueError.__init__")))(ecn:bV K (.builtin "object.__class__") "__get__"=some (some (.builtin "getset_descriptor.__get__")))(ect:gQ K (.builtin "object.__class__")=some true){d_Clash:Addr}{cd_Clash:ClassData}(aD_Clash:E3 K mainGlobals "Clash"=some (some (.ref d_Clash)))(D1_Clash:PySem.W.clsIn K d_Clash=some cd_Clash)(D2_Clash:PySem.W.typeIn K (.ref d_Clash)=some (.type "type"))(D3_Clash:M7 K d_Clash (.type "BaseException")=some true)(D4Clash_Clash:M7 K C_Clash (.ref d_Clash)=some true)(D4NoLetter_Clash:M7 K C_NoLetter (.ref d_Clash)=some false)(D4Round_Clash:M7 K C_Round (.ref d_Clash)=some false){d_LoreError:Addr}{cd_LoreError:ClassData}(aD_LoreError:E3 K mainGlobals "LoreError"=some (some (.ref d_LoreError)))(D1_LoreError:PySem.W.clsIn K d_LoreError=some cd_LoreError)(D2_LoreError:PySem.W.typeIn K (.ref d_LoreError)=some (.type "type"))(D3_LoreError:M7 K d_LoreError (.type "BaseException")=some true)(D4Clash_LoreError:M7 K C_Clash (.ref d_LoreError)=some true)(D4NoLetter_LoreError:M7 K C_NoLetter (.ref d_LoreError)=some true)(D4Round_LoreError:M7 K C_Round (.ref d_LoreError)=some true){x_NoDeed:Addr}(aX_NoDeed:E3 K mainGlobals "NoDeed"=some (some (.ref x_NoDeed)))(X1Clash_NoDeed:G6 K (.ref C_Clash) (.ref x_NoDeed)=some false){x_NoSign:Addr}(aX_NoSign:E3 K mainGlobals "NoSign"=some (some (.ref x_NoSign)))(X1Clash_NoSign:G6 K (.ref C_Clash) (.ref x_NoSign)=some false){x_NoName:Addr}(aX_NoName:E3 K mainGlobals "NoName"=some (some (.ref x_NoName)))(X1Clash_NoName:G6 K (.ref C_Clash) (.ref x_NoName)=some false){x_NoRule:Addr}(aX_NoRule:E3 K mainGlobals "NoRule"=some (some (.ref x_NoRule)))(X1Clash_NoRule:G6 K (.ref C_Clash) (.ref x_NoRule)=some false){x_NotPlain:Addr}(aX_NotPlain:E3 K mainGlobals "NotPlain"=some (some (.ref x_NotPlain)))(X1Clash_NotPlain:G6 K (.ref C_Clash) (.ref x_NotPlain)=some false){x_NoText:Addr}(aX_NoText:E3 K mainGlobals "NoText"=some (some (.ref x_NoText)))(X1Clash_NoText:G6 K (.ref C_Clash) (.ref x_NoText)=some false){x_Ring:Addr}(aX_Ring:E3 K mainGlobals "Ring"=some (some (.ref x_Ring)))(X1Clash_Ring:G6 K (.ref C_Clash) (.ref x_Ring)=some false){x_Twice:Addr}(aX_Twice:E3 K mainGlobals "Twice"=some (some (.ref x_Twice)))(X1Clash_Twice:G6 K (.ref C_Clash) (.ref x_Twice)=some false){x_Clash:Addr}(aX_Clash:E3 K mainGlobals "Clash"=some (some (.ref x_Clash)))(X1Clash_Clash:G6 K (.ref C_Clash) (.ref x_Clash)=some true){x_NoLetter:Addr}(aX_NoLetter:E3 K mainGlobals "NoLetter"=some (some (.ref x_NoLetter)))(X1Clash_NoLetter:G6 K (.ref C_Clash) (.ref x_NoLetter)=some false)(X1NoLetter_NoLetter:G6 K (.ref C_NoLetter) (.ref x_NoLetter)=some true)(X1Round_NoLetter:G6 K (.ref C_Round) (.ref x_NoLetter)=some false){x_Round:Addr}(aX_Round:E3 K mainGlobals "Round"=some (some (.ref x_Round)))(X1Clash_Round:G6 K (.ref C_Clash) (.ref x_Round)=some false)(X1NoLetter_Round:G6 K (.ref C_NoLetter) (.ref x_Round)=some false)(X1Round_Round:G6 K (.ref C_Round) (.ref x_Round)=some true)(Y1_ValueError:G6 K (.ref C_Clash) (.type "ValueError")=some true)(aC:E3 K mainGlobals "Order"=some (some (.ref C)))(pgC:PySem.W.plainGet K C Str.empty=true)(hdC:dZ K C=true)(poC:PySem.W.plainOver K C=true)(saC:G9 K (.ref C) "__setattr__"=some (some (.builtin "object.__setattr__")))(mkC:PySem.W.makesIn K C=true)(kcC:O9 K (.ref C)=true)(nC_figures:G9 K (.ref C) "figures"=some none)(nC_behind:G9 K (.ref C) "behind"=some none)(nC_jobs:G9 K (.ref C) "jobs"=some none)(nC_letter_line:G9 K (.ref C) "letter_line"=some none)(nC_mark_line:G9 K (.ref C) "mark_line"=some none)(nC_made:G9 K (.ref C) "made"=some none)(z_ValueError:E3 K mainGlobals "ValueError"=some none)(z_any:E3 K mainGlobals "any"=some none)(z_dict:E3 K mainGlobals "dict"=some none)(z_enumerate:E3 K mainGlobals "enumerate"=some none)(z_isinstance:E3 K mainGlobals "isinstance"=some none)(z_len:E3 K mainGlobals "len"=some none)(z_list:E3 K mainGlobals "list"=some none)(z_min:E3 K mainGlobals "min"=some none)(z_range:E3 K mainGlobals "range"=some none)(z_str:E3 K mainGlobals "str"=some none)(z_tuple:E3 K mainGlobals "tuple"=some none)(z_zip:E3 K mainGlobals "zip"=some none){a_JOBS:Addr}{ep_JOBS:Nat}{h_JOBS_0:Int}{t_JOBS_0 u_JOBS_0:Tok}{h_JOBS_1:Int}{t_JOBS_1 u_JOBS_1:Tok}{h_JOBS_2:Int}{t_JOBS_2 u_JOBS_2:Tok}{h_JOBS_3:Int}{t_JOBS_3 u_JOBS_3:Tok}{h_JOBS_4:Int}{t_JOBS_4 u_JOBS_4:Tok}(y_JOBS:E3 K mainGlobals "JOBS"=some (some (.ref a_JOBS)))(d_JOBS:K.lookup a_JOBS=some { cls:=.type "dict",dict:=none,data:=.dict #[⟨h_JOBS_0,.str "row" t_JOBS_0,.str "letter" u_JOBS_0⟩,⟨h_JOBS_1,.str "marks" t_JOBS_1,.str "mark" u_JOBS_1⟩,⟨h_JOBS_2,.str "great" t_JOBS_2,.str "great" u_JOBS_2⟩,⟨h_JOBS_3,.str "as" t_JOBS_3,.str "as" u_JOBS_3⟩,⟨h_JOBS_4,.str "over" t_JOBS_4,.str "over" u_JOBS_4⟩] ep_JOBS,slots:=#[] })(s_JOBS:(a_JOBS==sysModules)=false)(e_JOBS_0:h_JOBS_0=keyH w (Sum.inr ("row" : Str)))(e_JOBS_1:h_JOBS_1=keyH w (Sum.inr ("marks" : Str)))(e_JOBS_2:h_JOBS_2=keyH w (Sum.inr ("great" : Str)))(e_JOBS_3:h_JOBS_3=keyH w (Sum.inr ("as" : Str)))(e_JOBS_4:h_JOBS_4=keyH w (Sum.inr ("over" : Str))){a_AGAIN:Addr}{n_AGAIN:Nat}{od_AGAIN:Option Addr}{sl_AGAIN:Array (Option Value)}{t_AGAIN_0:Tok}{t_AGAIN_1:Tok}{t_AGAIN_2:Tok}(y_AGAIN:E3 K mainGlobals "AGAIN"=some (some (.ref a_AGAIN)))(d_AGAIN:K.lookup a_AGAIN=some ⟨.type "tuple",od_AGAIN,.seq #[.str "letter" t_AGAIN_0,.str "mark" t_AGAIN_1,.str "over" t_AGAIN_2] n_AGAIN,sl_AGAIN⟩){tMARK tLETTER:Tok}(y_MARK:E3 K mainGlobals "MARK"=some (some (.int 0 tMARK)))(y_LETTER:E3 K mainGlobals "LETTER"=some (some (.int 2 tLETTER)))
  : ∃ fd:FuncData,(∀ (s:Shared) (v:Value),BindsTo s fd ⟨[v],[]⟩ [("_law_script",v)])/\∀ base:Heap,K.In base->base.Ns mainGlobals mg->FnOk l.prog w K mg base F9 9 fa fd ["_law_script"] (spLaw K):=by
 have e:=hfa.symm.trans (L8 X G a33);cases e;have M_Clash:ErrC K C_Clash f0:=⟨⟨_,_,_,_,_,_,_,_,_,_,_,_,_,_,_,lE_Clash,t1_Clash,t2_Clash,t3_Clash,t4_Clash⟩,i0,sa_Clash,ga_Clash,gt_Clash,cl_Clash,bx_Clash,ob_Clash,kp_Clash⟩
 have M_NoLetter:ErrC K C_NoLetter f1:=⟨⟨_,_,_,_,_,_,_,_,_,_,_,_,_,_,_,lE_NoLetter,t1_NoLetter,t2_NoLetter,t3_NoLetter,t4_NoLetter⟩,i1,sa_NoLetter,ga_NoLetter,gt_NoLetter,cl_NoLetter,bx_NoLetter,ob_NoLetter,kp_NoLetter⟩
 have M_Round:ErrC K C_Round f2:=⟨⟨_,_,_,_,_,_,_,_,_,_,_,_,_,_,_,lE_Round,t1_Round,t2_Round,t3_Round,t4_Round⟩,i2,sa_Round,ga_Round,gt_Round,cl_Round,bx_Round,ob_Round,kp_Round⟩
 have T:Txt l.prog w K mg C C_Clash C_NoLetter C_Round:=⟨⟨pgC,hdC,poC,saC⟩,nC_figures,nC_behind,nC_jobs,nC_letter_line,nC_mark_line,nC_made,⟨aL,L8 X G eL,⟨eL1,eL2,eL3⟩⟩,nE_Clash,⟨_,M_Clash⟩,nE_NoLetter,⟨_,M_NoLetter⟩,nE_Round,⟨_,M_Round⟩,ecn,ect,⟨d_Clash,L8 X G aD_Clash,⟨⟨_,D1_Clash⟩,D2_Clash,D3_Clash⟩,D4Clash_Clash,D4NoLetter_Clash,D4Round_Clash⟩,⟨d_LoreError,L8 X G aD_LoreError,⟨⟨_,D1_LoreError⟩,D2_LoreError,D3_LoreError⟩,D4Clash_LoreError,D4NoLetter_LoreError,D4Round_LoreError⟩,⟨x_NoDeed,L8 X G aX_NoDeed,X1Clash_NoDeed⟩,⟨x_NoSign,L8 X G aX_NoSign,X1Clash_NoSign⟩,⟨x_NoName,L8 X G aX_NoName,X1Clash_NoName⟩,⟨x_NoRule,L8 X G aX_NoRule,X1Clash_NoRule⟩,⟨x_NotPlain,L8 X G aX_NotPlain,X1Clash_NotPlain⟩,⟨x_NoText,L8 X G aX_NoText,X1Clash_NoText⟩,⟨x_Ring,L8 X G aX_Ring,X1Clash_Ring⟩,⟨x_Twice,L8 X G aX_Twice,X1Clash_Twice⟩,⟨x_Clash,L8 X G aX_Clash,X1Clash_Clash⟩,⟨x_NoLetter,L8 X G aX_NoLetter,X1Clash_NoLetter,X1NoLetter_NoLetter,X1Round_NoLetter⟩,⟨x_Round,L8 X G aX_Round,X1Clash_Round,X1NoLetter_Round,X1Round_Round⟩,Y1_ValueError,Y4 X G z_ValueError,Y4 X G z_any,Y4 X G z_dict,Y4 X G z_enumerate,Y4 X G z_isinstance,Y4 X G z_len,Y4 X G z_list,Y4 X G z_min,Y4 X G z_range,Y4 X G z_str,Y4 X G z_tuple,Y4 X G z_zip,⟨_,L8 X G y_MARK⟩,⟨_,L8 X G y_LETTER⟩,⟨_,L8 X G y_JOBS,alP d_JOBS s_JOBS (.cons ⟨eA _ _,e_JOBS_0,⟨_,rfl⟩⟩ ( .cons ⟨eA _ _,e_JOBS_1,⟨_,rfl⟩⟩ ( .cons ⟨eA _ _,e_JOBS_2,⟨_,rfl⟩⟩ ( .cons ⟨eA _ _,e_JOBS_3,⟨_,rfl⟩⟩ ( .cons ⟨eA _ _,e_JOBS_4,⟨_,rfl⟩⟩ ( .nil)))))) (by decide +kernel)⟩,⟨_,L8 X G y_AGAIN,fun H=>.inr ⟨_,_,_,d_AGAIN,rfl,rfl,(by show 3<=sizeLine;decide),.cons ⟨_,rfl⟩ ( .cons ⟨_,rfl⟩ ( .cons ⟨_,rfl⟩ ( .nil)))⟩⟩⟩
 have F0:=l9 (st:=aP) l0 c0;have F1:=l9 (st:=aQ) l1 c1;have F2:=l9 (st:=aR) l2 c2;have F10:=l9 (st:=N5) l10 c10;have F15:=l9 (st:=U7) l15 c15;have F17:=l9 (st:=Z2) l17 c17;have F18:=l9 (st:=aU) l18 c18;have F21:=l9 (st:=aW) l21 c21;have F33:=l9 (st:=s_law) l33 c33;refine ⟨Q2 "law" "law" (R3 s_law) (Q3 s_law) (C7 s_law) .none kV33 dc33 pm33 an33 cd33 ct33,fun s v=>.of_eq rfl,fun base hb hn=>?_⟩;have G_Clash___init__:EO l.prog w K mg base 1 C_Clash "Clash" ["self", "piece"] (fA K C_Clash "piece"):=⟨_,_,ac6 F0 T,L8 X G aE_Clash,M_Clash,.all (len2 fun _ _=>rfl)⟩
 have G_NoLetter___init__:EO l.prog w K mg base 1 C_NoLetter "NoLetter" ["self", "piece"] (fA K C_NoLetter "piece"):=⟨_,_,acu F1 T,L8 X G aE_NoLetter,M_NoLetter,.all (len2 fun _ _=>rfl)⟩
 have G_Round___init__:EO l.prog w K mg base 1 C_Round "Round" ["self", "pieces"] (qT K C_Round "pieces"):=⟨_,_,ac8 F2 T,L8 X G aE_Round,M_Round,.all (len2 fun _ _=>rfl)⟩
 have G_told:=d3.go X G hb fun F=>amA F T
 have G_followers:=d4.go X G hb fun F=>afz F T G_told
 have G_count_ahead:=d5.go X G hb fun F=>adY F T
 have G_way_back:=d6.go X G hb fun F=>af5 F T
 have G_round_from:=d7.go X G hb fun F=>aeL F T G_way_back
 have G_take_out:=d8.go X G hb fun F=>af6 F T
 have G_shortest_round:=d9.go X G hb fun F=>ac9 F T G_told G_followers G_count_ahead G_round_from G_take_out
 have G_lined_up:u7 l.prog w K mg base 4 "lined_up" ["rows"] [] (qU C_Round):=⟨_,_,af7 F10 T G_Round___init__ G_followers G_count_ahead G_shortest_round,L8 X G a10,k10,[],.all (len1 fun _=>rfl),.nil⟩
 have G_is_figure:=d11.go X G hb fun F=>afB F T
 have G_has_rule:=d12.go X G hb fun F=>aga F T
 have G_pieces_told:=d13.go X G hb fun F=>ad0 F T
 have G_is_clash:=d14.go X G hb fun F=>agc F T G_is_figure
 have G_jobs_of:u7 l.prog w K mg base 3 "jobs_of" ["rules"] [] (qY K C_Clash):=⟨_,_,ahf F15 T G_Clash___init__ G_has_rule G_pieces_told G_is_clash,L8 X G a15,k15,[],.all (len1 fun _=>rfl),.nil⟩
 have G_misused:=d16.go X G hb fun F=>ahg F T
 have G_check_letters:u7 l.prog w K mg base 3 "check_letters" ["rules", "jobs"] [] (qW K C_NoLetter):=⟨_,_,adi F17 T G_NoLetter___init__ G_misused,L8 X G a17,k17,[],.all (len2 fun _ _=>rfl),.nil⟩
 have G_line_of:u7 l.prog w K mg base 5 "line_of" ["rules", "word"] [] (qZ K C_Round):=⟨_,_,ahi F18 T G_lined_up,L8 X G a18,k18,[],.all (len2 fun _ _=>rfl),.nil⟩
 have G_forms_of:=d19.go X G hb fun F=>agd F T
 have G_steps_of:=d20.go X G hb fun F=>age F T G_forms_of
 have G_Order___init__:mK l.prog w K mg base 6 C "Order" ["self", "rules"] (mS C C_Clash C_NoLetter C_Round):=⟨_,_,adc F21 T G_has_rule G_jobs_of G_check_letters G_line_of G_steps_of,⟨mkC,a21,i21,kcC⟩,L8 X G aC,.all (len2 fun _ _=>rfl)⟩
 have G_l_cell_at:=d22.go X G hb fun F=>afE F T
 have G_l_sign:=d23.go X G hb fun F=>aiU F T G_l_cell_at
 have G_l_kinds:=d24.go X G hb fun F=>ahj F T
 have G_l_piece:=d25.go X G hb fun F=>ahl F T G_l_sign
 have G_l_any:=d26.go X G hb fun F=>akk F T G_l_sign G_l_piece
 have G_l_rule:=d27.go X G hb fun F=>aiV F T G_l_sign G_l_any
 have G_l_told:=d28.go X G hb fun F=>aiX F T
 have G_l_figure:=d29.go X G hb fun F=>agf F T
 have G_l_clash:=d30.go X G hb fun F=>ahm F T G_l_told G_l_figure
 have G_l_asked:=d31.go X G hb fun F=>ahn F T G_Order___init__
 have G_l_refused:=d32.go X G hb fun F=>afH F T G_Order___init__ G_l_kinds
 exact aol F33 T G_l_rule G_l_clash G_l_asked G_l_refused
theorem walk{l:PySem.W.OpenLaw}{q:Program}{XP:(Str->Option Value)->Heap->Prop}{YP:World->Heap->Prop}{d:DefRec}{K:Params->PySem.W.Frag}(hn:l.most=some 63)(o6:d.params.defaults=[])(hY:∀ (w:World) (h:Heap),YP w h->(K w.params).In h)(F:∀ (w:World) (mg:Str->Option Value) (fa:Addr) (h:Heap),(K w.params).In h->h.Ns mainGlobals mg->mg d.name=some (.ref fa)->
   ∃ fd:FuncData,(∀ (s:Shared) (u:Value),BindsTo s fd ⟨[u],[]⟩ [("_law_script",u)])/\∀ base:Heap,(K w.params).In base->base.Ns mainGlobals mg->FnOk l.prog w (K w.params) mg base F9 9 fa fd ["_law_script"] (spLaw (K w.params))) :
  PySem.W.WalkO q loose XP YP l.row.toRowW d [] (fun f vs=>PySem.call f vs):=
 L2.walk_of (n:=63) (k:=9) (x:="_law_script") (CX:=fun _=>F9) (sp:=fun w=>spLaw (K w.params)) hn (by decide) o6 ⟨rfl,by decide,by decide,rfl⟩ hY F (fun _ _ a ns hl _ hS=>⟨a,ns,rfl,hS,hl,fun _=>rfl⟩) fun _ _ _ _ _ z=>z
end K23
open PySem PySem.W PyProof.Rows
set_option maxRecDepth 100000 in
set_option maxHeartbeats 0 in
theorem PySem.Challenge.cw_sortlore_k23_clash_holds : PySem.Challenge.rw_sortlore_k23_clash.Holds := by
 w_on;o_law;k_head;(case hw=>w_witness2)
 k_fill
 refine K23.walk (l:=PySem.Challenge.rw_sortlore_k23_clash) rfl rfl (fun w h zy=>PySem.W.kIn_of zy) ?F
 case F=>
  intro w mg fa h KX G dA
  refine' K23.all_mk KX G dA ?i0 ?l0 ?c0 ?k0 ?i1 ?l1 ?c1 ?k1 ?i2 ?l2 ?c2 ?k2 ?d3 ?d4 ?d5 ?d6 ?d7 ?d8 ?d9 ?a10 ?l10 ?c10 ?k10 ?d11 ?d12 ?d13 ?d14 ?a15 ?l15 ?c15 ?k15 ?d16 ?a17 ?l17 ?c17 ?k17 ?a18 ?l18 ?c18 ?k18 ?d19 ?d20 ?a21 ?i21 ?l21 ?c21 ?k21 ?d22 ?d23 ?d24 ?d25 ?d26 ?d27 ?d28 ?d29 ?d30 ?d31 ?d32 ?a33 ?l33 ?c33 ?k33 ?aE_Clash ?lE_Clash ?t1_Clash ?t2_Clash ?t3_Clash ?t4_Clash ?sa_Clash ?ga_Clash ?gt_Clash ?cl_Clash ?bx_Clash ?ob_Clash ?kp_Clash ?nE_Clash ?aE_NoLetter ?lE_NoLetter ?t1_NoLetter ?t2_NoLetter ?t3_NoLetter ?t4_NoLetter ?sa_NoLetter ?ga_NoLetter ?gt_NoLetter ?cl_NoLetter ?bx_NoLetter ?ob_NoLetter ?kp_NoLetter ?nE_NoLetter ?aE_Round ?lE_Round ?t1_Round ?t2_Round ?t3_Round ?t4_Round ?sa_Round ?ga_Round ?gt_Round ?cl_Round ?bx_Round ?ob_Round ?kp_Round ?nE_Round ?eL ?eL1 ?eL2 ?eL3 ?ecn ?ect ?aD_Clash ?D1_Clash ?D2_Clash ?D3_Clash ?D4Clash_Clash ?D4NoLetter_Clash ?D4Round_Clash ?aD_LoreError ?D1_LoreError ?D2_LoreError ?D3_LoreError ?D4Clash_LoreError ?D4NoLetter_LoreError ?D4Round_LoreError ?aX_NoDeed ?X1Clash_NoDeed ?aX_NoSign ?X1Clash_NoSign ?aX_NoName ?X1Clash_NoName ?aX_NoRule ?X1Clash_NoRule ?aX_NotPlain ?X1Clash_NotPlain ?aX_NoText ?X1Clash_NoText ?aX_Ring ?X1Clash_Ring ?aX_Twice ?X1Clash_Twice ?aX_Clash ?X1Clash_Clash ?aX_NoLetter ?X1Clash_NoLetter ?X1NoLetter_NoLetter ?X1Round_NoLetter ?aX_Round ?X1Clash_Round ?X1NoLetter_Round ?X1Round_Round ?Y1_ValueError ?aC ?pgC ?hdC ?poC ?saC ?mkC ?kcC ?nC_figures ?nC_behind ?nC_jobs ?nC_letter_line ?nC_mark_line ?nC_made ?z_ValueError ?z_any ?z_dict ?z_enumerate ?z_isinstance ?z_len ?z_list ?z_min ?z_range ?z_str ?z_tuple ?z_zip ?y_JOBS ?d_JOBS ?s_JOBS ?e_JOBS_0 ?e_JOBS_1 ?e_JOBS_2 ?e_JOBS_3 ?e_JOBS_4 ?y_AGAIN ?d_AGAIN ?y_MARK ?y_LETTER
  any_goals (refine' K23.df_mk ?da ?dl ?dc ?dk;(case da=>k_is);(case dl=>k_is);(case dc=>k_is);(case dk=>k_is))
  (case aE_Clash=>k_is)
  (case lE_Clash=>k_is)
  (case t4_Clash=>k_is)
  (case aE_NoLetter=>k_is)
  (case lE_NoLetter=>k_is)
  (case t4_NoLetter=>k_is)
  (case aE_Round=>k_is)
  (case lE_Round=>k_is)
  (case t4_Round=>k_is)
  (case aC=>k_is)
  (case i0=>k_is)
  (case l0=>k_is)
  (case c0=>k_is)
  (case k0=>k_is)
  (case i1=>k_is)
  (case l1=>k_is)
  (case c1=>k_is)
  (case k1=>k_is)
  (case i2=>k_is)
  (case l2=>k_is)
  (case c2=>k_is)
  (case k2=>k_is)
  (case a10=>k_is)
  (case l10=>k_is)
  (case c10=>k_is)
  (case k10=>k_is)
  (case a15=>k_is)
  (case l15=>k_is)
  (case c15=>k_is)
  (case k15=>k_is)
  (case a17=>k_is)
  (case l17=>k_is)
  (case c17=>k_is)
  (case k17=>k_is)
  (case a18=>k_is)
  (case l18=>k_is)
  (case c18=>k_is)
  (case k18=>k_is)
  (case a21=>k_is)
  (case i21=>k_is)
  (case l21=>k_is)
  (case c21=>k_is)
  (case k21=>k_is)
  (case a33=>k_is)
  (case l33=>k_is)
  (case c33=>k_is)
  (case k33=>k_is)
  (case t1_Clash=>refine' L2.tail_one ?kU ?kW ?kX;(case kU=>k_is);(case kX=>k_is);(case kW=>refine' L2.nsOk_of ?j5 ?j6;(case j5=>k_is);(case j6=>rfl)))
  (case t2_Clash=>rfl)
  (case t3_Clash=>refine' L2.nsOk_of ?j5 ?j6;(case j5=>k_is);(case j6=>rfl))
  (case sa_Clash=>k_is)
  (case ga_Clash=>k_is)
  (case gt_Clash=>k_is)
  (case cl_Clash=>k_is)
  (case bx_Clash=>k_is)
  (case ob_Clash=>k_is)
  (case kp_Clash=>k_is)
  (case nE_Clash=>k_is)
  (case t1_NoLetter=>refine' L2.tail_one ?kU ?kW ?kX;(case kU=>k_is);(case kX=>k_is);(case kW=>refine' L2.nsOk_of ?j5 ?j6;(case j5=>k_is);(case j6=>rfl)))
  (case t2_NoLetter=>rfl)
  (case t3_NoLetter=>refine' L2.nsOk_of ?j5 ?j6;(case j5=>k_is);(case j6=>rfl))
  (case sa_NoLetter=>k_is)
  (case ga_NoLetter=>k_is)
  (case gt_NoLetter=>k_is)
  (case cl_NoLetter=>k_is)
  (case bx_NoLetter=>k_is)
  (case ob_NoLetter=>k_is)
  (case kp_NoLetter=>k_is)
  (case nE_NoLetter=>k_is)
  (case t1_Round=>refine' L2.tail_one ?kU ?kW ?kX;(case kU=>k_is);(case kX=>k_is);(case kW=>refine' L2.nsOk_of ?j5 ?j6;(case j5=>k_is);(case j6=>rfl)))
  (case t2_Round=>rfl)
  (case t3_Round=>refine' L2.nsOk_of ?j5 ?j6;(case j5=>k_is);(case j6=>rfl))
  (case sa_Round=>k_is)
  (case ga_Round=>k_is)
  (case gt_Round=>k_is)
  (case cl_Round=>k_is)
  (case bx_Round=>k_is)
  (case ob_Round=>k_is)
  (case kp_Round=>k_is)
  (case nE_Round=>k_is)
  (case eL=>k_is)
  (case eL1=>k_is)
  (case eL2=>k_is)
  (case eL3=>k_is)
  (case ecn=>k_is)
  (case ect=>k_is)
  (case aD_Clash=>k_is)
  (case D1_Clash=>k_is)
  (case D2_Clash=>k_is)
  (case D3_Clash=>k_is)
  (case D4Clash_Clash=>k_is)
  (case D4NoLetter_Clash=>k_is)
  (case D4Round_Clash=>k_is)
  (case aD_LoreError=>k_is)
  (case D1_LoreError=>k_is)
  (case D2_LoreError=>k_is)
  (case D3_LoreError=>k_is)
  (case D4Clash_LoreError=>k_is)
  (case D4NoLetter_LoreError=>k_is)
  (case D4Round_LoreError=>k_is)
  (case aX_NoDeed=>k_is)
  (case X1Clash_NoDeed=>kit_is)
  (case aX_NoSign=>k_is)
  (case X1Clash_NoSign=>kit_is)
  (case aX_NoName=>k_is)
  (case X1Clash_NoName=>kit_is)
  (case aX_NoRule=>k_is)
  (case X1Clash_NoRule=>kit_is)
  (case aX_NotPlain=>k_is)
  (case X1Clash_NotPlain=>kit_is)
  (case aX_NoText=>k_is)
  (case X1Clash_NoText=>kit_is)
  (case aX_Ring=>k_is)
  (case X1Clash_Ring=>kit_is)
  (case aX_Twice=>k_is)
  (case X1Clash_Twice=>kit_is)
  (case aX_Clash=>k_is)
  (case X1Clash_Clash=>kit_is)
  (case aX_NoLetter=>k_is)
  (case X1Clash_NoLetter=>kit_is)
  (case X1NoLetter_NoLetter=>kit_is)
  (case X1Round_NoLetter=>kit_is)
  (case aX_Round=>k_is)
  (case X1Clash_Round=>kit_is)
  (case X1NoLetter_Round=>kit_is)
  (case X1Round_Round=>kit_is)
  (case Y1_ValueError=>kit_is)
  (case pgC=>k_is)
  (case hdC=>k_is)
  (case poC=>k_is)
  (case saC=>k_is)
  (case mkC=>k_is)
  (case kcC=>k_is)
  (case nC_figures=>k_is)
  (case nC_behind=>k_is)
  (case nC_jobs=>k_is)
  (case nC_letter_line=>k_is)
  (case nC_mark_line=>k_is)
  (case nC_made=>k_is)
  (case z_ValueError=>k_is)
  (case z_any=>k_is)
  (case z_dict=>k_is)
  (case z_enumerate=>k_is)
  (case z_isinstance=>k_is)
  (case z_len=>k_is)
  (case z_list=>k_is)
  (case z_min=>k_is)
  (case z_range=>k_is)
  (case z_str=>k_is)
  (case z_tuple=>k_is)
  (case z_zip=>k_is)
  (case y_JOBS=>k_is)
  (case d_JOBS=>k_is)
  (case s_JOBS=>rfl)
  (case e_JOBS_0=>rfl)
  (case e_JOBS_1=>rfl)
  (case e_JOBS_2=>rfl)
  (case e_JOBS_3=>rfl)
  (case e_JOBS_4=>rfl)
  (case y_AGAIN=>k_is)
  (case d_AGAIN=>k_is)
  (case y_MARK=>k_is)
  (case y_LETTER=>k_is)
