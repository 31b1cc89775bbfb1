import PyProof.Rows.All
import Wide.All
import OpenK.AllK
import Wide.FinOn
import Lean
import PyProof.EqAt
import PyProof.EqKinds
import PyProof.TupleCall
import PySem.Challenge.RW_sortlore_k64_sought_refused_first
set_option compiler.extract_closed false
open List renaming length_map → A2, getElem?_eq_some_iff → G1, length_append → D1, getElem?_eq_getElem → K2, map_append → E1, length_take → F9, length_cons → G6, mem_cons_of_mem → N0, mem_cons → E7, size_toArray → K3, mem_of_getElem? → N4, mem_map → E3, map_cons → F7, take_length → K4, mem_singleton → N7, mem_cons_self → O2, mem_append → M4, append_nil → M5, mem_append_right → R5, getElem?_map → P6, length_singleton → V3, mem_append_left → V4, nodup_iff_pairwise_ne → d0, take_of_length_le → X3, nodup_cons → T6, mem_iff_getElem → e8, take_append_drop → j6, mem_filter → V5, replicate → U3, append_assoc → Z0, getD_eq_getElem?_getD → aQ, length_eq_zero_iff → w5, length_nil → Z1, flatMap_append → p0, take_add_one → j7, map_drop → W6, pairwise_iff_getElem → cL, drop_eq_getElem_cons → cM, length_drop → j8, foldl_append → p4, flatMap_cons → p5, getElem?_append_left → fB, find?_cons → p6, idxOf_lt_length_iff → fC, mem_flatMap → w6, length → X4, any_cons → j9, zipWith → e9, map_map → f6, nodup_append → aR, filterMap_cons → cN, drop_eq_nil_of_le → fD, getElem?_append_right → iR, countP_cons → aS, filter_append → cO, take_zero → w8, replicate_succ → fE, filter_cons_of_pos → iS, filter_cons_of_neg → iT, mem_range → aT, drop_of_length_le → iU, range → k4, map_take → aU, flatten_cons → fF, mem_take_iff_getElem → mZ, not_mem_nil → fG, lookup_cons → fH, map_congr_left → iV, singleton_inj → iW, nil_append → fI, mem_filterMap → iX, getElem_idxOf → iY, lookup → aV, map_nil → cP
open Nat renaming le_refl → B3, le_trans → E8, lt_of_lt_of_le → P7, zero_le → G2, ne_of_lt → M0, lt_irrefl → f7, le_add_right → aW, ne_of_gt → x0, min_eq_left → cQ
open Bool renaming false_ne_true → K5, and_eq_true → f8, eq_iff_iff → cR, false_xor → cS, false_and → cT, not_eq_true → iZ
open PySem.W renaming findIn → L6, nsIn → G8, keepIn → N1, codeIn → Q3, fnOf → N8, mg_of → Q4, mg_none_of → Z2, kia_one → k6, emptyDict → x3, mroIn → f9, isFn → k7, instObj → aX, callWith_K → jA, binds_K → fJ, specialIn → jB, hasDictIn → jC, tailIn → fK, plainGet → jD
open PySem.F renaming plainAttrs_list → W7, type_list_append → g0, slot_list_append → g3, slot_dict_get → fL, entry_dict_get → nA
open PySem.PyData renaming eqvAll → W8, depthAll → g4, eqv → V6, depth → g6, int → g7
open Array renaming length_toList → cU
open PySem.NumText renaming digitsVal → jE
open Int renaming toNat_natCast → jF
set_option Elab.async false
set_option linter.all false
set_option maxRecDepth 100000
noncomputable section
set_option genInjectivity false in
set_option genSizeOf false in
structure PySem.W.Fast where (tw13893616301748794346 tw16981527507848928069 tw11731594026341449406 tw4134462231536763457 tw9611606573418199837 tw15211447728318264839 tw7507872301767814905 tw7698553534284547804 tw17175907915681904237 tw1960943372096100722 tw4772632626161913689 tw9727125556647410366 tw7894254410131102964 tw9715524246858717889 tw11730296935710142788 tw8837363111347436866 tw18029343857711551873 tw14994350381142385379 tw10535158348316697691 tw656748172345699186 tw7484164041392104096 tw15872227599346811228 tw5701143996634951821 tw3921509112866397679 tw17438081745406346975 tw16673798819139572341 tw1543554268366179244 tw8584457868031145166 tw14692166559424586371 tw9592300915835984340 tw14185255739182107122 tw14282977837534144008 tw714026522019241831 tw17504526282976863169 tw5668902313227975410 tw4764067880742211717 tw13769391280758200352 tw17718086236324105186 tw15362863527932359783
tw14976383455605490905 tw1650843625191799048 tw15893711039748672557 tw16611561562432200340 tw15889955136789378156 tw15888017319047778226 tw852231481737407685 tw6003314098316727173 tw2202013823678848439 tw3903237639663351821 tw2505494117845830788 tw1336186477411806770 tw205138472476963120 tw4758760115516692852 tw17546576357853147405 tw10738113263427080209 tw1033814402057665784 tw3004050512139528495 tw6729418589846815781 tw17425254479441595274 tw5252343332510423507 tw2652114208840558258 tw13440254442353009 tw8054595257843786965 tw13207856263937382284 tw2829470994066506462 tw10365993826950831541 tw9104310834202334711 tw12033925114076607002 tw1410764655331310573 tw12594724865243594749 tw669379265716464081 tw10777769020884039806 tw9466793730222071567 tw6927283684102451545 tw16247344383303222372 tw6588495008545889669 tw13145155281867063820 tw4956792616992574292 tw5877073873734152866
tw18326143422641256372 tw8766955487385658921 tw8425150324451757298 tw180352853967217092 tw14356725131849221091 tw5387414241808898391 tw18196139862599945292 tw15967378748998434894 tw5297434825705800177 tw17815769412234487663 tw12333654639156402308 tw1759642072015760721 tw9954745880972777932 tw930735910695710679 tw6400914974661192531 tw3982827651989922531 tw10864364463340084644 tw15642084195365371782 tw9308863797542839961 tw824620768259250726 tw187564175754834430 tw10387549567205177809 tw12636664308456577273 tw1002947540931423017 tw15952266484319203829 tw2163760943212725129 tw8348392829477812428 tw8926404773236026812 tw14916853588094880137 tw11384558224570605892 tw3941346866013040771 tw4709869947906257815 tw16466109812854319636 tw11004548019478828208 tw15166691046176996423 tw10868973461700365140 tw11654827555322007673 tw7636779691716905605 tw1111120150867003362 tw3308001597658066695
tw12083382222055405040 tw10046772322316401019 tw17616632211333748476 tw16969512484103226522 tw4330009579182125664 tw15736671747127878494 tw1747234738675924179 tw6565672566580785410 tw11253144831970643311 tw18360206520062432650 tw11916287320877542854 tw9094669572193874642 tw286937738191051976 tw4123680400839008209 tw11631353172598202986 tw14936792098569206456 tw16050187480345132307 tw4791813871901191215 tw4067381209372594739 tw13991735561129748072 tw7061799200254766040 tw12423172001925584725 tw15948745865243987115 tw17274608548848096792 tw7227118707795205285 tw3996476025003650658 tw8511595763242821078 tw15249579944910996695 tw9997594129260326743 tw13825321516622003098 tw18330366365788526753 tw80288995061251174 tw1309435264761570018 tw6102849297342204105 tw12723075651808658826 tw17666329663762035385 tw10040771141461024504 tw4754988980652374196 tw5391483005009070072 tw13328155287597903606
tw9098596026062428462 tw3137265407684420663 tw923517633844211631 tw5778567993354483959 tw1922704848946333562 tw11389143415159907357 tw16121882109044017700 tw3750383890840255905 tw2161642838106552288 tw1344978648794329486 tw447618807897703842 tw8496956597045521907 tw17796488406428517803 tw8152451218892070106 tw16819626915317929980 tw10081433912745305090 tw8373847649414992798 tw11769610541951687675 tw16765599233213799076 tw1581818621441602587 tw13739521645472349581 tw10443944870242438731 tw17818518645734482456 tw897820533847759814 tw5122184489930982302 tw11776277578809263025 tw13254095043500320209 tw1964531465670032951 tw2218932275902570781 tw5623815570805702086 tw706076328526120847 tw12246816741231935782 tw16877028717745423127 tw4613800241514369288 tw122153342121309228 tw7145726318814051020 tw3161367419111631827 tw12615230037441127125 tw7318086956244190238 tw6500709571358440366
tw6892852004847782093 tw15211286629477984693 tw13463361066479290341 tw9213799714903992083 tw938177969891496876 tw4471541642273676219 tw5763955515464734079 tw11196387860295565013 tw7487526643727680287 tw14112651871650985815 tw4391694990606339833 tw15249177267523936780 tw13560184800013248978 tw15600994963250979000 tw9629103641948114092 tw4189051391203707235 tw7780264508633617879 tw1880733668418258316 tw1913203253708289599 tw1405787123686782795 tw14923383384234196699 tw815147741192063020 tw15292359141047950383 tw18186678180528291838 tw3138332612361391515 tw9919776328286063925 tw13582350973065343693 tw16268313008980897569 tw2898943002106429227 tw14935717892389191397 tw9884352191972703006 tw12354156322672469285 tw11185045423637199438 tw10217667909290225420 tw6456421367829412598 tw14405930330010765650 tw1765484626256306629 tw14140087874911509617 tw9874947308166854552 tw13461142907720191282
tw13299804929851521117 tw18118035631574057042 tw5870432166380526126 tw11559100613003232600 tw11536555536325872109 tw332442532204766689 tw6307018115478875559 tw13135377662726425248 tw13504388230949222154 tw12302611650714505029 tw12545553750025330892 tw509073346225303638 tw2474671776953321834 tw16452761209952805139 tw2550108101880414251 tw6730246555404325030 tw9253306794054142353 tw9635430116798816024 tw6950377305458080591 tw7193340446587389191 tw6897081307536372681 tw12819717444551384277 tw15721286849940676548 tw7784113061832275372 tw10174488005580822700 tw15874523203586519622 tw2518599202283087434 tw14785616505758394634 tw9578363834315273420 tw1164033422013244000 tw364735115641867258 tw5110594843113604225 tw13605276351182364023 tw15057456589067148885 tw10120822678282312653 tw14424142356228434797 tw13288380590055451378 tw732826328995080061 tw1032348176746945970 tw11718344912477029302
tw1143837348803276733 tw10258944027580093907 tw15301247083830466580 tw7181849286419955103 tw11164788668148361905 tw9310604703292701208 tw12731970503445429806 tw14285504065084642957 tw5136462807725804823 tw18345651759193097240 tw4320394045591871694 tw3844770537173168320 tw1562370033996817921 tw6537687934047294913 tw3845191015019146332 tw5286564094454751317 tw10842667925115049598 tw10694542237683497351 tw7773954885549804338 tw1436519901048823877 tw88791596875215709 tw5222984966305833880 tw17575540704203453598 tw12622646648311188701 tw5910919287033819165 tw5277007039839134834 tw10578810485806769999 tw16347072343279091558 tw17148530328833346094 tw17377129577177860868 tw1899087786219399100 tw5655889843916694789 tw887769915237862284 tw8888003663627363551 tw7587922550232592285 tw15478743583157089416 tw12743997743548249162 tw18133848024522883213 tw15984825215592460857 tw11862113893990745023
tw10239933072730993538 tw1627462220727270300 tw7961862555315702711 tw7677263302333519188 tw15493978189226639466 tw12037334717098855573 tw3791348268988284373 tw12586973328529506084 tw5191571666923331437 tw9209831865135301147 tw16992945558194865336 tw5999354638893372030 tw9745457989133831163 tw2199576409382400885 tw15879492192025630272 tw6930231571903495318 tw13747843119687931978 tw17383158547632281817 tw18183820284540365417 tw12717041116140936380 tw10982601591355057320 tw17740517626547531840 tw11036178283696649346 tw15948176370054533015 tw13852342144893762162 tw6748260951876853289 tw16317857104156469392 tw669981954973119419 tw1093605531938106253 tw14589934564741395352 tw14800952222842313914 tw13708578770452125490 tw14479877841828568752 tw17933227072896685117 tw8124425424595650817 tw14425097422464083635 tw2981176878542783395 tw13312190328976210238 tw17008611181358647860 tw3876144637427899202
tw574890119774546040 tw13769024962670041185 tw16573033943145197940 tw16118315346769972204 tw10011160506444246171 tw11601273838710012567 tw5473664992758121446 tw14624494751569553635 tw9420661717439365044 tw14257335719697397674 tw17568747575024533484 tw12031373582813839668 tw11763815642135966817 tw6689001696636267301 tw2797162686533255641 tw1993171986260398636 tw15124925110643082932 tw18062692460713303908 tw16451872506756472220 tw13434803461955992915 tw6141205994047740607 tw7646216551140007916 tw15768615755890494841 tw3964561812727401966 tw16113712142592284865 tw4829042633011120777 tw6297234096391372131 tw6796712464471123587 tw6622128910394990467 tw17568100404584098354 tw10014813869991796908 tw1821041501709114120 tw10824319809820324208 tw13285883085523159084 tw7014582204730514128 tw3202153807960952894 tw4700669392133627105 tw10700570826051491455 tw3374878712065781503 tw12886002832533238067
tw9971641570058361917 tw15196871415654889117 tw9580909718516885475 tw4398813295618631106 tw2109059572923818140 tw1131402557865408227 tw328380162832328807 tw4847878403325739771 tw8038553986058857143 tw10838888874993394712 tw10574322982982591393 tw1045263916040707939 tw17605958668330118812 tw2454509996846625189 tw663713181099387536 tw6522041748311935178 tw13108965685422639561 tw10789864176409030044 tw7567806854259352247 tw5294975064983952674 tw2167763417185973455 tw11269019636462849978 tw16906861564912672790 tw13737010220866794865 tw17788737974079351025 tw12643920825274673873 tw10208228142895358089 tw8585477501654302569 tw11255240568701480124 tw17032321046579206229 tw15128639195922790102 tw1665467195839100716 tw14189621734439734244 tw17372452290631941031 tw17550692224443632720 tw13741647705930019514 tw6237240940024801307 tw194898404220762705 tw3685888330603298107 tw9947961357651248908
tw13637402906359198785 tw11483400273342469897 tw1452552494159166630 tw12555063212509659403 tw13295996469792501270 tw11878455418119311896 tw16836549077458632126 tw1449143892980694178 tw2224370753583324466 tw9694690883529068550 tw16416082589207282037 tw2573439353529455135 tw10703445952944452678 tw14818095767568168335 tw11378224799069486424 tw6838865588598829457 tw11144275712677846845 tw4642975512991150980 tw18329141697316574721 tw1197331354117221373 tw3054527116900576647 tw8088350032035843474 tw10495119713033974088 tw9105031493595368393 tw13741762487129374927 tw3292849742056131004 tw3512097748479117818 tw2362971756117256055:Nat)
set_option maxRecDepth 100000
namespace L2
open PySem PySem.Spec PyProof.Rows
noncomputable abbrev B5:=Sum Int Str
noncomputable def keyIs:B5->Value->Bool
 | .inl k,v=>Value.isInt k v
 | .inr x,v=>Value.isStrOf x v
noncomputable def keyH (w:World):B5->Int
 | .inl k=>hashInt k
 | .inr x=>hashStr w x
theorem k8:∀ {k:B5} {v:Value},keyIs k v=true->(∃ i t,k=Sum.inl i/\v=Value.int i t)\/(∃ x t,k=Sum.inr x/\v=Value.str x t)
 | .inl i,v,h=>by
  obtain ⟨t,e⟩:=Value.isInt_shape (k:=i) (v:=v) h;exact .inl ⟨i,t,rfl,e⟩
 | .inr x,v,h=>by
  obtain ⟨t,e⟩:=Value.isStrOf_shape (x:=x) (v:=v) h;exact .inr ⟨x,t,rfl,e⟩
theorem aiR(i:Int)(t:Tok):keyIs (.inl i) (.int i t)=true:=by simp [keyIs,Value.isInt]
theorem fM(x:Str)(t:Tok):keyIs (.inr x) (.str x t)=true:=by simp [keyIs,Value.isStrOf]
theorem aot(a b:Int):decide ((Sum.inl a:B5)=Sum.inl b)=(a==b):=by
 by_cases e:a=b
 .subst e;simp
 .have h:¬ (Sum.inl a:B5)=Sum.inl b:=fun q=>e (Sum.inl.inj q)
  rw [decide_eq_false h];exact (beq_eq_false_iff_ne.mpr e).symm
theorem aou(a b:Str):decide ((Sum.inr a:B5)=Sum.inr b)=decide (a=b):=by
 by_cases e:a=b
 .subst e;simp
 .have h:¬ (Sum.inr a:B5)=Sum.inr b:=fun q=>e (Sum.inr.inj q)
  rw [decide_eq_false h,decide_eq_false e]
theorem aov(a:Int)(b:Str):decide ((Sum.inl a:B5)=Sum.inr b)=false:=decide_eq_false (fun q=>nomatch q)
theorem aow(a:Str)(b:Int):decide ((Sum.inr a:B5)=Sum.inl b)=false:=decide_eq_false (fun q=>nomatch q)
noncomputable def N9 (prog:Program) (w:World):PySem.KeyKind prog w B5 where
 is:=keyIs
 hash:=keyH w
 inj:=fun v a b ha hb=>by
  rcases k8 ha with ⟨i,t,rfl,rfl⟩ | ⟨x,t,rfl,rfl⟩
  .rcases k8 hb with ⟨j,u,rfl,e⟩ | ⟨y,u,rfl,e⟩
   .injection e with e1 _;rw [e1]
   .exact nomatch e
  .rcases k8 hb with ⟨j,u,rfl,e⟩ | ⟨y,u,rfl,e⟩
   .exact nomatch e
   .injection e with e1 _;rw [e1]
 byValue:=fun k v h=>by
  rcases k8 h with ⟨i,t,rfl,rfl⟩ | ⟨x,t,rfl,rfl⟩ <;> rfl
 pyHash:=fun hv h=>by
  rcases k8 hv with ⟨i,t,rfl,rfl⟩ | ⟨x,t,rfl,rfl⟩
  .exact wpAny_pyHash_int h
  .exact wpAny_pyHash_str h
 eqBool:=fun hu hv h=>by
  rcases k8 hu with ⟨i,t,rfl,rfl⟩ | ⟨x,t,rfl,rfl⟩
  .rcases k8 hv with ⟨j,u,rfl,rfl⟩ | ⟨y,u,rfl,rfl⟩
   .rw [aot] at h;exact wpAny_eqBool_int h
   .rw [aov] at h;exact SeqAt.EqAt.int_str i t y u _ _ _ _ h
  .rcases k8 hv with ⟨j,u,rfl,rfl⟩ | ⟨y,u,rfl,rfl⟩
   .rw [aow] at h;exact SeqAt.EqAt.str_int x t j u _ _ _ _ h
   .rw [aou] at h;exact wpAny_eqBool_str h
 «strs»:=fun k x t v h=>by
  rcases k8 h with ⟨i,u,rfl,e⟩ | ⟨y,u,rfl,e⟩
  .exact nomatch e
  .injection e with e1 _
   subst e1
   cases v <;> rfl
theorem agM(prog:Program)(w:World)(i:Int)(t:Tok):(N9 prog w).is (.inl i) (.int i t)=true:=aiR i t
theorem agN(prog:Program)(w:World)(x:Str)(t:Tok):(N9 prog w).is (.inr x) (.str x t)=true:=fM x t
end L2
namespace L2
open PySem PySem.Spec PyProof.Rows
inductive V where
 | non | bl (b:Bool) | int (i:Int) | str (x:Str) | byt (b:Array UInt8) | flt (b:UInt64) | ref (a:Addr) | ty (n:String)
 deriving DecidableEq
noncomputable def RelV:V->Value->Prop
 | .non,u=>u=Value.none
 | .bl b,u=>u=Value.bool b
 | .int i,u=>∃ t,u=Value.int i t
 | .str x,u=>∃ t,u=Value.str x t
 | .byt b,u=>∃ t,u=Value.bytes b t
 | .flt b,u=>∃ t,u=Value.float b t
 | .ref a,u=>u=Value.ref a
 | .ty n,u=>u=Value.type n
noncomputable abbrev Vals:List V->List Value->Prop:=Paired RelV
theorem Vals.length{xs:List V}{us:List Value}(r:Vals xs us):xs.length=us.length:=Paired.length r
theorem Vals.get:∀ {xs:List V} {us:List Value} {i:Nat} {x:V},Vals xs us->xs[i]?=some x->∃ u,us[i]?=some u/\RelV x u
 | _,_,_,_,.nil,e=>by simp at e
 | _,_,0,_,.cons r _,e=>by simp at e;subst e;exact ⟨_,rfl,r⟩
 | _,_,i+1,x,.cons _ t,e=>by
  obtain ⟨u,h1,h2⟩:=Vals.get (i:=i) (x:=x) t (by simpa using e);exact ⟨u,by simpa using h1,h2⟩
theorem Vals.set{x:V}{u:Value}(r:RelV x u):∀ {xs:List V} {us:List Value} (i:Nat),Vals xs us->Vals (xs.set i x) (us.set i u)
 | _,_,_,.nil=>.nil
 | _,_,0,.cons _ t=>.cons r t
 | _,_,i+1,.cons q t=>.cons q (Vals.set r i t)
theorem Vals.append:∀ {xs ys:List V} {us ws:List Value},Vals xs us->Vals ys ws->Vals (xs++ys) (us++ws)
 | _,_,_,_,.nil,s=>s
 | _,_,_,_,.cons r t,s=>.cons r (Vals.append t s)
theorem Vals.take:∀ {xs:List V} {us:List Value} (n:Nat),Vals xs us->Vals (xs.take n) (us.take n)
 | _,_,0,_=>.nil
 | _,_,_+1,.nil=>.nil
 | _,_,n+1,.cons r t=>.cons r (Vals.take n t)
theorem Vals.drop:∀ {xs:List V} {us:List Value} (n:Nat),Vals xs us->Vals (xs.drop n) (us.drop n)
 | _,_,0,r=>r
 | _,_,_+1,.nil=>.nil
 | _,_,n+1,.cons _ t=>Vals.drop n t
theorem Vals.none_of:∀ {xs:List V} {us:List Value} {i:Nat},Vals xs us->xs[i]?=none->us[i]?=none:=fun {xs us i} r e=>by
 have h1:=r.length;have h2:xs.length<=i:=List.getElem?_eq_none_iff.mp e;exact List.getElem?_eq_none_iff.mpr (by lia)
noncomputable def RelO:Option V->Option Value->Prop
 | some v,some u=>RelV v u
 | none,none=>True
 | _,_=>False
noncomputable def KV {κ:Type} : List (κ×V)->List (κ×Value)->Prop:=Paired fun (p:κ×V) (q:κ×Value)=>p.1=q.1/\RelV p.2 q.2
noncomputable def kV:B5->V
 | .inl i=>.int i
 | .inr x=>.str x
inductive HO where
 | lst (xs:List V)
 | tup (xs:List V)
 | dK (kvs:List (B5×V)) | dT (kvs:List (List B5×V))
 | set (S:Int->Bool) (n:Nat)
 | ins (C dx:Addr) (fs:List (Str×V))
 | own (x:Addr)
 | xd (fs:List (Str×V))
 | met (f x:Addr)
 | rng (lo hi:Int)
 | frz (o:Obj) (u:HO)
 | tbl (ps:Array Value)
 | ext (φ:Heap->Prop)
noncomputable abbrev Hp:=Addr->Option HO
noncomputable def A0 (H:Hp) (a:Addr) (o:HO):Hp:=fun b=>if b=a then some o else H b
theorem A3{H:Hp}{a:Addr}{o:HO} : A0 H a o a=some o:=by unfold A0;rw [if_pos rfl]
theorem A4{H:Hp}{a b:Addr}{o:HO}(h:b≠a):A0 H a o b=H b:=by unfold A0;rw [if_neg h]
theorem ne_of{H:Hp}{a b:Addr}{o u:HO}(h:H a=some o)(h':H b=some u)(d:o≠u):a≠b:=by
 intro e;subst e;rw [h] at h';exact d (Option.some.inj h')
theorem Q9{H:Hp}{a b:Addr}{o:HO}(h:H a=some o)(h':H b=none):a≠b:=by
 intro e;subst e;rw [h] at h';cases h'
section
variable (P:Program) (w:World)
noncomputable def ObjOk (H:Hp) (h:Heap) (a:Addr):HO->Prop
 | .lst xs=>xs.length<=sizeLine/\∃ (its:List Value) (n:Nat),Vals xs its/\h.get? a=some { cls:=.type "list",data:=.seq its.toArray n }
 | .tup xs=>xs.length<=sizeLine/\∃ its:List Value,Vals xs its/\IsTup h a its.toArray
 | .dK kvs=>kvs.length<=sizeLine/\(a==sysModules)=false/\∃ vs,KV kvs vs/\h.DictOf (N9 P w) a vs
 | .dT kvs=>kvs.length<=sizeLine/\(a==sysModules)=false/\∃ xs:List (List B5×Addr×Value),
   Paired (fun (p:List B5×V) (q:List B5×Addr×Value)=>p.1=q.1/\H q.2.1=some (.tup (p.1.map kV))/\RelV p.2 q.2.2) kvs xs/\
   ∃ o es ep,h.get? a=some o/\o.ExactDict/\o.data=.dict es ep/\es.toList=xs.map (entryOfKey (tupleKind (N9 P w)))/\(xs.map (·.1)).Nodup
 | .set S n=>h.SetOf (intKind P w) a S n
 | .ins C dx fs=>H dx=some (.own a)/\fs.length<=1000/\dx≠a/\h.get? a=some (aX C dx)/\
   ∃ mA,h.Ns1 dx mA/\(∀ f,RelO (fs.lookup f) (mA f))/\PySem.Within mA (fs.map (·.1))
 | .own _=>∃ o,h.get? a=some o
 | .xd fs=>∃ mA,h.Ns1 a mA/\∀ f,RelO (fs.lookup f) (mA f)
 | .rng lo hi=>∃ t u v,h.get? a=some { cls:=.type "range",data:=.fields #[.int lo t,.int hi u,.int 1 v] }
 | .frz o u=>h.get? a=some o/\ObjOk H h a u
 | .tbl ps=>h.get? a=some { cls:=.none,data:=.fields ps }
 | .met f x=>h.get? a=some (PySem.W.methodObj (.ref f) (.ref x))
 | .ext φ=>φ h/\(∃ o,h.get? a=some o)/\∀ h1 h2:Heap,φ h1->(∀ o,h1.get? a=some o->h2.get? a=some o)->φ h2
noncomputable def K6 (H:Hp) (h:Heap):Prop:=∀ a o,H a=some o->ObjOk P w H h a o
end
section
variable {P:Program} {w:World} {H H':Hp} {h h':Heap} {a:Addr} {o:HO}
theorem ObjOk.lt(x:ObjOk P w H h a o):a<h.objs.size:=by
 cases o with
 | lst xs=>obtain ⟨_,_,_,_,e⟩:=x;exact Heap.lt_size e
 | tup xs=>obtain ⟨_,_,_,p⟩:=x;exact p.lt
 | dK kvs=>obtain ⟨_,_,_,_,o,_,_,e,_⟩:=x;exact Heap.lt_size e
 | dT kvs=>obtain ⟨_,_,_,_,o,_,_,e,_⟩:=x;exact Heap.lt_size e
 | set S n=>obtain ⟨o,_,_,_,e,_⟩:=x;exact Heap.lt_size e
 | ins C dx fs=>obtain ⟨_,_,_,e,_⟩:=x;exact Heap.lt_size e
 | own y=>obtain ⟨_,e⟩:=x;exact Heap.lt_size e
 | xd fs=>obtain ⟨_,⟨_,_,_,e,_⟩,_⟩:=x;exact Heap.lt_size e
 | rng lo hi=>obtain ⟨_,_,_,e⟩:=x;exact Heap.lt_size e
 | frz ob u=>obtain ⟨e,_⟩:=x;exact Heap.lt_size e
 | tbl ps=>exact Heap.lt_size (show h.get? a=some _ from x)
 | met f y=>exact Heap.lt_size (show h.get? a=some _ from x)
 | ext φ=>obtain ⟨_,⟨_,e⟩,_⟩:=x;exact Heap.lt_size e
theorem K7{α β:Type}{F G:α->β->Prop} : ∀ {l₁:List α} {l₂:List β},Paired F l₁ l₂->(∀ a b,F a b->G a b)->Paired G l₁ l₂
 | _,_,.nil,_=>.nil
 | _,_,.cons r t,f=>.cons (f _ _ r) (K7 t f)
theorem ObjOk.stay(x:ObjOk P w H h a o)(k:∀ b u,(b=a\/H b=some (.own a))->h.get? b=some u->h'.get? b=some u)(ho:∀ b,H b=some (.own a)->H' b=some (.own a))(ht:∀ b xs,H b=some (.tup xs)->H' b=some (.tup xs)):ObjOk P w H' h' a o:=by
 induction o with
 | lst xs=>obtain ⟨z,its,n,r,e⟩:=x;exact ⟨z,its,n,r,k _ _ (.inl rfl) e⟩
 | tup xs=>obtain ⟨z,its,r,ob,e,c⟩:=x;exact ⟨z,its,r,ob,k _ _ (.inl rfl) e,c⟩
 | dK kvs=>obtain ⟨z,y,vs,r,ob,es,ep,e,c⟩:=x;exact ⟨z,y,vs,r,ob,es,ep,k _ _ (.inl rfl) e,c⟩
 | dT kvs=>
  obtain ⟨z,y,xs,r,ob,es,ep,e,c⟩:=x;exact ⟨z,y,xs,K7 r fun p q z=>⟨z.1,ht _ _ z.2.1,z.2.2⟩,ob,es,ep,k _ _ (.inl rfl) e,c⟩
 | set S n=>obtain ⟨ob,es,ep,t,e,c⟩:=x;exact ⟨ob,es,ep,t,k _ _ (.inl rfl) e,c⟩
 | ins C dx fs=>
  obtain ⟨d,z,ne,e,mA,⟨od,es,ep,e2,c⟩,r⟩:=x;exact ⟨ho _ d,z,ne,k _ _ (.inl rfl) e,mA,⟨od,es,ep,k _ _ (.inr d) e2,c⟩,r⟩
 | own y=>obtain ⟨ob,e⟩:=x;exact ⟨ob,k _ _ (.inl rfl) e⟩
 | xd fs=>obtain ⟨mA,⟨od,es,ep,e,c⟩,r⟩:=x;exact ⟨mA,⟨od,es,ep,k _ _ (.inl rfl) e,c⟩,r⟩
 | rng lo hi=>obtain ⟨t,u,v,e⟩:=x;exact ⟨t,u,v,k _ _ (.inl rfl) e⟩
 | frz ob u ih=>obtain ⟨e,q⟩:=x;exact ⟨k _ _ (.inl rfl) e,ih q⟩
 | tbl ps=>
  have e:h.get? a=some { cls:=.none,data:=.fields ps }:=x;show h'.get? a=some { cls:=.none,data:=.fields ps };exact k a _ (.inl rfl) e
 | met f y=>
  have e:h.get? a=some (PySem.W.methodObj (.ref f) (.ref y)):=x;show h'.get? a=some (PySem.W.methodObj (.ref f) (.ref y));exact k a _ (.inl rfl) e
 | ext φ=>obtain ⟨p,⟨o,e⟩,st⟩:=x;exact ⟨st _ _ p fun o q=>k _ _ (.inl rfl) q,⟨o,k _ _ (.inl rfl) e⟩,st⟩
theorem K6.lt(x:K6 P w H h)(e:H a=some o):a<h.objs.size:=(x a o e).lt
theorem K6.fresh(x:K6 P w H h)(e:h.objs.size<=a):H a=none:=by
 cases q:H a with
 | none=>rfl
 | some u=>exact absurd (P7 (x.lt q) e) (f7 _)
theorem K6.kept(x:K6 P w H h)(k:∀ b u,h.get? b=some u->h'.get? b=some u):K6 P w H h':=fun a o e=>
 (x a o e).stay (fun b u _ q=>k b u q) (fun _ q=>q) fun _ _ q=>q
theorem K6.laid(x:K6 P w H h)(k:∀ b u,h.get? b=some u->h'.get? b=some u)(hp:h.objs.size<=a)(new:ObjOk P w (A0 H a o) h' a o):K6 P w (A0 H a o) h':=fun b u e=>by
 have hn:=x.fresh hp
 by_cases hb:b=a
 .subst hb;rw [A3] at e;cases e;exact new
 .rw [A4 hb] at e;exact (x b u e).stay (fun c v _ q=>k c v q) (fun c q=>by rw [A4 (Q9 q hn)];exact q) fun c xs q=>by rw [A4 (Q9 q hn)];exact q
end
noncomputable def Rd (H:Hp) (a:Addr) (u:HO):Prop:=H a=some u\/∃ o,H a=some (.frz o u)
theorem Rd.of{H:Hp}{a:Addr}{u:HO}(h:H a=some u):Rd H a u:=.inl h
theorem Rd.ok{P:Program}{w:World}{H:Hp}{h:Heap}{a:Addr}{u:HO}(r:Rd H a u)(x:K6 P w H h):ObjOk P w H h a u:=by
 rcases r with r | ⟨o,r⟩
 .exact x a u r
 .obtain ⟨_,q⟩:=x a _ r;exact q
noncomputable def fO:Option HO->Prop
 | some (.lst _)=>True
 | some (.dK _)=>True
 | some (.dT _)=>True
 | some (.set _ _)=>True
 | some (.ins _ _ _)=>True
 | some (.ext _)=>True
 | _=>False
section
variable {P:Program} {w:World} {H:Hp} {h h':Heap} {x e:Addr} {o':HO}
theorem K6.write(ok:K6 P w H h)(mu:fO (H x))(he:e=x\/H e=some (.own x))(k:∀ b u,b≠e->h.get? b=some u->h'.get? b=some u)(gZ:∃ u,h'.get? e=some u)(new:ObjOk P w (A0 H x o') h' x o'):K6 P w (A0 H x o') h':=fun b u q=>by
 have nown:∀ c y,H c=some (.own y)->c≠x:=fun c y r z=>by subst z;rw [r] at mu;exact mu
 have ntup:∀ c xs,H c=some (.tup xs)->c≠x:=fun c xs r z=>by subst z;rw [r] at mu;exact mu
 by_cases hb:b=x
 .subst hb;rw [A3] at q;cases q;exact new
 .rw [A4 hb] at q
  by_cases eA:b=e
  .have q':H b=some (.own x):=by
    rcases he with z | z
    .exact absurd (eA.trans z) hb
    .rw [eA];exact z
   rw [q] at q';cases q';obtain ⟨v,hv⟩:=gZ;exact ⟨v,by rw [eA];exact hv⟩
  .refine (ok b u q).stay (fun c v hc r=>k c v ?_ r) (fun c r=>by rw [A4 (nown c b r)];exact r) fun c xs r=>by rw [A4 (ntup c xs r)];exact r
   rcases hc with rfl | hc
   .exact eA
   .rintro rfl
    rcases he with z | z
    .exact nown c b hc z
    .rw [hc] at z;cases z;exact hb rfl
end
structure Un(fs ex:List Addr)(H H':Hp)(h h':Heap):Prop where
 keep:∀ b o,h.get? b=some o->H b=none->b∉fs->b∉ex->h'.get? b=some o
 slot:∀ b o,h.get? b=some o->H b=none->b∈fs->b∉ex->∃ sl,h'.get? b=some { o with slots:=sl }
 free:∀ b o,h.get? b=some o->H b=none->b∉ex->H' b=none
 there:∀ b o,h.get? b=some o->b∉ex->∃ o',h'.get? b=some o'
 tups:∀ b xs,H b=some (.tup xs)->H' b=some (.tup xs)
 frzs:∀ b o u,H b=some (.frz o u)->H' b=some (.frz o u)
 tbls:∀ b ps,H b=some (.tbl ps)->∃ more,H' b=some (.tbl (ps++more))
section
variable {fs fs' ex ex':List Addr} {H H1 H2:Hp} {h h1 h2 h':Heap} {a x e:Addr} {o:HO}
theorem Un.any(u:Un fs ex H H1 h h1){b:Addr}{ob:Obj}(q:h.get? b=some ob)(n:H b=none)(hx:b∉ex):∃ sl,h1.get? b=some { ob with slots:=sl }:=by
 by_cases hb:b∈fs
 .exact u.slot b ob q n hb hx
 .exact ⟨ob.slots,u.keep b ob q n hb hx⟩
theorem Un.kept(k:∀ b u,h.get? b=some u->h'.get? b=some u):Un fs ex H H h h':=
 ⟨fun b ob q _ _ _=>k b ob q,fun b ob q _ _ _=>⟨ob.slots,k b ob q⟩,fun _ _ _ n _=>n,fun b ob q _=>⟨ob,k b ob q⟩,fun _ _ q=>q,fun _ _ _ q=>q,fun _ ps q=>⟨#[],by rw [q];simp⟩⟩
theorem uad:Un fs ex H H h h:=Un.kept fun _ _ q=>q
theorem Un.laid(k:∀ b u,h.get? b=some u->h'.get? b=some u)(hp:h.objs.size<=a)(hn:H a=none):Un fs ex H (A0 H a o) h h' where
 keep:=fun b u q _ _ _=>k b u q
 slot:=fun b u q _ _ _=>⟨u.slots,k b u q⟩
 free:=fun b u q n _=>by rw [A4 (M0 (P7 (Heap.lt_size q) hp))];exact n
 there:=fun b u q _=>⟨u,k b u q⟩
 tups:=fun b xs q=>by rw [A4 (Q9 q hn)];exact q
 frzs:=fun b u xs q=>by rw [A4 (Q9 q hn)];exact q
 tbls:=fun b ps q=>⟨#[],by rw [A4 (Q9 q hn),q];simp⟩
theorem Un.write(mu:fO (H x))(he:e=x\/H e=some (.own x))(k:∀ b u,b≠e->h.get? b=some u->h'.get? b=some u)(gZ:∃ u,h'.get? e=some u):Un fs ex H (A0 H x o) h h':=by
 have hx:∀ b,H b=none->b≠x:=fun b n z=>by subst z;rw [n] at mu;exact mu
 have hb:∀ b,H b=none->b≠e:=fun b n z=>by
  subst z
  rcases he with r | r
  .exact hx b n r
  .rw [n] at r;cases r
 have hm:∀ b u,H b=some u->¬ fO (some u)->b≠x:=fun b u q nm z=>by subst z;rw [q] at mu;exact nm mu
 refine ⟨fun b u q n _ _=>k b u (hb b n) q,fun b u q n _ _=>⟨u.slots,k b u (hb b n) q⟩,fun b u q n _=>by rw [A4 (hx b n)];exact n,fun b u q _=>?_,
  fun b xs q=>by rw [A4 (hm b _ q fun z=>z)];exact q,fun b u xs q=>by rw [A4 (hm b _ q fun z=>z)];exact q,fun b ps q=>⟨#[],by rw [A4 (hm b _ q fun z=>z),q];simp⟩⟩
 by_cases eA:b=e
 .subst eA;exact gZ
 .exact ⟨u,k b u eA q⟩
end
noncomputable def nB (h:Heap) (H:Hp):List Addr:=(k4 h.objs.size).filter fun a=>(H a).isSome
noncomputable def hidT (h:Heap) (H:Hp):Heap:=PySem.W.hideAll h (nB h H)
theorem aiS(h:Heap)(H:Hp):(hidT h H).objs.size=h.objs.size:=PySem.W.hideAll_size _ _
theorem akG{h:Heap}{H:Hp}{b:Addr}{o:Obj}(e:h.get? b=some o)(n:H b=none):(hidT h H).get? b=some o:=
 PySem.W.hideAll_get _ e fun hm=>by
  have q:(H b).isSome=true:=(V5.mp hm).2;rw [n] at q;simp at q
theorem amB{h:Heap}{H:Hp}{b:Addr}{o:Obj}(e:(hidT h H).get? b=some o):h.get? b=some o/\H b=none:=by
 have e':h.get? b=some o:=PySem.W.of_hideAll (nB h H) e;refine ⟨e',?_⟩
 cases q:H b with
 | none=>rfl
 | some x=>
  have hm:b∈nB h H:=V5.mpr ⟨aT.mpr (Heap.lt_size e'),by simp [q]⟩;have z:(hidT h H).get? b=none:=PySem.W.hideAll_none (nB h H) hm;rw [z] at e;cases e
noncomputable def amC (g h:Heap) (L:Addr):List (Addr×Obj):=(k4 h.objs.size).filterMap fun a=>if a=L\/(g.get? a).isSome=true then none else (h.get? a).map fun o=>(a,o)
noncomputable def rest (g h:Heap) (L d:Addr):List (Addr×Obj):=(amC g h L).filter fun p=>decide (p.1≠d)
end L2
namespace L2
open PySem PySem.Spec PyProof.Rows
structure Mod(K:PySem.W.Frag)(mg:Str->Option Value)(base:Heap):Prop where
 kin:K.In base
 glob:base.Ns mainGlobals mg
 blt:∃ mb,base.Ns builtinsNs mb/\∀ x:Str,x≠"__name__"->mb x=bootBuiltins x
 nolimit:base.NoLimit
structure Cx where
 prog:Program
 w:World
 K:PySem.W.Frag
 mg:Str->Option Value
 base:Heap
 A:Around
 N:List Str
 s₀:Shared
 H₀:Hp
 env:Env
 outer:List Env
 stack:List Env
 ex:List Addr
 fn:Str->Bool
 calm:Bool
 pn:List (Addr×Obj)
 xe:Value->Shared->Prop
noncomputable def R6 (l:List Env):List Addr:=l.filterMap (·.frame)
noncomputable abbrev Cx.fs (X:Cx):List Addr:=R6 X.outer
noncomputable def jG (sc:Scope) (x:Str):Prop:=sc.names.lookup x=some .local\/sc.names.lookup x=some .cell\/sc.names.lookup x=some .free
noncomputable def k9 (sc:Scope) (x:Str):Prop:=sc.names.lookup x=some .local\/sc.names.lookup x=some .cell
noncomputable def Look (env:Env) (h:Heap) (m:Str->Option Value) (x:Str) (u:Value):Prop:=
 (env.kindOf x=some .local/\m x=some u)\/((env.kindOf x=some .cell\/env.kindOf x=some .free)/\∃ c,env.cells.lookup x=some c/\h.IsCell c (some u))
structure Cx.Ok(X:Cx):Prop where
 mod:Mod X.K X.mg X.base
 kind:X.env.scope.kind=.function
 glob:X.env.globals=mainGlobals
 blt:X.env.builtins=builtinsNs
 above:X.s₀.heap.objs.size<=X.env.locals
 inj:∀ x y c,X.env.cells.lookup x=some c->X.env.cells.lookup y=some c->x=y
 has:∀ x,(X.env.kindOf x=some .cell\/X.env.kindOf x=some .free)->∃ c,X.env.cells.lookup x=some c
 cab:∀ x c,X.fn x=true->X.env.cells.lookup x=some c->X.s₀.heap.objs.size<=c
 hd:X.calm=true->X.A.handled=none
 frames:X.A.frames=some X.stack
 stk:X.stack=X.outer\/(X.stack=X.env::X.outer/\X.env.frame=some X.env.locals)
 exf:∀ b∈X.ex,b≠X.env.locals/\∀ x c,X.env.cells.lookup x=some c->c≠b
 bs:∀ b o,X.base.get? b=some o->X.s₀.heap.get? b=some o/\X.H₀ b=none
 bsz:X.base.objs.size<=X.s₀.heap.objs.size
 noex:∀ b o,X.base.get? b=some o->b∉X.ex
 exfs:∀ b∈X.ex,b∉X.fs
 funs:X.s₀.heap.FunFrames X.base X.outer
 frf:∀ b∈X.fs,X.H₀ b=none
structure Inv(X:Cx)(pins:List (Addr×Obj))(Y:List (Option V))(H:Hp)(s:Shared):Prop where
 ok:X.Ok
 os:s.os=X.s₀.os
 bare:AllBare s.gens
 base:Un X.fs X.ex X.H₀ H X.s₀.heap s.heap
 loc:∃ m,s.heap.Ns X.env.locals m/\∀ (i:Nat) (x:Str) (v:V),X.N[i]?=some x->Y[i]?=some (some v)->jG X.env.scope x->∃ u,RelV v u/\Look X.env s.heap m x u
 cell:∀ x c,X.env.cells.lookup x=some c->∃ v,s.heap.IsCell c v
 free:H X.env.locals=none
 freeC:∀ x c,X.env.cells.lookup x=some c->H c=none
 pin:∀ p∈X.pn++pins,s.heap.get? p.1=some p.2/\H p.1=none/\p.1≠X.env.locals/\p.1∉X.fs/\∀ v,p.2.data≠.cell v
 hok:K6 X.prog X.w H s.heap
 len:Y.length=X.N.length
section
variable {X:Cx} {pins:List (Addr×Obj)} {Y:List (Option V)} {H H':Hp} {s:Shared} {h':Heap}
theorem Cx.Ok.nofr(ok:X.Ok){b:Addr}{o:Obj}(e:X.base.get? b=some o):b∉X.fs:=fun hb=>by
 have:=(ok.funs.mem hb).1
 rw [e] at this;cases this
theorem Inv.bs(I:Inv X pins Y H s):∀ b o,X.base.get? b=some o->s.heap.get? b=some o/\H b=none:=fun b o e=>
 ⟨I.base.keep b o (I.ok.bs b o e).1 (I.ok.bs b o e).2 (I.ok.nofr e) (I.ok.noex b o e),I.base.free b o (I.ok.bs b o e).1 (I.ok.bs b o e).2 (I.ok.noex b o e)⟩
theorem Inv.bk(I:Inv X pins Y H s):∀ b o,X.base.get? b=some o->s.heap.get? b=some o:=fun b o e=>(I.bs b o e).1
theorem Inv.mod(I:Inv X pins Y H s):Mod X.K X.mg X.base:=I.ok.mod
theorem Inv.kIn(I:Inv X pins Y H s):X.K.In s.heap:=I.ok.mod.kin.keeps I.bk
theorem Inv.lt(I:Inv X pins Y H s):X.env.locals<s.heap.objs.size:=let ⟨_,hn,_⟩:=I.loc;hn.lt
theorem Inv.sz(I:Inv X pins Y H s):X.s₀.heap.objs.size<=s.heap.objs.size:=E8 I.ok.above (Nat.le_of_lt I.lt)
theorem Inv.nofs(I:Inv X pins Y H s){a:Addr}(h:s.heap.objs.size<=a):a∉X.fs:=fun hb=>by
 obtain ⟨_,o,ho,_⟩:=I.ok.funs.mem hb;exact absurd (P7 (Heap.lt_size ho) (E8 I.sz h)) (f7 _)
theorem Inv.cne(I:Inv X pins Y H s):∀ x c,X.env.cells.lookup x=some c->c≠X.env.locals:=fun x c e z=>by
 obtain ⟨v,o,ho,hd⟩:=I.cell x c e;obtain ⟨m,⟨o',es,ep,m9,eB,_⟩,_⟩:=I.loc;rw [z,m9] at ho;cases ho;rw [eB] at hd;cases hd
theorem Inv.funs(I:Inv X pins Y H s):s.heap.FunFrames X.base X.outer:=by
 have all:∀ (l:List Env),(∀ b∈R6 l,b∈X.fs)->X.s₀.heap.FunFrames X.base l->s.heap.FunFrames X.base l:=by
  intro l
  induction l with
  | nil=>intro _ _;trivial
  | cons env r ih=>
   intro hs hl;obtain ⟨hk,⟨L,o,hf,hn,ho,hd⟩,hr⟩:=hl;have hL:L∈X.fs:=hs L (by unfold R6;rw [cN,hf];exact O2);obtain ⟨sl,e⟩:=I.base.slot L o ho (I.ok.frf L hL) hL fun z=>I.ok.exfs L z hL
   exact ⟨hk,⟨L,_,hf,hn,e,hd⟩,ih (fun b hb=>hs b (by unfold R6;rw [cN,hf];exact N0 _ hb)) hr⟩
 exact all X.outer (fun _ hb=>hb) I.ok.funs
theorem Inv.stack(I:Inv X pins Y H s):s.heap.FunFrames X.base X.stack:=by
 rcases I.ok.stk with e | ⟨e,hf⟩
 .rw [e];exact I.funs
 .rw [e];obtain ⟨m,hn,_⟩:=I.loc;refine .cons (by rw [I.ok.kind];decide) hf hn ?_ I.funs;exact Heap.get?_none_of_le (E8 I.ok.bsz I.ok.above)
theorem Inv.stkSub(I:Inv X pins Y H s):∀ b∈R6 X.stack,b∈X.env.locals::X.fs:=fun b hb=>by
 rcases I.ok.stk with e | ⟨e,hf⟩
 .rw [e] at hb;exact N0 _ hb
 .rw [e] at hb;unfold R6 at hb;rw [cN,hf] at hb;exact hb
theorem Inv.stkFree(I:Inv X pins Y H s):∀ b∈R6 X.stack,H b=none:=fun b hb=>by
 rcases E7.mp (I.stkSub b hb) with e | hb
 .rw [e];exact I.free
 .obtain ⟨_,o,ho,_⟩:=I.ok.funs.mem hb;exact I.base.free b o ho (I.ok.frf b hb) fun z=>I.ok.exfs b z hb
theorem Inv.step{g':Array GenState}{t':Nat}{d':Drawn}{ch:List Addr}(I:Inv X pins Y H s)(u7:∀ b∈ch,(b∈X.ex\/X.s₀.heap.objs.size<=b)/\b≠X.env.locals/\(∀ x c,X.env.cells.lookup x=some c->c≠b)/\∀ p∈X.pn++pins,p.1≠b)(keep:∀ b o,b≠X.env.locals->b∉X.fs->b∉ch->s.heap.get? b=some o->H b=none->h'.get? b=some o)(slot:∀ b o,b≠X.env.locals->b∈X.fs->b∉ch->s.heap.get? b=some o->H b=none->∃ sl,h'.get? b=some { o with slots:=sl })(free:∀ b o,b∉ch->s.heap.get? b=some o->H b=none->H' b=none)(there:∀ b o,b∉ch->s.heap.get? b=some o->∃ o',h'.get? b=some o')(tups:∀ b xs,H b=some (.tup xs)->H' b=some (.tup xs))(frzs:∀ b o u,H b=some (.frz o u)->H' b=some (.frz o u))(tbls:∀ b ps,H b=some (.tbl ps)->∃ more,H' b=some (.tbl (ps++more)))(ns:∀ m,s.heap.Ns X.env.locals m->h'.Ns X.env.locals m)(hok:K6 X.prog X.w H' h')(hg:AllBare g') :
  Inv X pins Y H' { s with heap:=h',gens:=g',drawn:=d',toks:=t' }:=by
 have neL:∀ b o,X.s₀.heap.get? b=some o->b≠X.env.locals:=fun b o e=>M0 (P7 (Heap.lt_size e) I.ok.above)
 have neC:∀ b o,X.s₀.heap.get? b=some o->b∉X.ex->b∉ch:=fun b o e hx hb=>by
  rcases (u7 b hb).1 with z | z
  .exact hx z
  .exact absurd (P7 (Heap.lt_size e) z) (f7 _)
 have cellK:∀ x c,X.env.cells.lookup x=some c->∀ v,s.heap.IsCell c v->h'.IsCell c v:=fun x c e v ⟨o,ho,hd⟩=>by
  have nch:c∉ch:=fun z=>(u7 c z).2.2.1 x c e rfl
  by_cases hc:c∈X.fs
  .obtain ⟨sl,q⟩:=slot c o (I.cne x c e) hc nch ho (I.freeC x c e);exact ⟨_,q,hd⟩
  .exact ⟨o,keep c o (I.cne x c e) hc nch ho (I.freeC x c e),hd⟩
 refine ⟨I.ok,I.os,hg,⟨fun b o e n hb hx=>?_,fun b o e n hb hx=>?_,fun b o e n hx=>?_,fun b o e hx=>?_,fun b xs e=>tups b xs (I.base.tups b xs e),fun b o xs e=>frzs b o xs (I.base.frzs b o xs e),fun b ps e=>?_⟩,?_,fun x c e=>?_,?_,fun x c e=>?_,fun p hp=>?_,hok,I.len⟩
 .exact keep b o (neL b o e) hb (neC b o e hx) (I.base.keep b o e n hb hx) (I.base.free b o e n hx)
 .obtain ⟨sl,e1⟩:=I.base.slot b o e n hb hx;obtain ⟨sl',e2⟩:=slot b _ (neL b o e) hb (neC b o e hx) e1 (I.base.free b o e n hx);exact ⟨sl',e2⟩
 .obtain ⟨o',e1⟩:=I.base.there b o e hx;exact free b o' (neC b o e hx) e1 (I.base.free b o e n hx)
 .obtain ⟨o',e1⟩:=I.base.there b o e hx;exact there b o' (neC b o e hx) e1
 .obtain ⟨m1,e1⟩:=I.base.tbls b ps e;obtain ⟨m2,e2⟩:=tbls b _ e1;exact ⟨m1++m2,by rw [e2,Array.append_assoc]⟩
 .obtain ⟨m,hn,hl⟩:=I.loc;refine ⟨m,ns m hn,fun i x v e1 e2 e3=>?_⟩;obtain ⟨u,r,l⟩:=hl i x v e1 e2 e3;refine ⟨u,r,?_⟩
  rcases l with l | ⟨k,c,e,z⟩
  .exact .inl l
  .exact .inr ⟨k,c,e,cellK x c e _ z⟩
 .obtain ⟨v,z⟩:=I.cell x c e;exact ⟨v,cellK x c e v z⟩
 .obtain ⟨m,⟨o,_,_,ho,_⟩,_⟩:=I.loc;exact free _ o (fun z=>(u7 _ z).2.1 rfl) ho I.free
 .obtain ⟨v,o,ho,hd⟩:=I.cell x c e;exact free c o (fun z=>(u7 c z).2.2.1 x c e rfl) ho (I.freeC x c e)
 .obtain ⟨e,n,ne,nf,d⟩:=I.pin p hp;have nch:p.1∉ch:=fun z=>(u7 p.1 z).2.2.2 p hp rfl
  exact ⟨keep p.1 p.2 ne nf nch e n,free p.1 p.2 nch e n,ne,nf,d⟩
theorem Inv.un{t':Nat}(I:Inv X pins Y H s)(u:Un X.fs [] H H' s.heap h')(hok:K6 X.prog X.w H' h'):Inv X pins Y H' { s with heap:=h',toks:=t' }:=by
 obtain ⟨m,⟨o,es,ep,ho,r⟩,_⟩:=id I.loc;obtain ⟨sl,hL⟩:=u.any ho I.free (by simp);exact I.step (g':=s.gens) (d':=s.drawn) (ch:=[]) (fun _ z=>nomatch z) (fun b o _ hb _ e n=>u.keep b o e n hb (by simp)) (fun b o _ hb _ e n=>u.slot b o e n hb (by simp)) (fun b o _ e n=>u.free b o e n (by simp)) (fun b o _ e=>u.there b o e (by simp)) u.tups u.frzs u.tbls (fun m' hm=>by
  obtain ⟨o',es',ep',m9,r'⟩:=hm;rw [ho] at m9;cases m9;exact ⟨_,es',ep',hL,r'⟩) hok I.bare
theorem Inv.call{g':Array GenState}{t':Nat}{d':Drawn}{ch:List Addr}(I:Inv X pins Y H s)(u:Un (R6 X.stack) ch H H' s.heap h')(hok:K6 X.prog X.w H' h')(hg:AllBare g')(u7:∀ b∈ch,(b∈X.ex\/X.s₀.heap.objs.size<=b)/\b≠X.env.locals/\(∀ x c,X.env.cells.lookup x=some c->c≠b)/\∀ p∈X.pn++pins,p.1≠b) :
  Inv X pins Y H' { s with heap:=h',gens:=g',drawn:=d',toks:=t' }:=by
 obtain ⟨m,⟨o,es,ep,ho,r⟩,_⟩:=id I.loc;obtain ⟨sl,hL⟩:=u.any ho I.free fun z=>(u7 _ z).2.1 rfl
 exact I.step (ch:=ch) u7 (fun b o hL hb hc e n=>u.keep b o e n (fun z=>(E7.mp (I.stkSub b z)).elim hL hb) hc) (fun b o _ _ hc e n=>u.any e n hc) (fun b o hc e n=>u.free b o e n hc) (fun b o hc e=>u.there b o e hc) u.tups u.frzs u.tbls (fun m' hm=>by
  obtain ⟨o',es',ep',m9,r'⟩:=hm;rw [ho] at m9;cases m9;exact ⟨_,es',ep',hL,r'⟩) hok hg
theorem Inv.turned{t':Nat}{it:Addr}(I:Inv X pins Y H s)(k:∀ b o,b≠it->s.heap.get? b=some o->h'.get? b=some o)(hn:H it=none)(hL:it≠X.env.locals)(h1:it∈X.ex\/X.s₀.heap.objs.size<=it)(h2:∀ x c,X.env.cells.lookup x=some c->c≠it)(h3:∀ p∈X.pn++pins,p.1≠it):Inv X pins Y H { s with heap:=h',toks:=t' }:=by
 have nit:∀ b u,H b=some u->b≠it:=fun b u e z=>by rw [z,hn] at e;cases e
 refine I.step (g':=s.gens) (d':=s.drawn) (ch:=[it]) (fun b hb=>?_) (fun b o _ _ hc e _=>k b o (fun z=>hc (by simp [z])) e) (fun b o _ _ hc e _=>⟨o.slots,k b o (fun z=>hc (by simp [z])) e⟩) (fun _ _ _ _ n=>n)
  (fun b o hc e=>⟨o,k b o (fun z=>hc (by simp [z])) e⟩) (fun _ _ e=>e) (fun _ _ _ e=>e) (fun b ps e=>⟨#[],by rw [e];simp⟩) (fun m hm=>?_) (fun b u e=>?_) I.bare
 .have e:b=it:=by simpa using hb
  subst e;exact ⟨h1,hL,h2,h3⟩
 .obtain ⟨o,es,ep,ho,r⟩:=hm;exact ⟨o,es,ep,k _ o (Ne.symm hL) ho,r⟩
 .refine (I.hok b u e).stay (fun c v hc q=>k c v ?_ q) (fun _ q=>q) fun _ _ q=>q
  rcases hc with z | z
  .rw [z];exact nit b u e
  .exact nit c _ z
theorem Inv.tok(I:Inv X pins Y H s)(t:Nat):Inv X pins Y H { s with toks:=t }:=I.un (h':=s.heap) (t':=t) uad I.hok
theorem Inv.kept{t':Nat}(I:Inv X pins Y H s)(k:∀ b u,s.heap.get? b=some u->h'.get? b=some u):Inv X pins Y H { s with heap:=h',toks:=t' }:=I.un (Un.kept k) (I.hok.kept k)
theorem Inv.laid{a:Addr}{o:HO}{t':Nat}(I:Inv X pins Y H s)(k:∀ b u,s.heap.get? b=some u->h'.get? b=some u)(hp:s.heap.objs.size<=a)(new:ObjOk X.prog X.w (A0 H a o) h' a o) :
  Inv X pins Y (A0 H a o) { s with heap:=h',toks:=t' }:=I.un (Un.laid k hp (I.hok.fresh hp)) (I.hok.laid k hp new)
theorem Inv.write{x e:Addr}{o:HO}{t':Nat}(I:Inv X pins Y H s)(mu:fO (H x))(he:e=x\/H e=some (.own x))(k:∀ b u,b≠e->s.heap.get? b=some u->h'.get? b=some u)(gZ:∃ u,h'.get? e=some u)(new:ObjOk X.prog X.w (A0 H x o) h' x o):Inv X pins Y (A0 H x o) { s with heap:=h',toks:=t' }:=I.un (Un.write mu he k gZ) (I.hok.write mu he k gZ new)
theorem Inv.pins_of{pins':List (Addr×Obj)}(I:Inv X pins Y H s)(h:∀ p∈pins',s.heap.get? p.1=some p.2/\H p.1=none/\p.1≠X.env.locals/\p.1∉X.fs/\∀ v,p.2.data≠.cell v):Inv X pins' Y H s:=
 ⟨I.ok,I.os,I.bare,I.base,I.loc,I.cell,I.free,I.freeC,fun p hp=>(M4.mp hp).elim (fun z=>I.pin p (V4 _ z)) (h p),I.hok,I.len⟩
theorem rC{N:List Str}(hN:N.Nodup){i j:Nat}{x:Str}(a:N[i]?=some x)(b:N[j]?=some x):i=j:=by
 obtain ⟨h1,e1⟩:=G1.mp a;obtain ⟨h2,e2⟩:=G1.mp b;exact (List.getElem_inj hN).mp (e1.trans e2.symm)
theorem aiT{M:Model}{A:Around}{E:Value->Shared->Prop}{i:Nat}{x:Str}{v:V}{u:Value}{Q:Unit->Shared->Prop}(I:Inv X pins Y H s)(hN:X.N.Nodup)(hi:X.N[i]?=some x)(hx:k9 X.env.scope x)(r:RelV v u)(h:∀ s',Inv X pins (Y.set i (some v)) H s'->(∃ a,Heap.SameBut a s.heap s'.heap/\(a=X.env.locals\/X.env.cells.lookup x=some a))->Q () s')(hf:X.fn x=true\/X.env.scope.names.lookup x=some .local:=by first | exact .inl rfl | exact .inr rfl | assumption):wpAny M A (storeName X.env x u) Q E s:=by
 obtain ⟨m,hn,hl⟩:=id I.loc;have eC:(X.env.scope.kind == .class || (X.env.scope.kind == .module&&X.env.locals != X.env.globals))=false:=by rw [I.ok.kind];rfl
 have hiσ:i<Y.length:=by rw [I.len];exact (G1.mp hi).1
 have cne:=I.cne;have tracked:∀ {a:Addr} {h':Heap},(∃ o,s.heap.get? a=some o/\H a=none)->Heap.SameBut a s.heap h'->K6 X.prog X.w H h':=fun {a h'} ha hs b ob e=>by
  obtain ⟨_,_,bU⟩:=ha;refine (I.hok b ob e).stay (fun c w' hc q=>(hs.2 c ?_).trans q) (fun _ q=>q) fun _ _ q=>q
  rintro rfl
  rcases hc with rfl | hc
  .rw [bU] at e;cases e
  .rw [bU] at hc;cases hc
 rcases hx with hk | hk
 .refine wpAny_storeName_local hk hn (fun h' aB hs=>?_) eC;obtain ⟨oL,_,_,hoL,_⟩:=id hn;refine h _ ⟨I.ok,I.os,I.bare,⟨fun b o e n hb hx=>?_,fun b o e n hb hx=>?_,I.base.free,fun b o e hx=>?_,I.base.tups,I.base.frzs,I.base.tbls⟩,⟨_,aB,fun j y v' e1 e2 e3=>?_⟩,fun y c e=>?_,I.free,I.freeC,fun p hp=>?_,tracked ⟨oL,hoL,I.free⟩ hs,by simpa using I.len⟩ ⟨_,hs,.inl rfl⟩
  .exact (hs.2 b (M0 (P7 (Heap.lt_size e) I.ok.above))).trans (I.base.keep b o e n hb hx)
  .obtain ⟨sl,e1⟩:=I.base.slot b o e n hb hx;exact ⟨sl,(hs.2 b (M0 (P7 (Heap.lt_size e) I.ok.above))).trans e1⟩
  .obtain ⟨o',e1⟩:=I.base.there b o e hx;exact ⟨o',(hs.2 b (M0 (P7 (Heap.lt_size e) I.ok.above))).trans e1⟩
  .by_cases hj:j=i
   .subst hj;rw [hi] at e1;cases e1;rw [List.getElem?_set_self hiσ] at e2;cases e2;exact ⟨u,r,.inl ⟨hk,by simp⟩⟩
   .rw [List.getElem?_set_ne (Ne.symm hj)] at e2;obtain ⟨u',r',q⟩:=hl j y v' e1 e2 e3;refine ⟨u',r',?_⟩
    rcases q with ⟨k,e⟩ | ⟨k,c,e,z⟩
    .refine .inl ⟨k,?_⟩
     have:y≠x:=fun e=>hj (rC hN e1 (e ▸ hi))
     simp [this,e]
    .exact .inr ⟨k,c,e,z.sameBut hs (cne y c e)⟩
  .obtain ⟨w',z⟩:=I.cell y c e;exact ⟨w',z.sameBut hs (cne y c e)⟩
  .obtain ⟨e,n,ne,nf,d⟩:=I.pin p hp;exact ⟨(hs.2 p.1 ne).trans e,n,ne,nf,d⟩
 .have wA:X.fn x=true:=by
   rcases hf with z | z
   .exact z
   .rw [z] at hk;cases hk
  obtain ⟨c,hc⟩:=I.ok.has x (.inl hk);obtain ⟨w',z⟩:=I.cell x c hc;refine wpAny_storeName_cell I.ok.kind hk hc z (fun h' u8 hs=>?_);obtain ⟨oc,wB,wC⟩:=id z;refine h { s with heap:=h' } ⟨I.ok,I.os,I.bare,⟨fun b o e n hb hx=>?_,fun b o e n hb hx=>?_,I.base.free,fun b o e hx=>?_,I.base.tups,I.base.frzs,I.base.tbls⟩,⟨m,hn.sameBut hs (Ne.symm (cne x c hc)),fun j y v' e1 e2 e3=>?_⟩,fun y c' e=>?_,I.free,I.freeC,fun p hp=>?_,tracked ⟨oc,wB,I.freeC x c hc⟩ hs,by simpa using I.len⟩ ⟨c,hs,.inr hc⟩
  .exact (hs.2 b (M0 (P7 (Heap.lt_size e) (I.ok.cab x c wA hc)))).trans (I.base.keep b o e n hb hx)
  .obtain ⟨sl,e1⟩:=I.base.slot b o e n hb hx;exact ⟨sl,(hs.2 b (M0 (P7 (Heap.lt_size e) (I.ok.cab x c wA hc)))).trans e1⟩
  .obtain ⟨o',e1⟩:=I.base.there b o e hx;exact ⟨o',(hs.2 b (M0 (P7 (Heap.lt_size e) (I.ok.cab x c wA hc)))).trans e1⟩
  .by_cases hj:j=i
   .subst hj;rw [hi] at e1;cases e1;rw [List.getElem?_set_self hiσ] at e2;cases e2;exact ⟨u,r,.inr ⟨.inl hk,c,hc,u8⟩⟩
   .rw [List.getElem?_set_ne (Ne.symm hj)] at e2;obtain ⟨u',r',q⟩:=hl j y v' e1 e2 e3;refine ⟨u',r',?_⟩
    rcases q with q | ⟨k,c',e,z'⟩
    .exact .inl q
    .refine .inr ⟨k,c',e,z'.sameBut hs ?_⟩;rintro rfl;exact hj (rC hN e1 (I.ok.inj _ _ _ e hc ▸ hi))
  .by_cases hcc:c'=c
   .subst hcc;exact ⟨_,u8⟩
   .obtain ⟨w2,z2⟩:=I.cell y c' e;exact ⟨w2,z2.sameBut hs hcc⟩
  .obtain ⟨e,n,ne,nf,d⟩:=I.pin p hp;refine ⟨(hs.2 p.1 ?_).trans e,n,ne,nf,d⟩;intro q;rw [q,wB] at e;have q':oc=p.2:=Option.some.inj e;exact d w' (by rw [<- q'];exact wC)
theorem jH{M:Model}{A:Around}{E:Value->Shared->Prop}{i:Nat}{x:Str}{v:V}{u:Value}{Q:Unit->Shared->Prop}(I:Inv X pins Y H s)(hN:X.N.Nodup)(hi:X.N[i]?=some x)(hx:k9 X.env.scope x)(r:RelV v u)(h:∀ s',Inv X pins (Y.set i (some v)) H s'->Q () s')(hf:X.fn x=true\/X.env.scope.names.lookup x=some .local:=by first | exact .inl rfl | exact .inr rfl | assumption):wpAny M A (storeName X.env x u) Q E s:=
 aiT I hN hi hx r (fun s' I' _=>h s' I') hf
theorem Inv.call'{s':Shared}{ch:List Addr}(I:Inv X pins Y H s)(ho:s'.os=s.os)(u:Un (R6 X.stack) ch H H' s.heap s'.heap)(hok:K6 X.prog X.w H' s'.heap)(hg:AllBare s'.gens)(u7:∀ b∈ch,(b∈X.ex\/X.s₀.heap.objs.size<=b)/\b≠X.env.locals/\(∀ x c,X.env.cells.lookup x=some c->c≠b)/\∀ p∈X.pn++pins,p.1≠b):Inv X pins Y H' s':=by
 obtain ⟨h',g',d',t',o'⟩:=s';have e:o'=s.os:=ho;subst e;exact I.call (g':=g') (t':=t') (d':=d') u hok hg u7
end
noncomputable abbrev XK:=Value->Option Addr->Hp->Prop
noncomputable abbrev St:=List (Option V)
noncomputable abbrev VK:=V->Hp->Prop
noncomputable abbrev TE:=St->Hp->VK->Prop
noncomputable abbrev TT:=St->Hp->(Bool->Hp->Prop)->Prop
noncomputable abbrev TA:=St->Hp->(List V->Hp->Prop)->Prop
structure Ends where
 nx:St->Hp->Prop
 rt:VK
 bk:St->Hp->Prop:=fun _ _=>False
 ct:St->Hp->Prop:=fun _ _=>False
noncomputable abbrev TS:=Ends->St->Hp->Prop
noncomputable def EP (X:Cx) (pins:List (Addr×Obj)) (Y:St) (Q:VK) (u:Value) (s':Shared):Prop:=∃ v H',Inv X pins Y H' s'/\RelV v u/\Q v H'
noncomputable def TP (X:Cx) (pins:List (Addr×Obj)) (Y:St) (Q:Bool->Hp->Prop) (b:Bool) (s':Shared):Prop:=∃ H',Inv X pins Y H' s'/\Q b H'
noncomputable def AP (X:Cx) (pins:List (Addr×Obj)) (Y:St) (Q:List V->Hp->Prop) (us:List Value) (s':Shared):Prop:=∃ vs H',Inv X pins Y H' s'/\Vals vs us/\Q vs H'
noncomputable def SP (X:Cx) (pins:List (Addr×Obj)) (D:Ends) (f:Flow) (s':Shared):Prop:=
 match f with
 | .next=>∃ σ' H',Inv X pins σ' H' s'/\D.nx σ' H'
 | .brk=>∃ σ' H',Inv X pins σ' H' s'/\D.bk σ' H'
 | .cont=>∃ σ' H',Inv X pins σ' H' s'/\D.ct σ' H'
 | .ret u=>∃ v σ' H',Inv X pins σ' H' s'/\RelV v u/\D.rt v H'
noncomputable def PE (X:Cx) (e:Expr) (t:TE):Prop:=
 ∀ (pins:List (Addr×Obj)) (s:Shared) (Y:St) (H:Hp) (Q:VK),Inv X pins Y H s->t Y H Q->wpAny (model X.prog X.w) X.A (eval e X.env) (EP X pins Y Q) X.xe s
noncomputable def PT (X:Cx) (e:Expr) (t:TT):Prop:=
 ∀ (pins:List (Addr×Obj)) (s:Shared) (Y:St) (H:Hp) (Q:Bool->Hp->Prop),Inv X pins Y H s->t Y H Q->wpAny (model X.prog X.w) X.A (isTrue e X.env (eval e X.env)) (TP X pins Y Q) X.xe s
noncomputable def PW (X:Cx) (e:Expr) (t:TT):Prop:=
 ∀ (whole:Sem Value) (pins:List (Addr×Obj)) (s:Shared) (Y:St) (H:Hp) (Q:Bool->Hp->Prop),Inv X pins Y H s->t Y H Q->wpAny (model X.prog X.w) X.A (isTrue e X.env whole) (TP X pins Y Q) X.xe s
theorem PW.pt{X:Cx}{e:Expr}{t:TT}(h:PW X e t):PT X e t:=h _
noncomputable def PA (X:Cx) (es:List Expr) (t:TA):Prop:=
 ∀ (pos:Pos) (pins:List (Addr×Obj)) (s:Shared) (Y:St) (H:Hp) (Q:List V->Hp->Prop),Inv X pins Y H s->t Y H Q->wpAny (model X.prog X.w) X.A (spliced (backTo pos (starEach es X.env))) (AP X pins Y Q) X.xe s
noncomputable def PS (X:Cx) (st:Stmt) (t:TS):Prop:=
 ∀ (pins:List (Addr×Obj)) (s:Shared) (Y:St) (H:Hp) (D:Ends),Inv X pins Y H s->t D Y H->wpAny (model X.prog X.w) X.A (exec st X.env) (SP X pins D) X.xe s
noncomputable def U4 (X:Cx) (st:List Stmt) (t:TS):Prop:=
 ∀ (pins:List (Addr×Obj)) (s:Shared) (Y:St) (H:Hp) (D:Ends),Inv X pins Y H s->t D Y H->wpAny (model X.prog X.w) X.A (execs st X.env) (SP X pins D) X.xe s
theorem A7{α:Type}{t:Sem α}{Q Q':α->Shared->Prop}{M:Model}{A:Around}{E:Value->Shared->Prop}{s:Shared}(h:wpAny M A t Q E s)(hQ:∀ a s,Q a s->Q' a s):wpAny M A t Q' E s:=wpAny_mono h hQ fun _ _ x=>x
end L2
namespace L2
open PySem PySem.Spec PyProof.Rows
section
variable {X:Cx}
noncomputable def tVar (i:Nat):TE:=fun Y H Q=>∃ v,Y[i]?=some (some v)/\Q v H
noncomputable def tC (v:V):TE:=fun _ H Q=>Q v H
theorem yG{i:Nat}{x:Str}{pos:Pos}(hN:X.N[i]?=some x)(hv:jG X.env.scope x)(hd:(x==("__debug__" : Str))=false:=by decide)(W3:(x==("__classdict__" : Str))=false:=by decide):PE X (.Name x pos) (tVar i):=by
 intro pins s Y H Q I h;obtain ⟨v,e,h⟩:=h;obtain ⟨m,hn,hl⟩:=I.loc;obtain ⟨u,r,l⟩:=hl i x v hN e hv;have fin:EP X pins Y Q u s:=⟨v,H,I,r,h⟩
 rcases l with ⟨hk,hm⟩ | ⟨hk,c,hc,L8⟩
 .exact wpAny_Name (wpAny_loadName_local I.ok.kind hk hn hm fin) hd
 .rcases hk with hk | hk
  .exact wpAny_Name (wpAny_loadName_cell I.ok.kind hk hc L8 fin) hd
  .exact wpAny_Name (wpAny_loadName_free I.ok.kind hk hc L8 fin W3) hd
theorem yH{i j pos} : PE X (.Constant (.int i) j pos) (tC (.int i)):=fun _ _ _ H _ I h=>wpAny_Constant_int ⟨.int i,H,I.tok _,⟨_,rfl⟩,h⟩
theorem pe_bl{b j pos} : PE X (.Constant (.bool b) j pos) (tC (.bl b)):=fun _ _ _ H _ I h=>Constant_bool ⟨.bl b,H,I,rfl,h⟩
theorem aox{j pos} : PE X (.Constant .none j pos) (tC .non):=fun _ _ _ H _ I h=>Constant_none ⟨.non,H,I,rfl,h⟩
theorem aoy{x j pos} : PE X (.Constant (.str x) j pos) (tC (.str x)):=fun _ _ _ H _ I h=>Calls.Constant_str ⟨.str x,H,I.tok _,⟨_,rfl⟩,h⟩
noncomputable def Gl (X:Cx) (x:Str):Prop:=X.env.kindOf x=some .globalImplicit
theorem cV{E:Value->Shared->Prop}{pins:List (Addr×Obj)}{s:Shared}{Y:St}{H:Hp}{x:Str}{u:Value}{pos:Pos}{Q:Value->Shared->Prop}(I:Inv X pins Y H s)(hg:Gl X x)(hm:X.mg x=some u)(h:Q u s)(hd:(x==("__debug__" : Str))=false:=by decide):wpAny (model X.prog X.w) X.A (eval (.Name x pos) X.env) Q E s:=
 Calls.Name_function_global I.ok.kind hg (Calls.loadGlobal_global (by rw [I.ok.glob];exact I.mod.glob.keeps I.bk) hm h) hd
theorem aY{E:Value->Shared->Prop}{pins:List (Addr×Obj)}{s:Shared}{Y:St}{H:Hp}{x:Str}{u:Value}{pos:Pos}{Q:Value->Shared->Prop}(I:Inv X pins Y H s)(hg:Gl X x)(hm:X.mg x=none)(hv:bootBuiltins x=some u)(h:Q u s)(hn:x≠"__name__":=by decide)(hd:(x==("__debug__" : Str))=false:=by decide):wpAny (model X.prog X.w) X.A (eval (.Name x pos) X.env) Q E s:=by
 obtain ⟨mb,h1,h2⟩:=I.mod.blt;exact Calls.Name_function_global I.ok.kind hg (Calls.loadGlobal_builtin (by rw [I.ok.glob];exact I.mod.glob.keeps I.bk) hm (by rw [I.ok.blt];exact h1.keeps I.bk) ((h2 x hn).trans hv) h) hd
theorem yI{x:Str}{v:V}{u:Value}{pos:Pos}(hg:Gl X x)(hm:X.mg x=some u)(r:RelV v u)(hd:(x==("__debug__" : Str))=false:=by decide):PE X (.Name x pos) (tC v):=
 fun _ _ _ H _ I h=>cV I hg hm ⟨v,H,I,r,h⟩ hd
theorem amD{x:Str}{v:V}{u:Value}{pos:Pos}(hg:Gl X x)(hm:X.mg x=none)(hv:bootBuiltins x=some u)(r:RelV v u)(hn:x≠"__name__":=by decide)(hd:(x==("__debug__" : Str))=false:=by decide):PE X (.Name x pos) (tC v):=
 fun _ _ _ H _ I h=>aY I hg hm hv ⟨v,H,I,r,h⟩ hn hd
variable {a b:Expr} {ta tb:TE} {pos:Pos}
noncomputable def tB (t:TE):TT:=fun Y H Q=>t Y H fun x H1=>∃ c,x=.bl c/\Q c H1
variable {tA tB':TT} {rest:List Expr}
noncomputable def tAnd (t u:TT):TT:=fun Y H Q=>t Y H fun c H1=>if c=true then u Y H1 Q else Q false H1
noncomputable def rD (t u:TT):TT:=fun Y H Q=>t Y H fun c H1=>if c=true then Q true H1 else u Y H1 Q
noncomputable def tNot (t:TT):TT:=fun Y H Q=>t Y H fun c H1=>Q (!c) H1
theorem amE(ha:PT X a tA):PW X (.BoolOp .And [a] pos) tA:=by
 intro wh pins s Y H Q I h;refine isTrue_and (A7 (ha pins s Y H Q I h) fun c s1 e=>?_)
 cases c with
 | true=>exact isTrue_and_nil e
 | false=>exact e
theorem aoz(ha:PT X a tA):PW X (.BoolOp .Or [a] pos) tA:=by
 intro wh pins s Y H Q I h;refine isTrue_or (A7 (ha pins s Y H Q I h) fun c s1 e=>?_)
 cases c with
 | false=>exact isTrue_or_nil e
 | true=>exact e
theorem aoA(ha:PT X a tA)(hb:PW X (.BoolOp .And (b::rest) pos) tB'):PW X (.BoolOp .And (a::b::rest) pos) (tAnd tA tB'):=by
 intro wh pins s Y H Q I h;refine isTrue_and (A7 (ha pins s Y H _ I h) fun c s1 ⟨H1,I1,q1⟩=>?_)
 cases c with
 | true=>exact hb wh pins s1 Y H1 Q I1 q1
 | false=>exact ⟨H1,I1,q1⟩
theorem pw_or(ha:PT X a tA)(hb:PW X (.BoolOp .Or (b::rest) pos) tB'):PW X (.BoolOp .Or (a::b::rest) pos) (rD tA tB'):=by
 intro wh pins s Y H Q I h;refine isTrue_or (A7 (ha pins s Y H _ I h) fun c s1 ⟨H1,I1,q1⟩=>?_)
 cases c with
 | true=>exact ⟨H1,I1,q1⟩
 | false=>exact hb wh pins s1 Y H1 Q I1 q1
theorem aoB(ha:PT X a tA):PT X (.UnaryOp .Not a pos) (tNot tA):=by
 intro pins s Y H Q I h;exact isTrue_not (ha pins s Y H (fun c H1=>Q (!c) H1) I h)
noncomputable def tAndV (ta tb:TE):TE:=fun Y H Q=>ta Y H fun x H1=>∃ c,x=.bl c/\if c=true then tb Y H1 Q else Q (.bl false) H1
noncomputable def tOrV (ta tb:TE):TE:=fun Y H Q=>ta Y H fun x H1=>∃ c,x=.bl c/\if c=true then Q (.bl true) H1 else tb Y H1 Q
noncomputable def tNotV (ta:TE):TE:=fun Y H Q=>ta Y H fun x H1=>∃ c,x=.bl c/\Q (.bl (!c)) H1
theorem aoC{op}{t:TE}(h:PE X a t):PE X (.BoolOp op [a] pos) t:=fun pins s Y H Q I hw=>BoolOp_one (h pins s Y H Q I hw)
theorem aoD(ha:PE X a ta)(hb:PE X (.BoolOp .And (b::rest) pos) tb):PE X (.BoolOp .And (a::b::rest) pos) (tAndV ta tb):=by
 intro pins s Y H Q I h;refine BoolOp_and (A7 (ha pins s Y H _ I h) fun v s1 ⟨x,H1,I1,r1,q1⟩=>?_);obtain ⟨c,rfl,q1⟩:=q1
 cases r1
 refine wpAny_truthy_bool ?_
 cases c with
 | true=>exact hb pins s1 Y H1 Q I1 q1
 | false=>exact ⟨.bl false,H1,I1,rfl,q1⟩
theorem pe_or(ha:PE X a ta)(hb:PE X (.BoolOp .Or (b::rest) pos) tb):PE X (.BoolOp .Or (a::b::rest) pos) (tOrV ta tb):=by
 intro pins s Y H Q I h;refine BoolOp_or (A7 (ha pins s Y H _ I h) fun v s1 ⟨x,H1,I1,r1,q1⟩=>?_);obtain ⟨c,rfl,q1⟩:=q1
 cases r1
 refine wpAny_truthy_bool ?_
 cases c with
 | false=>exact hb pins s1 Y H1 Q I1 q1
 | true=>exact ⟨.bl true,H1,I1,rfl,q1⟩
noncomputable def rE (t:TT) (ta tb:TE):TE:=fun Y H Q=>t Y H fun c H1=>if c=true then ta Y H1 Q else tb Y H1 Q
theorem akH{c:Expr}(hc:PT X c tA)(ha:PE X a ta)(hb:PE X b tb):PE X (.IfExp c a b pos) (rE tA ta tb):=by
 intro pins s Y H Q I h;refine wpAny_IfExp (A7 (hc pins s Y H _ I h) fun d s1 ⟨H1,I1,q1⟩=>?_)
 cases d with
 | true=>exact ha pins s1 Y H1 Q I1 q1
 | false=>exact hb pins s1 Y H1 Q I1 q1
end
end L2
namespace L2
open PySem PySem.Spec PyProof.Rows
noncomputable def C7 (K:PySem.W.Frag) (H:Hp) (a:Addr) (xs:List V):Prop:=
 Rd H a (.lst xs)\/
  ∃ (o:Obj) (its:Array Value) (n:Nat),K.lookup a=some o/\o.cls=.type "list"/\o.dict=none/\o.data=.seq its n/\its.size<=sizeLine/\Vals xs its.toList
noncomputable def C4 (K:PySem.W.Frag) (H:Hp) (a:Addr) (xs:List V):Prop:=
 Rd H a (.tup xs)\/
  ∃ (o:Obj) (its:Array Value) (n:Nat),K.lookup a=some o/\o.cls=.type "tuple"/\o.data=.seq its n/\its.size<=sizeLine/\Vals xs its.toList
noncomputable def absV:Value->Option V
 | .none=>some .non
 | .bool b=>some (.bl b)
 | .int i _=>some (.int i)
 | .str x _=>some (.str x)
 | .bytes b _=>some (.byt b)
 | .float b _=>some (.flt b)
 | .ref a=>some (.ref a)
 | .type n=>some (.ty n)
 | _=>none
theorem RelV.abs{x:V}{u:Value}(r:RelV x u):absV u=some x:=by
 cases x with
 | non=>cases r;rfl
 | bl _=>cases r;rfl
 | int _=>obtain ⟨t,rfl⟩:=r;rfl
 | str _=>obtain ⟨t,rfl⟩:=r;rfl
 | byt _=>obtain ⟨t,rfl⟩:=r;rfl
 | flt _=>obtain ⟨t,rfl⟩:=r;rfl
 | ref _=>cases r;rfl
 | ty _=>cases r;rfl
theorem RelV.inj{x y:V}{u:Value}(r:RelV x u)(q:RelV y u):x=y:=Option.some.inj (r.abs.symm.trans q.abs)
theorem Vals.inj:∀ {xs ys:List V} {us:List Value},Vals xs us->Vals ys us->xs=ys
 | _,_,_,.nil,.nil=>rfl
 | _,_,_,.cons r t,.cons r' t'=>by rw [r.inj r',Vals.inj t t']
section
variable {X:Cx} {pins:List (Addr×Obj)} {Y:St} {H:Hp} {s:Shared} {a:Addr} {xs ys:List V}
theorem C7.of{K:PySem.W.Frag}(h:H a=some (.lst xs)):C7 K H a xs:=.inl (.inl h)
theorem C4.of{K:PySem.W.Frag}(h:H a=some (.tup xs)):C4 K H a xs:=.inl (.inl h)
theorem Inv.list(I:Inv X pins Y H s)(h:C7 X.K H a xs):∃ its:List Value,Vals xs its/\PlainL s.heap a its.toArray/\xs.length<=sizeLine:=by
 rcases h with h | ⟨o,its,n,hk,hc,hd,hs,hz,r⟩
 .obtain ⟨z,its,n,r,e⟩:=h.ok I.hok;exact ⟨its,r,⟨_,n,e,rfl,rfl,rfl⟩,z⟩
 .refine ⟨its.toList,r,⟨o,n,I.kIn a o hk,hc,hd,by simpa using hs⟩,?_⟩;have e:=r.length;simp only [cU] at e;lia
theorem Inv.tuple(I:Inv X pins Y H s)(h:C4 X.K H a xs):∃ its:List Value,Vals xs its/\IsTup s.heap a its.toArray/\xs.length<=sizeLine:=by
 rcases h with h | ⟨o,its,n,hk,hc,hs,hz,r⟩
 .obtain ⟨z,its,r,p⟩:=h.ok I.hok;exact ⟨its,r,p,z⟩
 .refine ⟨its.toList,r,⟨o,I.kIn a o hk,hc,n,by simpa using hs⟩,?_⟩;have e:=r.length;simp only [cU] at e;lia
theorem Inv.list_inj(I:Inv X pins Y H s)(h:C7 X.K H a xs)(h':C7 X.K H a ys):xs=ys:=by
 obtain ⟨its,r,⟨o,n,e,_,_,d⟩,_⟩:=I.list h;obtain ⟨its',r',⟨o',n',e',_,_,d'⟩,_⟩:=I.list h';rw [e] at e';cases e';rw [d] at d'
 injection d' with d1 _
 have:its=its':=by simpa using congrArg Array.toList d1
 subst this;exact r.inj r'
theorem Inv.tuple_inj(I:Inv X pins Y H s)(h:C4 X.K H a xs)(h':C4 X.K H a ys):xs=ys:=by
 obtain ⟨its,r,⟨o,e,_,n,d⟩,_⟩:=I.tuple h;obtain ⟨its',r',⟨o',e',_,n',d'⟩,_⟩:=I.tuple h';rw [e] at e';cases e';rw [d] at d'
 injection d' with d1 _
 have:its=its':=by simpa using congrArg Array.toList d1
 subst this;exact r.inj r'
end
noncomputable abbrev Cx.wish (X:Cx) (E:Value->Shared->Prop):Cx:={ X with xe:=E }
noncomputable abbrev Cx.nox (X:Cx):Cx:=X.wish fun _ _=>False
theorem Cx.Ok.wish{X:Cx}(ok:X.Ok)(E:Value->Shared->Prop):(X.wish E).Ok:=
 ⟨ok.mod,ok.kind,ok.glob,ok.blt,ok.above,ok.inj,ok.has,ok.cab,ok.hd,ok.frames,ok.stk,ok.exf,ok.bs,ok.bsz,ok.noex,ok.exfs,ok.funs,ok.frf⟩
theorem Cx.Ok.unwish{X:Cx}{E:Value->Shared->Prop}(ok:(X.wish E).Ok):X.Ok:=
 ⟨ok.mod,ok.kind,ok.glob,ok.blt,ok.above,ok.inj,ok.has,ok.cab,ok.hd,ok.frames,ok.stk,ok.exf,ok.bs,ok.bsz,ok.noex,ok.exfs,ok.funs,ok.frf⟩
section
variable {X:Cx} {pins:List (Addr×Obj)} {Y:St} {H:Hp} {s:Shared} {E:Value->Shared->Prop}
theorem Inv.wish(I:Inv X pins Y H s)(E:Value->Shared->Prop):Inv (X.wish E) pins Y H s:=⟨I.ok.wish E,I.os,I.bare,I.base,I.loc,I.cell,I.free,I.freeC,I.pin,I.hok,I.len⟩
theorem Inv.unwish(I:Inv (X.wish E) pins Y H s):Inv X pins Y H s:=⟨I.ok.unwish,I.os,I.bare,I.base,I.loc,I.cell,I.free,I.freeC,I.pin,I.hok,I.len⟩
theorem SP.unwish{D:Ends}{f:Flow}{s':Shared}(h:SP (X.wish E) pins D f s'):SP X pins D f s':=by
 cases f with
 | next=>obtain ⟨σ',H',I,q⟩:=h;exact ⟨σ',H',I.unwish,q⟩
 | brk=>obtain ⟨σ',H',I,q⟩:=h;exact ⟨σ',H',I.unwish,q⟩
 | cont=>obtain ⟨σ',H',I,q⟩:=h;exact ⟨σ',H',I.unwish,q⟩
 | ret u=>obtain ⟨v,σ',H',I,r,q⟩:=h;exact ⟨v,σ',H',I.unwish,r,q⟩
theorem U4.nox{st:List Stmt}{t:TS}(h:U4 X.nox st t):U4 X st t:=fun pins s Y H D I hw=>
 wpAny_mono (h pins s Y H D (I.wish _) hw) (fun _ _ q=>q.unwish) fun _ _ z=>False.elim z
end
section
variable {X:Cx} {st:Stmt} {rest:List Stmt} {t u:TS} {e:Expr} {te:TE} {pos:Pos}
noncomputable def tNext:TS:=fun D Y H=>D.nx Y H
noncomputable def tSeq (t u:TS):TS:=fun D Y H=>t { D with nx:=u D } Y H
theorem amF:U4 X [] tNext:=fun _ _ Y H _ I h=>wpAny_execs_nil ⟨Y,H,I,h⟩
theorem akI(h1:PS X st t)(h2:U4 X rest u):U4 X (st::rest) (tSeq t u):=by
 intro pins s Y H D I h;refine wpAny_execs_cons (A7 (h1 pins s Y H { D with nx:=u D } I h) fun f s1 q=>?_)
 cases f with
 | next=>
  obtain ⟨σ',H',I',q⟩:=q;exact h2 pins s1 σ' H' D I' q
 | ret v=>exact q
 | brk=>exact q
 | cont=>exact q
theorem amG(h1:PS X st t):U4 X [st] t:=by
 intro pins s Y H D I h;refine wpAny_execs_cons (A7 (h1 pins s Y H D I h) fun f s1 q=>?_)
 cases f with
 | next=>exact wpAny_execs_nil q
 | ret v=>exact q
 | brk=>exact q
 | cont=>exact q
noncomputable def rF:TS:=fun D Y H=>D.bk Y H
noncomputable def tCont:TS:=fun D Y H=>D.ct Y H
theorem akJ:PS X (.Break pos) rF:=fun _ _ Y H _ I h=>wpAny_Break ⟨Y,H,I,h⟩
theorem Inv.quiet{pins:List (Addr×Obj)}{Y:St}{H:Hp}{s:Shared}(I:Inv X pins Y H s):interactive X.env=false:=by simp [interactive,I.ok.kind]
noncomputable def tDrop (te:TE):TS:=fun D Y H=>te Y H fun _ H1=>D.nx Y H1
theorem amH(he:PE X e te)(hs:swapsWith e none pos.line X.env=pure false:=by rfl):PS X (.Expr e pos) (tDrop te):=by
 intro pins s Y H D I h;exact wpAny_Expr_any (A7 (he pins s Y H _ I h) fun v s1 ⟨x,H1,I1,r1,q1⟩=>⟨Y,H1,I1,q1⟩) I.quiet hs
noncomputable def tRet (te:TE):TS:=fun D Y H=>te Y H D.rt
theorem aoE(he:PE X e te):PS X (.Return (some e) pos) (tRet te):=by
 intro pins s Y H D I h;exact wpAny_Return_some (A7 (he pins s Y H _ I h) fun v s1 ⟨x,H1,I1,r1,q1⟩=>⟨x,Y,H1,I1,r1,q1⟩)
noncomputable def tRetN:TS:=fun D _ H=>D.rt .non H
noncomputable def tIfS (c:TT) (t u:TS):TS:=fun D Y H=>c Y H fun b H1=>if b=true then t D Y H1 else u D Y H1
theorem ps_if{c:Expr}{a b:List Stmt}{tc:TT}(hc:PT X c tc)(ha:U4 X a t)(hb:U4 X b u):PS X (.If c a b pos) (tIfS tc t u):=by
 intro pins s Y H D I h;refine wpAny_If (A7 (hc pins s Y H _ I h) fun d s1 ⟨H1,I1,q1⟩=>?_)
 cases d with
 | true=>exact ha pins s1 Y H1 D I1 q1
 | false=>exact hb pins s1 Y H1 D I1 q1
noncomputable def rG:TS:=fun _ _ _=>False
theorem akK:PS X st rG:=fun _ _ _ _ _ _ h=>h.elim
end
noncomputable abbrev TG:=V->St->Hp->(St->Hp->Prop)->Prop
noncomputable abbrev g8:=List V->St->Hp->(St->Hp->Prop)->Prop
noncomputable def PG (X:Cx) (target:Expr) (t:TG):Prop:=
 ∀ (pins:List (Addr×Obj)) (s:Shared) (Y:St) (H:Hp) (v:V) (u:Value) (Q:St->Hp->Prop),Inv X pins Y H s->RelV v u->t v Y H Q->
  wpAny (model X.prog X.w) X.A (assign target X.env u) (fun _ s'=>∃ σ' H',Inv X pins σ' H' s'/\Q σ' H') X.xe s
noncomputable def jI (X:Cx) (ts:List Expr) (t:g8):Prop:=
 ∀ (pins:List (Addr×Obj)) (s:Shared) (Y:St) (H:Hp) (vs:List V) (us:List Value) (Q:St->Hp->Prop),Inv X pins Y H s->Vals vs us->t vs Y H Q->
  wpAny (model X.prog X.w) X.A (assignInOrder ((assignEach ts X.env).map (·.2)) us) (fun _ s'=>∃ σ' H',Inv X pins σ' H' s'/\Q σ' H') X.xe s
noncomputable abbrev TSet:=V->V->V->Hp->(Hp->Prop)->Prop
noncomputable abbrev cW:=V->V->Hp->VK->Prop
noncomputable def rH (X:Cx) (op:Operator) (t:cW):Prop:=
 ∀ (pins:List (Addr×Obj)) (s:Shared) (Y:St) (H:Hp) (x y:V) (v u:Value) (Q:VK),Inv X pins Y H s->RelV x v->RelV y u->t x y H Q->
  wpAny (model X.prog X.w) X.A (inplaceOp op v u) (EP X pins Y Q) X.xe s
section
variable {X:Cx} {pos:Pos}
noncomputable def gName (i:Nat):TG:=fun v Y H Q=>Q (Y.set i (some v)) H
theorem amI{i:Nat}{x:Str}(hN:X.N.Nodup)(hi:X.N[i]?=some x)(hx:k9 X.env.scope x)(hf:X.fn x=true\/X.env.scope.names.lookup x=some .local:=by first | exact .inl rfl | exact .inr rfl | assumption):PG X (.Name x pos) (gName i):=by
 intro pins s Y H v u Q I r h;exact wpAny_assign_Name (jH I hN hi hx r (fun s' I'=>⟨_,H,I',h⟩) hf)
noncomputable def gNil:g8:=fun vs Y H Q=>vs=[]/\Q Y H
noncomputable def gCons (t:TG) (u:g8):g8:=fun vs Y H Q=>∃ v r,vs=v::r/\t v Y H fun σ' H'=>u r σ' H' Q
theorem amJ:jI X [] gNil:=by
 intro pins s Y H vs us Q I r h;obtain ⟨e,h⟩:=h;subst e
 cases r
 exact assignInOrder_nil ⟨Y,H,I,h⟩
theorem akL{e:Expr}{es:List Expr}{t:TG}{u:g8}(h1:PG X e t)(h2:jI X es u)(hs:(assignEach (e::es) X.env).map (·.2)=assign e X.env::(assignEach es X.env).map (·.2):=by rfl):jI X (e::es) (gCons t u):=by
 intro pins s Y H vs us Q I r h;obtain ⟨v,vr,e1,h⟩:=h;subst e1
 cases r with
 | cons r rr=>
  rw [hs];refine assignInOrder_cons (A7 (h1 pins s Y H _ _ _ I r h) fun _ s1 ⟨σ1,H1,I1,q1⟩=>?_);exact h2 pins s1 σ1 H1 _ _ Q I1 rr q1
noncomputable def gTup (K:PySem.W.Frag) (n:Nat) (t:g8):TG:=fun v Y H Q=>∃ a xs,v=.ref a/\C4 K H a xs/\xs.length=n/\t xs Y H Q
theorem aoF{es:List Expr}{k:Nat}{t:g8}{n:Nat}(hc:X.calm=true)(h:jI X es t)(hn:(assignEach es X.env).length=n:=by rfl)(R1:(assignEach es X.env).findIdx? (·.1)=none:=by rfl):PG X (.Tuple es k pos) (gTup X.K n t):=by
 intro pins s Y H v u Q I r hw;obtain ⟨a,xs,e1,hq,hl,hw⟩:=hw;subst e1
 cases r
 obtain ⟨its,rv,ht,hz⟩:=I.tuple hq;refine assign_Tuple_tuple (I.ok.hd hc) ht (by simp [hn,<- hl,rv.length]) R1 fun h' hx=>?_
 have I1:Inv X pins Y H { s with heap:=h' }:=I.kept (t':=s.toks) fun b o e=>hx b o (M0 (Heap.lt_size e)) e
 exact h pins _ Y H xs _ Q I1 (by simpa using rv) hw
noncomputable def gSub (to ti:TE) (t:TSet):TG:=fun v Y H Q=>to Y H fun o H1=>ti Y H1 fun i H2=>t o i v H2 fun H3=>Q Y H3
noncomputable def tAsg (te:TE) (g:TG):TS:=fun D Y H=>te Y H fun x H1=>g x Y H1 D.nx
theorem aoG{tg e:Expr}{te:TE}{g:TG}(he:PE X e te)(hg:PG X tg g)(hs:swapsWithSole [tg] e pos.line X.env=pure false:=by rfl)(hw:swappedStores [tg] e X.env=pure none:=by rfl)(h1:(assignEach [tg] X.env).map (·.2)=[assign tg X.env]:=by rfl):PS X (.Assign [tg] e pos) (tAsg te g):=by
 intro pins s Y H D I h;refine wpAny_Assign_stores (A7 (he pins s Y H _ I h) fun v s1 ⟨x,H1,I1,r1,q1⟩=>?_) hs hw;rw [h1];exact A7 (hg pins s1 Y H1 x v _ I1 r1 q1) fun _ s2 q=>q
theorem aoH{i:Nat}{x:Str}{e:Expr}{te:TE}{pos':Pos}(hN:X.N.Nodup)(hi:X.N[i]?=some x)(hx:k9 X.env.scope x)(he:PE X e te)(hs:swapsWith e (some (.Name x pos')) pos.line X.env=pure false:=by rfl)(hf:X.fn x=true\/X.env.scope.names.lookup x=some .local:=by first | exact .inl rfl | exact .inr rfl | assumption) :
  PS X (.Assign [.Name x pos'] e pos) (tAsg te (gName i)):=by
 intro pins s Y H D I h;refine wpAny_Assign_Name (A7 (he pins s Y H _ I h) fun v s1 ⟨y,H1,I1,r1,q1⟩=>?_) hs;exact jH I1 hN hi hx r1 (fun s2 I2=>⟨_,H1,I2,q1⟩) hf
noncomputable def tAug (i:Nat) (te:TE) (ti:cW):TS:=fun D Y H=>∃ x,Y[i]?=some (some x)/\te Y H fun y H1=>ti x y H1 fun z H2=>D.nx (Y.set i (some z)) H2
theorem aoI{i:Nat}{x:Str}{e:Expr}{te:TE}{op:Operator}{ti:cW}{pos':Pos}(hN:X.N.Nodup)(hi:X.N[i]?=some x)(hx:k9 X.env.scope x)(he:PE X e te)(ho:rH X op ti)(hf:X.fn x=true\/X.env.scope.names.lookup x=some .local:=by first | exact .inl rfl | exact .inr rfl | assumption) :
  PS X (.AugAssign (.Name x pos') op e pos) (tAug i te ti):=by
 intro pins s Y H D I h;obtain ⟨v,e1,h⟩:=h;obtain ⟨m,hn,hl⟩:=I.loc;have vis:jG X.env.scope x:=by rcases hx with k | k;exact .inl k;exact .inr (.inl k)
 obtain ⟨u,r,l⟩:=hl i x v hi e1 vis;refine wpAny_AugAssign_Name ?_;have go:wpAny (model X.prog X.w) X.A (eval e X.env) (fun w zx=>wpAny (model X.prog X.w) X.A (inplaceOp op u w) (fun r zw=>wpAny (model X.prog X.w) X.A (storeName X.env x r) (fun _=>SP X pins D .next) X.xe zw) X.xe zx) X.xe s:=by
  refine A7 (he pins s Y H _ I h) fun w s1 ⟨y,H1,I1,r1,q1⟩=>?_
  refine A7 (ho pins s1 Y H1 v y u w _ I1 r r1 q1) fun z s2 ⟨zv,H2,I2,r2,q2⟩=>?_
  exact jH I2 hN hi hx r2 (fun s3 I3=>⟨_,H2,I3,q2⟩) hf
 rcases l with ⟨hk,hm⟩ | ⟨hk,c,hc,L8⟩
 .exact wpAny_loadName_local I.ok.kind hk hn hm go
 .rcases hk with hk | hk
  .exact wpAny_loadName_cell I.ok.kind hk hc L8 go
  .rcases hx with k | k
   .have:X.env.scope.names.lookup x=some .free:=hk
    rw [k] at this;cases this
   .have:X.env.scope.names.lookup x=some .free:=hk
    rw [k] at this;cases this
noncomputable def rJ (f:Int->Int->Int):cW:=fun x y H Q=>∃ i j,x=.int i/\y=.int j/\Q (.int (f i j)) H
theorem aoJ:rH X .Add (rJ fun i j=>i+j):=by
 intro pins s Y H x y v u Q I r1 r2 h;obtain ⟨i,j,e1,e2,q⟩:=h;subst e1;subst e2;obtain ⟨t,rfl⟩:=r1;obtain ⟨t',rfl⟩:=r2;exact iadd_int ⟨.int _,H,I.tok _,⟨_,rfl⟩,q⟩
end
section
variable {X:Cx} {pos:Pos}
noncomputable def nC (c:TT) (tb:TS):TS:=fun D Y H=>∃ W:Nat->St->Hp->Prop,(∃ m,W m Y H)/\∀ m Y H,W m Y H->
 c Y H fun b H1=>if b=true then ∃ N:St->Hp->Prop,(∀ σ' H',N σ' H'->∃ m',m'<m/\W m' σ' H')/\tb { D with nx:=N,ct:=N,bk:=D.nx } Y H1 else D.nx Y H1
theorem akM{c:Expr}{body:List Stmt}{tc:TT}{tb:TS}(hp:PassesOwn (model X.prog X.w) X.A X.env X.xe)(hc:PT X c tc)(hb:U4 X body tb):PS X (.While c body [] pos) (nC tc tb):=by
 intro pins s Y H D I h;obtain ⟨W,⟨m0,w0⟩,turn⟩:=h;refine wpAny_While (codeAny_whileLoop (fun n s'=>∃ σ' H',Inv X pins σ' H' s'/\W n σ' H') ?_ m0 ⟨Y,H,I,w0⟩);rintro n s1 ⟨σ1,H1,I1,w1⟩;refine wpAny_passesOwn hp (A7 (hc pins s1 σ1 H1 _ I1 (turn n σ1 H1 w1)) fun b s2 ⟨H2,I2,q2⟩=>?_)
 cases b with
 | true=>
  obtain ⟨N,hN,q2⟩:=q2;rw [if_pos rfl];refine wpAny_passesOwn hp (A7 (hb pins s2 σ1 H2 _ I2 q2) fun f s3 q3=>?_)
  cases f with
  | next=>
   obtain ⟨σ3,H3,I3,n3⟩:=q3;obtain ⟨m',hm,w3⟩:=hN σ3 H3 n3;exact ⟨m',hm,σ3,H3,I3,w3⟩
  | cont=>
   obtain ⟨σ3,H3,I3,n3⟩:=q3;obtain ⟨m',hm,w3⟩:=hN σ3 H3 n3;exact ⟨m',hm,σ3,H3,I3,w3⟩
  | brk=>exact q3
  | ret v=>exact q3
 | false=>
  rw [if_neg K5];exact wpAny_execs_nil ⟨σ1,H2,I2,q2⟩
end
structure It where
 go:Nat->Hp->Prop
 yld:Nat->Hp->V->Hp->Prop
 stop:Nat->Hp->Prop
noncomputable def FpOk (X:Cx) (pins:List (Addr×Obj)) (H:Hp) (b:Addr):Prop:=
 H b=none/\b≠X.env.locals/\b∉X.fs/\(b∈X.ex\/X.s₀.heap.objs.size<=b)/\(∀ x c,X.env.cells.lookup x=some c->c≠b)/\∀ p∈X.pn++pins,p.1≠b
theorem Inv.fpOk{X:Cx}{pins:List (Addr×Obj)}{Y:St}{H H':Hp}{s:Shared}{b:Addr}(I:Inv X pins Y H s)(hb:s.heap.objs.size<=b)(hn:H' b=none):FpOk X pins H' b:=by
 refine ⟨hn,x0 (P7 I.lt hb),I.nofs hb,.inr (E8 I.sz hb),fun x c e z=>?_,fun p hp z=>?_⟩
 .obtain ⟨v,q⟩:=I.cell x c e;exact absurd (P7 q.lt (by rw [z];exact hb)) (f7 _)
 .exact absurd (P7 (Heap.lt_size (I.pin p hp).1) (by rw [z];exact hb)) (f7 _)
structure Turn(P:Program)(w:World)(K:PySem.W.Frag)(tg:Expr)(J:It)(fp:List Addr)(it:Addr)(tn:Nat->Heap->Prop):Prop where
 mem:it∈fp
 obj:∀ i h,tn i h->∀ b∈fp,∃ o,h.get? b=some o/\∀ v,o.data≠.cell v
 keep:∀ i h h',tn i h->(∀ b∈fp,∀ o,h.get? b=some o->h'.get? b=some o)->tn i h'
 item:∀ (X:Cx),X.prog=P->X.w=w->X.K=K->X.calm=true->∀ (i:Nat) (pins:List (Addr×Obj)) (s:Shared) (Y:St) (H:Hp) (E:Value->Shared->Prop),Inv X pins Y H s->(∀ b∈fp,FpOk X pins H b)->tn i s.heap->J.go i H->
  wpAny (model P w) X.A (pyNext (.ref it)) (fun r s1=>∃ u,r=some u/\
   wpAny (model P w) X.A (letOwnedTupleGo tg (.ref it) u) (fun _ s2=>∃ x H',Inv X pins Y H' s2/\RelV x u/\J.yld i H x H'/\tn (i+1) s2.heap/\∀ b∈fp,H' b=none) E s1) E s
 done:∀ (X:Cx),X.prog=P->X.w=w->X.K=K->X.calm=true->∀ (i:Nat) (pins:List (Addr×Obj)) (s:Shared) (Y:St) (H:Hp) (E:Value->Shared->Prop),Inv X pins Y H s->(∀ b∈fp,FpOk X pins H b)->tn i s.heap->J.stop i H->
  wpAny (model P w) X.A (pyNext (.ref it)) (fun r s1=>r=none/\Inv X pins Y H s1) E s
 self:∀ (A:Around) (i:Nat) (s:Shared) (Q:Value->Shared->Prop) (E:Value->Shared->Prop),tn i s.heap->Q (.ref it) s->wpAny (model P w) A (pyIter (.ref it)) Q E s
noncomputable abbrev TI:=St->Hp->(It->Hp->Prop)->Prop
noncomputable def rK (X:Cx) (pins:List (Addr×Obj)) (Y:St) (tg:Expr) (R:It->Hp->Prop) (itv:Value) (s2:Shared):Prop:=
 ∃ (it:Addr) (fp:List Addr) (tn:Nat->Heap->Prop) (J:It) (H':Hp),itv=.ref it/\Inv X pins Y H' s2/\Turn X.prog X.w X.K tg J fp it tn/\tn 0 s2.heap/\(∀ b∈fp,FpOk X pins H' b)/\R J H'
noncomputable def PI (X:Cx) (tg iter:Expr) (wi:TI):Prop:=
 ∀ (pins:List (Addr×Obj)) (s:Shared) (Y:St) (H:Hp) (R:It->Hp->Prop),Inv X pins Y H s->wi Y H R->
  wpAny (model X.prog X.w) X.A (eval iter X.env) (fun v s1=>wpAny (model X.prog X.w) X.A (pyIter v) (rK X pins Y tg R) X.xe s1) X.xe s
theorem go_of{M : Model}{A : Around}{E : Value -> Shared -> Prop}{s : Shared}{tg : Expr}{it : Addr}{u : Value}{o : Obj}{n : String}{vs : Array Value}{Q : Unit -> Shared -> Prop}(ho : s.heap.get? it = some o)(hc : o.cls = .type n)(hd : o.data = .fields vs)(hn : ["enumerate", "zip", "dict_itemiterator", "dict_reverseitemiterator", "odict_iterator", "itertools.zip_longest", "itertools.pairwise"].contains n = false)(hQ : Q () s) : wpAny M A (letOwnedTupleGo tg (.ref it) u) Q E s := by
  unfold letOwnedTupleGo
  cases tg <;> first
    | exact wpAny_pure hQ
    | (cases u <;> first
        | exact wpAny_pure hQ
        | (refine wpAny_bind (wpAny_load ho ?_)
           rw [hc, hd];show wpAny M A (if (["enumerate", "zip", "dict_itemiterator", "dict_reverseitemiterator", "odict_iterator", "itertools.zip_longest", "itertools.pairwise"].contains n&&vs[0]? == some (rawInt _)) = true then _ else _) Q E s;rw [if_neg (by intro h; rw [hn, cT] at h; cases h)];exact wpAny_pure hQ))
noncomputable def p7 (K:PySem.W.Frag) (a:Addr):It:=
 ⟨fun i H=>∃ xs x,C7 K H a xs/\xs[i]?=some x,fun i H x H'=>H'=H/\∀ xs,C7 K H a xs->xs[i]?=some x,fun i H=>∃ xs,C7 K H a xs/\xs.length<=i⟩
noncomputable def aZ (K:PySem.W.Frag) (a:Addr):It:=
 ⟨fun i H=>∃ xs x,C4 K H a xs/\xs[i]?=some x,fun i H x H'=>H'=H/\∀ xs,C4 K H a xs->xs[i]?=some x,fun i H=>∃ xs,C4 K H a xs/\xs.length<=i⟩
noncomputable def g9 (lo:Int) (n:Nat):It:=⟨fun i _=>i<n,fun i H x H'=>H'=H/\x=.int (lo+i),fun i _=>n<=i⟩
theorem aiX{P:Program}{w:World}{K:PySem.W.Frag}{tg:Expr}(a it:Addr):Turn P w K tg (p7 K a) [it] it (fun i h=>h.IsListIter it a i) where
 mem:=by simp
 obj:=fun i h st b hb=>by
  have e:b=it:=by simpa using hb
  subst e;obtain ⟨o,e,c,d⟩:=st;exact ⟨o,e,fun v z=>by rw [d] at z;cases z⟩
 keep:=fun i h h' st k=>st.at fun o e=>k it (by simp) o e
 item:=by
  intro X hP hw hK hc i pins s Y H E I hf st hg;subst hP hw hK;obtain ⟨xs,x,hq,hx⟩:=hg;obtain ⟨its,rv,p,hz⟩:=I.list hq;obtain ⟨u,hu,ru⟩:=rv.get hx;obtain ⟨f0,f1,f2,f3,f4,f5⟩:=hf it (by simp);refine wpAny_pyNext_list_item st p.isList (x:=u) (by simpa using hu) fun h' st' sb=>?_
  have I1:Inv X pins Y H { s with heap:=h' }:=I.turned (t':=s.toks) (fun b o hb e=>(sb.2 b hb).trans e) f0 f1 f3 f4 f5;obtain ⟨o,e,c,d⟩:=id st';exact ⟨u,rfl,go_of (s:={ s with heap:=h' }) e c d (by decide) ⟨x,H,I1,ru,⟨rfl,fun ys hy=>by rw [I.list_inj hy hq];exact hx⟩,st',fun b hb=>(hf b hb).1⟩⟩
 done:=by
  intro X hP hw hK hc i pins s Y H E I hf st hg;subst hP hw hK;obtain ⟨xs,hq,hx⟩:=hg;obtain ⟨its,rv,p,hz⟩:=I.list hq;obtain ⟨f0,f1,f2,f3,f4,f5⟩:=hf it (by simp);have hl:=rv.length;exact wpAny_pyNext_list_end (I.ok.hd hc) st p.isList (by simp;lia) fun h' eb=>⟨rfl,I.turned (t':=s.toks) (fun b o hb e=>eb b o hb e) f0 f1 f3 f4 f5⟩
 self:=fun _ _ _ _ _ st h=>wpAny_pyIter_listiter st h
theorem aid{P:Program}{w:World}{K:PySem.W.Frag}{tg:Expr}(a it:Addr):Turn P w K tg (aZ K a) [it] it (fun i h=>h.IsTupleIter it a i) where
 mem:=by simp
 obj:=fun i h st b hb=>by
  have e:b=it:=by simpa using hb
  subst e;obtain ⟨o,e,c,d⟩:=st;exact ⟨o,e,fun v z=>by rw [d] at z;cases z⟩
 keep:=fun i h h' st k=>st.at fun o e=>k it (by simp) o e
 item:=by
  intro X hP hw hK hc i pins s Y H E I hf st hg;subst hP hw hK;obtain ⟨xs,x,hq,hx⟩:=hg;obtain ⟨its,rv,p,hz⟩:=I.tuple hq;obtain ⟨u,hu,ru⟩:=rv.get hx;obtain ⟨f0,f1,f2,f3,f4,f5⟩:=hf it (by simp);refine wpAny_pyNext_tuple_item st (show s.heap.IsTuple a its.toArray from p) (x:=u) (by simpa using hu) fun h' st' sb=>?_
  have I1:Inv X pins Y H { s with heap:=h' }:=I.turned (t':=s.toks) (fun b o hb e=>(sb.2 b hb).trans e) f0 f1 f3 f4 f5;obtain ⟨o,e,c,d⟩:=id st';exact ⟨u,rfl,go_of (s:={ s with heap:=h' }) e c d (by decide) ⟨x,H,I1,ru,⟨rfl,fun ys hy=>by rw [I.tuple_inj hy hq];exact hx⟩,st',fun b hb=>(hf b hb).1⟩⟩
 done:=by
  intro X hP hw hK hc i pins s Y H E I hf st hg;subst hP hw hK;obtain ⟨xs,hq,hx⟩:=hg;obtain ⟨its,rv,p,hz⟩:=I.tuple hq;obtain ⟨f0,f1,f2,f3,f4,f5⟩:=hf it (by simp);have hl:=rv.length;exact wpAny_pyNext_tuple_end (I.ok.hd hc) st (show s.heap.IsTuple a its.toArray from p) (by simp;lia) fun h' eb=>⟨rfl,I.turned (t':=s.toks) (fun b o hb e=>eb b o hb e) f0 f1 f3 f4 f5⟩
 self:=fun _ _ _ _ _ st h=>wpAny_pyIter_tupleiter st h
theorem aie{P:Program}{w:World}{K:PySem.W.Frag}{tg:Expr}(it:Addr)(lo:Int)(n:Nat):Turn P w K tg (g9 lo n) [it] it (fun i h=>IsRangeIter h it (lo+(i:Nat)*1) ((n:Int)-(i:Nat)) 1) where
 mem:=by simp
 obj:=fun i h st b hb=>by
  have e:b=it:=by simpa using hb
  subst e;exact ⟨_,st,fun v z=>by
   have z':Data.fields _=Data.cell v:=z
   cases z'⟩
 keep:=fun i h h' st k=>k it (by simp) _ st
 item:=by
  intro X hP hw hK hc i pins s Y H E I hf st hg;subst hP hw hK;obtain ⟨f0,f1,f2,f3,f4,f5⟩:=hf it (by simp);have W:=Walks.range (prog:=X.prog) (w:=X.w) (I.ok.hd hc) it lo 1 n;refine W.item i s _ _ hg st fun v h' tk hv st' kk=>?_
  obtain ⟨t,rfl⟩:=hv;have I1:Inv X pins Y H { s with heap:=h',toks:=tk }:=I.turned (fun b o hb e=>kk b o (by simpa using hb) e) f0 f1 f3 f4 f5;refine ⟨_,rfl,go_of (s:={ s with heap:=h',toks:=tk }) (n:="range_iterator") st' rfl rfl (by decide) ⟨.int (lo+i),H,I1,⟨t,?_⟩,⟨rfl,rfl⟩,st',fun b hb=>(hf b hb).1⟩⟩;rw [Int.mul_one]
 done:=by
  intro X hP hw hK hc i pins s Y H E I hf st hg;subst hP hw hK;obtain ⟨f0,f1,f2,f3,f4,f5⟩:=hf it (by simp);exact wpAny_pyNext_range_end (I.ok.hd hc) st (by have:n<=i:=hg;lia) fun h' eb=>⟨rfl,I.turned (t':=s.toks) (fun b o hb e=>eb b o hb e) f0 f1 f3 f4 f5⟩
 self:=fun _ _ _ _ _ st h=>wpAny_pyIter_rangeiter st h
end L2
namespace L2
open PySem PySem.Spec PyProof.Rows
section
variable {X:Cx} {tg:Expr}
noncomputable def iList (K:PySem.W.Frag) (tl:TE):TI:=fun Y H R=>tl Y H fun x H1=>∃ a,x=.ref a/\(∃ xs,C7 K H1 a xs)/\R (p7 K a) H1
noncomputable def iTup (K:PySem.W.Frag) (tl:TE):TI:=fun Y H R=>tl Y H fun x H1=>∃ a,x=.ref a/\(∃ xs,C4 K H1 a xs)/\R (aZ K a) H1
theorem amK{l:Expr}{tl:TE}(hl:PE X l tl):PI X tg l (iList X.K tl):=by
 intro pins s Y H R I h;refine A7 (hl pins s Y H _ I h) fun v s1 ⟨x,H1,I1,r1,q1⟩=>?_
 obtain ⟨a,e,⟨xs,hq⟩,q⟩:=q1;subst e
 cases r1
 obtain ⟨its,rv,p,hz⟩:=I1.list hq;refine wpAny_pyIter_list p.isList ?_;refine ⟨s1.heap.objs.size,[s1.heap.objs.size],_,_,H1,rfl,I1.kept (t':=s1.toks) fun b o e=>Heap.get?_push_of_some _ e,aiX a _,⟨_,Heap.get?_push_size _ rfl,rfl,rfl⟩,fun b hb=>?_,q⟩;have e:b=s1.heap.objs.size:=by simpa using hb
 subst e;exact I1.fpOk (B3 _) (I1.hok.fresh (B3 _))
theorem aoK{l:Expr}{tl:TE}(hl:PE X l tl):PI X tg l (iTup X.K tl):=by
 intro pins s Y H R I h;refine A7 (hl pins s Y H _ I h) fun v s1 ⟨x,H1,I1,r1,q1⟩=>?_
 obtain ⟨a,e,⟨xs,hq⟩,q⟩:=q1;subst e
 cases r1
 obtain ⟨its,rv,p,hz⟩:=I1.tuple hq;refine wpAny_pyIter_tuple (show s1.heap.IsTuple a its.toArray from p) ?_;refine ⟨s1.heap.objs.size,[s1.heap.objs.size],_,_,H1,rfl,I1.kept (t':=s1.toks) fun b o e=>Heap.get?_push_of_some _ e,aid a _,⟨_,Heap.get?_push_size _ rfl,rfl,rfl⟩,fun b hb=>?_,q⟩;have e:b=s1.heap.objs.size:=by simpa using hb
 subst e;exact I1.fpOk (B3 _) (I1.hok.fresh (B3 _))
theorem yJ{pins:List (Addr×Obj)}{Y:St}{H:Hp}{s:Shared}{R:It->Hp->Prop}{E:Value->Shared->Prop}{lo hi:Int}{t u v:Tok}{tk:Nat}(I:Inv X pins Y H s)(h1:-(2 ^ 62)<=lo)(h2:lo<2 ^ 62)(h3:-(2 ^ 62)<=hi)(h4:hi<2 ^ 62)(q:R (g9 lo (hi-lo).toNat) H):wpAny (model X.prog X.w) X.A (pyIter (.ref s.heap.objs.size)) (rK X pins Y tg R) E { s with heap:=s.heap.push { cls:=.type "range",data:=.fields #[.int lo t,.int hi u,.int 1 v] },toks:=tk }:=by
 refine wpAny_pyIter_range (IsRange.new ..) (small_one h1 h2 h3 h4) ?_;have I1:Inv X pins Y H { s with heap:=s.heap.push { cls:=.type "range",data:=.fields #[.int lo t,.int hi u,.int 1 v] },toks:=tk }:=I.kept fun b o e=>Heap.get?_push_of_some _ e
 refine ⟨(s.heap.push { cls:=.type "range",data:=.fields #[.int lo t,.int hi u,.int 1 v] }).objs.size,[(s.heap.push { cls:=.type "range",data:=.fields #[.int lo t,.int hi u,.int 1 v] }).objs.size],_,_,H,rfl,
  I1.kept (t':=tk) fun b o e=>Heap.get?_push_of_some _ e,aie _ lo (hi-lo).toNat,?_,fun b hb=>?_,q⟩
 .have e1:lo+((0:Nat):Int)*1=lo:=by simp
  have e2:(((hi-lo).toNat:Nat):Int)-((0:Nat):Int)=Builtin.Range.rangeSize lo hi 1:=by rw [rangeSize_one];split <;> lia
  show IsRangeIter _ _ (lo+((0:Nat):Int)*1) ((((hi-lo).toNat:Nat):Int)-((0:Nat):Int)) 1;rw [e1,e2];exact Heap.get?_push_size _ rfl
 .have e:b=(s.heap.push { cls:=.type "range",data:=.fields #[.int lo t,.int hi u,.int 1 v] }).objs.size:=by simpa using hb
  subst e;exact I1.fpOk (B3 _) (I1.hok.fresh (B3 _))
noncomputable def iRng1 (ta:TA):TI:=fun Y H R=>ta Y H fun vs H1=>∃ j:Int,vs=[.int j]/\-(2 ^ 62)<=j/\j<2 ^ 62/\R (g9 0 j.toNat) H1
noncomputable def iRng2 (ta:TA):TI:=fun Y H R=>ta Y H fun vs H1=>∃ i j:Int,vs=[.int i,.int j]/\(-(2 ^ 62)<=i/\i<2 ^ 62/\-(2 ^ 62)<=j/\j<2 ^ 62)/\R (g9 i (j-i).toNat) H1
theorem aiY{a:Expr}{ta:TA}{p pos:Pos}(hg:Gl X "range")(hm:X.mg "range"=none)(ha:PA X [a] ta)(hs:starEach [a] X.env=[(false,eval a X.env)]:=by rfl):PI X tg (.Call (.Name "range" p) [a] [] pos) (iRng1 ta):=by
 intro pins s Y H R I h;refine Call_ (aY I hg hm boot_range (PyProof.Rows.callWith_type1 (A7 (ha pos pins s Y H _ I h) fun us s1 ⟨vs,H1,I1,r1,q1⟩=>?_) hs rfl));obtain ⟨j,e,q1,q2,q⟩:=q1;subst e
 cases r1 with
 | cons r rr=>
  cases rr
  obtain ⟨t,rfl⟩:=r;exact call_range_1 (yJ I1 (by lia) (by lia) q1 q2 (by simpa using q))
theorem aiZ{a b:Expr}{ta:TA}{p pos:Pos}(hg:Gl X "range")(hm:X.mg "range"=none)(ha:PA X [a,b] ta)(hs:starEach [a,b] X.env=[(false,eval a X.env),(false,eval b X.env)]:=by rfl)(aD:starEach [b] X.env=[(false,eval b X.env)]:=by rfl) :
  PI X tg (.Call (.Name "range" p) [a,b] [] pos) (iRng2 ta):=by
 intro pins s Y H R I h;refine Call_ (aY I hg hm boot_range (PyProof.Rows.callWith_type1 (A7 (ha pos pins s Y H _ I h) fun us s1 ⟨vs,H1,I1,r1,q1⟩=>?_) (by rw [hs,aD]) (by rw [aD];rfl)));obtain ⟨i,j,e,⟨q1,q2,q3,q4⟩,q⟩:=q1;subst e
 cases r1 with
 | cons r rr=>
  cases rr with
  | cons r' rr=>
   cases rr
   obtain ⟨t,rfl⟩:=r;obtain ⟨t',rfl⟩:=r';exact call_range_2 (yJ I1 q1 q2 q3 q4 q)
noncomputable def tFor (wi:TI) (g:TG) (tb:TS):TS:=fun D Y H=>wi Y H fun J H1=>∃ W:Nat->Nat->St->Hp->Prop,(∃ m,W 0 m Y H1)/\∀ i m Y H,W i m Y H->
 (J.stop i H/\D.nx Y H)\/(J.go i H/\∃ N:St->Hp->Prop,(∀ σ' H',N σ' H'->∃ m',m'<m/\W (i+1) m' σ' H')/\∀ x H',J.yld i H x H'->g x Y H' fun σ2 H2=>tb { D with nx:=N,ct:=N,bk:=D.nx } σ2 H2)
noncomputable def fP (fp:List Addr) (h:Heap):List (Addr×Obj):=fp.filterMap fun b=>(h.get? b).map fun o=>(b,o)
theorem fQ{fp:List Addr}{h:Heap}{b:Addr}{o:Obj}(hb:b∈fp)(e:h.get? b=some o):(b,o)∈fP fp h:=iX.mpr ⟨b,hb,by rw [e];rfl⟩
theorem ai0{fp:List Addr}{h:Heap}{p:Addr×Obj}(hp:p∈fP fp h):p.1∈fp/\h.get? p.1=some p.2:=by
 obtain ⟨b,hb,e⟩:=iX.mp hp
 cases q:h.get? b with
 | none=>rw [q] at e;cases e
 | some o=>
  rw [q] at e;have e':(b,o)=p:=Option.some.inj e;subst e';exact ⟨hb,q⟩
theorem Inv.pinned{pins:List (Addr×Obj)}{Y:St}{H:Hp}{s:Shared}{fp:List Addr}(I:Inv X pins Y H s)(hf:∀ b∈fp,FpOk X pins H b)(ho:∀ b∈fp,∃ o,s.heap.get? b=some o/\∀ v,o.data≠.cell v):Inv X (pins++fP fp s.heap) Y H s:=
 I.pins_of fun p hp=>(M4.mp hp).elim (fun z=>I.pin p (R5 _ z)) fun z=>by
  obtain ⟨hb,e⟩:=ai0 z;obtain ⟨f0,f1,f2,_⟩:=hf p.1 hb;obtain ⟨o,e',d⟩:=ho p.1 hb;rw [e] at e';cases e';exact ⟨e,f0,f1,f2,d⟩
theorem Inv.unpinned{pins pl:List (Addr×Obj)}{Y:St}{H:Hp}{s:Shared}(I:Inv X (pins++pl) Y H s):Inv X pins Y H s:=I.pins_of fun p hp=>I.pin p (R5 _ (V4 _ hp))
theorem aoL{iter:Expr}{body:List Stmt}{wi:TI}{g:TG}{tb:TS}{pos:Pos}(hp:PassesOwn (model X.prog X.w) X.A X.env X.xe)(hc:X.calm=true)(hi:PI X tg iter wi)(hg:PG X tg g)(hb:U4 X body tb)(hs:∀ x,foldedSetIterable iter X.env x=pure x:=by intro _;rfl):PS X (.For tg iter body [] pos) (tFor wi g tb):=by
 intro pins s Y H D I h;refine wpAny_For (A7 (hi pins s Y H _ I h) fun v s1 h1=>A7 h1 fun itv s2 h2=>?_) hs;obtain ⟨it,fp,tn,J,H2,e,I2,T,lC,f2,W,⟨m0,w0⟩,turn⟩:=h2;subst e;have stat:∀ {H':Hp},(∀ b∈fp,H' b=none)->∀ b∈fp,FpOk X pins H' b:=fun hn b hb=>⟨hn b hb,(f2 b hb).2⟩
 refine codeAny_forLoop_any (fun n s'=>∃ i σ' H',Inv X pins σ' H' s'/\tn i s'.heap/\(∀ b∈fp,H' b=none)/\W i n σ' H') ?_ m0 ⟨0,Y,H2,I2,lC,fun b hb=>(f2 b hb).1,w0⟩;rintro n s3 ⟨i,σ3,H3,I3,bV,lD,w3⟩
 rcases turn i n σ3 H3 w3 with ⟨stop,qn⟩ | ⟨go,N,hN,step⟩
 .refine wpAny_passesOwn hp (A7 (T.done X rfl rfl rfl hc i pins s3 σ3 H3 X.xe I3 (stat lD) bV stop) fun r s4 ⟨hr,I4⟩=>?_);subst hr;exact wpAny_execs_nil ⟨σ3,H3,I4,qn⟩
 .refine wpAny_passesOwn hp (A7 (T.item X rfl rfl rfl hc i pins s3 σ3 H3 X.xe I3 (stat lD) bV go) fun r s4 ⟨u,hr,h4⟩=>?_);subst hr;refine wpAny_passesOwn hp (A7 h4 fun _ s5 ⟨x,H5,I5,r5,y5,eD,wD⟩=>?_);have I5':=I5.pinned (stat wD) (T.obj _ _ eD);refine wpAny_passesOwn hp (A7 (hg _ s5 σ3 H5 x u _ I5' r5 (step x H5 y5)) fun _ s6 ⟨σ6,H6,I6,q6⟩=>?_);refine wpAny_passesOwn hp (A7 (hb _ s6 σ6 H6 _ I6 q6) fun f s7 q7=>?_);have again:∀ {σ7:St} {H7:Hp},Inv X (pins++fP fp s5.heap) σ7 H7 s7->N σ7 H7->∃ m,m<n/\∃ i σ' H',Inv X pins σ' H' s7/\tn i s7.heap/\(∀ b∈fp,H' b=none)/\W i m σ' H':=fun {σ7 H7} I7 n7=>by
   obtain ⟨m',hm,w7⟩:=hN σ7 H7 n7;refine ⟨m',hm,i+1,σ7,H7,I7.unpinned,T.keep _ _ _ eD fun b hb o e=>(I7.pin (b,o) (R5 _ (R5 _ (fQ hb e)))).1,fun b hb=>?_,w7⟩;obtain ⟨o,e,d⟩:=T.obj _ _ eD b hb;exact (I7.pin (b,o) (R5 _ (R5 _ (fQ hb e)))).2.1
  cases f with
  | next=>obtain ⟨σ7,H7,I7,n7⟩:=q7;exact again I7 n7
  | cont=>obtain ⟨σ7,H7,I7,n7⟩:=q7;exact again I7 n7
  | brk=>obtain ⟨σ7,H7,I7,q7⟩:=q7;exact ⟨σ7,H7,I7.unpinned,q7⟩
  | ret v=>obtain ⟨x7,σ7,H7,I7,r7,q7⟩:=q7;exact ⟨x7,σ7,H7,I7.unpinned,r7,q7⟩
end
theorem akN{K:PySem.W.Frag}{a:Addr}{xs:List V}{g:TG}{tb:TS}{D:Ends}{Y:St}{H:Hp}(Pv:Nat->St->Hp->Prop)(h0:Pv 0 Y H)(hl:∀ i Y H,i<=xs.length->Pv i Y H->C7 K H a xs)(hs:∀ i x Y H,xs[i]?=some x->Pv i Y H->g x Y H fun σ2 H2=>tb { D with nx:=Pv (i+1),ct:=Pv (i+1),bk:=D.nx } σ2 H2)(hd:∀ Y H,Pv xs.length Y H->D.nx Y H) :
  ∃ W:Nat->Nat->St->Hp->Prop,(∃ m,W 0 m Y H)/\∀ i m Y H,W i m Y H->
   ((p7 K a).stop i H/\D.nx Y H)\/((p7 K a).go i H/\∃ N:St->Hp->Prop,(∀ σ' H',N σ' H'->∃ m',m'<m/\W (i+1) m' σ' H')/\∀ x H',(p7 K a).yld i H x H'->g x Y H' fun σ2 H2=>tb { D with nx:=N,ct:=N,bk:=D.nx } σ2 H2):=by
 refine ⟨fun i m Y H=>m=xs.length-i/\i<=xs.length/\Pv i Y H,⟨xs.length,by simp,G2 _,h0⟩,?_⟩;rintro i m Y H ⟨rfl,hi,p⟩;have q:=hl i Y H hi p
 by_cases C3:i<xs.length
 .refine .inr ⟨⟨xs,xs[i],q,by simp [C3]⟩,Pv (i+1),fun σ' H' p'=>⟨xs.length-(i+1),by lia,rfl,C3,p'⟩,fun x H' y=>?_⟩;obtain ⟨e,y⟩:=y;subst e;exact hs i x Y _ (y xs q) p
 .have e:i=xs.length:=by lia
  subst e;exact .inl ⟨⟨xs,q,B3 _⟩,hd Y H p⟩
theorem amL{K:PySem.W.Frag}{a:Addr}{xs:List V}{g:TG}{tb:TS}{D:Ends}{Y:St}{H:Hp}(Pv:Nat->St->Hp->Prop)(h0:Pv 0 Y H)(hl:∀ i Y H,i<=xs.length->Pv i Y H->C4 K H a xs)(hs:∀ i x Y H,xs[i]?=some x->Pv i Y H->g x Y H fun σ2 H2=>tb { D with nx:=Pv (i+1),ct:=Pv (i+1),bk:=D.nx } σ2 H2)(hd:∀ Y H,Pv xs.length Y H->D.nx Y H) :
  ∃ W:Nat->Nat->St->Hp->Prop,(∃ m,W 0 m Y H)/\∀ i m Y H,W i m Y H->
   ((aZ K a).stop i H/\D.nx Y H)\/((aZ K a).go i H/\∃ N:St->Hp->Prop,(∀ σ' H',N σ' H'->∃ m',m'<m/\W (i+1) m' σ' H')/\∀ x H',(aZ K a).yld i H x H'->g x Y H' fun σ2 H2=>tb { D with nx:=N,ct:=N,bk:=D.nx } σ2 H2):=by
 refine ⟨fun i m Y H=>m=xs.length-i/\i<=xs.length/\Pv i Y H,⟨xs.length,by simp,G2 _,h0⟩,?_⟩;rintro i m Y H ⟨rfl,hi,p⟩;have q:=hl i Y H hi p
 by_cases C3:i<xs.length
 .refine .inr ⟨⟨xs,xs[i],q,by simp [C3]⟩,Pv (i+1),fun σ' H' p'=>⟨xs.length-(i+1),by lia,rfl,C3,p'⟩,fun x H' y=>?_⟩;obtain ⟨e,y⟩:=y;subst e;exact hs i x Y _ (y xs q) p
 .have e:i=xs.length:=by lia
  subst e;exact .inl ⟨⟨xs,q,B3 _⟩,hd Y H p⟩
theorem ai1{lo:Int}{n:Nat}{g:TG}{tb:TS}{D:Ends}{Y:St}{H:Hp}(Pv:Nat->St->Hp->Prop)(h0:Pv 0 Y H)(hs:∀ i Y H,i<n->Pv i Y H->g (.int (lo+i)) Y H fun σ2 H2=>tb { D with nx:=Pv (i+1),ct:=Pv (i+1),bk:=D.nx } σ2 H2)(hd:∀ Y H,Pv n Y H->D.nx Y H) :
  ∃ W:Nat->Nat->St->Hp->Prop,(∃ m,W 0 m Y H)/\∀ i m Y H,W i m Y H->
   ((g9 lo n).stop i H/\D.nx Y H)\/((g9 lo n).go i H/\∃ N:St->Hp->Prop,(∀ σ' H',N σ' H'->∃ m',m'<m/\W (i+1) m' σ' H')/\∀ x H',(g9 lo n).yld i H x H'->g x Y H' fun σ2 H2=>tb { D with nx:=N,ct:=N,bk:=D.nx } σ2 H2):=by
 refine ⟨fun i m Y H=>m=n-i/\i<=n/\Pv i Y H,⟨n,by simp,G2 _,h0⟩,?_⟩;rintro i m Y H ⟨rfl,hi,p⟩
 by_cases C3:i<n
 .refine .inr ⟨C3,Pv (i+1),fun σ' H' p'=>⟨n-(i+1),by lia,rfl,C3,p'⟩,fun x H' y=>?_⟩;obtain ⟨e,y⟩:=y;subst e y;exact hs i Y _ C3 p
 .have e:i=n:=by lia
  subst e;exact .inl ⟨B3 _,hd Y H p⟩
end L2
namespace L2
open PySem PySem.Spec PyProof.Rows
noncomputable abbrev R2:=V->V->Hp->VK->Prop
noncomputable def G4 (X:Cx) (f:Value->Value->Sem Value) (r:R2):Prop:=
 ∀ (pins:List (Addr×Obj)) (s:Shared) (Y:St) (H:Hp) (x y:V) (v u:Value) (Q:VK),Inv X pins Y H s->RelV x v->RelV y u->r x y H Q->
  wpAny (model X.prog X.w) X.A (f v u) (EP X pins Y Q) X.xe s
noncomputable def nE (X:Cx) (f:Value->Sem Value) (r:V->Hp->VK->Prop):Prop:=
 ∀ (pins:List (Addr×Obj)) (s:Shared) (Y:St) (H:Hp) (x:V) (v:Value) (Q:VK),Inv X pins Y H s->RelV x v->r x H Q->
  wpAny (model X.prog X.w) X.A (f v) (EP X pins Y Q) X.xe s
noncomputable def CallR (X:Cx) (f:Value) (r:List V->Hp->VK->Prop):Prop:=
 ∀ (pins:List (Addr×Obj)) (s:Shared) (Y:St) (H:Hp) (xs:List V) (us:List Value) (Q:VK),Inv X pins Y H s->Vals xs us->r xs H Q->
  wpAny (model X.prog X.w) X.A (call f us) (EP X pins Y Q) X.xe s
noncomputable def TruR (X:Cx) (r:V->Hp->(Bool->Hp->Prop)->Prop):Prop:=
 ∀ (pins:List (Addr×Obj)) (s:Shared) (Y:St) (H:Hp) (x:V) (v:Value) (Q:Bool->Hp->Prop),Inv X pins Y H s->RelV x v->r x H Q->
  wpAny (model X.prog X.w) X.A (truthy v) (TP X pins Y Q) X.xe s
noncomputable def x4 (r:R2) (ta tb:TE):TE:=fun Y H Q=>ta Y H fun x H1=>tb Y H1 fun y H2=>r x y H2 Q
noncomputable def rL (r:V->Hp->VK->Prop) (ta:TE):TE:=fun Y H Q=>ta Y H fun x H1=>r x H1 Q
noncomputable def rI (C:Int->Int->Prop) (g:Int->Int->V):R2:=fun x y H Q=>∃ i j,x=.int i/\y=.int j/\C i j/\Q (g i j) H
noncomputable def p8 (g:Int->Int->V):R2:=fun x y H Q=>∃ i j,x=.int i/\y=.int j/\Q (g i j) H
noncomputable def rU (g:Int->V):V->Hp->VK->Prop:=fun x H Q=>∃ i,x=.int i/\Q (g i) H
section
variable {X:Cx} {a b c:Expr} {ta tb tc:TE} {pos:Pos}
theorem binT(ha:PE X a ta)(hb:PE X b tb){pins:List (Addr×Obj)}{s:Shared}{Y:St}{H:Hp}{R:V->V->Hp->Prop}(I:Inv X pins Y H s)(h:ta Y H fun x H1=>tb Y H1 fun y H2=>R x y H2){Q:Value->Shared->Prop}{f:Value->Value->Sem Value}(hf:∀ v u s2 x y H2,Inv X pins Y H2 s2->RelV x v->RelV y u->R x y H2->wpAny (model X.prog X.w) X.A (f v u) Q X.xe s2) :
  wpAny (model X.prog X.w) X.A (eval a X.env) (fun v zu=>wpAny (model X.prog X.w) X.A (eval b X.env) (fun u zx=>wpAny (model X.prog X.w) X.A (f v u) Q X.xe zx) X.xe zu) X.xe s:=by
 refine A7 (ha pins s Y H _ I h) fun v s1 ⟨x,H1,I1,r1,q1⟩=>?_
 refine A7 (hb pins s1 Y H1 _ I1 q1) fun u s2 ⟨y,H2,I2,r2,q2⟩=>?_
 exact hf v u s2 x y H2 I2 r1 r2 q2
theorem pe_op{op:Operator}{r:R2}(ho:G4 X (binaryOp op) r)(ha:PE X a ta)(hb:PE X b tb):PE X (.BinOp a op b pos) (x4 r ta tb):=by
 intro pins s Y H Q I h;exact wpAny_BinOp (binT ha hb I h fun v u s2 x y H2 I2 rx ry q=>ho pins s2 Y H2 x y v u Q I2 rx ry q)
theorem pe_un{op:UnaryOp}{r:V->Hp->VK->Prop}(ho:nE X (unaryOp op) r)(ha:PE X a ta):PE X (.UnaryOp op a pos) (rL r ta):=by
 intro pins s Y H Q I h;exact UnaryOp_ (A7 (ha pins s Y H _ I h) fun v s1 ⟨x,H1,I1,r1,q1⟩=>ho pins s1 Y H1 x v Q I1 r1 q1)
theorem rM{f:Value->Value->Sem Value}{C:Int->Int->Prop}{g:Int->Int->Int}(rule:∀ (i j:Int) (t u:Tok) (s:Shared) (Q:Value->Shared->Prop) (E:Value->Shared->Prop),C i j->Q (.int (g i j) s.toks) { s with toks:=s.toks+1 }->wpAny (model X.prog X.w) X.A (f (.int i t) (.int j u)) Q E s) :
  G4 X f (rI C fun i j=>.int (g i j)):=by
 intro pins s Y H x y v u Q I rx ry h;obtain ⟨i,j,rfl,rfl,hc,q⟩:=h;obtain ⟨t,rfl⟩:=rx;obtain ⟨t',rfl⟩:=ry;exact rule i j t t' s _ _ hc ⟨.int (g i j),H,I.tok _,⟨_,rfl⟩,q⟩
theorem opI0{f:Value->Value->Sem Value}{g:Int->Int->Int}(rule:∀ (i j:Int) (t u:Tok) (s:Shared) (Q:Value->Shared->Prop) (E:Value->Shared->Prop),Q (.int (g i j) s.toks) { s with toks:=s.toks+1 }->wpAny (model X.prog X.w) X.A (f (.int i t) (.int j u)) Q E s) :
  G4 X f (p8 fun i j=>.int (g i j)):=by
 intro pins s Y H x y v u Q I rx ry h;obtain ⟨i,j,rfl,rfl,q⟩:=h;obtain ⟨t,rfl⟩:=rx;obtain ⟨t',rfl⟩:=ry;exact rule i j t t' s _ _ ⟨.int (g i j),H,I.tok _,⟨_,rfl⟩,q⟩
theorem opB0{f:Value->Value->Sem Value}{g:Int->Int->Bool}(rule:∀ (i j:Int) (t u:Tok) (s:Shared) (Q:Value->Shared->Prop) (E:Value->Shared->Prop),Q (.bool (g i j)) s->wpAny (model X.prog X.w) X.A (f (.int i t) (.int j u)) Q E s) :
  G4 X f (p8 fun i j=>.bl (g i j)):=by
 intro pins s Y H x y v u Q I rx ry h;obtain ⟨i,j,rfl,rfl,q⟩:=h;obtain ⟨t,rfl⟩:=rx;obtain ⟨t',rfl⟩:=ry;exact rule i j t t' s _ _ ⟨.bl (g i j),H,I,rfl,q⟩
noncomputable def CDiv (i j:Int):Prop:=0<j/\j<1073741824
noncomputable def CMul (i j:Int):Prop:=(-(2 ^ 64)<i/\i<2 ^ 64)\/(-(2 ^ 64)<j/\j<2 ^ 64)
theorem CMul.ok{i j:Int}(h:CMul i j):IntMulOk i j:=by
 rcases h with ⟨h1,h2⟩ | ⟨h1,h2⟩
 .exact .of_left (intBits_le_64 h1 h2)
 .exact .of_right (intBits_le_64 h1 h2)
theorem aoM:G4 X (binaryOp .Add) (p8 fun i j=>.int (i+j)):=opI0 fun _ _ _ _ _ _ _ q=>add_int q
theorem aoN:G4 X (binaryOp .Sub) (p8 fun i j=>.int (i-j)):=opI0 fun _ _ _ _ _ _ _ q=>sub_int q
theorem aoO:G4 X (binaryOp .Mult) (rI CMul fun i j=>.int (i*j)):=rM fun _ _ _ _ _ _ _ hc q=>mul_int q hc.ok
theorem amM:G4 X (binaryOp .FloorDiv) (rI CDiv fun i j=>.int (i / j)):=rM fun i j _ _ _ _ _ hc q=>by
 have h1:(0:Int)<j:=hc.1;have h2:j<1073741824:=hc.2;exact floordiv_int (by lia) (by rw [Int.fdiv_eq_ediv_of_nonneg i (by lia)];exact q) (.inl (PyProof.noPylong_small (by lia)))
theorem aoP:G4 X (binaryOp .Mod) (rI (fun _ j=>0<j) fun i j=>.int (i % j)):=rM fun i j _ _ _ _ _ hc q=>by
 have h1:(0:Int)<j:=hc;exact mod_int' (by lia) (by rw [Int.fmod_eq_emod_of_nonneg i (by lia)];exact q)
theorem unI{f:Value->Sem Value}{g:Int->Int}(rule:∀ (i:Int) (t:Tok) (s:Shared) (Q:Value->Shared->Prop) (E:Value->Shared->Prop),Q (.int (g i) s.toks) { s with toks:=s.toks+1 }->wpAny (model X.prog X.w) X.A (f (.int i t)) Q E s) :
  nE X f (rU fun i=>.int (g i)):=by
 intro pins s Y H x v Q I rx h;obtain ⟨i,rfl,q⟩:=h;obtain ⟨t,rfl⟩:=rx;exact rule i t s _ _ ⟨.int (g i),H,I.tok _,⟨_,rfl⟩,q⟩
theorem aoQ:nE X (unaryOp .USub) (rU fun i=>.int (-i)):=unI fun _ _ _ _ _ q=>neg_int q
end
noncomputable def scal:V->V->Bool
 | .non,.non=>true | .non,.int _=>true | .int _,.non=>true | .non,.bl _=>true | .bl _,.non=>true | .non,.str _=>true | .str _,.non=>true
 | .int _,.int _=>true | .bl _,.bl _=>true | .str _,.str _=>true | .byt _,.byt _=>true
 | .int _,.str _=>true | .str _,.int _=>true | .bl _,.str _=>true | .str _,.bl _=>true
 | _,_=>false
noncomputable def yK:R2:=fun x y H Q=>scal x y=true/\Q (.bl (decide (x=y))) H
noncomputable def yL:R2:=fun x y H Q=>scal x y=true/\Q (.bl (!decide (x=y))) H
theorem yM{i j:Int} : decide (V.int i=V.int j)=(i==j):=by
 rw [cR]
 simp
theorem yN{i j:Bool} : decide (V.bl i=V.bl j)=(i==j):=by
 rw [cR]
 simp
theorem yO{i j:Str} : decide (V.str i=V.str j)=(i==j):=by
 rw [cR]
 simp
theorem yP{i j:Array UInt8} : decide (V.byt i=V.byt j)=(i.toList==j.toList):=by
 rw [cR]
 cases i
 cases j
 simp
section
variable {X:Cx} {a b c:Expr} {ta tb tc:TE} {pos:Pos}
theorem K8{pins:List (Addr×Obj)}{Y:St}{H:Hp}{s:Shared}{Q:VK}{k k':Bool}(I:Inv X pins Y H s)(q:Q (.bl k) H)(e:k=k'):EP X pins Y Q (.bool k') s:=by
 subst e;exact ⟨.bl k,H,I,rfl,q⟩
theorem op_eq:G4 X (compareOp .Eq) yK:=by
 intro pins s Y H x y v u Q I rx ry h;obtain ⟨hs,q⟩:=h
 cases x with
 | non=>
  cases rx
  cases y with
  | non=>cases ry;exact PySem.EqNone.eq_none_none (K8 I q (by simp))
  | bl j=>cases ry;exact PySem.EqNone.eq_none_bool (K8 I q (by simp))
  | int j=>obtain ⟨t',rfl⟩:=ry;exact PySem.EqNone.eq_none_int (K8 I q (by simp))
  | str j=>obtain ⟨t',rfl⟩:=ry;exact PySem.EqNone.eq_none_str (K8 I q (by simp))
  | _=>exact absurd (show false=true from hs) K5
 | bl i=>
  cases rx
  cases y with
  | non=>cases ry;exact PySem.EqNone.eq_bool_none (K8 I q (by simp))
  | bl j=>cases ry;exact eq_bool (K8 I q yN)
  | str j=>obtain ⟨t',rfl⟩:=ry;exact PySem.EqMixed.eq_bool_str (K8 I q (by simp))
  | _=>exact absurd (show false=true from hs) K5
 | int i=>
  obtain ⟨t,rfl⟩:=rx
  cases y with
  | non=>cases ry;exact PySem.EqNone.eq_int_none (K8 I q (by simp))
  | int j=>obtain ⟨t',rfl⟩:=ry;exact eq_int (K8 I q yM)
  | str j=>obtain ⟨t',rfl⟩:=ry;exact PySem.EqMixed.eq_int_str (K8 I q (by simp))
  | _=>exact absurd (show false=true from hs) K5
 | str i=>
  obtain ⟨t,rfl⟩:=rx
  cases y with
  | non=>cases ry;exact PySem.EqNone.eq_str_none (K8 I q (by simp))
  | bl j=>cases ry;exact PySem.EqMixed.eq_str_bool (K8 I q (by simp))
  | int j=>obtain ⟨t',rfl⟩:=ry;exact PySem.EqMixed.eq_str_int (K8 I q (by simp))
  | str j=>obtain ⟨t',rfl⟩:=ry;exact eq_str (K8 I q yO)
  | _=>exact absurd (show false=true from hs) K5
 | byt i=>
  obtain ⟨t,rfl⟩:=rx
  cases y with
  | byt j=>obtain ⟨t',rfl⟩:=ry;exact PySem.W.eq_bytes (K8 I q yP)
  | _=>exact absurd (show false=true from hs) K5
 | _=>cases y <;> exact absurd (show false=true from hs) K5
theorem op_ne:G4 X (compareOp .NotEq) yL:=by
 intro pins s Y H x y v u Q I rx ry h;obtain ⟨hs,q⟩:=h
 cases x with
 | non=>
  cases rx
  cases y with
  | non=>cases ry;exact PySem.EqNone.ne_none_none (K8 I q (by simp))
  | bl j=>cases ry;exact PySem.EqNone.ne_none_bool (K8 I q (by simp))
  | int j=>obtain ⟨t',rfl⟩:=ry;exact PySem.EqNone.ne_none_int (K8 I q (by simp))
  | str j=>obtain ⟨t',rfl⟩:=ry;exact PySem.EqNone.ne_none_str (K8 I q (by simp))
  | _=>exact absurd (show false=true from hs) K5
 | bl i=>
  cases rx
  cases y with
  | non=>cases ry;exact PySem.EqNone.ne_bool_none (K8 I q (by simp))
  | bl j=>cases ry;exact ne_bool (K8 I q (congrArg not yN))
  | str j=>obtain ⟨t',rfl⟩:=ry;exact PySem.EqMixed.ne_bool_str (K8 I q (by simp))
  | _=>exact absurd (show false=true from hs) K5
 | int i=>
  obtain ⟨t,rfl⟩:=rx
  cases y with
  | non=>cases ry;exact PySem.EqNone.ne_int_none (K8 I q (by simp))
  | int j=>obtain ⟨t',rfl⟩:=ry;exact ne_int (K8 I q (congrArg not yM))
  | str j=>obtain ⟨t',rfl⟩:=ry;exact PySem.EqMixed.ne_int_str (K8 I q (by simp))
  | _=>exact absurd (show false=true from hs) K5
 | str i=>
  obtain ⟨t,rfl⟩:=rx
  cases y with
  | non=>cases ry;exact PySem.EqNone.ne_str_none (K8 I q (by simp))
  | bl j=>cases ry;exact PySem.EqMixed.ne_str_bool (K8 I q (by simp))
  | int j=>obtain ⟨t',rfl⟩:=ry;exact PySem.EqMixed.ne_str_int (K8 I q (by simp))
  | str j=>obtain ⟨t',rfl⟩:=ry;exact ne_str (K8 I q (congrArg not yO))
  | _=>exact absurd (show false=true from hs) K5
 | byt i=>
  obtain ⟨t,rfl⟩:=rx
  cases y with
  | byt j=>obtain ⟨t',rfl⟩:=ry;exact PySem.W.ne_bytes (K8 I q (congrArg not yP))
  | _=>exact absurd (show false=true from hs) K5
 | _=>cases y <;> exact absurd (show false=true from hs) K5
theorem op_lt:G4 X (compareOp .Lt) (p8 fun i j=>.bl (decide (i<j))):=opB0 fun _ _ _ _ _ _ _ q=>lt_int q
theorem op_le:G4 X (compareOp .LtE) (p8 fun i j=>.bl (decide (i<=j))):=opB0 fun _ _ _ _ _ _ _ q=>le_int q
theorem op_gt:G4 X (compareOp .Gt) (p8 fun i j=>.bl (decide (j<i))):=opB0 fun _ _ _ _ _ _ _ q=>gt_int q
theorem yQ:G4 X (compareOp .Lt) (fun x y H Q=>∃ i j,x=.str i/\y=.str j/\Q (.bl (decide (i.cps.toList<j.cps.toList))) H):=by
 intro pins s Y H x y v u Q I rx ry h;obtain ⟨i,j,rfl,rfl,q⟩:=h;obtain ⟨t,rfl⟩:=rx;obtain ⟨t',rfl⟩:=ry;exact lt_str (K8 I q rfl)
theorem ai5:G4 X (compareOp .In) (fun x y H Q=>∃ i j,x=.str i/\y=.str j/\Q (.bl (!(Builtin.Str.occurrences j i 0 j.length 1).isEmpty)) H):=by
 intro pins s Y H x y v u Q I rx ry h;obtain ⟨i,j,rfl,rfl,q⟩:=h;obtain ⟨t,rfl⟩:=rx;obtain ⟨t',rfl⟩:=ry;exact in_str (K8 I q rfl)
theorem aoR:G4 X (compareOp .Is) (fun x y H Q=>y=.non/\Q (.bl (decide (x=.non))) H):=by
 intro pins s Y H x y v u Q I rx ry h;obtain ⟨rfl,q⟩:=h
 cases ry
 refine is_none_gen (K8 I q ?_)
 cases x <;> first
  | (cases rx;rfl)
  | (obtain ⟨t,rfl⟩:=rx;rfl)
theorem yR(b:Expr){op:CmpOp}(h:op≠.In:=by decide)(h2:op≠.NotIn:=by decide):behindInMarks op b=false:=by
 have e1:(op==CmpOp.In)=false:=by cases op <;> first | rfl | exact absurd rfl h
 have e2:(op==CmpOp.NotIn)=false:=by cases op <;> first | rfl | exact absurd rfl h2
 cases b <;> simp [behindInMarks,e1,e2]
theorem amN{op:CmpOp}{r:R2}(ho:G4 X (compareOp op) r)(ha:PE X a ta)(hb:PE X b tb)(hm:behindInMarks op b=false):PE X (.Compare a [op] [b] pos) (x4 r ta tb):=by
 intro pins s Y H Q I h;exact wpAny_Compare1 (binT ha hb I h fun v u s2 x y H2 I2 rx ry q=>ho pins s2 Y H2 x y v u Q I2 rx ry q) hm
noncomputable def tTest (t:TE):TT:=fun Y H Q=>t Y H fun x H'=>∃ k,x=.bl k/\Q k H'
theorem amO{op:CmpOp}{r:R2}(ho:G4 X (compareOp op) r)(ha:PE X a ta)(hb:PE X b tb)(hm:behindInMarks op b=false):PT X (.Compare a [op] [b] pos) (tTest (x4 r ta tb)):=by
 intro pins s Y H Q I h;refine wpAny_isTrue_Compare1 (A7 (ha pins s Y H _ I h) fun v s1 ⟨x,H1,I1,r1,q1⟩=>A7 (hb pins s1 Y H1 _ I1 q1) fun u s2 ⟨y,H2,I2,r2,q2⟩=>
  A7 (ho pins s2 Y H2 x y v u _ I2 r1 r2 q2) fun c s3 ⟨z,H3,I3,r3,k,e,q3⟩=>?_) hm
 subst e
 cases r3
 exact wpAny_truthy_bool ⟨H3,I3,q3⟩
noncomputable def rN (r r':R2) (ta tb tc:TE):TE:=fun Y H Q=>ta Y H fun x H1=>tb Y H1 fun y H2=>r x y H2 fun z H3=>∃ k,z=.bl k/\
 (if k=true then tc Y H3 fun w' H4=>r' y w' H4 Q else Q (.bl false) H3)
theorem akO{op op':CmpOp}{r r':R2}(ho:G4 X (compareOp op) r)(m9:G4 X (compareOp op') r')(ha:PE X a ta)(hb:PE X b tb)(hc:PE X c tc)(hm:lastMarks [op,op'] [b,c]=false:=by with_unfolding_all rfl):PE X (.Compare a [op,op'] [b,c] pos) (rN r r' ta tb tc):=by
 intro pins s Y H Q I h;refine Compare_chain (A7 (ha pins s Y H _ I h) fun v s1 ⟨x,H1,I1,r1,q1⟩=>chain_link (A7 (hb pins s1 Y H1 _ I1 q1) fun u s2 ⟨y,H2,I2,r2,q2⟩=>
  A7 (ho pins s2 Y H2 x y v u _ I2 r1 r2 q2) fun d s3 ⟨z,H3,I3,r3,k,e,q3⟩=>?_)) hm
 subst e
 cases r3
 refine wpAny_truthy_bool ?_
 cases k with
 | false=>exact ite_ff ⟨.bl false,H3,I3,rfl,q3⟩
 | true=>exact ite_tt (chain_last (A7 (hc pins s3 Y H3 _ I3 q3) fun w' s4 ⟨z',H4,I4,r4,q4⟩=>m9 pins s4 Y H4 y z' u w' Q I4 r2 r4 q4))
noncomputable def TruV (K:PySem.W.Frag) (x:V) (H:Hp) (k:Bool):Prop:=
 match x with
 | .non=>k=false
 | .bl b=>k=b
 | .int i=>k=(i != 0)
 | .str y=>y.length<=sizeLine/\k=((y.length:Int) != 0)
 | .byt y=>y.size<=sizeLine/\k=((y.size:Int) != 0)
 | .ref p=>(∃ xs,C7 K H p xs/\k=!xs.isEmpty)\/(∃ xs,C4 K H p xs/\k=!xs.isEmpty)\/∃ kvs,H p=some (.dK kvs)/\k=!kvs.isEmpty
 | _=>False
theorem aif{κ:Type}{kvs:List (κ×V)}{vs:List (κ×Value)}(r:KV kvs vs):(!vs.isEmpty)=!kvs.isEmpty:=by
 cases r <;> rfl
theorem yS{xs:List V}{its:List Value}(r:Vals xs its):(!its.toArray.isEmpty)=!xs.isEmpty:=by
 cases r <;> simp
theorem jJ:(sizeLine:Nat)<2 ^ 63:=by rw [sizeLine_eq];decide
theorem yT:TruR X (fun x H Q=>∃ k,TruV X.K x H k/\Q k H):=by
 intro pins s Y H x v Q I rx h;obtain ⟨k,e,q⟩:=h;have hl:=jJ;have hs:sizeLine=16777216:=sizeLine_eq
 cases x with
 | non=>
  cases rx
  have e':k=false:=e;subst e';exact truthy_none ⟨H,I,q⟩
 | bl b=>
  cases rx
  have e':k=b:=e;subst e';exact wpAny_truthy_bool ⟨H,I,q⟩
 | int i=>
  obtain ⟨t,rfl⟩:=rx;have e':k=(i != 0):=e;subst e';exact PySem.P.truthy_int ⟨H,I,q⟩
 | str y=>
  obtain ⟨t,rfl⟩:=rx;obtain ⟨hy,e'⟩:y.length<=sizeLine/\k=((y.length:Int) != 0):=e;subst e';exact PySem.P.truthy_str (by lia) ⟨H,I.tok _,q⟩
 | byt y=>
  obtain ⟨t,rfl⟩:=rx;obtain ⟨hy,e'⟩:y.size<=sizeLine/\k=((y.size:Int) != 0):=e;subst e';exact PySem.W.truthy_bytes (by lia) ⟨H,I.tok _,q⟩
 | ref p=>
  cases rx
  have e':(∃ xs,C7 X.K H p xs/\k=!xs.isEmpty)\/(∃ xs,C4 X.K H p xs/\k=!xs.isEmpty)\/∃ kvs,H p=some (.dK kvs)/\k=!kvs.isEmpty:=e
  rcases e' with ⟨xs,hx,e'⟩ | ⟨xs,hx,e'⟩ | ⟨kvs,hx,e'⟩
  .subst e';obtain ⟨its,r,pl,hz⟩:=I.list hx;have A6:=r.length;exact wpAny_truthy_list pl.isList (by simp only [K3];lia) ⟨H,I.tok _,by rw [yS r];exact q⟩
  .subst e';obtain ⟨its,r,pl,hz⟩:=I.tuple hx;have A6:=r.length;exact truthy_tuple pl (by simp only [K3];lia) ⟨H,I.tok _,by rw [yS r];exact q⟩
  .subst e';obtain ⟨hz,hS,vs,r,m⟩:kvs.length<=sizeLine/\(p==sysModules)=false/\∃ vs,KV kvs vs/\s.heap.DictOf (N9 X.prog X.w) p vs:=I.hok p _ hx;have A6:kvs.length=vs.length:=Paired.length r;exact wpAny_truthy_dict hS m (by lia) ⟨H,I.tok _,by rw [aif r];exact q⟩
 | _=>exact (show False from e).elim
theorem akP(ha:PE X a ta)(he:∀ whole,isTrue a X.env whole=(do let v <- whole;standAt a.pos;holding [v] (truthy v))) :
  PT X a (fun Y H Q=>ta Y H fun x H'=>∃ k,TruV X.K x H' k/\Q k H'):=by
 intro pins s Y H Q I h;exact isTrue_plain (A7 (ha pins s Y H _ I h) fun v s1 ⟨x,H1,I1,r1,q1⟩=>yT pins s1 Y H1 x v Q I1 r1 q1) (he _)
theorem aig:G4 X (binaryOp .Add) (fun x y H Q=>∃ i j,x=.str i/\y=.str j/\i.length+j.length<=sizeLine/\Q (.str (i++j)) H):=by
 intro pins s Y H x y v u Q I rx ry h;obtain ⟨i,j,rfl,rfl,hz,q⟩:=h;obtain ⟨t,rfl⟩:=rx;obtain ⟨t',rfl⟩:=ry;exact add_str (fun t' tk=>⟨.str (i++j),H,I.tok _,⟨_,rfl⟩,q⟩) hz
theorem vals1{x:V}{us:List Value}(r:Vals [x] us):∃ u,us=[u]/\RelV x u:=by
 cases r with
 | cons r1 r2=>cases r2;exact ⟨_,rfl,r1⟩
theorem vals2{x y:V}{us:List Value}(r:Vals [x,y] us):∃ u w',us=[u,w']/\RelV x u/\RelV y w':=by
 cases r with
 | cons r1 r2=>
  cases r2 with
  | cons r3 r4=>cases r4;exact ⟨_,_,rfl,r1,r3⟩
theorem ai7(hc:X.calm=true):CallR X (.builtin "max") (fun xs H Q=>∃ i j,xs=[.int i,.int j]/\Q (.int (if j > i then j else i)) H):=by
 intro pins s Y H xs us Q I r h;obtain ⟨i,j,rfl,q⟩:=h;obtain ⟨u,w',rfl,⟨t,rfl⟩,⟨t',rfl⟩⟩:=vals2 r;refine max_two_ints (I.ok.hd hc) fun h' tk k=>⟨_,H,I.kept k,?_,q⟩
 by_cases hj:j > i
 .rw [if_pos hj,if_pos hj];exact ⟨_,rfl⟩
 .rw [if_neg hj,if_neg hj];exact ⟨_,rfl⟩
theorem ai8(hc:X.calm=true):CallR X (.builtin "min") (fun xs H Q=>∃ i j,xs=[.int i,.int j]/\Q (.int (if j<i then j else i)) H):=by
 intro pins s Y H xs us Q I r h;obtain ⟨i,j,rfl,q⟩:=h;obtain ⟨u,w',rfl,⟨t,rfl⟩,⟨t',rfl⟩⟩:=vals2 r;refine min_two_ints (I.ok.hd hc) fun h' tk k=>⟨_,H,I.kept k,?_,q⟩
 by_cases hj:j<i
 .rw [if_pos hj,if_pos hj];exact ⟨_,rfl⟩
 .rw [if_neg hj,if_neg hj];exact ⟨_,rfl⟩
theorem ai9:CallR X (.type "int") (fun xs H Q=>(∃ i,xs=[.int i]/\Q (.int i) H)\/∃ k,xs=[.bl k]/\Q (.int (if k then 1 else 0)) H):=by
 intro pins s Y H xs us Q I r h
 rcases h with ⟨i,rfl,q⟩ | ⟨k,rfl,q⟩
 .obtain ⟨u,rfl,t,rfl⟩:=vals1 r;exact call_int_int ⟨.int i,H,I,⟨_,rfl⟩,q⟩
 .obtain ⟨u,rfl,r1⟩:=vals1 r
  cases r1
  exact call_int_bool ⟨.int (if k then 1 else 0),H,I.tok _,⟨_,rfl⟩,q⟩
noncomputable def LenV (K:PySem.W.Frag) (x:V) (H:Hp) (n:Nat):Prop:=
 match x with
 | .str y=>y.length<=sizeLine/\n=y.length
 | .byt y=>y.size<=sizeLine/\n=y.size
 | .ref p=>(∃ xs,C7 K H p xs/\n=xs.length)\/∃ xs,C4 K H p xs/\n=xs.length
 | _=>False
theorem rO:CallR X (.builtin "len") (fun xs H Q=>∃ x n,xs=[x]/\LenV X.K x H n/\Q (.int n) H):=by
 intro pins s Y H xs us Q I r h;obtain ⟨x,n,rfl,e,q⟩:=h;obtain ⟨u,rfl,rx⟩:=vals1 r;have hl:=jJ;have hs:sizeLine=16777216:=sizeLine_eq
 cases x with
 | str y=>
  obtain ⟨t,rfl⟩:=rx;obtain ⟨hy,e'⟩:y.length<=sizeLine/\n=y.length:=e;subst e';exact len_str (by lia) ⟨.int _,H,I.tok _,⟨_,rfl⟩,q⟩
 | byt y=>
  obtain ⟨t,rfl⟩:=rx;obtain ⟨hy,e'⟩:y.size<=sizeLine/\n=y.size:=e;subst e';exact PySem.W.len_bytes (by lia) ⟨.int _,H,I.tok _,⟨_,rfl⟩,q⟩
 | ref p=>
  cases rx
  have e':(∃ xs,C7 X.K H p xs/\n=xs.length)\/∃ xs,C4 X.K H p xs/\n=xs.length:=e
  rcases e' with ⟨xs,hx,e'⟩ | ⟨xs,hx,e'⟩
  .subst e';obtain ⟨its,r',pl,hz⟩:=I.list hx;have A6:=r'.length;exact Calls.call_len_list pl.isList (by simp only [K3];lia) ⟨.int xs.length,H,I.tok _,⟨_,by simp only [K3];rw [A6]⟩,q⟩
  .subst e';obtain ⟨its,r',pl,hz⟩:=I.tuple hx;have A6:=r'.length;exact len_tuple pl (by simp only [K3];lia) ⟨.int xs.length,H,I.tok _,⟨_,by simp only [K3];rw [A6]⟩,q⟩
 | _=>exact (show False from e).elim
end
end L2
namespace L2
open PySem PySem.Spec PyProof.Rows
structure ObjM(h:Heap)(x dx C:Addr)(mA:Str->Option Value):Prop where
 obj:h.get? x=some (aX C dx)
 ns:h.Ns1 dx mA
 ne:dx≠x
theorem yU{h:Heap}{dx:Addr}{mA:Str->Option Value}(n:h.Ns1 dx mA):∃ od,h.get? dx=some od/\∀ name,PySem.W.lookIn name od=some (mA name):=by
 obtain ⟨o,es,ep,ho,hd,hk,_,hm⟩:=n;refine ⟨o,ho,fun name=>?_⟩;have e:=hm name;unfold nsFind findBy at e;rw [<- Array.find?_toList] at e;unfold PySem.W.lookIn;rw [hd]
 dsimp only
 split
 .rename_i y q
  rw [q] at e;exact congrArg some e
 .rename_i q
  rw [q] at e;have a:es.toList.any (·.refKey)=false:=by
   rw [List.any_eq_false];intro y hy;obtain ⟨z,t,Z6⟩:=hk y (Array.mem_toList_iff.mp hy);simp [DictEntry.refKey,Z6]
  have a':¬ es.toList.any (·.refKey)=true:=by rw [a];exact K5
  rw [if_neg a'];exact congrArg some e
theorem ObjM.look{h:Heap}{x dx C:Addr}{mA:Str->Option Value}(I:ObjM h x dx C mA):∃ od,PySem.W.InstAt h x (aX C dx) C (some od)/\∀ name,PySem.W.lookIn name od=some (mA name):=
 let ⟨od,ho,hl⟩:=yU I.ns
 ⟨od,⟨I.obj,rfl,rfl,ho⟩,hl⟩
section
variable {prog:Program} {w:World} {A:Around} {E:Value->Shared->Prop} {s:Shared} {K:PySem.W.Frag} {x dx C f:Addr} {mA:Str->Option Value} {name:Str} {v:Value}
theorem amP{expr:Bool}{Q:Value->Shared->Prop}(X:K.In s.heap)(I:ObjM s.heap x dx C mA)(hg:jD K C name=true)(hh:jC K C=true)(ha:L6 K (.ref C) name=some none)(hv:mA name=some v)(pX:PySem.W.handedIn v=true)(h:Q v { s with toks:=s.toks+1 }) :
  wpAny (model prog w) A (getAttr (.ref x) name expr) Q E s:=by
 obtain ⟨od,J,hl⟩:=I.look;exact PySem.W.get_value X J (PySem.W.plainGet_of hg).1 (PySem.W.findObj_own hh ha rfl (by rw [hl,hv])) pX h
theorem akQ{pl:Sem Bool}{Q:Value×List Value->Shared->Prop}(X:K.In s.heap)(I:ObjM s.heap x dx C mA)(hg:jD K C name=true)(hf:L6 K (.ref C) name=some (some (.ref f)))(ht:k7 K (.ref f)=true)(hv:mA name=none)(h:Q (.ref f,[.ref x]) s) :
  wpAny (model prog w) A (getMethod (.ref x) name pl) Q E s:=by
 obtain ⟨od,J,hl⟩:=I.look;exact PySem.W.method_fn X J (PySem.W.plainGet_of hg).1 (PySem.W.plainGet_of hg).2 hf (beq_iff_eq.mp ht) (by show (PySem.W.lookIn name od).map (·.isSome)=some false;rw [hl,hv];rfl) h
theorem amQ{ns:List Str}{Q:Unit->Shared->Prop}(X:K.In s.heap)(I:ObjM s.heap x dx C mA)(hs:L6 K (.ref C) "__setattr__"=some (some (.builtin "object.__setattr__")))(hp:PySem.W.plainOver K C=true)(ht:PySem.W.takerIn K C name=some none)(hh:jC K C=true)(hw:PySem.Within mA ns)(hsz:ns.length<=sizeLine)(h:∀ h',ObjM h' x dx C (fun y=>if y=name then some v else mA y)->Heap.SameBut dx s.heap h'->Q () { s with heap:=h',toks:=s.toks+2 }) :
  wpAny (model prog w) A (setAttr (.ref x) name v) Q E s:=by
 obtain ⟨od,J,hl⟩:=I.look;refine PySem.W.set_plain X J hs (PySem.W.osa_open (s:={ s with toks:=s.toks+1 }) (r:=none) X J hp ht fun b=>?_);obtain ⟨cd,hc,eB⟩:=PySem.W.any_some hh;have hx:s.heap.get? x=some ⟨.ref C,some dx,.plain,#[]⟩:=I.obj;refine wpAny_bind (wpAny_pure (wpAny_bind (wpAny_bind (wpAny_loadPart hx (wpAny_bind (PySem.W.Looks.here (s:={ s with toks:=s.toks+1 }) (PySem.W.looks_clsIn X hc) ?_))))));rw [eB];refine wpAny_pure (a:=some dx) (wpAny_bind (wpAny_pure (wpAny_bind ?_)));refine wpAny_nsSet1 (s:={ s with toks:=s.toks+1 }) I.ns fun h' pY aD=>?_
 obtain ⟨oD,esD,epD,hoD,hdD,hcD⟩:=pY.count (PySem.Within.cons name v hw);refine wpAny_bind (wpAny_lookBehind hoD (by rw [hdD];exact pastItsLine_dict (E8 hcD (by rw [G6];lia))) ?_);exact wpAny_pure (h _ ⟨(aD.2 _ (Ne.symm I.ne)).trans I.obj,pY,I.ne⟩ aD)
theorem akR{R:Result->Shared->Prop}{vs:List Value}{kw:List (Str×Value)}(X:K.In s.heap)(hm:PySem.W.makesIn K C=true)(hi:L6 K (.ref C) "__init__"=some (some (.ref f)))(hf:PySem.W.typeIn K (.ref f)=some (.type "function"))(h:codeAny (model prog w) (A.under (.builtin "type.__call__" ⟨.ref C::vs,kw⟩)) (.call (.ref f) ⟨.ref (s.heap.objs.size+1)::vs,kw⟩) (PySem.W.InitBack (s.heap.objs.size+1) R)
   { s with heap:=(s.heap.push x3).push (aX C s.heap.objs.size) }) :
  codeAny (model prog w) A (.call (.ref C) ⟨vs,kw⟩) R s:=by
 obtain ⟨hh,g,d,t,os⟩:=s;exact PySem.W.make_core (PySem.W.makes_of X hm) (PySem.W.looks_findIn X hi) (fun self=>PySem.W.bind_fn X self hf) (.inl rfl) h
end
noncomputable def putF (f:Str) (v:V):List (Str×V)->List (Str×V)
 | []=>[(f,v)]
 | (g,x)::r=>if g=f then (g,v)::r else (g,x)::putF f v r
theorem K9(f g:Str)(v:V):∀ fs:List (Str×V),(putF f v fs).lookup g=if g=f then some v else fs.lookup g
 | []=>by
  show aV g [(f,v)]=_
  by_cases h:g=f
  .have hb:(g==f)=true:=beq_iff_eq.mpr h;simp only [aV,hb,if_pos h]
  .have hb:(g==f)=false:=beq_eq_false_iff_ne.mpr h;simp only [aV,hb,if_neg h]
 | (k,x)::r=>by
  have ih:=K9 f g v r;rw [show putF f v ((k,x)::r)=(if k=f then (k,v)::r else (k,x)::putF f v r) from rfl]
  by_cases hk:k=f
  .rw [if_pos hk]
   by_cases h:g=k
   .have hb:(g==k)=true:=beq_iff_eq.mpr h;simp only [aV,hb,if_pos (h.trans hk)]
   .have hb:(g==k)=false:=beq_eq_false_iff_ne.mpr h;simp only [aV,hb,if_neg (fun e:g=f=>h (e.trans hk.symm))]
  .rw [if_neg hk]
   by_cases h:g=k
   .have hb:(g==k)=true:=beq_iff_eq.mpr h;simp only [aV,hb,if_neg (fun e:g=f=>hk (h.symm.trans e))]
   .have hb:(g==k)=false:=beq_eq_false_iff_ne.mpr h;simp only [aV,hb];exact ih
theorem rP(f:Str)(v:V):∀ fs:List (Str×V),f∈(putF f v fs).map (·.1)/\∀ g,g∈fs.map (·.1)->g∈(putF f v fs).map (·.1)
 | []=>⟨by simp [putF],fun g h=>by simp at h⟩
 | (k,x)::r=>by
  obtain ⟨i1,i2⟩:=rP f v r;rw [show putF f v ((k,x)::r)=(if k=f then (k,v)::r else (k,x)::putF f v r) from rfl]
  by_cases hk:k=f
  .rw [if_pos hk];subst hk;exact ⟨by simp,fun g h=>by simpa using h⟩
  .rw [if_neg hk];refine ⟨?_,fun g h=>?_⟩
   .rw [F7];exact N0 _ i1
   .rw [F7] at h ⊢
    rcases E7.mp h with e | e
    .exact E7.mpr (.inl e)
    .exact N0 _ (i2 g e)
theorem rQ(f:Str)(v:V):∀ fs:List (Str×V),(putF f v fs).length<=fs.length+1
 | []=>by simp [putF]
 | (k,x)::r=>by
  have ih:=rQ f v r;rw [show putF f v ((k,x)::r)=(if k=f then (k,v)::r else (k,x)::putF f v r) from rfl]
  by_cases hk:k=f
  .rw [if_pos hk,G6,G6];lia
  .rw [if_neg hk,G6,G6];lia
theorem jK{v:V}{o:Option Value}(r:RelO (some v) o):∃ u,o=some u/\RelV v u:=by
 cases o with
 | none=>exact (show False from r).elim
 | some u=>exact ⟨u,rfl,r⟩
theorem RelO.none_of{o:Option Value}(r:RelO none o):o=none:=by
 cases o with
 | none=>rfl
 | some u=>exact (show False from r).elim
theorem yV{v:V}{u:Value}(r:RelV v u):PySem.W.handedIn u=true:=by
 cases v with
 | non=>cases (show u=Value.none from r);rfl
 | bl b=>cases (show u=Value.bool b from r);rfl
 | int i=>obtain ⟨t,e⟩:=(show ∃ t,u=Value.int i t from r);cases e;rfl
 | str x=>obtain ⟨t,e⟩:=(show ∃ t,u=Value.str x t from r);cases e;rfl
 | byt b=>obtain ⟨t,e⟩:=(show ∃ t,u=Value.bytes b t from r);cases e;rfl
 | flt b=>obtain ⟨t,e⟩:=(show ∃ t,u=Value.float b t from r);cases e;rfl
 | ref a=>cases (show u=Value.ref a from r);rfl
 | ty n=>cases (show u=Value.type n from r);rfl
section
variable {P:Program} {w:World} {H H':Hp} {h h':Heap} {a C dx:Addr} {fs fs':List (Str×V)}
theorem nF(hok:K6 P w H h)(e:H a=some (.ins C dx fs)):∃ mA,ObjM h a dx C mA/\(∀ f,RelO (fs.lookup f) (mA f))/\PySem.Within mA (fs.map (·.1))/\fs.length<=1000/\H dx=some (.own a):=by
 obtain ⟨d,z,ne,ob,mA,n,r,q⟩:=(show ObjOk P w H h a (.ins C dx fs) from hok a _ e)
 exact ⟨mA,⟨ob,n,ne⟩,r,q,z,d⟩
end
structure Cls(K:PySem.W.Frag)(C:Addr):Prop where
 pg:jD K C Str.empty=true
 hd:jC K C=true
 po:PySem.W.plainOver K C=true
 sa:L6 K (.ref C) "__setattr__"=some (some (.builtin "object.__setattr__"))
theorem Cls.get{K:PySem.W.Frag}{C:Addr}(c:Cls K C)(f:Str):jD K C f=true:=c.pg
noncomputable def NoAttr (K:PySem.W.Frag) (C:Addr) (f:Str):Prop:=L6 K (.ref C) f=some none
theorem NoAttr.taker{K:PySem.W.Frag}{C:Addr}{f:Str}(n:NoAttr K C f):PySem.W.takerIn K C f=some none:=by
 unfold PySem.W.takerIn;rw [show L6 K (.ref C) f=some none from n];rfl
structure Meth(K:PySem.W.Frag)(C:Addr)(m:Str)(f:Addr):Prop where
 at_:L6 K (.ref C) m=some (some (.ref f))
 fn:k7 K (.ref f)=true
 kp:N1 K (.ref f)=true
section
variable {X:Cx} {pins:List (Addr×Obj)} {Y:St} {H:Hp} {s:Shared} {a C dx:Addr} {fs:List (Str×V)} {f:Str} {v:V} {A:Around} {E:Value->Shared->Prop}
theorem aih{b:Bool}{Q:Value->Shared->Prop}(I:Inv X pins Y H s)(e:H a=some (.ins C dx fs))(c:Cls X.K C)(n:NoAttr X.K C f)(l:fs.lookup f=some v)(h:∀ u s',Inv X pins Y H s'->RelV v u->Q u s'):wpAny (model X.prog X.w) A (getAttr (.ref a) f b) Q E s:=by
 obtain ⟨mA,O,r,_,_,_⟩:=nF I.hok e;obtain ⟨u,hu,ru⟩:=jK (v:=v) (o:=mA f) (by rw [<- l];exact r f);exact amP I.kIn O (c.get f) c.hd n hu (yV ru) (h u _ (I.tok _) ru)
theorem yW{m:Str}{g:Addr}{pl:Sem Bool}{Q:Value×List Value->Shared->Prop}(I:Inv X pins Y H s)(e:H a=some (.ins C dx fs))(c:Cls X.K C)(k:Meth X.K C m g)(l:fs.lookup m=none)(h:Q (.ref g,[.ref a]) s):wpAny (model X.prog X.w) A (getMethod (.ref a) m pl) Q E s:=by
 obtain ⟨mA,O,r,_,_,_⟩:=nF I.hok e;have hn:mA m=none:=RelO.none_of (by rw [<- l];exact r m);exact akQ I.kIn O (c.get m) k.at_ k.fn hn h
theorem aii{y:V}{u:Value}{Q:Unit->Shared->Prop}(I:Inv X pins Y H s)(e:H a=some (.ins C dx fs))(c:Cls X.K C)(n:NoAttr X.K C f)(hl:fs.length<1000)(ry:RelV y u)(h:∀ s',Inv X pins Y (A0 H a (.ins C dx (putF f y fs))) s'->Q () s'):wpAny (model X.prog X.w) A (setAttr (.ref a) f u) Q E s:=by
 obtain ⟨mA,O,r,wi,_,ho⟩:=nF I.hok e;have hz:(fs.map (·.1)).length<=sizeLine:=by rw [A2,sizeLine_eq];lia
 refine amQ I.kIn O c.sa c.po n.taker c.hd wi hz fun h' O' sb=>h _ ?_
 have hd:∃ o,h'.get? dx=some o:=let ⟨o,_,_,e',_⟩:=O'.ns;⟨o,e'⟩
 refine I.write (x:=a) (e:=dx) (by rw [e];exact True.intro) (.inr ho) (fun b q hb z=>(sb.2 b hb).trans z) hd ?_;refine ⟨by rw [A4 O.ne];exact ho,?_,O.ne,O'.obj,_,O'.ns,fun g=>?_,fun g hg=>?_⟩
 .have:=rQ f y fs;lia
 .show RelO ((putF f y fs).lookup g) (if g=f then some u else mA g);rw [K9]
  by_cases q:g=f
  .rw [if_pos q,if_pos q];exact ry
  .rw [if_neg q,if_neg q];exact r g
 .by_cases q:g=f
  .rw [q];exact (rP f y fs).1
  .refine (rP f y fs).2 g (wi g fun z=>hg ?_);show (if g=f then some u else mA g)=none;rw [if_neg q];exact z
theorem Inv.made(I:Inv X pins Y H s):Inv X pins Y (A0 (A0 H s.heap.objs.size (.own (s.heap.objs.size+1))) (s.heap.objs.size+1) (.ins C s.heap.objs.size []))
  { s with heap:=(s.heap.push x3).push (aX C s.heap.objs.size) }:=by
 have e1:(s.heap.push x3).get? s.heap.objs.size=some x3:=Heap.get?_push_size s.heap rfl;have e2:((s.heap.push x3).push (aX C s.heap.objs.size)).get? (s.heap.objs.size+1)=some (aX C s.heap.objs.size):=by
  have:=Heap.get?_push_size (s.heap.push x3) (o:=aX C s.heap.objs.size) rfl
  rwa [Heap.size_push] at this
 have e3:(s.heap.push x3).Ns s.heap.objs.size (fun _=>none):=⟨x3,#[],_,e1,rfl,(fun e he=>absurd he (by simp)),fun _=>rfl⟩
 have I1:=I.laid (a:=s.heap.objs.size) (o:=.own (s.heap.objs.size+1)) (h':=s.heap.push x3) (t':=s.toks) (fun b u q=>Heap.get?_push_of_some _ q) (B3 _) ⟨_,e1⟩;refine I1.laid (a:=s.heap.objs.size+1) (o:=.ins C s.heap.objs.size []) (t':=s.toks) (fun b u q=>Heap.get?_push_of_some _ q) (Nat.le_of_eq (Heap.size_push _ _)) ?_;have ne:s.heap.objs.size≠s.heap.objs.size+1:=M0 (Nat.lt_succ_self _);refine ⟨by rw [A4 ne,A3],G2 _,ne,e2,fun _=>none,(Heap.Ns1.of_empty e3).at fun o q=>Heap.get?_push_of_some _ q,fun _=>True.intro,fun y hy=>absurd rfl hy⟩
theorem yX{prog:Program}{w:World}{env:Env}{e:Expr}{f:Str}{pos:Pos}{s:Shared}{Q:Value->Shared->Prop}(hb:attributeBase e f env (eval e env)=eval e env)(h:wpAny (model prog w) A (eval e env) (fun o zu=>wpAny (model prog w) A (getAttr o f true) Q E zu) E s):wpAny (model prog w) A (eval (.Attribute e f pos) env) Q E s:=
 Attribute_any_ h (by rw [arm_eval_Attribute,hb])
end
noncomputable def tFld (K:PySem.W.Frag) (ta:TE) (f:Str):TE:=fun Y H Q=>ta Y H fun x H1=>∃ a C dx fs v,x=.ref a/\H1 a=some (.ins C dx fs)/\Cls K C/\NoAttr K C f/\fs.lookup f=some v/\Q v H1
noncomputable def sFld (K:PySem.W.Frag) (ta tv:TE) (f:Str):TS:=fun D Y H=>tv Y H fun y H1=>ta Y H1 fun x H2=>∃ a C dx fs,x=.ref a/\H2 a=some (.ins C dx fs)/\Cls K C/\NoAttr K C f/\fs.length<1000/\
 D.nx Y (A0 H2 a (.ins C dx (putF f y fs)))
noncomputable def InOp (X:Cx) (op:Operator) (rd:V->V->Hp->VK->Prop):Prop:=
 ∀ (pins:List (Addr×Obj)) (s:Shared) (Y:St) (H:Hp) (x y:V) (u v:Value) (Q:VK),Inv X pins Y H s->RelV x u->RelV y v->rd x y H Q->wpAny (model X.prog X.w) X.A (inplaceOp op u v) (EP X pins Y Q) X.xe s
section
variable {X:Cx} {o e value:Expr} {f:Str} {pos pos' tpos:Pos} {ta tv:TE}
theorem aoS(he:PE X e ta)(hb:attributeBase e f X.env (eval e X.env)=eval e X.env):PE X (.Attribute e f pos) (tFld X.K ta f):=by
 intro pins s Y H Q I h;refine yX hb (A7 (he pins s Y H _ I h) fun u s1 ⟨x,H1,I1,rx,a,C,dx,fs,v,ex,ea,c,n,l,q⟩=>?_);subst ex;obtain rfl:u=Value.ref a:=rx;exact aih I1 ea c n l fun u' s2 I2 ru=>⟨v,H1,I2,ru,q⟩
theorem aoT(ha:PE X o ta)(hv:PE X value tv)(hs:swapsWith value (some (.Attribute o f pos')) pos.line X.env=pure false):PS X (.Assign [.Attribute o f pos'] value pos) (sFld X.K ta tv f):=by
 intro pins s Y H D I h;refine plainObj_wpAny_Assign_Attribute (A7 (hv pins s Y H _ I h) fun u s1 ⟨y,H1,I1,ry,q⟩=>A7 (ha pins s1 Y H1 _ I1 q) fun ov s2 ⟨x,H2,I2,rx,a,C,dx,fs,ex,ea,c,n,l,q2⟩=>?_) hs;subst ex;obtain rfl:ov=Value.ref a:=rx;exact aii I2 ea c n l ry fun s3 I3=>⟨Y,_,I3,q2⟩
noncomputable def rAdd:V->V->Hp->VK->Prop:=fun x y H Q=>∃ i j,x=.int i/\y=.int j/\Q (.int (i+j)) H
noncomputable def rSub:V->V->Hp->VK->Prop:=fun x y H Q=>∃ i j,x=.int i/\y=.int j/\Q (.int (i-j)) H
theorem aoU:InOp X .Add rAdd:=by
 rintro pins s Y H x y u v Q I rx ry ⟨i,j,rfl,rfl,q⟩;obtain ⟨t,rfl⟩:=(show ∃ t,u=Value.int i t from rx)
 obtain ⟨t',rfl⟩:=(show ∃ t',v=Value.int j t' from ry)
 exact PyProof.Rows.iadd_int ⟨.int (i+j),H,I.tok _,⟨_,rfl⟩,q⟩
theorem aoV:InOp X .Sub rSub:=by
 rintro pins s Y H x y u v Q I rx ry ⟨i,j,rfl,rfl,q⟩;obtain ⟨t,rfl⟩:=(show ∃ t,u=Value.int i t from rx)
 obtain ⟨t',rfl⟩:=(show ∃ t',v=Value.int j t' from ry)
 exact PyProof.Rows.isub_int ⟨.int (i-j),H,I.tok _,⟨_,rfl⟩,q⟩
end
section
variable {X:Cx} {pins:List (Addr×Obj)} {Y:St} {H:Hp} {s:Shared} {A:Around} {E:Value->Shared->Prop} {Q:Value->Shared->Prop} {c:Value} {b:Bool}
inductive TyOf (K:PySem.W.Frag) (H:Hp):V->Value->Prop where
 | non:TyOf K H .non (.type "NoneType")
 | bl (x:Bool):TyOf K H (.bl x) (.type "bool")
 | int (i:Int):TyOf K H (.int i) (.type "int")
 | str (x:Str):TyOf K H (.str x) (.type "str")
 | flt (x:UInt64):TyOf K H (.flt x) (.type "float")
 | lst {a:Addr} {xs:List V} (e:H a=some (.lst xs)):TyOf K H (.ref a) (.type "list")
 | frz {a:Addr} {o:Obj} {xs:List V} (e:H a=some (.frz o (.lst xs))):TyOf K H (.ref a) (.type "list")
 | tup {a:Addr} {xs:List V} (e:H a=some (.tup xs)):TyOf K H (.ref a) (.type "tuple")
 | dK {a:Addr} {kvs:List (B5×V)} (e:H a=some (.dK kvs)):TyOf K H (.ref a) (.type "dict")
 | dT {a:Addr} {kvs:List (List B5×V)} (e:H a=some (.dT kvs)):TyOf K H (.ref a) (.type "dict")
 | ins {a C dx:Addr} {fs:List (Str×V)} (e:H a=some (.ins C dx fs)) (cl:Cls K C) (ha:L6 K (.ref C) "__class__"=some (some (.builtin "object.__class__")))
   (hn:jB K (.builtin "object.__class__") "__get__"=some (some (.builtin "getset_descriptor.__get__"))) (htk:PySem.W.takesIn K (.builtin "object.__class__")=some true)
   (hm:f9 K C (.type "object")=some true):TyOf K H (.ref a) (.ref C)
theorem ajb{x:V}{u t:Value}(I:Inv X pins Y H s)(rx:RelV x u)(ty:TyOf X.K H x t)(e:PySem.W.kitOne X.K t c=some b)(h:∀ tk,Q (.bool b) { s with toks:=tk }) :
  wpAny (model X.prog X.w) A (call (.builtin "isinstance") [u,c]) Q E s:=by
 cases ty with
 | non=>cases (show u=Value.none from rx);exact k6 PySem.W.kitx_none I.kIn True.intro e (fun z=>nomatch z) h
 | bl y=>cases (show u=Value.bool y from rx);exact k6 PySem.W.kitx_bool I.kIn True.intro e (fun z=>nomatch z) h
 | int i=>obtain ⟨t,q⟩:=(show ∃ t,u=Value.int i t from rx);cases q;exact k6 PySem.W.kitx_int I.kIn True.intro e (fun z=>nomatch z) h
 | str y=>obtain ⟨t,q⟩:=(show ∃ t,u=Value.str y t from rx);cases q;exact k6 PySem.W.kitx_str I.kIn True.intro e (fun z=>nomatch z) h
 | flt y=>obtain ⟨t,q⟩:=(show ∃ t,u=Value.float y t from rx);cases q;exact k6 PySem.W.kitx_float I.kIn True.intro e (fun z=>nomatch z) h
 | @lst a xs ea=>
  cases (show u=Value.ref a from rx)
  obtain ⟨_,_,n,_,h1⟩:=(show ObjOk X.prog X.w H s.heap a (.lst xs) from I.hok a _ ea)
  exact k6 PySem.W.kitx_list I.kIn ⟨_,h1,rfl⟩ e (fun z=>nomatch z) h
 | @frz a ob xs ea=>
  cases (show u=Value.ref a from rx)
  obtain ⟨_,_,_,n,_,h1⟩:=(show ObjOk X.prog X.w H s.heap a (.frz ob (.lst xs)) from I.hok a _ ea)
  exact k6 PySem.W.kitx_list I.kIn ⟨_,h1,rfl⟩ e (fun z=>nomatch z) h
 | @tup a xs ea=>
  cases (show u=Value.ref a from rx)
  obtain ⟨_,_,_,p⟩:=(show ObjOk X.prog X.w H s.heap a (.tup xs) from I.hok a _ ea)
  obtain ⟨o,h1,h2,_⟩:=p;exact k6 PySem.W.kitx_tuple I.kIn ⟨o,h1,h2⟩ e (fun z=>nomatch z) h
 | @dK a kvs ea=>
  cases (show u=Value.ref a from rx)
  obtain ⟨_,_,vs,_,p⟩:=(show ObjOk X.prog X.w H s.heap a (.dK kvs) from I.hok a _ ea)
  obtain ⟨o,es,ep,h1,h2,_⟩:=p;exact k6 PySem.W.kitx_dict I.kIn ⟨o,h1,h2.1⟩ e (fun z=>nomatch z) h
 | @dT a kvs ea=>
  cases (show u=Value.ref a from rx)
  obtain ⟨_,_,xs,_,o,es,ep,h1,h2,_⟩:=(show ObjOk X.prog X.w H s.heap a (.dT kvs) from I.hok a _ ea)
  exact k6 PySem.W.kitx_dict I.kIn ⟨o,h1,h2.1⟩ e (fun z=>nomatch z) h
 | @ins a C dx fs ea cl ha hn htk hm=>
  cases (show u=Value.ref a from rx)
  obtain ⟨mA,O,_⟩:=nF I.hok ea;obtain ⟨od,J,_⟩:=O.look;exact k6 (PySem.W.kitx_own (cl.get _) cl.hd ha hn htk hm) I.kIn J e (fun z=>nomatch z) h
end
end L2
namespace L2
open PySem PySem.Spec PyProof.Rows
structure Room(k:Nat)(A:Around):Prop where
 hd:A.handled=none
 dp:A.depth+3*k+5<recursionLimit
 un:A.units+16*k+200<cLine
 gd:A.guards=some []
theorem Room.mono{j k:Nat}{A:Around}(r:Room k A)(h:j<=k):Room j A:=⟨r.hd,by have:=r.dp;lia,by have:=r.un;lia,r.gd⟩
theorem Room.deeper{k:Nat}{A:Around}(r:Room (k+1) A)(env:Env):Room k (A.deeper env):=
 ⟨r.hd,by have:=r.dp;show A.depth+1+3*k+5<_;lia,by have:=r.un;show A.units+3+16*k+200<_;lia,r.gd⟩
theorem aij{A:Around}{C:Addr}{us:List Value}{kw:List (Str×Value)} : (A.under (.builtin "type.__call__" ⟨.ref C::us,kw⟩)).depth=A.depth+1:=by
 first | rfl | simp [Around.under,Code.weight,Code.isCreation,Code.isGuard,Code.isCaller,Code.frames,Code.isFrame,guardIds]
theorem aik{A:Around}{C:Addr}{us:List Value}{kw:List (Str×Value)} : (A.under (.builtin "type.__call__" ⟨.ref C::us,kw⟩)).units=A.units+1:=by
 first | rfl | simp [Around.under,Code.cUnits,Code.frames,Code.isFrame]
theorem Room.make{k:Nat}{A:Around}(r:Room (k+1) A)(C:Addr)(us:List Value)(kw:List (Str×Value)):Room k (A.under (.builtin "type.__call__" ⟨.ref C::us,kw⟩)):=
 ⟨r.hd,by have:=r.dp;rw [aij];lia,by have:=r.un;rw [aik];lia,r.gd⟩
theorem Room.depth{k:Nat}{A:Around}(r:Room k A):A.depth<recursionLimit:=by have:=r.dp;lia
theorem Room.units{k:Nat}{A:Around}(r:Room k A):A.units+64<cLine:=by have:=r.un;lia
noncomputable def tNil:TA:=fun _ H Q=>Q [] H
noncomputable def tCons (ta:TE) (tr:TA):TA:=fun Y H Q=>ta Y H fun x H1=>tr Y H1 fun xs H2=>Q (x::xs) H2
section
variable {X:Cx} {e:Expr} {es:List Expr} {te:TE} {t:TA} {pos:Pos}
theorem aoW:PA X [] tNil:=fun _ _ _ _ H Q I h=>Calls.spliced_nil ⟨[],H,I,.nil,h⟩
theorem amR(ha:PE X e te)(hr:PA X es t)(hs:starEach (e::es) X.env=(false,eval e X.env)::starEach es X.env:=by rfl):PA X (e::es) (tCons te t):=by
 intro pos pins s Y H Q I h;rw [hs];show wpAny _ _ (spliced ((false,eval e X.env)::backTo pos (starEach es X.env))) _ _ s;refine Calls.spliced_cons (A7 (ha pins s Y H _ I h) fun u s1 ⟨x,H1,I1,r1,q1⟩=>?_);exact A7 (hr pos pins s1 Y H1 _ I1 q1) fun us s2 ⟨xs,H2,I2,r2,q2⟩=>⟨x::xs,H2,I2,.cons r1 r2,q2⟩
noncomputable def tTup (t:TA):TE:=fun Y H Q=>t Y H fun xs H1=>xs.length<=sizeLine/\∀ p,H1 p=none->Q (.ref p) (A0 H1 p (.tup xs))
noncomputable def tLst (t:TA):TE:=fun Y H Q=>t Y H fun xs H1=>xs.length<=sizeLine/\∀ p,H1 p=none->Q (.ref p) (A0 H1 p (.lst xs))
theorem aoX{x1}(h:PA X es t):PE X (.Tuple es x1 pos) (tTup t):=by
 intro pins s Y H Q I hq;refine wpAny_Tuple_spliced (A7 (h pos pins s Y H _ I hq) fun us s1 ⟨xs,H1,I1,r,z,q⟩=>⟨by rw [<- r.length];exact z,?_⟩);have hf:H1 s1.heap.objs.size=none:=I1.hok.fresh (B3 _);refine ⟨.ref s1.heap.objs.size,A0 H1 s1.heap.objs.size (.tup xs),I1.laid (t':=s1.toks) (fun b u e=>Heap.get?_push_of_some _ e) (B3 _) ?_,rfl,q _ hf⟩;exact ⟨z,us,r,⟨_,Heap.get?_push_size _ rfl,rfl,_,rfl⟩⟩
theorem aoY(h:PA X es t):PE X (.List es pos) (tLst t):=by
 intro pins s Y H Q I hq;refine wpAny_List_spliced (A7 (h pos pins s Y H _ I hq) fun us s1 ⟨xs,H1,I1,r,z,q⟩=>⟨by rw [<- r.length];exact z,?_⟩);have hf:H1 s1.heap.objs.size=none:=I1.hok.fresh (B3 _);refine ⟨.ref s1.heap.objs.size,A0 H1 s1.heap.objs.size (.lst xs),I1.laid (t':=s1.toks) (fun b u e=>Heap.get?_push_of_some _ e) (B3 _) ?_,rfl,q _ hf⟩;exact ⟨z,us,0,r,Heap.get?_push_size _ rfl⟩
end
noncomputable abbrev Sp:=List V->Hp->VK->XK->Prop
noncomputable abbrev X5:=List Env->Hp->Shared->XK->Value->Shared->Prop
structure Env0(P:Program)(w:World)(K:PySem.W.Frag)(mg:Str->Option Value)(base:Heap)(A:Around)(outer:List Env)(s:Shared)(H:Hp):Prop where
 frames:A.frames=some outer
 mod:Mod K mg base
 bs:∀ b o,base.get? b=some o->s.heap.get? b=some o/\H b=none
 bsz:base.objs.size<=s.heap.objs.size
 funs:s.heap.FunFrames base outer
 frf:∀ b∈R6 outer,H b=none
 hok:K6 P w H s.heap
 bare:AllBare s.gens
noncomputable def CE (outer:List Env) (P:Program) (w:World) (H:Hp) (s:Shared) (Q:VK) (u:Value) (s':Shared):Prop:=
 ∃ v H',s'.os=s.os/\AllBare s'.gens/\Un (R6 outer) [] H H' s.heap s'.heap/\K6 P w H' s'.heap/\RelV v u/\Q v H'
noncomputable def CR (CX:X5) (outer:List Env) (P:Program) (w:World) (H:Hp) (s:Shared) (Q:VK) (E:XK) (r:Result) (s':Shared):Prop:=
 match r with
 | .ok (.ret u)=>CE outer P w H s Q u s'
 | .ok _=>False
 | .error e=>CX outer H s E e s'
structure FnOk(P:Program)(w:World)(K:PySem.W.Frag)(mg:Str->Option Value)(base:Heap)(CX:X5)(k:Nat)(f:Addr)(fd:FuncData)(ps:List Str)(sp:Sp):Prop where
 len:∀ vs H Q E,sp vs H Q E->vs.length=ps.length
 run:∀ (A:Around) (outer:List Env) (s:Shared) (H:Hp) (args:Args) (us:List Value) (vs:List V) (Q:VK) (E:XK),Room k A->Env0 P w K mg base A outer s H->BindsTo s fd args (ps.zip us)->Vals vs us->sp vs H Q E->
  codeAny (model P w) A (.call (.ref f) args) (CR CX outer P w H s Q E) s
theorem Env0.make{P:Program}{w:World}{K:PySem.W.Frag}{mg:Str->Option Value}{base:Heap}{A:Around}{outer:List Env}{s:Shared}{H:Hp}(e:Env0 P w K mg base A outer s H)(C:Addr)(us:List Value)(kw:List (Str×Value)) :
  Env0 P w K mg base (A.under (.builtin "type.__call__" ⟨.ref C::us,kw⟩)) outer s H:=⟨by first | exact e.frames | (simpa [Around.under,Code.envs,Code.isFrame,pushEnvs] using e.frames),e.mod,e.bs,e.bsz,e.funs,e.frf,e.hok,e.bare⟩
section
variable {X:Cx} {pins:List (Addr×Obj)} {Y:St} {H:Hp} {s s':Shared}
theorem Inv.env0(I:Inv X pins Y H s):Env0 X.prog X.w X.K X.mg X.base X.A X.stack s H:=
 ⟨I.ok.frames,I.ok.mod,I.bs,E8 I.ok.bsz I.sz,I.stack,I.stkFree,I.hok,I.bare⟩
theorem Inv.after{Q:VK}{u:Value}(I:Inv X pins Y H s)(h:CE X.stack X.prog X.w H s Q u s'):EP X pins Y Q u s':=by
 obtain ⟨v,H',os,bare,un,hok,r,q⟩:=h;obtain ⟨hh,g,d,t,os'⟩:=s';obtain rfl:os'=s.os:=os;exact ⟨v,H',I.call (h':=hh) (g':=g) (d':=d) (t':=t) (ch:=[]) un hok bare (fun b z=>absurd z (by simp)),r,q⟩
end
noncomputable def tCall (sp:Sp) (dvs:List V) (E:XK) (t:TA):TE:=fun Y H Q=>t Y H fun vs H1=>sp (vs++dvs) H1 Q E
noncomputable def tMeth (C:Addr) (m:Str) (sp:Sp) (dvs:List V) (E:XK) (ta:TE) (t:TA):TE:=fun Y H Q=>ta Y H fun x H1=>∃ a dx fs,x=.ref a/\H1 a=some (.ins C dx fs)/\fs.lookup m=none/\
 t Y H1 fun vs H2=>sp (x::(vs++dvs)) H2 Q E
noncomputable def tMake (C:Addr) (sp:Sp) (dvs:List V) (E:XK) (t:TA):TE:=fun Y H Q=>t Y H fun vs H1=>∀ x dx,H1 x=none->H1 dx=none->dx≠x->
 sp (.ref x::(vs++dvs)) (A0 (A0 H1 dx (.own x)) x (.ins C dx [])) (fun v H2=>v=.non/\Q (.ref x) H2) E
noncomputable def Binds (K:PySem.W.Frag) (fd:FuncData) (ps:List Str) (ds:List Value):Prop:=
 ∀ (s:Shared) (us:List Value),K.In s.heap->(us++ds).length=ps.length->BindsTo s fd ⟨us,[]⟩ (ps.zip (us++ds))
theorem Binds.all{K:PySem.W.Frag}{fd:FuncData}{ps:List Str}(h:∀ us:List Value,us.length=ps.length->bindArgs fd ⟨us,[]⟩=pure (ps.zip us)):Binds K fd ps []:=fun s us _ hl=>by
 rw [M5] at hl ⊢
 exact .of_eq (h us hl)
noncomputable def x5 (CX:X5) (X:Cx) (E:XK):Prop:=∀ (pins:List (Addr×Obj)) (Y:St) (H:Hp) (s:Shared) (e:Value) (s':Shared),Inv X pins Y H s->CX X.stack H s E e s'->X.xe e s'
section
variable {X:Cx} {CX:X5} {k:Nat} {f C:Addr} {fd:FuncData} {ps:List Str} {sp:Sp} {dvs:List V} {ds:List Value} {E:XK} {x m:Str} {p pos apos:Pos} {e o:Expr} {es:List Expr} {ta:TE} {t:TA}
theorem rR{pins:List (Addr×Obj)}{Y:St}{H:Hp}{s:Shared}{Q:VK}{us:List Value}{vs:List V}(F:FnOk X.prog X.w X.K X.mg X.base CX k f fd ps sp)(hr:Room k X.A)(hb:Binds X.K fd ps ds)(hd:Vals dvs ds)(hx:x5 CX X E)(I:Inv X pins Y H s)(r:Vals vs us)(h:sp (vs++dvs) H Q E):wpAny (model X.prog X.w) X.A (call (.ref f) us) (EP X pins Y Q) X.xe s:=by
 have r2:Vals (vs++dvs) (us++ds):=r.append hd;have hl:(us++ds).length=ps.length:=by rw [<- r2.length];exact F.len _ _ _ _ h
 refine wpAny_call (codeAny_mono (F.run X.A X.stack s H ⟨us,[]⟩ (us++ds) (vs++dvs) Q E hr I.env0 (hb s us I.kIn hl) r2 h) fun r s' hq=>?_)
 cases r with
 | error e=>exact hx pins Y H s e s' I hq
 | ok fl=>
  cases fl with
  | ret u=>exact I.after hq
  | next=>exact False.elim hq
  | brk=>exact False.elim hq
  | cont=>exact False.elim hq
theorem yY(F:FnOk X.prog X.w X.K X.mg X.base CX k f fd ps sp)(hr:Room k X.A)(hg:Gl X x)(hm:X.mg x=some (.ref f))(hk:N1 X.K (.ref f)=true)(hb:Binds X.K fd ps ds)(hd:Vals dvs ds)(hx:x5 CX X E)(ha:PA X (e::es) t)(G9:(x==("__debug__" : Str))=false:=by decide)(he:starEach (e::es) X.env=(false,eval e X.env)::starEach es X.env:=by rfl)(J7:(backTo pos (starEach es X.env)).any (·.1)=false:=by rfl) :
  PE X (.Call (.Name x p) (e::es) [] pos) (tCall sp dvs E t):=by
 intro pins s Y H Q I h;refine wpAny_Call_Name_kw (cV I hg hm ?_ G9);refine jA (h₀:=X.base) I.ok.mod.kin hk (A7 (ha pos pins s Y H _ I h) fun us s1 ⟨vs,H1,I1,r,q⟩=>⟨I1.kIn,?_⟩) he J7;exact rR F hr hb hd hx I1 r q
theorem amS{pl:Sem Bool}(he:PE X o ta)(c:Cls X.K C)(hm:Meth X.K C m f)(F:FnOk X.prog X.w X.K X.mg X.base CX k f fd ps sp)(hr:Room k X.A)(hb:Binds X.K fd ps ds)(hd:Vals dvs ds)(hx:x5 CX X E)(ha:PA X (e::es) t)(R1:starEach (e::es) X.env=(false,eval e X.env)::starEach es X.env:=by rfl)(J7:(backTo pos (starEach es X.env)).any (·.1)=false:=by rfl)(ht:eval (.Call (.Attribute o m apos) (e::es) [] pos) X.env=(do
   let ov <- eval o X.env
   standAt apos.atName
   let (f,first) <- holding [ov] (getMethod ov m pl)
   callWith pos f first (backTo pos (starEach (e::es) X.env)) (backToKw pos (keywordEach [] X.env))):=by rfl) :
  PE X (.Call (.Attribute o m apos) (e::es) [] pos) (tMeth C m sp dvs E ta t):=by
 intro pins s Y H Q I h;refine PySem.W.methodCall_KW (pl:=pl) (A7 (he pins s Y H _ I h) fun u s1 ⟨x,H1,I1,rx,a,dx,fs,ex,ea,l,q⟩=>?_) ht;subst ex;obtain rfl:u=Value.ref a:=rx;refine yW I1 ea c hm l ?_;refine jA (first:=[.ref a]) (h₀:=X.base) I.ok.mod.kin hm.kp (A7 (ha pos pins s1 Y H1 _ I1 q) fun us s2 ⟨vs,H2,I2,r,q2⟩=>⟨I2.kIn,?_⟩) R1 J7;exact rR (us:=.ref a::us) (vs:=.ref a::vs) F hr hb hd hx I2 (.cons rfl r) q2
theorem akS{pl:Sem Bool}(he:PE X o ta)(c:Cls X.K C)(hm:Meth X.K C m f)(F:FnOk X.prog X.w X.K X.mg X.base CX k f fd ps sp)(hr:Room k X.A)(hb:Binds X.K fd ps ds)(hd:Vals dvs ds)(hx:x5 CX X E)(ht:eval (.Call (.Attribute o m apos) [] [] pos) X.env=(do
   let ov <- eval o X.env
   standAt apos.atName
   let (f,first) <- holding [ov] (getMethod ov m pl)
   callWith pos f first (backTo pos (starEach [] X.env)) (backToKw pos (keywordEach [] X.env))):=by rfl) :
  PE X (.Call (.Attribute o m apos) [] [] pos) (tMeth C m sp dvs E ta tNil):=by
 intro pins s Y H Q I h;refine PySem.W.methodCall_KW (pl:=pl) (A7 (he pins s Y H _ I h) fun u s1 ⟨x,H1,I1,rx,a,dx,fs,ex,ea,l,q⟩=>?_) ht;subst ex;obtain rfl:u=Value.ref a:=rx;refine yW I1 ea c hm l ?_;exact PySem.W.callWith_K0 (first:=[.ref a]) I1.kIn hm.kp (rR (us:=[.ref a]) (vs:=[.ref a]) F hr hb hd hx I1 (.cons rfl .nil) q)
structure Mk(K:PySem.W.Frag)(C f:Addr):Prop where
 makes:PySem.W.makesIn K C=true
 init:L6 K (.ref C) "__init__"=some (some (.ref f))
 fn:k7 K (.ref f)=true
 kp:N1 K (.ref C)=true
theorem akT{pins:List (Addr×Obj)}{Y:St}{H:Hp}{s:Shared}{Q:VK}{us:List Value}{vs:List V}(M:Mk X.K C f)(F:FnOk X.prog X.w X.K X.mg X.base CX k f fd ps sp)(hr:Room (k+1) X.A)(hb:Binds X.K fd ps ds)(hd:Vals dvs ds)(hx:x5 CX X E)(I:Inv X pins Y H s)(r:Vals vs us)(h:∀ x dx,H x=none->H dx=none->dx≠x->sp (.ref x::(vs++dvs)) (A0 (A0 H dx (.own x)) x (.ins C dx [])) (fun v H2=>v=.non/\Q (.ref x) H2) E) :
  wpAny (model X.prog X.w) X.A (call (.ref C) us) (EP X pins Y Q) X.xe s:=by
 have hq:=h (s.heap.objs.size+1) s.heap.objs.size (I.hok.fresh (Nat.le_succ _)) (I.hok.fresh (B3 _)) (M0 (Nat.lt_succ_self _));have I2:=Inv.made (C:=C) I;have r2:Vals (V.ref (s.heap.objs.size+1)::(vs++dvs)) (Value.ref (s.heap.objs.size+1)::(us++ds)):=.cons rfl (r.append hd);have hl:(Value.ref (s.heap.objs.size+1)::us++ds).length=ps.length:=by
  have e:=r2.length;rw [F.len _ _ _ _ hq] at e;exact e.symm
 refine wpAny_call (akR (f:=f) I.kIn M.makes M.init (beq_iff_eq.mp M.fn) (codeAny_mono (F.run _ X.stack _ _ ⟨Value.ref (s.heap.objs.size+1)::us,[]⟩ (Value.ref (s.heap.objs.size+1)::(us++ds)) _ _ E (hr.make C us [])
  (I2.env0.make C us []) (hb _ (Value.ref (s.heap.objs.size+1)::us) I2.kIn hl) r2 hq) fun r s' Z7=>?_))
 cases r with
 | error e=>exact hx pins Y _ _ e s' I2 Z7
 | ok fl=>
  cases fl with
  | ret u=>
   obtain ⟨v,H',I3,rv,ev,q3⟩:=I2.after Z7;subst ev;exact ⟨rv,⟨V.ref (s.heap.objs.size+1),H',I3,rfl,q3⟩⟩
  | next=>exact False.elim Z7
  | brk=>exact False.elim Z7
  | cont=>exact False.elim Z7
theorem amT(M:Mk X.K C f)(F:FnOk X.prog X.w X.K X.mg X.base CX k f fd ps sp)(hr:Room (k+1) X.A)(hg:Gl X x)(hm:X.mg x=some (.ref C))(hb:Binds X.K fd ps ds)(hd:Vals dvs ds)(hx:x5 CX X E)(ha:PA X (e::es) t)(G9:(x==("__debug__" : Str))=false:=by decide)(he:starEach (e::es) X.env=(false,eval e X.env)::starEach es X.env:=by rfl)(J7:(backTo pos (starEach es X.env)).any (·.1)=false:=by rfl) :
  PE X (.Call (.Name x p) (e::es) [] pos) (tMake C sp dvs E t):=by
 intro pins s Y H Q I h;refine wpAny_Call_Name_kw (cV I hg hm ?_ G9);refine jA (h₀:=X.base) I.ok.mod.kin M.kp (A7 (ha pos pins s Y H _ I h) fun us s1 ⟨vs,H1,I1,r,q⟩=>⟨I1.kIn,?_⟩) he J7;exact akT M F hr hb hd hx I1 r q
end
noncomputable def PK (X:Cx) (kws:List Keyword) (t:TA):Prop:=
 ∀ (pos:Pos) (pins:List (Addr×Obj)) (s:Shared) (Y:St) (H:Hp) (Q:List V->Hp->Prop),Inv X pins Y H s->t Y H Q->wpAny (model X.prog X.w) X.A (evalAll ((backToKw pos (keywordEach kws X.env)).map (·.2))) (AP X pins Y Q) X.xe s
section
variable {X:Cx} {CX:X5} {k:Nat} {f C:Addr} {fd:FuncData} {ps ks:List Str} {sp:Sp} {E:XK} {x m:Str} {p pos apos kpos:Pos} {e o:Expr} {es:List Expr} {kws:List Keyword} {te ta:TE} {t tk:TA} {nm:Option Str}
theorem aoZ:PK X [] tNil:=fun _ _ _ _ H Q I h=>wpAny_evalAll_nil ⟨[],H,I,.nil,h⟩
theorem amU(ha:PE X e te)(hr:PK X kws t):PK X (⟨nm,e,kpos⟩::kws) (tCons te t):=by
 intro pos pins s Y H Q I h;show wpAny _ _ (evalAll ((do let v <- eval e X.env;standAt pos;pure v)::(backToKw pos (keywordEach kws X.env)).map (·.2))) _ _ s;refine wpAny_evalAll_cons (wpAny_bind (A7 (ha pins s Y H _ I h) fun u s1 ⟨x,H1,I1,r1,q1⟩=>wpAny_bind (wpAny_standAt (wpAny_pure ?_))));exact A7 (hr pos pins s1 Y H1 _ I1 q1) fun us s2 ⟨xs,H2,I2,r2,q2⟩=>⟨x::xs,H2,I2,.cons r1 r2,q2⟩
variable {g:List Value->List Value->List Value} {gV:List V->List V->List V}
end
structure FnScope(N P:List Str)(sc:Scope):Prop where
 kind:sc.kind=.function
 co:sc.isCoroutine=false
 gen:sc.isGenerator=false
 nd:N.Nodup
 pre:N.take P.length=P
 par:∀ x∈P,sc.names.lookup x=some .local\/sc.names.lookup x=some .cell
 nofree:∀ y∈sc.names,y.2≠.free
theorem yZ{kindOf:Str->Option NameKind}{x:Str} : ∀ {binds:List (Str×Value)} {m:Str->Option Value},(∀ v,(x,v)∉binds)->bindL kindOf binds m x=m x
 | [],_,_=>rfl
 | (n,v)::r,m,h=>by
  unfold bindL;rw [yZ fun w hw=>h w (N0 _ hw)]
  split
  .have:x≠n:=by rintro rfl;exact h v O2
   simp [this]
  .rfl
theorem zA{kindOf:Str->Option NameKind}{x:Str} : ∀ {binds:List (Str×Value)} {m:Str->Option Value},(∀ v,(x,v)∉binds)->bindC kindOf binds m x=m x
 | [],_,_=>rfl
 | (n,v)::r,m,h=>by
  unfold bindC;rw [zA fun w hw=>h w (N0 _ hw)]
  split
  .rfl
  .have:x≠n:=by rintro rfl;exact h v O2
   simp [this]
theorem zB{kindOf:Str->Option NameKind}{x:Str}{v:Value} : ∀ {P:List Str} {vs:List Value} {i:Nat} {m:Str->Option Value},P.Nodup->P[i]?=some x->vs[i]?=some v->kindOf x=some .local->
  bindL kindOf (P.zip vs) m x=some v
 | [],_,_,_,_,h,_,_=>by simp at h
 | _::_,[],_,_,_,_,h,_=>by simp at h
 | p::P,w::vs,0,m,nd,h1,h2,hk=>by
  simp at h1 h2;subst h1;subst h2;show bindL kindOf ((p,w)::P.zip vs) m p=_;unfold bindL;rw [yZ fun v hv=>(T6.mp nd).1 (List.of_mem_zip hv).1,if_pos hk]
  simp
 | p::P,w::vs,i+1,m,nd,h1,h2,hk=>by
  show bindL kindOf ((p,w)::P.zip vs) m x=_;unfold bindL;exact zB (i:=i) (T6.mp nd).2 (by simpa using h1) (by simpa using h2) hk
theorem zC{kindOf:Str->Option NameKind}{x:Str}{v:Value} : ∀ {P:List Str} {vs:List Value} {i:Nat} {m:Str->Option Value},P.Nodup->P[i]?=some x->vs[i]?=some v->kindOf x≠some .local->
  bindC kindOf (P.zip vs) m x=some v
 | [],_,_,_,_,h,_,_=>by simp at h
 | _::_,[],_,_,_,_,h,_=>by simp at h
 | p::P,w::vs,0,m,nd,h1,h2,hk=>by
  simp at h1 h2;subst h1;subst h2;show bindC kindOf ((p,w)::P.zip vs) m p=_;unfold bindC;rw [zA fun v hv=>(T6.mp nd).1 (List.of_mem_zip hv).1,if_neg hk]
  simp
 | p::P,w::vs,i+1,m,nd,h1,h2,hk=>by
  show bindC kindOf ((p,w)::P.zip vs) m x=_;unfold bindC;exact zC (i:=i) (T6.mp nd).2 (by simpa using h1) (by simpa using h2) hk
noncomputable def start (N:List Str) (vs:List V):St:=vs.map some++U3 (N.length-vs.length) none
noncomputable def cxOf (CX:X5) (P:Program) (w:World) (K:PySem.W.Frag) (mg:Str->Option Value) (base:Heap) (N:List Str) (qual:Str) (scope:Scope) (f:Addr) (cd:Value) (A:Around) (outer:List Env) (s:Shared) (H:Hp) (E:XK):Cx where
 prog:=P
 w:=w
 K:=K
 mg:=mg
 base:=base
 A:=A.deeper (envOfC qual scope s.heap.objs.size f cd)
 N:=N
 s₀:=s
 H₀:=H
 env:=envOfC qual scope s.heap.objs.size f cd
 outer:=outer
 stack:=envOfC qual scope s.heap.objs.size f cd::outer
 ex:=[]
 calm:=true
 fn:=fun _=>true
 pn:=[]
 xe:=fun e s'=>wpAny (model P w) (A.deeper (envOfC qual scope s.heap.objs.size f cd)) (leaving (envOfC qual scope s.heap.objs.size f cd) e) (fun _ s''=>CX outer H s E e s'') (fun e' s''=>CX outer H s E e' s'') s'
theorem zD{sc:Scope}{n:Nat}{x:Str}(h:sc.names.lookup x=some .cell):∃ c,(cellsFrom n sc.names []).lookup x=some c:=by
 have q:=PySem.W.cellsFrom_some sc.names n [] (.inl h);exact Option.isSome_iff_exists.mp q
theorem aje{CX:X5}{P:Program}{w:World}{K:PySem.W.Frag}{mg:Str->Option Value}{base:Heap}{N ps:List Str}{qual:Str}{scope:Scope}{f:Addr}{cd:Value}{A:Around}{outer:List Env}{s s1:Shared}{H:Hp}{E:XK}{us:List Value}{vs:List V}(S:FnScope N ps scope)(hd:A.handled=none)(e0:Env0 P w K mg base A outer s H)(hl:vs.length=ps.length)(r:Vals vs us)(x:InCallC s s.heap.objs.size (bindL (envOfC qual scope s.heap.objs.size f cd).kindOf (ps.zip us) fun _=>none) (cellsFrom (s.heap.objs.size+1) scope.names []) (bindC (envOfC qual scope s.heap.objs.size f cd).kindOf (ps.zip us) fun _=>none) s1) :
  Inv (cxOf CX P w K mg base N qual scope f cd A outer s H E) [] (start N vs) H s1:=by
 have J7:ps.length<=N.length:=by have:=congrArg X4 S.pre;rw [F9] at this;lia
 obtain ⟨h1,tk,rfl,hk⟩:=x.done;have noA:∀ b:Addr,b∉(cxOf CX P w K mg base N qual scope f cd A outer s H E).ex:=fun b z=>absurd (show b∈([]:List Addr) from z) (by simp)
 refine ⟨⟨e0.mod,S.kind,rfl,rfl,B3 _,fun y z c h1 h2=>?_,fun y hy=>?_,fun y c _ h=>?_,fun _=>hd,Around.frames_deeper e0.frames,.inr ⟨rfl,rfl⟩,fun b z=>absurd z (noA b),e0.bs,e0.bsz,fun b _ _=>noA b,fun b z=>absurd z (noA b),e0.funs,e0.frf⟩,
  rfl,e0.bare,Un.kept hk,⟨_,x.toInCall.ns,fun i y v h1 h2 h3=>?_⟩,fun y c h=>⟨_,x.cell y c h⟩,e0.hok.fresh (B3 _),fun y c h=>?_,fun p hp=>absurd (show p∈([]:List (Addr×Obj)) from hp) (by simp),e0.hok.kept hk,?_⟩
 .exact name_of_addr x.apart (PySem.mem_of_lookup h1) (PySem.mem_of_lookup h2)
 .have hy:scope.names.lookup y=some .cell\/scope.names.lookup y=some .free:=hy
  rcases hy with hy | hy
  .exact zD hy
  .exact absurd rfl (S.nofree _ (PySem.mem_of_lookup hy))
 .exact Nat.le_of_lt (x.above y c (PySem.mem_of_lookup h))
 .have hi:i<vs.length:=by
   unfold start at h2
   by_cases hi:i<vs.length
   .exact hi
   .rw [iR (by simpa using hi)] at h2;rw [List.getElem?_replicate] at h2
    split at h2 <;> cases h2
  have ha:vs[i]?=some v:=by
   unfold start at h2;rw [fB (by simpa using hi),P6] at h2;cases e:vs[i]? with
   | none=>rw [e] at h2;cases h2
   | some a=>rw [e] at h2;cases h2;rfl
  obtain ⟨u,hu,rv⟩:=r.get ha;have hp:ps[i]?=some y:=by
   rw [<- S.pre,List.getElem?_take_of_lt (by lia)];exact h1
  have ndP:ps.Nodup:=by rw [<- S.pre];exact S.nd.sublist (List.take_sublist _ _)
  refine ⟨u,rv,?_⟩
  rcases S.par y (N4 hp) with k | k
  .exact .inl ⟨k,zB ndP hp hu k⟩
  .obtain ⟨c,e⟩:=zD (n:=s.heap.objs.size+1) k;refine .inr ⟨.inl k,c,e,?_⟩;have q:=x.cell y c e;rw [zC ndP hp hu (by show scope.names.lookup y≠_;rw [k];decide)] at q;exact q
 .exact e0.hok.fresh (Nat.le_of_lt (x.above y c (PySem.mem_of_lookup h)))
 .unfold start;show _=N.length;rw [D1,A2,List.length_replicate];lia
theorem fn_of{CX:X5}{P:Program}{w:World}{K:PySem.W.Frag}{mg:Str->Option Value}{base:Heap}{k:Nat}{f:Addr}{name qual:Str}{params:Arguments}{body:List Stmt}{scope:Scope}{dV kV doc pm cdv ct oc:Value}{an od:Option Addr}{osl:Array (Option Value)}{N ps:List Str}{sp:Sp}(lk:K.lookup f=some ⟨oc,od,.func (N8 name qual params body scope dV kV doc pm an cdv ct),osl⟩)(W3:Q3 K cdv qual=true)(S:FnScope N ps scope)(len:∀ vs H Q E,sp vs H Q E->vs.length=ps.length)(V0:∀ (A:Around) (outer:List Env) (s:Shared) (H:Hp) (vs:List V) (Q:VK) (E:XK),Room k (A.deeper (envOfC qual scope s.heap.objs.size f cdv))->sp vs H Q E->
   ∃ t,U4 (cxOf CX P w K mg base N qual scope f cdv A outer s H E) body t/\t { nx:=fun _ H'=>Q .non H',rt:=Q } (start N vs) H) :
  FnOk P w K mg base CX (k+1) f (N8 name qual params body scope dV kV doc pm an cdv ct) ps sp:=by
 refine ⟨len,fun A outer s H args us vs Q E hr e0 hb r u9=>?_⟩;have hl:=len _ _ _ _ u9;have KX:K.In s.heap:=e0.mod.kin.keeps fun b o e=>(e0.bs b o e).1
 have lim:s.heap.NoLimit:=e0.mod.nolimit.keeps fun b o e=>(e0.bs b o e).1
 have lE:∀ y∈ps.zip us,scope.names.lookup y.1=some .local\/(scope.names.lookup y.1=some .cell/\((cellsFrom (s.heap.objs.size+1) scope.names []).lookup y.1).isSome=true):=fun ⟨n,v⟩ hy=>by
  rcases S.par n (List.of_mem_zip hy).1 with q | q
  .exact .inl q
  .exact .inr ⟨q,PySem.W.cellsFrom_some _ _ _ (.inl q)⟩
 refine codeAny_call_function hr.depth (KX _ _ lk) rfl S.co S.gen rfl (PySem.W.codeRec_of KX W3) (hb _ _ _ _ ?_);refine wpAny_newFunctionEnv_cells S.kind lE fun env he s1 x=>?_
 subst he;refine ⟨lim.keeps x.toInCall.keep,codeAny_func ?_⟩;obtain ⟨t,ht,hq⟩:=V0 A outer s H vs Q E (hr.deeper _) u9;have I:Inv (cxOf CX P w K mg base N qual scope f cdv A outer s H E) [] (start N vs) H s1:=aje S hr.hd e0 hl r x;refine wpAny_mono (ht [] s1 (start N vs) H _ I hq) (fun fl s' hs=>?_) fun e s' hs=>hs
 have fin:∀ {σ':St} {H':Hp} {v:V} {u:Value},Inv (cxOf CX P w K mg base N qual scope f cdv A outer s H E) [] σ' H' s'->RelV v u->Q v H'->CE outer P w H s Q u s':=
  fun {σ' H' v u} J rv q=>⟨v,H',J.os,J.bare,J.base,J.hok,rv,q⟩
 cases fl with
 | ret u=>
  obtain ⟨v,σ',H',J,rv,q⟩:=hs;exact fin J rv q
 | next=>
  obtain ⟨σ',H',J,q⟩:=hs;exact fin (v:=V.non) (u:=Value.none) J rfl q
 | brk=>
  obtain ⟨_,_,_,q⟩:=hs;exact False.elim q
 | cont=>
  obtain ⟨_,_,_,q⟩:=hs;exact False.elim q
end L2
section
variable {C T a b dx f fa it md p r sl t0:PySem.Addr}{dvs vs xs ys:List L2.V}{Q:L2.VK}{cd ct oc pm u v vl vu:PySem.Value}{at' ck i j k n t' x1:Nat}{items items2:Array PySem.Value}{fr ns:List Int}{bmB its us:List PySem.Value}{A:PySem.Around}{s zw:PySem.Shared}{v' x y:L2.V}{pins:List (PySem.Addr×PySem.Obj)}{Y:L2.St}{H H' H0 H1 H2 H3 zt:L2.Hp}{h h' h2:PySem.Heap}{L M N N' acc g' ks line loose ls ms ps ts zs:List PySem.Str}{K:PySem.W.Frag}{mg:PySem.Str->Option PySem.Value}{fd:PySem.FuncData}{sp:L2.Sp}{X:L2.Cx}{kvs:List (L2.B5×L2.V)}{prog:PySem.Program}{E:PySem.Value->PySem.Shared->Prop}{ixs pre:List Nat}{m name qual z:PySem.Str}{e elt iter target tg:PySem.Expr}{elts es ifs:List PySem.Expr}{g:L2.TG}{c:L2.TT}{td te tl tx ty:L2.TE}{fp rs:List PySem.Addr}{apos cpos kpos spos tpos:PySem.Pos}{calm fg neg:Bool}{st:PySem.Stmt}{an od:Option PySem.Addr}{tb:L2.TS}{D:L2.Ends}{lo:Int}{o:PySem.Obj}{ta:L2.TA}{ss:Array (Option PySem.Value)}
namespace L2
open PySem PySem.Spec PyProof.Rows
section
variable {X:Cx} {x:Str} {p pos:Pos} {e:Expr} {es:List Expr} {t:TA} {id T:String} {r:List V->Hp->VK->Prop}
noncomputable def cX (r:List V->Hp->VK->Prop) (t:TA):TE:=fun Y H Q=>t Y H fun vs H1=>r vs H1 Q
theorem akU(hc:CallR X (.builtin id) r)(hg:Gl X x)(hm:X.mg x=none)(hv:bootBuiltins x=some (.builtin id))(ha:PA X (e::es) t)(hn:x≠"__name__":=by decide)(G9:(x==("__debug__" : Str))=false:=by decide)(he:starEach (e::es) X.env=(false,eval e X.env)::starEach es X.env:=by rfl)(J7:(backTo pos (starEach es X.env)).any (·.1)=false:=by rfl):PE X (.Call (.Name x p) (e::es) [] pos) (cX r t):=by
 intro pins s Y H Q I h;refine wpAny_Call_Name_kw (aY I hg hm hv ?_ hn G9);exact PyProof.Rows.callWith_builtin1 (A7 (ha pos pins s Y H _ I h) fun us s1 ⟨vs,H1,I1,r1,q1⟩=>hc pins s1 Y H1 vs us Q I1 r1 q1) he J7
theorem ajf(hc:CallR X (.type T) r)(hg:Gl X x)(hm:X.mg x=none)(hv:bootBuiltins x=some (.type T))(ha:PA X (e::es) t)(hn:x≠"__name__":=by decide)(G9:(x==("__debug__" : Str))=false:=by decide)(he:starEach (e::es) X.env=(false,eval e X.env)::starEach es X.env:=by rfl)(J7:(backTo pos (starEach es X.env)).any (·.1)=false:=by rfl):PE X (.Call (.Name x p) (e::es) [] pos) (cX r t):=by
 intro pins s Y H Q I h;refine wpAny_Call_Name_kw (aY I hg hm hv ?_ hn G9);exact PyProof.Rows.callWith_type1 (A7 (ha pos pins s Y H _ I h) fun us s1 ⟨vs,H1,I1,r1,q1⟩=>hc pins s1 Y H1 vs us Q I1 r1 q1) he J7
end
end L2
namespace HT
open PySem PyProof.Rows
section
open PySem.SeqAt
open PySem.AutoSeq1 (wpAny_loadPart')
open PySem.MeetsSeq PySem.MeetsSeq2 PySem.MeetsSeq3
end
section
variable {prog:Program} {w:World} {A:Around} {E:Value->Shared->Prop} {s:Shared}
theorem cat_tup{t:Addr}{vs ws:List Value}{Q:Value->Shared->Prop}(ht:IsTup s.heap t vs.toArray)(hb:IsTup s.heap b ws.toArray)(hv:vs≠[])(h1:ws=[]->Q (.ref t) s)(h2:ws≠[]->Q (.ref s.heap.objs.size) { s with heap:=s.heap.push { cls:=.type "tuple",data:=.seq (vs++ws).toArray } })(hsz:vs.length+ws.length<=sizeLine):wpAny (model prog w) A (binaryOp .Add (.ref t) (.ref b)) Q E s:=by
 obtain ⟨⟨cls,dd,data,sl⟩,ho,hc,n,hd⟩:=id ht;obtain ⟨⟨cls2,Z8,data2,X6⟩,v4,W4,n2,R3⟩:=id hb;simp only at hc hd W4 R3;subst hc hd W4 R3;have e:vs.toArray++ws.toArray=(vs++ws).toArray:=by simp
 by_cases hw:ws=[]
 .exact concat_meets ⟨_,ho,rfl⟩ ⟨_,v4,rfl⟩ noFill_tuple_add seq_tuple_add PySem.F.slot_tuple_add PySem.F.entry_tuple_add (PySem.F.args_tuple_add_2 _ _)
   (tuple_addW1 t b vs.toArray ws.toArray n n2 dd Z8 sl X6 (by simpa using hv) (by simp [hw])) ⟨ho,v4,h1 hw⟩
 .refine concat_meets ⟨_,ho,rfl⟩ ⟨_,v4,rfl⟩ noFill_tuple_add seq_tuple_add PySem.F.slot_tuple_add PySem.F.entry_tuple_add (PySem.F.args_tuple_add_2 _ _)
   (tuple_addW2 t b vs.toArray ws.toArray n n2 dd Z8 sl X6 (by simpa using hv) (by simpa using hw) (by rw [K3,K3];exact hsz)) ⟨ho,v4,?_⟩
  rw [e];exact h2 hw
noncomputable def sIx (n d:Nat):Option Int->Nat
 | none=>d
 | some v=>if v<0 then (v+(n:Int)).toNat else min v.toNat n
theorem sIx_nat(n d k:Nat):sIx n d (some (k:Int))=min k n:=by
 show (if (k:Int)<0 then ((k:Int)+(n:Int)).toNat else min (k:Int).toNat n)=min k n;rw [if_neg (by lia),jF]
theorem sIx_le(n d:Nat)(hd:d<=n)(o:Option Int):sIx n d o<=n:=by
 cases o with
 | none=>exact hd
 | some v=>
  show (if v<0 then (v+(n:Int)).toNat else min v.toNat n)<=n
  by_cases hv:v<0
  .rw [if_pos hv];lia
  .rw [if_neg hv];exact Nat.min_le_right _ _
theorem clip_eq(v:Int)(n d:Nat):(if v<0 then max (v+(n:Int)) 0 else min v (n:Int))=((sIx n d (some v):Nat):Int):=by
 show (if v<0 then max (v+(n:Int)) 0 else min v (n:Int))=(((if v<0 then (v+(n:Int)).toNat else min v.toNat n):Nat):Int)
 by_cases hv:v<0
 .simp only [if_pos hv];lia
 .simp only [if_neg hv];lia
theorem ail(lo hi:Option Int)(n:Nat):Builtin.Slice.sliceAdjust lo hi 1 (n:Int)=(((sIx n 0 lo:Nat):Int),((sIx n n hi:Nat):Int)):=by
 have h1:¬ ((1:Int)<0):=by lia
 unfold Builtin.Slice.sliceAdjust;simp only [h1,if_false];refine Prod.ext ?_ ?_
 .cases lo with
  | none=>rfl
  | some v=>exact clip_eq v n 0
 .cases hi with
  | none=>rfl
  | some v=>exact clip_eq v n n
theorem aim(i j:Nat):Builtin.Slice.slicePlaces (i:Int) (j:Int) 1=j-i:=by
 unfold Builtin.Slice.slicePlaces;have h1:(1:Int) > 0:=by lia
 simp only [h1,if_true,Int.ediv_one]
 split <;> lia
theorem zE{o:Option Int}{Q:Option Int->Shared->Prop}(p:IsPart v o)(h:Q o s):wpAny (model prog w) A (Builtin.Slice.slicePartIndex v) Q E s:=by
 cases p with
 | none=>exact slicePart_none h
 | int i t=>exact slicePart_int h
theorem sliceApplied_gen{lo hi:Option Int}{Q:Int×Int×Nat->Shared->Prop}(hs:s.heap.IsSliceOf sl vl vu .none)(pl:IsPart vl lo)(pu:IsPart vu hi)(h:Q (((sIx n 0 lo:Nat):Int),1,sIx n n hi-sIx n 0 lo) s):wpAny (model prog w) A (Builtin.Slice.sliceApplied (.ref sl) (pure (n:Int))) Q E s:=by
 obtain ⟨os,eE,pZ,lF⟩:=id hs;unfold Builtin.Slice.sliceApplied Builtin.Slice.sliceFields;refine wpAny_bind (wpAny_bind (wpAny_field eE lF (x:=vl) rfl (wpAny_bind (wpAny_field eE lF (x:=vu) rfl (wpAny_bind (wpAny_field eE lF (x:=.none) rfl (wpAny_pure ?_)))))));refine wpAny_bind (slicePart_none ?_);show wpAny _ _ (if ((1:Int)==0)=true then _ else _) _ _ s;rw [if_neg (by decide)];refine wpAny_bind (zE pl (wpAny_bind (zE pu (wpAny_bind (wpAny_pure ?_)))));show wpAny _ _ (match Builtin.Slice.sliceAdjust lo hi 1 (n:Int) with | (lo,hi)=>pure (lo,(1:Int),Builtin.Slice.slicePlaces lo hi 1)) _ _ s;rw [ail lo hi n];show wpAny _ _ (pure (((sIx n 0 lo:Nat):Int),(1:Int),Builtin.Slice.slicePlaces ((sIx n 0 lo:Nat):Int) ((sIx n n hi:Nat):Int) 1)) _ _ s;rw [aim];exact wpAny_pure h
theorem akV(xs:Array Value)(i k:Nat):((k4 k).filterMap fun (m:Nat)=>xs[((i:Int)+(m:Int)*1).toNat]?).toArray=((xs.toList.drop i).take k).toArray:=by
 have e:(fun (m:Nat)=>xs[((i:Int)+(m:Int)*1).toNat]?)=fun m=>xs[i+m]?:=by
  funext m
  have:((i:Int)+(m:Int)*1).toNat=i+m:=by lia
  rw [this]
 rw [e]
 have:=pick_run xs i k
 rw [List.filterMap_map] at this;have e2:((fun x=>xs[x]?)∘fun x=>i+x)=fun m=>xs[i+m]?:=rfl
 rw [e2] at this;rw [this]
theorem getItem_tuple_cut{t:Addr}{lo hi:Option Int}{Q:Value->Shared->Prop}(ht:IsTup s.heap t items)(hs:s.heap.IsSliceOf sl vl vu .none)(pl:IsPart vl lo)(pu:IsPart vu hi)(hw:¬ (sIx items.size 0 lo=0/\sIx items.size items.size hi=items.size))(h:Q (.ref s.heap.objs.size) { s with heap:=s.heap.push { cls:=.type "tuple",data:=.seq ((items.toList.drop (sIx items.size 0 lo)).take (sIx items.size items.size hi-sIx items.size 0 lo)).toArray } })(hsz:items.size<=sizeLine):wpAny (model prog w) A (getItem (.ref t) (.ref sl)) Q E s:=by
 have Y2:sizeOk (.seq ((items.toList.drop (sIx items.size 0 lo)).take (sIx items.size items.size hi-sIx items.size 0 lo)).toArray):=by
  show ((items.toList.drop (sIx items.size 0 lo)).take (sIx items.size items.size hi-sIx items.size 0 lo)).toArray.size<=sizeLine;rw [K3,F9,j8,cU];lia
 have hj:sIx items.size items.size hi<=items.size:=sIx_le _ _ (B3 _) hi;obtain ⟨os,eE,pZ,lF⟩:=id hs;have hTs:s.TypeIs (.ref sl) "slice":=⟨os,eE,pZ⟩
 unfold getItem
 try with_reducible refine wpAny_holding ?_
 first | refine wpAny_bind (wpAny_pure ?_) | skip
 refine wpAny_bind (wpAny_sequenceKey ht.typeIs (by decide) ?_);refine wpAny_bind (wpAny_callSpecial?_slot (name:=Str.ofString "__getitem__") ht.typeIs PyProof.Rows.slot_tuple_getitem
  (wpAny_call_entry PyProof.Rows.slot_tuple_getitem ht.typeIs entry_tuple_getitem ?_ (args_tuple_getitem _ _)))
 show wpAny _ _ (Builtin.Tuple.tupleItemsOf (.ref t) >>= _) _ _ s;refine wpAny_bind (tupleItemsOf_ ht ?_);refine wpAny_bind (wpAny_typeOf hTs ?_);rw [if_pos (by decide)];refine wpAny_bind (sliceApplied_gen hs pl pu ?_);have lG:¬ ((((sIx items.size 0 lo:Nat):Int)==0&&(1:Int)==1&&(sIx items.size items.size hi-sIx items.size 0 lo)==items.size)=true):=by
  intro q;rw [f8,f8] at q;have q1:((sIx items.size 0 lo:Nat):Int)=0:=eq_of_beq q.1.1;have q2:sIx items.size items.size hi-sIx items.size 0 lo=items.size:=eq_of_beq q.2;exact hw ⟨by lia,by lia⟩
 show wpAny _ _ (if (((sIx items.size 0 lo:Nat):Int)==0&&(1:Int)==1&&(sIx items.size items.size hi-sIx items.size 0 lo)==items.size)=true then _ else _) _ _ s;rw [if_neg lG,akV]
 first
  | exact wpAny_bind (m:=Builtin.Tuple.tupleExact _) (wpAny_newObj_type (wpAny_pure ⟨_,rfl,wpAny_pure h⟩) Y2)
  | exact wpAny_bind (m:=Builtin.Tuple.tupleExact _) (wpAny_newObj_type (wpAny_bind (wpAny_pure (wpAny_pure ⟨_,rfl,wpAny_pure h⟩))) Y2)
  | exact wpAny_bind (wpAny_bind (m:=Builtin.Tuple.tupleExact _) (wpAny_newObj_type (wpAny_pure (wpAny_pure ⟨_,rfl,wpAny_pure h⟩)) Y2))
  | exact wpAny_bind (wpAny_bind (m:=Builtin.Tuple.tupleExact _) (wpAny_newObj_type (wpAny_pure ⟨_,rfl,wpAny_pure h⟩) Y2))
end
end HT
namespace L2
open PySem PySem.Spec PyProof.Rows
noncomputable abbrev TO:=St->Hp->(Option Int->Hp->Prop)->Prop
noncomputable def PO (X:Cx) (e:Option Expr) (t:TO):Prop:=
 ∀ (pins:List (Addr×Obj)) (s:Shared) (Y:St) (H:Hp) (Q:Option Int->Hp->Prop),Inv X pins Y H s->t Y H Q->
  wpAny (model X.prog X.w) X.A (evalPart e X.env) (fun u s'=>∃ o H',Inv X pins Y H' s'/\IsPart u o/\Q o H') X.xe s
noncomputable def rS:TO:=fun _ H Q=>Q none H
noncomputable def tPart (t:TE):TO:=fun Y H Q=>t Y H fun x H1=>∃ i,x=.int i/\Q (some i) H1
theorem nG : ∀ {us:List Value},Vals (ns.map V.int) us->IntsAre us ns:=by
 induction ns with
 | nil=>intro us r;rw [cP] at r;cases r;exact .nil
 | cons n ns ih=>
  intro us r;rw [F7] at r
  cases r with
  | cons r1 r2=>
   obtain ⟨t,e⟩:=r1;subst e;exact .cons n t (ih r2)
section
variable {X:Cx} {e:Expr} {te:TE} {lo hi:Option Expr} {tl th:TO} {pos p2:Pos}
theorem amV:PO X none rS:=by
 intro pins s Y H Q I h;rw [evalPart_none];exact wpAny_pure ⟨none,H,I,.none,h⟩
theorem amW(h:PE X e te):PO X (some e) (tPart te):=by
 intro pins s Y H Q I hw;rw [evalPart_some];refine A7 (h pins s Y H _ I hw) fun u s1 ⟨x,H1,I1,r1,q1⟩=>?_
 obtain ⟨i,rfl,q⟩:=q1;obtain ⟨t,rfl⟩:=r1;exact ⟨some i,H1,I1,.int i t,q⟩
noncomputable def fR (X:Cx) (r:V->Option Int->Option Int->Hp->VK->Prop):Prop:=
 ∀ (pins:List (Addr×Obj)) (s:Shared) (Y:St) (H:Hp) (x:V) (v vl vu:Value) (lo hi:Option Int) (sl:Addr) (Q:VK),Inv X pins Y H s->RelV x v->s.heap.IsSliceOf sl vl vu .none->IsPart vl lo->IsPart vu hi->r x lo hi H Q->
  ∃ T id,typeLookup (.type T) "__getitem__"=pure (some (.builtin id))/\s.TypeIs v T/\wpAny (model X.prog X.w) X.A (getItem v (.ref sl)) (EP X pins Y Q) X.xe s
noncomputable def rT (r:V->Option Int->Option Int->Hp->VK->Prop) (te:TE) (tl th:TO):TE:=fun Y H Q=>te Y H fun x H1=>tl Y H1 fun l H2=>th Y H2 fun u H3=>r x l u H3 Q
theorem akW{r:V->Option Int->Option Int->Hp->VK->Prop}(hr:fR X r)(he:PE X e te)(hl:PO X lo tl)(hu:PO X hi th):PE X (.Subscript e (.Slice lo hi none p2) pos) (rT r te tl th):=by
 intro pins s Y H Q I h;refine Subscript_ (A7 (he pins s Y H _ I h) fun v s1 ⟨x,H1,I1,r1,q1⟩=>?_);refine wpAny_Slice (A7 (hl pins s1 Y H1 _ I1 q1) fun vl s2 ⟨l,H2,I2,pl,q2⟩=>A7 (hu pins s2 Y H2 _ I2 q2) fun vu s3 ⟨u,H3,I3,pu,q3⟩=>?_);rw [evalPart_none];refine wpAny_pure ?_;have I4:Inv X pins Y H3 { s3 with heap:=s3.heap.push { cls:=.type "slice",data:=.fields #[vl,vu,.none] } }:=I3.kept (t':=s3.toks) fun b ob q=>Heap.get?_push_of_some _ q
 obtain ⟨T,id,hT,ht,hg⟩:=hr pins { s3 with heap:=s3.heap.push { cls:=.type "slice",data:=.fields #[vl,vu,.none] } } Y H3 x v vl vu l u s3.heap.objs.size Q I4 r1 (Heap.IsSliceOf.new ..) pl pu q3;show wpAny (model X.prog X.w) X.A (subscriptTail e (.Slice lo hi none p2) v (.ref s3.heap.objs.size)) (EP X pins Y Q) X.xe { s3 with heap:=s3.heap.push { cls:=.type "slice",data:=.fields #[vl,vu,.none] } };exact tail_any (ops:=[.ref s3.heap.objs.size,v]) ht hT hg (by with_unfolding_all rfl)
noncomputable def cutV (xs:List V) (lo hi:Option Int):List V:=(xs.drop (HT.sIx xs.length 0 lo)).take (HT.sIx xs.length xs.length hi-HT.sIx xs.length 0 lo)
theorem zF(xs:List V)(lo hi:Option Int):(cutV xs lo hi).length<=xs.length:=by
 unfold cutV;rw [F9,j8];lia
noncomputable def rSlT (K:PySem.W.Frag):V->Option Int->Option Int->Hp->VK->Prop:=fun x lo hi H Q=>∃ a xs,x=.ref a/\C4 K H a xs/\
 ¬ (HT.sIx xs.length 0 lo=0/\HT.sIx xs.length xs.length hi=xs.length)/\∀ p,H p=none->Q (.ref p) (A0 H p (.tup (cutV xs lo hi)))
theorem ao0:fR X (rSlT X.K):=by
 intro pins s Y H x v vl vu lo hi sl Q I rx hs pl pu h;obtain ⟨a,xs,rfl,hx,hw,q⟩:=h
 cases rx
 obtain ⟨its,r,ht,hz⟩:=I.tuple hx;have A6:its.toArray.size=xs.length:=by rw [K3];exact r.length.symm
 refine ⟨"tuple",_,PyProof.Rows.slot_tuple_getitem.lookup,ht.typeIs,?_⟩;refine HT.getItem_tuple_cut ht hs pl pu (by rw [A6];exact hw) ?_ (by rw [A6];exact hz);rw [A6];refine ⟨.ref s.heap.objs.size,_,I.laid (t':=s.toks) (o:=.tup (cutV xs lo hi)) (fun b ob q=>Heap.get?_push_of_some _ q) (B3 _) ?_,rfl,q _ (I.hok.fresh (B3 _))⟩;exact ⟨E8 (zF xs lo hi) hz,_,(r.drop (HT.sIx xs.length 0 lo)).take (HT.sIx xs.length xs.length hi-HT.sIx xs.length 0 lo),IsTup.new _ _⟩
noncomputable def rCatT (K:PySem.W.Frag):R2:=fun x y H Q=>∃ a b xs ys,x=.ref a/\y=.ref b/\C4 K H a xs/\C4 K H b ys/\xs≠[]/\xs.length+ys.length<=sizeLine/\
 (ys=[]->Q (.ref a) H)/\(ys≠[]->∀ p,H p=none->Q (.ref p) (A0 H p (.tup (xs++ys))))
theorem Vals.nil_iff(r:Vals xs us):us=[]↔xs=[]:=by
 cases r with
 | nil=>simp
 | cons _ _=>simp
theorem amX:G4 X (binaryOp .Add) (rCatT X.K):=by
 intro pins s Y H x y v u Q I rx ry h;obtain ⟨a,b,xs,ys,rfl,rfl,ha,hb,hx,hz,q1,q2⟩:=h
 cases rx
 cases ry
 obtain ⟨its,r1,p1,_⟩:=I.tuple ha;obtain ⟨its2,r2,p2,_⟩:=I.tuple hb;refine HT.cat_tup p1 p2 (fun z=>hx (r1.nil_iff.mp z)) (fun z=>⟨.ref a,H,I,rfl,q1 (r2.nil_iff.mp z)⟩) (fun z=>?_) (by rw [<- r1.length,<- r2.length];exact hz);refine ⟨.ref s.heap.objs.size,_,I.laid (t':=s.toks) (o:=.tup (xs++ys)) (fun b ob q=>Heap.get?_push_of_some _ q) (B3 _) ?_,rfl,q2 (fun w=>z (r2.nil_iff.mpr w)) _ (I.hok.fresh (B3 _))⟩;exact ⟨by rw [D1];exact hz,_,r1.append r2,IsTup.new _ _⟩
end
end L2
namespace L2
open PySem PySem.Spec PyProof.Rows
noncomputable def X7 (n:Nat) (i:Int):Option Nat:=if 0<=i then (if i<n then some i.toNat else none) else if -(n:Int)<=i then some (i+n).toNat else none
noncomputable def G0 {α:Type} (xs:List α) (i:Int):Option α:=(X7 xs.length i).bind fun j=>xs[j]?
theorem amY{i:Int}(h:X7 n i=some j):seqIndex? i n=some j/\j<n/\-(n:Int)<=i/\i<n:=by
 unfold X7 at h
 by_cases h0:0<=i
 .rw [if_pos h0] at h
  by_cases h1:i<n
  .rw [if_pos h1] at h;have e:i.toNat=j:=Option.some.inj h;exact ⟨by rw [seqIndex_of h0 h1,e],by lia,by lia,h1⟩
  .rw [if_neg h1] at h;cases h
 .rw [if_neg h0] at h
  by_cases h1:-(n:Int)<=i
  .rw [if_pos h1] at h;have e:(i+n).toNat=j:=Option.some.inj h;exact ⟨by rw [seqIndex_neg (by lia) h1,e],by lia,h1,by lia⟩
  .rw [if_neg h1] at h;cases h
theorem rV{α:Type}{xs:List α}{i:Int}{v:α}(h:G0 xs i=some v):∃ j,seqIndex? i xs.length=some j/\xs[j]?=some v/\j<xs.length/\-(xs.length:Int)<=i/\i<xs.length:=by
 unfold G0 at h;cases e:X7 xs.length i with
 | none=>rw [e] at h;cases h
 | some j=>
  rw [e] at h;obtain ⟨h1,h2,h3,h4⟩:=amY e;exact ⟨j,h1,h,h2,h3,h4⟩
theorem P8{α:Type}{xs:List α}{v:α}(h:xs[j]?=some v):G0 xs (j:Int)=some v:=by
 have hj:j<xs.length:=(G1.mp h).1;have e:X7 xs.length (j:Int)=some j:=by
  unfold X7;rw [if_pos (by lia),if_pos (by lia)];simp
 unfold G0;rw [e];exact h
theorem zG{α:Type}(xs:List α)(v:α):G0 (xs++[v]) (-1)=some v:=by
 have hl:(xs++[v]).length=xs.length+1:=by simp
 have e:X7 (xs++[v]).length (-1)=some xs.length:=by
  unfold X7;rw [hl,if_neg (by decide),if_pos (by lia)]
  congr 1
  lia
 unfold G0;rw [e];show (xs++[v])[xs.length]?=some v
 simp
noncomputable def zH (b:Expr):Prop:=∀ o i,subscripted b false o i=operate [o,i] (getItem o i)
noncomputable def x6 (X:Cx) (r:R2):Prop:=
 ∀ (value slice:Expr) (pins:List (Addr×Obj)) (s:Shared) (Y:St) (H:Hp) (x y:V) (v u:Value) (Q:VK),Inv X pins Y H s->RelV x v->RelV y u->r x y H Q->
  subscripted slice false v u=operate [v,u] (getItem v u)->wpAny (model X.prog X.w) X.A (subscriptTail value slice v u) (EP X pins Y Q) X.xe s
noncomputable def nH (X:Cx) (id:String) (r:V->List V->Hp->VK->Prop):Prop:=
 ∀ (pins:List (Addr×Obj)) (s:Shared) (Y:St) (H:Hp) (x:V) (xs:List V) (v:Value) (us:List Value) (Q:VK),Inv X pins Y H s->RelV x v->Vals xs us->r x xs H Q->
  wpAny (model X.prog X.w) X.A (call (.builtin id) (v::us)) (EP X pins Y Q) X.xe s
section
variable {X:Cx} {a b:Expr} {ta tb:TE} {pos:Pos}
theorem x6.or{r r':R2}(h:x6 X r)(h':x6 X r'):x6 X (fun x y H Q=>r x y H Q\/r' x y H Q):=by
 intro value slice pins s Y H x y v u Q I rx ry q hs
 rcases q with q | q
 .exact h value slice pins s Y H x y v u Q I rx ry q hs
 .exact h' value slice pins s Y H x y v u Q I rx ry q hs
theorem pe_ix{r:R2}(hr:x6 X r)(ha:PE X a ta)(hb:PE X b tb)(hs:zH b):PE X (.Subscript a b pos) (x4 r ta tb):=by
 intro pins s Y H Q I h;exact Subscript_ (binT ha hb I h fun v u s2 x y H2 I2 rx ry q=>hr a b pins s2 Y H2 x y v u Q I2 rx ry q (hs _ _))
noncomputable def rIxL (K:PySem.W.Frag):R2:=fun x y H Q=>∃ p xs i v,x=.ref p/\y=.int i/\C7 K H p xs/\G0 xs i=some v/\Q v H
noncomputable def rIxT (K:PySem.W.Frag):R2:=fun x y H Q=>∃ p xs i v,x=.ref p/\y=.int i/\C4 K H p xs/\G0 xs i=some v/\Q v H
noncomputable def rIxS:R2:=fun x y H Q=>∃ z i c,x=.str z/\y=.int i/\z.length<=sizeLine/\G0 z.cps.toList i=some c/\Q (.str ⟨#[c]⟩) H
theorem ix_list:x6 X (rIxL X.K):=by
 intro value slice pins s Y H x y v u Q I rx ry h hs;obtain ⟨p,xs,i,z,rfl,rfl,hq,he,q⟩:=h
 cases rx
 obtain ⟨t,rfl⟩:=ry;obtain ⟨its,r,pl,hz⟩:=I.list hq;obtain ⟨j,h1,h2,h3,h4,h5⟩:=rV he;obtain ⟨w,ew,rw'⟩:=r.get h2;have hl:=r.length;have hn:=jJ;have fin:EP X pins Y Q w s:=⟨z,H,I,rw',q⟩
 by_cases h0:0<=i
 .have hj:i.toNat=j:=by
   rw [seqIndex_of h0 h5] at h1;exact Option.some.inj h1
  exact item_listR pl.isList h0 (by lia) (by rw [hj];simpa using ew) fin hs
 .have hj:(i+(its.toArray.size:Int)).toNat=j:=by
   rw [seqIndex_neg (by lia) h4] at h1;rw [K3,<- hl];exact Option.some.inj h1
  exact subscriptTail_builtinR (x:=w) pl.isList.typeIs slot_list_getitem.lookup
   (wpAny_getItem_list_neg (Q:=fun r s'=>r=w/\EP X pins Y Q r s') pl.isList (by lia) (by rw [K3] <;> lia) (by lia) (by rw [hj];simpa using ew) ⟨rfl,fin⟩) hs
theorem ix_tup:x6 X (rIxT X.K):=by
 intro value slice pins s Y H x y v u Q I rx ry h hs;obtain ⟨p,xs,i,z,rfl,rfl,hq,he,q⟩:=h
 cases rx
 obtain ⟨t,rfl⟩:=ry;obtain ⟨its,r,pl,hz⟩:=I.tuple hq;obtain ⟨j,h1,h2,h3,h4,h5⟩:=rV he;obtain ⟨w,ew,rw'⟩:=r.get h2;have hl:=r.length;have hn:=jJ;have fin:EP X pins Y Q w s:=⟨z,H,I,rw',q⟩
 exact subscriptTail_builtinR (x:=w) pl.typeIs slot_tuple_getitem.lookup
  (getItem_tuple (j:=j) (Q:=fun r s'=>r=w/\EP X pins Y Q r s') pl (by lia) (by lia) (by rw [K3,<- hl];exact h1) (by simpa using ew) ⟨rfl,fin⟩) hs
theorem ao1:x6 X rIxS:=by
 intro value slice pins s Y H x y v u Q I rx ry h hs;obtain ⟨z,i,c,rfl,rfl,hz,he,q⟩:=h;obtain ⟨t,rfl⟩:=rx;obtain ⟨t',rfl⟩:=ry;obtain ⟨j,h1,h2,h3,h4,h5⟩:=rV he;have hl:z.cps.toList.length=z.length:=by simp [Str.length]
 rw [hl] at h1 h4 h5;have hn:=jJ;exact tail_any (typeIs_str s z t) slot_str_getitem.lookup (getItem_str (c:=c) (by
  have e1:decide (i < -(2 ^ 63:Int))=false:=decide_eq_false (by lia);have e2:decide (i≥2 ^ 63)=false:=decide_eq_false (by lia);rw [e1,e2,Bool.or_false]) (by rw [h1];simpa using h2) ⟨.str ⟨#[c]⟩,H,I.tok _,⟨_,rfl⟩,q⟩) hs
noncomputable def fS (K:PySem.W.Frag):R2:=fun x y H Q=>rIxL K x y H Q\/rIxT K x y H Q\/rIxS x y H Q
theorem ao2:x6 X (fS X.K):=ix_list.or (ix_tup.or ao1)
noncomputable def rSetL:V->V->V->Hp->(Hp->Prop)->Prop:=fun o i v H Q=>∃ p xs k j,o=.ref p/\i=.int k/\H p=some (.lst xs)/\X7 xs.length k=some j/\Q (A0 H p (.lst (xs.set j v)))
theorem afN(lo hi:Option Int)(n:Nat):(sliceBounds lo hi none n).1=((HT.sIx n 0 lo:Nat):Int)/\(sliceBounds lo hi none n).2.1=((HT.sIx n n hi:Nat):Int)/\(sliceBounds lo hi none n).2.2=1:=by
 refine ⟨?_,?_,rfl⟩
 .cases lo with
  | none=>simp [sliceBounds,HT.sIx]
  | some i=>
   simp only [sliceBounds,HT.sIx,Option.getD_none,show (1:Int) > 0 by decide,if_true]
   by_cases h:i<0
   .simp only [h,if_true] <;> lia
   .simp only [h,if_false] <;> lia
 .cases hi with
  | none=>simp [sliceBounds,HT.sIx]
  | some i=>
   simp only [sliceBounds,HT.sIx,Option.getD_none,show (1:Int) > 0 by decide,if_true]
   by_cases h:i<0
   .simp only [h,if_true] <;> lia
   .simp only [h,if_false] <;> lia
theorem afb(its:List Value)(lo hi:Option Int):slicePick its.toArray lo hi none=((its.drop (HT.sIx its.length 0 lo)).take (HT.sIx its.length its.length hi-HT.sIx its.length 0 lo)).toArray:=by
 obtain ⟨h1,h2,h3⟩:=afN lo hi its.toArray.size;unfold slicePick;rw [h1,h2,h3];simp only [sliceRange_one,pick_run,K3] <;> rfl
noncomputable def rSlL (K:PySem.W.Frag):V->Option Int->Option Int->Hp->VK->Prop:=fun x lo hi H Q=>∃ a xs,x=.ref a/\C7 K H a xs/\∀ p,H p=none->Q (.ref p) (A0 H p (.lst (cutV xs lo hi)))
theorem amZ:fR X (rSlL X.K):=by
 intro pins s Y H x v vl vu lo hi sl Q I rx hs pl pu h;obtain ⟨a,xs,rfl,hx,q⟩:=h
 cases rx
 obtain ⟨its,r,ht,hz⟩:=I.list hx;have A6:=r.length;refine ⟨"list",_,slot_list_getitem.lookup,ht.isList.typeIs,?_⟩;refine wpAny_getItem_list_slice ht.isList hs pl pu .none (by simp) ?_ (by rw [K3] <;> lia);rw [afb,<- A6];refine ⟨.ref s.heap.objs.size,_,I.laid (t':=s.toks) (o:=.lst (cutV xs lo hi)) (fun b ob q=>Heap.get?_push_of_some _ q) (B3 _) ?_,rfl,q _ (I.hok.fresh (B3 _))⟩;exact ⟨E8 (zF xs lo hi) hz,_,0,(r.drop (HT.sIx xs.length 0 lo)).take (HT.sIx xs.length xs.length hi-HT.sIx xs.length 0 lo),Heap.get?_push_size _ rfl⟩
noncomputable def flatV:V->Bool
 | .non=>true
 | .bl _=>true
 | .int _=>true
 | .str _=>true
 | _=>false
noncomputable def bA:V->V->Bool
 | .non,.non=>true
 | .bl a,.bl b=>a==b
 | .bl a,.int b=>(if a then 1 else 0)==b
 | .int a,.bl b=>a==(if b then 1 else 0)
 | .int a,.int b=>a==b
 | .str a,.str b=>a==b
 | _,_=>false
theorem ao3(ry:RelV y u)(rx:RelV x v)(fy:flatV y=true)(fx:flatV x=true):SeqAt.EqAt A s u v (bA y x):=by
 cases y with
 | non=>
  cases ry
  cases x with
  | non=>cases rx;exact SeqAt.EqAt.same _
  | bl b=>cases rx;exact SeqAt.EqAt.none_bool b
  | int b=>obtain ⟨t,rfl⟩:=rx;exact SeqAt.EqAt.none_int b t
  | str b=>obtain ⟨t,rfl⟩:=rx;exact SeqAt.EqAt.none_str b t
  | _=>exact absurd (show false=true from fx) K5
 | bl a=>
  cases ry
  cases x with
  | non=>cases rx;exact SeqAt.EqAt.bool_none a
  | bl b=>cases rx;exact SeqAt.EqAt.bool_bool a b
  | int b=>obtain ⟨t,rfl⟩:=rx;exact SeqAt.EqAt.bool_int a b t
  | str b=>obtain ⟨t,rfl⟩:=rx;exact SeqAt.EqAt.bool_str a b t
  | _=>exact absurd (show false=true from fx) K5
 | int a=>
  obtain ⟨t',rfl⟩:=ry
  cases x with
  | non=>cases rx;exact SeqAt.EqAt.int_none a t'
  | bl b=>cases rx;exact SeqAt.EqAt.int_bool a t' b
  | int b=>obtain ⟨t,rfl⟩:=rx;exact SeqAt.EqAt.int_int a t' b t
  | str b=>obtain ⟨t,rfl⟩:=rx;exact SeqAt.EqAt.int_str a t' b t
  | _=>exact absurd (show false=true from fx) K5
 | str a=>
  obtain ⟨t',rfl⟩:=ry
  cases x with
  | non=>cases rx;exact SeqAt.EqAt.str_none a t'
  | bl b=>cases rx;exact SeqAt.EqAt.str_bool a t' b
  | int b=>obtain ⟨t,rfl⟩:=rx;exact SeqAt.EqAt.str_int a t' b t
  | str b=>obtain ⟨t,rfl⟩:=rx;exact SeqAt.EqAt.str_str a t' b t
  | _=>exact absurd (show false=true from fx) K5
 | _=>exact absurd (show false=true from fy) K5
noncomputable def W9 (x:V) (u:Value):Bool:=match u with
 | .none=>bA .non x
 | .bool b=>bA (.bl b) x
 | .int i _=>bA (.int i) x
 | .str z _=>bA (.str z) x
 | _=>false
theorem zI(r:RelV y u)(f:flatV y=true):W9 x u=bA y x:=by
 cases y with
 | non=>cases r;rfl
 | bl b=>cases r;rfl
 | int i=>obtain ⟨t,rfl⟩:=r;rfl
 | str z=>obtain ⟨t,rfl⟩:=r;rfl
 | _=>exact absurd (show false=true from f) K5
theorem jL : ∀ {xs:List V} {us:List Value},Vals xs us->xs.all flatV=true->us.any (W9 x)=xs.any fun y=>bA y x
 | _,_,.nil,_=>rfl
 | y::xs,u::us,.cons r t,f=>by
  rw [List.all_cons,f8] at f;rw [j9,j9,zI r f.1,jL t f.2]
theorem jM(rx:RelV x v)(fx:flatV x=true):∀ {xs:List V} {us:List Value},Vals xs us->xs.all flatV=true->∀ u∈us,SeqAt.EqAt A s u v (W9 x u)
 | _,_,.nil,_=>fun u hu=>by cases hu
 | y::xs,u::us,.cons r t,f=>fun u' hu=>by
  rw [List.all_cons,f8] at f
  rcases E7.mp hu with rfl | hu
  .rw [zI r f.1];exact ao3 r rx f.1 fx
  .exact jM rx fx t f.2 u' hu
noncomputable def bB (x:V) (xs:List V):Bool:=xs.any fun y=>bA y x
noncomputable def rW (K:PySem.W.Frag) (neg:Bool):R2:=fun x y H Q=>∃ p xs,y=.ref p/\(C7 K H p xs\/C4 K H p xs)/\flatV x=true/\xs.all flatV=true/\Q (.bl (if neg then !bB x xs else bB x xs)) H
theorem ajh:G4 X (compareOp .In) (rW X.K false):=by
 intro pins s Y H x y v u Q I rx ry h;obtain ⟨p,xs,rfl,hq,fx,fs,q⟩:=h
 cases ry
 rcases hq with hq | hq
 .obtain ⟨its,r,pl,hz⟩:=I.list hq;refine SeqAt.in_listAt (W9 x) pl.isList (fun w hw=>jM rx fx r fs w (by simpa using hw)) ⟨.bl _,H,I,rfl,?_⟩;rw [show its.toArray.any (W9 x)=its.any (W9 x) by simp,jL r fs];exact q
 .obtain ⟨its,r,pl,hz⟩:=I.tuple hq;refine SeqAt.in_tupleAt (W9 x) pl (fun w hw=>jM rx fx r fs w (by simpa using hw)) ⟨.bl _,H,I,rfl,?_⟩;rw [show its.toArray.any (W9 x)=its.any (W9 x) by simp,jL r fs];exact q
theorem afO:G4 X (compareOp .NotIn) (rW X.K true):=by
 intro pins s Y H x y v u Q I rx ry h;obtain ⟨p,xs,rfl,hq,fx,fs,q⟩:=h
 cases ry
 rcases hq with hq | hq
 .obtain ⟨its,r,pl,hz⟩:=I.list hq;refine SeqAt.notIn_listAt (W9 x) pl.isList (fun w hw=>jM rx fx r fs w (by simpa using hw)) ⟨.bl _,H,I,rfl,?_⟩;rw [show its.toArray.any (W9 x)=its.any (W9 x) by simp,jL r fs];exact q
 .obtain ⟨its,r,pl,hz⟩:=I.tuple hq;refine SeqAt.notIn_tupleAt (W9 x) pl (fun w hw=>jM rx fx r fs w (by simpa using hw)) ⟨.bl _,H,I,rfl,?_⟩;rw [show its.toArray.any (W9 x)=its.any (W9 x) by simp,jL r fs];exact q
theorem afP:G4 X (compareOp .NotIn) (fun x y H Q=>∃ i j,x=.str i/\y=.str j/\Q (.bl (!(!(Builtin.Str.occurrences j i 0 j.length 1).isEmpty))) H):=by
 intro pins s Y H x y v u Q I rx ry h;obtain ⟨i,j,rfl,rfl,q⟩:=h;obtain ⟨t,rfl⟩:=rx;obtain ⟨t',rfl⟩:=ry;exact notIn_str ⟨.bl _,H,I,rfl,q⟩
theorem afQ:CallR X (.type "list") (fun xs H Q=>∃ p ys,xs=[.ref p]/\(C7 X.K H p ys\/C4 X.K H p ys)/\∀ l,H l=none->Q (.ref l) (A0 H l (.lst ys))):=by
 intro pins s Y H xs us Q I r h;obtain ⟨p,ys,rfl,hq,q⟩:=h;obtain ⟨u,rfl,rx⟩:=vals1 r
 cases rx
 have fin:∀ (its:List Value),Vals ys its->ys.length<=sizeLine->∀ (h':Heap) (c':Nat),(∀ b o',s.heap.get? b=some o'->h'.get? b=some o')->
   h'.get? s.heap.objs.size=some { cls:=.type "list",dict:=none,data:=.seq its.toArray c',slots:=#[] }->EP X pins Y Q (.ref s.heap.objs.size) { s with heap:=h' }:=fun its r' hz h' c' kp e=>
  ⟨.ref s.heap.objs.size,_,I.laid (t':=s.toks) kp (B3 _) (show ObjOk X.prog X.w _ h' _ (.lst ys) from ⟨hz,its,c',r',e⟩),rfl,q _ (I.hok.fresh (B3 _))⟩
 rcases hq with hq | hq
 .obtain ⟨its,r',pl,hz⟩:=I.list hq;have A6:=r'.length;obtain ⟨o,ho,hc,n,hd⟩:=pl.isList;exact call_list_seq p (.inl rfl) ho hc hd (fun h' c' kp e=>fin its r' hz h' c' kp e) (by simp only [K3] <;> lia)
 .obtain ⟨its,r',pl,hz⟩:=I.tuple hq;have A6:=r'.length;obtain ⟨o,ho,hc,n,hd⟩:=pl;exact call_list_seq p (.inr rfl) ho hc hd (fun h' c' kp e=>fin its r' hz h' c' kp e) (by simp only [K3] <;> lia)
theorem afc:CallR X (.type "tuple") (fun xs H Q=>∃ p ys,xs=[.ref p]/\((C7 X.K H p ys/\∀ l,H l=none->Q (.ref l) (A0 H l (.tup ys)))\/(C4 X.K H p ys/\Q (.ref p) H))):=by
 intro pins s Y H xs us Q I r h;obtain ⟨p,ys,rfl,h⟩:=h;obtain ⟨u,rfl,rx⟩:=vals1 r
 cases rx
 rcases h with ⟨hq,q⟩ | ⟨hq,q⟩
 .obtain ⟨its,r',pl,hz⟩:=I.list hq;have A6:=r'.length;refine call_tuple_list pl.isList (fun h' kp=>?_) (by simp only [K3] <;> lia);have I1:Inv X pins Y H { s with heap:=h' }:=I.kept (t':=s.toks) kp;have I2:Inv X pins Y (A0 H h'.objs.size (.tup ys)) { s with heap:=h'.push { cls:=.type "tuple",data:=.seq its.toArray } }:=
   I1.laid (t':=s.toks) (fun b o e=>Heap.get?_push_of_some _ e) (B3 _) (show ObjOk X.prog X.w _ _ _ (.tup ys) from ⟨hz,its,r',IsTup.new _ _⟩)
  exact ⟨.ref h'.objs.size,_,I2,rfl,q _ (I1.hok.fresh (B3 _))⟩
 .obtain ⟨its,r',pl,hz⟩:=I.tuple hq;exact call_tuple_same pl ⟨.ref p,H,I,rfl,q⟩
noncomputable def bC (K:PySem.W.Frag) (T:String) (x:V) (H:Hp):Prop:=match x with
 | .str _=>T="str"
 | .int _=>T="int"
 | .ref p=>(T="list"/\∃ xs,C7 K H p xs)\/(T="tuple"/\∃ o,K.lookup p=some o/\o.cls=.type "tuple"/\o.dict=none)\/
   (T="dict"/\((∃ kvs,H p=some (.dK kvs))\/∃ kvs,H p=some (.dT kvs)))\/(T="set"/\∃ S n,H p=some (.set S n))
 | _=>False
theorem zJ{T:String}(I:Inv X pins Y H s)(r:RelV x v)(ty:bC X.K T x H) :
  s.TypeIs v T/\∀ a,v=.ref a->∃ ob,s.heap.get? a=some ob/\ob.dict=none:=by
 cases x with
 | str z=>
  obtain ⟨t,rfl⟩:=r
  cases (show T="str" from ty)
  exact ⟨typeIs_str s z t,fun _ e=>nomatch e⟩
 | int i=>
  obtain ⟨t,rfl⟩:=r
  cases (show T="int" from ty)
  exact ⟨typeIs_int s i t,fun _ e=>nomatch e⟩
 | ref p=>
  cases r
  rcases ty with ⟨rfl,xs,hq⟩ | ⟨rfl,o,hk,hc,hd⟩ | ⟨rfl,hk⟩ | ⟨rfl,S,n,hk⟩
  .obtain ⟨its,_,pl,_⟩:=I.list hq;refine ⟨pl.isList.typeIs,fun a e=>?_⟩;cases e;obtain ⟨o,n,e,c,hd,_⟩:=pl;exact ⟨o,e,hd⟩
  .refine ⟨⟨o,I.kIn p o hk,hc⟩,fun a e=>?_⟩;cases e;exact ⟨o,I.kIn _ o hk,hd⟩
  .have z:∃ o,s.heap.get? p=some o/\o.ExactDict:=by
    rcases hk with ⟨kvs,hk⟩ | ⟨kvs,hk⟩
    .obtain ⟨_,_,_,_,o,_,_,e,ex,_⟩:=I.hok p _ hk;exact ⟨o,e,ex⟩
    .obtain ⟨_,_,_,_,o,_,_,e,ex,_⟩:=I.hok p _ hk;exact ⟨o,e,ex⟩
   obtain ⟨o,e,ex⟩:=z;refine ⟨⟨o,e,ex.1⟩,fun a e2=>?_⟩;cases e2;exact ⟨o,e,ex.2.1⟩
  .obtain ⟨o,_,_,_,e,ex,_⟩:=I.hok p _ hk;refine ⟨⟨o,e,ex.1⟩,fun a e2=>?_⟩;cases e2;exact ⟨o,e,ex.2.1⟩
 | _=>exact False.elim ty
noncomputable def tBM0 (K:PySem.W.Frag) (T:String) (r:V->List V->Hp->VK->Prop) (to:TE):TE:=fun Y H Q=>to Y H fun x H1=>bC K T x H1/\r x [] H1 Q
noncomputable def nI (K:PySem.W.Frag) (T:String) (r:V->List V->Hp->VK->Prop) (to:TE) (t:TA):TE:=fun Y H Q=>to Y H fun x H1=>bC K T x H1/\t Y H1 fun xs H2=>r x xs H2 Q
variable {o e:Expr} {es:List Expr} {to:TE} {t:TA} {name:Str} {apos cpos:Pos} {T id:String} {r:V->List V->Hp->VK->Prop}
theorem ao4(pa:PlainAttrs T)(slot:Slot T name id)(V1:typeOf (.builtin id)=pure (.type "method_descriptor"))(hm:nH X id r)(ho:PE X o to)(D9:attributeBase o name X.env (eval o X.env)=eval o X.env:=by rfl)(E6:(apos.endLine==cpos.line)=true:=by rfl):PE X (.Call (.Attribute o name apos) [] [] cpos) (tBM0 X.K T r to):=by
 intro pins s Y H Q I h;refine wpAny_Call_method0_late D9 E6 (A7 (ho pins s Y H _ I h) fun v s1 ⟨x,H1,I1,r1,ty,q1⟩=>?_);obtain ⟨h1,h2⟩:=zJ I1 r1 ty;exact ⟨T,id,pa,slot,V1,h1,h2,Calls.callWith_builtin rfl (PySem.evalArgs_none (hm pins s1 Y H1 x [] v [] Q I1 r1 .nil q1))⟩
theorem pe_bm(pa:PlainAttrs T)(slot:Slot T name id)(V1:typeOf (.builtin id)=pure (.type "method_descriptor"))(hm:nH X id r)(ho:PE X o to)(ha:PA X (e::es) t)(D9:attributeBase o name X.env (eval o X.env)=eval o X.env:=by rfl)(wE:((backTo cpos (starEach (e::es) X.env)).all (fun x=>!x.1)&&(backToKw cpos (keywordEach [] X.env)).all (fun x=>x.1.isSome)
   && decide ((e::es).length+([]:List Keyword).length+(if ([]:List Keyword).isEmpty then 0 else 1)<30))=true:=by rfl)(E6:(apos.endLine==cpos.line)=true:=by rfl)(hs:starEach (e::es) X.env=(false,eval e X.env)::starEach es X.env:=by rfl)(hplain:(backTo cpos (starEach es X.env)).any (·.1)=false:=by rfl) :
  PE X (.Call (.Attribute o name apos) (e::es) [] cpos) (nI X.K T r to t):=by
 intro pins s Y H Q I h;refine wpAny_Call_method_late D9 wE E6 rfl (A7 (ho pins s Y H _ I h) fun v s1 ⟨x,H1,I1,r1,ty,q1⟩=>?_);obtain ⟨h1,h2⟩:=zJ I1 r1 ty;refine ⟨T,id,pa,slot,V1,h1,h2,?_⟩;have hA:=ha cpos pins s1 Y H1 _ I1 q1;rw [hs] at hA ⊢
 refine Calls.callWith_builtin (by show (false || (backTo cpos (starEach es X.env)).any (·.1))=false;rw [hplain] <;> rfl) (Calls.evalArgs_plain ?_);exact A7 hA fun us s2 ⟨vs,H2,I2,r2,q2⟩=>hm pins s2 Y H2 x vs v us Q I2 r1 r2 q2
end
end L2
namespace L2
open PySem PySem.Spec PyProof.Rows
noncomputable def nJ (X:Cx) (id:String) (r:V->List V->Hp->VK->Prop):Prop:=
 ∀ (pins:List (Addr×Obj)) (s:Shared) (Y:St) (H:Hp) (x:V) (xs:List V) (v:Value) (us:List Value) (Q:VK),Inv X pins Y H s->RelV x v->Vals xs us->r x xs H Q->
  wpAny (model X.prog X.w) X.A (call (.builtin id) (v::us)) (EP X pins Y Q) X.xe s
theorem Vals.one:∀ {x:V} {us:List Value},Vals [x] us->∃ u,us=[u]/\RelV x u
 | _,_,.cons r .nil=>⟨_,rfl,r⟩
theorem Vals.zero:∀ {us:List Value},Vals [] us->us=[]
 | _,.nil=>rfl
theorem Vals.eraseIdx:∀ {xs:List V} {us:List Value} (i:Nat),Vals xs us->Vals (xs.eraseIdx i) (us.eraseIdx i)
 | _,_,_,.nil=>.nil
 | _,_,0,.cons _ t=>t
 | _,_,i+1,.cons r t=>.cons r (Vals.eraseIdx i t)
theorem Vals.reverse(h:Vals xs us):Vals xs.reverse us.reverse:=by
 induction h with
 | nil=>exact .nil
 | cons r t ih=>rw [List.reverse_cons,List.reverse_cons];exact Vals.append ih (.cons r .nil)
theorem Vals.rep(h:Vals xs us):∀ k:Nat,Vals (U3 k xs).flatten (U3 k us).flatten
 | 0=>.nil
 | k+1=>by
  rw [fE,fE,fF,fF];exact Vals.append h (Vals.rep h k)
theorem zK(its:List Value):∀ (k:Nat) (acc:List Value),
  List.foldl (fun x1 x2=>x1++x2) acc.toArray (U3 k its.toArray)=(acc++(U3 k its).flatten).toArray
 | 0,acc=>by simp
 | k+1,acc=>by
  have e:acc.toArray++its.toArray=(acc++its).toArray:=by simp
  have e2:(acc++its)++(U3 k its).flatten=acc++(U3 (k+1) its).flatten:=by
   rw [fE,fF,Z0]
  rw [<- e2,<- zK its k (acc++its),<- e,fE,List.foldl_cons]
section
variable {X:Cx} {pins:List (Addr×Obj)} {Y:St} {H:Hp} {s:Shared} {l b:Addr} {xs ys zs:List V}
theorem Inv.lset{its':List Value}{f:Array Value->Array Value}(I:Inv X pins Y H s)(hH:H l=some (.lst xs))(e:s.heap.get? l=some { cls:=.type "list",data:=.seq its.toArray n })(hf:f its.toArray=its'.toArray)(hv:Vals ys its')(hz:ys.length<=sizeLine) :
  Inv X pins Y (A0 H l (.lst ys)) { s with heap:=s.heap.update l (Obj.mapSeq f),toks:=t' }:=by
 have q:=PySem.IsL.update e f;rw [hf] at q;refine I.write (x:=l) (e:=l) (by rw [hH];exact trivial) (.inl rfl) (fun b' u hb hu=>(Heap.get?_update_other s.heap (Obj.mapSeq f) (Ne.symm hb)).trans hu) ⟨_,q⟩ ?_;exact ⟨hz,its',_,hv,q⟩
theorem Inv.lnew(I:Inv X pins Y H s)(hv:Vals ys its)(hz:ys.length<=sizeLine) :
  Inv X pins Y (A0 H s.heap.objs.size (.lst ys)) { s with heap:=s.heap.push { cls:=.type "list",data:=.seq its.toArray },toks:=t' }:=
 I.laid (fun _ _ q=>Heap.get?_push_of_some _ q) (B3 _) ⟨hz,its,0,hv,Heap.get?_push_size _ rfl⟩
theorem Inv.fresh(I:Inv X pins Y H s):H s.heap.objs.size=none:=I.hok.fresh (B3 _)
theorem Inv.lstM(I:Inv X pins Y H s)(hH:H l=some (.lst xs)):xs.length<=sizeLine/\∃ (its:List Value) (n:Nat),Vals xs its/\xs.length=its.length/\s.heap.get? l=some { cls:=.type "list",data:=.seq its.toArray n }:=by
 obtain ⟨z,its,n,r,e⟩:=I.hok l _ hH;exact ⟨z,its,n,r,r.length,e⟩
theorem zL(h:n<=sizeLine):Builtin.List.listTooLong n=false:=by
 unfold Builtin.List.listTooLong;exact decide_eq_false (by lia)
end
section
variable {X:Cx}
noncomputable def rX:V->List V->Hp->VK->Prop:=fun x vs H Q=>∃ l xs y,x=.ref l/\vs=[y]/\H l=some (.lst xs)/\xs.length<sizeLine/\Q .non (A0 H l (.lst (xs++[y])))
theorem zM:nJ X "list.append" rX:=by
 intro pins s Y H x vs v us Q I rx rv h;obtain ⟨l,xs,y,rfl,rfl,hH,hz,q⟩:=h
 cases rx
 obtain ⟨u,rfl,ru⟩:=rv.one;obtain ⟨z,its,n,r,hl,e⟩:=I.lstM hH;refine call_meets F.slot_list_append ⟨_,e,rfl⟩ F.entry_list_append (F.args_list_append_2 _ _) (PySem.list_append l its.toArray n u (by rw [K3];lia)) ⟨e,?_⟩;refine ⟨.non,_,I.lset (its':=its++[u]) hH e (by simp) (r.append (.cons ru .nil)) ?_,rfl,q⟩;rw [D1,V3];lia
noncomputable def zN:V->List V->Hp->VK->Prop:=fun x vs H Q=>∃ l xs,x=.ref l/\vs=[]/\H l=some (.lst xs)/\Q .non (A0 H l (.lst xs.reverse))
theorem ain:nJ X "list.reverse" zN:=by
 intro pins s Y H x vs v us Q I rx rv h;obtain ⟨l,xs,rfl,rfl,hH,q⟩:=h
 cases rx
 have hus:=rv.zero;subst hus;obtain ⟨z,its,n,r,hl,e⟩:=I.lstM hH;refine call_meets F.slot_list_reverse ⟨_,e,rfl⟩ F.entry_list_reverse (F.args_list_reverse_1 _) (AutoSeq1.list_reverse_list_0 l its.toArray n (by rw [K3];lia)) ⟨e,?_⟩;refine ⟨.non,_,I.lset (its':=its.reverse) hH e (by simp) r.reverse ?_,rfl,q⟩;rw [List.length_reverse];lia
noncomputable def rCat:R2:=fun x y H Q=>∃ l b xs zs,x=.ref l/\y=.ref b/\H l=some (.lst xs)/\H b=some (.lst zs)/\xs.length+zs.length<=sizeLine/\∀ p,H p=none->Q (.ref p) (A0 H p (.lst (xs++zs)))
theorem ao5:G4 X (binaryOp .Add) rCat:=by
 intro pins s Y H x y v u Q I rx ry h;obtain ⟨l,b,xs,zs,rfl,rfl,hH,hB,hz,q⟩:=h
 cases rx
 cases ry
 obtain ⟨z,its,n,r,hl,e⟩:=I.lstM hH;obtain ⟨z2,its2,n2,r2,v6,e2⟩:=I.lstM hB;refine PySem.P.add_list e e2 ?_ (by rw [K3,K3];lia);have ea:its.toArray++its2.toArray=(its++its2).toArray:=by simp
 rw [ea];exact ⟨.ref _,_,I.lnew (t':=s.toks) (r.append r2) (by rw [D1];lia),rfl,q _ I.fresh⟩
noncomputable def rRep:R2:=fun x y H Q=>∃ l k xs,x=.ref l/\y=.int k/\H l=some (.lst xs)/\-(2 ^ 63)<=k/\k<2 ^ 63/\xs.length*k.toNat<=sizeLine/\
 ∀ p,H p=none->Q (.ref p) (A0 H p (.lst (U3 k.toNat xs).flatten))
theorem am0{α:Type}(xs:List α)(k:Nat):(U3 k xs).flatten.length=k*xs.length:=by
 induction k with
 | zero=>simp
 | succ k ih=>rw [fE,fF,D1,ih,Nat.succ_mul,Nat.add_comm]
theorem ao6:G4 X (binaryOp .Mult) rRep:=by
 intro pins s Y H x y v u Q I rx ry h;obtain ⟨l,k,xs,rfl,rfl,hH,h1,h2,hz,q⟩:=h
 cases rx
 obtain ⟨t,rfl⟩:=ry;obtain ⟨z,its,n,r,hl,e⟩:=I.lstM hH;have A6:its.toArray.size*k.toNat<=sizeLine:=by rw [K3,<- hl];exact hz
 have wF:¬ its.toArray.size*k.toNat > (2 ^ 63-1) / 8:=by
  have:(sizeLine:Nat)<=(2 ^ 63-1) / 8:=by decide
  lia
 have wG:¬ (!Builtin.List.listFitsIndex k)=true:=by
  rw [fitsIndex_both h1 h2];exact K5
 have n8:¬ Builtin.List.listTooLong (its.toArray.size*k.toNat)=true:=by
  rw [zL A6];exact K5
 have R4:List.foldl (fun x1 x2=>x1++x2) #[] (U3 (if its.toArray.isEmpty=true then 0 else k.toNat) its.toArray)=(U3 k.toNat its).flatten.toArray:=by
  have f0:∀ m:Nat,List.foldl (fun x1 x2=>x1++x2) #[] (U3 m its.toArray)=(U3 m its).flatten.toArray:=fun m=>by
   have:=zK its m []
   rw [fI] at this;exact this
  rw [f0]
  cases its with
  | nil=>simp
  | cons a r'=>rw [if_neg (by simp)]
 refine wpAny_binaryOp_repeat_ref (T:="list") (U:="int") (by decide) ⟨_,e,rfl⟩ (fun s'=>typeIs_int s' k t) noFill_list_mul F.fills_int_mul F.slot_int_rmul repeat_list F.slot_int_index.lookup
  (call_meets F.slot_int_rmul (typeIs_int s k t) F.entry_int_rmul (F.args_int_rmul_2 _ _) (int___rmul___int_list k t l its.toArray n)
   ⟨e,rfl,⟨_,e,rfl⟩,call_meets F.slot_list_mul ⟨_,e,rfl⟩ F.entry_list_mul (F.args_list_mul_2 _ _) (AutoListH.list___mul___list_int_3 l its.toArray n k t wG wF n8) ⟨e,?_⟩⟩)
 rw [R4];exact ⟨.ref _,_,I.lnew (t':=s.toks) (r.rep k.toNat) (by rw [am0,Nat.mul_comm];exact hz),rfl,q _ I.fresh⟩
end
section
variable {prog:Program} {w:World} {A:Around} {E:Value->Shared->Prop} {s:Shared}
end
section
variable {X:Cx}
end
end L2
namespace Att
open PySem PySem.W PySem.Calls PyProof.Rows
theorem ad3{P:Params} : ∀ (ns:List Int) (vs:List Value),WellAll P h vs (ns.map WData.int)->IntsAre vs ns:=by
 intro ns
 induction ns with
 | nil=>
  intro vs w;rw [cP] at w
  cases w
  exact .nil
 | cons n ns ih=>
  intro vs w;rw [F7] at w
  cases w with
  | cons a b=>
   cases a
   exact .cons _ _ (ih _ b)
theorem aji{l:OpenLaw}(hn:l.most=some n){P:Params}{args:List WData}{vals:List Value}(n9:l.row.toRowW.claim.pre args=true)(wH:WellAll P h vals args) :
  ∃ a vs ns,vals=[Value.ref a]/\args=[WData.list (ns.map WData.int)]/\h.get? a=some { cls:=.type "list",data:=.seq vs.toArray }/\IntsAre vs ns/\ns.length<=n:=by
 have hsh:WShape.hasAll [] args [.list .int]=true:=(pre_splitW n9).1;have hc:l.pre.holds [] { args:=args }=true:=(pre_splitW n9).2;obtain ⟨d,r,rfl,h1,h2⟩:=hasAllW_cons hsh;obtain rfl:=hasAllW_nil h2;obtain ⟨xs,rfl,h3⟩:=hasW_list h1;obtain ⟨ns,rfl⟩:=items_int h3;have A6:ns.length<=n:=by
  unfold OpenLaw.pre at hc;have h4:(WTm.not (.lt (.lit (.int (n:Int))) (.len (.arg 0)))).holds [] { args:=[.list (ns.map .int)] }=true:=by
   have h4:=(holds_andW hc).1;rw [hn] at h4;exact h4
  have h5:=condW_of h4 (w_not (w_lt w_lit (w_len_list (w_arg rfl))));rw [A2] at h5;refine Nat.le_of_not_lt fun q=>?_
  have q':(n:Int)<((ns.length:Nat):Int):=by lia
  first
   | (rw [decide_eq_true q'] at h5;exact absurd h5 (by decide))
   | (simp at h5;lia)
 cases wH with
 | cons w1 w2=>
  cases w2
  cases w1 with
  | list ho N6=>exact ⟨_,_,ns,rfl,rfl,ho,ad3 ns _ N6,A6⟩
theorem ajj(l:OpenLaw)(args:List WData):l.row.toRowW.claim.post args (.bool true) args=true:=
 postW_of (r:=l.row.toRowW) (X:=(true==true))
  (show WShape.has [] (.bool true) .bool=true by first | rfl | decide | simp [WShape.has,WShape.arms,WShape.armsAll])
  (show (WTm.eq .res (.lit (.bool true))).value [] { args:=args,res:=some (.bool true),after:=args }=some (.bool (true==true)) from w_eq_bool (w_res rfl) w_lit) rfl
theorem attach_call{l:OpenLaw}{q:Program}{XP:(Str->Option Value)->Heap->Prop}{YP:World->Heap->Prop}{d:DefRec}(hn:l.most=some n)(v7:d.params.defaults=[])(call:∀ (w:World) (s₀ zu:Shared) (mg mb:Str->Option Value) (fa:Addr) (o:Obj) (pm cd doc:Value) (a:Addr) (vs:List Value) (ns:List Int),
   Ground q loose [] XP w s₀ mg mb zu.heap->YP w zu.heap->
   zu.heap.get? fa=some o->o.data=.func (docDef d.name d.params d.body d.scope pm cd doc)->zu.heap.CodeRec cd d.name->mg d.name=some (.ref fa)->
   zu.heap.get? a=some { cls:=.type "list",data:=.seq vs.toArray }->IntsAre vs ns->ns.length<=n->zu.gens=#[]->
   codeAny (model l.prog w) callerA (.call (.ref fa) ⟨[.ref a],[]⟩) (fun r s'=>r=.ok (.ret (.bool true))/\OldK zu.heap s'.heap/\s'.os=zu.os/\AllBare s'.gens) zu) :
  WalkO q loose XP YP l.row.toRowW d [] (fun f vs=>PySem.call f vs):=by
 intro w s₀ zu mg mb G zy fa o pm cd doc dV kV ho hd W3 hD eF hg args vals as n9 hlay hrd wH hlo;obtain rfl:dV=.none:=Dflts.none hD v7;obtain rfl:kV=.none:=Dflts.noKw hD;obtain ⟨a,vs,ns,rfl,rfl,eG,o0,A6⟩:=aji hn n9 wH;refine enter_call (codeAny_mono (call w s₀ zu mg mb fa o pm cd doc a vs ns G zy ho (fd_plain hd) W3 eF eG o0 A6 hg) fun r s' hq=>?_);obtain ⟨rfl,h2,h3,h4⟩:=hq;exact ⟨.inl ⟨.bool true,.bool true,[],rfl,fun _=>rfl,.bool true,ajj l _,fun _=>⟨List.Pairwise.nil,fun _ hm=>(nomatch hm)⟩⟩,h2,h3,h4⟩
section
variable {prog:Program} {w:World} {A:Around} {E:Value->Shared->Prop} {s:Shared} {K:Frag}
end
end Att
namespace L2
open PySem PySem.Spec PyProof.Rows
theorem zO:∀ {vs:List Value} {ns:List Int},IntsAre vs ns->Vals (ns.map V.int) vs
 | _,_,.nil=>.nil
 | _,_,.cons n t h=>.cons ⟨t,rfl⟩ (zO h)
noncomputable def Only (H:Hp):Prop:=∀ b,H b=none\/∃ o xs,H b=some (.frz o (.lst xs))
theorem akX{P:Program}{w:World}{mb:Str->Option Value}{CX:X5}{x:Str}{zu:Shared}{vs:List Value}(KX:K.In zu.heap)(bW:zu.heap.Ns mainGlobals mg)(hb:zu.heap.Ns builtinsNs mb)(hbb:∀ x:Str,x≠"__name__"->mb x=bootBuiltins x)(wI:zu.heap.NoLimit)(hg:zu.gens=#[])(ha:zu.heap.get? a=some { cls:=.type "list",data:=.seq vs.toArray })(hi:IntsAre vs ns)(hl:ns.length<=sizeLine)(hr:Room k callerA)(F:∀ base:Heap,K.In base->base.Ns mainGlobals mg->FnOk P w K mg base CX k fa fd [x] sp)(lH:∀ (s:Shared) (u:Value),BindsTo s fd ⟨[u],[]⟩ [(x,u)])(u9:∀ H:Hp,Only H->C7 K H a (ns.map V.int)->sp [.ref a] H (fun v _=>v=.bl true) fun _ _ _=>False)(hCX:∀ H e s',CX [] H zu (fun _ _ _=>False) e s'->False) :
  codeAny (model P w) callerA (.call (.ref fa) ⟨[.ref a],[]⟩) (fun r s'=>r=.ok (.ret (.bool true))/\OldK zu.heap s'.heap/\s'.os=zu.os/\AllBare s'.gens) zu:=by
 have rv:=zO hi;have lenV:=hi.length;have core:∀ H:Hp,Only H->C7 K H a (ns.map V.int)->K6 P w H zu.heap->(∀ b,H b≠none->b=a)->(H a≠none->K.lookup a=none)->
   codeAny (model P w) callerA (.call (.ref fa) ⟨[.ref a],[]⟩) (fun r s'=>r=.ok (.ret (.bool true))/\OldK zu.heap s'.heap/\s'.os=zu.os/\AllBare s'.gens) zu:=by
  intro H hO hS hok hA hK;have base_of:∀ {b:Addr} {o:Obj},zu.heap.get? b=some o->H b=none->(hidT zu.heap H).get? b=some o:=fun e n=>akG e n
  have noA:∀ {b:Addr} {o:Obj} {es:Array DictEntry} {ep:Nat},zu.heap.get? b=some o->o.data=.dict es ep->H b=none:=fun {b o es ep} e d=>by
   cases q:H b with
   | none=>rfl
   | some u=>
    have e':b=a:=hA b (by rw [q];simp);subst e';rw [ha] at e;cases e;have d':Data.seq vs.toArray _=Data.dict es ep:=d
    cases d'
  have nsK:∀ {b:Addr} {m:Str->Option Value},zu.heap.Ns b m->(hidT zu.heap H).Ns b m:=fun {b m} ⟨o,es,ep,e,d,r⟩=>⟨o,es,ep,base_of e (noA e d),d,r⟩
  have hKb:K.In (hidT zu.heap H):=fun b o e=>base_of (KX b o e) (by
   cases q:H b with
   | none=>rfl
   | some u=>
    have e':b=a:=hA b (by rw [q];simp);subst e';rw [hK (by rw [q];simp)] at e;cases e)
  have hM:Mod K mg (hidT zu.heap H):=⟨hKb,nsK bW,⟨mb,nsK hb,hbb⟩,let ⟨mc,h1,h2⟩:=wI;⟨mc,nsK h1,h2⟩⟩
  have e0:Env0 P w K mg (hidT zu.heap H) callerA [] zu H:=⟨rfl,hM,fun b o e=>amB e,Nat.le_of_eq (aiS _ _),trivial,fun b hb=>absurd (show b∈([]:List Addr) from hb) (by simp),hok,.of_eq hg⟩
  refine codeAny_mono ((F _ hKb (nsK bW)).run callerA [] zu H ⟨[.ref a],[]⟩ [.ref a] [.ref a] _ _ hr e0 (lH zu (.ref a)) (.cons rfl .nil) (u9 H hO hS)) fun r s' h=>?_
  cases r with
  | error e=>exact (hCX H e s' h).elim
  | ok fl=>
   cases fl with
   | next=>exact False.elim h
   | brk=>exact False.elim h
   | cont=>exact False.elim h
   | ret u=>
    obtain ⟨v,H',os,bare,un,wJ,r',q⟩:=h;have q':v=.bl true:=q;subst q';obtain rfl:u=Value.bool true:=r';refine ⟨rfl,OldK.of_keep fun b o e=>?_,os,bare⟩
    cases q:H b with
    | none=>exact un.keep b o e q (by intro z;exact absurd (show b∈([]:List Addr) from z) (by simp)) (by simp)
    | some u=>
     rcases hO b with z | ⟨ob,xs,z⟩
     .rw [q] at z;cases z
     .have z2:=un.frzs b ob _ z;obtain ⟨e1,_⟩:=hok b _ z;obtain ⟨e2,_⟩:=wJ b _ z2;rw [e] at e1;cases e1;exact e2
 cases hk:K.lookup a with
 | some o=>
  have e:=KX a o hk;rw [ha] at e;cases e;refine core (fun _=>none) (fun _=>.inl rfl) (.inr ⟨_,vs.toArray,_,hk,rfl,rfl,rfl,by rw [K3,lenV];exact hl,by simpa using rv⟩) (fun b u z=>by have z':(none:Option HO)=some u:=z;cases z') (fun b z=>absurd rfl z) fun z=>absurd rfl z
 | none=>
  refine core (fun b=>if b=a then some (.frz { cls:=.type "list",data:=.seq vs.toArray } (.lst (ns.map V.int))) else none) (fun b=>?_) (.inl (.inr ⟨{ cls:=.type "list",data:=.seq vs.toArray },if_pos rfl⟩)) (fun b u z=>?_) (fun b z=>?_) fun _=>hk
  .by_cases hb:b=a
   .exact .inr ⟨_,_,if_pos hb⟩
   .exact .inl (if_neg hb)
  .by_cases hb:b=a
   .have z':=(if_pos hb).symm.trans z
    cases z'
    subst hb;exact ⟨ha,by rw [A2];exact hl,vs,_,rv,ha⟩
   .have z':=(if_neg hb).symm.trans z
    cases z'
  .by_cases hb:b=a
   .exact hb
   .exact absurd (if_neg hb) z
end L2
namespace L2
open PySem PySem.Spec PyProof.Rows
theorem walk_of{l:PySem.W.OpenLaw}{q:Program}{XP:(Str->Option Value)->Heap->Prop}{YP:World->Heap->Prop}{d:DefRec}{K:Params->PySem.W.Frag}{CX:World->X5}{sp:World->Sp}{x:Str}(hn:l.most=some n)(pY:n<=sizeLine)(v7:d.params.defaults=[])(hr:Room k callerA)(hY:∀ (w:World) (h:Heap),YP w h->(K w.params).In h)(F:∀ (w:World) (mg:Str->Option Value) (fa:Addr) (h:Heap),(K w.params).In h->h.Ns mainGlobals mg->mg d.name=some (.ref fa)->
   ∃ fd:FuncData,(∀ (s:Shared) (u:Value),BindsTo s fd ⟨[u],[]⟩ [(x,u)])/\
    ∀ base:Heap,(K w.params).In base->base.Ns mainGlobals mg->FnOk l.prog w (K w.params) mg base (CX w) k fa fd [x] (sp w))(u9:∀ (w:World) (H:Hp) (a:Addr) (ns:List Int),ns.length<=n->Only H->C7 (K w.params) H a (ns.map V.int)->sp w [.ref a] H (fun v _=>v=.bl true) fun _ _ _=>False)(hCX:∀ (w:World) (H:Hp) (s:Shared) (e:Value) (s':Shared),CX w [] H s (fun _ _ _=>False) e s'->False) :
  PySem.W.WalkO q loose XP YP l.row.toRowW d [] (fun f vs=>PySem.call f vs):=by
 refine Att.attach_call hn v7 fun w s₀ zu mg mb fa o pm cd doc a vs ns G zy ho hd W3 eF eG o0 A6 hg=>?_
 have KX:=hY w _ zy;obtain ⟨fd,hb,hF⟩:=F w mg fa _ KX G.T.g eF;exact akX KX G.T.g G.T.b G.T.builtins G.T.nolimit hg eG o0 (E8 A6 pY) hr hF hb (fun H hO hS=>u9 w H a ns A6 hO hS) fun H e s'=>hCX w H zu e s'
end L2
namespace L2
open PySem PySem.Spec PyProof.Rows
noncomputable def cY (s:Stmt) (j:Nat):Stmt:=match s with
 | .ClassDef _ _ _ body _ _ _ _ _ _ _=>body.getD j (.Pass ⟨0,0,0,0⟩)
 | _=>.Pass ⟨0,0,0,0⟩
noncomputable def P0 (s:Stmt):Arguments:=match s with
 | .FunctionDef _ a _ _ _ _ _ _ _ _=>a
 | _=>{ posonlyargs:=[],args:=[],vararg:=none,kwonlyargs:=[],kw_defaults:=[],kwarg:=none,defaults:=[] }
noncomputable def O0 (s:Stmt):List Stmt:=match s with
 | .FunctionDef _ _ b _ _ _ _ _ _ _=>b
 | _=>[]
noncomputable def B1 (s:Stmt):Scope:=match s with
 | .FunctionDef _ _ _ _ _ _ sc _ _ _=>sc
 | _=>{ kind:=.function,names:=[],isGenerator:=false,isCoroutine:=false }
noncomputable abbrev E4:X5:=fun _ _ _ _ _ _=>False
noncomputable abbrev E0:XK:=fun _ _ _=>False
theorem pass0 : x5 E4 X E0:=fun _ _ _ _ _ _ _ h=>h.elim
structure Fun(K:PySem.W.Frag)(x qual:Str)(st:Stmt)(f:Addr)(fd:FuncData):Prop where
 ex:∃ (oc:Value) (od:Option Addr) (kV doc pm:Value) (an:Option Addr) (cdv ct:Value) (osl:Array (Option Value)),
  fd=N8 x qual (P0 st) (O0 st) (B1 st) .none kV doc pm an cdv ct/\K.lookup f=some ⟨oc,od,.func fd,osl⟩/\Q3 K cdv qual=true
 kp:N1 K (.ref f)=true
section
variable {P:Program} {w:World} {K:PySem.W.Frag} {mg:Str->Option Value} {base:Heap}
end
theorem hu_of(hr:Room k A):A.units+1<cLine:=Nat.lt_of_le_of_lt (Nat.add_le_add_left (by decide:1<=64) _) hr.units
section
variable {X:Cx}
end
theorem iteF{A B:Prop}(h:B):if false=true then A else B:=by
 rw [if_neg K5];exact h
theorem iteT{A B:Prop}(h:A):if true=true then A else B:=by
 rw [if_pos rfl];exact h
noncomputable def Same (H H':Hp):Prop:=∀ b o,H b=some o->H' b=some o
theorem cZ(H:Hp):Same H H:=fun _ _ h=>h
theorem Same.trans(a:Same H H1)(b:Same H1 H2):Same H H2:=fun c o h=>b c o (a c o h)
theorem Same.free(e:Same H H'){l:Addr}(h:H' l=Option.none):H l=Option.none:=by
 cases q:H l with
 | none=>rfl
 | some o=>
  rw [e l o q] at h;cases h
theorem Same.seq(e:Same H H')(h:C7 K H a xs):C7 K H' a xs:=by
 rcases h with (h | ⟨o,h⟩) | h
 .exact .inl (.inl (e _ _ h))
 .exact .inl (.inr ⟨o,e _ _ h⟩)
 .exact .inr h
end L2
set_option maxRecDepth 100000
namespace L2
open PySem PySem.Spec PyProof.Rows
section
variable {κ:Type} [DecidableEq κ]
noncomputable def valV (kvs:List (κ×V)) (k:κ):Option V:=(kvs.find? fun kv=>decide (kv.1=k)).map (·.2)
noncomputable def putK (kvs:List (κ×V)) (k:κ) (v:V):List (κ×V):=
 if (kvs.any fun kv=>decide (kv.1=k))=true then kvs.map (fun kv=>if kv.1=k then (kv.1,v) else kv) else kvs++[(k,v)]
theorem nK{p:κ×V}{r:List (κ×V)}{k:κ}(e:p.1=k):valV (p::r) k=some p.2:=by simp [valV,p6,e]
theorem x8{p:κ×V}{r:List (κ×V)}{k:κ}(e:¬ p.1=k):valV (p::r) k=valV r k:=by simp [valV,p6,e]
theorem rY(k:κ):∀ kvs:List (κ×V),(kvs.any fun kv=>decide (kv.1=k))=(valV kvs k).isSome
 | []=>rfl
 | p::r=>by
  rw [j9]
  by_cases e:p.1=k
  .simp only [nK e,decide_eq_true e,Bool.true_or,Option.isSome_some]
  .rw [x8 e,decide_eq_false e,Bool.false_or];exact rY k r
theorem rZ(kvs:List (κ×V))(k:κ)(v:V):(putK kvs k v).length<=kvs.length+1:=by
 unfold putK
 split
 .rw [A2];lia
 .rw [D1,G6,Z1];lia
theorem akY{kvs:List (κ×V)}{k:κ}(v:V)(h:valV kvs k=none):putK kvs k v=kvs++[(k,v)]:=by
 unfold putK;rw [rY,h];exact if_neg (by decide)
theorem RelO.isSome_eq{o:Option V}{u:Option Value}(r:RelO o u):o.isSome=u.isSome:=by
 cases o with
 | none=>cases u with
  | none=>rfl
  | some _=>exact (show False from r).elim
 | some _=>cases u with
  | none=>exact (show False from r).elim
  | some _=>rfl
theorem RelO.getD{o:Option V}{u:Option Value}{d:V}{d':Value}(r:RelO o u)(rd:RelV d d'):RelV (o.getD d) (u.getD d'):=by
 cases o with
 | none=>cases u with
  | none=>exact rd
  | some _=>exact (show False from r).elim
 | some _=>cases u with
  | none=>exact (show False from r).elim
  | some _=>exact r
theorem KV.val{kvs:List (κ×V)}{vs:List (κ×Value)}(r:KV kvs vs)(k:κ):RelO (valV kvs k) (valueAt vs k):=by
 unfold KV at r
 induction r with
 | nil=>exact True.intro
 | @cons p q ps qs h t ih=>
  obtain ⟨h1,h2⟩:=h
  by_cases e:p.1=k
  .have e':q.1=k:=h1.symm.trans e;have b:valueAt (q::qs) k=some q.2:=by simp [valueAt,p6,e']
   rw [nK e,b];exact h2
  .have e':¬ q.1=k:=fun z=>e (h1.trans z)
   have b:valueAt (q::qs) k=valueAt qs k:=by simp [valueAt,p6,e']
   rw [x8 e,b];exact ih
theorem KV.any{kvs:List (κ×V)}{vs:List (κ×Value)}(r:KV kvs vs)(k:κ):(kvs.any fun kv=>decide (kv.1=k))=vs.any fun kv=>decide (kv.1=k):=by
 unfold KV at r
 induction r with
 | nil=>rfl
 | cons h t ih=>rw [j9,j9,ih,h.1]
theorem KV.repl{kvs:List (κ×V)}{vs:List (κ×Value)}(r:KV kvs vs)(k:κ)(ry:RelV y u) :
  KV (kvs.map fun kv=>if kv.1=k then (kv.1,y) else kv) (vs.map fun kv=>if kv.1=k then (kv.1,u) else kv):=by
 unfold KV at r ⊢
 induction r with
 | nil=>exact .nil
 | @cons p q ps qs h t ih=>
  rw [F7,F7];refine .cons ?_ ih;obtain ⟨h1,h2⟩:=h
  by_cases e:p.1=k
  .rw [if_pos e,if_pos (h1.symm.trans e)];exact ⟨h1,ry⟩
  .rw [if_neg e,if_neg (fun z=>e (h1.trans z))];exact ⟨h1,h2⟩
theorem KV.put{kvs:List (κ×V)}{vs:List (κ×Value)}(r:KV kvs vs)(k:κ)(ry:RelV y u):KV (putK kvs k y) (stored vs k u):=by
 unfold putK stored;rw [r.any k]
 by_cases e:(vs.any fun kv=>decide (kv.1=k))=true
 .rw [if_pos e,if_pos e];exact r.repl k ry
 .rw [if_neg e,if_neg e];exact Paired.snoc r ⟨rfl,ry⟩
theorem KV.keys{kvs:List (κ×V)}{vs:List (κ×Value)}(r:KV kvs vs):kvs.map (·.1)=vs.map (·.1):=by
 unfold KV at r
 induction r with
 | nil=>rfl
 | cons h t ih=>rw [F7,F7,ih,h.1]
theorem KV.length{kvs:List (κ×V)}{vs:List (κ×Value)}(r:KV kvs vs):kvs.length=vs.length:=Paired.length r
end
theorem kV_is{P:Program}{w:World}{k:B5}(r:RelV (kV k) u):(N9 P w).is k u=true:=by
 cases k with
 | inl i=>obtain ⟨t,e⟩:=(show ∃ t,u=Value.int i t from r);subst e;exact agM P w i t
 | inr x=>obtain ⟨t,e⟩:=(show ∃ t,u=Value.str x t from r);subst e;exact agN P w x t
theorem zP{P:Program}{w:World} : ∀ {ks:List B5} {us:List Value},Vals (ks.map kV) us->ItemsAre (N9 P w) ks us
 | [],_,r=>by rw [cP] at r;cases r;exact .nil
 | k::ks,_,r=>by
  rw [F7] at r
  cases r with
  | cons h t=>exact .cons (kV_is h) (zP t)
noncomputable abbrev KT (H:Hp):List (List B5×V)->List (List B5×Addr×Value)->Prop:=Paired fun p q=>p.1=q.1/\H q.2.1=some (.tup (p.1.map kV))/\RelV p.2 q.2.2
theorem KT.val{kvs:List (List B5×V)}{xs:List (List B5×Addr×Value)}(r:KT H kvs xs)(k:List B5):RelO (valV kvs k) ((atKey xs k).map (·.2)):=by
 induction r with
 | nil=>exact True.intro
 | @cons p q ps qs h t ih=>
  obtain ⟨h1,_,h2⟩:=h
  by_cases e:p.1=k
  .have e':q.1=k:=h1.symm.trans e;have b:atKey (q::qs) k=some q.2:=by simp [atKey,p6,e']
   rw [nK e,b];exact h2
  .have e':¬ q.1=k:=fun z=>e (h1.trans z)
   have b:atKey (q::qs) k=atKey qs k:=by simp [atKey,p6,e']
   rw [x8 e,b];exact ih
theorem KT.repl{kvs:List (List B5×V)}{xs:List (List B5×Addr×Value)}(r:KT H kvs xs)(k:List B5)(ry:RelV y u) :
  KT H (kvs.map fun kv=>if kv.1=k then (kv.1,y) else kv) (xs.map (putAt k u)):=by
 induction r with
 | nil=>exact .nil
 | @cons p q ps qs h t ih=>
  rw [F7,F7];refine .cons ?_ ih;obtain ⟨h1,h2,h3⟩:=h;unfold putAt
  by_cases e:p.1=k
  .rw [if_pos e,if_pos (h1.symm.trans e)];exact ⟨h1,h2,ry⟩
  .rw [if_neg e,if_neg (fun z=>e (h1.trans z))];exact ⟨h1,h2,h3⟩
theorem KT.put{kvs:List (List B5×V)}{xs:List (List B5×Addr×Value)}(r:KT H kvs xs)(k:List B5)(hb:H b=some (.tup (k.map kV)))(ry:RelV y u) :
  KT H (putK kvs k y) (storedH xs k b u):=by
 have e:(kvs.any fun kv=>decide (kv.1=k))=(atKey xs k).isSome:=by
  rw [rY,(r.val k).isSome_eq,Option.isSome_map]
 unfold putK storedH;rw [e]
 by_cases q:(atKey xs k).isSome=true
 .rw [if_pos q,if_pos q];exact r.repl k ry
 .rw [if_neg q,if_neg q];exact Paired.snoc r ⟨rfl,hb,ry⟩
theorem KT.keeps{kvs:List (List B5×V)}{xs:List (List B5×Addr×Value)}(r:KT H kvs xs)(ht:∀ b ys,H b=some (.tup ys)->H' b=some (.tup ys)):KT H' kvs xs:=
 K7 r fun _ _ z=>⟨z.1,ht _ _ z.2.1,z.2.2⟩
section
variable {P:Program} {w:World} {H:Hp} {h:Heap} {a:Addr}
theorem rd_of{u:HO}(ok:K6 P w H h)(e:Rd H a u):ObjOk P w H h a u:=e.ok ok
theorem dk_rd(ok:K6 P w H h)(e:Rd H a (.dK kvs)):kvs.length<=sizeLine/\(a==sysModules)=false/\∃ vs,KV kvs vs/\h.DictOf (N9 P w) a vs:=
 show ObjOk P w H h a (.dK kvs) from rd_of ok e
theorem dk_of(ok:K6 P w H h)(e:H a=some (.dK kvs)):kvs.length<=sizeLine/\(a==sysModules)=false/\∃ vs,KV kvs vs/\h.DictOf (N9 P w) a vs:=dk_rd ok (.inl e)
theorem dA{ks:List B5}(ok:K6 P w H h)(e:H a=some (.tup (ks.map kV))):(tupleKind (N9 P w)).is h ks a:=by
 obtain ⟨_,its,r,o,h1,h2,n,h3⟩:=(show ObjOk P w H h a (.tup (ks.map kV)) from ok a _ e)
 exact ⟨o,its.toArray,n,h1,h2,h3,by simpa using zP r⟩
theorem dt_rd{kvs:List (List B5×V)}(ok:K6 P w H h)(e:Rd H a (.dT kvs)):kvs.length<=sizeLine/\(a==sysModules)=false/\
  ∃ xs,KT H kvs xs/\h.DictOfH (tupleKind (N9 P w)) a xs:=by
 obtain ⟨z,y,xs,r,o,es,ep,h1,h2,h3,h4,h5⟩:=(show ObjOk P w H h a (.dT kvs) from rd_of ok e)
 refine ⟨z,y,xs,r,o,es,ep,h1,h2,h3,h4,fun x hx=>?_,h5⟩;have all:∀ {l:List (List B5×V)} {m:List (List B5×Addr×Value)},KT H l m->∀ x∈m,(tupleKind (N9 P w)).is h x.1 x.2.1:=by
  intro l m q
  induction q with
  | nil=>intro x hx;exact nomatch hx
  | @cons p q ps qs hq t ih=>
   intro x hx
   rcases E7.mp hx with e | hx
   .subst e;exact dA ok (by rw [<- hq.1];exact hq.2.1)
   .exact ih x hx
 exact all r x hx
theorem dt_of{kvs:List (List B5×V)}(ok:K6 P w H h)(e:H a=some (.dT kvs)):kvs.length<=sizeLine/\(a==sysModules)=false/\
  ∃ xs,KT H kvs xs/\h.DictOfH (tupleKind (N9 P w)) a xs:=dt_rd ok (.inl e)
end
noncomputable def DGet (H:Hp) (a:Addr) (y:V) (r:Option V):Prop:=
 (∃ kvs k,Rd H a (.dK kvs)/\y=kV k/\r=valV kvs k)\/∃ kvs k b,Rd H a (.dT kvs)/\y=.ref b/\H b=some (.tup (k.map kV))/\r=valV kvs k
noncomputable def DPut (H:Hp) (a:Addr) (y v:V) (H':Hp):Prop:=
 (∃ kvs k,H a=some (.dK kvs)/\y=kV k/\kvs.length<sizeLine/\H'=A0 H a (.dK (putK kvs k v)))\/
 ∃ kvs k b,H a=some (.dT kvs)/\y=.ref b/\H b=some (.tup (k.map kV))/\kvs.length<sizeLine/\H'=A0 H a (.dT (putK kvs k v))
theorem i3{k:B5}(e:H a=some (.dK kvs)):DGet H a (kV k) (valV kvs k):=.inl ⟨kvs,k,.inl e,rfl,rfl⟩
theorem bD{k:B5}{v:V}(e:H a=some (.dK kvs))(hl:kvs.length<sizeLine):DPut H a (kV k) v (A0 H a (.dK (putK kvs k v))):=.inl ⟨kvs,k,e,rfl,hl,rfl⟩
section
variable {X:Cx} {pins:List (Addr×Obj)} {Y:St} {H:Hp} {s:Shared} {a:Addr} {y v:V} {u r:Value} {o:Option V} {A:Around} {E:Value->Shared->Prop}
theorem Inv.big(I:Inv X pins Y H s):sysModules<s.heap.objs.size:=by
 have h:mainGlobals<s.heap.objs.size:=(I.mod.glob.keeps I.bk).lt;exact Nat.lt_trans (by decide) h
theorem zQ{Q:Value->Shared->Prop}(hu:A.units+1<cLine)(I:Inv X pins Y H s)(g:DGet H a y (some v))(ry:RelV y u)(h:∀ w' s',Inv X pins Y H s'->RelV v w'->Q w' s') :
  wpAny (model X.prog X.w) A (getItem (.ref a) u) Q E s:=by
 rcases g with ⟨kvs,k,e,ey,l⟩ | ⟨kvs,k,b,e,ey,eb,l⟩
 .subst ey;obtain ⟨z,hd,vs,rel,dd⟩:=dk_rd I.hok e;obtain ⟨w',hw,rw'⟩:=jK (v:=v) (o:=valueAt vs k) (by rw [l];exact rel.val k);exact wpAny_getItem_of (kV_is ry) dd.mapOf hw (h w' _ (I.tok _) rw')
 .subst ey
  cases (show u=Value.ref b from ry)
  obtain ⟨z,hd,xs,rel,dd⟩:=dt_rd I.hok e;obtain ⟨w',hw,rw'⟩:=jK (v:=v) (o:=(atKey xs k).map (·.2)) (by rw [l];exact rel.val k);obtain ⟨p,hp,eI⟩:=Option.map_eq_some_iff.mp hw;refine wpAny_getItem_heap (tupleKind_room_in1 hu) (dA I.hok eb) dd hp ?_;rw [eI];exact h w' _ (I.tok _) rw'
theorem d_in{Q:Value->Shared->Prop}(hu:A.units+1<cLine)(I:Inv X pins Y H s)(g:DGet H a y o)(ry:RelV y u)(h:∀ s',Inv X pins Y H s'->Q (.bool o.isSome) s') :
  wpAny (model X.prog X.w) A (compareOp .In u (.ref a)) Q E s:=by
 rcases g with ⟨kvs,k,e,ey,l⟩ | ⟨kvs,k,b,e,ey,eb,l⟩
 .subst ey;obtain ⟨z,hd,vs,rel,dd⟩:=dk_rd I.hok e;refine wpAny_in_of (kV_is ry) hd dd.mapOf ?_;rw [<- (rel.val k).isSome_eq,<- l];exact h _ (I.tok _)
 .subst ey
  cases (show u=Value.ref b from ry)
  obtain ⟨z,hd,xs,rel,dd⟩:=dt_rd I.hok e;refine wpAny_in_heap (tupleKind_room_in1 hu) (dA I.hok eb) hd dd ?_;have q:=(rel.val k).isSome_eq;rw [Option.isSome_map] at q;rw [<- q,<- l];exact h _ (I.tok _)
theorem am1{Q:Value->Shared->Prop}(hu:A.units+1<cLine)(I:Inv X pins Y H s)(g:DGet H a y o)(ry:RelV y u)(h:∀ s',Inv X pins Y H s'->Q (.bool (!o.isSome)) s') :
  wpAny (model X.prog X.w) A (compareOp .NotIn u (.ref a)) Q E s:=by
 rcases g with ⟨kvs,k,e,ey,l⟩ | ⟨kvs,k,b,e,ey,eb,l⟩
 .subst ey;obtain ⟨z,hd,vs,rel,dd⟩:=dk_rd I.hok e;refine wpAny_notIn_of (kV_is ry) hd dd.mapOf ?_;rw [<- (rel.val k).isSome_eq,<- l];exact h _ (I.tok _)
 .subst ey
  cases (show u=Value.ref b from ry)
  obtain ⟨z,hd,xs,rel,dd⟩:=dt_rd I.hok e;refine wpAny_notIn_heap (tupleKind_room_in1 hu) (dA I.hok eb) hd dd ?_;have q:=(rel.val k).isSome_eq;rw [Option.isSome_map] at q;rw [<- q,<- l];exact h _ (I.tok _)
theorem sA{ob:HO}(I:Inv X pins Y H s)(mu:fO (H a))(hs:Heap.SameBut a s.heap h')(he:∃ q,h'.get? a=some q)(new:ObjOk X.prog X.w (A0 H a ob) h' a ob) :
  Inv X pins Y (A0 H a ob) { s with heap:=h',toks:=t' }:=
 I.write (x:=a) (e:=a) mu (.inl rfl) (fun b q hb z=>(hs.2 b hb).trans z) he new
theorem sB{P:Program}{w:World}{vs:List (B5×Value)}(z:kvs.length<=sizeLine)(hd:(a==sysModules)=false)(rel:KV kvs vs)(dd:h'.DictOf (N9 P w) a vs) :
  ObjOk P w H' h' a (.dK kvs):=⟨z,hd,vs,rel,dd⟩
theorem zR{Q:Unit->Shared->Prop}(hu:A.units+1<cLine)(I:Inv X pins Y H s)(g:DPut H a y v H')(ry:RelV y u)(rv:RelV v r)(h:∀ s',Inv X pins Y H' s'->Q () s') :
  wpAny (model X.prog X.w) A (setItem (.ref a) u r) Q E s:=by
 rcases g with ⟨kvs,k,e,ey,l,eH⟩ | ⟨kvs,k,b,e,ey,eb,l,eH⟩
 .subst ey eH;obtain ⟨z,hd,vs,rel,dd⟩:=dk_of I.hok e;have hz:vs.length<=sizeLine:=by rw [<- rel.length];exact z
  have hl:(putK kvs k v).length<=sizeLine:=by have:=rZ kvs k v;lia
  refine wpAny_setItem_pairs (hsz:=hz) (kV_is ry) dd fun h' dd' hs=>h _ ?_
  have he:∃ q,h'.get? a=some q:=let ⟨q,_,_,hq,_⟩:=dd';⟨q,hq⟩
  exact sA I (by rw [e];exact True.intro) hs he (sB hl hd (rel.put k rv) dd')
 .subst ey eH
  cases (show u=Value.ref b from ry)
  obtain ⟨z,hd,xs,rel,dd⟩:=dt_of I.hok e;have hz:xs.length<=sizeLine:=by rw [<- Paired.length rel];exact z
  have hl:(putK kvs k v).length<=sizeLine:=by have:=rZ kvs k v;lia
  refine wpAny_setItem_heap (hsz:=hz) (tupleKind_room_in1 hu) (dA I.hok eb) dd fun h' dd' hs=>h _ ?_
  obtain ⟨q,es,ep,hq,h2,h3,h4,_,h5⟩:=dd';refine sA I (by rw [e];exact True.intro) hs ⟨q,hq⟩ ⟨hl,hd,_,(rel.put k eb rv).keeps fun c ys ec=>?_,q,es,ep,hq,h2,h3,h4,h5⟩;rw [A4 (ne_of ec e (fun z=>nomatch z))];exact ec
end
section
variable {X:Cx} {pins:List (Addr×Obj)} {Y:St} {H:Hp} {s:Shared} {a:Addr} {kvs:List (B5×V)} {k:B5} {u:Value} {A:Around} {E:Value->Shared->Prop}
theorem d_len{Q:Value->Shared->Prop}(I:Inv X pins Y H s)(e:Rd H a (.dK kvs))(h:∀ t s',Inv X pins Y H s'->Q (.int kvs.length t) s'):wpAny (model X.prog X.w) A (call (.builtin "len") [.ref a]) Q E s:=by
 obtain ⟨z,hd,vs,rel,dd⟩:=dk_rd I.hok e;refine call_len_dict hd dd (by rw [<- rel.length];rw [sizeLine_eq] at z;lia) ?_;rw [<- rel.length];exact h _ _ (I.tok _)
end
noncomputable def NoSl (i:Expr):Prop:=∀ ov iv,subscripted i false ov iv=operate [ov,iv] (getItem ov iv)
theorem zS{w:World}{env:Env}{value slice:Expr}{pos:Pos}{T id:String}{Q:Value->Shared->Prop}(hl:typeLookup (.type T) "__getitem__"=pure (some (.builtin id)))(hs:NoSl slice)(h:wpAny (model prog w) A (eval value env) (fun o zu=>wpAny (model prog w) A (eval slice env) (fun i zx=>zx.TypeIs o T/\wpAny (model prog w) A (getItem o i) Q E zx) E zu) E s) :
  wpAny (model prog w) A (eval (.Subscript value slice pos) env) Q E s:=by
 refine Subscript_ (wpAny_mono h (fun o zu zr=>wpAny_mono zr (fun i zx zq=>?_) fun _ _ x=>x) fun _ _ x=>x);obtain ⟨hT,zq⟩:=zq;unfold subscriptTail;refine wpAny_bind ?_;rw [getitemInPython_of_ne hT.not_modules];refine wpAny_bind (wpAny_specialOf hT hl ?_);have fin:wpAny (model prog w) A (subscripted slice false o i) (fun r zw=>wpAny (model prog w) A (letTemporaryGo value o r >>= fun _=>pure r) Q E zw) E zx:=by
  rw [hs o i];exact wpAny_operating (wpAny_mono zq (fun r zw zp=>wpAny_bind (wpAny_letTemporaryGo (wpAny_pure zp))) fun _ _ x=>x)
 first
  | exact wpAny_pure (wpAny_bind fin)
  | exact wpAny_bind (wpAny_pure (wpAny_bind fin))
  | exact wpAny_bind fin
theorem agS{o:Option V}(I:Inv X pins Y H s)(g:DGet H a y o):s.TypeIs (.ref a) "dict":=by
 rcases g with ⟨kvs,k,e,_,_⟩ | ⟨kvs,k,b,e,_,_,_⟩
 .obtain ⟨_,_,vs,_,dd⟩:=dk_rd I.hok e;exact dd.typeIs
 .obtain ⟨_,_,xs,_,dd⟩:=dt_rd I.hok e;exact dd.typeIs
noncomputable def tDGet (td ty:TE):TE:=fun Y H Q=>td Y H fun x H1=>ty Y H1 fun y H2=>∃ a v,x=.ref a/\DGet H2 a y (some v)/\Q v H2
noncomputable def sDPut (td ty tv:TE):TS:=fun D Y H=>tv Y H fun v H1=>td Y H1 fun x H2=>ty Y H2 fun y H3=>∃ a H4,x=.ref a/\DPut H3 a y v H4/\D.nx Y H4
noncomputable def sDAug (td ty tv:TE) (rd:V->V->Hp->VK->Prop):TS:=fun D Y H=>td Y H fun x H1=>ty Y H1 fun y H2=>∃ a v,x=.ref a/\DGet H2 a y (some v)/\
 tv Y H2 fun y2 H3=>rd v y2 H3 fun z H4=>∃ H5,DPut H4 a y z H5/\D.nx Y H5
section
variable {X:Cx} {o i e value:Expr} {pos pos' tpos:Pos} {td ty tv:TE}
theorem am2(hu:X.A.units+1<cLine)(ho:PE X o td)(hi:PE X i ty)(hs:NoSl i):PE X (.Subscript o i pos) (tDGet td ty):=by
 intro pins s Y H Q I h;refine zS PySem.F.slot_dict_getitem.lookup hs (A7 (ho pins s Y H _ I h) fun u s1 ⟨x,H1,I1,rx,q1⟩=>A7 (hi pins s1 Y H1 _ I1 q1) fun iv s2 ⟨y,H2,I2,ry,a,v,ex,g,q2⟩=>?_);subst ex;obtain rfl:u=Value.ref a:=rx;exact ⟨agS I2 g,zQ hu I2 g ry fun w' s3 I3 rw'=>⟨v,H2,I3,rw',q2⟩⟩
theorem am3(hu:X.A.units+1<cLine)(ho:PE X o td)(hi:PE X i ty)(hv:PE X value tv)(hs:swapsWith value (some (.Subscript o i pos')) pos.line X.env=pure false) :
  PS X (.Assign [.Subscript o i pos'] value pos) (sDPut td ty tv):=by
 intro pins s Y H D I h;refine wpAny_Assign_Subscript (A7 (hv pins s Y H _ I h) fun r s1 ⟨v,H1,I1,rv,q1⟩=>A7 (ho pins s1 Y H1 _ I1 q1) fun u s2 ⟨x,H2,I2,rx,q2⟩=>A7 (hi pins s2 Y H2 _ I2 q2) fun iv s3 ⟨y,H3,I3,ry,a,H4,ex,g,q3⟩=>?_) hs;subst ex;obtain rfl:u=Value.ref a:=rx;exact zR hu I3 g ry rv fun s4 I4=>⟨Y,H4,I4,q3⟩
theorem am4{op:Operator}{rd:V->V->Hp->VK->Prop}(hu:X.A.units+1<cLine)(ho:PE X o td)(hi:PE X i ty)(hv:PE X value tv)(wK:InOp X op rd)(ha:∀ ov iv new,augStore i ov iv new=(do holding [new,ov,iv] (setItem ov iv new);release [new,ov,iv] [];pure .next)):PS X (.AugAssign (.Subscript o i tpos) op value pos) (sDAug td ty tv rd):=by
 intro pins s Y H D I h;refine wpAny_AugAssign_SubscriptAny (A7 (ho pins s Y H _ I h) fun u s1 ⟨x,H1,I1,rx,q1⟩=>A7 (hi pins s1 Y H1 _ I1 q1) fun iv s2 ⟨y,H2,I2,ry,a,v,ex,g,q2⟩=>?_) ha;subst ex;obtain rfl:u=Value.ref a:=rx;refine zQ hu I2 g ry fun w' s3 I3 rw'=>A7 (hv pins s3 Y H2 _ I3 q2) fun w2 s4 ⟨y2,H3,I4,ry2,q3⟩=>A7 (wK pins s4 Y H3 v y2 w' w2 _ I4 rw' ry2 q3) fun w3 s5 ⟨z,H4,I5,rz,H5,g5,q4⟩=>?_
 exact zR hu I5 g5 ry rz fun s6 I6=>⟨Y,H5,I6,q4⟩
end
theorem akZ{P:Program}{w:World}(h:Heap)(hb:sysModules<h.objs.size):ObjOk P w H (h.push { cls:=.type "dict",data:=.dict #[] }) h.objs.size (.dK []):=
 ⟨G2 _,beq_eq_false_iff_ne.mpr (Ne.symm (M0 hb)),[],.nil,Heap.DictOf.new h⟩
noncomputable def sC:TE:=fun _ H Q=>∀ p,H p=none->Q (.ref p) (A0 H p (.dK []))
section
variable {X:Cx} {pos:Pos}
theorem ak0:PE X (.Dict [] [] pos) sC:=fun pins s Y H Q I h=>
 wpAny_Dict_empty ⟨.ref s.heap.objs.size,_,I.laid (a:=s.heap.objs.size) (o:=.dK []) (t':=s.toks) (fun _ _ q=>Heap.get?_push_of_some _ q) (B3 _) (akZ s.heap I.big),rfl,h _ (I.hok.fresh (B3 _))⟩
end
noncomputable def fT:List (TE×TE)->St->Hp->(List (V×V)->Hp->Prop)->Prop
 | [],_,H,Q=>Q [] H
 | (tk,tv)::r,Y,H,Q=>tk Y H fun x H1=>tv Y H1 fun y H2=>fT r Y H2 fun ps H3=>Q ((x,y)::ps) H3
noncomputable def V7 (kvs more:List (B5×V)):List (B5×V):=more.foldl (fun acc kv=>putK acc kv.1 kv.2) kvs
theorem zT:∀ (more kvs:List (B5×V)),(V7 kvs more).length<=kvs.length+more.length
 | [],kvs=>by show kvs.length<=kvs.length+0;lia
 | p::r,kvs=>by
  have h1:=zT r (putK kvs p.1 p.2);have h2:=rZ kvs p.1 p.2;show (V7 (putK kvs p.1 p.2) r).length<=_;rw [G6];lia
noncomputable def tDisp (trs:List (TE×TE)):TE:=fun Y H Q=>∀ p,H p=none->fT trs Y (A0 H p (.dK [])) fun ps H2=>H2 p=some (.dK [])/\∃ kvs:List (B5×V),ps=kvs.map (fun kv=>(kV kv.1,kv.2))/\kvs.length<=15/\Q (.ref p) (A0 H2 p (.dK (V7 [] kvs)))
structure M1(X:Cx)(o:Expr)(m:Str)(apos:Pos)(e:Expr)(cpos:Pos):Prop where
 base:attributeBase o m X.env (eval o X.env)=eval o X.env
 few:((backTo cpos (starEach [e] X.env)).all (fun x=>!x.1)&&(backToKw cpos (keywordEach [] X.env)).all (fun x=>x.1.isSome)
  && decide (([e]:List Expr).length+([]:List Keyword).length+(if ([]:List Keyword).isEmpty then 0 else 1)<30))=true
 line:(apos.endLine==cpos.line)=true
 trees:backTo cpos (starEach [e] X.env)=[(false,eval e X.env)]
structure M2(X:Cx)(o:Expr)(m:Str)(apos:Pos)(e f:Expr)(cpos:Pos):Prop where
 base:attributeBase o m X.env (eval o X.env)=eval o X.env
 few:((backTo cpos (starEach [e,f] X.env)).all (fun x=>!x.1)&&(backToKw cpos (keywordEach [] X.env)).all (fun x=>x.1.isSome)
  && decide (([e,f]:List Expr).length+([]:List Keyword).length+(if ([]:List Keyword).isEmpty then 0 else 1)<30))=true
 line:(apos.endLine==cpos.line)=true
 trees:backTo cpos (starEach [e,f] X.env)=[(false,eval e X.env),(false,eval f X.env)]
noncomputable def dB (H:Hp) (a:Addr):Prop:=(∃ kvs,Rd H a (.dK kvs))\/∃ kvs,Rd H a (.dT kvs)
theorem sD(I:Inv X pins Y H s)(d:dB H a) :
  s.TypeIs (.ref a) "dict"/\(∀ b,Value.ref a=.ref b->∃ ob,s.heap.get? b=some ob/\ob.dict=none)/\(a==sysModules)=false:=by
 rcases d with ⟨kvs,e⟩ | ⟨kvs,e⟩
 .obtain ⟨_,hd,vs,_,dd⟩:=dk_rd I.hok e;refine ⟨dd.typeIs,fun b q=>?_,hd⟩
  cases q
  obtain ⟨ob,_,_,h1,h2,_⟩:=dd;exact ⟨ob,h1,h2.2.1⟩
 .obtain ⟨_,hd,xs,_,dd⟩:=dt_rd I.hok e;refine ⟨dd.typeIs,fun b q=>?_,hd⟩
  cases q
  obtain ⟨ob,_,_,h1,h2,_⟩:=dd;exact ⟨ob,h1,h2.2.1⟩
section
variable {X:Cx} {pins:List (Addr×Obj)} {Y:St} {H:Hp} {s:Shared} {a:Addr} {y d:V} {u r:Value} {o:Option V} {A:Around} {E:Value->Shared->Prop}
theorem ao7{Q:Value->Shared->Prop}(hu:A.units+1<cLine)(I:Inv X pins Y H s)(g:DGet H a y o)(ry:RelV y u)(h:∀ w' s',Inv X pins Y H s'->RelV (o.getD .non) w'->Q w' s') :
  wpAny (model X.prog X.w) A (call (.builtin "dict.get") [.ref a,u]) Q E s:=by
 rcases g with ⟨kvs,k,e,ey,l⟩ | ⟨kvs,k,b,e,ey,eb,l⟩
 .subst ey;obtain ⟨z,hd,vs,rel,dd⟩:=dk_rd I.hok e;refine call_meetsIn fL dd.typeIs nA (PySem.F.args_dict_get_2 _ _) (meets_dict_get (N9 X.prog X.w) a (kV_is ry) hd) ⟨_,dd.mapOf,h _ _ (I.tok _) ?_⟩;rw [l];exact (rel.val k).getD rfl
 .subst ey
  cases (show u=Value.ref b from ry)
  obtain ⟨z,hd,xs,rel,dd⟩:=dt_rd I.hok e;refine call_meetsIn fL dd.typeIs nA (PySem.F.args_dict_get_2 _ _) (meetsH_dict_get (tupleKind (N9 X.prog X.w)) a b hd) ⟨tupleKind_room_in1 hu,k,xs,dA I.hok eb,dd,h _ _ (I.tok _) ?_⟩;rw [l];exact (rel.val k).getD rfl
theorem ao8{Q:Value->Shared->Prop}(hu:A.units+1<cLine)(I:Inv X pins Y H s)(g:DGet H a y o)(ry:RelV y u)(rd:RelV d r)(h:∀ w' s',Inv X pins Y H s'->RelV (o.getD d) w'->Q w' s') :
  wpAny (model X.prog X.w) A (call (.builtin "dict.get") [.ref a,u,r]) Q E s:=by
 rcases g with ⟨kvs,k,e,ey,l⟩ | ⟨kvs,k,b,e,ey,eb,l⟩
 .subst ey;obtain ⟨z,hd,vs,rel,dd⟩:=dk_rd I.hok e;refine call_meetsIn fL dd.typeIs nA (PySem.F.args_dict_get_3 _ _ _) (meets_dict_get_default (N9 X.prog X.w) a (kV_is ry) hd r) ⟨_,dd.mapOf,h _ _ (I.tok _) ?_⟩;rw [l];exact (rel.val k).getD rd
 .subst ey
  cases (show u=Value.ref b from ry)
  obtain ⟨z,hd,xs,rel,dd⟩:=dt_rd I.hok e;refine call_meetsIn fL dd.typeIs nA (PySem.F.args_dict_get_3 _ _ _) (meetsH_dict_get_default (tupleKind (N9 X.prog X.w)) a b hd r) ⟨tupleKind_room_in1 hu,k,xs,dA I.hok eb,dd,h _ _ (I.tok _) ?_⟩;rw [l];exact (rel.val k).getD rd
end
noncomputable def sE (td ty:TE):TE:=fun Y H Q=>td Y H fun x H1=>∃ a,x=.ref a/\dB H1 a/\ty Y H1 fun y H2=>∃ o,DGet H2 a y o/\Q (o.getD .non) H2
noncomputable def sF (td ty tx:TE):TE:=fun Y H Q=>td Y H fun x H1=>∃ a,x=.ref a/\dB H1 a/\ty Y H1 fun y H2=>tx Y H2 fun z H3=>∃ o,DGet H3 a y o/\Q (o.getD z) H3
section
variable {X:Cx} {o e f:Expr} {apos cpos:Pos} {td ty tx:TE}
theorem ak1(hu:X.A.units+1<cLine)(ho:PE X o td)(he:PE X e ty)(m:M1 X o "get" apos e cpos):PE X (.Call (.Attribute o "get" apos) [e] [] cpos) (sE td ty):=by
 intro pins s Y H Q I h;refine wpAny_Call_method m.base m.few m.line PySem.F.plainAttrs_dict fL PySem.F.type_dict_get (A7 (ho pins s Y H _ I h) fun u s1 ⟨x,H1,I1,rx,a,ex,d,q1⟩=>?_);subst ex;obtain rfl:u=Value.ref a:=rx;obtain ⟨t1,t2,_⟩:=sD I1 d;refine ⟨t1,t2,?_⟩;rw [m.trees];refine Calls.callWith_builtin rfl (Calls.evalArgs_plain (Calls.spliced_cons (A7 (he pins s1 Y H1 _ I1 q1) fun iv s2 ⟨y,H2,I2,ry,ov,g,q2⟩=>Calls.spliced_nil ?_)));exact ao7 hu I2 g ry fun w' s3 I3 rw'=>⟨_,H2,I3,rw',q2⟩
theorem ak2(hu:X.A.units+1<cLine)(ho:PE X o td)(he:PE X e ty)(hf:PE X f tx)(m:M2 X o "get" apos e f cpos):PE X (.Call (.Attribute o "get" apos) [e,f] [] cpos) (sF td ty tx):=by
 intro pins s Y H Q I h;refine wpAny_Call_method m.base m.few m.line PySem.F.plainAttrs_dict fL PySem.F.type_dict_get (A7 (ho pins s Y H _ I h) fun u s1 ⟨x,H1,I1,rx,a,ex,d,q1⟩=>?_);subst ex;obtain rfl:u=Value.ref a:=rx;obtain ⟨t1,t2,_⟩:=sD I1 d;refine ⟨t1,t2,?_⟩;rw [m.trees];refine Calls.callWith_builtin rfl (Calls.evalArgs_plain (Calls.spliced_cons (A7 (he pins s1 Y H1 _ I1 q1) fun iv s2 ⟨y,H2,I2,ry,q2⟩=>
  Calls.spliced_cons (A7 (hf pins s2 Y H2 _ I2 q2) fun fv s3 ⟨z,H3,I3,rz,ov,g,q3⟩=>Calls.spliced_nil ?_))))
 exact ao8 hu I3 g ry rz fun w' s4 I4 rw'=>⟨_,H3,I4,rw',q3⟩
end
section
variable {X:Cx} {pins:List (Addr×Obj)} {Y:St} {H:Hp} {s:Shared} {a:Addr} {kvs:List (B5×V)} {A:Around} {E:Value->Shared->Prop}
end
section
variable {X:Cx} {pins:List (Addr×Obj)} {Y:St} {H:Hp} {s:Shared} {a:Addr} {y:V} {u:Value} {A:Around} {E:Value->Shared->Prop}
end
end L2
namespace L2
open PySem PySem.Spec PyProof.Rows
section
variable {X:Cx}
end
section
variable {κ:Type} [DecidableEq κ]
theorem sG:∀ {l:List κ} {k:κ},l.Nodup->¬ k∈l->(l++[k]).Nodup
 | [],k,_,_=>by simp
 | a::r,k,h,hk=>by
  obtain ⟨h1,h2⟩:=T6.mp h;show (a::(r++[k])).Nodup;refine T6.mpr ⟨fun m=>?_,sG h2 fun m=>hk (E7.mpr (Or.inr m))⟩
  rcases M4.mp m with q | q
  .exact h1 q
  .exact hk (E7.mpr (Or.inl (N7.mp q).symm))
end
end L2
set_option maxRecDepth 100000
namespace L2
open PySem PySem.Spec PyProof.Rows
noncomputable def cloOf (cells:List (Str×Addr)):List (Str×NameKind)->List (Str×Addr)->List (Str×Addr)
 | [],acc=>acc
 | (n,k)::r,acc=>if k=.free then cloOf cells r ((n,(cells.lookup n).getD 0)::acc) else cloOf cells r acc
theorem sH{env:Env} : ∀ (names:List (Str×NameKind)) (acc:List (Str×Addr)),(∀ x∈names,x.2=.free->∃ c,env.cells.lookup x.1=some c)->
  (forIn names acc fun (x:Str×NameKind) (cs:List (Str×Addr))=>(if (x.2==NameKind.free)=true then do
   let c <- cellOf env x.1
   pure (ForInStep.yield ((x.1,c)::cs)) else pure (ForInStep.yield cs):Sem (ForInStep (List (Str×Addr)))))=(pure (cloOf env.cells names acc):Sem (List (Str×Addr)))
 | [],acc,_=>rfl
 | (n,k)::r,acc,h=>by
  rw [List.forIn_cons];have hr:∀ x∈r,x.2=.free->∃ c,env.cells.lookup x.1=some c:=fun x hx=>h x (N0 _ hx)
  by_cases hk:k=.free
  .subst hk;obtain ⟨c,hc⟩:=h (n,.free) O2 rfl;have e1:cellOf env n=pure c:=by unfold cellOf;rw [show env.cells.lookup n=some c from hc]
   simp only [beq_self_eq_true,if_true];rw [e1];show (forIn r ((n,c)::acc) _:Sem _)=_;rw [sH r _ hr];show _=pure (if NameKind.free=.free then cloOf env.cells r ((n,(env.cells.lookup n).getD 0)::acc) else _);rw [if_pos rfl,show env.cells.lookup n=some c from hc];rfl
  .have hb:(k==NameKind.free)=false:=by simpa using hk
   simp only [hb,Bool.false_eq_true,if_false];show (forIn r acc _:Sem _)=_;rw [sH r _ hr];show _=pure (if k=.free then _ else cloOf env.cells r acc);rw [if_neg hk]
theorem zU{scope:Scope}{env:Env}(h:∀ x∈scope.names,x.2=.free->∃ c,env.cells.lookup x.1=some c):closureFor scope env=pure (cloOf env.cells scope.names []):=by
 simp only [closureFor];have e:=sH (env:=env) scope.names [] h;rw [e];rfl
theorem nM{cells:List (Str×Addr)}{x:Str} : ∀ (names:List (Str×NameKind)) (acc:List (Str×Addr)),
  (cloOf cells names acc).lookup x=if (x,NameKind.free)∈names then some ((cells.lookup x).getD 0) else acc.lookup x
 | [],acc=>by simp [cloOf]
 | (n,k)::r,acc=>by
  show (if k=.free then cloOf cells r ((n,(cells.lookup n).getD 0)::acc) else cloOf cells r acc).lookup x=_
  by_cases hk:k=.free
  .subst hk;rw [if_pos rfl,nM r]
   by_cases hm:(x,NameKind.free)∈r
   .rw [if_pos hm,if_pos (N0 _ hm)]
   .rw [if_neg hm,fH]
    by_cases hx:x=n
    .subst hx;rw [if_pos O2]
     simp
    .have e:(x==n)=false:=by simpa using hx
     rw [e,if_neg];intro z
     rcases E7.mp z with z | z
     .exact hx (Prod.mk.inj z).1
     .exact hm z
  .rw [if_neg hk,nM r]
   by_cases hm:(x,NameKind.free)∈r
   .rw [if_pos hm,if_pos (N0 _ hm)]
   .rw [if_neg hm,if_neg];intro z
    rcases E7.mp z with z | z
    .exact hk (Prod.mk.inj z).2.symm
    .exact hm z
theorem sI{α:Type}{x:Str} : ∀ {l:List (Str×α)} {k:α},l.lookup x=some k->(x,k)∈l
 | [],_,h=>by simp at h
 | (n,a)::r,k,h=>by
  rw [fH] at h
  by_cases hx:x=n
  .subst hx;simp at h;subst h;exact O2
  .have e:(x==n)=false:=by simpa using hx
   rw [e] at h;exact N0 _ (sI h)
theorem zV{sc:Scope}{env:Env}{x:Str}{k:NameKind}(hc:∀ y∈sc.names,y.2≠.cell)(h:(relabel sc env).names.lookup x=some k)(hk:k=.cell\/k=.free):(x,NameKind.free)∈sc.names:=by
 have m:=sI h;unfold relabel at m;obtain ⟨⟨n,k'⟩,hm,e⟩:=E3.mp m;have M7:=hc _ hm
 by_cases hf:k'=.free
 .subst hf
  have:n=x:=by
   dsimp only at e
   split at e
   .exact (Prod.mk.inj e).1
   .exact (Prod.mk.inj e).1
  subst this;exact hm
 .have hb:(k'==NameKind.free)=false:=by simpa using hf
  simp only [hb,cT,Bool.false_eq_true,if_false] at e;obtain ⟨e1,e2⟩:=Prod.mk.inj e;subst e1 e2
  rcases hk with z | z
  .exact absurd z M7
  .subst z;exact absurd rfl hf
structure CompOk(N:List Str)(kn:List (Str×NameKind))(sc:Scope)(N':List Str)(k:Nat)(ixs:List Nat):Prop where
 kind:sc.kind=.function
 cell:∀ x∈sc.names,x.2≠.cell
 names:∀ x∈sc.names,x.2=.local->sc.names.lookup x.1=some .local
 free:∀ x∈sc.names,x.2=.free->kn.lookup x.1=some .cell\/kn.lookup x.1=some .free
 clean:∀ x∈sc.names,x.2=.free->sc.names.lookup x.1=some .free
 len:N'.length=k+ixs.length
 at_:ixs.map (fun i=>N[i]?)=(N'.drop k).map some
 fr:∀ x∈N'.drop k,(x,NameKind.free)∈sc.names
noncomputable def M6 (X:Cx) (sc:Scope) (N':List Str) (C:Addr) (zw:Shared) (zt:Hp) (fp:List Addr) (pins:List (Addr×Obj)):Cx:=
 {prog:=X.prog,w:=X.w,K:=X.K,mg:=X.mg,base:=X.base,A:=X.A,N:=N',s₀:=zw,H₀:=zt,
  env:=compEnvC sc (cloOf X.env.cells sc.names []) C X.env,outer:=X.stack,stack:=X.stack,ex:=fp,fn:=fun _=>false,calm:=X.calm,
  pn:=X.pn++pins,xe:=fun _ _=>False }
noncomputable def compStart (k:Nat) (ixs:List Nat) (Y:St):St:=U3 k none++ixs.map fun i=>(Y[i]?).join
theorem afe : (compStart k ixs Y).length=k+ixs.length:=by simp [compStart]
section
variable {X:Cx} {sc:Scope} {N':List Str} {k:Nat} {ixs:List Nat} {pins:List (Addr×Obj)} {Y:St} {H:Hp} {s:Shared} {fp:List Addr}
theorem fU(C:CompOk X.N X.env.scope.names sc N' k ixs)(I:Inv X pins Y H s){x:Str}{c:Addr}(e:(cloOf X.env.cells sc.names []).lookup x=some c):X.env.cells.lookup x=some c/\(x,NameKind.free)∈sc.names:=by
 rw [nM] at e
 by_cases hm:(x,NameKind.free)∈sc.names
 .rw [if_pos hm] at e;obtain ⟨c',u8⟩:=I.ok.has x (C.free _ hm rfl);rw [u8] at e;exact ⟨u8.trans e,hm⟩
 .rw [if_neg hm] at e;cases e
theorem zW(C:CompOk X.N X.env.scope.names sc N' k ixs)(I:Inv X pins Y H s){x:Str}(hm:(x,NameKind.free)∈sc.names):∃ c,(cloOf X.env.cells sc.names []).lookup x=some c/\X.env.cells.lookup x=some c:=by
 obtain ⟨c',u8⟩:=I.ok.has x (C.free _ hm rfl);refine ⟨c',?_,u8⟩;rw [nM,if_pos hm,u8];rfl
theorem ao9(C:CompOk X.N X.env.scope.names sc N' k ixs)(I:Inv X pins Y H s)(hf:∀ b∈fp,FpOk X pins H b)(ho:∀ b∈fp,∃ o,s.heap.get? b=some o):(M6 X sc N' s.heap.objs.size s H fp pins).Ok where
 mod:=I.ok.mod
 kind:=C.kind
 glob:=I.ok.glob
 blt:=I.ok.blt
 above:=B3 _
 inj:=fun x y c e1 e2=>I.ok.inj x y c (fU C I e1).1 (fU C I e2).1
 has:=fun x hx=>by
  have hm:(x,NameKind.free)∈sc.names:=by
   rcases hx with z | z
   .exact zV C.cell z (.inl rfl)
   .exact zV C.cell z (.inr rfl)
  obtain ⟨c,h1,_⟩:=zW C I hm;exact ⟨c,h1⟩
 cab:=fun x c h _=>by cases h
 hd:=I.ok.hd
 frames:=I.ok.frames
 stk:=.inl rfl
 exf:=fun b hb=>by
  obtain ⟨o,e⟩:=ho b hb;exact ⟨M0 (Heap.lt_size e),fun x c e1=>(hf b hb).2.2.2.2.1 x c (fU C I e1).1⟩
 bs:=I.bs
 bsz:=E8 I.ok.bsz I.sz
 noex:=fun b o e hb=>by
  rcases (hf b hb).2.2.2.1 with z | z
  .exact I.ok.noex b o e z
  .exact absurd (P7 (Heap.lt_size e) (E8 I.ok.bsz z)) (f7 _)
 exfs:=fun b hb hm=>by
  rcases E7.mp (I.stkSub b hm) with z | z
  .exact (hf b hb).2.1 z
  .exact (hf b hb).2.2.1 z
 funs:=I.stack
 frf:=I.stkFree
theorem am5(C:CompOk X.N X.env.scope.names sc N' k ixs)(I:Inv X pins Y H s)(hf:∀ b∈fp,FpOk X pins H b)(ho:∀ b∈fp,∃ o,s.heap.get? b=some o){m:Str->Option Value}(hn:h'.Ns s.heap.objs.size m)(hk:∀ b o,s.heap.get? b=some o->h'.get? b=some o):Inv (M6 X sc N' s.heap.objs.size s H fp pins) [] (compStart k ixs Y) H { s with heap:=h',toks:=t' } where
 ok:=ao9 C I hf ho
 os:=rfl
 bare:=I.bare
 base:=Un.kept hk
 loc:=by
  refine ⟨m,hn,fun i x v e1 e2 e3=>?_⟩;unfold compStart at e2
  by_cases hi:i<k
  .rw [fB (by simpa using hi)] at e2;rw [List.getElem?_replicate_of_lt hi] at e2;cases e2
  .rw [iR (by simpa using hi),List.length_replicate] at e2;rw [P6] at e2;cases e4:ixs[i-k]? with
   | none=>rw [e4] at e2;cases e2
   | some j=>
    rw [e4] at e2;have e5:(Y[j]?).join=some v:=Option.some.inj e2;have e6:Y[j]?=some (some v):=by
     cases e7:Y[j]? with
     | none=>rw [e7] at e5;cases e5
     | some o=>rw [e7] at e5;exact congrArg some e5
    have e1':N'[i]?=some x:=e1;have ed:(N'.drop k)[i-k]?=some x:=by rw [List.getElem?_drop,show k+(i-k)=i by lia];exact e1'
    have n3:(x,NameKind.free)∈sc.names:=C.fr x (N4 ed);have n2:X.N[j]?=some x:=by
     have q:=congrArg (fun l=>l[i-k]?) C.at_;simp only [P6,e4,ed,Option.map_some] at q;exact Option.some.inj q
    obtain ⟨m0,hn0,lI⟩:=I.loc;have lJ:X.env.scope.names.lookup x=some .cell\/X.env.scope.names.lookup x=some .free:=C.free _ n3 rfl;obtain ⟨u,r,l⟩:=lI j x v n2 e6 (.inr lJ);refine ⟨u,r,.inr ?_⟩
    rcases l with ⟨l,_⟩ | ⟨_,c,hc,L8⟩
    .have l':X.env.scope.names.lookup x=some .local:=l
     rcases lJ with z | z
     .rw [l'] at z;cases z
     .rw [l'] at z;cases z
    .obtain ⟨c',h1,h2⟩:=zW C I n3;rw [hc] at h2;cases h2;refine ⟨?_,c,h1,?_⟩
     .have e3':(relabel sc X.env).names.lookup x=some .local\/(relabel sc X.env).names.lookup x=some .cell\/(relabel sc X.env).names.lookup x=some .free:=e3
      rcases e3' with z | z
      .exfalso
       have mm:=sI z;unfold relabel at mm;obtain ⟨⟨n,k'⟩,hm,e⟩:=E3.mp mm;have eJ:k'=.local/\n=x:=by
        dsimp only at e
        split at e
        .obtain ⟨_,q⟩:=Prod.mk.inj e
         cases q
        .exact ⟨(Prod.mk.inj e).2,(Prod.mk.inj e).1⟩
       obtain ⟨z1,z2⟩:=eJ;subst z1 z2;have q1:=C.names _ hm rfl;rw [C.clean _ n3 rfl] at q1
       cases q1
      .exact z
     .exact L8.keeps hk
 cell:=fun x c e=>by
  obtain ⟨v,z⟩:=I.cell x c (fU C I e).1;exact ⟨v,z.keeps hk⟩
 free:=I.hok.fresh (B3 _)
 freeC:=fun x c e=>I.freeC x c (fU C I e).1
 pin:=fun p hp=>by
  have hp':p∈X.pn++pins:=by simpa [M6] using hp
  obtain ⟨e,n,ne,nf,d⟩:=I.pin p hp';refine ⟨hk _ _ e,n,M0 (Heap.lt_size e),fun hm=>?_,d⟩
  rcases E7.mp (I.stkSub _ hm) with z | z
  .exact ne z
  .exact nf z
 hok:=I.hok.kept hk
 len:=by rw [afe];exact C.len.symm
end
section
variable {prog:Program} {w:World} {A:Around} {R:Result->Shared->Prop} {s:Shared}
theorem afX{scope:Scope}{pos:Pos}{it acc:Value}{env:Env}(I:Nat->Shared->Prop)(turn:∀ n s,I n s->wpAny (model prog w) A (pyNext it) (fun r zu=>match r with
   | none=>R (.ok .next) zu
   | some v=>wpAny (model prog w) A (letOwnedTupleGo target it v) (fun _ zu=>wpAny (model prog w) A (assign target env v) (fun _ zx=>
     wpAny (model prog w) A (forIn ifs true fun c r=>if r=true then do let ok <- isTrue c env (eval c env);pure (ForInStep.yield ok) else pure (ForInStep.yield r)) (fun ok zw=>
      if ok=true then wpAny (model prog w) A (eval elt env) (fun x zo=>
       wpAny (model prog w) A (call (.builtin "list.append") [acc,x]) (fun _ zn=>∃ m,m<n/\I m zn) (notedBy (model prog w) A env fun e s'=>R (.error e) s') zo) (notedBy (model prog w) A env fun e s'=>R (.error e) s') zw
      else ∃ m,m<n/\I m zw) (notedBy (model prog w) A env fun e s'=>R (.error e) s') zx) (notedBy (model prog w) A env fun e s'=>R (.error e) s') zu) (notedBy (model prog w) A env fun e s'=>R (.error e) s') zu) (notedBy (model prog w) A env fun e s'=>R (.error e) s') s)(n:Nat)(h:I n s) :
  codeAny (model prog w) A (.compLoop (.ListComp elt [⟨target,iter,ifs,0⟩] scope pos) 0 it acc env) R s:=by
 refine codeAny_loop rfl I (fun n s hI=>?_) n h;show wpAny _ A ((compTurn (.ListComp elt [⟨target,iter,ifs,0⟩] scope pos) 0 it acc env).onRaise (fun x=>do noteFrame x env;theTreesLotGoes x)) _ _ s;refine wpAny_noted ?_;rw [compTurn_list];refine wpAny_bind (wpAny_standAt (wpAny_bind (wpAny_mono (turn n s hI) (fun r zu zr=>?_) fun _ _ h'=>h')))
 cases r with
 | none=>exact wpAny_pure zr
 | some v=>
  refine wpAny_bind (wpAny_mono zr (fun _ zu zr=>?_) fun _ _ h'=>h');refine wpAny_bind (wpAny_mono zr (fun _ zx zq=>wpAny_bind (wpAny_mono zq (fun ok zw zp=>?_) fun _ _ h'=>h')) fun _ _ h'=>h')
  cases ok with
  | false=>exact wpAny_pure ⟨rfl,zp⟩
  | true=>
   exact wpAny_bind (wpAny_bind (wpAny_mono zp (fun x zo zm=>wpAny_bind (wpAny_mono zm (fun _ zn zk=>wpAny_pure (wpAny_pure ⟨rfl,zk⟩)) fun _ _ h'=>h')) fun _ _ h'=>h'))
end
noncomputable def PIfs (X:Cx) (ifs:List Expr) (t:TT):Prop:=
 ∀ (pins:List (Addr×Obj)) (s:Shared) (Y:St) (H:Hp) (Q:Bool->Hp->Prop),Inv X pins Y H s->t Y H Q->
  wpAny (model X.prog X.w) X.A (forIn ifs true fun c r=>if r=true then do let ok <- isTrue c X.env (eval c X.env);pure (ForInStep.yield ok) else pure (ForInStep.yield r)) (TP X pins Y Q) X.xe s
noncomputable def tYes:TT:=fun _ H Q=>Q true H
theorem ak3 : PIfs X [] tYes:=fun _ _ _ H _ I h=>wpAny_tests_nil ⟨H,I,h⟩
theorem ak4{c:Expr}{t:TT}(hc:PT X c t):PIfs X [c] t:=fun pins s Y H Q I h=>wpAny_tests_one (hc pins s Y H Q I h)
noncomputable def tComp (wi:TI) (k:Nat) (ixs:List Nat) (g:TG) (c:TT) (te:TE):TE:=fun Y H Q=>wi Y H fun J H1=>∀ D,H1 D=none->
 ∃ (n:Nat) (W:Nat->List V->St->Hp->Prop),W 0 [] (compStart k ixs Y) (A0 H1 D (.lst []))/\∀ i ys σ2 H2,W i ys σ2 H2->H2 D=some (.lst ys)->
  (J.stop i H2/\Q (.ref D) H2)\/
  (i<n/\J.go i H2/\∀ x H',J.yld i H2 x H'->g x σ2 H' fun σ3 H3=>c σ3 H3 fun b H4=>
   if b=true then te σ3 H4 fun y H5=>H5 D=some (.lst ys)/\ys.length<sizeLine/\W (i+1) (ys++[y]) σ3 (A0 H5 D (.lst (ys++[y])))
   else H4 D=some (.lst ys)/\W (i+1) ys σ3 H4)
section
variable {X:Cx} {sc:Scope} {N':List Str} {k:Nat} {ixs:List Nat}
theorem zX{pos:Pos}{J:It}(C:CompOk X.N X.env.scope.names sc N' k ixs)(L9:X.calm=true)(hg:∀ C zw zt fp pins,PG (M6 X sc N' C zw zt fp pins) target g)(hc:∀ C zw zt fp pins,PIfs (M6 X sc N' C zw zt fp pins) ifs c)(he:∀ C zw zt fp pins,PE (M6 X sc N' C zw zt fp pins) elt te){tn:Nat->Heap->Prop}(I:Inv X pins Y H s)(T:Turn X.prog X.w X.K target J fp it tn)(st:tn 0 s.heap)(hf:∀ b∈fp,FpOk X pins H b)(h:∀ D,H D=none->∃ (n:Nat) (W:Nat->List V->St->Hp->Prop),W 0 [] (compStart k ixs Y) (A0 H D (.lst []))/\∀ i ys σ2 H2,W i ys σ2 H2->H2 D=some (.lst ys)->
   (J.stop i H2/\Q (.ref D) H2)\/
   (i<n/\J.go i H2/\∀ x H',J.yld i H2 x H'->g x σ2 H' fun σ3 H3=>c σ3 H3 fun b H4=>
    if b=true then te σ3 H4 fun y H5=>H5 D=some (.lst ys)/\ys.length<sizeLine/\W (i+1) (ys++[y]) σ3 (A0 H5 D (.lst (ys++[y])))
    else H4 D=some (.lst ys)/\W (i+1) ys σ3 H4)){RR:Value->Addr->Result->Shared->Prop}(hRR:∀ D Cc (H':Hp) (s':Shared) (o:Obj) m,Inv X pins Y H' s'->Inv X (pins++[(Cc,o)]) Y H' s'->s'.heap.get? Cc=some o->s'.heap.Ns Cc m->H' Cc=none->Cc≠X.env.locals->X.s₀.heap.objs.size<=Cc->
   (∀ x c,X.env.cells.lookup x=some c->c≠Cc)->(∀ p∈X.pn++pins,p.1≠Cc)->Q (.ref D) H'->RR (.ref D) Cc (.ok .next) s') :
  wpAny (model X.prog X.w) X.A (newList []) (fun acc zw=>wpAny (model X.prog X.w) X.A (newFunctionEnv sc X.env.globals (cloOf X.env.cells sc.names []) [] X.env.qual none .none (some X.env)) (fun cenv zo=>
   codeAny (model X.prog X.w) X.A (.compStart (.ListComp elt [⟨target,iter,ifs,0⟩] sc pos) 0 (.ref it) acc { cenv with scope:=relabel sc X.env }) (RR acc cenv.locals) zo) E zw) E s:=by
 have fresh:=I.hok.fresh (B3 s.heap.objs.size);obtain ⟨n,W,w0,turn⟩:=h s.heap.objs.size fresh;have hfD:∀ b∈fp,b≠s.heap.objs.size:=fun b hb z=>by
  obtain ⟨o,e,_⟩:=T.obj _ _ st b hb;rw [z] at e;exact absurd (Heap.lt_size e) (f7 _)
 have hf3:∀ b∈fp,FpOk X pins (A0 H s.heap.objs.size (.lst [])) b:=fun b hb=>⟨by rw [A4 (hfD b hb)];exact (hf b hb).1,(hf b hb).2⟩
 have main:∀ (s3:Shared) (zr:Heap) (t1:Nat),Inv X pins Y (A0 H s.heap.objs.size (.lst [])) s3->(∀ b o,s.heap.get? b=some o->s3.heap.get? b=some o)->zr.Ns s3.heap.objs.size (fun x=>([]:List (Str×Value)).reverse.lookup x)->
   (∀ b o,s3.heap.get? b=some o->zr.get? b=some o)->
   tn 0 zr/\codeAny (model X.prog X.w) X.A (.compLoop (.ListComp elt [⟨target,iter,ifs,0⟩] sc pos) 0 (.ref it) (.ref s.heap.objs.size) (M6 X sc N' s3.heap.objs.size s3 (A0 H s.heap.objs.size (.lst [])) fp pins).env) (RR (.ref s.heap.objs.size) s3.heap.objs.size) { s3 with heap:=zr,toks:=t1 }:=by
  intro s3 zr t1 I3 k3 bW keep3;have bV:tn 0 s3.heap:=T.keep _ _ _ st fun b hb o e=>k3 b o e
  have ho3:∀ b∈fp,∃ o,s3.heap.get? b=some o:=fun b hb=>let ⟨o,e,_⟩:=T.obj _ _ bV b hb;⟨o,e⟩
  have qA:tn 0 zr:=T.keep _ _ _ bV fun b hb o e=>keep3 b o e
  have B0:Inv (M6 X sc N' s3.heap.objs.size s3 (A0 H s.heap.objs.size (.lst [])) fp pins) [] (compStart k ixs Y) (A0 H s.heap.objs.size (.lst [])) { s3 with heap:=zr,toks:=t1 }:=am5 C I3 hf3 ho3 bW keep3;refine ⟨qA,?_⟩;have fpX:∀ {H':Hp},(∀ b∈fp,H' b=none)->∀ b∈fp,FpOk (M6 X sc N' s3.heap.objs.size s3 (A0 H s.heap.objs.size (.lst [])) fp pins) [] H' b:=fun {H'} hn b hb=>by
   obtain ⟨o,eo⟩:=ho3 b hb;refine ⟨hn b hb,M0 (Heap.lt_size eo),?_,.inl hb,?_,?_⟩
   .intro hm
    rcases E7.mp (I3.stkSub b hm) with z | z
    .exact (hf b hb).2.1 z
    .exact (hf b hb).2.2.1 z
   .intro x cc ec;exact (hf b hb).2.2.2.2.1 x cc (fU C I3 ec).1
   .intro p hp;exact (hf b hb).2.2.2.2.2 p (by simpa [M6] using hp)
  refine afX (fun m s'=>∃ i ys σ' H',m=n-i/\Inv (M6 X sc N' s3.heap.objs.size s3 (A0 H s.heap.objs.size (.lst [])) fp pins) [] σ' H' s'/\tn i s'.heap/\(∀ b∈fp,H' b=none)/\H' s.heap.objs.size=some (.lst ys)/\W i ys σ' H') ?_ n ⟨0,[],_,_,rfl,B0,qA,fun b hb=>(hf3 b hb).1,A3,w0⟩;rintro m s4 ⟨i,ys,σ4,H4,rfl,I4,st4,fr4,hD4,w4⟩;have again:∀ {i':Nat} {ys':List V} {σ7:St} {H7:Hp} {s6 s7:Shared},i<n->i'=i+1->tn i' s6.heap->Inv (M6 X sc N' s3.heap.objs.size s3 (A0 H s.heap.objs.size (.lst [])) fp pins) ([]++fP fp s6.heap) σ7 H7 s7->H7 s.heap.objs.size=some (.lst ys')->W i' ys' σ7 H7->
    ∃ m,m<n-i/\∃ i ys σ' H',m=n-i/\Inv (M6 X sc N' s3.heap.objs.size s3 (A0 H s.heap.objs.size (.lst [])) fp pins) [] σ' H' s7/\tn i s7.heap/\(∀ b∈fp,H' b=none)/\H' s.heap.objs.size=some (.lst ys)/\W i ys σ' H':=fun {i' ys' σ7 H7 s6 s7} C3 ei hJ I7 hD w=>by
   subst ei;refine ⟨n-(i+1),by lia,i+1,ys',σ7,H7,rfl,I7.unpinned,T.keep _ _ _ hJ fun b hb o e=>(I7.pin (b,o) (R5 _ (R5 _ (fQ hb e)))).1,fun b hb=>?_,hD,w⟩;obtain ⟨o,e,_⟩:=T.obj _ _ hJ b hb;exact (I7.pin (b,o) (R5 _ (R5 _ (fQ hb e)))).2.1
  rcases turn i ys σ4 H4 w4 hD4 with ⟨stop,q⟩ | ⟨C3,go,step⟩
  .refine A7 (T.done (M6 X sc N' s3.heap.objs.size s3 (A0 H s.heap.objs.size (.lst [])) fp pins) rfl rfl rfl L9 i [] s4 σ4 H4 _ I4 (fpX fr4) st4 stop) fun r s5 hV=>?_
   obtain ⟨hr,I5⟩:=hV;subst hr;have back:Inv X pins Y H4 s5:=I3.call' (ch:=fp) I5.os I5.base I5.hok I5.bare fun b hb=>⟨(hf b hb).2.2.2.1,(hf b hb).2.1,(hf b hb).2.2.2.2.1,(hf b hb).2.2.2.2.2⟩
   obtain ⟨mm,hn5,_⟩:=I5.loc;obtain ⟨o,es,ep,ho,hd,R8⟩:=id hn5;have hC:s3.heap.objs.size≠X.env.locals:=x0 I3.lt;refine hRR s.heap.objs.size s3.heap.objs.size H4 s5 o mm back ?_ ho hn5 I5.free hC I3.sz ?_ ?_ q
   .refine back.pins_of fun p hp=>?_
    rcases M4.mp hp with z | z
    .exact back.pin p (R5 _ z)
    .have e:p=(s3.heap.objs.size,o):=by simpa using z
     subst e;exact ⟨ho,I5.free,hC,I3.nofs (B3 _),fun v z=>by rw [hd] at z;cases z⟩
   .intro x c e z;obtain ⟨v,q⟩:=I3.cell x c e
    have:=q.lt
    rw [z] at this;exact f7 _ this
   .intro p hp z
    have:=Heap.lt_size (I3.pin p hp).1
    rw [z] at this;exact f7 _ this
  .refine A7 (T.item (M6 X sc N' s3.heap.objs.size s3 (A0 H s.heap.objs.size (.lst [])) fp pins) rfl rfl rfl L9 i [] s4 σ4 H4 _ I4 (fpX fr4) st4 go) fun r s5 hV=>?_
   obtain ⟨u,hr,h5⟩:=hV;subst hr;refine A7 h5 fun _ s6 h6=>?_
   obtain ⟨x,H6,I6,r6,y6,hJ,fr6⟩:=h6;have I6':=I6.pinned (fpX fr6) (T.obj _ _ hJ);refine wpAny_mono (hg _ _ _ _ _ _ s6 σ4 H6 x u _ I6' r6 (step x H6 y6)) (fun _ s7 h7=>?_) fun _ _ z=>False.elim z
   obtain ⟨σ7,H7,I7,q7⟩:=h7;refine wpAny_mono (hc _ _ _ _ _ _ s7 σ7 H7 _ I7 q7) (fun ok s8 h8=>?_) fun _ _ z=>False.elim z
   obtain ⟨H8,I8,q8⟩:=h8
   cases ok with
   | false=>
    rw [if_neg K5] at q8 ⊢
    exact again C3 rfl hJ I8 q8.1 q8.2
   | true=>
    rw [if_pos rfl] at q8 ⊢
    refine wpAny_mono (he _ _ _ _ _ _ s8 σ7 H8 _ I8 q8) (fun y s9 h9=>?_) fun _ _ z=>False.elim z
    obtain ⟨yv,H9,I9,r9,hD9,hz9,w9⟩:=h9;refine wpAny_mono (zM (X:=(M6 X sc N' s3.heap.objs.size s3 (A0 H s.heap.objs.size (.lst [])) fp pins)) _ s9 σ7 H9 (.ref s.heap.objs.size) [yv] (.ref s.heap.objs.size) [y] (fun _ H'=>H'=A0 H9 s.heap.objs.size (.lst (ys++[yv]))) I9 rfl (.cons r9 .nil) ⟨_,ys,yv,rfl,rfl,hD9,hz9,rfl⟩) (fun _ s10 h10=>?_) fun _ _ z=>False.elim z
    obtain ⟨_,Z9,I10,_,e10⟩:=h10;subst e10;exact again C3 rfl hJ I10 A3 w9
 have I3:=I.lnew (ys:=[]) (its:=[]) (t':=s.toks) .nil (G2 _);refine wpAny_newObj_type (wpAny_newFunctionEnv C.cell (by intro y hy;simp at hy) (fun zr zj zi=>?_) C.kind);obtain ⟨qA,loop⟩:=main _ zr (s.toks+([]:List (Str×Value)).length) I3 (fun b o e=>Heap.get?_push_of_some _ e) zj fun b o e=>zi.extBut b o (M0 (Heap.lt_size e)) (Heap.get?_push_of_some _ e)
 exact codeAny_compStart_list loop (T.self X.A 0 _ _ _ qA loop)
theorem am6{pos:Pos}{wi:TI}(C:CompOk X.N X.env.scope.names sc N' k ixs)(L9:X.calm=true)(hi:PI X target iter wi)(hg:∀ C zw zt fp pins,PG (M6 X sc N' C zw zt fp pins) target g)(hc:∀ C zw zt fp pins,PIfs (M6 X sc N' C zw zt fp pins) ifs c)(he:∀ C zw zt fp pins,PE (M6 X sc N' C zw zt fp pins) elt te)(hs:∀ x,foldedSetIterable iter X.env x=pure x:=by intro _;rfl):PE X (.ListComp elt [⟨target,iter,ifs,0⟩] sc pos) (tComp wi k ixs g c te):=by
 intro pins s Y H Q I h;rw [eval_ListComp];refine wpAny_comprehension_free (use:=none) rfl hs (zU fun x hx hf=>I.ok.has x.1 (C.free x hx hf)) C.kind C.names (A7 (hi pins s Y H _ I h) fun v s1 h1=>A7 h1 fun itv s2 h2=>?_);obtain ⟨it,fp,tn,J,H2,e,I2,T,lC,f2,q2⟩:=h2;subst e;refine zX (RR:=fun acc C=>compPost (model X.prog X.w) X.A X.xe none (EP X pins Y Q) acc C) C L9 hg hc he I2 T lC f2 q2 ?_;intro D Cc H' s' o m I' _ ho hn hC hL bX L8 eK q;exact ⟨m,hn,fun h'' hs''=>⟨.ref D,H',I'.turned (t':=s'.toks) (fun b o hb e=>hs''.extBut b o hb e) hC hL (.inr bX) L8 eK,rfl,q⟩⟩
theorem aio{pos py:Pos}{wi:TI}{y:Str}(hN:X.N.Nodup)(hiN:X.N[i]?=some y)(hx:k9 X.env.scope y)(C:CompOk X.N X.env.scope.names sc N' k ixs)(L9:X.calm=true)(hi:PI X target iter wi)(hg:∀ C zw zt fp pins,PG (M6 X sc N' C zw zt fp pins) target g)(hc:∀ C zw zt fp pins,PIfs (M6 X sc N' C zw zt fp pins) ifs c)(he:∀ C zw zt fp pins,PE (M6 X sc N' C zw zt fp pins) elt te)(lK:swapsWith (.ListComp elt [⟨target,iter,ifs,0⟩] sc pos) (some (.Name y py)) spos.line X.env=pure true:=by rfl)(hf:X.fn y=true\/X.env.scope.names.lookup y=some .local:=by first | exact .inl rfl | exact .inr rfl | assumption)(hs:∀ x,foldedSetIterable iter X.env x=pure x:=by intro _;rfl):PS X (.Assign [.Name y py] (.ListComp elt [⟨target,iter,ifs,0⟩] sc pos) spos) (tAsg (tComp wi k ixs g c te) (gName i)):=by
 intro pins s Y H D I h;rw [exec_Assign_Name_used _ _ _ _ lK];refine wpAny_bind (wpAny_standAt (wpAny_bind ?_));show wpAny _ X.A (do let _ <- comprehension (.ListComp elt [⟨target,iter,ifs,0⟩] sc pos) sc X.env _ (newList []) false (eval iter X.env) (some (assign (.Name y py) X.env))) _ _ s;refine wpAny_bind (wpAny_mono (wpAny_comprehension_free (use:=some (assign (.Name y py) X.env)) (Q:=fun _ s'=>SP X pins D .next s') rfl hs (zU fun x hx hf=>I.ok.has x.1 (C.free x hx hf)) C.kind C.names
  (A7 (hi pins s Y H _ I h) fun v s1 h1=>A7 h1 fun itv s2 h2=>?_)) (fun _ s' hq=>wpAny_pure (wpAny_pure hq)) fun _ _ e=>e)
 obtain ⟨it,fp,tn,J,H2,e,I2,T,lC,f2,q2⟩:=h2;subst e;refine zX (Q:=fun x H1=>gName i x Y H1 D.nx) (RR:=fun acc C=>compPost (model X.prog X.w) X.A X.xe (some (assign (.Name y py) X.env)) (fun _ s'=>SP X pins D .next s') acc C) C L9 hg hc he I2 T lC f2 q2 ?_;intro Da Cc H' s' o m _ Ip ho hn hC hL bX L8 eK q;show wpAny _ X.A (assign (.Name y py) X.env (.ref Da)) _ _ _;refine wpAny_assign_Name (jH (v:=.ref Da) Ip hN hiN hx rfl (fun s'' I''=>?_) hf);have hC2:=(I''.pin (Cc,o) (R5 _ (R5 _ (N7.mpr rfl)))).1;refine ⟨m,hn.at' fun o' e'=>?_,fun h'' hs''=>?_⟩
 .rw [ho] at e';cases e';exact hC2
 .have I3:Inv X pins (Y.set i (some (.ref Da))) H' s'':=I''.unpinned;exact ⟨_,H',I3.turned (t':=s''.toks) (fun b o hb e=>hs''.extBut b o hb e) hC hL (.inr bX) L8 eK,q⟩
end
end L2
end
set_option maxRecDepth 100000
namespace L2
open PySem PySem.Spec PyProof.Rows
section
variable {X:Cx} {a b:Expr} {ta tb:TE} {pos:Pos} {rest:List Expr}
noncomputable def tTru (K:PySem.W.Frag) (te:TE):TT:=fun Y H Q=>te Y H fun x H1=>∃ k,TruV K x H1 k/\Q k H1
theorem aqa(ha:PE X a ta)(he:∀ whole,isTrue a X.env whole=(do let v <- whole;standAt a.pos;holding [v] (truthy v)):=by intro _;rfl):PT X a (tTru X.K ta):=akP ha he
noncomputable def tNotT (K:PySem.W.Frag) (te:TE):TE:=fun Y H Q=>te Y H fun x H1=>∃ k,TruV K x H1 k/\Q (.bl (!k)) H1
theorem am7(ha:PE X a ta):PE X (.UnaryOp .Not a pos) (tNotT X.K ta):=by
 intro pins s Y H Q I h;refine UnaryOp_ (A7 (ha pins s Y H _ I h) fun v s1 ⟨x,H1,I1,r1,q1⟩=>?_);exact not_of (A7 (yT pins s1 Y H1 x v (fun k H2=>Q (.bl (!k)) H2) I1 r1 q1) fun c s2 ⟨H2,I2,q2⟩=>⟨.bl (!c),H2,I2,rfl,q2⟩)
end
mutual
inductive Dn (K:PySem.W.Frag) (H:Hp):V->PyData->Prop
 | non:Dn K H .non .none
 | bl (b):Dn K H (.bl b) (.bool b)
 | int (i):Dn K H (.int i) (.int i)
 | str (x):PyData.strOk x=true->Dn K H (.str x) (.str x)
 | lst {a xs ds} : C7 K H a xs->DnAll K H xs ds->Dn K H (.ref a) (.list ds)
 | tup {a xs ds} : C4 K H a xs->DnAll K H xs ds->Dn K H (.ref a) (.tuple ds)
inductive DnAll (K:PySem.W.Frag) (H:Hp):List V->List PyData->Prop
 | nil:DnAll K H [] []
 | cons {x xs d ds} : Dn K H x d->DnAll K H xs ds->DnAll K H (x::xs) (d::ds)
end
section
variable {X:Cx} {pins:List (Addr×Obj)} {Y:St} {H:Hp} {s:Shared}
mutual
theorem Dn.reads{K:PySem.W.Frag}{x:V}{d:PyData}(I:Inv X pins Y H s)(hK:X.K=K):Dn K H x d->∀ {u:Value},RelV x u->d.canLay0=true/\∃ as,Reads s.heap u d as
 | .non,u,r=>by cases r;exact ⟨rfl,_,.none⟩
 | .bl b,u,r=>by cases r;exact ⟨rfl,_,.bool b⟩
 | .int i,u,r=>by obtain ⟨t,rfl⟩:=r;exact ⟨rfl,_,.int i t⟩
 | .str x hx,u,r=>by obtain ⟨t,rfl⟩:=r;exact ⟨hx,_,.str x t⟩
 | .lst (a:=a) q hs,u,r=>by
  cases r
  subst hK;obtain ⟨its,rv,⟨o,n,e,c,_,dd⟩,_⟩:=I.list q;obtain ⟨h1,as,h2⟩:=DnAll.reads I rfl hs rv;exact ⟨h1,_,.list e c dd (by simpa using h2)⟩
 | .tup (a:=a) q hs,u,r=>by
  cases r
  subst hK;obtain ⟨its,rv,⟨o,e,c,n,dd⟩,_⟩:=I.tuple q;obtain ⟨h1,as,h2⟩:=DnAll.reads I rfl hs rv;exact ⟨h1,_,.tuple e c dd (by simpa using h2)⟩
theorem DnAll.reads{K:PySem.W.Frag}{xs:List V}{ds:List PyData}(I:Inv X pins Y H s)(hK:X.K=K):DnAll K H xs ds->∀ {us:List Value},Vals xs us->PyData.canLayAll0 ds=true/\∃ as,ReadsAll s.heap us ds as
 | .nil,us,r=>by cases r;exact ⟨rfl,_,.nil⟩
 | .cons h t,us,r=>by
  cases r with
  | cons r1 r2=>
   obtain ⟨c1,a1,q1⟩:=Dn.reads I hK h r1;obtain ⟨c2,a2,q2⟩:=DnAll.reads I hK t r2;exact ⟨by simp [PyData.canLayAll0,c1,c2],_,.cons q1 q2⟩
end
end
mutual
theorem Dn.same{K:PySem.W.Frag}{H H':Hp}(hs:Same H H'){x:V}{d:PyData} : Dn K H x d->Dn K H' x d
 | .non=>.non
 | .bl b=>.bl b
 | .int i=>.int i
 | .str x h=>.str x h
 | .lst q h=>.lst (hs.seq q) (DnAll.same hs h)
 | .tup (a:=a) (xs:=xs) q h=>.tup (by
   rcases q with (q | ⟨o,q⟩) | q
   .exact .inl (.inl (hs _ _ q))
   .exact .inl (.inr ⟨o,hs _ _ q⟩)
   .exact .inr q) (DnAll.same hs h)
theorem DnAll.same{K:PySem.W.Frag}{H H':Hp}(hs:Same H H'){xs:List V}{ds:List PyData} : DnAll K H xs ds->DnAll K H' xs ds
 | .nil=>.nil
 | .cons h t=>.cons (Dn.same hs h) (DnAll.same hs t)
end
theorem dC{K:PySem.W.Frag}{H:Hp} : ∀ {zs:List Int},DnAll K H (zs.map V.int) (zs.map g7)
 | []=>.nil
 | z::zs=>.cons (.int z) dC
theorem fV:∀ (xs ys:List Int),W8 (xs.map g7) (ys.map g7)=decide (xs=ys)
 | [],[]=>by simp [W8]
 | [],_::_=>by simp [W8]
 | _::_,[]=>by simp [W8]
 | x::xs,y::ys=>by
  rw [F7,F7,W8,fV xs ys];rw [show V6 (.int x) (.int y)=(x==y) by simp [V6]]
  by_cases h1:x=y
  .subst h1;simp
  .simp [h1]
noncomputable def rAddR (K:PySem.W.Frag) (a b:Addr) (H:Hp) (Q:VK):Prop:=rCat (.ref a) (.ref b) H Q\/rCatT K (.ref a) (.ref b) H Q
theorem rAddR.l{K:PySem.W.Frag}{a b:Addr}{H:Hp}{Q:VK}{xs ys:List V}(h1:H a=some (.lst xs))(h2:H b=some (.lst ys))(h3:xs.length+ys.length<=sizeLine)(h:∀ p,H p=none->Q (.ref p) (A0 H p (.lst (xs++ys)))):rAddR K a b H Q:=.inl ⟨a,b,xs,ys,rfl,rfl,h1,h2,h3,h⟩
theorem rAddR.t{K:PySem.W.Frag}{a b:Addr}{H:Hp}{Q:VK}{xs ys:List V}(h1:C4 K H a xs)(h2:C4 K H b ys)(h0:xs≠[])(h3:xs.length+ys.length<=sizeLine)(he:ys=[]->Q (.ref a) H)(h:ys≠[]->∀ p,H p=none->Q (.ref p) (A0 H p (.tup (xs++ys)))):rAddR K a b H Q:=.inr ⟨a,b,xs,ys,rfl,rfl,h1,h2,h0,h3,he,h⟩
noncomputable def rAddU (K:PySem.W.Frag):V->V->Hp->VK->Prop
 | .int i,.int j,H,Q=>Q (.int (i+j)) H
 | .str i,.str j,H,Q=>i.length+j.length<=sizeLine/\Q (.str (i++j)) H
 | .ref a,.ref b,H,Q=>rAddR K a b H Q
 | _,_,_,_=>False
noncomputable def rMulU:V->V->Hp->VK->Prop
 | .int i,.int j,H,Q=>CMul i j/\Q (.int (i*j)) H
 | .ref a,.int j,H,Q=>rRep (.ref a) (.int j) H Q
 | _,_,_,_=>False
noncomputable def rEqU (K:PySem.W.Frag):V->V->Hp->VK->Prop
 | .int i,.int j,H,Q=>Q (.bl (decide (i=j))) H
 | .str i,.str j,H,Q=>Q (.bl (decide (i=j))) H
 | .bl i,.bl j,H,Q=>Q (.bl (decide (i=j))) H
 | x,y,H,Q=>∃ d e,Dn K H x d/\Dn K H y e/\min d.depth e.depth<=60/\Q (.bl (V6 d e)) H
noncomputable def rNeU (K:PySem.W.Frag):V->V->Hp->VK->Prop
 | .int i,.int j,H,Q=>Q (.bl (!decide (i=j))) H
 | .str i,.str j,H,Q=>Q (.bl (!decide (i=j))) H
 | .bl i,.bl j,H,Q=>Q (.bl (!decide (i=j))) H
 | x,y,H,Q=>∃ d e,Dn K H x d/\Dn K H y e/\min d.depth e.depth<=60/\Q (.bl (!PyData.eqv d e)) H
noncomputable def rLtU:V->V->Hp->VK->Prop
 | .int i,.int j,H,Q=>Q (.bl (decide (i<j))) H
 | .str i,.str j,H,Q=>Q (.bl (decide (i.cps.toList<j.cps.toList))) H
 | _,_,_,_=>False
noncomputable def rLeU:V->V->Hp->VK->Prop
 | .int i,.int j,H,Q=>Q (.bl (decide (i<=j))) H
 | .str i,.str j,H,Q=>Q (.bl (!decide (j.cps.toList<i.cps.toList))) H
 | _,_,_,_=>False
noncomputable def rGtU:V->V->Hp->VK->Prop
 | .int i,.int j,H,Q=>Q (.bl (decide (j<i))) H
 | .str i,.str j,H,Q=>Q (.bl (decide (j.cps.toList<i.cps.toList))) H
 | _,_,_,_=>False
noncomputable def rGeU:V->V->Hp->VK->Prop
 | .int i,.int j,H,Q=>Q (.bl (decide (j<=i))) H
 | .str i,.str j,H,Q=>Q (.bl (!decide (i.cps.toList<j.cps.toList))) H
 | _,_,_,_=>False
noncomputable def rInR (K:PySem.W.Frag) (neg:Bool) (x:V) (p:Addr) (H:Hp) (Q:VK):Prop:=rW K neg x (.ref p) H Q\/∃ o,DGet H p x o/\Q (.bl (neg.xor o.isSome)) H
theorem rInR.l{K:PySem.W.Frag}{neg:Bool}{x:V}{p:Addr}{H:Hp}{Q:VK}{xs:List V}(h1:C7 K H p xs\/C4 K H p xs)(h2:flatV x=true)(h3:xs.all flatV=true)(h:Q (.bl (neg.xor (bB x xs))) H):rInR K neg x p H Q:=.inl ⟨p,xs,rfl,h1,h2,h3,by cases neg <;> simpa using h⟩
theorem rInR.d{K:PySem.W.Frag}{neg:Bool}{x:V}{p:Addr}{H:Hp}{Q:VK}{o:Option V}(h1:DGet H p x o)(h:Q (.bl (neg.xor o.isSome)) H):rInR K neg x p H Q:=.inr ⟨o,h1,h⟩
noncomputable def rInU (K:PySem.W.Frag) (neg:Bool) (x:V):V->Hp->VK->Prop
 | .str j,H,Q=>∃ i,x=.str i/\Q (.bl (neg.xor (!(Builtin.Str.occurrences j i 0 j.length 1).isEmpty))) H
 | .ref p,H,Q=>rInR K neg x p H Q
 | _,_,_=>False
section
variable {X:Cx} {pins:List (Addr×Obj)} {Y:St} {H:Hp} {s:Shared}
theorem p_add:G4 X (binaryOp .Add) (rAddU X.K):=by
 intro pins s Y H x y v u Q I rx ry h
 cases x <;> cases y <;> try exact h.elim
 .exact aoM pins s Y H _ _ v u Q I rx ry ⟨_,_,rfl,rfl,h⟩
 .exact aig pins s Y H _ _ v u Q I rx ry ⟨_,_,rfl,rfl,h⟩
 .rcases h with h | h
  .exact ao5 pins s Y H _ _ v u Q I rx ry h
  .exact amX pins s Y H _ _ v u Q I rx ry h
theorem p_sub:G4 X (binaryOp .Sub) (p8 fun i j=>.int (i-j)):=aoN
theorem p_mul:G4 X (binaryOp .Mult) rMulU:=by
 intro pins s Y H x y v u Q I rx ry h
 cases x <;> cases y <;> try exact h.elim
 .exact aoO pins s Y H _ _ v u Q I rx ry ⟨_,_,rfl,rfl,h⟩
 .exact ao6 pins s Y H _ _ v u Q I rx ry h
theorem aqb:G4 X (binaryOp .FloorDiv) (rI CDiv fun i j=>.int (i / j)):=amM
theorem p_mod:G4 X (binaryOp .Mod) (rI (fun _ j=>0<j) fun i j=>.int (i % j)):=aoP
theorem nN(hu:X.A.units+64<cLine){x y:V}{v u:Value}{Q:VK}(I:Inv X pins Y H s)(rx:RelV x v)(ry:RelV y u)(h:∃ d e,Dn X.K H x d/\Dn X.K H y e/\min d.depth e.depth<=60/\Q (.bl (V6 d e)) H):wpAny (model X.prog X.w) X.A (compareOp .Eq v u) (EP X pins Y Q) X.xe s:=by
 obtain ⟨d,e,h1,h2,hd,q⟩:=h;obtain ⟨c1,as,r1⟩:=h1.reads I rfl rx;obtain ⟨c2,bs,r2⟩:=h2.reads I rfl ry;exact SeqAt.compareEq_reads r1 r2 c1 c2 (by lia) ⟨.bl _,H,I,rfl,q⟩
theorem nO(hu:X.A.units+64<cLine){x y:V}{v u:Value}{Q:VK}(I:Inv X pins Y H s)(rx:RelV x v)(ry:RelV y u)(h:∃ d e,Dn X.K H x d/\Dn X.K H y e/\min d.depth e.depth<=60/\Q (.bl (!PyData.eqv d e)) H):wpAny (model X.prog X.w) X.A (compareOp .NotEq v u) (EP X pins Y Q) X.xe s:=by
 obtain ⟨d,e,h1,h2,hd,q⟩:=h;obtain ⟨c1,as,r1⟩:=h1.reads I rfl rx;obtain ⟨c2,bs,r2⟩:=h2.reads I rfl ry;exact SeqAt.compareNe_reads r1 r2 c1 c2 (by lia) ⟨.bl _,H,I,rfl,q⟩
theorem p_eq(hu:X.A.units+64<cLine):G4 X (compareOp .Eq) (rEqU X.K):=by
 intro pins s Y H x y v u Q I rx ry h;have sc:∀ {x y:V},yK x y H Q->RelV x v->RelV y u->wpAny (model X.prog X.w) X.A (compareOp .Eq v u) (EP X pins Y Q) X.xe s:=fun {x y} h rx ry=>op_eq pins s Y H x y v u Q I rx ry h
 cases x with
 | int i=>cases y with
  | int j=>exact sc (x:=.int i) (y:=.int j) ⟨rfl,by simpa using (show Q (.bl (decide (i=j))) H from h)⟩ rx ry
  | _=>exact nN hu I rx ry h
 | str i=>cases y with
  | str j=>exact sc (x:=.str i) (y:=.str j) ⟨rfl,by simpa using (show Q (.bl (decide (i=j))) H from h)⟩ rx ry
  | _=>exact nN hu I rx ry h
 | bl i=>cases y with
  | bl j=>exact sc (x:=.bl i) (y:=.bl j) ⟨rfl,by simpa using (show Q (.bl (decide (i=j))) H from h)⟩ rx ry
  | _=>exact nN hu I rx ry h
 | _=>cases y <;> exact nN hu I rx ry h
theorem p_ne(hu:X.A.units+64<cLine):G4 X (compareOp .NotEq) (rNeU X.K):=by
 intro pins s Y H x y v u Q I rx ry h;have sc:∀ {x y:V},yL x y H Q->RelV x v->RelV y u->wpAny (model X.prog X.w) X.A (compareOp .NotEq v u) (EP X pins Y Q) X.xe s:=fun {x y} h rx ry=>op_ne pins s Y H x y v u Q I rx ry h
 cases x with
 | int i=>cases y with
  | int j=>exact sc (x:=.int i) (y:=.int j) ⟨rfl,by simpa using (show Q (.bl (!decide (i=j))) H from h)⟩ rx ry
  | _=>exact nO hu I rx ry h
 | str i=>cases y with
  | str j=>exact sc (x:=.str i) (y:=.str j) ⟨rfl,by simpa using (show Q (.bl (!decide (i=j))) H from h)⟩ rx ry
  | _=>exact nO hu I rx ry h
 | bl i=>cases y with
  | bl j=>exact sc (x:=.bl i) (y:=.bl j) ⟨rfl,by simpa using (show Q (.bl (!decide (i=j))) H from h)⟩ rx ry
  | _=>exact nO hu I rx ry h
 | _=>cases y <;> exact nO hu I rx ry h
theorem p_lt:G4 X (compareOp .Lt) rLtU:=by
 intro pins s Y H x y v u Q I rx ry h
 cases x <;> cases y <;> try exact h.elim
 .exact op_lt pins s Y H _ _ v u Q I rx ry ⟨_,_,rfl,rfl,h⟩
 .exact yQ pins s Y H _ _ v u Q I rx ry ⟨_,_,rfl,rfl,h⟩
theorem p_le:G4 X (compareOp .LtE) rLeU:=by
 intro pins s Y H x y v u Q I rx ry h
 cases x <;> cases y <;> try exact h.elim
 .exact op_le pins s Y H _ _ v u Q I rx ry ⟨_,_,rfl,rfl,h⟩
 .obtain ⟨t,rfl⟩:=rx;obtain ⟨t',rfl⟩:=ry;exact PySem.P.le_str ⟨.bl _,H,I,by simp [RelV],h⟩
theorem p_gt:G4 X (compareOp .Gt) rGtU:=by
 intro pins s Y H x y v u Q I rx ry h
 cases x <;> cases y <;> try exact h.elim
 .exact op_gt pins s Y H _ _ v u Q I rx ry ⟨_,_,rfl,rfl,h⟩
 .obtain ⟨t,rfl⟩:=rx;obtain ⟨t',rfl⟩:=ry;exact PySem.P.gt_str ⟨.bl _,H,I,rfl,h⟩
theorem p_in(hu:X.A.units+64<cLine):G4 X (compareOp .In) (rInU X.K false):=by
 intro pins s Y H x y v u Q I rx ry h
 cases y with
 | str j=>
  obtain ⟨i,rfl,q⟩:=h;exact ai5 pins s Y H _ _ v u Q I rx ry ⟨i,j,rfl,rfl,by simpa using q⟩
 | ref p=>
  rcases h with h | ⟨o,g,q⟩
  .exact ajh pins s Y H _ _ v u Q I rx ry h
  .obtain rfl:u=Value.ref p:=ry;exact d_in (by lia) I g rx fun s3 I3=>⟨.bl o.isSome,H,I3,rfl,by simpa using q⟩
 | _=>exact h.elim
theorem am8(hu:X.A.units+64<cLine):G4 X (compareOp .NotIn) (rInU X.K true):=by
 intro pins s Y H x y v u Q I rx ry h
 cases y with
 | str j=>
  obtain ⟨i,rfl,q⟩:=h;exact afP pins s Y H _ _ v u Q I rx ry ⟨i,j,rfl,rfl,by simpa using q⟩
 | ref p=>
  rcases h with h | ⟨o,g,q⟩
  .exact afO pins s Y H _ _ v u Q I rx ry h
  .obtain rfl:u=Value.ref p:=ry;exact am1 (by lia) I g rx fun s3 I3=>⟨.bl (!o.isSome),H,I3,rfl,by simpa using q⟩
 | _=>exact h.elim
noncomputable def cutS (x:Str) (lo hi:Option Int):Str:=⟨((x.cps.toList.drop (HT.sIx x.length 0 lo)).take (HT.sIx x.length x.length hi-HT.sIx x.length 0 lo)).toArray⟩
noncomputable def rSlS:V->Option Int->Option Int->Hp->VK->Prop:=fun x lo hi H Q=>∃ z,x=.str z/\z.length<=sizeLine/\Q (.str (cutS z lo hi)) H
end
end L2
variable {C T a b dx f fa it md p r sl t0:PySem.Addr}{dvs vs xs ys:List L2.V}{Q:L2.VK}{cd ct oc pm u v vl vu:PySem.Value}{at' ck i j k n t' x1:Nat}{items items2:Array PySem.Value}{fr ns:List Int}{bmB its us:List PySem.Value}{A:PySem.Around}{s zw:PySem.Shared}{v' x y:L2.V}{pins:List (PySem.Addr×PySem.Obj)}{Y:L2.St}{H H' H0 H1 H2 H3 zt:L2.Hp}{h h' h2:PySem.Heap}{L M N N' acc g' ks line loose ls ms ps ts zs:List PySem.Str}{K:PySem.W.Frag}{mg:PySem.Str->Option PySem.Value}{fd:PySem.FuncData}{sp:L2.Sp}{X:L2.Cx}{kvs:List (L2.B5×L2.V)}{prog:PySem.Program}{E:PySem.Value->PySem.Shared->Prop}{ixs pre:List Nat}{m name qual z:PySem.Str}{e elt iter target tg:PySem.Expr}{elts es ifs:List PySem.Expr}{g:L2.TG}{c:L2.TT}{td te tl tx ty:L2.TE}{fp rs:List PySem.Addr}{apos cpos kpos spos tpos:PySem.Pos}{calm fg neg:Bool}{st:PySem.Stmt}{an od:Option PySem.Addr}{tb:L2.TS}{D:L2.Ends}{lo:Int}{o:PySem.Obj}{ta:L2.TA}{ss:Array (Option PySem.Value)}
set_option maxRecDepth 100000
namespace L2
open PySem PySem.Spec PyProof.Rows
section
variable {X:Cx}
theorem ajr(x:Str)(lo hi:Option Int):Txt.slice x lo hi=cutS x lo hi:=by
 have c1:∀ (o:Option Int) (d:Nat),(match o with | none=>(d:Int) | some i=>if (1:Int) > 0 then max 0 (min (if i<0 then i+(x.length:Int) else i) (x.length:Int)) else max (-1) (min (if i<0 then i+(x.length:Int) else i) ((x.length:Int)-1)))=((HT.sIx x.length d o:Nat):Int):=by
  intro o d
  cases o with
  | none=>rfl
  | some i=>
   rw [<- HT.clip_eq i x.length d];simp only [show ((1:Int) > 0)=True by simp,if_true]
   split <;> lia
 have h2:Builtin.Str.strSliceIndices lo hi 1 x.length=Builtin.Str.strSliceIndices (some ((HT.sIx x.length 0 lo:Nat):Int)) (some ((HT.sIx x.length x.length hi:Nat):Int)) 1 x.length:=by
  have e1:=c1 lo 0;have e2:=c1 hi x.length;have e3:=c1 (some ((HT.sIx x.length 0 lo:Nat):Int)) 0;have e4:=c1 (some ((HT.sIx x.length x.length hi:Nat):Int)) x.length;have l1:=HT.sIx_le x.length 0 (G2 _) lo;have l2:=HT.sIx_le x.length x.length (B3 _) hi;rw [HT.sIx_nat,cQ l1] at e3;rw [HT.sIx_nat,cQ l2] at e4;unfold Builtin.Str.strSliceIndices
  dsimp only at e3 e4 ⊢
  rw [e3,e4];clear e3 e4 l1 l2;refine congr (congr (congrArg sliceRange ?_) ?_) rfl
  .cases lo with
   | none=>exact e1
   | some i=>exact e1
  .cases hi with
   | none=>exact e2
   | some i=>exact e2
 have l1:=HT.sIx_le x.length 0 (G2 _) lo;have l2:=HT.sIx_le x.length x.length (B3 _) hi;unfold Txt.slice cutS;rw [h2];generalize HT.sIx x.length 0 lo=a at *;generalize HT.sIx x.length x.length hi=b at *;have len:x.length=x.cps.toList.length:=by simp [Str.length]
 by_cases bX:a<=b
 .rw [StrLaws.sliced_plain x bX l2,StrLaws.strSliceIndices_plain bX l2]
  split
  .rename_i hc
   have u8:b-a=x.length:=by simpa using hc
   have ha:a=0:=by lia
   subst ha;rw [List.drop_zero,X3 (by lia)]
  .rfl
 .have e:Builtin.Str.strSliceIndices (some (a:Int)) (some (b:Int)) 1 x.length=[]:=by
   have h1:¬ ((a:Int)<0):=by lia
   have h2:¬ ((b:Int)<0):=by lia
   have e1:max (0:Int) (min (a:Int) (x.length:Int))=a:=by lia
   have e2:max (0:Int) (min (b:Int) (x.length:Int))=b:=by lia
   simp only [Builtin.Str.strSliceIndices,sliceRange,h1,h2,if_false,e1,e2,show ((1:Int) > 0)=True from by simp,if_true];rw [if_neg (by lia)];rfl
  rw [e,show b-a=0 by lia,w8]
  split
  .rename_i hc
   have u8:0=x.length:=by simpa using hc
   have:x.cps.toList=[]:=List.eq_nil_of_length_eq_zero (by lia)
   obtain ⟨⟨l⟩⟩:=x;simp at this;subst this;rfl
  .rfl
theorem aqc:fR X rSlS:=by
 intro pins s Y H x v vl vu lo hi sl Q I rx hs pl pu h;obtain ⟨z,rfl,hz,q⟩:=h;obtain ⟨t,rfl⟩:=rx;refine ⟨"str",_,F.slot_str_getitem.lookup,typeIs_str _ _ _,?_⟩;rw [<- ajr] at q;have part:∀ {u:Value} {o:Option Int},IsPart u o->∃ l:Option (Int×Tok),u=partValue l/\l.map (·.1)=o:=fun {u o} p=>by
  cases p with
  | none=>exact ⟨none,rfl,rfl⟩
  | int i t=>exact ⟨some (i,t),rfl,rfl⟩
 obtain ⟨l,rfl,el⟩:=part pl;obtain ⟨u,rfl,eu⟩:=part pu;subst el eu;refine wpAny_getItem_str_slice (l:=l) (u:=u) (st:=none) hs rfl ?_;exact post_val_or_str ⟨E8 (Txt.slice_le z _ _) hz,fun t' k=>⟨.str _,H,I.tok _,⟨t',rfl⟩,q⟩⟩
theorem adw{w:World}{t:Addr}{lo hi:Option Int}{Q:Value->Shared->Prop}(ht:IsTup s.heap t items)(hs:s.heap.IsSliceOf sl vl vu .none)(pl:IsPart vl lo)(pu:IsPart vu hi)(hw:HT.sIx items.size 0 lo=0/\HT.sIx items.size items.size hi=items.size)(h:Q (.ref t) s):wpAny (model prog w) A (getItem (.ref t) (.ref sl)) Q E s:=by
 obtain ⟨os,eE,pZ,lF⟩:=id hs;have hTs:s.TypeIs (.ref sl) "slice":=⟨os,eE,pZ⟩
 unfold getItem
 try with_reducible refine wpAny_holding ?_
 first | refine wpAny_bind (wpAny_pure ?_) | skip
 refine wpAny_bind (wpAny_sequenceKey ht.typeIs (by decide) ?_);refine wpAny_bind (wpAny_callSpecial?_slot (name:=Str.ofString "__getitem__") ht.typeIs PyProof.Rows.slot_tuple_getitem
  (wpAny_call_entry PyProof.Rows.slot_tuple_getitem ht.typeIs PyProof.Rows.entry_tuple_getitem ?_ (PyProof.Rows.args_tuple_getitem _ _)))
 show wpAny _ _ (Builtin.Tuple.tupleItemsOf (.ref t) >>= _) _ _ s;refine wpAny_bind (PyProof.Rows.tupleItemsOf_ ht ?_);refine wpAny_bind (wpAny_typeOf hTs ?_);rw [if_pos (by decide)];refine wpAny_bind (HT.sliceApplied_gen hs pl pu ?_);have wL:((((HT.sIx items.size 0 lo:Nat):Int)==0&&(1:Int)==1&&(HT.sIx items.size items.size hi-HT.sIx items.size 0 lo)==items.size)=true):=by
  rw [hw.1,hw.2]
  simp
 show wpAny _ _ (if (((HT.sIx items.size 0 lo:Nat):Int)==0&&(1:Int)==1&&(HT.sIx items.size items.size hi-HT.sIx items.size 0 lo)==items.size)=true then _ else _) _ _ s;rw [if_pos wL];refine wpAny_bind ?_;show wpAny _ _ (typeOf (.ref t) >>= fun v=>pure (v == .type "tuple")) _ _ s;refine wpAny_bind (wpAny_typeOf ht.typeIs (wpAny_pure ?_));rw [if_pos (by decide)];refine wpAny_bind (wpAny_rule ?_);exact wpAny_pure ⟨_,rfl,wpAny_pure h⟩
noncomputable def rSlW (K:PySem.W.Frag):V->Option Int->Option Int->Hp->VK->Prop:=fun x lo hi H Q=>∃ a xs,x=.ref a/\C4 K H a xs/\(HT.sIx xs.length 0 lo=0/\HT.sIx xs.length xs.length hi=xs.length)/\Q (.ref a) H
theorem aqd:fR X (rSlW X.K):=by
 intro pins s Y H x v vl vu lo hi sl Q I rx hs pl pu h;obtain ⟨a,xs,rfl,hx,hw,q⟩:=h
 cases rx
 obtain ⟨its,r,ht,hz⟩:=I.tuple hx;have A6:its.toArray.size=xs.length:=by rw [K3];exact r.length.symm
 refine ⟨"tuple",_,PyProof.Rows.slot_tuple_getitem.lookup,ht.typeIs,?_⟩;exact adw ht hs pl pu (by rw [A6];exact hw) ⟨.ref a,H,I,rfl,q⟩
noncomputable def rSlR (K:PySem.W.Frag) (a:Addr) (lo hi:Option Int) (H:Hp) (Q:VK):Prop:=rSlL K (.ref a) lo hi H Q\/rSlT K (.ref a) lo hi H Q\/rSlW K (.ref a) lo hi H Q
theorem rSlR.l{lo hi:Option Int}(h1:C7 K H a xs)(h:∀ p,H p=none->Q (.ref p) (A0 H p (.lst (cutV xs lo hi)))):rSlR K a lo hi H Q:=.inl ⟨a,xs,rfl,h1,h⟩
theorem rSlR.t{lo hi:Option Int}(h1:C4 K H a xs)(h2:¬ (HT.sIx xs.length 0 lo=0/\HT.sIx xs.length xs.length hi=xs.length))(h:∀ p,H p=none->Q (.ref p) (A0 H p (.tup (cutV xs lo hi)))):rSlR K a lo hi H Q:=.inr (.inl ⟨a,xs,rfl,h1,h2,h⟩)
theorem rSlR.w{lo hi:Option Int}(h1:C4 K H a xs)(h2:HT.sIx xs.length 0 lo=0/\HT.sIx xs.length xs.length hi=xs.length)(h:Q (.ref a) H):rSlR K a lo hi H Q:=.inr (.inr ⟨a,xs,rfl,h1,h2,h⟩)
noncomputable def rSlU (K:PySem.W.Frag):V->Option Int->Option Int->Hp->VK->Prop
 | .str z,lo,hi,H,Q=>z.length<=sizeLine/\Q (.str (cutS z lo hi)) H
 | .ref a,lo,hi,H,Q=>rSlR K a lo hi H Q
 | _,_,_,_,_=>False
theorem p_sl:fR X (rSlU X.K):=by
 intro pins s Y H x v vl vu lo hi sl Q I rx hs pl pu h
 cases x with
 | str z=>exact aqc pins s Y H _ v vl vu lo hi sl Q I rx hs pl pu ⟨z,rfl,h⟩
 | ref a=>
  rcases h with h | h | h
  .exact amZ pins s Y H _ v vl vu lo hi sl Q I rx hs pl pu h
  .exact ao0 pins s Y H _ v vl vu lo hi sl Q I rx hs pl pu h
  .exact aqd pins s Y H _ v vl vu lo hi sl Q I rx hs pl pu h
 | _=>exact h.elim
noncomputable def LenR (K:PySem.W.Frag) (H:Hp) (p:Addr) (n:Nat):Prop:=(∃ xs,C7 K H p xs/\n=xs.length)\/(∃ xs,C4 K H p xs/\n=xs.length)\/∃ kvs,Rd H p (.dK kvs)/\n=kvs.length
noncomputable def rLenU (K:PySem.W.Frag):List V->Hp->VK->Prop
 | [.str z],H,Q=>z.length<=sizeLine/\Q (.int z.length) H
 | [.ref p],H,Q=>∃ n:Nat,LenR K H p n/\Q (.int n) H
 | _,_,_=>False
theorem p_len:CallR X (.builtin "len") (rLenU X.K):=by
 intro pins s Y H xs us Q I r h
 match xs,h with
 | [.str z],h=>exact rO pins s Y H _ us Q I r ⟨.str z,z.length,rfl,⟨h.1,rfl⟩,h.2⟩
 | [.ref p],⟨n,l,q⟩=>
  rcases l with ⟨xs,l,rfl⟩ | ⟨xs,l,rfl⟩ | ⟨kvs,l,rfl⟩
  .exact rO pins s Y H _ us Q I r ⟨.ref p,_,rfl,.inl ⟨xs,l,rfl⟩,q⟩
  .exact rO pins s Y H _ us Q I r ⟨.ref p,_,rfl,.inr ⟨xs,l,rfl⟩,q⟩
  .obtain ⟨u,rfl,ru⟩:=vals1 r
   cases ru
   exact d_len I l fun t s' I'=>⟨.int kvs.length,H,I',⟨t,rfl⟩,q⟩
theorem aew(hc:X.calm=true):CallR X (.type "list") (fun xs H Q=>∃ d kvs,xs=[.ref d]/\Rd H d (.dK kvs)/\∀ l,H l=none->Q (.ref l) (A0 H l (.lst (kvs.map fun kv=>kV kv.1)))):=by
 intro pins s Y H xs us Q I r h;obtain ⟨d,kvs,rfl,e,q⟩:=h;obtain ⟨u,rfl,rx⟩:=vals1 r
 cases rx
 obtain ⟨z,hd,vs,rel,dd⟩:=dk_rd I.hok e;obtain ⟨ep,W5⟩:=dd.dictAt;have hl:=rel.length;refine PySem.W.kdl_call (PySem.W.kdl_dict (knd:=N9 X.prog X.w) (kvs:=vs) (ep:=ep) hd) (I.ok.hd hc) W5 (by lia) fun h' tk acc c' kp hD lL=>?_
 have hv:Vals (kvs.map fun kv=>kV kv.1) acc.toList:=by
  have hk:=rel.keys;have A6:acc.toList.length=kvs.length:=by rw [cU,lL.1,hl]
  have key:∀ (ks:List B5) (us:List Value),us.length=ks.length->(∀ (j:Nat) (v:Value),us[j]?=some v->∃ k,ks[j]?=some k/\keyIs k v=true)->Vals (ks.map kV) us:=by
   intro ks
   induction ks with
   | nil=>intro us h1 _;cases us with
    | nil=>exact .nil
    | cons _ _=>simp at h1
   | cons k ks ih=>
    intro us h1 h2
    cases us with
    | nil=>simp at h1
    | cons u us=>
     obtain ⟨k',e1,e2⟩:=h2 0 u rfl;simp at e1;subst e1;refine .cons ?_ (ih us (by simpa using h1) fun j v hj=>by simpa using h2 (j+1) v (by simpa using hj))
     rcases k8 e2 with ⟨i,t,rfl,rfl⟩ | ⟨x,t,rfl,rfl⟩
     .exact ⟨t,rfl⟩
     .exact ⟨t,rfl⟩
  rw [show (kvs.map fun kv=>kV kv.1)=(kvs.map (·.1)).map kV by rw [f6];rfl];refine key _ _ (by rw [A6,A2]) fun j v hj=>?_
  obtain ⟨k,x,hx,wM⟩:=lL.2 j v (by rw [<- Array.getElem?_toList];exact hj);refine ⟨k,?_,wM⟩;rw [hk,P6,hx];rfl
 refine ⟨.ref s.heap.objs.size,_,I.laid (t':=tk) kp (B3 _) (show ObjOk X.prog X.w _ h' _ (.lst (kvs.map fun kv=>kV kv.1)) from ⟨by rw [A2];exact z,acc.toList,c',hv,by simpa using hD⟩),rfl,q _ (I.hok.fresh (B3 _))⟩
noncomputable def rListR (K:PySem.W.Frag) (calm:Bool) (p:Addr) (H:Hp) (Q:VK):Prop:=(∃ ys,(C7 K H p ys\/C4 K H p ys)/\∀ l,H l=none->Q (.ref l) (A0 H l (.lst ys)))\/(calm=true/\∃ kvs,Rd H p (.dK kvs)/\∀ l,H l=none->Q (.ref l) (A0 H l (.lst (kvs.map fun kv=>kV kv.1))))
theorem rListR.l(h1:C7 K H p ys\/C4 K H p ys)(h:∀ l,H l=none->Q (.ref l) (A0 H l (.lst ys))):rListR K calm p H Q:=.inl ⟨ys,h1,h⟩
theorem rListR.d(h1:Rd H p (.dK kvs))(h:∀ l,H l=none->Q (.ref l) (A0 H l (.lst (kvs.map fun kv=>kV kv.1)))):rListR K true p H Q:=.inr ⟨rfl,kvs,h1,h⟩
noncomputable def sJ (K:PySem.W.Frag) (calm:Bool):List V->Hp->VK->Prop
 | [.ref p],H,Q=>rListR K calm p H Q
 | _,_,_=>False
theorem aqe:CallR X (.type "list") (sJ X.K X.calm):=by
 intro pins s Y H xs us Q I r h
 match xs,h with
 | [.ref p],h=>
  rcases h with ⟨ys,h1,h2⟩ | ⟨hc,kvs,h1,h2⟩
  .exact afQ pins s Y H _ us Q I r ⟨p,ys,rfl,h1,h2⟩
  .exact aew hc pins s Y H _ us Q I r ⟨p,kvs,rfl,h1,h2⟩
noncomputable def rAllB (calm:Bool):List V->Hp->VK->Prop
 | [.ref p],H,Q=>∃ bs:List Bool,calm=true/\H p=some (.lst (bs.map V.bl))/\Q (.bl (bs.all id)) H
 | _,_,_=>False
noncomputable def nP (H:Hp):V->Option String
 | .non=>some "NoneType"
 | .bl _=>some "bool"
 | .int _=>some "int"
 | .str _=>some "str"
 | .ref a=>match H a with
  | some (.lst _)=>some "list"
  | some (.frz _ (.lst _))=>some "list"
  | some (.tup _)=>some "tuple"
  | some (.dK _)=>some "dict"
  | _=>none
 | _=>none
noncomputable def sK (T n:String):Bool:=T==n || (T == "bool" && n == "int")
noncomputable def isTys:List String:=["str", "int", "bool", "list", "tuple", "dict"]
noncomputable def rIsi:List V->Hp->VK->Prop
 | [x,.ty n],H,Q=>∃ T,nP H x=some T/\isTys.contains n=true/\Q (.bl (sK T n)) H
 | _,_,_=>False
theorem aqf{T:String}(h:nP H x=some T):TyOf K H x (.type T)/\["NoneType", "bool", "int", "str", "list", "tuple", "dict"].contains T=true:=by
 cases x with
 | non=>cases h;exact ⟨.non,by decide⟩
 | bl b=>cases h;exact ⟨.bl b,by decide⟩
 | int i=>cases h;exact ⟨.int i,by decide⟩
 | str z=>cases h;exact ⟨.str z,by decide⟩
 | ref a=>
  unfold nP at h
  dsimp only at h
  cases e:H a with
  | none=>rw [e] at h;cases h
  | some o=>
   rw [e] at h
   cases o with
   | lst xs=>cases h;exact ⟨.lst e,by decide⟩
   | tup xs=>cases h;exact ⟨.tup e,by decide⟩
   | dK kvs=>cases h;exact ⟨.dK e,by decide⟩
   | frz ob u=>
    cases u with
    | lst xs=>cases h;exact ⟨.frz e,by decide⟩
    | _=>cases h
   | _=>cases h
 | _=>cases h
theorem am9(K:PySem.W.Frag):∀ T∈["NoneType", "bool", "int", "str", "list", "tuple", "dict"],∀ n∈isTys,PySem.W.kitOne K (.type T) (.type n)=some (sK T n):=by
 intro T hT n hn;simp only [E7,fG,or_false,isTys] at hT hn
 rcases hT with rfl | rfl | rfl | rfl | rfl | rfl | rfl <;> rcases hn with rfl | rfl | rfl | rfl | rfl | rfl <;> rfl
theorem ak5:CallR X (.builtin "isinstance") rIsi:=by
 intro pins s Y H xs us Q I r h
 match xs,h with
 | [x,.ty n],⟨T,h1,h2,q⟩=>
  obtain ⟨u,c,rfl,ru,rc⟩:=vals2 r;obtain rfl:c=Value.type n:=rc;obtain ⟨h3,h4⟩:=aqf (K:=X.K) h1;exact ajb I ru h3 (am9 X.K T (by simpa using h4) n (by simpa using h2)) fun tk=>⟨.bl _,H,I.tok tk,rfl,q⟩
noncomputable def rOrd:List V->Hp->VK->Prop
 | [.str z],H,Q=>z.length=1/\Q (.int (z.cps.getD 0 0:Nat)) H
 | _,_,_=>False
noncomputable def fW (x:Str):It:=⟨fun i _=>i<x.cps.size,fun i H v H'=>H'=H/\∃ c,x.cps.toList[i]?=some c/\v=.str ⟨#[c]⟩,fun i _=>x.cps.size<=i⟩
theorem ak6{P:Program}{w:World}{ty:String}(V1:ty="str_ascii_iterator"\/ty="str_iterator")(it:Addr)(x:Str)(t:Tok):Turn P w K tg (fW x) [it] it (fun i h=>h.IsStrIter it ty x t i) where
 mem:=by simp
 obj:=fun i h st b hb=>by
  have e:b=it:=by simpa using hb
  subst e;obtain ⟨o,e,c,d⟩:=st;exact ⟨o,e,fun v z=>by rw [d] at z;cases z⟩
 keep:=fun i h h' st k=>let ⟨o,e,r⟩:=st;⟨o,k it (by simp) o e,r⟩
 item:=by
  intro X hP hw hK hc i pins s Y H E I hf st hg;subst hP hw hK;obtain ⟨f0,f1,f2,f3,f4,f5⟩:=hf it (by simp);have iA:i<x.cps.size:=hg;have go:∀ h',h'.IsStrIter it ty x t (i+1)->Heap.SameBut it s.heap h'->∃ u,some (Value.str ⟨#[x.cps[i]]⟩ s.toks)=some u/\
    wpAny (model X.prog X.w) X.A (letOwnedTupleGo tg (.ref it) u) (fun _ s2=>∃ y H',Inv X pins Y H' s2/\RelV y u/\(fW x).yld i H y H'/\s2.heap.IsStrIter it ty x t (i+1)/\∀ b∈[it],H' b=none) E { s with heap:=h',toks:=s.toks+1 }:=by
   intro h' st' sb;have I1:Inv X pins Y H { s with heap:=h',toks:=s.toks+1 }:=I.turned (t':=s.toks+1) (fun b o hb e=>(sb.2 b hb).trans e) f0 f1 f3 f4 f5;obtain ⟨o,e,c,d⟩:=id st';refine ⟨_,rfl,go_of (s:={ s with heap:=h',toks:=s.toks+1 }) e c d (by rcases V1 with rfl | rfl <;> decide) ⟨.str ⟨#[x.cps[i]]⟩,H,I1,⟨_,rfl⟩,⟨rfl,x.cps[i],?_,rfl⟩,st',fun b hb=>(hf b hb).1⟩⟩;simp [iA]
  rcases V1 with rfl | rfl
  .exact wpAny_pyNext_ascii_item st (c:=x.cps[i]) (by simp [iA]) go
  .exact wpAny_pyNext_wide_item st (c:=x.cps[i]) (by simp [iA]) go
 done:=by
  intro X hP hw hK hc i pins s Y H E I hf st hg;subst hP hw hK;obtain ⟨f0,f1,f2,f3,f4,f5⟩:=hf it (by simp);have iA:x.cps.size<=i:=hg;have fin:∀ h',Heap.ExtBut it s.heap h'->(none:Option Value)=none/\Inv X pins Y H { s with heap:=h' }:=fun h' eb=>⟨rfl,I.turned (t':=s.toks) (fun b o hb e=>eb b o hb e) f0 f1 f3 f4 f5⟩
  rcases V1 with rfl | rfl
  .exact wpAny_pyNext_ascii_end (I.ok.hd hc) st (by simp [iA]) fin
  .exact wpAny_pyNext_wide_end (I.ok.hd hc) st (by simp [iA]) fin
 self:=fun A i s Q E st h=>by
  rcases V1 with rfl | rfl
  .exact wpAny_pyIter_striter_ascii st h
  .exact wpAny_pyIter_striter_wide st h
noncomputable def iStr (tl:TE):TI:=fun Y H R=>tl Y H fun x H1=>∃ z,x=.str z/\R (fW z) H1
variable {tg:Expr}
theorem aqg{l:Expr}(hl:PE X l tl):PI X tg l (iStr tl):=by
 intro pins s Y H R I h;refine A7 (hl pins s Y H _ I h) fun v s1 ⟨x,H1,I1,r1,q1⟩=>?_
 obtain ⟨z,rfl,q⟩:=q1;obtain ⟨t,rfl⟩:=r1;have fin:∀ (ty:String) (V1:ty="str_ascii_iterator"\/ty="str_iterator"),rK X pins Y tg R (.ref s1.heap.objs.size) { s1 with heap:=s1.heap.push { cls:=.type ty,data:=.fields #[.str z t,.int 0 0] } }:=fun ty V1=>by
  refine ⟨s1.heap.objs.size,[s1.heap.objs.size],_,_,H1,rfl,I1.kept (t':=s1.toks) fun b o e=>Heap.get?_push_of_some _ e,ak6 V1 s1.heap.objs.size z t,⟨_,Heap.get?_push_size _ rfl,rfl,rfl⟩,fun b hb=>?_,q⟩;have e:b=s1.heap.objs.size:=by simpa using hb
  subst e;exact I1.fpOk (B3 _) (I1.hok.fresh (B3 _))
 cases ha:z.cps.all (· < 128)
 .exact wpAny_pyIter_wide ha (fin _ (.inr rfl))
 .exact wpAny_pyIter_ascii ha (fin _ (.inl rfl))
end
end L2
set_option maxRecDepth 100000
namespace L2
open PySem PySem.Spec PyProof.Rows
noncomputable def J9:Expr->Bool
 | .Starred _ _=>true
 | _=>false
noncomputable def V8 (es:List Expr):Bool:=es.all fun e=>!J9 e
theorem N2{env:Env}(h:J9 e=false):starEach (e::es) env=(false,eval e env)::starEach es env:=by
 cases e <;> first | rfl | cases h
theorem dD{pos:Pos}{env:Env} : ∀ {es:List Expr},V8 es=true->(backTo pos (starEach es env)).any (·.1)=false
 | [],_=>rfl
 | e::es,h=>by
  have h':(!J9 e&&V8 es)=true:=h;rw [f8] at h';rw [N2 (by simpa using h'.1)];have ih:=dD (pos:=pos) (env:=env) h'.2;unfold backTo at ih ⊢
  rw [F7,j9,ih];rfl
theorem zY{pos:Pos}{env:Env} : ∀ {es:List Expr},V8 es=true->(backTo pos (starEach es env)).all (fun x=>!x.1)=true
 | [],_=>rfl
 | e::es,h=>by
  have h':(!J9 e&&V8 es)=true:=h;rw [f8] at h';rw [N2 (by simpa using h'.1)];have ih:=zY (pos:=pos) (env:=env) h'.2;unfold backTo at ih ⊢
  rw [F7,List.all_cons,ih];rfl
section
variable {X:Cx} {e:Expr} {es:List Expr} {te:TE} {t:TA} {x:Str} {p pos:Pos} {id T:String} {r:List V->Hp->VK->Prop}
theorem pa_c(ha:PE X e te)(hr:PA X es t)(h:J9 e=false:=by rfl):PA X (e::es) (tCons te t):=amR ha hr (N2 h)
theorem pe_cB(hc:CallR X (.builtin id) r)(hg:Gl X x)(hm:X.mg x=none)(hv:bootBuiltins x=some (.builtin id))(ha:PA X (e::es) t)(h1:J9 e=false:=by rfl)(h2:V8 es=true:=by rfl)(hn:x≠"__name__":=by decide)(G9:(x==("__debug__" : Str))=false:=by decide) :
  PE X (.Call (.Name x p) (e::es) [] pos) (cX r t):=akU hc hg hm hv ha hn G9 (N2 h1) (dD h2)
theorem pe_cT(hc:CallR X (.type T) r)(hg:Gl X x)(hm:X.mg x=none)(hv:bootBuiltins x=some (.type T))(ha:PA X (e::es) t)(h1:J9 e=false:=by rfl)(h2:V8 es=true:=by rfl)(hn:x≠"__name__":=by decide)(G9:(x==("__debug__" : Str))=false:=by decide) :
  PE X (.Call (.Name x p) (e::es) [] pos) (cX r t):=ajf hc hg hm hv ha hn G9 (N2 h1) (dD h2)
variable {o:Expr} {to:TE} {name:Str} {apos cpos:Pos} {rm:V->List V->Hp->VK->Prop}
theorem pe_mB(pa:PlainAttrs T)(slot:Slot T name id)(V1:typeOf (.builtin id)=pure (.type "method_descriptor"))(hm:nH X id rm)(ho:PE X o to)(ha:PA X (e::es) t)(h1:J9 e=false:=by rfl)(h2:V8 es=true:=by rfl)(h3:decide ((e::es).length<30)=true:=by rfl)(D9:attributeBase o name X.env (eval o X.env)=eval o X.env:=by rfl)(E6:(apos.endLine==cpos.line)=true:=by rfl):PE X (.Call (.Attribute o name apos) (e::es) [] cpos) (nI X.K T rm to t):=
 pe_bm pa slot V1 hm ho ha D9 (by
  rw [zY (show V8 (e::es)=true by show (!J9 e&&V8 es)=true;rw [h1,h2];rfl)];have h3':(e::es).length<30:=of_decide_eq_true h3;simp only [List.isEmpty_nil,if_true,Z1,Nat.add_zero,Bool.true_and];rw [decide_eq_true h3'];rfl) E6 (N2 h1) (dD h2)
variable {tg a b:Expr} {ta:TA}
theorem pi_r1(hg:Gl X "range")(hm:X.mg "range"=none)(ha:PA X [a] ta)(h1:J9 a=false:=by rfl):PI X tg (.Call (.Name "range" p) [a] [] pos) (iRng1 ta):=aiY hg hm ha (by rw [N2 h1];rfl)
theorem pi_r2(hg:Gl X "range")(hm:X.mg "range"=none)(ha:PA X [a,b] ta)(h1:J9 a=false:=by rfl)(h2:J9 b=false:=by rfl):PI X tg (.Call (.Name "range" p) [a,b] [] pos) (iRng2 ta):=aiZ hg hm ha (by rw [N2 h1,N2 h2];rfl) (by rw [N2 h2];rfl)
end
noncomputable def FO (P:Program) (w:World) (K:PySem.W.Frag) (mg:Str->Option Value) (base:Heap) (k:Nat) (x:Str) (ps:List Str) (dvs:List V) (sp:Sp):Prop:=
 ∃ f fd,FnOk P w K mg base E4 k f fd ps sp/\mg x=some (.ref f)/\N1 K (.ref f)=true/\∃ ds,Binds K fd ps ds/\Vals dvs ds
structure FunD(K:PySem.W.Frag)(x qual:Str)(st:Stmt)(f:Addr)(fd:FuncData):Prop where
 ex:∃ (oc:Value) (od:Option Addr) (dV kV doc pm:Value) (an:Option Addr) (cdv ct:Value) (osl:Array (Option Value)),
  fd=N8 x qual (P0 st) (O0 st) (B1 st) dV kV doc pm an cdv ct/\K.lookup f=some ⟨oc,od,.func fd,osl⟩/\Q3 K cdv qual=true
section
variable {P:Program} {w:World} {K:PySem.W.Frag} {mg:Str->Option Value} {base:Heap}
theorem FunD.ok{x:Str}(F:FunD K x qual st f fd)(S:FnScope N ps (B1 st))(len:∀ vs H Q E,sp vs H Q E->vs.length=ps.length)(V0:∀ (cdv:Value) (A:Around) (outer:List Env) (s:Shared) (H:Hp) (vs:List V) (Q:VK) (E:XK),Room k (A.deeper (envOfC qual (B1 st) s.heap.objs.size f cdv))->sp vs H Q E->
   ∃ t,U4 (cxOf E4 P w K mg base N qual (B1 st) f cdv A outer s H E).nox (O0 st) t/\t { nx:=fun _ H'=>Q .non H',rt:=Q } (start N vs) H):FnOk P w K mg base E4 (k+1) f fd ps sp:=by
 obtain ⟨oc,od,dV,kV,doc,pm,an,cdv,ct,osl,rfl,lk,W3⟩:=F.ex;refine fn_of lk W3 S len fun A outer s H vs Q E hr u9=>?_
 obtain ⟨t,h,q⟩:=V0 cdv A outer s H vs Q E hr u9;exact ⟨t,h.nox,q⟩
theorem U5{x:Str}{osl:Array (Option Value)}{dV kV doc cdv:Value}(l:K.lookup f=some ⟨oc,od,.func (N8 x qual (P0 st) (O0 st) (B1 st) dV kV doc pm an cdv ct),osl⟩)(c:Q3 K cdv qual=true):FunD K x qual st f (N8 x qual (P0 st) (O0 st) (B1 st) dV kV doc pm an cdv ct):=⟨oc,od,dV,kV,doc,pm,an,cdv,ct,osl,rfl,l,c⟩
end
section
variable {X:Cx} {k:Nat} {ps:List Str} {sp:Sp} {dvs:List V} {x:Str} {p pos:Pos} {e:Expr} {es:List Expr} {t:TA}
theorem ak7(G:FO X.prog X.w X.K X.mg X.base k x ps dvs sp)(hr:Room k X.A)(ha:PA X (e::es) t)(hg:Gl X x:=by rfl)(h1:J9 e=false:=by rfl)(h2:V8 es=true:=by rfl)(G9:(x==("__debug__" : Str))=false:=by decide):PE X (.Call (.Name x p) (e::es) [] pos) (tCall sp dvs E0 t):=by
 obtain ⟨f,fd,F,hm,hk,ds,hb,hd⟩:=G;exact yY F hr hg hm hk hb hd pass0 ha G9 (N2 h1) (dD h2)
theorem ak8{i:Int}(h:∃ t,X.mg x=some (.int i t))(hg:Gl X x:=by rfl)(hd:(x==("__debug__" : Str))=false:=by decide):PE X (.Name x p) (tC (.int i)):=by
 obtain ⟨t,h⟩:=h;exact yI hg h ⟨t,rfl⟩ hd
theorem ak9(h:X.mg x=some (.ref a))(hg:Gl X x:=by rfl)(hd:(x==("__debug__" : Str))=false:=by decide):PE X (.Name x p) (tC (.ref a)):=yI hg h rfl hd
end
section
variable {Y:St} {H:Hp} {Q:VK} {B:Bool->Hp->Prop} {ta tb tc te:TE} {t u:TS} {tt uu:TT} {D:Ends} {i:Nat} {v:V} {r r':R2} {K:PySem.W.Frag} {taa:TA} {R:List V->Hp->Prop} {g:TG}
theorem zZ:tVar i Y H Q=∃ v,(Y[i]?).join=some v/\Q v H:=by
 unfold tVar;refine propext ⟨fun ⟨v,h,q⟩=>⟨v,by rw [h];rfl,q⟩,fun ⟨v,h,q⟩=>⟨v,?_,q⟩⟩;cases e:Y[i]? with
 | none=>rw [e] at h;cases h
 | some o=>rw [e] at h;exact congrArg some h
theorem ap_c:tC v Y H Q=Q v H:=rfl
theorem ap_op:x4 r ta tb Y H Q=ta Y H fun x H1=>tb Y H1 fun y H2=>r x y H2 Q:=rfl
theorem ap_un{ru:V->Hp->VK->Prop} : rL ru ta Y H Q=ta Y H fun x H1=>ru x H1 Q:=rfl
theorem ap_rU{f:Int->V} : rU f x H Q=∃ i,x=.int i/\Q (f i) H:=rfl
theorem ana:tTest ta Y H B=ta Y H fun x H'=>∃ k,x=.bl k/\B k H':=rfl
theorem ap_tB:tB ta Y H B=ta Y H fun x H'=>∃ k,x=.bl k/\B k H':=rfl
theorem anb:tTru K ta Y H B=ta Y H fun x H'=>∃ k,TruV K x H' k/\B k H':=rfl
theorem anc:tNotT K ta Y H Q=ta Y H fun x H'=>∃ k,TruV K x H' k/\Q (.bl (!k)) H':=rfl
theorem ala:rN r r' ta tb tc Y H Q=ta Y H fun x H1=>tb Y H1 fun y H2=>r x y H2 fun z H3=>∃ k,z=.bl k/\(if k=true then tc Y H3 fun w' H4=>r' y w' H4 Q else Q (.bl false) H3):=rfl
theorem aqh:tAnd tt uu Y H B=tt Y H fun c H1=>if c=true then uu Y H1 B else B false H1:=rfl
theorem ap_or:rD tt uu Y H B=tt Y H fun c H1=>if c=true then B true H1 else uu Y H1 B:=rfl
theorem aqi:tNot tt Y H B=tt Y H fun c H1=>B (!c) H1:=rfl
theorem ane:tAndV ta tb Y H Q=ta Y H fun x H1=>∃ c,x=.bl c/\if c=true then tb Y H1 Q else Q (.bl false) H1:=rfl
theorem aqj:tOrV ta tb Y H Q=ta Y H fun x H1=>∃ c,x=.bl c/\if c=true then Q (.bl true) H1 else tb Y H1 Q:=rfl
theorem anf:tNotV ta Y H Q=ta Y H fun x H1=>∃ c,x=.bl c/\Q (.bl (!c)) H1:=rfl
theorem ap_if:rE tt ta tb Y H Q=tt Y H fun c H1=>if c=true then ta Y H1 Q else tb Y H1 Q:=rfl
theorem ang:tNext D Y H=D.nx Y H:=rfl
theorem aqk:tSeq t u D Y H=t { D with nx:=u D } Y H:=rfl
theorem alb:rF D Y H=D.bk Y H:=rfl
theorem anh:tCont D Y H=D.ct Y H:=rfl
theorem ani:tDrop te D Y H=te Y H fun _ H1=>D.nx Y H1:=rfl
theorem aql:tRet te D Y H=te Y H D.rt:=rfl
theorem anj:tRetN D Y H=D.rt .non H:=rfl
theorem aqm:tIfS tt t u D Y H=tt Y H fun b H1=>if b=true then t D Y H1 else u D Y H1:=rfl
theorem alc:rG D Y H=False:=rfl
theorem ank{Z:St->Hp->Prop} : gName i v Y H Z=Z (Y.set i (some v)) H:=rfl
theorem anl{Z:St->Hp->Prop} : gNil vs Y H Z=(vs=[]/\Z Y H):=rfl
theorem ald{us:g8}{Z:St->Hp->Prop} : gCons g us vs Y H Z=∃ v r,vs=v::r/\g v Y H fun σ' H'=>us r σ' H' Z:=rfl
theorem anm{us:g8}{Z:St->Hp->Prop} : gTup K n us v Y H Z=∃ a xs,v=.ref a/\C4 K H a xs/\xs.length=n/\us xs Y H Z:=rfl
theorem ann{ts:TSet}{Z:St->Hp->Prop} : gSub ta tb ts v Y H Z=ta Y H fun o H1=>tb Y H1 fun i H2=>ts o i v H2 fun H3=>Z Y H3:=rfl
theorem aqn:tAsg te g D Y H=te Y H fun x H1=>g x Y H1 D.nx:=rfl
theorem aqo{ti:cW} : tAug i te ti D Y H=∃ x,(Y[i]?).join=some x/\te Y H fun y H1=>ti x y H1 fun z H2=>D.nx (Y.set i (some z)) H2:=zZ (Q:=fun x H=>te Y H fun y H1=>ti x y H1 fun z H2=>D.nx (Y.set i (some z)) H2)
theorem aqp{f:Int->Int->Int} : rJ f x y H Q=∃ i j,x=.int i/\y=.int j/\Q (.int (f i j)) H:=rfl
theorem ano:tCons te taa Y H R=te Y H fun x H1=>taa Y H1 fun xs H2=>R (x::xs) H2:=rfl
theorem aqq:tNil Y H R=R [] H:=rfl
theorem anp{E:XK} : tCall sp dvs E taa Y H Q=taa Y H fun vs H1=>sp (vs++dvs) H1 Q E:=rfl
theorem ap_cb{rc:List V->Hp->VK->Prop} : cX rc taa Y H Q=taa Y H fun vs H1=>rc vs H1 Q:=rfl
theorem aqr:tTup taa Y H Q=taa Y H fun xs H1=>xs.length<=sizeLine/\∀ p,H1 p=none->Q (.ref p) (A0 H1 p (.tup xs)):=rfl
theorem aqs:tLst taa Y H Q=taa Y H fun xs H1=>xs.length<=sizeLine/\∀ p,H1 p=none->Q (.ref p) (A0 H1 p (.lst xs)):=rfl
theorem ap_sl{rs:V->Option Int->Option Int->Hp->VK->Prop}{tl th:TO} : rT rs te tl th Y H Q=te Y H fun x H1=>tl Y H1 fun l H2=>th Y H2 fun u H3=>rs x l u H3 Q:=rfl
theorem ajt{O:Option Int->Hp->Prop} : rS Y H O=O none H:=rfl
theorem anq{O:Option Int->Hp->Prop} : tPart te Y H O=te Y H fun x H1=>∃ i,x=.int i/\O (some i) H1:=rfl
theorem ap_bm{T:String}{rm:V->List V->Hp->VK->Prop} : nI K T rm te taa Y H Q=te Y H fun x H1=>bC K T x H1/\taa Y H1 fun xs H2=>rm x xs H2 Q:=rfl
theorem aqt{T:String}{rm:V->List V->Hp->VK->Prop} : tBM0 K T rm te Y H Q=te Y H fun x H1=>bC K T x H1/\rm x [] H1 Q:=rfl
theorem aqu:tYes Y H B=B true H:=rfl
theorem anr:sC Y H Q=∀ p,H p=none->Q (.ref p) (A0 H p (.dK [])):=rfl
theorem ans:tDGet ta tb Y H Q=ta Y H fun x H1=>tb Y H1 fun y H2=>∃ a v,x=.ref a/\DGet H2 a y (some v)/\Q v H2:=rfl
theorem ant:sDPut ta tb tc D Y H=tc Y H fun v H1=>ta Y H1 fun x H2=>tb Y H2 fun y H3=>∃ a H4,x=.ref a/\DPut H3 a y v H4/\D.nx Y H4:=rfl
theorem anu{rd:V->V->Hp->VK->Prop} : sDAug ta tb tc rd D Y H=ta Y H fun x H1=>tb Y H1 fun y H2=>∃ a v,x=.ref a/\DGet H2 a y (some v)/\tc Y H2 fun y2 H3=>rd v y2 H3 fun z H4=>∃ H5,DPut H4 a y z H5/\D.nx Y H5:=rfl
theorem anv : p8 (fun i j=>V.int (i-j)) x y H Q=∃ i j,x=.int i/\y=.int j/\Q (.int (i-j)) H:=rfl
theorem ale : rI CDiv (fun i j=>V.int (i / j)) x y H Q=∃ i j,x=.int i/\y=.int j/\(0<j/\j<1073741824)/\Q (.int (i / j)) H:=rfl
theorem anw : rI (fun _ j=>0<j) (fun i j=>V.int (i % j)) x y H Q=∃ i j,x=.int i/\y=.int j/\0<j/\Q (.int (i % j)) H:=rfl
theorem anx : bC K "str" (.str z) H=True:=by simp [bC]
noncomputable def ForIt (J:It) (g:TG) (tb:TS) (D:Ends) (Y:St) (H1:Hp):Prop:=∃ W:Nat->Nat->St->Hp->Prop,(∃ m,W 0 m Y H1)/\∀ i m Y H,W i m Y H->
 (J.stop i H/\D.nx Y H)\/(J.go i H/\∃ N:St->Hp->Prop,(∀ σ' H',N σ' H'->∃ m',m'<m/\W (i+1) m' σ' H')/\∀ x H',J.yld i H x H'->g x Y H' fun σ2 H2=>tb { D with nx:=N,ct:=N,bk:=D.nx } σ2 H2)
theorem aqv{wi:TI}{tbs:TS} : tFor wi g tbs D Y H=wi Y H fun J H1=>ForIt J g tbs D Y H1:=rfl
theorem alf{Z:It->Hp->Prop} : iList K te Y H Z=te Y H fun x H1=>∃ a,x=.ref a/\(∃ xs,C7 K H1 a xs)/\Z (p7 K a) H1:=rfl
theorem anz{Z:It->Hp->Prop} : iTup K te Y H Z=te Y H fun x H1=>∃ a,x=.ref a/\(∃ xs,C4 K H1 a xs)/\Z (aZ K a) H1:=rfl
theorem anA{Z:It->Hp->Prop} : iStr te Y H Z=te Y H fun x H1=>∃ z,x=.str z/\Z (fW z) H1:=rfl
theorem alg{Z:It->Hp->Prop} : iRng1 taa Y H Z=taa Y H fun vs H1=>∃ j:Int,vs=[.int j]/\-(2 ^ 62)<=j/\j<2 ^ 62/\Z (g9 0 j.toNat) H1:=rfl
theorem alh{Z:It->Hp->Prop} : iRng2 taa Y H Z=taa Y H fun vs H1=>∃ i j:Int,vs=[.int i,.int j]/\(-(2 ^ 62)<=i/\i<2 ^ 62/\-(2 ^ 62)<=j/\j<2 ^ 62)/\Z (g9 i (j-i).toNat) H1:=rfl
noncomputable def bE (J:It) (k:Nat) (ixs:List Nat) (g:TG) (c:TT) (te:TE) (Y:St) (Q:VK) (H1:Hp):Prop:=∀ D,H1 D=none->
 ∃ (n:Nat) (W:Nat->List V->St->Hp->Prop),W 0 [] (compStart k ixs Y) (A0 H1 D (.lst []))/\∀ i ys σ2 H2,W i ys σ2 H2->H2 D=some (.lst ys)->
  (J.stop i H2/\Q (.ref D) H2)\/
  (i<n/\J.go i H2/\∀ x H',J.yld i H2 x H'->g x σ2 H' fun σ3 H3=>c σ3 H3 fun b H4=>
   if b=true then te σ3 H4 fun y H5=>H5 D=some (.lst ys)/\ys.length<sizeLine/\W (i+1) (ys++[y]) σ3 (A0 H5 D (.lst (ys++[y])))
   else H4 D=some (.lst ys)/\W (i+1) ys σ3 H4)
theorem anB{wi:TI} : tComp wi k ixs g tt te Y H Q=wi Y H fun J H1=>bE J k ixs g tt te Y Q H1:=rfl
end
theorem anC{b k:Bool} : TruV K (.bl b) H k=(k=b):=rfl
theorem ali{i:Int}{k:Bool} : TruV K (.int i) H k=(k=(i != 0)):=rfl
theorem alj{k:Bool} : TruV K (.str z) H k=(z.length<=sizeLine/\k=((z.length:Int) != 0)):=rfl
theorem alm{k:Bool} : TruV K .non H k=(k=false):=rfl
theorem aln : start N vs=vs.map some++U3 (N.length-vs.length) none:=rfl
theorem afY : compStart k ixs Y=U3 k none++ixs.map fun i=>(Y[i]?).join:=rfl
theorem anD{i:Int} : fS K (.str z) (.int i) H Q=∃ c,z.length<=sizeLine/\G0 z.cps.toList i=some c/\Q (.str ⟨#[c]⟩) H:=by
 simp only [fS,rIxL,rIxT,rIxS];refine propext ⟨fun h=>?_,fun ⟨c,h⟩=>.inr (.inr ⟨z,i,c,rfl,rfl,h⟩)⟩
 rcases h with ⟨p,xs,j,v,e,_⟩ | ⟨p,xs,j,v,e,_⟩ | ⟨z',i',c,e1,e2,h⟩
 .cases e
 .cases e
 .cases e1;cases e2;exact ⟨c,h⟩
theorem anE{i:Int} : fS K (.ref p) (.int i) H Q=∃ xs v,(C7 K H p xs\/C4 K H p xs)/\G0 xs i=some v/\Q v H:=by
 simp only [fS,rIxL,rIxT,rIxS];refine propext ⟨fun h=>?_,fun ⟨xs,v,h,r⟩=>?_⟩
 .rcases h with ⟨p',xs,j,v,e1,e2,h1,h2⟩ | ⟨p',xs,j,v,e1,e2,h1,h2⟩ | ⟨z',i',c,e1,e2,h⟩
  .cases e1;cases e2;exact ⟨xs,v,.inl h1,h2⟩
  .cases e1;cases e2;exact ⟨xs,v,.inr h1,h2⟩
  .cases e1
 .rcases h with h | h
  .exact .inl ⟨p,xs,i,v,rfl,rfl,h,r⟩
  .exact .inr (.inl ⟨p,xs,i,v,rfl,rfl,h,r⟩)
theorem nQ{α:Type}{xs:List α}{i:Int}(h0:0<=i)(h1:i<xs.length):∃ v,G0 xs i=some v/\v∈xs:=by
 have C3:i.toNat<xs.length:=by lia
 refine ⟨xs[i.toNat],?_,List.getElem_mem C3⟩;unfold G0 X7;rw [if_pos h0,if_pos h1];simp [C3]
theorem T7:bootBuiltins "len"=some (.builtin "len"):=by decide +kernel
theorem ade:bootBuiltins "isinstance"=some (.builtin "isinstance"):=by decide +kernel
theorem amg:bootBuiltins "any"=some (.builtin "any"):=by decide +kernel
theorem amh:bootBuiltins "min"=some (.builtin "min"):=by decide +kernel
theorem aqw:bootBuiltins "max"=some (.builtin "max"):=by decide +kernel
theorem fX:bootBuiltins "list"=some (.type "list"):=by decide +kernel
theorem nR:bootBuiltins "tuple"=some (.type "tuple"):=by decide +kernel
theorem aju:bootBuiltins "dict"=some (.type "dict"):=by decide +kernel
theorem ami:bootBuiltins "int"=some (.type "int"):=by decide +kernel
theorem anF:bootBuiltins "bool"=some (.type "bool"):=by decide +kernel
section
variable {K:PySem.W.Frag} {H:Hp} {Q:VK} {i j:Int} {x y:Str} {u v:V} {b c:Bool} {p q:Addr} {lo hi:Option Int} {cm:Bool}
theorem ad_ii:rAddU K (.int i) (.int j) H Q=Q (.int (i+j)) H:=rfl
theorem ad_ss:rAddU K (.str x) (.str y) H Q=(x.length+y.length<=sizeLine/\Q (.str (x++y)) H):=rfl
theorem ad_rr:rAddU K (.ref p) (.ref q) H Q=rAddR K p q H Q:=rfl
theorem mu_ii:rMulU (.int i) (.int j) H Q=(CMul i j/\Q (.int (i*j)) H):=rfl
theorem mu_ri:rMulU (.ref p) (.int j) H Q=rRep (.ref p) (.int j) H Q:=rfl
theorem eq_ii:rEqU K (.int i) (.int j) H Q=Q (.bl (decide (i=j))) H:=rfl
theorem eq_ss:rEqU K (.str x) (.str y) H Q=Q (.bl (decide (x=y))) H:=rfl
theorem eq_bb:rEqU K (.bl b) (.bl c) H Q=Q (.bl (decide (b=c))) H:=rfl
theorem eq_rx:rEqU K (.ref p) v H Q=∃ d e,Dn K H (.ref p) d/\Dn K H v e/\min d.depth e.depth<=60/\Q (.bl (V6 d e)) H:=by cases v <;> rfl
theorem eq_xr:rEqU K v (.ref p) H Q=∃ d e,Dn K H v d/\Dn K H (.ref p) e/\min d.depth e.depth<=60/\Q (.bl (V6 d e)) H:=by cases v <;> rfl
theorem ne_ii:rNeU K (.int i) (.int j) H Q=Q (.bl (!decide (i=j))) H:=rfl
theorem ne_ss:rNeU K (.str x) (.str y) H Q=Q (.bl (!decide (x=y))) H:=rfl
theorem ne_bb:rNeU K (.bl b) (.bl c) H Q=Q (.bl (!decide (b=c))) H:=rfl
theorem ne_rx:rNeU K (.ref p) v H Q=∃ d e,Dn K H (.ref p) d/\Dn K H v e/\min d.depth e.depth<=60/\Q (.bl (!PyData.eqv d e)) H:=by cases v <;> rfl
theorem ne_xr:rNeU K v (.ref p) H Q=∃ d e,Dn K H v d/\Dn K H (.ref p) e/\min d.depth e.depth<=60/\Q (.bl (!PyData.eqv d e)) H:=by cases v <;> rfl
theorem lt_ii:rLtU (.int i) (.int j) H Q=Q (.bl (decide (i<j))) H:=rfl
theorem lt_ss:rLtU (.str x) (.str y) H Q=Q (.bl (decide (x.cps.toList<y.cps.toList))) H:=rfl
theorem le_ii:rLeU (.int i) (.int j) H Q=Q (.bl (decide (i<=j))) H:=rfl
theorem le_ss:rLeU (.str x) (.str y) H Q=Q (.bl (!decide (y.cps.toList<x.cps.toList))) H:=rfl
theorem gt_ii:rGtU (.int i) (.int j) H Q=Q (.bl (decide (j<i))) H:=rfl
theorem gt_ss:rGtU (.str x) (.str y) H Q=Q (.bl (decide (y.cps.toList<x.cps.toList))) H:=rfl
theorem ge_ii:rGeU (.int i) (.int j) H Q=Q (.bl (decide (j<=i))) H:=rfl
theorem ge_ss:rGeU (.str x) (.str y) H Q=Q (.bl (!decide (x.cps.toList<y.cps.toList))) H:=rfl
theorem in_xs:rInU K b u (.str x) H Q=∃ i,u=.str i/\Q (.bl (b.xor (!(Builtin.Str.occurrences x i 0 x.length 1).isEmpty))) H:=rfl
theorem in_xr:rInU K b u (.ref p) H Q=rInR K b u p H Q:=rfl
theorem sl_s:rSlU K (.str x) lo hi H Q=(x.length<=sizeLine/\Q (.str (cutS x lo hi)) H):=rfl
theorem sl_r:rSlU K (.ref p) lo hi H Q=rSlR K p lo hi H Q:=rfl
theorem len_s:rLenU K [.str x] H Q=(x.length<=sizeLine/\Q (.int x.length) H):=rfl
theorem len_r:rLenU K [.ref p] H Q=∃ n:Nat,LenR K H p n/\Q (.int n) H:=rfl
theorem aqx:sJ K cm [.ref p] H Q=rListR K cm p H Q:=rfl
theorem all_r:rAllB cm [.ref p] H Q=∃ bs:List Bool,cm=true/\H p=some (.lst (bs.map V.bl))/\Q (.bl (bs.all id)) H:=rfl
theorem isi_t{n:String} : rIsi [u,.ty n] H Q=∃ T,nP H u=some T/\isTys.contains n=true/\Q (.bl (sK T n)) H:=rfl
theorem ord_s:rOrd [.str x] H Q=(x.length=1/\Q (.int (x.cps.getD 0 0:Nat)) H):=rfl
end
theorem forL(Pv:Nat->St->Hp->Prop)(h0:Pv 0 Y H)(hl:∀ i Y H,i<=xs.length->Pv i Y H->C7 K H a xs)(hs:∀ i x Y H,xs[i]?=some x->Pv i Y H->g x Y H fun σ2 H2=>tb { D with nx:=Pv (i+1),ct:=Pv (i+1),bk:=D.nx } σ2 H2)(hd:∀ Y H,Pv xs.length Y H->D.nx Y H):ForIt (p7 K a) g tb D Y H:=akN Pv h0 hl hs hd
theorem forT(Pv:Nat->St->Hp->Prop)(h0:Pv 0 Y H)(hl:∀ i Y H,i<=xs.length->Pv i Y H->C4 K H a xs)(hs:∀ i x Y H,xs[i]?=some x->Pv i Y H->g x Y H fun σ2 H2=>tb { D with nx:=Pv (i+1),ct:=Pv (i+1),bk:=D.nx } σ2 H2)(hd:∀ Y H,Pv xs.length Y H->D.nx Y H):ForIt (aZ K a) g tb D Y H:=amL Pv h0 hl hs hd
theorem forR(Pv:Nat->St->Hp->Prop)(h0:Pv 0 Y H)(hs:∀ i Y H,i<n->Pv i Y H->g (.int (lo+i)) Y H fun σ2 H2=>tb { D with nx:=Pv (i+1),ct:=Pv (i+1),bk:=D.nx } σ2 H2)(hd:∀ Y H,Pv n Y H->D.nx Y H):ForIt (g9 lo n) g tb D Y H:=ai1 Pv h0 hs hd
noncomputable def CW (n:Nat) (fr:St) (Pv:Nat->List V->Hp->Prop) (i:Nat) (ys:List V) (σ2:St) (H2:Hp):Prop:=i<=n/\ys.length<=i/\(∃ v,σ2=v::fr)/\Pv i ys H2
theorem CW.put{fr:St}{Pv:Nat->List V->Hp->Prop}{o:Option V}(hi:i<n)(hy:ys.length<=i)(p:Pv (i+1) (ys++[y]) H):CW n fr Pv (i+1) (ys++[y]) (o::fr) H:=
 ⟨hi,by rw [D1,V3];lia,⟨_,rfl⟩,p⟩
theorem sL{fr:St}{Pv:Nat->List V->Hp->Prop}{o:Option V}(hi:i<n)(hy:ys.length<=i)(p:Pv (i+1) ys H):CW n fr Pv (i+1) ys (o::fr) H:=⟨hi,Nat.le_succ_of_le hy,⟨_,rfl⟩,p⟩
theorem compL(fr:St)(O8:compStart 1 ixs Y=none::fr)(Pv:Addr->Nat->List V->Hp->Prop)(h0:∀ D,H1 D=none->Pv D 0 [] (A0 H1 D (.lst [])))(hl:∀ D i ys H,H1 D=none->i<=xs.length->Pv D i ys H->C7 K H a xs)(hs:∀ D i x ys H,H1 D=none->i<xs.length->xs[i]?=some x->Pv D i ys H->H D=some (.lst ys)->ys.length<=i->c (some x::fr) H fun b H4=>
   if b=true then te (some x::fr) H4 fun y H5=>H5 D=some (.lst ys)/\ys.length<sizeLine/\CW xs.length fr (Pv D) (i+1) (ys++[y]) (some x::fr) (A0 H5 D (.lst (ys++[y])))
   else H4 D=some (.lst ys)/\CW xs.length fr (Pv D) (i+1) ys (some x::fr) H4)(hd:∀ D ys H,H1 D=none->Pv D xs.length ys H->H D=some (.lst ys)->ys.length<=xs.length->Q (.ref D) H):bE (p7 K a) 1 ixs (gName 0) c te Y Q H1:=by
 intro D hD;refine ⟨xs.length,CW xs.length fr (Pv D),⟨G2 _,G2 _,⟨none,O8⟩,h0 D hD⟩,?_⟩;rintro i ys σ2 H2 ⟨hi,hy,⟨v,rfl⟩,p⟩ hDy;have q:=hl D i ys H2 hD hi p
 by_cases C3:i<xs.length
 .refine .inr ⟨C3,⟨xs,xs[i],q,by simp [C3]⟩,fun x H' y=>?_⟩;obtain ⟨e,y⟩:=y;subst e;exact hs D i x ys _ hD C3 (y xs q) p hDy hy
 .have e:i=xs.length:=by lia
  subst e;exact .inl ⟨⟨xs,q,B3 _⟩,hd D ys H2 hD p hDy hy⟩
theorem compT(fr:St)(O8:compStart 1 ixs Y=none::fr)(Pv:Addr->Nat->List V->Hp->Prop)(h0:∀ D,H1 D=none->Pv D 0 [] (A0 H1 D (.lst [])))(hl:∀ D i ys H,H1 D=none->i<=xs.length->Pv D i ys H->C4 K H a xs)(hs:∀ D i x ys H,H1 D=none->i<xs.length->xs[i]?=some x->Pv D i ys H->H D=some (.lst ys)->ys.length<=i->c (some x::fr) H fun b H4=>
   if b=true then te (some x::fr) H4 fun y H5=>H5 D=some (.lst ys)/\ys.length<sizeLine/\CW xs.length fr (Pv D) (i+1) (ys++[y]) (some x::fr) (A0 H5 D (.lst (ys++[y])))
   else H4 D=some (.lst ys)/\CW xs.length fr (Pv D) (i+1) ys (some x::fr) H4)(hd:∀ D ys H,H1 D=none->Pv D xs.length ys H->H D=some (.lst ys)->ys.length<=xs.length->Q (.ref D) H):bE (aZ K a) 1 ixs (gName 0) c te Y Q H1:=by
 intro D hD;refine ⟨xs.length,CW xs.length fr (Pv D),⟨G2 _,G2 _,⟨none,O8⟩,h0 D hD⟩,?_⟩;rintro i ys σ2 H2 ⟨hi,hy,⟨v,rfl⟩,p⟩ hDy;have q:=hl D i ys H2 hD hi p
 by_cases C3:i<xs.length
 .refine .inr ⟨C3,⟨xs,xs[i],q,by simp [C3]⟩,fun x H' y=>?_⟩;obtain ⟨e,y⟩:=y;subst e;exact hs D i x ys _ hD C3 (y xs q) p hDy hy
 .have e:i=xs.length:=by lia
  subst e;exact .inl ⟨⟨xs,q,B3 _⟩,hd D ys H2 hD p hDy hy⟩
theorem compS(fr:St)(O8:compStart 1 ixs Y=none::fr)(Pv:Addr->Nat->List V->Hp->Prop)(h0:∀ D,H1 D=none->Pv D 0 [] (A0 H1 D (.lst [])))(hs:∀ D i x ys H,H1 D=none->i<z.cps.size->z.cps.toList[i]?=some x->Pv D i ys H->H D=some (.lst ys)->ys.length<=i->c (some (.str ⟨#[x]⟩)::fr) H fun b H4=>
   if b=true then te (some (.str ⟨#[x]⟩)::fr) H4 fun y H5=>H5 D=some (.lst ys)/\ys.length<sizeLine/\CW z.cps.size fr (Pv D) (i+1) (ys++[y]) (some (.str ⟨#[x]⟩)::fr) (A0 H5 D (.lst (ys++[y])))
   else H4 D=some (.lst ys)/\CW z.cps.size fr (Pv D) (i+1) ys (some (.str ⟨#[x]⟩)::fr) H4)(hd:∀ D ys H,H1 D=none->Pv D z.cps.size ys H->H D=some (.lst ys)->ys.length<=z.cps.size->Q (.ref D) H):bE (fW z) 1 ixs (gName 0) c te Y Q H1:=by
 intro D hD;refine ⟨z.cps.size,CW z.cps.size fr (Pv D),⟨G2 _,G2 _,⟨none,O8⟩,h0 D hD⟩,?_⟩;rintro i ys σ2 H2 ⟨hi,hy,⟨v,rfl⟩,p⟩ hDy
 by_cases C3:i<z.cps.size
 .refine .inr ⟨C3,C3,fun x H' y=>?_⟩;obtain ⟨e,c,hc,rfl⟩:=y;subst e;exact hs D i c ys _ hD C3 hc p hDy hy
 .have e:i=z.cps.size:=by lia
  subst e;exact .inl ⟨B3 _,hd D ys H2 hD p hDy hy⟩
theorem compR(fr:St)(O8:compStart 1 ixs Y=none::fr)(Pv:Addr->Nat->List V->Hp->Prop)(h0:∀ D,H1 D=none->Pv D 0 [] (A0 H1 D (.lst [])))(hs:∀ D i ys H,H1 D=none->i<n->Pv D i ys H->H D=some (.lst ys)->ys.length<=i->c (some (.int (lo+i))::fr) H fun b H4=>
   if b=true then te (some (.int (lo+i))::fr) H4 fun y H5=>H5 D=some (.lst ys)/\ys.length<sizeLine/\CW n fr (Pv D) (i+1) (ys++[y]) (some (.int (lo+i))::fr) (A0 H5 D (.lst (ys++[y])))
   else H4 D=some (.lst ys)/\CW n fr (Pv D) (i+1) ys (some (.int (lo+i))::fr) H4)(hd:∀ D ys H,H1 D=none->Pv D n ys H->H D=some (.lst ys)->ys.length<=n->Q (.ref D) H):bE (g9 lo n) 1 ixs (gName 0) c te Y Q H1:=by
 intro D hD;refine ⟨n,CW n fr (Pv D),⟨G2 _,G2 _,⟨none,O8⟩,h0 D hD⟩,?_⟩;rintro i ys σ2 H2 ⟨hi,hy,⟨v,rfl⟩,p⟩ hDy
 by_cases C3:i<n
 .refine .inr ⟨C3,C3,fun x H' y=>?_⟩;obtain ⟨e,y⟩:=y;subst e y;exact hs D i ys _ hD C3 p hDy hy
 .have e:i=n:=by lia
  subst e;exact .inl ⟨B3 _,hd D ys H2 hD p hDy hy⟩
theorem D6{q:Addr}{o u:HO}(h:H p=some o)(n:H q=none):A0 H q u p=some o:=by rw [A4 (Q9 h n)];exact h
theorem Same.new{q:Addr}{u:HO}(n:H q=none):Same H (A0 H q u):=fun _ _ h=>D6 h n
theorem Same.put{q:Addr}{u:HO}(s:Same H0 H)(n:H0 q=none):Same H0 (A0 H q u):=fun b o h=>by rw [A4 (Q9 h n)];exact s b o h
end L2
set_option maxRecDepth 100000
namespace L2
open PySem PySem.Spec PyProof.Rows
theorem cxK{CX:X5}{P:Program}{w:World}{base:Heap}{q:Str}{sc:Scope}{o:List Env}{E:XK} : (cxOf CX P w K mg base N q sc f cd A o s H E).K=K:=rfl
theorem cxKn : X.nox.K=X.K:=rfl
theorem cxKb{sc:Scope} : (M6 X sc N' C zw zt fp pins).K=X.K:=rfl
theorem cxC{CX:X5}{P:Program}{w:World}{base:Heap}{q:Str}{sc:Scope}{o:List Env}{E:XK} : (cxOf CX P w K mg base N q sc f cd A o s H E).calm=true:=rfl
theorem cxCn : X.nox.calm=X.calm:=rfl
theorem cxCb{sc:Scope} : (M6 X sc N' C zw zt fp pins).calm=X.calm:=rfl
theorem iteD{c A B:Prop}[Decidable c](h1:c->A)(h2:¬ c->B):if decide c=true then A else B:=by
 by_cases h:c
 .rw [decide_eq_true h,if_pos rfl];exact h1 h
 .rw [decide_eq_false h,if_neg K5];exact h2 h
theorem iteN{c A B:Prop}[Decidable c](h1:¬ c->A)(h2:c->B):if (!decide c)=true then A else B:=by
 by_cases h:c
 .rw [decide_eq_true h];exact iteF (h2 h)
 .rw [decide_eq_false h];exact iteT (h1 h)
theorem V9(h:H p=some (.lst xs)):bC K "list" (.ref p) H:=.inl ⟨rfl,_,C7.of h⟩
theorem appOk{l:Addr}(h:H l=some (.lst xs))(hz:xs.length<sizeLine)(q:Q .non (A0 H l (.lst (xs++[y])))):rX (.ref l) [y] H Q:=⟨l,xs,y,rfl,rfl,h,hz,q⟩
theorem K0(h:n<=1000000):n<sizeLine:=Nat.lt_of_le_of_lt h (by decide)
theorem i4(h:n<=1000000):n<=sizeLine:=Nat.le_of_lt (K0 h)
noncomputable def signB (c:Nat):Bool:=decide (33<=c)&&decide (c<=126)&&decide (c≠37)
noncomputable def SG:List Nat:=[33,34,35,36]++(k4 89).map (· + 38)
theorem anG:∀ c∈SG,signB c=true:=by decide +kernel
theorem sM:SG.length=93:=by decide +kernel
structure IsRows(H:Hp)(a:Addr)(rs:List Addr)(zss:List (List Str)):Prop where
 top:H a=some (.lst (rs.map V.ref))
 row:Paired (fun r (zs:List Str)=>H r=some (.lst (zs.map V.str))) rs zss
theorem IsRows.same{zss:List (List Str)}(R:IsRows H a rs zss)(s:Same H H'):IsRows H' a rs zss:=⟨s _ _ R.top,K7 R.row fun _ _ h=>s _ _ h⟩
theorem Paired.at{α β:Type}{F:α->β->Prop} : ∀ {l₁:List α} {l₂:List β} {i:Nat} {a:α},Paired F l₁ l₂->l₁[i]?=some a->∃ b,l₂[i]?=some b/\F a b
 | _,_,_,_,.nil,h=>by simp at h
 | _,_,0,_,.cons h t,e=>by simp at e;subst e;exact ⟨_,rfl,h⟩
 | _,_,i+1,_,.cons h t,e=>by
  obtain ⟨b,h1,h2⟩:=Paired.at (i:=i) t (by simpa using e);exact ⟨b,by simpa using h1,h2⟩
theorem dE:∀ zs:List Int,g4 (zs.map g7)=0
 | []=>rfl
 | z::zs=>by rw [F7,g4,dE zs,g6];rfl
noncomputable def dd (acc:List Str) (z:Str):List Str:=if z∈acc then acc else acc++[z]
noncomputable def G3 (acc zs:List Str):List Str:=zs.foldl dd acc
noncomputable def toldL (zss:List (List Str)):List Str:=zss.foldl G3 []
theorem jN(zs:List Str):∀ acc:List Str,(G3 acc zs).length<=acc.length+zs.length:=by
 induction zs with
 | nil=>intro acc;exact B3 _
 | cons z zs ih=>
  intro acc;have h1:=ih (dd acc z);have h2:(dd acc z).length<=acc.length+1:=by
   unfold dd
   split
   .lia
   .simp
  show (G3 (dd acc z) zs).length<=_;rw [G6];lia
theorem alo(h:zs[j]?=some z):G3 acc (zs.take (j+1))=dd (G3 acc (zs.take j)) z:=by
 rw [j7,h];simp [G3,p4]
theorem ajw{zss:List (List Str)}(h:zss[i]?=some zs):toldL (zss.take (i+1))=G3 (toldL (zss.take i)) zs:=by
 rw [j7,h];simp [toldL,p4]
theorem nS(zss:List (List Str)):∀ acc,zss.foldl G3 acc=G3 acc zss.flatten:=by
 induction zss with
 | nil=>intro acc;rfl
 | cons zs zss ih=>
  intro acc;rw [List.foldl_cons,ih,fF];unfold G3;rw [p4]
theorem jO(zss:List (List Str)):(toldL zss).length<=zss.flatten.length:=by
 unfold toldL;rw [nS]
 have:=jN zss.flatten []
 simpa using this
noncomputable def kvOf (zs:List Str):List (B5×V):=zs.map fun z=>(Sum.inr z,V.bl true)
theorem sN(z:Str):∀ acc:List Str,((kvOf acc).any fun kv=>decide (kv.1=(Sum.inr z:B5)))=decide (z∈acc)
 | []=>by simp [kvOf]
 | y::acc=>by
  have ih:=sN z acc;unfold kvOf at ih ⊢
  rw [F7,j9,ih]
  by_cases e:y=z
  .subst e
   simp
  .have e1:decide ((Sum.inr y:B5)=Sum.inr z)=false:=decide_eq_false fun q=>e (Sum.inr.inj q)
   have e2:decide (z∈y::acc)=decide (z∈acc):=by
    by_cases h:z∈acc
    .rw [decide_eq_true h,decide_eq_true (N0 _ h)]
    .rw [decide_eq_false h,decide_eq_false];intro q
     rcases E7.mp q with q | q
     .exact e q.symm
     .exact h q
   rw [e2];simp only [e1,Bool.false_or]
theorem afZ(acc:List Str)(z:Str):putK (kvOf acc) (Sum.inr z:B5) (.bl true)=kvOf (dd acc z):=by
 unfold putK dd;rw [sN]
 by_cases h:z∈acc
 .rw [decide_eq_true h,if_pos rfl,if_pos h];unfold kvOf;rw [f6];refine iV fun y _=>?_
  show (if (Sum.inr y:B5)=Sum.inr z then ((Sum.inr y:B5),V.bl true) else (Sum.inr y,V.bl true))=_
  split <;> rfl
 .rw [decide_eq_false h,if_neg K5,if_neg h];unfold kvOf;rw [E1];rfl
theorem ajx(acc:List Str):((kvOf acc).map fun kv=>kV kv.1)=acc.map V.str:=by
 unfold kvOf;rw [f6];rfl
theorem ahG(z:Str):∀ acc:List Str,bB (.str z) (acc.map V.str)=decide (z∈acc)
 | []=>by simp [bB]
 | y::acc=>by
  have ih:=ahG z acc;unfold bB at ih ⊢
  rw [F7,j9,ih];show ((y==z) || decide (z∈acc))=_
  by_cases e:y=z
  .subst e
   simp
  .have e1:(y==z)=false:=by simpa using e
   rw [e1,Bool.false_or]
   by_cases h:z∈acc
   .rw [decide_eq_true h,decide_eq_true (N0 _ h)]
   .rw [decide_eq_false h,decide_eq_false];intro q
    rcases E7.mp q with q | q
    .exact e q.symm
    .exact h q
theorem G7{α β:Type}{f:α->β}{l:List α}{y:β}(h:(l.map f)[i]?=some y):∃ x,l[i]?=some x/\y=f x:=by
 rw [P6] at h;cases e:l[i]? with
 | none=>rw [e] at h;cases h
 | some x=>rw [e] at h;exact ⟨x,rfl,(Option.some.inj h).symm⟩
noncomputable def SS:Str:=Str.ofString "!\"#$&'()*+,-./0123456789:;<=>?@ABCDEFGHIJKLMNOPQRSTUVWXYZ[\\]^_`"++Str.ofString "abcdefghijklmnopqrstuvwxyz{|}~"
theorem SS_eq:SS.cps.toList=SG:=by decide +kernel
theorem aqy:SS.length<=sizeLine:=by decide +kernel
theorem anH:(Str.ofString "!\"#$&'()*+,-./0123456789:;<=>?@ABCDEFGHIJKLMNOPQRSTUVWXYZ[\\]^_`").length+(Str.ofString "abcdefghijklmnopqrstuvwxyz{|}~").length<=sizeLine:=by decide +kernel
theorem SS_at{i:Int}(h0:0<=i)(h1:i<93):∃ c,G0 SS.cps.toList i=some c/\signB c=true:=by
 rw [SS_eq];obtain ⟨c,h2,h3⟩:=nQ (xs:=SG) h0 (by rw [sM];exact h1);exact ⟨c,h2,anG c h3⟩
theorem drawn{i:Int}(hx:∀ x∈xs,∃ n,x=V.int n)(h0:0<=i)(h1:i<xs.length):∃ n,G0 xs i=some (V.int n):=by
 obtain ⟨v,h2,h3⟩:=nQ h0 h1;obtain ⟨n,rfl⟩:=hx v h3;exact ⟨n,h2⟩
theorem sO{α β:Type}{F:α->β->Prop}{a:α}{b:β} : ∀ {l₁:List α} {l₂:List β},Paired F (l₁++[a]) (l₂++[b])->Paired F l₁ l₂/\F a b
 | [],[],.cons h _=>⟨.nil,h⟩
 | [],y::l₂,h=>by
  have:=Paired.length h
  simp at this
 | x::l₁,[],h=>by
  have:=Paired.length h
  simp at this
 | x::l₁,y::l₂,.cons h t=>by
  obtain ⟨h1,h2⟩:=sO (l₁:=l₁) (l₂:=l₂) t;exact ⟨.cons h h1,h2⟩
theorem jP{α β:Type}{F G:α->β->Prop} : ∀ {l₁:List α} {l₂:List β},Paired F l₁ l₂->(∀ a∈l₁,∀ b,F a b->G a b)->Paired G l₁ l₂
 | _,_,.nil,_=>.nil
 | _,_,.cons h t,k=>.cons (k _ O2 _ h) (jP t fun a ha b hb=>k a (N0 _ ha) b hb)
structure RowsAt(H0 H:Hp)(a:Addr)(rs:List Addr)(zss:List (List Str)):Prop where
 rows:IsRows H a rs zss
 nd:(a::rs).Nodup
 new:∀ r∈a::rs,H0 r=none
 same:Same H0 H
theorem RowsAt.live{zss:List (List Str)}(R:RowsAt H0 H a rs zss)(h:r∈a::rs):∃ o,H r=some o:=by
 rcases E7.mp h with h | h
 .subst h;exact ⟨_,R.rows.top⟩
 .obtain ⟨i,hi,rfl⟩:=e8.mp h;obtain ⟨zs,_,h2⟩:=Paired.at R.rows.row (i:=i) (a:=rs[i]) (by simp [hi]);exact ⟨_,h2⟩
theorem af0(x:Str)(lo hi:Option Int):(cutS x lo hi).cps.toList=(x.cps.toList.drop (HT.sIx x.length 0 lo)).take (HT.sIx x.length x.length hi-HT.sIx x.length 0 lo):=by
 unfold cutS
 simp
end L2
set_option maxRecDepth 100000
namespace L2
open PySem PySem.Spec PyProof.Rows
structure QE(X:Cx)(e:Expr)(t:TE):Prop where
 out:PE X e t
structure QT(X:Cx)(e:Expr)(t:TT):Prop where
 out:PT X e t
structure QW(X:Cx)(e:Expr)(t:TT):Prop where
 out:PW X e t
structure QA(X:Cx)(es:List Expr)(t:TA):Prop where
 out:PA X es t
structure QS(X:Cx)(st:Stmt)(t:TS):Prop where
 out:PS X st t
structure QSs(X:Cx)(st:List Stmt)(t:TS):Prop where
 out:U4 X st t
structure QG(X:Cx)(tg:Expr)(t:TG):Prop where
 out:PG X tg t
structure QGs(X:Cx)(tg:List Expr)(t:g8):Prop where
 out:jI X tg t
structure QI(X:Cx)(tg iter:Expr)(wi:TI):Prop where
 out:PI X tg iter wi
structure QO(X:Cx)(e:Option Expr)(t:TO):Prop where
 out:PO X e t
structure QIfs(X:Cx)(ifs:List Expr)(t:TT):Prop where
 out:PIfs X ifs t
structure QOp(X:Cx)(f:Value->Value->Sem Value)(r:R2):Prop where
 out:G4 X f r
structure QUn(X:Cx)(f:Value->Sem Value)(r:V->Hp->VK->Prop):Prop where
 out:nE X f r
structure QCall(X:Cx)(f:Value)(r:List V->Hp->VK->Prop):Prop where
 out:CallR X f r
structure QMt(X:Cx)(id:String)(r:V->List V->Hp->VK->Prop):Prop where
 out:nH X id r
structure QIp(X:Cx)(op:Operator)(t:cW):Prop where
 out:rH X op t
structure QIn(X:Cx)(op:Operator)(t:V->V->Hp->VK->Prop):Prop where
 out:InOp X op t
section
variable {X:Cx} {a b c e o i value:Expr} {es:List Expr} {ta tb tc te to ti tv:TE} {tA tB':TT} {t u:TS} {tl:TA} {pos p pos' tpos:Pos} {rest:List Expr} {r r':R2} {x:Str}
theorem A5{i j} : QE X (.Constant (.int i) j pos) (tC (.int i)):=⟨yH⟩
theorem qe_bl{b j} : QE X (.Constant (.bool b) j pos) (tC (.bl b)):=⟨pe_bl⟩
theorem amj{j} : QE X (.Constant .none j pos) (tC .non):=⟨aox⟩
theorem N3{x j} : QE X (.Constant (.str x) j pos) (tC (.str x)):=⟨aoy⟩
theorem qe_v(hN:X.N[n]?=some x)(hv:jG X.env.scope x)(hd:(x==("__debug__" : Str))=false)(W3:(x==("__classdict__" : Str))=false):QE X (.Name x pos) (tVar n):=⟨yG hN hv hd W3⟩
theorem qv(n:Nat)(hN:X.N[n]?=some x:=by rfl)(hv:jG X.env.scope x:=by first | exact Or.inl rfl | exact Or.inr (Or.inl rfl) | exact Or.inr (Or.inr rfl))(hd:(x==("__debug__" : Str))=false:=by decide)(W3:(x==("__classdict__" : Str))=false:=by decide):QE X (.Name x pos) (tVar n):=⟨yG hN hv hd W3⟩
theorem fY{i:Int}(h:∃ t,X.mg x=some (.int i t))(hg:Gl X x:=by rfl)(hd:(x==("__debug__" : Str))=false:=by decide):QE X (.Name x p) (tC (.int i)):=⟨ak8 h hg hd⟩
theorem nU{a:Addr}(h:X.mg x=some (.ref a))(hg:Gl X x:=by rfl)(hd:(x==("__debug__" : Str))=false:=by decide):QE X (.Name x p) (tC (.ref a)):=⟨ak9 h hg hd⟩
theorem qe_ty{n:String}(hm:X.mg x=none)(hv:bootBuiltins x=some (.type n))(hg:Gl X x:=by rfl)(hn:x≠"__name__":=by decide)(hd:(x==("__debug__" : Str))=false:=by decide):QE X (.Name x p) (tC (.ty n)):=⟨amD hg hm hv rfl hn hd⟩
theorem qe_op{op:Operator}(ho:QOp X (binaryOp op) r)(ha:QE X a ta)(hb:QE X b tb):QE X (.BinOp a op b pos) (x4 r ta tb):=⟨pe_op ho.out ha.out hb.out⟩
theorem qe_un{op:UnaryOp}{r:V->Hp->VK->Prop}(ho:QUn X (unaryOp op) r)(ha:QE X a ta):QE X (.UnaryOp op a pos) (rL r ta):=⟨pe_un ho.out ha.out⟩
theorem anI(ha:QE X a ta)(hK:X.K=K:=by rfl):QE X (.UnaryOp .Not a pos) (tNotT K ta):=by subst hK;exact ⟨am7 ha.out⟩
theorem sP{op}(ha:QE X a ta):QE X (.BoolOp op [a] pos) ta:=⟨aoC ha.out⟩
theorem sQ(ha:QE X a ta)(hb:QE X (.BoolOp .And (b::rest) pos) tb):QE X (.BoolOp .And (a::b::rest) pos) (tAndV ta tb):=⟨aoD ha.out hb.out⟩
theorem qe_or(ha:QE X a ta)(hb:QE X (.BoolOp .Or (b::rest) pos) tb):QE X (.BoolOp .Or (a::b::rest) pos) (tOrV ta tb):=⟨pe_or ha.out hb.out⟩
theorem fZ{op:CmpOp}(ho:QOp X (compareOp op) r)(ha:QE X a ta)(hb:QE X b tb)(hm:behindInMarks op b=false:=by first | exact yR _ | rfl):QE X (.Compare a [op] [b] pos) (x4 r ta tb):=⟨amN ho.out ha.out hb.out hm⟩
theorem alp{op op':CmpOp}(ho:QOp X (compareOp op) r)(m9:QOp X (compareOp op') r')(ha:QE X a ta)(hb:QE X b tb)(hc:QE X c tc)(hm:lastMarks [op,op'] [b,c]=false:=by with_unfolding_all rfl):QE X (.Compare a [op,op'] [b,c] pos) (rN r r' ta tb tc):=⟨akO ho.out m9.out ha.out hb.out hc.out hm⟩
theorem ahH(hc:QT X c tA)(ha:QE X a ta)(hb:QE X b tb):QE X (.IfExp c a b pos) (rE tA ta tb):=⟨akH hc.out ha.out hb.out⟩
theorem A1:QA X [] tNil:=⟨aoW⟩
theorem qa_c(ha:QE X e te)(hr:QA X es tl)(h:J9 e=false:=by rfl):QA X (e::es) (tCons te tl):=⟨pa_c ha.out hr.out h⟩
theorem T8(h:QA X es tl):QE X (.List es pos) (tLst tl):=⟨aoY h.out⟩
theorem R0{x1}(h:QA X es tl):QE X (.Tuple es x1 pos) (tTup tl):=⟨aoX h.out⟩
theorem gA:QE X (.Dict [] [] pos) sC:=⟨ak0⟩
theorem Z3:QO X none rS:=⟨amV⟩
theorem M3(h:QE X e te):QO X (some e) (tPart te):=⟨amW h.out⟩
theorem Q5{lo hi:Option Expr}{tlo thi:TO}{p2:Pos}(he:QE X e te)(hl:QO X lo tlo)(hu:QO X hi thi)(hK:X.K=K:=by rfl):QE X (.Subscript e (.Slice lo hi none p2) pos) (rT (rSlU K) te tlo thi):=by subst hK;exact ⟨akW p_sl he.out hl.out hu.out⟩
theorem l9(hu:X.A.units+1<cLine)(ho:QE X o to)(hi:QE X i ti)(hs:NoSl i:=by exact fun _ _=>rfl):QE X (.Subscript o i pos) (tDGet to ti):=⟨am2 hu ho.out hi.out hs⟩
theorem qe_ix(ha:QE X a ta)(hb:QE X b tb)(hs:zH b:=by exact fun _ _=>rfl)(hK:X.K=K:=by rfl):QE X (.Subscript a b pos) (x4 (fS K) ta tb):=by subst hK;exact ⟨pe_ix ao2 ha.out hb.out hs⟩
theorem qe_cB{id:String}{rc:List V->Hp->VK->Prop}(hc:QCall X (.builtin id) rc)(hm:X.mg x=none)(hv:bootBuiltins x=some (.builtin id))(ha:QA X (e::es) tl)(hg:Gl X x:=by rfl)(h1:J9 e=false:=by rfl)(h2:V8 es=true:=by rfl)(hn:x≠"__name__":=by decide)(G9:(x==("__debug__" : Str))=false:=by decide) :
  QE X (.Call (.Name x p) (e::es) [] pos) (cX rc tl):=⟨pe_cB hc.out hg hm hv ha.out h1 h2 hn G9⟩
theorem qe_cT{T:String}{rc:List V->Hp->VK->Prop}(hc:QCall X (.type T) rc)(hm:X.mg x=none)(hv:bootBuiltins x=some (.type T))(ha:QA X (e::es) tl)(hg:Gl X x:=by rfl)(h1:J9 e=false:=by rfl)(h2:V8 es=true:=by rfl)(hn:x≠"__name__":=by decide)(G9:(x==("__debug__" : Str))=false:=by decide) :
  QE X (.Call (.Name x p) (e::es) [] pos) (cX rc tl):=⟨pe_cT hc.out hg hm hv ha.out h1 h2 hn G9⟩
theorem qe_mB{T id:String}{rm:V->List V->Hp->VK->Prop}(pa:PlainAttrs T)(slot:Slot T name id)(V1:typeOf (.builtin id)=pure (.type "method_descriptor"))(hm:QMt X id rm)(ho:QE X o to)(ha:QA X (e::es) tl)(h1:J9 e=false:=by rfl)(h2:V8 es=true:=by rfl)(h3:decide ((e::es).length<30)=true:=by rfl)(D9:attributeBase o name X.env (eval o X.env)=eval o X.env:=by rfl)(E6:(apos.endLine==cpos.line)=true:=by rfl)(hK:X.K=K:=by rfl):QE X (.Call (.Attribute o name apos) (e::es) [] cpos) (nI K T rm to tl):=by subst hK;exact ⟨pe_mB pa slot V1 hm.out ho.out ha.out h1 h2 h3 D9 E6⟩
theorem qe_m0{T id:String}{rm:V->List V->Hp->VK->Prop}(pa:PlainAttrs T)(slot:Slot T name id)(V1:typeOf (.builtin id)=pure (.type "method_descriptor"))(hm:QMt X id rm)(ho:QE X o to)(D9:attributeBase o name X.env (eval o X.env)=eval o X.env:=by rfl)(E6:(apos.endLine==cpos.line)=true:=by rfl)(hK:X.K=K:=by rfl):QE X (.Call (.Attribute o name apos) [] [] cpos) (tBM0 K T rm to):=by subst hK;exact ⟨ao4 pa slot V1 hm.out ho.out D9 E6⟩
theorem D7(G:FO X.prog X.w X.K X.mg X.base k x ps dvs sp)(hr:Room k X.A)(ha:QA X (e::es) tl)(hg:Gl X x:=by rfl)(h1:J9 e=false:=by rfl)(h2:V8 es=true:=by rfl)(G9:(x==("__debug__" : Str))=false:=by decide) :
  QE X (.Call (.Name x p) (e::es) [] pos) (tCall sp dvs E0 tl):=⟨ak7 G hr ha.out hg h1 h2 G9⟩
theorem G5{op:CmpOp}(ho:QOp X (compareOp op) r)(ha:QE X a ta)(hb:QE X b tb)(hm:behindInMarks op b=false:=by first | exact yR _ | rfl):QT X (.Compare a [op] [b] pos) (tTest (x4 r ta tb)):=⟨amO ho.out ha.out hb.out hm⟩
theorem amk(ha:QT X a tA):QT X (.UnaryOp .Not a pos) (tNot tA):=⟨aoB ha.out⟩
theorem gB(ha:QT X a tA):QW X (.BoolOp .And [a] pos) tA:=⟨amE ha.out⟩
theorem aqz(ha:QT X a tA):QW X (.BoolOp .Or [a] pos) tA:=⟨aoz ha.out⟩
theorem dF(ha:QT X a tA)(hb:QW X (.BoolOp .And (b::rest) pos) tB'):QW X (.BoolOp .And (a::b::rest) pos) (tAnd tA tB'):=⟨aoA ha.out hb.out⟩
theorem qw_or(ha:QT X a tA)(hb:QW X (.BoolOp .Or (b::rest) pos) tB'):QW X (.BoolOp .Or (a::b::rest) pos) (rD tA tB'):=⟨pw_or ha.out hb.out⟩
theorem QW.pt(h:QW X a tA):QT X a tA:=⟨h.out.pt⟩
theorem X0(ha:QE X a ta)(he:∀ whole,isTrue a X.env whole=(do let v <- whole;standAt a.pos;holding [v] (truthy v)):=by intro _;rfl)(hK:X.K=K:=by rfl):QT X a (tTru K ta):=by subst hK;exact ⟨aqa ha.out he⟩
variable {st:Stmt} {sts:List Stmt}
theorem M9:QSs X [] tNext:=⟨amF⟩
theorem A8(h:QS X st t):QSs X [st] t:=⟨amG h.out⟩
theorem A9(h:QS X st t)(h2:QSs X sts u):QSs X (st::sts) (tSeq t u):=⟨akI h.out h2.out⟩
theorem E2(he:QE X e te):QS X (.Return (some e) pos) (tRet te):=⟨aoE he.out⟩
theorem alq:QS X (.Break pos) rF:=⟨akJ⟩
theorem sR:QS X st rG:=⟨akK⟩
theorem D8(hN:X.N.Nodup)(hi:X.N[n]?=some x)(hx:k9 X.env.scope x)(he:QE X e te)(hs:swapsWith e (some (.Name x pos')) pos.line X.env=pure false:=by rfl)(hf:X.fn x=true:=by rfl):QS X (.Assign [.Name x pos'] e pos) (tAsg te (gName n)):=⟨aoH hN hi hx he.out hs (.inl hf)⟩
theorem gC{f:Str}(ho:QE X o to)(hv:QE X value tv)(hs:swapsWith value (some (.Attribute o f pos')) pos.line X.env=pure false:=by rfl)(hK:X.K=K:=by rfl):QS X (.Assign [.Attribute o f pos'] value pos) (sFld K to tv f):=by subst hK;exact ⟨aoT ho.out hv.out hs⟩
theorem m3{f:Str}(ho:QE X o to)(hb:attributeBase o f X.env (eval o X.env)=eval o X.env:=by rfl)(hK:X.K=K:=by rfl):QE X (.Attribute o f pos) (tFld K to f):=by subst hK;exact ⟨aoS ho.out hb⟩
theorem x9(hu:X.A.units+1<cLine)(ho:QE X o to)(hi:QE X i ti)(hv:QE X value tv)(hs:swapsWith value (some (.Subscript o i pos')) pos.line X.env=pure false:=by rfl):QS X (.Assign [.Subscript o i pos'] value pos) (sDPut to ti tv):=⟨am3 hu ho.out hi.out hv.out hs⟩
theorem ajA{op:Operator}{rd:V->V->Hp->VK->Prop}(hu:X.A.units+1<cLine)(ho:QE X o to)(hi:QE X i ti)(hv:QE X value tv)(wK:QIn X op rd)(ha:∀ ov iv new,augStore i ov iv new=(do holding [new,ov,iv] (setItem ov iv new);release [new,ov,iv] [];pure .next):=by exact fun _ _ _=>rfl) :
  QS X (.AugAssign (.Subscript o i tpos) op value pos) (sDAug to ti tv rd):=⟨am4 hu ho.out hi.out hv.out wK.out ha⟩
theorem aml(he:QE X e te)(hg:QG X tg g)(hs:swapsWithSole [tg] e pos.line X.env=pure false:=by rfl)(hw:swappedStores [tg] e X.env=pure none:=by rfl)(h1:(assignEach [tg] X.env).map (·.2)=[assign tg X.env]:=by rfl):QS X (.Assign [tg] e pos) (tAsg te g):=⟨aoG he.out hg.out hs hw h1⟩
theorem sS{op:Operator}{tip:cW}(hN:X.N.Nodup)(hi:X.N[n]?=some x)(hx:k9 X.env.scope x)(he:QE X e te)(ho:QIp X op tip)(hf:X.fn x=true:=by rfl):QS X (.AugAssign (.Name x pos') op e pos) (tAug n te tip):=⟨aoI hN hi hx he.out ho.out (.inl hf)⟩
theorem R7(he:QE X e te)(hs:swapsWith e none pos.line X.env=pure false:=by rfl):QS X (.Expr e pos) (tDrop te):=⟨amH he.out hs⟩
theorem qs_if{sa sb:List Stmt}(hc:QT X c tA)(ha:QSs X sa t)(hb:QSs X sb u):QS X (.If c sa sb pos) (tIfS tA t u):=⟨ps_if hc.out ha.out hb.out⟩
theorem nV{body:List Stmt}(hp:PassesOwn (model X.prog X.w) X.A X.env X.xe)(hc:QT X c tA)(hb:QSs X body t):QS X (.While c body [] pos) (nC tA t):=⟨akM hp hc.out hb.out⟩
theorem P1{body:List Stmt}{wi:TI}(hp:PassesOwn (model X.prog X.w) X.A X.env X.xe)(hi:QI X tg iter wi)(hg:QG X tg g)(hb:QSs X body t)(hc:X.calm=true:=by rfl)(hs:∀ x,foldedSetIterable iter X.env x=pure x:=by intro _;rfl):QS X (.For tg iter body [] pos) (tFor wi g t):=⟨aoL hp hc hi.out hg.out hb.out hs⟩
theorem D0(hN:X.N.Nodup)(hi:X.N[n]?=some x)(hx:k9 X.env.scope x)(hf:X.fn x=true\/X.env.scope.names.lookup x=some .local:=by first | exact .inl rfl | exact .inr rfl | assumption):QG X (.Name x pos) (gName n):=⟨amI hN hi hx hf⟩
theorem p9:QGs X [] gNil:=⟨amJ⟩
theorem P9{gs:g8}(h1:QG X e g)(h2:QGs X es gs)(hs:(assignEach (e::es) X.env).map (·.2)=assign e X.env::(assignEach es X.env).map (·.2):=by rfl):QGs X (e::es) (gCons g gs):=⟨akL h1.out h2.out hs⟩
theorem q5{gs:g8}(h:QGs X es gs)(hc:X.calm=true:=by rfl)(hn:(assignEach es X.env).length=n:=by rfl)(R1:(assignEach es X.env).findIdx? (·.1)=none:=by rfl)(hK:X.K=K:=by rfl):QG X (.Tuple es k pos) (gTup K n gs):=by subst hK;exact ⟨aoF hc h.out hn R1⟩
variable {tg:Expr}
theorem O5(h:QE X e te)(hK:X.K=K:=by rfl):QI X tg e (iList K te):=by subst hK;exact ⟨amK h.out⟩
theorem gD(h:QE X e te)(hK:X.K=K:=by rfl):QI X tg e (iTup K te):=by subst hK;exact ⟨aoK h.out⟩
theorem aqA(h:QE X e te):QI X tg e (iStr te):=⟨aqg h.out⟩
theorem qi_r1(hm:X.mg "range"=none)(ha:QA X [a] tl)(hg:Gl X "range":=by rfl)(h1:J9 a=false:=by rfl):QI X tg (.Call (.Name "range" p) [a] [] pos) (iRng1 tl):=⟨pi_r1 hg hm ha.out h1⟩
theorem qi_r2(hm:X.mg "range"=none)(ha:QA X [a,b] tl)(hg:Gl X "range":=by rfl)(h1:J9 a=false:=by rfl)(h2:J9 b=false:=by rfl):QI X tg (.Call (.Name "range" p) [a,b] [] pos) (iRng2 tl):=⟨pi_r2 hg hm ha.out h1 h2⟩
theorem i5:QIfs X [] tYes:=⟨ak3⟩
theorem dG(h:QT X c tA):QIfs X [c] tA:=⟨ak4 h.out⟩
variable {sc:Scope} {N':List Str} {k:Nat} {ixs:List Nat} {ifs:List Expr} {wi:TI} {g:TG} {elt:Expr}
theorem X8(C:CompOk X.N X.env.scope.names sc N' k ixs)(hi:QI X tg e wi)(hg:∀ C zw zt fp pins,QG (M6 X sc N' C zw zt fp pins) tg g)(hc:∀ C zw zt fp pins,QIfs (M6 X sc N' C zw zt fp pins) ifs tA)(he:∀ C zw zt fp pins,QE (M6 X sc N' C zw zt fp pins) elt te)(L9:X.calm=true:=by rfl)(hs:∀ x,foldedSetIterable e X.env x=pure x:=by intro _;rfl):QE X (.ListComp elt [⟨tg,e,ifs,0⟩] sc pos) (tComp wi k ixs g tA te):=
 ⟨am6 C L9 hi.out (fun _ _ _ _ _=>(hg _ _ _ _ _).out) (fun _ _ _ _ _=>(hc _ _ _ _ _).out) (fun _ _ _ _ _=>(he _ _ _ _ _).out) hs⟩
theorem jQ(hN:X.N.Nodup)(hiN:X.N[n]?=some x)(hx:k9 X.env.scope x)(C:CompOk X.N X.env.scope.names sc N' k ixs)(hi:QI X tg e wi)(hg:∀ C zw zt fp pins,QG (M6 X sc N' C zw zt fp pins) tg g)(hc:∀ C zw zt fp pins,QIfs (M6 X sc N' C zw zt fp pins) ifs tA)(he:∀ C zw zt fp pins,QE (M6 X sc N' C zw zt fp pins) elt te)(lK:swapsWith (.ListComp elt [⟨tg,e,ifs,0⟩] sc pos) (some (.Name x pos')) spos.line X.env=pure true:=by rfl)(L9:X.calm=true:=by rfl)(hf:X.fn x=true:=by rfl)(hs:∀ x,foldedSetIterable e X.env x=pure x:=by intro _;rfl) :
  QS X (.Assign [.Name x pos'] (.ListComp elt [⟨tg,e,ifs,0⟩] sc pos) spos) (tAsg (tComp wi k ixs g tA te) (gName n)):=
 ⟨aio hN hiN hx C L9 hi.out (fun _ _ _ _ _=>(hg _ _ _ _ _).out) (fun _ _ _ _ _=>(hc _ _ _ _ _).out) (fun _ _ _ _ _=>(he _ _ _ _ _).out) lK (.inl hf) hs⟩
theorem q_add(hK:X.K=K:=by rfl):QOp X (binaryOp .Add) (rAddU K):=by subst hK;exact ⟨p_add⟩
theorem q_sub:QOp X (binaryOp .Sub) (p8 fun i j=>.int (i-j)):=⟨p_sub⟩
theorem q_mul:QOp X (binaryOp .Mult) rMulU:=⟨p_mul⟩
theorem nW:QOp X (binaryOp .FloorDiv) (rI CDiv fun i j=>.int (i / j)):=⟨aqb⟩
theorem q_mod:QOp X (binaryOp .Mod) (rI (fun _ j=>0<j) fun i j=>.int (i % j)):=⟨p_mod⟩
theorem q_eq(hu:X.A.units+64<cLine)(hK:X.K=K:=by rfl):QOp X (compareOp .Eq) (rEqU K):=by subst hK;exact ⟨p_eq hu⟩
theorem q_ne(hu:X.A.units+64<cLine)(hK:X.K=K:=by rfl):QOp X (compareOp .NotEq) (rNeU K):=by subst hK;exact ⟨p_ne hu⟩
theorem q_lt:QOp X (compareOp .Lt) rLtU:=⟨p_lt⟩
theorem q_le:QOp X (compareOp .LtE) rLeU:=⟨p_le⟩
theorem q_gt:QOp X (compareOp .Gt) rGtU:=⟨p_gt⟩
theorem q_in(hu:X.A.units+64<cLine)(hK:X.K=K:=by rfl):QOp X (compareOp .In) (rInU K false):=by subst hK;exact ⟨p_in hu⟩
theorem ajC(hu:X.A.units+64<cLine)(hK:X.K=K:=by rfl):QOp X (compareOp .NotIn) (rInU K true):=by subst hK;exact ⟨am8 hu⟩
theorem q_isN:QOp X (compareOp .Is) (fun x y H Q=>y=.non/\Q (.bl (decide (x=.non))) H):=⟨aoR⟩
theorem q_neg:QUn X (unaryOp .USub) (rU fun i=>.int (-i)):=⟨aoQ⟩
theorem q_len(hK:X.K=K:=by rfl):QCall X (.builtin "len") (rLenU K):=by subst hK;exact ⟨p_len⟩
theorem q_isi:QCall X (.builtin "isinstance") rIsi:=⟨ak5⟩
theorem gE(hK:X.K=K:=by rfl)(lM:X.calm=calm:=by rfl):QCall X (.type "list") (sJ K calm):=by subst hK;subst lM;exact ⟨aqe⟩
theorem i6:QMt X "list.append" rX:=⟨fun pins s Y H x xs v us Q I rx rv h=>zM pins s Y H x xs v us Q I rx rv h⟩
theorem ajD:QMt X "list.reverse" zN:=⟨fun pins s Y H x xs v us Q I rx rv h=>ain pins s Y H x xs v us Q I rx rv h⟩
theorem sT:QIp X .Add (rJ fun i j=>i+j):=⟨aoJ⟩
theorem aqB:QIn X .Add rAdd:=⟨aoU⟩
theorem aqC:QIn X .Sub rSub:=⟨aoV⟩
end
end L2
set_option maxRecDepth 100000
namespace L2
open PySem PySem.Spec PyProof.Rows
noncomputable def ModD (P:Program) (w:World) (K:PySem.W.Frag) (a:Addr) (kvs:List (B5×V)):Prop:=(a==sysModules)=false/\∀ h:Heap,K.In h->∃ vs,KV kvs vs/\h.DictOf (N9 P w) a vs
noncomputable abbrev ModE (w:World):List DictEntry->List (B5×V)->Prop:=Paired fun e kv=>keyIs kv.1 e.key=true/\e.hash=keyH w kv.1/\RelV kv.2 e.val
theorem ModE.pairs{P:Program}{w:World} : ∀ {es:List DictEntry} {kvs:List (B5×V)},ModE w es kvs->∃ vs:List (B5×Value),KV kvs vs/\Pairs (N9 P w) es vs/\(∀ e∈es,∃ k,(N9 P w).is k e.key=true/\e.hash=(N9 P w).hash k)/\vs.map (·.1)=kvs.map (·.1)
 | _,_,.nil=>⟨[],.nil,.nil,fun e h=>(nomatch h),rfl⟩
 | e::es,kv::kvs,.cons ⟨h1,h2,h3⟩ t=>by
  obtain ⟨vs,a1,a2,a3,a4⟩:=ModE.pairs (P:=P) t;refine ⟨(kv.1,e.val)::vs,.cons ⟨rfl,h3⟩ a1,.cons h1 rfl a2,fun e' he=>?_,by rw [F7,F7,a4]⟩
  rcases E7.mp he with z | z
  .rw [z];exact ⟨kv.1,h1,h2⟩
  .exact a3 e' z
theorem anJ{P:Program}{w:World}{es:Array DictEntry}{ep:Nat}(l:K.lookup a=some { cls:=.type "dict",dict:=none,data:=.dict es ep,slots:=#[] })(hs:(a==sysModules)=false)(he:ModE w es.toList kvs)(hn:(kvs.map (·.1)).Nodup):ModD P w K a kvs:=by
 refine ⟨hs,fun h X=>?_⟩;obtain ⟨vs,a1,a2,a3,a4⟩:=he.pairs (P:=P);exact ⟨vs,a1,_,es,ep,X a _ l,⟨rfl,rfl,rfl⟩,rfl,fun e h=>a3 e (Array.mem_toList_iff.mpr h),a2,by rw [a4];exact hn⟩
noncomputable def rInM (neg:Bool) (a:Addr) (kvs:List (B5×V)):R2:=fun x y H Q=>y=.ref a/\∃ k,x=kV k/\Q (.bl (neg.xor (valV kvs k).isSome)) H
noncomputable def amm (a:Addr) (kvs:List (B5×V)) (to ti:TE):TE:=fun Y H Q=>to Y H fun x H1=>ti Y H1 fun y H2=>x=.ref a/\∃ k v,y=kV k/\valV kvs k=some v/\Q v H2
section
variable {X:Cx} {a:Addr} {kvs:List (B5×V)} {o i:Expr} {to ti:TE} {pos:Pos}
theorem q_inM(M:ModD X.prog X.w X.K a kvs):QOp X (compareOp .In) (rInM false a kvs):=⟨by
 intro pins s Y H x y v u Q I rx ry h;obtain ⟨rfl,k,rfl,q⟩:=h;obtain rfl:u=Value.ref a:=ry;obtain ⟨hd,M⟩:=M;obtain ⟨vs,rel,dd⟩:=M s.heap I.kIn;refine wpAny_in_of (kV_is rx) hd dd.mapOf ?_;rw [<- (rel.val k).isSome_eq];exact ⟨.bl _,H,I.tok _,rfl,by simpa using q⟩⟩
theorem ahJ(M:ModD X.prog X.w X.K a kvs)(ho:QE X o to)(hi:QE X i ti)(hs:NoSl i:=by exact fun _ _=>rfl):QE X (.Subscript o i pos) (amm a kvs to ti):=⟨by
 intro pins s Y H Q I h;refine zS PySem.F.slot_dict_getitem.lookup hs (A7 (ho.out pins s Y H _ I h) fun u s1 ⟨x,H1,I1,rx,q1⟩=>A7 (hi.out pins s1 Y H1 _ I1 q1) fun iv s2 ⟨y,H2,I2,ry,ex,k,v,ey,l,q2⟩=>?_);subst ex ey;obtain rfl:u=Value.ref a:=rx;obtain ⟨hd,M⟩:=M;obtain ⟨vs,rel,dd⟩:=M s2.heap I2.kIn;obtain ⟨w',hw,rw'⟩:=jK (v:=v) (o:=valueAt vs k) (by rw [<- l];exact rel.val k);exact ⟨dd.typeIs,wpAny_getItem_of (kV_is ry) dd.mapOf hw ⟨v,H2,I2.tok _,rw',q2⟩⟩⟩
end
theorem amn{k:B5} : (V.str z=kV k)=(k=Sum.inr z):=by
 cases k with
 | inl i=>exact propext ⟨fun h=>(by cases h),fun h=>(by cases h)⟩
 | inr x=>exact propext ⟨fun h=>(by cases h;rfl),fun h=>(by cases h;rfl)⟩
theorem aqD : rInM neg a kvs (.str z) (.ref b) H Q=(V.ref b=V.ref a/\Q (.bl (neg.xor (valV kvs (Sum.inr z)).isSome)) H):=by
 unfold rInM;simp only [amn,exists_eq_left]
theorem alr{to ti:TE} : amm a kvs to ti Y H Q=to Y H fun x H1=>ti Y H1 fun y H2=>x=.ref a/\∃ k v,y=kV k/\valV kvs k=some v/\Q v H2:=rfl
noncomputable def ajF (c:TT) (tb:TS) (D:Ends) (Y:St) (H:Hp):Prop:=nC c tb D Y H
theorem als : nC c tb D Y H=ajF c tb D Y H:=rfl
theorem nX(Pv:Nat->St->Hp->Prop)(m:Nat)(h0:Pv m Y H)(hs:∀ m Y H,Pv m Y H->c Y H fun b H1=>if b=true then ∃ N:St->Hp->Prop,(∀ σ' H',N σ' H'->∃ m',m'<m/\Pv m' σ' H')/\tb { D with nx:=N,ct:=N,bk:=D.nx } Y H1 else D.nx Y H1):ajF c tb D Y H:=⟨Pv,⟨m,h0⟩,hs⟩
noncomputable def rTupR (K:PySem.W.Frag) (p:Addr) (H:Hp) (Q:VK):Prop:=∃ ys,(C7 K H p ys/\∀ l,H l=none->Q (.ref l) (A0 H l (.tup ys)))\/(C4 K H p ys/\Q (.ref p) H)
theorem rTupR.l(h1:C7 K H p ys)(h:∀ l,H l=none->Q (.ref l) (A0 H l (.tup ys))):rTupR K p H Q:=⟨ys,.inl ⟨h1,h⟩⟩
theorem rTupR.t(h1:C4 K H p ys)(h:Q (.ref p) H):rTupR K p H Q:=⟨ys,.inr ⟨h1,h⟩⟩
noncomputable def rTupU (K:PySem.W.Frag):List V->Hp->VK->Prop
 | [.ref p],H,Q=>rTupR K p H Q
 | _,_,_=>False
theorem tup_r : rTupU K [.ref p] H Q=rTupR K p H Q:=rfl
theorem nY(hK:X.K=K:=by rfl):QCall X (.type "tuple") (rTupU K):=by
 subst hK;refine ⟨fun pins s Y H xs us Q I r h=>?_⟩
 match xs,h with
 | [.ref p],⟨ys,h⟩=>exact afc pins s Y H _ us Q I r ⟨p,ys,rfl,h⟩
noncomputable def rMin:List V->Hp->VK->Prop:=fun xs H Q=>∃ i j,xs=[.int i,.int j]/\Q (.int (if j<i then j else i)) H
noncomputable def rMax:List V->Hp->VK->Prop:=fun xs H Q=>∃ i j,xs=[.int i,.int j]/\Q (.int (if j > i then j else i)) H
theorem aqE{i j:Int} : rMin [.int i,.int j] H Q=Q (.int (if j<i then j else i)) H:=propext ⟨fun ⟨_,_,e,q⟩=>(by cases e;exact q),fun q=>⟨_,_,rfl,q⟩⟩
theorem aqF{i j:Int} : rMax [.int i,.int j] H Q=Q (.int (if j > i then j else i)) H:=propext ⟨fun ⟨_,_,e,q⟩=>(by cases e;exact q),fun q=>⟨_,_,rfl,q⟩⟩
noncomputable def rCalm (calm:Bool) (r:List V->Hp->VK->Prop):List V->Hp->VK->Prop:=fun xs H Q=>calm=true/\r xs H Q
theorem q_min(hc:X.calm=calm:=by rfl):QCall X (.builtin "min") (rCalm calm rMin):=⟨fun pins s Y H xs us Q I r h=>ai8 (hc.trans h.1) pins s Y H xs us Q I r h.2⟩
theorem q_max(hc:X.calm=calm:=by rfl):QCall X (.builtin "max") (rCalm calm rMax):=⟨fun pins s Y H xs us Q I r h=>ai7 (hc.trans h.1) pins s Y H xs us Q I r h.2⟩
theorem anK{r:List V->Hp->VK->Prop} : rCalm true r xs H Q=r xs H Q:=propext ⟨fun h=>h.2,fun h=>⟨rfl,h⟩⟩
end L2
set_option maxRecDepth 100000
namespace L2
open PySem PySem.Spec PyProof.Rows
open PySem.Builtin PySem.Builtin.Str PySem.StrLaws
noncomputable def tSeqM (t u:TS):TS:=fun D Y H=>∃ M:St->Hp->Prop,t { D with nx:=M } Y H/\∀ σ' H',M σ' H'->u D σ' H'
theorem dH{rest:List Stmt}{t u:TS}(h1:QS X st t)(h2:QSs X rest u):QSs X (st::rest) (tSeqM t u):=⟨by
 intro pins s Y H D I h;obtain ⟨M,h,hm⟩:=h;refine wpAny_execs_cons (A7 (h1.out pins s Y H { D with nx:=M } I h) fun f s1 q=>?_)
 cases f with
 | next=>
  obtain ⟨σ',H',I',q⟩:=q;exact h2.out pins s1 σ' H' D I' (hm _ _ q)
 | ret v=>exact q
 | brk=>exact q
 | cont=>exact q⟩
theorem sU{t u:TS}(M:St->Hp->Prop)(h:t { D with nx:=M } Y H)(h2:∀ σ' H',M σ' H'->u D σ' H'):tSeqM t u D Y H:=⟨M,h,h2⟩
theorem sV(h:H p=some (.lst xs)):TruV K (.ref p) H (!xs.isEmpty):=.inl ⟨xs,.of h,rfl⟩
theorem dI(xs:List V)(k:Nat):cutV xs (some (k:Int)) none=xs.drop k:=by
 unfold cutV;have e1:HT.sIx xs.length 0 (some (k:Int))=min k xs.length:=by unfold HT.sIx;simp;lia
 have e2:HT.sIx xs.length xs.length none=xs.length:=rfl;rw [e1,e2,X3 (by rw [j8];exact B3 _)]
 by_cases h:k<=xs.length
 .rw [cQ h]
 .rw [Nat.min_eq_right (by lia),iU (B3 _),iU (by lia)]
theorem nZ(xs:List V)(k:Nat):cutV xs none (some (k:Int))=xs.take k:=by
 unfold cutV;have e1:HT.sIx xs.length xs.length (some (k:Int))=min k xs.length:=by unfold HT.sIx;simp;lia
 have e2:HT.sIx xs.length 0 none=0:=rfl;rw [e1,e2,List.drop_zero,Nat.sub_zero]
 by_cases h:k<=xs.length
 .rw [cQ h]
 .rw [Nat.min_eq_right (by lia),X3 (B3 _),X3 (by lia)]
theorem af1(x:V)(xs:List V):cutV (x::xs) (some 1) none=xs:=dI (x::xs) 1
theorem W0{α:Type}(x:α)(xs:List α):G0 (x::xs) 0=some x:=by
 have e:X7 (x::xs).length 0=some 0:=by unfold X7;rw [if_pos (Int.le_refl 0),if_pos (by rw [G6];lia)];rfl
 unfold G0;rw [e];rfl
theorem alt{o f:Expr}(hu:X.A.units+1<cLine)(ho:QE X o td)(he:QE X e ty)(hf:QE X f tx)(h1:J9 e=false:=by rfl)(h2:J9 f=false:=by rfl)(D9:attributeBase o "get" X.env (eval o X.env)=eval o X.env:=by rfl)(E6:(apos.endLine==cpos.line)=true:=by rfl):QE X (.Call (.Attribute o "get" apos) [e,f] [] cpos) (sF td ty tx):=
 ⟨ak2 hu ho.out he.out hf.out ⟨D9,by rw [N2 h1,N2 h2];rfl,E6,by rw [N2 h1,N2 h2];rfl⟩⟩
theorem anL{trs:List (TE×TE)} : tDisp trs Y H Q=∀ p,H p=none->fT trs Y (A0 H p (.dK [])) fun ps H2=>H2 p=some (.dK [])/\∃ kvs:List (B5×V),ps=kvs.map (fun kv=>(kV kv.1,kv.2))/\kvs.length<=15/\Q (.ref p) (A0 H2 p (.dK (V7 [] kvs))):=rfl
theorem anM{Q:List (V×V)->Hp->Prop} : fT [] Y H Q=Q [] H:=rfl
theorem alu{tk tv:TE}{r:List (TE×TE)}{Q:List (V×V)->Hp->Prop} : fT ((tk,tv)::r) Y H Q=tk Y H fun x H1=>tv Y H1 fun y H2=>fT r Y H2 fun ps H3=>Q ((x,y)::ps) H3:=rfl
theorem alv : sF td ty tx Y H Q=td Y H fun x H1=>∃ a,x=.ref a/\dB H1 a/\ty Y H1 fun y H2=>tx Y H2 fun z H3=>∃ o,DGet H3 a y o/\Q (o.getD z) H3:=rfl
theorem sW:∀ {zs:List Str} {us:List Value},Vals (zs.map V.str) us->StrsAre us zs
 | [],_,.nil=>.nil
 | z::zs,_::_,.cons ⟨t,h⟩ r=>by subst h;exact .cons _ _ (sW r)
noncomputable def rJoin (K:PySem.W.Frag):V->List V->Hp->VK->Prop:=fun x vs H Q=>∃ (z:Str) (b:Addr) (zs:List Str),x=.str z/\vs=[.ref b]/\(C7 K H b (zs.map V.str)\/C4 K H b (zs.map V.str))/\z.length<=16/\(zs.map (·.length)).sum+zs.length<=1048576/\Q (.str (Str.join z zs)) H
theorem aqG(hK:X.K=K:=by rfl):QMt X "str.join" (rJoin K):=⟨by
 subst hK;intro pins s Y H x vs v us Q I rx rv h;obtain ⟨z,b,zs,rfl,rfl,hb,h1,h2,q⟩:=h;obtain ⟨t,rfl⟩:=rx;obtain ⟨u,rfl,ru⟩:=vals1 rv
 cases ru
 have e:Txt.join z zs=Str.join z zs:=glued_eq_join z zs
 rcases hb with hb | hb
 .obtain ⟨its,r',pl,hz⟩:=I.list hb;exact join_listW pl.isList (by simpa using sW r') h1 h2 fun t' k=>⟨.str (Str.join z zs),H,I.tok k,⟨t',by rw [e]⟩,q⟩
 .obtain ⟨its,r',pl,hz⟩:=I.tuple hb;exact join_tupleW pl (by simpa using sW r') h1 h2 fun t' k=>⟨.str (Str.join z zs),H,I.tok k,⟨t',by rw [e]⟩,q⟩⟩
end L2
set_option maxRecDepth 100000
namespace L2
open PySem PySem.Spec PyProof.Rows
theorem acD:entryFor table "dict.update.loop"=some Builtin.«dict.update.loop»:=entryFor_of_tree (by kernel_rfl)
theorem oA:plainId "dict.update.loop"=true:=by decide +kernel
section
variable {prog:Program} {w:World} {A:Around} {R:Result->Shared->Prop} {I:Addr} {fp wr:List Addr} {G:Array GenState->Array GenState->Prop} {n:Nat} {P:Nat->Value->Prop} {St:Nat->Shared->Prop}
variable {K:Type} [DecidableEq K] {knd:KeyKind prog w K}
noncomputable def m4 (ks:Nat->K) (vl:Nat->Value):Nat->List (K×Value)
 | 0=>[]
 | i+1=>stored (m4 ks vl i) (ks i) (vl i)
theorem ad8(ks:Nat->K)(vl:Nat->Value):∀ i,(m4 ks vl i).length<=i
 | 0=>B3 _
 | i+1=>by
  have h1:=ad8 ks vl i;have h2:(stored (m4 ks vl i) (ks i) (vl i)).length<=(m4 ks vl i).length+1:=by
   unfold stored
   split
   .rw [A2];lia
   .rw [D1];exact B3 _
  show (stored (m4 ks vl i) (ks i) (vl i)).length<=i+1;lia
theorem ajG(W:WalksS prog w A.in1 I fp wr G n P St)(d:Addr)(v7:d∉fp)(tp:Nat->Addr)(ky vl:Nat->Value)(ks:Nat->K)(hP:∀ i v,P i v->v=.ref (tp i))(hk:∀ i,i<n->knd.is (ks i) (ky i)=true)(ht:∀ i,i<n->tp i≠d/\tp i∉wr)(hn:n<=sizeLine) :
  ∀ (k i:Nat) (s:Shared) (j:Int) (t:Tok),n-i=k->i<=n->St i s->(∀ i,i<n->IsTup s.heap (tp i) #[ky i,vl i])->s.heap.DictOf knd d (m4 ks vl i)->
   (∀ s',Moved (d::wr) G s s'->s'.heap.DictOf knd d (m4 ks vl n)->R (.ok (.ret .none)) s')->
   codeAny (model prog w) A (.builtin "dict.update.loop" ⟨[.ref d,.ref I,.int j t,.none],[]⟩) R s:=by
 have hdw:d∉wr:=fun h=>v7 (W.sub _ h)
 have lN:∀ b∈wr,b∈d::wr:=fun b hb=>N0 _ hb
 intro k
 induction k with
 | zero=>
  intro i s j t wM hi R1 hT hD hR;have J8:i=n:=by lia
  subst J8;refine codeAny_builtin acD ?_;rw [Around.under_plainId oA _];show wpAny _ A.in1 (pyNext (.ref I) >>= _) _ _ s;refine wpAny_bind (W.done s _ _ R1 fun s' hm=>?_);have e0:Builtin.Dict.addKeywords d []=pure ():=rfl;show wpAny _ A.in1 (Builtin.Dict.addKeywords d [] >>= fun _=>ret Value.none) _ _ s';rw [e0];refine wpAny_bind (wpAny_pure (wpAny_pure (hR s' (hm.mono lN) ?_)));obtain ⟨o,es,ep,ho,rest⟩:=hD;exact ⟨o,es,ep,hm.heap d _ hdw ho,rest⟩
 | succ k ih=>
  intro i s j t wM hi R1 hT hD hR;have C3:i<n:=by lia
  refine codeAny_builtin acD ?_;rw [Around.under_plainId oA _];show wpAny _ A.in1 (pyNext (.ref I) >>= _) _ _ s;refine wpAny_bind (W.item i s _ _ C3 R1 fun v s' hv wN hm=>?_);obtain rfl:=hP i v hv;have hD':s'.heap.DictOf knd d (m4 ks vl i):=by
   obtain ⟨o,es,ep,ho,rest⟩:=hD;exact ⟨o,es,ep,hm.heap d _ hdw ho,rest⟩
  have hT':∀ i,i<n->IsTup s'.heap (tp i) #[ky i,vl i]:=fun i hi=>by
   obtain ⟨o,ho,rest⟩:=hT i hi;exact ⟨o,hm.heap _ _ (ht i hi).2 ho,rest⟩
  have hTi:=hT' i C3;obtain ⟨o,ho,wB,n0,iB⟩:=id hTi;refine wpAny_bind (wpAny_holding (wpAny_bind (wpAny_tryCatch ?_)));unfold Builtin.Dict.pairItems;refine wpAny_bind (wpAny_typeOf hTi.typeIs ?_);rw [if_pos (by decide)];refine wpAny_bind (wpAny_seqItems ho iB ?_);refine wpAny_pure ?_;show wpAny _ _ (holding [ky i,vl i] (dictSet d (ky i) (vl i))) _ _ s';have hl:=ad8 ks vl i;refine wpAny_holding (wpAny_dictSet_pairs (hk i C3) hD' (fun h' hD2 wO=>?_) (by lia));refine wpAny_pure ⟨plainId_quiet oA _,ih (i+1) _ (j+1) 0 (by lia) C3 (W.frame _ s' _ _ wN (Nat.le_succ _) fun b hb o e=>?_) (fun i hi=>?_) hD2 fun s'' hm'' hD''=>?_⟩
  .rw [wO.2 b (fun h:b=d=>v7 (by rw [<- h];exact hb))];exact e
  .obtain ⟨o,ho,rest⟩:=hT' i hi;exact ⟨o,(wO.2 _ (ht i hi).1).trans ho,rest⟩
  .refine hR s'' (Moved.trans W.gtrans ((hm.mono lN).then_heap (Nat.le_succ _) fun b o hb e=>?_) hm'') hD'';rw [wO.2 b (fun h:b=d=>hb (by rw [h];exact O2))];exact e
end
theorem aip:typeLookup (.type "list") "__getattribute__"=pure (some (.builtin "list.__getattribute__")):=by rw [typeLookup_type,builtinLookup_eq_fast];kernel_rfl
theorem af2:typeLookup (.type "list") "keys"=pure none:=by rw [typeLookup_type,builtinLookup_eq_fast];kernel_rfl
theorem af3:typeLookup (.type "list") "__getattr__"=pure none:=by rw [typeLookup_type,builtinLookup_eq_fast];kernel_rfl
theorem af4{w:World}{l:Addr}{xs:Array Value}{Q:Option Value->Shared->Prop}(hx:s.heap.get? l=some o)(hc:o.cls=.type "list")(lO:o.data=.seq xs k)(hd:o.dict=none)(hA:A.handled=none)(h:∀ h' tk,(∀ b o,s.heap.get? b=some o->h'.get? b=some o)->Q none { s with heap:=h',toks:=tk }):wpAny (model prog w) A (getAttr? (.ref l) "keys") Q E s:=by
 obtain ⟨c,dct,dat,sl⟩:=o;simp only at hc lO hd;subst hc lO hd;obtain ⟨hp,g,d,tk,os⟩:=s;have hT:∀ tk',(⟨hp,g,d,tk',os⟩:Shared).TypeIs (.ref l) "list":=fun _=>⟨_,hx,rfl⟩
 have f4:=F.slot_list_getattribute.bind (.ref l);unfold getAttr? getAttrBy? getAttrBy;refine wpAny_bind (wpAny_mkText (wpAny_bind (wpAny_attempt (wpAny_holding (wpAny_bind (wpAny_typeOf (hT _) ?_))))));rw [aip];refine wpAny_bind (wpAny_pure ?_);show wpAny _ _ (getAttrByItsOwn _ _ _ _ _ _) _ _ _;unfold getAttrByItsOwn;refine wpAny_bind (wpAny_pure ?_);refine wpAny_bind (wpAny_attempt (wpAny_holding ?_));show wpAny _ _ (boundAndCalled _ _ _) _ _ _;unfold boundAndCalled;rw [f4];refine wpAny_bind (wpAny_pure ?_);refine call_meets F.slot_list_getattribute (hT _) am_entry_list_getattribute (F.args_list_getattribute_2 _ _) (meets_getattribute_miss_list l xs k sl "keys" _ af2 (by decide +kernel) (by decide +kernel)) ⟨hx,hA,fun h' tk' e new=>?_⟩;obtain ⟨t',u',he⟩:=new.there;have hTe:∀ tk',(⟨h',g,d,tk',os⟩:Shared).TypeIs (.ref e) "AttributeError":=fun _=>⟨_,he,rfl⟩
 show wpAny _ _ (getattributeRaised _ _ _ _ _ _ _) _ _ _;unfold getattributeRaised;refine wpAny_bind (wpAny_isInstance (hTe _) sub_AttributeError ?_);rw [if_pos rfl];show wpAny _ _ (hookBehind _ _ >>= _) _ _ _;unfold hookBehind;rw [if_neg (by decide),af3];refine wpAny_bind (wpAny_pure ?_);unfold hookOrError attributeErrorLeaves;show wpAny _ _ (if (!false)=true then _ else _) _ _ _;rw [if_pos (by decide)];refine wpAny_bind (wpAny_throw ?_);show wpAny _ _ (isInstance _ _ >>= _) _ _ _;refine wpAny_bind (wpAny_isInstance (hTe _) sub_AttributeError ?_);rw [if_pos rfl];exact wpAny_pure (h h' tk' new.keeps)
section
variable {prog:Program} {w:World} {A:Around} {E:Value->Shared->Prop} {s:Shared} {K:Type} [DecidableEq K] {knd:KeyKind prog w K}
theorem ad9{l:Addr}{Q:Value->Shared->Prop}(hl:PlainL s.heap l items)(hA:A.handled=none)(tp:Nat->Addr)(ky vl:Nat->Value)(ks:Nat->K)(hP:∀ (i:Nat) (v:Value),items[i]?=some v->v=Value.ref (tp i))(hk:∀ i,i<items.size->knd.is (ks i) (ky i)=true)(hT:∀ i,i<items.size->IsTup s.heap (tp i) #[ky i,vl i])(hn:items.size<=sizeLine)(h:∀ h' tk,(∀ b o,s.heap.get? b=some o->h'.get? b=some o)->h'.DictOf knd s.heap.objs.size (m4 ks vl items.size)->Q (.ref s.heap.objs.size) { s with heap:=h',toks:=tk }) :
  wpAny (model prog w) A (call (.type "dict") [.ref l]) Q E s:=by
 refine callType_codes (Q₁:=fun obj zu=>obj=.ref s.heap.objs.size/\zu={ s with heap:=s.heap.push { cls:=.type "dict",data:=.dict #[] } }) F.kt_called_dict (F.kt_typeCall_dict_1 _) F.entry_dict_init (kt_code_dict_new _ ⟨rfl,rfl⟩) ?_;rintro obj zu ⟨rfl,rfl⟩;have R4:(s.heap.push { cls:=.type "dict",data:=.dict #[] }).DictOf knd s.heap.objs.size []:=Heap.DictOf.new s.heap;obtain ⟨ol,nl,hol,wP,hld,bY⟩:=hl;have eN:(s.heap.push { cls:=.type "dict",data:=.dict #[] }).get? l=some ol:=Heap.get?_push_of_some _ hol;have C3:l<s.heap.objs.size:=Heap.lt_size hol;refine ⟨R4.typeIs,F.args_dict_init_2 _ _,?_⟩;unfold Builtin.«dict.__init__»;refine wpAny_bind ?_;unfold Builtin.Dict.selfAndRest;refine wpAny_bind (wpAny_notOrdered_dict R4.typeIs ?_);show wpAny _ _ (pure (s.heap.objs.size,[Value.ref l])) _ _ _;refine wpAny_pure ?_;show wpAny _ _ (Builtin.Dict.updateFrom "dict.__init__" s.heap.objs.size (.ref l) [] .none) _ _ _;unfold Builtin.Dict.updateFrom;refine wpAny_bind (wpAny_typeOf (T:="list") ⟨_,eN,wP⟩ ?_);rw [if_pos (by decide)];refine wpAny_bind (af4 eN wP bY hld (by simp [hA]) fun h2 tk2 keep2=>?_);rw [if_pos (show (none:Option Value).isNone=true from rfl)];refine wpAny_bind (wpAny_rule ?_);have v6:h2.IsList l items:=⟨ol,keep2 _ _ eN,wP,nl,bY⟩
 refine wpAny_bind (wpAny_pyIter_list v6 ?_);obtain ⟨od,es,ep,iB,restd⟩:=R4;have aE:s.heap.objs.size<h2.objs.size:=Heap.lt_size (keep2 _ _ iB);have M7:l≠h2.objs.size:=M0 (Nat.lt_trans C3 aE);have hh:A.in1.in1.handled=none:=by simp [hA]
 have v7:s.heap.objs.size∉[h2.objs.size,l]:=by
  simp only [E7,fG,or_false,not_or];exact ⟨M0 aE,x0 C3⟩
 have eO:∀ i,i<items.size->tp i<s.heap.objs.size:=fun i hi=>by
  obtain ⟨o,ho,_⟩:=hT i hi;exact Heap.lt_size ho
 refine wpAny_pure ⟨plainId_quiet oA _,ajG ((Walks.list hh _ l M7 items).toS) s.heap.objs.size v7 tp ky vl ks hP hk (fun i hi=>⟨M0 (eO i hi),?_⟩) hn (items.size-0) 0 _ 0 0 (by lia) (G2 _) ⟨⟨_,Heap.get?_push_size _ rfl,rfl,rfl⟩,v6.push _⟩ (fun i hi=>?_) ?_ fun s' hm hD'=>?_⟩
 .simp only [E7,fG,or_false];exact M0 (Nat.lt_trans (eO i hi) aE)
 .obtain ⟨o,ho,rest⟩:=hT i hi;exact ⟨o,Heap.get?_push_of_some _ (keep2 _ _ (Heap.get?_push_of_some _ ho)),rest⟩
 .exact ⟨od,es,ep,Heap.get?_push_of_some _ (keep2 _ _ iB),restd⟩
 .obtain ⟨h',g',d',tk',os'⟩:=s';have eg:g'=s.gens:=hm.gens;have ed:d'=s.drawn:=hm.drawn;have eo:os'=s.os:=hm.os;subst eg ed eo;refine ⟨rfl,h h' tk' (fun b o hb=>hm.heap b o ?_ (Heap.get?_push_of_some _ (keep2 _ _ (Heap.get?_push_of_some _ hb)))) hD'⟩;have lP:b<s.heap.objs.size:=Heap.lt_size hb;simp only [E7,fG,or_false,not_or];exact ⟨M0 lP,M0 (Nat.lt_trans lP aE)⟩
end
noncomputable def aqH (K:PySem.W.Frag) (calm:Bool):List V->Hp->VK->Prop:=fun xs H Q=>calm=true/\∃ (p:Addr) (ts:List Addr) (kxs:List (B5×V)),xs=[.ref p]/\C7 K H p (ts.map V.ref)/\Paired (fun t kx=>C4 K H t [kV kx.1,kx.2]) ts kxs/\∀ d,H d=none->Q (.ref d) (A0 H d (.dK (V7 [] kxs)))
theorem ahL(I:Inv X pins Y H s):∀ {ts:List Addr} {kxs:List (B5×V)},Paired (fun t kx=>C4 X.K H t [kV kx.1,kx.2]) ts kxs->
  ∃ ws:List (Value×Value),Paired (fun t w=>IsTup s.heap t #[w.1,w.2]) ts ws/\Paired (fun (kx:B5×V) (w:Value×Value)=>keyIs kx.1 w.1=true/\RelV kx.2 w.2) kxs ws
 | _,_,.nil=>⟨[],.nil,.nil⟩
 | _,_,.cons h t=>by
  obtain ⟨ws,h1,h2⟩:=ahL I t;obtain ⟨its,r,ht,_⟩:=I.tuple h;obtain ⟨u1,u2,rfl,r1,r2⟩:=vals2 r;exact ⟨(u1,u2)::ws,.cons ht h1,.cons ⟨kV_is (P:=X.prog) (w:=X.w) r1,r2⟩ h2⟩
theorem ajH:∀ {ts:List Addr} {us:List Value},Vals (ts.map V.ref) us->us=ts.map Value.ref
 | [],_,.nil=>rfl
 | t::ts,_::_,.cons h r=>by
  rw [F7,<- ajH r];cases h;rfl
theorem ajI(hK:X.K=K:=by rfl)(hc:X.calm=calm:=by rfl):QCall X (.type "dict") (aqH K calm):=⟨by
 subst hK;intro pins s Y H xs us Q I r h;obtain ⟨lM,p,ts,kxs,rfl,hp,hP,q⟩:=h;obtain ⟨u,rfl,rx⟩:=vals1 r
 cases rx
 obtain ⟨its,r',pl,hz⟩:=I.list hp;have lQ:=ajH r';obtain ⟨ws,h1,h2⟩:=ahL I hP;have iC:ts.length=ws.length:=Paired.length h1;have v6:kxs.length=ws.length:=Paired.length h2;rw [A2] at hz;have hsz:its.toArray.size=ts.length:=by rw [K3,lQ,A2]
 have wQ:∀ i,i<=ts.length->KV (V7 [] (kxs.take i)) (m4 (fun i=>(kxs.getD i (Sum.inl 0,.non)).1) (fun i=>(ws.getD i (.none,.none)).2) i):=by
  intro i
  induction i with
  | zero=>intro _;exact .nil
  | succ i ih=>
   intro hi;have aF:i<kxs.length:=by lia
   obtain ⟨w',hw,hr⟩:=Paired.at h2 (K2 aF);have e1:V7 [] (kxs.take (i+1))=putK (V7 [] (kxs.take i)) kxs[i].1 kxs[i].2:=by
    unfold V7;rw [j7,K2 aF,Option.toList_some,p4];rfl
   rw [e1];show KV _ (stored _ (kxs.getD i (Sum.inl 0,.non)).1 (ws.getD i (.none,.none)).2);have e2:(kxs.getD i (Sum.inl 0,.non))=kxs[i]:=by rw [aQ,K2 aF];rfl
   have e3:(ws.getD i (.none,.none))=w':=by rw [aQ,hw];rfl
   rw [e2,e3];exact (ih (by lia)).put _ hr.2
 refine ad9 (knd:=N9 X.prog X.w) pl (I.ok.hd (hc.trans lM)) (fun i=>ts.getD i 0) (fun i=>(ws.getD i (.none,.none)).1) (fun i=>(ws.getD i (.none,.none)).2) (fun i=>(kxs.getD i (Sum.inl 0,.non)).1) (fun i v hv=>?_) (fun i hi=>?_) (fun i hi=>?_) (by lia) fun h' tk keep hD=>?_
 .rw [<- Array.getElem?_toList,lQ,P6] at hv;rw [aQ];cases e:ts[i]? with
  | none=>rw [e] at hv;cases hv
  | some t=>rw [e] at hv;cases hv;rfl
 .obtain ⟨w',hw,hr⟩:=Paired.at h2 (K2 (show i<kxs.length by lia));have e2:(kxs.getD i (Sum.inl 0,.non))=kxs[i]'(by lia):=by rw [aQ,K2 (show i<kxs.length by lia)];rfl
  have e3:(ws.getD i (.none,.none))=w':=by rw [aQ,hw];rfl
  rw [e2,e3];exact hr.1
 .have hi':i<ts.length:=by lia
  obtain ⟨w',hw,hr⟩:=Paired.at h1 (K2 hi');have e3:(ws.getD i (.none,.none))=w':=by rw [aQ,hw];rfl
  have e4:ts.getD i 0=ts[i]:=by rw [aQ,K2 hi'];rfl
  rw [e3,e4];exact hr
 .have hD2:KV (V7 [] kxs) (m4 (fun i=>(kxs.getD i (Sum.inl 0,.non)).1) (fun i=>(ws.getD i (.none,.none)).2) its.toArray.size):=by
   have:=wQ ts.length (B3 _)
   rw [X3 (by lia)] at this;rw [hsz];exact this
  have A6:=zT kxs [];rw [Z1] at A6;exact ⟨.ref s.heap.objs.size,_,I.laid (t':=tk) keep (B3 _) (sB (by lia) (beq_eq_false_iff_ne.mpr (Ne.symm (M0 I.big))) hD2 hD),rfl,q _ (I.hok.fresh (B3 _))⟩⟩
end L2
set_option maxRecDepth 100000
namespace L2
open PySem PySem.Spec PyProof.Rows
section
variable {X:Cx} {pins:List (Addr×Obj)} {Y:St} {H:Hp} {s:Shared} {h':Heap}
theorem Inv.turnNew{ch:List Addr}{o:HO}(I:Inv X pins Y H s)(hf:∀ b∈ch,FpOk X pins H b)(k:∀ b u,b∉ch->s.heap.get? b=some u->h'.get? b=some u)(hT:s.heap.objs.size<=T)(new:ObjOk X.prog X.w (A0 H T o) h' T o):Inv X pins Y (A0 H T o) { s with heap:=h',toks:=t' }:=by
 have hn:H T=none:=I.hok.fresh hT;have nch:∀ b u,H b=some u->b∉ch:=fun b u e z=>by rw [(hf b z).1] at e;cases e
 have neT:∀ b u,s.heap.get? b=some u->b≠T:=fun b u e=>M0 (P7 (Heap.lt_size e) hT)
 refine I.step (g':=s.gens) (d':=s.drawn) (ch:=ch) (fun b hb=>?_) (fun b u _ _ hc e _=>k b u hc e) (fun b u _ _ hc e _=>⟨u.slots,k b u hc e⟩) (fun b u _ e n=>by rw [A4 (neT b u e)];exact n)
  (fun b u hc e=>⟨u,k b u hc e⟩) (fun b xs e=>D6 e hn) (fun b ob u e=>D6 e hn) (fun b ps e=>⟨#[],by rw [D6 e hn];simp⟩) (fun m hm=>?_) (fun b u e=>?_) I.bare
 .obtain ⟨f0,f1,f2,f3,f4,f5⟩:=hf b hb;exact ⟨f3,f1,f4,f5⟩
 .obtain ⟨ob,es,ep,ho,r⟩:=hm;exact ⟨ob,es,ep,k _ ob (fun z=>(hf _ z).2.1 rfl) ho,r⟩
 .by_cases hb:b=T
  .subst hb;rw [A3] at e;cases e;exact new
  .rw [A4 hb] at e;refine (I.hok b u e).stay (fun c v hc q=>k c v ?_ q) (fun c q=>D6 q hn) fun c xs q=>D6 q hn
   rcases hc with z | z
   .rw [z];exact nch b u e
   .exact nch c _ z
end
theorem i7{a b:Nat}(h:a<b\/b<a):(show Addr from a)≠(show Addr from b):=fun e=>by
 have e:a=b:=e;lia
noncomputable def oB (l1 l2 : Addr) : It :=
  ⟨fun i H => ∃ xs ys x y, H l1 = some (.lst xs) /\ H l2 = some (.lst ys) /\ xs[i]? = some x /\ ys[i]? = some y,
   fun i H v H' => ∃ t xs ys x y, H l1 = some (.lst xs) /\ H l2 = some (.lst ys) /\ xs[i]? = some x /\ ys[i]? = some y /\ H t = none /\ v = .ref t /\ H' = A0 H t (.tup [x, y]),
   fun i H => ∃ xs ys, H l1 = some (.lst xs) /\ H l2 = some (.lst ys) /\ (xs.length <= i \/ ys.length <= i)⟩
theorem alw{P:Program}{w:World}{pos:Pos}(z TI TO i1 i2 l1 l2:Addr)(a1:TI≠z)(a2:TO≠z)(a3:i1≠z)(a4:i2≠z)(a5:TI≠TO)(a6:TI≠i1)(a7:TI≠i2)(a8:TO≠i1)(a9:TO≠i2)(a10:i1≠i2) :
  Turn P w K (.Tuple elts x1 pos) (oB l1 l2) [z,TO,i1,i2,TI] z (fun i h=>IsZip h z TI TO .none/\IsPair h TI (.ref i1) (.ref i2)/\(∃ a b,IsPair h TO a b)/\h.IsListIter i1 l1 i/\h.IsListIter i2 l2 i) where
 mem:=by simp
 obj:=fun i h ⟨hz,hTI,⟨a,b,hTO⟩,h1,h2⟩ c hc=>by
  have e:c=z\/c=TO\/c=i1\/c=i2\/c=TI:=by simpa using hc
  rcases e with rfl | rfl | rfl | rfl | rfl
  .exact ⟨_,hz,fun v q=>by cases q⟩
  .exact ⟨_,hTO,fun v q=>by cases q⟩
  .obtain ⟨o,e,c,d⟩:=h1;exact ⟨o,e,fun v z=>by rw [d] at z;cases z⟩
  .obtain ⟨o,e,c,d⟩:=h2;exact ⟨o,e,fun v z=>by rw [d] at z;cases z⟩
  .exact ⟨_,hTI,fun v q=>by cases q⟩
 keep:=fun i h h' ⟨hz,hTI,⟨a,b,hTO⟩,h1,h2⟩ k=>⟨k z (by simp) _ hz,k TI (by simp) _ hTI,⟨a,b,k TO (by simp) _ hTO⟩,h1.at fun o e=>k i1 (by simp) o e,h2.at fun o e=>k i2 (by simp) o e⟩
 item:=by
  intro X hP hw hK hc i pins s Y H E I hf ⟨hz,hTI,⟨a,b,hTO⟩,h1,h2⟩ hg;subst hP hw hK;obtain ⟨xs,ys,x,y,e1,e2,hx,hy⟩:=hg;obtain ⟨its1,Y3,p1,_⟩:=I.list (C7.of (K:=X.K) e1);obtain ⟨its2,qB,p2,_⟩:=I.list (C7.of (K:=X.K) e2);obtain ⟨u1,C5,r1⟩:=Y3.get hx;obtain ⟨u2,iD,r2⟩:=qB.get hy;have nl:∀ c∈[z,TO,i1,i2,TI],l1≠c/\l2≠c:=fun c hc=>⟨fun q=>(by rw [q,(hf c hc).1] at e1;cases e1),fun q=>(by rw [q,(hf c hc).1] at e2;cases e2)⟩
  have D:ZipApart z TI TO i1 i2 l1 l2:=⟨a1,a2,a3,a4,a5,a6,a7,a8,a9,a10,(nl z (by simp)).1,(nl TO (by simp)).1,(nl i1 (by simp)).1,(nl i2 (by simp)).1,(nl z (by simp)).2,(nl TO (by simp)).2,(nl i1 (by simp)).2,(nl i2 (by simp)).2⟩
  refine wpAny_pyNext_zip_item D hz hTI hTO h1 h2 p1.isList p2.isList (x:=u1) (y:=u2) (by simpa using C5) (by simpa using iD) fun h' b1 b2 b3 b4 b5 b6 b7=>⟨_,rfl,wpAny_letOwnedTupleGo_zip b1 fun h2' c1 c2=>?_⟩
  have O9:z<s.heap.objs.size:=Heap.lt_size hz;have up:∀ c o,c≠z->h'.get? c=some o->h2'.get? c=some o:=fun c o hc e=>(c2.2 c hc).trans e
  have nT:∀ c∈[z,TO,i1,i2,TI],c≠s.heap.objs.size:=fun c hc=>by
   have e:c=z\/c=TO\/c=i1\/c=i2\/c=TI:=by simpa using hc
   refine M0 ?_
   rcases e with rfl | rfl | rfl | rfl | rfl
   .exact Heap.lt_size hz
   .exact Heap.lt_size hTO
   .obtain ⟨o,e,_⟩:=h1;exact Heap.lt_size e
   .obtain ⟨o,e,_⟩:=h2;exact Heap.lt_size e
   .exact Heap.lt_size hTI
  have hT:=up _ _ (x0 O9) b5;refine ⟨.ref s.heap.objs.size,A0 H s.heap.objs.size (.tup [x,y]),I.turnNew (t':=s.toks) (ch:=[z,TO,i1,i2,TI]) hf (fun c u hc e=>?_) (B3 _) ⟨by show 2<=sizeLine;decide,[u1,u2],.cons r1 (.cons r2 .nil),?_⟩,rfl,⟨_,xs,ys,x,y,e1,e2,hx,hy,I.fresh,rfl,rfl⟩,
   ⟨c1,up _ _ a1 (b7 _ _ a1 a5 a6 a7 hTI),⟨_,_,up _ _ a2 b2⟩,b3.at fun o e=>up _ o a3 e,b4.at fun o e=>up _ o a4 e⟩,fun c hc=>by rw [A4 (nT c hc)];exact (hf c hc).1⟩
  .have q:c≠z/\c≠TO/\c≠i1/\c≠i2:=by
    refine ⟨fun q=>hc (by simp [q]),fun q=>hc (by simp [q]),fun q=>hc (by simp [q]),fun q=>hc (by simp [q])⟩
   exact up c u q.1 (b7 c u q.1 q.2.1 q.2.2.1 q.2.2.2 e)
  .exact ⟨_,hT,rfl,_,rfl⟩
 done:=by
  intro X hP hw hK hc i pins s Y H E I hf ⟨hz,hTI,⟨a,b,hTO⟩,h1,h2⟩ hg;subst hP hw hK;obtain ⟨xs,ys,e1,e2,eP⟩:=hg;obtain ⟨its1,Y3,p1,_⟩:=I.list (C7.of (K:=X.K) e1);obtain ⟨its2,qB,p2,_⟩:=I.list (C7.of (K:=X.K) e2);have q1:=Y3.length;have q2:=qB.length;have nl:∀ c∈[z,TO,i1,i2,TI],l1≠c/\l2≠c:=fun c hc=>⟨fun q=>(by rw [q,(hf c hc).1] at e1;cases e1),fun q=>(by rw [q,(hf c hc).1] at e2;cases e2)⟩
  have D:ZipApart z TI TO i1 i2 l1 l2:=⟨a1,a2,a3,a4,a5,a6,a7,a8,a9,a10,(nl z (by simp)).1,(nl TO (by simp)).1,(nl i1 (by simp)).1,(nl i2 (by simp)).1,(nl z (by simp)).2,(nl TO (by simp)).2,(nl i1 (by simp)).2,(nl i2 (by simp)).2⟩
  refine wpAny_pyNext_zip_end (I.ok.hd hc) D hz hTI hTO h1 h2 p1.isList p2.isList (by rcases eP with q | q <;> simp <;> lia) fun h' k=>⟨rfl,?_⟩
  refine I.step (h':=h') (t':=s.toks) (g':=s.gens) (d':=s.drawn) (ch:=[z,TO,i1,i2,TI]) (fun b hb=>?_) (fun b u _ _ hc e _=>?_) (fun b u _ _ hc e _=>⟨u.slots,?_⟩) (fun b u _ e n=>n)
   (fun b u hc e=>⟨u,?_⟩) (fun b xs e=>e) (fun b ob u e=>e) (fun b ps e=>⟨#[],by rw [e];simp⟩) (fun m hm=>?_) (fun b u e=>?_) I.bare
  .obtain ⟨f0,f1,f2,f3,f4,f5⟩:=hf b hb;exact ⟨f3,f1,f4,f5⟩
  .exact k b u (fun q=>hc (by simp [q])) (fun q=>hc (by simp [q])) (fun q=>hc (by simp [q])) (fun q=>hc (by simp [q])) e
  .exact k b u (fun q=>hc (by simp [q])) (fun q=>hc (by simp [q])) (fun q=>hc (by simp [q])) (fun q=>hc (by simp [q])) e
  .exact k b u (fun q=>hc (by simp [q])) (fun q=>hc (by simp [q])) (fun q=>hc (by simp [q])) (fun q=>hc (by simp [q])) e
  .obtain ⟨ob,es,ep,ho,r⟩:=hm;have nL:∀ c∈[z,TO,i1,i2,TI],X.env.locals≠c:=fun c hc q=>(hf c hc).2.1 q.symm
   exact ⟨ob,es,ep,k _ ob (nL z (by simp)) (nL TO (by simp)) (nL i1 (by simp)) (nL i2 (by simp)) ho,r⟩
  .have nch:∀ b u,H b=some u->∀ c∈[z,TO,i1,i2,TI],b≠c:=fun b u e c hc q=>by rw [q,(hf c hc).1] at e;cases e
   refine (I.hok b u e).stay (fun c v hc q=>?_) (fun c q=>q) fun c xs q=>q
   have:∀ d∈[z,TO,i1,i2,TI],c≠d:=by
    rcases hc with z | z
    .rw [z];exact nch b u e
    .exact nch c _ z
   exact k c v (this z (by simp)) (this TO (by simp)) (this i1 (by simp)) (this i2 (by simp)) q
 self:=fun _ _ _ _ _ st h=>wpAny_pyIter_zip st.1 h
section
variable {X:Cx}
noncomputable def iZip (ta:TA):TI:=fun Y H R=>ta Y H fun vs H1=>∃ (l1 l2:Addr) (xs ys:List V),vs=[.ref l1,.ref l2]/\H1 l1=some (.lst xs)/\H1 l2=some (.lst ys)/\R (oB l1 l2) H1
theorem aqI{a b:Expr}{p pos:Pos}(hg:Gl X "zip")(hm:X.mg "zip"=none)(ha:PA X [a,b] ta)(h1:J9 a=false:=by rfl)(h2:J9 b=false:=by rfl) :
  PI X (.Tuple elts x1 tpos) (.Call (.Name "zip" p) [a,b] [] pos) (iZip ta):=by
 intro pins s Y H R I h;refine Call_ (aY I hg hm boot_zip (PyProof.Rows.callWith_type1 (A7 (ha pos pins s Y H _ I h) fun us s1 ⟨vs,H1,I1,r1,q1⟩=>?_) (N2 h1) (by rw [N2 h2];rfl)));obtain ⟨l1,l2,xs,ys,rfl,e1,e2,q⟩:=q1;obtain ⟨u1,u2,rfl,lR,wR⟩:=vals2 r1
 cases lR
 cases wR
 obtain ⟨its1,Y3,p1,_⟩:=I1.list (C7.of (K:=X.K) e1);obtain ⟨its2,qB,p2,_⟩:=I1.list (C7.of (K:=X.K) e2);refine call_zip_2 p1.isList p2.isList fun h' z1 z2 z3 z4 z5 z6 z7=>wpAny_pyIter_zip z1 ?_
 refine ⟨s1.heap.objs.size+4,[s1.heap.objs.size+4,s1.heap.objs.size+3,s1.heap.objs.size,s1.heap.objs.size+1,s1.heap.objs.size+2],_,_,H1,rfl,I1.kept (t':=s1.toks) z7,
  alw _ (s1.heap.objs.size+2) (s1.heap.objs.size+3) s1.heap.objs.size (s1.heap.objs.size+1) l1 l2 (i7 (by lia)) (i7 (by lia)) (i7 (by lia)) (i7 (by lia)) (i7 (by lia)) (i7 (by lia)) (i7 (by lia)) (i7 (by lia)) (i7 (by lia)) (i7 (by lia)),⟨z1,z2,⟨_,_,z3⟩,z4,z5⟩,fun b hb=>?_,q⟩
 have K1:s1.heap.objs.size<=b:=by
  have e:b=s1.heap.objs.size+4\/b=s1.heap.objs.size+3\/b=s1.heap.objs.size\/b=s1.heap.objs.size+1\/b=s1.heap.objs.size+2:=by simpa using hb
  rcases e with rfl | rfl | rfl | rfl | rfl
  .exact aW _ _
  .exact aW _ _
  .exact B3 _
  .exact aW _ _
  .exact aW _ _
 exact I1.fpOk K1 (I1.hok.fresh K1)
theorem aqJ{a b:Expr}{p pos:Pos}(hm:X.mg "zip"=none)(ha:QA X [a,b] ta)(hg:Gl X "zip":=by rfl)(h1:J9 a=false:=by rfl)(h2:J9 b=false:=by rfl) :
  QI X (.Tuple elts x1 tpos) (.Call (.Name "zip" p) [a,b] [] pos) (iZip ta):=⟨aqI hg hm ha.out h1 h2⟩
end
theorem anN{R:It->Hp->Prop} : iZip ta Y H R=ta Y H fun vs H1=>∃ (l1 l2:Addr) (xs ys:List V),vs=[.ref l1,.ref l2]/\H1 l1=some (.lst xs)/\H1 l2=some (.lst ys)/\R (oB l1 l2) H1:=rfl
theorem forZ{l1 l2:Addr}(Pv:Nat->St->Hp->Prop)(h0:Pv 0 Y H)(hl:∀ i Y H,Pv i Y H->H l1=some (.lst xs)/\H l2=some (.lst ys))(hs:∀ i x y t Y H,xs[i]?=some x->ys[i]?=some y->Pv i Y H->H t=none->g (.ref t) Y (A0 H t (.tup [x,y])) fun σ2 H2=>tb { D with nx:=Pv (i+1),ct:=Pv (i+1),bk:=D.nx } σ2 H2)(hd:∀ Y H,Pv (min xs.length ys.length) Y H->D.nx Y H):ForIt (oB l1 l2) g tb D Y H:=by
 refine ⟨fun i m Y H=>m=min xs.length ys.length-i/\i<=min xs.length ys.length/\Pv i Y H,⟨min xs.length ys.length,by simp,G2 _,h0⟩,?_⟩;rintro i m Y H ⟨rfl,hi,p⟩;obtain ⟨e1,e2⟩:=hl i Y H p
 by_cases C3:i<min xs.length ys.length
 .refine .inr ⟨⟨xs,ys,xs[i]'(by lia),ys[i]'(by lia),e1,e2,by simp,by simp⟩,Pv (i+1),fun σ' H' p'=>⟨_,by lia,rfl,C3,p'⟩,fun v H' y=>?_⟩;obtain ⟨t,xs',ys',x,y',f1,f2,hx,hy,ht,rfl,rfl⟩:=y;rw [e1] at f1;cases f1;rw [e2] at f2;cases f2;exact hs i x y' t Y H hx hy p ht
 .have e:i=min xs.length ys.length:=by lia
  subst e;exact .inl ⟨⟨xs,ys,e1,e2,by lia⟩,hd Y H p⟩
noncomputable def Itr3 (lo st:Int) (n:Nat):It:=⟨fun i _=>i<n,fun i H x H'=>H'=H/\x=.int (lo+i*st),fun i _=>n<=i⟩
theorem af5{α β:Type}(f:α->β):∀ (l:List α) (i:Nat),(l.eraseIdx i).map f=(l.map f).eraseIdx i
 | [],_=>rfl
 | _::_,0=>rfl
 | x::l,i+1=>by
  show f x::(l.eraseIdx i).map f=f x::(l.map f).eraseIdx i;rw [af5 f l i]
noncomputable def sX (td ty tx:TE):TE:=fun Y H Q=>td Y H fun x H1=>∃ a,x=.ref a/\dB H1 a/\ty Y H1 fun y H2=>tx Y H2 fun z H3=>∃ kvs k,H3 a=some (.dK kvs)/\kvs.length<sizeLine/\y=kV k/\
 (∀ v,valV kvs k=some v->Q v H3)/\(valV kvs k=none->Q z (A0 H3 a (.dK (putK kvs k z))))
section
variable {X:Cx} {o e f:Expr} {apos cpos:Pos} {td ty tx:TE} {pins:List (Addr×Obj)} {Y:St} {H:Hp} {s:Shared} {a:Addr} {A:Around} {E:Value->Shared->Prop}
theorem aqK{k:B5}{z:V}{r:Value}{Q:Value->Shared->Prop}(I:Inv X pins Y H s)(e:H a=some (.dK kvs))(hl:kvs.length<sizeLine)(ry:RelV (kV k) u)(rz:RelV z r)(h1:∀ v w' s',valV kvs k=some v->Inv X pins Y H s'->RelV v w'->Q w' s')(h2:∀ s',valV kvs k=none->Inv X pins Y (A0 H a (.dK (putK kvs k z))) s'->Q r s') :
  wpAny (model X.prog X.w) A (call (.builtin "dict.setdefault") [.ref a,u,r]) Q E s:=by
 obtain ⟨hz,hd,vs,rel,dd⟩:=dk_of I.hok e;have A6:=rel.length;refine call_meetsIn PySem.F.slot_dict_setdefault dd.typeIs PySem.F.entry_dict_setdefault (PySem.F.args_dict_setdefault_3 _ _ _) (kt_meets_setdefault (N9 X.prog X.w) a (kV_is ry) hd r) ⟨vs,dd,by lia,fun v hv=>?_,fun hn h' hm hs=>?_⟩
 .have:=rel.val k
  rw [hv] at this;cases eQ:valV kvs k with
  | none=>rw [eQ] at this;exact this.elim
  | some x=>rw [eQ] at this;exact h1 x v _ eQ (I.tok _) this
 .have:=rel.val k
  rw [hn] at this;cases eQ:valV kvs k with
  | some x=>rw [eQ] at this;exact this.elim
  | none=>
   have J7:(putK kvs k z).length<=sizeLine:=by rw [akY z eQ,D1,V3];lia
   obtain ⟨ob,_,_,ho,_⟩:=id hm;exact h2 _ eQ (sA (t':=s.toks+1) I (by rw [e];exact trivial) hs ⟨ob,ho⟩ (sB J7 hd (rel.put k rz) hm))
theorem alx(ho:PE X o td)(he:PE X e ty)(hf:PE X f tx)(m:M2 X o "setdefault" apos e f cpos):PE X (.Call (.Attribute o "setdefault" apos) [e,f] [] cpos) (sX td ty tx):=by
 intro pins s Y H Q I h;refine wpAny_Call_method m.base m.few m.line PySem.F.plainAttrs_dict PySem.F.slot_dict_setdefault PySem.F.type_dict_setdefault (A7 (ho pins s Y H _ I h) fun u s1 ⟨x,H1,I1,rx,a,ex,d,q1⟩=>?_);subst ex;obtain rfl:u=Value.ref a:=rx;obtain ⟨t1,t2,_⟩:=sD I1 d;refine ⟨t1,t2,?_⟩;rw [m.trees];refine Calls.callWith_builtin rfl (Calls.evalArgs_plain (Calls.spliced_cons (A7 (he pins s1 Y H1 _ I1 q1) fun iv s2 ⟨y,H2,I2,ry,q2⟩=>
  Calls.spliced_cons (A7 (hf pins s2 Y H2 _ I2 q2) fun fv s3 ⟨z,H3,I3,rz,kvs,k,e3,hl,ey,q3,q4⟩=>Calls.spliced_nil ?_))))
 subst ey;exact aqK I3 e3 hl ry rz (fun v w' s4 hv I4 rw'=>⟨v,H3,I4,rw',q3 v hv⟩) fun s4 hn I4=>⟨z,_,I4,rz,q4 hn⟩
theorem aly(ho:QE X o td)(he:QE X e ty)(hf:QE X f tx)(h1:J9 e=false:=by rfl)(h2:J9 f=false:=by rfl)(D9:attributeBase o "setdefault" X.env (eval o X.env)=eval o X.env:=by rfl)(E6:(apos.endLine==cpos.line)=true:=by rfl):QE X (.Call (.Attribute o "setdefault" apos) [e,f] [] cpos) (sX td ty tx):=
 ⟨alx ho.out he.out hf.out ⟨D9,by rw [N2 h1,N2 h2];rfl,E6,by rw [N2 h1,N2 h2];rfl⟩⟩
theorem alz:sX td ty tx Y H Q=td Y H fun x H1=>∃ a,x=.ref a/\dB H1 a/\ty Y H1 fun y H2=>tx Y H2 fun z H3=>∃ kvs k,H3 a=some (.dK kvs)/\kvs.length<sizeLine/\y=kV k/\
 (∀ v,valV kvs k=some v->Q v H3)/\(valV kvs k=none->Q z (A0 H3 a (.dK (putK kvs k z)))):=rfl
end
section
variable {X:Cx} {tg:Expr}
noncomputable def rsz (i j k:Int):Nat:=(if i<j then (j-i-1) / k+1 else 0).toNat
noncomputable def iRng3 (ta:TA):TI:=fun Y H R=>ta Y H fun vs H1=>∃ i j k:Int,vs=[.int i,.int j,.int k]/\(-(2 ^ 60)<=i/\i<2 ^ 60/\-(2 ^ 60)<=j/\j<2 ^ 60/\0<k/\k<1000000)/\R (Itr3 i k (rsz i j k)) H1
end
theorem alA{R:It->Hp->Prop} : iRng3 ta Y H R=ta Y H fun vs H1=>∃ i j k:Int,vs=[.int i,.int j,.int k]/\(-(2 ^ 60)<=i/\i<2 ^ 60/\-(2 ^ 60)<=j/\j<2 ^ 60/\0<k/\k<1000000)/\R (Itr3 i k (rsz i j k)) H1:=rfl
section
variable {X:Cx} {pins:List (Addr×Obj)} {Y:St} {H:Hp} {s:Shared} {a:Addr}
theorem Inv.swap{u u':HO}(I:Inv X pins Y H s)(e:H a=some u)(n1:∀ xs,u≠.tup xs)(n2:∀ x,u≠.own x)(n3:∀ ps,u≠.tbl ps)(n4:∀ o v,X.H₀ a≠some (.frz o v))(new:ObjOk X.prog X.w H s.heap a u'):Inv X pins Y (A0 H a u') s:=by
 have ne:∀ b,H b=none->b≠a:=fun b h q=>by rw [q,e] at h;cases h
 have own:∀ c x,H c=some (.own x)->A0 H a u' c=some (.own x):=fun c x q=>by
  rw [A4 (fun z=>by rw [z,e] at q;exact n2 x (Option.some.inj q))];exact q
 have tup:∀ c xs,H c=some (.tup xs)->A0 H a u' c=some (.tup xs):=fun c x q=>by
  rw [A4 (fun z=>by rw [z,e] at q;exact n1 x (Option.some.inj q))];exact q
 refine ⟨I.ok,I.os,I.bare,⟨I.base.keep,I.base.slot,fun b o h1 h2 h3=>?_,I.base.there,fun b xs h=>tup b xs (I.base.tups b xs h),fun b o v h=>?_,fun b ps h=>?_⟩,I.loc,I.cell,?_,fun x c h=>?_,fun p hp=>?_,fun b v h=>?_,I.len⟩
 .have:=I.base.free b o h1 h2 h3
  rw [A4 (ne b this)];exact this
 .rw [A4 (fun z=>n4 o v (by rw [<- z];exact h))];exact I.base.frzs b o v h
 .obtain ⟨m,q⟩:=I.base.tbls b ps h;exact ⟨m,by rw [A4 (fun z=>by rw [z,e] at q;exact n3 _ (Option.some.inj q))];exact q⟩
 .rw [A4 (ne _ I.free)];exact I.free
 .rw [A4 (ne _ (I.freeC x c h))];exact I.freeC x c h
 .obtain ⟨h1,h2,h3⟩:=I.pin p hp;exact ⟨h1,by rw [A4 (ne _ h2)];exact h2,h3⟩
 .by_cases hb:b=a
  .subst hb;rw [A3] at h;cases h;exact new.stay (fun _ _ _ q=>q) (fun c q=>own c _ q) fun c xs q=>tup c xs q
  .rw [A4 hb] at h;exact (I.hok b v h).stay (fun _ _ _ q=>q) (fun c q=>own c _ q) fun c xs q=>tup c xs q
end
noncomputable def jR (a:Addr) (o:Obj) (kvs:List (B5×V)):It:=
 ⟨fun i H=>H a=some (.frz o (.dK kvs))/\i<kvs.length,fun i H x H'=>H'=H/\∃ k v,kvs[i]?=some (k,v)/\x=kV k,fun i H=>H a=some (.frz o (.dK kvs))/\kvs.length<=i⟩
theorem ajK{P:Program}{w:World}(a it:Addr)(o:Obj)(kvs:List (B5×V))(vs:List (B5×Value))(ep:Nat)(W5:∀ h:Heap,h.get? a=some o->h.DictAt (N9 P w) a vs ep)(rel:KV kvs vs):Turn P w K tg (jR a o kvs) [it] it (fun i h=>h.IsKeyIter it a i vs.length ep) where
 mem:=by simp
 obj:=fun i h st b hb=>by
  have e:b=it:=by simpa using hb
  subst e;obtain ⟨o,e,c,d⟩:=st;exact ⟨o,e,fun v z=>by rw [d] at z;cases z⟩
 keep:=fun i h h' st k=>st.at fun o e=>k it (by simp) o e
 item:=by
  intro X hP hw hK hc i pins s Y H E I hf st hg;subst hP hw hK;obtain ⟨f0,f1,f2,f3,f4,f5⟩:=hf it (by simp);obtain ⟨lS,lT⟩:=hg;have hd:=W5 s.heap (I.hok a _ lS).1;have wS:i<vs.length:=by rw [<- rel.length];exact lT
  refine wpAny_pyNext_dict_item st hd (k:=vs[i].1) (v:=vs[i].2) (by rw [K2 wS]) fun key h' Z6 lU eR=>?_
  have I1:Inv X pins Y H { s with heap:=h' }:=I.turned (t':=s.toks) (fun b o hb e=>(eR.2 b hb).trans e) f0 f1 f3 f4 f5;obtain ⟨oi,e,c,d⟩:=id lU;have hk:kvs[i].1=vs[i].1:=by
   have:=congrArg (·[i]?) rel.keys
   simpa [lT,wS] using this
  have rk:RelV (kV kvs[i].1) key:=by
   rw [hk];have Z6:keyIs vs[i].1 key=true:=Z6;generalize vs[i].1=kk at Z6
   rcases k8 Z6 with ⟨j,t,rfl,rfl⟩ | ⟨x,t,rfl,rfl⟩
   .exact ⟨t,rfl⟩
   .exact ⟨t,rfl⟩
  exact ⟨key,rfl,go_of (s:={ s with heap:=h' }) e c d (by decide) ⟨kV kvs[i].1,H,I1,rk,⟨rfl,kvs[i].1,kvs[i].2,by rw [K2 lT],rfl⟩,lU,fun b hb=>(hf b hb).1⟩⟩
 done:=by
  intro X hP hw hK hc i pins s Y H E I hf st hg;subst hP hw hK;obtain ⟨f0,f1,f2,f3,f4,f5⟩:=hf it (by simp);obtain ⟨lS,lT⟩:=hg;have hd:=W5 s.heap (I.hok a _ lS).1;exact wpAny_pyNext_dict_end (I.ok.hd hc) st hd (by rw [List.getElem?_eq_none_iff,<- rel.length];exact lT) fun h' eb=>⟨rfl,I.turned (t':=s.toks) (fun b o hb e=>eb b o hb e) f0 f1 f3 f4 f5⟩
 self:=fun _ _ _ _ _ st h=>wpAny_pyIter_keyiter st h
noncomputable def Ends.thaw (D:Ends) (a:Addr) (kvs:List (B5×V)):Ends where
 nx:=fun Y H=>(∃ o,H a=some (.frz o (.dK kvs)))/\D.nx Y (A0 H a (.dK kvs))
 rt:=fun v H=>(∃ o,H a=some (.frz o (.dK kvs)))/\D.rt v (A0 H a (.dK kvs))
noncomputable def tForD (tl:TE) (g:TG) (tb:TS):TS:=fun D Y H=>tl Y H fun x H1=>∃ a kvs,x=.ref a/\H1 a=some (.dK kvs)/\∀ o,ForIt (jR a o kvs) g tb (D.thaw a kvs) Y (A0 H1 a (.frz o (.dK kvs)))
theorem anO{l:Expr}{body:List Stmt}{pos:Pos}(hp:PassesOwn (model X.prog X.w) X.A X.env X.xe)(hc:X.calm=true)(hl:PE X l tl)(hg:PG X tg g)(hb:U4 X body tb)(hs:∀ x,foldedSetIterable l X.env x=pure x):PS X (.For tg l body [] pos) (tForD tl g tb):=by
 intro pins s Y H D I h;refine wpAny_For (A7 (hl pins s Y H _ I h) fun v s1 ⟨x,H1,I1,r1,q1⟩=>?_) hs;obtain ⟨a,kvs,rfl,e,q⟩:=q1
 cases r1
 obtain ⟨z,hd,vs,rel,dd⟩:=dk_of I1.hok e;obtain ⟨ep,W5⟩:=dd.dictAt;obtain ⟨o,es,ho,R8⟩:=id W5;refine wpAny_pyIter_dict hd W5 ?_;have NF:∀ o' v',X.H₀ a≠some (.frz o' v'):=fun o' v' z=>by
  have:=I1.base.frzs _ _ _ z
  rw [e] at this;cases this
 have I1':Inv X pins Y H1 { s1 with heap:=s1.heap.push { cls:=.type "dict_keyiterator",data:=.fields #[.ref a,.int 0 0,.int vs.length 0,.int ep 0] } }:=I1.kept (t':=s1.toks) fun b u e=>Heap.get?_push_of_some _ e
 have I2:=I1'.swap (u':=.frz o (.dK kvs)) e (fun _ q=>by cases q) (fun _ q=>by cases q) (fun _ q=>by cases q) NF ⟨Heap.get?_push_of_some _ ho,I1'.hok a _ e⟩;have thaw:∀ {σ':St} {H':Hp} {s':Shared},Inv X pins σ' H' s'->(∃ o,H' a=some (.frz o (.dK kvs)))->Inv X pins σ' (A0 H' a (.dK kvs)) s':=fun {σ' H' s'} I' ⟨o',e'⟩=>
  I'.swap e' (fun _ q=>by cases q) (fun _ q=>by cases q) (fun _ q=>by cases q) NF (I'.hok a _ e').2
 have T:Turn X.prog X.w X.K tg (jR a o kvs) [s1.heap.objs.size] s1.heap.objs.size (fun i h=>h.IsKeyIter s1.heap.objs.size a i vs.length ep):=ajK a _ o kvs vs ep (fun h e=>⟨o,es,e,R8⟩) rel;have O8:A0 H1 a (.frz o (.dK kvs)) s1.heap.objs.size=none:=by rw [A4 (fun q=>by rw [<- q,I1.fresh] at e;cases e)];exact I1.fresh
 have f2:∀ b∈[s1.heap.objs.size],FpOk X pins (A0 H1 a (.frz o (.dK kvs))) b:=fun b hb=>by
  have e:b=s1.heap.objs.size:=by simpa using hb
  subst e;exact I1.fpOk (B3 _) O8
 obtain ⟨W,⟨m0,w0⟩,turn⟩:=q o;have stat:∀ {H':Hp},(∀ b∈[s1.heap.objs.size],H' b=none)->∀ b∈[s1.heap.objs.size],FpOk X pins H' b:=fun hn b hb=>⟨hn b hb,(f2 b hb).2⟩
 refine codeAny_forLoop_any (fun n s'=>∃ i σ' H',Inv X pins σ' H' s'/\s'.heap.IsKeyIter s1.heap.objs.size a i vs.length ep/\(∀ b∈[s1.heap.objs.size],H' b=none)/\W i n σ' H') ?_ m0 ⟨0,Y,_,I2,⟨_,Heap.get?_push_size _ rfl,rfl,rfl⟩,fun b hb=>(f2 b hb).1,w0⟩;rintro n s3 ⟨i,σ3,H3,I3,bV,lD,w3⟩
 rcases turn i n σ3 H3 w3 with ⟨stop,qn⟩ | ⟨go,N,hN,step⟩
 .refine wpAny_passesOwn hp (A7 (T.done X rfl rfl rfl hc i pins s3 σ3 H3 X.xe I3 (stat lD) bV stop) fun r s4 ⟨hr,I4⟩=>?_);subst hr;exact wpAny_execs_nil ⟨σ3,_,thaw I4 qn.1,qn.2⟩
 .refine wpAny_passesOwn hp (A7 (T.item X rfl rfl rfl hc i pins s3 σ3 H3 X.xe I3 (stat lD) bV go) fun r s4 ⟨u,hr,h4⟩=>?_);subst hr;refine wpAny_passesOwn hp (A7 h4 fun _ s5 ⟨x,H5,I5,r5,y5,eD,wD⟩=>?_);have I5':=I5.pinned (stat wD) (T.obj _ _ eD);refine wpAny_passesOwn hp (A7 (hg _ s5 σ3 H5 x u _ I5' r5 (step x H5 y5)) fun _ s6 ⟨σ6,H6,I6,q6⟩=>?_);refine wpAny_passesOwn hp (A7 (hb _ s6 σ6 H6 _ I6 q6) fun f s7 q7=>?_);have again:∀ {σ7:St} {H7:Hp},Inv X (pins++fP [s1.heap.objs.size] s5.heap) σ7 H7 s7->N σ7 H7->∃ m,m<n/\∃ i σ' H',Inv X pins σ' H' s7/\s7.heap.IsKeyIter s1.heap.objs.size a i vs.length ep/\(∀ b∈[s1.heap.objs.size],H' b=none)/\W i m σ' H':=fun {σ7 H7} I7 n7=>by
   obtain ⟨m',hm,w7⟩:=hN σ7 H7 n7;refine ⟨m',hm,i+1,σ7,H7,I7.unpinned,T.keep _ _ _ eD fun b hb o e=>(I7.pin (b,o) (R5 _ (R5 _ (fQ hb e)))).1,fun b hb=>?_,w7⟩;obtain ⟨o,e,d⟩:=T.obj _ _ eD b hb;exact (I7.pin (b,o) (R5 _ (R5 _ (fQ hb e)))).2.1
  cases f with
  | next=>obtain ⟨σ7,H7,I7,n7⟩:=q7;exact again I7 n7
  | cont=>obtain ⟨σ7,H7,I7,n7⟩:=q7;exact again I7 n7
  | brk=>obtain ⟨σ7,H7,I7,q7⟩:=q7;exact ⟨σ7,_,thaw I7.unpinned q7.1,q7.2⟩
  | ret v=>obtain ⟨x7,σ7,H7,I7,r7,q7⟩:=q7;exact ⟨x7,σ7,_,thaw I7.unpinned q7.1,r7,q7.2⟩
theorem sY{l:Expr}{body:List Stmt}{pos:Pos}(hp:PassesOwn (model X.prog X.w) X.A X.env X.xe)(hl:QE X l tl)(hg:QG X tg g)(hb:QSs X body tb)(hc:X.calm=true:=by rfl)(hs:∀ x,foldedSetIterable l X.env x=pure x:=by intro _;rfl):QS X (.For tg l body [] pos) (tForD tl g tb):=⟨anO hp hc hl.out hg.out hb.out hs⟩
theorem anP : tForD tl g tb D Y H=tl Y H fun x H1=>∃ a kvs,x=.ref a/\H1 a=some (.dK kvs)/\∀ o,ForIt (jR a o kvs) g tb (D.thaw a kvs) Y (A0 H1 a (.frz o (.dK kvs))):=rfl
theorem forD(Pv:Nat->St->Hp->Prop)(h0:Pv 0 Y H)(hl:∀ i Y H,Pv i Y H->H a=some (.frz o (.dK kvs)))(hs:∀ i k v Y H,kvs[i]?=some (k,v)->Pv i Y H->g (kV k) Y H fun σ2 H2=>tb { D.thaw a kvs with nx:=Pv (i+1),ct:=Pv (i+1),bk:=(D.thaw a kvs).nx } σ2 H2)(hd:∀ Y H,Pv kvs.length Y H->D.nx Y (A0 H a (.dK kvs))):ForIt (jR a o kvs) g tb (D.thaw a kvs) Y H:=by
 refine ⟨fun i m Y H=>m=kvs.length-i/\i<=kvs.length/\Pv i Y H,⟨kvs.length,by simp,G2 _,h0⟩,?_⟩;rintro i m Y H ⟨rfl,hi,p⟩;have e:=hl i Y H p
 by_cases C3:i<kvs.length
 .refine .inr ⟨⟨e,C3⟩,Pv (i+1),fun σ' H' p'=>⟨_,by lia,rfl,C3,p'⟩,fun v H' y=>?_⟩;obtain ⟨rfl,k,v',hk,rfl⟩:=y;exact hs i k v' Y _ hk p
 .have e2:i=kvs.length:=by lia
  subst e2;exact .inl ⟨⟨e,B3 _⟩,⟨o,e⟩,hd Y H p⟩
end L2
set_option maxRecDepth 100000
namespace L2
open PySem PySem.Spec PyProof.Rows
noncomputable def T9 (row:List Str):List (Str×Str):=row.zip row.tail
noncomputable def edges (rows:List (List Str)):List (Str×Str):=rows.flatMap T9
noncomputable def E5 (E:List (Str×Str)) (p:Str):List Str:=(E.filter fun e=>decide (e.1=p)).map (·.2)
noncomputable def F6 (E:List (Str×Str)) (line:List Str) (q:Str):Nat:=E.countP fun e=>decide (e.2=q) && !decide (e.1∈line)
noncomputable def cntIn (E:List (Str×Str)) (S:List Str) (q:Str):Nat:=E.countP fun e=>decide (e.2=q)&&decide (e.1∈S)
theorem alB(E:List (Str×Str))(a b p:Str):E5 (E++[(a,b)]) p=if a=p then E5 E p++[b] else E5 E p:=by
 unfold E5;rw [cO,E1]
 by_cases h:a=p
 .rw [if_pos h,iS (by simpa using h)];rfl
 .rw [if_neg h,iT (by simpa using h)];simp
theorem af6(E:List (Str×Str))(p q:Str):(E5 E p).count q=E.countP fun e=>decide (e.2=q)&&decide (e.1=p):=by
 induction E with
 | nil=>rfl
 | cons e E ih=>
  unfold E5 at ih ⊢
  by_cases h:e.1=p
  .rw [iS (by simpa using h),F7,List.count_cons,ih,aS]
   by_cases h2:e.2=q
   .simp [h,h2]
   .simp [h,h2]
  .rw [iT (by simpa using h),ih,aS];simp [h]
theorem aiq{E:List (Str×Str)}{S:List Str}{p q:Str}(h:p∉S):cntIn E (S++[p]) q=cntIn E S q+(E5 E p).count q:=by
 rw [af6];unfold cntIn
 induction E with
 | nil=>rfl
 | cons e E ih=>
  rw [aS,aS,aS,ih]
  by_cases h2:e.2=q
  .by_cases h1:e.1=p
   .have:e.1∉S:=by rw [h1];exact h
    simp [h2,h1,h];lia
   .by_cases h3:e.1∈S
    .simp [h2,h1,h3];lia
    .simp [h2,h1,h3]
  .simp [h2]
theorem ahM{E:List (Str×Str)}{p q:Str}(h:p∉line):F6 E line q=F6 E (line++[p]) q+(E5 E p).count q:=by
 rw [af6];unfold F6
 induction E with
 | nil=>rfl
 | cons e E ih=>
  rw [aS,aS,aS,ih]
  by_cases h2:e.2=q
  .by_cases h1:e.1=p
   .simp [h2,h1,h];lia
   .by_cases h3:e.1∈line
    .simp [h2,h1,h3]
    .simp [h2,h1,h3];lia
  .simp [h2]
theorem ajL{E:List (Str×Str)}{S:List Str}(h:∀ e∈E,e.1∈S)(q:Str):cntIn E S q=F6 E [] q:=by
 unfold cntIn F6;refine List.countP_congr fun e he=>?_
 simp [h e he]
theorem ajM(E:List (Str×Str))(q:Str):cntIn E [] q=0:=by
 unfold cntIn
 simp
theorem cnt_zero{E:List (Str×Str)}{q:Str} : F6 E line q=0↔∀ e∈E,e.2=q->e.1∈line:=by
 unfold F6;rw [List.countP_eq_zero]
 constructor
 .intro h e he h2
  have:=h e he
  simpa [h2] using this
 .intro h e he
  by_cases h2:e.2=q
  .simp [h2,h e he h2]
  .simp [h2]
noncomputable def nextP (E:List (Str×Str)) (ts pre:List Str):Option Str:=(ts.filter fun p=>!decide (p∈pre)).find? fun p=>decide (F6 E pre p=0)
noncomputable def R9 (E:List (Str×Str)) (ts line:List Str):Prop:=∀ pre q post,line=pre++q::post->nextP E ts pre=some q
theorem R9.nil(E:List (Str×Str))(ts:List Str):R9 E ts []:=fun pre q post h=>by
 have:=congrArg X4 h
 simp at this
theorem R9.snoc{E:List (Str×Str)}{p:Str}(r:R9 E ts line)(h:nextP E ts line=some p):R9 E ts (line++[p]):=fun pre q post e=>by
 rcases List.append_eq_append_iff.mp e with ⟨m,h1,h2⟩ | ⟨m,h1,h2⟩
 .cases m with
  | nil=>
   rw [M5] at h1;rw [fI] at h2
   cases (List.cons.inj h2).1
   rw [h1];exact h
  | cons a m=>
   have:=congrArg X4 h2
   simp at this
 .cases m with
  | nil=>
   rw [M5] at h1;rw [fI] at h2
   cases (List.cons.inj h2).1
   rw [<- h1];exact h
  | cons a m=>
   rw [List.cons_append] at h2;have h3:=(List.cons.inj h2).1;exact r pre q m (by rw [h1,h3])
theorem gF{E:List (Str×Str)}{pre:List Str}{q:Str}(h:nextP E ts pre=some q):q∈ts/\q∉pre/\F6 E pre q=0:=by
 have h1:=List.mem_of_find?_eq_some h;have h2:=List.find?_some h;rw [V5] at h1;exact ⟨h1.1,by simpa using h1.2,by simpa using h2⟩
theorem R9.nodup{E:List (Str×Str)} : ∀ {line:List Str},R9 E ts line->line.Nodup:=by
 intro line r;rw [d0,cL];intro i j hi hj qC e;have e1:line=line.take j++line[j]::line.drop (j+1):=by rw [<- cM hj,j6]
 have:=(gF (r _ _ _ e1)).2.1
 exact this (e8.mpr ⟨i,by rw [F9];lia,by rw [List.getElem_take];exact e⟩)
theorem R9.sub{E:List (Str×Str)}(r:R9 E ts line){q:Str}(h:q∈line):q∈ts:=by
 obtain ⟨pre,post,e⟩:=List.append_of_mem h;exact (gF (r pre q post e)).1
theorem alC{E:List (Str×Str)}{rank:Str->Nat}(hr:∀ e∈E,rank e.1<rank e.2)(hE:∀ e∈E,e.1∈ts)(hw:∃ p∈ts,p∉line):∃ q,nextP E ts line=some q:=by
 have key:∀ n p,rank p<=n->p∈ts->p∉line->∃ q∈ts,q∉line/\F6 E line q=0:=by
  intro n
  induction n with
  | zero=>
   intro p hp ht hl;refine ⟨p,ht,hl,cnt_zero.mpr fun e he h2=>?_⟩
   have:=hr e he
   rw [h2] at this;lia
  | succ n ih=>
   intro p hp ht hl
   by_cases hc:F6 E line p=0
   .exact ⟨p,ht,hl,hc⟩
   .have:∃ e∈E,e.2=p/\e.1∉line:=by
     refine Classical.byContradiction fun hn=>hc (cnt_zero.mpr fun e he h2=>Classical.byContradiction fun h3=>hn ⟨e,he,h2,h3⟩)
    obtain ⟨e,he,h2,h3⟩:=this;have h4:=hr e he;rw [h2] at h4;exact ih e.1 (by lia) (hE e he) h3
 obtain ⟨p,hp,hl⟩:=hw;obtain ⟨q,h1,h2,h3⟩:=key (rank p) p (B3 _) hp hl;cases h:nextP E ts line with
 | some q=>exact ⟨q,rfl⟩
 | none=>
  have:=List.find?_eq_none.mp h q (V5.mpr ⟨h1,by simpa using h2⟩)
  simp [h3] at this
theorem oC{E:List (Str×Str)}(nd:ts.Nodup)(r:R9 E ts line)(h:∀ p∈ts,p∈line):line.length=ts.length:=
 ((List.perm_ext_iff_of_nodup r.nodup nd).mpr fun a=>⟨r.sub,h a⟩).length_eq
theorem aeR(E:List (Str×Str))(pre:List Str):∀ ts:List Str,nextP E ts pre=ts.find? fun p=>!decide (p∈pre)&&decide (∀ e∈E,e.2=p->e.1∈pre)
 | []=>rfl
 | t::ts=>by
  have ih:=aeR E pre ts;unfold nextP at ih ⊢
  by_cases h:t∈pre
  .rw [iT (by simpa using h),p6,ih];simp [h]
  .rw [iS (by simpa using h),p6,p6,ih]
   by_cases h2:F6 E pre t=0
   .have:=cnt_zero.mp h2
    rw [decide_eq_true h2,decide_eq_true this];simp [h]
   .have:¬ ∀ e∈E,e.2=t->e.1∈pre:=fun z=>h2 (cnt_zero.mpr z)
    rw [decide_eq_false h2,decide_eq_false this];simp [h]
theorem air{row:List Str}{e:Str×Str}(h:e∈T9 row):e.1∈row/\e.2∈row:=by
 unfold T9 at h;exact ⟨(List.of_mem_zip h).1,List.mem_of_mem_tail (List.of_mem_zip h).2⟩
theorem af7{rows:List (List Str)}{e:Str×Str}(h:e∈edges rows):e.1∈rows.flatten/\e.2∈rows.flatten:=by
 unfold edges at h;obtain ⟨row,h1,h2⟩:=w6.mp h
 have:=air h2
 exact ⟨List.mem_flatten.mpr ⟨row,h1,this.1⟩,List.mem_flatten.mpr ⟨row,h1,this.2⟩⟩
noncomputable def C1 (ts:List Str) (f:Str->V):List (B5×V):=ts.map fun t=>(Sum.inr t,f t)
theorem sZ(f:Str->V)(z:Str):∀ ts:List Str,((C1 ts f).any fun kv=>decide (kv.1=(Sum.inr z:B5)))=decide (z∈ts)
 | []=>by simp [C1]
 | y::ts=>by
  have ih:=sZ f z ts;unfold C1 at ih ⊢
  rw [F7,j9,ih]
  by_cases e:y=z
  .subst e
   simp
  .have e1:decide ((Sum.inr y:B5)=Sum.inr z)=false:=decide_eq_false fun q=>e (Sum.inr.inj q)
   rw [e1,Bool.false_or]
   by_cases h:z∈ts
   .rw [decide_eq_true h,decide_eq_true (N0 _ h)]
   .rw [decide_eq_false h,decide_eq_false];intro q
    rcases E7.mp q with q | q
    .exact e q.symm
    .exact h q
theorem Q6(f:Str->V)(z:Str):∀ ts:List Str,valV (C1 ts f) (Sum.inr z)=if z∈ts then some (f z) else none
 | []=>rfl
 | y::ts=>by
  have ih:=Q6 f z ts;unfold C1 at ih ⊢
  rw [F7]
  by_cases e:y=z
  .subst e;rw [nK rfl,if_pos O2]
  .rw [x8 (fun q=>e (Sum.inr.inj q)),ih]
   by_cases h:z∈ts
   .rw [if_pos h,if_pos (N0 _ h)]
   .rw [if_neg h,if_neg];intro q
    rcases E7.mp q with q | q
    .exact e q.symm
    .exact h q
theorem oE{f:Str->V}(v:V)(h:z∈ts):putK (C1 ts f) (Sum.inr z:B5) v=C1 ts fun t=>if t=z then v else f t:=by
 unfold putK;rw [sZ,decide_eq_true h,if_pos rfl];unfold C1;rw [f6];refine iV fun y _=>?_
 show (if (Sum.inr y:B5)=Sum.inr z then ((Sum.inr y:B5),v) else (Sum.inr y,f y))=((Sum.inr y:B5),if y=z then v else f y)
 by_cases e:y=z
 .rw [if_pos (by rw [e]),if_pos e]
 .rw [if_neg (fun q=>e (Sum.inr.inj q)),if_neg e]
theorem dJ{f:Str->V}(v:V)(h:z∉ts):putK (C1 ts f) (Sum.inr z:B5) v=C1 (ts++[z]) fun t=>if t=z then v else f t:=by
 unfold putK;rw [sZ,decide_eq_false h,if_neg K5];unfold C1;rw [E1]
 congr 1
 .refine iV fun y hy=>?_
  show _=((Sum.inr y:B5),if y=z then v else f y);rw [if_neg (fun e:y=z=>h (by rw [<- e];exact hy))]
 .simp
theorem U6{f g:Str->V}(h:∀ t∈ts,f t=g t):C1 ts f=C1 ts g:=by
 unfold C1;exact iV fun t ht=>by rw [h t ht]
theorem m5(f:Str->V)(ts:List Str):(C1 ts f).length=ts.length:=by unfold C1;rw [A2]
theorem amo{f:Str->V}{k:B5}{v:V}(h:(C1 ts f)[i]?=some (k,v)):∃ t,ts[i]?=some t/\k=Sum.inr t/\v=f t:=by
 unfold C1 at h;obtain ⟨t,h1,h2⟩:=G7 h;cases h2;exact ⟨t,h1,rfl,rfl⟩
theorem alD(f:Str->V)(ts:List Str):((C1 ts f).map fun kv=>kV kv.1)=ts.map V.str:=by
 unfold C1;rw [f6];rfl
structure DL(H0 H:Hp)(ts:List Str)(ad:Str->Addr)(F:Str->List Str):Prop where
 row:∀ t∈ts,H (ad t)=some (.lst ((F t).map V.str))
 inj:∀ t∈ts,∀ u∈ts,ad t=ad u->t=u
 new:∀ t∈ts,H0 (ad t)=none
theorem DL.same{ad:Str->Addr}{F:Str->List Str}(x:DL H0 H ts ad F)(s:Same H H'):DL H0 H' ts ad F:=⟨fun t h=>s _ _ (x.row t h),x.inj,x.new⟩
theorem DL.app{ad:Str->Addr}{F:Str->List Str}(x:DL H0 H ts ad F)(hz:z∈ts)(ys:List Str):DL H0 (A0 H (ad z) (.lst (ys.map V.str))) ts ad fun t=>if t=z then ys else F t:=by
 refine ⟨fun t ht=>?_,x.inj,x.new⟩;show _=some (HO.lst ((if t=z then ys else F t).map V.str))
 by_cases e:t=z
 .subst e;rw [A3,if_pos rfl]
 .rw [A4 (fun q=>e (x.inj t ht z hz q)),if_neg e];exact x.row t ht
theorem DL.more{ad:Str->Addr}{F:Str->List Str}(x:DL H0 H ts ad F)(hz:z∉ts)(np:H p=none)(n0:H0 p=none):DL H0 (A0 H p (.lst [])) (ts++[z]) (fun t=>if t=z then p else ad t) fun t=>if t=z then [] else F t:=by
 have ne:∀ t∈ts,t≠z:=fun t ht e=>hz (by rw [<- e];exact ht)
 have nad:∀ t∈ts,ad t≠p:=fun t ht e=>by have:=x.row t ht;rw [e,np] at this;cases this
 have cases':∀ t,t∈ts++[z]->(t∈ts/\t≠z)\/t=z:=fun t ht=>by
  rcases M4.mp ht with h | h
  .exact .inl ⟨h,ne t h⟩
  .exact .inr (N7.mp h)
 refine ⟨fun t ht=>?_,fun t ht u hu e=>?_,fun t ht=>?_⟩
 .show A0 H p (.lst []) (if t=z then p else ad t)=some (.lst ((if t=z then [] else F t).map V.str))
  rcases cases' t ht with ⟨h1,h2⟩ | rfl
  .rw [if_neg h2,if_neg h2,A4 (nad t h1)];exact x.row t h1
  .rw [if_pos rfl,if_pos rfl,A3];rfl
 .have e:(if t=z then p else ad t)=(if u=z then p else ad u):=e
  rcases cases' t ht with ⟨h1,h2⟩ | rfl <;> rcases cases' u hu with ⟨h3,h4⟩ | rfl
  .rw [if_neg h2,if_neg h4] at e;exact x.inj t h1 u h3 e
  .rw [if_neg h2,if_pos rfl] at e;exact absurd e (nad t h1)
  .rw [if_pos rfl,if_neg h4] at e;exact absurd e.symm (nad u h3)
  .rfl
 .show H0 (if t=z then p else ad t)=none
  rcases cases' t ht with ⟨h1,h2⟩ | rfl
  .rw [if_neg h2];exact x.new t h1
  .rw [if_pos rfl];exact n0
theorem alE(h:acc.Nodup)(z:Str):(dd acc z).Nodup:=by
 unfold dd
 split
 .exact h
 .rename_i hz
  rw [aR];refine ⟨h,by simp,fun a ha b hb e=>hz ?_⟩;rw [<- N7.mp hb,<- e];exact ha
theorem tD:∀ {zs acc:List Str},acc.Nodup->(G3 acc zs).Nodup
 | [],_,h=>h
 | z::zs,acc,h=>tD (zs:=zs) (alE h z)
theorem gG(zss:List (List Str)):(toldL zss).Nodup:=by
 unfold toldL;rw [nS];exact tD (by simp)
theorem q9(x:Str):∀ (zs acc:List Str),x∈G3 acc zs↔x∈acc\/x∈zs
 | [],acc=>by simp [G3]
 | z::zs,acc=>by
  show x∈G3 (dd acc z) zs↔_;rw [q9 x zs];unfold dd
  by_cases h:z∈acc
  .rw [if_pos h,E7]
   constructor
   .rintro (h1 | h1)
    .exact .inl h1
    .exact .inr (.inr h1)
   .rintro (h1 | rfl | h1)
    .exact .inl h1
    .exact .inl h
    .exact .inr h1
  .rw [if_neg h,M4,N7,E7,or_assoc]
theorem tE(x:Str)(zss:List (List Str)):x∈toldL zss↔x∈zss.flatten:=by
 unfold toldL;rw [nS,q9]
 simp
theorem ais{zss:List (List Str)}{e:Str×Str}(h:e∈edges zss):e.1∈toldL zss/\e.2∈toldL zss:=⟨(tE _ _).mpr (af7 h).1,(tE _ _).mpr (af7 h).2⟩
theorem ait{zss:List (List Str)}(h:zss[i]?=some zs):edges (zss.take (i+1))=edges (zss.take i)++T9 zs:=by
 rw [j7,h];unfold edges;rw [p0]
 simp
theorem tF(zs:List Str):(T9 zs).length=min zs.length zs.tail.length:=by unfold T9;rw [List.length_zip]
theorem af8{x y:Str}(h1:zs[j]?=some x)(h2:zs.tail[j]?=some y):(T9 zs)[j]?=some (x,y):=by
 unfold T9;rw [List.getElem?_zip_eq_some];exact ⟨h1,h2⟩
theorem af9(zss:List (List Str)):(edges zss).length<=zss.flatten.length:=by
 induction zss with
 | nil=>exact B3 _
 | cons zs zss ih=>
  unfold edges at ih ⊢
  rw [p5,D1,fF,D1,tF];lia
theorem DL.put{ad:Str->Addr}{F:Str->List Str}(x:DL H0 H ts ad F){o u:HO}(hb:H0 b=some u):DL H0 (A0 H b o) ts ad F:=
 ⟨fun t ht=>by rw [A4 (fun e=>by have:=x.new t ht;rw [e,hb] at this;cases this)];exact x.row t ht,x.inj,x.new⟩
theorem DL.congr{ad:Str->Addr}{F G:Str->List Str}(x:DL H0 H ts ad F)(h:∀ t∈ts,F t=G t):DL H0 H ts ad G:=⟨fun t ht=>by rw [<- h t ht];exact x.row t ht,x.inj,x.new⟩
theorem DL.old{H00:Hp}{ad:Str->Addr}{F:Str->List Str}(x:DL H0 H ts ad F)(s:Same H00 H0):DL H00 H ts ad F:=⟨x.row,x.inj,fun t ht=>s.free (x.new t ht)⟩
theorem tG(nd:ts.Nodup)(h:ts[i]?=some z):z∉ts.take i:=fun hm=>by
 obtain ⟨hi,e⟩:=G1.mp h;obtain ⟨j,hj,e2⟩:=e8.mp hm;rw [F9] at hj;rw [List.getElem_take] at e2
 have:=(d0.mp nd)
 rw [cL] at this;exact this j i (by lia) hi (by lia) (e2.trans e.symm)
theorem L4{α:Type}{ts:List α}{z:α}(h:ts[i]?=some z):ts.take (i+1)=ts.take i++[z]:=by rw [j7,h];rfl
noncomputable def SameBut (d:Addr) (H H':Hp):Prop:=∀ b o,b≠d->H b=some o->H' b=some o
theorem SameBut.put{d q:Addr}{u:HO}(s:SameBut d H0 H)(n:H0 q=none):SameBut d H0 (A0 H q u):=fun b o hb h=>by rw [A4 (Q9 h n)];exact s b o hb h
theorem SameBut.thaw{d:Addr}{u:HO}(s:SameBut d H0 H)(h:H0 d=some u):Same H0 (A0 H d u):=fun b o hb=>by
 by_cases e:b=d
 .subst e;rw [A3,<- hb,h]
 .rw [A4 e];exact s b o e hb
theorem RowsAt.grow{q:Addr}{zss:List (List Str)}(R:RowsAt H0 H a rs zss)(S:Same H H')(hq:H q=none)(Z7:H' q=some (.lst (zs.map V.str))):RowsAt H0 (A0 H' a (.lst (rs.map V.ref++[V.ref q]))) a (rs++[q]) (zss++[zs]):=by
 have nq:∀ r∈a::rs,r≠q:=fun r hr z=>by
  obtain ⟨o,e⟩:=R.live hr;rw [z,hq] at e;cases e
 obtain ⟨na,_⟩:=T6.mp R.nd;refine ⟨⟨by rw [A3,E1];rfl,?_⟩,?_,?_,?_⟩
 .refine Paired.snoc (jP R.rows.row fun r hr zs h=>?_) ?_
  .rw [A4 (fun z:r=a=>na (by rw [<- z];exact hr))];exact S _ _ h
  .rw [A4 (nq a O2).symm];exact Z7
 .show (a::(rs++[q])).Nodup;exact sG R.nd fun h=>nq q h rfl
 .intro r hr
  rcases E7.mp hr with h | h
  .exact R.new r (by rw [h];exact O2)
  .rcases M4.mp h with h | h
   .exact R.new r (N0 _ h)
   .rw [N7.mp h];exact R.same.free hq
 .exact (R.same.trans S).put (R.new a O2)
noncomputable def spFol:Sp:=fun vs H Q _=>∃ (a:Addr) (rs:List Addr) (zss:List (List Str)),vs=[.ref a]/\IsRows H a rs zss/\zss.flatten.length<=100000/\
 ∀ (d:Addr) (ad:Str->Addr) (H':Hp),H d=none->Same H H'->H' d=some (.dK (C1 (toldL zss) fun t=>.ref (ad t)))->DL H H' (toldL zss) ad (E5 (edges zss))->Q (.ref d) H'
noncomputable def ajN:Sp:=fun vs H Q _=>∃ (d:Addr) (ts:List Str) (ad:Str->Addr) (E:List (Str×Str)),vs=[.ref d]/\H d=some (.dK (C1 ts fun t=>.ref (ad t)))/\ts.Nodup/\ts.length<=100000/\E.length<=100000/\
 (∀ t∈ts,H (ad t)=some (.lst ((E5 E t).map V.str)))/\(∀ e∈E,e.1∈ts/\e.2∈ts)/\∀ c H',H c=none->Same H H'->H' c=some (.dK (C1 ts fun t=>.int (F6 E [] t:Nat)))->Q (.ref c) H'
theorem aga:∀ {l m:List Str},l.Nodup->(∀ x∈l,x∈m)->l.length<=m.length
 | [],_,_,_=>G2 _
 | x::l,m,nd,h=>by
  obtain ⟨n1,n2⟩:=T6.mp nd;have hx:=h x O2
  have:=aga (l:=l) (m:=m.erase x) n2 fun y hy=>(List.mem_erase_of_ne (fun e=>n1 (by rw [<- e];exact hy))).mpr (h y (N0 _ hy))
  rw [List.length_erase_of_mem hx] at this;have eS:=List.length_pos_of_mem hx;rw [G6];lia
noncomputable def ajO:Sp:=fun vs H Q _=>∃ (a:Addr) (rs:List Addr) (zss:List (List Str)) (rank:Str->Nat),vs=[.ref a]/\IsRows H a rs zss/\zss.flatten.length<=100000/\(∀ e∈edges zss,rank e.1<rank e.2)/\
 ∀ (l:Addr) (line:List Str) (H':Hp),H l=none->Same H H'->H' l=some (.lst (line.map V.str))->R9 (edges zss) (toldL zss) line->(∀ p∈toldL zss,p∈line)->Q (.ref l) H'
theorem SameBut.free{d:Addr}(s:SameBut d H0 H)(n:H p=none)(h:p≠d):H0 p=none:=by
 cases e:H0 p with
 | none=>rfl
 | some o=>
  have:=s p o h e
  rw [n] at this;cases this
theorem SameBut.same{d:Addr}(s:SameBut d H1 H2)(S:Same H H1)(n:H d=none):Same H H2:=fun b o h=>s b o (Q9 h n) (S b o h)
theorem uac(d:Addr)(H:Hp):SameBut d H H:=fun _ _ _ h=>h
theorem SameBut.at{d:Addr}{o:HO}(s:SameBut d H H'):SameBut d H (A0 H' d o):=fun b u hb h=>by rw [A4 hb];exact s b u hb h
noncomputable def one (c:Nat):Str:=⟨#[c]⟩
noncomputable def r0 (c d:Nat):Str:=⟨#[c,d]⟩
theorem SG_nd:SG.Nodup:=by decide +kernel
end L2
set_option maxRecDepth 100000
namespace L2
open PySem PySem.Spec PyProof.Rows
section
variable {X:Cx}
noncomputable def rAnyB (calm:Bool):List V->Hp->VK->Prop
 | [.ref p],H,Q=>∃ bs:List Bool,calm=true/\H p=some (.lst (bs.map V.bl))/\Q (.bl (bs.any id)) H
 | _,_,_=>False
theorem p_any:CallR X (.builtin "any") (rAnyB X.calm):=by
 intro pins s Y H xs us Q I r h
 match xs,h with
 | [.ref p],⟨bs,hc,hp,q⟩=>
  obtain ⟨u,rfl,rx⟩:=vals1 r
  cases rx
  obtain ⟨z,its,n,rv,hl,e⟩:=I.lstM hp;have pl:s.heap.IsList p its.toArray:=⟨_,e,rfl,n,rfl⟩
  refine call_any_walk (wpAny_pyIter_list pl ?_);have M7:p≠s.heap.objs.size:=M0 (Heap.lt_size e);have hk:∀ b o,s.heap.get? b=some o->(s.heap.push { cls:=.type "list_iterator",data:=.fields #[.ref p,.int 0 0] }).get? b=some o:=fun b o q=>Heap.get?_push_of_some _ q
  refine ⟨_,_,_,_,_,_,fun i=>(bs[i]?).getD false,rfl,Walks.list (show X.A.in1.handled=none from I.ok.hd hc) s.heap.objs.size p M7 its.toArray,⟨⟨_,Heap.get?_push_size _ rfl,rfl,rfl⟩,pl.at fun o q=>hk p o q⟩,?_,?_⟩
  .intro i v s' Q' E' hv hq;have pX:its[i]?=some v:=by simpa using hv
   have hb:∃ b,bs[i]?=some b/\v=.bool b:=by
    cases eb:(bs.map V.bl)[i]? with
    | none=>
     have:=rv.none_of eb
     rw [pX] at this
     cases this
    | some y=>
     obtain ⟨u,h1,h2⟩:=rv.get eb;rw [pX] at h1;cases h1;rw [P6] at eb;cases e3:bs[i]? with
     | none=>rw [e3] at eb;cases eb
     | some b=>
      rw [e3] at eb;cases eb;exact ⟨b,rfl,h2⟩
   obtain ⟨b,e1,rfl⟩:=hb;have hq:Q' ((bs[i]?).getD false) s':=hq;rw [e1] at hq;exact wpAny_truthy_bool hq
  .intro h' tk lV;have e1:(k4 its.toArray.size).any (fun i=>(bs[i]?).getD false)=bs.any id:=by
    have A6:its.toArray.size=bs.length:=by
     rw [K3,<- hl,A2]
    rw [A6,cR,List.any_eq_true,List.any_eq_true]
    constructor
    .rintro ⟨i,hi,hb⟩;rw [aT] at hi;rw [K2 hi,Option.getD_some] at hb;exact ⟨bs[i],List.getElem_mem hi,hb⟩
    .rintro ⟨b,hb,ht⟩;obtain ⟨i,hi,rfl⟩:=e8.mp hb;exact ⟨i,aT.mpr hi,by rw [K2 hi];exact ht⟩
   rw [e1];have I1:Inv X pins Y H { s with heap:=h',toks:=tk }:=I.kept fun b o q=>lV b o (by
    intro hm
    have:b=s.heap.objs.size:=by simpa using hm
    rw [this] at q;exact absurd (Heap.lt_size q) (f7 _)) (hk b o q)
   exact ⟨.bl _,H,I1,rfl,q⟩
theorem q_any(lM:X.calm=calm:=by rfl):QCall X (.builtin "any") (rAnyB calm):=by subst lM;exact ⟨p_any⟩
theorem any_r{cm:Bool} : rAnyB cm [.ref p] H Q=∃ bs:List Bool,cm=true/\H p=some (.lst (bs.map V.bl))/\Q (.bl (bs.any id)) H:=rfl
end
noncomputable def jS (l : Addr) : It :=
  ⟨fun i H => ∃ xs x, H l = some (.lst xs) /\ xs[i]? = some x,
   fun i H v H' => ∃ t xs x, H l = some (.lst xs) /\ xs[i]? = some x /\ H t = none /\ v = .ref t /\ H' = A0 H t (.tup [.int i, x]),
   fun i H => ∃ xs, H l = some (.lst xs) /\ xs.length <= i⟩
theorem ajP{P:Program}{w:World}{pos:Pos}(e it l:Addr)(M7:e≠it) :
  Turn P w K (.Tuple elts x1 pos) (jS l) [e,it] e (fun i h=>(∃ old,IsEnum h e it ((i:Nat):Int) old)/\h.IsListIter it l i) where
 mem:=by simp
 obj:=fun i h ⟨⟨old,he⟩,hi⟩ c hc=>by
  have q:c=e\/c=it:=by simpa using hc
  rcases q with rfl | rfl
  .exact ⟨_,he,fun v q=>by cases q⟩
  .obtain ⟨o,e,c,d⟩:=hi;exact ⟨o,e,fun v z=>by rw [d] at z;cases z⟩
 keep:=fun i h h' ⟨⟨old,he⟩,hi⟩ k=>⟨⟨old,k e (by simp) _ he⟩,hi.at fun o q=>k it (by simp) o q⟩
 item:=by
  intro X hP hw hK hc i pins s Y H E I hf ⟨⟨old,he⟩,hi⟩ hg;subst hP hw hK;obtain ⟨xs,x,e1,hx⟩:=hg;obtain ⟨its1,Y3,p1,_⟩:=I.list (C7.of (K:=X.K) e1);obtain ⟨u1,C5,r1⟩:=Y3.get hx;refine wpAny_pyNext_enum_item he hi p1.isList (x:=u1) (by simpa using C5) M7 fun h' b1 b2 b3 b4 b5=>⟨_,rfl,wpAny_letOwnedTupleGo_enum b1 fun h2' c1 c2=>?_⟩
  have b0:e<s.heap.objs.size:=Heap.lt_size he;have up:∀ c o,c≠e->h'.get? c=some o->h2'.get? c=some o:=fun c o hc q=>(c2.2 c hc).trans q
  have hT:=up _ _ (x0 b0) b3;have nT:∀ c∈[e,it],c≠s.heap.objs.size:=fun c hc=>by
   have q:c=e\/c=it:=by simpa using hc
   refine M0 ?_
   rcases q with rfl | rfl
   .exact b0
   .obtain ⟨o,q,_⟩:=hi;exact Heap.lt_size q
  refine ⟨.ref s.heap.objs.size,A0 H s.heap.objs.size (.tup [.int i,x]),I.turnNew (t':=s.toks+1) (ch:=[e,it]) hf (fun c u hc q=>?_) (B3 _) ⟨by show 2<=sizeLine;decide,[.int i s.toks,u1],.cons ⟨_,rfl⟩ (.cons r1 .nil),?_⟩,rfl,⟨_,xs,x,e1,hx,I.fresh,rfl,rfl⟩,
   ⟨⟨_,c1⟩,b2.at fun o q=>up _ o M7.symm q⟩,fun c hc=>by rw [A4 (nT c hc)];exact (hf c hc).1⟩
  .have q1:c≠e/\c≠it:=⟨fun q=>hc (by simp [q]),fun q=>hc (by simp [q])⟩
   exact up c u q1.1 (b5 c u q1.1 q1.2 q)
  .exact ⟨_,hT,rfl,_,rfl⟩
 done:=by
  intro X hP hw hK hc i pins s Y H E I hf ⟨⟨old,he⟩,hi⟩ hg;subst hP hw hK;obtain ⟨xs,e1,eP⟩:=hg;obtain ⟨its1,Y3,p1,_⟩:=I.list (C7.of (K:=X.K) e1);have q1:=Y3.length;obtain ⟨f0,f1,f2,f3,f4,f5⟩:=hf it (by simp);exact wpAny_pyNext_enum_end (I.ok.hd hc) he hi p1.isList (by simp;lia) fun h' eb=>⟨rfl,I.turned (t':=s.toks) (fun b o hb q=>eb b o hb q) f0 f1 f3 f4 f5⟩
 self:=fun _ _ _ _ _ st h=>by
  obtain ⟨⟨old,he⟩,_⟩:=st;exact wpAny_pyIter_enum he h
section
variable {X:Cx}
noncomputable def iEnum (ta:TA):TI:=fun Y H R=>ta Y H fun vs H1=>∃ (l:Addr) (xs:List V),vs=[.ref l]/\H1 l=some (.lst xs)/\R (jS l) H1
theorem anQ{a:Expr}{p pos:Pos}(hg:Gl X "enumerate")(hm:X.mg "enumerate"=none)(ha:PA X [a] ta)(h1:J9 a=false:=by rfl) :
  PI X (.Tuple elts x1 tpos) (.Call (.Name "enumerate" p) [a] [] pos) (iEnum ta):=by
 intro pins s Y H R I h;refine Call_ (aY I hg hm boot_enumerate (PyProof.Rows.callWith_type1 (A7 (ha pos pins s Y H _ I h) fun us s1 ⟨vs,H1,I1,r1,q1⟩=>?_) (N2 h1) rfl));obtain ⟨l,xs,rfl,e1,q⟩:=q1;obtain ⟨u1,rfl,lR⟩:=vals1 r1
 cases lR
 obtain ⟨its1,Y3,p1,_⟩:=I1.list (C7.of (K:=X.K) e1);refine call_enumerate_list p1.isList fun h' z1 z2 z3 z4=>wpAny_pyIter_enum z1 ?_
 refine ⟨s1.heap.objs.size+1,[s1.heap.objs.size+1,s1.heap.objs.size],_,_,H1,rfl,I1.kept (t':=s1.toks) z4,ajP _ s1.heap.objs.size l (i7 (by lia)),⟨⟨_,z1⟩,z2⟩,fun b hb=>?_,q⟩;have K1:s1.heap.objs.size<=b:=by
  have e:b=s1.heap.objs.size+1\/b=s1.heap.objs.size:=by simpa using hb
  rcases e with rfl | rfl
  .exact aW _ _
  .exact B3 _
 exact I1.fpOk K1 (I1.hok.fresh K1)
theorem oF{a:Expr}{p pos:Pos}(hm:X.mg "enumerate"=none)(ha:QA X [a] ta)(hg:Gl X "enumerate":=by rfl)(h1:J9 a=false:=by rfl) :
  QI X (.Tuple elts x1 tpos) (.Call (.Name "enumerate" p) [a] [] pos) (iEnum ta):=⟨anQ hg hm ha.out h1⟩
end
theorem alF{R:It->Hp->Prop} : iEnum ta Y H R=ta Y H fun vs H1=>∃ (l:Addr) (xs:List V),vs=[.ref l]/\H1 l=some (.lst xs)/\R (jS l) H1:=rfl
theorem forE{l:Addr}(Pv:Nat->St->Hp->Prop)(h0:Pv 0 Y H)(hl:∀ i Y H,Pv i Y H->H l=some (.lst xs))(hs:∀ i x t Y H,xs[i]?=some x->Pv i Y H->H t=none->g (.ref t) Y (A0 H t (.tup [.int i,x])) fun σ2 H2=>tb { D with nx:=Pv (i+1),ct:=Pv (i+1),bk:=D.nx } σ2 H2)(hd:∀ Y H,Pv xs.length Y H->D.nx Y H):ForIt (jS l) g tb D Y H:=by
 refine ⟨fun i m Y H=>m=xs.length-i/\i<=xs.length/\Pv i Y H,⟨xs.length,by simp,G2 _,h0⟩,?_⟩;rintro i m Y H ⟨rfl,hi,p⟩;have e1:=hl i Y H p
 by_cases C3:i<xs.length
 .refine .inr ⟨⟨xs,xs[i],e1,by simp⟩,Pv (i+1),fun σ' H' p'=>⟨_,by lia,rfl,C3,p'⟩,fun v H' y=>?_⟩;obtain ⟨t,xs',x,f1,hx,ht,rfl,rfl⟩:=y;rw [e1] at f1;cases f1;exact hs i x t Y H hx p ht
 .have e:i=xs.length:=by lia
  subst e;exact .inl ⟨⟨xs,e1,by lia⟩,hd Y H p⟩
noncomputable def MO (P:Program) (w:World) (K:PySem.W.Frag) (mg:Str->Option Value) (base:Heap) (k:Nat) (C:Addr) (m:Str) (ps:List Str) (sp:Sp):Prop:=
 ∃ f fd,FnOk P w K mg base E4 k f fd ps sp/\Cls K C/\Meth K C m f/\Binds K fd ps []
noncomputable def KO (P:Program) (w:World) (K:PySem.W.Frag) (mg:Str->Option Value) (base:Heap) (k:Nat) (C:Addr) (x:Str) (ps:List Str) (sp:Sp):Prop:=
 ∃ f fd,FnOk P w K mg base E4 k f fd ps sp/\Mk K C f/\mg x=some (.ref C)/\Binds K fd ps []
section
variable {X:Cx} {k:Nat} {C:Addr} {ps:List Str} {sp:Sp} {x m:Str} {p pos apos:Pos} {e o:Expr} {es:List Expr} {ta:TE} {t:TA}
theorem anR(G:KO X.prog X.w X.K X.mg X.base k C x ps sp)(hr:Room (k+1) X.A)(ha:QA X (e::es) t)(hg:Gl X x:=by rfl)(h1:J9 e=false:=by rfl)(h2:V8 es=true:=by rfl)(G9:(x==("__debug__" : Str))=false:=by decide) :
  QE X (.Call (.Name x p) (e::es) [] pos) (tMake C sp [] E0 t):=by
 obtain ⟨f,fd,F,M,hm,hb⟩:=G;exact ⟨amT M F hr hg hm hb .nil pass0 ha.out G9 (N2 h1) (dD h2)⟩
theorem ajQ(ho:QE X o ta)(G:MO X.prog X.w X.K X.mg X.base k C m ps sp)(hr:Room k X.A)(ha:QA X (e::es) t)(h1:J9 e=false:=by rfl)(h2:V8 es=true:=by rfl){pl:Sem Bool}(ht:eval (.Call (.Attribute o m apos) (e::es) [] pos) X.env=(do
   let ov <- eval o X.env
   standAt apos.atName
   let (f,first) <- holding [ov] (getMethod ov m pl)
   callWith pos f first (backTo pos (starEach (e::es) X.env)) (backToKw pos (keywordEach [] X.env))):=by rfl) :
  QE X (.Call (.Attribute o m apos) (e::es) [] pos) (tMeth C m sp [] E0 ta t):=by
 obtain ⟨f,fd,F,c,hm,hb⟩:=G;exact ⟨amS ho.out c hm F hr hb .nil pass0 ha.out (N2 h1) (dD h2) ht⟩
theorem alG(ho:QE X o ta)(G:MO X.prog X.w X.K X.mg X.base k C m ps sp)(hr:Room k X.A){pl:Sem Bool}(ht:eval (.Call (.Attribute o m apos) [] [] pos) X.env=(do
   let ov <- eval o X.env
   standAt apos.atName
   let (f,first) <- holding [ov] (getMethod ov m pl)
   callWith pos f first (backTo pos (starEach [] X.env)) (backToKw pos (keywordEach [] X.env))):=by rfl) :
  QE X (.Call (.Attribute o m apos) [] [] pos) (tMeth C m sp [] E0 ta tNil):=by
 obtain ⟨f,fd,F,c,hm,hb⟩:=G;exact ⟨akS ho.out c hm F hr hb .nil pass0 ht⟩
end
section
variable {C:Addr} {m f:Str} {sp:Sp} {K:PySem.W.Frag} {ta tv:TE} {t:TA} {Y:St} {H:Hp} {Q:VK} {D:Ends}
theorem anS:tMake C sp [] E0 t Y H Q=t Y H fun vs H1=>∀ x dx,H1 x=none->H1 dx=none->dx≠x->sp (.ref x::(vs++[])) (A0 (A0 H1 dx (.own x)) x (.ins C dx [])) (fun v H2=>v=.non/\Q (.ref x) H2) E0:=rfl
theorem anT:tMeth C m sp [] E0 ta t Y H Q=ta Y H fun x H1=>∃ a dx fs,x=.ref a/\H1 a=some (.ins C dx fs)/\fs.lookup m=none/\t Y H1 fun vs H2=>sp (x::(vs++[])) H2 Q E0:=rfl
theorem aqL:tFld K ta f Y H Q=ta Y H fun x H1=>∃ a C dx fs v,x=.ref a/\H1 a=some (.ins C dx fs)/\Cls K C/\NoAttr K C f/\fs.lookup f=some v/\Q v H1:=rfl
theorem anU:sFld K ta tv f D Y H=tv Y H fun y H1=>ta Y H1 fun x H2=>∃ a C dx fs,x=.ref a/\H2 a=some (.ins C dx fs)/\Cls K C/\NoAttr K C f/\fs.length<1000/\D.nx Y (A0 H2 a (.ins C dx (putF f y fs))):=rfl
end
section
variable {X:Cx} {o e:Expr} {apos cpos:Pos} {td ty:TE}
theorem oG(hu:X.A.units+1<cLine)(ho:QE X o td)(he:QE X e ty)(h1:J9 e=false:=by rfl)(D9:attributeBase o "get" X.env (eval o X.env)=eval o X.env:=by rfl)(E6:(apos.endLine==cpos.line)=true:=by rfl):QE X (.Call (.Attribute o "get" apos) [e] [] cpos) (sE td ty):=
 ⟨ak1 hu ho.out he.out ⟨D9,by rw [N2 h1];rfl,E6,by rw [N2 h1];rfl⟩⟩
theorem alH : sE td ty Y H Q=td Y H fun x H1=>∃ a,x=.ref a/\dB H1 a/\ty Y H1 fun y H2=>∃ o,DGet H2 a y o/\Q (o.getD .non) H2:=rfl
end
end L2
set_option maxRecDepth 100000
namespace L2
open PySem PySem.Spec PyProof.Rows
noncomputable abbrev Rl:=Str×List Str
noncomputable def tupR (z:Rl):HO:=.tup ((z.1::z.2).map V.str)
structure IsRules(H:Hp)(a:Addr)(rs:List Addr)(R:List Rl):Prop where
 top:H a=some (.lst (rs.map V.ref))
 row:Paired (fun r z=>H r=some (tupR z)) rs R
theorem IsRules.same{R:List Rl}(h:IsRules H a rs R)(s:Same H H'):IsRules H' a rs R:=⟨s _ _ h.top,K7 h.row fun _ _ e=>s _ _ e⟩
theorem IsRules.len{R:List Rl}(h:IsRules H a rs R):rs.length=R.length:=Paired.length h.row
noncomputable def O7 (z:Rl):List Str:=if z.1=("great" : Str) then z.2.drop 1 else if z.1=("as" : Str) then z.2.take 1 else if z.1=("row" : Str)\/z.1=("marks" : Str)\/z.1=("over" : Str) then z.2 else []
noncomputable def jobD (w:Str):Str:=if w=("row" : Str) then "letter" else if w=("marks" : Str) then "mark" else w
noncomputable def C8 (R:List Rl):List (Str×Str):=R.flatMap fun z=>(O7 z).map fun p=>(p,jobD z.1)
noncomputable def hasW (R:List Rl) (w:Str):Bool:=R.any fun z=>decide (z.1=w)
noncomputable def figO (c:Nat):Bool:=decide (48<=c)&&decide (c<=57)
noncomputable def jT:List Str:=["letter", "mark", "over"]
noncomputable def NC (figs:Bool) (g:Str->Str) (PL:List (Str×Str)):Prop:=∀ i p j,PL[i]?=some (p,j)->j=g p/\(p∈(PL.take i).map (·.1)->j∈jT)/\(figs=true->∀ c∈p.cps.toList,figO c=false)/\p.length<=1000
noncomputable def keysP (PL:List (Str×Str)):List Str:=G3 [] (PL.map (·.1))
theorem aeS{R:List Rl}{z:Rl}(h:R[i]?=some z):C8 (R.take (i+1))=C8 (R.take i)++(O7 z).map fun p=>(p,jobD z.1):=by
 rw [j7,h];unfold C8;rw [p0]
 simp
theorem agc(R:List Rl)(i:Nat):∃ more,C8 R=C8 (R.take i)++more:=⟨C8 (R.drop i),by
 unfold C8;rw [<- p0,j6]⟩
theorem aiu(PL:List (Str×Str))(p j:Str):keysP (PL++[(p,j)])=dd (keysP PL) p:=by
 unfold keysP G3;rw [E1,p4];rfl
theorem oH(x:Str)(PL:List (Str×Str)):x∈keysP PL↔x∈PL.map (·.1):=by
 unfold keysP;rw [q9]
 simp
theorem tH(PL:List (Str×Str)):(keysP PL).length<=PL.length:=by
 have:=jN (PL.map (·.1)) []
 rw [A2] at this
 simpa [keysP] using this
noncomputable def rowsW (R:List Rl) (w:Str):List (List Str):=(R.filter fun z=>decide (z.1=w)).map (·.2)
theorem aeT{R:List Rl}{z:Rl}{w:Str}(h:R[i]?=some z):rowsW (R.take (i+1)) w=if z.1=w then rowsW (R.take i) w++[z.2] else rowsW (R.take i) w:=by
 rw [j7,h];unfold rowsW;rw [cO,E1]
 by_cases e:z.1=w
 .rw [if_pos e,Option.toList_some,iS (by simpa using e)];rfl
 .rw [if_neg e,Option.toList_some,iT (by simpa using e)];simp
theorem r8{hi:Option Int}(hk:1<=k)(hn:1<=n):¬ (HT.sIx n 0 (some (k:Int))=0/\HT.sIx n n hi=n):=fun h=>by
 have:=h.1
 rw [HT.sIx_nat] at this;lia
noncomputable abbrev jobsL:List (B5×V):=[((Sum.inr ("row" : Str):B5),V.str "letter"),(Sum.inr ("marks" : Str),V.str "mark"),(Sum.inr ("great" : Str),V.str "great"),(Sum.inr ("as" : Str),V.str "as"),(Sum.inr ("over" : Str),V.str "over")]
noncomputable def dL (w:Str):Prop:=w=("row" : Str)\/w=("marks" : Str)\/w=("great" : Str)\/w=("as" : Str)\/w=("over" : Str)
theorem tI{w:Str}(h:dL w):valV jobsL (Sum.inr w)=some (.str (jobD w)):=by
 rcases h with rfl | rfl | rfl | rfl | rfl <;> decide +kernel
theorem alI{w:Str}(h:¬ dL w):valV jobsL (Sum.inr w)=none:=by
 unfold dL at h;have n:∀ u:Str,w≠u->¬ ((Sum.inr u:B5)=Sum.inr w):=fun u hu e=>hu (Sum.inr.inj e).symm
 rw [x8 (n _ (fun e=>h (.inl e))),x8 (n _ (fun e=>h (.inr (.inl e)))),x8 (n _ (fun e=>h (.inr (.inr (.inl e))))),x8 (n _ (fun e=>h (.inr (.inr (.inr (.inl e)))))),x8 (n _ (fun e=>h (.inr (.inr (.inr (.inr e))))))];rfl
theorem jU{z:Rl}{p:Str}(h:p∈O7 z):dL z.1:=by
 unfold O7 at h;unfold dL
 split at h
 .rename_i e;exact .inr (.inr (.inl e))
 .split at h
  .rename_i e;exact .inr (.inr (.inr (.inl e)))
  .split at h
   .rename_i e
    rcases e with e | e | e
    .exact .inl e
    .exact .inr (.inl e)
    .exact .inr (.inr (.inr (.inr e)))
   .cases h
theorem aqM{R:List Rl}{z:Rl}{p:Str}(hz:R[i]?=some z)(hp:(O7 z)[j]?=some p) :
  (C8 R)[(C8 (R.take i)).length+j]?=some (p,jobD z.1)/\(C8 R).take ((C8 (R.take i)).length+j)=C8 (R.take i)++((O7 z).take j).map fun p=>(p,jobD z.1):=by
 obtain ⟨more,e⟩:=agc R (i+1);rw [aeS hz,Z0] at e;have hj:j<(O7 z).length:=(G1.mp hp).1;rw [e]
 constructor
 .rw [iR (aW _ _),Nat.add_sub_cancel_left,fB (by rw [A2];exact hj),P6,hp];rfl
 .rw [List.take_append,X3 (aW _ _),Nat.add_sub_cancel_left,List.take_append_of_le_length (by rw [A2];lia),aU]
theorem aqN{c d:Nat} : (([c]:List Nat)<[d])↔c<d:=by
 constructor
 .intro h;cases h with
  | rel h=>exact h
  | cons h=>cases h
 .intro h;exact List.Lex.rel h
theorem C4.same(e:Same H H')(h:C4 K H a xs):C4 K H' a xs:=by
 rcases h with (h | ⟨o,h⟩) | h
 .exact .inl (.inl (e _ _ h))
 .exact .inl (.inr ⟨o,e _ _ h⟩)
 .exact .inr h
theorem C4.dput{d:Addr}{o:HO}(hd:H d=some (.dK kvs))(h:C4 K H a xs):C4 K (A0 H d o) a xs:=by
 rcases h with (h | ⟨o,h⟩) | h
 .exact .inl (.inl (by rw [A4 (fun e=>by rw [e,hd] at h;cases h)];exact h))
 .exact .inl (.inr ⟨o,by rw [A4 (fun e=>by rw [e,hd] at h;cases h)];exact h⟩)
 .exact .inr h
noncomputable def spHas (K:PySem.W.Frag):Sp:=fun vs H Q _=>∃ (a:Addr) (ts:List Addr) (R:List Rl) (w:Str),vs=[.ref a,.str w]/\IsRules H a ts R/\R.length<=1000/\∀ H',Same H H'->Q (.bl (hasW R w)) H'
noncomputable def ajR (K:PySem.W.Frag):Sp:=fun vs H Q _=>∃ (t:Addr) (z:Rl),vs=[.ref t]/\H t=some (tupR z)/\∀ p H',Same H H'->C4 K H' p ((O7 z).map V.str)->Q (.ref p) H'
noncomputable def ajS:Sp:=fun vs H Q _=>∃ (d:Addr) (p j:Str) (fg:Bool) (ks:List Str) (g:Str->Str),vs=[.ref d,.str p,.str j,.bl fg]/\H d=some (.dK (C1 ks fun t=>.str (g t)))/\p.length<=1000/\(p∈ks->g p=j/\j∈jT)/\(fg=true->∀ c∈p.cps.toList,figO c=false)/\
 ∀ H',Same H H'->Q (.bl false) H'
noncomputable def U7 (R:List Rl):List Str:=if hasW R "blanks"=true then [" "] else []
noncomputable def jobG (g:Str->Str):Str->V:=fun t=>if t=(" " : Str) then .str "over" else .str (g t)
noncomputable def amp (K:PySem.W.Frag):Sp:=fun vs H Q _=>∃ (a:Addr) (ts:List Addr) (R:List Rl) (g:Str->Str),vs=[.ref a]/\IsRules H a ts R/\R.length<=1000/\(C8 R).length<=10000/\NC (hasW R "figures") g (C8 R)/\(" " : Str)∉(C8 R).map (·.1)/\
 ∀ d H',H d=none->Same H H'->H' d=some (.dK (C1 (keysP (C8 R)++U7 R) (jobG g)))->Q (.ref d) H'
noncomputable def ordF (f b:Bool) (j ll ml md:Addr):List (Str×V):=putF "made" (.ref md) (putF "mark_line" (.ref ml) (putF "letter_line" (.ref ll) (putF "jobs" (.ref j) (putF "behind" (.bl b) (putF "figures" (.bl f) [])))))
theorem adL(f b:Bool)(j ll ml md:Addr):(ordF f b j ll ml md).lookup ("figures" : Str)=some (V.bl f):=by
 unfold ordF;rw [K9,if_neg (by decide +kernel),K9,if_neg (by decide +kernel),K9,if_neg (by decide +kernel),K9,if_neg (by decide +kernel),K9,if_neg (by decide +kernel),K9,if_pos rfl]
theorem agY(f b:Bool)(j ll ml md:Addr):(ordF f b j ll ml md).lookup ("behind" : Str)=some (V.bl b):=by
 unfold ordF;rw [K9,if_neg (by decide +kernel),K9,if_neg (by decide +kernel),K9,if_neg (by decide +kernel),K9,if_neg (by decide +kernel),K9,if_pos rfl]
theorem agd(f b:Bool)(j ll ml md:Addr):(ordF f b j ll ml md).lookup ("jobs" : Str)=some (V.ref j):=by
 unfold ordF;rw [K9,if_neg (by decide +kernel),K9,if_neg (by decide +kernel),K9,if_neg (by decide +kernel),K9,if_pos rfl]
theorem age(f b:Bool)(j ll ml md:Addr):(ordF f b j ll ml md).lookup ("letter_line" : Str)=some (V.ref ll):=by
 unfold ordF;rw [K9,if_neg (by decide +kernel),K9,if_neg (by decide +kernel),K9,if_pos rfl]
theorem aiv(f b:Bool)(j ll ml md:Addr):(ordF f b j ll ml md).lookup ("mark_line" : Str)=some (V.ref ml):=by
 unfold ordF;rw [K9,if_neg (by decide +kernel),K9,if_pos rfl]
theorem tJ(f b:Bool)(j ll ml md:Addr)(h:m∉(["made", "mark_line", "letter_line", "jobs", "behind", "figures"]:List Str)):(ordF f b j ll ml md).lookup m=none:=by
 unfold ordF;have n:∀ u∈(["made", "mark_line", "letter_line", "jobs", "behind", "figures"]:List Str),¬ m=u:=fun u hu e=>h (by rw [e];exact hu)
 rw [K9,if_neg (n _ (by simp)),K9,if_neg (n _ (by simp)),K9,if_neg (n _ (by simp)),K9,if_neg (n _ (by simp)),K9,if_neg (n _ (by simp)),K9,if_neg (n _ (by simp))];rfl
theorem IsRules.but{x:Addr}{R:List Rl}(h:IsRules H a rs R)(s:SameBut x H H'){fs:List (Str×V)}(hx:H x=some (.ins C dx fs)):IsRules H' a rs R:=
 ⟨s _ _ (fun e=>by have:=h.top;rw [e,hx] at this;cases this) h.top,K7 h.row fun t z e=>s _ _ (fun q=>by rw [q,hx] at e;cases e) e⟩
theorem SameBut.trans{x:Addr}(a:SameBut x H H1)(b:SameBut x H1 H2):SameBut x H H2:=fun c o hc h=>b c o hc (a c o hc h)
theorem Same.but{x:Addr}(a:Same H H1):SameBut x H H1:=fun c o _ h=>a c o h
noncomputable def X9 (R:List Rl) (w:Str) (L:List Str):Prop:=R9 (edges (rowsW R w)) (toldL (rowsW R w)) L/\∀ p∈toldL (rowsW R w),p∈L
structure IsOrder(C:Addr)(H:Hp)(x:Addr)(g:Str->Str)(R:List Rl)(L M:List Str):Prop where
 ob:∃ dx j ll ml md,H x=some (.ins C dx (ordF (hasW R "figures") (hasW R "behind") j ll ml md))/\H j=some (.dK (C1 (keysP (C8 R)++U7 R) (jobG g)))/\H ll=some (.lst (L.map V.str))/\H ml=some (.lst (M.map V.str))
 l1:X9 R "row" L
 l2:X9 R "marks" M
noncomputable def amq (K:PySem.W.Frag):Sp:=fun vs H Q _=>∃ (a:Addr) (ts:List Addr) (R:List Rl) (w:Str) (rank:Str->Nat),vs=[.ref a,.str w]/\IsRules H a ts R/\R.length<=1000/\(rowsW R w).flatten.length<=100000/\(∀ e∈edges (rowsW R w),rank e.1<rank e.2)/\
 ∀ (l:Addr) (line:List Str) (H':Hp),H l=none->Same H H'->H' l=some (.lst (line.map V.str))->R9 (edges (rowsW R w)) (toldL (rowsW R w)) line->(∀ p∈toldL (rowsW R w),p∈line)->Q (.ref l) H'
noncomputable def cellF (ns:List Int) (k:Int):Int:=if k<(ns.length:Int) then ns.getD k.toNat 0 else 0
noncomputable def oI (K:PySem.W.Frag):Sp:=fun vs H Q _=>∃ (a:Addr) (ns:List Int) (k:Int),vs=[.ref a,.int k]/\C7 K H a (ns.map V.int)/\0<=k/\Q (.int (cellF ns k)) H
noncomputable def LA:List Nat:=SG.filter fun c=>!figO c
noncomputable def LB:List Nat:=LA++[48,49,50,51,52,53,54,55,56,57]
noncomputable def listF (d:Bool):List Nat:=if d=true then LB else LA
noncomputable def lenF (d:Bool):Int:=if d=true then 93 else 83
noncomputable def tK (ns:List Int):Bool:=decide (cellF ns 1 / 12 % 2=0)
noncomputable def stepO:List Int:=[1,2,4,5,7,8,10,11,13,23,44,80]
noncomputable def stO (ns:List Int):Int:=(G0 stepO (cellF ns 1 % 12)).getD 0
noncomputable def gH (ns:List Int) (k:Int):Nat:=(G0 (listF (tK ns)) ((cellF ns 0+k*stO ns) % lenF (tK ns))).getD 33
theorem aqO{l:List Nat}(nd:l.Nodup){i j:Int}(h0:0<=i)(h1:i<l.length)(h2:0<=j)(h3:j<l.length)(h:(G0 l i).getD 33=(G0 l j).getD 33):i=j:=by
 have li:i.toNat<l.length:=by lia
 have lj:j.toNat<l.length:=by lia
 have a1:G0 l i=some l[i.toNat]:=by
  have:=P8 (xs:=l) (j:=i.toNat) (v:=l[i.toNat]) (K2 li)
  rw [show ((i.toNat:Nat):Int)=i by lia] at this;exact this
 have a2:G0 l j=some l[j.toNat]:=by
  have:=P8 (xs:=l) (j:=j.toNat) (v:=l[j.toNat]) (K2 lj)
  rw [show ((j.toNat:Nat):Int)=j by lia] at this;exact this
 rw [a1,a2] at h
 have:=(d0.mp nd)
 rw [cL] at this
 rcases Nat.lt_trichotomy i.toNat j.toNat with z | z | z
 .exact absurd h (this _ _ li lj z)
 .lia
 .exact absurd h.symm (this _ _ lj li z)
theorem aiw{m s t b k l:Int}(ht:s*t % m=1)(e:(b+k*s) % m=(b+l*s) % m)(h0:0<=k)(h1:k<m)(h2:0<=l)(h3:l<m):k=l:=by
 have d1:m ∣ (k-l)*s:=by
  have:=Int.dvd_of_emod_eq_zero (Int.emod_eq_emod_iff_emod_sub_eq_zero.mp e)
  rwa [show (b+k*s)-(b+l*s)=(k-l)*s by rw [Int.sub_mul];lia] at this
 have d3:m ∣ (k-l)*(s*t):=by rw [<- Int.mul_assoc];exact Int.dvd_mul_of_dvd_left d1
 have d4:m ∣ s*t-1:=⟨s*t / m,by have:=Int.emod_add_mul_ediv (s*t) m;lia⟩
 have d5:m ∣ (k-l)*(s*t-1):=Int.dvd_mul_of_dvd_right d4;have d6:=Int.dvd_sub d3 d5;rw [show (k-l)*(s*t)-(k-l)*(s*t-1)=k-l by rw [Int.mul_sub,Int.mul_one];lia] at d6;have d7:=Int.emod_eq_emod_iff_emod_sub_eq_zero.mpr (Int.emod_eq_zero_of_dvd d6)
 rwa [Int.emod_eq_of_lt h0 h1,Int.emod_eq_of_lt h2 h3] at d7
end L2
set_option maxRecDepth 100000
namespace L2
open PySem PySem.Spec PyProof.Rows
open AutoSeq1 (wpAny_loadPart' idx_int)
noncomputable abbrev bareL (ys:Array Value) (k:Nat):Obj:=⟨.type "list",none,.seq ys k,#[]⟩
noncomputable abbrev anyT (dd:Option Addr) (ys:Array Value) (k:Nat) (ss:Array (Option Value)):Obj:=⟨.type "tuple",dd,.seq ys k,ss⟩
theorem aec{l:Addr}{ys zs:Array Value}{k2:Nat}{dd:Option Addr}(short:¬ (!ys.isEmpty&&Builtin.List.listTooLong (ys.size+zs.size))=true)(h1:ys.size<=sizeLine)(h2:ys.size+zs.size<=sizeLine+1) :
  Meets (Builtin.«list.extend» ⟨[.ref l,.ref b],[]⟩) (fun _ R s=>s.heap.get? l=some (bareL ys k)/\s.heap.get? b=some (anyT dd zs k2 ss)/\R (.ok (.ret .none)) { s with heap:=s.heap.update l (Obj.mapSeq (·++zs)),toks:=s.toks }):=by
 refine .of_wp fun _ _ _ R s ⟨gl,gb,fin⟩=>?_
 rcases s with ⟨hp,gens,dr,tk,sys⟩
 have c1:=idx_int;have c2:=AutoSeq1.sub_tuple_tuple;have c3:=AutoSeq1.sub_list_list;have c4:=AutoSeq1.sub_tuple_list;have c5:=AutoSeq1.sub_list_tuple;have room:(ys++zs).size<=sizeLine+1:=Array.size_append ▸ h2
 wp_walk using (wpAny_updateSeq gl rfl (hz:=h1) (_hz':=room)),wpAny_loadPart' gl,wpAny_loadPart' gb
 exact ⟨_,rfl,fin⟩
section
variable {X:Cx}
noncomputable def ahN (K:PySem.W.Frag):V->List V->Hp->VK->Prop:=fun x vs H Q=>∃ l b xs zs,x=.ref l/\vs=[.ref b]/\H l=some (.lst xs)/\C4 K H b zs/\xs.length+zs.length<=sizeLine/\Q .non (A0 H l (.lst (xs++zs)))
theorem aix:nJ X "list.extend" (ahN X.K):=by
 intro pins s Y H x vs v us Q I rx rv h;obtain ⟨l,b,xs,zs,rfl,rfl,hH,hB,hz,q⟩:=h
 cases rx
 obtain ⟨u,rfl,ru⟩:=rv.one
 cases ru
 obtain ⟨z,its,n,r,hl,e⟩:=I.lstM hH;obtain ⟨its2,r2,⟨⟨c,dct,dt,sl⟩,e2,hc,n2,hd⟩,v6⟩:=I.tuple hB
 replace hc:c=.type "tuple":=hc
 replace hd:dt=.seq its2.toArray n2:=hd
 subst hc hd;have q1:=r2.length;have hsz:its.toArray.size+its2.toArray.size<=sizeLine:=by rw [K3,K3];lia
 have n8:¬ (!its.toArray.isEmpty&&Builtin.List.listTooLong (its.toArray.size+its2.toArray.size))=true:=by
  rw [zL hsz,Bool.and_false];exact K5
 refine call_meets F.slot_list_extend ⟨_,e,rfl⟩ F.entry_list_extend (F.args_list_extend_2 _ _)
  (aec (k:=n) (k2:=n2) (dd:=dct) (ss:=sl) n8 (by rw [K3];lia) (by lia)) ⟨e,e2,?_⟩
 refine ⟨.non,_,I.lset (its':=its++its2) hH e (by simp) (r.append r2) ?_,rfl,q⟩;rw [D1];lia
theorem ajT(hK:X.K=K:=by rfl):QMt X "list.extend" (ahN K):=by subst hK;exact ⟨fun pins s Y H x xs v us Q I rx rv h=>aix pins s Y H x xs v us Q I rx rv h⟩
end
noncomputable def Itv (l : Addr) (n : Nat) : It :=
  ⟨fun i H => ∃ xs x, H l = some (.lst xs) /\ i<n /\ xs[n-1-i]? = some x,
   fun i H v H' => H' = H /\ ∀ xs, H l = some (.lst xs) -> xs[n-1-i]? = some v,
   fun i H => ∃ xs, H l = some (.lst xs) /\ n <= i⟩
section
variable {X:Cx}
noncomputable def iRev (ta:TA):TI:=fun Y H R=>ta Y H fun vs H1=>∃ (l:Addr) (xs:List V),vs=[.ref l]/\H1 l=some (.lst xs)/\R (Itv l xs.length) H1
end
theorem anV{R:It->Hp->Prop} : iRev ta Y H R=ta Y H fun vs H1=>∃ (l:Addr) (xs:List V),vs=[.ref l]/\H1 l=some (.lst xs)/\R (Itv l xs.length) H1:=rfl
noncomputable abbrev bF (l:Addr):Obj:={ cls:=.type "list_iterator",data:=.fields #[.ref l,.int 0 0] }
noncomputable abbrev gI (it:Addr) (i:Int):Obj:={ cls:=.type "enumerate",data:=.fields #[.none,.bool false,.ref it,rawInt i,.none,.none] }
noncomputable abbrev anyL (dd:Option Addr) (ys:Array Value) (k:Nat) (ss:Array (Option Value)):Obj:=⟨.type "list",dd,.seq ys k,ss⟩
set_option maxHeartbeats 4000000 in
theorem aex{l:Addr}{ys:Array Value}{dd:Option Addr}{i:Int}{t:Tok}(fits:Builtin.SmallTypes.fitsIndex i=true) :
  Meets (Builtin.«enumerate.__new__» ⟨[.type "enumerate",.ref l],[("start",.int i t)]⟩) (fun _ R s=>s.heap.get? l=some (anyL dd ys k ss)/\
   R (.ok (.ret (.ref (s.heap.push (bF l)).objs.size))) { s with heap:=(s.heap.push (bF l)).push (gI s.heap.objs.size i) }):=by
 refine .of_wp fun _ _ _ R s ⟨gl,fin⟩=>?_
 rcases s with ⟨hp,gens,dr,tk,sys⟩
 have c1:=sub_enumerate;have isl:Heap.IsList (Shared.heap ⟨hp,gens,dr,tk,sys⟩) l ys:=⟨_,gl,rfl,k,rfl⟩
 wp_walk using wpAny_loadPart' gl
 refine wpAny_stack_any fun _=>wpAny_pure ?_
 split
 case h_1 c _ _ _ _ _=>
  generalize (c==Value.type "enumerate")=truth
  cases truth <;> (wp_walk using wpAny_loadPart' gl,wpAny_pyIter_list isl;exact ⟨_,rfl,fin⟩)
 case h_2=>(wp_walk using wpAny_loadPart' gl,wpAny_pyIter_list isl;exact ⟨_,rfl,fin⟩)
theorem aiy(a b:Value):checkTypeCall "enumerate" ⟨[a],[("start",b)]⟩=pure ():=by kernel_rfl
theorem ajU(a b:Value):checkBuiltinCall "enumerate.__new__" ⟨[.type "enumerate",a],[("start",b)]⟩=pure ():=by kernel_rfl
theorem aiz(a b c:Value):argsOk "object.__init__" ⟨[a,b],[("start",c)]⟩:=by
 unfold argsOk;rw [signature?_of (id:="object.__init__") (n:="__init__".toList.reverse) (o:="object".toList.reverse) (by kernel_rfl) F.owner_object]
 kernel_rfl
theorem ajV{self b c:Value} : Meets (Builtin.«object.__init__» ⟨[self,b],[("start",c)]⟩) (fun _ R s=>s.TypeIs self "enumerate"/\R (.ok (.ret .none)) s):=by
 have c1:=F.called_enumerate.init.lookup;have c2:=F.called_enumerate.made;refine .of_wp fun _ _ _ R s ⟨isT,fin⟩=>?_
 repeat (any_goals (first | assumption | wp_step))
 exact ⟨_,rfl,fin⟩
section
variable {prog:Program} {w:World} {A:Around} {E:Value->Shared->Prop} {s:Shared}
theorem aed{l:Addr}{ys:Array Value}{i:Int}{t:Tok}{Q:Value->Shared->Prop}(isl:s.heap.IsList l ys)(fits:Builtin.SmallTypes.fitsIndex i=true)(fin:∀ h',IsEnum h' (s.heap.objs.size+1) s.heap.objs.size i .none->h'.IsListIter s.heap.objs.size l 0->(∀ b o,s.heap.get? b=some o->h'.get? b=some o)->Q (.ref (s.heap.objs.size+1)) { s with heap:=h' }) :
  wpAny (model prog w) A (call (.type "enumerate") [.ref l] [("start",.int i t)]) Q E s:=by
 obtain ⟨⟨c,dd,dt,ss⟩,gl,hc,k,hd⟩:=isl;obtain rfl:c=.type "list":=hc;obtain rfl:dt=.seq ys k:=hd;obtain ⟨hd0,tl,c1⟩:=F.called_enumerate.mro;have c2:=F.called_enumerate.made;have c3:=F.called_enumerate.sub;have c4:=F.called_enumerate.notType;have c5:=F.called_enumerate.canCreate;have c6:=F.called_enumerate.init.lookup;have c7:=aiy (.ref l) (.int i t);refine wpAny_call (codeAny_of_tree (show wpAny _ _ (callAny (.type "enumerate") _) _ _ _ from wpAny_pure ⟨Code.quiet_builtin _ (by decide +kernel),codeAny_builtin F.entry_type_call ?_⟩));rw [Around.under_plain (weight_type_call_type "enumerate" [.ref l] [("start",.int i t)]) (units_type_call_type "enumerate" [.ref l] [("start",.int i t)])]
 repeat (any_goals (first | assumption | wp_step))
 have z:(s.heap.push (bF l)).objs.size=s.heap.objs.size+1:=Heap.size_push ..;have made:IsEnum ((s.heap.push (bF l)).push (gI s.heap.objs.size i)) (s.heap.objs.size+1) s.heap.objs.size i .none:=by
  have g:=Heap.get?_push_size (s.heap.push (bF l)) (o:=gI s.heap.objs.size i) rfl;rw [z] at g;exact g
 have done:=fin _ made ⟨_,Heap.get?_push_of_some _ (Heap.get?_push_size _ rfl),rfl,rfl⟩ fun b o g=>Heap.get?_push_of_some _ (Heap.get?_push_of_some _ g)
 refine codeAny_mono (codeAny_call_builtin F.called_enumerate.plain F.entry_enumerate_new (wpAny_of_eq (ajU _ _) (aex (dd:=dd) (k:=k) (ss:=ss) fits prog w A.in1 (wants (fun v s2=>v=.ref (s.heap.objs.size+1)/\s2={ s with heap:=(s.heap.push (bF l)).push (gI s.heap.objs.size i) }) E) s ⟨gl,?_,?_⟩))) ?_
 .rw [z]
 .rfl
 .intro r s1 hr
  rcases r with e | fl
  .exact hr
  .cases fl with
   | ret v=>
    obtain ⟨rfl,rfl⟩:=hr;have isT:Shared.TypeIs { s with heap:=(s.heap.push (bF l)).push (gI s.heap.objs.size i) } (.ref (s.heap.objs.size+1)) "enumerate":=⟨_,made,rfl⟩
    have c8:=F.called_enumerate.init.bind (.ref (s.heap.objs.size+1))
    repeat (any_goals (first | assumption | wp_step))
    have ran:=ajV (self:=.ref (s.heap.objs.size+1)) (b:=.ref l) (c:=.int i t) prog w A.in1 (wants (fun v s2=>v=.none/\s2={ s with heap:=(s.heap.push (bF l)).push (gI s.heap.objs.size i) }) E) _ ⟨isT,rfl,rfl⟩;refine codeAny_mono (codeAny_call_builtin F.called_enumerate.init.plain F.entry_object_init (F.called_enumerate.init.check _ _ _ _ _ _ _ _ isT (aiz _ _ _) ran)) fun r s2 hr=>?_
    rcases r with e | fl
    .exact hr
    .cases fl with
     | ret v=>
      obtain ⟨rfl,rfl⟩:=hr
      repeat (any_goals (first | assumption | wp_step))
     | next=>exact hr.elim
     | brk=>exact hr.elim
     | cont=>exact hr.elim
   | next=>exact hr.elim
   | brk=>exact hr.elim
   | cont=>exact hr.elim
end
theorem aqP{w:World}(calm:A.handled=none){l:Addr}(apart:l≠it)(ys:Array Value) :
  Draws prog w A it [it,l] (ys.size+1) (fun i v=>1<=i/\ys[i-1]?=some v) (fun i h=>1<=i/\h.IsListIter it l (i-1)/\h.IsList l ys):=by
 have D:=Draws.list (prog:=prog) (w:=w) calm it l apart ys;refine ⟨fun i h st=>D.live (i-1) h st.2,fun i h h' st same=>⟨st.1,D.frame (i-1) h h' st.2 same⟩,fun i s Q E hi st fin=>?_,fun s Q E st fin=>D.done s Q E st.2 fin⟩;refine D.item (i-1) s Q E (by have:=st.1;lia) st.2 fun x h' tk px st' sb=>fin x h' tk ⟨st.1,px⟩ ⟨by lia,?_⟩ sb
 rw [show i+1-1=i-1+1 by have:=st.1;lia];exact st'
theorem aqQ{w : World}(calm : A.handled = none){l: Addr}{ys : Array Value}(none : ys[i]? = none) :
    Draws prog w A it [it, l] (i+1) (fun _ _ => True) (fun k h => k = i+1 /\ h.IsListIter it l i /\ h.IsList l ys) :=
  ⟨fun _ _ st => let ⟨o, ho, _⟩ := st.2.1; ⟨o, ho⟩, fun _ _ _ st same => ⟨st.1, st.2.1.at fun o g => same it (by simp) o g, st.2.2.at fun o g => same l (by simp) o g⟩,
   fun k s Q E hk st => absurd st.1 (by lia), fun s Q E st fin => wpAny_nextOf_list_end calm st.2.1 st.2.2 none fin⟩
noncomputable def Ite1 (l : Addr) : It :=
  ⟨fun i H => ∃ xs x, H l = some (.lst xs) /\ xs[i]? = some x,
   fun i H v H' => ∃ t xs x, H l = some (.lst xs) /\ xs[i]? = some x /\ H t = none /\ v = .ref t /\ H' = A0 H t (.tup [.int (i+1 : Nat), x]),
   fun i H => ∃ xs, H l = some (.lst xs) /\ xs.length <= i⟩
theorem aiA{P:Program}{w:World}{pos:Pos}(e it l:Addr)(M7:e≠it) :
  Turn P w K (.Tuple elts x1 pos) (Ite1 l) [e,it] e (fun i h=>(∃ old,IsEnum h e it ((i+1:Nat):Int) old)/\h.IsListIter it l i) where
 mem:=by simp
 obj:=fun i h ⟨⟨old,he⟩,hi⟩ c hc=>by
  have q:c=e\/c=it:=by simpa using hc
  rcases q with rfl | rfl
  .exact ⟨_,he,fun v q=>by cases q⟩
  .obtain ⟨o,e,c,d⟩:=hi;exact ⟨o,e,fun v z=>by rw [d] at z;cases z⟩
 keep:=fun i h h' ⟨⟨old,he⟩,hi⟩ k=>⟨⟨old,k e (by simp) _ he⟩,hi.at fun o q=>k it (by simp) o q⟩
 item:=by
  intro X hP hw hK hc i pins s Y H E I hf ⟨⟨old,he⟩,hi⟩ hg;subst hP hw hK;obtain ⟨xs,x,e1,hx⟩:=hg;obtain ⟨its1,Y3,p1,_⟩:=I.list (C7.of (K:=X.K) e1);obtain ⟨u1,C5,r1⟩:=Y3.get hx;have C3:i<its1.length:=(G1.mp C5).1;obtain ⟨ol,gl,cl,_⟩:=p1.isList;have nli:l≠it:=fun q=>by
   obtain ⟨oi,gi,ci,_⟩:=hi;rw [q,gi] at gl
   cases gl
   rw [ci] at cl;exact absurd cl (by decide)
  have nle:e≠l:=fun q=>by
   rw [<- q,he] at gl
   cases gl
   exact absurd (show Value.type "enumerate"=Value.type "list" from cl) (by decide)
  refine wpAny_pyNext_enum_itemD (i:=i+1) (aqP (A:=X.A.in1) (show X.A.in1.handled=none from I.ok.hd hc) nli its1.toArray) he ⟨by lia,by simpa using hi,p1.isList⟩ (by simp;lia) M7 (by simp [M7,nle]) fun y h' tk py b1 b2 b3 b4 b5=>?_
  obtain rfl:u1=y:=by
   have:=py.2
   simp [C5] at this;exact this
  refine ⟨_,rfl,wpAny_letOwnedTupleGo_enum b1 fun h2' c1 c2=>?_⟩;have b0:e<s.heap.objs.size:=Heap.lt_size he;have up:∀ c o,c≠e->h'.get? c=some o->h2'.get? c=some o:=fun c o hc q=>(c2.2 c hc).trans q
  have hT:=up _ _ (x0 b0) b3;have nT:∀ c∈[e,it],c≠s.heap.objs.size:=fun c hc=>by
   have q:c=e\/c=it:=by simpa using hc
   refine M0 ?_
   rcases q with rfl | rfl
   .exact b0
   .obtain ⟨o,q,_⟩:=hi;exact Heap.lt_size q
  refine ⟨.ref s.heap.objs.size,A0 H s.heap.objs.size (.tup [.int (i+1:Nat),x]),I.turnNew (t':=tk+1) (ch:=[e,it]) hf (fun c u hc q=>?_) (B3 _) ⟨by show 2<=sizeLine;decide,[.int (i+1:Nat) tk,u1],.cons ⟨_,rfl⟩ (.cons r1 .nil),?_⟩,rfl,⟨_,xs,x,e1,hx,I.fresh,rfl,rfl⟩,
   ⟨⟨_,c1⟩,(show h'.IsListIter it l (i+1) by simpa using b2.2.1).at fun o q=>up _ o M7.symm q⟩,fun c hc=>by rw [A4 (nT c hc)];exact (hf c hc).1⟩
  .have q1:c≠e/\c≠it:=⟨fun q=>hc (by simp [q]),fun q=>hc (by simp [q])⟩
   exact up c u q1.1 (b5 c u q1.1 q1.2 q)
  .exact ⟨_,hT,rfl,_,rfl⟩
 done:=by
  intro X hP hw hK hc i pins s Y H E I hf ⟨⟨old,he⟩,hi⟩ hg;subst hP hw hK;obtain ⟨xs,e1,eP⟩:=hg;obtain ⟨its1,Y3,p1,_⟩:=I.list (C7.of (K:=X.K) e1);have q1:=Y3.length;obtain ⟨f0,f1,f2,f3,f4,f5⟩:=hf it (by simp);exact wpAny_pyNext_enum_endD (aqQ (A:=X.A.in1) (show X.A.in1.handled=none from I.ok.hd hc) (ys:=its1.toArray) (i:=i) (by simp;lia)) he ⟨rfl,hi,p1.isList⟩ fun h' eb=>⟨rfl,I.turned (t':=s.toks) (fun b o hb q=>eb b o hb q) f0 f1 f3 f4 f5⟩
 self:=fun _ _ _ _ _ st h=>by
  obtain ⟨⟨old,he⟩,_⟩:=st;exact wpAny_pyIter_enum he h
theorem ajW:bootBuiltins "enumerate"=some (.type "enumerate"):=by decide +kernel
section
variable {X:Cx}
noncomputable def tL (ta:TA):TI:=fun Y H R=>ta Y H fun vs H1=>∃ (l:Addr) (xs:List V),vs=[.ref l]/\H1 l=some (.lst xs)/\R (Ite1 l) H1
theorem alJ{a:Expr}{p pos:Pos}(hg:Gl X "enumerate")(hm:X.mg "enumerate"=none)(ha:PA X [a] ta)(h1:J9 a=false:=by rfl) :
  PI X (.Tuple elts x1 tpos) (.Call (.Name "enumerate" p) [a] [⟨some "start",.Constant (.int 1) ck cpos,kpos⟩] pos) (tL ta):=by
 intro pins s Y H R I h;refine wpAny_Call_Name_kw (aY I hg hm ajW (PySem.W.callWith_of (P:=fun _=>True) ?_ (fun _ _=>⟨_,.inr (.inl rfl),PySem.W.Looks.of_pure rfl⟩) (PyProof.Rows.evalArgs_kw2 rfl (A7 (ha pos pins s Y H _ I h) fun us s1 ⟨vs,H1,I1,r1,q1⟩=>?_) (N2 h1))))
 .rw [N2 h1];rfl
 have kw:PK X [⟨some "start",.Constant (.int 1) ck cpos,kpos⟩] (tCons (tC (.int 1)) tNil):=amU yH aoZ;refine A7 (kw pos pins s1 Y H1 (fun zs H2=>zs=[.int 1]/\H2=H1) I1 ⟨rfl,rfl⟩) fun ws s2 ⟨zs,H2,I2,rz,e1,e2⟩=>⟨trivial,?_⟩
 subst e1 e2;obtain ⟨l,xs,rfl,e1,q⟩:=q1;obtain ⟨u1,rfl,lR⟩:=vals1 r1
 cases lR
 obtain ⟨u2,rfl,wR⟩:=vals1 rz;obtain ⟨t,rfl⟩:=wR;obtain ⟨its1,Y3,p1,_⟩:=I2.list (C7.of (K:=X.K) e1);refine aed p1.isList (by decide) fun h' z1 z2 z4=>wpAny_pyIter_enum z1 ?_
 refine ⟨s2.heap.objs.size+1,[s2.heap.objs.size+1,s2.heap.objs.size],_,_,H2,rfl,I2.kept (t':=s2.toks) z4,aiA _ s2.heap.objs.size l (i7 (by lia)),⟨⟨_,z1⟩,z2⟩,fun b hb=>?_,q⟩;have K1:s2.heap.objs.size<=b:=by
  have e:b=s2.heap.objs.size+1\/b=s2.heap.objs.size:=by simpa using hb
  rcases e with rfl | rfl
  .exact aW _ _
  .exact B3 _
 exact I2.fpOk K1 (I2.hok.fresh K1)
theorem alK{a:Expr}{p pos:Pos}(hm:X.mg "enumerate"=none)(ha:QA X [a] ta)(hg:Gl X "enumerate":=by rfl)(h1:J9 a=false:=by rfl) :
  QI X (.Tuple elts x1 tpos) (.Call (.Name "enumerate" p) [a] [⟨some "start",.Constant (.int 1) ck cpos,kpos⟩] pos) (tL ta):=⟨alJ hg hm ha.out h1⟩
end
theorem ajY{R:It->Hp->Prop} : tL ta Y H R=ta Y H fun vs H1=>∃ (l:Addr) (xs:List V),vs=[.ref l]/\H1 l=some (.lst xs)/\R (Ite1 l) H1:=rfl
theorem forE1{l:Addr}(Pv:Nat->St->Hp->Prop)(h0:Pv 0 Y H)(hl:∀ i Y H,Pv i Y H->H l=some (.lst xs))(hs:∀ i x t Y H,xs[i]?=some x->Pv i Y H->H t=none->g (.ref t) Y (A0 H t (.tup [.int (i+1:Nat),x])) fun σ2 H2=>tb { D with nx:=Pv (i+1),ct:=Pv (i+1),bk:=D.nx } σ2 H2)(hd:∀ Y H,Pv xs.length Y H->D.nx Y H):ForIt (Ite1 l) g tb D Y H:=by
 refine ⟨fun i m Y H=>m=xs.length-i/\i<=xs.length/\Pv i Y H,⟨xs.length,by simp,G2 _,h0⟩,?_⟩;rintro i m Y H ⟨rfl,hi,p⟩;have e1:=hl i Y H p
 by_cases C3:i<xs.length
 .refine .inr ⟨⟨xs,xs[i],e1,by simp⟩,Pv (i+1),fun σ' H' p'=>⟨_,by lia,rfl,C3,p'⟩,fun v H' y=>?_⟩;obtain ⟨t,xs',x,f1,hx,ht,rfl,rfl⟩:=y;rw [e1] at f1;cases f1;exact hs i x t Y H hx p ht
 .have e:i=xs.length:=by lia
  subst e;exact .inl ⟨⟨xs,e1,by lia⟩,hd Y H p⟩
end L2
set_option maxRecDepth 100000
namespace L2
open PySem PySem.Spec PyProof.Rows
noncomputable def tM:V->List V->Hp->VK->Prop:=fun x vs H Q=>∃ (l:Addr) (zs:List Int) (z:Int),x=.ref l/\vs=[.int z]/\H l=some (.lst (zs.map V.int))/\z∈zs/\Q .non (A0 H l (.lst ((zs.erase z).map V.int)))
theorem oJ:∀ {vs:List Value} {zs:List Int},IntsAre vs zs->∀ {j:Nat} {z:Int},zs[j]?=some z->∃ t,vs[j]?=some (.int z t)
 | _,_,.nil,_,_,h=>by simp at h
 | _,_,.cons _ _ _,0,_,h=>by simp at h;subst h;exact ⟨_,rfl⟩
 | _,_,.cons _ _ r,j+1,z,h=>by
  obtain ⟨t,q⟩:=oJ r (j:=j) (z:=z) (by simpa using h);exact ⟨t,by simpa using q⟩
theorem aiB : nJ X "list.remove" tM:=by
 intro pins s Y H x vs v us Q I rx rv h;obtain ⟨l,zs,zz,rfl,rfl,hH,hm,q⟩:=h
 cases rx
 obtain ⟨u,rfl,ru⟩:=rv.one;obtain ⟨t,rfl⟩:=ru;obtain ⟨z,its,n,r,hl,e⟩:=I.lstM hH;have sa:=nG r;have hj:zs.idxOf zz<zs.length:=fC.mpr hm;rw [A2] at hl;have W5:∀ (j:Nat) (hj:j<its.toArray.size),∃ y t',zs[j]?=some y/\its.toArray[j]=.int y t':=fun j hj'=>by
  have hj2:j<zs.length:=by rw [hl];simpa using hj'
  obtain ⟨t',ht⟩:=oJ sa (j:=j) (z:=zs[j]) (by simp);refine ⟨zs[j],t',by simp,?_⟩
  have:=(G1.mp ht).2
  simpa using this
 have hsz:zs.idxOf zz<its.toArray.size:=by rw [K3,<- hl];exact hj
 refine call_meets F.slot_list_remove ⟨_,e,rfl⟩ F.entry_list_remove (F.args_list_remove_2 _ _)
  (MeetsSeq.list_remove l its.toArray n (.int zz t) (isInt zz) (fun y hy=>eq_isInt zz t sa y (by simpa using hy)) (zs.idxOf zz) hsz ?_ (fun m lW C3=>?_) (by rw [K3,<- hl];rw [A2] at z;exact z)) ⟨e,?_⟩
 .obtain ⟨y,t',h1,h2⟩:=W5 _ hsz;rw [h2]
  have:y=zz:=by
   have:=iY hj
   rw [K2 hj,this] at h1;exact (Option.some.inj h1).symm
  subst this;simp [isInt]
 .obtain ⟨y,t',h1,h2⟩:=W5 _ lW;rw [h2]
  have:y≠zz:=fun q=>by
   obtain ⟨h3,h4⟩:=G1.mp h1
   have:=List.not_of_lt_findIdx (show m<zs.findIdx (· == zz) from C3)
   rw [h4] at this;simp [q] at this
  simp [isInt,this]
 .refine ⟨.non,_,I.lset (its':=its.eraseIdx (zs.idxOf zz)) hH e ?_ ?_ ?_,rfl,q⟩
  .show its.toArray.eraseIdxIfInBounds (zs.idxOf zz)=_;rw [List.eraseIdxIfInBounds_toArray]
  .rw [List.erase_eq_eraseIdx_of_idxOf (l:=zs) (a:=zz) (w:=rfl),af5];exact r.eraseIdx _
  .rw [A2,List.length_erase_of_mem hm];rw [A2] at z;lia
theorem ajZ : QMt X "list.remove" tM:=⟨fun pins s Y H x xs v us Q I rx rv h=>aiB pins s Y H x xs v us Q I rx rv h⟩
theorem aqR{l:Addr}{zs:List Int}{z:Int}(h:H l=some (.lst (zs.map V.int)))(hm:z∈zs)(q:Q .non (A0 H l (.lst ((zs.erase z).map V.int)))):tM (.ref l) [.int z] H Q:=⟨l,zs,z,rfl,rfl,h,hm,q⟩
noncomputable def rMinL:List V->Hp->VK->Prop:=fun xs H Q=>∃ (p:Addr) (ns:List Int),xs=[.ref p]/\H p=some (.lst (ns.map V.int))/\ns≠[]/\∀ M:Int,M∈ns->(∀ a∈ns,M<=a)->Q (.int M) H
theorem aj0(hc:X.calm=true):CallR X (.builtin "min") rMinL:=by
 intro pins s Y H xs us Q I r h;obtain ⟨p,ns,rfl,hH,M7,q⟩:=h;obtain ⟨u,rfl,ru⟩:=vals1 r
 cases ru
 obtain ⟨z,its,n,rr,hl,e⟩:=I.lstM hH;have hi:=nG rr;have hL:s.heap.IsList p its.toArray:=⟨_,e,rfl,n,rfl⟩
 obtain ⟨ys,e2⟩:=hi.allInts.items;have bW:ns=ys.toList.map (·.1):=by rw [<- hi.numsOf,<- nums_intItems,<- e2]
 have hsz:0<ys.size:=by
  have h3:=List.length_pos_iff.mpr M7;rw [bW,A2,cU] at h3;exact h3
 rw [e2] at hL;refine min_intList (I.ok.hd hc) hL hsz fun v h' tk hv hk=>?_
 obtain ⟨t,rfl⟩:=intItems_at hv;obtain ⟨h1,h2⟩:=argBest_lt (numAt ys) (ys.size-1);refine ⟨.int _,H,I.kept hk,⟨t,rfl⟩,q _ ?_ fun a ha=>?_⟩
 .rw [bW,numAt_eq];exact getD_mem (by rw [A2,cU];lia)
 .rw [bW] at ha;obtain ⟨j,hj,rfl⟩:=mem_getD ha;rw [A2,cU] at hj;rw [<- numAt_eq];exact h2 j (by lia)
theorem aqS(hc:X.calm=calm:=by rfl):QCall X (.builtin "min") (rCalm calm rMinL):=⟨fun pins s Y H xs us Q I r h=>aj0 (hc.trans h.1) pins s Y H xs us Q I r h.2⟩
theorem aqT : rMinL [.ref p] H Q=∃ ns:List Int,H p=some (.lst (ns.map V.int))/\ns≠[]/\∀ M:Int,M∈ns->(∀ a∈ns,M<=a)->Q (.int M) H:=
 propext ⟨fun ⟨_,ns,e,h⟩=>(by cases e;exact ⟨ns,h⟩),fun ⟨ns,h⟩=>⟨p,ns,rfl,h⟩⟩
noncomputable def dM (n:Nat) (fr:St) (Pv:Nat->List V->Hp->Prop) (i:Nat) (ys:List V) (σ2:St) (H2:Hp):Prop:=i<=n/\ys.length<=i/\(∃ v w,σ2=v::w::fr)/\Pv i ys H2
theorem dM.put{fr:St}{Pv:Nat->List V->Hp->Prop}{o o2:Option V}(hi:i<n)(hy:ys.length<=i)(p:Pv (i+1) (ys++[y]) H):dM n fr Pv (i+1) (ys++[y]) (o::o2::fr) H:=
 ⟨hi,by rw [D1,V3];lia,⟨_,_,rfl⟩,p⟩
theorem compE{l:Addr}(fr:St)(O8:compStart 2 ixs Y=none::none::fr)(Pv:Addr->Nat->List V->Hp->Prop)(h0:∀ D,H1 D=none->Pv D 0 [] (A0 H1 D (.lst [])))(hl:∀ D i ys H,H1 D=none->i<=xs.length->Pv D i ys H->H l=some (.lst xs))(hs:∀ D i x t ys H,H1 D=none->i<xs.length->xs[i]?=some x->Pv D i ys H->H D=some (.lst ys)->ys.length<=i->H t=none->c (some (.int i)::some x::fr) (A0 H t (.tup [.int i,x])) fun b H4=>
   if b=true then te (some (.int i)::some x::fr) H4 fun y H5=>H5 D=some (.lst ys)/\ys.length<sizeLine/\dM xs.length fr (Pv D) (i+1) (ys++[y]) (some (.int i)::some x::fr) (A0 H5 D (.lst (ys++[y])))
   else H4 D=some (.lst ys)/\dM xs.length fr (Pv D) (i+1) ys (some (.int i)::some x::fr) H4)(hd:∀ D ys H,H1 D=none->Pv D xs.length ys H->H D=some (.lst ys)->ys.length<=xs.length->Q (.ref D) H):bE (jS l) 2 ixs (gTup K 2 (gCons (gName 0) (gCons (gName 1) gNil))) c te Y Q H1:=by
 intro D hD;refine ⟨xs.length,dM xs.length fr (Pv D),⟨G2 _,G2 _,⟨none,none,O8⟩,h0 D hD⟩,?_⟩;rintro i ys σ2 H2 ⟨hi,hy,⟨v,w,rfl⟩,p⟩ hDy;have q:=hl D i ys H2 hD hi p
 by_cases C3:i<xs.length
 .refine .inr ⟨C3,⟨xs,xs[i],q,by simp [C3]⟩,fun x H' y=>?_⟩;obtain ⟨t,xs',x',f1,hx,ht,rfl,rfl⟩:=y;rw [q] at f1;cases f1;exact ⟨t,_,rfl,C4.of A3,rfl,_,_,rfl,_,_,rfl,rfl,hs D i x' t ys H2 hD C3 hx p hDy hy ht⟩
 .have e:i=xs.length:=by lia
  subst e;exact .inl ⟨⟨xs,q,B3 _⟩,hd D ys H2 hD p hDy hy⟩
end L2
set_option maxRecDepth 100000
namespace L2
open PySem PySem.Spec PyProof.Rows
section
variable {X:Cx} {o value:Expr} {to tv:TE} {pos tpos:Pos} {st:Stmt} {t:TS} {h₀:ExceptHandler} {hs:List ExceptHandler}
end
end L2
set_option maxRecDepth 100000
namespace L2
open PySem PySem.Spec PyProof.Rows
theorem aqU{k:Int}{v:V}{Q:Hp->Prop} : rSetL (.ref p) (.int k) v H Q=∃ xs j,H p=some (.lst xs)/\X7 xs.length k=some j/\Q (A0 H p (.lst (xs.set j v))):=
 propext ⟨fun ⟨_,xs,_,j,e1,e2,h⟩=>(by cases e1;cases e2;exact ⟨xs,j,h⟩),fun ⟨xs,j,h⟩=>⟨p,xs,k,j,rfl,rfl,h⟩⟩
end L2
set_option maxRecDepth 100000
namespace L2
open PySem PySem.Spec PyProof.Rows
noncomputable def FS (ts bad:List Str) (z:Str->Prop) (fr:List Int):Prop:=fr.Nodup/\∀ n:Int,n∈fr↔∃ (m:Nat) (q:Str),n=(m:Int)/\ts[m]?=some q/\q∉bad/\z q
theorem FS.nil(z:Str->Prop):FS [] [] z []:=⟨by simp,fun n=>by simp⟩
theorem FS.snoc{bad:List Str}{z:Str->Prop}(h:FS ts bad z fr)(hi:i=ts.length){q:Str}(hb:q∉bad):(z q->FS (ts++[q]) bad z (fr++[(i:Int)]))/\(¬ z q->FS (ts++[q]) bad z fr):=by
 have J8:∀ (m:Nat) (x:Str),(ts++[q])[m]?=some x↔(ts[m]?=some x\/(m=i/\x=q)):=fun m x=>by
  rcases Nat.lt_trichotomy m ts.length with hm | hm | hm
  .rw [fB hm]
   constructor
   .exact .inl
   .rintro (h | ⟨h,_⟩)
    .exact h
    .lia
  .subst hm;rw [iR (B3 _),Nat.sub_self]
   have:ts[ts.length]?=none:=by simp
   rw [this];simp [hi,eq_comm]
  .have h1:ts[m]?=none:=by simp;lia
   have h2:(ts++[q])[m]?=none:=by simp;lia
   rw [h1,h2]
   simp
   lia
 have lG:(i:Int)∉fr:=fun hm=>by
  obtain ⟨m,x,e,h1,_⟩:=(h.2 _).mp hm
  have:=(G1.mp h1).1
  lia
 refine ⟨fun hz=>⟨?_,fun n=>?_⟩,fun hz=>⟨h.1,fun n=>?_⟩⟩
 .rw [aR];refine ⟨h.1,by simp,fun x hx y hy e=>lG ?_⟩;rw [<- N7.mp hy,<- e];exact hx
 .rw [M4,h.2,N7]
  constructor
  .rintro (⟨m,x,e,h1,h2,h3⟩ | rfl)
   .exact ⟨m,x,e,(J8 m x).mpr (.inl h1),h2,h3⟩
   .exact ⟨i,q,rfl,(J8 i q).mpr (.inr ⟨rfl,rfl⟩),hb,hz⟩
  .rintro ⟨m,x,e,h1,h2,h3⟩
   rcases (J8 m x).mp h1 with h1 | ⟨rfl,rfl⟩
   .exact .inl ⟨m,x,e,h1,h2,h3⟩
   .exact .inr e
 .rw [h.2]
  constructor
  .rintro ⟨m,x,e,h1,h2,h3⟩;exact ⟨m,x,e,(J8 m x).mpr (.inl h1),h2,h3⟩
  .rintro ⟨m,x,e,h1,h2,h3⟩
   rcases (J8 m x).mp h1 with h1 | ⟨rfl,rfl⟩
   .exact ⟨m,x,e,h1,h2,h3⟩
   .exact absurd h3 hz
theorem ahO(nd:ts.Nodup){q:Str}(h1:ts[i]?=some q)(h2:ts[j]?=some q):i=j:=by
 obtain ⟨a1,b1⟩:=G1.mp h1;obtain ⟨a2,b2⟩:=G1.mp h2
 have:=d0.mp nd
 rw [cL] at this
 rcases Nat.lt_trichotomy i j with hl | hl | hl
 .exact absurd (b1.trans b2.symm) (this i j a1 a2 hl)
 .exact hl
 .exact absurd (b2.trans b1.symm) (this j i a2 a1 hl)
theorem FS.take{bad:List Str}{z:Str->Prop}(nd:ts.Nodup)(h:FS ts bad z fr){M:Nat}{p:Str}(hp:ts[M]?=some p):FS ts (bad++[p]) z (fr.erase (M:Int)):=by
 refine ⟨h.1.erase _,fun n=>?_⟩;rw [h.1.mem_erase_iff,h.2]
 constructor
 .rintro ⟨M7,m,x,e,h1,h2,h3⟩;refine ⟨m,x,e,h1,fun hm=>?_,h3⟩
  rcases M4.mp hm with hm | hm
  .exact h2 hm
  .rw [N7.mp hm] at h1;exact M7 (by rw [e,ahO nd h1 hp])
 .rintro ⟨m,x,e,h1,h2,h3⟩;refine ⟨fun e2=>h2 ?_,m,x,e,h1,fun hm=>h2 (V4 _ hm),h3⟩
  have:m=M:=by lia
  subst this;rw [hp] at h1;cases h1
  simp
theorem FS.turn{bad:List Str}{z z':Str->Prop}(nd:ts.Nodup)(h:FS ts bad z fr){y:Str}(M7:∀ q,q≠y->(z' q↔z q))(hy:¬ z y){m:Nat}(hm:ts[m]?=some y)(hb:y∉bad):(z' y->FS ts bad z' (fr++[(m:Int)]))/\(¬ z' y->FS ts bad z' fr):=by
 have lG:(m:Int)∉fr:=fun h1=>by
  obtain ⟨k,x,e,h2,_,h3⟩:=(h.2 _).mp h1
  have:k=m:=by lia
  subst this;rw [hm] at h2;cases h2;exact hy h3
 have Y4:∀ (k:Nat) (x:Str),ts[k]?=some x->x≠y\/(k=m/\x=y):=fun k x hk=>by
  by_cases e:x=y
  .subst e;exact .inr ⟨ahO nd hk hm,rfl⟩
  .exact .inl e
 refine ⟨fun hz=>⟨?_,fun n=>?_⟩,fun hz=>⟨h.1,fun n=>?_⟩⟩
 .rw [aR];refine ⟨h.1,by simp,fun x hx w hw e=>lG ?_⟩;rw [<- N7.mp hw,<- e];exact hx
 .rw [M4,h.2,N7]
  constructor
  .rintro (⟨k,x,e,h1,h2,h3⟩ | rfl)
   .rcases Y4 k x h1 with c | ⟨_,rfl⟩
    .exact ⟨k,x,e,h1,h2,(M7 x c).mpr h3⟩
    .exact absurd h3 hy
   .exact ⟨m,y,rfl,hm,hb,hz⟩
  .rintro ⟨k,x,e,h1,h2,h3⟩
   rcases Y4 k x h1 with c | ⟨rfl,rfl⟩
   .exact .inl ⟨k,x,e,h1,h2,(M7 x c).mp h3⟩
   .exact .inr e
 .rw [h.2]
  constructor
  .rintro ⟨k,x,e,h1,h2,h3⟩
   rcases Y4 k x h1 with c | ⟨_,rfl⟩
   .exact ⟨k,x,e,h1,h2,(M7 x c).mpr h3⟩
   .exact absurd h3 hy
  .rintro ⟨k,x,e,h1,h2,h3⟩
   rcases Y4 k x h1 with c | ⟨_,rfl⟩
   .exact ⟨k,x,e,h1,h2,(M7 x c).mp h3⟩
   .exact absurd h3 hz
theorem FS.congr{bad:List Str}{z z':Str->Prop}(h:FS ts bad z fr)(e:∀ q,z' q↔z q):FS ts bad z' fr:=⟨h.1,fun n=>by rw [h.2];exact ⟨fun ⟨m,x,a,b,c,d⟩=>⟨m,x,a,b,c,(e x).mpr d⟩,fun ⟨m,x,a,b,c,d⟩=>⟨m,x,a,b,c,(e x).mp d⟩⟩⟩
theorem ag0{E:List (Str×Str)}(h:FS ts line (fun q=>F6 E line q=0) fr){M:Int}(hM:M∈fr)(eT:∀ a∈fr,M<=a):∃ (m:Nat) (p:Str),M=(m:Int)/\ts[m]?=some p/\nextP E ts line=some p:=by
 obtain ⟨m,p,e,h1,h2,h3⟩:=(h.2 M).mp hM;refine ⟨m,p,e,h1,?_⟩;rw [aeR];obtain ⟨hm,rfl⟩:=G1.mp h1;have e1:ts=ts.take m++ts[m]::ts.drop (m+1):=by rw [<- cM hm,j6]
 generalize hP:(fun p=>!decide (p∈line)&&decide (∀ e∈E,e.2=p->e.1∈line))=P;have hp:P ts[m]=true:=by
  rw [<- hP];simp only [f8,Bool.not_eq_true',decide_eq_false_iff_not,decide_eq_true_eq];exact ⟨h2,cnt_zero.mp h3⟩
 have lX:(ts.take m).find? P=none:=by
  rw [List.find?_eq_none];intro x hx hxP;obtain ⟨k,hk,rfl⟩:=e8.mp hx;rw [F9] at hk;rw [List.getElem_take,<- hP] at hxP;simp only [f8,Bool.not_eq_true',decide_eq_false_iff_not,decide_eq_true_eq] at hxP
  have:=eT (k:Int) ((h.2 _).mpr ⟨k,ts[k],rfl,by simp,hxP.1,cnt_zero.mpr hxP.2⟩)
  lia
 conv=>lhs;rw [e1]
 rw [List.find?_append,lX,p6,hp];rfl
theorem alL{E:List (Str×Str)}(r:R9 E ts line){q:Str}(h:q∈line):F6 E line q=0:=by
 obtain ⟨pre,post,rfl⟩:=List.append_of_mem h
 have:=(gF (r pre q post rfl)).2.2
 rw [cnt_zero] at this ⊢
 intro e he h2;exact V4 _ (this e he h2)
theorem agf{f:Str->V} : ∀ {ts pre:List Str},(pre++ts).Nodup->V7 (C1 pre f) (C1 ts f)=C1 (pre++ts) f
 | [],pre,_=>by rw [M5];rfl
 | t::ts,pre,h=>by
  have ht:t∉pre:=fun hm=>(aR.mp h).2.2 t hm t O2 rfl
  show V7 (putK (C1 pre f) (Sum.inr t) (f t)) (C1 ts f)=_;rw [dJ _ ht,show C1 (pre++[t]) (fun x=>if x=t then f t else f x)=C1 (pre++[t]) f from U6 fun x _=>by
   by_cases e:x=t
   .rw [if_pos e,e]
   .rw [if_neg e]]
  rw [agf (pre:=pre++[t]) (by simpa using h)]
  simp
theorem aeU:∀ {l m:List Int},l.Nodup->(∀ x∈l,x∈m)->l.length<=m.length
 | [],_,_,_=>G2 _
 | x::l,m,nd,h=>by
  obtain ⟨n1,n2⟩:=T6.mp nd;have hx:=h x O2
  have:=aeU (l:=l) (m:=m.erase x) n2 fun y hy=>(List.mem_erase_of_ne (fun e=>n1 (by rw [<- e];exact hy))).mpr (h y (N0 _ hy))
  rw [List.length_erase_of_mem hx] at this;have eS:=List.length_pos_of_mem hx;rw [G6];lia
theorem ahP{f:Str->V} : ∀ {qs:List Addr} {ts:List Str},Paired (fun q t=>H q=some (.tup [.str t,f t])) qs ts->Paired (fun q (kx:B5×V)=>C4 K H q [kV kx.1,kx.2]) qs (C1 ts f)
 | _,_,.nil=>.nil
 | _,_,.cons h t=>.cons (.of h) (ahP t)
theorem forRs(Pv:Nat->St->Hp->Prop)(h0:Pv 0 Y H)(hs:∀ (P':Nat->St->Hp->Prop) (B':St->Hp->Prop),(∀ i Y H,Pv i Y H->P' i Y H)->∀ i Y H,i<n->Pv i Y H->g (.int (lo+i)) Y H fun σ2 H2=>tb { D with nx:=P' (i+1),ct:=P' (i+1),bk:=B' } σ2 H2)(hd:∀ Y H,Pv n Y H->D.nx Y H):ForIt (g9 lo n) g tb D Y H:=forR Pv h0 (hs Pv _ fun _ _ _ h=>h) hd
theorem forLs(Pv:Nat->St->Hp->Prop)(h0:Pv 0 Y H)(hl:∀ i Y H,i<=xs.length->Pv i Y H->C7 K H a xs)(hs:∀ (P':Nat->St->Hp->Prop) (B':St->Hp->Prop),(∀ i Y H,Pv i Y H->P' i Y H)->∀ i x Y H,xs[i]?=some x->Pv i Y H->g x Y H fun σ2 H2=>tb { D with nx:=P' (i+1),ct:=P' (i+1),bk:=B' } σ2 H2)(hd:∀ Y H,Pv xs.length Y H->D.nx Y H):ForIt (p7 K a) g tb D Y H:=forL Pv h0 hl (hs Pv _ fun _ _ _ h=>h) hd
theorem midS{t u:TS}(M:St->Hp->Prop)(h:∀ M':St->Hp->Prop,(∀ Y H,M Y H->M' Y H)->t { D with nx:=M' } Y H)(h2:∀ σ' H',M σ' H'->u D σ' H'):tSeqM t u D Y H:=⟨M,h M fun _ _ h=>h,h2⟩
noncomputable def amr:Sp:=fun vs H Q _=>∃ (a:Addr) (rs:List Addr) (zss:List (List Str)),vs=[.ref a]/\IsRows H a rs zss/\zss.flatten.length<=100000/\
 ∀ l H',H l=none->Same H H'->H' l=some (.lst ((toldL zss).map V.str))->Q (.ref l) H'
noncomputable def gJ:Sp:=fun vs H Q _=>∃ c,vs=[.str ⟨#[c]⟩]/\Q (.bl (figO c)) H
noncomputable def L7 (R:List Rl):List (Str×List Str):=R.filterMap fun z=>if z.1=("great" : Str) then z.2.head?.map fun y=>(y,z.2.drop 1) else none
noncomputable def D3 (R:List Rl):List Str:=G3 [] ((L7 R).map (·.1))
noncomputable def E9 (R:List Rl) (y:Str):List Str:=((L7 R).filter fun e=>decide (e.1=y)).flatMap (·.2)
theorem oK(A B:List Rl):L7 (A++B)=L7 A++L7 B:=by
 unfold L7;rw [List.filterMap_append]
theorem tN{R:List Rl}{z:Rl}(h:R[i]?=some z):L7 (R.take (i+1))=L7 (R.take i)++L7 [z]:=by
 rw [L4 h,oK]
theorem oM{z:Rl}(h:z.1≠("great" : Str)):L7 [z]=[]:=by
 unfold L7;rw [cN,if_neg h];rfl
theorem tO{y:Str}{fs:List Str} : L7 [(("great" : Str),y::fs)]=[(y,fs)]:=by
 unfold L7;rw [cN,if_pos rfl];rfl
theorem tP{A:List Rl}{y:Str}{fs:List Str}(x:Str):E9 (A++[(("great" : Str),y::fs)]) x=if x=y then E9 A x++fs else E9 A x:=by
 unfold E9;rw [oK,tO,cO,p0]
 by_cases h:x=y
 .subst h;simp
 .have:¬ (y=x):=fun e=>h e.symm
  simp [this,h]
theorem oN{A:List Rl}{y:Str}{fs:List Str} : D3 (A++[(("great" : Str),y::fs)])=dd (D3 A) y:=by
 unfold D3 G3;rw [oK,tO,E1,p4];rfl
noncomputable def ahQ (K:PySem.W.Frag):Sp:=fun vs H Q _=>∃ (a:Addr) (ts:List Addr) (R:List Rl),vs=[.ref a]/\IsRules H a ts R/\(∀ z∈R,z.1=("great" : Str)->z.2≠[])/\R.length<=1000/\(∀ i y,(E9 (R.take i) y).length<=10000)/\
 ∀ d ad H',H d=none->Same H H'->H' d=some (.dK (C1 (D3 R) fun y=>.ref (ad y)))->DL H H' (D3 R) ad (E9 R)->Q (.ref d) H'
theorem jV(xs:List V)(h:i<=j):cutV xs (some (i:Int)) (some (j:Int))=(xs.drop i).take (j-i):=by
 unfold cutV;rw [HT.sIx_nat,HT.sIx_nat]
 by_cases hi:i<=xs.length
 .rw [cQ hi]
  by_cases hj:j<=xs.length
  .rw [cQ hj]
  .rw [Nat.min_eq_right (by lia),X3 (by rw [j8];exact B3 _),X3 (by rw [j8];lia)]
 .rw [Nat.min_eq_right (by lia:xs.length<=i),iU (B3 _),iU (by lia),List.take_nil,List.take_nil]
structure Used(ks:List Str)(g:Str->V)(z:Rl):Prop where
 gr:z.1=("great" : Str)->∀ p∈z.2.take 1,p∈ks/\g p=.str "letter"
 a1:z.1=("as" : Str)->∀ p∈(z.2.drop 1).take 1,p∈ks/\g p=.str "letter"
 a2:z.1=("as" : Str)->∀ p∈z.2.drop 2,p∈ks/\(g p=.str "letter"\/g p=.str "mark")
noncomputable def ams (K:PySem.W.Frag):Sp:=fun vs H Q _=>∃ (t d:Addr) (z:Rl) (ks:List Str) (g:Str->V),vs=[.ref t,.ref d]/\H t=some (tupR z)/\H d=some (.dK (C1 ks g))/\Used ks g z/\z.2.length<=1000/\∀ p H',H p=none->Same H H'->H' p=some (.lst [])->Q (.ref p) H'
noncomputable def ahR (K:PySem.W.Frag):Sp:=fun vs H Q _=>∃ (a d:Addr) (ts:List Addr) (R:List Rl) (ks:List Str) (g:Str->V),vs=[.ref a,.ref d]/\IsRules H a ts R/\H d=some (.dK (C1 ks g))/\(∀ z∈R,Used ks g z/\z.2.length<=1000)/\∀ H',Same H H'->Q .non H'
noncomputable abbrev Tr:=Int×Int×Int
noncomputable def tupT (s:Tr):HO:=.tup [.int s.1,.int s.2.1,.int s.2.2]
structure StepAt(H:Hp)(r:Addr)(ss:List Tr):Prop where
 ex:∃ ts:List Addr,H r=some (.tup (ts.map V.ref))/\Paired (fun t s=>H t=some (tupT s)) ts ss
theorem StepAt.same{ss:List Tr}(h:StepAt H r ss)(S:Same H H'):StepAt H' r ss:=
 let ⟨ts,h1,h2⟩:=h.ex
 ⟨ts,S _ _ h1,K7 h2 fun _ _ e=>S _ _ e⟩
theorem StepAt.put{d:Addr}{ss:List Tr}{o o':HO}(h:StepAt H r ss)(hd:H d=some o')(hn:∀ xs,o'≠.tup xs):StepAt (A0 H d o) r ss:=by
 obtain ⟨ts,h1,h2⟩:=h.ex;refine ⟨ts,?_,K7 h2 fun t s e=>?_⟩
 .rw [A4 (fun e=>by rw [e,hd] at h1;exact hn _ (Option.some.inj h1))];exact h1
 .rw [A4 (fun q=>by rw [q,hd] at e;exact hn _ (Option.some.inj e))];exact e
theorem StepAt.one{t:Addr}{s:Tr}(h1:H r=some (.tup [.ref t]))(h2:H t=some (tupT s)):StepAt H r [s]:=⟨[t],h1,.cons h2 .nil⟩
noncomputable def IsMade (H:Hp) (d:Addr) (ks:List Str) (F:Str->List Tr):Prop:=∃ ad:Str->Addr,H d=some (.dK (C1 ks fun y=>.ref (ad y)))/\∀ y∈ks,StepAt H (ad y) (F y)
theorem IsMade.same{d:Addr}{F:Str->List Tr}(h:IsMade H d ks F)(S:Same H H'):IsMade H' d ks F:=
 let ⟨ad,h1,h2⟩:=h
 ⟨ad,S _ _ h1,fun y hy=>(h2 y hy).same S⟩
theorem IsMade.put{d:Addr}{F:Str->List Tr}{ad:Str->Addr}(h1:H d=some (.dK (C1 ks fun y=>.ref (ad y))))(h2:∀ y∈ks,StepAt H (ad y) (F y)){l:Str}(hp:StepAt H p (F l)) :
  IsMade (A0 H d (.dK (putK (C1 ks fun y=>.ref (ad y)) (Sum.inr l) (.ref p)))) d (dd ks l) F:=by
 refine ⟨fun y=>if y=l then p else ad y,?_,fun y hy=>?_⟩
 .rw [A3];have e:∀ t,(if t=l then V.ref p else V.ref (ad t))=V.ref (if t=l then p else ad t):=fun t=>by
   by_cases h:t=l
   .rw [if_pos h,if_pos h]
   .rw [if_neg h,if_neg h]
  unfold dd
  by_cases hl:l∈ks
  .rw [if_pos hl,oE _ hl];exact congrArg (fun x=>some (HO.dK x)) (U6 fun t _=>e t)
  .rw [if_neg hl,dJ _ hl];exact congrArg (fun x=>some (HO.dK x)) (U6 fun t _=>e t)
 .by_cases h:y=l
  .subst h;show StepAt _ (if y=y then p else ad y) _;rw [if_pos rfl];exact hp.put h1 (by intro xs e;cases e)
  .show StepAt _ (if y=l then p else ad y) _;rw [if_neg h];refine (h2 y ?_).put h1 (by intro xs e;cases e);unfold dd at hy
   by_cases hl:l∈ks
   .rw [if_pos hl] at hy;exact hy
   .rw [if_neg hl] at hy
    rcases M4.mp hy with q | q
    .exact q
    .exact absurd (N7.mp q) h
structure StI(H H2:Hp)(d:Addr)(P:List Str)(F:Str->List Tr):Prop where
 same:Same H H2
 made:IsMade H2 d (G3 [] P) F
theorem alM(P:List Str)(x:Str):G3 [] (P++[x])=dd (G3 [] P) x:=by
 unfold G3;rw [p4];rfl
theorem StI.putX{d:Addr}{P:List Str}{F:Str->List Tr}(nd:H d=none)(h:StI H H2 d P F)(hP:P.length<100000){l:Str}(hp:StepAt H2 p (F l)) :
  ∃ kvs o,H2 d=some (.dK kvs)/\DPut H2 d (V.str l) (V.ref p) (A0 H2 d o)/\StI H (A0 H2 d o) d (P++[l]) F:=by
 obtain ⟨ad,h1,h2⟩:=h.made;have hl:=jN P [];rw [Z1,Nat.zero_add] at hl;refine ⟨_,_,h1,bD (k:=Sum.inr l) h1 (by rw [m5];exact K0 (by lia)),h.same.put nd,?_⟩;rw [alM];exact IsMade.put h1 h2 hp
theorem StI.put{d:Addr}{P:List Str}{F:Str->List Tr}(nd:H d=none)(h:StI H H2 d P F)(hP:P.length<100000){l:Str}(hp:StepAt H2 p (F l)) :
  ∃ x,DPut H2 d (V.str l) (V.ref p) x/\StI H x d (P++[l]) F:=
 let ⟨_,_,_,h1,h2⟩:=h.putX nd hP hp
 ⟨_,h1,h2⟩
theorem StI.more{d:Addr}{P:List Str}{F:Str->List Tr}(h:StI H H2 d P F)(S:Same H2 H3):StI H H3 d P F:=⟨h.same.trans S,h.made.same S⟩
theorem StI.frz{d:Addr}{P:List Str}{F:Str->List Tr}{o:HO}(h:StI H H2 d P F)(hf:H2 f=some (.dK kvs))(n:H f=none)(nf:f≠d):StI H (A0 H2 f o) d P F:=
 let ⟨ad,h1,h2⟩:=h.made
 ⟨h.same.put n,ad,by rw [A4 nf.symm];exact h1,fun y hy=>(h2 y hy).put hf (by intro xs e;cases e)⟩
theorem StI.thaw{d:Addr}{P:List Str}{F:Str->List Tr}{q:Obj}{o o':HO}(h:StI H H2 d P F)(hf:H2 f=some (.frz q o'))(n:H f=none)(nf:f≠d):StI H (A0 H2 f o) d P F:=
 let ⟨ad,h1,h2⟩:=h.made
 ⟨h.same.put n,ad,by rw [A4 nf.symm];exact h1,fun y hy=>(h2 y hy).put hf (by intro xs e;cases e)⟩
structure FoI(H H2:Hp)(d f:Addr)(o:Obj)(ts:List Str)(af:Str->Addr)(G:Str->List Str)(P:List Str)(F:Str->List Tr):Prop where
 frz:H2 f=some (.frz o (.dK (C1 ts fun y=>.ref (af y))))
 rows:∀ y∈ts,H2 (af y)=some (.lst ((G y).map V.str))
 st:StI H H2 d P F
theorem FoI.more{d:Addr}{af:Str->Addr}{G:Str->List Str}{P:List Str}{F:Str->List Tr}(h:FoI H H2 d f o ts af G P F)(S:Same H2 H3):FoI H H3 d f o ts af G P F:=⟨S _ _ h.frz,fun y hy=>S _ _ (h.rows y hy),h.st.more S⟩
theorem FoI.put{d:Addr}{af:Str->Addr}{G:Str->List Str}{P:List Str}{F:Str->List Tr}(nd:H d=none)(h:FoI H H2 d f o ts af G P F)(hP:P.length<100000){l:Str}(hp:StepAt H2 p (F l)) :
  ∃ x,DPut H2 d (V.str l) (V.ref p) x/\FoI H x d f o ts af G (P++[l]) F:=by
 obtain ⟨kvs,o',h0,h1,h2⟩:=h.st.putX nd hP hp;refine ⟨_,h1,?_,fun y hy=>?_,h2⟩
 .rw [A4 (fun e=>by have:=h.frz;rw [e,h0] at this;cases this)];exact h.frz
 .rw [A4 (fun e=>by have:=h.rows y hy;rw [e,h0] at this;cases this)];exact h.rows y hy
theorem StI.putL{d:Addr}{P:List Str}{F:Str->List Tr}{o:HO}(h:StI H H2 d P F)(hf:H2 f=some (.lst xs))(n:H f=none):StI H (A0 H2 f o) d P F:=
 let ⟨ad,h1,h2⟩:=h.made
 ⟨h.same.put n,ad,by rw [A4 (fun e=>by rw [e,hf] at h1;cases h1)];exact h1,fun y hy=>(h2 y hy).put hf (by intro xs e;cases e)⟩
structure AsI(H H7 H2:Hp)(d:Addr)(P:List Str)(F:Str->List Tr)(ts:List Addr)(ss:List Tr):Prop where
 st:StI H H2 d P F
 pr:Paired (fun t s=>H2 t=some (tupT s)) ts ss
 sm:Same H7 H2
theorem AsI.putL{H7:Hp}{d:Addr}{P:List Str}{F:Str->List Tr}{ts:List Addr}{ss:List Tr}{o:HO}(h:AsI H H7 H2 d P F ts ss)(hf:H2 f=some (.lst xs))(n:H f=none)(n7:H7 f=none):AsI H H7 (A0 H2 f o) d P F ts ss:=
 ⟨h.st.putL hf n,K7 h.pr fun t s e=>by rw [A4 (fun q=>by rw [q,hf] at e;cases e)];exact e,h.sm.put n7⟩
noncomputable def asKs (R:List Rl):List Str:=R.filterMap fun z=>if z.1=("as" : Str) then z.2.head? else none
theorem agg{R:List Rl}{z:Rl}(h:R[i]?=some z):asKs (R.take (i+1))=asKs (R.take i)++asKs [z]:=by
 rw [L4 h];unfold asKs;rw [List.filterMap_append]
theorem aj1{z:Rl}(h:z.1≠("as" : Str)):asKs [z]=[]:=by
 unfold asKs;rw [cN,if_neg h];rfl
theorem ahS{y:Str}{fs:List Str} : asKs [(("as" : Str),y::fs)]=[y]:=by
 unfold asKs;rw [cN,if_pos rfl];rfl
theorem alN(R:List Rl):(asKs R).length<=R.length:=List.length_filterMap_le _ _
structure Made(R:List Rl)(L M:List Str)(F:Str->List Tr):Prop where
 lt:∀ (i:Nat) y,L[i]?=some y->F y=[(2,(i:Int),0)]
 mr:∀ (i:Nat) y,M[i]?=some y->F y=[(0,(i:Int),0)]
 gl:∀ y∈D3 R,y∈L
 gr:∀ y∈D3 R,∀ (c:Nat) f,(E9 R y)[c]?=some f->F f=[(2,(L.idxOf y:Int),((c+1:Nat):Int))]
 ne:∀ z∈R,z.1=("as" : Str)\/z.1=("great" : Str)->z.2≠[]
 pt:∀ z∈R,z.1=("as" : Str)->∀ q∈z.2.drop 1,q∈L\/q∈M
 as:∀ z∈R,z.1=("as" : Str)->∀ p qs,z.2=p::qs->F p=qs.map fun q=>(F q).headD (0,0,0)
noncomputable def allKs (R:List Rl) (L M:List Str):List Str:=L++M++(D3 R).flatMap (E9 R)++asKs R
theorem Made.base{R:List Rl}{F:Str->List Tr}(m:Made R L M F){q:Str}(h:q∈L\/q∈M):∃ s,F q=[s]:=by
 rcases h with h | h
 .obtain ⟨i,hi,e⟩:=e8.mp h;exact ⟨_,m.lt i q (by rw [K2 hi,e])⟩
 .obtain ⟨i,hi,e⟩:=e8.mp h;exact ⟨_,m.mr i q (by rw [K2 hi,e])⟩
theorem Made.letter{R:List Rl}{F:Str->List Tr}(m:Made R L M F){q:Str}(h:q∈L):F q=[(2,(L.idxOf q:Int),0)]:=by
 have hi:=fC.mpr h;exact m.lt (L.idxOf q) q (by rw [K2 hi,iY])
noncomputable def ahT (K:PySem.W.Frag):Sp:=fun vs H Q _=>∃ (a b c:Addr) (ts:List Addr) (R:List Rl) (L M:List Str) (F:Str->List Tr),vs=[.ref a,.ref b,.ref c]/\IsRules H a ts R/\Made R L M F/\H b=some (.lst (L.map V.str))/\H c=some (.lst (M.map V.str))/\(∀ z∈R,z.2.length<=1000)/\R.length<=1000/\(∀ i y,(E9 (R.take i) y).length<=10000)/\(allKs R L M).length<=50000/\
 ∀ d H',H d=none->Same H H'->IsMade H' d (G3 [] (allKs R L M)) F->Q (.ref d) H'
noncomputable def baseT (L M:List Str) (q:Str):Tr:=if q∈L then (2,(L.idxOf q:Int),0) else (0,(M.idxOf q:Int),0)
noncomputable def oO (L M:List Str) (R:List Rl):List (Str×List Tr):=R.filterMap fun z=>if z.1=("as" : Str) then z.2.head?.map fun p=>(p,(z.2.drop 1).map (baseT L M)) else none
noncomputable def putsL (R:List Rl) (L M:List Str):List (Str×List Tr):=
 (L.zipIdx.map fun e=>(e.1,[((2:Int),(e.2:Int),(0:Int))]))++(M.zipIdx.map fun e=>(e.1,[((0:Int),(e.2:Int),(0:Int))]))++((D3 R).flatMap fun y=>(E9 R y).zipIdx.map fun e=>(e.1,[((2:Int),(L.idxOf y:Int),((e.2+1:Nat):Int))]))++oO L M R
noncomputable def stepF (R:List Rl) (L M:List Str) (p:Str):List Tr:=((putsL R L M).lookup p).getD []
theorem aj2{p:Str}{s:List Tr} : ∀ {l:List (Str×List Tr)},(l.map (·.1)).Nodup->(p,s)∈l->l.lookup p=some s
 | [],_,h=>by cases h
 | (y,t)::l,nd,h=>by
  rw [F7,T6] at nd;rw [fH]
  rcases E7.mp h with h | h
  .obtain ⟨rfl,rfl⟩:=Prod.mk.inj h
   simp
  .have:p≠y:=fun e=>nd.1 (E3.mpr ⟨_,h,e⟩)
   have e:(p==y)=false:=by simpa using this
   rw [e];exact aj2 nd.2 h
theorem agh(R:List Rl)(L M:List Str):(putsL R L M).map (·.1)=allKs R L M:=by
 have z:∀ (l:List Str) (f:Nat->List Tr),(l.zipIdx.map fun e=>(e.1,f e.2)).map (·.1)=l:=fun l f=>by
  rw [f6];exact List.zipIdx_map_fst 0 l
 have a:(oO L M R).map (·.1)=asKs R:=by
  unfold oO asKs;rw [List.map_filterMap]
  congr 1
  funext z
  by_cases h:z.1=("as" : Str)
  .rw [if_pos h,if_pos h]
   cases z.2 <;> rfl
  .rw [if_neg h,if_neg h];rfl
 unfold putsL allKs;rw [E1,E1,E1,z L fun i=>[(2,(i:Int),0)],z M fun i=>[(0,(i:Int),0)],a,List.map_flatMap]
 congr 2
 congr 1
 funext y
 exact z (E9 R y) fun i=>[(2,(L.idxOf y:Int),((i+1:Nat):Int))]
theorem gK{R:List Rl}(nd:(allKs R L M).Nodup){p:Str}{s:List Tr}(h:(p,s)∈putsL R L M):stepF R L M p=s:=by
 unfold stepF;rw [aj2 (by rw [agh];exact nd) h];rfl
theorem anW{R:List Rl}(nd:(allKs R L M).Nodup)(gl:∀ y∈D3 R,y∈L)(ne:∀ z∈R,z.1=("as" : Str)\/z.1=("great" : Str)->z.2≠[])(pt:∀ z∈R,z.1=("as" : Str)->∀ q∈z.2.drop 1,q∈L\/q∈M):Made R L M (stepF R L M):=by
 have m1:∀ (i:Nat) y,L[i]?=some y->(y,[((2:Int),(i:Int),(0:Int))])∈putsL R L M:=fun i y h=>by
  refine V4 _ (V4 _ (V4 _ (E3.mpr ⟨(y,i),?_,rfl⟩)));rw [List.mem_zipIdx_iff_getElem?];exact h
 have m2:∀ (i:Nat) y,M[i]?=some y->(y,[((0:Int),(i:Int),(0:Int))])∈putsL R L M:=fun i y h=>by
  refine V4 _ (V4 _ (R5 _ (E3.mpr ⟨(y,i),?_,rfl⟩)));rw [List.mem_zipIdx_iff_getElem?];exact h
 have hb:∀ q,q∈L\/q∈M->stepF R L M q=[baseT L M q]:=fun q hq=>by
  unfold baseT
  by_cases h:q∈L
  .rw [if_pos h];have hi:=fC.mpr h;exact gK nd (m1 (L.idxOf q) q (by rw [K2 hi,iY]))
  .rw [if_neg h];have hm:=hq.resolve_left h;have hi:=fC.mpr hm;exact gK nd (m2 (M.idxOf q) q (by rw [K2 hi,iY]))
 refine ⟨fun i y h=>gK nd (m1 i y h),fun i y h=>gK nd (m2 i y h),gl,fun y hy c f h=>gK nd ?_,ne,pt,fun z hz e p qs ez=>?_⟩
 .refine V4 _ (R5 _ (w6.mpr ⟨y,hy,E3.mpr ⟨(f,c),?_,rfl⟩⟩));rw [List.mem_zipIdx_iff_getElem?];exact h
 .have:(p,qs.map (baseT L M))∈putsL R L M:=R5 _ (iX.mpr ⟨z,hz,by rw [if_pos e,ez];rfl⟩)
  rw [gK nd this];refine iV fun q hq=>?_
  rw [hb q (pt z hz e q (by rw [ez];exact hq))];rfl
theorem anX{g:Str->Str}{PL:List (Str×Str)}(nc:NC fg g PL):PL.Pairwise fun a b=>a.1=b.1->b.2∈jT:=by
 rw [cL];intro i j hi hj qC e;refine (nc j PL[j].1 PL[j].2 (by rw [K2 hj])).2.1 ?_;rw [<- e];refine E3.mpr ⟨PL[i],?_,rfl⟩;rw [mZ];exact ⟨i,by lia,rfl⟩
theorem jW{g:Str->Str}{PL:List (Str×Str)}(nc:NC fg g PL){p j:Str}(h:(p,j)∈PL):g p=j:=by
 obtain ⟨i,hi,e⟩:=e8.mp h;exact (nc i p j (by rw [K2 hi,e])).1.symm
theorem aj3{g:Str->Str}{PL:List (Str×Str)}(nc:NC fg g PL){j:Str}(hj:j∉jT):((PL.filter fun e=>decide (e.2=j)).map (·.1)).Nodup:=by
 rw [d0,List.pairwise_map];refine List.Pairwise.imp_of_mem ?_ ((anX nc).filter _);intro a b _ hb h e
 have:=h e
 have hb2:b.2=j:=by simpa using (V5.mp hb).2
 rw [hb2] at this;exact hj this
theorem oP{w:Str}(h:dL w):(jobD w=("great" : Str)↔w="great")/\(jobD w=("as" : Str)↔w="as")/\(jobD w=("letter" : Str)↔w="row")/\(jobD w=("mark" : Str)↔w="marks")/\(jobD w=("over" : Str)↔w="over"):=by
 rcases h with rfl | rfl | rfl | rfl | rfl <;> decide +kernel
theorem agj{R:List Rl}{p j:Str} : (p,j)∈C8 R↔∃ z∈R,p∈O7 z/\jobD z.1=j:=by
 unfold C8;rw [w6]
 constructor
 .rintro ⟨z,hz,h⟩;obtain ⟨q,hq,e⟩:=E3.mp h;obtain ⟨rfl,rfl⟩:=Prod.mk.inj e;exact ⟨z,hz,hq,rfl⟩
 .rintro ⟨z,hz,hp,rfl⟩;exact ⟨z,hz,E3.mpr ⟨p,hp,rfl⟩⟩
theorem oQ(z:Rl)(R:List Rl):C8 (z::R)=((O7 z).map fun p=>(p,jobD z.1))++C8 R:=by
 unfold C8;rw [p5]
theorem bG{z:Rl} : (z.1=("great" : Str)->O7 z=z.2.drop 1)/\(z.1=("as" : Str)->O7 z=z.2.take 1)/\(z.1=("row" : Str)\/z.1=("marks" : Str)\/z.1=("over" : Str)->O7 z=z.2):=by
 unfold O7;refine ⟨fun h=>by rw [if_pos h],fun h=>?_,fun h=>?_⟩
 .rw [if_neg (by rw [h];decide +kernel),if_pos h]
 .rw [if_neg,if_neg,if_pos h]
  .rcases h with h | h | h <;> rw [h] <;> decide +kernel
  .rcases h with h | h | h <;> rw [h] <;> decide +kernel
theorem jX:∀ R:List Rl,((C8 R).filter fun e=>decide (e.2=("great" : Str))).map (·.1)=(L7 R).flatMap (·.2)
 | []=>rfl
 | z::R=>by
  rw [oQ,cO,E1,jX R];have e:L7 (z::R)=L7 [z]++L7 R:=oK [z] R;rw [e,p0]
  congr 1
  by_cases h:z.1=("great" : Str)
  .obtain ⟨w,ps⟩:=z;obtain rfl:w=("great" : Str):=h;rw [bG.1 rfl,List.filter_eq_self.mpr,f6]
   .cases ps with
    | nil=>simp [L7]
    | cons y fs=>
     rw [tO];show List.map _ fs=_;simp [Function.comp_def]
   .intro a ha;obtain ⟨q,_,rfl⟩:=E3.mp ha;exact decide_eq_true (show jobD "great"=("great" : Str) by decide +kernel)
  .rw [oM h,List.filter_eq_nil_iff.mpr]
   .rfl
   .intro a ha;obtain ⟨q,hq,rfl⟩:=E3.mp ha
    have:=(oP (jU hq)).1
    simp only [decide_eq_true_eq];exact fun e=>h (this.mp e)
theorem oR:∀ R:List Rl,((C8 R).filter fun e=>decide (e.2=("as" : Str))).map (·.1)=asKs R
 | []=>rfl
 | z::R=>by
  rw [oQ,cO,E1,oR R];have e:asKs (z::R)=asKs [z]++asKs R:=by unfold asKs;rw [<- List.filterMap_append];rfl
  rw [e]
  congr 1
  by_cases h:z.1=("as" : Str)
  .obtain ⟨w,ps⟩:=z;obtain rfl:w=("as" : Str):=h;rw [bG.2.1 rfl,List.filter_eq_self.mpr,f6]
   .cases ps with
    | nil=>simp [asKs]
    | cons y fs=>
     rw [ahS];rfl
   .intro a ha;obtain ⟨q,_,rfl⟩:=E3.mp ha;exact decide_eq_true (show jobD "as"=("as" : Str) by decide +kernel)
  .rw [aj1 h,List.filter_eq_nil_iff.mpr]
   .rfl
   .intro a ha;obtain ⟨q,hq,rfl⟩:=E3.mp ha
    have:=(oP (jU hq)).2.1
    simp only [decide_eq_true_eq];exact fun e=>h (this.mp e)
theorem agk{R:List Rl}{w p:Str} : p∈(rowsW R w).flatten↔∃ z∈R,z.1=w/\p∈z.2:=by
 unfold rowsW;rw [List.mem_flatten]
 constructor
 .rintro ⟨l,hl,hp⟩;obtain ⟨z,hz,rfl⟩:=E3.mp hl;obtain ⟨h1,h2⟩:=V5.mp hz;exact ⟨z,h1,by simpa using h2,hp⟩
 .rintro ⟨z,hz,e,hp⟩;exact ⟨z.2,E3.mpr ⟨z,V5.mpr ⟨hz,by simpa using e⟩,rfl⟩,hp⟩
theorem mem_letter{R:List Rl}{p:Str} : (p,("letter" : Str))∈C8 R↔p∈(rowsW R "row").flatten:=by
 rw [agj,agk]
 constructor
 .rintro ⟨z,hz,hp,e⟩
  have:=(oP (jU hp)).2.2.1.mp e
  exact ⟨z,hz,this,by rw [bG.2.2 (.inl this)] at hp;exact hp⟩
 .rintro ⟨z,hz,e,hp⟩;exact ⟨z,hz,by rw [bG.2.2 (.inl e)];exact hp,by rw [e];decide +kernel⟩
theorem mem_mark{R:List Rl}{p:Str} : (p,("mark" : Str))∈C8 R↔p∈(rowsW R "marks").flatten:=by
 rw [agj,agk]
 constructor
 .rintro ⟨z,hz,hp,e⟩
  have:=(oP (jU hp)).2.2.2.1.mp e
  exact ⟨z,hz,this,by rw [bG.2.2 (.inr (.inl this))] at hp;exact hp⟩
 .rintro ⟨z,hz,e,hp⟩;exact ⟨z,hz,by rw [bG.2.2 (.inr (.inl e))];exact hp,by rw [e];decide +kernel⟩
theorem tQ{zss:List (List Str)}{p:Str} : p∈toldL zss↔p∈zss.flatten:=by
 unfold toldL;rw [nS,q9]
 simp
theorem bH{R:List Rl}{w:Str}(h:X9 R w L){p:Str} : p∈L↔p∈(rowsW R w).flatten:=by
 rw [<- tQ];exact ⟨h.1.sub,h.2 p⟩
structure GoodR(g:Str->Str)(r1 r2:Str->Nat)(R:List Rl):Prop where
 len:R.length<=1000
 plen:(C8 R).length<=10000
 nc:NC (hasW R "figures") g (C8 R)
 nb:(" " : Str)∉(C8 R).map (·.1)
 zl:∀ z∈R,z.2.length<=1000
 ne:∀ z∈R,z.1=("as" : Str)\/z.1=("great" : Str)->z.2≠[]
 gl:∀ z∈R,z.1=("great" : Str)->∀ p∈z.2.take 1,(p,("letter" : Str))∈C8 R
 al:∀ z∈R,z.1=("as" : Str)->∀ p∈(z.2.drop 1).take 1,(p,("letter" : Str))∈C8 R
 am:∀ z∈R,z.1=("as" : Str)->∀ p∈z.2.drop 2,(p,("letter" : Str))∈C8 R\/(p,("mark" : Str))∈C8 R
 f1:(rowsW R "row").flatten.length<=10000
 f2:(rowsW R "marks").flatten.length<=10000
 a1:∀ e∈edges (rowsW R "row"),r1 e.1<r1 e.2
 a2:∀ e∈edges (rowsW R "marks"),r2 e.1<r2 e.2
theorem GoodR.job{g:Str->Str}{r1 r2:Str->Nat}{R:List Rl}(h:GoodR g r1 r2 R){p j:Str}(hp:(p,j)∈C8 R):p∈keysP (C8 R)++U7 R/\jobG g p=.str j:=by
 have hm:p∈(C8 R).map (·.1):=E3.mpr ⟨_,hp,rfl⟩;refine ⟨V4 _ ((oH _ _).mpr hm),?_⟩;unfold jobG;rw [if_neg (fun e=>h.nb (by rw [<- e];exact hm)),jW h.nc hp]
theorem GoodR.used{g:Str->Str}{r1 r2:Str->Nat}{R:List Rl}(h:GoodR g r1 r2 R){z:Rl}(hz:z∈R):Used (keysP (C8 R)++U7 R) (jobG g) z:=
 ⟨fun e p hp=>h.job (h.gl z hz e p hp),fun e p hp=>h.job (h.al z hz e p hp),fun e p hp=>(h.am z hz e p hp).elim (fun q=>⟨(h.job q).1,.inl (h.job q).2⟩) fun q=>⟨(h.job q).1,.inr (h.job q).2⟩⟩
theorem forms_mem{R:List Rl}{y f:Str} : f∈E9 R y↔∃ e∈L7 R,e.1=y/\f∈e.2:=by
 unfold E9;rw [w6]
 constructor
 .rintro ⟨e,he,hf⟩;obtain ⟨h1,h2⟩:=V5.mp he;exact ⟨e,h1,by simpa using h2,hf⟩
 .rintro ⟨e,he,h,hf⟩;exact ⟨e,V5.mpr ⟨he,by simpa using h⟩,hf⟩
theorem mem_formKs{R:List Rl}{y:Str} : y∈D3 R↔∃ e∈L7 R,e.1=y:=by
 unfold D3;rw [q9,E3]
 simp
theorem amt{g:Str->Str}{r1 r2:Str->Nat}{R:List Rl}(h:GoodR g r1 r2 R)(hL:X9 R "row" L)(hM:X9 R "marks" M):(allKs R L M).Nodup:=by
 have Z:((L7 R).flatMap (·.2)).Nodup:=by rw [<- jX];exact aj3 h.nc (by decide +kernel)
 have jl:∀ p∈L,g p="letter":=fun p hp=>jW h.nc (mem_letter.mpr ((bH hL).mp hp))
 have jm:∀ p∈M,g p="mark":=fun p hp=>jW h.nc (mem_mark.mpr ((bH hM).mp hp))
 have jf:∀ p∈(D3 R).flatMap (E9 R),g p="great":=fun p hp=>by
  obtain ⟨y,_,hp⟩:=w6.mp hp;obtain ⟨e,he,_,hf⟩:=forms_mem.mp hp
  have:p∈(L7 R).flatMap (·.2):=w6.mpr ⟨e,he,hf⟩
  rw [<- jX] at this;obtain ⟨⟨q,j⟩,hq,rfl⟩:=E3.mp this;obtain ⟨h1,h2⟩:=V5.mp hq;have h2:j=("great" : Str):=by simpa using h2
  subst h2;exact jW h.nc h1
 have ja:∀ p∈asKs R,g p="as":=fun p hp=>by
  rw [<- oR] at hp;obtain ⟨⟨q,j⟩,hq,rfl⟩:=E3.mp hp;obtain ⟨h1,h2⟩:=V5.mp hq;have h2:j=("as" : Str):=by simpa using h2
  subst h2;exact jW h.nc h1
 have nf:((D3 R).flatMap (E9 R)).Nodup:=by
  rw [d0,List.pairwise_flatMap] at Z ⊢
  obtain ⟨z1,z2⟩:=Z;refine ⟨fun y _=>?_,?_⟩
  .unfold E9;rw [List.pairwise_flatMap];exact ⟨fun e he=>z1 e (V5.mp he).1,z2.filter _⟩
  .have nk:(D3 R).Nodup:=by unfold D3;exact tD (by simp)
   refine List.Pairwise.imp ?_ (d0.mp nk);intro y y' lY f hf f' hf' e;subst e;obtain ⟨e1,h1,r1,f1⟩:=forms_mem.mp hf;obtain ⟨e2,h2,r2,f2⟩:=forms_mem.mp hf';obtain ⟨i,hi,q1⟩:=e8.mp h1;obtain ⟨j,hj,q2⟩:=e8.mp h2;rw [cL] at z2
   rcases Nat.lt_trichotomy i j with c | c | c
   .exact z2 i j hi hj c f (by rw [q1];exact f1) f (by rw [q2];exact f2) rfl
   .subst c;exact lY (by rw [<- r1,<- r2,<- q1,<- q2])
   .exact z2 j i hj hi c f (by rw [q2];exact f2) f (by rw [q1];exact f1) rfl
 have na:(asKs R).Nodup:=by rw [<- oR];exact aj3 h.nc (by decide +kernel)
 have n1:("letter" : Str)≠"mark"/\("letter" : Str)≠"great"/\("letter" : Str)≠"as"/\("mark" : Str)≠"great"/\("mark" : Str)≠"as"/\("great" : Str)≠"as":=by decide +kernel
 unfold allKs;rw [aR,aR,aR];refine ⟨⟨⟨hL.1.nodup,hM.1.nodup,fun a ha b hb e=>?_⟩,nf,fun a ha b hb e=>?_⟩,na,fun a ha b hb e=>?_⟩
 .subst e;exact n1.1 ((jl a ha).symm.trans (jm a hb))
 .subst e
  rcases M4.mp ha with ha | ha
  .exact n1.2.1 ((jl a ha).symm.trans (jf a hb))
  .exact n1.2.2.2.1 ((jm a ha).symm.trans (jf a hb))
 .subst e
  rcases M4.mp ha with ha | ha
  .rcases M4.mp ha with ha | ha
   .exact n1.2.2.1 ((jl a ha).symm.trans (ja a hb))
   .exact n1.2.2.2.2.1 ((jm a ha).symm.trans (ja a hb))
  .exact n1.2.2.2.2.2 ((jf a ha).symm.trans (ja a hb))
theorem anY{g:Str->Str}{r1 r2:Str->Nat}{R:List Rl}(h:GoodR g r1 r2 R)(hL:X9 R "row" L)(hM:X9 R "marks" M):Made R L M (stepF R L M):=by
 refine anW (amt h hL hM) (fun y hy=>?_) h.ne fun z hz e q hq=>?_
 .obtain ⟨e,he,rfl⟩:=mem_formKs.mp hy;unfold L7 at he;obtain ⟨z,hz,hh⟩:=iX.mp he
  by_cases hg:z.1=("great" : Str)
  .rw [if_pos hg] at hh;obtain ⟨w,ps⟩:=z
   cases ps with
   | nil=>cases hh
   | cons y fs=>
    have hh:=Option.some.inj hh;rw [<- hh];exact (bH hL).mpr (mem_letter.mp (h.gl _ hz hg y (by simp)))
  .rw [if_neg hg] at hh;cases hh
 .rw [<- j6 1 (z.2.drop 1)] at hq
  rcases M4.mp hq with hq | hq
  .exact .inl ((bH hL).mpr (mem_letter.mp (h.al z hz e q hq)))
  .rw [List.drop_drop] at hq
   rcases h.am z hz e q hq with h1 | h1
   .exact .inl ((bH hL).mpr (mem_letter.mp h1))
   .exact .inr ((bH hM).mpr (mem_mark.mp h1))
theorem anZ{g:Str->Str}{r1 r2:Str->Nat}{R:List Rl}(h:GoodR g r1 r2 R)(hL:X9 R "row" L)(hM:X9 R "marks" M):(allKs R L M).length<=10000:=by
 refine E8 ?_ h.plen
 have:=List.Nodup.length_le_of_subset (l₂:=(C8 R).map (·.1)) (amt h hL hM) fun p hp=>by
  unfold allKs at hp
  rcases M4.mp hp with hp | hp
  .rcases M4.mp hp with hp | hp
   .rcases M4.mp hp with hp | hp
    .exact E3.mpr ⟨_,mem_letter.mpr ((bH hL).mp hp),rfl⟩
    .exact E3.mpr ⟨_,mem_mark.mpr ((bH hM).mp hp),rfl⟩
   .obtain ⟨y,_,hp⟩:=w6.mp hp;obtain ⟨e,he,_,hf⟩:=forms_mem.mp hp
    have:p∈(L7 R).flatMap (·.2):=w6.mpr ⟨e,he,hf⟩
    rw [<- jX] at this;obtain ⟨q,hq,rfl⟩:=E3.mp this;exact E3.mpr ⟨q,(V5.mp hq).1,rfl⟩
  .rw [<- oR] at hp;obtain ⟨q,hq,rfl⟩:=E3.mp hp;exact E3.mpr ⟨q,(V5.mp hq).1,rfl⟩
 rw [A2] at this;exact this
theorem aj4{g:Str->Str}{r1 r2:Str->Nat}{R:List Rl}(h:GoodR g r1 r2 R)(i:Nat)(y:Str):(E9 (R.take i) y).length<=10000:=by
 refine E8 ?_ h.plen;have h1:(E9 (R.take i) y).length<=((L7 (R.take i)).flatMap (·.2)).length:=by
  unfold E9;generalize L7 (R.take i)=E
  induction E with
  | nil=>exact B3 _
  | cons e E ih=>
   rw [List.filter_cons]
   split
   .rw [p5,p5,D1,D1];lia
   .rw [p5,D1];lia
 have h2:((L7 (R.take i)).flatMap (·.2)).length<=(C8 (R.take i)).length:=by
  rw [<- jX,A2];exact List.length_filter_le _ _
 obtain ⟨more,e⟩:=agc R i;rw [e,D1];lia
theorem IsMade.mod{d:Addr}{F:Str->List Tr}{o o':HO}(h:IsMade H d ks F)(ha:H a=some o')(hn:∀ xs,o'≠.tup xs)(nd:d≠a):IsMade (A0 H a o) d ks F:=
 let ⟨ad,h1,h2⟩:=h
 ⟨ad,by rw [A4 nd];exact h1,fun y hy=>(h2 y hy).put ha hn⟩
structure IsOrd(C:Addr)(H:Hp)(x j ll ml md:Addr)(g:Str->Str)(R:List Rl)(L M:List Str):Prop where
 ob:∃ dx,H x=some (.ins C dx (ordF (hasW R "figures") (hasW R "behind") j ll ml md))
 jobs:H j=some (.dK (C1 (keysP (C8 R)++U7 R) (jobG g)))
 lets:H ll=some (.lst (L.map V.str))
 mrks:H ml=some (.lst (M.map V.str))
 made:IsMade H md (G3 [] (allKs R L M)) (stepF R L M)
 l1:X9 R "row" L
 l2:X9 R "marks" M
theorem IsOrd.same{x j ll ml:Addr}{g:Str->Str}{R:List Rl}(h:IsOrd C H x j ll ml md g R L M)(s:Same H H'):IsOrd C H' x j ll ml md g R L M:=
 ⟨let ⟨dx,e⟩:=h.ob;⟨dx,s _ _ e⟩,s _ _ h.jobs,s _ _ h.lets,s _ _ h.mrks,h.made.same s,h.l1,h.l2⟩
noncomputable def tR (C:Addr):Sp:=fun vs H Q _=>∃ (x dx a:Addr) (ts:List Addr) (R:List Rl) (g:Str->Str) (r1 r2:Str->Nat),vs=[.ref x,.ref a]/\H x=some (.ins C dx [])/\IsRules H a ts R/\GoodR g r1 r2 R/\
 ∀ j ll ml md L M H',H j=none->H ll=none->H ml=none->H md=none->SameBut x H H'->IsOrd C H' x j ll ml md g R L M->Q .non H'
noncomputable def aj5 (C:Addr):Sp:=fun vs H Q _=>∃ (x j ll ml md:Addr) (g:Str->Str) (R:List Rl) (L M:List Str),vs=[.ref x]/\IsOrd C H x j ll ml md g R L M/\∀ l,H l=none->Q (.ref l) (A0 H l (.lst (L.map V.str)))
noncomputable def ahV (C:Addr):Sp:=fun vs H Q _=>∃ (x j ll ml md:Addr) (g:Str->Str) (R:List Rl) (L M:List Str),vs=[.ref x]/\IsOrd C H x j ll ml md g R L M/\∀ l,H l=none->Q (.ref l) (A0 H l (.lst (M.map V.str)))
noncomputable def tS (C:Addr):Sp:=fun vs H Q _=>∃ (x j ll ml md:Addr) (p:Str) (g:Str->Str) (R:List Rl) (L M:List Str),vs=[.ref x,.str p]/\IsOrd C H x j ll ml md g R L M/\Q (if p∈keysP (C8 R)++U7 R then jobG g p else .non) H
end L2
set_option maxRecDepth 100000
namespace L2
open PySem PySem.Spec PyProof.Rows
structure RulesAt(H0 H:Hp)(a:Addr)(ts:List Addr)(R:List Rl):Prop where
 rows:IsRules H a ts R
 nd:(a::ts).Nodup
 new:∀ r∈a::ts,H0 r=none
 same:Same H0 H
theorem oS{F:Addr->Rl->Prop}{l₁:List Addr}{l₂:List Rl}(h:Paired F l₁ l₂):∀ k,Paired F (l₁.drop k) (l₂.drop k):=by
 induction h with
 | nil=>intro k;rw [List.drop_nil,List.drop_nil];exact .nil
 | cons h t ih=>intro k;cases k with
  | zero=>exact .cons h t
  | succ k=>exact ih k
theorem aiC{E:List (Str×Str)}(r:R9 E ts line){e:Str×Str}(he:e∈E)(h2:e.2∈line):line.idxOf e.1<line.idxOf e.2:=by
 obtain ⟨pre,post,el⟩:=List.append_of_mem h2;obtain ⟨h3,h4,h5⟩:=gF (r pre e.2 post el);have h6:=cnt_zero.mp h5 e he rfl;rw [el,List.idxOf_append,if_pos h6,List.idxOf_append,if_neg h4]
 have:=fC.mpr h6
 lia
theorem aj7{E:List (Str×Str)}(nd:ps.Nodup)(tnd:ts.Nodup)(r:R9 E ts line)(cov:∀ p∈ts,p∈line)(hm:∀ p,p∈ts↔p∈ps)(hE:∀ e∈T9 ps,e∈E):line=ps:=by
 have hl:line.length=ps.length:=by
  rw [oC tnd r cov];exact ((List.perm_ext_iff_of_nodup tnd nd).mpr fun a=>hm a).length_eq
 have J8:∀ p∈ps,p∈line:=fun p hp=>cov p ((hm p).mpr hp)
 have C3:∀ i (h:i<ps.length),line.idxOf ps[i]<ps.length:=fun i h=>by
  rw [<- hl];exact fC.mpr (J8 _ (List.getElem_mem h))
 have step:∀ i (h:i+1<ps.length),line.idxOf ps[i]<line.idxOf ps[i+1]:=fun i h=>by
  have he:(ps[i],ps[i+1])∈T9 ps:=by
   have:=af8 (zs:=ps) (j:=i) (x:=ps[i]) (y:=ps[i+1]) (K2 (by lia)) (by rw [List.getElem?_tail];exact K2 h)
   exact N4 this
  exact aiC r (hE _ he) (J8 _ (List.getElem_mem h))
 have up:∀ i (h:i<ps.length),i<=line.idxOf ps[i]:=by
  intro i
  induction i with
  | zero=>intro h;exact G2 _
  | succ i ih=>
   intro h
   have:=ih (by lia)
   have:=step i h
   lia
 have down:∀ d i (h:i<ps.length),ps.length-1-i=d->line.idxOf ps[i]<=i:=by
  intro d
  induction d with
  | zero=>
   intro i h e
   have:=C3 i h
   lia
  | succ d ih=>
   intro i h e;have h1:=ih (i+1) (by lia) (by lia);have h2:=step i (by lia);lia
 refine List.ext_getElem hl fun i h1 h2=>?_
 have e:line.idxOf ps[i]=i:=Nat.le_antisymm (down _ i h2 rfl) (up i h2)
 have:=iY (x:=ps[i]) (xs:=line) (by rw [e];exact h1)
 simp only [e] at this;exact this
noncomputable def tT (ns:List Int) (k:Int) (p:Str):Prop:=∃ rest:List Nat,p.cps.toList=gH ns k::rest/\rest.length<=1/\∀ c∈rest,∃ m:Int,c=gH ns m
noncomputable def PcS (ns:List Int) (S:Int->Prop) (p:Str):Prop:=∃ k,S k/\tT ns k p
structure Dis(ns:List Int)(S:Int->Prop)(ps:List Str):Prop where
 nd:ps.Nodup
 pc:∀ p∈ps,PcS ns S p
 uq:∀ p∈ps,∀ q∈ps,∀ k:Int,20<=k->k<83->tT ns k p->tT ns k q->p=q
noncomputable def LetS (k:Int):Prop:=0<=k/\k<16
structure LetW(ns:List Int)(n:Int)(ps:List Str):Prop where
 n0:2<=n
 n1:n<=16
 all:∀ k:Int,0<=k->k<n->one (gH ns k)∈ps
 each:∀ p∈ps,∃ k:Int,0<=k/\k<n/\(p=one (gH ns k)\/∃ m:Int,0<=m/\m<n/\p=one (gH ns k)++one (gH ns m))
noncomputable def OthZ (ls ms:List Str) (z:Rl):Prop:=(z.1=("great" : Str)/\∃ l fs,z.2=l::fs/\l∈ls/\1<=fs.length/\fs.length<=2)\/(z.1=("as" : Str)/\∃ p q qs,z.2=p::q::qs/\q∈ls/\(∀ r∈qs,r∈ls\/r∈ms)/\qs.length<=2)\/(z.1=("over" : Str)/\z.2.length<=2)
noncomputable def GS (i:Nat) (k:Int):Prop:=(30<=k/\k<30+(i:Int))\/(34<=k/\k<34+(i:Int))
noncomputable def AS (i:Nat) (k:Int):Prop:=GS 3 k\/(40<=k/\k<40+(i:Int))
noncomputable def OS (k:Int):Prop:=AS 3 k\/(50<=k/\k<52)
structure AsR(ls ms:List Str)(H0 H:Hp)(t:Addr)(p:Str)(qs:List Str)(j:Nat):Prop where
 same:Same H0 H
 tup:H t=some (tupR ("as",p::qs))
 new:H0 t=none
 len:qs.length=j
 ok:∀ i q,qs[i]?=some q->q∈ls\/(0<i/\q∈ms)
noncomputable def MarkS (k:Int):Prop:=20<=k/\k<25
noncomputable def flagW (w:Str):Prop:=w=("figures" : Str)\/w=("behind" : Str)\/w=("blanks" : Str)
structure RulP(ns:List Int)(ls ms:List Str)(b:Bool)(n:Nat)(R:List Rl):Prop where
 dis:Dis ns (fun k=>LetS k\/OS k\/(b=true/\MarkS k)) ((C8 R).map (·.1))
 row:rowsW R "row"=[ls]
 mrk:rowsW R "marks"=if b=true then [ms] else []
 each:∀ z∈R,z=(("row" : Str),ls)\/(z=(("marks" : Str),ms)/\b=true)\/OthZ ls ms z\/(z.2=[]/\flagW z.1)
 len:R.length<=n
 fig:hasW R "figures"=true->tK ns=false
 oi:∀ z∈R,OthZ ls ms z->∀ p∈O7 z,PcS ns OS p
noncomputable def U0 (R:List Rl) (p:Str):Str:=((C8 R).lookup p).getD ""
theorem agl(nd:ps.Nodup){e:Str×Str}(he:e∈T9 ps):ps.idxOf e.1<ps.idxOf e.2:=by
 unfold T9 at he;obtain ⟨i,hi,e1⟩:=e8.mp he;rw [List.getElem_zip] at e1;have j3:i+1<ps.length:=by rw [List.length_zip,List.length_tail] at hi;lia
 have iE:i<ps.tail.length:=by rw [List.length_tail];lia
 have e3:ps.tail[i]'iE=ps[i+1]:=List.getElem_tail iE;have f1:ps[i]=e.1:=congrArg Prod.fst e1;have f2:ps[i+1]=e.2:=e3.symm.trans (congrArg Prod.snd e1);have a1:ps.idxOf ps[i]=i:=List.Nodup.idxOf_getElem nd i (by lia);have a2:ps.idxOf ps[i+1]=i+1:=List.Nodup.idxOf_getElem nd (i+1) j3;rw [<- f1,<- f2,a1,a2];lia
structure RulG(ns:List Int)(ls ms:List Str)(R:List Rl):Prop where
 p:∃ b,RulP ns ls ms b 12 R/\(b=false->ms=[])
 l0:2<=ls.length
 l1:ls.length<=19
 ld:Dis ns LetS ls
 lw:∃ n,LetW ns n ls
 m1:ms.length<=4
 md:Dis ns MarkS ms
noncomputable def spLaw (K:PySem.W.Frag):Sp:=fun vs H Q _=>∃ (a:Addr) (ns:List Int),vs=[.ref a]/\C7 K H a (ns.map V.int)/\ns.length<=63/\∀ H',Q (.bl true) H'
end L2
set_option maxRecDepth 100000
namespace L2
open PySem PySem.Spec PyProof.Rows
noncomputable def rIntU:List V->Hp->VK->Prop
 | [.bl b],H,Q=>Q (.int (if b then 1 else 0)) H
 | [.str x],H,Q=>PySem.NumText.AllDigits x.cps.toList/\1<=x.length/\x.length<=640/\Q (.int ((jE x.cps.toList:Nat):Int)) H
 | _,_,_=>False
theorem aqV : QCall X (.type "int") rIntU:=⟨by
 intro pins s Y H xs us Q I r h
 match xs,h with
 | [.bl b],h=>exact ai9 pins s Y H _ us Q I r (.inr ⟨b,rfl,h⟩)
 | [.str x],h=>
  obtain ⟨h1,h2,h3,q⟩:=h;obtain ⟨u,rfl,r1⟩:=vals1 r;obtain ⟨t,rfl⟩:=r1;have M7:x.cps.toList≠[]:=fun e=>by
   have:x.cps.toList.length=x.length:=by simp [Str.length]
   rw [e] at this;simp at this;lia
  exact PySem.W.KIN.call_text (PySem.intText_digits h1 M7 (by lia)) h3 ⟨V.int ((jE x.cps.toList:Nat):Int),H,I.tok _,⟨_,rfl⟩,q⟩⟩
theorem aqW{b:Bool} : rIntU [.bl b] H Q=Q (.int (if b then 1 else 0)) H:=rfl
theorem aqX{x:Str} : rIntU [.str x] H Q=(PySem.NumText.AllDigits x.cps.toList/\1<=x.length/\x.length<=640/\Q (.int ((jE x.cps.toList:Nat):Int)) H):=rfl
noncomputable def rInD (K:PySem.W.Frag) (x y:V) (H:Hp) (Q:VK):Prop:=∃ (d:PyData) (ds:List PyData),Dn K H x d/\Dn K H y (.list ds)/\min (g4 ds) d.depth<=60/\Q (.bl (ds.any fun e=>V6 e d)) H
theorem aqY : rInD K x y H Q=∃ (d:PyData) (ds:List PyData),Dn K H x d/\Dn K H y (.list ds)/\min (g4 ds) d.depth<=60/\Q (.bl (ds.any fun e=>V6 e d)) H:=rfl
end L2
set_option maxRecDepth 100000
namespace L2
open PySem PySem.Spec PyProof.Rows
open PySem.Builtin PySem.Builtin.Str PySem.StrLaws
noncomputable def rTupA (K:PySem.W.Frag):R2:=fun x y H Q=>∃ a b xs ys,x=.ref a/\y=.ref b/\C4 K H a xs/\C4 K H b ys/\ys≠[]/\xs.length+ys.length<=sizeLine/\∀ p H',Same H H'->C4 K H' p (xs++ys)->(H' p=some (.tup (xs++ys))\/xs=[]/\p=b)->Q (.ref p) H'
theorem aqZ : rTupA K (.ref a) (.ref b) H Q=∃ xs ys,C4 K H a xs/\C4 K H b ys/\ys≠[]/\xs.length+ys.length<=sizeLine/\∀ p H',Same H H'->C4 K H' p (xs++ys)->(H' p=some (.tup (xs++ys))\/xs=[]/\p=b)->Q (.ref p) H':=
 propext ⟨fun ⟨_,_,xs,ys,e1,e2,h⟩=>(by cases e1;cases e2;exact ⟨xs,ys,h⟩),fun ⟨xs,ys,h⟩=>⟨a,b,xs,ys,rfl,rfl,h⟩⟩
end L2
set_option maxRecDepth 100000
namespace L2
open PySem PySem.Spec PyProof.Rows
theorem aq0{d:Value}(h:(us++[d]).length=3):∃ u1 u2,us=[u1,u2]:=by
 match us,h with
 | [a,b],_=>exact ⟨a,b,rfl⟩
 | [],h=>simp at h
 | [_],h=>simp at h
 | _::_::_::r,h=>simp at h
theorem gL(g:List Str)(z:Str):(valV (kvOf g) (Sum.inr z)).isSome=decide (z∈g):=by
 rw [<- sN];unfold valV;rw [Option.isSome_map,List.isSome_find?]
theorem tU{y rest:List Nat}(h:z.cps.toList=pre++(y++rest)):cutS z (some (pre.length:Int)) (some ((pre.length:Int)+(y.length:Int)))=⟨y.toArray⟩:=by
 have hl:z.length=pre.length+(y.length+rest.length):=by
  have:=congrArg X4 h
  simp [Str.length] at this ⊢
  lia
 apply Str.ext'
 apply Array.toList_inj.mp
 rw [af0,h];have e1:HT.sIx z.length 0 (some (pre.length:Int))=pre.length:=by rw [HT.sIx_nat];lia
 have e2:HT.sIx z.length z.length (some ((pre.length:Int)+(y.length:Int)))=pre.length+y.length:=by
  rw [show (pre.length:Int)+(y.length:Int)=((pre.length+y.length:Nat):Int) by lia,HT.sIx_nat];lia
 rw [e1,e2,List.drop_left,show pre.length+y.length-pre.length=y.length by lia,List.take_left]
theorem agm{c:Nat}(h:z.cps.toList=pre++[c]):cutS z (some (pre.length:Int)) (some ((pre.length:Int)+2))=one c:=by
 have hl:z.length=pre.length+1:=by
  have:=congrArg X4 h
  simp [Str.length] at this ⊢
  lia
 apply Str.ext'
 apply Array.toList_inj.mp
 rw [af0,h];have e1:HT.sIx z.length 0 (some (pre.length:Int))=pre.length:=by rw [HT.sIx_nat];lia
 have e2:HT.sIx z.length z.length (some ((pre.length:Int)+2))=pre.length+1:=by
  rw [show (pre.length:Int)+2=((pre.length+2:Nat):Int) by lia,HT.sIx_nat];lia
 rw [e1,e2,List.drop_left,show pre.length+1-pre.length=1 by lia];rfl
theorem aj8{r:List Nat}{c:Nat} : G0 (pre++c::r) (pre.length:Int)=some c:=P8 (by rw [iR (B3 _),Nat.sub_self];rfl)
theorem aeW:∀ (zs acc:List Str),V7 (kvOf acc) (kvOf zs)=kvOf (G3 acc zs)
 | [],acc=>rfl
 | z::zs,acc=>by
  show V7 (putK (kvOf acc) (Sum.inr z) (.bl true)) (kvOf zs)=kvOf (G3 (dd acc z) zs);rw [afZ,aeW zs]
noncomputable def aj9:Sp:=fun vs H Q _=>∃ (z:Str) (pre rest:List Nat),vs=[.str z,.int pre.length]/\z.length<=1000/\z.cps.toList=pre++rest/\Q (.str ⟨(rest.takeWhile figO).toArray⟩) H
theorem alO(h:(us++[]).length=3):∃ u1 u2 u3,us=[u1,u2,u3]:=by
 match us,h with
 | [a,b,c],_=>exact ⟨a,b,c,rfl⟩
 | [],h=>simp at h
 | [_],h=>simp at h
 | [_,_],h=>simp at h
 | _::_::_::_::r,h=>simp at h
theorem lenL(z:Str):z.cps.toList.length=z.length:=by simp [Str.length]
noncomputable def partG (g:List Str):List Nat->Option Str
 | []=>none
 | [c]=>if one c∈g then some (one c) else none
 | c::d::_=>if r0 c d∈g then some (r0 c d) else if one c∈g then some (one c) else none
theorem bI(g:List Str)(c:Nat):partG g [c]=if one c∈g then some (one c) else none:=rfl
theorem bJ(g:List Str)(c d:Nat)(r:List Nat):partG g (c::d::r)=if r0 c d∈g then some (r0 c d) else if one c∈g then some (one c) else none:=rfl
noncomputable def partF (w:Bool) (g:List Str):List Nat->Option Str
 | []=>none
 | c::r=>if (w&&figO c)=true then some ⟨((c::r).takeWhile figO).toArray⟩ else partG g (c::r)
theorem gM(w:Bool)(g:List Str)(c:Nat)(r:List Nat):partF w g (c::r)=if (w&&figO c)=true then some ⟨((c::r).takeWhile figO).toArray⟩ else partG g (c::r):=rfl
theorem aeX{g:List Str}{y:Str} : ∀ {l:List Nat},partG g l=some y->∃ rest,l=y.cps.toList++rest/\1<=y.length
 | [],h=>by cases h
 | [c],h=>by
  rw [bI] at h
  by_cases hc:one c∈g
  .rw [if_pos hc] at h;cases h;exact ⟨[],rfl,by show 1<=1;decide⟩
  .rw [if_neg hc] at h;cases h
 | c::d::r,h=>by
  rw [bJ] at h
  by_cases h2:r0 c d∈g
  .rw [if_pos h2] at h;cases h;exact ⟨r,rfl,by show 1<=2;decide⟩
  .rw [if_neg h2] at h
   by_cases hc:one c∈g
   .rw [if_pos hc] at h;cases h;exact ⟨d::r,rfl,by show 1<=1;decide⟩
   .rw [if_neg hc] at h;cases h
theorem ag3{g:List Str}(h:∀ x,x∈g↔x∈g'):∀ l,partG g l=partG g' l
 | []=>rfl
 | [c]=>by
  rw [bI,bI]
  by_cases hc:one c∈g
  .rw [if_pos hc,if_pos ((h _).mp hc)]
  .rw [if_neg hc,if_neg (fun z=>hc ((h _).mpr z))]
 | c::d::r=>by
  rw [bJ,bJ]
  by_cases h2:r0 c d∈g
  .rw [if_pos h2,if_pos ((h _).mp h2)]
  .rw [if_neg h2,if_neg (fun z=>h2 ((h _).mpr z))]
   by_cases hc:one c∈g
   .rw [if_pos hc,if_pos ((h _).mp hc)]
   .rw [if_neg hc,if_neg (fun z=>hc ((h _).mpr z))]
theorem ag4{w:Bool}{g:List Str}(h:∀ x,x∈g↔x∈g')(l:List Nat):partF w g l=partF w g' l:=by
 cases l with
 | nil=>rfl
 | cons c r=>rw [gM,gM,ag3 h]
theorem aeY{w:Bool}{g:List Str}{y:Str}{l:List Nat}(h:partF w g l=some y):∃ rest,l=y.cps.toList++rest/\1<=y.length:=by
 cases l with
 | nil=>cases h
 | cons c r=>
  rw [gM] at h
  by_cases hw:(w&&figO c)=true
  .rw [if_pos hw] at h;cases h;rw [f8] at hw;refine ⟨(c::r).dropWhile figO,(List.takeWhile_append_dropWhile).symm,?_⟩;show 1<=((c::r).takeWhile figO).length;rw [List.takeWhile_cons_of_pos hw.2]
   simp
  .rw [if_neg hw] at h;exact aeX h
noncomputable def cutFn (w:Bool) (g:List Str):Nat->List Nat->Nat×List Str
 | 0,_=>(0,[])
 | n+1,l=>match partF w g l with
  | none=>(0,[])
  | some y=>((cutFn w g n (l.drop y.length)).1+y.length,y::(cutFn w g n (l.drop y.length)).2)
noncomputable def cutF (w:Bool) (g:List Str) (l:List Nat):Nat×List Str:=cutFn w g l.length l
theorem aeZ(w:Bool)(g:List Str):∀ (n m:Nat) (l:List Nat),l.length<=n->l.length<=m->cutFn w g n l=cutFn w g m l
 | 0,0,_,_,_=>rfl
 | 0,m+1,l,h,_=>by
  have:l=[]:=w5.mp (by lia)
  subst this;rfl
 | n+1,0,l,_,h=>by
  have:l=[]:=w5.mp (by lia)
  subst this;rfl
 | n+1,m+1,l,h1,h2=>by
  cases e:partF w g l with
  | none=>show (match partF w g l with | none=>_ | some y=>_)=(match partF w g l with | none=>_ | some y=>_);rw [e]
  | some y=>
   obtain ⟨rest,e1,e2⟩:=aeY e;have hd:(l.drop y.length).length=l.length-y.length:=j8
   have:=aeZ w g n m (l.drop y.length) (by lia) (by lia)
   show (match partF w g l with | none=>_ | some y=>_)=(match partF w g l with | none=>_ | some y=>_);rw [e]
   dsimp only
   rw [this]
theorem dN{w:Bool}{g:List Str}{l:List Nat}(h:partF w g l=none):cutF w g l=(0,[]):=by
 unfold cutF;cases hl:l.length with
 | zero=>rfl
 | succ n=>
  show (match partF w g l with | none=>_ | some y=>_)=_;rw [h]
theorem jY(w:Bool)(g:List Str):cutF w g []=(0,[]):=rfl
theorem bK{w:Bool}{g:List Str}{y:Str}{l:List Nat}(h:partF w g l=some y):∃ rest,l=y.cps.toList++rest/\cutF w g l=((cutF w g rest).1+y.length,y::(cutF w g rest).2)/\1<=y.length:=by
 obtain ⟨rest,e1,e2⟩:=aeY h;refine ⟨rest,e1,?_,e2⟩;have el:l.length=y.length+rest.length:=by rw [e1,D1,lenL]
 have ed:l.drop y.length=rest:=by rw [e1,<- lenL,List.drop_left]
 unfold cutF;cases hl:l.length with
 | zero=>lia
 | succ k=>
  show (match partF w g l with | none=>_ | some y=>_)=_;rw [h]
  dsimp only
  rw [ed,aeZ w g k rest.length rest (by lia) (B3 _)]
theorem aiD{w:Bool}{g:List Str}(h:∀ x,x∈g↔x∈g')(l:List Nat):cutF w g l=cutF w g' l:=by
 have:∀ n l,cutFn w g n l=cutFn w g' n l:=by
  intro n
  induction n with
  | zero=>intro l;rfl
  | succ n ih=>
   intro l;show (match partF w g l with | none=>_ | some y=>_)=(match partF w g' l with | none=>_ | some y=>_);rw [ag4 h]
   cases partF w g' l with
   | none=>rfl
   | some y=>dsimp only;rw [ih]
 exact this _ _
theorem jZ{w:Bool}{g:List Str} : ∀ (n:Nat) (l:List Nat),l.length<=n->(cutF w g l).1<=l.length/\(cutF w g l).2.length<=l.length/\∀ y∈(cutF w g l).2,∀ c∈y.cps.toList,c∈l
 | 0,l,h=>by
  have:l=[]:=w5.mp (by lia)
  subst this;rw [jY];exact ⟨B3 _,B3 _,by simp⟩
 | n+1,l,h=>by
  cases e:partF w g l with
  | none=>rw [dN e];exact ⟨G2 _,G2 _,by simp⟩
  | some y=>
   obtain ⟨rest,e1,e2,e3⟩:=bK e;have hl:l.length=y.length+rest.length:=by rw [e1,D1,lenL]
   obtain ⟨a,b,c⟩:=jZ (w:=w) (g:=g) n rest (by lia);rw [e2];refine ⟨by dsimp only;lia,by dsimp only;rw [G6];lia,fun z hz x hx=>?_⟩;rw [e1]
   rcases E7.mp hz with r | r
   .rw [r] at hx;exact M4.mpr (.inl hx)
   .exact M4.mpr (.inr (c z r x hx))
noncomputable def L5 (w:Bool) (g:List Str) (z:Str):Prop:=(cutF w g z.cps.toList).1=z.length
noncomputable abbrev C9:=Int×Int×List Int×Int
noncomputable def addM (U:List C9) (p:Int):List C9:=match U.getLast? with
 | none=>[(0,0,[p],0)]
 | some u=>U.dropLast++[(u.1,u.2.1,u.2.2.1++[p],u.2.2.2)]
noncomputable def addS (U:List C9) (s:Tr):List C9:=if s.1=0 then addM U s.2.1 else U++[(s.1,s.2.1,[],s.2.2)]
noncomputable def UnAt (H:Hp) (e:Addr×Addr) (u:C9):Prop:=H e.1=some (.tup [.int u.1,.int u.2.1,.ref e.2,.int u.2.2.2])/\H e.2=some (.lst (u.2.2.1.map V.int))
structure UnI(H0 H:Hp)(l:Addr)(es:List (Addr×Addr))(U:List C9):Prop where
 top:H l=some (.lst (es.map fun e=>V.ref e.1))
 row:Paired (UnAt H) es U
 nd:(l::es.map (·.2)).Nodup
 new:∀ a∈l::es.map (·.2),H0 a=none
 same:Same H0 H
theorem UnI.more{l:Addr}{es:List (Addr×Addr)}{U:List C9}(h:UnI H0 H l es U)(S:Same H H'):UnI H0 H' l es U:=⟨S _ _ h.top,K7 h.row fun _ _ e=>⟨S _ _ e.1,S _ _ e.2⟩,h.nd,h.new,h.same.trans S⟩
theorem UnI.live{l:Addr}{es:List (Addr×Addr)}{U:List C9}(h:UnI H0 H l es U)(ha:a∈es.map (·.2)):∃ xs,H a=some (.lst xs):=by
 obtain ⟨e,he,rfl⟩:=E3.mp ha;obtain ⟨i,hi,q⟩:=e8.mp he;obtain ⟨u,_,hu⟩:=Paired.at h.row (i:=i) (a:=e) (by rw [K2 hi,q]);exact ⟨_,hu.2⟩
theorem UnI.push{l m t:Addr}{es:List (Addr×Addr)}{U:List C9}(h:UnI H0 H l es U)(nm:H m=none){k w c:Int}(nt:A0 H m (.lst []) t=none) :
  UnI H0 (A0 (A0 (A0 H m (.lst [])) t (.tup [.int k,.int w,.ref m,.int c])) l (.lst ((es.map fun e=>V.ref e.1)++[V.ref t]))) l (es++[(t,m)]) (U++[(k,w,[],c)]):=by
 have nlm:l≠m:=fun e=>by have:=h.top;rw [e,nm] at this;cases this
 have nmt:m≠t:=fun e=>by rw [<- e,A3] at nt;cases nt
 have S:Same H (A0 (A0 H m (.lst [])) t (.tup [.int k,.int w,.ref m,.int c])):=(Same.new nm).trans (Same.new nt);have hl:=S _ _ h.top;have nlt:l≠t:=fun e=>by rw [<- e,(Same.new nm) _ _ h.top] at nt;cases nt
 have bZ:=T6.mp h.nd;refine ⟨by rw [A3,E1];rfl,Paired.snoc (jP h.row fun e he u hu=>⟨?_,?_⟩) ⟨?_,?_⟩,?_,fun a ha=>?_,(h.same.trans S).put (h.new l O2)⟩
 .rw [A4 (fun q=>by have:=S _ _ hu.1;rw [q,hl] at this;cases this)];exact S _ _ hu.1
 .rw [A4 (fun q=>bZ.1 (by rw [<- q];exact E3.mpr ⟨e,he,rfl⟩))];exact S _ _ hu.2
 .rw [A4 nlt.symm,A3]
 .rw [A4 nlm.symm,A4 nmt,A3];rfl
 .rw [E1];exact sG h.nd fun q=>by
   rcases E7.mp q with q | q
   .exact nlm q.symm
   .obtain ⟨xs,hx⟩:=h.live q;rw [nm] at hx;cases hx
 .rw [E1] at ha
  rcases E7.mp ha with q | q
  .rw [q];exact h.new l O2
  .rcases M4.mp q with q | q
   .exact h.new a (N0 _ q)
   .rw [N7.mp q];exact h.same.free nm
theorem UnI.mark{l:Addr}{es:List (Addr×Addr)}{e:Addr×Addr}{U:List C9}{u:C9}(h:UnI H0 H l (es++[e]) (U++[u]))(p:Int) :
  UnI H0 (A0 H e.2 (.lst (u.2.2.1.map V.int++[V.int p]))) l (es++[e]) (U++[(u.1,u.2.1,u.2.2.1++[p],u.2.2.2)]):=by
 obtain ⟨hr,he⟩:=sO h.row;have bZ:=h.nd;have nl:l≠e.2:=fun q=>(T6.mp bZ).1 (by rw [q];simp)
 have nn:∀ x∈es,x.2≠e.2:=fun x hx q=>by
  have:=(T6.mp bZ).2
  rw [E1,aR] at this;exact this.2.2 x.2 (E3.mpr ⟨x,hx,rfl⟩) e.2 (by simp) q
 have nt:∀ {x:Addr×Addr} {v:C9},UnAt H x v->x.1≠e.2:=fun {x v} hx q=>by
  have:=hx.1;rw [q,he.2] at this;cases this
 refine ⟨by rw [A4 nl];exact h.top,Paired.snoc (jP hr fun x hx v hv=>⟨?_,?_⟩) ⟨?_,?_⟩,h.nd,h.new,h.same.put (h.new _ (N0 _ (by simp)))⟩
 .rw [A4 (nt hv)];exact hv.1
 .rw [A4 (nn x hx)];exact hv.2
 .rw [A4 (nt he)];exact he.1
 .rw [A3,E1];rfl
noncomputable def IsUn (H:Hp) (l:Addr) (U:List C9):Prop:=∃ es:List (Addr×Addr),H l=some (.lst (es.map fun e=>V.ref e.1))/\Paired (fun e (u:C9)=>H e.1=some (.tup [.int u.1,.int u.2.1,.ref e.2,.int u.2.2.2])/\H e.2=some (.tup (u.2.2.1.map V.int))) es U
noncomputable def C2 (R:List Rl):List Str:=keysP (C8 R)++U7 R
noncomputable def N5 (S:Str->List Tr) (ps:List Str):List C9:=(ps.flatMap S).foldl addS []
noncomputable def tV (C:Addr):Sp:=fun vs H Q _=>∃ (x j ll ml md:Addr) (g:Str->Str) (R:List Rl) (L M:List Str),vs=[.ref x]/\IsOrd C H x j ll ml md g R L M/\∀ l,H l=none->Q (.ref l) (A0 H l (.lst ((C2 R).map V.str)))
noncomputable def oU (C:Addr):Sp:=fun vs H Q _=>∃ (x j ll ml md:Addr) (p:Str) (g:Str->Str) (R:List Rl) (L M:List Str),vs=[.ref x,.str p]/\IsOrd C H x j ll ml md g R L M/\∀ r H',Same H H'->StepAt H' r (stepF R L M p)->Q (.ref r) H'
theorem aiE{R:List Rl}{p:Str}(h:p∉allKs R L M):stepF R L M p=[]:=by
 unfold stepF
 have:(putsL R L M).lookup p=none:=by
  rw [List.lookup_eq_none_iff];intro e he
  have:e.1∈allKs R L M:=by rw [<- agh];exact E3.mpr ⟨e,he,rfl⟩
  have ne:p≠e.1:=fun q=>h (by rw [q];exact this)
  simpa using ne
 rw [this];rfl
noncomputable def stepY (R:List Rl) (L M:List Str) (y:Str):List Tr:=if (hasW R "figures" && figO (y.cps.toList.headD 0))=true then [(1,((jE y.cps.toList:Nat):Int),0)] else stepF R L M y
theorem alP{R:List Rl}(h:hasW R "figures"=false)(L M:List Str):stepY R L M=stepF R L M:=by
 funext y
 unfold stepY;rw [h,cT,if_neg K5]
noncomputable def FigR (y:Str):Prop:=figO (y.cps.toList.headD 0)=true->PySem.NumText.AllDigits y.cps.toList
noncomputable def agn (C:Addr):Sp:=fun vs H Q _=>∃ (x j ll ml md:Addr) (c:Nat) (r:List Nat) (y:Str) (g:Str->Str) (R:List Rl) (L M:List Str),vs=[.ref x,.str y]/\y.cps.toList=c::r/\y.length<=640/\IsOrd C H x j ll ml md g R L M/\(hasW R "figures"=true->FigR y)/\∀ r H',Same H H'->StepAt H' r (stepY R L M y)->Q (.ref r) H'
noncomputable def ago (K:PySem.W.Frag):Sp:=fun vs H Q _=>∃ (l:Addr) (p:Int) (H0:Hp) (es:List (Addr×Addr)) (U:List C9),vs=[.ref l,.int p]/\UnI H0 H l es U/\U.length<=10000/\(∀ u∈U,u.2.2.1.length<=10000)/\∀ es' H',UnI H0 H' l es' (addM U p)->Q .non H'
noncomputable def tW (C:Addr):Sp:=fun vs H Q _=>∃ (x l j ll ml md:Addr) (c:Nat) (r:List Nat) (y:Str) (g:Str->Str) (R:List Rl) (L M:List Str) (H0:Hp) (es:List (Addr×Addr)) (U:List C9),vs=[.ref x,.ref l,.str y]/\y.cps.toList=c::r/\y.length<=640/\IsOrd C H0 x j ll ml md g R L M/\(hasW R "figures"=true->FigR y)/\UnI H0 H l es U/\(stepY R L M y).length<=1000/\U.length<=9000/\(∀ u∈U,u.2.2.1.length<=9000)/\
 ∀ es' H',UnI H0 H' l es' ((stepY R L M y).foldl addS U)->Q .non H'
theorem alQ{U:List C9}{p:Int} : (addM U p).length<=U.length+1:=by
 unfold addM;cases e:U.getLast? with
 | none=>simp
 | some u=>simp only [D1,List.length_dropLast,V3];lia
theorem aiF{U:List C9}{p:Int}(h:∀ u∈U,u.2.2.1.length<=n):∀ u∈addM U p,u.2.2.1.length<=n+1:=by
 unfold addM;cases e:U.getLast? with
 | none=>intro u hu;rw [N7.mp hu];simp
 | some v=>
  intro u hu
  rcases M4.mp hu with q | q
  .have:=h u ((List.dropLast_sublist U).subset q);lia
  .rw [N7.mp q]
   have:=h v (List.mem_of_getLast? e)
   simp only [D1,V3];lia
theorem alR{U:List C9}{s:Tr} : (addS U s).length<=U.length+1:=by
 unfold addS
 split
 .exact alQ
 .simp
theorem aiG{U:List C9}{s:Tr}(h:∀ u∈U,u.2.2.1.length<=n):∀ u∈addS U s,u.2.2.1.length<=n+1:=by
 unfold addS
 split
 .exact aiF h
 .intro u hu
  rcases M4.mp hu with q | q
  .have:=h u q;lia
  .rw [N7.mp q];exact G2 _
theorem tX:∀ (ss:List Tr) (U:List C9),(ss.foldl addS U).length<=U.length+ss.length
 | [],U=>B3 _
 | s::ss,U=>by
  rw [List.foldl_cons,G6];have h1:=tX ss (addS U s);have h2:=alR (U:=U) (s:=s);lia
theorem tY:∀ (ss:List Tr) (U:List C9) (n:Nat),(∀ u∈U,u.2.2.1.length<=n)->∀ u∈ss.foldl addS U,u.2.2.1.length<=n+ss.length
 | [],U,n,h=>h
 | s::ss,U,n,h=>by
  intro u hu
  have:=tY ss (addS U s) (n+1) (aiG h) u hu
  rw [G6];lia
theorem aka(f b:Bool)(j ll ml md:Addr):(ordF f b j ll ml md).lookup ("made" : Str)=some (V.ref md):=by
 unfold ordF;rw [K9,if_pos rfl]
noncomputable def cutH (H:Hp) (as:List Addr):Hp:=fun a=>if a∈as then none else H a
theorem agp(H:Hp)(as:List Addr):Same (cutH H as) H:=fun a o h=>by
 unfold cutH at h
 by_cases q:a∈as
 .rw [if_pos q] at h;cases h
 .rw [if_neg q] at h;exact h
theorem UnI.base{l:Addr}{es:List (Addr×Addr)}{U:List C9}(S:Same H0 H1)(h:UnI H1 H l es U):UnI H0 H l es U:=⟨h.top,h.row,h.nd,fun a ha=>S.free (h.new a ha),S.trans h.same⟩
theorem UnI.cut{l:Addr}{es:List (Addr×Addr)}{U:List C9}(h:UnI H0 H l es U):∃ H1,Same H0 H1/\UnI H1 H l es U/\∀ a xs,H a=some (.tup xs)->H1 a=some (.tup xs):=by
 refine ⟨cutH H (l::es.map (fun e=>e.2)),fun a o ha=>?_,⟨h.top,h.row,h.nd,fun a ha=>by unfold cutH;exact if_pos ha,agp _ _⟩,fun a xs ha=>?_⟩
 .unfold cutH;rw [if_neg (fun q=>by rw [h.new a q] at ha;cases ha)];exact h.same _ _ ha
 .unfold cutH;rw [if_neg fun q=>?_]
  .exact ha
  .rcases E7.mp q with q | q
   .rw [q,h.top] at ha;cases ha
   .obtain ⟨ys,hy⟩:=h.live q;rw [hy] at ha;cases ha
theorem aiH{α β:Type}{F:α->β->Prop}{m:List β}(h:Paired F [] m):m=[]:=by cases h;rfl
theorem tZ{α:Type}{l:List α}(h:l≠[]):∃ l' x,l=l'++[x]:=⟨l.dropLast,l.getLast h,(List.dropLast_concat_getLast h).symm⟩
noncomputable def uA (n:Nat) (fr:St) (Pv:Nat->List V->Hp->Prop) (i:Nat) (ys:List V) (σ2:St) (H2:Hp):Prop:=i<=n/\ys.length<=i/\(∃ v0 v1 v2 v3,σ2=v0::v1::v2::v3::fr)/\Pv i ys H2
theorem aq1(fr:St)(O8:compStart 4 ixs Y=none::none::none::none::fr)(Pv:Addr->Nat->List V->Hp->Prop)(h0:∀ D,H1 D=none->Pv D 0 [] (A0 H1 D (.lst [])))(hl:∀ D i ys H,H1 D=none->i<=xs.length->Pv D i ys H->C7 K H a xs)(hs:∀ D i x ys H,H1 D=none->i<xs.length->xs[i]?=some x->Pv D i ys H->H D=some (.lst ys)->ys.length<=i->∃ t v0 v1 v2 v3,x=.ref t/\C4 K H t [v0,v1,v2,v3]/\c (some v0::some v1::some v2::some v3::fr) H fun b H4=>
   if b=true then te (some v0::some v1::some v2::some v3::fr) H4 fun y H5=>H5 D=some (.lst ys)/\ys.length<sizeLine/\uA xs.length fr (Pv D) (i+1) (ys++[y]) (some v0::some v1::some v2::some v3::fr) (A0 H5 D (.lst (ys++[y])))
   else H4 D=some (.lst ys)/\uA xs.length fr (Pv D) (i+1) ys (some v0::some v1::some v2::some v3::fr) H4)(hd:∀ D ys H,H1 D=none->Pv D xs.length ys H->H D=some (.lst ys)->ys.length<=xs.length->Q (.ref D) H):bE (p7 K a) 4 ixs (gTup K 4 (gCons (gName 0) (gCons (gName 1) (gCons (gName 2) (gCons (gName 3) gNil))))) c te Y Q H1:=by
 intro D hD;refine ⟨xs.length,uA xs.length fr (Pv D),⟨G2 _,G2 _,⟨none,none,none,none,O8⟩,h0 D hD⟩,?_⟩;rintro i ys σ2 H2 ⟨hi,hy,⟨w0,w1,w2,w3,rfl⟩,p⟩ hDy;have q:=hl D i ys H2 hD hi p
 by_cases C3:i<xs.length
 .refine .inr ⟨C3,⟨xs,xs[i],q,by simp [C3]⟩,fun x H' y=>?_⟩;obtain ⟨e,y⟩:=y;subst e;obtain ⟨t,v0,v1,v2,v3,rfl,ht,z⟩:=hs D i x ys _ hD C3 (y xs q) p hDy hy;exact ⟨t,_,rfl,ht,rfl,_,_,rfl,_,_,rfl,_,_,rfl,_,_,rfl,rfl,z⟩
 .have e:i=xs.length:=by lia
  subst e;exact .inl ⟨⟨xs,q,B3 _⟩,hd D ys H2 hD p hDy hy⟩
theorem kA{w:Bool}{g:List Str} : ∀ (n:Nat) (l:List Nat),l.length<=n->∀ y∈(cutF w g l).2,1<=y.length
 | 0,l,h,y,hy=>by
  have:l=[]:=w5.mp (by lia)
  subst this;rw [jY] at hy;cases hy
 | n+1,l,h,y,hy=>by
  cases e:partF w g l with
  | none=>rw [dN e] at hy;cases hy
  | some x=>
   obtain ⟨rest,e1,e2,e3⟩:=bK e;rw [e2] at hy
   rcases E7.mp hy with q | q
   .rw [q];exact e3
   .refine kA n rest ?_ y q
    have:=congrArg X4 e1
    rw [D1,lenL] at this;lia
theorem ag6{S:Str->List Tr}{y:Str}(h:ps[i]?=some y):N5 S (ps.take (i+1))=(S y).foldl addS (N5 S (ps.take i)):=by
 unfold N5;rw [L4 h,p0,p4,p5,List.flatMap_nil,M5]
theorem oV{S:Str->List Tr}(hs:∀ y,(S y).length<=15):∀ (ps:List Str),(N5 S ps).length<=15*ps.length/\∀ u∈N5 S ps,u.2.2.1.length<=15*ps.length:=fun ps=>by
 have h0:(ps.flatMap S).length<=15*ps.length:=by
  induction ps with
  | nil=>exact B3 _
  | cons p ps ih=>
   rw [p5,D1,G6]
   have:=hs p
   lia
 have h1:=tX (ps.flatMap S) [];have h2:=tY (ps.flatMap S) [] 0 (by simp);unfold N5;rw [Z1] at h1;exact ⟨by lia,fun u hu=>by have:=h2 u hu;lia⟩
theorem oW{w:Bool}{g:List Str} : ∀ (n:Nat) (l:List Nat),l.length<=n->∀ y∈(cutF w g l).2,y.length<=l.length
 | 0,l,h,y,hy=>by
  have:l=[]:=w5.mp (by lia)
  subst this;rw [jY] at hy;cases hy
 | n+1,l,h,y,hy=>by
  cases e:partF w g l with
  | none=>rw [dN e] at hy;cases hy
  | some x=>
   obtain ⟨rest,e1,e2,e3⟩:=bK e;rw [e2] at hy;have hl:=congrArg X4 e1;rw [D1,lenL] at hl
   rcases E7.mp hy with q | q
   .rw [q];lia
   .have:=oW n rest (by lia) y q
    lia
theorem agq:∀ zs:List Str,(Str.join ⟨#[]⟩ zs).cps.toList=zs.flatMap fun p=>p.cps.toList
 | []=>by simp [Str.join,Str.empty]
 | [z]=>by simp [Str.join]
 | z::y::r=>by
  have e:(Str.join ⟨#[]⟩ (z::y::r)).cps.toList=z.cps.toList++(Str.join ⟨#[]⟩ (y::r)).cps.toList:=by
   show (z++⟨#[]⟩++Str.join ⟨#[]⟩ (y::r)).cps.toList=_;simp only [Str.cps_append,Array.toList_append]
   simp
  rw [e,agq (y::r)];rfl
theorem amu{p:Nat->Bool}{d:Nat} : ∀ {l:List Nat},d∈l.takeWhile p->p d=true
 | [],h=>by cases h
 | c::r,h=>by
  rw [List.takeWhile_cons] at h
  by_cases hc:p c=true
  .rw [if_pos hc] at h
   rcases E7.mp h with q | q
   .rw [q];exact hc
   .exact amu q
  .rw [if_neg hc] at h;cases h
theorem akb{w:Bool}{g:List Str}{l:List Nat}{y:Str}(h:partF w g l=some y):w=true->FigR y:=by
 intro hw hf
 cases l with
 | nil=>cases h
 | cons c r=>
  rw [gM,hw,Bool.true_and] at h
  by_cases hc:figO c=true
  .rw [if_pos hc] at h;obtain rfl:=Option.some.inj h;intro d hd;have hd:d∈(c::r).takeWhile figO:=by simpa using hd
   have:=amu hd
   unfold figO at this;rw [f8,decide_eq_true_eq,decide_eq_true_eq] at this;exact this
  .exfalso
   rw [if_neg hc] at h;obtain ⟨rest,e,hl⟩:=aeX h
   have:y.cps.toList.headD 0=c:=by
    cases hy:y.cps.toList with
    | nil=>rw [<- lenL,hy] at hl;simp at hl
    | cons d t=>rw [hy] at e;exact (List.cons.inj e).1.symm
   rw [this] at hf;exact hc hf
theorem uB{w:Bool}{g:List Str} : ∀ (n:Nat) (l:List Nat),l.length<=n->∀ y∈(cutF w g l).2,w=true->FigR y
 | 0,l,h,y,hy=>by
  have:l=[]:=w5.mp (by lia)
  subst this;rw [jY] at hy;cases hy
 | n+1,l,h,y,hy=>by
  cases e:partF w g l with
  | none=>rw [dN e] at hy;cases hy
  | some x=>
   obtain ⟨rest,e1,e2,e3⟩:=bK e;rw [e2] at hy;have hl:=congrArg X4 e1;rw [D1,lenL] at hl
   rcases E7.mp hy with q | q
   .rw [q];exact akb e
   .exact uB n rest (by lia) y q
end L2
variable {S:PySem.Str->List L2.Tr}{R:List L2.Rl}{U W:List L2.C9}
set_option maxRecDepth 100000
namespace L2
open PySem PySem.Spec PyProof.Rows
structure StepL(H:Hp)(r:Addr)(ss:List Tr):Prop where
 ex:∃ ts:List Addr,H r=some (.lst (ts.map V.ref))/\Paired (fun t s=>H t=some (tupT s)) ts ss
noncomputable def IsMk (H:Hp) (d:Addr) (ks:List Str) (F:Str->List Tr):Prop:=∃ ad:Str->Addr,H d=some (.dK (C1 ks fun y=>.ref (ad y)))/\∀ y∈ks,StepL H (ad y) (F y)
structure MkI(H H2:Hp)(d:Addr)(P:List Str)(F:Str->List Tr):Prop where
 same:Same H H2
 made:IsMk H2 d (G3 [] P) F
theorem X6{t:Addr}(hT:C4 K H t xs)(q:∀ p H',Same H H'->C4 K H' p (xs.take 2)->Q (.ref p) H'):rSlR K t none (some 2) H Q:=by
 by_cases h:xs.length<=2
 .refine rSlR.w hT ⟨rfl,?_⟩ (q t H (cZ H) (by rw [X3 h];exact hT));rw [show ((2:Int))=((2:Nat):Int) from rfl,HT.sIx_nat];lia
 .refine rSlR.t hT (fun e=>?_) fun p np=>q p _ (Same.new np) (.of ?_)
  .have:=e.2
   rw [show ((2:Int))=((2:Nat):Int) from rfl,HT.sIx_nat] at this;lia
  .rw [A3,show cutV xs none (some 2)=_ from nZ xs 2]
noncomputable def UnT (H:Hp) (e:Addr×Addr) (u:C9):Prop:=H e.1=some (.tup [.int u.1,.int u.2.1,.ref e.2,.int u.2.2.2])/\H e.2=some (.tup (u.2.2.1.map V.int))
structure UnJ(H0 H:Hp)(l:Addr)(es:List (Addr×Addr))(U:List C9):Prop where
 same:Same H0 H
 new:H0 l=none
 top:H l=some (.lst (es.map fun e=>V.ref e.1))
 row:Paired (UnT H) es U
noncomputable abbrev flatP (ps:List Str):List Nat:=ps.flatMap fun p=>p.cps.toList
end L2
set_option maxRecDepth 100000
namespace L2
open PySem PySem.Spec PyProof.Rows
noncomputable def tRev (K:PySem.W.Frag) (te:TE) (tk:TO):TE:=fun Y H Q=>te Y H fun x H1=>tk Y H1 fun k H2=>k=some (-1)/\∃ a xs,x=.ref a/\C7 K H2 a xs/\∀ p,H2 p=none->Q (.ref p) (A0 H2 p (.lst xs.reverse))
theorem an1{tk:TO} : tRev K te tk Y H Q=te Y H fun x H1=>tk Y H1 fun k H2=>k=some (-1)/\∃ a xs,x=.ref a/\C7 K H2 a xs/\∀ p,H2 p=none->Q (.ref p) (A0 H2 p (.lst xs.reverse)):=rfl
end L2
set_option maxRecDepth 100000
namespace PySem
section
variable {prog:Program} {w:World} {A:Around} {E:Value->Shared->Prop} {s:Shared}
end
end PySem
namespace L2
open PySem PySem.Spec PyProof.Rows
noncomputable def tLRev (ta:TA):TE:=fun Y H Q=>ta Y H fun vs H1=>∃ (l:Addr) (xs:List V),vs=[.ref l]/\H1 l=some (.lst xs)/\∀ p,H1 p=none->Q (.ref p) (A0 H1 p (.lst xs.reverse))
theorem an2 : tLRev ta Y H Q=ta Y H fun vs H1=>∃ (l:Addr) (xs:List V),vs=[.ref l]/\H1 l=some (.lst xs)/\∀ p,H1 p=none->Q (.ref p) (A0 H1 p (.lst xs.reverse)):=rfl
end L2
set_option maxRecDepth 100000
namespace L2
open PySem PySem.Spec PyProof.Rows
noncomputable def s0 (U:List C9):Nat:=(U.map fun u=>u.2.2.1.length).sum
theorem ag7(U:List C9)(s:Tr):s0 (addS U s)<=s0 U+1:=by
 unfold addS
 by_cases h:s.1=0
 .rw [if_pos h]
  by_cases hU:U=[]
  .subst hU;unfold addM s0
   simp
  .obtain ⟨U',u,rfl⟩:=tZ hU;unfold addM;rw [List.getLast?_append,List.getLast?_singleton];simp [s0];lia
 .rw [if_neg h];simp [s0]
theorem aeh:∀ (ss:List Tr) (U:List C9),s0 (ss.foldl addS U)<=s0 U+ss.length
 | [],U=>B3 _
 | s::ss,U=>by
  rw [List.foldl_cons,G6];have h1:=aeh ss (addS U s);have h2:=ag7 U s;lia
theorem agr(hs:∀ y,(S y).length<=15)(ps:List Str):s0 (N5 S ps)<=15*ps.length:=by
 have h0:(ps.flatMap S).length<=15*ps.length:=by
  induction ps with
  | nil=>exact B3 _
  | cons p ps ih=>
   rw [p5,D1,G6]
   have:=hs p
   lia
 have h1:=aeh (ps.flatMap S) [];unfold N5;have h2:s0 []=0:=rfl;lia
theorem ae0{α β:Type}{F:α->β->Prop} : ∀ {as:List α} {bs:List β},Paired F as bs->Paired F as.reverse bs.reverse
 | _,_,.nil=>.nil
 | _,_,.cons h t=>by
  rw [List.reverse_cons,List.reverse_cons];exact Paired.snoc (ae0 t) h
theorem aei(hs:∀ y,(S y).length<=15){w:Bool}{y:Str}(hy:y.length<=500) :
  (N5 S (cutF w ks y.cps.toList).2).length<=10000/\(∀ u∈N5 S (cutF w ks y.cps.toList).2,u.2.2.1.length<=10000)/\s0 (N5 S (cutF w ks y.cps.toList).2)<=100000:=by
 have h1:=oV hs (cutF w ks y.cps.toList).2;have h2:=(jZ (w:=w) (g:=ks) _ y.cps.toList (B3 _)).2.1;have h3:=agr hs (cutF w ks y.cps.toList).2;rw [lenL] at h2;exact ⟨by lia,fun u hu=>by have:=h1.2 u hu;lia,by lia⟩
end L2
set_option maxRecDepth 100000
namespace PySem.SeqAt
open AutoSeq1 (wpAny_loadPart')
open MeetsSeq MeetsSeq2 MeetsSeq3 SeqRoads2
noncomputable def RcLt (A:Around) (s:Shared) (y x:Value) (b:Bool):Prop:=
 ∀ (prog:Program) (w:World) (E:Value->Shared->Prop) (Q:Value->Shared->Prop),Q (.bool b) s->wpAny (model prog w) A (richCompare .Lt y x) Q E s
theorem akc{α:Type}[DecidableEq α][LT α][DecidableLT α](o3:∀ a:α,¬ a<a){xs ys:List α}(h1:i<xs.length)(h2:i<ys.length) :
  decide (xs.drop i<ys.drop i)=if decide (xs[i]=ys[i])=true then decide (xs.drop (i+1)<ys.drop (i+1)) else decide (xs[i]<ys[i]):=by
 rw [cM h1,cM h2]
 by_cases e:xs[i]=ys[i]
 .rw [if_pos (decide_eq_true e)];refine decide_eq_decide.mpr ?_;rw [List.cons_lt_cons_iff,e];exact ⟨fun h=>h.elim (fun h=>absurd h (o3 _)) (fun h=>h.2),fun h=>.inr ⟨rfl,h⟩⟩
 .rw [if_neg (by simpa using e)];refine decide_eq_decide.mpr ?_;rw [List.cons_lt_cons_iff];exact ⟨fun h=>h.elim id fun h=>absurd h.1 e,.inl⟩
theorem amv{α:Type}[LT α][DecidableEq α][DecidableLT α]{ys:List α}{m m':Nat}(hx:m=m')(hy:n=ys.length)(hi:i=m):decide ([]<ys.drop i)=decide (m<n):=by
 refine decide_eq_decide.mpr ?_;cases e:ys.drop i with
 | nil=>
  have:=List.drop_eq_nil_iff.mp e
  exact ⟨fun h=>absurd h (List.not_lt_nil _),fun h=>by lia⟩
 | cons a r=>
  have:i<ys.length:=by
   rcases Nat.lt_or_ge i ys.length with h | h
   .exact h
   .rw [fD h] at e;cases e
  exact ⟨fun _=>by lia,fun _=>List.nil_lt_cons _ _⟩
theorem akd{α:Type}[DecidableEq α][LT α][DecidableLT α](o3:∀ a:α,¬ a<a)(l b:Addr)(items items2:Array Value)(n n2:Nat)(dd Z8:Option Addr)(sl X6:Array (Option Value))(xs ys:List α)(hx:items.size=xs.length)(hy:items2.size=ys.length)(k:Nat) :
  ∀ i:Nat,items.size-i=k->i<=items.size->i<=items2.size->Meets (Builtin.«list.__eq__.loop» ⟨[.ref l,.ref b,rawInt i,rawInt 0],[]⟩)
   (fun A R s=>s.heap.get? l=some { cls:=.type "list",dict:=dd,data:=.seq items n,slots:=sl }/\s.heap.get? b=some { cls:=.type "list",dict:=Z8,data:=.seq items2 n2,slots:=X6 }/\
    (∀ j (h1:j<items.size) (h2:j<items2.size) (g1:j<xs.length) (g2:j<ys.length),EqAt A.in1 s items[j] items2[j] (decide (xs[j]=ys[j]))/\RcLt A.in1 s items[j] items2[j] (decide (xs[j]<ys[j])))/\
    R (.ok (.ret (.bool (decide (xs.drop i<ys.drop i))))) s):=by
 induction k with
 | zero=>
  intro i hk l1 l2 prog w A R s h;obtain ⟨hp,g,d,tk,os⟩:=s;obtain ⟨hl,hb,he,h⟩:=h
  wp_walk using wpAny_loadPart' hl,wpAny_loadPart' hb
  have aF:items[((i:Nat):Int).toNat]?=none:=by simp;lia
  rw [aF]
  wp_walk using wpAny_loadPart' hl,wpAny_loadPart' hb
  show R (.ok (.ret (.bool (decide (items.size<items2.size))))) _;have e:decide (xs.drop i<ys.drop i)=decide (items.size<items2.size):=by
   rw [fD (as:=xs) (by lia)];exact amv hx hy (by lia)
  rw [e] at h;exact h
 | succ k ih=>
  intro i hk l1 l2 prog w A R s h;obtain ⟨hp,g,d,tk,os⟩:=s;obtain ⟨hl,hb,he,h⟩:=h
  wp_walk using wpAny_loadPart' hl,wpAny_loadPart' hb
  have C3:i<items.size:=by lia
  have aF:items[((i:Nat):Int).toNat]?=some items[i]:=by simp [C3]
  by_cases lZ:i<items2.size
  .have j3:items2[((i:Nat):Int).toNat]?=some items2[i]:=by simp [lZ]
   have hc:((i:Int)+1)=((i+1:Nat):Int):=by push_cast;rfl
   rw [aF,j3];obtain ⟨h1,h2⟩:=he i C3 lZ (by lia) (by lia);rw [akc o3 (by lia) (by lia)] at h;refine wpAny_bind (h1 prog w _ _ ?_);cases K1:decide (xs[i]'(by lia)=ys[i]'(by lia)) with
   | true=>
    rw [K1,if_pos rfl] at h
    wp_walk
    rw [hc];exact ⟨plainId_quiet plain_eq_loop _,codeAny_builtin entry_eq_loop (by
     rw [Around.under_plainId plain_eq_loop _];exact ih (i+1) (by lia) (by lia) (by lia) prog w A R _ ⟨hl,hb,he,h⟩)⟩
   | false=>
    rw [K1,if_neg (by decide)] at h
    wp_walk using wpAny_loadPart' hl,wpAny_loadPart' hb
    rw [aF,j3];refine wpAny_bind (h2 prog w _ _ ?_)
    wp_walk
    exact h
  .have j3:items2[((i:Nat):Int).toNat]?=none:=by simp;lia
   rw [aF,j3]
   wp_walk using wpAny_loadPart' hl,wpAny_loadPart' hb
   show R (.ok (.ret (.bool (decide (items.size<items2.size))))) _;have e:decide (xs.drop i<ys.drop i)=decide (items.size<items2.size):=by
    rw [fD (as:=ys) (by lia)];refine decide_eq_decide.mpr ?_;exact ⟨fun h=>absurd h (List.not_lt_nil _),fun h=>by lia⟩
   rw [e] at h;exact h
theorem ake{α:Type}[DecidableEq α][LT α][DecidableLT α](o3:∀ a:α,¬ a<a)(l b:Addr)(items items2:Array Value)(n n2:Nat)(dd Z8:Option Addr)(sl X6:Array (Option Value))(xs ys:List α)(hx:items.size=xs.length)(hy:items2.size=ys.length) :
  Meets (Builtin.«list.__lt__» ⟨[.ref l,.ref b],[]⟩)
   (fun A R s=>s.heap.get? l=some { cls:=.type "list",dict:=dd,data:=.seq items n,slots:=sl }/\s.heap.get? b=some { cls:=.type "list",dict:=Z8,data:=.seq items2 n2,slots:=X6 }/\
    (∀ j (h1:j<items.size) (h2:j<items2.size) (g1:j<xs.length) (g2:j<ys.length),EqAt A.in1 s items[j] items2[j] (decide (xs[j]=ys[j]))/\RcLt A.in1 s items[j] items2[j] (decide (xs[j]<ys[j])))/\
    R (.ok (.ret (.bool (decide (xs<ys))))) s):=by
 intro prog w A R s h;obtain ⟨hp,g,d,tk,os⟩:=s;obtain ⟨hl,hb,he,h⟩:=h;have f3:=AutoSeq1.sub_list_list
 wp_walk using wpAny_loadPart' hl,wpAny_loadPart' hb
 exact ⟨plainId_quiet plain_eq_loop _,codeAny_builtin entry_eq_loop (by
  rw [Around.under_plainId plain_eq_loop _];exact akd o3 l b items items2 n n2 dd Z8 sl X6 xs ys hx hy _ 0 rfl (G2 _) (G2 _) prog w A R _ ⟨hl,hb,he,h⟩)⟩
theorem aiI{α:Type}[DecidableEq α][LT α][DecidableLT α](o3:∀ a:α,¬ a<a)(l b:Addr)(items items2:Array Value)(n n2:Nat)(dd Z8:Option Addr)(sl X6:Array (Option Value))(xs ys:List α)(hx:items.size=xs.length)(hy:items2.size=ys.length) :
  Meets (Builtin.«tuple.__lt__» ⟨[.ref l,.ref b],[]⟩)
   (fun A R s=>s.heap.get? l=some { cls:=.type "tuple",dict:=dd,data:=.seq items n,slots:=sl }/\s.heap.get? b=some { cls:=.type "tuple",dict:=Z8,data:=.seq items2 n2,slots:=X6 }/\
    (∀ j (h1:j<items.size) (h2:j<items2.size) (g1:j<xs.length) (g2:j<ys.length),EqAt A.in1 s items[j] items2[j] (decide (xs[j]=ys[j]))/\RcLt A.in1 s items[j] items2[j] (decide (xs[j]<ys[j])))/\
    R (.ok (.ret (.bool (decide (xs<ys))))) s):=
 .of_wp fun prog w A R s h=>by
  obtain ⟨hp,g,d,tk,os⟩:=s;obtain ⟨hl,hb,he,h⟩:=h;have f2:=AutoSeq1.sub_tuple_tuple;have hZ:(items.toList.zip items2.toList).length=min items.size items2.size:=by simp
  wp_walk using wpAny_loadPart' hl,wpAny_loadPart' hb,wpAny_forIn_list _ (fun rest b s'=>b.1=none/\s'=⟨hp,g,d,tk,os⟩/\∃ i,rest=(items.toList.zip items2.toList).drop i/\i<=min items.size items2.size/\
   R (.ok (.ret (.bool (decide (xs.drop i<ys.drop i))))) ⟨hp,g,d,tk,os⟩) _
  case turn=>
   rintro ⟨y,x⟩ rest b s' ⟨K1,rfl,i,hz,hi,hR⟩;have C3:i<(items.toList.zip items2.toList).length:=by
    rcases Nat.lt_or_ge i (items.toList.zip items2.toList).length with h' | h'
    .exact h'
    .rw [iU h'] at hz;cases hz
   have hm:i<min items.size items2.size:=hZ ▸ C3;have h1:i<items.size:=P7 hm (Nat.min_le_left _ _);have h2:i<items2.size:=P7 hm (Nat.min_le_right _ _);rw [cM C3] at hz
   injection hz with hyx R8
   have qD:y=items[i]:=by have:=congrArg Prod.fst hyx;simpa using this
   have cA:x=items2[i]:=by have:=congrArg Prod.snd hyx;simpa using this
   subst qD cA;rw [akc o3 (by lia) (by lia)] at hR;obtain ⟨q1,q2⟩:=he i h1 h2 (by lia) (by lia);refine wpAny_bind (q1 prog w _ _ ?_);cases qD:decide (xs[i]'(by lia)=ys[i]'(by lia)) with
   | true=>
    rw [qD,if_pos rfl] at hR
    wp_walk
    exact ⟨rfl,rfl,i+1,R8,hm,hR⟩
   | false=>
    rw [qD,if_neg (by decide)] at hR;refine wpAny_ite_split (fun _=>?_) (fun bX=>absurd rfl bX);refine wpAny_bind (wpAny_rule ?_);refine wpAny_bind (q2 prog w _ _ ?_)
    wp_walk
    exact ⟨_,rfl,hR⟩
  case fin=>
   rintro ⟨b1,b2⟩ s' ⟨K1,rfl,i,hz,hi,hR⟩;simp only at K1;subst K1;have eU:min items.size items2.size<=i:=by
    rcases Nat.lt_or_ge i (items.toList.zip items2.toList).length with h' | h'
    .rw [cM h'] at hz;cases hz
    .exact hZ ▸ h'
   have e:decide (xs.drop i<ys.drop i)=decide (items.size<items2.size):=by
    by_cases hc:items.size<=i
    .rw [fD (as:=xs) (by lia)];exact amv hx hy (by lia)
    .rw [fD (as:=ys) (by lia)];refine decide_eq_decide.mpr ?_;exact ⟨fun h=>absurd h (List.not_lt_nil _),fun h=>by lia⟩
   rw [e] at hR
   wp_walk
   exact ⟨_,rfl,by simpa [Builtin.Tuple.tupleCompareSizes] using hR⟩
  case h=>
   exact ⟨rfl,rfl,0,rfl,G2 _,h⟩
section
variable {A:Around} {s:Shared}
theorem RcLt.lists{α:Type}[DecidableEq α][LT α][DecidableLT α](o3:∀ a:α,¬ a<a){l:Addr}{xs ys:List α}(hl:s.heap.IsList l items)(hb:s.heap.IsList b items2)(hx:items.size=xs.length)(hy:items2.size=ys.length)(hu:A.units<cLine)(he:∀ j (h1:j<items.size) (h2:j<items2.size) (g1:j<xs.length) (g2:j<ys.length),EqAt A.in1 s items[j] items2[j] (decide (xs[j]=ys[j]))/\RcLt A.in1 s items[j] items2[j] (decide (xs[j]<ys[j]))):RcLt A s (.ref l) (.ref b) (decide (xs<ys)):=fun prog w E Q h=>by
 obtain ⟨⟨cls,dd,data,sl⟩,ho,hc,n,hd⟩:=id hl;obtain ⟨⟨cls2,Z8,data2,X6⟩,v4,W4,n2,R3⟩:=id hb;simp only at hc hd W4 R3;subst hc hd W4 R3;exact richCompare_meets_room (op:=.Lt) ⟨_,ho,rfl⟩ ⟨_,v4,rfl⟩ F.slot_list_lt F.entry_list_lt (F.args_list_lt_2 _ _) (ake o3 l b items items2 n n2 dd Z8 sl X6 xs ys hx hy)
  ⟨ho,v4,he,show Value.bool (decide (xs<ys))≠Value.notImplemented/\Q (.bool (decide (xs<ys))) s from ⟨(fun x=>nomatch x),h⟩⟩ hu
theorem RcLt.tuples{α:Type}[DecidableEq α][LT α][DecidableLT α](o3:∀ a:α,¬ a<a){l:Addr}{xs ys:List α}(hl:s.heap.IsTuple l items)(hb:s.heap.IsTuple b items2)(hx:items.size=xs.length)(hy:items2.size=ys.length)(hu:A.units<cLine)(he:∀ j (h1:j<items.size) (h2:j<items2.size) (g1:j<xs.length) (g2:j<ys.length),EqAt A.in1 s items[j] items2[j] (decide (xs[j]=ys[j]))/\RcLt A.in1 s items[j] items2[j] (decide (xs[j]<ys[j]))):RcLt A s (.ref l) (.ref b) (decide (xs<ys)):=fun prog w E Q h=>by
 obtain ⟨⟨cls,dd,data,sl⟩,ho,hc,n,hd⟩:=id hl;obtain ⟨⟨cls2,Z8,data2,X6⟩,v4,W4,n2,R3⟩:=id hb;simp only at hc hd W4 R3;subst hc hd W4 R3;exact richCompare_meets_room (op:=.Lt) ⟨_,ho,rfl⟩ ⟨_,v4,rfl⟩ F.slot_tuple_lt F.entry_tuple_lt (F.args_tuple_lt_2 _ _) (aiI o3 l b items items2 n n2 dd Z8 sl X6 xs ys hx hy)
  ⟨ho,v4,he,show Value.bool (decide (xs<ys))≠Value.notImplemented/\Q (.bool (decide (xs<ys))) s from ⟨(fun x=>nomatch x),h⟩⟩ hu
theorem RcLt.int_int(a:Int)(t:Tok)(b:Int)(u:Tok):RcLt A s (.int a t) (.int b u) (decide (a<b)):=fun prog w E Q h=>PySem.P.lt_int h
end
end PySem.SeqAt
namespace L2
open PySem PySem.Spec PyProof.Rows
theorem uC{its2:List Value}{xs ys:List Int}(r1:Vals (xs.map V.int) its)(r2:Vals (ys.map V.int) its2) :
  ∀ j (h1:j<its.toArray.size) (h2:j<its2.toArray.size) (g1:j<xs.length) (g2:j<ys.length),SeqAt.EqAt A s its.toArray[j] its2.toArray[j] (decide (xs[j]=ys[j]))/\SeqAt.RcLt A s its.toArray[j] its2.toArray[j] (decide (xs[j]<ys[j])):=by
 intro j h1 h2 g1 g2;obtain ⟨t,e1⟩:=oJ (nG r1) (j:=j) (z:=xs[j]) (by simp);obtain ⟨u,e2⟩:=oJ (nG r2) (j:=j) (z:=ys[j]) (by simp);have q1:its.toArray[j]=.int xs[j] t:=by have:=(G1.mp e1).2;simpa using this
 have q2:its2.toArray[j]=.int ys[j] u:=by have:=(G1.mp e2).2;simpa using this
 rw [q1,q2];refine ⟨?_,SeqAt.RcLt.int_int _ _ _ _⟩
 have:=SeqAt.EqAt.int_int (A:=A) (s:=s) xs[j] t ys[j] u
 rwa [show (xs[j]==ys[j])=decide (xs[j]=ys[j]) by rw [Bool.beq_eq_decide_eq]] at this
noncomputable def rLtR (K:PySem.W.Frag) (a b:Addr) (H:Hp) (Q:VK):Prop:=
 (∃ xs ys:List Int,C7 K H a (xs.map V.int)/\C7 K H b (ys.map V.int)/\Q (.bl (decide (xs<ys))) H)\/
 (∃ xs ys:List Int,C4 K H a (xs.map V.int)/\C4 K H b (ys.map V.int)/\Q (.bl (decide (xs<ys))) H)\/
 ∃ (as bs:List Addr) (xs ys:List (List Int)),C7 K H a (as.map V.ref)/\C7 K H b (bs.map V.ref)/\Paired (fun c x=>C4 K H c (x.map V.int)) as xs/\Paired (fun c x=>C4 K H c (x.map V.int)) bs ys/\Q (.bl (decide (xs<ys))) H
noncomputable def rLtK (K:PySem.W.Frag):V->V->Hp->VK->Prop
 | .int i,.int j,H,Q=>Q (.bl (decide (i<j))) H
 | .str i,.str j,H,Q=>Q (.bl (decide (i.cps.toList<j.cps.toList))) H
 | .ref a,.ref b,H,Q=>rLtR K a b H Q
 | _,_,_,_=>False
theorem q_ltK(hu:X.A.units+64<cLine)(hK:X.K=K:=by rfl):QOp X (compareOp .Lt) (rLtK K):=⟨by
 subst hK;intro pins s Y H x y v u Q I rx ry h;have u0:X.A.units<cLine:=by lia
 have u1:X.A.in1.units<cLine:=by rw [show X.A.in1.units=X.A.units+1 from rfl];lia
 have u2:X.A.in1.in1.units<cLine:=by rw [show X.A.in1.in1.units=X.A.units+2 from rfl];lia
 cases x <;> cases y <;> try exact h.elim
 .exact op_lt pins s Y H _ _ v u Q I rx ry ⟨_,_,rfl,rfl,h⟩
 .exact yQ pins s Y H _ _ v u Q I rx ry ⟨_,_,rfl,rfl,h⟩
 cases rx
 cases ry
 rcases h with ⟨xs,ys,h1,h2,q⟩ | ⟨xs,ys,h1,h2,q⟩ | ⟨as,bs,xs,ys,h1,h2,p1,p2,q⟩
 .obtain ⟨its,r1,l1,_⟩:=I.list h1;obtain ⟨its2,r2,l2,_⟩:=I.list h2;have e1:=r1.length;have e2:=r2.length;rw [A2] at e1 e2;exact SeqAt.RcLt.lists Int.lt_irrefl l1.isList l2.isList (by simpa using e1.symm) (by simpa using e2.symm) u0 (uC r1 r2) _ _ _ _ ⟨.bl _,H,I,rfl,q⟩
 .obtain ⟨its,r1,l1,_⟩:=I.tuple h1;obtain ⟨its2,r2,l2,_⟩:=I.tuple h2;have e1:=r1.length;have e2:=r2.length;rw [A2] at e1 e2;exact SeqAt.RcLt.tuples Int.lt_irrefl l1 l2 (by simpa using e1.symm) (by simpa using e2.symm) u0 (uC r1 r2) _ _ _ _ ⟨.bl _,H,I,rfl,q⟩
 .obtain ⟨its,r1,l1,_⟩:=I.list h1;obtain ⟨its2,r2,l2,_⟩:=I.list h2;have e1:=r1.length;have e2:=r2.length;rw [A2] at e1 e2;have f1:=Paired.length p1;have f2:=Paired.length p2;refine SeqAt.RcLt.lists (xs:=xs) (ys:=ys) (fun a=>List.lt_irrefl a) l1.isList l2.isList (by simp;lia) (by simp;lia) u0 (fun j h1 h2 g1 g2=>?_) _ _ _ _ ⟨.bl _,H,I,rfl,q⟩;have j1:j<as.length:=by lia
  have j2:j<bs.length:=by lia
  obtain ⟨v1,w1,z1⟩:=Vals.get (i:=j) (x:=.ref as[j]) r1 (by simp [j1]);obtain ⟨v2,w2,z2⟩:=Vals.get (i:=j) (x:=.ref bs[j]) r2 (by simp [j2]);have q1:its.toArray[j]=v1:=by have:=(G1.mp w1).2;simpa using this
  have q2:its2.toArray[j]=v2:=by have:=(G1.mp w2).2;simpa using this
  rw [q1,q2];obtain ⟨x1,y1,t1⟩:=Paired.at p1 (i:=j) (a:=as[j]) (by simp [j1]);obtain ⟨x2,y2,t2⟩:=Paired.at p2 (i:=j) (a:=bs[j]) (by simp [j2]);have o1:xs[j]=x1:=(G1.mp y1).2;have o2:ys[j]=x2:=(G1.mp y2).2;rw [o1,o2]
  constructor
  .obtain ⟨c1,us1,d1⟩:=(Dn.tup t1 dC).reads I rfl z1;obtain ⟨c2,us2,d2⟩:=(Dn.tup t2 dC).reads I rfl z2
   have:=SeqAt.eqAt_reads _ _ X.A.in1 s v1 v2 _ _ d1 d2 c1 c2 (by
    have hd:∀ zs:List Int,(PyData.tuple (zs.map g7)).depth=1:=fun zs=>by rw [g6,dE]
    have ui:X.A.in1.units=X.A.units+1:=rfl;rw [hd,hd];lia)
   rwa [V6,fV] at this
  .cases z1
   cases z2
   obtain ⟨i1,s1,m1,_⟩:=I.tuple t1;obtain ⟨i2,s2,m2,_⟩:=I.tuple t2;have k1:=s1.length;have k2:=s2.length;rw [A2] at k1 k2;exact SeqAt.RcLt.tuples Int.lt_irrefl m1 m2 (by simpa using k1.symm) (by simpa using k2.symm) u1 (uC s1 s2)⟩
section
variable {K:PySem.W.Frag} {H:Hp} {Q:VK}
theorem aq2{i j:Int} : rLtK K (.int i) (.int j) H Q=Q (.bl (decide (i<j))) H:=rfl
theorem aq3{i j:Str} : rLtK K (.str i) (.str j) H Q=Q (.bl (decide (i.cps.toList<j.cps.toList))) H:=rfl
theorem aq4 : rLtK K (.ref a) (.ref b) H Q=rLtR K a b H Q:=rfl
end
end L2
set_option maxRecDepth 100000
namespace L2
open PySem PySem.Spec PyProof.Rows
section
variable {prog:Program} {w:World} {A:Around} {E:Value->Shared->Prop} {h:Heap} {g:Array GenState} {d:Drawn} {t:Nat} {os:OsState}
variable {nm q:Str} {C N:Addr} {bs bm bmB:List Value} {b8:Bool} {sn:List Str} {sub:List Value} {ab:Bool} {col:Option Bool} {dd:Option Addr} {k0 k1 k2 k3 k5:Option Value} {B Bn newId nid initId inN:String} {bmN:List Value}
theorem alS(Fn:ExcBaseFacts Bn newId inN bmN)(hBn:bmB.contains (.type Bn)=true)(F:ExcBaseFacts B nid initId bmB)(T:OwnTail h bmB bm){mN:Str->Option Value}{rest:List Value}{of:Obj}{Q:Value->Shared->Prop}(hC:h.get? C=some (excClassObj nm q C N bs bm b8 sn sub ab col dd k0 k1 k2 k3 k5 newId))(hn:h.Ns N mN)(wT:mN "__init__"=some (.ref f))(wU:h.get? f=some of)(wV:of.cls=.type "function")(R8:rest.length<=sizeLine)(hq:codeAny (model prog w) (A.under (.builtin "type.__call__" ⟨.ref C::rest,[]⟩)) (.call (.ref f) ⟨.ref (h.objs.size+1)::rest,[]⟩) (fun r s'=>match r with | .ok (.ret v)=>v=.none/\Q (.ref (h.objs.size+1)) s' | .ok _=>False | .error e=>E e s')
   ⟨(h.push { cls:=.type "tuple",data:=.seq rest.toArray }).push { cls:=.ref C,data:=.fields #[.ref h.objs.size,.none,.none,.none,.bool false,.none] },g,d,t,os⟩) :
  wpAny (model prog w) A (call (.ref C) rest) Q E ⟨h,g,d,t,os⟩:=by
 have f1:=tc_lookup;have f2:=tc_bind (.ref C);have hT:(⟨h,g,d,t,os⟩:Shared).TypeIs (.ref C) "type":=⟨_,hC,rfl⟩
 refine wpAny_call (codeAny_of_tree ?_);show wpAny _ _ (callAny (.ref C) _) _ _ _
 repeat (any_goals (first | assumption | with_reducible refine wpAny_loadPart_at hC ?_ | wp_step))
 refine ⟨rfl,?_⟩;refine codeAny_call_builtin_at (Code.quiet_builtin _ (by decide +kernel)) entry_typeCall (wpAny_check_type_call_sub hC ?_)
 repeat (first | with_reducible refine wpAny_loadPart_at hC ?_ | with_reducible refine wpAny_madeBy_exc hC ?_ | wp_step)
 refine codeAny_call_builtin_code (Code.quiet_builtin _ Fn.quiet) (wpAny_check_new_subU Fn hBn T hC ?_);refine codeAny_exc_new_subU Fn hBn F T hC ?_ R8;show wpAny _ _ _ _ _ ⟨(h.push { cls:=.type "tuple",data:=.seq rest.toArray }).push { cls:=.ref C,data:=.fields #[.ref h.objs.size,.none,.none,.none,.bool false,.none] },g,d,t,os⟩;generalize hh1:((h.push { cls:=.type "tuple",data:=.seq rest.toArray }).push { cls:=.ref C,data:=.fields #[.ref h.objs.size,.none,.none,.none,.bool false,.none] })=h1 at hq ⊢
 have keep:∀ b o,h.get? b=some o->h1.get? b=some o:=fun b o e=>by rw [<- hh1];exact Heap.get?_push_of_some _ (Heap.get?_push_of_some _ e)
 have hC1:=keep _ _ hC;have iF:h1.Ns N mN:=let ⟨o,es,ep,e,r⟩:=hn;⟨o,es,ep,keep _ _ e,r⟩
 have wW:h1.get? (h.objs.size+1)=some { cls:=.ref C,data:=.fields #[.ref h.objs.size,.none,.none,.none,.bool false,.none] }:=by rw [<- hh1];heap_get
 have hcC:(Value.ref C::bm).contains (.ref C)=true:=by simp
 have T1:=T.keeps (h':=h1) keep;unfold isInstance
 repeat (first | with_reducible refine wpAny_loadPart_at wW ?_ | (with_reducible refine wpAny_isSubtype_exc hC1 ?_;rw [hcC]) | wp_step)
 show wpAny _ _ (typeLookup (.ref C) _) _ _ _;refine wpAny_typeLookup_tail hC1 iF T1 F.mroIs F.init.lookup ?_;rw [wT];show wpAny _ _ (holding _ _) _ _ _;refine wpAny_holding (wpAny_bind (wpAny_bindSpecial_def (keep _ _ wU) wV ?_));refine wpAny_bind (wpAny_call (codeAny_mono hq fun r s' hr=>?_))
 match r,hr with
 | .error e,z=>exact z
 | .ok (.ret v),⟨e1,z⟩=>
  subst e1;refine wpAny_pure ?_;show wpAny _ _ (ret _) _ _ _;exact wpAny_pure z
end
end L2
set_option maxRecDepth 100000
namespace L2
open PySem PySem.Spec PyProof.Rows
section
variable {prog:Program} {w:World} {A:Around} {E:Value->Shared->Prop} {h:Heap} {g:Array GenState} {d:Drawn} {t:Nat} {os:OsState}
variable {nm q:Str} {C N:Addr} {bs bm bmB:List Value} {b8:Bool} {sn:List Str} {sub:List Value} {ab:Bool} {col:Option Bool} {dd:Option Addr} {k0 k1 k2 k3 k5:Option Value} {B newId nid initId:String}
noncomputable abbrev U8 (C t0:Addr) (od:Option Addr):Obj:={ cls:=.ref C,dict:=od,data:=.fields #[.ref t0,.none,.none,.none,.bool false,.none] }
theorem afs(F:ExcBaseFacts B nid initId bmB)(T:OwnTail h bmB bm){e a0:Addr}{Q:Value->Shared->Prop}(hC:h.get? C=some (excClassObj nm q C N bs bm b8 sn sub ab col dd k0 k1 k2 k3 k5 newId))(he:h.get? e=some (U8 C a0 od))(hq:∀ h' a1,(∀ b o,b≠e->h.get? b=some o->h'.get? b=some o)->h'.get? e=some (U8 C a1 od)->Q .none ⟨h',g,d,t,os⟩) :
  wpAny (model prog w) A (call (.builtin initId) [.ref e,v]) Q E ⟨h,g,d,t,os⟩:=by
 refine wpAny_call (codeAny_call_builtin F.init.plain F.initEntry (wpAny_check_init_subU F T hC he rfl ?_))
 wp_walk
 refine hq _ h.objs.size (fun b o hb hbo=>?_) ?_
 .rw [Heap.get?_update_other _ _ (Ne.symm hb)];exact Heap.get?_push_of_some _ hbo
 .rw [Heap.get?_update_self _ (Heap.get?_push_of_some _ he) rfl];rfl
end
end L2
set_option maxRecDepth 100000
namespace L2
open PySem PySem.Spec PyProof.Rows
section
variable {M:Model} {A:Around} {E:Value->Shared->Prop} {env:Env}
theorem akf{x:Sem Value}{Q:Flow->Shared->Prop}(hh:A.handled=none)(h:wpAny M A x (fun v zu=>∃ (e C t N:Addr) (od:Option Addr) (nm q:Str) (bs bm:List Value) (b8:Bool) (sn:List Str) (sub:List Value) (ab:Bool) (col:Option Bool) (dd:Option Addr) (k0 k1 k2 k3 k5:Option Value) (newId:String),v=.ref e/\
   zu.heap.get? C=some (excClassObj nm q C N bs bm b8 sn sub ab col dd k0 k1 k2 k3 k5 newId)/\bm.contains (.type "BaseException")=true/\zu.heap.get? e=some (U8 C t od)/\E (.ref e) zu) E s) :
  wpAny M A (raiseStmt env (some x) none) Q E s:=by
 unfold raiseStmt;refine wpAny_bind (wpAny_mono h (fun v zu z=>?_) fun _ _ y=>y);obtain ⟨e,C,t,N,od,nm,q,bs,bm,b8,sn,sub,ab,col,dd,k0,k1,k2,k3,k5,newId,rfl,hC,D9,he,hE⟩:=z;have hcB:(Value.ref C::bm).contains (.type "BaseException")=true:=by rw [List.contains_cons,D9,Bool.or_true]
 obtain ⟨hp,g,d,tk,os⟩:=zu
 repeat (first | with_reducible refine wpAny_loadPart_at he ?_ | with_reducible refine wpAny_loadPart_at hC ?_ | (with_reducible refine wpAny_isSubtype_exc hC ?_;rw [hcB]) | wp_step)
 exact wpAny_raiseNew_none hh hE
end
end L2
set_option maxRecDepth 100000
namespace L2
open PySem PySem.Spec PyProof.Rows PySem.W PySem.Builtin PySem.Builtin.ObjectAttr
noncomputable def y0 (bmB:List Value):List Value->Bool
 | []=>bmB==[]
 | v::r=>(v::r)==bmB || match v with
  | .ref _=>y0 bmB r
  | _=>false
theorem aej{B:String}(SF:StoreFacts B bmB "object.__setattr__" "object")(self:Value):∀ {l:List Value},y0 bmB l=true->refuseLoop self "__setattr__" l=pure ()
 | [],e=>by rw [<- SF.passes self,<- beq_iff_eq.mp e]
 | v::r,e=>by
  unfold y0 at e
  rcases Bool.or_eq_true_iff.mp e with z | z
  .rw [beq_iff_eq.mp z];exact SF.passes self
  .cases v with
   | ref c=>rw [refuseLoop_ref];exact aej SF self z
   | _=>cases z
theorem ahW{B:String}(SF:StoreFacts B bmB "object.__setattr__" "object"):∀ {l:List Value},y0 bmB l=true->l.contains (.type "object")=true
 | [],e=>by have:=SF.hasOwner;rw [beq_iff_eq.mp e] at this;exact this
 | v::r,e=>by
  unfold y0 at e
  rcases Bool.or_eq_true_iff.mp e with z | z
  .rw [beq_iff_eq.mp z];exact SF.hasOwner
  .cases v with
   | ref c=>rw [List.contains_cons,ahW SF z,Bool.or_true]
   | _=>cases z
section
variable {prog:Program} {w:World} {A:Around} {E:Value->Shared->Prop} {h:Heap} {g:Array GenState} {d:Drawn} {t:Nat} {os:OsState} {K:Frag} {C e t0:Addr} {cd:ClassData} {B:String} {bmB:List Value} {name:Str} {v:Value}
theorem akg{Q:Unit->Shared->Prop}(SF:StoreFacts B bmB "object.__setattr__" "object")(X:K.In h)(he:h.get? e=some (U8 C t0 none))(hc:clsIn K C=some cd)(hd:cd.hasDict=true)(ho:y0 bmB cd.mro=true)(hs:findIn K (.ref C) "__setattr__"=some (some (.builtin "object.__setattr__")))(ht:findIn K (.ref C) name=some none)(hq:∀ h' dx tk,h.objs.size<=dx->dx≠e->h'.get? e=some (U8 C t0 (some dx))->h'.Ns1 dx (fun y=>if y=name then some v else none)->(∀ b o,b≠e->h.get? b=some o->h'.get? b=some o)->Q () ⟨h',g,d,tk,os⟩) :
  wpAny (model prog w) A (setAttr (.ref e) name v) Q E ⟨h,g,d,t,os⟩:=by
 have I:InstAt h e (U8 C t0 none) C none:=⟨he,rfl,rfl,trivial⟩
 refine set_plain (s:=⟨h,g,d,t,os⟩) X I hs ?_;have ne:cd.mro.isEmpty=false:=by
  cases q:cd.mro with
  | nil=>
   rw [q] at ho
   have:=SF.hasOwner
   rw [beq_iff_eq.mp ho] at this
   cases this
  | cons _ _=>rfl
 have sb:Looks (model prog w) h (isInstance (.ref e) (.type "object")) true:=I.type.andThen (looks_mroIn X (by unfold mroIn;rw [hc,Option.bind_some,if_neg (by rw [ne];decide),ahW SF ho]));refine codeAny_call_builtin SF.slot.plain SF.entry (@check_slot (model prog w) _ _ ⟨h,g,d,t+1,os⟩ "object.__setattr__" "object" "__setattr__" (.ref e) [.str name t,v] [] _ SF.kind SF.split sb (SF.args (.ref e) (.str name t) v) ?_);have hm:Looks (model prog w) h (mroOf (.ref C)) cd.mro:=(looks_clsIn X hc).andThen .now;rw [osa_eq,refuse_eq];refine wpAny_bind (wpAny_bind (I.type.here (s:=⟨h,g,d,t+1,os⟩) (wpAny_bind (hm.here (s:=⟨h,g,d,t+1,os⟩) ?_))));rw [aej SF _ ho];refine wpAny_pure (wpAny_bind (I.type.here (s:=⟨h,g,d,t+1,os⟩) (wpAny_bind ((looks_findIn X ht).here (s:=⟨h,g,d,t+1,os⟩) (wpAny_bind (m:=storeTaker? none) (wpAny_pure ?_))))));show wpAny _ _ (ownStreamTells (.ref e) (.ref C) >>= _) _ _ _;refine wpAny_bind (m:=ownStreamTells (.ref e) (.ref C)) (wpAny_pure ?_);show wpAny _ _ (ownDictForStores (.ref e) >>= _) _ _ _;refine wpAny_bind ?_;show wpAny _ _ (instanceDict e true) _ _ _;unfold instanceDict;refine wpAny_bind (wpAny_loadPart (s:=⟨h,g,d,t+1,os⟩) he ?_)
 dsimp only
 refine wpAny_bind ((looks_clsIn X hc).here (s:=⟨h,g,d,t+1,os⟩) ?_);rw [hd,if_neg (by decide),if_neg (by simp [typeHasDict])];have zh:(h.push { cls:=.type "dict",data:=.dict #[] }).get? e=some (U8 C t0 none):=Heap.get?_push_of_some _ he;have wX:e≠h.objs.size:=M0 (Heap.lt_size he);refine wpAny_bind (wpAny_alloc' (wpAny_bind (wpAny_update' zh (wpAny_pure ?_))));have hgd:((h.push { cls:=.type "dict",data:=.dict #[] }).update e fun o=>{ cls:=o.cls,dict:=some h.objs.size,data:=o.data,slots:=o.slots }).get? h.objs.size=some { cls:=.type "dict",data:=.dict #[] }:=(Heap.get?_update_ne _ _ _ _ wX.symm).trans (Heap.get?_push_at rfl rfl);have eU:((h.push { cls:=.type "dict",data:=.dict #[] }).update e fun o=>{ cls:=o.cls,dict:=some h.objs.size,data:=o.data,slots:=o.slots }).get? e=some (U8 C t0 (some h.objs.size)):=Heap.get?_update_self _ zh rfl;have hgo:∀ b o,b≠e->h.get? b=some o->((h.push { cls:=.type "dict",data:=.dict #[] }).update e fun o=>{ cls:=o.cls,dict:=some h.objs.size,data:=o.data,slots:=o.slots }).get? b=some o:=fun b o hb z=>(Heap.get?_update_ne _ _ _ _ hb).trans (Heap.get?_push_of_some _ z)
 generalize ((h.push { cls:=.type "dict",data:=.dict #[] }).update e fun o=>{ cls:=o.cls,dict:=some h.objs.size,data:=o.data,slots:=o.slots })=h2 at hgd eU hgo ⊢
 have bZ:h2.Ns h.objs.size (fun _=>none):=⟨_,#[],_,hgd,rfl,fun e he=>absurd he (by simp),fun _=>rfl⟩
 show wpAny _ _ (storeInDict h.objs.size (.str name t) name v) _ _ _;unfold storeInDict newKeyGuard;refine wpAny_bind (wpAny_pure (wpAny_bind (wpAny_nsSet1 (Heap.Ns1.of_empty bZ) fun h' aB eR=>?_)));obtain ⟨oD,esD,epD,hoD,hdD,hcD⟩:=aB.count (Within.cons name v Within.nil);refine wpAny_bind (wpAny_lookBehind hoD (by rw [hdD];exact pastItsLine_dict (E8 hcD (by rw [G6,Z1,sizeLine_eq];lia))) (wpAny_pure ?_));exact hq h' h.objs.size _ (B3 _) wX.symm ((eR.2 e wX).trans eU) aB fun b o hb z=>(eR.2 b (M0 (Heap.lt_size z))).trans (hgo b o hb z)
end
end L2
set_option maxRecDepth 100000
namespace L2
open PySem PySem.Spec PyProof.Rows PySem.W
section
variable {M:Model} {A:Around} {E:Value->Shared->Prop} {s:Shared} {K:Frag} {C D e:Addr} {oe:Obj} {b:Bool}
theorem akh{Q:Bool->Shared->Prop}(X:K.In s.heap)(he:s.heap.get? e=some oe)(hc:oe.cls=.ref C){cd:ClassData}(hD:clsIn K D=some cd)(hT:typeIn K (.ref D)=some (.type "type"))(hB:mroIn K D (.type "BaseException")=some true)(hm:mroIn K C (.ref D)=some b)(h:Q b s) :
  wpAny M A (excMatches (.ref e) (.ref D)) Q E s:=by
 have t1:Looks M s.heap (isInstance (.ref D) (.type "tuple")) false:=(looks_typeIn X hT).andThen (Looks.of_pure tc_notTuple);have t2:Looks M s.heap (isExcClass (.ref D)) true:=by
  unfold isExcClass;refine Looks.andThen (a:=true) ?_ (by rw [if_pos rfl];exact looks_mroIn X hB);show Looks M s.heap (isType (.ref D)) true;unfold clsIn at hD
  split at hD
  .rename_i ho
   exact (Looks.ld (part:=none) (X _ _ ho)).andThen .now
  .cases hD
 have t3:Looks M s.heap (typeOf (.ref e)) (.ref C):=hc ▸ (Looks.ld he).andThen .now;unfold excMatches;refine wpAny_bind (t1.here ?_);rw [if_neg (by decide)];refine wpAny_bind (wpAny_pure (wpAny_bind ?_));rw [List.forIn_cons];refine wpAny_bind (wpAny_bind (t2.here (wpAny_pure ?_)));refine wpAny_pure (wpAny_bind (t3.here (wpAny_bind ?_)));rw [List.forIn_cons];refine wpAny_bind (wpAny_bind ((looks_mroIn X hm).here ?_))
 cases b with
 | true=>exact wpAny_pure (wpAny_pure (wpAny_pure h))
 | false=>exact wpAny_pure (wpAny_pure (wpAny_pure h))
end
end L2
set_option maxRecDepth 100000
namespace L2
open PySem PySem.Spec PyProof.Rows PySem.W PySem.Builtin PySem.Builtin.ObjectAttr
section
variable {prog:Program} {w:World} {A:Around} {E:Value->Shared->Prop} {K:Frag} {h:Heap} {g:Array GenState} {d:Drawn} {t:Nat} {os:OsState} {C e dx:Addr} {ox od:Obj} {name:Str} {v:Value} {expr:Bool} {Q:Value->Shared->Prop}
theorem an3(X:K.In h)(I:InstAt h e ox C (some od))(lS:findIn K (.ref C) "__getattribute__"=some (some (.builtin "BaseException.__getattribute__")))(hgt:findIn K (.ref C) "__getattr__"=some none)(hB:mroIn K C (.type "BaseException")=some true)(hf:findObj K C (some od) name=some (.value v))(hh:handedIn v=true)(hq:Q v ⟨h,g,d,t+1,os⟩):wpAny (model prog w) A (getAttr (.ref e) name expr) Q E ⟨h,g,d,t,os⟩:=by
 have L0:=I.type (M:=model prog w);have L1:=looks_findIn (M:=model prog w) X lS;have L2:=looks_findIn (M:=model prog w) X hgt;have L3:=looks_find (M:=model prog w) X I hf;have mB:(Value.builtin "BaseException.__getattribute__" == Value.builtin "object.__getattribute__")=false:=by decide +kernel
 have hx1:(onTheHeap (Value.ref C)&&Value.builtin "BaseException.__getattribute__" == Value.builtin "object.__getattribute__")=false:=by rw [mB];rfl
 have hx0:(expr&&onTheHeap (Value.builtin "BaseException.__getattribute__"))=false:=by cases expr <;> rfl
 unfold getAttr getAttrBy;refine wpAny_bind (wpAny_mkText (wpAny_holding (wpAny_bind (L0.at (wpAny_bind (L1.at ?_))))))
 dsimp only
 rw [hx1,if_neg (by decide)];show wpAny _ _ (getAttrByItsOwn _ _ _ _ _ _) _ _ _;unfold getAttrByItsOwn;refine wpAny_bind ?_;show wpAny _ _ (typeLookup (.ref C) "__getattr__") _ _ _;refine L2.at (wpAny_bind (wpAny_attempt (wpAny_holding ?_)));unfold callGetattribute;rw [hx0,if_neg (by decide)];unfold boundAndCalled;have FA:ExcAttrFacts "ValueError":=F.attr_ValueError;rw [FA.ga.bind (.ref e)];refine wpAny_bind (wpAny_pure (wpAny_call ?_));have sb:Looks (model prog w) h (isInstance (.ref e) (.type "BaseException")) true:=L0.andThen (looks_mroIn X hB);refine codeAny_call_builtin FA.ga.plain F.entry_bexc_ga (@check_slot (model prog w) _ _ ⟨h,g,d,t+1,os⟩ "BaseException.__getattribute__" "BaseException" "__getattribute__" (.ref e) [.str name t] [] _ (by decide +kernel) (by decide +kernel) sb (F.args_bexc_ga _ _) ?_);unfold Builtin.«object.__getattribute__»;have e0:slotArgs "__getattribute__" 1 ⟨[Value.ref e]++[Value.str name t],[]⟩=pure (.ref e,[.str name t]):=rfl;rw [e0];refine wpAny_bind (wpAny_pure ?_);show wpAny _ _ (attrName (.str name t) >>= _) _ _ _;refine wpAny_bind (m:=attrName (.str name t)) (wpAny_pure ?_);refine wpAny_bind (L0.at (wpAny_bind (L3.at (wpAny_pure ?_))));show wpAny _ _ (handedOut v) _ _ _;rw [handedOut_of hh];exact wpAny_pure hq
end
end L2
set_option maxRecDepth 100000
namespace L2
open PySem PySem.Spec PyProof.Rows PySem.W PySem.Builtin PySem.Builtin.ObjectAttr
section
variable {prog:Program} {w:World} {A:Around} {E:Value->Shared->Prop} {K:Frag} {h:Heap} {g:Array GenState} {d:Drawn} {t:Nat} {os:OsState} {C e dx:Addr} {ox od:Obj} {Q:Option Value->Shared->Prop}
end
end L2
set_option maxRecDepth 100000
namespace L2
open PySem PySem.Spec PyProof.Rows PySem.W
noncomputable def Flies (h:Heap) (x C dx T:Addr):Prop:=∃ (vs:Array Value) (oT:Obj) (ts:Array Value),h.get? x=some { cls:=.ref C,dict:=some dx,data:=.fields vs }/\vs[1]?=some (.ref T)/\T≠x/\h.get? T=some oT/\oT.data=.fields ts/\ts[3]?=some .none
section
variable {M:Model} {A:Around} {E:Value->Shared->Prop} {s:Shared} {base:Heap} {env:Env} {outer:List Env} {L x C dx:Addr} {Q:Unit->Shared->Prop}
theorem ags{vs:Array Value}{l:List Env}(hl:s.heap.FunFrames base l)(he:s.heap.get? x=some o)(hd:o.data=.fields vs):x∉l.filterMap (·.frame):=fun hm=>by
 obtain ⟨_,o',ho,hn⟩:=hl.mem hm;rw [he] at ho;cases ho;exact hn vs hd
theorem agt{oe:Obj}{vs:Array Value}{head:Value}{hadNext:Bool}(O8:A.frames=some (env::outer))(hl:s.heap.FunFrames base (env::outer))(hf:env.frame=some L)(he:s.heap.get? x=some { cls:=.ref C,dict:=some dx,data:=.fields vs })(hsz:1<vs.size)(h:∀ h' T,s.heap.objs.size<=T->Flies h' x C dx T->(∀ b o,b≠x->b∉(env::outer).filterMap (·.frame)->s.heap.get? b=some o->h'.get? b=some o)->(∀ b o,b≠x->s.heap.get? b=some o->∃ sl,h'.get? b=some { o with slots:=sl })->Q () { s with heap:=h' }) :
  wpAny M A (do let a <- frameOf env;let pl <- entryPlaceOf L hadNext;let b <- EntryCells.newEntry head a .none (rawInt L) .none pl;setField (.ref x) 1 b) (fun _ s'=>wpAny M A (setFlight (.ref x) none) Q E s') E s:=by
 have hxf:=ags hl he rfl;refine wpAny_bind (wpAny_frameOf_fun O8 hl hf fun zr zg=>wpAny_bind (wpAny_entryPlaceOf fun pl J7=>?_));unfold EntryCells.newEntry newFields;refine wpAny_bind (wpAny_newObj_type ?_ (J7.sizeOk5 _ _ _ _ _));have zf:zr.get? x=some { cls:=.ref C,dict:=some dx,data:=.fields vs }:=(zg.2.1 x hxf).trans he;generalize hoT:({ cls:=.type "traceback",dict:=none,data:=.fields ([head,.ref L,.none,rawInt L,.none]++(if pl.isEmpty then U3 6 Value.none else pl)).toArray } : Obj)=oT;have hTd:∃ ts:Array Value,oT.data=.fields ts/\3<ts.size:=⟨_,by rw [<- hoT],by simp only [K3,D1,G6,Z1] <;> lia⟩
 obtain ⟨ts,hTd,hT3⟩:=hTd;have hTf:oT.isFreed=false:=by rw [<- hoT];rfl
 have hTe:zr.objs.size≠x:=x0 (Heap.lt_size zf);have ze:=Heap.get?_push_of_some (h:=zr) oT zf;have zd:(zr.push oT).get? zr.objs.size=some oT:=Heap.get?_push_size zr hTf;refine wpAny_setField ze rfl hsz ?_;have zc:=Obj.data_mapFields (o:={ cls:=.ref C,dict:=some dx,data:=.fields vs }) rfl (·.setIfInBounds 1 (Value.ref zr.objs.size));have zb:=Heap.get?_update_self (Obj.mapFields (·.setIfInBounds 1 (Value.ref zr.objs.size))) ze (Obj.isFreed_of_fields zc);have za:=(Heap.get?_update_other (zr.push oT) (Obj.mapFields (·.setIfInBounds 1 (Value.ref zr.objs.size))) (Ne.symm hTe)).trans zd;unfold setFlight;refine wpAny_bind (wpAny_field zb zc (x:=.ref zr.objs.size) (by simp [hsz]) ?_);rw [if_pos (show (Value.ref zr.objs.size != Value.none)=true from by simp)];refine wpAny_setField za hTd hT3 (h _ zr.objs.size ?_ ?_ (fun b o hb wY z=>?_) fun b o hb z=>?_)
 .rw [zg.1];exact B3 _
 .refine ⟨_,_,_,(by rw [Heap.get?_update_other _ _ hTe];exact zb),?_,hTe,Heap.get?_update_self _ za (Obj.isFreed_of_fields (Obj.data_mapFields hTd _)),Obj.data_mapFields hTd _,?_⟩
  .simp [hsz]
  .simp [hT3]
 .have hbT:zr.objs.size≠b:=x0 (by rw [zg.1];exact Heap.lt_size z);rw [Heap.get?_update_other _ _ hbT,Heap.get?_update_other _ _ (Ne.symm hb)];exact Heap.get?_push_of_some _ ((zg.2.1 b wY).trans z)
 .have hbT:zr.objs.size≠b:=x0 (by rw [zg.1];exact Heap.lt_size z);obtain ⟨sl,z'⟩:=zg.2.2 b o z;refine ⟨sl,?_⟩;rw [Heap.get?_update_other _ _ hbT,Heap.get?_update_other _ _ (Ne.symm hb)];exact Heap.get?_push_of_some _ z'
theorem aki(O8:A.frames=some (env::outer))(hl:s.heap.FunFrames base (env::outer))(hf:env.frame=some L)(he:s.heap.get? x=some (U8 C t0 (some dx)))(h:∀ h' T,s.heap.objs.size<=T->Flies h' x C dx T->(∀ b o,b≠x->b∉(env::outer).filterMap (·.frame)->s.heap.get? b=some o->h'.get? b=some o)->(∀ b o,b≠x->s.heap.get? b=some o->∃ sl,h'.get? b=some { o with slots:=sl })->Q () { s with heap:=h' }) :
  wpAny M A (noteFrame (.ref x) env) (fun _ s'=>wpAny M A (setFlight (.ref x) none) Q E s') E s:=by
 unfold noteFrame;simp only [hf];refine wpAny_bind (wpAny_field he rfl (x:=.none) rfl ?_);rw [if_neg (by decide)];exact agt (oe:=U8 C t0 (some dx)) O8 hl hf he (by simp) h
theorem agu(O8:A.frames=some (env::outer))(hl:s.heap.FunFrames base (env::outer))(hf:env.frame=some L)(fl:Flies s.heap x C dx T)(h:∀ h' T',s.heap.objs.size<=T'->Flies h' x C dx T'->(∀ b o,b≠x->b≠T->b∉(env::outer).filterMap (·.frame)->s.heap.get? b=some o->h'.get? b=some o)->(∀ b o,b≠x->b≠T->s.heap.get? b=some o->∃ sl,h'.get? b=some { o with slots:=sl })->Q () { s with heap:=h' }) :
  wpAny M A (noteFrame (.ref x) env) (fun _ s'=>wpAny M A (setFlight (.ref x) none) Q E s') E s:=by
 obtain ⟨vs,oT,ts,he,h1,hTx,hT,hTd,h3⟩:=fl;unfold noteFrame;simp only [hf];refine wpAny_bind (wpAny_field he rfl h1 ?_);rw [if_pos (show (Value.ref T != Value.none)=true from by simp)];refine wpAny_bind (wpAny_field hT hTd h3 ?_);rw [if_neg (show ¬ ((Value.none==rawInt L)=true) from by simp [rawInt])];refine wpAny_bind (wpAny_setField hT hTd (Array.getElem?_eq_some_iff.mp h3).1 ?_);have oth:∀ b,b≠T->(s.heap.update T (Obj.mapFields (·.setIfInBounds 3 Value.none))).get? b=s.heap.get? b:=fun b hb=>Heap.get?_update_other _ _ (Ne.symm hb)
 have hTf:T∉(env::outer).filterMap (·.frame):=ags hl hT hTd;have hTn:∀ b o,s.heap.get? b=some o->(∀ vs,o.data≠.fields vs)->b≠T:=fun b o hb hn q=>by rw [q,hT] at hb;cases hb;exact hn ts hTd
 refine agt (oe:=oT) O8 (hl.of_keeps fun b o hb hn=>⟨o,(oth b (hTn b o hb hn)).trans hb,rfl⟩) hf ((oth x (Ne.symm hTx)).trans he) (Array.getElem?_eq_some_iff.mp h1).1 fun h' T' n' fl' k1 k2=>h h' T' ?_ fl' (fun b o hb hbT wY z=>k1 b o hb wY ((oth b hbT).trans z)) fun b o hb hbT z=>k2 b o hb ((oth b hbT).trans z)
 exact E8 (Nat.le_of_eq (Heap.size_update ..).symm) n'
theorem alT(fl:Flies s.heap x C dx T)(h:∀ h',Flies h' x C dx T->(∀ b o,b≠T->s.heap.get? b=some o->h'.get? b=some o)->Q () { s with heap:=h' }):wpAny M A (setFlight (.ref x) none) Q E s:=by
 obtain ⟨vs,oT,ts,he,h1,hTx,hT,hTd,h3⟩:=fl;have h3s:3<ts.size:=(Array.getElem?_eq_some_iff.mp h3).1;unfold setFlight;refine wpAny_bind (wpAny_field he rfl h1 ?_);rw [if_pos (show (Value.ref T != Value.none)=true from by simp)];refine wpAny_setField hT hTd h3s (h _ ⟨vs,_,_,(Heap.get?_update_other _ _ hTx).trans he,h1,hTx,Heap.get?_update_self _ hT (Obj.isFreed_of_fields (Obj.data_mapFields hTd _)),Obj.data_mapFields hTd _,?_⟩ fun b o hb z=>(Heap.get?_update_other _ _ (Ne.symm hb)).trans z);simp [h3s]
end
end L2
set_option maxRecDepth 100000
namespace L2
open PySem PySem.Spec PyProof.Rows
noncomputable def xm (m:Nat) (x C:Addr):HO:=.ext fun h=>m<=x/\∃ t0,h.get? x=some (U8 C t0 none)
noncomputable def xo (m:Nat) (x C dx:Addr):HO:=.ext fun h=>m<=x/\∃ t0,h.get? x=some (U8 C t0 (some dx))
noncomputable def xc (x C dx:Addr):HO:=.ext fun h=>∃ o,h.get? x=some o/\o.cls=.ref C/\o.dict=some dx/\PySem.W.notCls o=true
theorem xm_ok{P:Program}{w:World}{m:Nat}{x:Addr}(hm:m<=x)(e:h.get? x=some (U8 C t0 none)):ObjOk P w H h x (xm m x C):=⟨⟨hm,t0,e⟩,⟨_,e⟩,fun _ _ z k=>⟨z.1,z.2.elim fun t a=>⟨t,k _ a⟩⟩⟩
theorem xo_ok{P:Program}{w:World}{m:Nat}{x:Addr}(hm:m<=x)(e:h.get? x=some (U8 C t0 (some dx))):ObjOk P w H h x (xo m x C dx):=⟨⟨hm,t0,e⟩,⟨_,e⟩,fun _ _ z k=>⟨z.1,z.2.elim fun t a=>⟨t,k _ a⟩⟩⟩
theorem xc_ok{P:Program}{w:World}{x:Addr}(e:h.get? x=some o)(h1:o.cls=.ref C)(h2:o.dict=some dx)(h3:PySem.W.notCls o=true):ObjOk P w H h x (xc x C dx):=
 ⟨⟨o,e,h1,h2,h3⟩,⟨_,e⟩,fun _ _ z k=>z.elim fun t a=>⟨t,k _ a.1,a.2⟩⟩
theorem uan{P:Program}{w:World}{o:HO}(x:K6 P w H h)(hn:H a=none)(new:ObjOk P w (A0 H a o) h a o):K6 P w (A0 H a o) h:=fun b u e=>by
 by_cases hb:b=a
 .subst hb;rw [A3] at e;cases e;exact new
 .rw [A4 hb] at e;exact (x b u e).stay (fun c v _ q=>q) (fun c q=>by rw [A4 (Q9 q hn)];exact q) fun c xs q=>by rw [A4 (Q9 q hn)];exact q
theorem aq5{N:Addr}{m:Str->Option Value}{n:Str}(X:K.In h)(G:h.Ns N m)(e:G8 K N n=some (some v)):m n=some v:=by
 obtain ⟨o,es,ep,ho,hd,_,hf⟩:=G;unfold G8 at e
 split at e
 .rename_i es' n' q
  rw [X _ _ q] at ho;cases ho;cases hd
  split at e
  .rename_i y hy
   cases e;rw [<- hf];unfold nsFind findBy;rw [<- Array.find?_toList,hy];rfl
  .exfalso
   split at e <;> cases e
 .cases e
noncomputable abbrev kB:List Value:=[.type "ValueError",.type "Exception",.type "BaseException",.type "object"]
structure ErrC(K:PySem.W.Frag)(C f:Addr):Prop where
 ex:∃ (nm q:Str) (N:Addr) (bs bm:List Value) (sn:List Str) (sub:List Value) (ab:Bool) (col:Option Bool) (dd:Option Addr) (k0 k1 k2 k3 k5:Option Value),
  K.lookup C=some (excClassObj nm q C N bs bm true sn sub ab col dd k0 k1 k2 k3 k5 "ValueError.__new__")/\fK K kB bm=true/\y0 kB (.ref C::bm)=true/\PySem.W.nsOkIn K N=true/\G8 K N "__init__"=some (some (.ref f))
 fn:k7 K (.ref f)=true
 sa:L6 K (.ref C) "__setattr__"=some (some (.builtin "object.__setattr__"))
 ga:L6 K (.ref C) "__getattribute__"=some (some (.builtin "BaseException.__getattribute__"))
 gt:L6 K (.ref C) "__getattr__"=some none
 cl:L6 K (.ref C) "__class__"=some (some (.builtin "object.__class__"))
 bx:f9 K C (.type "BaseException")=some true
 ob:f9 K C (.type "object")=some true
 kp:N1 K (.ref C)=true
theorem ErrC.cls(M:ErrC K C f):∃ cd,PySem.W.clsIn K C=some cd/\cd.hasDict=true/\y0 kB cd.mro=true:=by
 obtain ⟨nm,q,N,bs,bm,sn,sub,ab,col,dd,k0,k1,k2,k3,k5,l,_,o,_,_⟩:=M.ex;exact ⟨_,by unfold PySem.W.clsIn;rw [l],rfl,o⟩
section
variable {X:Cx} {k:Nat} {f C:Addr} {fd:FuncData} {ps:List Str} {sp:Sp} {x:Str} {p pos:Pos} {e:Expr} {es:List Expr} {t:TA}
noncomputable def tErr (m:Nat) (C:Addr) (sp:Sp) (t:TA):TE:=fun Y H Q=>t Y H fun vs H1=>vs.length<=1000/\∀ x,H1 x=none->sp (.ref x::vs) (A0 H1 x (xm m x C)) (fun v H2=>v=.non/\Q (.ref x) H2) E0
theorem an4(M:ErrC X.K C f)(F:FnOk X.prog X.w X.K X.mg X.base E4 k f fd ps sp)(hr:Room (k+1) X.A)(hb:Binds X.K fd ps [])(I:Inv X pins Y H s)(r:Vals vs us)(A6:vs.length<=1000)(h:∀ x,H x=none->sp (.ref x::vs) (A0 H x (xm X.s₀.heap.objs.size x C)) (fun v H2=>v=.non/\Q (.ref x) H2) E0) :
  wpAny (model X.prog X.w) X.A (call (.ref C) us) (EP X pins Y Q) X.xe s:=by
 have hq:=h (s.heap.objs.size+1) (I.hok.fresh (Nat.le_succ _));obtain ⟨nm,q,N,bs,bm,sn,sub,ab,col,dd,k0,k1,k2,k3,k5,l,ht,ho,hok,hi⟩:=M.ex;have hC:=I.kIn _ _ l;have hN:s.heap.Ns N (s.heap.nsMap N):=.of_isNs (PySem.W.isNs_of_in I.kIn hok);have wT:=aq5 I.kIn hN hi;have hf:∃ o,s.heap.get? f=some o/\o.cls=.type "function":=by
  obtain ⟨o,ho,hc⟩:=Option.map_eq_some_iff.mp (beq_iff_eq.mp M.fn);exact ⟨o,I.kIn _ _ ho,hc⟩
 obtain ⟨of,wU,wV⟩:=hf;have lI:=r.length;have r2:Vals (V.ref (s.heap.objs.size+1)::vs) (Value.ref (s.heap.objs.size+1)::us):=.cons rfl r;have hl:(Value.ref (s.heap.objs.size+1)::us++[]).length=ps.length:=by
  have e:=r2.length;rw [F.len _ _ _ _ hq] at e;rw [M5];exact e.symm
 obtain ⟨h0,g,d,tk,os⟩:=s;refine alS PySem.F.excBase_ValueError (by decide) PySem.F.excBase_ValueError (PySem.W.tail_of_in I.kIn ht) hC hN wT wU wV (by rw [<- lI];exact E8 A6 (by decide)) ?_;have I2:Inv X pins Y (A0 H (h0.objs.size+1) (xm X.s₀.heap.objs.size (h0.objs.size+1) C)) ⟨(h0.push { cls:=.type "tuple",data:=.seq us.toArray }).push (U8 C h0.objs.size none),g,d,tk,os⟩:=
  I.laid (t':=tk) (fun b u z=>Heap.get?_push_of_some _ (Heap.get?_push_of_some _ z)) (Nat.le_succ _) (xm_ok (t0:=h0.objs.size) (Nat.le_succ_of_le I.sz) (by
   have:=Heap.get?_push_size (h0.push { cls:=.type "tuple",data:=.seq us.toArray }) (o:=U8 C h0.objs.size none) rfl
   rwa [Heap.size_push] at this))
 refine codeAny_mono (F.run _ X.stack _ _ ⟨Value.ref (h0.objs.size+1)::us,[]⟩ (Value.ref (h0.objs.size+1)::us) _ _ E0 (hr.make C us []) (I2.env0.make C us []) (by have:=hb _ (Value.ref (h0.objs.size+1)::us) I2.kIn hl;rwa [M5] at this) r2 hq) fun r s' Z7=>?_
 cases r with
 | error e=>exact Z7.elim
 | ok fl=>
  cases fl with
  | ret u=>
   obtain ⟨v,H',I3,rv,ev,q3⟩:=I2.after Z7;subst ev;exact ⟨rv,⟨V.ref (h0.objs.size+1),H',I3,rfl,q3⟩⟩
  | next=>exact False.elim Z7
  | brk=>exact False.elim Z7
  | cont=>exact False.elim Z7
theorem aq6(M:ErrC X.K C f)(F:FnOk X.prog X.w X.K X.mg X.base E4 k f fd ps sp)(hr:Room (k+1) X.A)(hg:Gl X x)(hm:X.mg x=some (.ref C))(hb:Binds X.K fd ps [])(ha:PA X (e::es) t)(G9:(x==("__debug__" : Str))=false:=by decide)(he:starEach (e::es) X.env=(false,eval e X.env)::starEach es X.env:=by rfl)(J7:(backTo pos (starEach es X.env)).any (·.1)=false:=by rfl) :
  PE X (.Call (.Name x p) (e::es) [] pos) (tErr X.s₀.heap.objs.size C sp t):=by
 intro pins s Y H Q I h;refine wpAny_Call_Name_kw (cV I hg hm ?_ G9);refine jA (h₀:=X.base) I.ok.mod.kin M.kp (A7 (ha pos pins s Y H _ I h) fun us s1 ⟨vs,H1,I1,r,q0,q⟩=>⟨I1.kIn,an4 M F hr hb I1 r q0 q⟩) he J7
end
theorem alU{o:HO}(h:H a=some o):A0 H a o=H:=by
 funext b;unfold A0;split
 .rename_i e;rw [e,h]
 .rfl
structure LoreC(K:PySem.W.Frag)(L:Addr):Prop where
 sp:jB K (.ref L) "__getattribute__"=some (some (.builtin "type.__getattribute__"))
 rd:PySem.W.readsIn K L (.type "type")=true
 fc:PySem.W.findCls K (.ref L) (.type "type") "__init__"=some (.val (.builtin "ValueError.__init__"))
noncomputable def tInit (K:PySem.W.Frag) (ta tb:TE):TE:=fun Y H Q=>ta Y H fun x H1=>tb Y H1 fun _ H2=>∃ a m C f,x=.ref a/\H2 a=some (xm m a C)/\ErrC K C f/\Q .non H2
section
variable {X:Cx} {L:Addr} {x:Str} {np ap cp:Pos} {a b:Expr} {ta tb:TE} {pl:Sem Bool}
theorem an5(N:LoreC X.K L)(hg:Gl X x)(hm:X.mg x=some (.ref L))(ha:PE X a ta)(hb:PE X b tb)(G9:(x==("__debug__" : Str))=false:=by decide)(wZ:backTo cp (starEach [a,b] X.env)=[(false,eval a X.env),(false,eval b X.env)]:=by rfl)(ht:eval (.Call (.Attribute (.Name x np) "__init__" ap) [a,b] [] cp) X.env=(do
   let ov <- eval (.Name x np) X.env
   standAt ap.atName
   let (f,first) <- holding [ov] (getMethod ov "__init__" pl)
   callWith cp f first (backTo cp (starEach [a,b] X.env)) (backToKw cp (keywordEach [] X.env))):=by rfl) :
  PE X (.Call (.Attribute (.Name x np) "__init__" ap) [a,b] [] cp) (tInit X.K ta tb):=by
 intro pins s Y H Q I h;refine PySem.W.methodCall_KW (pl:=pl) (cV I hg hm ?_ G9) ht;refine PySem.W.method_cls I.kIn N.sp (PySem.W.cls_value I.kIn N.rd N.fc rfl ?_);rw [wZ];have I0:=I.tok (s.toks+1);refine Calls.callWith_builtin rfl (Calls.evalArgs_plain (Calls.spliced_cons (A7 (ha pins _ Y H _ I0 h) fun u s1 ⟨v,H1,I1,rv,q1⟩=>Calls.spliced_cons (A7 (hb pins s1 Y H1 _ I1 q1) fun z s2 ⟨y,H2,I2,ry,e,m,C,f,ex,he,M,q2⟩=>Calls.spliced_nil ?_))));subst ex;obtain rfl:u=Value.ref e:=rv;obtain ⟨nm,q,N',bs,bm,sn,sub,ab,col,dd,k0,k1,k2,k3,k5,l,eO,ho,hok,hi⟩:=M.ex;obtain ⟨xA,t0,hx⟩:=(I2.hok _ _ he).1;obtain ⟨h2,g,d,tk,os⟩:=s2;refine afs PySem.F.excBase_ValueError (PySem.W.tail_of_in I2.kIn eO) (I2.kIn _ _ l) hx fun h' t1 keep cA=>?_
 have I3:=I2.write (x:=e) (e:=e) (t':=tk) (by rw [he];exact True.intro) (.inl rfl) (fun b u hb z=>keep b u hb z) ⟨_,cA⟩ (xm_ok xA cA);rw [alU he] at I3;exact ⟨.non,H2,I3,rfl,q2⟩
end
end L2
set_option maxRecDepth 100000
namespace L2
open PySem PySem.Spec PyProof.Rows
noncomputable def tFmtI (te:TE):TE:=fun Y H Q=>te Y H fun v H1=>∃ i:Int,v=.int i/\i.natAbs<10 ^ 9/\∀ z:Str,z.length<=100->Q (.str z) H1
noncomputable def dO:List TE->TE
 | [],_,H,Q=>∀ z:Str,Q (.str z) H
 | t::ts,Y,H,Q=>t Y H fun v H1=>∃ y:Str,v=.str y/\y.length<=100000/\dO ts Y H1 Q
section
variable {X:Cx} {e:Expr} {te:TE} {pos:Pos}
theorem an6(he:PE X e te):PE X (.FormattedValue e (-1) none pos) (tFmtI te):=by
 intro pins s Y H Q I h;refine wpAny_FormattedValue_plain (A7 (he pins s Y H _ I h) fun u s1 ⟨v,H1,I1,rv,i,ev,hi,q⟩=>?_);subst ev;obtain ⟨t,rfl⟩:=rv;have hl:i.natAbs.log2<1920:=by
  by_cases z:i.natAbs=0
  .rw [z];decide
  .exact Nat.lt_trans ((Nat.log2_lt z).mpr (Nat.lt_trans hi (by decide:10 ^ 9<2 ^ 30))) (by decide)
 refine wpAny_formatField_int hl ⟨.str _,H1,(I1.tok _),⟨_,rfl⟩,q _ ?_⟩
 have:=int_text_length_le10 (k:=9) (by decide) hi
 show (Str.ofString (toString i)).length<=100;rw [PySem.ofString_length];lia
inductive PFs (X:Cx):List Expr->List TE->Prop
 | nil:PFs X [] []
 | cons {e:Expr} {te:TE} {es:List Expr} {ts:List TE} : PE X e te->PFs X es ts->PFs X (e::es) (te::ts)
theorem ahX : ∀ {es:List Expr} {ts:List TE} (acc:Str) (n:Nat) (s:Shared) (H:Hp),PFs X es ts->Inv X pins Y H s->acc.length+100000*es.length<=sizeLine->dO ts Y H Q->
  Joins (model X.prog X.w) X.A X.xe (evalEach es X.env) acc (fun out zu=>out.length<=sizeLine/\EP X pins Y Q (.str out zu.toks) { zu with toks:=zu.toks+1 }) s
 | [],_,acc,n,s,H,.nil,I,hl,h=>⟨by simpa using hl,.str acc,H,I.tok _,⟨_,rfl⟩,h acc⟩
 | e::es,_,acc,n,s,H,.cons he hr,I,hl,h=>A7 (he pins s Y H _ I h) fun u s1 ⟨v,H1,I1,rv,y,ev,hy,q⟩=>by
  subst ev;obtain ⟨t,rfl⟩:=rv;rw [G6] at hl;have e1:(acc++y).length=acc.length+y.length:=strLen_append ..;exact ⟨y,t,rfl,by lia,ahX (acc++y) n s1 H1 hr I1 (by lia) q⟩
theorem akj{e1 e2:Expr}{ts:List TE}(h:PFs X (e1::e2::es) ts)(hn:es.length<=2):PE X (.JoinedStr (e1::e2::es) pos) (dO ts):=by
 intro pins s Y H Q I hq;refine wpAny_JoinedStr (ahX Str.empty 0 s H h I ?_ hq)
 have:Str.empty.length=0:=rfl
 rw [this,G6,G6,sizeLine_eq];lia
end
noncomputable def sXFld (K:PySem.W.Frag) (ta tv:TE) (f:Str):TS:=fun D Y H=>tv Y H fun y H1=>ta Y H1 fun x H2=>∃ a m C g,x=.ref a/\H2 a=some (xm m a C)/\ErrC K C g/\NoAttr K C f/\∀ dx,H2 dx=none->dx≠a->D.nx Y (A0 (A0 H2 a (xo m a C dx)) dx (.xd [(f,y)]))
section
variable {X:Cx} {o value:Expr} {ta tv:TE} {f:Str} {ap pos:Pos}
theorem Inv.xstore{m:Nat}(I:Inv X pins Y H s)(e:H a=some (xm m a C))(hd:s.heap.objs.size<=dx)(ne:dx≠a)(hx:h'.get? a=some (U8 C t0 (some dx)))(hn:h'.Ns1 dx (fun z=>if z=f then some u else none))(k:∀ b o,b≠a->s.heap.get? b=some o->h'.get? b=some o)(ry:RelV y u) :
  Inv X pins Y (A0 (A0 H a (xo m a C dx)) dx (.xd [(f,y)])) { s with heap:=h',toks:=t' }:=by
 have hdn:H dx=none:=I.hok.fresh hd;have xA:m<=a:=(I.hok _ _ e).1.1;have mu:fO (H a):=by rw [e];exact True.intro
 have aG:A0 H a (xo m a C dx) dx=none:=by rw [A4 ne];exact hdn
 have w1:Un X.fs [] H (A0 H a (xo m a C dx)) s.heap h':=Un.write mu (.inl rfl) k ⟨_,hx⟩;have old:∀ b o,s.heap.get? b=some o->b≠dx:=fun b o z q=>by rw [q] at z;exact absurd (Heap.lt_size z) (Nat.not_lt.mpr hd)
 refine I.un ⟨w1.keep,w1.slot,fun b o z n hb=>?_,w1.there,fun b xs z=>?_,fun b o v z=>?_,fun b ps z=>?_⟩ (uan (I.hok.write mu (.inl rfl) k ⟨_,hx⟩ (xo_ok xA hx)) aG ⟨_,hn,fun g=>?_⟩)
 .rw [A4 (old b o z)];exact w1.free b o z n hb
 .rw [A4 (Q9 (w1.tups b xs z) aG)];exact w1.tups b xs z
 .rw [A4 (Q9 (w1.frzs b o v z) aG)];exact w1.frzs b o v z
 .obtain ⟨more,q⟩:=w1.tbls b ps z;exact ⟨more,by rw [A4 (Q9 q aG)];exact q⟩
 .show RelO ([(f,y)].lookup g) (if g=f then some u else none)
  by_cases q:g=f
  .rw [if_pos q,q,List.lookup_cons_self];exact ry
  .rw [if_neg q,fH,show (g==f)=false from beq_eq_false_iff_ne.mpr q];exact True.intro
theorem an7(ha:PE X o ta)(hv:PE X value tv)(hs:swapsWith value (some (.Attribute o f ap)) pos.line X.env=pure false):PS X (.Assign [.Attribute o f ap] value pos) (sXFld X.K ta tv f):=by
 intro pins s Y H D I h;refine plainObj_wpAny_Assign_Attribute (A7 (hv pins s Y H _ I h) fun u s1 ⟨y,H1,I1,ry,q⟩=>A7 (ha pins s1 Y H1 _ I1 q) fun ov s2 ⟨x,H2,I2,rx,a,m,C,g,ex,he,M,n,q2⟩=>?_) hs;subst ex;obtain rfl:ov=Value.ref a:=rx;obtain ⟨cd,hc,hd,ho⟩:=M.cls;obtain ⟨_,t0,hx⟩:=(I2.hok _ _ he).1;obtain ⟨h2,gg,d,tk,os⟩:=s2;refine akg PySem.F.store_ValueError I2.kIn hx hc hd ho M.sa n fun h' dx tk' n1 n2 cA hn keep=>?_
 have I3:=I2.xstore (t':=tk') he n1 n2 cA hn keep ry;exact ⟨Y,_,I3,q2 dx (I2.hok.fresh n1) n2⟩
end
end L2
set_option maxRecDepth 100000
namespace L2
open PySem PySem.Spec PyProof.Rows
noncomputable def U9 (H:Hp) (x:Addr):Hp:=fun b=>if b=x then none else H b
theorem ahY{x:Addr} : U9 H x x=none:=by unfold U9;rw [if_pos rfl]
theorem t4{x:Addr}(h:b≠x):U9 H x b=H b:=by unfold U9;rw [if_neg h]
theorem alV{x:Addr}{o:HO}(h:U9 H x b=some o):b≠x/\H b=some o:=by
 by_cases e:b=x
 .rw [e,ahY] at h;cases h
 .rw [t4 e] at h;exact ⟨e,h⟩
noncomputable def T0 (P:Program) (w:World):X5:=fun outer H s E e s'=>∃ (x C dx T:Addr) (H':Hp),e=.ref x/\s'.os=s.os/\AllBare s'.gens/\Un (R6 outer) [] H H' s.heap s'.heap/\K6 P w H' s'.heap/\s.heap.objs.size<=x/\s.heap.objs.size<=T/\H' x=none/\H' T=none/\Flies s'.heap x C dx T/\E (.ref C) (some dx) H'
section
variable {P:Program} {w:World} {K:PySem.W.Frag} {mg:Str->Option Value} {base:Heap} {N:List Str} {qual:Str} {scope:Scope} {f:Addr} {cd:Value} {A:Around} {outer:List Env} {s s1:Shared} {H H1:Hp} {E:XK} {pins:List (Addr×Obj)} {Y:St} {x C dx:Addr}
theorem aq7(I:Inv (cxOf (T0 P w) P w K mg base N qual scope f cd A outer s H E) pins Y H1 s1)(e:H1 x=some (xo s.heap.objs.size x C dx))(hE:E (.ref C) (some dx) (U9 H1 x)) :
  (cxOf (T0 P w) P w K mg base N qual scope f cd A outer s H E).xe (.ref x) s1:=by
 obtain ⟨hm,t0,hx⟩:=(I.hok _ _ e).1;have B:Un (R6 outer) [] H H1 s.heap s1.heap:=I.base;have old:∀ b o,s.heap.get? b=some o->b≠x:=fun b o z q=>by rw [q] at z;exact absurd (Heap.lt_size z) (Nat.not_lt.mpr hm)
 have O8:∀ b o,s.heap.get? b=some o->b∉R6 outer->b∉R6 ((envOfC qual scope s.heap.objs.size f cd)::outer):=fun b o z n q=>by
  have z1:b∈(envOfC qual scope s.heap.objs.size f cd).locals::R6 outer:=I.stkSub b q
  rcases E7.mp z1 with r | r
  .have:b<(envOfC qual scope s.heap.objs.size f cd).locals:=P7 (Heap.lt_size z) I.ok.above
   rw [r] at this;exact absurd this (f7 _)
  .exact n r
 show wpAny _ _ (leaving _ _) _ _ _;unfold leaving;refine wpAny_bind (aki (s:=s1) I.ok.frames I.stack (L:=s.heap.objs.size) rfl hx fun h' T nT fl k1 k2=>?_);have szl:s.heap.objs.size<=s1.heap.objs.size:=I.sz;refine ⟨x,C,dx,T,U9 H1 x,rfl,I.os,I.bare,⟨fun b o z n hb K1=>?_,fun b o z n hb K1=>?_,fun b o z n K1=>?_,fun b o z K1=>?_,fun b xs z=>?_,fun b o v z=>?_,fun b ps z=>?_⟩,fun b u q=>?_,hm,E8 szl nT,ahY,?_,fl,hE⟩
 .exact k1 b o (old b o z) (O8 b o z hb) (B.keep b o z n hb K1)
 .obtain ⟨sl,q⟩:=B.slot b o z n hb K1;obtain ⟨sl',q'⟩:=k2 b _ (old b o z) q;exact ⟨sl',q'⟩
 .rw [t4 (old b o z)];exact B.free b o z n K1
 .obtain ⟨o',q⟩:=B.there b o z K1;obtain ⟨sl',q'⟩:=k2 b o' (old b o z) q;exact ⟨_,q'⟩
 .have q:=B.tups b xs z;rw [t4 (fun r=>by rw [r,e] at q;cases q)];exact q
 .have q:=B.frzs b o v z;rw [t4 (fun r=>by rw [r,e] at q;cases q)];exact q
 .obtain ⟨more,q⟩:=B.tbls b ps z;exact ⟨more,by rw [t4 (fun r=>by rw [r,e] at q;cases q)];exact q⟩
 .obtain ⟨n1,q1⟩:=alV q;refine (I.hok b u q1).stay (fun c v hc z=>?_) (fun c z=>by rw [t4 (fun r=>by rw [r,e] at z;cases z)];exact z) fun c xs z=>by rw [t4 (fun r=>by rw [r,e] at z;cases z)];exact z
  have hcH:∃ o,H1 c=some o:=by
   rcases hc with r | r
   .rw [r];exact ⟨_,q1⟩
   .exact ⟨_,r⟩
  obtain ⟨oc,hcH⟩:=hcH;refine k1 c v (fun r=>?_) (fun r=>?_) z
  .rcases hc with r' | r'
   .exact n1 (r'.symm.trans r)
   .rw [r,e] at r';cases r'
  .have:=I.stkFree c r
   rw [hcH] at this;cases this
 .rw [t4 (fun r=>by
   have C3:=Heap.lt_size hx;rw [<- r] at C3;exact absurd C3 (Nat.not_lt.mpr nT))]
  exact I.hok.fresh nT
end
noncomputable def uD (K:PySem.W.Frag) (m:Nat) (E:XK) (te:TE):TS:=fun _ Y H=>te Y H fun v H1=>∃ x C dx f,v=.ref x/\H1 x=some (xo m x C dx)/\ErrC K C f/\E (.ref C) (some dx) (U9 H1 x)
section
variable {X:Cx} {m:Nat} {E:XK} {e:Expr} {te:TE} {pos:Pos}
theorem alW(hx:∀ (pins:List (Addr×Obj)) (Y:St) (H:Hp) (s:Shared) (x C dx:Addr),Inv X pins Y H s->H x=some (xo m x C dx)->E (.ref C) (some dx) (U9 H x)->X.xe (.ref x) s)(hc:X.calm=true)(he:PE X e te):PS X (.Raise (some e) none pos) (uD X.K m E te):=by
 intro pins s Y H D I h;rw [arm_exec_Raise];refine wpAny_bind (wpAny_standAt (akf (I.ok.hd hc) (wpAny_bind (A7 (he pins s Y H _ I h) fun u s1 z=>wpAny_bind (wpAny_standAt (wpAny_pure ?_))))));obtain ⟨v,H1,I1,rv,x,C,dx,f,ev,ex,M,hE⟩:=z;subst ev;obtain rfl:u=Value.ref x:=rv;obtain ⟨nm,q,N,bs,bm,sn,sub,ab,col,dd,k0,k1,k2,k3,k5,l,eO,ho,hok,hi⟩:=M.ex;obtain ⟨_,t0,cA⟩:=(I1.hok _ _ ex).1;exact ⟨x,C,t0,N,some dx,nm,q,bs,bm,true,sn,sub,ab,col,dd,k0,k1,k2,k3,k5,_,rfl,I1.kIn _ _ l,(PySem.W.tail_of_in I1.kIn eO).hasType (by decide),cA,hx pins Y H1 s1 x C dx I1 ex hE⟩
end
section
variable {P:Program} {w:World} {K:PySem.W.Frag} {mg:Str->Option Value} {base:Heap}
theorem FunD.okX{x:Str}(F:FunD K x qual st f fd)(S:FnScope N ps (B1 st))(len:∀ vs H Q E,sp vs H Q E->vs.length=ps.length)(V0:∀ (cdv:Value) (A:Around) (outer:List Env) (s:Shared) (H:Hp) (vs:List V) (Q:VK) (E:XK),Room k (A.deeper (envOfC qual (B1 st) s.heap.objs.size f cdv))->sp vs H Q E->
   ∃ t,U4 (cxOf (T0 P w) P w K mg base N qual (B1 st) f cdv A outer s H E) (O0 st) t/\t { nx:=fun _ H'=>Q .non H',rt:=Q } (start N vs) H):FnOk P w K mg base (T0 P w) (k+1) f fd ps sp:=by
 obtain ⟨oc,od,dV,kV,doc,pm,an,cdv,ct,osl,rfl,lk,W3⟩:=F.ex;exact fn_of lk W3 S len fun A outer s H vs Q E hr u9=>V0 cdv A outer s H vs Q E hr u9
end
section
variable {P:Program} {w:World} {K:PySem.W.Frag} {mg:Str->Option Value} {base:Heap} {N:List Str} {qual:Str} {scope:Scope} {f:Addr} {cd:Value} {A:Around} {outer:List Env} {s s1:Shared} {H H1:Hp} {E:XK} {pins:List (Addr×Obj)} {Y:St}
theorem y3:x5 (T0 P w) (cxOf (T0 P w) P w K mg base N qual scope f cd A outer s H E) E:=by
 intro pins Y H1 s1 e s' I ⟨x,C,dx,T,H',ee,os',bare',un,hok,nx,nT,hx,hT,fl,hE⟩;subst ee;have I':=I.call' (ch:=[]) os' un hok bare' (fun b z=>absurd z (by simp));have B:Un (R6 outer) [] H H' s.heap s'.heap:=I'.base;have szl:s.heap.objs.size<=s1.heap.objs.size:=I.sz;have old:∀ (y:Addr),s1.heap.objs.size<=y->∀ b o,s.heap.get? b=some o->b≠y:=fun y hy b o z q=>by rw [q] at z;exact absurd (Heap.lt_size z) (Nat.not_lt.mpr (E8 szl hy))
 have O8:∀ b o,s.heap.get? b=some o->b∉R6 outer->b∉R6 ((envOfC qual scope s.heap.objs.size f cd)::outer):=fun b o z n q=>by
  have z1:b∈(envOfC qual scope s.heap.objs.size f cd).locals::R6 outer:=I.stkSub b q
  rcases E7.mp z1 with r | r
  .have:b<(envOfC qual scope s.heap.objs.size f cd).locals:=P7 (Heap.lt_size z) I.ok.above
   rw [r] at this;exact absurd this (f7 _)
  .exact n r
 show wpAny _ _ (leaving _ _) _ _ _;unfold leaving;refine wpAny_bind (agu (s:=s') I'.ok.frames I'.stack (L:=s.heap.objs.size) rfl fl fun h' T' nT' fl' k1 k2=>?_);refine ⟨x,C,dx,T',H',rfl,I'.os,I'.bare,⟨fun b o z n hb K1=>?_,fun b o z n hb K1=>?_,fun b o z n K1=>B.free b o z n K1,fun b o z K1=>?_,B.tups,B.frzs,B.tbls⟩,fun b u q=>?_,E8 szl nx,?_,hx,I'.hok.fresh nT',fl',hE⟩
 .exact k1 b o (old x nx b o z) (old T nT b o z) (O8 b o z hb) (B.keep b o z n hb K1)
 .obtain ⟨sl,q⟩:=B.slot b o z n hb K1;obtain ⟨sl',q'⟩:=k2 b _ (old x nx b o z) (old T nT b o z) q;exact ⟨sl',q'⟩
 .obtain ⟨o',q⟩:=B.there b o z K1;obtain ⟨sl',q'⟩:=k2 b o' (old x nx b o z) (old T nT b o z) q;exact ⟨_,q'⟩
 .refine (I'.hok b u q).stay (fun c v hc z=>?_) (fun c z=>z) fun c xs z=>z
  have hcH:∃ o,H' c=some o:=by
   rcases hc with r | r
   .rw [r];exact ⟨_,q⟩
   .exact ⟨_,r⟩
  obtain ⟨oc,hcH⟩:=hcH;refine k1 c v (fun r=>?_) (fun r=>?_) (fun r=>?_) z
  .rw [r,hx] at hcH;cases hcH
  .rw [r,hT] at hcH;cases hcH
  .have:=I'.stkFree c r
   rw [hcH] at this;cases this
 .exact E8 I'.sz nT'
end
end L2
set_option maxRecDepth 100000
namespace L2
open PySem PySem.Spec PyProof.Rows
noncomputable abbrev Cx.inExc (X:Cx) (x:Addr) (xe:Value->Shared->Prop):Cx:={ X with A:=X.A.mark (some (.ref x)),calm:=false,xe:=xe }
section
variable {X:Cx} {pins:List (Addr×Obj)} {Y:St} {H:Hp} {s:Shared}
theorem Inv.inExc(I:Inv X pins Y H s)(x:Addr)(xe:Value->Shared->Prop):Inv (X.inExc x xe) pins Y H s:=
 ⟨⟨I.ok.mod,I.ok.kind,I.ok.glob,I.ok.blt,I.ok.above,I.ok.inj,I.ok.has,I.ok.cab,(fun z=>by cases z),I.ok.frames,I.ok.stk,I.ok.exf,I.ok.bs,I.ok.bsz,I.ok.noex,I.ok.exfs,I.ok.funs,I.ok.frf⟩,I.os,I.bare,I.base,I.loc,I.cell,I.free,I.freeC,I.pin,I.hok,I.len⟩
theorem Inv.outExc{x:Addr}{xe:Value->Shared->Prop}(hd:X.calm=true->X.A.handled=none)(I:Inv (X.inExc x xe) pins Y H s):Inv X pins Y H s:=
 ⟨⟨I.ok.mod,I.ok.kind,I.ok.glob,I.ok.blt,I.ok.above,I.ok.inj,I.ok.has,I.ok.cab,hd,I.ok.frames,I.ok.stk,I.ok.exf,I.ok.bs,I.ok.bsz,I.ok.noex,I.ok.exfs,I.ok.funs,I.ok.frf⟩,I.os,I.bare,I.base,I.loc,I.cell,I.free,I.freeC,I.pin,I.hok,I.len⟩
theorem Inv.beyond{s':Shared}(I:Inv X pins Y H s)(h:s.heap.objs.size<=b):(b∈X.ex\/X.s₀.heap.objs.size<=b)/\b≠X.env.locals/\(∀ x c,X.env.cells.lookup x=some c->c≠b)/\∀ p∈X.pn++pins,p.1≠b:=by
 refine ⟨.inr (E8 I.sz h),fun e=>?_,fun x c z e=>?_,fun p hp e=>?_⟩
 .have:=I.lt
  rw [<- e] at this;exact absurd this (Nat.not_lt.mpr h)
 .obtain ⟨v,o,ho,_⟩:=I.cell x c z
  have:=Heap.lt_size ho
  rw [e] at this;exact absurd this (Nat.not_lt.mpr h)
 .have:=Heap.lt_size (I.pin p hp).1
  rw [e] at this;exact absurd this (Nat.not_lt.mpr h)
theorem akl{M:Model}{n:Str}{pos:Pos}{Q:Unit->Shared->Prop}(I:Inv X pins Y H s)(hN:X.N.Nodup)(hi:X.N[i]?=some n)(hk:X.env.kindOf n=some .local)(h:∀ s',Inv X pins (Y.set i none) H s'->Q () s'):wpAny M A (do bindName X.env n .none;unbindBehindTheSuite X.env n pos) Q E s:=by
 obtain ⟨m,hn,hl⟩:=I.loc;have eC:(X.env.scope.kind == .class || (X.env.scope.kind == .module&&X.env.locals != X.env.globals))=false:=by rw [I.ok.kind];rfl
 refine wpAny_nameGoes_keeps hk hn eC fun h' v aB hs=>h _ ?_
 have cne:=I.cne;have k:∀ b o,b≠X.env.locals->s.heap.get? b=some o->h'.get? b=some o:=fun b o hb z=>(hs.2 b hb).trans z
 have neL:∀ b o,X.s₀.heap.get? b=some o->b≠X.env.locals:=fun b o e=>M0 (P7 (Heap.lt_size e) I.ok.above)
 have B:=I.base;refine ⟨I.ok,I.os,I.bare,⟨fun b o z n hb hx=>k b o (neL b o z) (B.keep b o z n hb hx),fun b o z n hb hx=>?_,B.free,fun b o z hx=>?_,B.tups,B.frzs,B.tbls⟩,⟨_,aB,fun j y u h1 h2 h3=>?_⟩,fun y c z=>?_,I.free,I.freeC,fun p hp=>?_,fun b u e=>?_,?_⟩
 .obtain ⟨sl,q⟩:=B.slot b o z n hb hx;exact ⟨sl,k b _ (neL b o z) q⟩
 .obtain ⟨o',q⟩:=B.there b o z hx;exact ⟨o',k b o' (neL b o z) q⟩
 .have qC:i≠j:=fun e=>by
   subst e;rw [List.getElem?_set_self (by rw [I.len];exact (G1.mp hi).1)] at h2;cases h2
  rw [List.getElem?_set_ne qC] at h2;obtain ⟨u',r,lk⟩:=hl j y u h1 h2 h3;have hyn:y≠n:=fun e=>qC (rC hN (by rw [hi,<- e]) h1)
  refine ⟨u',r,?_⟩
  rcases lk with ⟨a,b⟩ | ⟨a,c,b,d⟩
  .exact .inl ⟨a,by show (if y=n then v else m y)=_;rw [if_neg hyn];exact b⟩
  .obtain ⟨o,ho,hd⟩:=d;exact .inr ⟨a,c,b,o,k c o (cne y c b) ho,hd⟩
 .obtain ⟨v',o,ho,hd⟩:=I.cell y c z;exact ⟨v',o,k c o (cne y c z) ho,hd⟩
 .obtain ⟨a,b,c,d,e⟩:=I.pin p hp;exact ⟨k _ _ c a,b,c,d,e⟩
 .refine (I.hok b u e).stay (fun c v' hc z=>k c v' (fun r=>?_) z) (fun _ z=>z) fun _ _ z=>z
  have:=I.free
  rcases hc with r' | r'
  .rw [<- r,r',e] at this;cases this
  .rw [<- r,r'] at this;cases this
 .rw [List.length_set];exact I.len
end
end L2
set_option maxRecDepth 100000
namespace L2
open PySem PySem.Spec PyProof.Rows
section
variable {X:Cx} {pins:List (Addr×Obj)} {Y:St} {H:Hp} {s s':Shared} {E:XK} {e:Value} {Dn n:Str} {dp hp:Pos} {i:Nat} {yz:Stmt} {suite:List Stmt} {ts:TS} {D:Ends} {DC:Addr} {cd:ClassData}
theorem Inv.held{x T2:Addr}(I1:Inv X pins Y H' s')(hbx:(x∈X.ex\/X.s₀.heap.objs.size<=x)/\x≠X.env.locals/\(∀ y c,X.env.cells.lookup y=some c->c≠x)/\∀ p∈X.pn++pins,p.1≠x)(hbT:(T∈X.ex\/X.s₀.heap.objs.size<=T)/\T≠X.env.locals/\(∀ y c,X.env.cells.lookup y=some c->c≠T)/\∀ p∈X.pn++pins,p.1≠T)(hx:H' x=none)(hT:H' T=none)(iG:Flies h2 x C dx T2)(k1:∀ b o,b≠x->b≠T->b∉X.stack.filterMap (·.frame)->s'.heap.get? b=some o->h2.get? b=some o)(k2:∀ b o,b≠x->b≠T->s'.heap.get? b=some o->∃ sl,h2.get? b=some { o with slots:=sl }) :
  Inv X pins Y (A0 H' x (xc x C dx)) { s' with heap:=h2 }:=by
 obtain ⟨vs,oT,tsl,he,h1,hTx,hT2,hTd,h3⟩:=iG;have fr:∀ b,b≠X.env.locals->b∉X.fs->b∉X.stack.filterMap (·.frame):=fun b hL hf q=>by
  rcases E7.mp (I1.stkSub b q) with r | r
  .exact hL r
  .exact hf r
 refine I1.step (g':=s'.gens) (d':=s'.drawn) (t':=s'.toks) (ch:=[x,T]) (fun b hb=>?_) (fun b o hL hf hc z _=>k1 b o (fun r=>hc (by simp [r])) (fun r=>hc (by simp [r])) (fr b hL hf) z) (fun b o hL hf hc z _=>k2 b o (fun r=>hc (by simp [r])) (fun r=>hc (by simp [r])) z) (fun b o hc z n=>?_) (fun b o hc z=>?_) (fun b xs z=>?_) (fun b o u z=>?_) (fun b ps z=>?_) (fun m hm=>?_) (uan (fun b u q=>?_) hx (xc_ok he rfl rfl rfl)) I1.bare
 .rcases E7.mp hb with r | r
  .rw [r];exact hbx
  .rw [N7.mp r];exact hbT
 .rw [A4 (fun r=>hc (by simp [r]))];exact n
 .obtain ⟨sl,q⟩:=k2 b o (fun r=>hc (by simp [r])) (fun r=>hc (by simp [r])) z;exact ⟨_,q⟩
 .rw [A4 (Q9 z hx)];exact z
 .rw [A4 (Q9 z hx)];exact z
 .exact ⟨#[],by rw [A4 (Q9 z hx),z];simp⟩
 .obtain ⟨o,es,ep,ho,r⟩:=hm;obtain ⟨sl,q⟩:=k2 _ o (Ne.symm hbx.2.1) (Ne.symm hbT.2.1) ho;exact ⟨_,es,ep,q,r⟩
 .refine (I1.hok b u q).stay (fun c v hc z=>?_) (fun c z=>z) fun c xs z=>z
  have hcH:∃ o,H' c=some o:=by
   rcases hc with r | r
   .rw [r];exact ⟨_,q⟩
   .exact ⟨_,r⟩
  obtain ⟨oc,hcH⟩:=hcH;refine k1 c v (Q9 hcH hx) (Q9 hcH hT) (fun r=>?_) z
  have:=I1.stkFree c r
  rw [hcH] at this;cases this
theorem Inv.other(I:Inv X pins Y H s)(hb:(T∈X.ex\/X.s₀.heap.objs.size<=T)/\T≠X.env.locals/\(∀ y c,X.env.cells.lookup y=some c->c≠T)/\∀ p∈X.pn++pins,p.1≠T)(hT:H T=none)(k:∀ b o,b≠T->s.heap.get? b=some o->h2.get? b=some o):Inv X pins Y H { s with heap:=h2 }:=
 I.turned (t':=s.toks) k hT hb.2.1 hb.1 hb.2.2.1 hb.2.2.2
theorem aq8(o4:X.stack=X.env::X.outer)(xB:X.env.frame=some X.env.locals)(I:Inv X pins Y H s)(c:T0 X.prog X.w X.stack H s E e s')(hg:Gl X Dn)(hm:X.mg Dn=some (.ref DC))(hDc:PySem.W.clsIn X.K DC=some cd)(hDt:PySem.W.typeIn X.K (.ref DC)=some (.type "type"))(hDb:f9 X.K DC (.type "BaseException")=some true)(hN:X.N.Nodup)(hi:X.N[i]?=some n)(hk:X.env.kindOf n=some .local)(hs:∀ x xe,U4 (X.inExc x xe) (yz::suite) ts)(hE:∀ C dx H',E (.ref C) (some dx) H'->f9 X.K C (.ref DC)=some true/\∀ x,H' x=none->ts { nx:=fun σ' H''=>D.nx (σ'.set i none) H'',rt:=fun _ _=>False } (Y.set i (some (.ref x))) (A0 H' x (xc x C dx)))(G9:(Dn==("__debug__" : Str))=false:=by decide) :
  wpAny (model X.prog X.w) X.A (noteFrame e X.env) (fun _ zx=>wpAny (model X.prog X.w) X.A (setFlight e none) (fun _ zw=>wpAny (model X.prog X.w) X.A (handleBy e X.env [.ExceptHandler (some (.Name Dn dp)) (some n) (yz::suite) hp]) (SP X pins D) X.xe zw) X.xe zx) X.xe s':=by
 obtain ⟨x,C,dx,T,H',ee,os',bare',un,hok,nx,nT,hx,hT,fl,hE'⟩:=c;subst ee;obtain ⟨xC,mC⟩:=hE C dx H' hE';have I1:=I.call' (ch:=[]) os' un hok bare' (fun b z=>absurd z (by simp));have bx:=I.beyond (s':=s) nx;have bT:=I.beyond (s':=s) nT;have O8:X.A.frames=some (X.env::X.outer):=by rw [<- o4];exact I.ok.frames
 have j4:s'.heap.FunFrames X.base (X.env::X.outer):=by rw [<- o4];exact I1.stack
 refine agu (s:=s') O8 j4 xB fl fun h2 T2 nT2 iG k1 k2=>?_
 rw [<- o4] at k1;have I2:=I1.held bx bT hx hT iG k1 k2;have bT2:=I1.beyond (s':=s) nT2;have hT2:A0 H' x (xc x C dx) T2=none:=by
  obtain ⟨_,_,_,_,_,hTx,_⟩:=iG;rw [A4 hTx];exact I1.hok.fresh nT2
 refine wpAny_handleBy_cons (codeAny_handlers_test ?_) (by intro q;cases q);have I3:=I2.inExc x X.xe;have hmatch:∀ (s2:Shared),s2={ s' with heap:=h2 }->True:=fun _ _=>trivial
 refine cV I3 hg hm ?_ G9;obtain ⟨vs,oT,tsl,he2,r2⟩:=id iG;refine akh (s:={ s' with heap:=h2 }) I2.kIn he2 rfl hDc hDt hDb xC ?_;refine codeAny_handlers_suite_as (alT (s:={ s' with heap:=h2 }) iG fun h3 fl3 k3=>?_);have I4:=I2.other bT2 hT2 k3;refine jH I4 hN hi (.inl hk) (v:=.ref x) rfl (fun s5 I5=>?_) (.inr hk);refine wpAny_mono (hs x _ pins s5 _ _ _ (I5.inExc x _) (mC x hx)) (fun f s6 q=>?_) fun _ _ z=>z
 cases f with
 | next=>
  obtain ⟨σ6,H6,I6,q6⟩:=q;exact akl (I6.outExc I.ok.hd) hN hi hk fun s7 I7=>⟨_,H6,I7,q6⟩
 | ret u=>obtain ⟨_,_,_,_,_,z⟩:=q;exact z.elim
 | brk=>obtain ⟨_,_,_,z⟩:=q;exact z.elim
 | cont=>obtain ⟨_,_,_,z⟩:=q;exact z.elim
end
end L2
set_option maxRecDepth 100000
namespace L2
open PySem PySem.Spec PyProof.Rows
section
variable {X:Cx} {pins:List (Addr×Obj)} {Y:St} {H:Hp} {s:Shared} {E:XK} {k:Nat} {f:Addr} {fd:FuncData} {ps:List Str} {sp:Sp} {g:Str} {gp cp:Pos} {e:Expr} {es:List Expr} {t:TA} {Q:VK} {XE:Value->Shared->Prop} {dvs:List V} {ds:List Value}
theorem an8(F:FnOk X.prog X.w X.K X.mg X.base (T0 X.prog X.w) k f fd ps sp)(hr:Room k X.A)(hg:Gl X g)(hm:X.mg g=some (.ref f))(hk:N1 X.K (.ref f)=true)(hb:Binds X.K fd ps ds)(hd:Vals dvs ds)(ha:PA (X.wish XE) (e::es) t)(I:Inv X pins Y H s)(h:t Y H fun vs H1=>sp (vs++dvs) H1 Q E)(hx:∀ H1 s1 e' s',Inv X pins Y H1 s1->T0 X.prog X.w X.stack H1 s1 E e' s'->XE e' s')(G9:(g==("__debug__" : Str))=false:=by decide)(he:starEach (e::es) X.env=(false,eval e X.env)::starEach es X.env:=by rfl)(J7:(backTo cp (starEach es X.env)).any (·.1)=false:=by rfl) :
  wpAny (model X.prog X.w) X.A (eval (.Call (.Name g gp) (e::es) [] cp) X.env) (EP X pins Y Q) XE s:=by
 refine wpAny_Call_Name_kw (cV I hg hm ?_ G9);refine jA (h₀:=X.base) I.ok.mod.kin hk (A7 (ha cp pins s Y H _ (I.wish XE) h) fun us s1 z=>?_) he J7;obtain ⟨vs,H1,I1,r,q⟩:=z;have I1:=I1.unwish;refine ⟨I1.kIn,?_⟩;have r2:Vals (vs++dvs) (us++ds):=r.append hd;have hl:(us++ds).length=ps.length:=by rw [<- r2.length];exact F.len _ _ _ _ q
 refine wpAny_call (codeAny_mono (F.run X.A X.stack s1 H1 ⟨us,[]⟩ (us++ds) (vs++dvs) Q E hr I1.env0 (hb s1 us I1.kIn hl) r2 q) fun r s' hq=>?_)
 cases r with
 | error e'=>exact hx H1 s1 e' s' I1 hq
 | ok fl=>
  cases fl with
  | ret u=>exact I1.after hq
  | next=>exact False.elim hq
  | brk=>exact False.elim hq
  | cont=>exact False.elim hq
end
noncomputable def kC (K:PySem.W.Frag) (DC:Addr) (i:Nat) (ts:TS) (D:Ends) (Y:St):XK:=fun cls dx H'=>∃ C d,cls=.ref C/\dx=some d/\f9 K C (.ref DC)=some true/\∀ x,H' x=none->ts { nx:=fun σ' H''=>D.nx (σ'.set i none) H'',rt:=fun _ _=>False } (Y.set i (some (.ref x))) (A0 H' x (xc x C d))
noncomputable def tTryE (K:PySem.W.Frag) (sp:Sp) (dvs:List V) (t:TA) (DC:Addr) (i:Nat) (ts:TS):TS:=fun D Y H=>t Y H fun vs H1=>sp (vs++dvs) H1 (fun _ H2=>D.nx Y H2) (kC K DC i ts D Y)
noncomputable def tTryA (K:PySem.W.Frag) (sp:Sp) (dvs:List V) (t:TA) (j:Nat) (DC:Addr) (i:Nat) (ts:TS):TS:=fun D Y H=>t Y H fun vs H1=>sp (vs++dvs) H1 (fun v H2=>D.nx (Y.set j (some v)) H2) (kC K DC i ts D Y)
structure CatchC(K:PySem.W.Frag)(DC:Addr):Prop where
 cl:∃ cd,PySem.W.clsIn K DC=some cd
 ty:PySem.W.typeIn K (.ref DC)=some (.type "type")
 bx:f9 K DC (.type "BaseException")=some true
section
variable {X:Cx} {k:Nat} {f DC:Addr} {fd:FuncData} {ps:List Str} {sp:Sp} {g Dn n y:Str} {gp cp ep dp hp pos yp:Pos} {e:Expr} {es:List Expr} {t:TA} {i j:Nat} {yz:Stmt} {suite:List Stmt} {ts:TS} {dvs:List V} {ds:List Value}
end
noncomputable def tXGet (K:PySem.W.Frag) (ta:TE) (f:Str):TE:=fun Y H Q=>ta Y H fun x H1=>∃ a C dx g fs v,x=.ref a/\H1 a=some (xc a C dx)/\H1 dx=some (.xd fs)/\ErrC K C g/\NoAttr K C f/\fs.lookup f=some v/\Q v H1
section
variable {X:Cx} {e:Expr} {te:TE} {f:Str} {pos:Pos}
theorem aq9{fs:List (Str×V)}(I:Inv X pins Y H s)(h1:H a=some (xc a C dx))(h2:H dx=some (.xd fs)) :
  ∃ (ox od:Obj) (mA:Str->Option Value),PySem.W.InstAt s.heap a ox C (some od)/\(∀ name,PySem.W.lookIn name od=some (mA name))/\∀ g,RelO (fs.lookup g) (mA g):=by
 obtain ⟨o,ho,hc,hd,hn⟩:=(I.hok _ _ h1).1;obtain ⟨mA,ns,rel⟩:=I.hok _ _ h2;obtain ⟨od,iB,hl⟩:=yU ns;refine ⟨o,od,mA,⟨ho,hc,hn,?_⟩,hl,rel⟩;rw [hd];exact iB
theorem an9(he:PE X e te)(hb:attributeBase e f X.env (eval e X.env)=eval e X.env):PE X (.Attribute e f pos) (tXGet X.K te f):=by
 intro pins s Y H Q I h;refine yX hb (A7 (he pins s Y H _ I h) fun u s1 z=>?_);obtain ⟨x,H1,I1,rx,a,C,dx,g,fs,v,ex,h1,h2,M,n,l,q⟩:=z;subst ex;obtain rfl:u=Value.ref a:=rx;obtain ⟨ox,od,mA,J,hl,rel⟩:=aq9 I1 h1 h2;obtain ⟨u,hu,ru⟩:=jK (v:=v) (o:=mA f) (by rw [<- l];exact rel f);obtain ⟨cd,hc,hd,_⟩:=M.cls;obtain ⟨hh,g',d,tk,os⟩:=s1;refine an3 I1.kIn J M.ga M.gt M.bx (PySem.W.findObj_own (by unfold jC;rw [hc];exact hd) n rfl (by rw [hl,hu])) (yV ru) ?_;exact ⟨v,H1,I1.tok _,ru,q⟩
end
end L2
set_option maxRecDepth 100000
namespace L2
open PySem PySem.Spec PyProof.Rows
noncomputable def O1 (P:Program) (w:World) (K:PySem.W.Frag) (mg:Str->Option Value) (base:Heap) (k:Nat) (x:Str) (ps:List Str) (dvs:List V) (sp:Sp):Prop:=
 ∃ f fd,FnOk P w K mg base (T0 P w) k f fd ps sp/\mg x=some (.ref f)/\N1 K (.ref f)=true/\∃ ds,Binds K fd ps ds/\Vals dvs ds
noncomputable def EO (P:Program) (w:World) (K:PySem.W.Frag) (mg:Str->Option Value) (base:Heap) (k:Nat) (C:Addr) (x:Str) (ps:List Str) (sp:Sp):Prop:=
 ∃ f fd,FnOk P w K mg base E4 k f fd ps sp/\mg x=some (.ref C)/\ErrC K C f/\Binds K fd ps []
noncomputable def dP (K:PySem.W.Frag) (C:Addr) (fld:Str):Sp:=fun vs H Q _=>∃ m x i f,vs=[.ref x,.int i]/\H x=some (xm m x C)/\ErrC K C f/\NoAttr K C fld/\i.natAbs<10 ^ 9/\∀ dx,H dx=none->dx≠x->Q .non (A0 (A0 H x (xo m x C dx)) dx (.xd [(fld,.int i)]))
section
variable {X:Cx} {K:PySem.W.Frag} {k:Nat} {C:Addr} {ps:List Str} {sp:Sp} {x:Str} {p pos np ap cp ep dp hp yp gp:Pos} {e a b:Expr} {es:List Expr} {t:TA} {te ta tb tv:TE} {m:Nat} {E:XK}
theorem ara(G:EO X.prog X.w X.K X.mg X.base k C x ps sp)(hr:Room (k+1) X.A)(ha:QA X (e::es) t)(hg:Gl X x:=by rfl)(hm:X.s₀.heap.objs.size=m:=by rfl)(G9:(x==("__debug__" : Str))=false:=by decide)(he:starEach (e::es) X.env=(false,eval e X.env)::starEach es X.env:=by rfl)(J7:(backTo pos (starEach es X.env)).any (·.1)=false:=by rfl):QE X (.Call (.Name x p) (e::es) [] pos) (tErr m C sp t):=by
 subst hm;obtain ⟨f,fd,F,eF,M,hb⟩:=G;exact ⟨aq6 M F hr hg eF hb ha.out G9 he J7⟩
theorem aoa{L:Addr}{pl:Sem Bool}(N:LoreC X.K L)(hm:X.mg x=some (.ref L))(ha:QE X a ta)(hb:QE X b tb)(hK:X.K=K:=by rfl)(hg:Gl X x:=by rfl)(G9:(x==("__debug__" : Str))=false:=by decide)(wZ:backTo cp (starEach [a,b] X.env)=[(false,eval a X.env),(false,eval b X.env)]:=by rfl)(ht:eval (.Call (.Attribute (.Name x np) "__init__" ap) [a,b] [] cp) X.env=(do
   let ov <- eval (.Name x np) X.env
   standAt ap.atName
   let (f,first) <- holding [ov] (getMethod ov "__init__" pl)
   callWith cp f first (backTo cp (starEach [a,b] X.env)) (backToKw cp (keywordEach [] X.env))):=by rfl):QE X (.Call (.Attribute (.Name x np) "__init__" ap) [a,b] [] cp) (tInit K ta tb):=by
 subst hK;exact ⟨an5 N hg hm ha.out hb.out G9 wZ ht⟩
theorem aob(he:QE X e te):QE X (.FormattedValue e (-1) none pos) (tFmtI te):=⟨an6 he.out⟩
theorem aiJ{t1 t2:TE}(h1:QE X a t1)(h2:QE X b t2):QE X (.JoinedStr [a,b] pos) (dO [t1,t2]):=⟨akj (.cons h1.out (.cons h2.out .nil)) (by decide)⟩
theorem aoc{f:Str}(ha:QE X a ta)(hv:QE X b tv)(hK:X.K=K:=by rfl)(hs:swapsWith b (some (.Attribute a f ap)) pos.line X.env=pure false:=by rfl):QS X (.Assign [.Attribute a f ap] b pos) (sXFld K ta tv f):=by
 subst hK;exact ⟨an7 ha.out hv.out hs⟩
theorem alX(hx:∀ (pins:List (Addr×Obj)) (Y:St) (H:Hp) (s:Shared) (x C dx:Addr),Inv X pins Y H s->H x=some (xo m x C dx)->E (.ref C) (some dx) (U9 H x)->X.xe (.ref x) s)(he:QE X e te)(hK:X.K=K:=by rfl)(hc:X.calm=true:=by rfl):QS X (.Raise (some e) none pos) (uD K m E te):=by
 subst hK;exact ⟨alW hx hc he.out⟩
theorem y4(G:O1 X.prog X.w X.K X.mg X.base k x ps dvs sp)(hr:Room k X.A)(hx:x5 (T0 X.prog X.w) X E)(ha:QA X (e::es) t)(hg:Gl X x:=by rfl)(G9:(x==("__debug__" : Str))=false:=by decide)(he:starEach (e::es) X.env=(false,eval e X.env)::starEach es X.env:=by rfl)(J7:(backTo pos (starEach es X.env)).any (·.1)=false:=by rfl):QE X (.Call (.Name x p) (e::es) [] pos) (tCall sp dvs E t):=by
 obtain ⟨f,fd,F,hm,hk,ds,hb,hd⟩:=G;exact ⟨yY F hr hg hm hk hb hd hx ha.out G9 he J7⟩
theorem kD{f:Str}(he:QE X e te)(hK:X.K=K:=by rfl)(hb:attributeBase e f X.env (eval e X.env)=eval e X.env:=by rfl):QE X (.Attribute e f pos) (tXGet K te f):=by
 subst hK;exact ⟨an9 he.out hb⟩
variable {DC:Addr} {Dn n y:Str} {i j:Nat} {yz:Stmt} {suite:List Stmt} {ts:TS} {dvs:List V} {N:List Str} {S:Scope}
end
section
variable {Y:St} {H:Hp} {Q:VK} {D:Ends} {m:Nat} {C DC:Addr} {sp:Sp} {t:TA} {te ta tb tv:TE} {K:PySem.W.Frag} {E:XK} {f:Str} {i j:Nat} {ts:TS} {dvs:List V} {tl:List TE}
theorem arb:tErr m C sp t Y H Q=t Y H fun vs H1=>vs.length<=1000/\∀ x,H1 x=none->sp (.ref x::vs) (A0 H1 x (xm m x C)) (fun v H2=>v=.non/\Q (.ref x) H2) E0:=rfl
theorem alY:uD K m E te D Y H=te Y H fun v H1=>∃ x C dx f,v=.ref x/\H1 x=some (xo m x C dx)/\ErrC K C f/\E (.ref C) (some dx) (U9 H1 x):=rfl
theorem aod:tInit K ta tb Y H Q=ta Y H fun x H1=>tb Y H1 fun _ H2=>∃ a m C f,x=.ref a/\H2 a=some (xm m a C)/\ErrC K C f/\Q .non H2:=rfl
theorem aoe:tFmtI te Y H Q=te Y H fun v H1=>∃ i:Int,v=.int i/\i.natAbs<10 ^ 9/\∀ z:Str,z.length<=100->Q (.str z) H1:=rfl
theorem akm:dO [] Y H Q=∀ z:Str,Q (.str z) H:=rfl
theorem alZ:dO (te::tl) Y H Q=te Y H fun v H1=>∃ y:Str,v=.str y/\y.length<=100000/\dO tl Y H1 Q:=rfl
theorem aof:sXFld K ta tv f D Y H=tv Y H fun y H1=>ta Y H1 fun x H2=>∃ a m C g,x=.ref a/\H2 a=some (xm m a C)/\ErrC K C g/\NoAttr K C f/\∀ dx,H2 dx=none->dx≠a->D.nx Y (A0 (A0 H2 a (xo m a C dx)) dx (.xd [(f,y)])):=rfl
theorem aog:tXGet K ta f Y H Q=ta Y H fun x H1=>∃ a C dx g fs v,x=.ref a/\H1 a=some (xc a C dx)/\H1 dx=some (.xd fs)/\ErrC K C g/\NoAttr K C f/\fs.lookup f=some v/\Q v H1:=rfl
theorem aoh:tTryE K sp dvs t DC i ts D Y H=t Y H fun vs H1=>sp (vs++dvs) H1 (fun _ H2=>D.nx Y H2) (kC K DC i ts D Y):=rfl
theorem aoi:tTryA K sp dvs t j DC i ts D Y H=t Y H fun vs H1=>sp (vs++dvs) H1 (fun v H2=>D.nx (Y.set j (some v)) H2) (kC K DC i ts D Y):=rfl
end
theorem nsOk_of{N:Addr}{c:Value}{d:Option Addr}{es:Array DictEntry}{sl:Array (Option Value)}(h:K.lookup N=some ⟨c,d,.dict es n,sl⟩)(ha:(es.toList.all fun e=>match e.key with | .str _ _=>true | _=>false)=true):PySem.W.nsOkIn K N=true:=by
 unfold PySem.W.nsOkIn;rw [h];show (es.all _)=true;rw [<- Array.all_toList];exact ha
theorem tail_one{A:Addr}{c:Value}{d:Option Addr}{cd:ClassData}{sl:Array (Option Value)}(h:K.lookup A=some ⟨c,d,.cls cd,sl⟩)(h1:PySem.W.nsOkIn K cd.ns=true)(h2:G8 K cd.ns "__init__"=some none):fK K bmB (.ref A::bmB)=true:=by
 unfold fK
 dsimp only
 rw [h];have h3:fK K bmB bmB=true:=by
  cases bmB with
  | nil=>rfl
  | cons v r=>
   unfold fK;rw [beq_self_eq_true];rfl
 simp only [h1,h2,h3,beq_self_eq_true,Bool.and_self,Bool.or_true]
end L2
set_option maxRecDepth 100000
namespace L2
open PySem PySem.Spec PyProof.Rows
noncomputable def XH1 (X:Cx) (pins:List (Addr×Obj)) (D:Ends) (hh:ExceptHandler):Value->Shared->Prop:=fun e s'=>wpAny (model X.prog X.w) X.A (noteFrame e X.env) (fun _ zx=>wpAny (model X.prog X.w) X.A (setFlight e none) (fun _ zw=>wpAny (model X.prog X.w) X.A (handleBy e X.env [hh]) (SP X pins D) X.xe zw) X.xe zx) X.xe s'
structure QTB(X:Cx)(hh:ExceptHandler)(bs:List Stmt)(t:TS):Prop where
 out:∀ (pins:List (Addr×Obj)) (s:Shared) (Y:St) (H:Hp) (D:Ends),Inv X pins Y H s->t D Y H->wpAny (model X.prog X.w) X.A (execs bs X.env) (SP X pins D) (XH1 X pins D hh) s
section
variable {X:Cx} {K:PySem.W.Frag} {hh:ExceptHandler} {bs sa sb:List Stmt} {t u:TS} {pos:Pos} {c:Expr} {tA:TT}
theorem aoj(h:QTB X hh bs t):QS X (.Try bs [hh] [] [] pos) t:=
 ⟨fun pins s Y H D I z=>wpAny_Try_except (wpAny_mono (h.out pins s Y H D I z) (fun f s1 z=>by cases f <;> first | exact wpAny_execs_nil z | exact z) fun _ _ z=>z)⟩
theorem oX(hc:∀ XE,QT (X.wish XE) c tA)(ha:QTB X hh sa t)(hb:QTB X hh sb u):QTB X hh [.If c sa sb pos] (tIfS tA t u):=by
 refine ⟨fun pins s Y H D I z=>?_⟩;refine wpAny_execs_cons (wpAny_mono (wpAny_If (wpAny_mono ((hc (XH1 X pins D hh)).out pins s Y H _ (I.wish _) z) (fun d s1 z=>?_) fun _ _ z=>z)) (fun f s1 z=>by cases f <;> first | exact wpAny_execs_nil z | exact z) fun _ _ z=>z);obtain ⟨H1,I1,q1⟩:=z
 cases d with
 | true=>exact ha.out pins s1 Y H1 D I1.unwish q1
 | false=>exact hb.out pins s1 Y H1 D I1.unwish q1
end
section
variable {X:Cx} {K:PySem.W.Frag} {k:Nat} {DC:Addr} {ps:List Str} {sp:Sp} {x Dn n:Str} {gp cp ep dp hp:Pos} {e:Expr} {es:List Expr} {t:TA} {i:Nat} {yz:Stmt} {suite:List Stmt} {ts:TS} {dvs:List V}
theorem kE(G:O1 X.prog X.w X.K X.mg X.base k x ps dvs sp)(hr:Room k X.A)(ha:∀ XE,QA (X.wish XE) (e::es) t)(hmD:X.mg Dn=some (.ref DC))(CC:CatchC X.K DC)(hN:X.N.Nodup)(hi:X.N[i]?=some n)(qE:X.env.kindOf n=some .local)(hs:∀ x xe,QSs (X.inExc x xe) (yz::suite) ts)(hK:X.K=K:=by rfl)(o4:X.stack=X.env::X.outer:=by rfl)(xB:X.env.frame=some X.env.locals:=by rfl)(hg:Gl X x:=by rfl)(hgD:Gl X Dn:=by rfl)(G9:(x==("__debug__" : Str))=false:=by decide)(hdD:(Dn==("__debug__" : Str))=false:=by decide)(he:starEach (e::es) X.env=(false,eval e X.env)::starEach es X.env:=by rfl)(J7:(backTo cp (starEach es X.env)).any (·.1)=false:=by rfl)(lK:swapsWith (.Call (.Name x gp) (e::es) [] cp) none ep.line X.env=pure false:=by rfl) :
  QTB X (.ExceptHandler (some (.Name Dn dp)) (some n) (yz::suite) hp) [.Expr (.Call (.Name x gp) (e::es) [] cp) ep] (tTryE K sp dvs t DC i ts):=by
 subst hK;obtain ⟨f,fd,F,hm,hk,ds,hb,hd⟩:=G;refine ⟨fun pins s Y H D I h=>?_⟩;obtain ⟨cd,W3⟩:=CC.cl;refine wpAny_execs_cons (wpAny_Expr_any (wpAny_mono (an8 F hr hg hm hk hb hd (ha _).out I h (fun H1 s1 e' s' I1 c=>aq8 o4 xB I1 c hgD hmD W3 CC.ty CC.bx hN hi qE (fun x xe=>(hs x xe).out) (fun C dx H' hE=>?_) hdD) G9 he J7) (fun u s1 z=>?_) fun _ _ z=>z) I.quiet lK)
 .obtain ⟨C',d',e1,e2,h1,h2⟩:=hE;cases e1;cases e2;exact ⟨h1,h2⟩
 .obtain ⟨v,H1,I1,rv,q⟩:=z;exact wpAny_execs_nil ⟨Y,H1,I1,q⟩
end
end L2
open L2 in
local macro_rules | `(tactic| walk_at "rd")=>`(tactic| simp only [↓zZ,↓ap_c,↓ang,↓aqk,↓alb,↓anh,↓ani,↓aql,↓anj,↓aqm,↓aqn,↓ank,↓ap_op,↓ana,↓ap_tB,↓aqi,↓aqh,↓ap_or,↓ane,↓aqj,↓anf,↓anc,↓ap_if,↓ala,↓ap_cb,↓ano,↓aqq,↓anp,↓aqr,↓aqs,↓ap_sl,↓ajt,↓anq,↓aqv,↓anB,↓alf,↓anz,↓anA,↓alg,↓alh,↓ap_bm,↓aqt,↓aqo,↓anm,↓anl,↓ald,↓ann,↓ap_un,↓ap_rU,↓aqp,↓aqu,↓anr,↓ans,↓ant,↓anu,↓alc,↓anv,↓ale,↓anw,↓anb,anx,anC,ali,alj,alm,↓ad_ii,↓ad_ss,↓ad_rr,↓mu_ii,↓mu_ri,↓eq_ii,↓eq_ss,↓eq_bb,↓eq_rx,↓eq_xr,↓ne_ii,↓ne_ss,↓ne_bb,↓ne_rx,↓ne_xr,↓L2.lt_ii,↓L2.lt_ss,↓le_ii,↓le_ss,↓gt_ii,↓gt_ss,↓ge_ii,↓ge_ss,↓in_xs,↓in_xr,↓sl_s,↓sl_r,↓len_s,↓len_r,↓aqx,↓all_r,↓isi_t,↓ord_s,↓aqD,↓alr,amn,↓als,↓tup_r,↓anK,↓aqE,↓aqF,↓anL,↓anM,↓alu,↓alv,↓anD,↓anE,↓arb,↓alY,↓aod,↓aoe,↓akm,↓alZ,↓aof,↓aog,↓aoh,↓aoi,↓an1,↓an2,↓aq2,↓aq3,↓aq4,↓aqZ,↓aqU,↓aqT,↓anV,↓ajY,↓aqW,↓aqX,↓aqY,↓any_r,↓alF,↓anS,↓anT,↓aqL,↓anU,↓alH,↓anN,↓alA,↓anP,↓alz,aln,afY,cxK,cxKn,cxKb,cxC,cxCn,cxCb,F7,cP,G6,Z1,Nat.sub_self,Nat.reduceAdd,Nat.reduceSub,Nat.zero_add,Nat.add_one_sub_one,List.replicate_zero,fE,M5,fI,List.cons_append,List.getElem?_cons_zero,List.getElem?_cons_succ,List.set_cons_zero,List.set_cons_succ,Option.some.injEq,Option.join_some,Option.join_none,exists_eq_left',exists_eq_left,exists_eq',exists_eq,reduceCtorEq,false_and,and_false,exists_false,exists_const,false_or,or_false,true_and,and_true,V.str.injEq,V.int.injEq,V.bl.injEq,V.ref.injEq,V.ty.injEq,List.cons.injEq,exists_and_left,exists_and_right,and_assoc,if_true,if_false,Bool.false_eq_true,Bool.not_true,Bool.not_false,ite_true,ite_false,Int.reduceLT,Int.reduceLE,G2])
namespace K64
open PySem PySem.Spec PyProof.Rows L2
set_option maxRecDepth 100000
set_option maxHeartbeats 4000000
noncomputable def top (i:Nat):Stmt:=PySem.Challenge.pw_sortlore_k64_sought_refused_first.main.body.getD i (.Pass ⟨0,0,0,0⟩)
noncomputable abbrev bL:Stmt:=cY (top 2) 0
noncomputable abbrev t5:Stmt:=top 13
noncomputable abbrev Y0:Stmt:=top 14
noncomputable abbrev t6:Stmt:=top 17
noncomputable abbrev Q7:Stmt:=top 20
noncomputable abbrev oY:Stmt:=top 7
noncomputable abbrev kF:Stmt:=top 27
noncomputable abbrev oZ:Stmt:=top 28
noncomputable abbrev bM:Stmt:=top 29
noncomputable abbrev i8:Stmt:=top 30
noncomputable abbrev y7:Stmt:=top 31
noncomputable abbrev y8:Stmt:=top 32
noncomputable abbrev kG:Stmt:=top 33
noncomputable abbrev bN:Stmt:=top 34
noncomputable abbrev Q0:Stmt:=top 35
noncomputable abbrev bO:Stmt:=cY (top 36) 0
noncomputable abbrev dQ:Stmt:=cY (top 36) 1
noncomputable abbrev dR:Stmt:=cY (top 36) 2
noncomputable abbrev bP:Stmt:=cY (top 36) 3
noncomputable abbrev dS:Stmt:=top 8
noncomputable abbrev i9:Stmt:=top 9
noncomputable abbrev s_cut:Stmt:=top 10
noncomputable abbrev dU:Stmt:=cY (top 36) 4
noncomputable abbrev bQ:Stmt:=cY (top 36) 5
noncomputable abbrev bR:Stmt:=top 38
noncomputable abbrev kH:Stmt:=top 39
noncomputable abbrev kI:Stmt:=top 40
noncomputable abbrev j0:Stmt:=top 41
noncomputable abbrev Z4:Stmt:=top 42
noncomputable abbrev X1:Stmt:=top 51
noncomputable abbrev W1:Stmt:=top 52
noncomputable abbrev bS:Stmt:=top 11
noncomputable abbrev gN:Stmt:=top 44
noncomputable abbrev m6:Stmt:=top 45
noncomputable abbrev kJ:Stmt:=top 46
noncomputable abbrev t7:Stmt:=top 47
noncomputable abbrev T3:Stmt:=top 48
noncomputable abbrev P3:Stmt:=top 49
noncomputable abbrev kK:Stmt:=top 54
noncomputable abbrev y9:Stmt:=top 55
noncomputable abbrev Y1:Stmt:=top 56
noncomputable abbrev m7:Stmt:=top 57
noncomputable abbrev kL:Stmt:=top 58
noncomputable abbrev s_law:Stmt:=top 59
noncomputable def visB (S:Scope) (x:Str):Bool:=decide (S.names.lookup x=some .local) || decide (S.names.lookup x=some .cell) || decide (S.names.lookup x=some .free)
theorem qvd{pos:Pos}{S:Scope}{x:Str}(hN:X.N=N)(hs:X.env.scope=S)(h:(decide (N[n]?=some x)&&visB S x && !(x==("__debug__" : Str)) && !(x==("__classdict__" : Str)))=true):QE X (.Name x pos) (tVar n):=by
 subst hN hs;simp only [visB,f8,Bool.or_eq_true,decide_eq_true_eq,Bool.not_eq_true'] at h;exact qe_v h.1.1.1 (h.1.1.2.elim (fun z=>z.elim .inl fun z=>.inr (.inl z)) fun z=>.inr (.inr z)) h.1.2 h.2
theorem len1{α:Type}{F:List α->Prop}(h:∀ a,F [a]):∀ us:List α,us.length=1->F us
 | [a],_=>h a
theorem len2{α:Type}{F:List α->Prop}(h:∀ a b,F [a,b]):∀ us:List α,us.length=2->F us
 | [a,b],_=>h a b
theorem len3{α:Type}{F:List α->Prop}(h:∀ a b c,F [a,b,c]):∀ us:List α,us.length=3->F us
 | [a,b,c],_=>h a b c
theorem len4{α:Type}{F:List α->Prop}(h:∀ a b c d,F [a,b,c,d]):∀ us:List α,us.length=4->F us
 | [a,b,c,d],_=>h a b c d
theorem len5{α:Type}{F:List α->Prop}(h:∀ a b c d e,F [a,b,c,d,e]):∀ us:List α,us.length=5->F us
 | [a,b,c,d,e],_=>h a b c d e
theorem F8{Q:List Str}{sc:Scope}(h1:sc.kind=.function:=by rfl)(h2:sc.isCoroutine=false:=by rfl)(h3:sc.isGenerator=false:=by rfl)(h4:N.Nodup:=by decide +kernel)(h5:N.take Q.length=Q:=by rfl)(h6:∀ x∈Q,sc.names.lookup x=some .local\/sc.names.lookup x=some .cell:=by decide +kernel)(h7:∀ y∈sc.names,y.2≠.free:=by decide +kernel):FnScope N Q sc:=⟨h1,h2,h3,h4,h5,h6,h7⟩
theorem T5{kn:List (Str×NameKind)}{sc:Scope}(h1:sc.kind=.function:=by rfl)(h2:∀ x∈sc.names,x.2≠.cell:=by decide +kernel)(h3:∀ x∈sc.names,x.2=.local->sc.names.lookup x.1=some .local:=by decide +kernel)(h4:∀ x∈sc.names,x.2=.free->kn.lookup x.1=some .cell\/kn.lookup x.1=some .free:=by decide +kernel)(h5:∀ x∈sc.names,x.2=.free->sc.names.lookup x.1=some .free:=by decide +kernel)(h6:N'.length=k+ixs.length:=by rfl)(h7:ixs.map (fun i=>N[i]?)=(N'.drop k).map some:=by decide +kernel)(h8:∀ x∈N'.drop k,(x,NameKind.free)∈sc.names:=by decide +kernel):CompOk N kn sc N' k ixs:=⟨h1,h2,h3,h4,h5,h6,h7,h8⟩
theorem hm(r:Room k A)(h:j<=k:=by decide):Room j A:=r.mono h
structure DF(K:PySem.W.Frag)(n:Str)(s:Stmt):Prop where
 ex:∃ (f:Addr) (oc:Value) (od:Option Addr) (kV dc pm:Value) (an:Option Addr) (cd ct:Value) (sl:Array (Option Value)),G8 K mainGlobals n=some (some (.ref f))/\K.lookup f=some ⟨oc,od,.func (N8 n n (P0 s) (O0 s) (B1 s) .none kV dc pm an cd ct),sl⟩/\Q3 K cd n=true/\N1 K (.ref f)=true
theorem df_mk{n:Str}{s:Stmt}{kV dc:Value}{sl:Array (Option Value)}(a:G8 K mainGlobals n=some (some (.ref f)))(l:K.lookup f=some ⟨oc,od,.func (N8 n n (P0 s) (O0 s) (B1 s) .none kV dc pm an cd ct),sl⟩)(c:Q3 K cd n=true)(k:N1 K (.ref f)=true):DF K n s:=⟨f,oc,od,kV,dc,pm,an,cd,ct,sl,a,l,c,k⟩
theorem DF.go{P:Program}{w:World}{base:Heap}{n:Str}{s:Stmt}(d:DF K n s)(X:K.In h)(G:h.Ns mainGlobals mg)(_:K.In base)(ok:∀ {f fd},FunD K n n s f fd->FnOk P w K mg base E4 k f fd ps sp)(hl:∀ (kV dc pm:Value) (an:Option Addr) (cd ct:Value) (us:List Value),us.length=ps.length->bindArgs (N8 n n (P0 s) (O0 s) (B1 s) .none kV dc pm an cd ct) ⟨us,[]⟩=pure (ps.zip us):=by first | exact fun _ _ _ _ _ _=>len1 fun _=>rfl | exact fun _ _ _ _ _ _=>len2 fun _ _=>rfl | exact fun _ _ _ _ _ _=>len3 fun _ _ _=>rfl | exact fun _ _ _ _ _ _=>len4 fun _ _ _ _=>rfl | exact fun _ _ _ _ _ _=>len5 fun _ _ _ _ _=>rfl):FO P w K mg base k n ps [] sp:=by
 obtain ⟨f,oc,od,kV,dc,pm,an,cd,ct,sl,a,l,c,kp⟩:=d.ex;exact ⟨_,_,ok (U5 (st:=s) l c),Q4 X G a,kp,[],.all (hl kV dc pm an cd ct),.nil⟩
structure Txt(P:Program)(w:World)(K:PySem.W.Frag)(mg:Str->Option Value)(C:Addr)(C_NoSign:Addr):Prop where
 cl:Cls K C
 na_figures:NoAttr K C "figures"
 na_behind:NoAttr K C "behind"
 na_jobs:NoAttr K C "jobs"
 na_letter_line:NoAttr K C "letter_line"
 na_mark_line:NoAttr K C "mark_line"
 na_made:NoAttr K C "made"
 lore:∃ L,mg "LoreError"=some (.ref L)/\LoreC K L
 na_NoSign:NoAttr K C_NoSign "at"
 er_NoSign:∃ f,ErrC K C_NoSign f
 cn:jB K (.builtin "object.__class__") "__get__"=some (some (.builtin "getset_descriptor.__get__"))
 ct:PySem.W.takesIn K (.builtin "object.__class__")=some true
 c_NoSign:∃ a,mg "NoSign"=some (.ref a)/\CatchC K a/\f9 K C_NoSign (.ref a)=some true
 b_any:mg "any"=none
 b_bool:mg "bool"=none
 b_dict:mg "dict"=none
 b_enumerate:mg "enumerate"=none
 b_int:mg "int"=none
 b_isinstance:mg "isinstance"=none
 b_len:mg "len"=none
 b_list:mg "list"=none
 b_max:mg "max"=none
 b_min:mg "min"=none
 b_range:mg "range"=none
 b_tuple:mg "tuple"=none
 b_zip:mg "zip"=none
 g_MARK:∃ t,mg "MARK"=some (.int 0 t)
 g_LETTER:∃ t,mg "LETTER"=some (.int 2 t)
 g_FIGURES:∃ t,mg "FIGURES"=some (.int 1 t)
 x_JOBS:∃ a,mg "JOBS"=some (.ref a)/\ModD P w K a [((Sum.inr ("row" : Str):B5),V.str "letter"),((Sum.inr ("marks" : Str):B5),V.str "mark"),((Sum.inr ("great" : Str):B5),V.str "great"),((Sum.inr ("as" : Str):B5),V.str "as"),((Sum.inr ("over" : Str):B5),V.str "over")]
 x_AGAIN:∃ a,mg "AGAIN"=some (.ref a)/\∀ H:Hp,C4 K H a [V.str "letter",V.str "mark",V.str "over"]
theorem agx{d:Value}(h:(us++[d]).length=4):∃ u1 u2 u3,us=[u1,u2,u3]:=by
 match us,h with
 | [a,b,c],_=>exact ⟨a,b,c,rfl⟩
 | [],h=>simp at h
 | [_],h=>simp at h
 | [_,_],h=>simp at h
 | _::_::_::_::r,h=>simp at h
theorem akn(h:(us++[]).length=4):∃ u1 u2 u3 u4,us=[u1,u2,u3,u4]:=by
 match us,h with
 | [a,b,c,d],_=>exact ⟨a,b,c,d,rfl⟩
 | [],h=>simp at h
 | [_],h=>simp at h
 | [_,_],h=>simp at h
 | [_,_,_],h=>simp at h
 | _::_::_::_::_::r,h=>simp at h
inductive LvD where
 | tt (xs:List (List Int))
 | ii (xs:List Int)
 | ss (z:Str)
deriving DecidableEq
noncomputable def LvD.kind:LvD->Nat
 | .tt _=>0
 | .ii _=>1
 | .ss _=>2
noncomputable def LvD.lt:LvD->LvD->Bool
 | .tt xs,.tt ys=>decide (xs<ys)
 | .ii xs,.ii ys=>decide (xs<ys)
 | .ss x,.ss y=>decide (x.cps.toList<y.cps.toList)
 | _,_=>false
noncomputable def LvAt (H:Hp) (v:V):LvD->Prop
 | .tt xs=>∃ (a:Addr) (as:List Addr),v=.ref a/\H a=some (.lst (as.map V.ref))/\Paired (fun c (x:List Int)=>H c=some (.tup (x.map V.int))) as xs
 | .ii xs=>∃ a:Addr,v=.ref a/\H a=some (.lst (xs.map V.int))
 | .ss z=>v=.str z
theorem LvAt.same{v:V}{d:LvD}(h:LvAt H v d)(S:Same H H'):LvAt H' v d:=by
 cases d with
 | tt xs=>obtain ⟨a,as,e,h1,h2⟩:=h;exact ⟨a,as,e,S _ _ h1,K7 h2 fun _ _ e=>S _ _ e⟩
 | ii xs=>obtain ⟨a,e,h1⟩:=h;exact ⟨a,e,S _ _ h1⟩
 | ss z=>exact h
theorem uE : ∀ {as:List Addr} {xs:List (List Int)},Paired (fun c (x:List Int)=>H c=some (.tup (x.map V.int))) as xs->DnAll K H (as.map V.ref) (xs.map fun x=>PyData.tuple (x.map g7))
 | _,_,.nil=>.nil
 | _,_,.cons h t=>.cons (.tup (.of h) dC) (uE t)
theorem ah0:∀ xs ys:List (List Int),W8 (xs.map fun x=>PyData.tuple (x.map g7)) (ys.map fun x=>PyData.tuple (x.map g7))=decide (xs=ys)
 | [],[]=>by simp [W8]
 | [],_::_=>by simp [W8]
 | _::_,[]=>by simp [W8]
 | x::xs,y::ys=>by
  rw [F7,F7,W8,V6,fV,ah0 xs ys,cR]
  simp
theorem ah1:∀ xs:List (List Int),g4 (xs.map fun x=>PyData.tuple (x.map g7))<=1
 | []=>G2 _
 | x::xs=>by
  rw [F7,g4,g6,dE]
  have:=ah1 xs
  lia
theorem LvAt.ne{v:V}{d d':LvD}(h:LvAt H v d)(h':LvAt H v' d')(hk:d.kind=d'.kind)(q:Q (.bl (!decide (d=d'))) H):rNeU K v v' H Q:=by
 cases d with
 | tt xs=>cases d' with
  | tt ys=>
   obtain ⟨a,as,rfl,h1,h2⟩:=h;obtain ⟨b,bs,rfl,h3,h4⟩:=h';refine ⟨_,_,.lst (.of h1) (uE h2),.lst (.of h3) (uE h4),?_,?_⟩
   .have:=ah1 xs
    rw [g6];lia
   .rw [V6,ah0,show decide (xs=ys)=decide (LvD.tt xs=LvD.tt ys) by simp];exact q
  | _=>cases hk
 | ii xs=>cases d' with
  | ii ys=>
   obtain ⟨a,rfl,h1⟩:=h;obtain ⟨b,rfl,h3⟩:=h';refine ⟨_,_,.lst (.of h1) dC,.lst (.of h3) dC,by rw [g6,dE];lia,?_⟩;rw [V6,fV,show decide (xs=ys)=decide (LvD.ii xs=LvD.ii ys) by simp];exact q
  | _=>cases hk
 | ss x=>cases d' with
  | ss y=>
   cases h;cases h';show Q (.bl (!decide (x=y))) H;rw [show decide (x=y)=decide (LvD.ss x=LvD.ss y) by simp];exact q
  | _=>cases hk
theorem LvAt.lt{v:V}{d d':LvD}(h:LvAt H v d)(h':LvAt H v' d')(hk:d.kind=d'.kind)(q:Q (.bl (d.lt d')) H):rLtK K v v' H Q:=by
 cases d with
 | tt xs=>cases d' with
  | tt ys=>
   obtain ⟨a,as,rfl,h1,h2⟩:=h;obtain ⟨b,bs,rfl,h3,h4⟩:=h';exact .inr (.inr ⟨as,bs,xs,ys,.of h1,.of h3,K7 h2 fun _ _ e=>.of e,K7 h4 fun _ _ e=>.of e,q⟩)
  | _=>cases hk
 | ii xs=>cases d' with
  | ii ys=>
   obtain ⟨a,rfl,h1⟩:=h;obtain ⟨b,rfl,h3⟩:=h';exact .inl ⟨xs,ys,.of h1,.of h3,q⟩
  | _=>cases hk
 | ss x=>cases d' with
  | ss y=>cases h;cases h';exact q
  | _=>cases hk
theorem adM : ∀ {es:List (Addr×Addr)} {U:List C9},Paired (fun e (u:C9)=>H1 e.1=some (.tup [.int u.1,.int u.2.1,.ref e.2,.int u.2.2.2])/\H1 e.2=some (.tup (u.2.2.1.map V.int))) es U->Paired (fun c (x:List Int)=>H1 c=some (.tup (x.map V.int))) (es.map (·.2)) (U.map fun u=>u.2.2.1)
 | _,_,.nil=>.nil
 | _,_,.cons h t=>.cons h.2 (adM t)
noncomputable def z0 (b:Bool) (U:List C9) (z:Str):List LvD:=[.tt (U.map fun u=>[u.1,u.2.1]),.tt ((if b=true then U.reverse else U).map fun u=>u.2.2.1),.ii (U.map fun u=>u.2.2.2),.ss z]
noncomputable def IsLooks (H:Hp) (l:Addr) (ds:List LvD):Prop:=∃ vs:List V,H l=some (.lst vs)/\Paired (LvAt H) vs ds
theorem IsLooks.same{l:Addr}{ds:List LvD}(h:IsLooks H l ds)(S:Same H H'):IsLooks H' l ds:=
 let ⟨vs,h1,h2⟩:=h
 ⟨vs,S _ _ h1,K7 h2 fun _ _ e=>e.same S⟩
noncomputable def cmpD (d d':LvD):Int:=if d=d' then 0 else if d.lt d'=true then -1 else 1
noncomputable def cmpF (n:Nat) (ds ds':List LvD):Int:=(((e9 cmpD ds ds').take n).find? fun v=>v≠0).getD 0
noncomputable def uF (R:List Rl) (L M:List Str) (z:Str):List LvD:=z0 (hasW R "behind") (N5 (stepY R L M) (cutF (hasW R "figures") (C2 R) z.cps.toList).2) z
theorem aha(b b':Bool)(U U':List C9)(z z':Str)(i:Nat)(d d':LvD)(h:(z0 b U z)[i]?=some d)(h':(z0 b' U' z')[i]?=some d'):d.kind=d'.kind:=by
 match i with
 | 0=>cases h;cases h';rfl
 | 1=>cases h;cases h';rfl
 | 2=>cases h;cases h';rfl
 | 3=>cases h;cases h';rfl
 | i+4=>simp [z0] at h
theorem al0{ds ds':List LvD}{d d':LvD}(hi:i<n)(h:ds[i]?=some d)(h':ds'[i]?=some d')(cB:∀ k<i,ds[k]?=ds'[k]?)(M7:d≠d'):cmpF n ds ds'=cmpD d d':=by
 have hz:(e9 cmpD ds ds')[i]?=some (cmpD d d'):=by rw [List.getElem?_zipWith,h,h']
 have hc:cmpD d d'≠0:=by
  unfold cmpD;rw [if_neg M7]
  split <;> decide
 have h0:∀ v∈(e9 cmpD ds ds').take i,v=0:=by
  intro v hv;obtain ⟨k,hk,e⟩:=mZ.mp hv;have hk1:k<i:=by lia
  have e2:(e9 cmpD ds ds')[k]?=some v:=by rw [K2 (by lia),e]
  rw [List.getElem?_zipWith,cB k hk1] at e2
  cases q:ds'[k]? with
  | none=>rw [q] at e2;cases e2
  | some x=>
   rw [q] at e2
   have:cmpD x x=v:=by simpa using e2
   rw [<- this];exact if_pos rfl
 unfold cmpF;have e3:(e9 cmpD ds ds').take n=(e9 cmpD ds ds').take i++(cmpD d d'::((e9 cmpD ds ds').take n).drop (i+1)):=by
  have hl:i<((e9 cmpD ds ds').take n).length:=by
   have:=(G1.mp hz).1
   rw [F9];lia
  have e4:=j6 i ((e9 cmpD ds ds').take n);rw [List.take_take,cQ (Nat.le_of_lt hi)] at e4
  conv=>lhs;rw [<- e4]
  rw [cM hl]
  have:((e9 cmpD ds ds').take n)[i]=cmpD d d':=by
   rw [List.getElem_take];exact (G1.mp hz).2
  rw [this]
 rw [e3,List.find?_append,List.find?_eq_none.mpr (fun v hv=>by simp [h0 v hv])];simp [hc]
theorem akp{ds ds':List LvD}(cB:∀ k<n,ds[k]?=ds'[k]?):cmpF n ds ds'=0:=by
 unfold cmpF
 have:((e9 cmpD ds ds').take n).find? (fun v=>v≠0)=none:=List.find?_eq_none.mpr fun v hv=>by
  obtain ⟨k,hk,e⟩:=mZ.mp hv;have e2:(e9 cmpD ds ds')[k]?=some v:=by rw [K2 (by lia),e]
  rw [List.getElem?_zipWith,cB k (by lia)] at e2
  cases q:ds'[k]? with
  | none=>rw [q] at e2;cases e2
  | some x=>
   rw [q] at e2
   have:cmpD x x=v:=by simpa using e2
   rw [<- this];simp [cmpD]
 rw [this];rfl
theorem aok{α β:Type}(f:α->β)(xs:List α)(i:Int):G0 (xs.map f) i=(G0 xs i).map f:=by
 unfold G0;rw [A2]
 cases X7 xs.length i with
 | none=>rfl
 | some j=>
  show (xs.map f)[j]?=(xs[j]?).map f;rw [P6]
noncomputable def stpN (ns:List Int):Int:=((G0 [1,2,4,5,7,8,10,11,13,23,44,91] (cellF ns 1 % 12)).getD 0:Int)
noncomputable def sgnF (ns:List Int) (k:Int):Nat:=(G0 SG ((cellF ns 0+k*stpN ns) % 93)).getD 33
noncomputable def uG (K:PySem.W.Frag):Sp:=fun vs H Q _=>∃ (a:Addr) (ns:List Int) (k:Int),vs=[.ref a,.int k]/\C7 K H a (ns.map V.int)/\0<=k/\∀ H',Same H H'->Q (.str (one (sgnF ns k))) H'
theorem aol(ns:List Int):G0 ([1,2,4,5,7,8,10,11,13,23,44,91]:List Int) (cellF ns 1 % 12)=some (stpN ns)/\0<=stpN ns/\stpN ns<=91:=by
 obtain ⟨v,h1,h2⟩:=nQ (xs:=([1,2,4,5,7,8,10,11,13,23,44,91]:List Int)) (i:=cellF ns 1 % 12) (by lia) (by simp only [G6,Z1];lia);unfold stpN;rw [h1];exact ⟨rfl,(show ∀ s∈([1,2,4,5,7,8,10,11,13,23,44,91]:List Int),0<=s/\s<=91 by decide) v h2⟩
theorem akr(ns:List Int)(k:Int):G0 SG ((cellF ns 0+k*stpN ns) % 93)=some (sgnF ns k)/\signB (sgnF ns k)=true:=by
 obtain ⟨c,h1,h2⟩:=SS_at (i:=(cellF ns 0+k*stpN ns) % 93) (by lia) (by lia);rw [SS_eq] at h1;unfold sgnF;rw [h1];exact ⟨rfl,h2⟩
theorem al1(ns:List Int):stpN ns∈([1,2,4,5,7,8,10,11,13,23,44,91]:List Int):=by
 obtain ⟨v,h1,h2⟩:=nQ (xs:=([1,2,4,5,7,8,10,11,13,23,44,91]:List Int)) (i:=cellF ns 1 % 12) (by lia) (by simp only [G6,Z1];lia);unfold stpN;rw [h1];exact h2
theorem al2:∀ s∈([1,2,4,5,7,8,10,11,13,23,44,91]:List Int),∃ t∈(k4 93).map Int.ofNat,s*t % 93=1:=by decide +kernel
theorem SG_nd:SG.Nodup:=by decide +kernel
theorem sM:SG.length=93:=by decide +kernel
theorem uH{k l:Int}(h0:0<=k)(h1:k<93)(h2:0<=l)(h3:l<93)(h:sgnF ns k=sgnF ns l):k=l:=by
 have hl:((SG.length:Nat):Int)=93:=by rw [sM];rfl
 have e:=aqO SG_nd (i:=(cellF ns 0+k*stpN ns) % 93) (j:=(cellF ns 0+l*stpN ns) % 93) (by lia) (by lia) (by lia) (by lia) h;obtain ⟨t,_,ht⟩:=al2 _ (al1 ns);exact aiw ht e h0 h1 h2 h3
noncomputable def P5 (ns:List Int) (k:Int):Str:=one (sgnF ns k)
theorem arc{ks:List Int}(hk:∀ k∈ks,0<=k/\k<93)(nd:ks.Nodup):(ks.map (P5 ns)).Nodup:=by
 rw [d0,List.pairwise_map];refine List.Pairwise.imp_of_mem ?_ (d0.mp nd);intro a b ha hb n e;have e1:[sgnF ns a]=[sgnF ns b]:=congrArg (fun z:Str=>z.cps.toList) e;exact n (uH (hk a ha).1 (hk a ha).2 (hk b hb).1 (hk b hb).2 (iW.mp e1))
theorem aom(ls:List Str)(R:List Rl):C8 ((("row" : Str),ls)::R)=(ls.map fun p=>(p,("letter" : Str)))++C8 R:=by
 rw [oQ,bG.2.2 (.inl rfl)];rfl
theorem aks(ls:List Str)(R:List Rl):C8 ((("marks" : Str),ls)::R)=(ls.map fun p=>(p,("mark" : Str)))++C8 R:=by
 rw [oQ,bG.2.2 (.inr (.inl rfl))];rfl
theorem uI{α:Type} : ∀ {l:List (Str×α)} {p:Str} {j:α},(l.map (·.1)).Nodup->(p,j)∈l->l.lookup p=some j
 | [],_,_,_,h=>by cases h
 | (y,t)::l,p,j,nd,h=>by
  rw [F7,T6] at nd;rw [fH]
  rcases E7.mp h with h | h
  .obtain ⟨rfl,rfl⟩:=Prod.mk.inj h
   simp
  .have:p≠y:=fun e=>nd.1 (E3.mpr ⟨_,h,e⟩)
   have e:(p==y)=false:=by simpa using this
   rw [e];exact uI nd.2 h
theorem rw_ne{w u:Str}(n:u≠w):rowsW ((u,zs)::R) w=rowsW R w:=by
 unfold rowsW;rw [iT (by simpa using n)]
theorem rw_eq{w:Str} : rowsW ((w,zs)::R) w=zs::rowsW R w:=by
 unfold rowsW;rw [iS (by simp)];rfl
noncomputable def R64 (ls:List Str) (m:Str):List Rl:=[(("marks" : Str),[m]),(("row" : Str),ls)]
structure S64(ls:List Str)(m:Str):Prop where
 l1:ls.length<=6
 nd:(m::ls).Nodup
 on:∀ p∈m::ls,∃ c,p=one c/\signB c=true
theorem prs64(ls:List Str)(m:Str):C8 (R64 ls m)=(m,("mark" : Str))::ls.map fun p=>(p,("letter" : Str)):=by
 unfold R64;rw [aks,aom,show C8 []=[] from rfl,M5];rfl
theorem fst64(ls:List Str)(m:Str):(C8 (R64 ls m)).map (·.1)=m::ls:=by
 rw [prs64,F7,f6];simp [Function.comp_def]
theorem gO(ls:List Str)(m:Str):rowsW (R64 ls m) "row"=[ls]/\rowsW (R64 ls m) "marks"=[[m]]:=by
 unfold R64;rw [rw_ne (by decide +kernel),rw_eq,rw_eq,rw_ne (by decide +kernel)];exact ⟨rfl,rfl⟩
theorem has64{w:Str}(h:w≠"marks"/\w≠"row"):hasW (R64 ls m) w=false:=by
 unfold hasW R64;rw [j9,j9,List.any_nil,Bool.or_false,decide_eq_false (fun e=>h.1 e.symm),decide_eq_false (fun e=>h.2 e.symm)];rfl
theorem S64.good(h:S64 ls m):GoodR (U0 (R64 ls m)) (ls.idxOf ·) ([m].idxOf ·) (R64 ls m):=by
 have nd:=h.nd;rw [<- fst64] at nd;have on:=h.on;rw [<- fst64] at on;have iC:=h.l1;have ndl:ls.Nodup:=(T6.mp h.nd).2;have each:∀ z∈R64 ls m,z.2.length<=6/\z.1≠("as" : Str)/\z.1≠("great" : Str):=fun z hz=>by
  simp only [R64,E7,fG,or_false] at hz
  rcases hz with rfl | rfl
  .exact ⟨by simp,(by decide +kernel:Str.ofString "marks"≠Str.ofString "as"),(by decide +kernel:Str.ofString "marks"≠Str.ofString "great")⟩
  .exact ⟨iC,(by decide +kernel:Str.ofString "row"≠Str.ofString "as"),(by decide +kernel:Str.ofString "row"≠Str.ofString "great")⟩
 refine ⟨by simp [R64],by rw [prs64];simp;lia,fun i p j hi=>?_,fun hb=>?_,fun z hz=>by have:=(each z hz).1;lia,fun z hz hw=>?_,fun z hz hw=>absurd hw (each z hz).2.2,fun z hz hw=>absurd hw (each z hz).2.1,fun z hz hw=>absurd hw (each z hz).2.1,?_,?_,fun e he=>?_,fun e he=>?_⟩
 .have hm:=N4 hi;obtain ⟨c,rfl,hc⟩:=on p (E3.mpr ⟨_,hm,rfl⟩);refine ⟨?_,fun hq=>?_,fun hf=>?_,by show 1<=1000;decide⟩
  .unfold U0;rw [uI nd hm];rfl
  .exfalso
   obtain ⟨⟨p',j'⟩,hm',e0⟩:=E3.mp hq;obtain ⟨m,qF,e⟩:=mZ.mp hm';obtain ⟨j3,e2⟩:=G1.mp hi;rw [d0,List.pairwise_map,cL] at nd;refine nd m i (by lia) j3 (by lia) ?_;rw [e,e2];exact e0
  .rw [has64 (by decide +kernel)] at hf;cases hf
 .obtain ⟨c,e,hc⟩:=on _ hb;have e1:[32]=[c]:=congrArg (fun z:Str=>z.cps.toList) e;rw [<- iW.mp e1] at hc;cases hc
 .rcases hw with hw | hw
  .exact absurd hw (each z hz).2.1
  .exact absurd hw (each z hz).2.2
 .rw [(gO ls m).1];simp;lia
 .rw [(gO ls m).2];simp
 .rw [(gO ls m).1] at he;exact agl ndl (by simpa [edges] using he)
 .rw [(gO ls m).2] at he;exact agl (by simp) (by simpa [edges] using he)
theorem S64.lets(h:S64 ls m)(hL:X9 (R64 ls m) "row" L)(hM:X9 (R64 ls m) "marks" M):L=ls/\M=[m]:=by
 unfold X9 at hL hM;rw [(gO ls m).1] at hL;rw [(gO ls m).2] at hM;refine ⟨aj7 (T6.mp h.nd).2 (gG _) hL.1 hL.2 (fun p=>?_) fun e he=>?_,aj7 (by simp) (gG _) hM.1 hM.2 (fun p=>?_) fun e he=>?_⟩
 .rw [tQ];simp
 .simpa [edges] using he
 .rw [tQ];simp
 .simpa [edges] using he
theorem kM(ls:List Str)(m p:Str):p∈C2 (R64 ls m)↔p∈m::ls:=by
 unfold C2 U7;rw [has64 (by decide +kernel),if_neg (by decide),M5,oH,fst64]
theorem S64.knownL(h:S64 ls m):(C2 (R64 ls m)).length<=1000:=by
 unfold C2 U7;rw [has64 (by decide +kernel),if_neg (by decide),M5];have h1:=tH (C8 (R64 ls m));have h2:(C8 (R64 ls m)).length=ls.length+1:=by rw [prs64];simp
 have:=h.l1
 lia
theorem aon(L M:List Str)(y:Str):(stepY (R64 ls m) L M y).length<=15:=by
 unfold stepY
 split
 .exact Nat.le_add_left 1 14
 unfold stepF;cases e:(putsL (R64 ls m) L M).lookup y with
 | none=>simp
 | some s=>
  have hm:∃ p,(p,s)∈putsL (R64 ls m) L M:=by
   generalize putsL (R64 ls m) L M=l at e
   induction l with
   | nil=>cases e
   | cons x l ih=>
    rw [fH] at e
    split at e
    .obtain rfl:=Option.some.inj e;exact ⟨x.1,O2⟩
    .obtain ⟨p,hp⟩:=ih e;exact ⟨p,N0 _ hp⟩
  obtain ⟨p,hp⟩:=hm;show s.length<=15;unfold putsL at hp
  rcases M4.mp hp with hp | hp
  .rcases M4.mp hp with hp | hp
   .rcases M4.mp hp with hp | hp
    .obtain ⟨e,_,q⟩:=E3.mp hp;rw [<- (Prod.mk.inj q).2];exact Nat.le_add_left 1 14
    .obtain ⟨e,_,q⟩:=E3.mp hp;rw [<- (Prod.mk.inj q).2];exact Nat.le_add_left 1 14
   .obtain ⟨w,_,hp⟩:=w6.mp hp;obtain ⟨e,_,q⟩:=E3.mp hp;rw [<- (Prod.mk.inj q).2];exact Nat.le_add_left 1 14
  .unfold oO at hp;obtain ⟨z,hz,q⟩:=iX.mp hp;rw [if_neg] at q
   .cases q
   .simp only [R64,E7,fG,or_false] at hz
    rcases hz with rfl | rfl
    .exact (by decide +kernel:¬ Str.ofString "marks"=Str.ofString "as")
    .exact (by decide +kernel:¬ Str.ofString "row"=Str.ofString "as")
structure Q64(ns:List Int)(L M:List Str)(R:List Rl):Prop where
 known_len:(C2 R).length<=1000
 jm:∀ p,(if p∈keysP (C8 R)++U7 R then jobG (U0 R) p else V.non)=V.str "mark"↔p∈M
 stl:∀ y,(stepY R L M y).length<=15
theorem S64.q(h:S64 ls m):Q64 [] ls [m] (R64 ls m):=by
 have nd:=h.nd;rw [<- fst64] at nd;refine ⟨h.knownL,fun p=>?_,aon _ _⟩;have hk:p∈keysP (C8 (R64 ls m))++U7 (R64 ls m)↔p∈m::ls:=kM ls m p;have mD:∀ {p j},(p,j)∈C8 (R64 ls m)->U0 (R64 ls m) p=j:=fun hm=>by
  unfold U0;rw [uI nd hm];rfl
 have hb:p∈m::ls->p≠" ":=fun hp e=>by
  obtain ⟨c,e2,hc⟩:=h.on p hp;have e1:[c]=[32]:=congrArg (fun z:Str=>z.cps.toList) (e2.symm.trans e);rw [iW.mp e1] at hc;cases hc
 by_cases hp:p∈m::ls
 .rw [if_pos (hk.mpr hp)];unfold jobG;rw [if_neg (hb hp)]
  rcases E7.mp hp with rfl | hl
  .rw [mD (j:="mark") (by rw [prs64];exact O2)]
   simp
  .rw [mD (j:="letter") (by rw [prs64];exact N0 _ (E3.mpr ⟨p,hl,rfl⟩))];refine ⟨fun e=>absurd (V.str.inj e) (by decide +kernel),fun e=>?_⟩;rw [N7.mp e] at hl;exact absurd hl (T6.mp h.nd).1
 .rw [if_neg (fun q=>hp (hk.mp q))];exact ⟨fun e=>(by cases e),fun e=>absurd (by rw [N7.mp e];exact O2) hp⟩
theorem uJ(h:∀ p∈ks,∃ c,p=one c)(c:Nat)(r:List Nat):partF false ks (c::r)=if one c∈ks then some (one c) else none:=by
 rw [gM,cT,if_neg K5]
 cases r with
 | nil=>exact bI ks c
 | cons e r=>
  rw [bJ,if_neg];intro hm;obtain ⟨d,e1⟩:=h _ hm;have e2:[c,e]=[d]:=congrArg (fun z:Str=>z.cps.toList) e1;simp at e2
theorem amw(h:∀ p∈ks,∃ c,p=one c):∀ {l:List Nat},(∀ c∈l,one c∈ks)->(cutF false ks l).1=l.length
 | [],_=>by rw [jY];rfl
 | c::l,hl=>by
  have hp:partF false ks (c::l)=some (one c):=by rw [uJ h,if_pos (hl c O2)]
  obtain ⟨rest,e1,e2,_⟩:=bK hp;have e3:l=rest:=(List.cons.inj e1).2;rw [e2,<- e3];show (cutF false ks l).1+1=_;rw [amw h fun d hd=>hl d (N0 _ hd),G6]
theorem akt(h:∀ p∈ks,∃ c,p=one c){d:Nat}{r:List Nat}(hd:one d∉ks):∀ {l:List Nat},(∀ c∈l,one c∈ks)->(cutF false ks (l++d::r)).1=l.length
 | [],_=>by
  have hp:partF false ks (d::r)=none:=by rw [uJ h,if_neg hd]
  rw [fI,dN hp];rfl
 | c::l,hl=>by
  have hp:partF false ks (c::(l++d::r))=some (one c):=by rw [uJ h,if_pos (hl c O2)]
  obtain ⟨rest,e1,e2,_⟩:=bK hp;have e3:l++d::r=rest:=(List.cons.inj e1).2;rw [List.cons_append,e2,<- e3];show (cutF false ks (l++d::r)).1+1=_;rw [akt h hd fun d hd=>hl d (N0 _ hd),G6]
noncomputable def gP (R:List Rl) (z:Str):Option Nat->Prop
 | none=>L5 (hasW R "figures") (C2 R) z
 | some n=>¬ L5 (hasW R "figures") (C2 R) z/\(cutF (hasW R "figures") (C2 R) z.cps.toList).1=n
noncomputable def optV:Option Nat->V
 | none=>.non
 | some n=>.int (n:Int)
noncomputable def optI:Option Nat->Int
 | none=>-1
 | some n=>(n:Int)
noncomputable def T64 (ls:List Str) (m:Str) (z:Str) (o:Option Nat):Prop:=match o with
 | none=>∀ c∈z.cps.toList,one c∈m::ls
 | some n=>∃ pre c r,z.cps.toList=pre++c::r/\pre.length=n/\(∀ d∈pre,one d∈m::ls)/\one c∉m::ls
theorem S64.bad(h:S64 ls m){o:Option Nat}(t:T64 ls m z o):gP (R64 ls m) z o:=by
 have ho:∀ p∈C2 (R64 ls m),∃ c,p=one c:=fun p hp=>by
  obtain ⟨c,e,_⟩:=h.on p ((kM ls m p).mp hp);exact ⟨c,e⟩
 have hf:hasW (R64 ls m) "figures"=false:=has64 (by decide +kernel);unfold gP L5;rw [hf]
 cases o with
 | none=>
  show (cutF false (C2 (R64 ls m)) z.cps.toList).1=z.length;rw [amw ho fun c hc=>(kM ls m _).mpr (t c hc),lenL]
 | some n=>
  obtain ⟨pre,c,r,hz,hl,hp,hc⟩:=t;have e:(cutF false (C2 (R64 ls m)) z.cps.toList).1=n:=by
   rw [hz,akt ho (fun q=>hc ((kM ls m _).mp q)) fun d hd=>(kM ls m _).mpr (hp d hd),hl]
  refine ⟨fun q=>?_,e⟩;have O9:=congrArg X4 hz;rw [lenL,D1,G6] at O9;rw [e] at q;lia
noncomputable def ls64 (ns:List Int) (n:Nat):List Str:=(k4 n).map fun k:Nat=>P5 ns (k:Int)
theorem ard(ns:List Int)(k:Int):∃ c,P5 ns k=one c/\signB c=true:=⟨_,rfl,(akr ns k).2⟩
theorem amx(hn:n<=6):S64 (ls64 ns n) (P5 ns 10):=by
 have e:((10:Int)::(k4 n).map fun k:Nat=>(k:Int)).map (P5 ns)=P5 ns 10::ls64 ns n:=by
  unfold ls64;simp [Function.comp_def]
 refine ⟨by unfold ls64;simpa using hn,?_,fun p hp=>?_⟩
 .rw [<- e];refine arc (fun k hk=>?_) ?_
  .rcases E7.mp hk with rfl | hk
   .decide
   .obtain ⟨j,hj,rfl⟩:=E3.mp hk
    have:=aT.mp hj
    lia
  .refine T6.mpr ⟨fun h=>?_,?_⟩
   .obtain ⟨j,hj,e⟩:=E3.mp h
    have:=aT.mp hj
    lia
   .rw [d0,List.pairwise_map];exact List.Pairwise.imp (fun h e=>h (by lia)) (d0.mp List.nodup_range)
 .rw [<- e] at hp;obtain ⟨k,_,rfl⟩:=E3.mp hp;exact ard ns k
theorem aku(ns:List Int)(hn:n<=6):one (sgnF ns 20)∉P5 ns 10::ls64 ns n:=fun h=>by
 have e:((10:Int)::(k4 n).map fun k:Nat=>(k:Int)).map (P5 ns)=P5 ns 10::ls64 ns n:=by
  unfold ls64;simp [Function.comp_def]
 rw [<- e] at h;obtain ⟨k,hk,e2⟩:=E3.mp h;have e3:sgnF ns k=sgnF ns 20:=iW.mp (congrArg (fun z:Str=>z.cps.toList) e2)
 rcases E7.mp hk with rfl | hk
 .have:=uH (by decide) (by decide) (by decide) (by decide) e3;lia
 .obtain ⟨j,hj,rfl⟩:=E3.mp hk
  have:=aT.mp hj
  have:=uH (by lia) (by lia) (by decide) (by decide) e3;lia
theorem akv(h:S64 ls m):one 32∉m::ls:=fun hp=>by
 obtain ⟨c,e,hc⟩:=h.on _ hp;have e1:[32]=[c]:=congrArg (fun z:Str=>z.cps.toList) e;rw [<- iW.mp e1] at hc;cases hc
theorem agy:∀ {ps:List Str},(∀ p∈ps,∃ c,p=one c)->∃ cs:List Nat,ps=cs.map one
 | [],_=>⟨[],rfl⟩
 | p::ps,h=>by
  obtain ⟨c,rfl⟩:=h p O2;obtain ⟨cs,rfl⟩:=agy (ps:=ps) fun q hq=>h q (N0 _ hq)
  exact ⟨c::cs,rfl⟩
theorem agz:∀ ds:List Nat,flatP (ds.map one)=ds
 | []=>rfl
 | d::ds=>by
  have ih:=agz ds;show d::flatP (ds.map one)=_;rw [ih]
theorem ah2:∀ ds:List Nat,((ds.map one).map (·.length)).sum=ds.length
 | []=>rfl
 | d::ds=>by rw [F7,F7,List.sum_cons,ah2 ds,G6];exact Nat.add_comm _ _
theorem al3{j:Int}(h0:0<=j)(h1:j<n):P5 ns j∈ls64 ns n:=by
 unfold ls64;exact E3.mpr ⟨j.toNat,aT.mpr (by lia),by rw [Int.toNat_of_nonneg h0]⟩
noncomputable def spT64 (K:PySem.W.Frag):Sp:=fun vs H Q _=>∃ (a b:Addr) (c:Int) (ns cs:List Int),vs=[.ref a,.ref b,.int c]/\C7 K H a (ns.map V.int)/\C7 K H b (cs.map V.int)/\cs.length<=14/\
 ∀ t z o H',H t=none->Same H H'->H' t=some (.tup [.str z,.int (optI o)])->z.length<=15->T64 (ls64 ns (1+cellF ns 2 % 6).toNat) (P5 ns 10) z o->Q (.ref t) H'
noncomputable def spA64 (C:Addr):Sp:=fun vs H Q _=>∃ (x j ll ml md:Addr) (z z':Str) (w:Nat) (ns:List Int) (R:List Rl) (L M:List Str) (o o':Option Nat),vs=[.ref x,.str z,.str z',.int w]/\w<=4/\IsOrd C H x j ll ml md (U0 R) R L M/\Q64 ns L M R/\z.length<=300/\z'.length<=300/\gP R z o/\gP R z' o'/\
 ∀ H',Same H H'->Q (optV (if w=4 then o' else o.or o')) H'
noncomputable def spH64:Sp:=fun vs H Q _=>∃ (o:Option Nat),vs=[optV o,.int (optI o)]/\Q (.bl true) H
noncomputable def Z5 (zs:List Str):Nat:=(zs.map (·.length)).sum
theorem al4(h:zs[i]?=some z):Z5 (zs.take (i+1))=Z5 (zs.take i)+z.length:=by
 unfold Z5;rw [L4 h,E1,List.sum_append]
 simp
noncomputable def t8 (zs:List Str) (n:Nat):List Int:=(k4 n).map fun k=>((Z5 (zs.take k):Nat):Int)
theorem ah3(zs:List Str)(n:Nat):t8 zs (n+1)=t8 zs n++[((Z5 (zs.take n):Nat):Int)]:=by
 unfold t8;rw [List.range_succ,E1];rfl
theorem uK(zs:List Str)(n:Nat):(t8 zs n).length=n:=by unfold t8;rw [A2,List.length_range]
theorem uL(zs:List Str)(h:k<n):(t8 zs n)[k]?=some ((Z5 (zs.take k):Nat):Int):=by
 unfold t8;rw [P6,List.getElem?_range h];rfl
noncomputable def uM (K:PySem.W.Frag):Sp:=fun vs H Q _=>∃ (a:Addr) (zs:List Str),vs=[.ref a]/\C7 K H a (zs.map V.str)/\zs.length<=1000/\(∀ z∈zs,z.length<=1000)/\∀ l H',H l=none->Same H H'->H' l=some (.lst ((t8 zs (zs.length+1)).map V.int))->Q (.ref l) H'
noncomputable def dueB (ms zs:List Str) (i:Nat):Bool:=match zs[i]? with
 | some z=>!decide (z∈ms)
 | none=>false
noncomputable def dueL (ms zs:List Str):Nat->List Int
 | 0=>[0]
 | i+1=>if (dueB ms zs i&&decide (0<i))=true then dueL ms zs i++[((Z5 (zs.take i):Nat):Int)] else dueL ms zs i
noncomputable def dueF (ms zs:List Str):List Int:=if zs.length=0 then [0] else dueL ms zs zs.length++[((Z5 zs:Nat):Int)]
noncomputable def jntB (ms zs:List Str) (i:Nat):Bool:=decide (i=0) || decide (i=zs.length) || dueB ms zs i
noncomputable def jntL (ms zs:List Str):Nat->List Int
 | 0=>[]
 | i+1=>if jntB ms zs i=true then jntL ms zs i++[((Z5 (zs.take i):Nat):Int)] else jntL ms zs i
theorem ah4(ms zs:List Str):∀ i,(jntL ms zs i).length<=i
 | 0=>B3 _
 | i+1=>by
  unfold jntL
  have:=ah4 ms zs i
  split
  .rw [D1,V3];lia
  .lia
theorem akx(ms zs:List Str):∀ i,i<zs.length->jntL ms zs (i+1)=dueL ms zs (i+1)
 | 0,h=>by
  unfold jntL dueL;rw [if_pos (by simp [jntB]),if_neg (by simp)];rfl
 | i+1,h=>by
  have ih:=akx ms zs i (by lia);unfold jntL dueL;rw [ih];have e:jntB ms zs (i+1)=(dueB ms zs (i+1)&&decide (0<i+1)):=by
   unfold jntB;rw [decide_eq_false (by lia),decide_eq_false (by lia),decide_eq_true (by lia)]
   simp
  rw [e]
theorem aoo(ms zs:List Str):jntL ms zs (zs.length+1)=dueF ms zs:=by
 unfold dueF
 by_cases h:zs.length=0
 .rw [if_pos h,h];unfold jntL;rw [if_pos (by simp [jntB])]
  have:zs=[]:=w5.mp h
  subst this;rfl
 .rw [if_neg h];obtain ⟨n,hn⟩:∃ n,zs.length=n+1:=⟨zs.length-1,by lia⟩
  have:=akx ms zs n (by lia)
  rw [<- hn] at this;rw [jntL,if_pos (by simp [jntB]),this,K4]
theorem kA{w:Bool}{g:List Str} : ∀ (n:Nat) (l:List Nat),l.length<=n->∀ y∈(cutF w g l).2,1<=y.length
 | n,l,h=>by
  intro y hy;cases e:partF w g l with
  | none=>rw [dN e] at hy;cases hy
  | some z=>
   obtain ⟨rest,h1,h2,h3⟩:=bK e;rw [h2] at hy;have hl:z.length+rest.length=l.length:=by rw [h1,D1,lenL]
   rcases E7.mp hy with rfl | hy
   .exact h3
   .match n,h with
    | 0,h=>lia
    | n+1,h=>exact kA n rest (by lia) y hy
noncomputable def spIsJ (C:Addr):Sp:=fun vs H Q _=>∃ (x j ll ml md a:Addr) (i:Nat) (zs:List Str) (ns:List Int) (R:List Rl) (L M:List Str),vs=[.ref x,.ref a,.int i]/\IsOrd C H x j ll ml md (U0 R) R L M/\Q64 ns L M R/\H a=some (.lst (zs.map V.str))/\i<=zs.length/\Q (.bl (jntB M zs i)) H
noncomputable def Grow (U V:List C9):Prop:=U.length<=V.length/\∀ k,k+1<U.length->V[k]?=U[k]?
theorem uaj(U:List C9):Grow U U:=⟨B3 _,fun _ _=>rfl⟩
theorem Grow.trans{V:List C9}(a:Grow U V)(b:Grow V W):Grow U W:=
 ⟨E8 a.1 b.1,fun k hk=>by rw [b.2 k (P7 hk a.1),a.2 k hk]⟩
theorem aky(U:List C9)(s:Tr):Grow U (addS U s):=by
 unfold addS
 by_cases h:s.1=0
 .rw [if_pos h];unfold addM;cases e:U.getLast? with
  | none=>rw [List.getLast?_eq_none_iff.mp e];exact ⟨G2 _,fun k hk=>absurd hk (Nat.not_lt_zero _)⟩
  | some u=>
   refine ⟨by simp only [D1,List.length_dropLast,V3];lia,fun k hk=>?_⟩;rw [fB (by rw [List.length_dropLast];lia),List.getElem?_dropLast,if_pos (by lia)]
 .rw [if_neg h];exact ⟨by rw [D1];lia,fun k hk=>fB (by lia)⟩
theorem uN:∀ (ts:List Tr) (U:List C9),Grow U (ts.foldl addS U)
 | [],U=>uaj U
 | t::ts,U=>(aky U t).trans (uN ts (addS U t))
noncomputable def seenK (s:Nat) (u:C9):List (List Int):=[[u.1,u.2.1],u.2.2.1,[u.2.2.2]].take s
noncomputable def SeenAt (H:Hp) (s:Nat) (a:Addr) (u:C9):Prop:=∃ m,H m=some (.tup (u.2.2.1.map V.int))/\H a=some (.tup ([V.int u.1,V.int u.2.1,.ref m,V.int u.2.2.2].take (s+1)))
noncomputable def pA (K:PySem.W.Frag):Sp:=fun vs H Q _=>∃ (a m:Addr) (s:Nat) (u:C9),vs=[.ref a,.int s]/\s<=4/\H a=some (.tup [V.int u.1,V.int u.2.1,.ref m,V.int u.2.2.2])/\(H m=some (.lst (u.2.2.1.map V.int))\/H m=some (.tup (u.2.2.1.map V.int)))/\u.2.2.1.length<=10000/\∀ l H',H l=none->Same H H'->SeenAt H' s l u->Q (.ref l) H'
noncomputable def seenD (s:Nat) (u:C9):PyData:=.tuple ([g7 u.1,.int u.2.1,.tuple (u.2.2.1.map g7),.int u.2.2.2].take (s+1))
theorem DnAll.take{ds:List PyData}(h:DnAll K H xs ds)(n:Nat):DnAll K H (xs.take n) (ds.take n):=by
 induction n generalizing xs ds with
 | zero=>exact .nil
 | succ n ih=>
  cases h with
  | nil=>exact .nil
  | cons a b=>exact .cons a (ih b)
theorem SeenAt.dn{s:Nat}{u:C9}(h:SeenAt H s a u):Dn K H (.ref a) (seenD s u):=by
 obtain ⟨m,h1,h2⟩:=h;exact .tup (.of h2) (DnAll.take (.cons (.int _) (.cons (.int _) (.cons (.tup (.of h1) dC) (.cons (.int _) .nil)))) _)
theorem SeenAt.same{s:Nat}{u:C9}(h:SeenAt H s a u)(S:Same H H'):SeenAt H' s a u:=
 let ⟨m,h1,h2⟩:=h
 ⟨m,S _ _ h1,S _ _ h2⟩
theorem SeenAt.mod{s:Nat}{D:Addr}{u:C9}{o:HO}(h:SeenAt H s a u)(hD:H D=some (.lst xs)):SeenAt (A0 H D o) s a u:=
 let ⟨m,h1,h2⟩:=h
 ⟨m,by rw [A4 (fun e=>by rw [e,hD] at h1;cases h1)];exact h1,by rw [A4 (fun e=>by rw [e,hD] at h2;cases h2)];exact h2⟩
theorem ae2(s:Nat)(u:C9):(seenD s u).depth<=2:=by
 have hd:(PyData.tuple (u.2.2.1.map g7)).depth=1:=by rw [g6,dE]
 unfold seenD;rw [g6]
 match s with
 | 0=>simp [g4,g6]
 | 1=>simp [g4,g6]
 | 2=>simp [g4,g6,dE]
 | k+3=>simp [g4,g6,dE]
theorem ah6{s:Nat}(hs:1<=s)(u v:C9):(seenD s u).eqv (seenD s v)=decide (seenK s u=seenK s v):=by
 unfold seenD seenK;rw [cR]
 match s,hs with
 | 1,_=>simp [V6,W8]
 | 2,_=>simp [V6,W8,fV,and_assoc]
 | k+3,_=>simp [V6,W8,fV,and_assoc]
noncomputable def AlkAt (s:Nat) (U W:List C9) (k:Nat):Prop:=(U.map (seenK s))[k]?=(W.map (seenK s))[k]?
noncomputable def spCnt (K:PySem.W.Frag):Sp:=fun vs H Q _=>∃ (a b:Addr) (s n:Nat) (es:List (Addr×Addr)) (ws:List Addr) (U W:List C9),vs=[.ref a,.ref b,.int s,.int n]/\1<=s/\s<=4/\H a=some (.lst (es.map fun e=>V.ref e.1))/\Paired (UnAt H) es U/\H b=some (.lst (ws.map V.ref))/\Paired (SeenAt H s) ws W/\U.length<=10000/\W.length<=10000/\(∀ u∈U,u.2.2.1.length<=10000)/\n<=10000/\
 ∀ (n':Nat) H',Same H H'->n<=n'->(∀ k,n<=k->k<n'->AlkAt s U W k/\k+1<U.length/\k<W.length)->(n'+1<U.length->n'<W.length->¬ AlkAt s U W n')->Q (.int n') H'
theorem uag{l:Addr}{es:List (Addr×Addr)}{o:HO}(h:UnI H1 H md es U)(hl:H1 l=some (.lst xs)):UnI (A0 H1 l o) (A0 H l o) md es U:=by
 have hn:∀ a∈md::es.map (·.2),a≠l:=fun a ha e=>by
  have:=h.new a ha
  rw [e,hl] at this
  cases this
 have hH:=h.same _ _ hl;refine ⟨by rw [A4 (hn md O2)];exact h.top,?_,h.nd,fun a ha=>by rw [A4 (hn a ha)];exact h.new a ha,fun a ob ha=>?_⟩
 .refine jP h.row fun e he u q=>⟨?_,?_⟩
  .rw [A4 (fun z=>by have:=q.1;rw [z,hH] at this;cases this)];exact q.1
  .rw [A4 (hn e.2 (N0 _ (E3.mpr ⟨e,he,rfl⟩)))];exact q.2
 .by_cases z:a=l
  .rw [z,A3] at ha ⊢
   exact ha
  .rw [A4 z] at ha ⊢
   exact h.same _ _ ha
theorem agA(xs:List V):cutV xs (some (-1)) none=xs.drop (xs.length-1):=by
 unfold cutV;have e1:HT.sIx xs.length 0 (some (-1))=xs.length-1:=by
  unfold HT.sIx
  simp
  lia
 have e2:HT.sIx xs.length xs.length none=xs.length:=rfl;rw [e1,e2,X3 (by rw [j8];lia)]
theorem oS{α β:Type}{F:α->β->Prop} : ∀ {xs:List α} {ys:List β} (n:Nat),Paired F xs ys->Paired F (xs.drop n) (ys.drop n)
 | _,_,0,h=>h
 | _,_,n+1,.nil=>.nil
 | _,_,n+1,.cons _ t=>oS n t
noncomputable def Q8 (S:Str->List Tr) (zs:List Str) (f at':Nat):List C9:=N5 S ((zs.take at').drop f)
noncomputable def hitB (S:Str->List Tr) (s:Nat) (ms zs:List Str) (W:List C9) (f at':Nat):Bool:=decide ((Q8 S zs f at').map (seenK s)=W.map (seenK s))&&jntB ms zs at'
noncomputable def endsF (S:Str->List Tr) (s:Nat) (ms zs:List Str) (W:List C9) (f:Nat):Nat->List Nat
 | 0=>[]
 | i+1=>if hitB S s ms zs W f (f+i)=true then endsF S s ms zs W f i++[f+i] else endsF S s ms zs W f i
theorem ah7{f:Nat}{y:Str}(hf:f<=at')(hy:zs[at']?=some y):Q8 S zs f (at'+1)=(S y).foldl addS (Q8 S zs f at'):=by
 have hl:=(G1.mp hy).1;unfold Q8 N5;rw [L4 hy,List.drop_append_of_le_length (by rw [F9];lia),p0,p4]
 simp
theorem aop{f:Nat} : Q8 S zs f f=[]:=by
 unfold Q8;rw [fD (by rw [F9];lia)];rfl
theorem ah8{f:Nat}(hf:f<=at'):∀ {n:Nat},at'+n<=zs.length->Grow (Q8 S zs f at') (Q8 S zs f (at'+n))
 | 0,_=>uaj _
 | n+1,h=>by
  have hy:zs[at'+n]?=some (zs[at'+n]'(by lia)):=K2 _;rw [<- Nat.add_assoc,ah7 (by lia) hy];exact (ah8 hf (by lia)).trans (uN _ _)
theorem agB{S:Str->List Tr}{s:Nat}{zs:List Str}{f:Nat}(hk:k+1<(Q8 S zs f (f+i)).length)(hd:¬ AlkAt s (Q8 S zs f (f+i)) W k):∀ n,f+i+n<=zs.length+1->endsF S s ms zs W f (i+n)=endsF S s ms zs W f i
 | 0,_=>rfl
 | n+1,h=>by
  rw [<- Nat.add_assoc,endsF,if_neg,agB hk hd n (by lia)];intro q;unfold hitB at q;rw [f8,decide_eq_true_eq] at q;have g:=ah8 (S:=S) (zs:=zs) (f:=f) (at':=f+i) (by lia) (n:=n) (by lia);refine hd ?_;unfold AlkAt;rw [<- q.1,<- Nat.add_assoc,P6,P6,g.2 k hk]
theorem uO{s:Nat} : ∀ {vs:List Addr} {U:List C9},Paired (SeenAt H s) vs U->DnAll K H (vs.map V.ref) (U.map (seenD s))
 | _,_,.nil=>.nil
 | _,_,.cons h t=>.cons h.dn (uO t)
theorem aeq(s:Nat):∀ U:List C9,g4 (U.map (seenD s))<=2
 | []=>G2 _
 | u::U=>by
  have h1:=aeq s U;have h2:=ae2 s u;rw [F7,g4];lia
theorem agC{s:Nat}(hs:1<=s):∀ U W:List C9,W8 (U.map (seenD s)) (W.map (seenD s))=decide (U.map (seenK s)=W.map (seenK s))
 | [],[]=>rfl
 | [],_::_=>rfl
 | _::_,[]=>rfl
 | u::U,w::W=>by
  rw [F7,F7,W8,ah6 hs,agC hs U W,F7,F7]
  by_cases h1:seenK s u=seenK s w
  .by_cases h2:U.map (seenK s)=W.map (seenK s)
   .simp [h1,h2]
   .simp [h1,h2]
  .simp [h1]
theorem al5{s:Nat}(h:∀ k<n,AlkAt s U W k):(U.map (seenK s)).take n=(W.map (seenK s)).take n:=by
 apply List.ext_getElem?
 intro k
 by_cases hk:k<n
 .rw [List.getElem?_take_of_lt hk,List.getElem?_take_of_lt hk];exact h k hk
 .rw [List.getElem?_eq_none (by rw [F9];lia),List.getElem?_eq_none (by rw [F9];lia)]
theorem pB{S:Str->List Tr}{s:Nat}{ms zs:List Str}{W:List C9}{f:Nat} : ∀ i,(endsF S s ms zs W f i).length<=i
 | 0=>B3 _
 | i+1=>by
  have:=pB (S:=S) (s:=s) (ms:=ms) (zs:=zs) (W:=W) (f:=f) i
  unfold endsF
  split
  .rw [D1,V3];lia
  .lia
noncomputable def amy (C:Addr):Sp:=fun vs H Q _=>∃ (x j ll ml md a b:Addr) (f s:Nat) (ws:List Addr) (zs:List Str) (ns:List Int) (R:List Rl) (L M:List Str) (W:List C9),vs=[.ref x,.ref a,.int f,.ref b,.int s]/\1<=s/\s<=4/\IsOrd C H x j ll ml md (U0 R) R L M/\Q64 ns L M R/\H a=some (.lst (zs.map V.str))/\f<=zs.length/\zs.length<=500/\(∀ y∈zs,1<=y.length/\y.length<=500)/\(hasW R "figures"=true->∀ y∈zs,FigR y)/\(∀ y,(stepY R L M y).length<=15)/\H b=some (.lst (ws.map V.ref))/\Paired (SeenAt H s) ws W/\W.length<=10000/\
 ∀ l H',H l=none->Same H H'->H' l=some (.lst ((endsF (stepY R L M) s M zs W f (zs.length+1-f)).map fun n:Nat=>V.int n))->Q (.ref l) H'
noncomputable def z8 (S:Str->List Tr) (s:Nat) (ms zs:List Str) (W:List C9):Nat->List (Nat×Nat)
 | 0=>[]
 | f+1=>z8 S s ms zs W f++(if jntB ms zs f=true then (endsF S s ms zs W f (zs.length+1-f)).map fun e=>(f,e) else [])
noncomputable def W2 (zs:List Str) (i:Nat):Int:=((Z5 (zs.take i):Nat):Int)
structure IsPr(H:Hp)(l:Addr)(ps:List Addr)(zs:List Str)(P:List (Nat×Nat)):Prop where
 top:H l=some (.lst (ps.map V.ref))
 row:Paired (fun p e=>H p=some (.tup [V.int (W2 zs e.1),V.int (W2 zs e.2)])) ps P
theorem IsPr.same{l:Addr}{ps:List Addr}{P:List (Nat×Nat)}(h:IsPr H l ps zs P)(S:Same H H'):IsPr H' l ps zs P:=⟨S _ _ h.top,K7 h.row fun _ _ e=>S _ _ e⟩
theorem ah9{S:Str->List Tr}{s:Nat}{ms zs:List Str}{W:List C9}{f:Nat} : ∀ i,∀ e∈endsF S s ms zs W f i,e<f+i
 | 0,e,h=>by cases h
 | i+1,e,h=>by
  have ih:=ah9 (S:=S) (s:=s) (ms:=ms) (zs:=zs) (W:=W) (f:=f) i;unfold endsF at h
  split at h
  .rcases M4.mp h with h | h
   .have:=ih e h;lia
   .have:=N7.mp h;lia
  .have:=ih e h;lia
theorem uP{S:Str->List Tr}{s:Nat}{ms zs:List Str}{W:List C9} : ∀ f,(z8 S s ms zs W f).length<=(zs.length+1)*f
 | 0=>B3 _
 | f+1=>by
  have ih:=uP (S:=S) (s:=s) (ms:=ms) (zs:=zs) (W:=W) f;have h:=pB (S:=S) (s:=s) (ms:=ms) (zs:=zs) (W:=W) (f:=f) (zs.length+1-f);unfold z8;rw [D1,Nat.mul_succ]
  split
  .rw [A2];lia
  .rw [Z1];lia
noncomputable def uQ (s:Nat) (zs:List Str) (z z':Str) (P:List (Nat×Nat)):List (Nat×Nat):=if s<4 then P else P.filter fun e=>decide (cutS z' (some (W2 zs e.1)) (some (W2 zs e.2))=z)
noncomputable def dT (c:Nat->Nat->Bool):List Nat->List (Nat×Nat)
 | []=>[]
 | f::r=>(((f::r).filter (c f)).map fun e=>(f,e))++dT c r
theorem gQ{x:Addr}{m:Nat}{fld:Str}{v:V}(nx:H x=none)(nd:A0 H x (xm m x C) dx=none)(ne:dx≠x) :
  A0 (A0 (A0 H x (xm m x C)) x (xo m x C dx)) dx (.xd [(fld,v)]) x=some (xo m x C dx)/\Same H (U9 (A0 (A0 (A0 H x (xm m x C)) x (xo m x C dx)) dx (.xd [(fld,v)])) x)/\U9 (A0 (A0 (A0 H x (xm m x C)) x (xo m x C dx)) dx (.xd [(fld,v)])) x dx=some (.xd [(fld,v)]):=by
 rw [A4 ne] at nd;refine ⟨by rw [A4 ne.symm,A3],fun b o h=>?_,by rw [t4 ne,A3]⟩;have h1:b≠x:=Q9 h nx;rw [t4 h1,A4 (Q9 h nd),A4 h1,A4 h1];exact h
noncomputable def XN (CN:Addr) (H:Hp) (E:XK) (n:Nat):Prop:=∀ dx H',Same H H'->H' dx=some (.xd [("at",.int (n:Int))])->E (.ref CN) (some dx) H'
theorem XN.same{CN:Addr}{E:XK}(h:XN CN H E n)(S:Same H H2):XN CN H2 E n:=fun dx H' S'=>h dx H' (S.trans S')
noncomputable def uR (CN:Addr):Sp:=fun vs H Q E=>∃ (d:Addr) (z:Str) (g:List Str) (pre:List Nat) (c:Nat) (r:List Nat) (w:Bool),vs=[.ref d,.str z,.int pre.length,.bl w]/\H d=some (.dK (kvOf g))/\z.length<=1000/\z.cps.toList=pre++c::r/\(∀ y,partF w g (c::r)=some y->Q (.str y) H)/\(partF w g (c::r)=none->XN CN H E pre.length)
noncomputable def pC (K:PySem.W.Frag) (CN:Addr):Sp:=fun vs H Q E=>∃ (a:Addr) (z:Str) (ks:List Str) (w:Bool),vs=[.ref a,.str z,.bl w]/\C7 K H a (ks.map V.str)/\ks.length<=1000/\z.length<=1000/\
 (L5 w ks z->∀ l H',H l=none->Same H H'->H' l=some (.lst ((cutF w ks z.cps.toList).2.map V.str))->Q (.ref l) H')/\(¬ L5 w ks z->XN CN H E (cutF w ks z.cps.toList).1)
noncomputable def kN (C CN:Addr):Sp:=fun vs H Q E=>∃ (x j ll ml md:Addr) (z:Str) (g:Str->Str) (R:List Rl) (L M:List Str),vs=[.ref x,.str z]/\IsOrd C H x j ll ml md g R L M/\(C2 R).length<=1000/\z.length<=1000/\
 (L5 (hasW R "figures") (C2 R) z->∀ l H',H l=none->Same H H'->H' l=some (.lst ((cutF (hasW R "figures") (C2 R) z.cps.toList).2.map V.str))->Q (.ref l) H')/\(¬ L5 (hasW R "figures") (C2 R) z->XN CN H E (cutF (hasW R "figures") (C2 R) z.cps.toList).1)
noncomputable def pD (C CN:Addr):Sp:=fun vs H Q E=>∃ (x j ll ml md:Addr) (z:Str) (g:Str->Str) (R:List Rl) (L M:List Str),vs=[.ref x,.str z]/\IsOrd C H x j ll ml md g R L M/\(C2 R).length<=1000/\z.length<=500/\(∀ y,(stepY R L M y).length<=15)/\
 (L5 (hasW R "figures") (C2 R) z->∀ l H',H l=none->Same H H'->IsUn H' l (N5 (stepY R L M) (cutF (hasW R "figures") (C2 R) z.cps.toList).2)->Q (.ref l) H')/\(¬ L5 (hasW R "figures") (C2 R) z->XN CN H E (cutF (hasW R "figures") (C2 R) z.cps.toList).1)
noncomputable def uS (C CN:Addr):Sp:=fun vs H Q E=>∃ (x j ll ml md:Addr) (z:Str) (g:Str->Str) (R:List Rl) (L M:List Str),vs=[.ref x,.str z]/\IsOrd C H x j ll ml md g R L M/\(C2 R).length<=1000/\z.length<=500/\(∀ y,(stepY R L M y).length<=15)/\
 (L5 (hasW R "figures") (C2 R) z->∀ l H',H l=none->Same H H'->IsLooks H' l (z0 (hasW R "behind") (N5 (stepY R L M) (cutF (hasW R "figures") (C2 R) z.cps.toList).2) z)->Q (.ref l) H')/\(¬ L5 (hasW R "figures") (C2 R) z->XN CN H E (cutF (hasW R "figures") (C2 R) z.cps.toList).1)
noncomputable def kO (C CN:Addr):Sp:=fun vs H Q E=>∃ (x j ll ml md:Addr) (z z':Str) (n:Nat) (g:Str->Str) (R:List Rl) (L M:List Str),vs=[.ref x,.str z,.str z',.int n]/\n<=4/\IsOrd C H x j ll ml md g R L M/\(C2 R).length<=1000/\z.length<=500/\z'.length<=500/\(∀ y,(stepY R L M y).length<=15)/\
 (L5 (hasW R "figures") (C2 R) z->L5 (hasW R "figures") (C2 R) z'->∀ H',Same H H'->Q (.int (cmpF n (uF R L M z) (uF R L M z'))) H')/\(¬ L5 (hasW R "figures") (C2 R) z->XN CN H E (cutF (hasW R "figures") (C2 R) z.cps.toList).1)/\(L5 (hasW R "figures") (C2 R) z->¬ L5 (hasW R "figures") (C2 R) z'->XN CN H E (cutF (hasW R "figures") (C2 R) z'.cps.toList).1)
noncomputable def uT (C CN:Addr):Sp:=fun vs H Q E=>∃ (x j ll ml md:Addr) (z:Str) (ns:List Int) (R:List Rl) (L M:List Str),vs=[.ref x,.str z]/\IsOrd C H x j ll ml md (U0 R) R L M/\Q64 ns L M R/\z.length<=500/\
 (L5 (hasW R "figures") (C2 R) z->∀ l H',H l=none->Same H H'->H' l=some (.lst ((dueF M (cutF (hasW R "figures") (C2 R) z.cps.toList).2).map V.int))->Q (.ref l) H')/\(¬ L5 (hasW R "figures") (C2 R) z->XN CN H E (cutF (hasW R "figures") (C2 R) z.cps.toList).1)
noncomputable def kP (C CN:Addr):Sp:=fun vs H Q E=>∃ (x j ll ml md:Addr) (z z':Str) (s:Nat) (ns:List Int) (R:List Rl) (L M:List Str),vs=[.ref x,.str z,.str z',.int s]/\1<=s/\s<=4/\IsOrd C H x j ll ml md (U0 R) R L M/\Q64 ns L M R/\z.length<=300/\z'.length<=300/\
 (L5 (hasW R "figures") (C2 R) z->L5 (hasW R "figures") (C2 R) z'->∀ l ps H',H l=none->Same H H'->IsPr H' l ps (cutF (hasW R "figures") (C2 R) z'.cps.toList).2 (uQ s (cutF (hasW R "figures") (C2 R) z'.cps.toList).2 z z' (z8 (stepY R L M) s M (cutF (hasW R "figures") (C2 R) z'.cps.toList).2 (N5 (stepY R L M) (cutF (hasW R "figures") (C2 R) z.cps.toList).2) ((cutF (hasW R "figures") (C2 R) z'.cps.toList).2.length+1)))->Q (.ref l) H')/\(¬ L5 (hasW R "figures") (C2 R) z->XN CN H E (cutF (hasW R "figures") (C2 R) z.cps.toList).1)/\(L5 (hasW R "figures") (C2 R) z->¬ L5 (hasW R "figures") (C2 R) z'->XN CN H E (cutF (hasW R "figures") (C2 R) z'.cps.toList).1)
section
variable {P:Program} {w:World} {K:PySem.W.Frag} {mg:Str->Option Value} {base:Heap} {C:Addr} {C_NoSign:Addr}
theorem adt:FnScope ["self", "at"] ["self", "at"] (B1 bL):=F8
abbrev VS(N:List Str)(s:Stmt)(x:Str)(n:Nat):Prop:=∀ {X:Cx} {pos:Pos},X.N=N->X.env.scope=B1 s->QE X (.Name x pos) (tVar n)
theorem vq{s:Stmt}{x:Str}(h:(decide (N[n]?=some x)&&visB (B1 s) x && !(x==("__debug__" : Str)) && !(x==("__classdict__" : Str)))=true:=by decide +kernel):VS N s x n:=fun hN hs=>qvd hN hs h
theorem vi{s:Stmt}{x:Str}{pos:Pos}(h:VS N s x n)(h1:X.N=N:=by rfl)(h2:X.env.scope=B1 s:=by rfl):QE X (.Name x pos) (tVar n):=h h1 h2
abbrev LS(s:Stmt)(x:Str):Prop:=k9 (B1 s) x
theorem lq{s:Stmt}{x:Str}(h:(B1 s).names.lookup x=some .local\/(B1 s).names.lookup x=some .cell:=by decide +kernel):LS s x:=h
abbrev acp:List Str:=["self", "at"]
theorem vaa:VS acp bL "self" 0:=vq
theorem vab:VS acp bL "at" 1:=vq
theorem adu(F:FunD K "__init__" "NoSign.__init__" bL f fd)(T:Txt P w K mg C C_NoSign):FnOk P w K mg base E4 1 f fd ["self", "at"] (dP K C_NoSign "at"):=by
 refine F.ok adt ?_ ?_
 .rintro _ _ _ _ ⟨m,x,i,f,rfl,_⟩;rfl
 .intro cdv A outer s H vs Q E hr h;have C5:=hu_of hr;have hu:=hr.units;obtain ⟨aL,mL,NL⟩:=T.lore;refine ⟨_,QSs.out (A9 (R7 (aoa NL mL (vi vaa) (aiJ N3 (aob (vi vab))) (K:=K)))
   (A8 (aoc (vi vaa) (vi vab) (K:=K)))),?_⟩
  obtain ⟨m,x,i,f,rfl,hx,M,n,hi,q⟩:=h;walk_at "rd";exact ⟨by decide,hi,fun z hz=>⟨by lia,fun z2=>⟨m,C_NoSign,hx,⟨f,M⟩,m,C_NoSign,hx,⟨f,M⟩,n,q⟩⟩⟩
theorem sc_told:FnScope ["rows", "seen", "row", "piece"] ["rows"] (B1 t5):=F8
abbrev pE:List Str:=["rows", "seen", "row", "piece"]
theorem vac:VS pE t5 "rows" 0:=vq
theorem vad:VS pE t5 "seen" 1:=vq
theorem vae:VS pE t5 "row" 2:=vq
theorem vaf:VS pE t5 "piece" 3:=vq
theorem vag:LS t5 "seen":=lq
theorem vah:LS t5 "row":=lq
theorem vai:LS t5 "piece":=lq
theorem aoq(F:FunD K "told" "told" t5 f fd)(T:Txt P w K mg C C_NoSign):FnOk P w K mg base E4 1 f fd ["rows"] amr:=by
 refine F.ok sc_told ?_ ?_
 .rintro _ _ _ _ ⟨a,rs,zss,rfl,_⟩;rfl
 .intro cdv A outer s H vs Q E hr h;have C5:=hu_of hr;have hu:=hr.units;refine ⟨_,QSs.out (A9 (D8 (n:=1) sc_told.nd rfl vag gA)
   (A9 (P1 PassesOwn.never (O5 (K:=K) (vi vac)) (D0 (n:=2) sc_told.nd rfl vah (.inl rfl)) (A8 (P1 PassesOwn.never (O5 (K:=K) (vi vae)) (D0 (n:=3) sc_told.nd rfl vai (.inl rfl)) (A8 (x9 C5 (vi vad) (vi vaf) qe_bl)))))
   (A8 (E2 (qe_cT (gE (K:=K) (calm:=true)) T.b_list fX (qa_c (vi vad) A1)))))),?_⟩
  obtain ⟨a,rs,zss,rfl,hR,hz,q⟩:=h;walk_at "rd";intro d nd;have hlz:∀ n:Nat,n<=100000->n<sizeLine:=fun n h=>K0 (by lia)
  refine ⟨⟨_,.of (D6 hR.top nd)⟩,forL (xs:=rs.map V.ref) (fun i Y H2=>∃ (u v:Option V),Y=[some (.ref a),some (.ref d),u,v]/\Same H H2/\H2 d=some (.dK (kvOf (toldL (zss.take i)))))
   ⟨none,none,rfl,Same.new nd,by rw [A3];rfl⟩ (by rintro i Y H2 _ ⟨_,_,_,S,_⟩;exact .of (S _ _ hR.top)) ?_ ?_⟩
  .rintro i x Y H2 hx ⟨u,v,rfl,S,hd⟩;obtain ⟨r,hr,rfl⟩:=G7 hx;obtain ⟨zs,iH,C6⟩:=Paired.at hR.row hr;have hcount:(toldL (zss.take i)).length+zs.length<=100000:=by
    have h1:zss.take (i+1)=zss.take i++[zs]:=by rw [j7,iH];rfl
    have h2:=jO (zss.take i);have h3:(zss.take (i+1)).flatten.length<=zss.flatten.length:=by
     conv=>rhs;rw [<- j6 (i+1) zss]
     rw [List.flatten_append,D1];lia
    rw [h1,List.flatten_append,D1] at h3;simp at h3;simp at h2 hz h3 ⊢
    lia
   walk_at "rd";refine ⟨⟨_,.of (S _ _ C6)⟩,forL (xs:=zs.map V.str) (fun j Y H3=>∃ (v:Option V),Y=[some (.ref a),some (.ref d),some (.ref r),v]/\Same H H3/\H3 d=some (.dK (kvOf (G3 (toldL (zss.take i)) (zs.take j)))))
    ⟨v,rfl,S,hd⟩ (by rintro j Y H3 _ ⟨_,_,S3,_⟩;exact .of (S3 _ _ C6)) ?_ ?_⟩
   .rintro j y Y H3 hy ⟨v,rfl,S3,X2⟩;obtain ⟨z,cC,rfl⟩:=G7 hy;walk_at "rd";refine ⟨_,bD (k:=Sum.inr z) X2 ?_,S3.put nd,?_⟩
    .unfold kvOf;rw [A2];refine hlz _ ?_
     have:=jN (zs.take j) (toldL (zss.take i))
     rw [F9] at this;lia
    .rw [A3,afZ,alo cC]
   .rintro Y H3 ⟨v,rfl,S3,X2⟩;walk_at "rd";refine ⟨S3,?_⟩;rw [X2,ajw iH,A2,K4]
  .rintro Y H2 ⟨u,v,rfl,S,hd⟩;walk_at "rd";refine rListR.d (.of hd) fun l nl=>?_
   refine q l _ (S.free nl) (fun b o h=>D6 (S b o h) nl) ?_;rw [A3,ajx,A2];rw [show rs.length=zss.length from Paired.length hR.row,K4]
theorem sc_followers:FnScope ["rows", "after", "piece", "row", "one", "other"] ["rows"] (B1 Y0):=F8
abbrev gR:List Str:=["rows", "after", "piece", "row", "one", "other"]
theorem vaj:VS gR Y0 "rows" 0:=vq
theorem uU:VS gR Y0 "after" 1:=vq
theorem vam:VS gR Y0 "piece" 2:=vq
theorem van:VS gR Y0 "row" 3:=vq
theorem vao:VS gR Y0 "one" 4:=vq
theorem vap:VS gR Y0 "other" 5:=vq
theorem vaq:LS Y0 "after":=lq
theorem var:LS Y0 "piece":=lq
theorem vas:LS Y0 "row":=lq
theorem vat:LS Y0 "one":=lq
theorem vau:LS Y0 "other":=lq
theorem agD(F:FunD K "followers" "followers" Y0 f fd)(T:Txt P w K mg C C_NoSign)(G_told:FO P w K mg base 1 "told" ["rows"] [] amr):FnOk P w K mg base E4 2 f fd ["rows"] spFol:=by
 refine F.ok sc_followers ?_ ?_
 .rintro _ _ _ _ ⟨a,rs,zss,rfl,_⟩;rfl
 .intro cdv A outer s H vs Q E hr h;have C5:=hu_of hr;have hu:=hr.units;refine ⟨_,QSs.out (A9 (D8 (n:=1) sc_followers.nd rfl vaq gA)
   (A9 (P1 PassesOwn.never (O5 (K:=K) (D7 G_told (hm hr) (qa_c (vi vaj) A1))) (D0 (n:=2) sc_followers.nd rfl var (.inl rfl)) (A8 (x9 C5 (vi uU) (vi vam) (T8 A1))))
   (A9 (P1 PassesOwn.never (O5 (K:=K) (vi vaj)) (D0 (n:=3) sc_followers.nd rfl vas (.inl rfl)) (A8 (P1 PassesOwn.never (aqJ T.b_zip (qa_c (vi van) (qa_c (Q5 (K:=K) (vi van) (M3 A5) Z3) A1))) (q5 (K:=K) (n:=2) (P9 ((D0 (n:=4) sc_followers.nd rfl vat (.inl rfl))) (P9 ((D0 (n:=5) sc_followers.nd rfl vau (.inl rfl))) p9))) (A8 (R7 (qe_mB (K:=K) W7 g3 g0 i6 (l9 C5 (vi uU) (vi vao)) (qa_c (vi vap) A1)))))))
   (A8 (E2 (vi uU)))))),?_⟩
  obtain ⟨a,rs,zss,rfl,hR,hz,q⟩:=h;walk_at "rd";intro d nd;have S0:Same H (A0 H d (.dK [])):=Same.new nd;refine ⟨a,rs,zss,rfl,hR.same S0,hz,fun l H1 nl S1 hl=>?_⟩;have mE:H1 d=some (.dK []):=S1 _ _ A3;have S01:=S0.trans S1;have A6:(toldL zss).length<=100000:=E8 (jO zss) hz;have tnd:=gG zss;refine ⟨l,rfl,⟨_,.of hl⟩,forL (xs:=(toldL zss).map V.str) (fun i Y H2=>∃ (u v w x:Option V) (ad:Str->Addr),Y=[some (.ref a),some (.ref d),u,v,w,x]/\SameBut d H1 H2/\H2 d=some (.dK (C1 ((toldL zss).take i) fun t=>.ref (ad t)))/\DL H1 H2 ((toldL zss).take i) ad fun _=>[])
   ⟨none,none,none,none,fun _=>0,rfl,uac _ _,mE,⟨fun t h=>by simp at h,fun t h=>by simp at h,fun t h=>by simp at h⟩⟩ (fun i Y H2 _ ⟨_,_,_,_,_,_,S,_⟩=>.of (S _ _ (fun e=>by rw [e,mE] at hl;cases hl) hl)) ?_ ?_⟩
  .rintro i x Y H2 hx ⟨u,v,w,y,ad,rfl,S,hd,dl⟩;obtain ⟨z,hk,rfl⟩:=G7 hx;have hi:i<(toldL zss).length:=(G1.mp hk).1;have R4:=tG tnd hk;walk_at "rd";refine fun p np=>⟨_,bD (k:=Sum.inr z) (D6 hd np) (by rw [m5,F9];exact K0 (by lia)),?_⟩
   have n1:H1 p=none:=S.free np (fun e=>by rw [e,hd] at np;cases np);refine ⟨(S.put n1).at,fun t=>if t=z then p else ad t,?_,?_⟩
   .rw [A3,dJ _ R4,L4 hk];have e:(fun t=>if t=z then V.ref p else V.ref (ad t))=fun t=>V.ref (if t=z then p else ad t):=by funext t;split <;> rfl
    rw [e]
   .rw [L4 hk];exact ((dl.more R4 np n1).congr fun t _=>by split <;> rfl).put mE
  .rintro Y H2 ⟨u,v,w,y,ad,rfl,S,hd,dl⟩;rw [A2,K4] at hd dl;have S2:Same H H2:=S.same S01 nd;walk_at "rd";have dl0:DL H H2 (toldL zss) ad fun _=>[]:=dl.old S01
   refine ⟨⟨_,.of (S2 _ _ hR.top)⟩,forL (xs:=rs.map V.ref) (fun i Y H3=>∃ (v w x:Option V),Y=[some (.ref a),some (.ref d),u,v,w,x]/\Same H H3/\H3 d=some (.dK (C1 (toldL zss) fun t=>.ref (ad t)))/\DL H H3 (toldL zss) ad (E5 (edges (zss.take i))))
    ⟨v,w,y,rfl,S2,hd,dl0⟩ (by rintro i Y H3 _ ⟨_,_,_,_,S,_⟩;exact .of (S _ _ hR.top)) ?_ ?_⟩
   .rintro i x Y H3 hx ⟨v,w,y,rfl,S3,X2,v8⟩;obtain ⟨r,hr,rfl⟩:=G7 hx;obtain ⟨zs,iH,C6⟩:=Paired.at hR.row hr;have cD:=S3 _ _ C6;have J8:∀ x∈zs,x∈toldL zss:=fun x hx=>(tE _ _).mpr (List.mem_flatten.mpr ⟨zs,N4 iH,hx⟩)
    walk_at "rd";refine rSlR.l (.of cD) fun p np=>?_
    have ecut:cutV (zs.map V.str) (some 1) none=zs.tail.map V.str:=by
     have:=dI (zs.map V.str) 1
     rw [show ((1:Nat):Int)=1 from rfl] at this;rw [this,<- W6,List.drop_one]
    rw [ecut];have mF:H p=none:=S3.free np;have nad:∀ t∈toldL zss,ad t≠p:=fun t ht e=>by have:=v8.row t ht;rw [e,np] at this;cases this
    have nadr:∀ t∈toldL zss,ad t≠r:=fun t ht e=>by have:=v8.new t ht;rw [e,C6] at this;cases this
    have ndp:d≠p:=fun e=>by rw [<- e,X2] at np;cases np
    have nadd:∀ t∈toldL zss,ad t≠d:=fun t ht e=>by have:=v8.row t ht;rw [e,X2] at this;cases this
    refine ⟨p,rfl,⟨_,D6 cD np⟩,⟨_,A3⟩,forZ (xs:=zs.map V.str) (ys:=zs.tail.map V.str) (fun j Y H4=>∃ (w x:Option V),Y=[some (.ref a),some (.ref d),u,some (.ref r),w,x]/\Same H H4/\H4 p=some (.lst (zs.tail.map V.str))/\H4 d=some (.dK (C1 (toldL zss) fun t=>.ref (ad t)))/\DL H H4 (toldL zss) ad (E5 (edges (zss.take i)++(T9 zs).take j)))
     ⟨w,y,rfl,S3.put mF,A3,D6 X2 np,?_⟩ (by rintro j Y H4 ⟨_,_,_,S,hp,_⟩;exact ⟨S _ _ C6,hp⟩) ?_ ?_⟩
    .rw [w8,M5];exact v8.same (Same.new np)
    .rintro j xv yv t Y H4 hxv hyv ⟨w,v,rfl,S4,cE,Y5,iI⟩ nt;obtain ⟨x,hx,rfl⟩:=G7 hxv;obtain ⟨y,hy,rfl⟩:=G7 hyv;have iJ:=J8 x (N4 hx);have nt0:H t=none:=S4.free nt;have hlx:=iI.row x iJ;have hE:(T9 zs)[j]?=some (x,y):=af8 hx hy;walk_at "rd";refine ⟨_,.of A3,rfl,_,_,rfl,_,_,rfl,rfl,V.ref (ad x),.inl ⟨_,Sum.inr x,.inl (D6 Y5 nt),rfl,by rw [Q6,if_pos iJ]⟩,V9 (D6 hlx nt),appOk (D6 hlx nt) ?_ ⟨(S4.put nt0).put (iI.new x iJ),?_,?_,?_⟩⟩
     .rw [A2];refine K0 ?_;have h1:(E5 (edges (zss.take i)++(T9 zs).take j) x).length<=(edges (zss.take i)++(T9 zs).take j).length:=by
       unfold E5;rw [A2];exact List.length_filter_le _ _
      have h2:=af9 (zss.take i);have h3:(zss.take i).flatten.length<=zss.flatten.length:=by
       conv=>rhs;rw [<- j6 i zss]
       rw [List.flatten_append,D1];lia
      have h4:zs.length<=zss.flatten.length:=List.Sublist.length_le (List.sublist_flatten_of_mem (N4 iH));rw [D1,F9,tF] at h1;lia
     .rw [A4 (nad x iJ).symm];exact D6 cE nt
     .rw [A4 (nadd x iJ).symm];exact D6 Y5 nt
     .have h1:=(iI.same (Same.new (u:=.tup [V.str x,V.str y]) nt)).app iJ (E5 (edges (zss.take i)++(T9 zs).take j) x++[y]);rw [E1] at h1;refine h1.congr fun t _=>?_
      rw [L4 hE,<- Z0,alB]
      by_cases e:t=x
      .rw [if_pos e,if_pos e.symm,e]
      .rw [if_neg e,if_neg (fun z=>e z.symm)]
    .rintro Y H4 ⟨w,x,rfl,S4,cE,Y5,iI⟩;walk_at "rd";refine ⟨S4,Y5,?_⟩;rw [ait iH];rw [X3 (l:=T9 zs) (by rw [tF,A2,A2];exact B3 _)] at iI;exact iI
   .rintro Y H3 ⟨v,w,y,rfl,S3,X2,v8⟩;rw [A2,show rs.length=zss.length from Paired.length hR.row,K4] at v8;walk_at "rd";exact q d ad H3 nd S3 X2 v8
theorem sc_count_ahead:FnScope ["after", "ahead", "piece", "other"] ["after"] (B1 t6):=F8
abbrev pF:List Str:=["after", "ahead", "piece", "other"]
theorem uV:VS pF t6 "after" 0:=vq
theorem uW:VS pF t6 "ahead" 1:=vq
theorem vax:VS pF t6 "piece" 2:=vq
theorem vay:VS pF t6 "other" 3:=vq
theorem vaz:LS t6 "ahead":=lq
theorem vaA:LS t6 "piece":=lq
theorem vaB:LS t6 "other":=lq
theorem aey(F:FunD K "count_ahead" "count_ahead" t6 f fd)(T:Txt P w K mg C C_NoSign):FnOk P w K mg base E4 1 f fd ["after"] ajN:=by
 refine F.ok sc_count_ahead ?_ ?_
 .rintro _ _ _ _ ⟨d,ts,ad,E,rfl,_⟩;rfl
 .intro cdv A outer s H vs Q E hr h;have C5:=hu_of hr;have hu:=hr.units;refine ⟨_,QSs.out (A9 (D8 (n:=1) sc_count_ahead.nd rfl vaz gA)
   (A9 (sY PassesOwn.never (vi uV) (D0 (n:=2) sc_count_ahead.nd rfl vaA (.inl rfl)) (A8 (x9 C5 (vi uW) (vi vax) A5)))
   (A9 (sY PassesOwn.never (vi uV) (D0 (n:=2) sc_count_ahead.nd rfl vaA (.inl rfl)) (A8 (P1 PassesOwn.never (O5 (K:=K) (l9 C5 (vi uV) (vi vax))) (D0 (n:=3) sc_count_ahead.nd rfl vaB (.inl rfl)) (A8 (ajA C5 (vi uW) (vi vay) A5 aqB)))))
   (A8 (E2 (vi uW)))))),?_⟩
  obtain ⟨d,ts,ad,E,rfl,hd,tnd,A6,hElen,C6,hE,q⟩:=h;walk_at "rd";intro c nc;have ndc:d≠c:=fun e=>by rw [e,nc] at hd;cases hd
  refine ⟨_,D6 hd nc,fun o=>forD (fun i Y H2=>∃ (u v:Option V),Y=[some (.ref d),some (.ref c),u,v]/\H2 d=some (.frz o (.dK (C1 ts fun t=>.ref (ad t))))/\SameBut d H H2/\H2 c=some (.dK (C1 (ts.take i) fun _=>.int 0)))
   ⟨none,none,rfl,A3,(SameBut.put (uac _ _) nc).at,by rw [A4 ndc.symm,A3];rfl⟩ (by rintro i Y H2 ⟨_,_,_,h,_⟩;exact h) ?_ ?_⟩
  .rintro i k v Y H2 hk ⟨u,w,rfl,hf,S,hc⟩;obtain ⟨t,ht,rfl,rfl⟩:=amo hk;have hi:i<ts.length:=(G1.mp ht).1;walk_at "rd";refine ⟨_,bD (k:=Sum.inr t) hc (by rw [m5,F9];exact K0 (by lia)),?_,S.put nc,?_⟩
   .rw [A4 ndc];exact hf
   .rw [A3,dJ _ (tG tnd ht),L4 ht];exact congrArg (fun x=>some (HO.dK x)) (U6 fun t _=>by split <;> rfl)
  .rintro Y H2 ⟨u,w,rfl,hf,S,hc⟩;rw [m5,K4] at hc;have S2:Same H (A0 H2 d (.dK (C1 ts fun t=>.ref (ad t)))):=S.thaw hd;have R3:A0 H2 d (.dK (C1 ts fun t=>.ref (ad t))) d=some (.dK (C1 ts fun t=>.ref (ad t))):=A3;have W4:A0 H2 d (.dK (C1 ts fun t=>.ref (ad t))) c=some (.dK (C1 ts fun _=>.int 0)):=by rw [A4 ndc.symm];exact hc
   generalize A0 H2 d (.dK (C1 ts fun t=>.ref (ad t)))=H3 at S2 R3 W4;walk_at "rd";refine ⟨_,R3,fun o=>forD (fun i Y H4=>∃ (u v:Option V),Y=[some (.ref d),some (.ref c),u,v]/\H4 d=some (.frz o (.dK (C1 ts fun t=>.ref (ad t))))/\SameBut d H H4/\H4 c=some (.dK (C1 ts fun t=>.int (cntIn E (ts.take i) t:Nat))))
    ⟨u,w,rfl,A3,fun b o hb h=>by rw [A4 hb];exact S2 b o h,?_⟩ (by rintro i Y H2 ⟨_,_,_,h,_⟩;exact h) ?_ ?_⟩
   .rw [A4 ndc.symm,W4];exact congrArg (fun x=>some (HO.dK x)) (U6 fun t _=>by rw [w8,ajM];rfl)
   .rintro i k v Y H4 hk ⟨u,w,rfl,hf,S4,iK⟩;obtain ⟨t,ht,rfl,rfl⟩:=amo hk;have mG:t∈ts:=N4 ht;have hl4:H4 (ad t)=some (.lst ((E5 E t).map V.str)):=S4 _ _ (fun e=>by have:=C6 t mG;rw [e,hd] at this;cases this) (C6 t mG);walk_at "rd";refine ⟨V.ref (ad t),.inl ⟨_,Sum.inr t,.inr ⟨o,hf⟩,rfl,by rw [Q6,if_pos mG]⟩,ad t,rfl,⟨_,.of hl4⟩,forL (xs:=(E5 E t).map V.str) (fun j Y H5=>∃ (v:Option V),Y=[some (.ref d),some (.ref c),some (kV (Sum.inr t)),v]/\H5 d=some (.frz o (.dK (C1 ts fun t=>.ref (ad t))))/\SameBut d H H5/\
     H5 c=some (.dK (C1 ts fun q=>.int (cntIn E (ts.take i) q+((E5 E t).take j).count q:Nat)))) ⟨w,rfl,hf,S4,by rw [iK];rfl⟩ (fun j Y H5 _ ⟨_,_,_,S5,_⟩=>.of (S5 _ _ (fun e=>by have:=C6 t mG;rw [e,hd] at this;cases this) (C6 t mG))) ?_ ?_⟩
    .rintro j v5 Y H5 xD ⟨v,rfl,xE,S5,Y6⟩;obtain ⟨y,qG,rfl⟩:=G7 xD;have cF:y∈ts:=by
      have:=N4 qG
      unfold E5 at this;obtain ⟨e,he,rfl⟩:=E3.mp this;exact (hE e (V5.mp he).1).2
     walk_at "rd";refine ⟨V.int (cntIn E (ts.take i) y+((E5 E t).take j).count y:Nat),.inl ⟨_,Sum.inr y,.inl Y6,rfl,by rw [Q6,if_pos cF]⟩,_,_,rfl,rfl,_,bD (k:=Sum.inr y) Y6 (by rw [m5];exact K0 (by lia)),?_,S5.put nc,?_⟩
     .rw [A4 ndc];exact xE
     .rw [A3,oE _ cF];refine congrArg (fun x=>some (HO.dK x)) (U6 fun q _=>?_);rw [L4 qG,List.count_append,List.count_singleton]
      by_cases e:q=y
      .rw [if_pos e,e,if_pos (by simp)];exact congrArg V.int (by lia)
      .rw [if_neg e,if_neg (by simpa using fun z:y=q=>e z.symm)];rfl
    .rintro Y H5 ⟨v,rfl,xE,S5,Y6⟩;walk_at "rd";refine ⟨xE,S5,?_⟩;rw [A2,K4] at Y6;rw [Y6];refine congrArg (fun x=>some (HO.dK x)) (U6 fun q _=>?_);rw [L4 ht,aiq (tG tnd ht)]
   .rintro Y H4 ⟨u,w,rfl,hf,S4,iK⟩;rw [m5,K4] at iK;walk_at "rd";refine q c _ nc (S4.thaw hd) ?_;rw [A4 ndc.symm,iK];exact congrArg (fun x=>some (HO.dK x)) (U6 fun t _=>by rw [ajL (fun e he=>(hE e he).1)])
theorem sc_lined_up:FnScope ["rows", "after", "ahead", "pieces", "numbers", "free", "line", "number", "other"] ["rows"] (B1 Q7):=F8
abbrev z9:List Str:=["rows", "after", "ahead", "pieces", "numbers", "free", "line", "number", "other"]
theorem vaC:VS z9 Q7 "rows" 0:=vq
theorem uX:VS z9 Q7 "after" 1:=vq
theorem vaE:VS z9 Q7 "ahead" 2:=vq
theorem kQ:VS z9 Q7 "pieces" 3:=vq
theorem vaG:VS z9 Q7 "numbers" 4:=vq
theorem pG:VS z9 Q7 "free" 5:=vq
theorem uY:VS z9 Q7 "line" 6:=vq
theorem uZ:VS z9 Q7 "number" 7:=vq
theorem vA:VS z9 Q7 "other" 8:=vq
theorem vaL:LS Q7 "after":=lq
theorem vaM:LS Q7 "ahead":=lq
theorem vaN:LS Q7 "pieces":=lq
theorem vaO:LS Q7 "numbers":=lq
theorem vaP:LS Q7 "free":=lq
theorem vaQ:LS Q7 "line":=lq
theorem vaR:LS Q7 "number":=lq
theorem vaS:LS Q7 "other":=lq
theorem ahf(F:FunD K "lined_up" "lined_up" Q7 f fd)(T:Txt P w K mg C C_NoSign)(G_followers:FO P w K mg base 2 "followers" ["rows"] [] spFol)(G_count_ahead:FO P w K mg base 1 "count_ahead" ["after"] [] ajN):FnOk P w K mg base E4 3 f fd ["rows"] ajO:=by
 refine F.ok sc_lined_up ?_ ?_
 .rintro _ _ _ _ ⟨a,rs,zss,rank,rfl,_⟩;rfl
 .intro cdv A outer s H vs Q E hr h;have C5:=hu_of hr;have hu:=hr.units;refine ⟨_,QSs.out (A9 (D8 (n:=1) sc_lined_up.nd rfl vaL (D7 G_followers (hm hr) (qa_c (vi vaC) A1)))
   (A9 (D8 (n:=2) sc_lined_up.nd rfl vaM (D7 G_count_ahead (hm hr) (qa_c (vi uX) A1)))
   (A9 (D8 (n:=3) sc_lined_up.nd rfl vaN (qe_cT (gE (K:=K) (calm:=true)) T.b_list fX (qa_c (vi uX) A1)))
   (A9 (D8 (n:=4) sc_lined_up.nd rfl vaO (qe_cT (ajI (K:=K) (calm:=true)) T.b_dict aju (qa_c (X8  (T5:CompOk ["rows", "after", "ahead", "pieces", "numbers", "free", "line", "number", "other"] (B1 Q7).names _ ["number", "piece"] 2 []) (oF T.b_enumerate (qa_c (vi kQ) A1)) (fun _ _ _ _ _=>(q5 (K:=K) (n:=2) (P9 (D0 (n:=0) (show List.Nodup (["number", "piece"]:List Str) by decide +kernel) rfl (Or.inl rfl)) (P9 (D0 (n:=1) (show List.Nodup (["number", "piece"]:List Str) by decide +kernel) rfl (Or.inl rfl)) p9)))) (fun _ _ _ _ _=>i5) (fun _ _ _ _ _=>(R0 (qa_c (qv 1) (qa_c (qv 0) A1))))) A1)))
   (A9 (jQ (n:=5) sc_lined_up.nd rfl vaP (T5:CompOk ["rows", "after", "ahead", "pieces", "numbers", "free", "line", "number", "other"] (B1 Q7).names _ ["piece", "numbers", "ahead"] 1 [4,2]) (O5 (K:=K) (vi kQ)) (fun _ _ _ _ _=>D0 (n:=0) (show List.Nodup (["piece", "numbers", "ahead"]:List Str) by decide +kernel) rfl (Or.inl rfl)) (fun _ _ _ _ _=>(dG (G5 (q_eq (K:=K) hu) (l9 C5 (qv 2) (qv 0)) A5))) (fun _ _ _ _ _=>(l9 C5 (qv 1) (qv 0))))
   (A9 (D8 (n:=6) sc_lined_up.nd rfl vaQ (T8 A1))
   (A9 (nV PassesOwn.never (X0 (K:=K) (vi pG)) (A9 (D8 (n:=7) sc_lined_up.nd rfl vaR (qe_cB (aqS (calm:=true)) T.b_min amh (qa_c (vi pG) A1)))
   (A9 (R7 (qe_mB (K:=K) W7 PySem.F.slot_list_remove PySem.F.type_list_remove ajZ (vi pG) (qa_c (vi uZ) A1)))
   (A9 (R7 (qe_mB (K:=K) W7 g3 g0 i6 (vi uY) (qa_c (qe_ix (K:=K) (vi kQ) (vi uZ)) A1)))
   (A8 (P1 PassesOwn.never (O5 (K:=K) (l9 C5 (vi uX) (qe_ix (K:=K) (vi kQ) (vi uZ)))) (D0 (n:=8) sc_lined_up.nd rfl vaS (.inl rfl)) (A9 (ajA C5 (vi vaE) (vi vA) A5 aqC)
   (A8 (qs_if (G5 (q_eq (K:=K) hu) (l9 C5 (vi vaE) (vi vA)) A5) (A8 (R7 (qe_mB (K:=K) W7 g3 g0 i6 (vi pG) (qa_c (l9 C5 (vi vaG) (vi vA)) A1)))) M9)))))))))
   (A9 (qs_if (G5 q_lt (qe_cB (q_len (K:=K)) T.b_len T7 (qa_c (vi uY) A1)) (qe_cB (q_len (K:=K)) T.b_len T7 (qa_c (vi kQ) A1))) (A8 sR) M9)
   (A8 (E2 (vi uY))))))))))),?_⟩
  obtain ⟨a,rs,zss,rank,rfl,hR,hz,o5,q⟩:=h;walk_at "rd";have A6:(toldL zss).length<=100000:=E8 (jO zss) hz;have hElen:(edges zss).length<=100000:=E8 (af9 zss) hz;have tnd:=gG zss;have etold:∀ e∈edges zss,e.1∈toldL zss/\e.2∈toldL zss:=fun e he=>ais he
  refine ⟨a,rs,zss,rfl,hR,hz,fun d ad H1 nd S1 hd dl=>?_⟩;generalize hts:toldL zss=ts at *;generalize hEE:edges zss=E at *;refine ⟨d,ts,ad,E,rfl,hd,tnd,A6,hElen,dl.row,etold,fun c H2 nc S2 hc=>?_⟩;walk_at "rd";refine rListR.d (.of (S2 _ _ hd)) fun w nw=>?_
  rw [alD];have b9:=S1.trans S2;have ncH:H c=none:=S1.free nc;have R3:=S2 _ _ hd;have ncd:c≠d:=fun e=>by rw [e,hd] at nc;cases nc
  have nac:∀ t∈ts,ad t≠c:=fun t ht e=>by have:=dl.row t ht;rw [e,nc] at this;cases this
  have qH:A0 H2 w (.lst (ts.map V.str)) w=some (.lst (ts.map V.str)):=A3;have Sw:Same H2 (A0 H2 w (.lst (ts.map V.str))):=Same.new nw;generalize A0 H2 w (.lst (ts.map V.str))=H3 at qH Sw ⊢
  have idx:∀ {i:Nat} {z:Str},ts[i]?=some z->ts.idxOf z=i:=fun {i z} h=>by
   obtain ⟨hi,rfl⟩:=G1.mp h;exact List.Nodup.idxOf_getElem tnd i hi
  refine ⟨w,rfl,⟨_,qH⟩,compE (xs:=ts.map V.str) [] rfl (fun D i ys H4=>∃ qs:List Addr,ys=qs.map V.ref/\Same H3 H4/\Paired (fun q t=>H4 q=some (.tup [.str t,.int (ts.idxOf t:Nat)])) qs (ts.take i)) (fun D nD=>⟨[],rfl,Same.new nD,.nil⟩) (by rintro D i ys H4 nD _ ⟨_,_,S,_⟩;exact S _ _ qH) ?_ ?_⟩
  .rintro D i x t ys H4 nD hi hx ⟨qs,rfl,S,P4⟩ hD hy nt;obtain ⟨z,hz,rfl⟩:=G7 hx;rw [A2] at hi hy;walk_at "rd";refine ⟨by decide,fun p np=>⟨D6 (D6 hD nt) np,by rw [A2];exact K0 (by lia),dM.put (by rw [A2];exact hi) (by rw [A2];exact hy) ⟨qs++[p],by rw [E1];rfl,((S.trans (Same.new nt)).trans (Same.new np)).put nD,?_⟩⟩⟩;rw [L4 hz];refine Paired.snoc (K7 P4 fun q t' h=>?_) ?_
   .rw [A4 (fun e=>by rw [e,hD] at h;cases h)];exact D6 (D6 h nt) np
   .rw [A4 (fun e=>by rw [e,D6 hD nt] at np;cases np),A3,idx hz]
  rintro D ys H4 nD ⟨qs,rfl,xF,P4⟩ hD hy;rw [A2,K4] at P4;refine ⟨rfl,D,qs,_,rfl,.of hD,ahP (f:=fun t=>.int (ts.idxOf t:Nat)) P4,fun nm nnm=>?_⟩;rw [show V7 [] (C1 ts fun t=>V.int (ts.idxOf t:Nat))=C1 ts fun t=>V.int (ts.idxOf t:Nat) from agf (pre:=[]) (by simpa using tnd)];have S5:Same H2 (A0 H4 nm (.dK (C1 ts fun t=>V.int (ts.idxOf t:Nat)))):=(Sw.trans xF).trans (Same.new nnm);have aH:A0 H4 nm (.dK (C1 ts fun t=>V.int (ts.idxOf t:Nat))) w=some (.lst (ts.map V.str)):=D6 (xF _ _ qH) nnm;have xG:A0 H4 nm (.dK (C1 ts fun t=>V.int (ts.idxOf t:Nat))) nm=some (.dK (C1 ts fun t=>V.int (ts.idxOf t:Nat))):=A3;have iK:H4 c=some (.dK (C1 ts fun t=>.int (F6 E [] t:Nat))):=xF _ _ (Sw _ _ hc);have ncn:c≠nm:=fun e=>by rw [<- e,iK] at nnm;cases nnm
  generalize A0 H4 nm (.dK (C1 ts fun t=>V.int (ts.idxOf t:Nat)))=H5 at S5 aH xG ⊢
  have Y6:=S5 _ _ hc;have hd5:=S5 _ _ R3;have hV:∀ t∈ts,H5 (ad t)=some (.lst ((E5 E t).map V.str)):=fun t ht=>S5 _ _ (S2 _ _ (dl.row t ht))
  have j5:=b9.trans S5;have ncw:c≠w:=fun e=>by rw [e,aH] at Y6;cases Y6
  refine ⟨w,rfl,⟨_,.of aH⟩,compL (xs:=ts.map V.str) [some (.ref nm),some (.ref c)] rfl (fun D i ys H6=>∃ fr:List Int,ys=fr.map V.int/\Same H5 H6/\FS (ts.take i) [] (fun q=>F6 E [] q=0) fr) (fun D nD=>⟨[],rfl,Same.new nD,FS.nil _⟩) (by rintro D i ys H6 nD _ ⟨_,_,S,_⟩;exact .of (S _ _ aH)) ?_ ?_⟩
  .rintro D i x ys H6 nD hi hx ⟨fr,rfl,S,F⟩ hD hy;obtain ⟨z,hz,rfl⟩:=G7 hx;have hzt:z∈ts:=N4 hz;have mH:i<ts.length:=(G1.mp hz).1;rw [A2] at hy;have hs:=F.snoc (i:=i) (q:=z) (by rw [F9];lia) (by simp);rw [<- L4 hz] at hs;walk_at "rd";refine ⟨V.int (F6 E [] z:Nat),.inl ⟨_,Sum.inr z,.inl (S _ _ Y6),rfl,by rw [Q6,if_pos hzt]⟩,?_⟩
   try walk_at "rd"
   refine iteD (fun h0=>⟨V.int (ts.idxOf z:Nat),.inl ⟨_,Sum.inr z,.inl (S _ _ xG),rfl,by rw [Q6,if_pos hzt]⟩,hD,by rw [A2];exact K0 (by lia),CW.put hi (by rw [A2];exact hy) ⟨fr++[(i:Int)],by rw [E1,idx hz];rfl,S.put nD,hs.1 (by lia)⟩⟩) fun h0=>⟨hD,sL hi (by rw [A2];exact hy) ⟨fr,rfl,S,hs.2 (by lia)⟩⟩
  rintro f ys H6 nf ⟨fr,rfl,xH,F0⟩ xI hy;rw [A2,K4] at F0;intro ln nln;have nln5:H5 ln=none:=xH.free nln;have j4:f≠ln:=fun e=>by rw [e,nln] at xI;cases xI
  have frlen:∀ {line fr z},FS ts line z fr->fr.length<=ts.length:=fun {line fr z} F=>by
   have h1:∀ n∈fr,n∈(k4 ts.length).map fun (n:Nat)=>(n:Int):=fun n hn=>by
    obtain ⟨m,q,e,h2,_⟩:=(F.2 n).mp hn;exact E3.mpr ⟨m,aT.mpr (G1.mp h2).1,e.symm⟩
   have:=aeU F.1 h1
   simpa using this
  refine nX (fun m Y H7=>∃ (u v:Option V) (line:List Str) (fr:List Int),Y=[some (.ref a),some (.ref d),some (.ref c),some (.ref w),some (.ref nm),some (.ref f),some (.ref ln),u,v]/\SameBut c H5 H7/\
    H7 c=some (.dK (C1 ts fun t=>.int (F6 E line t:Nat)))/\H7 f=some (.lst (fr.map V.int))/\FS ts line (fun q=>F6 E line q=0) fr/\H7 ln=some (.lst (line.map V.str))/\R9 E ts line/\m=ts.length-line.length) ts.length
   ⟨none,none,[],fr,rfl,fun b o _ h=>D6 (xH _ _ h) nln,D6 (xH _ _ Y6) nln,D6 xI nln,F0,A3,R9.nil _ _,rfl⟩ ?_
  rintro m Y H7 ⟨u,v,line,fr,rfl,B7,hc7,qI,F,iL,run,rfl⟩;have S07:Same H H7:=B7.same j5 ncH;walk_at "rd";refine ⟨_,sV qI,?_⟩
  by_cases aI:fr=[]
  .have N6:∀ p∈ts,p∈line:=fun p hp=>Classical.byContradiction fun hn=>by
    obtain ⟨q',hq⟩:=alC (line:=line) o5 (fun e he=>(etold e he).1) ⟨p,hp,hn⟩;obtain ⟨h1,h2,h3⟩:=gF hq;obtain ⟨k,hk⟩:=List.mem_iff_getElem?.mp h1
    have:=(F.2 (k:Int)).mpr ⟨k,q',rfl,hk,h2,h3⟩
    rw [aI] at this
    cases this
   have hsl:=oC tnd run N6;rw [aI];refine iteF ?_
   try walk_at "rd"
   refine ⟨line.length,.inl ⟨_,.of iL,by rw [A2]⟩,ts.length,.inl ⟨_,.of (B7 _ _ ncw.symm aH),by rw [A2]⟩,?_⟩
   try walk_at "rd"
   exact iteD (fun h=>absurd h (by lia)) fun _=>q ln line H7 (j5.free nln5) S07 iL run N6
  rw [show (!(fr.map V.int).isEmpty)=true by cases fr with | nil=>exact absurd rfl aI | cons=>rfl];refine iteT ⟨fun σ' H'=>∃ (u v:Option V) (line':List Str) (fr:List Int),σ'=[some (.ref a),some (.ref d),some (.ref c),some (.ref w),some (.ref nm),some (.ref f),some (.ref ln),u,v]/\SameBut c H5 H'/\
    H' c=some (.dK (C1 ts fun t=>.int (F6 E line' t:Nat)))/\H' f=some (.lst (fr.map V.int))/\FS ts line' (fun q=>F6 E line' q=0) fr/\H' ln=some (.lst (line'.map V.str))/\R9 E ts line'/\ts.length-line'.length<ts.length-line.length,?_,?_⟩
  .rintro σ' H' ⟨u,v,line',fr',rfl,h1,h2,h3,h4,h5,h6,h7⟩;exact ⟨_,h7,⟨_,_,rfl⟩,h1,line',h2,fr',h3,h4,h5,h6,rfl⟩
  try walk_at "rd"
  refine ⟨fr,qI,aI,fun M hM eT=>?_⟩;obtain ⟨mm,p,rfl,hpm,Y7⟩:=ag0 F hM eT;obtain ⟨mI,eI,iM⟩:=gF Y7;have mJ:line.length<ts.length:=by
   have h1:(line++[p]).Nodup:=(run.snoc Y7).nodup;have h3:=aga h1 fun x hx=>(run.snoc Y7).sub hx
   rw [D1,V3] at h3;lia
  have F1:=F.take tnd hpm
  try walk_at "rd"
  refine ⟨V9 qI,aqR qI hM ?_⟩;have hwf:w≠f:=fun e=>by rw [e,nf] at aH;cases aH
  have xJ:c≠f:=fun e=>by rw [e,nf] at Y6;cases Y6
  have xK:c≠ln:=fun e=>by rw [e,nln5] at Y6;cases Y6
  have B8:SameBut c H5 (A0 H7 f (.lst ((fr.erase (mm:Int)).map V.int))):=B7.put nf;have qJ:A0 H7 f (.lst ((fr.erase (mm:Int)).map V.int)) ln=some (.lst (line.map V.str)):=by rw [A4 j4.symm];exact iL
  have hf8:A0 H7 f (.lst ((fr.erase (mm:Int)).map V.int)) f=some (.lst ((fr.erase (mm:Int)).map V.int)):=A3;have hc8:A0 H7 f (.lst ((fr.erase (mm:Int)).map V.int)) c=some (.dK (C1 ts fun t=>.int (F6 E line t:Nat))):=by rw [A4 xJ];exact hc7
  generalize A0 H7 f (.lst ((fr.erase (mm:Int)).map V.int))=H8 at B8 qJ hf8 hc8 ⊢
  have atp:G0 (ts.map V.str) (mm:Int)=some (V.str p):=P8 (by rw [P6,hpm];rfl);refine ⟨V9 qJ,_,.inl (.of (B8 _ _ ncw.symm aH)),V.str p,atp,appOk qJ (by rw [A2];exact K0 (by lia)) ?_⟩;have B9:SameBut c H5 (A0 H8 ln (.lst (line.map V.str++[V.str p]))):=B8.put nln5;have hl9:A0 H8 ln (.lst (line.map V.str++[V.str p])) ln=some (.lst ((line++[p]).map V.str)):=by rw [A3,E1];rfl
  have hf9:A0 H8 ln (.lst (line.map V.str++[V.str p])) f=some (.lst ((fr.erase (mm:Int)).map V.int)):=by rw [A4 j4];exact hf8
  have hc9:A0 H8 ln (.lst (line.map V.str++[V.str p])) c=some (.dK (C1 ts fun t=>.int (F6 E line t:Nat))):=by rw [A4 xK];exact hc8
  generalize A0 H8 ln (.lst (line.map V.str++[V.str p]))=H9 at B9 hl9 hf9 hc9 ⊢
  refine ⟨_,.inl (.of (B9 _ _ ncw.symm aH)),V.str p,atp,V.ref (ad p),.inl ⟨_,Sum.inr p,.inl (B9 _ _ ncd.symm hd5),rfl,by rw [Q6,if_pos mI]⟩,ad p,rfl,⟨_,.of (B9 _ _ (nac p mI) (hV p mI))⟩,
   forL (xs:=(E5 E p).map V.str) (fun j Y H7=>∃ (x:Option V) (fr:List Int),Y=[some (.ref a),some (.ref d),some (.ref c),some (.ref w),some (.ref nm),some (.ref f),some (.ref ln),some (.int (mm:Int)),x]/\SameBut c H5 H7/\
    H7 c=some (.dK (C1 ts fun t=>.int ((F6 E line t:Nat)-(((E5 E p).take j).count t:Nat))))/\H7 f=some (.lst (fr.map V.int))/\FS ts (line++[p]) (fun q=>F6 E line q=((E5 E p).take j).count q) fr/\H7 ln=some (.lst ((line++[p]).map V.str)))
   ⟨v,_,rfl,B9,?_,hf9,F1.congr fun q=>(by simp),hl9⟩ (by rintro j Y H7 _ ⟨_,_,_,B,_⟩;exact .of (B _ _ (nac p mI) (hV p mI))) ?_ ?_⟩
  .rw [hc9];exact congrArg (fun x=>some (HO.dK x)) (U6 fun t _=>congrArg V.int (by simp))
  .rintro j v5 Y Z9 xD ⟨x,fr,rfl,B,o6,eV,F,eW⟩;obtain ⟨y,hy,rfl⟩:=G7 xD;have cF:y∈ts:=by
    have:=N4 hy
    unfold E5 at this;obtain ⟨e,he,rfl⟩:=E3.mp this;exact (etold e (V5.mp he).1).2
   have eS:((E5 E p).take j).count y<F6 E line y:=by
    have h1:=ahM (E:=E) (q:=y) eI;have h2:(E5 E p).count y=((E5 E p).take (j+1)).count y+((E5 E p).drop (j+1)).count y:=by rw [<- List.count_append,j6]
    rw [L4 hy,List.count_append,List.count_singleton,if_pos (by simp)] at h2;lia
   have hyb:y∉line++[p]:=fun hm=>by
    rcases M4.mp hm with hm | hm
    .have:=alL run hm;lia
    .rw [N7.mp hm] at eS;lia
   obtain ⟨my,hmy⟩:=List.mem_iff_getElem?.mp cF;have mK:∀ q,((E5 E p).take (j+1)).count q=((E5 E p).take j).count q+if y=q then 1 else 0:=fun q=>by
    rw [L4 hy,List.count_append,List.count_singleton]
    by_cases e:y=q
    .rw [if_pos e,if_pos (by simpa using e)]
    .rw [if_neg e,if_neg (by simpa using e)]
   have turn:=F.turn (z':=fun q=>F6 E line q=((E5 E p).take (j+1)).count q) tnd (y:=y) (fun q hq=>by rw [mK,if_neg (fun e=>hq e.symm),Nat.add_zero]) (by lia) hmy hyb;have R4:C1 ts (fun t=>V.int (if t=y then (F6 E line y:Nat)-(((E5 E p).take j).count y:Nat)-1 else (F6 E line t:Nat)-(((E5 E p).take j).count t:Nat)))=C1 ts (fun t=>V.int ((F6 E line t:Nat)-(((E5 E p).take (j+1)).count t:Nat))):=U6 fun q _=>by
    rw [mK]
    by_cases e:q=y
    .rw [if_pos e,e,if_pos rfl];exact congrArg V.int (by lia)
    .rw [if_neg e,if_neg (fun z=>e z.symm)];exact congrArg V.int (by lia)
   walk_at "rd";refine ⟨_,.inl ⟨_,Sum.inr y,.inl o6,rfl,by rw [Q6,if_pos cF]⟩,_,_,rfl,rfl,_,bD (k:=Sum.inr y) o6 (by rw [m5];exact K0 (by lia)),?_⟩;have aJ:A0 Z9 c (.dK (putK (C1 ts fun t=>V.int ((F6 E line t:Nat)-(((E5 E p).take j).count t:Nat))) (Sum.inr y) (V.int ((F6 E line y:Nat)-(((E5 E p).take j).count y:Nat)-1)))) c=some (.dK (C1 ts (fun t=>V.int ((F6 E line t:Nat)-(((E5 E p).take (j+1)).count t:Nat))))):=by
    rw [A3,oE _ cF,<- R4];refine congrArg (fun x=>some (HO.dK x)) (U6 fun q _=>?_)
    by_cases e:q=y
    .rw [if_pos e,if_pos e]
    .rw [if_neg e,if_neg e]
   have B11:SameBut c H5 (A0 Z9 c (.dK (putK (C1 ts fun t=>V.int ((F6 E line t:Nat)-(((E5 E p).take j).count t:Nat))) (Sum.inr y) (V.int ((F6 E line y:Nat)-(((E5 E p).take j).count y:Nat)-1))))):=B.at;have aK:A0 Z9 c (.dK (putK (C1 ts fun t=>V.int ((F6 E line t:Nat)-(((E5 E p).take j).count t:Nat))) (Sum.inr y) (V.int ((F6 E line y:Nat)-(((E5 E p).take j).count y:Nat)-1)))) f=some (.lst (fr.map V.int)):=by rw [A4 xJ.symm];exact eV
   have eX:A0 Z9 c (.dK (putK (C1 ts fun t=>V.int ((F6 E line t:Nat)-(((E5 E p).take j).count t:Nat))) (Sum.inr y) (V.int ((F6 E line y:Nat)-(((E5 E p).take j).count y:Nat)-1)))) ln=some (.lst ((line++[p]).map V.str)):=by rw [A4 xK.symm];exact eW
   generalize A0 Z9 c (.dK (putK (C1 ts fun t=>V.int ((F6 E line t:Nat)-(((E5 E p).take j).count t:Nat))) (Sum.inr y) (V.int ((F6 E line y:Nat)-(((E5 E p).take j).count y:Nat)-1))))=H11 at aJ B11 aK eX ⊢
   refine ⟨V.int ((F6 E line y:Nat)-(((E5 E p).take (j+1)).count y:Nat)),.inl ⟨_,Sum.inr y,.inl aJ,rfl,by rw [Q6,if_pos cF]⟩,?_⟩
   try walk_at "rd"
   have xL:=frlen F;refine iteD (fun h0=>⟨V9 aK,V.int (ts.idxOf y:Nat),.inl ⟨_,Sum.inr y,.inl (B11 _ _ ncn.symm xG),rfl,by rw [Q6,if_pos cF]⟩,appOk aK (by rw [A2];exact K0 (by lia)) ?_⟩) fun h0=>?_
   .refine ⟨B11.put nf,?_,fr++[(my:Int)],?_,turn.1 (by lia),?_⟩
    .rw [A4 xJ];exact aJ
    .rw [A3,E1,idx hmy];rfl
    .rw [A4 j4.symm];exact eX
   .exact ⟨B11,aJ,fr,aK,turn.2 (by lia),eX⟩
  .rintro Y Z9 ⟨x,fr,rfl,B,o6,eV,F,eW⟩;rw [A2,K4] at o6 F;have Q1:∀ q,F6 E line q=F6 E (line++[p]) q+(E5 E p).count q:=fun q=>ahM (E:=E) (q:=q) eI
   refine ⟨⟨_,_,rfl⟩,B,line++[p],?_,fr,eV,F.congr fun q=>?_,eW,run.snoc Y7,by rw [D1,V3];lia⟩
   .rw [o6];exact congrArg (fun x=>some (HO.dK x)) (U6 fun q _=>congrArg V.int (by have:=Q1 q;lia))
   .have:=Q1 q
    lia
theorem agE:FnScope ["sign"] ["sign"] (B1 oY):=F8
abbrev ahg:List Str:=["sign"]
theorem vaT:VS ahg oY "sign" 0:=vq
theorem agF(F:FunD K "is_figure" "is_figure" oY f fd)(T:Txt P w K mg C C_NoSign):FnOk P w K mg base E4 1 f fd ["sign"] gJ:=by
 refine F.ok agE ?_ ?_
 .rintro _ _ _ _ ⟨c,rfl,_⟩;rfl
 .intro cdv A outer s H vs Q E hr h;have C5:=hu_of hr;have hu:=hr.units;refine ⟨_,QSs.out (A8 (E2 (alp q_le q_le N3 (vi vaT) N3))),?_⟩;obtain ⟨c,rfl,q⟩:=h;walk_at "rd";have e1:(Str.ofString "0").cps.toList=[48]:=by decide +kernel
  have e2:(Str.ofString "9").cps.toList=[57]:=by decide +kernel
  rw [e1,e2];simp only [aqN];refine iteN (fun h1=>?_) fun h1=>?_
  .have e:figO c=!decide (57<c):=by
    unfold figO;rw [decide_eq_true (by lia:48<=c)]
    by_cases h2:c<=57
    .rw [decide_eq_true h2,decide_eq_false (by lia:¬ 57<c)];rfl
    .rw [decide_eq_false h2,decide_eq_true (by lia:57<c)];rfl
   rw [e] at q;exact q
  .have e:figO c=false:=by unfold figO;rw [decide_eq_false (by lia:¬ 48<=c)];rfl
   rw [e] at q;exact q
theorem ahh:FnScope ["rules", "word"] ["rules", "word"] (B1 kF):=F8
abbrev aiK:List Str:=["rules", "word"]
theorem vaU:VS aiK kF "rules" 0:=vq
theorem ahi(F:FunD K "has_rule" "has_rule" kF f fd)(T:Txt P w K mg C C_NoSign):FnOk P w K mg base E4 1 f fd ["rules", "word"] (spHas K):=by
 refine F.ok ahh ?_ ?_
 .rintro _ _ _ _ ⟨a,ts,R,w,rfl,_⟩;rfl
 .intro cdv A outer s H vs Q E hr h;have C5:=hu_of hr;have hu:=hr.units;refine ⟨_,QSs.out (A8 (E2 (qe_cB (q_any (calm:=true)) T.b_any amg (qa_c (X8  (T5:CompOk ["rules", "word"] (B1 kF).names _ ["rule", "word"] 1 [1]) (O5 (K:=K) (vi vaU)) (fun _ _ _ _ _=>D0 (n:=0) (show List.Nodup (["rule", "word"]:List Str) by decide +kernel) rfl (Or.inl rfl)) (fun _ _ _ _ _=>i5) (fun _ _ _ _ _=>(fZ (q_eq (K:=K) hu) (qe_ix (K:=K) (qv 0) A5) (qv 1)))) A1)))),?_⟩;obtain ⟨a,ts,R,w,rfl,hR,hl,q⟩:=h;walk_at "rd";refine ⟨⟨_,.of hR.top⟩,compL (xs:=ts.map V.ref) [some (.str w)] rfl (fun D i ys H4=>ys=((R.take i).map fun z=>decide (z.1=w)).map V.bl/\Same H H4) (fun D nD=>⟨rfl,Same.new nD⟩) (by rintro D i ys H4 nD _ ⟨_,S⟩;exact .of (S _ _ hR.top)) ?_ ?_⟩
  .rintro D i x ys H4 nD hi hx ⟨rfl,S⟩ hD hy;obtain ⟨t,ht,rfl⟩:=G7 hx;obtain ⟨z,hz,C6⟩:=Paired.at hR.row ht;have j3:i<R.length:=(G1.mp hz).1;walk_at "rd";refine ⟨_,.inr (.of (S _ _ C6)),V.str z.1,W0 _ _,?_⟩;walk_at "rd";refine ⟨hD,by rw [A2,A2,F9];exact K0 (by lia),CW.put hi hy ⟨?_,S.put nD⟩⟩;rw [j7,hz]
   simp
  rintro D ys H4 nD ⟨rfl,S⟩ hD hy;rw [A2,hR.len,K4] at hD;refine ⟨_,rfl,hD,?_⟩;have e:((R.map fun z=>decide (z.1=w)).any id)=hasW R w:=by
   unfold hasW;rw [List.any_map];rfl
  rw [e];exact q H4 S
theorem aez:FnScope ["rule"] ["rule"] (B1 oZ):=F8
abbrev afx:List Str:=["rule"]
theorem gS:VS afx oZ "rule" 0:=vq
theorem aeA(F:FunD K "pieces_told" "pieces_told" oZ f fd)(T:Txt P w K mg C C_NoSign):FnOk P w K mg base E4 1 f fd ["rule"] (ajR K):=by
 refine F.ok aez ?_ ?_
 .rintro _ _ _ _ ⟨t,z,rfl,_⟩;rfl
 .intro cdv A outer s H vs Q E hr h;have C5:=hu_of hr;have hu:=hr.units;obtain ⟨a_JOBS,m_JOBS,M_JOBS⟩:=T.x_JOBS;refine ⟨_,QSs.out (A9 (qs_if (G5 (q_eq (K:=K) hu) (qe_ix (K:=K) (vi gS) A5) N3) (A8 (E2 (Q5 (K:=K) (vi gS) (M3 A5) Z3))) M9)
   (A9 (qs_if (G5 (q_eq (K:=K) hu) (qe_ix (K:=K) (vi gS) A5) N3) (A8 (E2 (Q5 (K:=K) (vi gS) (M3 A5) (M3 A5)))) M9)
   (A8 (E2 (ahH (G5 (q_inM M_JOBS) (qe_ix (K:=K) (vi gS) A5) (nU m_JOBS)) (Q5 (K:=K) (vi gS) (M3 A5) Z3) (R0 A1)))))),?_⟩
  obtain ⟨t,z,rfl,ht,q⟩:=h;have hT:C4 K H t ((z.1::z.2).map V.str):=.of ht;have A6:1<=((z.1::z.2).map V.str).length:=by rw [A2,G6];lia
  walk_at "rd";refine ⟨_,.inr hT,V.str z.1,W0 _ _,?_⟩;walk_at "rd";refine iteD (fun e=>?_) fun n1=>⟨_,.inr hT,V.str z.1,W0 _ _,?_⟩
  .refine rSlR.t hT (r8 (k:=2) (by decide) A6) fun p np=>q p _ (Same.new np) (.of ?_)
   rw [A3,show ((2:Int))=((2:Nat):Int) from rfl,dI,F7,List.drop_succ_cons,<- W6];unfold O7;rw [if_pos e]
  walk_at "rd";refine iteD (fun e=>?_) fun n2=>⟨_,.inr hT,V.str z.1,W0 _ _,?_⟩
  .refine rSlR.t hT (r8 (k:=1) (by decide) A6) fun p np=>q p _ (Same.new np) (.of ?_)
   have ecut:cutV ((z.1::z.2).map V.str) (some 1) (some 2)=(z.2.take 1).map V.str:=by
    unfold cutV
    cases z.2 with
    | nil=>rfl
    | cons y r=>
     have e1:HT.sIx ((z.1::y::r).map V.str).length 0 (some 1)=1:=by
      rw [show ((1:Int))=((1:Nat):Int) from rfl,HT.sIx_nat,A2,G6,G6];lia
     have e2:HT.sIx ((z.1::y::r).map V.str).length ((z.1::y::r).map V.str).length (some 2)=2:=by
      rw [show ((2:Int))=((2:Nat):Int) from rfl,HT.sIx_nat,A2,G6,G6];lia
     rw [e1,e2];rfl
   rw [A3,ecut];unfold O7;rw [if_neg n1,if_pos e]
  walk_at "rd"
  by_cases hj:dL z.1
  .rw [tI hj];refine iteT (rSlR.t hT (r8 (k:=1) (by decide) A6) fun p np=>q p _ (Same.new np) (.of ?_));rw [A3,F7,af1];unfold O7;have h3:z.1=("row" : Str)\/z.1=("marks" : Str)\/z.1=("over" : Str):=by
    rcases hj with h | h | h | h | h
    .exact .inl h
    .exact .inr (.inl h)
    .exact absurd h n1
    .exact absurd h n2
    .exact .inr (.inr h)
   rw [if_neg n1,if_neg n2,if_pos h3]
  .rw [alI hj];refine iteF fun p np=>q p _ (Same.new np) (.of ?_)
   rw [A3];unfold O7;rw [if_neg n1,if_neg n2,if_neg (fun h=>hj (by
    rcases h with h | h | h
    .exact .inl h
    .exact .inr (.inl h)
    .exact .inr (.inr (.inr (.inr h)))))]
   rfl
theorem ahj:FnScope ["jobs", "piece", "job", "figures"] ["jobs", "piece", "job", "figures"] (B1 bM):=F8
abbrev pH:List Str:=["jobs", "piece", "job", "figures"]
theorem vaW:VS pH bM "jobs" 0:=vq
theorem vB:VS pH bM "piece" 1:=vq
theorem vaY:VS pH bM "job" 2:=vq
theorem vaZ:VS pH bM "figures" 3:=vq
theorem ahk(F:FunD K "is_clash" "is_clash" bM f fd)(T:Txt P w K mg C C_NoSign)(G_is_figure:FO P w K mg base 1 "is_figure" ["sign"] [] gJ):FnOk P w K mg base E4 2 f fd ["jobs", "piece", "job", "figures"] ajS:=by
 refine F.ok ahj ?_ ?_
 .rintro _ _ _ _ ⟨d,p,j,fg,ks,g,rfl,_⟩;rfl
 .intro cdv A outer s H vs Q E hr h;have C5:=hu_of hr;have hu:=hr.units;obtain ⟨a_AGAIN,m_AGAIN,M_AGAIN⟩:=T.x_AGAIN;refine ⟨_,QSs.out (A9 (qs_if (QW.pt (dF (G5 (q_in (K:=K) hu) (vi vB) (vi vaW)) (gB (QW.pt (qw_or (G5 (q_ne (K:=K) hu) (l9 C5 (vi vaW) (vi vB)) (vi vaY)) (aqz (G5 (ajC (K:=K) hu) (vi vaY) (nU m_AGAIN)))))))) (A8 (E2 qe_bl)) M9)
   (A8 (E2 (sQ (vi vaZ) (sP (qe_cB (q_any (calm:=true)) T.b_any amg (qa_c (X8  (T5:CompOk ["jobs", "piece", "job", "figures"] (B1 bM).names _ ["sign"] 1 []) (aqA (vi vB)) (fun _ _ _ _ _=>D0 (n:=0) (show List.Nodup (["sign"]:List Str) by decide +kernel) rfl (Or.inl rfl)) (fun _ _ _ _ _=>i5) (fun _ _ _ _ _=>(D7 G_is_figure (hm hr) (qa_c (qv 0) A1)))) A1))))))),?_⟩
  obtain ⟨d,p,j,fg,ks,g,rfl,hd,hp,h1,h2,q⟩:=h;walk_at "rd";have tail:(if fg=true then bE (fW p) 1 [] (gName 0) tYes (tCall gJ [] E0 (tCons (tVar 0) tNil)) [some (V.ref d),some (V.str p),some (V.str j),some (V.bl fg)] (fun x H1=>rAnyB true [x] H1 Q) H else Q (V.bl false) H):=by
   by_cases hf:fg=true
   .rw [if_pos hf];refine compS [] rfl (fun D i ys H4=>ys=((p.cps.toList.take i).map figO).map V.bl/\Same H H4) (fun D nD=>⟨rfl,Same.new nD⟩) ?_ ?_
    .rintro D i x ys H4 nD hi hx ⟨rfl,S⟩ hD hy;walk_at "rd";refine ⟨x,rfl,hD,?_,CW.put hi hy ⟨?_,S.put nD⟩⟩
     .rw [A2,A2,F9];exact K0 (by have:p.cps.size=p.length:=rfl;lia)
     .rw [j7,hx]
      simp
    .rintro D ys H4 nD ⟨rfl,S⟩ hD hy;walk_at "rd";refine ⟨_,hD,?_⟩;have e:((p.cps.toList.take p.cps.size).map figO).any id=false:=by
      rw [List.any_eq_false];intro b hb;obtain ⟨c,hc,rfl⟩:=E3.mp hb;rw [h2 hf c (List.mem_of_mem_take hc)];decide
     rw [e];exact q H4 S
   .rw [if_neg hf];exact q H (cZ H)
  refine rInR.d (i3 (k:=Sum.inr p) hd) ⟨_,rfl,?_⟩;rw [Q6,cS]
  by_cases hk:p∈ks
  .obtain ⟨e1,e2⟩:=h1 hk;rw [if_pos hk];refine iteT ⟨V.str (g p),.inl ⟨_,Sum.inr p,.inl hd,rfl,by rw [Q6,if_pos hk]⟩,?_⟩;walk_at "rd";rw [decide_eq_true e1];refine iteF (rInR.l (.inr (M_AGAIN _)) rfl rfl ⟨_,rfl,?_⟩);have e3:bB (.str j) [V.str "letter",V.str "mark",V.str "over"]=true:=by
    have:=ahG j jT
    rw [decide_eq_true e2] at this;exact this
   rw [e3];exact iteF tail
  .rw [if_neg hk];exact iteF tail
theorem sc_jobs_of:FnScope ["rules", "figures", "jobs", "rule", "piece"] ["rules"] (B1 i8):=F8
abbrev kR:List Str:=["rules", "figures", "jobs", "rule", "piece"]
theorem vC:VS kR i8 "rules" 0:=vq
theorem va1:VS kR i8 "figures" 1:=vq
theorem pI:VS kR i8 "jobs" 2:=vq
theorem vD:VS kR i8 "rule" 3:=vq
theorem va4:VS kR i8 "piece" 4:=vq
theorem va5:LS i8 "figures":=lq
theorem va6:LS i8 "jobs":=lq
theorem va7:LS i8 "rule":=lq
theorem va8:LS i8 "piece":=lq
theorem aiL(F:FunD K "jobs_of" "jobs_of" i8 f fd)(T:Txt P w K mg C C_NoSign)(G_has_rule:FO P w K mg base 1 "has_rule" ["rules", "word"] [] (spHas K))(G_pieces_told:FO P w K mg base 1 "pieces_told" ["rule"] [] (ajR K))(G_is_clash:FO P w K mg base 2 "is_clash" ["jobs", "piece", "job", "figures"] [] ajS):FnOk P w K mg base E4 3 f fd ["rules"] (amp K):=by
 refine F.ok sc_jobs_of ?_ ?_
 .rintro _ _ _ _ ⟨a,ts,R,g,rfl,_⟩;rfl
 .intro cdv A outer s H vs Q E hr h;have C5:=hu_of hr;have hu:=hr.units;obtain ⟨a_JOBS,m_JOBS,M_JOBS⟩:=T.x_JOBS;refine ⟨_,QSs.out (A9 (D8 (n:=1) sc_jobs_of.nd rfl va5 (D7 G_has_rule (hm hr) (qa_c (vi vC) (qa_c N3 A1))))
   (A9 (D8 (n:=2) sc_jobs_of.nd rfl va6 gA)
   (A9 (P1 PassesOwn.never (O5 (K:=K) (vi vC)) (D0 (n:=3) sc_jobs_of.nd rfl va7 (.inl rfl)) (A8 (P1 PassesOwn.never (gD (K:=K) (D7 G_pieces_told (hm hr) (qa_c (vi vD) A1))) (D0 (n:=4) sc_jobs_of.nd rfl va8 (.inl rfl)) (A9 (qs_if (X0 (K:=K) (D7 G_is_clash (hm hr) (qa_c (vi pI) (qa_c (vi va4) (qa_c (ahJ M_JOBS (nU m_JOBS) (qe_ix (K:=K) (vi vD) A5)) (qa_c (vi va1) A1)))))) (A8 sR) M9)
   (A8 (x9 C5 (vi pI) (vi va4) (ahJ M_JOBS (nU m_JOBS) (qe_ix (K:=K) (vi vD) A5))))))))
   (A9 (qs_if (X0 (K:=K) (D7 G_has_rule (hm hr) (qa_c (vi vC) (qa_c N3 A1)))) (A8 (x9 C5 (vi pI) N3 N3)) M9)
   (A8 (E2 (vi pI))))))),?_⟩
  obtain ⟨a,ts,R,g,rfl,hR,hl,J7,hnc,hbl,q⟩:=h;walk_at "rd";refine ⟨a,ts,R, "figures",rfl,hR,hl,fun H1 S1=>?_⟩;generalize hasW R "figures"=fg at hnc;intro d nd;have qK:H d=none:=S1.free nd;have S2:Same H (A0 H1 d (.dK [])):=fun b o h=>D6 (S1 b o h) nd
  refine ⟨⟨_,.of (S2 _ _ hR.top)⟩,forL (xs:=ts.map V.ref) (fun i Y H2=>∃ (u v:Option V),Y=[some (.ref a),some (.bl fg),some (.ref d),u,v]/\Same H H2/\H2 d=some (.dK (C1 (keysP (C8 (R.take i))) fun t=>.str (g t))))
   ⟨none,none,rfl,S2,by rw [A3];rfl⟩ (by rintro i Y H2 _ ⟨_,_,_,S,_⟩;exact .of (S _ _ hR.top)) ?_ ?_⟩
  .rintro i x Y H2 hx ⟨u,v,rfl,S,hd⟩;obtain ⟨t,ht,rfl⟩:=G7 hx;obtain ⟨z,hz,C6⟩:=Paired.at hR.row ht;walk_at "rd";refine ⟨t,z,rfl,S _ _ C6,fun p H3 S3 hp=>⟨p,rfl,⟨_,hp⟩,forT (xs:=(O7 z).map V.str) (fun j Y H4=>∃ (v:Option V),Y=[some (.ref a),some (.bl fg),some (.ref d),some (.ref t),v]/\C4 K H4 p ((O7 z).map V.str)/\Same H H4/\H4 d=some (.dK (C1 (keysP (C8 (R.take i)++((O7 z).take j).map fun p=>(p,jobD z.1))) fun t=>.str (g t))))
    ⟨v,rfl,hp,S.trans S3,by rw [w8,cP,M5];exact S3 _ _ hd⟩ (by rintro j Y H4 _ ⟨_,_,h,_⟩;exact h) ?_ ?_⟩⟩
   .rintro j x Y H4 iN ⟨v,rfl,cE,S4,Y5⟩;obtain ⟨pc,xM,rfl⟩:=G7 iN;obtain ⟨e1,e2⟩:=aqM hz xM;obtain ⟨n1,n2,n3,n4⟩:=hnc _ _ _ e1;rw [e2] at n2;have hw:=jU (N4 xM);have V2:C4 K H4 t ((z.1::z.2).map V.str):=.of (S4 _ _ C6);have eJ:(keysP (C8 (R.take i)++((O7 z).take j).map fun p=>(p,jobD z.1))).length<=10000:=by
     have h1:=tH (C8 (R.take i)++((O7 z).take j).map fun p=>(p,jobD z.1));have h2:=congrArg X4 e2;rw [F9] at h2;lia
    walk_at "rd";refine ⟨_,.inr V2,V.str z.1,W0 _ _,Sum.inr z.1,rfl,V.str (jobD z.1),tI hw,d,pc,jobD z.1,fg,_,g,rfl,Y5,n4,fun hk=>⟨n1.symm,n2 ((oH _ _).mp hk)⟩,n3,fun H5 S5=>⟨false,rfl,iteF ⟨_,.inr (V2.same S5),V.str z.1,W0 _ _,Sum.inr z.1,rfl,V.str (jobD z.1),tI hw,_,bD (k:=Sum.inr pc) (S5 _ _ Y5) (by rw [m5];exact K0 (by lia)),(cE.same S5).dput (S5 _ _ Y5),(S4.trans S5).put qK,?_⟩⟩⟩;rw [A3,L4 xM,E1,<- Z0];rw [show ([pc].map fun p=>(p,jobD z.1))=[(pc,jobD z.1)] from rfl,aiu];unfold dd
    by_cases J8:pc∈keysP (C8 (R.take i)++((O7 z).take j).map fun p=>(p,jobD z.1))
    .rw [if_pos J8,oE _ J8];refine congrArg (fun x=>some (HO.dK x)) (U6 fun t _=>?_)
     by_cases e:t=pc
     .rw [if_pos e,e,n1]
     .rw [if_neg e]
    .rw [if_neg J8,dJ _ J8];refine congrArg (fun x=>some (HO.dK x)) (U6 fun t _=>?_)
     by_cases e:t=pc
     .rw [if_pos e,e,n1]
     .rw [if_neg e]
   .rintro Y H4 ⟨v,rfl,cE,S4,Y5⟩;walk_at "rd";refine ⟨S4,?_⟩;rw [aeS hz];rw [A2,K4] at Y5;exact Y5
  .rintro Y H2 ⟨u,v,rfl,S,hd⟩;rw [A2,hR.len,K4] at hd;walk_at "rd";refine ⟨a,ts,R, "blanks",rfl,hR.same S,hl,fun H3 S3=>⟨hasW R "blanks",rfl,?_⟩⟩;have X2:=S3 _ _ hd;have qE:(" " : Str)∉keysP (C8 R):=fun h=>hbl ((oH _ _).mp h)
   have eJ:=tH (C8 R);have hg:∀ t∈keysP (C8 R),V.str (g t)=jobG g t:=fun t ht=>by
    unfold jobG;rw [if_neg (fun e=>qE (by rw [<- e];exact ht))]
   by_cases hb:hasW R "blanks"=true
   .rw [hb];refine iteT ⟨_,bD (k:=Sum.inr (" " : Str)) X2 (by rw [m5];exact K0 (by lia)),q d _ qK ((S.trans S3).put qK) ?_⟩;rw [A3,dJ _ qE];unfold U7;rw [if_pos hb];refine congrArg (fun x=>some (HO.dK x)) (U6 fun t ht=>?_);unfold jobG
    by_cases e:t=(" " : Str)
    .simp only [if_pos e]
    .simp only [if_neg e]
   .rw [iZ] at hb;rw [hb];refine iteF (q d _ qK (S.trans S3) ?_);unfold U7;rw [hb,if_neg K5,M5,X2];exact congrArg (fun x=>some (HO.dK x)) (U6 hg)
theorem sc_misused:FnScope ["rule", "jobs", "first"] ["rule", "jobs"] (B1 y7):=F8
abbrev agG:List Str:=["rule", "jobs", "first"]
theorem kS:VS agG y7 "rule" 0:=vq
theorem vba:VS agG y7 "first" 2:=vq
theorem vbb:LS y7 "first":=lq
theorem aiM(F:FunD K "misused" "misused" y7 f fd)(T:Txt P w K mg C C_NoSign):FnOk P w K mg base E4 1 f fd ["rule", "jobs"] (ams K):=by
 refine F.ok sc_misused ?_ ?_
 .rintro _ _ _ _ ⟨t,d,z,ks,g,rfl,_⟩;rfl
 .intro cdv A outer s H vs Q E hr h;have C5:=hu_of hr;have hu:=hr.units;refine ⟨_,QSs.out (A9 (qs_if (G5 (q_eq (K:=K) hu) (qe_ix (K:=K) (vi kS) A5) N3) (A8 (E2 (X8  (T5:CompOk ["rule", "jobs", "first"] (B1 y7).names _ ["piece", "jobs"] 1 [1]) (gD (K:=K) (Q5 (K:=K) (vi kS) (M3 A5) (M3 A5))) (fun _ _ _ _ _=>D0 (n:=0) (show List.Nodup (["piece", "jobs"]:List Str) by decide +kernel) rfl (Or.inl rfl)) (fun _ _ _ _ _=>(dG (G5 (q_ne (K:=K) hu) (oG C5 (qv 1) (qv 0)) N3))) (fun _ _ _ _ _=>(qv 0))))) M9)
   (A9 (qs_if (G5 (q_eq (K:=K) hu) (qe_ix (K:=K) (vi kS) A5) N3) (A9 (jQ (n:=2) sc_misused.nd rfl vbb (T5:CompOk ["rule", "jobs", "first"] (B1 y7).names _ ["piece", "jobs"] 1 [1]) (gD (K:=K) (Q5 (K:=K) (vi kS) (M3 A5) (M3 A5))) (fun _ _ _ _ _=>D0 (n:=0) (show List.Nodup (["piece", "jobs"]:List Str) by decide +kernel) rfl (Or.inl rfl)) (fun _ _ _ _ _=>(dG (G5 (q_ne (K:=K) hu) (oG C5 (qv 1) (qv 0)) N3))) (fun _ _ _ _ _=>(qv 0)))
   (A8 (E2 (qe_op (q_add (K:=K)) (vi vba) (X8  (T5:CompOk ["rule", "jobs", "first"] (B1 y7).names _ ["piece", "jobs"] 1 [1]) (gD (K:=K) (Q5 (K:=K) (vi kS) (M3 A5) Z3)) (fun _ _ _ _ _=>D0 (n:=0) (show List.Nodup (["piece", "jobs"]:List Str) by decide +kernel) rfl (Or.inl rfl)) (fun _ _ _ _ _=>(dG (G5 (ajC (K:=K) hu) (oG C5 (qv 1) (qv 0)) (R0 (qa_c N3 (qa_c N3 A1)))))) (fun _ _ _ _ _=>(qv 0))))))) M9)
   (A8 (E2 (T8 A1))))),?_⟩
  obtain ⟨t,d,z,ks,g,rfl,ht,hd,us,hl,q⟩:=h;have hT:C4 K H t ((z.1::z.2).map V.str):=.of ht;walk_at "rd";refine ⟨_,.inr hT,V.str z.1,W0 _ _,?_⟩;walk_at "rd"
  by_cases h1:z.1=("great" : Str)
  .rw [decide_eq_true h1];have A6:1<=((z.1::z.2).map V.str).length:=by rw [A2,G6];lia
   refine iteT (rSlR.t hT (r8 (k:=1) (by decide) A6) fun s ns=>?_);have ecut:cutV ((z.1::z.2).map V.str) (some 1) (some 2)=(z.2.take 1).map V.str:=by
    rw [show cutV ((z.1::z.2).map V.str) (some 1) (some 2)=_ from jV ((z.1::z.2).map V.str) (i:=1) (j:=2) (by decide),F7,List.drop_succ_cons,List.drop_zero,<- aU]
   rw [ecut];have S1:Same H (A0 H s (.tup ((z.2.take 1).map V.str))):=Same.new ns;have hs:A0 H s (.tup ((z.2.take 1).map V.str)) s=some (.tup ((z.2.take 1).map V.str)):=A3;generalize A0 H s (.tup ((z.2.take 1).map V.str))=H1 at S1 hs;refine ⟨s,rfl,⟨_,.of hs⟩,compT (xs:=(z.2.take 1).map V.str) [some (.ref d)] rfl (fun D i ys H2=>ys=[]/\Same H1 H2) (fun D nD=>⟨rfl,Same.new nD⟩) (by rintro D i ys H2 nD _ ⟨_,S⟩;exact .of (S _ _ hs)) ?_ ?_⟩
   .rintro D i y ys H2 nD hi hy ⟨rfl,S⟩ hD M8;obtain ⟨p,hp,rfl⟩:=G7 hy;obtain ⟨m1,m2⟩:=us.gr h1 p (N4 hp);have R3:=S _ _ (S1 _ _ hd);walk_at "rd";refine ⟨.inl ⟨_,.inl R3⟩,_,i3 (k:=Sum.inr p) R3,?_⟩;rw [Q6,if_pos m1,Option.getD_some,m2];refine ⟨_,rfl,?_⟩;rw [show ∀ v:Str,(!decide (v=v))=false by intro v;simp];exact iteF ⟨hD,hi,G2 _,⟨_,rfl⟩,rfl,S⟩
   .rintro D ys H2 nD ⟨rfl,S⟩ hD M8;exact q D H2 (S1.free nD) (S1.trans S) hD
  rw [decide_eq_false h1];refine iteF ⟨_,.inr hT,V.str z.1,W0 _ _,?_⟩;walk_at "rd"
  by_cases h2:z.1=("as" : Str)
  .rw [decide_eq_true h2];have A6:1<=((z.1::z.2).map V.str).length:=by rw [A2,G6];lia
   refine iteT (rSlR.t hT (r8 (k:=2) (by decide) A6) fun s ns=>?_);have ecut:cutV ((z.1::z.2).map V.str) (some 2) (some 3)=((z.2.drop 1).take 1).map V.str:=by
    rw [show cutV ((z.1::z.2).map V.str) (some 2) (some 3)=_ from jV ((z.1::z.2).map V.str) (i:=2) (j:=3) (by decide),F7,List.drop_succ_cons,<- W6,<- aU]
   rw [ecut];have S1:Same H (A0 H s (.tup (((z.2.drop 1).take 1).map V.str))):=Same.new ns;have hs:A0 H s (.tup (((z.2.drop 1).take 1).map V.str)) s=some (.tup (((z.2.drop 1).take 1).map V.str)):=A3;generalize A0 H s (.tup (((z.2.drop 1).take 1).map V.str))=H1 at S1 hs;refine ⟨s,rfl,⟨_,.of hs⟩,compT (xs:=((z.2.drop 1).take 1).map V.str) [some (.ref d)] rfl (fun D i ys H2=>ys=[]/\Same H1 H2) (fun D nD=>⟨rfl,Same.new nD⟩) (by rintro D i ys H2 nD _ ⟨_,S⟩;exact .of (S _ _ hs)) ?_ ?_⟩
   .rintro D i y ys H2 nD hi hy ⟨rfl,S⟩ hD M8;obtain ⟨p,hp,rfl⟩:=G7 hy;obtain ⟨m1,m2⟩:=us.a1 h2 p (N4 hp);have R3:=S _ _ (S1 _ _ hd);walk_at "rd";refine ⟨.inl ⟨_,.inl R3⟩,_,i3 (k:=Sum.inr p) R3,?_⟩;rw [Q6,if_pos m1,Option.getD_some,m2];refine ⟨_,rfl,?_⟩;rw [show ∀ v:Str,(!decide (v=v))=false by intro v;simp];exact iteF ⟨hD,hi,G2 _,⟨_,rfl⟩,rfl,S⟩
   rintro D ys H2 nD ⟨rfl,S⟩ hD M8;have S2:=S1.trans S;have hT2:C4 K H2 t ((z.1::z.2).map V.str):=.of (S2 _ _ ht);refine rSlR.t hT2 (r8 (k:=3) (by decide) A6) fun s2 ns2=>?_
   have ecut2:cutV ((z.1::z.2).map V.str) (some 3) none=(z.2.drop 2).map V.str:=by
    rw [show cutV ((z.1::z.2).map V.str) (some 3) none=_ from dI ((z.1::z.2).map V.str) 3,F7,List.drop_succ_cons,<- W6]
   rw [ecut2];have S3:Same H2 (A0 H2 s2 (.tup ((z.2.drop 2).map V.str))):=Same.new ns2;have aD:A0 H2 s2 (.tup ((z.2.drop 2).map V.str)) s2=some (.tup ((z.2.drop 2).map V.str)):=A3;generalize A0 H2 s2 (.tup ((z.2.drop 2).map V.str))=H3 at S3 aD;refine ⟨s2,rfl,⟨_,.of aD⟩,compT (xs:=(z.2.drop 2).map V.str) [some (.ref d)] rfl (fun D i ys H4=>ys=[]/\Same H3 H4) (fun D nD=>⟨rfl,Same.new nD⟩) (by rintro D i ys H4 nD _ ⟨_,S⟩;exact .of (S _ _ aD)) ?_ ?_⟩
   .rintro D2 i y ys H4 nD2 hi hy ⟨rfl,S4⟩ hD2 xN;obtain ⟨p,hp,rfl⟩:=G7 hy;obtain ⟨m1,m2⟩:=us.a2 h2 p (N4 hp);have Y5:=S4 _ _ (S3 _ _ (S2 _ _ hd));walk_at "rd";refine ⟨.inl ⟨_,.inl Y5⟩,_,i3 (k:=Sum.inr p) Y5,?_⟩;rw [Q6,if_pos m1,Option.getD_some];refine ⟨by decide,fun v nv=>?_⟩;have fin:bB (g p) [V.str (Str.ofString "letter"),V.str (Str.ofString "mark")]=true/\flatV (g p)=true:=by
     rcases m2 with m2 | m2 <;> rw [m2] <;> exact ⟨by decide +kernel,rfl⟩
    refine rInR.l (.inr (.of A3)) fin.2 rfl ?_;rw [fin.1,Bool.true_xor];exact ⟨_,rfl,iteF ⟨D6 hD2 nv,hi,G2 _,⟨_,rfl⟩,rfl,S4.trans (Same.new nv)⟩⟩
   rintro D2 ys H4 nD2 ⟨rfl,S4⟩ hD2 xN;have hD4:=S4 _ _ (S3 _ _ hD);refine rAddR.l hD4 hD2 (by decide) fun l nl=>?_
   exact q l _ ((S2.trans (S3.trans S4)).free nl) ((S2.trans (S3.trans S4)).trans (Same.new nl)) A3
  rw [decide_eq_false h2];exact iteF fun p np=>q p _ np (Same.new np) A3
theorem sc_check_letters:FnScope ["rules", "jobs", "rule", "wrong"] ["rules", "jobs"] (B1 y8):=F8
abbrev pJ:List Str:=["rules", "jobs", "rule", "wrong"]
theorem vbc:VS pJ y8 "rules" 0:=vq
theorem vbd:VS pJ y8 "jobs" 1:=vq
theorem vbe:VS pJ y8 "rule" 2:=vq
theorem vbf:VS pJ y8 "wrong" 3:=vq
theorem vbg:LS y8 "rule":=lq
theorem vbh:LS y8 "wrong":=lq
theorem adN(F:FunD K "check_letters" "check_letters" y8 f fd)(T:Txt P w K mg C C_NoSign)(G_misused:FO P w K mg base 1 "misused" ["rule", "jobs"] [] (ams K)):FnOk P w K mg base E4 2 f fd ["rules", "jobs"] (ahR K):=by
 refine F.ok sc_check_letters ?_ ?_
 .rintro _ _ _ _ ⟨a,d,ts,R,ks,g,rfl,_⟩;rfl
 .intro cdv A outer s H vs Q E hr h;have C5:=hu_of hr;have hu:=hr.units;refine ⟨_,QSs.out (A8 (P1 PassesOwn.never (O5 (K:=K) (vi vbc)) (D0 (n:=2) sc_check_letters.nd rfl vbg (.inl rfl)) (A9 (D8 (n:=3) sc_check_letters.nd rfl vbh (D7 G_misused (hm hr) (qa_c (vi vbe) (qa_c (vi vbd) A1))))
   (A8 (qs_if (X0 (K:=K) (vi vbf)) (A8 sR) M9))))),?_⟩
  obtain ⟨a,d,ts,R,ks,g,rfl,hR,hd,hw,q⟩:=h;walk_at "rd";refine ⟨⟨_,.of hR.top⟩,forL (xs:=ts.map V.ref) (fun i Y H2=>∃ (u v:Option V),Y=[some (.ref a),some (.ref d),u,v]/\Same H H2) ⟨none,none,rfl,cZ H⟩ (by rintro i Y H2 _ ⟨_,_,_,S⟩;exact .of (S _ _ hR.top)) ?_ ?_⟩
  .rintro i x Y H2 hx ⟨u,v,rfl,S⟩;obtain ⟨t,ht,rfl⟩:=G7 hx;obtain ⟨z,hz,C6⟩:=Paired.at hR.row ht;obtain ⟨n1,n2⟩:=hw z (N4 hz);walk_at "rd";refine ⟨t,d,z,ks,g,rfl,S _ _ C6,S _ _ hd,n1,n2,fun p H3 np S3 hp=>⟨_,sV hp,iteF (S.trans S3)⟩⟩
  .rintro Y H2 ⟨u,v,rfl,S⟩;exact q H2 S
theorem aiN:FnScope ["rules", "word"] ["rules", "word"] (B1 kG):=F8
abbrev akz:List Str:=["rules", "word"]
theorem vbi:VS akz kG "rules" 0:=vq
theorem aiO(F:FunD K "line_of" "line_of" kG f fd)(T:Txt P w K mg C C_NoSign)(G_lined_up:FO P w K mg base 3 "lined_up" ["rows"] [] ajO):FnOk P w K mg base E4 4 f fd ["rules", "word"] (amq K):=by
 refine F.ok aiN ?_ ?_
 .rintro _ _ _ _ ⟨a,ts,R,w,rank,rfl,_⟩;rfl
 .intro cdv A outer s H vs Q E hr h;have C5:=hu_of hr;have hu:=hr.units;refine ⟨_,QSs.out (A8 (E2 (D7 G_lined_up (hm hr) (qa_c (X8  (T5:CompOk ["rules", "word"] (B1 kG).names _ ["rule", "word"] 1 [1]) (O5 (K:=K) (vi vbi)) (fun _ _ _ _ _=>D0 (n:=0) (show List.Nodup (["rule", "word"]:List Str) by decide +kernel) rfl (Or.inl rfl)) (fun _ _ _ _ _=>(dG (G5 (q_eq (K:=K) hu) (qe_ix (K:=K) (qv 0) A5) (qv 1)))) (fun _ _ _ _ _=>(qe_cT (gE (K:=K) (calm:=true)) T.b_list fX (qa_c (Q5 (K:=K) (qv 0) (M3 A5) Z3) A1)))) A1)))),?_⟩;obtain ⟨a,ts,R,w,rank,rfl,hR,hl,j4,o5,q⟩:=h;walk_at "rd";refine ⟨⟨_,.of hR.top⟩,compL (xs:=ts.map V.ref) [some (.str w)] rfl (fun D i ys H4=>∃ qs:List Addr,ys=qs.map V.ref/\RowsAt H H4 D qs (rowsW (R.take i) w)) (fun D nD=>⟨[],rfl,⟨⟨A3,.nil⟩,by simp,fun r hr=>by rw [N7.mp hr];exact nD,Same.new nD⟩⟩)
   (by rintro D i ys H4 nD _ ⟨qs,_,RA⟩;exact .of (RA.same _ _ hR.top)) ?_ ?_⟩
  .rintro D i x ys H4 nD hi hx ⟨qs,rfl,RA⟩ hD hy;obtain ⟨t,ht,rfl⟩:=G7 hx;obtain ⟨z,hz,C6⟩:=Paired.at hR.row ht;have j3:i<R.length:=(G1.mp hz).1;have V2:C4 K H4 t ((z.1::z.2).map V.str):=.of (RA.same _ _ C6);have A6:1<=((z.1::z.2).map V.str).length:=by rw [A2,G6];lia
   walk_at "rd";refine ⟨_,.inr V2,V.str z.1,W0 _ _,?_⟩;walk_at "rd";refine iteD (fun e=>rSlR.t V2 (r8 (k:=1) (by decide) A6) fun p np=>?_) fun e=>⟨hD,sL hi hy ⟨qs,rfl,?_⟩⟩
   .rw [F7,af1];walk_at "rd";refine rListR.l (.inr (.of A3)) fun p2 mM=>⟨D6 (D6 hD np) mM,?_,CW.put hi hy ⟨qs++[p2],by rw [E1];rfl,?_⟩⟩
    .rw [A2] at hy;rw [A2];exact K0 (by lia)
    .rw [aeT hz,if_pos e];have n2:H4 p2=none:=(Same.new np).free mM;exact RA.grow (fun b o h=>D6 (D6 h np) mM) n2 A3
   .rw [aeT hz,if_neg e];exact RA
  rintro D ys H4 nD ⟨qs,rfl,RA⟩ hD hy;rw [A2,hR.len,K4] at RA;refine ⟨D,qs,rowsW R w,rank,rfl,RA.rows,j4,o5,fun l line H5 nl S5 hl5 run cov=>?_⟩;exact q l line H5 (RA.same.free nl) (RA.same.trans S5) hl5 run cov
theorem sc_forms_of:FnScope ["rules", "forms", "rule"] ["rules"] (B1 bN):=F8
abbrev vE:List Str:=["rules", "forms", "rule"]
theorem vbj:VS vE bN "rules" 0:=vq
theorem vbk:VS vE bN "forms" 1:=vq
theorem vF:VS vE bN "rule" 2:=vq
theorem vbm:LS bN "forms":=lq
theorem vbn:LS bN "rule":=lq
theorem ahl(F:FunD K "forms_of" "forms_of" bN f fd)(T:Txt P w K mg C C_NoSign):FnOk P w K mg base E4 1 f fd ["rules"] (ahQ K):=by
 refine F.ok sc_forms_of ?_ ?_
 .rintro _ _ _ _ ⟨a,ts,R,rfl,_⟩;rfl
 .intro cdv A outer s H vs Q E hr h;have C5:=hu_of hr;have hu:=hr.units;refine ⟨_,QSs.out (A9 (D8 (n:=1) sc_forms_of.nd rfl vbm gA)
   (A9 (P1 PassesOwn.never (O5 (K:=K) (vi vbj)) (D0 (n:=2) sc_forms_of.nd rfl vbn (.inl rfl)) (A8 (qs_if (G5 (q_eq (K:=K) hu) (qe_ix (K:=K) (vi vF) A5) N3) (A8 (R7 (qe_mB (K:=K) W7 PySem.F.slot_list_extend PySem.F.type_list_extend (ajT (K:=K)) (aly (vi vbk) (qe_ix (K:=K) (vi vF) A5) (T8 A1)) (qa_c (Q5 (K:=K) (vi vF) (M3 A5) Z3) A1)))) M9)))
   (A8 (E2 (vi vbk))))),?_⟩
  obtain ⟨a,ts,R,rfl,hR,hg,hl,hf,q⟩:=h;walk_at "rd";intro d nd;refine ⟨⟨_,.of (D6 hR.top nd)⟩,forL (xs:=ts.map V.ref) (fun i Y H2=>∃ (u:Option V) (ad:Str->Addr),Y=[some (.ref a),some (.ref d),u]/\Same H H2/\H2 d=some (.dK (C1 (D3 (R.take i)) fun y=>.ref (ad y)))/\DL (A0 H d (.dK [])) H2 (D3 (R.take i)) ad (E9 (R.take i))) ⟨none,fun _=>d,rfl,Same.new nd,A3,⟨by simp [D3,L7,G3],by simp [D3,L7,G3],by simp [D3,L7,G3]⟩⟩ (by rintro i Y H2 _ ⟨_,_,_,S,_⟩;exact .of (S _ _ hR.top)) ?_ ?_⟩
  .rintro i x Y H2 hx ⟨u,ad,rfl,S,hd,dl⟩;obtain ⟨t,ht,rfl⟩:=G7 hx;obtain ⟨z,hz,C6⟩:=Paired.at hR.row ht;have hT:C4 K H2 t ((z.1::z.2).map V.str):=.of (S _ _ C6);walk_at "rd";refine ⟨_,.inr hT,V.str z.1,W0 _ _,?_⟩;walk_at "rd"
   by_cases iO:z.1=("great" : Str)
   .rw [decide_eq_true iO];refine iteT ?_;obtain ⟨w,ps⟩:=z;obtain rfl:w=("great" : Str):=iO;obtain ⟨y,fs,rfl⟩:∃ y fs,ps=y::fs:=by
     cases ps with
     | nil=>exact absurd rfl (hg _ (N4 hz) rfl)
     | cons y fs=>exact ⟨y,fs,rfl⟩
    have etk:R.take (i+1)=R.take i++[(("great" : Str),y::fs)]:=L4 hz;have j4:(E9 (R.take i) y).length+fs.length<=10000:=by
     have:=hf (i+1) y
     rw [etk,tP,if_pos rfl,D1] at this;exact this
    have eJ:(C1 (D3 (R.take i)) fun y=>V.ref (ad y)).length<=1000:=by
     rw [m5];unfold D3;have h1:=jN ((L7 (R.take i)).map (·.1)) [];have h2:(L7 (R.take i)).length<=(R.take i).length:=List.length_filterMap_le _ _;rw [A2,Z1] at h1;rw [F9] at h2;lia
    have W5:G0 (((("great" : Str),y::fs).1::(("great" : Str),y::fs).2).map V.str) 1=some (V.str y):=P8 (j:=1) rfl;have aM:cutV (((("great" : Str),y::fs).1::(("great" : Str),y::fs).2).map V.str) (some 2) none=fs.map V.str:=dI _ 2;refine ⟨.inl ⟨_,.inl hd⟩,_,.inr hT,V.str y,W5,fun p np=>⟨_,D6 hd np,Nat.lt_of_le_of_lt eJ (by decide),Sum.inr y,rfl,fun v hv=>?_,fun hn=>?_⟩⟩
    .rw [Q6] at hv
     by_cases hy:y∈D3 (R.take i)
     .rw [if_pos hy] at hv;cases hv;have cG:=dl.row y hy;have ndy:ad y≠d:=fun e=>by have:=dl.new y hy;rw [e,A3] at this;cases this
      have nHy:H (ad y)=none:=by have:=dl.new y hy;rw [A4 ndy] at this;exact this
      have T1:Same H2 (A0 H2 p (.lst [])):=Same.new np;generalize A0 H2 p (.lst [])=H3 at T1;refine ⟨V9 (T1 _ _ cG),rSlR.t (hT.same T1) (r8 (k:=2) (by decide) (by simp)) fun s ns=>?_⟩;rw [aM];have T2:Same H3 (A0 H3 s (.tup (fs.map V.str))):=Same.new ns;have hs:A0 H3 s (.tup (fs.map V.str)) s=some (.tup (fs.map V.str)):=A3;generalize A0 H3 s (.tup (fs.map V.str))=H4 at T2 hs;have T:=T1.trans T2;refine ⟨ad y,s,_,_,rfl,rfl,T _ _ cG,.of hs,by rw [A2,A2];exact i4 (by lia),(S.trans T).put nHy,ad,?_,?_⟩
      .rw [A4 ndy.symm,T _ _ hd,etk,oN];unfold dd;rw [if_pos hy]
      .rw [etk,oN];unfold dd;rw [if_pos hy,<- E1];refine ((dl.same T).app hy (E9 (R.take i) y++fs)).congr fun x _=>?_
       rw [tP]
       by_cases v9:x=y
       .subst v9;simp
       .simp [v9]
     .rw [if_neg hy] at hv;cases hv
    .have hy:y∉D3 (R.take i):=fun hy=>by rw [Q6,if_pos hy] at hn;cases hn
     have ndp:d≠p:=fun e=>by rw [<- e,hd] at np;cases np
     have n0:A0 H d (.dK []) p=none:=by rw [A4 ndp.symm];exact S.free np
     have dl2:=dl.more hy np n0;have v8:=dl2.put (b:=d) (o:=.dK (C1 (D3 (R.take i)++[y]) fun t=>if t=y then V.ref p else V.ref (ad t))) (u:=.dK []) A3;rw [dJ (V.ref p) hy];have iM:A0 (A0 H2 p (.lst [])) d (.dK (C1 (D3 (R.take i)++[y]) fun t=>if t=y then V.ref p else V.ref (ad t))) p=some (.lst []):=by rw [A4 ndp.symm,A3]
     have X2:A0 (A0 H2 p (.lst [])) d (.dK (C1 (D3 (R.take i)++[y]) fun t=>if t=y then V.ref p else V.ref (ad t))) d=some (.dK (C1 (D3 (R.take i)++[y]) fun t=>if t=y then V.ref p else V.ref (ad t))):=A3;have S3:Same H (A0 (A0 H2 p (.lst [])) d (.dK (C1 (D3 (R.take i)++[y]) fun t=>if t=y then V.ref p else V.ref (ad t)))):=(S.trans (Same.new np)).put nd;generalize A0 (A0 H2 p (.lst [])) d (.dK (C1 (D3 (R.take i)++[y]) fun t=>if t=y then V.ref p else V.ref (ad t)))=H3 at v8 iM X2 S3;have hT3:C4 K H3 t (((("great" : Str),y::fs).1::(("great" : Str),y::fs).2).map V.str):=.of (S3 _ _ C6);refine ⟨V9 iM,rSlR.t hT3 (r8 (k:=2) (by decide) (by simp)) fun s ns=>?_⟩;rw [aM];have T2:Same H3 (A0 H3 s (.tup (fs.map V.str))):=Same.new ns;have hs:A0 H3 s (.tup (fs.map V.str)) s=some (.tup (fs.map V.str)):=A3;generalize A0 H3 s (.tup (fs.map V.str))=H4 at T2 hs;refine ⟨p,s,_,_,rfl,rfl,T2 _ _ iM,.of hs,by rw [A2];exact i4 (by simp;lia),(S3.trans T2).put (S.free np),fun t=>if t=y then p else ad t,?_,?_⟩
     .rw [A4 ndp,T2 _ _ X2,etk,oN];unfold dd;rw [if_neg hy];refine congrArg (fun z=>some (HO.dK z)) (U6 fun x _=>?_);show (if x=y then V.ref p else V.ref (ad x))=V.ref (if x=y then p else ad x)
      by_cases v9:x=y
      .rw [if_pos v9,if_pos v9]
      .rw [if_neg v9,if_neg v9]
     .rw [etk,oN];unfold dd;rw [if_neg hy,fI]
      have:=((v8.same T2).app (z:=y) (by simp) fs).congr (G:=E9 (R.take i++[(("great" : Str),y::fs)])) fun x _=>by
       rw [tP]
       by_cases v9:x=y
       .subst v9;have e0:E9 (R.take i) x=[]:=by
         unfold E9;rw [List.filter_eq_nil_iff.mpr fun e he=>?_]
         .rfl
         .intro h;have h:e.1=x:=by simpa using h
          refine hy ?_;unfold D3;rw [q9];exact .inr (E3.mpr ⟨e,he,h⟩)
        simp [e0]
       .simp [v9]
      rw [if_pos rfl] at this;exact this
   .rw [decide_eq_false iO];refine iteF ⟨S,ad,?_,?_⟩
    .rw [show D3 (R.take (i+1))=D3 (R.take i) by unfold D3;rw [tN hz,oM iO,M5]];exact hd
    .rw [show D3 (R.take (i+1))=D3 (R.take i) by unfold D3;rw [tN hz,oM iO,M5]];refine dl.congr fun x _=>?_
     unfold E9;rw [tN hz,oM iO,M5]
  .rintro Y H2 ⟨u,ad,rfl,S,hd,dl⟩;walk_at "rd";rw [A2,hR.len,K4] at hd dl;exact q d ad H2 nd S hd (dl.old (Same.new nd))
theorem sc_steps_of:FnScope ["rules", "letters", "marks", "steps", "place", "letter", "mark", "forms", "case", "form", "rule"] ["rules", "letters", "marks"] (B1 Q0):=F8
abbrev m8:List Str:=["rules", "letters", "marks", "steps", "place", "letter", "mark", "forms", "case", "form", "rule"]
theorem vbo:VS m8 Q0 "rules" 0:=vq
theorem vbp:VS m8 Q0 "letters" 1:=vq
theorem vbq:VS m8 Q0 "marks" 2:=vq
theorem gT:VS m8 Q0 "steps" 3:=vq
theorem vbs:VS m8 Q0 "place" 4:=vq
theorem vG:VS m8 Q0 "letter" 5:=vq
theorem vbu:VS m8 Q0 "mark" 6:=vq
theorem vbv:VS m8 Q0 "forms" 7:=vq
theorem vbw:VS m8 Q0 "case" 8:=vq
theorem vbx:VS m8 Q0 "form" 9:=vq
theorem vH:VS m8 Q0 "rule" 10:=vq
theorem vbz:LS Q0 "steps":=lq
theorem vbA:LS Q0 "place":=lq
theorem vbB:LS Q0 "letter":=lq
theorem vbC:LS Q0 "mark":=lq
theorem vbD:LS Q0 "forms":=lq
theorem vbE:LS Q0 "case":=lq
theorem vbF:LS Q0 "form":=lq
theorem vbG:LS Q0 "rule":=lq
theorem ahm(F:FunD K "steps_of" "steps_of" Q0 f fd)(T:Txt P w K mg C C_NoSign)(G_forms_of:FO P w K mg base 1 "forms_of" ["rules"] [] (ahQ K)):FnOk P w K mg base E4 2 f fd ["rules", "letters", "marks"] (ahT K):=by
 refine F.ok sc_steps_of ?_ ?_
 .rintro _ _ _ _ ⟨a,b,c,ts,R,L,M,F,rfl,_⟩;rfl
 .intro cdv A outer s H vs Q E hr h;have C5:=hu_of hr;have hu:=hr.units;refine ⟨_,QSs.out (A9 (D8 (n:=3) sc_steps_of.nd rfl vbz gA)
   (A9 (P1 PassesOwn.never (oF T.b_enumerate (qa_c (vi vbp) A1)) (q5 (K:=K) (n:=2) (P9 ((D0 (n:=4) sc_steps_of.nd rfl vbA (.inl rfl))) (P9 ((D0 (n:=5) sc_steps_of.nd rfl vbB (.inl rfl))) p9))) (A8 (x9 C5 (vi gT) (vi vG) (R0 (qa_c (R0 (qa_c (fY T.g_LETTER) (qa_c (vi vbs) (qa_c A5 A1)))) A1)))))
   (A9 (P1 PassesOwn.never (oF T.b_enumerate (qa_c (vi vbq) A1)) (q5 (K:=K) (n:=2) (P9 ((D0 (n:=4) sc_steps_of.nd rfl vbA (.inl rfl))) (P9 ((D0 (n:=6) sc_steps_of.nd rfl vbC (.inl rfl))) p9))) (A8 (x9 C5 (vi gT) (vi vbu) (R0 (qa_c (R0 (qa_c (fY T.g_MARK) (qa_c (vi vbs) (qa_c A5 A1)))) A1)))))
   (A9 (D8 (n:=7) sc_steps_of.nd rfl vbD (D7 G_forms_of (hm hr) (qa_c (vi vbo) A1)))
   (A9 (sY PassesOwn.never (vi vbv) (D0 (n:=5) sc_steps_of.nd rfl vbB (.inl rfl)) (A8 (P1 PassesOwn.never (alK T.b_enumerate (qa_c (l9 C5 (vi vbv) (vi vG)) A1)) (q5 (K:=K) (n:=2) (P9 ((D0 (n:=8) sc_steps_of.nd rfl vbE (.inl rfl))) (P9 ((D0 (n:=9) sc_steps_of.nd rfl vbF (.inl rfl))) p9))) (A8 (x9 C5 (vi gT) (vi vbx) (R0 (qa_c (R0 (qa_c (fY T.g_LETTER) (qa_c (qe_ix (K:=K) (qe_ix (K:=K) (l9 C5 (vi gT) (vi vG)) A5) A5) (qa_c (vi vbw) A1)))) A1)))))))
   (A9 (P1 PassesOwn.never (O5 (K:=K) (vi vbo)) (D0 (n:=10) sc_steps_of.nd rfl vbG (.inl rfl)) (A8 (qs_if (G5 (q_eq (K:=K) hu) (qe_ix (K:=K) (vi vH) A5) N3) (A8 (x9 C5 (vi gT) (qe_ix (K:=K) (vi vH) A5) (qe_cT (nY (K:=K)) T.b_tuple nR (qa_c (X8  (T5:CompOk ["rules", "letters", "marks", "steps", "place", "letter", "mark", "forms", "case", "form", "rule"] (B1 Q0).names _ ["part", "steps"] 1 [3]) (gD (K:=K) (Q5 (K:=K) (vi vH) (M3 A5) Z3)) (fun _ _ _ _ _=>D0 (n:=0) (show List.Nodup (["part", "steps"]:List Str) by decide +kernel) rfl (Or.inl rfl)) (fun _ _ _ _ _=>i5) (fun _ _ _ _ _=>(qe_ix (K:=K) (l9 C5 (qv 1) (qv 0)) A5))) A1)))) M9)))
   (A8 (E2 (vi gT))))))))),?_⟩
  obtain ⟨a,b,c,ts,R,L,M,F,rfl,hR,md,hb,hc,O9,hRl,j4,mO,q⟩:=h;have A6:L.length+M.length+((D3 R).flatMap (E9 R)).length+(asKs R).length<=50000:=by
   unfold allKs at mO;simp only [D1] at mO;exact mO
  walk_at "rd";intro d nd;have ndR:∀ {x:Addr} {o:HO},H x=some o->x≠d:=fun h e=>by rw [e,nd] at h;cases h
  refine ⟨⟨_,D6 hb nd⟩,forE (xs:=L.map V.str) (fun i Y H2=>∃ (u v w x y z r:Option V),Y=[some (.ref a),some (.ref b),some (.ref c),some (.ref d),u,v,w,x,y,z,r]/\StI H H2 d (L.take i) F)
   ⟨none,none,none,none,none,none,none,rfl,Same.new nd,fun _=>d,A3,by simp [G3]⟩ (by rintro i Y H2 ⟨_,_,_,_,_,_,_,_,S⟩;exact S.same _ _ hb) ?_ ?_⟩
  .rintro i x t Y H2 hx ⟨u,v,w,x',y,z,r,rfl,S⟩ nt;obtain ⟨l,hl,rfl⟩:=G7 hx;have hi:i<L.length:=(G1.mp hl).1;walk_at "rd";refine ⟨_,.of A3,rfl,_,_,rfl,_,_,rfl,rfl,by decide,fun p np=>⟨by decide,fun p1 Q2=>?_⟩⟩;rw [L4 hl];exact StI.put nd (((S.more (Same.new nt)).more (Same.new np)).more (Same.new Q2)) (by rw [F9];lia) (by
    rw [md.lt i l hl];exact StepAt.one A3 (D6 A3 Q2))
  rintro Y H2 ⟨u,v,w,x',y,z,r,rfl,S⟩;rw [A2,K4] at S;walk_at "rd";refine ⟨⟨_,S.same _ _ hc⟩,forE (xs:=M.map V.str) (fun i Y H2=>∃ (u v w x y z r:Option V),Y=[some (.ref a),some (.ref b),some (.ref c),some (.ref d),u,v,w,x,y,z,r]/\StI H H2 d (L++M.take i) F)
   ⟨u,v,w,x',y,z,r,rfl,by rw [w8,M5];exact S⟩ (by rintro i Y H2 ⟨_,_,_,_,_,_,_,_,S⟩;exact S.same _ _ hc) ?_ ?_⟩
  .clear S;rintro i x t Y H2 hx ⟨u,v,w,x',y,z,r,rfl,S⟩ nt;obtain ⟨l,hl,rfl⟩:=G7 hx;have hi:i<M.length:=(G1.mp hl).1;walk_at "rd";refine ⟨_,.of A3,rfl,_,_,rfl,_,_,rfl,rfl,by decide,fun p np=>⟨by decide,fun p1 Q2=>?_⟩⟩;rw [L4 hl,<- Z0];exact StI.put nd (((S.more (Same.new nt)).more (Same.new np)).more (Same.new Q2)) (by rw [D1,F9];lia) (by
    rw [md.mr i l hl];exact StepAt.one A3 (D6 A3 Q2))
  clear S H2 u v w x' y z r;rintro Y H2 ⟨u,v,w,x',y,z,r,rfl,S⟩;rw [A2,K4] at S;walk_at "rd";refine ⟨a,ts,R,rfl,hR.same S.same,fun z hz e=>md.ne z hz (.inr e),hRl,j4,fun fd af H3 nfd S3 qL dl=>?_⟩;have nf0:H fd=none:=S.same.free nfd;have nf1:fd≠d:=fun e=>by
   obtain ⟨ad,h1,_⟩:=S.made;rw [<- e,nfd] at h1;cases h1
  have S':=S.more S3;have C6:=dl.row;clear S S3 dl nfd H2;refine ⟨fd,rfl,_,qL,fun o=>forD (fun i Y H4=>∃ (u v w y z r:Option V),Y=[some (.ref a),some (.ref b),some (.ref c),some (.ref d),u,v,w,some (.ref fd),y,z,r]/\FoI H H4 d fd o (D3 R) af (E9 R) (L++M++((D3 R).take i).flatMap (E9 R)) F)
   ⟨u,v,w,y,z,r,rfl,⟨A3,fun y hy=>by rw [A4 (fun e=>by have:=C6 y hy;rw [e,qL] at this;cases this)];exact C6 y hy,by rw [w8,List.flatMap_nil,M5];exact S'.frz qL nf0 nf1⟩⟩ (by rintro i Y H4 ⟨_,_,_,_,_,_,_,h⟩;exact h.frz) ?_ ?_⟩
  .rintro i k v' Y H4 hk ⟨u,v,w,y,z,r,rfl,J⟩;obtain ⟨l,hl,e⟩:=G7 (f:=fun t=>((Sum.inr t:B5),V.ref (af t))) hk;obtain ⟨rfl,rfl⟩:=Prod.mk.inj e;have mP:l∈D3 R:=N4 hl;have hlL:=md.gl l mP;have xL:(((D3 R).take i).flatMap (E9 R)).length+(E9 R l).length<=((D3 R).flatMap (E9 R)).length:=by
    have e:(D3 R).flatMap (E9 R)=((D3 R).take i).flatMap (E9 R)++E9 R l++((D3 R).drop (i+1)).flatMap (E9 R):=by
     have:=j6 (i+1) (D3 R)
     rw [L4 hl] at this;rw [<- this,p0,p0,p5,List.flatMap_nil,M5];rw [this]
    rw [e,D1,D1];lia
   walk_at "rd";refine ⟨V.ref (af l),.inl ⟨_,Sum.inr l,.inr ⟨o,J.frz⟩,rfl,by rw [Q6,if_pos mP]⟩,af l,rfl,⟨_,J.rows l mP⟩,forE1 (xs:=(E9 R l).map V.str) (fun j Y H5=>∃ (y z r:Option V),Y=[some (.ref a),some (.ref b),some (.ref c),some (.ref d),u,some (kV (Sum.inr l)),w,some (.ref fd),y,z,r]/\FoI H H5 d fd o (D3 R) af (E9 R) (L++M++((D3 R).take i).flatMap (E9 R)++(E9 R l).take j) F) ⟨y,z,r,rfl,by rw [w8,M5];exact J⟩ (by rintro j Y H5 ⟨_,_,_,_,h⟩;exact h.rows l mP) ?_ ?_⟩
   .clear J y z r;rintro j x t Y H5 hx ⟨y,z,r,rfl,J⟩ nt;obtain ⟨f,hf,rfl⟩:=G7 hx;have hj:j<(E9 R l).length:=(G1.mp hf).1;have T1:Same H5 (A0 H5 t (.tup [.int ((j+1:Nat):Int),.str f])):=Same.new nt;have ht:A0 H5 t (.tup [.int ((j+1:Nat):Int),.str f]) t=some (.tup [.int ((j+1:Nat):Int),.str f]):=A3;generalize A0 H5 t (.tup [.int ((j+1:Nat):Int),.str f])=H6 at T1 ht ⊢
    have J6:=J.more T1;obtain ⟨ad,h1,h2⟩:=J6.st.made;have J8:l∈G3 [] (L++M++((D3 R).take i).flatMap (E9 R)++(E9 R l).take j):=by
     rw [q9];exact .inr (V4 _ (V4 _ (V4 _ hlL)))
    obtain ⟨tt,e1,e2⟩:=(h2 l J8).ex;rw [md.letter hlL] at e2;obtain ⟨t0,rfl,e3⟩:∃ t0,tt=[t0]/\H6 t0=some (tupT (2,(L.idxOf l:Int),0)):=by
     cases e2 with
     | cons h t=>cases t;exact ⟨_,rfl,h⟩
    walk_at "rd";refine ⟨_,.of ht,rfl,_,_,rfl,_,_,rfl,rfl,V.ref (ad l),.inl ⟨_,Sum.inr l,.inl h1,rfl,by rw [Q6,if_pos J8]⟩,?_⟩;walk_at "rd";refine ⟨_,.inr (.of e1),V.ref t0,W0 _ _,?_⟩;walk_at "rd";refine ⟨_,.inr (.of e3),V.int (L.idxOf l:Int),P8 (j:=1) rfl,by decide,fun p np=>⟨by decide,fun p1 Q2=>?_⟩⟩;rw [L4 hf,<- Z0];exact FoI.put nd ((J6.more (Same.new np)).more (Same.new Q2)) (by simp only [D1,F9];lia) (by
     rw [md.gr l mP j f hf];exact StepAt.one A3 (D6 A3 Q2))
   .rintro Y H5 ⟨y,z,r,rfl,J⟩;rw [A2,K4] at J;refine ⟨⟨_,_,_,_,_,_,rfl⟩,?_⟩;rw [L4 hl,p0,p5,List.flatMap_nil,M5,<- Z0];exact J
  rintro Y H4 ⟨u,v,w,y,z,r,rfl,J⟩;rw [m5,K4] at J;have S5:=J.st.thaw (o:=.dK (C1 (D3 R) fun y=>V.ref (af y))) J.frz nf0 nf1;generalize A0 H4 fd (.dK (C1 (D3 R) fun y=>V.ref (af y)))=H5 at S5 ⊢
  clear J qL C6;walk_at "rd";refine ⟨⟨_,.of (S5.same _ _ hR.top)⟩,forL (xs:=ts.map V.ref) (fun i Y H6=>∃ (r:Option V),Y=[some (.ref a),some (.ref b),some (.ref c),some (.ref d),u,v,w,some (.ref fd),y,z,r]/\StI H H6 d (L++M++(D3 R).flatMap (E9 R)++asKs (R.take i)) F) ⟨r,rfl,by rw [w8];rw [show asKs []=[] from rfl,M5];exact S5⟩ (by rintro i Y H6 _ ⟨_,_,S⟩;exact .of (S.same _ _ hR.top)) ?_ ?_⟩
  .clear S5 r;rintro i x Y H6 hx ⟨r,rfl,S⟩;obtain ⟨t,ht,rfl⟩:=G7 hx;obtain ⟨zz,hz,C6⟩:=Paired.at hR.row ht;have qM:=N4 hz;have hT:C4 K H6 t ((zz.1::zz.2).map V.str):=.of (S.same _ _ C6);walk_at "rd";refine ⟨_,.inr hT,V.str zz.1,W0 _ _,?_⟩;walk_at "rd"
   by_cases has:zz.1=("as" : Str)
   .rw [decide_eq_true has];refine iteT ?_;obtain ⟨w1,ps⟩:=zz;obtain rfl:w1=("as" : Str):=has;obtain ⟨p,qs,rfl⟩:∃ p qs,ps=p::qs:=by
     cases ps with
     | nil=>exact absurd rfl (md.ne _ qM (.inl rfl))
     | cons p qs=>exact ⟨p,qs,rfl⟩
    have aM:cutV (((("as" : Str),p::qs).1::(("as" : Str),p::qs).2).map V.str) (some 2) none=qs.map V.str:=dI _ 2;have hql:qs.length<=1000:=by have:=O9 _ qM;simp only [G6] at this;lia
    have xO:=alN (R.take i);rw [F9] at xO;refine rSlR.t hT (r8 (k:=2) (by decide) (by simp)) fun s ns=>?_
    rw [aM];have T1:Same H6 (A0 H6 s (.tup (qs.map V.str))):=Same.new ns;have hs:A0 H6 s (.tup (qs.map V.str)) s=some (.tup (qs.map V.str)):=A3;generalize A0 H6 s (.tup (qs.map V.str))=H7 at T1 hs;have S7:=S.more T1;have hT7:C4 K H7 t (((("as" : Str),p::qs).1::(("as" : Str),p::qs).2).map V.str):=C4.same T1 hT;clear hT S;refine ⟨s,rfl,⟨_,.of hs⟩,compT (xs:=qs.map V.str) [some (.ref d)] rfl (fun D j ys H8=>∃ cH:List Addr,ys=cH.map V.ref/\AsI H H7 H8 d (L++M++(D3 R).flatMap (E9 R)++asKs (R.take i)) F cH ((qs.take j).map fun q=>(F q).headD (0,0,0))) (fun D nD=>⟨[],rfl,S7.more (Same.new nD),.nil,Same.new nD⟩) (by rintro D j ys H8 nD _ ⟨_,_,h⟩;exact .of (h.sm _ _ hs)) ?_ ?_⟩
    .rintro D j yv ys H8 nD hi hy ⟨cH,rfl,J⟩ hD M8;obtain ⟨qq,hq,rfl⟩:=G7 hy;have hqb:=md.pt _ qM rfl qq (N4 hq);obtain ⟨st,R1⟩:=md.base hqb;obtain ⟨ad,h1,h2⟩:=J.st.made;have J8:qq∈G3 [] (L++M++(D3 R).flatMap (E9 R)++asKs (R.take i)):=by
      rw [q9];refine .inr (V4 _ (V4 _ (M4.mpr hqb)))
     obtain ⟨tt,e1,e2⟩:=(h2 qq J8).ex;rw [R1] at e2;obtain ⟨t0,rfl,e3⟩:∃ t0,tt=[t0]/\H8 t0=some (tupT st):=by
      cases e2 with
      | cons h t=>cases t;exact ⟨_,rfl,h⟩
     walk_at "rd";refine ⟨V.ref (ad qq),.inl ⟨_,Sum.inr qq,.inl h1,rfl,by rw [Q6,if_pos J8]⟩,?_⟩;walk_at "rd";have qJ:cH.length<=1000:=by
      have:=Paired.length J.pr
      rw [A2,F9] at this;lia
     refine ⟨_,.inr (.of e1),V.ref t0,W0 _ _,hD,by rw [A2];exact K0 (by lia),CW.put hi M8 ⟨cH++[t0],by rw [E1];rfl,?_⟩⟩;refine AsI.putL (f:=D) ⟨J.st,?_,J.sm⟩ hD (S7.same.free nD) nD;rw [L4 hq,E1];refine Paired.snoc J.pr ?_;show H8 t0=some (tupT ((F qq).headD (0,0,0)));rw [R1];exact e3
    rintro D ys H8 nD ⟨cH,rfl,J⟩ hD M8;rw [A2,K4] at J;rw [tup_r];refine rTupR.l (.of hD) fun p1 Q2=>?_
    have W5:G0 (((("as" : Str),p::qs).1::(("as" : Str),p::qs).2).map V.str) 1=some (V.str p):=P8 (j:=1) rfl;have S8:Same H8 (A0 H8 p1 (.tup (cH.map V.ref))):=Same.new Q2;refine ⟨_,.inr (C4.same (J.sm.trans S8) hT7),V.str p,W5,?_⟩;rw [agg hz,ahS,<- Z0];refine StI.put nd (J.st.more S8) (by simp only [D1];lia) ?_;rw [md.as _ qM rfl p qs rfl];exact ⟨cH,A3,K7 J.pr fun t s e=>S8 _ _ e⟩
   .rw [decide_eq_false has];refine iteF ?_;rw [agg hz,aj1 has,M5];exact S
  rintro Y H6 ⟨r,rfl,S⟩;rw [A2,hR.len,K4] at S;walk_at "rd";exact q d H6 nd S.same S.made
theorem adF:FnScope ["self", "rules"] ["self", "rules"] (B1 bO):=F8
abbrev acA:List Str:=["self", "rules"]
theorem aA:VS acA bO "self" 0:=vq
theorem dW:VS acA bO "rules" 1:=vq
theorem adG(F:FunD K "__init__" "Order.__init__" bO f fd)(T:Txt P w K mg C C_NoSign)(G_has_rule:FO P w K mg base 1 "has_rule" ["rules", "word"] [] (spHas K))(G_jobs_of:FO P w K mg base 3 "jobs_of" ["rules"] [] (amp K))(G_check_letters:FO P w K mg base 2 "check_letters" ["rules", "jobs"] [] (ahR K))(G_line_of:FO P w K mg base 4 "line_of" ["rules", "word"] [] (amq K))(G_steps_of:FO P w K mg base 2 "steps_of" ["rules", "letters", "marks"] [] (ahT K)):FnOk P w K mg base E4 5 f fd ["self", "rules"] (tR C):=by
 refine F.ok adF ?_ ?_
 .rintro _ _ _ _ ⟨x,dx,a,ts,R,g,r1,r2,rfl,_⟩;rfl
 .intro cdv A outer s H vs Q E hr h;have C5:=hu_of hr;have hu:=hr.units;refine ⟨_,QSs.out (A9 (gC (K:=K) (vi aA) (D7 G_has_rule (hm hr) (qa_c (vi dW) (qa_c N3 A1))))
   (A9 (gC (K:=K) (vi aA) (D7 G_has_rule (hm hr) (qa_c (vi dW) (qa_c N3 A1))))
   (A9 (gC (K:=K) (vi aA) (D7 G_jobs_of (hm hr) (qa_c (vi dW) A1)))
   (A9 (R7 (D7 G_check_letters (hm hr) (qa_c (vi dW) (qa_c (m3 (K:=K) (vi aA)) A1))))
   (A9 (gC (K:=K) (vi aA) (D7 G_line_of (hm hr) (qa_c (vi dW) (qa_c N3 A1))))
   (A9 (gC (K:=K) (vi aA) (D7 G_line_of (hm hr) (qa_c (vi dW) (qa_c N3 A1))))
   (A8 (gC (K:=K) (vi aA) (D7 G_steps_of (hm hr) (qa_c (vi dW) (qa_c (m3 (K:=K) (vi aA)) (qa_c (m3 (K:=K) (vi aA)) A1)))))))))))),?_⟩
  obtain ⟨x,dx,a,ts,R,g,r1,r2,rfl,hx,hR,pl,q⟩:=h;have lp:∀ (f:Str) (y:V) (fs:List (Str×V)),(putF f y fs).length<=fs.length+1:=rQ;walk_at "rd";refine ⟨a,ts,R, "figures",rfl,hR,pl.len,fun H1 S1=>⟨C,dx,[],S1 _ _ hx,T.cl,T.na_figures,by decide,?_⟩⟩;generalize hF1:putF (Str.ofString "figures") (V.bl (hasW R (Str.ofString "figures"))) []=F1;have l1:F1.length<=1:=by rw [<- hF1];exact lp _ _ _
  have B2:SameBut x H (A0 H1 x (.ins C dx F1)):=(Same.but S1).at;have mB:A0 H1 x (.ins C dx F1) x=some (.ins C dx F1):=A3;generalize A0 H1 x (.ins C dx F1)=H2 at B2 mB;have hR2:=hR.but B2 hx;refine ⟨a,ts,R, "behind",rfl,hR2,pl.len,fun H3 S3=>⟨C,dx,F1,S3 _ _ mB,T.cl,T.na_behind,by lia,?_⟩⟩;generalize hF2:putF (Str.ofString "behind") (V.bl (hasW R (Str.ofString "behind"))) F1=F2;have l2:F2.length<=2:=by rw [<- hF2];exact E8 (lp _ _ _) (by lia)
  have B4:SameBut x H2 (A0 H3 x (.ins C dx F2)):=(Same.but S3).at;have iN:A0 H3 x (.ins C dx F2) x=some (.ins C dx F2):=A3;generalize A0 H3 x (.ins C dx F2)=H4 at B4 iN;have hR4:=hR2.but B4 mB;refine ⟨a,ts,R,g,rfl,hR4,pl.len,pl.plen,pl.nc,pl.nb,fun j H5 nj S5 hj=>?_⟩;have njx:j≠x:=fun e=>by rw [e,iN] at nj;cases nj
  generalize hF3:putF (Str.ofString "jobs") (V.ref j) F2=F3;have l3:F3.length<=3:=by rw [<- hF3];exact E8 (lp _ _ _) (by lia)
  have k3:F3.lookup (Str.ofString "jobs")=some (V.ref j):=by rw [<- hF3,K9,if_pos rfl]
  refine ⟨C,dx,F2,S5 _ _ iN,T.cl,T.na_jobs,by lia,?_⟩;rw [hF3];have B6:SameBut x H4 (A0 H5 x (.ins C dx F3)):=(Same.but S5).at;have mQ:A0 H5 x (.ins C dx F3) x=some (.ins C dx F3):=A3;have xP:A0 H5 x (.ins C dx F3) j=some (.dK (C1 (keysP (C8 R)++U7 R) (jobG g))):=by rw [A4 njx];exact hj
  generalize A0 H5 x (.ins C dx F3)=H6 at B6 mQ xP;have hR6:=hR4.but B6 iN;refine ⟨C,dx,F3,mQ,T.cl,T.na_jobs,_,k3,a,j,ts,R,_,_,rfl,hR6,xP,fun z hz=>⟨pl.used hz,pl.zl z hz⟩,fun H7 S7=>?_⟩;refine ⟨a,ts,R, "row",r1,rfl,hR6.same S7,pl.len,E8 pl.f1 (by decide),pl.a1,fun ll L H8 nll S8 mJ run cov=>?_⟩;have qN:=S8 _ _ (S7 _ _ mQ);have nlx:ll≠x:=fun e=>by rw [e,S7 _ _ mQ] at nll;cases nll
  have llen:L.length<=10000:=by
   rw [oC (gG _) run cov];exact E8 (jO _) pl.f1
  generalize hF4:putF (Str.ofString "letter_line") (V.ref ll) F3=F4;have l4:F4.length<=4:=by rw [<- hF4];exact E8 (lp _ _ _) (by lia)
  refine ⟨C,dx,F3,qN,T.cl,T.na_letter_line,by lia,?_⟩;rw [hF4];have B9:SameBut x H6 (A0 H8 x (.ins C dx F4)):=(Same.but (S7.trans S8)).at;have qO:A0 H8 x (.ins C dx F4) x=some (.ins C dx F4):=A3;have mR:A0 H8 x (.ins C dx F4) ll=some (.lst (L.map V.str)):=by rw [A4 nlx];exact mJ
  generalize A0 H8 x (.ins C dx F4)=H9 at B9 qO mR;have hR9:=hR6.but B9 mQ;refine ⟨a,ts,R, "marks",r2,rfl,hR9,pl.len,E8 pl.f2 (by decide),pl.a2,fun ml M Z9 nml xQ qP run2 cov2=>?_⟩;have nmx:ml≠x:=fun e=>by rw [e,qO] at nml;cases nml
  have mlen:M.length<=10000:=by
   rw [oC (gG _) run2 cov2];exact E8 (jO _) pl.f2
  generalize hF5:putF (Str.ofString "mark_line") (V.ref ml) F4=F5;have l5:F5.length<=5:=by rw [<- hF5];exact E8 (lp _ _ _) (by lia)
  refine ⟨C,dx,F4,xQ _ _ qO,T.cl,T.na_mark_line,by lia,?_⟩;rw [hF5];have B11:SameBut x H9 (A0 Z9 x (.ins C dx F5)):=(Same.but xQ).at;have c9:A0 Z9 x (.ins C dx F5) x=some (.ins C dx F5):=A3;have o7:A0 Z9 x (.ins C dx F5) ml=some (.lst (M.map V.str)):=by rw [A4 nmx];exact qP
  have o8:A0 Z9 x (.ins C dx F5) ll=some (.lst (L.map V.str)):=by rw [A4 nlx];exact xQ _ _ mR
  generalize A0 Z9 x (.ins C dx F5)=H11 at B11 c9 o7 o8;have hR11:=hR9.but B11 qO;have kl:F5.lookup (Str.ofString "letter_line")=some (V.ref ll):=by rw [<- hF5,K9,if_neg (by decide +kernel),<- hF4,K9,if_pos rfl]
  have km:F5.lookup (Str.ofString "mark_line")=some (V.ref ml):=by rw [<- hF5,K9,if_pos rfl]
  refine ⟨C,dx,F5,c9,T.cl,T.na_letter_line,_,kl,C,dx,F5,c9,T.cl,T.na_mark_line,_,km,a,ll,ml,ts,R,L,M,stepF R L M,rfl,hR11,anY pl ⟨run,cov⟩ ⟨run2,cov2⟩,o8,o7,pl.zl,pl.len,aj4 pl,E8 (anZ pl ⟨run,cov⟩ ⟨run2,cov2⟩) (by decide),fun md H12 nmd b9 hmd=>⟨C,dx,F5,b9 _ _ c9,T.cl,T.na_made,by lia,?_⟩⟩;have nmdx:md≠x:=fun e=>by rw [e,c9] at nmd;cases nmd
  have B:SameBut x H (A0 H12 x (.ins C dx (putF (Str.ofString "made") (V.ref md) F5))):=((B2.trans B4).trans ((B6.trans B9).trans (B11.trans (Same.but b9)))).at;have fr:∀ {H':Hp} {y:Addr},SameBut x H H'->H' y=none->y≠x->H y=none:=fun {H' y} b n nx=>by
   cases e:H y with
   | none=>rfl
   | some o=>have:=b _ _ nx e;rw [n] at this;cases this
  have B44:=B2.trans B4;refine q j ll ml md L M _ (fr B44 nj njx) (fr ((B44.trans B6).trans (Same.but S7)) nll nlx) (fr ((B44.trans B6).trans B9) nml nmx) (fr (((B44.trans B6).trans B9).trans B11) nmd nmdx) B ⟨⟨dx,?_⟩,?_,?_,?_,hmd.mod (b9 _ _ c9) (by intro xs e;cases e) nmdx,⟨run,cov⟩,⟨run2,cov2⟩⟩
  .rw [A3,<- hF5,<- hF4,<- hF3,<- hF2,<- hF1];rfl
  .rw [A4 njx];exact b9 _ _ (B11 _ _ njx (B9 _ _ njx xP))
  .rw [A4 nlx];exact b9 _ _ o8
  .rw [A4 nmx];exact b9 _ _ o7
theorem adO:FnScope ["self"] ["self"] (B1 dQ):=F8
abbrev aes:List Str:=["self"]
theorem vbJ:VS aes dQ "self" 0:=vq
theorem adP(F:FunD K "letters" "Order.letters" dQ f fd)(T:Txt P w K mg C C_NoSign):FnOk P w K mg base E4 1 f fd ["self"] (aj5 C):=by
 refine F.ok adO ?_ ?_
 .rintro _ _ _ _ ⟨x,j,ll,ml,md,g,R,L,M,rfl,_⟩;rfl
 .intro cdv A outer s H vs Q E hr h;have C5:=hu_of hr;have hu:=hr.units;refine ⟨_,QSs.out (A8 (E2 (qe_cT (gE (K:=K) (calm:=true)) T.b_list fX (qa_c (m3 (K:=K) (vi vbJ)) A1)))),?_⟩;obtain ⟨x,j,ll,ml,md,g,R,L,M,rfl,hO,q⟩:=h;obtain ⟨dx,h1⟩:=hO.ob;walk_at "rd";refine ⟨_,_,_,h1,T.cl,T.na_letter_line,_,age _ _ _ _ _ _,?_⟩;walk_at "rd";exact rListR.l (.inl (.of hO.lets)) fun l nl=>q l nl
theorem aeB:FnScope ["self"] ["self"] (B1 dR):=F8
abbrev afy:List Str:=["self"]
theorem vbK:VS afy dR "self" 0:=vq
theorem aeC(F:FunD K "marks" "Order.marks" dR f fd)(T:Txt P w K mg C C_NoSign):FnOk P w K mg base E4 1 f fd ["self"] (ahV C):=by
 refine F.ok aeB ?_ ?_
 .rintro _ _ _ _ ⟨x,j,ll,ml,md,g,R,L,M,rfl,_⟩;rfl
 .intro cdv A outer s H vs Q E hr h;have C5:=hu_of hr;have hu:=hr.units;refine ⟨_,QSs.out (A8 (E2 (qe_cT (gE (K:=K) (calm:=true)) T.b_list fX (qa_c (m3 (K:=K) (vi vbK)) A1)))),?_⟩;obtain ⟨x,j,ll,ml,md,g,R,L,M,rfl,hO,q⟩:=h;obtain ⟨dx,h1⟩:=hO.ob;walk_at "rd";refine ⟨_,_,_,h1,T.cl,T.na_mark_line,_,aiv _ _ _ _ _ _,?_⟩;walk_at "rd";exact rListR.l (.inl (.of hO.mrks)) fun l nl=>q l nl
theorem agH:FnScope ["self", "piece"] ["self", "piece"] (B1 bP):=F8
abbrev aet:List Str:=["self", "piece"]
theorem vbL:VS aet bP "self" 0:=vq
theorem vbM:VS aet bP "piece" 1:=vq
theorem agI(F:FunD K "job" "Order.job" bP f fd)(T:Txt P w K mg C C_NoSign):FnOk P w K mg base E4 1 f fd ["self", "piece"] (tS C):=by
 refine F.ok agH ?_ ?_
 .rintro _ _ _ _ ⟨x,j,ll,ml,md,p,g,R,L,M,rfl,_⟩;rfl
 .intro cdv A outer s H vs Q E hr h;have C5:=hu_of hr;have hu:=hr.units;refine ⟨_,QSs.out (A8 (E2 (oG C5 (m3 (K:=K) (vi vbL)) (vi vbM)))),?_⟩;obtain ⟨x,j,ll,ml,md,p,g,R,L,M,rfl,hO,q⟩:=h;obtain ⟨dx,h1⟩:=hO.ob;walk_at "rd";refine ⟨_,_,_,h1,T.cl,T.na_jobs,_,agd _ _ _ _ _ _,j,rfl,.inl ⟨_,.inl hO.jobs⟩,_,i3 (k:=Sum.inr p) hO.jobs,?_⟩;rw [Q6]
  by_cases hp:p∈keysP (C8 R)++U7 R
  .rw [if_pos hp] at q ⊢
   exact q
  .rw [if_neg hp] at q ⊢
   exact q
theorem sc_figures_at:FnScope ["text", "at", "end"] ["text", "at"] (B1 dS):=F8
abbrev vI:List Str:=["text", "at", "end"]
theorem vJ:VS vI dS "text" 0:=vq
theorem vbO:VS vI dS "at" 1:=vq
theorem vK:VS vI dS "end" 2:=vq
theorem vbQ:LS dS "end":=lq
theorem afz(F:FunD K "figures_at" "figures_at" dS f fd)(T:Txt P w K mg C C_NoSign)(G_is_figure:FO P w K mg base 1 "is_figure" ["sign"] [] gJ):FnOk P w K mg base E4 2 f fd ["text", "at"] aj9:=by
 refine F.ok sc_figures_at ?_ ?_
 .rintro _ _ _ _ ⟨z,pre,rest,rfl,_⟩;rfl
 .intro cdv A outer s H vs Q E hr h;have C5:=hu_of hr;have hu:=hr.units;refine ⟨_,QSs.out (A9 (D8 (n:=2) sc_figures_at.nd rfl vbQ (vi vbO))
   (A9 (nV PassesOwn.never (QW.pt (dF (G5 q_lt (vi vK) (qe_cB (q_len (K:=K)) T.b_len T7 (qa_c (vi vJ) A1))) (gB (X0 (K:=K) (D7 G_is_figure (hm hr) (qa_c (qe_ix (K:=K) (vi vJ) (vi vK)) A1)))))) (A8 (sS (n:=2) sc_figures_at.nd rfl vbQ A5 sT)))
   (A8 (E2 (Q5 (K:=K) (vi vJ) (M3 (vi vbO)) (M3 (vi vK))))))),?_⟩
  obtain ⟨z,pre,rest,rfl,hz,O9,q⟩:=h;walk_at "rd";have A6:z.length=pre.length+rest.length:=by
   have:=congrArg X4 O9
   simp [Str.length] at this ⊢
   lia
  have hsz:z.length<=sizeLine:=i4 (by lia);refine nX (fun m Y H2=>∃ (run left:List Nat),Y=[some (.str z),some (.int pre.length),some (.int ((pre++run).length:Nat))]/\H2=H/\rest=run++left/\rest.takeWhile figO=run++left.takeWhile figO/\m=left.length) rest.length ⟨[],rest,by simp,rfl,rfl,rfl,rfl⟩ ?_;rintro m Y H2 ⟨run,left,rfl,rfl,hr,xR,rfl⟩;have eY:z.cps.toList=pre++(run++left):=by rw [O9,hr]
  have hrl:rest.length=run.length+left.length:=by rw [hr,D1]
  have ecut:cutS z (some (pre.length:Int)) (some (((pre++run).length:Nat):Int))=⟨run.toArray⟩:=by
   have:=tU (y:=run) (rest:=left) eY
   rw [show (((pre++run).length:Nat):Int)=(pre.length:Int)+(run.length:Int) by rw [D1];lia];exact this
  have hpr:(pre++run).length=pre.length+run.length:=D1;walk_at "rd";refine ⟨hsz,iteD (fun C3=>⟨hsz,?_⟩) fun eU=>⟨hsz,?_⟩⟩
  .cases left with
   | nil=>simp at hrl;lia
   | cons c l2=>
    refine ⟨c,?_,c,rfl,figO c,rfl,?_⟩
    .rw [eY,<- Z0];exact aj8
    by_cases hf:figO c=true
    .rw [hf];refine iteT ⟨_,fun _ _ h=>h,l2.length,by simp,run++[c],by simp;lia,rfl,l2,by rw [hr];simp,?_,rfl⟩;rw [xR,List.takeWhile_cons_of_pos hf]
     simp
    .rw [iZ] at hf;rw [hf];refine iteF ⟨hsz,?_⟩;rw [ecut];rw [xR,List.takeWhile_cons_of_neg (by simp [hf]),M5] at q;exact q
  .have lI:left=[]:=w5.mp (by lia);rw [xR,lI,List.takeWhile_nil,M5] at q;rw [ecut];exact q
theorem sc_part_at:FnScope ["known", "text", "at", "figures", "two"] ["known", "text", "at", "figures"] (B1 i9):=F8
abbrev kT:List Str:=["known", "text", "at", "figures", "two"]
theorem vbR:VS kT i9 "known" 0:=vq
theorem kU:VS kT i9 "text" 1:=vq
theorem dX:VS kT i9 "at" 2:=vq
theorem vbU:VS kT i9 "figures" 3:=vq
theorem vbV:VS kT i9 "two" 4:=vq
theorem vbW:LS i9 "two":=lq
theorem aiP(F:FunD K "part_at" "part_at" i9 f fd)(T:Txt P w K mg C C_NoSign)(G_NoSign___init__:EO P w K mg base 1 C_NoSign "NoSign" ["self", "at"] (dP K C_NoSign "at"))(G_is_figure:FO P w K mg base 1 "is_figure" ["sign"] [] gJ)(G_figures_at:FO P w K mg base 2 "figures_at" ["text", "at"] [] aj9):FnOk P w K mg base (T0 P w) 3 f fd ["known", "text", "at", "figures"] (uR C_NoSign):=by
 refine F.okX sc_part_at ?_ ?_
 .rintro _ _ _ _ ⟨d,z,g,pre,c,r,w,rfl,_⟩;rfl
 .intro cdv A outer s H vs Q E hr h;have C5:=hu_of hr;have hu:=hr.units;refine ⟨_,QSs.out (A9 (qs_if (QW.pt (dF (X0 (K:=K) (vi vbU)) (gB (X0 (K:=K) (D7 G_is_figure (hm hr) (qa_c (qe_ix (K:=K) (vi kU) (vi dX)) A1)))))) (A8 (E2 (D7 G_figures_at (hm hr) (qa_c (vi kU) (qa_c (vi dX) A1))))) M9)
   (A9 (D8 (n:=4) sc_part_at.nd rfl vbW (Q5 (K:=K) (vi kU) (M3 (vi dX)) (M3 (qe_op (q_add (K:=K)) (vi dX) A5))))
   (A9 (qs_if (G5 (q_in (K:=K) hu) (vi vbV) (vi vbR)) (A8 (E2 (vi vbV))) M9)
   (A9 (qs_if (G5 (q_in (K:=K) hu) (qe_ix (K:=K) (vi kU) (vi dX)) (vi vbR)) (A8 (E2 (qe_ix (K:=K) (vi kU) (vi dX)))) M9)
   (A8 (alX (fun _ _ _ _ _ _ _ I h1 h2=>aq7 I h1 h2) (ara G_NoSign___init__ (hm hr) (qa_c (vi dX) A1)) (K:=K))))))),?_⟩
  obtain ⟨d,z,g,pre,c,r,w,rfl,hd,hz,O9,q1,q2⟩:=h;obtain ⟨fN,MN⟩:=T.er_NoSign;have hsz:z.length<=sizeLine:=i4 (by lia);have n9:pre.length<1000:=by
   have:=congrArg X4 O9
   simp [Str.length] at this hz;lia
  have ha:G0 z.cps.toList (pre.length:Int)=some c:=by rw [O9];exact aj8
  rw [gM] at q1 q2
  cases w with
  | false=>
   rw [cT,if_neg K5] at q1 q2;walk_at "rd";have fin:partG g (c::r)=none->∀ (x:Addr),H x=none->dP K C_NoSign "at" [V.ref x,V.int pre.length] (A0 H x (xm s.heap.objs.size x C_NoSign)) (fun v H2=>v=V.non/\∃ x_1 x_2,H2 x=some (xo s.heap.objs.size x x_1 x_2)/\(∃ x,ErrC K x_1 x)/\E (Value.ref x_1) (some x_2) (U9 H2 x)) E0:=fun hn x nx=>
    ⟨s.heap.objs.size,x,pre.length,fN,rfl,A3,MN,T.na_NoSign,by lia,fun dx nd ne=>⟨rfl,C_NoSign,dx,(gQ nx nd ne).1,⟨fN,MN⟩,q2 hn dx _ (gQ nx nd ne).2.1 (gQ nx nd ne).2.2⟩⟩
   have one':∀ (h2:partG g (c::r)=if one c∈g then some (one c) else none),rInR K false (V.str (one c)) d H fun x H'=>∃ k,x=V.bl k/\if k=true then z.length<=sizeLine/\∃ x,G0 z.cps.toList (pre.length:Int)=some x/\Q (V.str { cps:=#[x] }) H' else 1<=1000/\∀ (x:Addr),H' x=none->dP K C_NoSign "at" [V.ref x,V.int pre.length] (A0 H' x (xm s.heap.objs.size x C_NoSign)) (fun v H2=>v=V.non/\∃ x_1 x_2,H2 x=some (xo s.heap.objs.size x x_1 x_2)/\(∃ x,ErrC K x_1 x)/\E (Value.ref x_1) (some x_2) (U9 H2 x)) E0:=fun h2=>by
    refine rInR.d (i3 (k:=Sum.inr (one c)) hd) ⟨_,rfl,?_⟩;rw [gL,cS];refine iteD (fun h=>⟨hsz,c,ha,q1 _ (by rw [h2,if_pos h];rfl)⟩) fun h=>⟨by decide,fin (by rw [h2,if_neg h])⟩
   cases r with
   | nil=>
    rw [agm O9];refine ⟨hsz,rInR.d (i3 (k:=Sum.inr (one c)) hd) ⟨_,rfl,?_⟩⟩;rw [gL,cS];exact iteD (fun h=>q1 _ (by rw [bI,if_pos h])) fun h=>⟨hsz,c,ha,one' (bI g c)⟩
   | cons e r=>
    have ec:cutS z (some (pre.length:Int)) (some ((pre.length:Int)+2))=r0 c e:=tU (y:=[c,e]) (rest:=r) O9;rw [ec];refine ⟨hsz,rInR.d (i3 (k:=Sum.inr (r0 c e)) hd) ⟨_,rfl,?_⟩⟩;rw [gL,cS];exact iteD (fun h=>q1 _ (by rw [bJ,if_pos h])) fun h=>⟨hsz,c,ha,one' (by rw [bJ,if_neg h])⟩
  | true=>
   rw [Bool.true_and] at q1 q2;walk_at "rd";refine ⟨hsz,c,ha,c,rfl,figO c,rfl,?_⟩
   by_cases hf:figO c=true
   .rw [hf];exact iteT ⟨z,pre,c::r,rfl,hz,O9,q1 _ (if_pos hf)⟩
   rw [if_neg hf] at q1 q2;rw [iZ] at hf;rw [hf];refine iteF ?_;have fin:partG g (c::r)=none->∀ (x:Addr),H x=none->dP K C_NoSign "at" [V.ref x,V.int pre.length] (A0 H x (xm s.heap.objs.size x C_NoSign)) (fun v H2=>v=V.non/\∃ x_1 x_2,H2 x=some (xo s.heap.objs.size x x_1 x_2)/\(∃ x,ErrC K x_1 x)/\E (Value.ref x_1) (some x_2) (U9 H2 x)) E0:=fun hn x nx=>
    ⟨s.heap.objs.size,x,pre.length,fN,rfl,A3,MN,T.na_NoSign,by lia,fun dx nd ne=>⟨rfl,C_NoSign,dx,(gQ nx nd ne).1,⟨fN,MN⟩,q2 hn dx _ (gQ nx nd ne).2.1 (gQ nx nd ne).2.2⟩⟩
   have one':∀ (h2:partG g (c::r)=if one c∈g then some (one c) else none),rInR K false (V.str (one c)) d H fun x H'=>∃ k,x=V.bl k/\if k=true then z.length<=sizeLine/\∃ x,G0 z.cps.toList (pre.length:Int)=some x/\Q (V.str { cps:=#[x] }) H' else 1<=1000/\∀ (x:Addr),H' x=none->dP K C_NoSign "at" [V.ref x,V.int pre.length] (A0 H' x (xm s.heap.objs.size x C_NoSign)) (fun v H2=>v=V.non/\∃ x_1 x_2,H2 x=some (xo s.heap.objs.size x x_1 x_2)/\(∃ x,ErrC K x_1 x)/\E (Value.ref x_1) (some x_2) (U9 H2 x)) E0:=fun h2=>by
    refine rInR.d (i3 (k:=Sum.inr (one c)) hd) ⟨_,rfl,?_⟩;rw [gL,cS];refine iteD (fun h=>⟨hsz,c,ha,q1 _ (by rw [h2,if_pos h];rfl)⟩) fun h=>⟨by decide,fin (by rw [h2,if_neg h])⟩
   cases r with
   | nil=>
    rw [agm O9];refine ⟨hsz,rInR.d (i3 (k:=Sum.inr (one c)) hd) ⟨_,rfl,?_⟩⟩;rw [gL,cS];exact iteD (fun h=>q1 _ (by rw [bI,if_pos h])) fun h=>⟨hsz,c,ha,one' (bI g c)⟩
   | cons e r=>
    have ec:cutS z (some (pre.length:Int)) (some ((pre.length:Int)+2))=r0 c e:=tU (y:=[c,e]) (rest:=r) O9;rw [ec];refine ⟨hsz,rInR.d (i3 (k:=Sum.inr (r0 c e)) hd) ⟨_,rfl,?_⟩⟩;rw [gL,cS];exact iteD (fun h=>q1 _ (by rw [bJ,if_pos h])) fun h=>⟨hsz,c,ha,one' (by rw [bJ,if_neg h])⟩
theorem sc_cut:FnScope ["known", "text", "figures", "pieces", "parts", "at", "part"] ["known", "text", "figures"] (B1 s_cut):=F8
abbrev n_cut:List Str:=["known", "text", "figures", "pieces", "parts", "at", "part"]
theorem vbX:VS n_cut s_cut "known" 0:=vq
theorem vbY:VS n_cut s_cut "text" 1:=vq
theorem vbZ:VS n_cut s_cut "figures" 2:=vq
theorem vb0:VS n_cut s_cut "pieces" 3:=vq
theorem vb1:VS n_cut s_cut "parts" 4:=vq
theorem vb2:VS n_cut s_cut "at" 5:=vq
theorem vb3:VS n_cut s_cut "part" 6:=vq
theorem vb4:LS s_cut "pieces":=lq
theorem vb5:LS s_cut "parts":=lq
theorem vb6:LS s_cut "at":=lq
theorem vb7:LS s_cut "part":=lq
theorem amz(F:FunD K "cut" "cut" s_cut f fd)(T:Txt P w K mg C C_NoSign)(G_part_at:O1 P w K mg base 3 "part_at" ["known", "text", "at", "figures"] [] (uR C_NoSign)):FnOk P w K mg base (T0 P w) 4 f fd ["known", "text", "figures"] (pC K C_NoSign):=by
 refine F.okX sc_cut ?_ ?_
 .rintro _ _ _ _ ⟨a,z,ks,w,rfl,_⟩;rfl
 .intro cdv A outer s H vs Q E hr h;have C5:=hu_of hr;have hu:=hr.units;refine ⟨_,QSs.out (A9 (D8 (n:=3) sc_cut.nd rfl vb4 (qe_cT (ajI (K:=K) (calm:=true)) T.b_dict aju (qa_c (X8  (T5:CompOk ["known", "text", "figures", "pieces", "parts", "at", "part"] (B1 s_cut).names _ ["piece"] 1 []) (O5 (K:=K) (vi vbX)) (fun _ _ _ _ _=>D0 (n:=0) (show List.Nodup (["piece"]:List Str) by decide +kernel) rfl (Or.inl rfl)) (fun _ _ _ _ _=>i5) (fun _ _ _ _ _=>(R0 (qa_c (qv 0) (qa_c qe_bl A1))))) A1)))
   (A9 (D8 (n:=4) sc_cut.nd rfl vb5 (T8 A1))
   (A9 (D8 (n:=5) sc_cut.nd rfl vb6 A5)
   (A9 (nV PassesOwn.leaving (G5 q_lt (vi vb2) (qe_cB (q_len (K:=K)) T.b_len T7 (qa_c (vi vbY) A1))) (A9 (D8 (n:=6) sc_cut.nd rfl vb7 (y4 G_part_at (hm hr) y3 (qa_c (vi vb0) (qa_c (vi vbY) (qa_c (vi vb2) (qa_c (vi vbZ) A1))))))
   (A9 (R7 (qe_mB (K:=K) W7 g3 g0 i6 (vi vb1) (qa_c (vi vb3) A1)))
   (A8 (sS (n:=5) sc_cut.nd rfl vb6 (qe_cB (q_len (K:=K)) T.b_len T7 (qa_c (vi vb3) A1)) sT)))))
   (A8 (E2 (vi vb1))))))),?_⟩
  obtain ⟨a,z,ks,w,rfl,hS,eJ,hz,q1,q2⟩:=h;walk_at "rd";refine ⟨⟨_,hS⟩,compL (xs:=ks.map V.str) [] rfl (fun D i ys H4=>∃ ts:List Addr,ys=ts.map V.ref/\Paired (fun t k=>H4 t=some (.tup [V.str k,V.bl true])) ts (ks.take i)/\Same H H4) (fun D nD=>⟨[],rfl,.nil,Same.new nD⟩) (by rintro D i ys H4 nD _ ⟨_,_,_,S⟩;exact S.seq hS) ?_ ?_⟩
  .rintro D i x ys H4 nD hi hx ⟨ts,rfl,P,S⟩ hD hy;obtain ⟨k,hk,rfl⟩:=G7 hx;rw [A2] at hi;walk_at "rd";refine ⟨by decide,fun t nt=>⟨D6 hD nt,K0 (by lia),CW.put (by rw [A2];exact hi) hy ⟨ts++[t],by rw [E1];rfl,?_,Same.put (fun b o h=>D6 (S b o h) nt) nD⟩⟩⟩;have hDt:D≠t:=fun e=>by rw [e,nt] at hD;cases hD
   rw [j7,hk,Option.toList_some];refine Paired.snoc (K7 P fun r k h=>?_) (by rw [A4 hDt.symm,A3]);rw [A4 (fun e=>by rw [e,hD] at h;cases h)];exact D6 h nt
  rintro D ys H4 nD ⟨ts,rfl,P,S⟩ hD hy;rw [A2,K4] at P;have P2:Paired (fun t (kx:B5×V)=>C4 K H4 t [kV kx.1,kx.2]) ts (kvOf ks):=by
   clear hD hy nD S eJ hS q1 q2
   induction P with
   | nil=>exact .nil
   | cons h t ih=>exact .cons (.of h) ih
  refine ⟨rfl,D,ts,kvOf ks,rfl,.of hD,P2,fun d nd=>?_⟩;rw [show V7 [] (kvOf ks)=kvOf (G3 [] ks) from aeW ks []];have S1:Same H (A0 H4 d (.dK (kvOf (G3 [] ks)))):=fun b o h=>D6 (S b o h) nd
  have hd:A0 H4 d (.dK (kvOf (G3 [] ks))) d=some (.dK (kvOf (G3 [] ks))):=A3;generalize A0 H4 d (.dK (kvOf (G3 [] ks)))=H5 at S1 hd;have qQ:∀ l,cutF w (G3 [] ks) l=cutF w ks l:=aiD fun x=>by rw [q9];simp
  generalize G3 [] ks=g at hd qQ;refine fun p np=>nX (fun m Y H6=>∃ (pre rest:List Nat) (ps:List Str) (u:Option V),Y=[some (.ref a),some (.str z),some (.bl w),some (.ref d),some (.ref p),some (.int pre.length),u]/\Same H5 H6/\H6 p=some (.lst (ps.map V.str))/\z.cps.toList=pre++rest/\(cutF w g z.cps.toList).1=pre.length+(cutF w g rest).1/\(cutF w g z.cps.toList).2=ps++(cutF w g rest).2/\ps.length<=pre.length/\m=rest.length) z.cps.toList.length
   ⟨[],z.cps.toList,[],none,rfl,Same.new np,A3,rfl,by simp,rfl,G2 _,rfl⟩ ?_
  rintro m Y H6 ⟨pre,rest,ps,u,rfl,S6,h6,O9,iP,W4,J7,rfl⟩;have A6:z.length=pre.length+rest.length:=by
   have:=congrArg X4 O9
   simp [Str.length] at this ⊢
   lia
  walk_at "rd";refine ⟨i4 (by lia),iteD (fun C3=>?_) fun eU=>?_⟩
  .cases rest with
   | nil=>simp at A6;lia
   | cons c r=>
    refine ⟨_,fun _ _ h=>h,d,z,g,pre,c,r,w,rfl,S6 _ _ hd,hz,O9,fun y hy=>?_,fun hn dx H7 S7 xS=>?_⟩
    .obtain ⟨rest',e1,e2,e3⟩:=bK hy;rw [e2] at iP W4;have el:y.cps.toList.length=y.length:=by simp [Str.length]
     have erl:(c::r).length=y.length+rest'.length:=by rw [e1,D1,el]
     refine ⟨V9 h6,appOk h6 (by rw [A2];exact K0 (by lia)) ?_⟩;walk_at "rd";refine ⟨i4 (by lia),rest'.length,by rw [G6] at erl;lia,pre++y.cps.toList,by rw [D1,el];lia,S6.put np,rest',ps++[y],by rw [A3,E1];rfl,O9.trans (by rw [Z0];exact congrArg (pre++·) e1),by rw [D1,el,iP];dsimp only;lia,by rw [W4,Z0];rfl,by rw [D1,D1,el,V3];lia,rfl⟩
    .rw [dN hn] at iP;have iF:(cutF w ks z.cps.toList).1=pre.length:=by rw [<- qQ,iP];rfl
     refine q2 (fun hw=>?_) dx H7 (S1.trans (S6.trans S7)) (by rw [iF];exact xS);unfold L5 at hw;rw [iF] at hw;simp at A6;lia
  .have hr:rest=[]:=w5.mp (by lia);rw [hr] at iP W4;have hw:L5 w ks z:=by
    unfold L5;rw [<- qQ,iP,A6,hr];rfl
   refine q1 hw p H6 (S1.free np) (S1.trans S6) ?_;rw [h6,<- qQ,W4];show some (HO.lst (ps.map V.str))=some (HO.lst ((ps++[]).map V.str));rw [M5]
theorem aeD:FnScope ["self"] ["self"] (B1 dU):=F8
abbrev afA:List Str:=["self"]
theorem vb8:VS afA dU "self" 0:=vq
theorem aeE(F:FunD K "known" "Order.known" dU f fd)(T:Txt P w K mg C C_NoSign):FnOk P w K mg base E4 1 f fd ["self"] (tV C):=by
 refine F.ok aeD ?_ ?_
 .rintro _ _ _ _ ⟨x,j,ll,ml,md,g,R,L,M,rfl,_⟩;rfl
 .intro cdv A outer s H vs Q E hr h;have C5:=hu_of hr;have hu:=hr.units;refine ⟨_,QSs.out (A8 (E2 (qe_cT (gE (K:=K) (calm:=true)) T.b_list fX (qa_c (m3 (K:=K) (vi vb8)) A1)))),?_⟩;obtain ⟨x,j,ll,ml,md,g,R,L,M,rfl,hO,q⟩:=h;obtain ⟨dx,h1⟩:=hO.ob;walk_at "rd";refine ⟨_,_,_,h1,T.cl,T.na_jobs,_,agd _ _ _ _ _ _,?_⟩;walk_at "rd";refine rListR.d (.of hO.jobs) fun l nl=>?_
  rw [show (C1 (keysP (C8 R)++U7 R) (jobG g)).map (fun kv=>kV kv.1)=(C2 R).map V.str by unfold C1 C2;rw [f6];rfl];exact q l nl
theorem aeF:FnScope ["self", "piece"] ["self", "piece"] (B1 bQ):=F8
abbrev adv:List Str:=["self", "piece"]
theorem vb9:VS adv bQ "self" 0:=vq
theorem vca:VS adv bQ "piece" 1:=vq
theorem aeG(F:FunD K "steps" "Order.steps" bQ f fd)(T:Txt P w K mg C C_NoSign):FnOk P w K mg base E4 1 f fd ["self", "piece"] (oU C):=by
 refine F.ok aeF ?_ ?_
 .rintro _ _ _ _ ⟨x,j,ll,ml,md,p,g,R,L,M,rfl,_⟩;rfl
 .intro cdv A outer s H vs Q E hr h;have C5:=hu_of hr;have hu:=hr.units;refine ⟨_,QSs.out (A8 (E2 (alt C5 (m3 (K:=K) (vi vb9)) (vi vca) (R0 A1)))),?_⟩;obtain ⟨x,j,ll,ml,md,p,g,R,L,M,rfl,hO,q⟩:=h;obtain ⟨dx,h1⟩:=hO.ob;obtain ⟨ad,a1,a2⟩:=hO.made;walk_at "rd";refine ⟨_,_,_,h1,T.cl,T.na_made,_,aka _ _ _ _ _ _,md,rfl,.inl ⟨_,.inl a1⟩,fun e ne=>⟨_,i3 (k:=Sum.inr p) (D6 a1 ne),?_⟩⟩;rw [Q6];have S:Same H (A0 H e (.tup [])):=Same.new ne
  by_cases hp:p∈G3 [] (allKs R L M)
  .rw [if_pos hp];exact q _ _ S ((a2 p hp).same S)
  .rw [if_neg hp];refine q _ _ S ⟨[],A3,?_⟩;rw [aiE fun h=>hp ((q9 _ _ _).mpr (.inr h))];exact .nil
theorem ahn:FnScope ["order", "text"] ["order", "text"] (B1 bR):=F8
abbrev ae4:List Str:=["order", "text"]
theorem vcb:VS ae4 bR "order" 0:=vq
theorem vcc:VS ae4 bR "text" 1:=vq
theorem aho(F:FunD K "parts_of" "parts_of" bR f fd)(T:Txt P w K mg C C_NoSign)(G3_cut:O1 P w K mg base 4 "cut" ["known", "text", "figures"] [] (pC K C_NoSign))(G_Order_known:MO P w K mg base 1 C "known" ["self"] (tV C)):FnOk P w K mg base (T0 P w) 5 f fd ["order", "text"] (kN C C_NoSign):=by
 refine F.okX ahn ?_ ?_
 .rintro _ _ _ _ ⟨x,j,ll,ml,md,z,g,R,L,M,rfl,_⟩;rfl
 .intro cdv A outer s H vs Q E hr h;have C5:=hu_of hr;have hu:=hr.units;refine ⟨_,QSs.out (A8 (E2 (y4 G3_cut (hm hr) y3 (qa_c (alG (vi vcb) G_Order_known (hm hr)) (qa_c (vi vcc) (qa_c (m3 (K:=K) (vi vcb)) A1)))))),?_⟩;obtain ⟨x,j,ll,ml,md,z,g,R,L,M,rfl,hO,hk,hz,q1,q2⟩:=h;obtain ⟨dx,h1⟩:=hO.ob;walk_at "rd";refine ⟨_,_,h1,tJ _ _ _ _ _ _ (by decide +kernel),x,j,ll,ml,md,g,R,L,M,rfl,hO,fun l nl=>?_⟩;have S:Same H (A0 H l (.lst ((C2 R).map V.str))):=Same.new nl;exact ⟨_,_,_,S _ _ h1,T.cl,T.na_figures,_,adL _ _ _ _ _ _,l,z,C2 R,_,rfl,.of A3,hk,hz,fun hw l2 H2 n2 S2 h2=>q1 hw l2 H2 (S.free n2) (S.trans S2) h2,fun hw=>(q2 hw).same S⟩
theorem ahp:FnScope ["order", "part"] ["order", "part"] (B1 kH):=F8
abbrev ae5:List Str:=["order", "part"]
theorem vcd:VS ae5 kH "order" 0:=vq
theorem vL:VS ae5 kH "part" 1:=vq
theorem ahq(F:FunD K "steps_by" "steps_by" kH f fd)(T:Txt P w K mg C C_NoSign)(G_is_figure:FO P w K mg base 1 "is_figure" ["sign"] [] gJ)(G_Order_steps:MO P w K mg base 1 C "steps" ["self", "piece"] (oU C)):FnOk P w K mg base E4 2 f fd ["order", "part"] (agn C):=by
 refine F.ok ahp ?_ ?_
 .rintro _ _ _ _ ⟨x,j,ll,ml,md,c,r,y,g,R,L,M,rfl,_⟩;rfl
 .intro cdv A outer s H vs Q E hr h;have C5:=hu_of hr;have hu:=hr.units;refine ⟨_,QSs.out (A9 (qs_if (QW.pt (dF (X0 (K:=K) (m3 (K:=K) (vi vcd))) (gB (X0 (K:=K) (D7 G_is_figure (hm hr) (qa_c (qe_ix (K:=K) (vi vL) A5) A1)))))) (A8 (E2 (R0 (qa_c (R0 (qa_c (fY T.g_FIGURES) (qa_c (qe_cT aqV T.b_int ami (qa_c (vi vL) A1)) (qa_c A5 A1)))) A1)))) M9)
   (A8 (E2 (ajQ (vi vcd) G_Order_steps (hm hr) (qa_c (vi vL) A1))))),?_⟩
  obtain ⟨x,j,ll,ml,md,c,r,y,g,R,L,M,rfl,hy,M8,hO,hf,q⟩:=h;obtain ⟨dx,h1⟩:=hO.ob;have xT:y.cps.toList.headD 0=c:=by rw [hy];rfl
  walk_at "rd";refine ⟨_,_,_,h1,T.cl,T.na_figures,_,adL _ _ _ _ _ _,?_⟩;walk_at "rd";have fin:stepY R L M y=stepF R L M y->∃ x_5 x_6,H x=some (HO.ins C x_5 x_6)/\aV (Str.ofString "steps") x_6=none/\oU C [V.ref x,V.str y] H Q E0:=fun e=>⟨_,_,h1,tJ _ _ _ _ _ _ (by decide +kernel),x,j,ll,ml,md,y,g,R,L,M,rfl,hO,by rw [<- e];exact q⟩
  by_cases hw:hasW R "figures"=true
  .rw [if_pos hw];refine ⟨i4 (by lia),c,by rw [hy];exact W0 _ _,c,rfl,?_⟩
   by_cases hc:figO c=true
   .have hsy:stepY R L M y=[(1,((jE y.cps.toList:Nat):Int),0)]:=by unfold stepY;rw [hw,xT,hc];rfl
    have hAD:=hf hw (by rw [xT];exact hc);rw [hc];walk_at "rd";refine ⟨hAD,by rw [<- lenL,hy];simp,M8,by decide,fun p np=>⟨by decide,fun p1 Q2=>?_⟩⟩;refine q p1 _ ((Same.new np).trans (Same.new Q2)) ?_;rw [hsy];exact StepAt.one A3 (D6 A3 Q2)
   .rw [iZ] at hc;rw [hc];walk_at "rd";exact fin (by unfold stepY;rw [xT,hc,Bool.and_false,if_neg K5])
  .rw [if_neg hw];rw [iZ] at hw;exact fin (by rw [alP hw])
theorem ahr:FnScope ["made", "place"] ["made", "place"] (B1 kI):=F8
abbrev ae6:List Str:=["made", "place"]
theorem vM:VS ae6 kI "made" 0:=vq
theorem vcg:VS ae6 kI "place" 1:=vq
theorem ahs(F:FunD K "add_mark" "add_mark" kI f fd)(T:Txt P w K mg C C_NoSign):FnOk P w K mg base E4 1 f fd ["made", "place"] (ago K):=by
 refine F.ok ahr ?_ ?_
 .rintro _ _ _ _ ⟨l,p,H0,es,U,rfl,_⟩;rfl
 .intro cdv A outer s H vs Q E hr h;have C5:=hu_of hr;have hu:=hr.units;refine ⟨_,QSs.out (dH (qs_if (amk (X0 (K:=K) (vi vM))) (A8 (R7 (qe_mB (K:=K) W7 g3 g0 i6 (vi vM) (qa_c (R0 (qa_c (fY T.g_MARK) (qa_c A5 (qa_c (T8 A1) (qa_c A5 A1))))) A1)))) M9)
   (A8 (R7 (qe_mB (K:=K) W7 g3 g0 i6 (qe_ix (K:=K) (qe_ix (K:=K) (vi vM) (qe_un q_neg A5)) A5) (qa_c (vi vcg) A1))))),?_⟩
  obtain ⟨l,p,H0,es,U,rfl,J,hU,hM,q⟩:=h;walk_at "rd";refine sU (fun Y H1=>∃ (es':List (Addr×Addr)) (e:Addr×Addr) (U':List C9) (u:C9),Y=[some (.ref l),some (.int p)]/\UnI H0 H1 l (es'++[e]) (U'++[u])/\addM U p=U'++[(u.1,u.2.1,u.2.2.1++[p],u.2.2.2)]/\u.2.2.1.length<=10000) ?_ ?_
  .walk_at "rd";refine ⟨_,sV J.top,?_⟩
   by_cases he:es=[]
   .subst he;have hU0:=aiH J.row;subst hU0;simp only [cP,List.isEmpty_nil,Bool.not_true,Bool.not_false,if_true];refine ⟨V9 J.top,fun m nm=>⟨by decide,fun t nt=>appOk ((Same.new nm).trans (Same.new nt) _ _ J.top) (by decide) ⟨[],(t,m),[],(0,0,[],0),?_,rfl,by decide⟩⟩⟩;exact J.push nm nt
   .obtain ⟨es',e,rfl⟩:=tZ he;have hUn:U≠[]:=fun h=>by subst h;have:=Paired.length J.row;simp at this
    obtain ⟨U',u,rfl⟩:=tZ hUn;have M7:((es'++[e]).map fun e=>V.ref e.1).isEmpty=false:=by simp
    rw [M7];simp only [Bool.not_false,Bool.not_true,Bool.false_eq_true,if_false];refine ⟨es',e,U',u,J,?_,hM u (by simp)⟩;unfold addM;rw [List.getLast?_append,List.getLast?_singleton]
    simp
  rintro Y H1 ⟨es',e,U',u,rfl,J1,ea,hul⟩;obtain ⟨hr,hu⟩:=sO J1.row;have W5:G0 ((es'++[e]).map fun e=>V.ref e.1) (-1)=some (V.ref e.1):=by rw [E1];exact zG _ _
  walk_at "rd";refine ⟨_,.inl (.of J1.top),_,W5,?_⟩;walk_at "rd";refine ⟨_,.inr (.of hu.1),V.ref e.2,P8 (j:=2) rfl,V9 hu.2,appOk hu.2 (by rw [A2];exact K0 (by lia)) ?_⟩;refine q (es'++[e]) _ ?_;rw [ea];exact J1.mark p
theorem sc_add_part:FnScope ["order", "made", "part", "kind", "worth", "case"] ["order", "made", "part"] (B1 j0):=F8
abbrev gU:List Str:=["order", "made", "part", "kind", "worth", "case"]
theorem vch:VS gU j0 "order" 0:=vq
theorem vci:VS gU j0 "made" 1:=vq
theorem vcj:VS gU j0 "part" 2:=vq
theorem vck:VS gU j0 "kind" 3:=vq
theorem vcl:VS gU j0 "worth" 4:=vq
theorem vcm:VS gU j0 "case" 5:=vq
theorem vcn:LS j0 "kind":=lq
theorem vco:LS j0 "worth":=lq
theorem vcp:LS j0 "case":=lq
theorem aht(F:FunD K "add_part" "add_part" j0 f fd)(T:Txt P w K mg C C_NoSign)(G_steps_by:FO P w K mg base 2 "steps_by" ["order", "part"] [] (agn C))(G_add_mark:FO P w K mg base 1 "add_mark" ["made", "place"] [] (ago K)):FnOk P w K mg base E4 3 f fd ["order", "made", "part"] (tW C):=by
 refine F.ok sc_add_part ?_ ?_
 .rintro _ _ _ _ ⟨x,l,j,ll,ml,md,c,r,y,g,R,L,M,H0,es,U,rfl,_⟩;rfl
 .intro cdv A outer s H vs Q E hr h;have C5:=hu_of hr;have hu:=hr.units;refine ⟨_,QSs.out (A8 (P1 PassesOwn.never (gD (K:=K) (D7 G_steps_by (hm hr) (qa_c (vi vch) (qa_c (vi vcj) A1)))) (q5 (K:=K) (n:=3) (P9 ((D0 (n:=3) sc_add_part.nd rfl vcn (.inl rfl))) (P9 ((D0 (n:=4) sc_add_part.nd rfl vco (.inl rfl))) (P9 ((D0 (n:=5) sc_add_part.nd rfl vcp (.inl rfl))) p9)))) (A8 (qs_if (G5 (q_eq (K:=K) hu) (vi vck) (fY T.g_MARK)) (A8 (R7 (D7 G_add_mark (hm hr) (qa_c (vi vci) (qa_c (vi vcl) A1))))) (A8 (R7 (qe_mB (K:=K) W7 g3 g0 i6 (vi vci) (qa_c (R0 (qa_c (vi vck) (qa_c (vi vcl) (qa_c (T8 A1) (qa_c (vi vcm) A1))))) A1)))))))),?_⟩;obtain ⟨x,l,j,ll,ml,md,c,r,y,g,R,L,M,H0,es,U,rfl,hy,M8,hO,hf,J,hs,hU,hM,q⟩:=h;walk_at "rd";refine ⟨x,j,ll,ml,md,c,r,y,g,R,L,M,rfl,hy,M8,hO.same J.same,hf,fun a H1 S1 R1=>?_⟩;obtain ⟨ts,e1,e2⟩:=R1.ex;obtain ⟨H0',B0,J0,tp⟩:=(J.more S1).cut;have e1':=tp _ _ e1;have e2':=K7 e2 fun t s (e:H1 t=some (tupT s))=>(show H0' t=some (tupT s) from tp _ _ e)
  generalize stepY R L M y=ss at hs e2 e2' q;refine ⟨a,rfl,⟨_,.of e1⟩,forT (xs:=ts.map V.ref) (fun i Y H2=>∃ (u v w:Option V) (es:List (Addr×Addr)),Y=[some (.ref x),some (.ref l),some (.str y),u,v,w]/\UnI H0' H2 l es ((ss.take i).foldl addS U)) ⟨none,none,none,es,rfl,J0⟩ (by rintro i Y H2 _ ⟨_,_,_,_,_,h⟩;exact .of (h.same _ _ e1')) ?_ ?_⟩
  .rintro i v Y H2 hv ⟨u1,u2,u3,es,rfl,J2⟩;obtain ⟨t,ht,rfl⟩:=G7 hv;obtain ⟨s',eR,hts⟩:=Paired.at e2' ht;have hi:i<ss.length:=(G1.mp eR).1;have v6:=tX (ss.take i) U;have lW:=tY (ss.take i) U 9000 hM;rw [F9] at v6 lW;have et:(ss.take (i+1)).foldl addS U=addS ((ss.take i).foldl addS U) s':=by rw [L4 eR,p4];rfl
   have htt:C4 K H2 t [V.int s'.1,V.int s'.2.1,V.int s'.2.2]:=.of (J2.same _ _ hts);walk_at "rd";refine ⟨_,htt,rfl,_,_,rfl,_,_,rfl,_,_,rfl,rfl,?_⟩;walk_at "rd";rw [et];generalize (ss.take i).foldl addS U=U2 at J2 v6 lW;refine iteD (fun e=>⟨l,s'.2.1,H0',es,U2,rfl,J2,by lia,fun u hu=>by have:=lW u hu;lia,fun es' H3 J3=>?_⟩) fun e=>⟨V9 J2.top,fun m nm=>⟨by decide,fun t2 qR=>appOk ((Same.new nm).trans (Same.new qR) _ _ J2.top) (by rw [A2,Paired.length J2.row];exact K0 (by lia)) ?_⟩⟩
   .unfold addS;rw [if_pos e];exact ⟨es',J3⟩
   .unfold addS;rw [if_neg e];exact ⟨_,J2.push nm qR⟩
  rintro Y H2 ⟨u1,u2,u3,es,rfl,J2⟩;rw [A2,Paired.length e2,K4] at J2;exact q es H2 (J2.base B0)
theorem sc_units:FnScope ["order", "text", "made", "part"] ["order", "text"] (B1 Z4):=F8
abbrev pK:List Str:=["order", "text", "made", "part"]
theorem vcq:VS pK Z4 "order" 0:=vq
theorem vcr:VS pK Z4 "text" 1:=vq
theorem vcs:VS pK Z4 "made" 2:=vq
theorem vct:VS pK Z4 "part" 3:=vq
theorem vcu:LS Z4 "made":=lq
theorem vcv:LS Z4 "part":=lq
theorem al6(F:FunD K "units" "units" Z4 f fd)(T:Txt P w K mg C C_NoSign)(G_parts_of:O1 P w K mg base 5 "parts_of" ["order", "text"] [] (kN C C_NoSign))(G_add_part:FO P w K mg base 3 "add_part" ["order", "made", "part"] [] (tW C)):FnOk P w K mg base (T0 P w) 6 f fd ["order", "text"] (pD C C_NoSign):=by
 refine F.okX sc_units ?_ ?_
 .rintro _ _ _ _ ⟨x,j,ll,ml,md,z,g,R,L,M,rfl,_⟩;rfl
 .intro cdv A outer s H vs Q E hr h;have C5:=hu_of hr;have hu:=hr.units;refine ⟨_,QSs.out (A9 (D8 (n:=2) sc_units.nd rfl vcu (T8 A1))
   (A9 (P1 PassesOwn.leaving (O5 (K:=K) (y4 G_parts_of (hm hr) y3 (qa_c (vi vcq) (qa_c (vi vcr) A1)))) (D0 (n:=3) sc_units.nd rfl vcv (.inl rfl)) (A8 (R7 (D7 G_add_part (hm hr) (qa_c (vi vcq) (qa_c (vi vcs) (qa_c (vi vct) A1)))))))
   (A8 (E2 (X8  (T5:CompOk ["order", "text", "made", "part"] (B1 Z4).names _ ["kind", "worth", "marks", "case"] 4 []) (O5 (K:=K) (vi vcs)) (fun _ _ _ _ _=>(q5 (K:=K) (n:=4) (P9 (D0 (n:=0) (show List.Nodup (["kind", "worth", "marks", "case"]:List Str) by decide +kernel) rfl (Or.inl rfl)) (P9 (D0 (n:=1) (show List.Nodup (["kind", "worth", "marks", "case"]:List Str) by decide +kernel) rfl (Or.inl rfl)) (P9 (D0 (n:=2) (show List.Nodup (["kind", "worth", "marks", "case"]:List Str) by decide +kernel) rfl (Or.inl rfl)) (P9 (D0 (n:=3) (show List.Nodup (["kind", "worth", "marks", "case"]:List Str) by decide +kernel) rfl (Or.inl rfl)) p9)))))) (fun _ _ _ _ _=>i5) (fun _ _ _ _ _=>(R0 (qa_c (qv 0) (qa_c (qv 1) (qa_c (qe_cT (nY (K:=K)) T.b_tuple nR (qa_c (qv 2) A1)) (qa_c (qv 3) A1))))))))))),?_⟩
  obtain ⟨x,j,ll,ml,md,z,g,R,L,M,rfl,hO,hk,hz,hs,q1,q2⟩:=h;have hf:=uB (w:=hasW R "figures") (g:=C2 R) _ z.cps.toList (B3 _);have M7:=kA (w:=hasW R "figures") (g:=C2 R) _ z.cps.toList (B3 _);have qS:=(jZ (w:=hasW R "figures") (g:=C2 R) _ z.cps.toList (B3 _)).2.1;rw [lenL] at qS;have o9:=oW (w:=hasW R "figures") (g:=C2 R) _ z.cps.toList (B3 _);rw [lenL] at o9;walk_at "rd";intro l nl;have S1:Same H (A0 H l (.lst [])):=Same.new nl;have iC:A0 H l (.lst []) l=some (.lst []):=A3;generalize A0 H l (.lst [])=H1 at S1 iC;refine ⟨x,j,ll,ml,md,z,g,R,L,M,rfl,hO.same S1,hk,by lia,fun hw a H2 na S2 ha=>?_,fun hw=>(q2 hw).same S1⟩;have q:=q1 hw;clear q1 q2;generalize (cutF (hasW R "figures") (C2 R) z.cps.toList).2=ps at ha hf M7 qS o9 q;have nal:a≠l:=fun e=>by rw [e,iC] at na;cases na
  have C0:UnI (cutH H2 [l]) H2 l [] []:=⟨S2 _ _ iC,.nil,by simp,fun b hb=>by unfold cutH;exact if_pos (by simpa using hb),agp _ _⟩
  have S0:Same H (cutH H2 [l]):=fun b o hb=>by
   unfold cutH;rw [if_neg (fun e=>by rw [N7.mp e,nl] at hb;cases hb)];exact S2 _ _ (S1 _ _ hb)
  have ha0:cutH H2 [l] a=some (.lst (ps.map V.str)):=by
   unfold cutH;rw [if_neg (fun e=>nal (N7.mp e))];exact ha
  have hO0:=hO.same S0;generalize cutH H2 [l]=H0 at C0 S0 ha0 hO0;refine ⟨a,rfl,⟨_,.of ha⟩,forL (xs:=ps.map V.str) (fun i Y H3=>∃ (u:Option V) (es:List (Addr×Addr)),Y=[some (.ref x),some (.str z),some (.ref l),u]/\UnI H0 H3 l es (N5 (stepY R L M) (ps.take i))) ⟨none,[],rfl,C0⟩ (by rintro i Y H3 _ ⟨_,_,_,h⟩;exact .of (h.same _ _ ha0)) ?_ ?_⟩
  .rintro i v Y H3 hv ⟨u,es,rfl,J⟩;obtain ⟨y,hy,rfl⟩:=G7 hv;have hi:i<ps.length:=(G1.mp hy).1;have iQ:=N4 hy;obtain ⟨C5,iD⟩:=oV (S:=stepY R L M) hs (ps.take i);rw [F9] at C5 iD;obtain ⟨c,r,xU⟩:∃ c r,y.cps.toList=c::r:=by
    have:=M7 y iQ
    rw [<- lenL] at this;cases e:y.cps.toList with
    | nil=>rw [e] at this;simp at this
    | cons c r=>exact ⟨c,r,rfl⟩
   have M8:y.length<=640:=by have:=o9 y iQ;lia
   walk_at "rd";refine ⟨x,l,j,ll,ml,md,c,r,y,g,R,L,M,H0,es,_,rfl,xU,M8,hO0,hf y iQ,J,by have:=hs y;lia,by lia,fun v hv=>by have:=iD v hv;lia,fun es' H4 J4=>?_⟩;rw [<- ag6 hy] at J4;exact ⟨es',J4⟩
  rintro Y H3 ⟨u,es,rfl,J⟩;rw [A2,K4] at J;obtain ⟨C5,iD⟩:=oV (S:=stepY R L M) hs ps;have b0:=Paired.length J.row;generalize N5 (stepY R L M) ps=U at J C5 iD b0 q;walk_at "rd";refine ⟨⟨_,.of J.top⟩,aq1 (xs:=es.map fun e=>V.ref e.1) [] rfl (fun D i ys H4=>∃ fs:List (Addr×Addr),ys=fs.map (fun e=>V.ref e.1)/\Same H3 H4/\Paired (fun e (u:C9)=>H4 e.1=some (.tup [.int u.1,.int u.2.1,.ref e.2,.int u.2.2.2])/\H4 e.2=some (.tup (u.2.2.1.map V.int))) fs (U.take i)) (fun D nD=>⟨[],rfl,Same.new nD,.nil⟩) (by rintro D i ys H4 nD _ ⟨_,_,S,_⟩;exact .of (S _ _ J.top)) ?_ ?_⟩
  .rintro D i v ys H4 nD hi hv ⟨fs,rfl,S4,P⟩ hD M8;obtain ⟨e,he,rfl⟩:=G7 hv;obtain ⟨w,hw,Y8⟩:=Paired.at J.row he;have j4:fs.length<=7500:=by
    have:=Paired.length P
    rw [F9] at this;lia
   refine ⟨e.1,_,_,_,_,rfl,.of (S4 _ _ Y8.1),?_⟩;walk_at "rd";refine rTupR.l (.of (S4 _ _ Y8.2)) fun m nm=>⟨by decide,fun t nt=>?_⟩
   have S5:Same H4 (A0 (A0 H4 m (.tup (w.2.2.1.map V.int))) t (.tup [V.int w.1,V.int w.2.1,V.ref m,V.int w.2.2.2])):=(Same.new nm).trans (Same.new nt);have xV:A0 (A0 H4 m (.tup (w.2.2.1.map V.int))) t (.tup [V.int w.1,V.int w.2.1,V.ref m,V.int w.2.2.2]) m=some (.tup (w.2.2.1.map V.int)):=D6 A3 nt;have xW:A0 (A0 H4 m (.tup (w.2.2.1.map V.int))) t (.tup [V.int w.1,V.int w.2.1,V.ref m,V.int w.2.2.2]) t=some (.tup [V.int w.1,V.int w.2.1,V.ref m,V.int w.2.2.2]):=A3;generalize A0 (A0 H4 m (.tup (w.2.2.1.map V.int))) t (.tup [V.int w.1,V.int w.2.1,V.ref m,V.int w.2.2.2])=H5 at S5 xV xW;have hD5:=S5 _ _ hD;have dn:∀ {b:Addr} {xs:List V},H5 b=some (.tup xs)->b≠D:=fun h q=>by rw [q,hD5] at h;cases h
   refine ⟨hD5,by rw [A2];exact K0 (by lia),hi,by rw [D1,V3];lia,⟨_,_,_,_,rfl⟩,fs++[(t,m)],by rw [E1];rfl,(S4.trans S5).put nD,?_⟩;rw [L4 hw];refine Paired.snoc (K7 P fun f w h=>⟨?_,?_⟩) ⟨?_,?_⟩
   .rw [A4 (dn (S5 _ _ h.1))];exact S5 _ _ h.1
   .rw [A4 (dn (S5 _ _ h.2))];exact S5 _ _ h.2
   .rw [A4 (dn xW)];exact xW
   .rw [A4 (dn xV)];exact xV
  rintro D ys H4 nD ⟨fs,rfl,S4,P⟩ hD M8;rw [A2,b0,K4] at P;have SS:Same H H3:=S0.trans J.same;exact q D H4 (SS.free nD) (SS.trans S4) ⟨fs,hD,P⟩
theorem sc_looks:FnScope ["order", "text", "made", "marks"] ["order", "text"] (B1 X1):=F8
abbrev pL:List Str:=["order", "text", "made", "marks"]
theorem vcw:VS pL X1 "order" 0:=vq
theorem vcx:VS pL X1 "text" 1:=vq
theorem vN:VS pL X1 "made" 2:=vq
theorem vcz:VS pL X1 "marks" 3:=vq
theorem vcA:LS X1 "made":=lq
theorem vcB:LS X1 "marks":=lq
theorem al7(F:FunD K "looks" "looks" X1 f fd)(T:Txt P w K mg C C_NoSign)(G_units:O1 P w K mg base 6 "units" ["order", "text"] [] (pD C C_NoSign)):FnOk P w K mg base (T0 P w) 7 f fd ["order", "text"] (uS C C_NoSign):=by
 refine F.okX sc_looks ?_ ?_
 .rintro _ _ _ _ ⟨x,j,ll,ml,md,z,g,R,L,M,rfl,_⟩;rfl
 .intro cdv A outer s H vs Q E hr h;have C5:=hu_of hr;have hu:=hr.units;refine ⟨_,QSs.out (A9 (D8 (n:=2) sc_looks.nd rfl vcA (y4 G_units (hm hr) y3 (qa_c (vi vcw) (qa_c (vi vcx) A1))))
   (A9 (jQ (n:=3) sc_looks.nd rfl vcB (T5:CompOk ["order", "text", "made", "marks"] (B1 X1).names _ ["unit"] 1 []) (O5 (K:=K) (vi vN)) (fun _ _ _ _ _=>D0 (n:=0) (show List.Nodup (["unit"]:List Str) by decide +kernel) rfl (Or.inl rfl)) (fun _ _ _ _ _=>i5) (fun _ _ _ _ _=>(qe_ix (K:=K) (qv 0) A5)))
   (dH (qs_if (X0 (K:=K) (m3 (K:=K) (vi vcw))) (A8 (R7 (qe_m0 (K:=K) W7 PySem.F.slot_list_reverse PySem.F.type_list_reverse ajD (vi vcz)))) M9)
   (A8 (E2 (T8 (qa_c (X8  (T5:CompOk ["order", "text", "made", "marks"] (B1 X1).names _ ["unit"] 1 []) (O5 (K:=K) (vi vN)) (fun _ _ _ _ _=>D0 (n:=0) (show List.Nodup (["unit"]:List Str) by decide +kernel) rfl (Or.inl rfl)) (fun _ _ _ _ _=>i5) (fun _ _ _ _ _=>(Q5 (K:=K) (qv 0) Z3 (M3 A5)))) (qa_c (vi vcz) (qa_c (X8  (T5:CompOk ["order", "text", "made", "marks"] (B1 X1).names _ ["unit"] 1 []) (O5 (K:=K) (vi vN)) (fun _ _ _ _ _=>D0 (n:=0) (show List.Nodup (["unit"]:List Str) by decide +kernel) rfl (Or.inl rfl)) (fun _ _ _ _ _=>i5) (fun _ _ _ _ _=>(qe_ix (K:=K) (qv 0) A5))) (qa_c (vi vcx) A1)))))))))),?_⟩
  obtain ⟨x,j,ll,ml,md,z,g,R,L,M,rfl,hO,hk,hz,hs,q1,q2⟩:=h;obtain ⟨b1,b2,b3⟩:=aei hs (w:=hasW R "figures") (ks:=C2 R) (y:=z) hz;walk_at "rd";refine ⟨x,j,ll,ml,md,z,g,R,L,M,rfl,hO,hk,hz,hs,fun hw u H1 nu S1 hU=>?_,q2⟩;have q:=q1 hw;clear q1 q2;generalize N5 (stepY R L M) (cutF (hasW R "figures") (C2 R) z.cps.toList).2=U at *;obtain ⟨es,e1,e2⟩:=hU;have b0:=Paired.length e2;walk_at "rd";refine ⟨⟨_,.of e1⟩,compL (xs:=es.map fun e=>V.ref e.1) [] rfl (fun D i ys H2=>Same H1 H2/\ys=(es.take i).map fun e=>V.ref e.2) (fun D nD=>⟨Same.new nD,rfl⟩) (by rintro D i ys H2 nD _ ⟨S,_⟩;exact .of (S _ _ e1)) ?_ ?_⟩
  .rintro D i y ys H2 nD hi hy ⟨S2,rfl⟩ hD M8;obtain ⟨e,he,rfl⟩:=G7 (f:=fun e:Addr×Addr=>V.ref e.1) hy;obtain ⟨w,qT,Y8⟩:=Paired.at e2 he;have mH:i<es.length:=(G1.mp he).1;walk_at "rd";refine ⟨_,.inr (.of (S2 _ _ Y8.1)),V.ref e.2,P8 (j:=2) rfl,hD,by simp only [A2,F9];exact K0 (by lia),CW.put hi M8 ⟨S2.put nD,?_⟩⟩;rw [L4 he,E1];rfl
  rintro D ys H2 nD ⟨S2,rfl⟩ hD _;rw [A2,K4] at hD;have qF:=adM e2;refine sU (fun Y H'=>Y=[some (.ref x),some (.str z),some (.ref u),some (.ref D)]/\Same H1 H'/\∃ qU:List Addr,H' D=some (.lst (qU.map V.ref))/\Paired (fun c (x:List Int)=>H1 c=some (.tup (x.map V.int))) qU ((if hasW R "behind"=true then U.reverse else U).map fun u=>u.2.2.1)) ?_ ?_
  .obtain ⟨dx,ho⟩:=hO.ob;walk_at "rd";refine ⟨_,_,_,S2 _ _ (S1 _ _ ho),T.cl,T.na_behind,_,agY _ _ _ _ _ _,_,rfl,?_⟩
   by_cases hb:hasW R "behind"=true
   .rw [if_pos hb,if_pos hb];refine ⟨V9 hD,D,_,rfl,rfl,hD,S2.put nD,(es.map (·.2)).reverse,?_,?_⟩
    .rw [A3,List.map_reverse,f6];rfl
    .rw [List.map_reverse];exact ae0 qF
   .rw [if_neg hb,if_neg hb];refine ⟨S2,es.map (·.2),?_,qF⟩;rw [hD,f6];rfl
  rintro Y H3 ⟨rfl,S3,qU,hD3,hP3⟩;clear hD S2 qF;have iE:=S3 _ _ e1;walk_at "rd";refine ⟨⟨_,.of iE⟩,compL (xs:=es.map fun e=>V.ref e.1) [] rfl (fun D i ys H2=>Same H3 H2/\∃ as:List Addr,ys=as.map V.ref/\Paired (fun c (x:List Int)=>H2 c=some (.tup (x.map V.int))/\H3 c=none/\c≠D) as ((U.take i).map fun u=>[u.1,u.2.1])) (fun D nD=>⟨Same.new nD,[],rfl,.nil⟩) (by rintro D i ys H2 nD _ ⟨S,_⟩;exact .of (S _ _ iE)) ?_ ?_⟩
  .rintro D i y ys H2 nD2 hi hy ⟨S2,as,rfl,hP⟩ hD M8;obtain ⟨e,he,rfl⟩:=G7 (f:=fun e:Addr×Addr=>V.ref e.1) hy;obtain ⟨w,qT,Y8⟩:=Paired.at e2 he;have mH:i<es.length:=(G1.mp he).1;have mO:=Paired.length hP;rw [A2,F9] at mO;walk_at "rd";refine rSlR.t (.of (S2 _ _ (S3 _ _ Y8.1))) (by simp [HT.sIx]) fun p np=>?_
   rw [show cutV [V.int w.1,V.int w.2.1,V.ref e.2,V.int w.2.2.2] none (some 2)=[w.1,w.2.1].map V.int from nZ _ 2];have S4:Same H2 (A0 H2 p (.tup ([w.1,w.2.1].map V.int))):=Same.new np;have cE:A0 H2 p (.tup ([w.1,w.2.1].map V.int)) p=some (.tup ([w.1,w.2.1].map V.int)):=A3;have hpD:p≠D:=fun e=>by rw [e,hD] at np;cases np
   generalize A0 H2 p (.tup ([w.1,w.2.1].map V.int))=H4 at S4 cE;refine ⟨S4 _ _ hD,by rw [A2];exact K0 (by lia),CW.put hi M8 ⟨(S2.trans S4).put nD2,as++[p],by rw [E1];rfl,?_⟩⟩;rw [L4 qT,E1];exact Paired.snoc (K7 hP fun c x ⟨h1,h2,h3⟩=>⟨by rw [A4 h3];exact S4 _ _ h1,h2,h3⟩) ⟨by rw [A4 hpD];exact cE,S2.free np,hpD⟩
  rintro D4 ys H4 nD4 ⟨S4,as1,rfl,hP4⟩ hD4 _;rw [A2,b0,K4] at hP4;have xX:=S4 _ _ iE;refine ⟨⟨_,.of xX⟩,compL (xs:=es.map fun e=>V.ref e.1) [] rfl (fun D i ys H2=>Same H4 H2/\ys=((U.take i).map fun u=>u.2.2.2).map V.int) (fun D nD=>⟨Same.new nD,rfl⟩) (by rintro D i ys H2 nD _ ⟨S,_⟩;exact .of (S _ _ xX)) ?_ ?_⟩
  .rintro D i y ys H2 nD2 hi hy ⟨S2,rfl⟩ hD M8;obtain ⟨e,he,rfl⟩:=G7 (f:=fun e:Addr×Addr=>V.ref e.1) hy;obtain ⟨w,qT,Y8⟩:=Paired.at e2 he;have mH:i<es.length:=(G1.mp he).1;walk_at "rd";refine ⟨_,.inr (.of (S2 _ _ (S4 _ _ (S3 _ _ Y8.1)))),V.int w.2.2.2,P8 (j:=3) rfl,hD,by simp only [A2,F9];exact K0 (by lia),CW.put hi M8 ⟨S2.put nD2,?_⟩⟩;rw [L4 qT,E1,E1];rfl
  rintro D5 ys H5 nD5 ⟨S5,rfl⟩ hD5 _;rw [A2,b0,K4] at hD5;refine ⟨by decide,fun p np=>?_⟩;have S6:Same H5 (A0 H5 p (.lst [V.ref D4,V.ref D,V.ref D5,V.str z])):=Same.new np;have xY:=S4.trans (S5.trans S6);refine q p _ ((S1.trans (S3.trans (S4.trans S5))).free np) (S1.trans (S3.trans xY)) ⟨_,A3,.cons ?_ (.cons ?_ (.cons ?_ (.cons rfl .nil)))⟩
  .exact ⟨D4,as1,rfl,(S5.trans S6) _ _ hD4,K7 hP4 fun c x h=>(S5.trans S6) _ _ h.1⟩
  .exact ⟨D,qU,rfl,xY _ _ hD3,K7 hP3 fun c x h=>xY _ _ (S3 _ _ h)⟩
  .exact ⟨D5,rfl,S6 _ _ hD5⟩
theorem sc_compare:FnScope ["order", "one", "other", "strength", "ours", "theirs", "level"] ["order", "one", "other", "strength"] (B1 W1):=F8
abbrev dY:List Str:=["order", "one", "other", "strength", "ours", "theirs", "level"]
theorem vcC:VS dY W1 "order" 0:=vq
theorem vcD:VS dY W1 "one" 1:=vq
theorem vcE:VS dY W1 "other" 2:=vq
theorem vcF:VS dY W1 "strength" 3:=vq
theorem vcG:VS dY W1 "ours" 4:=vq
theorem vcH:VS dY W1 "theirs" 5:=vq
theorem pM:VS dY W1 "level" 6:=vq
theorem vcJ:LS W1 "ours":=lq
theorem vcK:LS W1 "theirs":=lq
theorem vcL:LS W1 "level":=lq
theorem ae7(F:FunD K "compare" "compare" W1 f fd)(T:Txt P w K mg C C_NoSign)(G_looks:O1 P w K mg base 7 "looks" ["order", "text"] [] (uS C C_NoSign)):FnOk P w K mg base (T0 P w) 8 f fd ["order", "one", "other", "strength"] (kO C C_NoSign):=by
 refine F.okX sc_compare ?_ ?_
 .rintro _ _ _ _ ⟨x,j,ll,ml,md,z,z',n,g,R,L,M,rfl,_⟩;rfl
 .intro cdv A outer s H vs Q E hr h;have C5:=hu_of hr;have hu:=hr.units;refine ⟨_,QSs.out (A9 (D8 (n:=4) sc_compare.nd rfl vcJ (y4 G_looks (hm hr) y3 (qa_c (vi vcC) (qa_c (vi vcD) A1))))
   (A9 (D8 (n:=5) sc_compare.nd rfl vcK (y4 G_looks (hm hr) y3 (qa_c (vi vcC) (qa_c (vi vcE) A1))))
   (A9 (P1 PassesOwn.leaving (qi_r1 T.b_range (qa_c (vi vcF) A1)) (D0 (n:=6) sc_compare.nd rfl vcL (.inl rfl)) (A8 (qs_if (G5 (q_ne (K:=K) hu) (qe_ix (K:=K) (vi vcG) (vi pM)) (qe_ix (K:=K) (vi vcH) (vi pM))) (A8 (E2 (ahH (G5 (q_ltK hu (K:=K)) (qe_ix (K:=K) (vi vcG) (vi pM)) (qe_ix (K:=K) (vi vcH) (vi pM))) (qe_un q_neg A5) A5))) M9)))
   (A8 (E2 A5))))),?_⟩
  obtain ⟨x,j,ll,ml,md,z,z',n,g,R,L,M,rfl,hn,hO,hk,hz,cC,hs,q1,q2,q3⟩:=h;walk_at "rd";refine ⟨x,j,ll,ml,md,z,g,R,L,M,rfl,hO,hk,hz,hs,fun hw l H1 nl S1 hl=>?_,q2⟩;refine ⟨x,j,ll,ml,md,z',g,R,L,M,rfl,hO.same S1,hk,cC,hs,fun eZ l' H2 nl' S2 hl'=>?_,fun eZ=>(q3 hw eZ).same S1⟩;have q:=q1 hw eZ;clear q1 q2 q3;have hkd:=aha (hasW R "behind") (hasW R "behind") (N5 (stepY R L M) (cutF (hasW R "figures") (C2 R) z.cps.toList).2) (N5 (stepY R L M) (cutF (hasW R "figures") (C2 R) z'.cps.toList).2) z z';have v6:=hl.same S2;have A6:(z0 (hasW R "behind") (N5 (stepY R L M) (cutF (hasW R "figures") (C2 R) z.cps.toList).2) z).length=4:=rfl;have hlen':(z0 (hasW R "behind") (N5 (stepY R L M) (cutF (hasW R "figures") (C2 R) z'.cps.toList).2) z').length=4:=rfl;unfold uF at q;generalize z0 (hasW R "behind") (N5 (stepY R L M) (cutF (hasW R "figures") (C2 R) z.cps.toList).2) z=ds at *;generalize z0 (hasW R "behind") (N5 (stepY R L M) (cutF (hasW R "figures") (C2 R) z'.cps.toList).2) z'=ds' at *;obtain ⟨vs,v1,v2⟩:=v6;obtain ⟨vs',w1,w2⟩:=hl';have z1:=Paired.length v2;have z2:=Paired.length w2;refine ⟨by lia,by lia,forRs (fun i Y H'=>(∃ u:Option V,Y=[some (.ref x),some (.str z),some (.str z'),some (.int n),some (.ref l),some (.ref l'),u])/\H'=H2/\∀ k<i,ds[k]?=ds'[k]?) ⟨⟨none,rfl⟩,rfl,by simp⟩ ?_ ?_⟩
  .rintro P' Bk hP i Y H' hi ⟨⟨u,rfl⟩,rfl,cB⟩;have J8:i<n:=by simpa using hi
   have a1:vs[i]?=some vs[i]:=K2 (by lia);have a2:vs'[i]?=some vs'[i]:=K2 (by lia);obtain ⟨d,hd,ld⟩:=Paired.at v2 a1;obtain ⟨d',eB,ld'⟩:=Paired.at w2 a2;have kd:=hkd i d d' hd eB;generalize vs[i]=v at *;generalize vs'[i]=v' at *;have i1:G0 vs (0+(i:Int))=some v:=by rw [Int.zero_add];exact P8 a1
   have i2:G0 vs' (0+(i:Int))=some v':=by rw [Int.zero_add];exact P8 a2
   walk_at "rd";refine ⟨_,.inl (.of v1),_,i1,_,.inl (.of w1),_,i2,LvAt.ne ld ld' kd ⟨_,rfl,?_⟩⟩
   by_cases mS:d=d'
   .rw [if_neg (by simp [mS])];refine hP _ _ _ ⟨⟨_,rfl⟩,rfl,fun k hk=>?_⟩
    by_cases hki:k=i
    .rw [hki,hd,eB,mS]
    .exact cB k (by lia)
   .rw [if_pos (by simp [mS])];have hq:=q H' (S1.trans S2);rw [al0 J8 hd eB cB mS] at hq;unfold cmpD at hq;rw [if_neg mS] at hq;refine ⟨_,.inl (.of v1),_,i1,_,.inl (.of w1),_,i2,LvAt.lt ld ld' kd ⟨_,rfl,?_⟩⟩
    by_cases C3:d.lt d'=true
    .rw [if_pos C3] at hq ⊢
     exact hq
    .rw [if_neg C3] at hq ⊢
     exact hq
  rintro Y H' ⟨⟨u,rfl⟩,rfl,cB⟩;walk_at "rd"
  have:=q H' (S1.trans S2)
  rw [akp (by simpa using cB)] at this;exact this
theorem sc_starts:FnScope ["parts", "places", "part"] ["parts"] (B1 bS):=F8
abbrev vO:List Str:=["parts", "places", "part"]
theorem vcM:VS vO bS "parts" 0:=vq
theorem vP:VS vO bS "places" 1:=vq
theorem vcO:VS vO bS "part" 2:=vq
theorem vcP:LS bS "places":=lq
theorem vcQ:LS bS "part":=lq
theorem akA(F:FunD K "starts" "starts" bS f fd)(T:Txt P w K mg C C_NoSign):FnOk P w K mg base E4 1 f fd ["parts"] (uM K):=by
 refine F.ok sc_starts ?_ ?_
 .rintro _ _ _ _ ⟨a,zs,rfl,_⟩;rfl
 .intro cdv A outer s H vs Q E hr h;have C5:=hu_of hr;have hu:=hr.units;refine ⟨_,QSs.out (A9 (D8 (n:=1) sc_starts.nd rfl vcP (T8 (qa_c A5 A1)))
   (A9 (P1 PassesOwn.never (O5 (K:=K) (vi vcM)) (D0 (n:=2) sc_starts.nd rfl vcQ (.inl rfl)) (A8 (R7 (qe_mB (K:=K) W7 g3 g0 i6 (vi vP) (qa_c (qe_op (q_add (K:=K)) (qe_ix (K:=K) (vi vP) (qe_un q_neg A5)) (qe_cB (q_len (K:=K)) T.b_len T7 (qa_c (vi vcO) A1))) A1)))))
   (A8 (E2 (vi vP))))),?_⟩
  obtain ⟨a,zs,rfl,hS,hl,hz,q⟩:=h;walk_at "rd";refine ⟨by decide,fun p np=>⟨⟨_,(Same.new np).seq hS⟩,forL (xs:=zs.map V.str) (fun i Y H2=>∃ u:Option V,Y=[some (.ref a),some (.ref p),u]/\Same H H2/\H2 p=some (.lst ((t8 zs (i+1)).map V.int))) ⟨none,rfl,Same.new np,A3⟩ (by rintro i Y H2 _ ⟨_,_,S,_⟩;exact S.seq hS) ?_ ?_⟩⟩
  .rintro i x Y H2 hx ⟨u,rfl,S,hp⟩;obtain ⟨z,hk,rfl⟩:=G7 hx;have hi:i<zs.length:=(G1.mp hk).1;have O9:=hz z (N4 hk);walk_at "rd";refine ⟨V9 hp,_,.inl (.of hp),V.int (Z5 (zs.take i):Nat),?_,i4 (by lia),?_⟩
   .rw [ah3,E1];exact zG _ _
   .walk_at "rd";refine appOk hp (by rw [A2,uK];exact K0 (by lia)) ⟨S.put np,?_⟩;rw [A3,ah3 zs (i+1),E1,al4 hk];rfl
  .rintro Y H2 ⟨u,rfl,S,hp⟩;rw [A2] at hp;walk_at "rd";exact q p H2 np S hp
theorem ahu:FnScope ["order", "parts", "at"] ["order", "parts", "at"] (B1 gN):=F8
abbrev vQ:List Str:=["order", "parts", "at"]
theorem vcR:VS vQ gN "order" 0:=vq
theorem vcS:VS vQ gN "parts" 1:=vq
theorem vR:VS vQ gN "at" 2:=vq
theorem ahv(F:FunD K "is_joint" "is_joint" gN f fd)(T:Txt P w K mg C C_NoSign)(G_Order_job:MO P w K mg base 1 C "job" ["self", "piece"] (tS C)):FnOk P w K mg base E4 2 f fd ["order", "parts", "at"] (spIsJ C):=by
 refine F.ok ahu ?_ ?_
 .rintro _ _ _ _ ⟨x,j,ll,ml,md,a,i,zs,ns,R,L,M,rfl,_⟩;rfl
 .intro cdv A outer s H vs Q E hr h;have C5:=hu_of hr;have hu:=hr.units;refine ⟨_,QSs.out (A8 (E2 (qe_or (fZ (q_eq (K:=K) hu) (vi vR) A5) (qe_or (fZ (q_eq (K:=K) hu) (vi vR) (qe_cB (q_len (K:=K)) T.b_len T7 (qa_c (vi vcS) A1))) (sP (fZ (q_ne (K:=K) hu) (ajQ (vi vcR) G_Order_job (hm hr) (qa_c (qe_ix (K:=K) (vi vcS) (vi vR)) A1)) N3)))))),?_⟩;obtain ⟨x,j,ll,ml,md,a,i,zs,ns,R,L,M,rfl,hO,G,ha,hi,q⟩:=h;obtain ⟨dx,h1⟩:=hO.ob;walk_at "rd";refine iteD (fun h0=>?_) fun h0=>⟨zs.length,.inl ⟨_,.of ha,by rw [A2]⟩,iteD (fun h2=>?_) fun h2=>?_⟩
  .have e:i=0:=by lia
   rw [show jntB M zs i=true by simp [jntB,e]] at q;exact q
  .have e:i=zs.length:=by lia
   rw [show jntB M zs i=true by simp [jntB,e]] at q;exact q
  have mH:i<zs.length:=by lia
  obtain ⟨w,hw⟩:∃ w,zs[i]?=some w:=⟨_,K2 mH⟩
  refine ⟨_,_,h1,tJ _ _ _ _ _ _ (by decide +kernel),_,.inl (.of ha),V.str w,P8 (by rw [P6,hw];rfl),x,j,ll,ml,md,w,U0 R,R,L,M,rfl,hO,?_⟩;rw [show jntB M zs i=!decide (w∈M) by
   unfold jntB dueB;rw [hw,decide_eq_false (by lia),decide_eq_false (by lia)]
   simp] at q
  have hj:=G.jm w
  by_cases hk:w∈keysP (C8 R)++U7 R
  .rw [if_pos hk] at hj ⊢
   obtain ⟨s,hs⟩:∃ s,jobG (U0 R) w=V.str s:=by
    unfold jobG
    split
    .exact ⟨_,rfl⟩
    .exact ⟨_,rfl⟩
   rw [hs] at hj ⊢
   show Q (.bl (!decide (s=Str.ofString "mark"))) H;rw [show decide (s=Str.ofString "mark")=decide (w∈M) from decide_eq_decide.mpr ⟨fun e=>hj.mp (by rw [e]),fun h=>V.str.inj (hj.mpr h)⟩];exact q
  .rw [if_neg hk] at hj ⊢
   have hm:w∉M:=fun h=>by cases hj.mpr h
   rw [decide_eq_false hm] at q;exact ⟨_,_,.non,.str _ (by decide +kernel),by decide,q⟩
theorem sc_joints:FnScope ["order", "text", "parts"] ["order", "text"] (B1 m6):=F8
abbrev vS:List Str:=["order", "text", "parts"]
theorem vcU:VS vS m6 "order" 0:=vq
theorem vcV:VS vS m6 "text" 1:=vq
theorem vcW:VS vS m6 "parts" 2:=vq
theorem vcX:LS m6 "parts":=lq
theorem akB(F:FunD K "joints" "joints" m6 f fd)(T:Txt P w K mg C C_NoSign)(G_parts_of:O1 P w K mg base 5 "parts_of" ["order", "text"] [] (kN C C_NoSign))(G_starts:FO P w K mg base 1 "starts" ["parts"] [] (uM K))(G_is_joint:FO P w K mg base 2 "is_joint" ["order", "parts", "at"] [] (spIsJ C)):FnOk P w K mg base (T0 P w) 6 f fd ["order", "text"] (uT C C_NoSign):=by
 refine F.okX sc_joints ?_ ?_
 .rintro _ _ _ _ ⟨x,j,ll,ml,md,z,ns,R,L,M,rfl,_⟩;rfl
 .intro cdv A outer s H vs Q E hr h;have C5:=hu_of hr;have hu:=hr.units;refine ⟨_,QSs.out (A9 (D8 (n:=2) sc_joints.nd rfl vcX (y4 G_parts_of (hm hr) y3 (qa_c (vi vcU) (qa_c (vi vcV) A1))))
   (A8 (E2 (X8  (T5:CompOk ["order", "text", "parts"] (B1 m6).names _ ["at", "place", "order", "parts"] 2 [0,2]) (oF T.b_enumerate (qa_c (D7 G_starts (hm hr) (qa_c (vi vcW) A1)) A1)) (fun _ _ _ _ _=>(q5 (K:=K) (n:=2) (P9 (D0 (n:=0) (show List.Nodup (["at", "place", "order", "parts"]:List Str) by decide +kernel) rfl (Or.inl rfl)) (P9 (D0 (n:=1) (show List.Nodup (["at", "place", "order", "parts"]:List Str) by decide +kernel) rfl (Or.inl rfl)) p9)))) (fun _ _ _ _ _=>(dG (X0 (K:=K) (D7 G_is_joint (hm hr) (qa_c (qv 2) (qa_c (qv 3) (qa_c (qv 0) A1))))))) (fun _ _ _ _ _=>(qv 1)))))),?_⟩
  obtain ⟨x,j,ll,ml,md,z,ns,R,L,M,rfl,hO,G,hz,q1,q2⟩:=h;have hf:=(jZ (w:=hasW R "figures") (g:=C2 R) _ z.cps.toList (B3 _)).2.1;have hy:=oW (w:=hasW R "figures") (g:=C2 R) _ z.cps.toList (B3 _);rw [lenL] at hf hy;walk_at "rd";refine ⟨x,j,ll,ml,md,z,U0 R,R,L,M,rfl,hO,G.known_len,by lia,fun hw a H1 na S1 ha=>?_,q2⟩;have q:=q1 hw;clear q1 q2;generalize (cutF (hasW R "figures") (C2 R) z.cps.toList).2=zs at hf hy ha q;refine ⟨a,zs,rfl,.of ha,by lia,fun y qG=>by have:=hy y qG;lia,fun l H2 nl S2 hl=>?_⟩;have ha2:=S2 _ _ ha;have J7:=uK zs (zs.length+1);walk_at "rd";refine ⟨⟨_,hl⟩,compE (xs:=(t8 zs (zs.length+1)).map V.int) [some (.ref x),some (.ref a)] rfl (fun D i ys H3=>Same H2 H3/\ys=(jntL M zs i).map V.int) (fun D nD=>⟨Same.new nD,rfl⟩) (by rintro D i ys H3 nD _ ⟨S,_⟩;exact S _ _ hl) ?_ ?_⟩
  .rintro D i y t ys H3 nD hi hy3 ⟨S3,rfl⟩ hD M8 nt;obtain ⟨v,hv,rfl⟩:=G7 hy3;have j3:i<zs.length+1:=by rw [A2,J7] at hi;exact hi
   rw [uL zs j3] at hv;obtain rfl:=Option.some.inj hv;have S4:Same H3 (A0 H3 t (.tup [V.int i,V.int ((Z5 (zs.take i):Nat):Int)])):=Same.new nt;generalize A0 H3 t (.tup [V.int i,V.int ((Z5 (zs.take i):Nat):Int)])=H4 at S4;have aN:=S1.trans (S2.trans (S3.trans S4));have hjl:=ah4 M zs i;walk_at "rd";refine ⟨x,j,ll,ml,md,a,i,zs,ns,R,L,M,rfl,hO.same aN,G,S4 _ _ (S3 _ _ ha2),by lia,_,rfl,?_⟩
   by_cases hb:jntB M zs i=true
   .rw [if_pos hb];refine ⟨S4 _ _ hD,by rw [A2];exact K0 (by lia),dM.put hi M8 ⟨(S3.trans S4).put nD,?_⟩⟩;rw [jntL,if_pos hb,E1];rfl
   .rw [if_neg hb];exact ⟨S4 _ _ hD,hi,Nat.le_succ_of_le M8,⟨_,_,rfl⟩,S3.trans S4,by rw [jntL,if_neg hb]⟩
  rintro D ys H3 nD ⟨S3,rfl⟩ hD _;rw [A2,J7,aoo] at hD;exact q D H3 ((S1.trans S2).free nD) (S1.trans (S2.trans S3)) hD
theorem aor:FnScope ["unit", "strength"] ["unit", "strength"] (B1 kJ):=F8
abbrev amA:List Str:=["unit", "strength"]
theorem pN:VS amA kJ "unit" 0:=vq
theorem vcZ:VS amA kJ "strength" 1:=vq
theorem aos(F:FunD K "seen" "seen" kJ f fd)(T:Txt P w K mg C C_NoSign):FnOk P w K mg base E4 1 f fd ["unit", "strength"] (pA K):=by
 refine F.ok aor ?_ ?_
 .rintro _ _ _ _ ⟨a,m,s,u,rfl,_⟩;rfl
 .intro cdv A outer s H vs Q E hr h;have C5:=hu_of hr;have hu:=hr.units;refine ⟨_,QSs.out (A8 (E2 (Q5 (K:=K) (R0 (qa_c (qe_ix (K:=K) (vi pN) A5) (qa_c (qe_ix (K:=K) (vi pN) A5) (qa_c (qe_cT (nY (K:=K)) T.b_tuple nR (qa_c (qe_ix (K:=K) (vi pN) A5) A1)) (qa_c (qe_ix (K:=K) (vi pN) A5) A1))))) Z3 (M3 (qe_op (q_add (K:=K)) (vi vcZ) A5))))),?_⟩;obtain ⟨a,m,s,u,rfl,hs,ha,hm,hl,q⟩:=h;walk_at "rd";refine ⟨_,.inr (.of ha),_,W0 _ _,_,.inr (.of ha),_,P8 (j:=1) rfl,_,.inr (.of ha),_,P8 (j:=2) rfl,?_⟩;walk_at "rd";have go:∀ (m2:Addr) (H1:Hp),Same H H1->H1 m2=some (.tup (u.2.2.1.map V.int))->∃ xs,(C7 K H1 a xs\/C4 K H1 a xs)/\∃ x,G0 xs 3=some x/\4<=sizeLine/\∀ p,H1 p=none->rSlR K p none (some ((s:Int)+1)) (A0 H1 p (.tup [V.int u.1,V.int u.2.1,.ref m2,x])) Q:=fun m2 H1 S1 h1=>by
   refine ⟨_,.inr (.of (S1 _ _ ha)),_,P8 (j:=3) rfl,by decide,fun p np=>?_⟩;have S2:Same H1 (A0 H1 p (.tup [V.int u.1,V.int u.2.1,.ref m2,V.int u.2.2.2])):=Same.new np;have hp:A0 H1 p (.tup [V.int u.1,V.int u.2.1,.ref m2,V.int u.2.2.2]) p=some (.tup [V.int u.1,V.int u.2.1,.ref m2,V.int u.2.2.2]):=A3;have mF:=S1.free np;generalize A0 H1 p (.tup [V.int u.1,V.int u.2.1,.ref m2,V.int u.2.2.2])=H2 at S2 hp;have ei:HT.sIx 4 4 (some ((s:Int)+1))=min (s+1) 4:=by
    rw [show (s:Int)+1=((s+1:Nat):Int) by lia,HT.sIx_nat]
   by_cases h3:3<=s
   .refine rSlR.w (.of hp) ⟨rfl,?_⟩ (q p H2 mF (S1.trans S2) ⟨m2,S2 _ _ h1,?_⟩)
    .show HT.sIx 4 4 _=4;rw [ei];lia
    .rw [hp,X3 (by simp;lia)]
   .refine rSlR.t (.of hp) (fun e=>?_) fun p3 xZ=>?_
    .have e2:HT.sIx 4 4 (some ((s:Int)+1))=4:=e.2;rw [ei] at e2;lia
    .rw [show (s:Int)+1=((s+1:Nat):Int) by lia,nZ];exact q p3 _ ((S1.trans S2).free xZ) (S1.trans (S2.trans (Same.new xZ))) ⟨m2,D6 (S2 _ _ h1) xZ,A3⟩
  rcases hm with hm | hm
  .exact rTupR.l (.of hm) fun l nl=>go l _ (Same.new nl) A3
  .exact rTupR.t (.of hm) (go m H (cZ H) hm)
theorem sc_count_alike:FnScope ["made", "wanted", "strength", "count", "most"] ["made", "wanted", "strength", "count"] (B1 t7):=F8
abbrev kW:List Str:=["made", "wanted", "strength", "count", "most"]
theorem vc0:VS kW t7 "made" 0:=vq
theorem vc1:VS kW t7 "wanted" 1:=vq
theorem vc2:VS kW t7 "strength" 2:=vq
theorem pO:VS kW t7 "count" 3:=vq
theorem vc4:VS kW t7 "most" 4:=vq
theorem vc5:LS t7 "count":=lq
theorem vc6:LS t7 "most":=lq
theorem aeH(F:FunD K "count_alike" "count_alike" t7 f fd)(T:Txt P w K mg C C_NoSign)(G_seen:FO P w K mg base 1 "seen" ["unit", "strength"] [] (pA K)):FnOk P w K mg base E4 2 f fd ["made", "wanted", "strength", "count"] (spCnt K):=by
 refine F.ok sc_count_alike ?_ ?_
 .rintro _ _ _ _ ⟨a,b,s,n,es,ws,U,W,rfl,_⟩;rfl
 .intro cdv A outer s H vs Q E hr h;have C5:=hu_of hr;have hu:=hr.units;refine ⟨_,QSs.out (A9 (D8 (n:=4) sc_count_alike.nd rfl vc6 (qe_cB (q_min (calm:=true)) T.b_min amh (qa_c (qe_op q_sub (qe_cB (q_len (K:=K)) T.b_len T7 (qa_c (vi vc0) A1)) A5) (qa_c (qe_cB (q_len (K:=K)) T.b_len T7 (qa_c (vi vc1) A1)) A1))))
   (A9 (nV PassesOwn.never (QW.pt (dF (G5 q_lt (vi pO) (vi vc4)) (gB (G5 (q_eq (K:=K) hu) (D7 G_seen (hm hr) (qa_c (qe_ix (K:=K) (vi vc0) (vi pO)) (qa_c (vi vc2) A1))) (qe_ix (K:=K) (vi vc1) (vi pO)))))) (A8 (sS (n:=3) sc_count_alike.nd rfl vc5 A5 sT)))
   (A8 (E2 (vi pO))))),?_⟩
  obtain ⟨a,b,s,n,es,ws,U,W,rfl,h1,h4,ha,hU,hb,hW,hUl,hWl,hm,hn,q⟩:=h;have el:=Paired.length hU;have wl:=Paired.length hW;walk_at "rd";refine ⟨es.length,.inl ⟨_,.of ha,by rw [A2]⟩,ws.length,.inl ⟨_,.of hb,by rw [A2]⟩,?_⟩;obtain ⟨mo,hmo⟩:∃ mo:Int,(if ((ws.length:Nat):Int)<((es.length:Nat):Int)-1 then ((ws.length:Nat):Int) else ((es.length:Nat):Int)-1)=mo:=⟨_,rfl⟩
  have hm1:∀ k:Nat,(k:Int)<mo↔k+1<U.length/\k<W.length:=fun k=>by
   rw [<- hmo]
   split <;> lia
  rw [hmo];refine nX (fun m Y H'=>∃ n':Nat,Y=[some (.ref a),some (.ref b),some (.int s),some (.int n'),some (.int mo)]/\Same H H'/\n<=n'/\n'<=10000/\m=10000-n'/\∀ k,n<=k->k<n'->AlkAt s U W k/\k+1<U.length/\k<W.length) (10000-n) ⟨n,rfl,cZ _,B3 _,hn,rfl,fun k k1 k2=>by lia⟩ ?_;rintro m Y H' ⟨n',rfl,S,yA,hn10,rfl,N6⟩;walk_at "rd"
  by_cases C3:(n':Int)<mo
  .rw [if_pos (decide_eq_true C3)];obtain ⟨l1,l2⟩:=(hm1 n').mp C3;have qV:es[n']?=some (es[n']'(by lia)):=K2 _;have yB:ws[n']?=some (ws[n']'(by lia)):=K2 _;generalize es[n']'(by lia)=e at qV;generalize ws[n']'(by lia)=f at yB;obtain ⟨u,hu,Y8⟩:=Paired.at hU qV;obtain ⟨v,hv,hvf⟩:=Paired.at hW yB;refine ⟨_,.inl (.of (S _ _ ha)),V.ref e.1,P8 (by rw [P6,qV];rfl),?_⟩;refine ⟨e.1,e.2,s,u,rfl,h4,S _ _ Y8.1,.inl (S _ _ Y8.2),hm u (N4 hu),fun l H1 nl S1 hl=>?_⟩;refine ⟨_,.inl (.of ((S.trans S1) _ _ hb)),V.ref f,P8 (by rw [P6,yB];rfl),?_⟩;walk_at "rd";refine ⟨_,hl.dn,_,(hvf.same (S.trans S1)).dn,E8 (Nat.min_le_left _ _) (E8 (ae2 _ _) (by decide)),?_⟩;rw [ah6 h1];have alk:AlkAt s U W n'↔seenK s u=seenK s v:=by
    unfold AlkAt;rw [P6,P6,hu,hv];show some (seenK s u)=some (seenK s v)↔_;exact ⟨Option.some.inj,congrArg some⟩
   by_cases qW:seenK s u=seenK s v
   .rw [if_pos (decide_eq_true qW)];refine ⟨fun σ' H2=>σ'=[some (.ref a),some (.ref b),some (.int s),some (.int ((n':Int)+1)),some (.int mo)]/\H2=H1,?_,rfl,rfl⟩;rintro σ' H2 ⟨rfl,rfl⟩;refine ⟨10000-(n'+1),by lia,n'+1,rfl,S.trans S1,by lia,by lia,rfl,fun k k1 k2=>?_⟩
    by_cases hk:k=n'
    .rw [hk];exact ⟨alk.mpr qW,l1,l2⟩
    .exact N6 k k1 (by lia)
   .rw [if_neg (by simpa using qW)];exact q n' _ (S.trans S1) yA N6 fun _ _ z=>qW (alk.mp z)
  .rw [if_neg (by simpa using C3)];exact q n' _ S yA N6 fun l1 l2=>absurd ((hm1 n').mpr ⟨l1,l2⟩) C3
theorem sc_ends_from:FnScope ["order", "parts", "first", "wanted", "strength", "ends", "made", "alike", "at", "last"] ["order", "parts", "first", "wanted", "strength"] (B1 T3):=F8
abbrev t9:List Str:=["order", "parts", "first", "wanted", "strength", "ends", "made", "alike", "at", "last"]
theorem vc7:VS t9 T3 "order" 0:=vq
theorem pP:VS t9 T3 "parts" 1:=vq
theorem vc9:VS t9 T3 "first" 2:=vq
theorem vT:VS t9 T3 "wanted" 3:=vq
theorem vdb:VS t9 T3 "strength" 4:=vq
theorem vdc:VS t9 T3 "ends" 5:=vq
theorem kX:VS t9 T3 "made" 6:=vq
theorem vde:VS t9 T3 "alike" 7:=vq
theorem pQ:VS t9 T3 "at" 8:=vq
theorem vdg:VS t9 T3 "last" 9:=vq
theorem vdh:LS T3 "ends":=lq
theorem vdi:LS T3 "made":=lq
theorem vdj:LS T3 "alike":=lq
theorem vdk:LS T3 "at":=lq
theorem vdl:LS T3 "last":=lq
theorem agJ(F:FunD K "ends_from" "ends_from" T3 f fd)(T:Txt P w K mg C C_NoSign)(G_add_part:FO P w K mg base 3 "add_part" ["order", "made", "part"] [] (tW C))(G_is_joint:FO P w K mg base 2 "is_joint" ["order", "parts", "at"] [] (spIsJ C))(G_seen:FO P w K mg base 1 "seen" ["unit", "strength"] [] (pA K))(G_count_alike:FO P w K mg base 2 "count_alike" ["made", "wanted", "strength", "count"] [] (spCnt K)):FnOk P w K mg base E4 4 f fd ["order", "parts", "first", "wanted", "strength"] (amy C):=by
 refine F.ok sc_ends_from ?_ ?_
 .rintro _ _ _ _ ⟨x,j,ll,ml,md,a,b,f,s,ws,zs,ns,R,L,M,W,rfl,_⟩;rfl
 .intro cdv A outer s H vs Q E hr h;have C5:=hu_of hr;have hu:=hr.units;refine ⟨_,QSs.out (A9 (D8 (n:=5) sc_ends_from.nd rfl vdh (T8 A1))
   (A9 (D8 (n:=6) sc_ends_from.nd rfl vdi (T8 A1))
   (A9 (D8 (n:=7) sc_ends_from.nd rfl vdj A5)
   (A9 (P1 PassesOwn.never (qi_r2 T.b_range (qa_c (vi vc9) (qa_c (qe_op (q_add (K:=K)) (qe_cB (q_len (K:=K)) T.b_len T7 (qa_c (vi pP) A1)) A5) A1))) (D0 (n:=8) sc_ends_from.nd rfl vdk (.inl rfl)) (A9 (D8 (n:=7) sc_ends_from.nd rfl vdj (D7 G_count_alike (hm hr) (qa_c (vi kX) (qa_c (vi vT) (qa_c (vi vdb) (qa_c (vi vde) A1))))))
   (A9 (qs_if (G5 q_lt (vi vde) (qe_op q_sub (qe_cB (q_len (K:=K)) T.b_len T7 (qa_c (vi kX) A1)) A5)) (A8 alq) M9)
   (A9 (jQ (n:=9) sc_ends_from.nd rfl vdl (T5:CompOk ["order", "parts", "first", "wanted", "strength", "ends", "made", "alike", "at", "last"] (B1 T3).names _ ["unit", "strength"] 1 [4]) (O5 (K:=K) (Q5 (K:=K) (vi kX) (M3 (qe_un q_neg A5)) Z3)) (fun _ _ _ _ _=>D0 (n:=0) (show List.Nodup (["unit", "strength"]:List Str) by decide +kernel) rfl (Or.inl rfl)) (fun _ _ _ _ _=>i5) (fun _ _ _ _ _=>(D7 G_seen (hm hr) (qa_c (qv 0) (qa_c (qv 1) A1)))))
   (dH (qs_if (QW.pt (dF (G5 (q_eq (K:=K) hu) (qe_cB (q_len (K:=K)) T.b_len T7 (qa_c (vi kX) A1)) (qe_cB (q_len (K:=K)) T.b_len T7 (qa_c (vi vT) A1))) (dF (G5 (q_eq (K:=K) hu) (vi vdg) (Q5 (K:=K) (vi vT) (M3 (qe_un q_neg A5)) Z3)) (gB (X0 (K:=K) (D7 G_is_joint (hm hr) (qa_c (vi vc7) (qa_c (vi pP) (qa_c (vi pQ) A1))))))))) (A8 (R7 (qe_mB (K:=K) W7 g3 g0 i6 (vi vdc) (qa_c (vi pQ) A1)))) M9)
   (A8 (qs_if (G5 q_lt (vi pQ) (qe_cB (q_len (K:=K)) T.b_len T7 (qa_c (vi pP) A1))) (A8 (R7 (D7 G_add_part (hm hr) (qa_c (vi vc7) (qa_c (vi kX) (qa_c (qe_ix (K:=K) (vi pP) (vi pQ)) A1)))))) M9)))))))
   (A8 (E2 (vi vdc))))))),?_⟩
  obtain ⟨x,j,ll,ml,md,a,b,f,s,ws,zs,ns,R,L,M,W,rfl,h1,h4,hO,G,ha,hf,O9,hy,qX,R1,hb,hW,hWl,q⟩:=h;have hUb:∀ i,(Q8 (stepY R L M) zs f i).length<=7500/\∀ u∈Q8 (stepY R L M) zs f i,u.2.2.1.length<=7500:=fun i=>by
   have h:=oV R1 ((zs.take i).drop f);have hl:((zs.take i).drop f).length<=500:=by rw [j8,F9];lia
   exact ⟨E8 h.1 (by lia),fun u hu=>E8 (h.2 u hu) (by lia)⟩
  have wl:=Paired.length hW;walk_at "rd";intro p np p1 Q2;have J0:UnI (A0 H p (.lst [])) (A0 (A0 H p (.lst [])) p1 (.lst [])) p1 [] (Q8 (stepY R L M) zs f (f+0)):=by
   rw [Nat.add_zero,aop];exact ⟨A3,.nil,by simp,fun c hc=>by rw [N7.mp hc];exact Q2,Same.new Q2⟩
  have SB:Same H (A0 H p (.lst [])):=Same.new np;have hp0:A0 H p (.lst []) p=some (.lst ((endsF (stepY R L M) s M zs W f 0).map fun n:Nat=>V.int n)):=A3;have np10:=SB.free Q2;generalize A0 H p (.lst [])=HB at J0 SB hp0;generalize A0 HB p1 (.lst [])=H1 at J0;have fin:∀ {H':Hp} {HB:Hp} {es:List (Addr×Addr)} {U:List C9},UnI HB H' p1 es U->Same H HB->HB p=some (.lst ((endsF (stepY R L M) s M zs W f (zs.length+1-f)).map fun n:Nat=>V.int n))->Q (.ref p) H':=fun J S h=>q p _ np (S.trans J.same) (J.same _ _ h)
  refine ⟨zs.length,.inl ⟨_,.of ((SB.trans J0.same) _ _ ha),by rw [A2]⟩,by lia,by lia,by lia,by lia,?_⟩;rw [show ((zs.length:Int)+1-(f:Int)).toNat=zs.length+1-f by lia];refine forR (fun i Y H'=>∃ (n:Nat) (u v:Option V) (es:List (Addr×Addr)) (HB:Hp),Y=[some (.ref x),some (.ref a),some (.int f),some (.ref b),some (.int s),some (.ref p),some (.ref p1),some (.int n),u,v]/\UnI HB H' p1 es (Q8 (stepY R L M) zs f (f+i))/\Same H HB/\HB p=some (.lst ((endsF (stepY R L M) s M zs W f i).map fun n:Nat=>V.int n))/\n<=10000/\∀ k<n,AlkAt s (Q8 (stepY R L M) zs f (f+i)) W k/\k+1<(Q8 (stepY R L M) zs f (f+i)).length/\k<W.length) ⟨0,none,none,[],HB,rfl,J0,SB,hp0,by lia,fun k hk=>absurd hk (Nat.not_lt_zero _)⟩ ?_ ?_
  .rintro i Y H' hi ⟨n,u,v,es,HB,rfl,J,S,hp,hn,N6⟩;have hU:=hUb (f+i);have hG:∀ y,zs[f+i]?=some y->Q8 (stepY R L M) zs f (f+i+1)=(stepY R L M y).foldl addS (Q8 (stepY R L M) zs f (f+i)):=fun y h=>ah7 (by lia) h
   have cI:=fun k=>agB (S:=stepY R L M) (s:=s) (ms:=M) (zs:=zs) (W:=W) (f:=f) (i:=i) (k:=k)
   generalize hUe:Q8 (stepY R L M) zs f (f+i)=U at J N6 hU hG cI;have T:=S.trans J.same;walk_at "rd";refine ⟨p1,b,s,n,es,ws,U,W,rfl,h1,h4,J.top,J.row,T _ _ hb,K7 hW fun _ _ e=>e.same T,by lia,hWl,fun u hu=>E8 (hU.2 u hu) (by decide),hn,fun n' H2 S2 yA cJ mT=>?_⟩;have J2:=J.more S2;have Y9:∀ k<n',AlkAt s U W k/\k+1<U.length/\k<W.length:=fun k hk=>by
    by_cases z:n<=k
    .exact cJ k z hk
    .exact N6 k (by lia)
   have aB:n'<=10000:=by
    by_cases z:n'=n
    .lia
    .have:=(Y9 (n'-1) (by lia)).2.1
     lia
   have el:=Paired.length J2.row;clear N6 cJ J S2;refine ⟨es.length,.inl ⟨_,.of J2.top,by rw [A2]⟩,?_⟩;walk_at "rd"
   by_cases hbr:(n':Int)<(es.length:Int)-1
   .rw [if_pos (decide_eq_true hbr)];have hna:¬ AlkAt s U W n':=fun z=>by
     by_cases hw:n'<W.length
     .exact mT (by lia) hw z
     .unfold AlkAt at z;rw [List.getElem?_eq_none (l:=W.map (seenK s)) (by rw [A2];lia),K2 (by rw [A2];lia)] at z
      cases z
    have hd:=cI n' (by lia) hna (zs.length+1-f-i) (by lia);rw [show i+(zs.length+1-f-i)=zs.length+1-f by lia] at hd;exact fin J2 S (by rw [hd];exact hp)
   rw [if_neg (by simpa using hbr)];refine rSlR.l (.of J2.top) fun l3 n3=>?_
   rw [agA,A2,<- W6];have J3:=J2.more (Same.new (u:=.lst ((es.drop (es.length-1)).map fun e=>V.ref e.1)) n3);have h3:A0 H2 l3 (.lst ((es.drop (es.length-1)).map fun e=>V.ref e.1)) l3=some (.lst ((es.drop (es.length-1)).map fun e=>V.ref e.1)):=A3;generalize A0 H2 l3 (.lst ((es.drop (es.length-1)).map fun e=>V.ref e.1))=H3 at J3 h3;have C6:=oS (es.length-1) J3.row;generalize hes:es.drop (es.length-1)=es1 at h3 C6;generalize hUs:U.drop (es.length-1)=U1 at C6;have hes1:es1.length<=1:=by rw [<- hes,j8];lia
   have hU1:∀ u∈U1,u.2.2.1.length<=10000:=fun u hu=>E8 (hU.2 u (by rw [<- hUs] at hu;exact List.mem_of_mem_drop hu)) (by decide)
   refine ⟨l3,rfl,⟨_,.of h3⟩,compL (xs:=es1.map fun e=>V.ref e.1) [some (.int s)] rfl (fun D i ys H4=>∃ vs:List Addr,Same H3 H4/\ys=vs.map V.ref/\Paired (SeenAt H4 s) vs (U1.take i)) (fun D nD=>⟨[],Same.new nD,rfl,.nil⟩) (by rintro D i ys H4 nD _ ⟨_,S,_⟩;exact .of (S _ _ h3)) ?_ ?_⟩
   .rintro D i y ys H4 nD hi hy ⟨vs,S4,rfl,hP⟩ hD M8;obtain ⟨e,he,rfl⟩:=G7 (f:=fun e:Addr×Addr=>V.ref e.1) hy;obtain ⟨u,hu,Y8⟩:=Paired.at C6 he;walk_at "rd";refine ⟨e.1,e.2,s,u,rfl,h4,S4 _ _ Y8.1,.inl (S4 _ _ Y8.2),hU1 u (N4 hu),fun l5 H5 n5 S5 h5=>?_⟩;have hD5:=S5 _ _ hD;refine ⟨hD5,?_,CW.put hi M8 ⟨(S4.trans S5).put nD,vs++[l5],by rw [E1];rfl,?_⟩⟩
    .rw [A2,Paired.length hP,F9]
     have:=Paired.length C6
     exact K0 (by lia)
    .rw [L4 hu];exact Paired.snoc (K7 hP fun _ _ q=>(q.same S5).mod hD5) (h5.mod hD5)
   rintro D ys H4 nD ⟨vs,S4,rfl,hP⟩ hD _;rw [A2,Paired.length C6,K4] at hP;have J4:=J3.more S4;refine sU (fun Y H'=>∃ (HB:Hp),Y=[some (.ref x),some (.ref a),some (.int f),some (.ref b),some (.int s),some (.ref p),some (.ref p1),some (.int n'),some (.int ((f:Int)+(i:Int))),some (.ref D)]/\UnI HB H' p1 es U/\Same H HB/\HB p=some (.lst ((endsF (stepY R L M) s M zs W f (i+1)).map fun n:Nat=>V.int n))) ?_ ?_
   .have T4:=S.trans J4.same;have hb4:=T4 _ _ hb;have hW4:=K7 hW fun _ _ e=>e.same T4
    have A6:=pB (S:=stepY R L M) (s:=s) (ms:=M) (zs:=zs) (W:=W) (f:=f) i;have aO:hitB (stepY R L M) s M zs W f (f+i)=(decide (U.map (seenK s)=W.map (seenK s))&&jntB M zs (f+i)):=by unfold hitB;rw [hUe]
    have keep:hitB (stepY R L M) s M zs W f (f+i)=false->∀ {H':Hp},Same H4 H'->∃ HB,UnI HB H' p1 es U/\Same H HB/\HB p=some (.lst ((endsF (stepY R L M) s M zs W f (i+1)).map fun n:Nat=>V.int n)):=fun h {H'} S'=>⟨HB,J4.more S',S,by
     rw [show endsF (stepY R L M) s M zs W f (i+1)=if hitB (stepY R L M) s M zs W f (f+i)=true then endsF (stepY R L M) s M zs W f i++[f+i] else endsF (stepY R L M) s M zs W f i from rfl,if_neg (by rw [h];decide)];exact hp⟩
    walk_at "rd";refine ⟨es.length,.inl ⟨_,.of J4.top,by rw [A2]⟩,ws.length,.inl ⟨_,.of hb4,by rw [A2]⟩,?_⟩
    by_cases cK:es.length=ws.length
    .rw [if_pos (decide_eq_true (by rw [cK]))];refine rSlR.l (.of hb4) fun l6 n6=>?_
     rw [agA,A2,<- W6];have S6:Same H4 (A0 H4 l6 (.lst ((ws.drop (ws.length-1)).map V.ref))):=Same.new n6;have h6:A0 H4 l6 (.lst ((ws.drop (ws.length-1)).map V.ref)) l6=some (.lst ((ws.drop (ws.length-1)).map V.ref)):=A3;generalize A0 H4 l6 (.lst ((ws.drop (ws.length-1)).map V.ref))=H6 at S6 h6;have hPs:=K7 hP fun _ _ e=>e.same S6
     have hWs:=oS (ws.length-1) (K7 hW4 fun _ _ e=>e.same S6);refine ⟨_,.lst (.of (S6 _ _ hD)) (uO hPs),_,.lst (.of h6) (uO hWs),E8 (Nat.min_le_left _ _) (by have:=aeq s U1;rw [g6];lia),?_⟩;rw [V6,agC h1]
     by_cases hl:U1.map (seenK s)=(W.drop (ws.length-1)).map (seenK s)
     .rw [if_pos (decide_eq_true hl)];have mU:U.map (seenK s)=W.map (seenK s):=by
       have e1:=al5 (s:=s) (U:=U) (W:=W) (n:=es.length-1) fun k hk=>(Y9 k (by lia)).1
       rw [<- hUs,W6,W6,<- cK] at hl;rw [<- j6 (es.length-1) (U.map (seenK s)),e1,hl,j6]
      refine ⟨x,j,ll,ml,md,a,f+i,zs,ns,R,L,M,rfl,hO.same (T4.trans S6),G,(T4.trans S6) _ _ ha,by lia,_,rfl,?_⟩
      by_cases hj:jntB M zs (f+i)=true
      .rw [if_pos hj];have J6:=J4.more S6;have hpH:=J6.same _ _ hp;refine ⟨V9 hpH,appOk hpH (by rw [A2];exact K0 (by lia)) ⟨_,uag J6 hp,S.put np,?_⟩⟩;rw [A3,show endsF (stepY R L M) s M zs W f (i+1)=if hitB (stepY R L M) s M zs W f (f+i)=true then endsF (stepY R L M) s M zs W f i++[f+i] else endsF (stepY R L M) s M zs W f i from rfl,if_pos (by rw [aO,hj,decide_eq_true mU];rfl),E1];rfl
      .rw [if_neg hj];exact keep (by rw [aO];cases hjb:jntB M zs (f+i) with
        | true=>exact absurd hjb hj
        | false=>rw [Bool.and_false]) S6
     .rw [if_neg (by simpa using hl)];exact keep (by
       rw [aO,decide_eq_false (fun e=>hl (by rw [<- hUs,W6,W6,e,cK])),cT]) S6
    .rw [if_neg (by simpa using fun e=>cK (by lia))];exact keep (by
      rw [aO,decide_eq_false (fun e=>cK (by
       have:=congrArg X4 e
       rw [A2,A2] at this;lia)),cT]) (cZ _)
   rintro Y H5 ⟨HB5,rfl,J5,S5,hp5⟩;walk_at "rd";have ha5:=(S5.trans J5.same) _ _ ha;refine ⟨zs.length,.inl ⟨_,.of ha5,by rw [A2]⟩,?_⟩
   by_cases C3:f+i<zs.length
   .rw [if_pos (decide_eq_true (by lia))];obtain ⟨y,lY⟩:∃ y,zs[f+i]?=some y:=⟨_,K2 C3⟩
    have iQ:=N4 lY;have e1:Q8 (stepY R L M) zs f (f+(i+1))=(stepY R L M y).foldl addS U:=hG y lY;have hy1:=hy y iQ;obtain ⟨c,r,xU⟩:∃ c r,y.cps.toList=c::r:=by
     have:=hy1.1
     rw [<- lenL] at this;cases e:y.cps.toList with
     | nil=>rw [e] at this;simp at this
     | cons c r=>exact ⟨c,r,rfl⟩
    refine ⟨_,.inl (.of ha5),V.str y,P8 (j:=f+i) (by rw [P6,lY];rfl),?_⟩;refine ⟨x,p1,j,ll,ml,md,c,r,y,U0 R,R,L,M,HB5,es,U,rfl,xU,by lia,hO.same S5,fun w=>qX w y iQ,J5,by have:=R1 y;lia,by lia,fun u hu=>E8 (hU.2 u hu) (by decide),fun es' H' J'=>?_⟩;refine ⟨n',rfl,es',HB5,by rw [e1];exact J',S5,hp5,aB,fun k hk=>?_⟩;obtain ⟨a1,a2,a3⟩:=Y9 k hk;have gr:=uN (stepY R L M y) U;rw [e1];refine ⟨?_,P7 a2 gr.1,a3⟩;unfold AlkAt at a1 ⊢
    rw [P6] at a1 ⊢
    rw [gr.2 k a2];exact a1
   .rw [if_neg (by rw [decide_eq_true_iff];lia)];have e1:Q8 (stepY R L M) zs f (f+(i+1))=U:=by
     rw [<- hUe];unfold Q8;rw [X3 (by lia),X3 (by lia)]
    rw [e1];exact ⟨n',rfl,es,HB5,J5,S5,hp5,aB,Y9⟩
  rintro Y H' ⟨n,u,v,es,HB,rfl,J,S,hp,hn,N6⟩;walk_at "rd";exact fin J S hp
theorem sc_found_in:FnScope ["order", "one", "other", "strength", "wanted", "parts", "places", "found", "first", "end"] ["order", "one", "other", "strength"] (B1 P3):=F8
abbrev u5:List Str:=["order", "one", "other", "strength", "wanted", "parts", "places", "found", "first", "end"]
theorem pR:VS u5 P3 "order" 0:=vq
theorem vdn:VS u5 P3 "one" 1:=vq
theorem vdo:VS u5 P3 "other" 2:=vq
theorem vdp:VS u5 P3 "strength" 3:=vq
theorem vdq:VS u5 P3 "wanted" 4:=vq
theorem vU:VS u5 P3 "parts" 5:=vq
theorem vV:VS u5 P3 "places" 6:=vq
theorem vW:VS u5 P3 "found" 7:=vq
theorem vX:VS u5 P3 "first" 8:=vq
theorem vdv:VS u5 P3 "end" 9:=vq
theorem vdw:LS P3 "wanted":=lq
theorem vdx:LS P3 "parts":=lq
theorem vdy:LS P3 "places":=lq
theorem vdz:LS P3 "found":=lq
theorem vdA:LS P3 "first":=lq
theorem vdB:LS P3 "end":=lq
theorem aeu(F:FunD K "found_in" "found_in" P3 f fd)(T:Txt P w K mg C C_NoSign)(G_parts_of:O1 P w K mg base 5 "parts_of" ["order", "text"] [] (kN C C_NoSign))(G_units:O1 P w K mg base 6 "units" ["order", "text"] [] (pD C C_NoSign))(G_starts:FO P w K mg base 1 "starts" ["parts"] [] (uM K))(G_is_joint:FO P w K mg base 2 "is_joint" ["order", "parts", "at"] [] (spIsJ C))(G_seen:FO P w K mg base 1 "seen" ["unit", "strength"] [] (pA K))(G_ends_from:FO P w K mg base 4 "ends_from" ["order", "parts", "first", "wanted", "strength"] [] (amy C)):FnOk P w K mg base (T0 P w) 7 f fd ["order", "one", "other", "strength"] (kP C C_NoSign):=by
 refine F.okX sc_found_in ?_ ?_
 .rintro _ _ _ _ ⟨x,j,ll,ml,md,z,z',s,ns,R,L,M,rfl,_⟩;rfl
 .intro cdv A outer s H vs Q E hr h;have C5:=hu_of hr;have hu:=hr.units;refine ⟨_,QSs.out (A9 (jQ (n:=4) sc_found_in.nd rfl vdw (T5:CompOk ["order", "one", "other", "strength", "wanted", "parts", "places", "found", "first", "end"] (B1 P3).names _ ["unit", "strength"] 1 [3]) (O5 (K:=K) (y4 G_units (hm hr) y3 (qa_c (vi pR) (qa_c (vi vdn) A1)))) (fun _ _ _ _ _=>D0 (n:=0) (show List.Nodup (["unit", "strength"]:List Str) by decide +kernel) rfl (Or.inl rfl)) (fun _ _ _ _ _=>i5) (fun _ _ _ _ _=>(D7 G_seen (hm hr) (qa_c (qv 0) (qa_c (qv 1) A1)))))
   (A9 (D8 (n:=5) sc_found_in.nd rfl vdx (y4 G_parts_of (hm hr) y3 (qa_c (vi pR) (qa_c (vi vdo) A1))))
   (A9 (D8 (n:=6) sc_found_in.nd rfl vdy (D7 G_starts (hm hr) (qa_c (vi vU) A1)))
   (A9 (D8 (n:=7) sc_found_in.nd rfl vdz (T8 A1))
   (A9 (P1 PassesOwn.leaving (qi_r1 T.b_range (qa_c (qe_cB (q_len (K:=K)) T.b_len T7 (qa_c (vi vV) A1)) A1)) (D0 (n:=8) sc_found_in.nd rfl vdA (.inl rfl)) (A8 (qs_if (X0 (K:=K) (D7 G_is_joint (hm hr) (qa_c (vi pR) (qa_c (vi vU) (qa_c (vi vX) A1))))) (A8 (P1 PassesOwn.leaving (O5 (K:=K) (D7 G_ends_from (hm hr) (qa_c (vi pR) (qa_c (vi vU) (qa_c (vi vX) (qa_c (vi vdq) (qa_c (vi vdp) A1))))))) (D0 (n:=9) sc_found_in.nd rfl vdB (.inl rfl)) (A8 (R7 (qe_mB (K:=K) W7 g3 g0 i6 (vi vW) (qa_c (R0 (qa_c (qe_ix (K:=K) (vi vV) (vi vX)) (qa_c (qe_ix (K:=K) (vi vV) (vi vdv)) A1))) A1)))))) M9)))
   (A9 (qs_if (G5 q_lt (vi vdp) A5) (A8 (E2 (vi vW))) M9)
   (A8 (E2 (X8  (T5:CompOk ["order", "one", "other", "strength", "wanted", "parts", "places", "found", "first", "end"] (B1 P3).names _ ["place", "one", "other"] 1 [1,2]) (O5 (K:=K) (vi vW)) (fun _ _ _ _ _=>D0 (n:=0) (show List.Nodup (["place", "one", "other"]:List Str) by decide +kernel) rfl (Or.inl rfl)) (fun _ _ _ _ _=>(dG (G5 (q_eq (K:=K) hu) (Q5 (K:=K) (qv 2) (M3 (qe_ix (K:=K) (qv 0) A5)) (M3 (qe_ix (K:=K) (qv 0) A5))) (qv 1)))) (fun _ _ _ _ _=>(qv 0))))))))))),?_⟩
  obtain ⟨x,j,ll,ml,md,z,z',s,ns,R,L,M,rfl,h1,h4,hO,G,hz,cC,q1,q2,q3⟩:=h;have R1:=G.stl;obtain ⟨b1,b2,b3⟩:=aei R1 (w:=hasW R "figures") (ks:=C2 R) (y:=z) (by lia);walk_at "rd";refine ⟨x,j,ll,ml,md,z,_,R,L,M,rfl,hO,G.known_len,by lia,R1,fun hw u H1 nu S1 hu=>?_,q2⟩
  replace q1:=q1 hw
  replace q3:=q3 hw
  clear q2;generalize N5 (stepY R L M) (cutF (hasW R "figures") (C2 R) z.cps.toList).2=W at hu q1 b1 b2 b3;obtain ⟨es,e1,e2⟩:=hu;refine ⟨u,rfl,⟨_,.of e1⟩,compL (xs:=es.map fun e=>V.ref e.1) [some (.int s)] rfl (fun D i ys H4=>∃ vs:List Addr,Same H1 H4/\ys=vs.map V.ref/\Paired (SeenAt H4 s) vs (W.take i)) (fun D nD=>⟨[],Same.new nD,rfl,.nil⟩) (by rintro D i ys H4 nD _ ⟨_,S,_⟩;exact .of (S _ _ e1)) ?_ ?_⟩
  .rintro D i y ys H4 nD hi hy ⟨vs,S4,rfl,hP⟩ hD M8;obtain ⟨e,he,rfl⟩:=G7 (f:=fun e:Addr×Addr=>V.ref e.1) hy;obtain ⟨w,hw3,hwe⟩:=Paired.at e2 he;walk_at "rd";refine ⟨e.1,e.2,s,w,rfl,h4,S4 _ _ hwe.1,.inr (S4 _ _ hwe.2),b2 w (N4 hw3),fun l5 H5 n5 S5 h5=>?_⟩;have hD5:=S5 _ _ hD;refine ⟨hD5,?_,CW.put hi M8 ⟨(S4.trans S5).put nD,vs++[l5],by rw [E1];rfl,?_⟩⟩
   .rw [A2,Paired.length hP,F9];exact K0 (by lia)
   .rw [L4 hw3];exact Paired.snoc (K7 hP fun _ _ q=>(q.same S5).mod hD5) (h5.mod hD5)
  rintro D ys H2 nD ⟨ws,S2,rfl,hW⟩ hD _;rw [A2,Paired.length e2,K4] at hW;have b9:=S1.trans S2;clear e1 e2 nD nu;refine ⟨x,j,ll,ml,md,z',_,R,L,M,rfl,hO.same b9,G.known_len,by lia,fun eZ a H3 na S3 ha=>?_,fun eZ=>(q3 eZ).same b9⟩;have q:=q1 eZ;clear q1 q3;have O9:(cutF (hasW R "figures") (C2 R) z'.cps.toList).2.length<=300:=E8 (jZ _ _ (B3 _)).2.1 (by rw [lenL];exact cC);have hy:∀ y∈(cutF (hasW R "figures") (C2 R) z'.cps.toList).2,1<=y.length/\y.length<=500:=fun y hy=>⟨kA _ _ (B3 _) y hy,E8 (oW _ _ (B3 _) y hy) (by rw [lenL];lia)⟩
  have qX:hasW R "figures"=true->∀ y∈(cutF (hasW R "figures") (C2 R) z'.cps.toList).2,FigR y:=fun h y hy=>uB _ _ (B3 _) y hy h
  generalize (cutF (hasW R "figures") (C2 R) z'.cps.toList).2=zs at ha O9 hy qX q;refine ⟨a,zs,rfl,.of ha,by lia,fun y h=>by have:=hy y h;lia,fun pl H4 npl S4 J7=>fun p np=>?_⟩;have ha4:=S4 _ _ ha;have qY:=S3.trans S4;have hD4:=qY _ _ hD;have hW4:=K7 hW fun _ _ e=>e.same qY
  have aN:=b9.trans qY;have hO4:=hO.same aN;clear qY b9 S1 S2 S3 S4 hD hW ha npl na;have mF:=aN.free np;walk_at "rd";refine ⟨zs.length+1,.inl ⟨_,.of (D6 J7 np),by rw [A2,uK]⟩,by lia,by lia,?_⟩;rw [show ((zs.length+1:Nat):Int).toNat=zs.length+1 from rfl];refine forRs (fun i Y H'=>∃ (u v:Option V) (ps:List Addr),Y=[some (.ref x),some (.str z),some (.str z'),some (.int s),some (.ref D),some (.ref a),some (.ref pl),some (.ref p),u,v]/\Same H4 H'/\IsPr H' p ps zs (z8 (stepY R L M) s M zs W i)) ⟨none,none,[],rfl,Same.new np,A3,.nil⟩ ?_ ?_
  .rintro P' Bk hP i Y H' hi ⟨u,v,ps,rfl,S,hp⟩;walk_at "rd";rw [Int.zero_add];refine ⟨x,j,ll,ml,md,a,i,zs,ns,R,L,M,rfl,hO4.same S,G,S _ _ ha4,by lia,_,rfl,?_⟩;have Q1:z8 (stepY R L M) s M zs W (i+1)=z8 (stepY R L M) s M zs W i++(if jntB M zs i=true then (endsF (stepY R L M) s M zs W i (zs.length+1-i)).map fun e=>(i,e) else []):=rfl;have j4:=uP (S:=stepY R L M) (s:=s) (ms:=M) (zs:=zs) (W:=W) i;have hm:(zs.length+1)*i<=301*301:=Nat.mul_le_mul (by lia) (by lia)
   by_cases hj:jntB M zs i=true
   .rw [if_pos hj];refine ⟨x,j,ll,ml,md,a,D,i,s,ws,zs,ns,R,L,M,W,rfl,h1,h4,hO4.same S,G,S _ _ ha4,by lia,by lia,hy,qX,R1,S _ _ hD4,K7 hW4 fun _ _ e=>e.same S,b1,fun l6 H6 n6 S6 h6=>⟨l6,rfl,⟨_,.of h6⟩,?_⟩⟩;have cK:=ah9 (S:=stepY R L M) (s:=s) (ms:=M) (zs:=zs) (W:=W) (f:=i) (zs.length+1-i);have b0:=pB (S:=stepY R L M) (s:=s) (ms:=M) (zs:=zs) (W:=W) (f:=i) (zs.length+1-i);rw [if_pos hj] at Q1;generalize endsF (stepY R L M) s M zs W i (zs.length+1-i)=E at h6 cK b0 Q1;have n6p:l6≠p:=fun e=>by rw [e,hp.top] at n6;cases n6
    refine forLs (xs:=E.map fun n:Nat=>V.int n) (fun m Y H7=>∃ (v:Option V) (ps:List Addr),Y=[some (.ref x),some (.str z),some (.str z'),some (.int s),some (.ref D),some (.ref a),some (.ref pl),some (.ref p),some (.int i),v]/\Same H4 H7/\H7 l6=some (.lst (E.map fun n:Nat=>V.int n))/\IsPr H7 p ps zs (z8 (stepY R L M) s M zs W i++(E.take m).map fun e=>(i,e))) ⟨_,ps,rfl,S.trans S6,h6,by rw [w8,cP,M5];exact hp.same S6⟩ (by rintro m Y H7 _ ⟨_,_,_,_,h,_⟩;exact .of h) ?_ ?_
    .rintro P2 Bk2 hP2 m v0 Y H7 hv ⟨v1,ps,rfl,S7,iL,aP⟩;obtain ⟨e,he,rfl⟩:=G7 (f:=fun n:Nat=>V.int n) hv;have qV:=cK e (N4 he);have qP:=(G1.mp he).1;have mV:=S7 _ _ J7;have fA:=Paired.length aP.row;rw [D1,A2,F9] at fA;walk_at "rd";refine ⟨V9 aP.top,_,.inl (.of mV),V.int (W2 zs i),P8 (j:=i) (by rw [P6,uL zs (by lia)];rfl),_,.inl (.of mV),V.int (W2 zs e),P8 (j:=e) (by rw [P6,uL zs (by lia)];rfl),by decide,fun t nt=>?_⟩;have ntp:t≠p:=fun q=>by rw [q,aP.top] at nt;cases nt
     refine appOk (D6 aP.top nt) (by rw [A2];exact K0 (by lia)) (hP2 _ _ _ ⟨_,ps++[t],rfl,(S7.trans (Same.new nt)).put np,by rw [A4 n6p];exact D6 iL nt,by rw [A3,E1];rfl,?_⟩);rw [L4 he,E1,<- Z0];refine Paired.snoc (K7 aP.row fun b c hb=>?_) (by rw [A4 ntp,A3]);rw [A4 (fun q=>by rw [q,aP.top] at hb;cases hb)];exact D6 hb nt
    .rintro Y H7 ⟨v1,ps,rfl,S7,iL,aP⟩;rw [A2,K4] at aP;exact hP _ _ _ ⟨_,_,ps,rfl,S7,by rw [Q1];exact aP⟩
   .rw [if_neg hj];exact hP _ _ _ ⟨_,_,ps,rfl,S,by rw [Q1,if_neg hj,M5];exact hp⟩
  rintro Y H' ⟨u,v,ps,rfl,S,hp⟩;walk_at "rd";have S0:=aN.trans S;have hPl:=uP (S:=stepY R L M) (s:=s) (ms:=M) (zs:=zs) (W:=W) (zs.length+1);have hm:(zs.length+1)*(zs.length+1)<=301*301:=Nat.mul_le_mul (by lia) (by lia)
  by_cases hs:s<4
  .rw [if_pos (decide_eq_true (by lia))];exact q p ps _ mF S0 (by unfold uQ;rw [if_pos hs];exact hp)
  rw [if_neg (by rw [decide_eq_true_iff];lia)];unfold uQ at q;rw [if_neg hs] at q;generalize z8 (stepY R L M) s M zs W (zs.length+1)=P at hp q hPl;have fA:=Paired.length hp.row;refine ⟨⟨_,.of hp.top⟩,compL (xs:=ps.map V.ref) [some (.str z),some (.str z')] rfl (fun D i ys H2=>∃ vs:List Addr,Same H' H2/\ys=vs.map V.ref/\Paired (fun p e=>H' p=some (.tup [V.int (W2 zs e.1),V.int (W2 zs e.2)])) vs ((P.take i).filter fun e=>decide (cutS z' (some (W2 zs e.1)) (some (W2 zs e.2))=z))) (fun D nD=>⟨[],Same.new nD,rfl,.nil⟩) (by rintro D i ys H2 nD _ ⟨_,S,_⟩;exact .of (S _ _ hp.top)) ?_ ?_⟩
  .rintro D i y ys H2 nD hi hy ⟨vs,S2,rfl,hP⟩ hD M8;obtain ⟨t,ht,rfl⟩:=G7 hy;obtain ⟨e,he,hte⟩:=Paired.at hp.row ht;have mW:=S2 _ _ hte;have wS:vs.length<=P.length:=by
    rw [Paired.length hP];refine E8 (List.length_filter_le _ _) ?_;rw [F9];lia
   walk_at "rd";refine ⟨_,.inr (.of mW),_,W0 _ _,_,rfl,_,.inr (.of mW),_,P8 (j:=1) rfl,_,rfl,i4 (by lia),?_⟩
   by_cases hc:cutS z' (some (W2 zs e.1)) (some (W2 zs e.2))=z
   .rw [if_pos (decide_eq_true hc)];refine ⟨hD,by rw [A2];exact K0 (by lia),CW.put hi M8 ⟨S2.put nD,vs++[t],by rw [E1];rfl,?_⟩⟩;rw [L4 he,cO,show [e].filter (fun e=>decide (cutS z' (some (W2 zs e.1)) (some (W2 zs e.2))=z))=[e] by simp [hc]];exact Paired.snoc hP hte
   .rw [if_neg (by simpa using hc)];refine ⟨hD,sL hi M8 ⟨S2,vs,rfl,?_⟩⟩;rw [L4 he,cO,show [e].filter (fun e=>decide (cutS z' (some (W2 zs e.1)) (some (W2 zs e.2))=z))=[] by simp [hc],M5];exact hP
  rintro D ys H2 nD ⟨vs,S2,rfl,hP⟩ hD _;rw [A2,fA,K4] at hP;exact q D vs _ (S0.free nD) (S0.trans S2) ⟨hD,K7 hP fun _ _ e=>S2 _ _ e⟩
theorem agK:FnScope ["_law_script", "_law_k"] ["_law_script", "_law_k"] (B1 kK):=F8
abbrev aev:List Str:=["_law_script", "_law_k"]
theorem vdC:VS aev kK "_law_script" 0:=vq
theorem vdD:VS aev kK "_law_k" 1:=vq
theorem agL(F:FunD K "_law_cell_at" "_law_cell_at" kK f fd)(T:Txt P w K mg C C_NoSign):FnOk P w K mg base E4 1 f fd ["_law_script", "_law_k"] (oI K):=by
 refine F.ok agK ?_ ?_
 .rintro _ _ _ _ ⟨a,ns,k,rfl,_⟩;rfl
 .intro cdv A outer s H vs Q E hr h;have C5:=hu_of hr;have hu:=hr.units;refine ⟨_,QSs.out (A9 (qs_if (G5 q_lt (vi vdD) (qe_cB (q_len (K:=K)) T.b_len T7 (qa_c (vi vdC) A1))) (A8 (E2 (qe_ix (K:=K) (vi vdC) (vi vdD)))) M9)
   (A8 (E2 A5))),?_⟩
  obtain ⟨a,ns,k,rfl,hS,hk,q⟩:=h;walk_at "rd";unfold cellF at q;refine ⟨ns.length,.inl ⟨_,hS,by rw [A2]⟩,iteD (fun C3=>?_) fun eU=>?_⟩
  .rw [if_pos C3] at q;have hi:k.toNat<ns.length:=by lia
   refine ⟨_,.inl hS,V.int (ns.getD k.toNat 0),?_,q⟩;have e:((k.toNat:Nat):Int)=k:=by lia
   have h1:G0 (ns.map V.int) ((k.toNat:Nat):Int)=some (V.int (ns.getD k.toNat 0)):=P8 (by rw [P6,aQ,K2 hi];rfl);rw [e] at h1;exact h1
  .rw [if_neg eU] at q;exact q
theorem sc_l_sign:FnScope ["_law_script", "_law_k", "_law_some", "_law_step"] ["_law_script", "_law_k"] (B1 y9):=F8
abbrev pS:List Str:=["_law_script", "_law_k", "_law_some", "_law_step"]
theorem vdE:VS pS y9 "_law_script" 0:=vq
theorem vdF:VS pS y9 "_law_k" 1:=vq
theorem vdG:VS pS y9 "_law_some" 2:=vq
theorem vdH:VS pS y9 "_law_step" 3:=vq
theorem vdI:LS y9 "_law_some":=lq
theorem vdJ:LS y9 "_law_step":=lq
theorem akC(F:FunD K "_law_sign" "_law_sign" y9 f fd)(T:Txt P w K mg C C_NoSign)(G_l_cell_at:FO P w K mg base 1 "_law_cell_at" ["_law_script", "_law_k"] [] (oI K)):FnOk P w K mg base E4 2 f fd ["_law_script", "_law_k"] (uG K):=by
 refine F.ok sc_l_sign ?_ ?_
 .rintro _ _ _ _ ⟨a,ns,k,rfl,_⟩;rfl
 .intro cdv A outer s H vs Q E hr h;have C5:=hu_of hr;have hu:=hr.units;refine ⟨_,QSs.out (A9 (D8 (n:=2) sc_l_sign.nd rfl vdI N3)
   (A9 (D8 (n:=2) sc_l_sign.nd rfl vdI (qe_op (q_add (K:=K)) (vi vdG) N3))
   (A9 (D8 (n:=3) sc_l_sign.nd rfl vdJ (qe_ix (K:=K) (T8 (qa_c A5 (qa_c A5 (qa_c A5 (qa_c A5 (qa_c A5 (qa_c A5 (qa_c A5 (qa_c A5 (qa_c A5 (qa_c A5 (qa_c A5 (qa_c A5 A1))))))))))))) (qe_op q_mod (D7 G_l_cell_at (hm hr) (qa_c (vi vdE) (qa_c A5 A1))) A5)))
   (A8 (E2 (qe_ix (K:=K) (vi vdG) (qe_op q_mod (qe_op (q_add (K:=K)) (D7 G_l_cell_at (hm hr) (qa_c (vi vdE) (qa_c A5 A1))) (qe_op q_mul (vi vdF) (vi vdH))) A5))))))),?_⟩
  obtain ⟨a,ns,k,rfl,hS,hk,q⟩:=h;walk_at "rd";have h1:=aol ns;have h2:=(akr ns k).1;rw [<- SS_eq] at h2;refine ⟨anH,by decide,fun p np=>⟨a,ns,1,rfl,(Same.new np).seq hS,by decide,⟨_,rfl,_,.inl (.of A3),V.int (stpN ns),?_,a,ns,0,rfl,(Same.new np).seq hS,by decide,?_⟩⟩⟩
  .have:=aok V.int ([1,2,4,5,7,8,10,11,13,23,44,91]:List Int) (cellF ns 1 % 12)
   rw [h1.1] at this;exact this
  walk_at "rd";exact ⟨.inr ⟨by lia,by lia⟩,aqy,_,h2,q _ (Same.new np)⟩
theorem sc_l_text:FnScope ["_law_script", "_law_cells", "_law_cell", "_law_many", "_law_signs", "_law_number", "_law_at"] ["_law_script", "_law_cells", "_law_cell"] (B1 Y1):=F8
abbrev dZ:List Str:=["_law_script", "_law_cells", "_law_cell", "_law_many", "_law_signs", "_law_number", "_law_at"]
theorem pT:VS dZ Y1 "_law_script" 0:=vq
theorem vdL:VS dZ Y1 "_law_cells" 1:=vq
theorem vY:VS dZ Y1 "_law_cell" 2:=vq
theorem vdN:VS dZ Y1 "_law_many" 3:=vq
theorem gW:VS dZ Y1 "_law_signs" 4:=vq
theorem vdP:VS dZ Y1 "_law_number" 5:=vq
theorem vZ:VS dZ Y1 "_law_at" 6:=vq
theorem vdR:LS Y1 "_law_many":=lq
theorem vdS:LS Y1 "_law_signs":=lq
theorem vdT:LS Y1 "_law_number":=lq
theorem vdU:LS Y1 "_law_at":=lq
theorem akD(F:FunD K "_law_text" "_law_text" Y1 f fd)(T:Txt P w K mg C C_NoSign)(G_l_cell_at:FO P w K mg base 1 "_law_cell_at" ["_law_script", "_law_k"] [] (oI K))(G_l_sign:FO P w K mg base 2 "_law_sign" ["_law_script", "_law_k"] [] (uG K)):FnOk P w K mg base E4 3 f fd ["_law_script", "_law_cells", "_law_cell"] (spT64 K):=by
 refine F.ok sc_l_text ?_ ?_
 .rintro _ _ _ _ ⟨a,b,c,ns,cs,rfl,_⟩;rfl
 .intro cdv A outer s H vs Q E hr h;have C5:=hu_of hr;have hu:=hr.units;refine ⟨_,QSs.out (A9 (D8 (n:=3) sc_l_text.nd rfl vdR (qe_op (q_add (K:=K)) A5 (qe_op q_mod (D7 G_l_cell_at (hm hr) (qa_c (vi pT) (qa_c A5 A1))) A5)))
   (A9 (D8 (n:=4) sc_l_text.nd rfl vdS (T8 A1))
   (A9 (P1 PassesOwn.never (O5 (K:=K) (vi vdL)) (D0 (n:=5) sc_l_text.nd rfl vdT (.inl rfl)) (A8 (qs_if (G5 (q_eq (K:=K) hu) (qe_op q_mod (vi vdP) A5) A5) (A8 (R7 (qe_mB (K:=K) W7 g3 g0 i6 (vi gW) (qa_c (D7 G_l_sign (hm hr) (qa_c (vi pT) (qa_c A5 A1))) A1)))) (A8 (R7 (qe_mB (K:=K) W7 g3 g0 i6 (vi gW) (qa_c (D7 G_l_sign (hm hr) (qa_c (vi pT) (qa_c (qe_op q_mod (qe_op nW (vi vdP) A5) (vi vdN)) A1))) A1)))))))
   (A9 (D8 (n:=6) sc_l_text.nd rfl vdU (qe_un q_neg A5))
   (dH (qs_if (G5 q_gt (qe_op q_mod (vi vY) A5) A5) (A9 (D8 (n:=6) sc_l_text.nd rfl vdU (qe_op q_mod (qe_op nW (vi vY) A5) (qe_op (q_add (K:=K)) (qe_cB (q_len (K:=K)) T.b_len T7 (qa_c (vi gW) A1)) A5)))
   (A8 (D8 (n:=4) sc_l_text.nd rfl vdS (qe_op (q_add (K:=K)) (qe_op (q_add (K:=K)) (Q5 (K:=K) (vi gW) Z3 (M3 (vi vZ))) (T8 (qa_c (qe_ix (K:=K) (T8 (qa_c N3 (qa_c (D7 G_l_sign (hm hr) (qa_c (vi pT) (qa_c A5 A1))) A1))) (qe_op q_sub (qe_op q_mod (vi vY) A5) A5)) A1))) (Q5 (K:=K) (vi gW) (M3 (vi vZ)) Z3))))) M9)
   (A8 (E2 (R0 (qa_c (qe_mB (K:=K) PySem.F.plainAttrs_str PySem.F.slot_str_join PySem.F.type_str_join (aqG (K:=K)) N3 (qa_c (vi gW) A1)) (qa_c (vi vZ) A1)))))))))),?_⟩
  obtain ⟨a,b,c,ns,cs,rfl,hS,hB,xK,q⟩:=h;obtain ⟨n,hn⟩:∃ n:Nat,1+cellF ns 2 % 6=n:=⟨(1+cellF ns 2 % 6).toNat,by lia⟩
  rw [hn,jF] at q;have iF:1<=n:=by lia
  have qZ:n<=6:=by lia
  have sh:=amx (ns:=ns) qZ;walk_at "rd";refine ⟨a,ns,2,rfl,hS,by decide,_,rfl,fun p np=>?_⟩;rw [hn];refine ⟨⟨_,(Same.new np).seq hB⟩,forLs (xs:=cs.map V.int) (fun i Y H2=>∃ (u:Option V) (ps:List Str),Y=[some (.ref a),some (.ref b),some (.int c),some (.int (n:Int)),some (.ref p),u,none]/\Same H H2/\H2 p=some (.lst (ps.map V.str))/\ps.length=i/\∀ y∈ps,y∈P5 ns 10::ls64 ns n) ⟨none,[],rfl,Same.new np,A3,rfl,by simp⟩ (by rintro i Y H2 _ ⟨_,_,_,S,_⟩;exact S.seq hB) ?_ ?_⟩
  .rintro P' Bk hP i v Y H2 hv ⟨u,ps,rfl,S,hp,J7,rA⟩;obtain ⟨k,hk,rfl⟩:=G7 hv;have hi:i<cs.length:=(G1.mp hk).1;have mX:∀ (y:Str) (H3:Hp),Same H2 H3->y∈P5 ns 10::ls64 ns n->P' (i+1) [some (.ref a),some (.ref b),some (.int c),some (.int (n:Int)),some (.ref p),some (.int k),none] (A0 H3 p (.lst (ps.map V.str++[V.str y]))):=fun y H3 S3 hy=>hP _ _ _ ⟨_,ps++[y],rfl,(S.trans S3).put np,by rw [A3,E1];rfl,by rw [D1,J7];rfl,fun w hw=>(M4.mp hw).elim (rA w) fun e=>by rw [N7.mp e];exact hy⟩
   walk_at "rd";refine iteD (fun _=>⟨V9 hp,a,ns,10,rfl,S.seq hS,by decide,fun H3 S3=>appOk (S3 _ _ hp) (by rw [A2];exact K0 (by lia)) (mX _ _ S3 O2)⟩) fun _=>⟨V9 hp,by lia,a,ns,_,rfl,S.seq hS,Int.emod_nonneg _ (by lia),fun H3 S3=>appOk (S3 _ _ hp) (by rw [A2];exact K0 (by lia)) (mX _ _ S3 (N0 _ (al3 (Int.emod_nonneg _ (by lia)) (Int.emod_lt_of_pos _ (by lia)))))⟩
  rintro Y H2 ⟨u,ps,rfl,S,hp,J7,rA⟩;rw [A2] at J7;walk_at "rd";refine midS (fun Y H3=>∃ (p2:Addr) (ds:List Nat) (o:Option Nat),Y=[some (.ref a),some (.ref b),some (.int c),some (.int (n:Int)),some (.ref p2),u,some (.int (optI o))]/\Same H H3/\H3 p2=some (.lst ((ds.map one).map V.str))/\ds.length<=15/\∀ z:Str,z.cps.toList=ds->T64 (ls64 ns n) (P5 ns 10) z o) ?_ ?_
  .intro M' hM';obtain ⟨ds,rfl⟩:=agy (ps:=ps) fun p hp=>by
    obtain ⟨c,e,_⟩:=sh.on p (rA p hp);exact ⟨c,e⟩
   rw [A2] at J7;have mY:∀ d∈ds,one d∈P5 ns 10::ls64 ns n:=fun d hd=>rA _ (E3.mpr ⟨d,hd,rfl⟩)
   walk_at "rd";refine iteD (fun hc=>?_) fun hc=>hM' _ _ ⟨p,ds,none,rfl,S,hp,by lia,fun z hz d hd=>mY d (by rw [<- hz];exact hd)⟩
   refine ⟨ds.length,.inl ⟨_,.of hp,by rw [A2,A2]⟩,by lia,?_⟩;obtain ⟨t,ht,eO⟩:∃ t:Nat,c / 3 % ((ds.length:Int)+1)=t/\t<=ds.length:=by
    have h1:=Int.emod_nonneg (c / 3) (show ((ds.length:Int)+1)≠0 by lia);have h2:=Int.emod_lt_of_pos (c / 3) (show (0:Int)<(ds.length:Int)+1 by lia);exact ⟨(c / 3 % ((ds.length:Int)+1)).toNat,by lia,by lia⟩
   rw [ht];refine rSlR.l (.of hp) fun l1 rB=>?_
   rw [nZ,<- aU,<- aU];obtain ⟨d,hd,bZ⟩:∃ d,G0 [V.str (Str.ofString " "),V.str (one (sgnF ns 20))] (c % 3-1)=some (V.str (one d))/\one d∉P5 ns 10::ls64 ns n:=by
    rcases (show c % 3=1\/c % 3=2 by lia) with e | e
    .exact ⟨32,by rw [e];rfl,akv sh⟩
    .exact ⟨sgnF ns 20,by rw [e];rfl,aku ns qZ⟩
   have S3:Same H2 (A0 H2 l1 (.lst (((ds.take t).map one).map V.str))):=Same.new rB;have h3:A0 H2 l1 (.lst (((ds.take t).map one).map V.str)) l1=some (.lst (((ds.take t).map one).map V.str)):=A3;generalize A0 H2 l1 (.lst (((ds.take t).map one).map V.str))=H3 at S3 h3;refine ⟨a,ns,20,rfl,(S.trans S3).seq hS,by decide,fun H4 S4=>⟨by decide,fun p1 Q2=>⟨_,.inl (.of A3),_,hd,by decide,fun p2 mM=>?_⟩⟩⟩;have S5:Same H4 (A0 (A0 H4 p1 (.lst [V.str (Str.ofString " "),V.str (one (sgnF ns 20))])) p2 (.lst [V.str (one d)])):=(Same.new Q2).trans (Same.new mM);have h5:A0 (A0 H4 p1 (.lst [V.str (Str.ofString " "),V.str (one (sgnF ns 20))])) p2 (.lst [V.str (one d)]) p2=some (.lst (([d].map one).map V.str)):=A3;generalize A0 (A0 H4 p1 (.lst [V.str (Str.ofString " "),V.str (one (sgnF ns 20))])) p2 (.lst [V.str (one d)])=H5 at S5 h5;have j5:=S3.trans (S4.trans S5);walk_at "rd";refine rAddR.l (S5 _ _ (S4 _ _ h3)) h5 (by simp only [A2,F9,V3];exact i4 (by lia)) fun l6 nl6=>?_
   have S6:=j5.trans (Same.new (u:=HO.lst (((ds.take t).map one).map V.str++([d].map one).map V.str)) nl6);have h6:A0 H5 l6 (.lst (((ds.take t).map one).map V.str++([d].map one).map V.str)) l6=some (.lst (((ds.take t++[d]).map one).map V.str)):=by rw [A3,E1,E1]
   generalize A0 H5 l6 (.lst (((ds.take t).map one).map V.str++([d].map one).map V.str))=H6 at S6 h6;refine rSlR.l (.of (S6 _ _ hp)) fun l7 nl7=>?_
   rw [dI,<- W6,<- W6];walk_at "rd";refine rAddR.l (D6 h6 nl7) A3 (by simp only [A2,D1,F9,j8,V3];exact i4 (by lia)) fun l8 nl8=>?_
   refine hM' _ _ ⟨l8,ds.take t++[d]++ds.drop t,some t,rfl,S.trans (S6.trans ((Same.new nl7).trans (Same.new nl8))),by rw [A3,<- E1,<- E1],by simp only [D1,F9,j8,V3];lia,fun z hz=>⟨ds.take t,d,ds.drop t,by rw [hz,Z0];rfl,by rw [F9];lia,fun e he=>mY e (List.mem_of_mem_take he),bZ⟩⟩
  rintro Y H3 ⟨p2,ds,o,rfl,S3,iM,hdl,hT⟩;have hj:(Str.join (Str.ofString "") (ds.map one)).cps.toList=ds:=(agq _).trans (agz ds);have hjl:(Str.join (Str.ofString "") (ds.map one)).length=ds.length:=by rw [<- lenL,hj]
  walk_at "rd";refine ⟨_,p2,ds.map one,rfl,rfl,.inl (.of iM),by decide,by rw [ah2,A2];lia,by decide,fun t nt=>q t _ o _ (S3.free nt) (S3.trans (Same.new nt)) A3 (by lia) (hT _ hj)⟩
theorem sc_l_asked:FnScope ["_law_order", "_law_one", "_law_other", "_law_way", "_law_kept", "e"] ["_law_order", "_law_one", "_law_other", "_law_way"] (B1 m7):=F8
abbrev gX:List Str:=["_law_order", "_law_one", "_law_other", "_law_way", "_law_kept", "e"]
theorem kY:VS gX m7 "_law_order" 0:=vq
theorem pU:VS gX m7 "_law_one" 1:=vq
theorem kZ:VS gX m7 "_law_other" 2:=vq
theorem pV:VS gX m7 "_law_way" 3:=vq
theorem vdZ:VS gX m7 "_law_kept" 4:=vq
theorem lA:VS gX m7 "e" 5:=vq
theorem gY:LS m7 "_law_kept":=lq
theorem lB:(B1 m7).names.lookup ("e" : Str)=some .local:=by decide +kernel
theorem aiQ(F:FunD K "_law_asked" "_law_asked" m7 f fd)(T:Txt P w K mg C C_NoSign)(G_compare:O1 P w K mg base 8 "compare" ["order", "one", "other", "strength"] [.int 4] (kO C C_NoSign))(G3_compare:O1 P w K mg base 8 "compare" ["order", "one", "other", "strength"] [] (kO C C_NoSign))(G_joints:O1 P w K mg base 6 "joints" ["order", "text"] [] (uT C C_NoSign))(G_found_in:O1 P w K mg base 7 "found_in" ["order", "one", "other", "strength"] [.int 4] (kP C C_NoSign))(G3_found_in:O1 P w K mg base 7 "found_in" ["order", "one", "other", "strength"] [] (kP C C_NoSign)):FnOk P w K mg base E4 9 f fd ["_law_order", "_law_one", "_law_other", "_law_way"] (spA64 C):=by
 refine F.ok sc_l_asked ?_ ?_
 .rintro _ _ _ _ ⟨x,j,ll,ml,md,z,z',w,ns,R,L,M,o,o',rfl,_⟩;rfl
 .intro cdv A outer s H vs Q E hr h;have C5:=hu_of hr;have hu:=hr.units;obtain ⟨d_NoSign,md_NoSign,CC_NoSign,mr_NoSign⟩:=T.c_NoSign;refine ⟨_,QSs.out (A9 (D8 (n:=4) sc_l_asked.nd rfl gY amj)
   (dH (aoj (oX (fun _=>(G5 (q_eq (K:=K) hu) (vi pV) A5)) (kE G_found_in (hm hr) (fun _=>(qa_c (vi kY) (qa_c (vi pU) (qa_c (vi kZ) A1)))) md_NoSign CC_NoSign sc_l_asked.nd (i:=5) rfl lB (fun _ _=>(A8 (D8 (n:=4) sc_l_asked.nd rfl gY (kD (vi lA) (K:=K))))) (K:=K)) (oX (fun _=>(G5 (q_eq (K:=K) hu) (vi pV) A5)) (kE G3_found_in (hm hr) (fun _=>(qa_c (vi kY) (qa_c (vi pU) (qa_c (vi kZ) (qa_c A5 A1))))) md_NoSign CC_NoSign sc_l_asked.nd (i:=5) rfl lB (fun _ _=>(A8 (D8 (n:=4) sc_l_asked.nd rfl gY (kD (vi lA) (K:=K))))) (K:=K)) (oX (fun _=>(G5 (q_eq (K:=K) hu) (vi pV) A5)) (kE G3_compare (hm hr) (fun _=>(qa_c (vi kY) (qa_c (vi pU) (qa_c (vi kZ) (qa_c A5 A1))))) md_NoSign CC_NoSign sc_l_asked.nd (i:=5) rfl lB (fun _ _=>(A8 (D8 (n:=4) sc_l_asked.nd rfl gY (kD (vi lA) (K:=K))))) (K:=K)) (oX (fun _=>(G5 (q_eq (K:=K) hu) (vi pV) A5)) (kE G_compare (hm hr) (fun _=>(qa_c (vi kY) (qa_c (vi pU) (qa_c (vi kZ) A1)))) md_NoSign CC_NoSign sc_l_asked.nd (i:=5) rfl lB (fun _ _=>(A8 (D8 (n:=4) sc_l_asked.nd rfl gY (kD (vi lA) (K:=K))))) (K:=K)) (kE G_joints (hm hr) (fun _=>(qa_c (vi kY) (qa_c (vi kZ) A1))) md_NoSign CC_NoSign sc_l_asked.nd (i:=5) rfl lB (fun _ _=>(A8 (D8 (n:=4) sc_l_asked.nd rfl gY (kD (vi lA) (K:=K))))) (K:=K)))))))
   (A8 (E2 (vi vdZ))))),?_⟩
  obtain ⟨x,j,ll,ml,md,z,z',w,ns,R,L,M,o,o',rfl,hw4,hO,G,hz,cC,hb,K1,q⟩:=h;obtain ⟨fN,MN⟩:=T.er_NoSign;have bo:∀ {z:Str} {o:Option Nat},gP R z o->L5 (hasW R "figures") (C2 R) z->o=none:=fun {z o} hb hw=>by
   cases o with
   | none=>rfl
   | some n=>exact absurd hw hb.1
  have bn:∀ {z:Str} {o:Option Nat},gP R z o->¬ L5 (hasW R "figures") (C2 R) z->o=some (cutF (hasW R "figures") (C2 R) z.cps.toList).1:=fun {z o} hb hw=>by
   cases o with
   | none=>exact absurd hb hw
   | some n=>rw [hb.2]
  walk_at "rd";refine midS (fun Y H1=>Y=[some (.ref x),some (.str z),some (.str z'),some (.int w),some (optV (if w=4 then o' else o.or o')),none]/\Same H H1) ?_ ?_
  .intro M' hM';have hN:(if w=4 then o' else o.or o')=none->∀ H1,Same H H1->M' [some (.ref x),some (.str z),some (.str z'),some (.int w),some .non,none] H1:=fun e H1 S=>hM' _ _ ⟨by rw [e];rfl,S⟩
   have hX:∀ n,(if w=4 then o' else o.or o')=some n->XN C_NoSign H (kC K d_NoSign 5 (tAsg (tXGet K (tVar 5) (Str.ofString "at")) (gName 4)) { nx:=M',rt:=Q } [some (.ref x),some (.str z),some (.str z'),some (.int w),some .non,none]) n:=fun n e dx H1 S1 xS=>⟨C_NoSign,dx,rfl,rfl,mr_NoSign,fun y ny=>by
    walk_at "rd";exact ⟨C_NoSign,dx,A3,fN,_,D6 xS ny,MN,T.na_NoSign,_,rfl,hM' _ _ ⟨by rw [e];rfl,S1.trans (Same.new ny)⟩⟩⟩
   walk_at "rd";have f1:w≠4->L5 (hasW R "figures") (C2 R) z->L5 (hasW R "figures") (C2 R) z'->(if w=4 then o' else o.or o')=none:=fun h a b=>by rw [if_neg h,bo hb a,bo K1 b];rfl
   have f2:w≠4->¬ L5 (hasW R "figures") (C2 R) z->(if w=4 then o' else o.or o')=some (cutF (hasW R "figures") (C2 R) z.cps.toList).1:=fun h a=>by rw [if_neg h,bn hb a];rfl
   have f3:w≠4->L5 (hasW R "figures") (C2 R) z->¬ L5 (hasW R "figures") (C2 R) z'->(if w=4 then o' else o.or o')=some (cutF (hasW R "figures") (C2 R) z'.cps.toList).1:=fun h a b=>by rw [if_neg h,bo hb a,bn K1 b];rfl
   refine iteD (fun e=>?_) fun e0=>iteD (fun e=>?_) fun e1=>iteD (fun e=>?_) fun e2=>iteD (fun e=>?_) fun e3=>?_
   .exact ⟨x,j,ll,ml,md,z,z',4,ns,R,L,M,rfl,by decide,by decide,hO,G,hz,cC,fun a1 a2 l ps H1 _ S _=>hN (f1 (by lia) a1 a2) H1 S,fun a1=>hX _ (f2 (by lia) a1),fun a1 a2=>hX _ (f3 (by lia) a1 a2)⟩
   .exact ⟨x,j,ll,ml,md,z,z',1,ns,R,L,M,rfl,by decide,by decide,hO,G,hz,cC,fun a1 a2 l ps H1 _ S _=>hN (f1 (by lia) a1 a2) H1 S,fun a1=>hX _ (f2 (by lia) a1),fun a1 a2=>hX _ (f3 (by lia) a1 a2)⟩
   .exact ⟨x,j,ll,ml,md,z,z',1,U0 R,R,L,M,rfl,by decide,hO,G.known_len,by lia,by lia,G.stl,fun a1 a2 H1 S=>hN (f1 (by lia) a1 a2) H1 S,fun a1=>hX _ (f2 (by lia) a1),fun a1 a2=>hX _ (f3 (by lia) a1 a2)⟩
   .exact ⟨x,j,ll,ml,md,z,z',4,U0 R,R,L,M,rfl,by decide,hO,G.known_len,by lia,by lia,G.stl,fun a1 a2 H1 S=>hN (f1 (by lia) a1 a2) H1 S,fun a1=>hX _ (f2 (by lia) a1),fun a1 a2=>hX _ (f3 (by lia) a1 a2)⟩
   .have h4:w=4:=by lia
    exact ⟨x,j,ll,ml,md,z',ns,R,L,M,rfl,hO,G,by lia,fun a1 l H1 _ S _=>hN (by rw [if_pos h4,bo K1 a1]) H1 S,fun a1=>hX _ (by rw [if_pos h4,bn K1 a1])⟩
  rintro Y H1 ⟨rfl,S⟩;walk_at "rd";exact q H1 S
theorem akE:FnScope ["_law_place", "_law_due"] ["_law_place", "_law_due"] (B1 kL):=F8
abbrev aic:List Str:=["_law_place", "_law_due"]
theorem pW:VS aic kL "_law_place" 0:=vq
theorem vd3:VS aic kL "_law_due" 1:=vq
theorem akF(F:FunD K "_law_held" "_law_held" kL f fd)(T:Txt P w K mg C C_NoSign):FnOk P w K mg base E4 1 f fd ["_law_place", "_law_due"] spH64:=by
 refine F.ok akE ?_ ?_
 .rintro _ _ _ _ ⟨o,rfl,_⟩;rfl
 .intro cdv A outer s H vs Q E hr h;have C5:=hu_of hr;have hu:=hr.units;refine ⟨_,QSs.out (A9 (qs_if (G5 q_lt (vi vd3) A5) (A8 (E2 (fZ q_isN (vi pW) amj))) M9)
   (A8 (E2 (sQ (qe_cB q_isi T.b_isinstance ade (qa_c (vi pW) (qa_c (qe_ty T.b_int ami) A1))) (sQ (anI (K:=K) (qe_cB q_isi T.b_isinstance ade (qa_c (vi pW) (qa_c (qe_ty T.b_bool anF) A1)))) (sP (fZ (q_eq (K:=K) hu) (vi pW) (vi vd3)))))))),?_⟩
  obtain ⟨o,rfl,q⟩:=h
  cases o with
  | none=>
   walk_at "rd";refine iteT ?_;show Q (V.bl (decide (V.non=V.non))) H;rw [decide_eq_true rfl];exact q
  | some n=>
   walk_at "rd";rw [if_neg (by rw [decide_eq_true_iff];exact Int.not_lt.mpr (Int.natCast_nonneg n))];refine ⟨"int",rfl,rfl,iteT ⟨"int",rfl,rfl,iteT ?_⟩⟩;show rEqU K (V.int n) (V.int n) H Q;walk_at "rd";exact q
theorem sc_law:FnScope ["_law_script", "_law_many", "_law_order", "_law_deal", "_law_one", "_law_first", "_law_other", "_law_second", "_law_due", "_law_way"] ["_law_script"] (B1 s_law):=F8
abbrev n_law:List Str:=["_law_script", "_law_many", "_law_order", "_law_deal", "_law_one", "_law_first", "_law_other", "_law_second", "_law_due", "_law_way"]
theorem u6:VS n_law s_law "_law_script" 0:=vq
theorem vd5:VS n_law s_law "_law_many" 1:=vq
theorem vd6:VS n_law s_law "_law_order" 2:=vq
theorem vd7:VS n_law s_law "_law_deal" 3:=vq
theorem vd8:VS n_law s_law "_law_one" 4:=vq
theorem vd9:VS n_law s_law "_law_first" 5:=vq
theorem vea:VS n_law s_law "_law_other" 6:=vq
theorem veb:VS n_law s_law "_law_second" 7:=vq
theorem vec:VS n_law s_law "_law_due" 8:=vq
theorem ved:VS n_law s_law "_law_way" 9:=vq
theorem vee:LS s_law "_law_many":=lq
theorem vef:LS s_law "_law_order":=lq
theorem veg:LS s_law "_law_deal":=lq
theorem veh:LS s_law "_law_one":=lq
theorem vei:LS s_law "_law_first":=lq
theorem vej:LS s_law "_law_other":=lq
theorem vek:LS s_law "_law_second":=lq
theorem vel:LS s_law "_law_due":=lq
theorem vem:LS s_law "_law_way":=lq
theorem are(F:FunD K "law" "law" s_law f fd)(T:Txt P w K mg C C_NoSign)(G_Order___init__:KO P w K mg base 5 C "Order" ["self", "rules"] (tR C))(G_l_cell_at:FO P w K mg base 1 "_law_cell_at" ["_law_script", "_law_k"] [] (oI K))(G_l_sign:FO P w K mg base 2 "_law_sign" ["_law_script", "_law_k"] [] (uG K))(G_l_text:FO P w K mg base 3 "_law_text" ["_law_script", "_law_cells", "_law_cell"] [] (spT64 K))(G_l_asked:FO P w K mg base 9 "_law_asked" ["_law_order", "_law_one", "_law_other", "_law_way"] [] (spA64 C))(G_l_held:FO P w K mg base 1 "_law_held" ["_law_place", "_law_due"] [] spH64):FnOk P w K mg base E4 10 f fd ["_law_script"] (spLaw K):=by
 refine F.ok sc_law ?_ ?_
 .rintro _ _ _ _ ⟨a,ns,rfl,_⟩;rfl
 .intro cdv A outer s H vs Q E hr h;have C5:=hu_of hr;have hu:=hr.units;refine ⟨_,QSs.out (A9 (D8 (n:=1) sc_law.nd rfl vee (qe_op (q_add (K:=K)) A5 (qe_op q_mod (D7 G_l_cell_at (hm hr) (qa_c (vi u6) (qa_c A5 A1))) A5)))
   (dH (D8 (n:=2) sc_law.nd rfl vef (anR G_Order___init__ (hm hr) (qa_c (T8 (qa_c (R0 (qa_c N3 (qa_c (D7 G_l_sign (hm hr) (qa_c (vi u6) (qa_c A5 A1))) A1))) (qa_c (qe_op (q_add (K:=K)) (R0 (qa_c N3 A1)) (qe_cT (nY (K:=K)) T.b_tuple nR (qa_c (X8  (T5:CompOk ["_law_script", "_law_many", "_law_order", "_law_deal", "_law_one", "_law_first", "_law_other", "_law_second", "_law_due", "_law_way"] (B1 s_law).names _ ["_law_k", "_law_script"] 1 [0]) (qi_r1 T.b_range (qa_c (vi vd5) A1)) (fun _ _ _ _ _=>D0 (n:=0) (show List.Nodup (["_law_k", "_law_script"]:List Str) by decide +kernel) rfl (Or.inl rfl)) (fun _ _ _ _ _=>i5) (fun _ _ _ _ _=>(D7 G_l_sign (hm hr) (qa_c (qv 1) (qa_c (qv 0) A1))))) A1))) A1))) A1)))
   (A9 (D8 (n:=3) sc_law.nd rfl veg (qe_op (q_add (K:=K)) A5 (qe_op q_mod (qe_op nW (D7 G_l_cell_at (hm hr) (qa_c (vi u6) (qa_c A5 A1))) A5) (qe_cB (q_max (calm:=true)) T.b_max aqw (qa_c A5 (qa_c (qe_cB (q_len (K:=K)) T.b_len T7 (qa_c (Q5 (K:=K) (vi u6) (M3 A5) (M3 A5)) A1)) A1))))))
   (A9 (aml (D7 G_l_text (hm hr) (qa_c (vi u6) (qa_c (Q5 (K:=K) (vi u6) (M3 A5) (M3 (vi vd7))) (qa_c (D7 G_l_cell_at (hm hr) (qa_c (vi u6) (qa_c A5 A1))) A1)))) (q5 (K:=K) (n:=2) (P9 ((D0 (n:=4) sc_law.nd rfl veh (.inl rfl))) (P9 ((D0 (n:=5) sc_law.nd rfl vei (.inl rfl))) p9))))
   (A9 (aml (D7 G_l_text (hm hr) (qa_c (vi u6) (qa_c (Q5 (K:=K) (vi u6) (M3 (vi vd7)) (M3 A5)) (qa_c (qe_op nW (D7 G_l_cell_at (hm hr) (qa_c (vi u6) (qa_c A5 A1))) A5) A1)))) (q5 (K:=K) (n:=2) (P9 ((D0 (n:=6) sc_law.nd rfl vej (.inl rfl))) (P9 ((D0 (n:=7) sc_law.nd rfl vek (.inl rfl))) p9))))
   (A9 (D8 (n:=8) sc_law.nd rfl vel (vi vd9))
   (dH (qs_if (G5 q_lt (vi vec) A5) (A8 (D8 (n:=8) sc_law.nd rfl vel (vi veb))) M9)
   (A9 (P1 PassesOwn.never (qi_r1 T.b_range (qa_c A5 A1)) (D0 (n:=9) sc_law.nd rfl vem (.inl rfl)) (A8 (qs_if (amk (X0 (K:=K) (D7 G_l_held (hm hr) (qa_c (D7 G_l_asked (hm hr) (qa_c (vi vd6) (qa_c (vi vd8) (qa_c (vi vea) (qa_c (vi ved) A1))))) (qa_c (vi vec) A1))))) (A8 (E2 qe_bl)) M9)))
   (A8 (E2 (D7 G_l_held (hm hr) (qa_c (D7 G_l_asked (hm hr) (qa_c (vi vd6) (qa_c (vi vd8) (qa_c (vi vea) (qa_c A5 A1))))) (qa_c (vi veb) A1))))))))))))),?_⟩
  obtain ⟨a,ns,rfl,hS,A6,q⟩:=h;obtain ⟨n,hn⟩:∃ n:Nat,1+cellF ns 2 % 6=n:=⟨(1+cellF ns 2 % 6).toNat,by lia⟩
  have qZ:n<=6:=by lia
  have iF:1<=n:=by lia
  have sh:=amx (ns:=ns) qZ;walk_at "rd";refine ⟨a,ns,2,rfl,hS,by decide,_,rfl,?_⟩;rw [hn];refine midS (fun Y H1=>∃ (x j ll ml md:Addr),Y=[some (.ref a),some (.int n),some (.ref x),none,none,none,none,none,none,none]/\Same H H1/\IsOrd C H1 x j ll ml md (U0 (R64 (ls64 ns n) (P5 ns 10))) (R64 (ls64 ns n) (P5 ns 10)) (ls64 ns n) [P5 ns 10]) ?_ ?_
  .intro M' hM';walk_at "rd";refine ⟨a,ns,10,rfl,hS,by decide,fun H1 S1=>⟨by decide,fun p np=>⟨by decide,fun p1 Q2=>⟨by lia,by lia,?_⟩⟩⟩⟩;rw [jF];have S2:Same H1 (A0 (A0 H1 p (.tup [V.str (Str.ofString "marks"),V.str (one (sgnF ns 10))])) p1 (.tup [V.str (Str.ofString "row")])):=(Same.new np).trans (Same.new Q2);have eI:A0 (A0 H1 p (.tup [V.str (Str.ofString "marks"),V.str (one (sgnF ns 10))])) p1 (.tup [V.str (Str.ofString "row")]) p=some (tupR (("marks" : Str),[P5 ns 10])):=D6 A3 Q2;have hq2:A0 (A0 H1 p (.tup [V.str (Str.ofString "marks"),V.str (one (sgnF ns 10))])) p1 (.tup [V.str (Str.ofString "row")]) p1=some (.tup [V.str (Str.ofString "row")]):=A3;generalize A0 (A0 H1 p (.tup [V.str (Str.ofString "marks"),V.str (one (sgnF ns 10))])) p1 (.tup [V.str (Str.ofString "row")])=H2 at S2 eI hq2;clear np Q2;refine compR [some (.ref a)] rfl (fun D j ys H4=>ys=(ls64 ns j).map V.str/\Same H2 H4) (fun D nD=>⟨rfl,Same.new nD⟩) ?_ ?_
   .rintro D j ys H4 nD hi ⟨rfl,S⟩ hD hy;walk_at "rd";refine ⟨a,ns,_,rfl,(S1.trans (S2.trans S)).seq hS,by lia,fun H5 S5=>⟨S5 _ _ hD,K0 (by lia),CW.put hi hy ⟨?_,(S.trans S5).put nD⟩⟩⟩;unfold ls64;rw [List.range_succ,Int.zero_add];simp [P5]
   rintro D ys H4 nD ⟨rfl,S4⟩ hD hy;have mJ:(ls64 ns n).length=n:=by unfold ls64;simp
   have hln:ls64 ns n≠[]:=fun e=>by rw [e] at mJ;simp at mJ;lia
   walk_at "rd";refine rTupR.l (.of hD) fun t nt=>?_
   walk_at "rd";refine rAddR.t (.of (D6 (S4 _ _ hq2) nt)) (.of A3) (by simp) (by simp only [A2,G6,Z1];exact i4 (by lia)) (fun e=>absurd (List.map_eq_nil_iff.mp e) hln) fun _ t2 qR=>⟨by decide,fun r nr=>fun x dx nx ndx ndxx=>?_⟩
   have S5:Same H4 (A0 (A0 (A0 H4 t (.tup ((ls64 ns n).map V.str))) t2 (.tup ([V.str (Str.ofString "row")]++(ls64 ns n).map V.str))) r (.lst [V.ref p,V.ref t2])):=((Same.new nt).trans (Same.new qR)).trans (Same.new nr);have hR:IsRules (A0 (A0 (A0 H4 t (.tup ((ls64 ns n).map V.str))) t2 (.tup ([V.str (Str.ofString "row")]++(ls64 ns n).map V.str))) r (.lst [V.ref p,V.ref t2])) r [p,t2] (R64 (ls64 ns n) (P5 ns 10)):=⟨A3,.cons (S5 _ _ (S4 _ _ eI)) (.cons (D6 A3 nr) .nil)⟩
   have j5:=S1.trans (S2.trans (S4.trans S5));generalize A0 (A0 (A0 H4 t (.tup ((ls64 ns n).map V.str))) t2 (.tup ([V.str (Str.ofString "row")]++(ls64 ns n).map V.str))) r (.lst [V.ref p,V.ref t2])=H6 at nx ndx hR j5;have S8:Same H6 (A0 (A0 H6 dx (.own x)) x (.ins C dx [])):=(Same.new ndx).trans (Same.new (by rw [A4 ndxx.symm];exact nx));have qN:A0 (A0 H6 dx (.own x)) x (.ins C dx []) x=some (.ins C dx []):=A3;generalize A0 (A0 H6 dx (.own x)) x (.ins C dx [])=H8 at S8 qN;refine ⟨x,dx,r,_,R64 (ls64 ns n) (P5 ns 10),U0 (R64 (ls64 ns n) (P5 ns 10)),_,_,rfl,qN,hR.same S8,sh.good,fun j ll ml md L M H9 nj nll nml nmd B9 hO=>⟨rfl,?_⟩⟩;obtain ⟨eL,eM⟩:=sh.lets hO.l1 hO.l2;rw [eL,eM] at hO;exact hM' _ _ ⟨x,j,ll,ml,md,rfl,fun b o hb=>B9 _ _ (fun e=>by rw [e] at hb;have:=j5 _ _ hb;rw [nx] at this;cases this) (S8 _ _ (j5 _ _ hb)),hO⟩
  rintro Y H1 ⟨x,j,ll,ml,md,rfl,S1,hO⟩;walk_at "rd";refine ⟨a,ns,2,rfl,S1.seq hS,by decide,_,rfl,rSlR.l (S1.seq hS) fun l1 rB=>?_⟩;rw [show cutV (ns.map V.int) (some 4) (some 18)=((ns.drop 4).take 14).map V.int by rw [show cutV (ns.map V.int) (some 4) (some 18)=_ from jV _ (i:=4) (j:=18) (by decide),<- W6,<- aU]];have qP:((ns.drop 4).take 14).length<=14:=by rw [F9];lia
  generalize (ns.drop 4).take 14=c1 at qP;walk_at "rd";have S2:Same H1 (A0 H1 l1 (.lst (c1.map V.int))):=Same.new rB;have h2:A0 H1 l1 (.lst (c1.map V.int)) l1=some (.lst (c1.map V.int)):=A3;generalize A0 H1 l1 (.lst (c1.map V.int))=H2 at S2 h2;obtain ⟨d,hd,mE,R3⟩:∃ d:Nat,4+cellF ns 2 / 6 % (if (c1.length:Int) > 1 then (c1.length:Int) else 1)=d/\4<=d/\d<=18:=by
   have hp:0<(if (c1.length:Int) > 1 then (c1.length:Int) else 1):=by split <;> lia
   have hq:(if (c1.length:Int) > 1 then (c1.length:Int) else 1)<=14:=by split <;> lia
   have h1:=Int.emod_nonneg (cellF ns 2 / 6) (Int.ne_of_gt hp);have h2:=Int.emod_lt_of_pos (cellF ns 2 / 6) hp;exact ⟨(4+cellF ns 2 / 6 % (if (c1.length:Int) > 1 then (c1.length:Int) else 1)).toNat,by lia,by lia,by lia⟩
  refine ⟨c1.length,.inl ⟨_,.of h2,by rw [A2]⟩,by split <;> lia,?_⟩;rw [hd];have yC:=S1.trans S2;have e1:cutV (ns.map V.int) (some 4) (some (d:Int))=((ns.drop 4).take (d-4)).map V.int:=by rw [show cutV (ns.map V.int) (some 4) (some (d:Int))=_ from jV _ (i:=4) (j:=d) mE,<- W6,<- aU]
  have e2:cutV (ns.map V.int) (some (d:Int)) (some 18)=((ns.drop d).take (18-d)).map V.int:=by rw [show cutV (ns.map V.int) (some (d:Int)) (some 18)=_ from jV _ (i:=d) (j:=18) R3,<- W6,<- aU]
  refine rSlR.l (yC.seq hS) fun l3 yD=>?_
  rw [e1];have S3:Same H (A0 H2 l3 (.lst (((ns.drop 4).take (d-4)).map V.int))):=yC.trans (Same.new yD);have O3:=(hO.same S2).same (Same.new (u:=HO.lst (((ns.drop 4).take (d-4)).map V.int)) yD);refine ⟨a,ns,3,rfl,S3.seq hS,by decide,a,l3,_,ns,_,rfl,S3.seq hS,.of A3,by rw [F9];lia,fun t z o H4 nt S4 ht O9 hT=>⟨t,rfl,_,.of ht,rfl,_,_,rfl,_,_,rfl,rfl,?_⟩⟩;rw [hn,jF] at hT;have O4:=O3.same S4;have aN:=S3.trans S4;clear S3 O3 S4 yC S2 h2;refine rSlR.l (aN.seq hS) fun l5 nl5=>?_
  rw [e2];have S5:Same H4 (A0 H4 l5 (.lst (((ns.drop d).take (18-d)).map V.int))):=Same.new nl5;have j5:=aN.trans S5;refine ⟨a,ns,3,rfl,j5.seq hS,by decide,_,rfl,a,l5,_,ns,_,rfl,j5.seq hS,.of A3,by rw [F9];lia,fun t' z' o' H6 nt' S6 ht' eY hT'=>⟨t',rfl,_,.of ht',rfl,_,_,rfl,_,_,rfl,rfl,?_⟩⟩;rw [hn,jF] at hT';have O6:=(O4.same S5).same S6;have b1:=sh.bad hT;have b2:=sh.bad hT';clear j5 aN S5 S6 O4 ht ht' nt nt' nl5 yD rB hT hT' e1 e2 hd hO;refine midS (fun Y H7=>Y=[some (.ref a),some (.int n),some (.ref x),some (.int d),some (.str z),some (.int (optI o)),some (.str z'),some (.int (optI o')),some (.int (optI (o.or o'))),none]/\H7=H6) ?_ ?_
  .intro M' hM';walk_at "rd"
   cases o with
   | none=>exact iteT (hM' _ _ ⟨rfl,rfl⟩)
   | some k=>rw [if_neg (by rw [decide_eq_true_iff];exact Int.not_lt.mpr (Int.natCast_nonneg k))];exact hM' _ _ ⟨rfl,rfl⟩
  rintro Y H7 ⟨rfl,rfl⟩;walk_at "rd";refine ⟨by decide,by decide,forRs (fun i Y H8=>∃ (u:Option V),Y=[some (.ref a),some (.int n),some (.ref x),some (.int d),some (.str z),some (.int (optI o)),some (.str z'),some (.int (optI o')),some (.int (optI (o.or o'))),u]/\Same H7 H8) ⟨none,rfl,cZ _⟩ ?_ ?_⟩
  .rintro P' Bk hP i Y H8 hi ⟨u,rfl,S8⟩;have xX:i<4:=by simpa using hi
   walk_at "rd";rw [Int.zero_add];refine ⟨x,j,ll,ml,md,z,z',i,_,_,_,_,o,o',rfl,by lia,O6.same S8,sh.q,by lia,by lia,b1,b2,fun H9 S9=>?_⟩;rw [if_neg (by lia)];exact ⟨_,rfl,_,rfl,iteF (hP _ _ _ ⟨_,rfl,S8.trans S9⟩)⟩
  rintro Y H8 ⟨u,rfl,S8⟩;walk_at "rd";refine ⟨x,j,ll,ml,md,z,z',4,_,_,_,_,o,o',rfl,by lia,O6.same S8,sh.q,by lia,by lia,b1,b2,fun H9 S9=>?_⟩;rw [if_pos rfl];exact ⟨_,rfl,q _⟩
end
theorem all_mk{l:PySem.W.OpenLaw}{w:World}{C_NoSign:Addr}(X:K.In h)(G:h.Ns mainGlobals mg)(qS:mg "law"=some (.ref fa)){f0:Addr}{od0 an0:Option Addr}{sl0:Array (Option Value)}{oc0 kV0 dc0 pm0 cd0 ct0:Value}(i0:k7 K (.ref f0)=true)(l0:K.lookup f0=some ⟨oc0,od0,.func (N8 "__init__" "NoSign.__init__" (P0 bL) (O0 bL) (B1 bL) .none kV0 dc0 pm0 an0 cd0 ct0),sl0⟩)(c0:Q3 K cd0 "NoSign.__init__"=true)(k0:N1 K (.ref f0)=true)(d1:DF K "told" t5)(d2:DF K "followers" Y0)(d3:DF K "count_ahead" t6)(d4:DF K "lined_up" Q7)(d5:DF K "is_figure" oY)(d6:DF K "has_rule" kF)(d7:DF K "pieces_told" oZ)(d8:DF K "is_clash" bM)(d9:DF K "jobs_of" i8)(d10:DF K "misused" y7)(d11:DF K "check_letters" y8)(d12:DF K "line_of" kG)(d13:DF K "forms_of" bN)(d14:DF K "steps_of" Q0){f15:Addr}{od15 an15:Option Addr}{sl15:Array (Option Value)}{oc15 kV15 dc15 pm15 cd15 ct15:Value}(a15:L6 K (.ref C) "__init__"=some (some (.ref f15)))(i15:k7 K (.ref f15)=true)(l15:K.lookup f15=some ⟨oc15,od15,.func (N8 "__init__" "Order.__init__" (P0 bO) (O0 bO) (B1 bO) .none kV15 dc15 pm15 an15 cd15 ct15),sl15⟩)(c15:Q3 K cd15 "Order.__init__"=true)(k15:N1 K (.ref f15)=true){f16:Addr}{od16 an16:Option Addr}{sl16:Array (Option Value)}{oc16 kV16 dc16 pm16 cd16 ct16:Value}(a16:L6 K (.ref C) "letters"=some (some (.ref f16)))(i16:k7 K (.ref f16)=true)(l16:K.lookup f16=some ⟨oc16,od16,.func (N8 "letters" "Order.letters" (P0 dQ) (O0 dQ) (B1 dQ) .none kV16 dc16 pm16 an16 cd16 ct16),sl16⟩)(c16:Q3 K cd16 "Order.letters"=true)(k16:N1 K (.ref f16)=true){f17:Addr}{od17 an17:Option Addr}{sl17:Array (Option Value)}{oc17 kV17 dc17 pm17 cd17 ct17:Value}(a17:L6 K (.ref C) "marks"=some (some (.ref f17)))(i17:k7 K (.ref f17)=true)(l17:K.lookup f17=some ⟨oc17,od17,.func (N8 "marks" "Order.marks" (P0 dR) (O0 dR) (B1 dR) .none kV17 dc17 pm17 an17 cd17 ct17),sl17⟩)(c17:Q3 K cd17 "Order.marks"=true)(k17:N1 K (.ref f17)=true){f18:Addr}{od18 an18:Option Addr}{sl18:Array (Option Value)}{oc18 kV18 dc18 pm18 cd18 ct18:Value}(a18:L6 K (.ref C) "job"=some (some (.ref f18)))(i18:k7 K (.ref f18)=true)(l18:K.lookup f18=some ⟨oc18,od18,.func (N8 "job" "Order.job" (P0 bP) (O0 bP) (B1 bP) .none kV18 dc18 pm18 an18 cd18 ct18),sl18⟩)(c18:Q3 K cd18 "Order.job"=true)(k18:N1 K (.ref f18)=true)(d19:DF K "figures_at" dS){f20:Addr}{od20 an20:Option Addr}{sl20:Array (Option Value)}{oc20 kV20 dc20 pm20 cd20 ct20:Value}(a20:G8 K mainGlobals "part_at"=some (some (.ref f20)))(l20:K.lookup f20=some ⟨oc20,od20,.func (N8 "part_at" "part_at" (P0 i9) (O0 i9) (B1 i9) .none kV20 dc20 pm20 an20 cd20 ct20),sl20⟩)(c20:Q3 K cd20 "part_at"=true)(k20:N1 K (.ref f20)=true){f21:Addr}{od21 an21:Option Addr}{sl21:Array (Option Value)}{oc21 kV21 dc21 pm21 cd21 ct21:Value}{tD21:Addr}{nD21:Nat}{cD21:Value}{oD21:Option Addr}{sD21:Array (Option Value)}(dl21:K.lookup tD21=some ⟨cD21,oD21,.seq #[.bool false] nD21,sD21⟩)(a21:G8 K mainGlobals "cut"=some (some (.ref f21)))(l21:K.lookup f21=some ⟨oc21,od21,.func (N8 "cut" "cut" (P0 s_cut) (O0 s_cut) (B1 s_cut) (.ref tD21) kV21 dc21 pm21 an21 cd21 ct21),sl21⟩)(c21:Q3 K cd21 "cut"=true)(k21:N1 K (.ref f21)=true){f22:Addr}{od22 an22:Option Addr}{sl22:Array (Option Value)}{oc22 kV22 dc22 pm22 cd22 ct22:Value}(a22:L6 K (.ref C) "known"=some (some (.ref f22)))(i22:k7 K (.ref f22)=true)(l22:K.lookup f22=some ⟨oc22,od22,.func (N8 "known" "Order.known" (P0 dU) (O0 dU) (B1 dU) .none kV22 dc22 pm22 an22 cd22 ct22),sl22⟩)(c22:Q3 K cd22 "Order.known"=true)(k22:N1 K (.ref f22)=true){f23:Addr}{od23 an23:Option Addr}{sl23:Array (Option Value)}{oc23 kV23 dc23 pm23 cd23 ct23:Value}(a23:L6 K (.ref C) "steps"=some (some (.ref f23)))(i23:k7 K (.ref f23)=true)(l23:K.lookup f23=some ⟨oc23,od23,.func (N8 "steps" "Order.steps" (P0 bQ) (O0 bQ) (B1 bQ) .none kV23 dc23 pm23 an23 cd23 ct23),sl23⟩)(c23:Q3 K cd23 "Order.steps"=true)(k23:N1 K (.ref f23)=true){f24:Addr}{od24 an24:Option Addr}{sl24:Array (Option Value)}{oc24 kV24 dc24 pm24 cd24 ct24:Value}(a24:G8 K mainGlobals "parts_of"=some (some (.ref f24)))(l24:K.lookup f24=some ⟨oc24,od24,.func (N8 "parts_of" "parts_of" (P0 bR) (O0 bR) (B1 bR) .none kV24 dc24 pm24 an24 cd24 ct24),sl24⟩)(c24:Q3 K cd24 "parts_of"=true)(k24:N1 K (.ref f24)=true)(d25:DF K "steps_by" kH)(d26:DF K "add_mark" kI)(d27:DF K "add_part" j0){f28:Addr}{od28 an28:Option Addr}{sl28:Array (Option Value)}{oc28 kV28 dc28 pm28 cd28 ct28:Value}(a28:G8 K mainGlobals "units"=some (some (.ref f28)))(l28:K.lookup f28=some ⟨oc28,od28,.func (N8 "units" "units" (P0 Z4) (O0 Z4) (B1 Z4) .none kV28 dc28 pm28 an28 cd28 ct28),sl28⟩)(c28:Q3 K cd28 "units"=true)(k28:N1 K (.ref f28)=true){f29:Addr}{od29 an29:Option Addr}{sl29:Array (Option Value)}{oc29 kV29 dc29 pm29 cd29 ct29:Value}(a29:G8 K mainGlobals "looks"=some (some (.ref f29)))(l29:K.lookup f29=some ⟨oc29,od29,.func (N8 "looks" "looks" (P0 X1) (O0 X1) (B1 X1) .none kV29 dc29 pm29 an29 cd29 ct29),sl29⟩)(c29:Q3 K cd29 "looks"=true)(k29:N1 K (.ref f29)=true){f30:Addr}{od30 an30:Option Addr}{sl30:Array (Option Value)}{oc30 kV30 dc30 pm30 cd30 ct30:Value}{kD30:Tok}{tD30:Addr}{nD30:Nat}{cD30:Value}{oD30:Option Addr}{sD30:Array (Option Value)}(dl30:K.lookup tD30=some ⟨cD30,oD30,.seq #[.int 4 kD30] nD30,sD30⟩)(a30:G8 K mainGlobals "compare"=some (some (.ref f30)))(l30:K.lookup f30=some ⟨oc30,od30,.func (N8 "compare" "compare" (P0 W1) (O0 W1) (B1 W1) (.ref tD30) kV30 dc30 pm30 an30 cd30 ct30),sl30⟩)(c30:Q3 K cd30 "compare"=true)(k30:N1 K (.ref f30)=true)(d31:DF K "starts" bS)(d32:DF K "is_joint" gN){f33:Addr}{od33 an33:Option Addr}{sl33:Array (Option Value)}{oc33 kV33 dc33 pm33 cd33 ct33:Value}(a33:G8 K mainGlobals "joints"=some (some (.ref f33)))(l33:K.lookup f33=some ⟨oc33,od33,.func (N8 "joints" "joints" (P0 m6) (O0 m6) (B1 m6) .none kV33 dc33 pm33 an33 cd33 ct33),sl33⟩)(c33:Q3 K cd33 "joints"=true)(k33:N1 K (.ref f33)=true)(d34:DF K "seen" kJ)(d35:DF K "count_alike" t7)(d36:DF K "ends_from" T3){f37:Addr}{od37 an37:Option Addr}{sl37:Array (Option Value)}{oc37 kV37 dc37 pm37 cd37 ct37:Value}{kD37:Tok}{tD37:Addr}{nD37:Nat}{cD37:Value}{oD37:Option Addr}{sD37:Array (Option Value)}(dl37:K.lookup tD37=some ⟨cD37,oD37,.seq #[.int 4 kD37] nD37,sD37⟩)(a37:G8 K mainGlobals "found_in"=some (some (.ref f37)))(l37:K.lookup f37=some ⟨oc37,od37,.func (N8 "found_in" "found_in" (P0 P3) (O0 P3) (B1 P3) (.ref tD37) kV37 dc37 pm37 an37 cd37 ct37),sl37⟩)(c37:Q3 K cd37 "found_in"=true)(k37:N1 K (.ref f37)=true)(d38:DF K "_law_cell_at" kK)(d39:DF K "_law_sign" y9)(d40:DF K "_law_text" Y1)(d41:DF K "_law_asked" m7)(d42:DF K "_law_held" kL){f43:Addr}{od43 an43:Option Addr}{sl43:Array (Option Value)}{oc43 kV43 dc43 pm43 cd43 ct43:Value}(a43:G8 K mainGlobals "law"=some (some (.ref f43)))(l43:K.lookup f43=some ⟨oc43,od43,.func (N8 "law" "law" (P0 s_law) (O0 s_law) (B1 s_law) .none kV43 dc43 pm43 an43 cd43 ct43),sl43⟩)(c43:Q3 K cd43 "law"=true)(k43:N1 K (.ref f43)=true){N_NoSign:Addr}{nm_NoSign q_NoSign:Str}{bs_NoSign bm_NoSign sub_NoSign:List Value}{sn_NoSign:List Str}{ab_NoSign:Bool}{col_NoSign:Option Bool}{dd_NoSign:Option Addr}{k0_NoSign k1_NoSign k2_NoSign k3_NoSign k5_NoSign:Option Value}(aE_NoSign:G8 K mainGlobals "NoSign"=some (some (.ref C_NoSign)))(lE_NoSign:K.lookup C_NoSign=some (excClassObj nm_NoSign q_NoSign C_NoSign N_NoSign bs_NoSign bm_NoSign true sn_NoSign sub_NoSign ab_NoSign col_NoSign dd_NoSign k0_NoSign k1_NoSign k2_NoSign k3_NoSign k5_NoSign "ValueError.__new__"))(t1_NoSign:fK K kB bm_NoSign=true)(t2_NoSign:y0 kB (.ref C_NoSign::bm_NoSign)=true)(t3_NoSign:PySem.W.nsOkIn K N_NoSign=true)(t4_NoSign:G8 K N_NoSign "__init__"=some (some (.ref f0)))(sa_NoSign:L6 K (.ref C_NoSign) "__setattr__"=some (some (.builtin "object.__setattr__")))(ga_NoSign:L6 K (.ref C_NoSign) "__getattribute__"=some (some (.builtin "BaseException.__getattribute__")))(gt_NoSign:L6 K (.ref C_NoSign) "__getattr__"=some (none))(cl_NoSign:L6 K (.ref C_NoSign) "__class__"=some (some (.builtin "object.__class__")))(bx_NoSign:f9 K C_NoSign (.type "BaseException")=some true)(ob_NoSign:f9 K C_NoSign (.type "object")=some true)(kp_NoSign:N1 K (.ref C_NoSign)=true)(nE_NoSign:L6 K (.ref C_NoSign) "at"=some none){aL:Addr}(eL:G8 K mainGlobals "LoreError"=some (some (.ref aL)))(eL1:jB K (.ref aL) "__getattribute__"=some (some (.builtin "type.__getattribute__")))(eL2:PySem.W.readsIn K aL (.type "type")=true)(eL3:PySem.W.findCls K (.ref aL) (.type "type") "__init__"=some (.val (.builtin "ValueError.__init__")))(ecn:jB K (.builtin "object.__class__") "__get__"=some (some (.builtin "getset_descriptor.__get__")))(ect:PySem.W.takesIn K (.builtin "object.__class__")=some true){d_NoSign:Addr}{cd_NoSign:ClassData}(aD_NoSign:G8 K mainGlobals "NoSign"=some (some (.ref d_NoSign)))(D1_NoSign:PySem.W.clsIn K d_NoSign=some cd_NoSign)(D2_NoSign:PySem.W.typeIn K (.ref d_NoSign)=some (.type "type"))(D3_NoSign:f9 K d_NoSign (.type "BaseException")=some true)(D4_NoSign:f9 K C_NoSign (.ref d_NoSign)=some true)(aC:G8 K mainGlobals "Order"=some (some (.ref C)))(pgC:jD K C Str.empty=true)(hdC:jC K C=true)(poC:PySem.W.plainOver K C=true)(saC:L6 K (.ref C) "__setattr__"=some (some (.builtin "object.__setattr__")))(mkC:PySem.W.makesIn K C=true)(kcC:N1 K (.ref C)=true)(nC_figures:L6 K (.ref C) "figures"=some none)(nC_behind:L6 K (.ref C) "behind"=some none)(nC_jobs:L6 K (.ref C) "jobs"=some none)(nC_letter_line:L6 K (.ref C) "letter_line"=some none)(nC_mark_line:L6 K (.ref C) "mark_line"=some none)(nC_made:L6 K (.ref C) "made"=some none)(z_any:G8 K mainGlobals "any"=some none)(z_bool:G8 K mainGlobals "bool"=some none)(z_dict:G8 K mainGlobals "dict"=some none)(z_enumerate:G8 K mainGlobals "enumerate"=some none)(z_int:G8 K mainGlobals "int"=some none)(z_isinstance:G8 K mainGlobals "isinstance"=some none)(z_len:G8 K mainGlobals "len"=some none)(z_list:G8 K mainGlobals "list"=some none)(z_max:G8 K mainGlobals "max"=some none)(z_min:G8 K mainGlobals "min"=some none)(z_range:G8 K mainGlobals "range"=some none)(z_tuple:G8 K mainGlobals "tuple"=some none)(z_zip:G8 K mainGlobals "zip"=some none){a_JOBS:Addr}{ep_JOBS:Nat}{h_JOBS_0:Int}{t_JOBS_0 u_JOBS_0:Tok}{h_JOBS_1:Int}{t_JOBS_1 u_JOBS_1:Tok}{h_JOBS_2:Int}{t_JOBS_2 u_JOBS_2:Tok}{h_JOBS_3:Int}{t_JOBS_3 u_JOBS_3:Tok}{h_JOBS_4:Int}{t_JOBS_4 u_JOBS_4:Tok}(y_JOBS:G8 K mainGlobals "JOBS"=some (some (.ref a_JOBS)))(d_JOBS:K.lookup a_JOBS=some { cls:=.type "dict",dict:=none,data:=.dict #[⟨h_JOBS_0,.str "row" t_JOBS_0,.str "letter" u_JOBS_0⟩,⟨h_JOBS_1,.str "marks" t_JOBS_1,.str "mark" u_JOBS_1⟩,⟨h_JOBS_2,.str "great" t_JOBS_2,.str "great" u_JOBS_2⟩,⟨h_JOBS_3,.str "as" t_JOBS_3,.str "as" u_JOBS_3⟩,⟨h_JOBS_4,.str "over" t_JOBS_4,.str "over" u_JOBS_4⟩] ep_JOBS,slots:=#[] })(s_JOBS:(a_JOBS==sysModules)=false)(e_JOBS_0:h_JOBS_0=keyH w (Sum.inr ("row" : Str)))(e_JOBS_1:h_JOBS_1=keyH w (Sum.inr ("marks" : Str)))(e_JOBS_2:h_JOBS_2=keyH w (Sum.inr ("great" : Str)))(e_JOBS_3:h_JOBS_3=keyH w (Sum.inr ("as" : Str)))(e_JOBS_4:h_JOBS_4=keyH w (Sum.inr ("over" : Str))){a_AGAIN:Addr}{n_AGAIN:Nat}{od_AGAIN:Option Addr}{sl_AGAIN:Array (Option Value)}{t_AGAIN_0:Tok}{t_AGAIN_1:Tok}{t_AGAIN_2:Tok}(y_AGAIN:G8 K mainGlobals "AGAIN"=some (some (.ref a_AGAIN)))(d_AGAIN:K.lookup a_AGAIN=some ⟨.type "tuple",od_AGAIN,.seq #[.str "letter" t_AGAIN_0,.str "mark" t_AGAIN_1,.str "over" t_AGAIN_2] n_AGAIN,sl_AGAIN⟩){tMARK tLETTER tFIGURES:Tok}(y_MARK:G8 K mainGlobals "MARK"=some (some (.int 0 tMARK)))(y_LETTER:G8 K mainGlobals "LETTER"=some (some (.int 2 tLETTER)))(y_FIGURES:G8 K mainGlobals "FIGURES"=some (some (.int 1 tFIGURES)))
  : ∃ fd:FuncData,(∀ (s:Shared) (v:Value),BindsTo s fd ⟨[v],[]⟩ [("_law_script",v)])/\∀ base:Heap,K.In base->base.Ns mainGlobals mg->FnOk l.prog w K mg base E4 10 fa fd ["_law_script"] (spLaw K):=by
 have e:=qS.symm.trans (Q4 X G a43);cases e;have M_NoSign:ErrC K C_NoSign f0:=⟨⟨_,_,_,_,_,_,_,_,_,_,_,_,_,_,_,lE_NoSign,t1_NoSign,t2_NoSign,t3_NoSign,t4_NoSign⟩,i0,sa_NoSign,ga_NoSign,gt_NoSign,cl_NoSign,bx_NoSign,ob_NoSign,kp_NoSign⟩
 have T:Txt l.prog w K mg C C_NoSign:=⟨⟨pgC,hdC,poC,saC⟩,nC_figures,nC_behind,nC_jobs,nC_letter_line,nC_mark_line,nC_made,⟨aL,Q4 X G eL,⟨eL1,eL2,eL3⟩⟩,nE_NoSign,⟨_,M_NoSign⟩,ecn,ect,⟨d_NoSign,Q4 X G aD_NoSign,⟨⟨_,D1_NoSign⟩,D2_NoSign,D3_NoSign⟩,D4_NoSign⟩,Z2 X G z_any,Z2 X G z_bool,Z2 X G z_dict,Z2 X G z_enumerate,Z2 X G z_int,Z2 X G z_isinstance,Z2 X G z_len,Z2 X G z_list,Z2 X G z_max,Z2 X G z_min,Z2 X G z_range,Z2 X G z_tuple,Z2 X G z_zip,⟨_,Q4 X G y_MARK⟩,⟨_,Q4 X G y_LETTER⟩,⟨_,Q4 X G y_FIGURES⟩,⟨_,Q4 X G y_JOBS,anJ d_JOBS s_JOBS (.cons ⟨fM _ _,e_JOBS_0,⟨_,rfl⟩⟩ ( .cons ⟨fM _ _,e_JOBS_1,⟨_,rfl⟩⟩ ( .cons ⟨fM _ _,e_JOBS_2,⟨_,rfl⟩⟩ ( .cons ⟨fM _ _,e_JOBS_3,⟨_,rfl⟩⟩ ( .cons ⟨fM _ _,e_JOBS_4,⟨_,rfl⟩⟩ ( .nil)))))) (by decide +kernel)⟩,⟨_,Q4 X G y_AGAIN,fun H=>.inr ⟨_,_,_,d_AGAIN,rfl,rfl,(by show 3<=sizeLine;decide),.cons ⟨_,rfl⟩ ( .cons ⟨_,rfl⟩ ( .cons ⟨_,rfl⟩ ( .nil)))⟩⟩⟩
 have F0:=U5 (st:=bL) l0 c0;have F15:=U5 (st:=bO) l15 c15;have F16:=U5 (st:=dQ) l16 c16;have F17:=U5 (st:=dR) l17 c17;have F18:=U5 (st:=bP) l18 c18;have F20:=U5 (st:=i9) l20 c20;have F21:=U5 (st:=s_cut) l21 c21;have F22:=U5 (st:=dU) l22 c22;have F23:=U5 (st:=bQ) l23 c23;have F24:=U5 (st:=bR) l24 c24;have F28:=U5 (st:=Z4) l28 c28;have F29:=U5 (st:=X1) l29 c29;have F30:=U5 (st:=W1) l30 c30;have F33:=U5 (st:=m6) l33 c33;have F37:=U5 (st:=P3) l37 c37;have F43:=U5 (st:=s_law) l43 c43;refine ⟨N8 "law" "law" (P0 s_law) (O0 s_law) (B1 s_law) .none kV43 dc43 pm43 an43 cd43 ct43,fun s v=>.of_eq rfl,fun base hb hn=>?_⟩;have G_NoSign___init__:EO l.prog w K mg base 1 C_NoSign "NoSign" ["self", "at"] (dP K C_NoSign "at"):=⟨_,_,adu F0 T,Q4 X G aE_NoSign,M_NoSign,.all (len2 fun _ _=>rfl)⟩
 have G_told:=d1.go X G hb fun F=>aoq F T
 have G_followers:=d2.go X G hb fun F=>agD F T G_told
 have G_count_ahead:=d3.go X G hb fun F=>aey F T
 have G_lined_up:=d4.go X G hb fun F=>ahf F T G_followers G_count_ahead
 have G_is_figure:=d5.go X G hb fun F=>agF F T
 have G_has_rule:=d6.go X G hb fun F=>ahi F T
 have G_pieces_told:=d7.go X G hb fun F=>aeA F T
 have G_is_clash:=d8.go X G hb fun F=>ahk F T G_is_figure
 have G_jobs_of:=d9.go X G hb fun F=>aiL F T G_has_rule G_pieces_told G_is_clash
 have G_misused:=d10.go X G hb fun F=>aiM F T
 have G_check_letters:=d11.go X G hb fun F=>adN F T G_misused
 have G_line_of:=d12.go X G hb fun F=>aiO F T G_lined_up
 have G_forms_of:=d13.go X G hb fun F=>ahl F T
 have G_steps_of:=d14.go X G hb fun F=>ahm F T G_forms_of
 have G_Order___init__:KO l.prog w K mg base 5 C "Order" ["self", "rules"] (tR C):=⟨_,_,adG F15 T G_has_rule G_jobs_of G_check_letters G_line_of G_steps_of,⟨mkC,a15,i15,kcC⟩,Q4 X G aC,.all (len2 fun _ _=>rfl)⟩
 have G_Order_letters:MO l.prog w K mg base 1 C "letters" ["self"] (aj5 C):=⟨_,_,adP F16 T,T.cl,⟨a16,i16,k16⟩,.all (len1 fun _=>rfl)⟩
 have G_Order_marks:MO l.prog w K mg base 1 C "marks" ["self"] (ahV C):=⟨_,_,aeC F17 T,T.cl,⟨a17,i17,k17⟩,.all (len1 fun _=>rfl)⟩
 have G_Order_job:MO l.prog w K mg base 1 C "job" ["self", "piece"] (tS C):=⟨_,_,agI F18 T,T.cl,⟨a18,i18,k18⟩,.all (len2 fun _ _=>rfl)⟩
 have G_figures_at:=d19.go X G hb fun F=>afz F T G_is_figure
 have G_part_at:O1 l.prog w K mg base 3 "part_at" ["known", "text", "at", "figures"] [] (uR C_NoSign):=⟨_,_,aiP F20 T G_NoSign___init__ G_is_figure G_figures_at,Q4 X G a20,k20,[],.all (len4 fun _ _ _ _=>rfl),.nil⟩
 have G_cut:O1 l.prog w K mg base 4 "cut" ["known", "text", "figures"] [.bl false] (pC K C_NoSign):=⟨_,_,amz F21 T G_part_at,Q4 X G a21,k21,[.bool false],(fun s us J8 hl=>by obtain ⟨u1,u2,rfl⟩:=aq0 hl;exact fJ J8 rfl dl21 rfl rfl rfl),.cons rfl .nil⟩
 have G3_cut:O1 l.prog w K mg base 4 "cut" ["known", "text", "figures"] [] (pC K C_NoSign):=⟨_,_,amz F21 T G_part_at,Q4 X G a21,k21,[],(fun s us J8 hl=>by obtain ⟨u1,u2,u3,rfl⟩:=alO hl;exact fJ J8 rfl dl21 rfl rfl rfl),.nil⟩
 have G_Order_known:MO l.prog w K mg base 1 C "known" ["self"] (tV C):=⟨_,_,aeE F22 T,T.cl,⟨a22,i22,k22⟩,.all (len1 fun _=>rfl)⟩
 have G_Order_steps:MO l.prog w K mg base 1 C "steps" ["self", "piece"] (oU C):=⟨_,_,aeG F23 T,T.cl,⟨a23,i23,k23⟩,.all (len2 fun _ _=>rfl)⟩
 have G_parts_of:O1 l.prog w K mg base 5 "parts_of" ["order", "text"] [] (kN C C_NoSign):=⟨_,_,aho F24 T G3_cut G_Order_known,Q4 X G a24,k24,[],.all (len2 fun _ _=>rfl),.nil⟩
 have G_steps_by:=d25.go X G hb fun F=>ahq F T G_is_figure G_Order_steps
 have G_add_mark:=d26.go X G hb fun F=>ahs F T
 have G_add_part:=d27.go X G hb fun F=>aht F T G_steps_by G_add_mark
 have G_units:O1 l.prog w K mg base 6 "units" ["order", "text"] [] (pD C C_NoSign):=⟨_,_,al6 F28 T G_parts_of G_add_part,Q4 X G a28,k28,[],.all (len2 fun _ _=>rfl),.nil⟩
 have G_looks:O1 l.prog w K mg base 7 "looks" ["order", "text"] [] (uS C C_NoSign):=⟨_,_,al7 F29 T G_units,Q4 X G a29,k29,[],.all (len2 fun _ _=>rfl),.nil⟩
 have G_compare:O1 l.prog w K mg base 8 "compare" ["order", "one", "other", "strength"] [.int 4] (kO C C_NoSign):=⟨_,_,ae7 F30 T G_looks,Q4 X G a30,k30,[.int 4 _],(fun s us J8 hl=>by obtain ⟨u1,u2,u3,rfl⟩:=agx hl;exact fJ J8 rfl dl30 rfl rfl rfl),.cons ⟨_,rfl⟩ .nil⟩
 have G3_compare:O1 l.prog w K mg base 8 "compare" ["order", "one", "other", "strength"] [] (kO C C_NoSign):=⟨_,_,ae7 F30 T G_looks,Q4 X G a30,k30,[],(fun s us J8 hl=>by obtain ⟨u1,u2,u3,u4,rfl⟩:=akn hl;exact fJ J8 rfl dl30 rfl rfl rfl),.nil⟩
 have G_starts:=d31.go X G hb fun F=>akA F T
 have G_is_joint:=d32.go X G hb fun F=>ahv F T G_Order_job
 have G_joints:O1 l.prog w K mg base 6 "joints" ["order", "text"] [] (uT C C_NoSign):=⟨_,_,akB F33 T G_parts_of G_starts G_is_joint,Q4 X G a33,k33,[],.all (len2 fun _ _=>rfl),.nil⟩
 have G_seen:=d34.go X G hb fun F=>aos F T
 have G_count_alike:=d35.go X G hb fun F=>aeH F T G_seen
 have G_ends_from:=d36.go X G hb fun F=>agJ F T G_add_part G_is_joint G_seen G_count_alike
 have G_found_in:O1 l.prog w K mg base 7 "found_in" ["order", "one", "other", "strength"] [.int 4] (kP C C_NoSign):=⟨_,_,aeu F37 T G_parts_of G_units G_starts G_is_joint G_seen G_ends_from,Q4 X G a37,k37,[.int 4 _],(fun s us J8 hl=>by obtain ⟨u1,u2,u3,rfl⟩:=agx hl;exact fJ J8 rfl dl37 rfl rfl rfl),.cons ⟨_,rfl⟩ .nil⟩
 have G3_found_in:O1 l.prog w K mg base 7 "found_in" ["order", "one", "other", "strength"] [] (kP C C_NoSign):=⟨_,_,aeu F37 T G_parts_of G_units G_starts G_is_joint G_seen G_ends_from,Q4 X G a37,k37,[],(fun s us J8 hl=>by obtain ⟨u1,u2,u3,u4,rfl⟩:=akn hl;exact fJ J8 rfl dl37 rfl rfl rfl),.nil⟩
 have G_l_cell_at:=d38.go X G hb fun F=>agL F T
 have G_l_sign:=d39.go X G hb fun F=>akC F T G_l_cell_at
 have G_l_text:=d40.go X G hb fun F=>akD F T G_l_cell_at G_l_sign
 have G_l_asked:=d41.go X G hb fun F=>aiQ F T G_compare G3_compare G_joints G_found_in G3_found_in
 have G_l_held:=d42.go X G hb fun F=>akF F T
 exact are F43 T G_Order___init__ G_l_cell_at G_l_sign G_l_text G_l_asked G_l_held
theorem walk{l:PySem.W.OpenLaw}{q:Program}{XP:(Str->Option Value)->Heap->Prop}{YP:World->Heap->Prop}{d:DefRec}{K:Params->PySem.W.Frag}(hn:l.most=some 63)(v7:d.params.defaults=[])(hY:∀ (w:World) (h:Heap),YP w h->(K w.params).In h)(F:∀ (w:World) (mg:Str->Option Value) (fa:Addr) (h:Heap),(K w.params).In h->h.Ns mainGlobals mg->mg d.name=some (.ref fa)->
   ∃ fd:FuncData,(∀ (s:Shared) (u:Value),BindsTo s fd ⟨[u],[]⟩ [("_law_script",u)])/\∀ base:Heap,(K w.params).In base->base.Ns mainGlobals mg->FnOk l.prog w (K w.params) mg base E4 10 fa fd ["_law_script"] (spLaw (K w.params))) :
  PySem.W.WalkO q loose XP YP l.row.toRowW d [] (fun f vs=>PySem.call f vs):=
 L2.walk_of (n:=63) (k:=10) (x:="_law_script") (CX:=fun _=>E4) (sp:=fun w=>spLaw (K w.params)) hn (by decide) v7 ⟨rfl,by decide,by decide,rfl⟩ hY F (fun _ _ a ns hl _ hS=>⟨a,ns,rfl,hS,hl,fun _=>rfl⟩) fun _ _ _ _ _ z=>z
end K64
open PySem PySem.W PyProof.Rows
set_option maxRecDepth 100000 in
set_option maxHeartbeats 0 in
theorem PySem.Challenge.cw_sortlore_k64_sought_refused_first_holds : PySem.Challenge.rw_sortlore_k64_sought_refused_first.Holds := by
 w_on;o_law;k_head;(case hw=>w_witness2)
 k_fill
 refine K64.walk (l:=PySem.Challenge.rw_sortlore_k64_sought_refused_first) rfl rfl (fun w h zy=>PySem.W.kIn_of zy) ?F
 case F=>
  intro w mg fa h KX G eF
  refine' K64.all_mk KX G eF ?i0 ?l0 ?c0 ?k0 ?d1 ?d2 ?d3 ?d4 ?d5 ?d6 ?d7 ?d8 ?d9 ?d10 ?d11 ?d12 ?d13 ?d14 ?a15 ?i15 ?l15 ?c15 ?k15 ?a16 ?i16 ?l16 ?c16 ?k16 ?a17 ?i17 ?l17 ?c17 ?k17 ?a18 ?i18 ?l18 ?c18 ?k18 ?d19 ?a20 ?l20 ?c20 ?k20 ?dl21 ?a21 ?l21 ?c21 ?k21 ?a22 ?i22 ?l22 ?c22 ?k22 ?a23 ?i23 ?l23 ?c23 ?k23 ?a24 ?l24 ?c24 ?k24 ?d25 ?d26 ?d27 ?a28 ?l28 ?c28 ?k28 ?a29 ?l29 ?c29 ?k29 ?dl30 ?a30 ?l30 ?c30 ?k30 ?d31 ?d32 ?a33 ?l33 ?c33 ?k33 ?d34 ?d35 ?d36 ?dl37 ?a37 ?l37 ?c37 ?k37 ?d38 ?d39 ?d40 ?d41 ?d42 ?a43 ?l43 ?c43 ?k43 ?aE_NoSign ?lE_NoSign ?t1_NoSign ?t2_NoSign ?t3_NoSign ?t4_NoSign ?sa_NoSign ?ga_NoSign ?gt_NoSign ?cl_NoSign ?bx_NoSign ?ob_NoSign ?kp_NoSign ?nE_NoSign ?eL ?eL1 ?eL2 ?eL3 ?ecn ?ect ?aD_NoSign ?D1_NoSign ?D2_NoSign ?D3_NoSign ?D4_NoSign ?aC ?pgC ?hdC ?poC ?saC ?mkC ?kcC ?nC_figures ?nC_behind ?nC_jobs ?nC_letter_line ?nC_mark_line ?nC_made ?z_any ?z_bool ?z_dict ?z_enumerate ?z_int ?z_isinstance ?z_len ?z_list ?z_max ?z_min ?z_range ?z_tuple ?z_zip ?y_JOBS ?d_JOBS ?s_JOBS ?e_JOBS_0 ?e_JOBS_1 ?e_JOBS_2 ?e_JOBS_3 ?e_JOBS_4 ?y_AGAIN ?d_AGAIN ?y_MARK ?y_LETTER ?y_FIGURES
  any_goals (refine' K64.df_mk ?da ?dl ?dc ?dk;(case da=>k_is);(case dl=>k_is);(case dc=>k_is);(case dk=>k_is))
  (case aE_NoSign=>k_is)
  (case lE_NoSign=>k_is)
  (case t4_NoSign=>k_is)
  (case aC=>k_is)
  (case i0=>k_is)
  (case l0=>k_is)
  (case c0=>k_is)
  (case k0=>k_is)
  (case a15=>k_is)
  (case i15=>k_is)
  (case l15=>k_is)
  (case c15=>k_is)
  (case k15=>k_is)
  (case a16=>k_is)
  (case i16=>k_is)
  (case l16=>k_is)
  (case c16=>k_is)
  (case k16=>k_is)
  (case a17=>k_is)
  (case i17=>k_is)
  (case l17=>k_is)
  (case c17=>k_is)
  (case k17=>k_is)
  (case a18=>k_is)
  (case i18=>k_is)
  (case l18=>k_is)
  (case c18=>k_is)
  (case k18=>k_is)
  (case a20=>k_is)
  (case l20=>k_is)
  (case c20=>k_is)
  (case k20=>k_is)
  (case a21=>k_is)
  (case l21=>k_is)
  (case c21=>k_is)
  (case k21=>k_is)
  (case a22=>k_is)
  (case i22=>k_is)
  (case l22=>k_is)
  (case c22=>k_is)
  (case k22=>k_is)
  (case a23=>k_is)
  (case i23=>k_is)
  (case l23=>k_is)
  (case c23=>k_is)
  (case k23=>k_is)
  (case a24=>k_is)
  (case l24=>k_is)
  (case c24=>k_is)
  (case k24=>k_is)
  (case a28=>k_is)
  (case l28=>k_is)
  (case c28=>k_is)
  (case k28=>k_is)
  (case a29=>k_is)
  (case l29=>k_is)
  (case c29=>k_is)
  (case k29=>k_is)
  (case a30=>k_is)
  (case l30=>k_is)
  (case c30=>k_is)
  (case k30=>k_is)
  (case a33=>k_is)
  (case l33=>k_is)
  (case c33=>k_is)
  (case k33=>k_is)
  (case a37=>k_is)
  (case l37=>k_is)
  (case c37=>k_is)
  (case k37=>k_is)
  (case a43=>k_is)
  (case l43=>k_is)
  (case c43=>k_is)
  (case k43=>k_is)
  (case t1_NoSign=>refine' L2.tail_one ?tl1 ?tl2 ?tl3;(case tl1=>k_is);(case tl3=>k_is);(case tl2=>refine' L2.nsOk_of ?yE ?yF;(case yE=>k_is);(case yF=>rfl)))
  (case t2_NoSign=>rfl)
  (case t3_NoSign=>refine' L2.nsOk_of ?yE ?yF;(case yE=>k_is);(case yF=>rfl))
  (case sa_NoSign=>k_is)
  (case ga_NoSign=>k_is)
  (case gt_NoSign=>k_is)
  (case cl_NoSign=>k_is)
  (case bx_NoSign=>k_is)
  (case ob_NoSign=>k_is)
  (case kp_NoSign=>k_is)
  (case nE_NoSign=>k_is)
  (case eL=>k_is)
  (case eL1=>k_is)
  (case eL2=>k_is)
  (case eL3=>k_is)
  (case ecn=>k_is)
  (case ect=>k_is)
  (case aD_NoSign=>k_is)
  (case D1_NoSign=>k_is)
  (case D2_NoSign=>k_is)
  (case D3_NoSign=>k_is)
  (case D4_NoSign=>k_is)
  (case pgC=>k_is)
  (case hdC=>k_is)
  (case poC=>k_is)
  (case saC=>k_is)
  (case mkC=>k_is)
  (case kcC=>k_is)
  (case nC_figures=>k_is)
  (case nC_behind=>k_is)
  (case nC_jobs=>k_is)
  (case nC_letter_line=>k_is)
  (case nC_mark_line=>k_is)
  (case nC_made=>k_is)
  (case z_any=>k_is)
  (case z_bool=>k_is)
  (case z_dict=>k_is)
  (case z_enumerate=>k_is)
  (case z_int=>k_is)
  (case z_isinstance=>k_is)
  (case z_len=>k_is)
  (case z_list=>k_is)
  (case z_max=>k_is)
  (case z_min=>k_is)
  (case z_range=>k_is)
  (case z_tuple=>k_is)
  (case z_zip=>k_is)
  (case y_JOBS=>k_is)
  (case d_JOBS=>k_is)
  (case s_JOBS=>rfl)
  (case e_JOBS_0=>rfl)
  (case e_JOBS_1=>rfl)
  (case e_JOBS_2=>rfl)
  (case e_JOBS_3=>rfl)
  (case e_JOBS_4=>rfl)
  (case y_AGAIN=>k_is)
  (case d_AGAIN=>k_is)
  (case y_MARK=>k_is)
  (case y_LETTER=>k_is)
  (case y_FIGURES=>k_is)
  (case dl21=>k_is)
  (case dl30=>k_is)
  (case dl37=>k_is)
