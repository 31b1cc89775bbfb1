import PyProof.Rows.All
import Wide.All
import OpenK.AllK
import Wide.FinOn
import Lean
import PyProof.EqAt
import PyProof.EqKinds
import PyProof.TupleCall
import PySem.Challenge.RW_sortlore_k24_no_letter
set_option compiler.extract_closed false
open List renaming length_map → A8, getElem?_eq_some_iff → K1, length_append → E4, getElem?_eq_getElem → L8, mem_map → D4, mem_singleton → G5, length_cons → G1, map_append → F8, size_toArray → J2, mem_cons_of_mem → M6, mem_append → J3, mem_cons → F9, take_length → K6, mem_cons_self → M5, map_cons → G3, mem_append_right → O3, length_take → L9, mem_of_getElem? → P1, append_nil → M7, mem_filter → N1, replicate → N2, mem_append_left → R1, nodup_iff_pairwise_ne → Z2, getD_eq_getElem?_getD → Z3, getElem?_map → Q5, mem_iff_getElem → V7, take_append_drop → X2, length_singleton → X3, flatMap_append → V8, take_of_length_le → Z4, filter_append → V9, pairwise_iff_getElem → m9, length_nil → R3, range → M8, take_add_one → X4, nodup_cons → W0, append_assoc → Z5, mem_flatMap → Z6, filter_cons_of_pos → aM, filter_cons_of_neg → aN, length_drop → i4, nodup_append → n6, find?_cons → i5, take_zero → i6, flatMap_cons → v2, filterMap_cons → aO, filter_eq_nil_iff → cQ, getElem?_append_right → fV, countP_cons → v3, getElem?_append_left → fW, foldl_append → aP, flatten_cons → aQ, replicate_succ → cR, getElem?_cons_succ → fX, any_cons → n9, nil_append → aR, map_map → o0, mem_range → aS, not_mem_nil → cS, getElem_mem → cT, map_congr_left → fY, drop_succ_cons → fZ, length_erase_of_mem → jP, idxOf_lt_length_iff → jQ, map_take → aT, map_drop → aU, filter_nil → cU, drop_of_length_le → jR, map_nil → aV, length_filter_le → jS, mem_flatten → gA, lookup_cons → gB, filter_cons → gC, mem_of_mem_take → jT
open Nat renaming le_refl → C6, le_trans → F6, ne_of_lt → G6, lt_of_lt_of_le → O9, zero_le → J4, lt_irrefl → X5, le_add_right → v4, ne_of_gt → i7, min_eq_left → cV, lt_trans → aW
open Bool renaming false_ne_true → K7, and_eq_true → Z7, eq_iff_iff → cW
open PySem.W renaming nsIn → E7, kitOne → K9, findIn → L4, mg_of → N3, mg_none_of → W1, keepIn → Q6, mroIn → R4, kia_one → X6, fnOf → R5, emptyDict → o1, codeIn → Z8, specialIn → aX, instObj → v6, hasDictIn → cX, tailIn → cY, isFn → aY, plainGet → gD, clsIn → cZ, takesIn → gE
open PySem.F renaming plainAttrs_list → v7, type_list_append → dA, slot_list_append → dB, called_set → v8
open Array renaming length_toList → aZ
open PySem.PyData renaming strOk → Z9
open Int renaming emod_lt_of_pos → dC, emod_nonneg → bA
set_option Elab.async false
set_option linter.all false
set_option maxRecDepth 100000
noncomputable section
set_option genInjectivity false in
set_option genSizeOf false in
structure PySem.W.Fast where (tw6788942078269217443 tw8959089971579477044 tw11141631724860702159 tw10265563221930010248 tw7683611877456118700 tw6202563596664573590 tw401960335330681664 tw16154964844613400045 tw7476522097602813020 tw5155750503454119211 tw17469858236718150560 tw11170116975501093327 tw17953947640569691141 tw11031893320244126728 tw14884199144282193333 tw7659857083484156251 tw317496849349729992 tw17394328362851006250 tw4031320982533890114 tw3402016911565215531 tw4116057086906404441 tw11678345518962375533 tw9620698903143499388 tw7347718237338944478 tw12289530373782518382 tw18060775590416284420 tw16492856917692265245 tw13492345573260169535 tw14513365941621753546 tw4998051514578453477 tw18187606973559787691 tw3212200602725756097 tw12091812613926905846 tw9333980599471959304 tw16402618233073955243 tw17631918288682354292 tw5605552810902470361 tw13319094971011133435 tw13658713775094250742
tw2534048037262556704 tw1031879306913640385 tw17034953559676752412 tw15905168666796318117 tw5552443773267082205 tw4770559033912388459 tw5545671265774527156 tw8211903703918467444 tw9372006638764430246 tw506791019168426236 tw3321683082676705525 tw15952659664571118827 tw6757039498224339529 tw7242279088813921157 tw3854950388363014652 tw7231577552417416952 tw8152870286583653905 tw8260714155051919902 tw16330467608451283476 tw3014795830501544515 tw11041171289537863866 tw16357899442905813611 tw10800784513119751512 tw1787668917403053412 tw389440564545377277 tw7816864084224220399 tw5891261789920055620 tw16857186946556066790 tw16732863613483371315 tw4970553376642526428 tw12929509306931233676 tw5558267550882399672 tw1721020027934914447 tw17173204285916423422 tw7482707470467179936 tw11731328908569754581 tw14326163282166993780 tw3410807205908277629 tw11184965580980513381 tw13747919932873823931
tw13414838104764727749 tw8491487406104527376 tw11972758115911082923 tw2286324053528557877 tw10613945431487109162 tw4836994969244483398 tw12369863612729825469 tw10160445428469192639 tw15433088187672426712 tw4724714223663511646 tw5413883950545188085 tw7847401666599621688 tw10239326837826040125 tw4492478746733658310 tw2629532081926321978 tw17780688510277793578 tw13557981821436946965 tw11533928105096378775 tw4191337467999730400 tw9357029461222922551 tw634767556342856719 tw1802457943236457912 tw7307507010546154816 tw13887747534119134992 tw10354742534945588612 tw8397108670141792112 tw1629043409005559869 tw11813856601080080333 tw4613095107989087600 tw14127893844169575861 tw7391782510819108042 tw310447339575449990 tw1041132360350585893 tw13680068649359489225 tw11452649011342058710 tw11368614979912804965 tw12145125443612727744 tw272211000987865204 tw10819233785231182843 tw5976321070814570390
tw1684923828494601993 tw5810792645845872738 tw860251275487802893 tw8475450846357026995 tw10580217168530704665 tw4204923527086068335 tw17364565854100313018 tw14869778278341577243 tw13066574975438437982 tw15781306667455564867 tw12080101362171014359 tw10592599272966667915 tw5432540567120335745 tw10965234508320394168 tw1166865430469602851 tw12132055856691715793 tw17537137420266211578 tw14862038125423656222 tw7161212103018420506 tw1825765719325744417 tw10336860132367557873 tw9545819927932943076 tw15744376035424843250 tw10076075796385438257 tw7715739565371739540 tw12945359151848105851 tw10556702586649410887 tw10318722667084568006 tw13713489461500417350 tw6041070043664150451 tw8940137799238417640 tw4575876691794029431 tw16139132660517308155 tw1186618963251971248 tw7202713229947116611 tw3403399348614747904 tw3030176260437547025 tw15759751289697010373 tw14453138487561564433 tw17492556197628823143
tw1689530836915089567 tw17799478308666959142 tw12259834638788191646 tw11260020574049087206 tw7599887667550228627 tw5690794856709827756 tw6673728932817731989 tw8041100420731253224 tw4682570959183397785 tw13319651150823377151 tw897259664824211899 tw12142412672969333210 tw13534673366023388914 tw15156036987168948467 tw16426294653480220429 tw3005897647427763483 tw13304191403964411311 tw12931379082439931874 tw17619692137863796501 tw9183610769363704578 tw6194108117019157372 tw15071038391745709970 tw609119685902411313 tw9017775922563447511 tw12833059224291868079 tw836714003203414680 tw7120599374939435448 tw15036237217895505702 tw1419577386561034668 tw4109652116994317527 tw2742839365578319998 tw13975490454064001079 tw13787407578356806662 tw1774465313856100289 tw7626222480877527197 tw7745580843145187901 tw1223817088623977146 tw967116699991645028 tw8813663409454420783 tw14343475117911554079
tw17094108589346377404 tw7292844030223560004 tw2781148274939981268 tw10144148681524638458 tw4125414339174361885 tw11563091353975936930 tw1041989278043912462 tw14486383376135051108 tw9413662082126481070 tw8551696497969270086 tw18316988115619676992 tw17260496052910868861 tw3891279694822634891 tw5148643299145430225 tw9279707658739270685 tw10493025212974076586 tw6618517425562343110 tw14339698063236157949 tw17886023015659338190 tw5866770542168895634 tw6660066691179627970 tw6046642195776124061 tw7834650859383934238 tw1460019183583238671 tw8087373938362526082 tw5195271089362351556 tw5442745258199021756 tw15006716606620903528 tw14670612234675438450 tw17384756979854685396 tw13531221611611740719 tw2597355578173053716 tw14652515840920789439 tw10691920645600503421 tw1263207985697759847 tw210199529344647179 tw13090056931192166324 tw11348517799156349016 tw13923234588839284913 tw12823284452072461291
tw4839916594713230316 tw7991919468115003147 tw13027458199522046367 tw2190402721133525361 tw15520113869691095772 tw2855974610161565480 tw9503460456791434806 tw10667602732163393113 tw17373410194065593027 tw17336647203693674548 tw12889471678967240765 tw3973039198496136391 tw14656799913642018083 tw11246251982818561274 tw3750900056461263986 tw6326768372348496396 tw14492129349744535714 tw2994787226534460087 tw12439385003059037560 tw15441169150048539441 tw10647016440537071934 tw5484483122631949718 tw3604772997269745584 tw7536253531428156772 tw2429878513159960373 tw7372118547465887005 tw9284934307176665117 tw8455634401211317335 tw1515777846088756483 tw7421141224291333315 tw13079038529615850557 tw2347668938743830809 tw4333081363431116819 tw8643548735125532104 tw9401431298457083494 tw8134286211512394212 tw13480096315999588796 tw2143139970753057116 tw8530465202085593515 tw11436897831063269388
tw318098903960295787 tw14008635220834504743 tw7817472618626675532 tw8413949572556000442 tw5483007648691720741 tw2948876912885151278 tw1376353758532006296 tw18283651633780297265 tw8438144746724341151 tw6019150346597141628 tw10963275007106035206 tw15539880861628602417 tw12914915815106514239 tw11499493328590780281 tw15468725698254539336 tw166646840229560072 tw10036985350282684013 tw14344047083178898404 tw9596398114860041615 tw5866137984830135574 tw6350729665790198251 tw4805284058880164148 tw15522632957621950188 tw12730452053129039025 tw15645018708311678639 tw11993750325655037292 tw16623005941703407788 tw10486535006859714603 tw2004790374664289598 tw10710536903861517943 tw14572704346617053599 tw11830339013282923125 tw12110983158655545805 tw2304876927078692340 tw7293984713081223165 tw13539889859145717870 tw3867655307940946732 tw4198701034626523201 tw4704231597484296963 tw1188841515444057724
tw7102024691860876160 tw12382414579298348110 tw7816413454766573467 tw7207358946688830125 tw16667582670104875430 tw3364582310646281317 tw2755314671255796771 tw4476405851437065508 tw6555353655069103716 tw10548801468880533141 tw8603534658662528348 tw15223182485182167298 tw6746332424123148497 tw11507899776640676239 tw5385309923447949282 tw13259022433437916164 tw7165206101997785593 tw9390595647056622599 tw11868977247642861315 tw7530947110600901152 tw15343713657364816208 tw285518824478861005 tw15714808786656106651 tw12998703252546770310 tw3055963397766264363 tw3488173962948938256 tw83135590610682281 tw14863354401721876386 tw5583875932935217532 tw16253183470830927025 tw9430149964211389907 tw17648976263062375915 tw9719671136804651721 tw11688976942802996428 tw1053735442745867592 tw12639568013447021210 tw14783413856645975274 tw4058707220177371983 tw15602778686227585349 tw6274978425567133531
tw12241520628713110673 tw2541476257523813544 tw16900234920264235909 tw11333197420346271837 tw8625499363283925122 tw10442116103006716038 tw12847457492622609911 tw8770544129844976938 tw16166215940811045317 tw6517132559951138403 tw4160501474507185245 tw1101635160206368837 tw13634518074508761256 tw193756091276972308 tw11831775631832443680 tw6800564692127153821 tw5876625859686314181 tw15758383800440043221 tw9793832642923801773 tw3667688109425338682 tw2540908553208582990 tw14012873188803050589 tw8636236168825374400 tw937471526794380639 tw13091267062126584328 tw756144479697528432 tw5718985778620073642 tw67699270904191690 tw10987163215825810378 tw3234181311926636779 tw18062943324155430941 tw10770676823191790017 tw10346983766202017161 tw3908980424212493469 tw135619293803491049 tw8645326736188041807 tw9880889731081258536 tw14308883480615451150 tw9656875302757758862 tw8637750862568224794
tw17430947005174449356 tw9878443079273241132 tw6467180704150215722 tw2522808290489278171 tw3737584530282287021 tw134358635176966954 tw16203539268750811382 tw17732148628065980130 tw1968850279297441958 tw17264884166079215665 tw174869205566719976 tw15377757208155404458 tw703274837336812973 tw18016672694118015636 tw2611774550965310377 tw15607341713172329603 tw8893512581655496112 tw14508434467137428653 tw49217679856068774 tw8341574088606864955 tw14183721332644332990 tw8087833817492400339 tw10639774456576003207 tw17322017347286135128 tw4367556793651429336 tw12995802237319927480 tw362659686020631664 tw10476050608706614864 tw5030416048983742157 tw4390085333982591972 tw10408600714764185159 tw2300903265820869533 tw3023528970461726805 tw2367160014583940150 tw6331763633660765545 tw3080692639028435923 tw4569267181486411522 tw16605044393372299576 tw1967907498827625506 tw5011926959296892541
tw17498810608973748115 tw16910528738135450646 tw2538374680222987972 tw6668017004008531957 tw10113129949550078751 tw8668048095219260456 tw12206984316616389324 tw17673375954432329384 tw11878670281457614168 tw7489688217759842362 tw6482548475271366158 tw18202283933782537460 tw10125277340521538490 tw12001983665898602136 tw11901315722663535637 tw6602540253600888488 tw4273608349531972436 tw308298253412040039 tw665410826665453110 tw14257298037755127757 tw14961447520505952904 tw16864914711804926277 tw13156013345742317644 tw2666078439804846460 tw1650065861166617198 tw2993294028136985366 tw7212061065649021849 tw10213851167974025992 tw6677332630805384060 tw9619455985024828339 tw9861642707402594587 tw9773915575309678225 tw12241566106895803013 tw6981180876553053504 tw5359220366286947253 tw14365116085340163350 tw2876935229554630034 tw18045075710382491642 tw16596971447475054819 tw15438705552120139116
tw18208807261029581250 tw13799311181622771001 tw3482082658761628019 tw10832823325267824314 tw2641081201362685723 tw12668558153766661577 tw13457920444639371659 tw10000165611567559317 tw10708901421763845008 tw10352836661331626737 tw3606104249346343525 tw6287689830718149935 tw5142749156404394588 tw3088657677809010747 tw6306752096010521450 tw1698480664013703707 tw8291635509324027687 tw2290933033610524273 tw17890803970858895982 tw13930274657113409218 tw6179504639290734799 tw3828203128673912257 tw572184480442251413 tw7901509473499039880 tw16966288417674063344 tw14805795633777983634 tw14624471617670744658 tw2429710996489448071 tw17175738997438543409 tw11616327901092773071 tw2031613308882116795 tw12984897058819470159 tw4795023781851643185 tw13223162232603139343 tw5502062119014014188 tw14107695390621762314 tw11731126099059313082 tw16760239854203078511 tw18236636963350054932 tw1374242956117499743
tw13517235739226991339 tw15100935566465148471 tw15119956580311873591 tw9707962404822417777 tw5872624138090356088 tw1246286640814856140 tw9596479714549264373 tw171937295694338632 tw1176584718020055616 tw3223875760597381006 tw11339301411794494482 tw1225667761869528202 tw12268945749909278932 tw5584926853954421564 tw12771844594888078915 tw16838077031414554490 tw11447188506599219923 tw3947265608567422150 tw736197122406100072 tw4502636628753015230 tw6630546546405614541 tw8550158565179312774 tw10063952536606020398:Nat)
set_option maxRecDepth 100000
namespace L2
open PySem PySem.Spec PyProof.Rows
noncomputable abbrev B5:=Sum Int Str
noncomputable def keyIs:B5->Value->Bool
 | .inl k,v=>Value.isInt k v
 | .inr x,v=>Value.isStrOf x v
noncomputable def keyH (w:World):B5->Int
 | .inl k=>hashInt k
 | .inr x=>hashStr w x
theorem X7:∀ {k:B5} {v:Value},keyIs k v=true->(∃ i t,k=Sum.inl i/\v=Value.int i t)\/(∃ x t,k=Sum.inr x/\v=Value.str x t)
 | .inl i,v,h=>by
  obtain ⟨t,e⟩:=Value.isInt_shape (k:=i) (v:=v) h;exact .inl ⟨i,t,rfl,e⟩
 | .inr x,v,h=>by
  obtain ⟨t,e⟩:=Value.isStrOf_shape (x:=x) (v:=v) h;exact .inr ⟨x,t,rfl,e⟩
theorem agB(i:Int)(t:Tok):keyIs (.inl i) (.int i t)=true:=by simp [keyIs,Value.isInt]
theorem dD(x:Str)(t:Tok):keyIs (.inr x) (.str x t)=true:=by simp [keyIs,Value.isStrOf]
theorem alO(a b:Int):decide ((Sum.inl a:B5)=Sum.inl b)=(a==b):=by
 by_cases e:a=b
 .subst e;simp
 .have h:¬ (Sum.inl a:B5)=Sum.inl b:=fun q=>e (Sum.inl.inj q)
  rw [decide_eq_false h];exact (beq_eq_false_iff_ne.mpr e).symm
theorem alP(a b:Str):decide ((Sum.inr a:B5)=Sum.inr b)=decide (a=b):=by
 by_cases e:a=b
 .subst e;simp
 .have h:¬ (Sum.inr a:B5)=Sum.inr b:=fun q=>e (Sum.inr.inj q)
  rw [decide_eq_false h,decide_eq_false e]
theorem alQ(a:Int)(b:Str):decide ((Sum.inl a:B5)=Sum.inr b)=false:=decide_eq_false (fun q=>nomatch q)
theorem alR(a:Str)(b:Int):decide ((Sum.inr a:B5)=Sum.inl b)=false:=decide_eq_false (fun q=>nomatch q)
noncomputable def L5 (prog:Program) (w:World):PySem.KeyKind prog w B5 where
 is:=keyIs
 hash:=keyH w
 inj:=fun v a b ha hb=>by
  rcases X7 ha with ⟨i,t,rfl,rfl⟩ | ⟨x,t,rfl,rfl⟩
  .rcases X7 hb with ⟨j,u,rfl,e⟩ | ⟨y,u,rfl,e⟩
   .injection e with e1 _;rw [e1]
   .exact nomatch e
  .rcases X7 hb with ⟨j,u,rfl,e⟩ | ⟨y,u,rfl,e⟩
   .exact nomatch e
   .injection e with e1 _;rw [e1]
 byValue:=fun k v h=>by
  rcases X7 h with ⟨i,t,rfl,rfl⟩ | ⟨x,t,rfl,rfl⟩ <;> rfl
 pyHash:=fun hv h=>by
  rcases X7 hv with ⟨i,t,rfl,rfl⟩ | ⟨x,t,rfl,rfl⟩
  .exact wpAny_pyHash_int h
  .exact wpAny_pyHash_str h
 eqBool:=fun hu hv h=>by
  rcases X7 hu with ⟨i,t,rfl,rfl⟩ | ⟨x,t,rfl,rfl⟩
  .rcases X7 hv with ⟨j,u,rfl,rfl⟩ | ⟨y,u,rfl,rfl⟩
   .rw [alO] at h;exact wpAny_eqBool_int h
   .rw [alQ] at h;exact SeqAt.EqAt.int_str i t y u _ _ _ _ h
  .rcases X7 hv with ⟨j,u,rfl,rfl⟩ | ⟨y,u,rfl,rfl⟩
   .rw [alR] at h;exact SeqAt.EqAt.str_int x t j u _ _ _ _ h
   .rw [alP] at h;exact wpAny_eqBool_str h
 «strs»:=fun k x t v h=>by
  rcases X7 h with ⟨i,u,rfl,e⟩ | ⟨y,u,rfl,e⟩
  .exact nomatch e
  .injection e with e1 _
   subst e1
   cases v <;> rfl
theorem ae1(prog:Program)(w:World)(i:Int)(t:Tok):(L5 prog w).is (.inl i) (.int i t)=true:=agB i t
theorem ae2(prog:Program)(w:World)(x:Str)(t:Tok):(L5 prog w).is (.inr x) (.str x t)=true:=dD x t
end L2
namespace L2
open PySem PySem.Spec PyProof.Rows
inductive V where
 | non | bl (b:Bool) | int (i:Int) | str (x:Str) | byt (b:Array UInt8) | flt (b:UInt64) | ref (a:Addr) | ty (n:String)
 deriving DecidableEq
noncomputable def RelV:V->Value->Prop
 | .non,u=>u=Value.none
 | .bl b,u=>u=Value.bool b
 | .int i,u=>∃ t,u=Value.int i t
 | .str x,u=>∃ t,u=Value.str x t
 | .byt b,u=>∃ t,u=Value.bytes b t
 | .flt b,u=>∃ t,u=Value.float b t
 | .ref a,u=>u=Value.ref a
 | .ty n,u=>u=Value.type n
noncomputable abbrev Vals:List V->List Value->Prop:=Paired RelV
theorem Vals.length{xs:List V}{us:List Value}(r:Vals xs us):xs.length=us.length:=Paired.length r
theorem Vals.get:∀ {xs:List V} {us:List Value} {i:Nat} {x:V},Vals xs us->xs[i]?=some x->∃ u,us[i]?=some u/\RelV x u
 | _,_,_,_,.nil,e=>by simp at e
 | _,_,0,_,.cons r _,e=>by simp at e;subst e;exact ⟨_,rfl,r⟩
 | _,_,i+1,x,.cons _ t,e=>by
  obtain ⟨u,h1,h2⟩:=Vals.get (i:=i) (x:=x) t (by simpa using e);exact ⟨u,by simpa using h1,h2⟩
theorem Vals.set{x:V}{u:Value}(r:RelV x u):∀ {xs:List V} {us:List Value} (i:Nat),Vals xs us->Vals (xs.set i x) (us.set i u)
 | _,_,_,.nil=>.nil
 | _,_,0,.cons _ t=>.cons r t
 | _,_,i+1,.cons q t=>.cons q (Vals.set r i t)
theorem Vals.append:∀ {xs ys:List V} {us ws:List Value},Vals xs us->Vals ys ws->Vals (xs++ys) (us++ws)
 | _,_,_,_,.nil,s=>s
 | _,_,_,_,.cons r t,s=>.cons r (Vals.append t s)
theorem Vals.take:∀ {xs:List V} {us:List Value} (n:Nat),Vals xs us->Vals (xs.take n) (us.take n)
 | _,_,0,_=>.nil
 | _,_,_+1,.nil=>.nil
 | _,_,n+1,.cons r t=>.cons r (Vals.take n t)
theorem Vals.drop:∀ {xs:List V} {us:List Value} (n:Nat),Vals xs us->Vals (xs.drop n) (us.drop n)
 | _,_,0,r=>r
 | _,_,_+1,.nil=>.nil
 | _,_,n+1,.cons _ t=>Vals.drop n t
theorem Vals.none_of:∀ {xs:List V} {us:List Value} {i:Nat},Vals xs us->xs[i]?=none->us[i]?=none:=fun {xs us i} r e=>by
 have h1:=r.length;have h2:xs.length<=i:=List.getElem?_eq_none_iff.mp e;exact List.getElem?_eq_none_iff.mpr (by lia)
noncomputable def RelO:Option V->Option Value->Prop
 | some v,some u=>RelV v u
 | none,none=>True
 | _,_=>False
noncomputable def KV {κ:Type} : List (κ×V)->List (κ×Value)->Prop:=Paired fun (p:κ×V) (q:κ×Value)=>p.1=q.1/\RelV p.2 q.2
noncomputable def kV:B5->V
 | .inl i=>.int i
 | .inr x=>.str x
inductive HO where
 | lst (xs:List V)
 | tup (xs:List V)
 | dK (kvs:List (B5×V)) | dT (kvs:List (List B5×V))
 | set (S:Int->Bool) (n:Nat)
 | ins (C dx:Addr) (fs:List (Str×V))
 | own (x:Addr)
 | xd (fs:List (Str×V))
 | met (f x:Addr)
 | rng (lo hi:Int)
 | frz (o:Obj) (u:HO)
 | tbl (ps:Array Value)
 | ext (φ:Heap->Prop)
noncomputable abbrev Hp:=Addr->Option HO
noncomputable def A0 (H:Hp) (a:Addr) (o:HO):Hp:=fun b=>if b=a then some o else H b
theorem A7{H:Hp}{a:Addr}{o:HO} : A0 H a o a=some o:=by unfold A0;rw [if_pos rfl]
theorem A9{H:Hp}{a b:Addr}{o:HO}(h:b≠a):A0 H a o b=H b:=by unfold A0;rw [if_neg h]
theorem ne_of{H:Hp}{a b:Addr}{o u:HO}(h:H a=some o)(h':H b=some u)(d:o≠u):a≠b:=by
 intro e;subst e;rw [h] at h';exact d (Option.some.inj h')
theorem O0{H:Hp}{a b:Addr}{o:HO}(h:H a=some o)(h':H b=none):a≠b:=by
 intro e;subst e;rw [h] at h';cases h'
section
variable (P:Program) (w:World)
noncomputable def ObjOk (H:Hp) (h:Heap) (a:Addr):HO->Prop
 | .lst xs=>xs.length<=sizeLine/\∃ (its:List Value) (n:Nat),Vals xs its/\h.get? a=some { cls:=.type "list",data:=.seq its.toArray n }
 | .tup xs=>xs.length<=sizeLine/\∃ its:List Value,Vals xs its/\IsTup h a its.toArray
 | .dK kvs=>kvs.length<=sizeLine/\(a==sysModules)=false/\∃ vs,KV kvs vs/\h.DictOf (L5 P w) a vs
 | .dT kvs=>kvs.length<=sizeLine/\(a==sysModules)=false/\∃ xs:List (List B5×Addr×Value),
   Paired (fun (p:List B5×V) (q:List B5×Addr×Value)=>p.1=q.1/\H q.2.1=some (.tup (p.1.map kV))/\RelV p.2 q.2.2) kvs xs/\
   ∃ o es ep,h.get? a=some o/\o.ExactDict/\o.data=.dict es ep/\es.toList=xs.map (entryOfKey (tupleKind (L5 P w)))/\(xs.map (·.1)).Nodup
 | .set S n=>h.SetOf (intKind P w) a S n
 | .ins C dx fs=>H dx=some (.own a)/\fs.length<=1000/\dx≠a/\h.get? a=some (v6 C dx)/\
   ∃ mA,h.Ns1 dx mA/\(∀ f,RelO (fs.lookup f) (mA f))/\PySem.Within mA (fs.map (·.1))
 | .own _=>∃ o,h.get? a=some o
 | .xd fs=>∃ mA,h.Ns1 a mA/\∀ f,RelO (fs.lookup f) (mA f)
 | .rng lo hi=>∃ t u v,h.get? a=some { cls:=.type "range",data:=.fields #[.int lo t,.int hi u,.int 1 v] }
 | .frz o u=>h.get? a=some o/\ObjOk H h a u
 | .tbl ps=>h.get? a=some { cls:=.none,data:=.fields ps }
 | .met f x=>h.get? a=some (PySem.W.methodObj (.ref f) (.ref x))
 | .ext φ=>φ h/\(∃ o,h.get? a=some o)/\∀ h1 h2:Heap,φ h1->(∀ o,h1.get? a=some o->h2.get? a=some o)->φ h2
noncomputable def J5 (H:Hp) (h:Heap):Prop:=∀ a o,H a=some o->ObjOk P w H h a o
end
section
variable {P:Program} {w:World} {H H':Hp} {h h':Heap} {a:Addr} {o:HO}
theorem ObjOk.lt(x:ObjOk P w H h a o):a<h.objs.size:=by
 cases o with
 | lst xs=>obtain ⟨_,_,_,_,e⟩:=x;exact Heap.lt_size e
 | tup xs=>obtain ⟨_,_,_,p⟩:=x;exact p.lt
 | dK kvs=>obtain ⟨_,_,_,_,o,_,_,e,_⟩:=x;exact Heap.lt_size e
 | dT kvs=>obtain ⟨_,_,_,_,o,_,_,e,_⟩:=x;exact Heap.lt_size e
 | set S n=>obtain ⟨o,_,_,_,e,_⟩:=x;exact Heap.lt_size e
 | ins C dx fs=>obtain ⟨_,_,_,e,_⟩:=x;exact Heap.lt_size e
 | own y=>obtain ⟨_,e⟩:=x;exact Heap.lt_size e
 | xd fs=>obtain ⟨_,⟨_,_,_,e,_⟩,_⟩:=x;exact Heap.lt_size e
 | rng lo hi=>obtain ⟨_,_,_,e⟩:=x;exact Heap.lt_size e
 | frz ob u=>obtain ⟨e,_⟩:=x;exact Heap.lt_size e
 | tbl ps=>exact Heap.lt_size (show h.get? a=some _ from x)
 | met f y=>exact Heap.lt_size (show h.get? a=some _ from x)
 | ext φ=>obtain ⟨_,⟨_,e⟩,_⟩:=x;exact Heap.lt_size e
theorem Q7{α β:Type}{F G:α->β->Prop} : ∀ {zx:List α} {l₂:List β},Paired F zx l₂->(∀ a b,F a b->G a b)->Paired G zx l₂
 | _,_,.nil,_=>.nil
 | _,_,.cons r t,f=>.cons (f _ _ r) (Q7 t f)
theorem ObjOk.stay(x:ObjOk P w H h a o)(k:∀ b u,(b=a\/H b=some (.own a))->h.get? b=some u->h'.get? b=some u)(ho:∀ b,H b=some (.own a)->H' b=some (.own a))(ht:∀ b xs,H b=some (.tup xs)->H' b=some (.tup xs)):ObjOk P w H' h' a o:=by
 induction o with
 | lst xs=>obtain ⟨z,its,n,r,e⟩:=x;exact ⟨z,its,n,r,k _ _ (.inl rfl) e⟩
 | tup xs=>obtain ⟨z,its,r,ob,e,c⟩:=x;exact ⟨z,its,r,ob,k _ _ (.inl rfl) e,c⟩
 | dK kvs=>obtain ⟨z,y,vs,r,ob,es,ep,e,c⟩:=x;exact ⟨z,y,vs,r,ob,es,ep,k _ _ (.inl rfl) e,c⟩
 | dT kvs=>
  obtain ⟨z,y,xs,r,ob,es,ep,e,c⟩:=x;exact ⟨z,y,xs,Q7 r fun p q z=>⟨z.1,ht _ _ z.2.1,z.2.2⟩,ob,es,ep,k _ _ (.inl rfl) e,c⟩
 | set S n=>obtain ⟨ob,es,ep,t,e,c⟩:=x;exact ⟨ob,es,ep,t,k _ _ (.inl rfl) e,c⟩
 | ins C dx fs=>
  obtain ⟨d,z,ne,e,mA,⟨od,es,ep,e2,c⟩,r⟩:=x;exact ⟨ho _ d,z,ne,k _ _ (.inl rfl) e,mA,⟨od,es,ep,k _ _ (.inr d) e2,c⟩,r⟩
 | own y=>obtain ⟨ob,e⟩:=x;exact ⟨ob,k _ _ (.inl rfl) e⟩
 | xd fs=>obtain ⟨mA,⟨od,es,ep,e,c⟩,r⟩:=x;exact ⟨mA,⟨od,es,ep,k _ _ (.inl rfl) e,c⟩,r⟩
 | rng lo hi=>obtain ⟨t,u,v,e⟩:=x;exact ⟨t,u,v,k _ _ (.inl rfl) e⟩
 | frz ob u ih=>obtain ⟨e,q⟩:=x;exact ⟨k _ _ (.inl rfl) e,ih q⟩
 | tbl ps=>
  have e:h.get? a=some { cls:=.none,data:=.fields ps }:=x;show h'.get? a=some { cls:=.none,data:=.fields ps };exact k a _ (.inl rfl) e
 | met f y=>
  have e:h.get? a=some (PySem.W.methodObj (.ref f) (.ref y)):=x;show h'.get? a=some (PySem.W.methodObj (.ref f) (.ref y));exact k a _ (.inl rfl) e
 | ext φ=>obtain ⟨p,⟨o,e⟩,st⟩:=x;exact ⟨st _ _ p fun o q=>k _ _ (.inl rfl) q,⟨o,k _ _ (.inl rfl) e⟩,st⟩
theorem J5.lt(x:J5 P w H h)(e:H a=some o):a<h.objs.size:=(x a o e).lt
theorem J5.fresh(x:J5 P w H h)(e:h.objs.size<=a):H a=none:=by
 cases q:H a with
 | none=>rfl
 | some u=>exact absurd (O9 (x.lt q) e) (X5 _)
theorem J5.kept(x:J5 P w H h)(k:∀ b u,h.get? b=some u->h'.get? b=some u):J5 P w H h':=fun a o e=>
 (x a o e).stay (fun b u _ q=>k b u q) (fun _ q=>q) fun _ _ q=>q
theorem J5.laid(x:J5 P w H h)(k:∀ b u,h.get? b=some u->h'.get? b=some u)(hp:h.objs.size<=a)(new:ObjOk P w (A0 H a o) h' a o):J5 P w (A0 H a o) h':=fun b u e=>by
 have hn:=x.fresh hp
 by_cases hb:b=a
 .subst hb;rw [A7] at e;cases e;exact new
 .rw [A9 hb] at e;exact (x b u e).stay (fun c v _ q=>k c v q) (fun c q=>by rw [A9 (O0 q hn)];exact q) fun c xs q=>by rw [A9 (O0 q hn)];exact q
end
noncomputable def Rd (H:Hp) (a:Addr) (u:HO):Prop:=H a=some u\/∃ o,H a=some (.frz o u)
theorem Rd.of{H:Hp}{a:Addr}{u:HO}(h:H a=some u):Rd H a u:=.inl h
theorem Rd.ok{P:Program}{w:World}{H:Hp}{h:Heap}{a:Addr}{u:HO}(r:Rd H a u)(x:J5 P w H h):ObjOk P w H h a u:=by
 rcases r with r | ⟨o,r⟩
 .exact x a u r
 .obtain ⟨_,q⟩:=x a _ r;exact q
noncomputable def dE:Option HO->Prop
 | some (.lst _)=>True
 | some (.dK _)=>True
 | some (.dT _)=>True
 | some (.set _ _)=>True
 | some (.ins _ _ _)=>True
 | some (.ext _)=>True
 | _=>False
section
variable {P:Program} {w:World} {H:Hp} {h h':Heap} {x e:Addr} {o':HO}
theorem J5.write(ok:J5 P w H h)(mu:dE (H x))(he:e=x\/H e=some (.own x))(k:∀ b u,b≠e->h.get? b=some u->h'.get? b=some u)(eT:∃ u,h'.get? e=some u)(new:ObjOk P w (A0 H x o') h' x o'):J5 P w (A0 H x o') h':=fun b u q=>by
 have nown:∀ c y,H c=some (.own y)->c≠x:=fun c y r z=>by subst z;rw [r] at mu;exact mu
 have ntup:∀ c xs,H c=some (.tup xs)->c≠x:=fun c xs r z=>by subst z;rw [r] at mu;exact mu
 by_cases hb:b=x
 .subst hb;rw [A7] at q;cases q;exact new
 .rw [A9 hb] at q
  by_cases bS:b=e
  .have q':H b=some (.own x):=by
    rcases he with z | z
    .exact absurd (bS.trans z) hb
    .rw [bS];exact z
   rw [q] at q';cases q';obtain ⟨v,hv⟩:=eT;exact ⟨v,by rw [bS];exact hv⟩
  .refine (ok b u q).stay (fun c v hc r=>k c v ?_ r) (fun c r=>by rw [A9 (nown c b r)];exact r) fun c xs r=>by rw [A9 (ntup c xs r)];exact r
   rcases hc with rfl | hc
   .exact bS
   .rintro rfl
    rcases he with z | z
    .exact nown c b hc z
    .rw [hc] at z;cases z;exact hb rfl
end
structure Un(fs ex:List Addr)(H H':Hp)(h h':Heap):Prop where
 keep:∀ b o,h.get? b=some o->H b=none->b∉fs->b∉ex->h'.get? b=some o
 slot:∀ b o,h.get? b=some o->H b=none->b∈fs->b∉ex->∃ sl,h'.get? b=some { o with slots:=sl }
 free:∀ b o,h.get? b=some o->H b=none->b∉ex->H' b=none
 there:∀ b o,h.get? b=some o->b∉ex->∃ o',h'.get? b=some o'
 tups:∀ b xs,H b=some (.tup xs)->H' b=some (.tup xs)
 frzs:∀ b o u,H b=some (.frz o u)->H' b=some (.frz o u)
 tbls:∀ b ps,H b=some (.tbl ps)->∃ more,H' b=some (.tbl (ps++more))
section
variable {fs fs' ex ex':List Addr} {H H1 H2:Hp} {h h1 h2 h':Heap} {a x e:Addr} {o:HO}
theorem Un.any(u:Un fs ex H H1 h h1){b:Addr}{ob:Obj}(q:h.get? b=some ob)(n:H b=none)(hx:b∉ex):∃ sl,h1.get? b=some { ob with slots:=sl }:=by
 by_cases hb:b∈fs
 .exact u.slot b ob q n hb hx
 .exact ⟨ob.slots,u.keep b ob q n hb hx⟩
theorem Un.kept(k:∀ b u,h.get? b=some u->h'.get? b=some u):Un fs ex H H h h':=
 ⟨fun b ob q _ _ _=>k b ob q,fun b ob q _ _ _=>⟨ob.slots,k b ob q⟩,fun _ _ _ n _=>n,fun b ob q _=>⟨ob,k b ob q⟩,fun _ _ q=>q,fun _ _ _ q=>q,fun _ ps q=>⟨#[],by rw [q];simp⟩⟩
theorem uae:Un fs ex H H h h:=Un.kept fun _ _ q=>q
theorem Un.laid(k:∀ b u,h.get? b=some u->h'.get? b=some u)(hp:h.objs.size<=a)(hn:H a=none):Un fs ex H (A0 H a o) h h' where
 keep:=fun b u q _ _ _=>k b u q
 slot:=fun b u q _ _ _=>⟨u.slots,k b u q⟩
 free:=fun b u q n _=>by rw [A9 (G6 (O9 (Heap.lt_size q) hp))];exact n
 there:=fun b u q _=>⟨u,k b u q⟩
 tups:=fun b xs q=>by rw [A9 (O0 q hn)];exact q
 frzs:=fun b u xs q=>by rw [A9 (O0 q hn)];exact q
 tbls:=fun b ps q=>⟨#[],by rw [A9 (O0 q hn),q];simp⟩
theorem Un.write(mu:dE (H x))(he:e=x\/H e=some (.own x))(k:∀ b u,b≠e->h.get? b=some u->h'.get? b=some u)(eT:∃ u,h'.get? e=some u):Un fs ex H (A0 H x o) h h':=by
 have hx:∀ b,H b=none->b≠x:=fun b n z=>by subst z;rw [n] at mu;exact mu
 have hb:∀ b,H b=none->b≠e:=fun b n z=>by
  subst z
  rcases he with r | r
  .exact hx b n r
  .rw [n] at r;cases r
 have hm:∀ b u,H b=some u->¬ dE (some u)->b≠x:=fun b u q nm z=>by subst z;rw [q] at mu;exact nm mu
 refine ⟨fun b u q n _ _=>k b u (hb b n) q,fun b u q n _ _=>⟨u.slots,k b u (hb b n) q⟩,fun b u q n _=>by rw [A9 (hx b n)];exact n,fun b u q _=>?_,
  fun b xs q=>by rw [A9 (hm b _ q fun z=>z)];exact q,fun b u xs q=>by rw [A9 (hm b _ q fun z=>z)];exact q,fun b ps q=>⟨#[],by rw [A9 (hm b _ q fun z=>z),q];simp⟩⟩
 by_cases bS:b=e
 .subst bS;exact eT
 .exact ⟨u,k b u bS q⟩
end
noncomputable def jU (h:Heap) (H:Hp):List Addr:=(M8 h.objs.size).filter fun a=>(H a).isSome
noncomputable def hidT (h:Heap) (H:Hp):Heap:=PySem.W.hideAll h (jU h H)
theorem agC(h:Heap)(H:Hp):(hidT h H).objs.size=h.objs.size:=PySem.W.hideAll_size _ _
theorem aib{h:Heap}{H:Hp}{b:Addr}{o:Obj}(e:h.get? b=some o)(n:H b=none):(hidT h H).get? b=some o:=
 PySem.W.hideAll_get _ e fun hm=>by
  have q:(H b).isSome=true:=(N1.mp hm).2;rw [n] at q;simp at q
theorem aj0{h:Heap}{H:Hp}{b:Addr}{o:Obj}(e:(hidT h H).get? b=some o):h.get? b=some o/\H b=none:=by
 have e':h.get? b=some o:=PySem.W.of_hideAll (jU h H) e;refine ⟨e',?_⟩
 cases q:H b with
 | none=>rfl
 | some x=>
  have hm:b∈jU h H:=N1.mpr ⟨aS.mpr (Heap.lt_size e'),by simp [q]⟩;have z:(hidT h H).get? b=none:=PySem.W.hideAll_none (jU h H) hm;rw [z] at e;cases e
noncomputable def aj1 (g h:Heap) (L:Addr):List (Addr×Obj):=(M8 h.objs.size).filterMap fun a=>if a=L\/(g.get? a).isSome=true then none else (h.get? a).map fun o=>(a,o)
noncomputable def rest (g h:Heap) (L d:Addr):List (Addr×Obj):=(aj1 g h L).filter fun p=>decide (p.1≠d)
end L2
namespace L2
open PySem PySem.Spec PyProof.Rows
structure Mod(K:PySem.W.Frag)(mg:Str->Option Value)(base:Heap):Prop where
 kin:K.In base
 glob:base.Ns mainGlobals mg
 blt:∃ mb,base.Ns builtinsNs mb/\∀ x:Str,x≠"__name__"->mb x=bootBuiltins x
 nolimit:base.NoLimit
structure Cx where
 prog:Program
 w:World
 K:PySem.W.Frag
 mg:Str->Option Value
 base:Heap
 A:Around
 N:List Str
 s₀:Shared
 H₀:Hp
 env:Env
 outer:List Env
 stack:List Env
 ex:List Addr
 fn:Str->Bool
 calm:Bool
 pn:List (Addr×Obj)
 xe:Value->Shared->Prop
noncomputable def O4 (l:List Env):List Addr:=l.filterMap (·.frame)
noncomputable abbrev Cx.fs (X:Cx):List Addr:=O4 X.outer
noncomputable def jV (sc:Scope) (x:Str):Prop:=sc.names.lookup x=some .local\/sc.names.lookup x=some .cell\/sc.names.lookup x=some .free
noncomputable def i8 (sc:Scope) (x:Str):Prop:=sc.names.lookup x=some .local\/sc.names.lookup x=some .cell
noncomputable def Look (env:Env) (h:Heap) (m:Str->Option Value) (x:Str) (u:Value):Prop:=
 (env.kindOf x=some .local/\m x=some u)\/((env.kindOf x=some .cell\/env.kindOf x=some .free)/\∃ c,env.cells.lookup x=some c/\h.IsCell c (some u))
structure Cx.Ok(X:Cx):Prop where
 mod:Mod X.K X.mg X.base
 kind:X.env.scope.kind=.function
 glob:X.env.globals=mainGlobals
 blt:X.env.builtins=builtinsNs
 above:X.s₀.heap.objs.size<=X.env.locals
 inj:∀ x y c,X.env.cells.lookup x=some c->X.env.cells.lookup y=some c->x=y
 has:∀ x,(X.env.kindOf x=some .cell\/X.env.kindOf x=some .free)->∃ c,X.env.cells.lookup x=some c
 cab:∀ x c,X.fn x=true->X.env.cells.lookup x=some c->X.s₀.heap.objs.size<=c
 hd:X.calm=true->X.A.handled=none
 frames:X.A.frames=some X.stack
 stk:X.stack=X.outer\/(X.stack=X.env::X.outer/\X.env.frame=some X.env.locals)
 exf:∀ b∈X.ex,b≠X.env.locals/\∀ x c,X.env.cells.lookup x=some c->c≠b
 bs:∀ b o,X.base.get? b=some o->X.s₀.heap.get? b=some o/\X.H₀ b=none
 bsz:X.base.objs.size<=X.s₀.heap.objs.size
 noex:∀ b o,X.base.get? b=some o->b∉X.ex
 exfs:∀ b∈X.ex,b∉X.fs
 funs:X.s₀.heap.FunFrames X.base X.outer
 frf:∀ b∈X.fs,X.H₀ b=none
structure Inv(X:Cx)(pins:List (Addr×Obj))(O:List (Option V))(H:Hp)(s:Shared):Prop where
 ok:X.Ok
 os:s.os=X.s₀.os
 bare:AllBare s.gens
 base:Un X.fs X.ex X.H₀ H X.s₀.heap s.heap
 loc:∃ m,s.heap.Ns X.env.locals m/\∀ (i:Nat) (x:Str) (v:V),X.N[i]?=some x->O[i]?=some (some v)->jV X.env.scope x->∃ u,RelV v u/\Look X.env s.heap m x u
 cell:∀ x c,X.env.cells.lookup x=some c->∃ v,s.heap.IsCell c v
 free:H X.env.locals=none
 freeC:∀ x c,X.env.cells.lookup x=some c->H c=none
 pin:∀ p∈X.pn++pins,s.heap.get? p.1=some p.2/\H p.1=none/\p.1≠X.env.locals/\p.1∉X.fs/\∀ v,p.2.data≠.cell v
 hok:J5 X.prog X.w H s.heap
 len:O.length=X.N.length
section
variable {X:Cx} {pins:List (Addr×Obj)} {O:List (Option V)} {H H':Hp} {s:Shared} {h':Heap}
theorem Cx.Ok.nofr(ok:X.Ok){b:Addr}{o:Obj}(e:X.base.get? b=some o):b∉X.fs:=fun hb=>by
 have:=(ok.funs.mem hb).1
 rw [e] at this;cases this
theorem Inv.bs(I:Inv X pins O H s):∀ b o,X.base.get? b=some o->s.heap.get? b=some o/\H b=none:=fun b o e=>
 ⟨I.base.keep b o (I.ok.bs b o e).1 (I.ok.bs b o e).2 (I.ok.nofr e) (I.ok.noex b o e),I.base.free b o (I.ok.bs b o e).1 (I.ok.bs b o e).2 (I.ok.noex b o e)⟩
theorem Inv.bk(I:Inv X pins O H s):∀ b o,X.base.get? b=some o->s.heap.get? b=some o:=fun b o e=>(I.bs b o e).1
theorem Inv.mod(I:Inv X pins O H s):Mod X.K X.mg X.base:=I.ok.mod
theorem Inv.kIn(I:Inv X pins O H s):X.K.In s.heap:=I.ok.mod.kin.keeps I.bk
theorem Inv.lt(I:Inv X pins O H s):X.env.locals<s.heap.objs.size:=let ⟨_,hn,_⟩:=I.loc;hn.lt
theorem Inv.sz(I:Inv X pins O H s):X.s₀.heap.objs.size<=s.heap.objs.size:=F6 I.ok.above (Nat.le_of_lt I.lt)
theorem Inv.nofs(I:Inv X pins O H s){a:Addr}(h:s.heap.objs.size<=a):a∉X.fs:=fun hb=>by
 obtain ⟨_,o,ho,_⟩:=I.ok.funs.mem hb;exact absurd (O9 (Heap.lt_size ho) (F6 I.sz h)) (X5 _)
theorem Inv.cne(I:Inv X pins O H s):∀ x c,X.env.cells.lookup x=some c->c≠X.env.locals:=fun x c e z=>by
 obtain ⟨v,o,ho,hd⟩:=I.cell x c e;obtain ⟨m,⟨o',es,ep,e9,qC,_⟩,_⟩:=I.loc;rw [z,e9] at ho;cases ho;rw [qC] at hd;cases hd
theorem Inv.funs(I:Inv X pins O H s):s.heap.FunFrames X.base X.outer:=by
 have all:∀ (l:List Env),(∀ b∈O4 l,b∈X.fs)->X.s₀.heap.FunFrames X.base l->s.heap.FunFrames X.base l:=by
  intro l
  induction l with
  | nil=>intro _ _;trivial
  | cons env r ih=>
   intro hs hl;obtain ⟨hk,⟨L,o,hf,hn,ho,hd⟩,hr⟩:=hl;have hL:L∈X.fs:=hs L (by unfold O4;rw [aO,hf];exact M5);obtain ⟨sl,e⟩:=I.base.slot L o ho (I.ok.frf L hL) hL fun z=>I.ok.exfs L z hL
   exact ⟨hk,⟨L,_,hf,hn,e,hd⟩,ih (fun b hb=>hs b (by unfold O4;rw [aO,hf];exact M6 _ hb)) hr⟩
 exact all X.outer (fun _ hb=>hb) I.ok.funs
theorem Inv.stack(I:Inv X pins O H s):s.heap.FunFrames X.base X.stack:=by
 rcases I.ok.stk with e | ⟨e,hf⟩
 .rw [e];exact I.funs
 .rw [e];obtain ⟨m,hn,_⟩:=I.loc;refine .cons (by rw [I.ok.kind];decide) hf hn ?_ I.funs;exact Heap.get?_none_of_le (F6 I.ok.bsz I.ok.above)
theorem Inv.stkSub(I:Inv X pins O H s):∀ b∈O4 X.stack,b∈X.env.locals::X.fs:=fun b hb=>by
 rcases I.ok.stk with e | ⟨e,hf⟩
 .rw [e] at hb;exact M6 _ hb
 .rw [e] at hb;unfold O4 at hb;rw [aO,hf] at hb;exact hb
theorem Inv.stkFree(I:Inv X pins O H s):∀ b∈O4 X.stack,H b=none:=fun b hb=>by
 rcases F9.mp (I.stkSub b hb) with e | hb
 .rw [e];exact I.free
 .obtain ⟨_,o,ho,_⟩:=I.ok.funs.mem hb;exact I.base.free b o ho (I.ok.frf b hb) fun z=>I.ok.exfs b z hb
theorem Inv.step{g':Array GenState}{t':Nat}{d':Drawn}{ch:List Addr}(I:Inv X pins O H s)(k6:∀ b∈ch,(b∈X.ex\/X.s₀.heap.objs.size<=b)/\b≠X.env.locals/\(∀ x c,X.env.cells.lookup x=some c->c≠b)/\∀ p∈X.pn++pins,p.1≠b)(keep:∀ b o,b≠X.env.locals->b∉X.fs->b∉ch->s.heap.get? b=some o->H b=none->h'.get? b=some o)(slot:∀ b o,b≠X.env.locals->b∈X.fs->b∉ch->s.heap.get? b=some o->H b=none->∃ sl,h'.get? b=some { o with slots:=sl })(free:∀ b o,b∉ch->s.heap.get? b=some o->H b=none->H' b=none)(there:∀ b o,b∉ch->s.heap.get? b=some o->∃ o',h'.get? b=some o')(tups:∀ b xs,H b=some (.tup xs)->H' b=some (.tup xs))(frzs:∀ b o u,H b=some (.frz o u)->H' b=some (.frz o u))(tbls:∀ b ps,H b=some (.tbl ps)->∃ more,H' b=some (.tbl (ps++more)))(ns:∀ m,s.heap.Ns X.env.locals m->h'.Ns X.env.locals m)(hok:J5 X.prog X.w H' h')(hg:AllBare g') :
  Inv X pins O H' { s with heap:=h',gens:=g',drawn:=d',toks:=t' }:=by
 have neL:∀ b o,X.s₀.heap.get? b=some o->b≠X.env.locals:=fun b o e=>G6 (O9 (Heap.lt_size e) I.ok.above)
 have neC:∀ b o,X.s₀.heap.get? b=some o->b∉X.ex->b∉ch:=fun b o e hx hb=>by
  rcases (k6 b hb).1 with z | z
  .exact hx z
  .exact absurd (O9 (Heap.lt_size e) z) (X5 _)
 have cellK:∀ x c,X.env.cells.lookup x=some c->∀ v,s.heap.IsCell c v->h'.IsCell c v:=fun x c e v ⟨o,ho,hd⟩=>by
  have nch:c∉ch:=fun z=>(k6 c z).2.2.1 x c e rfl
  by_cases hc:c∈X.fs
  .obtain ⟨sl,q⟩:=slot c o (I.cne x c e) hc nch ho (I.freeC x c e);exact ⟨_,q,hd⟩
  .exact ⟨o,keep c o (I.cne x c e) hc nch ho (I.freeC x c e),hd⟩
 refine ⟨I.ok,I.os,hg,⟨fun b o e n hb hx=>?_,fun b o e n hb hx=>?_,fun b o e n hx=>?_,fun b o e hx=>?_,fun b xs e=>tups b xs (I.base.tups b xs e),fun b o xs e=>frzs b o xs (I.base.frzs b o xs e),fun b ps e=>?_⟩,?_,fun x c e=>?_,?_,fun x c e=>?_,fun p hp=>?_,hok,I.len⟩
 .exact keep b o (neL b o e) hb (neC b o e hx) (I.base.keep b o e n hb hx) (I.base.free b o e n hx)
 .obtain ⟨sl,e1⟩:=I.base.slot b o e n hb hx;obtain ⟨sl',e2⟩:=slot b _ (neL b o e) hb (neC b o e hx) e1 (I.base.free b o e n hx);exact ⟨sl',e2⟩
 .obtain ⟨o',e1⟩:=I.base.there b o e hx;exact free b o' (neC b o e hx) e1 (I.base.free b o e n hx)
 .obtain ⟨o',e1⟩:=I.base.there b o e hx;exact there b o' (neC b o e hx) e1
 .obtain ⟨m1,e1⟩:=I.base.tbls b ps e;obtain ⟨m2,e2⟩:=tbls b _ e1;exact ⟨m1++m2,by rw [e2,Array.append_assoc]⟩
 .obtain ⟨m,hn,hl⟩:=I.loc;refine ⟨m,ns m hn,fun i x v e1 e2 e3=>?_⟩;obtain ⟨u,r,l⟩:=hl i x v e1 e2 e3;refine ⟨u,r,?_⟩
  rcases l with l | ⟨k,c,e,z⟩
  .exact .inl l
  .exact .inr ⟨k,c,e,cellK x c e _ z⟩
 .obtain ⟨v,z⟩:=I.cell x c e;exact ⟨v,cellK x c e v z⟩
 .obtain ⟨m,⟨o,_,_,ho,_⟩,_⟩:=I.loc;exact free _ o (fun z=>(k6 _ z).2.1 rfl) ho I.free
 .obtain ⟨v,o,ho,hd⟩:=I.cell x c e;exact free c o (fun z=>(k6 c z).2.2.1 x c e rfl) ho (I.freeC x c e)
 .obtain ⟨e,n,ne,nf,d⟩:=I.pin p hp;have nch:p.1∉ch:=fun z=>(k6 p.1 z).2.2.2 p hp rfl
  exact ⟨keep p.1 p.2 ne nf nch e n,free p.1 p.2 nch e n,ne,nf,d⟩
theorem Inv.un{t':Nat}(I:Inv X pins O H s)(u:Un X.fs [] H H' s.heap h')(hok:J5 X.prog X.w H' h'):Inv X pins O H' { s with heap:=h',toks:=t' }:=by
 obtain ⟨m,⟨o,es,ep,ho,r⟩,_⟩:=id I.loc;obtain ⟨sl,hL⟩:=u.any ho I.free (by simp);exact I.step (g':=s.gens) (d':=s.drawn) (ch:=[]) (fun _ z=>nomatch z) (fun b o _ hb _ e n=>u.keep b o e n hb (by simp)) (fun b o _ hb _ e n=>u.slot b o e n hb (by simp)) (fun b o _ e n=>u.free b o e n (by simp)) (fun b o _ e=>u.there b o e (by simp)) u.tups u.frzs u.tbls (fun m' hm=>by
  obtain ⟨o',es',ep',e9,r'⟩:=hm;rw [ho] at e9;cases e9;exact ⟨_,es',ep',hL,r'⟩) hok I.bare
theorem Inv.call{g':Array GenState}{t':Nat}{d':Drawn}{ch:List Addr}(I:Inv X pins O H s)(u:Un (O4 X.stack) ch H H' s.heap h')(hok:J5 X.prog X.w H' h')(hg:AllBare g')(k6:∀ b∈ch,(b∈X.ex\/X.s₀.heap.objs.size<=b)/\b≠X.env.locals/\(∀ x c,X.env.cells.lookup x=some c->c≠b)/\∀ p∈X.pn++pins,p.1≠b) :
  Inv X pins O H' { s with heap:=h',gens:=g',drawn:=d',toks:=t' }:=by
 obtain ⟨m,⟨o,es,ep,ho,r⟩,_⟩:=id I.loc;obtain ⟨sl,hL⟩:=u.any ho I.free fun z=>(k6 _ z).2.1 rfl
 exact I.step (ch:=ch) k6 (fun b o hL hb hc e n=>u.keep b o e n (fun z=>(F9.mp (I.stkSub b z)).elim hL hb) hc) (fun b o _ _ hc e n=>u.any e n hc) (fun b o hc e n=>u.free b o e n hc) (fun b o hc e=>u.there b o e hc) u.tups u.frzs u.tbls (fun m' hm=>by
  obtain ⟨o',es',ep',e9,r'⟩:=hm;rw [ho] at e9;cases e9;exact ⟨_,es',ep',hL,r'⟩) hok hg
theorem Inv.turned{t':Nat}{it:Addr}(I:Inv X pins O H s)(k:∀ b o,b≠it->s.heap.get? b=some o->h'.get? b=some o)(hn:H it=none)(hL:it≠X.env.locals)(h1:it∈X.ex\/X.s₀.heap.objs.size<=it)(h2:∀ x c,X.env.cells.lookup x=some c->c≠it)(h3:∀ p∈X.pn++pins,p.1≠it):Inv X pins O H { s with heap:=h',toks:=t' }:=by
 have nit:∀ b u,H b=some u->b≠it:=fun b u e z=>by rw [z,hn] at e;cases e
 refine I.step (g':=s.gens) (d':=s.drawn) (ch:=[it]) (fun b hb=>?_) (fun b o _ _ hc e _=>k b o (fun z=>hc (by simp [z])) e) (fun b o _ _ hc e _=>⟨o.slots,k b o (fun z=>hc (by simp [z])) e⟩) (fun _ _ _ _ n=>n)
  (fun b o hc e=>⟨o,k b o (fun z=>hc (by simp [z])) e⟩) (fun _ _ e=>e) (fun _ _ _ e=>e) (fun b ps e=>⟨#[],by rw [e];simp⟩) (fun m hm=>?_) (fun b u e=>?_) I.bare
 .have e:b=it:=by simpa using hb
  subst e;exact ⟨h1,hL,h2,h3⟩
 .obtain ⟨o,es,ep,ho,r⟩:=hm;exact ⟨o,es,ep,k _ o (Ne.symm hL) ho,r⟩
 .refine (I.hok b u e).stay (fun c v hc q=>k c v ?_ q) (fun _ q=>q) fun _ _ q=>q
  rcases hc with z | z
  .rw [z];exact nit b u e
  .exact nit c _ z
theorem Inv.tok(I:Inv X pins O H s)(t:Nat):Inv X pins O H { s with toks:=t }:=I.un (h':=s.heap) (t':=t) uae I.hok
theorem Inv.kept{t':Nat}(I:Inv X pins O H s)(k:∀ b u,s.heap.get? b=some u->h'.get? b=some u):Inv X pins O H { s with heap:=h',toks:=t' }:=I.un (Un.kept k) (I.hok.kept k)
theorem Inv.laid{a:Addr}{o:HO}{t':Nat}(I:Inv X pins O H s)(k:∀ b u,s.heap.get? b=some u->h'.get? b=some u)(hp:s.heap.objs.size<=a)(new:ObjOk X.prog X.w (A0 H a o) h' a o) :
  Inv X pins O (A0 H a o) { s with heap:=h',toks:=t' }:=I.un (Un.laid k hp (I.hok.fresh hp)) (I.hok.laid k hp new)
theorem Inv.write{x e:Addr}{o:HO}{t':Nat}(I:Inv X pins O H s)(mu:dE (H x))(he:e=x\/H e=some (.own x))(k:∀ b u,b≠e->s.heap.get? b=some u->h'.get? b=some u)(eT:∃ u,h'.get? e=some u)(new:ObjOk X.prog X.w (A0 H x o) h' x o):Inv X pins O (A0 H x o) { s with heap:=h',toks:=t' }:=I.un (Un.write mu he k eT) (I.hok.write mu he k eT new)
theorem Inv.pins_of{pins':List (Addr×Obj)}(I:Inv X pins O H s)(h:∀ p∈pins',s.heap.get? p.1=some p.2/\H p.1=none/\p.1≠X.env.locals/\p.1∉X.fs/\∀ v,p.2.data≠.cell v):Inv X pins' O H s:=
 ⟨I.ok,I.os,I.bare,I.base,I.loc,I.cell,I.free,I.freeC,fun p hp=>(J3.mp hp).elim (fun z=>I.pin p (R1 _ z)) (h p),I.hok,I.len⟩
theorem mP{N:List Str}(hN:N.Nodup){i j:Nat}{x:Str}(a:N[i]?=some x)(b:N[j]?=some x):i=j:=by
 obtain ⟨h1,e1⟩:=K1.mp a;obtain ⟨h2,e2⟩:=K1.mp b;exact (List.getElem_inj hN).mp (e1.trans e2.symm)
theorem agD{M:Model}{A:Around}{E:Value->Shared->Prop}{i:Nat}{x:Str}{v:V}{u:Value}{Q:Unit->Shared->Prop}(I:Inv X pins O H s)(hN:X.N.Nodup)(hi:X.N[i]?=some x)(hx:i8 X.env.scope x)(r:RelV v u)(h:∀ s',Inv X pins (O.set i (some v)) H s'->(∃ a,Heap.SameBut a s.heap s'.heap/\(a=X.env.locals\/X.env.cells.lookup x=some a))->Q () s')(hf:X.fn x=true\/X.env.scope.names.lookup x=some .local:=by first | exact .inl rfl | exact .inr rfl | assumption):wpAny M A (storeName X.env x u) Q E s:=by
 obtain ⟨m,hn,hl⟩:=id I.loc;have bU:(X.env.scope.kind == .class || (X.env.scope.kind == .module&&X.env.locals != X.env.globals))=false:=by rw [I.ok.kind];rfl
 have hiσ:i<O.length:=by rw [I.len];exact (K1.mp hi).1
 have cne:=I.cne;have tracked:∀ {a:Addr} {h':Heap},(∃ o,s.heap.get? a=some o/\H a=none)->Heap.SameBut a s.heap h'->J5 X.prog X.w H h':=fun {a h'} ha hs b ob e=>by
  obtain ⟨_,_,aA⟩:=ha;refine (I.hok b ob e).stay (fun c w' hc q=>(hs.2 c ?_).trans q) (fun _ q=>q) fun _ _ q=>q
  rintro rfl
  rcases hc with rfl | hc
  .rw [aA] at e;cases e
  .rw [aA] at hc;cases hc
 rcases hx with hk | hk
 .refine wpAny_storeName_local hk hn (fun h' eU hs=>?_) bU;obtain ⟨oL,_,_,hoL,_⟩:=id hn;refine h _ ⟨I.ok,I.os,I.bare,⟨fun b o e n hb hx=>?_,fun b o e n hb hx=>?_,I.base.free,fun b o e hx=>?_,I.base.tups,I.base.frzs,I.base.tbls⟩,⟨_,eU,fun j y v' e1 e2 e3=>?_⟩,fun y c e=>?_,I.free,I.freeC,fun p hp=>?_,tracked ⟨oL,hoL,I.free⟩ hs,by simpa using I.len⟩ ⟨_,hs,.inl rfl⟩
  .exact (hs.2 b (G6 (O9 (Heap.lt_size e) I.ok.above))).trans (I.base.keep b o e n hb hx)
  .obtain ⟨sl,e1⟩:=I.base.slot b o e n hb hx;exact ⟨sl,(hs.2 b (G6 (O9 (Heap.lt_size e) I.ok.above))).trans e1⟩
  .obtain ⟨o',e1⟩:=I.base.there b o e hx;exact ⟨o',(hs.2 b (G6 (O9 (Heap.lt_size e) I.ok.above))).trans e1⟩
  .by_cases hj:j=i
   .subst hj;rw [hi] at e1;cases e1;rw [List.getElem?_set_self hiσ] at e2;cases e2;exact ⟨u,r,.inl ⟨hk,by simp⟩⟩
   .rw [List.getElem?_set_ne (Ne.symm hj)] at e2;obtain ⟨u',r',q⟩:=hl j y v' e1 e2 e3;refine ⟨u',r',?_⟩
    rcases q with ⟨k,e⟩ | ⟨k,c,e,z⟩
    .refine .inl ⟨k,?_⟩
     have:y≠x:=fun e=>hj (mP hN e1 (e ▸ hi))
     simp [this,e]
    .exact .inr ⟨k,c,e,z.sameBut hs (cne y c e)⟩
  .obtain ⟨w',z⟩:=I.cell y c e;exact ⟨w',z.sameBut hs (cne y c e)⟩
  .obtain ⟨e,n,ne,nf,d⟩:=I.pin p hp;exact ⟨(hs.2 p.1 ne).trans e,n,ne,nf,d⟩
 .have qD:X.fn x=true:=by
   rcases hf with z | z
   .exact z
   .rw [z] at hk;cases hk
  obtain ⟨c,hc⟩:=I.ok.has x (.inl hk);obtain ⟨w',z⟩:=I.cell x c hc;refine wpAny_storeName_cell I.ok.kind hk hc z (fun h' k7 hs=>?_);obtain ⟨oc,qE,qF⟩:=id z;refine h { s with heap:=h' } ⟨I.ok,I.os,I.bare,⟨fun b o e n hb hx=>?_,fun b o e n hb hx=>?_,I.base.free,fun b o e hx=>?_,I.base.tups,I.base.frzs,I.base.tbls⟩,⟨m,hn.sameBut hs (Ne.symm (cne x c hc)),fun j y v' e1 e2 e3=>?_⟩,fun y c' e=>?_,I.free,I.freeC,fun p hp=>?_,tracked ⟨oc,qE,I.freeC x c hc⟩ hs,by simpa using I.len⟩ ⟨c,hs,.inr hc⟩
  .exact (hs.2 b (G6 (O9 (Heap.lt_size e) (I.ok.cab x c qD hc)))).trans (I.base.keep b o e n hb hx)
  .obtain ⟨sl,e1⟩:=I.base.slot b o e n hb hx;exact ⟨sl,(hs.2 b (G6 (O9 (Heap.lt_size e) (I.ok.cab x c qD hc)))).trans e1⟩
  .obtain ⟨o',e1⟩:=I.base.there b o e hx;exact ⟨o',(hs.2 b (G6 (O9 (Heap.lt_size e) (I.ok.cab x c qD hc)))).trans e1⟩
  .by_cases hj:j=i
   .subst hj;rw [hi] at e1;cases e1;rw [List.getElem?_set_self hiσ] at e2;cases e2;exact ⟨u,r,.inr ⟨.inl hk,c,hc,k7⟩⟩
   .rw [List.getElem?_set_ne (Ne.symm hj)] at e2;obtain ⟨u',r',q⟩:=hl j y v' e1 e2 e3;refine ⟨u',r',?_⟩
    rcases q with q | ⟨k,c',e,z'⟩
    .exact .inl q
    .refine .inr ⟨k,c',e,z'.sameBut hs ?_⟩;rintro rfl;exact hj (mP hN e1 (I.ok.inj _ _ _ e hc ▸ hi))
  .by_cases zP:c'=c
   .subst zP;exact ⟨_,k7⟩
   .obtain ⟨w2,z2⟩:=I.cell y c' e;exact ⟨w2,z2.sameBut hs zP⟩
  .obtain ⟨e,n,ne,nf,d⟩:=I.pin p hp;refine ⟨(hs.2 p.1 ?_).trans e,n,ne,nf,d⟩;intro q;rw [q,qE] at e;have q':oc=p.2:=Option.some.inj e;exact d w' (by rw [<- q'];exact qF)
theorem gF{M:Model}{A:Around}{E:Value->Shared->Prop}{i:Nat}{x:Str}{v:V}{u:Value}{Q:Unit->Shared->Prop}(I:Inv X pins O H s)(hN:X.N.Nodup)(hi:X.N[i]?=some x)(hx:i8 X.env.scope x)(r:RelV v u)(h:∀ s',Inv X pins (O.set i (some v)) H s'->Q () s')(hf:X.fn x=true\/X.env.scope.names.lookup x=some .local:=by first | exact .inl rfl | exact .inr rfl | assumption):wpAny M A (storeName X.env x u) Q E s:=
 agD I hN hi hx r (fun s' I' _=>h s' I') hf
theorem Inv.call'{s':Shared}{ch:List Addr}(I:Inv X pins O H s)(ho:s'.os=s.os)(u:Un (O4 X.stack) ch H H' s.heap s'.heap)(hok:J5 X.prog X.w H' s'.heap)(hg:AllBare s'.gens)(k6:∀ b∈ch,(b∈X.ex\/X.s₀.heap.objs.size<=b)/\b≠X.env.locals/\(∀ x c,X.env.cells.lookup x=some c->c≠b)/\∀ p∈X.pn++pins,p.1≠b):Inv X pins O H' s':=by
 obtain ⟨h',g',d',t',o'⟩:=s';have e:o'=s.os:=ho;subst e;exact I.call (g':=g') (t':=t') (d':=d') u hok hg k6
end
noncomputable abbrev XK:=Value->Option Addr->Hp->Prop
noncomputable abbrev St:=List (Option V)
noncomputable abbrev VK:=V->Hp->Prop
noncomputable abbrev TE:=St->Hp->VK->Prop
noncomputable abbrev TT:=St->Hp->(Bool->Hp->Prop)->Prop
noncomputable abbrev TA:=St->Hp->(List V->Hp->Prop)->Prop
structure Ends where
 nx:St->Hp->Prop
 rt:VK
 bk:St->Hp->Prop:=fun _ _=>False
 ct:St->Hp->Prop:=fun _ _=>False
noncomputable abbrev TS:=Ends->St->Hp->Prop
noncomputable def EP (X:Cx) (pins:List (Addr×Obj)) (O:St) (Q:VK) (u:Value) (s':Shared):Prop:=∃ v H',Inv X pins O H' s'/\RelV v u/\Q v H'
noncomputable def TP (X:Cx) (pins:List (Addr×Obj)) (O:St) (Q:Bool->Hp->Prop) (b:Bool) (s':Shared):Prop:=∃ H',Inv X pins O H' s'/\Q b H'
noncomputable def AP (X:Cx) (pins:List (Addr×Obj)) (O:St) (Q:List V->Hp->Prop) (us:List Value) (s':Shared):Prop:=∃ vs H',Inv X pins O H' s'/\Vals vs us/\Q vs H'
noncomputable def SP (X:Cx) (pins:List (Addr×Obj)) (D:Ends) (f:Flow) (s':Shared):Prop:=
 match f with
 | .next=>∃ σ' H',Inv X pins σ' H' s'/\D.nx σ' H'
 | .brk=>∃ σ' H',Inv X pins σ' H' s'/\D.bk σ' H'
 | .cont=>∃ σ' H',Inv X pins σ' H' s'/\D.ct σ' H'
 | .ret u=>∃ v σ' H',Inv X pins σ' H' s'/\RelV v u/\D.rt v H'
noncomputable def PE (X:Cx) (e:Expr) (t:TE):Prop:=
 ∀ (pins:List (Addr×Obj)) (s:Shared) (O:St) (H:Hp) (Q:VK),Inv X pins O H s->t O H Q->wpAny (model X.prog X.w) X.A (eval e X.env) (EP X pins O Q) X.xe s
noncomputable def PT (X:Cx) (e:Expr) (t:TT):Prop:=
 ∀ (pins:List (Addr×Obj)) (s:Shared) (O:St) (H:Hp) (Q:Bool->Hp->Prop),Inv X pins O H s->t O H Q->wpAny (model X.prog X.w) X.A (isTrue e X.env (eval e X.env)) (TP X pins O Q) X.xe s
noncomputable def PW (X:Cx) (e:Expr) (t:TT):Prop:=
 ∀ (whole:Sem Value) (pins:List (Addr×Obj)) (s:Shared) (O:St) (H:Hp) (Q:Bool->Hp->Prop),Inv X pins O H s->t O H Q->wpAny (model X.prog X.w) X.A (isTrue e X.env whole) (TP X pins O Q) X.xe s
theorem PW.pt{X:Cx}{e:Expr}{t:TT}(h:PW X e t):PT X e t:=h _
noncomputable def PA (X:Cx) (es:List Expr) (t:TA):Prop:=
 ∀ (pos:Pos) (pins:List (Addr×Obj)) (s:Shared) (O:St) (H:Hp) (Q:List V->Hp->Prop),Inv X pins O H s->t O H Q->wpAny (model X.prog X.w) X.A (spliced (backTo pos (starEach es X.env))) (AP X pins O Q) X.xe s
noncomputable def PS (X:Cx) (st:Stmt) (t:TS):Prop:=
 ∀ (pins:List (Addr×Obj)) (s:Shared) (O:St) (H:Hp) (D:Ends),Inv X pins O H s->t D O H->wpAny (model X.prog X.w) X.A (exec st X.env) (SP X pins D) X.xe s
noncomputable def P7 (X:Cx) (st:List Stmt) (t:TS):Prop:=
 ∀ (pins:List (Addr×Obj)) (s:Shared) (O:St) (H:Hp) (D:Ends),Inv X pins O H s->t D O H->wpAny (model X.prog X.w) X.A (execs st X.env) (SP X pins D) X.xe s
theorem C0{α:Type}{t:Sem α}{Q Q':α->Shared->Prop}{M:Model}{A:Around}{E:Value->Shared->Prop}{s:Shared}(h:wpAny M A t Q E s)(hQ:∀ a s,Q a s->Q' a s):wpAny M A t Q' E s:=wpAny_mono h hQ fun _ _ x=>x
end L2
namespace L2
open PySem PySem.Spec PyProof.Rows
section
variable {X:Cx}
noncomputable def tVar (i:Nat):TE:=fun O H Q=>∃ v,O[i]?=some (some v)/\Q v H
noncomputable def tC (v:V):TE:=fun _ H Q=>Q v H
theorem sL{i:Nat}{x:Str}{pos:Pos}(hN:X.N[i]?=some x)(hv:jV X.env.scope x)(hd:(x==("__debug__" : Str))=false:=by decide)(P5:(x==("__classdict__" : Str))=false:=by decide):PE X (.Name x pos) (tVar i):=by
 intro pins s O H Q I h;obtain ⟨v,e,h⟩:=h;obtain ⟨m,hn,hl⟩:=I.loc;obtain ⟨u,r,l⟩:=hl i x v hN e hv;have fin:EP X pins O Q u s:=⟨v,H,I,r,h⟩
 rcases l with ⟨hk,hm⟩ | ⟨hk,c,hc,M4⟩
 .exact wpAny_Name (wpAny_loadName_local I.ok.kind hk hn hm fin) hd
 .rcases hk with hk | hk
  .exact wpAny_Name (wpAny_loadName_cell I.ok.kind hk hc M4 fin) hd
  .exact wpAny_Name (wpAny_loadName_free I.ok.kind hk hc M4 fin P5) hd
theorem sM{i j pos} : PE X (.Constant (.int i) j pos) (tC (.int i)):=fun _ _ _ H _ I h=>wpAny_Constant_int ⟨.int i,H,I.tok _,⟨_,rfl⟩,h⟩
theorem pe_bl{b j pos} : PE X (.Constant (.bool b) j pos) (tC (.bl b)):=fun _ _ _ H _ I h=>Constant_bool ⟨.bl b,H,I,rfl,h⟩
theorem alS{j pos} : PE X (.Constant .none j pos) (tC .non):=fun _ _ _ H _ I h=>Constant_none ⟨.non,H,I,rfl,h⟩
theorem alT{x j pos} : PE X (.Constant (.str x) j pos) (tC (.str x)):=fun _ _ _ H _ I h=>Calls.Constant_str ⟨.str x,H,I.tok _,⟨_,rfl⟩,h⟩
noncomputable def Gl (X:Cx) (x:Str):Prop:=X.env.kindOf x=some .globalImplicit
theorem dF{E:Value->Shared->Prop}{pins:List (Addr×Obj)}{s:Shared}{O:St}{H:Hp}{x:Str}{u:Value}{pos:Pos}{Q:Value->Shared->Prop}(I:Inv X pins O H s)(hg:Gl X x)(hm:X.mg x=some u)(h:Q u s)(hd:(x==("__debug__" : Str))=false:=by decide):wpAny (model X.prog X.w) X.A (eval (.Name x pos) X.env) Q E s:=
 Calls.Name_function_global I.ok.kind hg (Calls.loadGlobal_global (by rw [I.ok.glob];exact I.mod.glob.keeps I.bk) hm h) hd
theorem v9{E:Value->Shared->Prop}{pins:List (Addr×Obj)}{s:Shared}{O:St}{H:Hp}{x:Str}{u:Value}{pos:Pos}{Q:Value->Shared->Prop}(I:Inv X pins O H s)(hg:Gl X x)(hm:X.mg x=none)(hv:bootBuiltins x=some u)(h:Q u s)(hn:x≠"__name__":=by decide)(hd:(x==("__debug__" : Str))=false:=by decide):wpAny (model X.prog X.w) X.A (eval (.Name x pos) X.env) Q E s:=by
 obtain ⟨mb,h1,h2⟩:=I.mod.blt;exact Calls.Name_function_global I.ok.kind hg (Calls.loadGlobal_builtin (by rw [I.ok.glob];exact I.mod.glob.keeps I.bk) hm (by rw [I.ok.blt];exact h1.keeps I.bk) ((h2 x hn).trans hv) h) hd
theorem sN{x:Str}{v:V}{u:Value}{pos:Pos}(hg:Gl X x)(hm:X.mg x=some u)(r:RelV v u)(hd:(x==("__debug__" : Str))=false:=by decide):PE X (.Name x pos) (tC v):=
 fun _ _ _ H _ I h=>dF I hg hm ⟨v,H,I,r,h⟩ hd
theorem aj2{x:Str}{v:V}{u:Value}{pos:Pos}(hg:Gl X x)(hm:X.mg x=none)(hv:bootBuiltins x=some u)(r:RelV v u)(hn:x≠"__name__":=by decide)(hd:(x==("__debug__" : Str))=false:=by decide):PE X (.Name x pos) (tC v):=
 fun _ _ _ H _ I h=>v9 I hg hm hv ⟨v,H,I,r,h⟩ hn hd
variable {a b:Expr} {ta tb:TE} {pos:Pos}
noncomputable def tB (t:TE):TT:=fun O H Q=>t O H fun x H1=>∃ c,x=.bl c/\Q c H1
variable {tA tB':TT} {rest:List Expr}
noncomputable def tAnd (t u:TT):TT:=fun O H Q=>t O H fun c H1=>if c=true then u O H1 Q else Q false H1
noncomputable def mQ (t u:TT):TT:=fun O H Q=>t O H fun c H1=>if c=true then Q true H1 else u O H1 Q
noncomputable def tNot (t:TT):TT:=fun O H Q=>t O H fun c H1=>Q (!c) H1
theorem aj3(ha:PT X a tA):PW X (.BoolOp .And [a] pos) tA:=by
 intro wh pins s O H Q I h;refine isTrue_and (C0 (ha pins s O H Q I h) fun c s1 e=>?_)
 cases c with
 | true=>exact isTrue_and_nil e
 | false=>exact e
theorem alU(ha:PT X a tA):PW X (.BoolOp .Or [a] pos) tA:=by
 intro wh pins s O H Q I h;refine isTrue_or (C0 (ha pins s O H Q I h) fun c s1 e=>?_)
 cases c with
 | false=>exact isTrue_or_nil e
 | true=>exact e
theorem alV(ha:PT X a tA)(hb:PW X (.BoolOp .And (b::rest) pos) tB'):PW X (.BoolOp .And (a::b::rest) pos) (tAnd tA tB'):=by
 intro wh pins s O H Q I h;refine isTrue_and (C0 (ha pins s O H _ I h) fun c s1 ⟨H1,I1,q1⟩=>?_)
 cases c with
 | true=>exact hb wh pins s1 O H1 Q I1 q1
 | false=>exact ⟨H1,I1,q1⟩
theorem pw_or(ha:PT X a tA)(hb:PW X (.BoolOp .Or (b::rest) pos) tB'):PW X (.BoolOp .Or (a::b::rest) pos) (mQ tA tB'):=by
 intro wh pins s O H Q I h;refine isTrue_or (C0 (ha pins s O H _ I h) fun c s1 ⟨H1,I1,q1⟩=>?_)
 cases c with
 | true=>exact ⟨H1,I1,q1⟩
 | false=>exact hb wh pins s1 O H1 Q I1 q1
noncomputable def tAndV (ta tb:TE):TE:=fun O H Q=>ta O H fun x H1=>∃ c,x=.bl c/\if c=true then tb O H1 Q else Q (.bl false) H1
noncomputable def tOrV (ta tb:TE):TE:=fun O H Q=>ta O H fun x H1=>∃ c,x=.bl c/\if c=true then Q (.bl true) H1 else tb O H1 Q
noncomputable def tNotV (ta:TE):TE:=fun O H Q=>ta O H fun x H1=>∃ c,x=.bl c/\Q (.bl (!c)) H1
theorem alW{op}{t:TE}(h:PE X a t):PE X (.BoolOp op [a] pos) t:=fun pins s O H Q I hw=>BoolOp_one (h pins s O H Q I hw)
theorem alX(ha:PE X a ta)(hb:PE X (.BoolOp .And (b::rest) pos) tb):PE X (.BoolOp .And (a::b::rest) pos) (tAndV ta tb):=by
 intro pins s O H Q I h;refine BoolOp_and (C0 (ha pins s O H _ I h) fun v s1 ⟨x,H1,I1,r1,q1⟩=>?_);obtain ⟨c,rfl,q1⟩:=q1
 cases r1
 refine wpAny_truthy_bool ?_
 cases c with
 | true=>exact hb pins s1 O H1 Q I1 q1
 | false=>exact ⟨.bl false,H1,I1,rfl,q1⟩
noncomputable def mR (t:TT) (ta tb:TE):TE:=fun O H Q=>t O H fun c H1=>if c=true then ta O H1 Q else tb O H1 Q
theorem aic{c:Expr}(hc:PT X c tA)(ha:PE X a ta)(hb:PE X b tb):PE X (.IfExp c a b pos) (mR tA ta tb):=by
 intro pins s O H Q I h;refine wpAny_IfExp (C0 (hc pins s O H _ I h) fun d s1 ⟨H1,I1,q1⟩=>?_)
 cases d with
 | true=>exact ha pins s1 O H1 Q I1 q1
 | false=>exact hb pins s1 O H1 Q I1 q1
end
end L2
namespace L2
open PySem PySem.Spec PyProof.Rows
noncomputable def D5 (K:PySem.W.Frag) (H:Hp) (a:Addr) (xs:List V):Prop:=
 Rd H a (.lst xs)\/
  ∃ (o:Obj) (its:Array Value) (n:Nat),K.lookup a=some o/\o.cls=.type "list"/\o.dict=none/\o.data=.seq its n/\its.size<=sizeLine/\Vals xs its.toList
noncomputable def D0 (K:PySem.W.Frag) (H:Hp) (a:Addr) (xs:List V):Prop:=
 Rd H a (.tup xs)\/
  ∃ (o:Obj) (its:Array Value) (n:Nat),K.lookup a=some o/\o.cls=.type "tuple"/\o.data=.seq its n/\its.size<=sizeLine/\Vals xs its.toList
noncomputable def absV:Value->Option V
 | .none=>some .non
 | .bool b=>some (.bl b)
 | .int i _=>some (.int i)
 | .str x _=>some (.str x)
 | .bytes b _=>some (.byt b)
 | .float b _=>some (.flt b)
 | .ref a=>some (.ref a)
 | .type n=>some (.ty n)
 | _=>none
theorem RelV.abs{x:V}{u:Value}(r:RelV x u):absV u=some x:=by
 cases x with
 | non=>cases r;rfl
 | bl _=>cases r;rfl
 | int _=>obtain ⟨t,rfl⟩:=r;rfl
 | str _=>obtain ⟨t,rfl⟩:=r;rfl
 | byt _=>obtain ⟨t,rfl⟩:=r;rfl
 | flt _=>obtain ⟨t,rfl⟩:=r;rfl
 | ref _=>cases r;rfl
 | ty _=>cases r;rfl
theorem RelV.inj{x y:V}{u:Value}(r:RelV x u)(q:RelV y u):x=y:=Option.some.inj (r.abs.symm.trans q.abs)
theorem Vals.inj:∀ {xs ys:List V} {us:List Value},Vals xs us->Vals ys us->xs=ys
 | _,_,_,.nil,.nil=>rfl
 | _,_,_,.cons r t,.cons r' t'=>by rw [r.inj r',Vals.inj t t']
section
variable {X:Cx} {pins:List (Addr×Obj)} {O:St} {H:Hp} {s:Shared} {a:Addr} {xs ys:List V}
theorem D5.of{K:PySem.W.Frag}(h:H a=some (.lst xs)):D5 K H a xs:=.inl (.inl h)
theorem D0.of{K:PySem.W.Frag}(h:H a=some (.tup xs)):D0 K H a xs:=.inl (.inl h)
theorem Inv.list(I:Inv X pins O H s)(h:D5 X.K H a xs):∃ its:List Value,Vals xs its/\PlainL s.heap a its.toArray/\xs.length<=sizeLine:=by
 rcases h with h | ⟨o,its,n,hk,hc,hd,hs,hz,r⟩
 .obtain ⟨z,its,n,r,e⟩:=h.ok I.hok;exact ⟨its,r,⟨_,n,e,rfl,rfl,rfl⟩,z⟩
 .refine ⟨its.toList,r,⟨o,n,I.kIn a o hk,hc,hd,by simpa using hs⟩,?_⟩;have e:=r.length;simp only [aZ] at e;lia
theorem Inv.tuple(I:Inv X pins O H s)(h:D0 X.K H a xs):∃ its:List Value,Vals xs its/\IsTup s.heap a its.toArray/\xs.length<=sizeLine:=by
 rcases h with h | ⟨o,its,n,hk,hc,hs,hz,r⟩
 .obtain ⟨z,its,r,p⟩:=h.ok I.hok;exact ⟨its,r,p,z⟩
 .refine ⟨its.toList,r,⟨o,I.kIn a o hk,hc,n,by simpa using hs⟩,?_⟩;have e:=r.length;simp only [aZ] at e;lia
theorem Inv.list_inj(I:Inv X pins O H s)(h:D5 X.K H a xs)(h':D5 X.K H a ys):xs=ys:=by
 obtain ⟨its,r,⟨o,n,e,_,_,d⟩,_⟩:=I.list h;obtain ⟨its',r',⟨o',n',e',_,_,d'⟩,_⟩:=I.list h';rw [e] at e';cases e';rw [d] at d'
 injection d' with d1 _
 have:its=its':=by simpa using congrArg Array.toList d1
 subst this;exact r.inj r'
theorem Inv.tuple_inj(I:Inv X pins O H s)(h:D0 X.K H a xs)(h':D0 X.K H a ys):xs=ys:=by
 obtain ⟨its,r,⟨o,e,_,n,d⟩,_⟩:=I.tuple h;obtain ⟨its',r',⟨o',e',_,n',d'⟩,_⟩:=I.tuple h';rw [e] at e';cases e';rw [d] at d'
 injection d' with d1 _
 have:its=its':=by simpa using congrArg Array.toList d1
 subst this;exact r.inj r'
end
noncomputable abbrev Cx.wish (X:Cx) (E:Value->Shared->Prop):Cx:={ X with xe:=E }
noncomputable abbrev Cx.nox (X:Cx):Cx:=X.wish fun _ _=>False
theorem Cx.Ok.wish{X:Cx}(ok:X.Ok)(E:Value->Shared->Prop):(X.wish E).Ok:=
 ⟨ok.mod,ok.kind,ok.glob,ok.blt,ok.above,ok.inj,ok.has,ok.cab,ok.hd,ok.frames,ok.stk,ok.exf,ok.bs,ok.bsz,ok.noex,ok.exfs,ok.funs,ok.frf⟩
theorem Cx.Ok.unwish{X:Cx}{E:Value->Shared->Prop}(ok:(X.wish E).Ok):X.Ok:=
 ⟨ok.mod,ok.kind,ok.glob,ok.blt,ok.above,ok.inj,ok.has,ok.cab,ok.hd,ok.frames,ok.stk,ok.exf,ok.bs,ok.bsz,ok.noex,ok.exfs,ok.funs,ok.frf⟩
section
variable {X:Cx} {pins:List (Addr×Obj)} {O:St} {H:Hp} {s:Shared} {E:Value->Shared->Prop}
theorem Inv.wish(I:Inv X pins O H s)(E:Value->Shared->Prop):Inv (X.wish E) pins O H s:=⟨I.ok.wish E,I.os,I.bare,I.base,I.loc,I.cell,I.free,I.freeC,I.pin,I.hok,I.len⟩
theorem Inv.unwish(I:Inv (X.wish E) pins O H s):Inv X pins O H s:=⟨I.ok.unwish,I.os,I.bare,I.base,I.loc,I.cell,I.free,I.freeC,I.pin,I.hok,I.len⟩
theorem SP.unwish{D:Ends}{f:Flow}{s':Shared}(h:SP (X.wish E) pins D f s'):SP X pins D f s':=by
 cases f with
 | next=>obtain ⟨σ',H',I,q⟩:=h;exact ⟨σ',H',I.unwish,q⟩
 | brk=>obtain ⟨σ',H',I,q⟩:=h;exact ⟨σ',H',I.unwish,q⟩
 | cont=>obtain ⟨σ',H',I,q⟩:=h;exact ⟨σ',H',I.unwish,q⟩
 | ret u=>obtain ⟨v,σ',H',I,r,q⟩:=h;exact ⟨v,σ',H',I.unwish,r,q⟩
theorem P7.nox{st:List Stmt}{t:TS}(h:P7 X.nox st t):P7 X st t:=fun pins s O H D I hw=>
 wpAny_mono (h pins s O H D (I.wish _) hw) (fun _ _ q=>q.unwish) fun _ _ z=>False.elim z
end
section
variable {X:Cx} {st:Stmt} {rest:List Stmt} {t u:TS} {e:Expr} {te:TE} {pos:Pos}
noncomputable def tNext:TS:=fun D O H=>D.nx O H
noncomputable def tSeq (t u:TS):TS:=fun D O H=>t { D with nx:=u D } O H
theorem aj4:P7 X [] tNext:=fun _ _ O H _ I h=>wpAny_execs_nil ⟨O,H,I,h⟩
theorem aid(h1:PS X st t)(h2:P7 X rest u):P7 X (st::rest) (tSeq t u):=by
 intro pins s O H D I h;refine wpAny_execs_cons (C0 (h1 pins s O H { D with nx:=u D } I h) fun f s1 q=>?_)
 cases f with
 | next=>
  obtain ⟨σ',H',I',q⟩:=q;exact h2 pins s1 σ' H' D I' q
 | ret v=>exact q
 | brk=>exact q
 | cont=>exact q
theorem aj5(h1:PS X st t):P7 X [st] t:=by
 intro pins s O H D I h;refine wpAny_execs_cons (C0 (h1 pins s O H D I h) fun f s1 q=>?_)
 cases f with
 | next=>exact wpAny_execs_nil q
 | ret v=>exact q
 | brk=>exact q
 | cont=>exact q
noncomputable def alY:TS:=fun D O H=>D.bk O H
noncomputable def tCont:TS:=fun D O H=>D.ct O H
theorem Inv.quiet{pins:List (Addr×Obj)}{O:St}{H:Hp}{s:Shared}(I:Inv X pins O H s):interactive X.env=false:=by simp [interactive,I.ok.kind]
noncomputable def tDrop (te:TE):TS:=fun D O H=>te O H fun _ H1=>D.nx O H1
theorem aj6(he:PE X e te)(hs:swapsWith e none pos.line X.env=pure false:=by rfl):PS X (.Expr e pos) (tDrop te):=by
 intro pins s O H D I h;exact wpAny_Expr_any (C0 (he pins s O H _ I h) fun v s1 ⟨x,H1,I1,r1,q1⟩=>⟨O,H1,I1,q1⟩) I.quiet hs
noncomputable def tRet (te:TE):TS:=fun D O H=>te O H D.rt
theorem alZ(he:PE X e te):PS X (.Return (some e) pos) (tRet te):=by
 intro pins s O H D I h;exact wpAny_Return_some (C0 (he pins s O H _ I h) fun v s1 ⟨x,H1,I1,r1,q1⟩=>⟨x,O,H1,I1,r1,q1⟩)
noncomputable def tRetN:TS:=fun D _ H=>D.rt .non H
noncomputable def tIfS (c:TT) (t u:TS):TS:=fun D O H=>c O H fun b H1=>if b=true then t D O H1 else u D O H1
theorem ps_if{c:Expr}{a b:List Stmt}{tc:TT}(hc:PT X c tc)(ha:P7 X a t)(hb:P7 X b u):PS X (.If c a b pos) (tIfS tc t u):=by
 intro pins s O H D I h;refine wpAny_If (C0 (hc pins s O H _ I h) fun d s1 ⟨H1,I1,q1⟩=>?_)
 cases d with
 | true=>exact ha pins s1 O H1 D I1 q1
 | false=>exact hb pins s1 O H1 D I1 q1
noncomputable def mS:TS:=fun _ _ _=>False
theorem aie:PS X st mS:=fun _ _ _ _ _ _ h=>h.elim
end
noncomputable abbrev TG:=V->St->Hp->(St->Hp->Prop)->Prop
noncomputable abbrev Y0:=List V->St->Hp->(St->Hp->Prop)->Prop
noncomputable def PG (X:Cx) (target:Expr) (t:TG):Prop:=
 ∀ (pins:List (Addr×Obj)) (s:Shared) (O:St) (H:Hp) (v:V) (u:Value) (Q:St->Hp->Prop),Inv X pins O H s->RelV v u->t v O H Q->
  wpAny (model X.prog X.w) X.A (assign target X.env u) (fun _ s'=>∃ σ' H',Inv X pins σ' H' s'/\Q σ' H') X.xe s
noncomputable def gG (X:Cx) (ts:List Expr) (t:Y0):Prop:=
 ∀ (pins:List (Addr×Obj)) (s:Shared) (O:St) (H:Hp) (vs:List V) (us:List Value) (Q:St->Hp->Prop),Inv X pins O H s->Vals vs us->t vs O H Q->
  wpAny (model X.prog X.w) X.A (assignInOrder ((assignEach ts X.env).map (·.2)) us) (fun _ s'=>∃ σ' H',Inv X pins σ' H' s'/\Q σ' H') X.xe s
noncomputable abbrev TSet:=V->V->V->Hp->(Hp->Prop)->Prop
noncomputable abbrev mT:=V->V->Hp->VK->Prop
section
variable {X:Cx} {pos:Pos}
noncomputable def gName (i:Nat):TG:=fun v O H Q=>Q (O.set i (some v)) H
theorem aj7{i:Nat}{x:Str}(hN:X.N.Nodup)(hi:X.N[i]?=some x)(hx:i8 X.env.scope x)(hf:X.fn x=true\/X.env.scope.names.lookup x=some .local:=by first | exact .inl rfl | exact .inr rfl | assumption):PG X (.Name x pos) (gName i):=by
 intro pins s O H v u Q I r h;exact wpAny_assign_Name (gF I hN hi hx r (fun s' I'=>⟨_,H,I',h⟩) hf)
noncomputable def gNil:Y0:=fun vs O H Q=>vs=[]/\Q O H
noncomputable def gCons (t:TG) (u:Y0):Y0:=fun vs O H Q=>∃ v r,vs=v::r/\t v O H fun σ' H'=>u r σ' H' Q
theorem aj8:gG X [] gNil:=by
 intro pins s O H vs us Q I r h;obtain ⟨e,h⟩:=h;subst e
 cases r
 exact assignInOrder_nil ⟨O,H,I,h⟩
theorem aif{e:Expr}{es:List Expr}{t:TG}{u:Y0}(h1:PG X e t)(h2:gG X es u)(hs:(assignEach (e::es) X.env).map (·.2)=assign e X.env::(assignEach es X.env).map (·.2):=by rfl):gG X (e::es) (gCons t u):=by
 intro pins s O H vs us Q I r h;obtain ⟨v,vr,e1,h⟩:=h;subst e1
 cases r with
 | cons r rr=>
  rw [hs];refine assignInOrder_cons (C0 (h1 pins s O H _ _ _ I r h) fun _ s1 ⟨σ1,H1,I1,q1⟩=>?_);exact h2 pins s1 σ1 H1 _ _ Q I1 rr q1
noncomputable def gTup (K:PySem.W.Frag) (n:Nat) (t:Y0):TG:=fun v O H Q=>∃ a xs,v=.ref a/\D0 K H a xs/\xs.length=n/\t xs O H Q
theorem al0{es:List Expr}{k:Nat}{t:Y0}{n:Nat}(hc:X.calm=true)(h:gG X es t)(hn:(assignEach es X.env).length=n:=by rfl)(U6:(assignEach es X.env).findIdx? (·.1)=none:=by rfl):PG X (.Tuple es k pos) (gTup X.K n t):=by
 intro pins s O H v u Q I r hw;obtain ⟨a,xs,e1,hq,hl,hw⟩:=hw;subst e1
 cases r
 obtain ⟨its,rv,ht,hz⟩:=I.tuple hq;refine assign_Tuple_tuple (I.ok.hd hc) ht (by simp [hn,<- hl,rv.length]) U6 fun h' hx=>?_
 have I1:Inv X pins O H { s with heap:=h' }:=I.kept (t':=s.toks) fun b o e=>hx b o (G6 (Heap.lt_size e)) e
 exact h pins _ O H xs _ Q I1 (by simpa using rv) hw
noncomputable def gSub (to ti:TE) (t:TSet):TG:=fun v O H Q=>to O H fun o H1=>ti O H1 fun i H2=>t o i v H2 fun H3=>Q O H3
noncomputable def tAsg (te:TE) (g:TG):TS:=fun D O H=>te O H fun x H1=>g x O H1 D.nx
theorem al1{tg e:Expr}{te:TE}{g:TG}(he:PE X e te)(hg:PG X tg g)(hs:swapsWithSole [tg] e pos.line X.env=pure false:=by rfl)(hw:swappedStores [tg] e X.env=pure none:=by rfl)(h1:(assignEach [tg] X.env).map (·.2)=[assign tg X.env]:=by rfl):PS X (.Assign [tg] e pos) (tAsg te g):=by
 intro pins s O H D I h;refine wpAny_Assign_stores (C0 (he pins s O H _ I h) fun v s1 ⟨x,H1,I1,r1,q1⟩=>?_) hs hw;rw [h1];exact C0 (hg pins s1 O H1 x v _ I1 r1 q1) fun _ s2 q=>q
theorem al2{i:Nat}{x:Str}{e:Expr}{te:TE}{pos':Pos}(hN:X.N.Nodup)(hi:X.N[i]?=some x)(hx:i8 X.env.scope x)(he:PE X e te)(hs:swapsWith e (some (.Name x pos')) pos.line X.env=pure false:=by rfl)(hf:X.fn x=true\/X.env.scope.names.lookup x=some .local:=by first | exact .inl rfl | exact .inr rfl | assumption) :
  PS X (.Assign [.Name x pos'] e pos) (tAsg te (gName i)):=by
 intro pins s O H D I h;refine wpAny_Assign_Name (C0 (he pins s O H _ I h) fun v s1 ⟨y,H1,I1,r1,q1⟩=>?_) hs;exact gF I1 hN hi hx r1 (fun s2 I2=>⟨_,H1,I2,q1⟩) hf
noncomputable def tAug (i:Nat) (te:TE) (ti:mT):TS:=fun D O H=>∃ x,O[i]?=some (some x)/\te O H fun y H1=>ti x y H1 fun z H2=>D.nx (O.set i (some z)) H2
noncomputable def ipI (f:Int->Int->Int):mT:=fun x y H Q=>∃ i j,x=.int i/\y=.int j/\Q (.int (f i j)) H
end
section
variable {X:Cx} {pos:Pos}
noncomputable def jW (c:TT) (tb:TS):TS:=fun D O H=>∃ W:Nat->St->Hp->Prop,(∃ m,W m O H)/\∀ m O H,W m O H->
 c O H fun b H1=>if b=true then ∃ N:St->Hp->Prop,(∀ σ' H',N σ' H'->∃ m',m'<m/\W m' σ' H')/\tb { D with nx:=N,ct:=N,bk:=D.nx } O H1 else D.nx O H1
theorem aig{c:Expr}{body:List Stmt}{tc:TT}{tb:TS}(hp:PassesOwn (model X.prog X.w) X.A X.env X.xe)(hc:PT X c tc)(hb:P7 X body tb):PS X (.While c body [] pos) (jW tc tb):=by
 intro pins s O H D I h;obtain ⟨W,⟨m0,w0⟩,turn⟩:=h;refine wpAny_While (codeAny_whileLoop (fun n s'=>∃ σ' H',Inv X pins σ' H' s'/\W n σ' H') ?_ m0 ⟨O,H,I,w0⟩);rintro n s1 ⟨σ1,H1,I1,w1⟩;refine wpAny_passesOwn hp (C0 (hc pins s1 σ1 H1 _ I1 (turn n σ1 H1 w1)) fun b s2 ⟨H2,I2,q2⟩=>?_)
 cases b with
 | true=>
  obtain ⟨N,hN,q2⟩:=q2;rw [if_pos rfl];refine wpAny_passesOwn hp (C0 (hb pins s2 σ1 H2 _ I2 q2) fun f s3 q3=>?_)
  cases f with
  | next=>
   obtain ⟨σ3,H3,I3,n3⟩:=q3;obtain ⟨m',hm,w3⟩:=hN σ3 H3 n3;exact ⟨m',hm,σ3,H3,I3,w3⟩
  | cont=>
   obtain ⟨σ3,H3,I3,n3⟩:=q3;obtain ⟨m',hm,w3⟩:=hN σ3 H3 n3;exact ⟨m',hm,σ3,H3,I3,w3⟩
  | brk=>exact q3
  | ret v=>exact q3
 | false=>
  rw [if_neg K7];exact wpAny_execs_nil ⟨σ1,H2,I2,q2⟩
end
structure It where
 go:Nat->Hp->Prop
 yld:Nat->Hp->V->Hp->Prop
 stop:Nat->Hp->Prop
noncomputable def FpOk (X:Cx) (pins:List (Addr×Obj)) (H:Hp) (b:Addr):Prop:=
 H b=none/\b≠X.env.locals/\b∉X.fs/\(b∈X.ex\/X.s₀.heap.objs.size<=b)/\(∀ x c,X.env.cells.lookup x=some c->c≠b)/\∀ p∈X.pn++pins,p.1≠b
theorem Inv.fpOk{X:Cx}{pins:List (Addr×Obj)}{O:St}{H H':Hp}{s:Shared}{b:Addr}(I:Inv X pins O H s)(hb:s.heap.objs.size<=b)(hn:H' b=none):FpOk X pins H' b:=by
 refine ⟨hn,i7 (O9 I.lt hb),I.nofs hb,.inr (F6 I.sz hb),fun x c e z=>?_,fun p hp z=>?_⟩
 .obtain ⟨v,q⟩:=I.cell x c e;exact absurd (O9 q.lt (by rw [z];exact hb)) (X5 _)
 .exact absurd (O9 (Heap.lt_size (I.pin p hp).1) (by rw [z];exact hb)) (X5 _)
structure Turn(P:Program)(w:World)(K:PySem.W.Frag)(tg:Expr)(J:It)(fp:List Addr)(it:Addr)(tn:Nat->Heap->Prop):Prop where
 mem:it∈fp
 obj:∀ i h,tn i h->∀ b∈fp,∃ o,h.get? b=some o/\∀ v,o.data≠.cell v
 keep:∀ i h h',tn i h->(∀ b∈fp,∀ o,h.get? b=some o->h'.get? b=some o)->tn i h'
 item:∀ (X:Cx),X.prog=P->X.w=w->X.K=K->X.calm=true->∀ (i:Nat) (pins:List (Addr×Obj)) (s:Shared) (O:St) (H:Hp) (E:Value->Shared->Prop),Inv X pins O H s->(∀ b∈fp,FpOk X pins H b)->tn i s.heap->J.go i H->
  wpAny (model P w) X.A (pyNext (.ref it)) (fun r s1=>∃ u,r=some u/\
   wpAny (model P w) X.A (letOwnedTupleGo tg (.ref it) u) (fun _ s2=>∃ x H',Inv X pins O H' s2/\RelV x u/\J.yld i H x H'/\tn (i+1) s2.heap/\∀ b∈fp,H' b=none) E s1) E s
 done:∀ (X:Cx),X.prog=P->X.w=w->X.K=K->X.calm=true->∀ (i:Nat) (pins:List (Addr×Obj)) (s:Shared) (O:St) (H:Hp) (E:Value->Shared->Prop),Inv X pins O H s->(∀ b∈fp,FpOk X pins H b)->tn i s.heap->J.stop i H->
  wpAny (model P w) X.A (pyNext (.ref it)) (fun r s1=>r=none/\Inv X pins O H s1) E s
 self:∀ (A:Around) (i:Nat) (s:Shared) (Q:Value->Shared->Prop) (E:Value->Shared->Prop),tn i s.heap->Q (.ref it) s->wpAny (model P w) A (pyIter (.ref it)) Q E s
noncomputable abbrev TI:=St->Hp->(It->Hp->Prop)->Prop
noncomputable def mU (X:Cx) (pins:List (Addr×Obj)) (O:St) (tg:Expr) (R:It->Hp->Prop) (itv:Value) (s2:Shared):Prop:=
 ∃ (it:Addr) (fp:List Addr) (tn:Nat->Heap->Prop) (J:It) (H':Hp),itv=.ref it/\Inv X pins O H' s2/\Turn X.prog X.w X.K tg J fp it tn/\tn 0 s2.heap/\(∀ b∈fp,FpOk X pins H' b)/\R J H'
noncomputable def PI (X:Cx) (tg iter:Expr) (wi:TI):Prop:=
 ∀ (pins:List (Addr×Obj)) (s:Shared) (O:St) (H:Hp) (R:It->Hp->Prop),Inv X pins O H s->wi O H R->
  wpAny (model X.prog X.w) X.A (eval iter X.env) (fun v s1=>wpAny (model X.prog X.w) X.A (pyIter v) (mU X pins O tg R) X.xe s1) X.xe s
theorem go_of{M : Model}{A : Around}{E : Value -> Shared -> Prop}{s : Shared}{tg : Expr}{it : Addr}{u : Value}{o : Obj}{n : String}{vs : Array Value}{Q : Unit -> Shared -> Prop}(ho : s.heap.get? it = some o)(hc : o.cls = .type n)(hd : o.data = .fields vs)(hn : ["enumerate", "zip", "dict_itemiterator", "dict_reverseitemiterator", "odict_iterator", "itertools.zip_longest", "itertools.pairwise"].contains n = false)(hQ : Q () s) : wpAny M A (letOwnedTupleGo tg (.ref it) u) Q E s := by
  unfold letOwnedTupleGo
  cases tg <;> first
    | exact wpAny_pure hQ
    | (cases u <;> first
        | exact wpAny_pure hQ
        | (refine wpAny_bind (wpAny_load ho ?_)
           rw [hc, hd];show wpAny M A (if (["enumerate", "zip", "dict_itemiterator", "dict_reverseitemiterator", "odict_iterator", "itertools.zip_longest", "itertools.pairwise"].contains n&&vs[0]? == some (rawInt _)) = true then _ else _) Q E s;rw [if_neg (by intro h; rw [hn, Bool.false_and] at h; cases h)];exact wpAny_pure hQ))
noncomputable def o3 (K:PySem.W.Frag) (a:Addr):It:=
 ⟨fun i H=>∃ xs x,D5 K H a xs/\xs[i]?=some x,fun i H x H'=>H'=H/\∀ xs,D5 K H a xs->xs[i]?=some x,fun i H=>∃ xs,D5 K H a xs/\xs.length<=i⟩
noncomputable def w5 (K:PySem.W.Frag) (a:Addr):It:=
 ⟨fun i H=>∃ xs x,D0 K H a xs/\xs[i]?=some x,fun i H x H'=>H'=H/\∀ xs,D0 K H a xs->xs[i]?=some x,fun i H=>∃ xs,D0 K H a xs/\xs.length<=i⟩
noncomputable def Y1 (lo:Int) (n:Nat):It:=⟨fun i _=>i<n,fun i H x H'=>H'=H/\x=.int (lo+i),fun i _=>n<=i⟩
theorem agG{P:Program}{w:World}{K:PySem.W.Frag}{tg:Expr}(a it:Addr):Turn P w K tg (o3 K a) [it] it (fun i h=>h.IsListIter it a i) where
 mem:=by simp
 obj:=fun i h st b hb=>by
  have e:b=it:=by simpa using hb
  subst e;obtain ⟨o,e,c,d⟩:=st;exact ⟨o,e,fun v z=>by rw [d] at z;cases z⟩
 keep:=fun i h h' st k=>st.at fun o e=>k it (by simp) o e
 item:=by
  intro X hP hw hK hc i pins s O H E I hf st hg;subst hP hw hK;obtain ⟨xs,x,hq,hx⟩:=hg;obtain ⟨its,rv,p,hz⟩:=I.list hq;obtain ⟨u,hu,ru⟩:=rv.get hx;obtain ⟨f0,f1,f2,f3,f4,f5⟩:=hf it (by simp);refine wpAny_pyNext_list_item st p.isList (x:=u) (by simpa using hu) fun h' st' sb=>?_
  have I1:Inv X pins O H { s with heap:=h' }:=I.turned (t':=s.toks) (fun b o hb e=>(sb.2 b hb).trans e) f0 f1 f3 f4 f5;obtain ⟨o,e,c,d⟩:=id st';exact ⟨u,rfl,go_of (s:={ s with heap:=h' }) e c d (by decide) ⟨x,H,I1,ru,⟨rfl,fun ys hy=>by rw [I.list_inj hy hq];exact hx⟩,st',fun b hb=>(hf b hb).1⟩⟩
 done:=by
  intro X hP hw hK hc i pins s O H E I hf st hg;subst hP hw hK;obtain ⟨xs,hq,hx⟩:=hg;obtain ⟨its,rv,p,hz⟩:=I.list hq;obtain ⟨f0,f1,f2,f3,f4,f5⟩:=hf it (by simp);have hl:=rv.length;exact wpAny_pyNext_list_end (I.ok.hd hc) st p.isList (by simp;lia) fun h' eb=>⟨rfl,I.turned (t':=s.toks) (fun b o hb e=>eb b o hb e) f0 f1 f3 f4 f5⟩
 self:=fun _ _ _ _ _ st h=>wpAny_pyIter_listiter st h
theorem af0{P:Program}{w:World}{K:PySem.W.Frag}{tg:Expr}(a it:Addr):Turn P w K tg (w5 K a) [it] it (fun i h=>h.IsTupleIter it a i) where
 mem:=by simp
 obj:=fun i h st b hb=>by
  have e:b=it:=by simpa using hb
  subst e;obtain ⟨o,e,c,d⟩:=st;exact ⟨o,e,fun v z=>by rw [d] at z;cases z⟩
 keep:=fun i h h' st k=>st.at fun o e=>k it (by simp) o e
 item:=by
  intro X hP hw hK hc i pins s O H E I hf st hg;subst hP hw hK;obtain ⟨xs,x,hq,hx⟩:=hg;obtain ⟨its,rv,p,hz⟩:=I.tuple hq;obtain ⟨u,hu,ru⟩:=rv.get hx;obtain ⟨f0,f1,f2,f3,f4,f5⟩:=hf it (by simp);refine wpAny_pyNext_tuple_item st (show s.heap.IsTuple a its.toArray from p) (x:=u) (by simpa using hu) fun h' st' sb=>?_
  have I1:Inv X pins O H { s with heap:=h' }:=I.turned (t':=s.toks) (fun b o hb e=>(sb.2 b hb).trans e) f0 f1 f3 f4 f5;obtain ⟨o,e,c,d⟩:=id st';exact ⟨u,rfl,go_of (s:={ s with heap:=h' }) e c d (by decide) ⟨x,H,I1,ru,⟨rfl,fun ys hy=>by rw [I.tuple_inj hy hq];exact hx⟩,st',fun b hb=>(hf b hb).1⟩⟩
 done:=by
  intro X hP hw hK hc i pins s O H E I hf st hg;subst hP hw hK;obtain ⟨xs,hq,hx⟩:=hg;obtain ⟨its,rv,p,hz⟩:=I.tuple hq;obtain ⟨f0,f1,f2,f3,f4,f5⟩:=hf it (by simp);have hl:=rv.length;exact wpAny_pyNext_tuple_end (I.ok.hd hc) st (show s.heap.IsTuple a its.toArray from p) (by simp;lia) fun h' eb=>⟨rfl,I.turned (t':=s.toks) (fun b o hb e=>eb b o hb e) f0 f1 f3 f4 f5⟩
 self:=fun _ _ _ _ _ st h=>wpAny_pyIter_tupleiter st h
theorem af1{P:Program}{w:World}{K:PySem.W.Frag}{tg:Expr}(it:Addr)(lo:Int)(n:Nat):Turn P w K tg (Y1 lo n) [it] it (fun i h=>IsRangeIter h it (lo+(i:Nat)*1) ((n:Int)-(i:Nat)) 1) where
 mem:=by simp
 obj:=fun i h st b hb=>by
  have e:b=it:=by simpa using hb
  subst e;exact ⟨_,st,fun v z=>by
   have z':Data.fields _=Data.cell v:=z
   cases z'⟩
 keep:=fun i h h' st k=>k it (by simp) _ st
 item:=by
  intro X hP hw hK hc i pins s O H E I hf st hg;subst hP hw hK;obtain ⟨f0,f1,f2,f3,f4,f5⟩:=hf it (by simp);have W:=Walks.range (prog:=X.prog) (w:=X.w) (I.ok.hd hc) it lo 1 n;refine W.item i s _ _ hg st fun v h' tk hv st' kk=>?_
  obtain ⟨t,rfl⟩:=hv;have I1:Inv X pins O H { s with heap:=h',toks:=tk }:=I.turned (fun b o hb e=>kk b o (by simpa using hb) e) f0 f1 f3 f4 f5;refine ⟨_,rfl,go_of (s:={ s with heap:=h',toks:=tk }) (n:="range_iterator") st' rfl rfl (by decide) ⟨.int (lo+i),H,I1,⟨t,?_⟩,⟨rfl,rfl⟩,st',fun b hb=>(hf b hb).1⟩⟩;rw [Int.mul_one]
 done:=by
  intro X hP hw hK hc i pins s O H E I hf st hg;subst hP hw hK;obtain ⟨f0,f1,f2,f3,f4,f5⟩:=hf it (by simp);exact wpAny_pyNext_range_end (I.ok.hd hc) st (by have:n<=i:=hg;lia) fun h' eb=>⟨rfl,I.turned (t':=s.toks) (fun b o hb e=>eb b o hb e) f0 f1 f3 f4 f5⟩
 self:=fun _ _ _ _ _ st h=>wpAny_pyIter_rangeiter st h
end L2
namespace L2
open PySem PySem.Spec PyProof.Rows
section
variable {X:Cx} {tg:Expr}
noncomputable def iList (K:PySem.W.Frag) (tl:TE):TI:=fun O H R=>tl O H fun x H1=>∃ a,x=.ref a/\(∃ xs,D5 K H1 a xs)/\R (o3 K a) H1
noncomputable def iTup (K:PySem.W.Frag) (tl:TE):TI:=fun O H R=>tl O H fun x H1=>∃ a,x=.ref a/\(∃ xs,D0 K H1 a xs)/\R (w5 K a) H1
theorem aj9{l:Expr}{tl:TE}(hl:PE X l tl):PI X tg l (iList X.K tl):=by
 intro pins s O H R I h;refine C0 (hl pins s O H _ I h) fun v s1 ⟨x,H1,I1,r1,q1⟩=>?_
 obtain ⟨a,e,⟨xs,hq⟩,q⟩:=q1;subst e
 cases r1
 obtain ⟨its,rv,p,hz⟩:=I1.list hq;refine wpAny_pyIter_list p.isList ?_;refine ⟨s1.heap.objs.size,[s1.heap.objs.size],_,_,H1,rfl,I1.kept (t':=s1.toks) fun b o e=>Heap.get?_push_of_some _ e,agG a _,⟨_,Heap.get?_push_size _ rfl,rfl,rfl⟩,fun b hb=>?_,q⟩;have e:b=s1.heap.objs.size:=by simpa using hb
 subst e;exact I1.fpOk (C6 _) (I1.hok.fresh (C6 _))
theorem al3{l:Expr}{tl:TE}(hl:PE X l tl):PI X tg l (iTup X.K tl):=by
 intro pins s O H R I h;refine C0 (hl pins s O H _ I h) fun v s1 ⟨x,H1,I1,r1,q1⟩=>?_
 obtain ⟨a,e,⟨xs,hq⟩,q⟩:=q1;subst e
 cases r1
 obtain ⟨its,rv,p,hz⟩:=I1.tuple hq;refine wpAny_pyIter_tuple (show s1.heap.IsTuple a its.toArray from p) ?_;refine ⟨s1.heap.objs.size,[s1.heap.objs.size],_,_,H1,rfl,I1.kept (t':=s1.toks) fun b o e=>Heap.get?_push_of_some _ e,af0 a _,⟨_,Heap.get?_push_size _ rfl,rfl,rfl⟩,fun b hb=>?_,q⟩;have e:b=s1.heap.objs.size:=by simpa using hb
 subst e;exact I1.fpOk (C6 _) (I1.hok.fresh (C6 _))
theorem aih{pins:List (Addr×Obj)}{O:St}{H:Hp}{s:Shared}{R:It->Hp->Prop}{E:Value->Shared->Prop}{lo hi:Int}{t u v:Tok}{tk:Nat}(I:Inv X pins O H s)(h1:-(2 ^ 62)<=lo)(h2:lo<2 ^ 62)(h3:-(2 ^ 62)<=hi)(h4:hi<2 ^ 62)(q:R (Y1 lo (hi-lo).toNat) H):wpAny (model X.prog X.w) X.A (pyIter (.ref s.heap.objs.size)) (mU X pins O tg R) E { s with heap:=s.heap.push { cls:=.type "range",data:=.fields #[.int lo t,.int hi u,.int 1 v] },toks:=tk }:=by
 refine wpAny_pyIter_range (IsRange.new ..) (small_one h1 h2 h3 h4) ?_;have I1:Inv X pins O H { s with heap:=s.heap.push { cls:=.type "range",data:=.fields #[.int lo t,.int hi u,.int 1 v] },toks:=tk }:=I.kept fun b o e=>Heap.get?_push_of_some _ e
 refine ⟨(s.heap.push { cls:=.type "range",data:=.fields #[.int lo t,.int hi u,.int 1 v] }).objs.size,[(s.heap.push { cls:=.type "range",data:=.fields #[.int lo t,.int hi u,.int 1 v] }).objs.size],_,_,H,rfl,
  I1.kept (t':=tk) fun b o e=>Heap.get?_push_of_some _ e,af1 _ lo (hi-lo).toNat,?_,fun b hb=>?_,q⟩
 .have e1:lo+((0:Nat):Int)*1=lo:=by simp
  have e2:(((hi-lo).toNat:Nat):Int)-((0:Nat):Int)=Builtin.Range.rangeSize lo hi 1:=by rw [rangeSize_one];split <;> lia
  show IsRangeIter _ _ (lo+((0:Nat):Int)*1) ((((hi-lo).toNat:Nat):Int)-((0:Nat):Int)) 1;rw [e1,e2];exact Heap.get?_push_size _ rfl
 .have e:b=(s.heap.push { cls:=.type "range",data:=.fields #[.int lo t,.int hi u,.int 1 v] }).objs.size:=by simpa using hb
  subst e;exact I1.fpOk (C6 _) (I1.hok.fresh (C6 _))
noncomputable def iRng1 (ta:TA):TI:=fun O H R=>ta O H fun vs H1=>∃ j:Int,vs=[.int j]/\-(2 ^ 62)<=j/\j<2 ^ 62/\R (Y1 0 j.toNat) H1
noncomputable def iRng2 (ta:TA):TI:=fun O H R=>ta O H fun vs H1=>∃ i j:Int,vs=[.int i,.int j]/\(-(2 ^ 62)<=i/\i<2 ^ 62/\-(2 ^ 62)<=j/\j<2 ^ 62)/\R (Y1 i (j-i).toNat) H1
theorem agH{a:Expr}{ta:TA}{p pos:Pos}(hg:Gl X "range")(hm:X.mg "range"=none)(ha:PA X [a] ta)(hs:starEach [a] X.env=[(false,eval a X.env)]:=by rfl):PI X tg (.Call (.Name "range" p) [a] [] pos) (iRng1 ta):=by
 intro pins s O H R I h;refine Call_ (v9 I hg hm boot_range (PyProof.Rows.callWith_type1 (C0 (ha pos pins s O H _ I h) fun us s1 ⟨vs,H1,I1,r1,q1⟩=>?_) hs rfl));obtain ⟨j,e,q1,q2,q⟩:=q1;subst e
 cases r1 with
 | cons r rr=>
  cases rr
  obtain ⟨t,rfl⟩:=r;exact call_range_1 (aih I1 (by lia) (by lia) q1 q2 (by simpa using q))
noncomputable def tFor (wi:TI) (g:TG) (tb:TS):TS:=fun D O H=>wi O H fun J H1=>∃ W:Nat->Nat->St->Hp->Prop,(∃ m,W 0 m O H1)/\∀ i m O H,W i m O H->
 (J.stop i H/\D.nx O H)\/(J.go i H/\∃ N:St->Hp->Prop,(∀ σ' H',N σ' H'->∃ m',m'<m/\W (i+1) m' σ' H')/\∀ x H',J.yld i H x H'->g x O H' fun σ2 H2=>tb { D with nx:=N,ct:=N,bk:=D.nx } σ2 H2)
noncomputable def dG (fp:List Addr) (h:Heap):List (Addr×Obj):=fp.filterMap fun b=>(h.get? b).map fun o=>(b,o)
theorem dH{fp:List Addr}{h:Heap}{b:Addr}{o:Obj}(hb:b∈fp)(e:h.get? b=some o):(b,o)∈dG fp h:=List.mem_filterMap.mpr ⟨b,hb,by rw [e];rfl⟩
theorem agI{fp:List Addr}{h:Heap}{p:Addr×Obj}(hp:p∈dG fp h):p.1∈fp/\h.get? p.1=some p.2:=by
 obtain ⟨b,hb,e⟩:=List.mem_filterMap.mp hp
 cases q:h.get? b with
 | none=>rw [q] at e;cases e
 | some o=>
  rw [q] at e;have e':(b,o)=p:=Option.some.inj e;subst e';exact ⟨hb,q⟩
theorem Inv.pinned{pins:List (Addr×Obj)}{O:St}{H:Hp}{s:Shared}{fp:List Addr}(I:Inv X pins O H s)(hf:∀ b∈fp,FpOk X pins H b)(ho:∀ b∈fp,∃ o,s.heap.get? b=some o/\∀ v,o.data≠.cell v):Inv X (pins++dG fp s.heap) O H s:=
 I.pins_of fun p hp=>(J3.mp hp).elim (fun z=>I.pin p (O3 _ z)) fun z=>by
  obtain ⟨hb,e⟩:=agI z;obtain ⟨f0,f1,f2,_⟩:=hf p.1 hb;obtain ⟨o,e',d⟩:=ho p.1 hb;rw [e] at e';cases e';exact ⟨e,f0,f1,f2,d⟩
theorem Inv.unpinned{pins pl:List (Addr×Obj)}{O:St}{H:Hp}{s:Shared}(I:Inv X (pins++pl) O H s):Inv X pins O H s:=I.pins_of fun p hp=>I.pin p (O3 _ (R1 _ hp))
theorem al4{iter:Expr}{body:List Stmt}{wi:TI}{g:TG}{tb:TS}{pos:Pos}(hp:PassesOwn (model X.prog X.w) X.A X.env X.xe)(hc:X.calm=true)(hi:PI X tg iter wi)(hg:PG X tg g)(hb:P7 X body tb)(hs:∀ x,foldedSetIterable iter X.env x=pure x:=by intro _;rfl):PS X (.For tg iter body [] pos) (tFor wi g tb):=by
 intro pins s O H D I h;refine wpAny_For (C0 (hi pins s O H _ I h) fun v s1 h1=>C0 h1 fun itv s2 h2=>?_) hs;obtain ⟨it,fp,tn,J,H2,e,I2,T,iG,f2,W,⟨m0,w0⟩,turn⟩:=h2;subst e;have stat:∀ {H':Hp},(∀ b∈fp,H' b=none)->∀ b∈fp,FpOk X pins H' b:=fun hn b hb=>⟨hn b hb,(f2 b hb).2⟩
 refine codeAny_forLoop_any (fun n s'=>∃ i σ' H',Inv X pins σ' H' s'/\tn i s'.heap/\(∀ b∈fp,H' b=none)/\W i n σ' H') ?_ m0 ⟨0,O,H2,I2,iG,fun b hb=>(f2 b hb).1,w0⟩;rintro n s3 ⟨i,σ3,H3,I3,aB,iH,w3⟩
 rcases turn i n σ3 H3 w3 with ⟨stop,qn⟩ | ⟨go,N,hN,step⟩
 .refine wpAny_passesOwn hp (C0 (T.done X rfl rfl rfl hc i pins s3 σ3 H3 X.xe I3 (stat iH) aB stop) fun r s4 ⟨hr,I4⟩=>?_);subst hr;exact wpAny_execs_nil ⟨σ3,H3,I4,qn⟩
 .refine wpAny_passesOwn hp (C0 (T.item X rfl rfl rfl hc i pins s3 σ3 H3 X.xe I3 (stat iH) aB go) fun r s4 ⟨u,hr,h4⟩=>?_);subst hr;refine wpAny_passesOwn hp (C0 h4 fun _ s5 ⟨x,H5,I5,r5,y5,bV,qG⟩=>?_);have I5':=I5.pinned (stat qG) (T.obj _ _ bV);refine wpAny_passesOwn hp (C0 (hg _ s5 σ3 H5 x u _ I5' r5 (step x H5 y5)) fun _ s6 ⟨σ6,H6,I6,q6⟩=>?_);refine wpAny_passesOwn hp (C0 (hb _ s6 σ6 H6 _ I6 q6) fun f s7 q7=>?_);have again:∀ {σ7:St} {H7:Hp},Inv X (pins++dG fp s5.heap) σ7 H7 s7->N σ7 H7->∃ m,m<n/\∃ i σ' H',Inv X pins σ' H' s7/\tn i s7.heap/\(∀ b∈fp,H' b=none)/\W i m σ' H':=fun {σ7 H7} I7 n7=>by
   obtain ⟨m',hm,w7⟩:=hN σ7 H7 n7;refine ⟨m',hm,i+1,σ7,H7,I7.unpinned,T.keep _ _ _ bV fun b hb o e=>(I7.pin (b,o) (O3 _ (O3 _ (dH hb e)))).1,fun b hb=>?_,w7⟩;obtain ⟨o,e,d⟩:=T.obj _ _ bV b hb;exact (I7.pin (b,o) (O3 _ (O3 _ (dH hb e)))).2.1
  cases f with
  | next=>obtain ⟨σ7,H7,I7,n7⟩:=q7;exact again I7 n7
  | cont=>obtain ⟨σ7,H7,I7,n7⟩:=q7;exact again I7 n7
  | brk=>obtain ⟨σ7,H7,I7,q7⟩:=q7;exact ⟨σ7,H7,I7.unpinned,q7⟩
  | ret v=>obtain ⟨x7,σ7,H7,I7,r7,q7⟩:=q7;exact ⟨x7,σ7,H7,I7.unpinned,r7,q7⟩
end
theorem aii{K:PySem.W.Frag}{a:Addr}{xs:List V}{g:TG}{tb:TS}{D:Ends}{O:St}{H:Hp}(Pv:Nat->St->Hp->Prop)(h0:Pv 0 O H)(hl:∀ i O H,i<=xs.length->Pv i O H->D5 K H a xs)(hs:∀ i x O H,xs[i]?=some x->Pv i O H->g x O H fun σ2 H2=>tb { D with nx:=Pv (i+1),ct:=Pv (i+1),bk:=D.nx } σ2 H2)(hd:∀ O H,Pv xs.length O H->D.nx O H) :
  ∃ W:Nat->Nat->St->Hp->Prop,(∃ m,W 0 m O H)/\∀ i m O H,W i m O H->
   ((o3 K a).stop i H/\D.nx O H)\/((o3 K a).go i H/\∃ N:St->Hp->Prop,(∀ σ' H',N σ' H'->∃ m',m'<m/\W (i+1) m' σ' H')/\∀ x H',(o3 K a).yld i H x H'->g x O H' fun σ2 H2=>tb { D with nx:=N,ct:=N,bk:=D.nx } σ2 H2):=by
 refine ⟨fun i m O H=>m=xs.length-i/\i<=xs.length/\Pv i O H,⟨xs.length,by simp,J4 _,h0⟩,?_⟩;rintro i m O H ⟨rfl,hi,p⟩;have q:=hl i O H hi p
 by_cases D1:i<xs.length
 .refine .inr ⟨⟨xs,xs[i],q,by simp [D1]⟩,Pv (i+1),fun σ' H' p'=>⟨xs.length-(i+1),by lia,rfl,D1,p'⟩,fun x H' y=>?_⟩;obtain ⟨e,y⟩:=y;subst e;exact hs i x O _ (y xs q) p
 .have e:i=xs.length:=by lia
  subst e;exact .inl ⟨⟨xs,q,C6 _⟩,hd O H p⟩
theorem aka{K:PySem.W.Frag}{a:Addr}{xs:List V}{g:TG}{tb:TS}{D:Ends}{O:St}{H:Hp}(Pv:Nat->St->Hp->Prop)(h0:Pv 0 O H)(hl:∀ i O H,i<=xs.length->Pv i O H->D0 K H a xs)(hs:∀ i x O H,xs[i]?=some x->Pv i O H->g x O H fun σ2 H2=>tb { D with nx:=Pv (i+1),ct:=Pv (i+1),bk:=D.nx } σ2 H2)(hd:∀ O H,Pv xs.length O H->D.nx O H) :
  ∃ W:Nat->Nat->St->Hp->Prop,(∃ m,W 0 m O H)/\∀ i m O H,W i m O H->
   ((w5 K a).stop i H/\D.nx O H)\/((w5 K a).go i H/\∃ N:St->Hp->Prop,(∀ σ' H',N σ' H'->∃ m',m'<m/\W (i+1) m' σ' H')/\∀ x H',(w5 K a).yld i H x H'->g x O H' fun σ2 H2=>tb { D with nx:=N,ct:=N,bk:=D.nx } σ2 H2):=by
 refine ⟨fun i m O H=>m=xs.length-i/\i<=xs.length/\Pv i O H,⟨xs.length,by simp,J4 _,h0⟩,?_⟩;rintro i m O H ⟨rfl,hi,p⟩;have q:=hl i O H hi p
 by_cases D1:i<xs.length
 .refine .inr ⟨⟨xs,xs[i],q,by simp [D1]⟩,Pv (i+1),fun σ' H' p'=>⟨xs.length-(i+1),by lia,rfl,D1,p'⟩,fun x H' y=>?_⟩;obtain ⟨e,y⟩:=y;subst e;exact hs i x O _ (y xs q) p
 .have e:i=xs.length:=by lia
  subst e;exact .inl ⟨⟨xs,q,C6 _⟩,hd O H p⟩
theorem agJ{lo:Int}{n:Nat}{g:TG}{tb:TS}{D:Ends}{O:St}{H:Hp}(Pv:Nat->St->Hp->Prop)(h0:Pv 0 O H)(hs:∀ i O H,i<n->Pv i O H->g (.int (lo+i)) O H fun σ2 H2=>tb { D with nx:=Pv (i+1),ct:=Pv (i+1),bk:=D.nx } σ2 H2)(hd:∀ O H,Pv n O H->D.nx O H) :
  ∃ W:Nat->Nat->St->Hp->Prop,(∃ m,W 0 m O H)/\∀ i m O H,W i m O H->
   ((Y1 lo n).stop i H/\D.nx O H)\/((Y1 lo n).go i H/\∃ N:St->Hp->Prop,(∀ σ' H',N σ' H'->∃ m',m'<m/\W (i+1) m' σ' H')/\∀ x H',(Y1 lo n).yld i H x H'->g x O H' fun σ2 H2=>tb { D with nx:=N,ct:=N,bk:=D.nx } σ2 H2):=by
 refine ⟨fun i m O H=>m=n-i/\i<=n/\Pv i O H,⟨n,by simp,J4 _,h0⟩,?_⟩;rintro i m O H ⟨rfl,hi,p⟩
 by_cases D1:i<n
 .refine .inr ⟨D1,Pv (i+1),fun σ' H' p'=>⟨n-(i+1),by lia,rfl,D1,p'⟩,fun x H' y=>?_⟩;obtain ⟨e,y⟩:=y;subst e y;exact hs i O _ D1 p
 .have e:i=n:=by lia
  subst e;exact .inl ⟨C6 _,hd O H p⟩
end L2
namespace L2
open PySem PySem.Spec PyProof.Rows
noncomputable abbrev R2:=V->V->Hp->VK->Prop
noncomputable def E6 (X:Cx) (f:Value->Value->Sem Value) (r:R2):Prop:=
 ∀ (pins:List (Addr×Obj)) (s:Shared) (O:St) (H:Hp) (x y:V) (v u:Value) (Q:VK),Inv X pins O H s->RelV x v->RelV y u->r x y H Q->
  wpAny (model X.prog X.w) X.A (f v u) (EP X pins O Q) X.xe s
noncomputable def CallR (X:Cx) (f:Value) (r:List V->Hp->VK->Prop):Prop:=
 ∀ (pins:List (Addr×Obj)) (s:Shared) (O:St) (H:Hp) (xs:List V) (us:List Value) (Q:VK),Inv X pins O H s->Vals xs us->r xs H Q->
  wpAny (model X.prog X.w) X.A (call f us) (EP X pins O Q) X.xe s
noncomputable def TruR (X:Cx) (r:V->Hp->(Bool->Hp->Prop)->Prop):Prop:=
 ∀ (pins:List (Addr×Obj)) (s:Shared) (O:St) (H:Hp) (x:V) (v:Value) (Q:Bool->Hp->Prop),Inv X pins O H s->RelV x v->r x H Q->
  wpAny (model X.prog X.w) X.A (truthy v) (TP X pins O Q) X.xe s
noncomputable def o4 (r:R2) (ta tb:TE):TE:=fun O H Q=>ta O H fun x H1=>tb O H1 fun y H2=>r x y H2 Q
noncomputable def tUn (r:V->Hp->VK->Prop) (ta:TE):TE:=fun O H Q=>ta O H fun x H1=>r x H1 Q
noncomputable def rI (C:Int->Int->Prop) (g:Int->Int->V):R2:=fun x y H Q=>∃ i j,x=.int i/\y=.int j/\C i j/\Q (g i j) H
noncomputable def i9 (g:Int->Int->V):R2:=fun x y H Q=>∃ i j,x=.int i/\y=.int j/\Q (g i j) H
noncomputable def rU (g:Int->V):V->Hp->VK->Prop:=fun x H Q=>∃ i,x=.int i/\Q (g i) H
section
variable {X:Cx} {a b c:Expr} {ta tb tc:TE} {pos:Pos}
theorem binT(ha:PE X a ta)(hb:PE X b tb){pins:List (Addr×Obj)}{s:Shared}{O:St}{H:Hp}{R:V->V->Hp->Prop}(I:Inv X pins O H s)(h:ta O H fun x H1=>tb O H1 fun y H2=>R x y H2){Q:Value->Shared->Prop}{f:Value->Value->Sem Value}(hf:∀ v u s2 x y H2,Inv X pins O H2 s2->RelV x v->RelV y u->R x y H2->wpAny (model X.prog X.w) X.A (f v u) Q X.xe s2) :
  wpAny (model X.prog X.w) X.A (eval a X.env) (fun v zw=>wpAny (model X.prog X.w) X.A (eval b X.env) (fun u zv=>wpAny (model X.prog X.w) X.A (f v u) Q X.xe zv) X.xe zw) X.xe s:=by
 refine C0 (ha pins s O H _ I h) fun v s1 ⟨x,H1,I1,r1,q1⟩=>?_
 refine C0 (hb pins s1 O H1 _ I1 q1) fun u s2 ⟨y,H2,I2,r2,q2⟩=>?_
 exact hf v u s2 x y H2 I2 r1 r2 q2
theorem pe_op{op:Operator}{r:R2}(ho:E6 X (binaryOp op) r)(ha:PE X a ta)(hb:PE X b tb):PE X (.BinOp a op b pos) (o4 r ta tb):=by
 intro pins s O H Q I h;exact wpAny_BinOp (binT ha hb I h fun v u s2 x y H2 I2 rx ry q=>ho pins s2 O H2 x y v u Q I2 rx ry q)
theorem jX{f:Value->Value->Sem Value}{C:Int->Int->Prop}{g:Int->Int->Int}(rule:∀ (i j:Int) (t u:Tok) (s:Shared) (Q:Value->Shared->Prop) (E:Value->Shared->Prop),C i j->Q (.int (g i j) s.toks) { s with toks:=s.toks+1 }->wpAny (model X.prog X.w) X.A (f (.int i t) (.int j u)) Q E s) :
  E6 X f (rI C fun i j=>.int (g i j)):=by
 intro pins s O H x y v u Q I rx ry h;obtain ⟨i,j,rfl,rfl,hc,q⟩:=h;obtain ⟨t,rfl⟩:=rx;obtain ⟨t',rfl⟩:=ry;exact rule i j t t' s _ _ hc ⟨.int (g i j),H,I.tok _,⟨_,rfl⟩,q⟩
theorem opI0{f:Value->Value->Sem Value}{g:Int->Int->Int}(rule:∀ (i j:Int) (t u:Tok) (s:Shared) (Q:Value->Shared->Prop) (E:Value->Shared->Prop),Q (.int (g i j) s.toks) { s with toks:=s.toks+1 }->wpAny (model X.prog X.w) X.A (f (.int i t) (.int j u)) Q E s) :
  E6 X f (i9 fun i j=>.int (g i j)):=by
 intro pins s O H x y v u Q I rx ry h;obtain ⟨i,j,rfl,rfl,q⟩:=h;obtain ⟨t,rfl⟩:=rx;obtain ⟨t',rfl⟩:=ry;exact rule i j t t' s _ _ ⟨.int (g i j),H,I.tok _,⟨_,rfl⟩,q⟩
theorem opB0{f:Value->Value->Sem Value}{g:Int->Int->Bool}(rule:∀ (i j:Int) (t u:Tok) (s:Shared) (Q:Value->Shared->Prop) (E:Value->Shared->Prop),Q (.bool (g i j)) s->wpAny (model X.prog X.w) X.A (f (.int i t) (.int j u)) Q E s) :
  E6 X f (i9 fun i j=>.bl (g i j)):=by
 intro pins s O H x y v u Q I rx ry h;obtain ⟨i,j,rfl,rfl,q⟩:=h;obtain ⟨t,rfl⟩:=rx;obtain ⟨t',rfl⟩:=ry;exact rule i j t t' s _ _ ⟨.bl (g i j),H,I,rfl,q⟩
noncomputable def CDiv (i j:Int):Prop:=0<j/\j<1073741824
noncomputable def CPow (i j:Int):Prop:=0<=j/\j<=1000000/\i.natAbs<2 ^ 64
noncomputable def CMul (i j:Int):Prop:=(-(2 ^ 64)<i/\i<2 ^ 64)\/(-(2 ^ 64)<j/\j<2 ^ 64)
theorem CMul.ok{i j:Int}(h:CMul i j):IntMulOk i j:=by
 rcases h with ⟨h1,h2⟩ | ⟨h1,h2⟩
 .exact .of_left (intBits_le_64 h1 h2)
 .exact .of_right (intBits_le_64 h1 h2)
theorem al5:E6 X (binaryOp .Add) (i9 fun i j=>.int (i+j)):=opI0 fun _ _ _ _ _ _ _ q=>add_int q
theorem al6:E6 X (binaryOp .Sub) (i9 fun i j=>.int (i-j)):=opI0 fun _ _ _ _ _ _ _ q=>sub_int q
theorem al7:E6 X (binaryOp .Mult) (rI CMul fun i j=>.int (i*j)):=jX fun _ _ _ _ _ _ _ hc q=>mul_int q hc.ok
theorem akb:E6 X (binaryOp .FloorDiv) (rI CDiv fun i j=>.int (i / j)):=jX fun i j _ _ _ _ _ hc q=>by
 have h1:(0:Int)<j:=hc.1;have h2:j<1073741824:=hc.2;exact floordiv_int (by lia) (by rw [Int.fdiv_eq_ediv_of_nonneg i (by lia)];exact q) (.inl (PyProof.noPylong_small (by lia)))
theorem al8:E6 X (binaryOp .Mod) (rI (fun _ j=>0<j) fun i j=>.int (i % j)):=jX fun i j _ _ _ _ _ hc q=>by
 have h1:(0:Int)<j:=hc;exact mod_int' (by lia) (by rw [Int.fmod_eq_emod_of_nonneg i (by lia)];exact q)
theorem al9:E6 X (binaryOp .Pow) (rI CPow fun i j=>.int (i ^ j.toNat)):=jX fun _ _ _ _ _ _ _ hc q=>pow_int_small hc.1 hc.2.1 hc.2.2 q
end
noncomputable def scal:V->V->Bool
 | .non,.non=>true | .non,.int _=>true | .int _,.non=>true | .non,.bl _=>true | .bl _,.non=>true | .non,.str _=>true | .str _,.non=>true
 | .int _,.int _=>true | .bl _,.bl _=>true | .str _,.str _=>true | .byt _,.byt _=>true
 | .int _,.str _=>true | .str _,.int _=>true | .bl _,.str _=>true | .str _,.bl _=>true
 | _,_=>false
noncomputable def sO:R2:=fun x y H Q=>scal x y=true/\Q (.bl (decide (x=y))) H
noncomputable def sP:R2:=fun x y H Q=>scal x y=true/\Q (.bl (!decide (x=y))) H
theorem sQ{i j:Int} : decide (V.int i=V.int j)=(i==j):=by
 rw [cW]
 simp
theorem sR{i j:Bool} : decide (V.bl i=V.bl j)=(i==j):=by
 rw [cW]
 simp
theorem sS{i j:Str} : decide (V.str i=V.str j)=(i==j):=by
 rw [cW]
 simp
theorem sT{i j:Array UInt8} : decide (V.byt i=V.byt j)=(i.toList==j.toList):=by
 rw [cW]
 cases i
 cases j
 simp
section
variable {X:Cx} {a b c:Expr} {ta tb tc:TE} {pos:Pos}
theorem J1{pins:List (Addr×Obj)}{O:St}{H:Hp}{s:Shared}{Q:VK}{k k':Bool}(I:Inv X pins O H s)(q:Q (.bl k) H)(e:k=k'):EP X pins O Q (.bool k') s:=by
 subst e;exact ⟨.bl k,H,I,rfl,q⟩
theorem op_eq:E6 X (compareOp .Eq) sO:=by
 intro pins s O H x y v u Q I rx ry h;obtain ⟨hs,q⟩:=h
 cases x with
 | non=>
  cases rx
  cases y with
  | non=>cases ry;exact PySem.EqNone.eq_none_none (J1 I q (by simp))
  | bl j=>cases ry;exact PySem.EqNone.eq_none_bool (J1 I q (by simp))
  | int j=>obtain ⟨t',rfl⟩:=ry;exact PySem.EqNone.eq_none_int (J1 I q (by simp))
  | str j=>obtain ⟨t',rfl⟩:=ry;exact PySem.EqNone.eq_none_str (J1 I q (by simp))
  | _=>exact absurd (show false=true from hs) K7
 | bl i=>
  cases rx
  cases y with
  | non=>cases ry;exact PySem.EqNone.eq_bool_none (J1 I q (by simp))
  | bl j=>cases ry;exact eq_bool (J1 I q sR)
  | str j=>obtain ⟨t',rfl⟩:=ry;exact PySem.EqMixed.eq_bool_str (J1 I q (by simp))
  | _=>exact absurd (show false=true from hs) K7
 | int i=>
  obtain ⟨t,rfl⟩:=rx
  cases y with
  | non=>cases ry;exact PySem.EqNone.eq_int_none (J1 I q (by simp))
  | int j=>obtain ⟨t',rfl⟩:=ry;exact eq_int (J1 I q sQ)
  | str j=>obtain ⟨t',rfl⟩:=ry;exact PySem.EqMixed.eq_int_str (J1 I q (by simp))
  | _=>exact absurd (show false=true from hs) K7
 | str i=>
  obtain ⟨t,rfl⟩:=rx
  cases y with
  | non=>cases ry;exact PySem.EqNone.eq_str_none (J1 I q (by simp))
  | bl j=>cases ry;exact PySem.EqMixed.eq_str_bool (J1 I q (by simp))
  | int j=>obtain ⟨t',rfl⟩:=ry;exact PySem.EqMixed.eq_str_int (J1 I q (by simp))
  | str j=>obtain ⟨t',rfl⟩:=ry;exact eq_str (J1 I q sS)
  | _=>exact absurd (show false=true from hs) K7
 | byt i=>
  obtain ⟨t,rfl⟩:=rx
  cases y with
  | byt j=>obtain ⟨t',rfl⟩:=ry;exact PySem.W.eq_bytes (J1 I q sT)
  | _=>exact absurd (show false=true from hs) K7
 | _=>cases y <;> exact absurd (show false=true from hs) K7
theorem op_ne:E6 X (compareOp .NotEq) sP:=by
 intro pins s O H x y v u Q I rx ry h;obtain ⟨hs,q⟩:=h
 cases x with
 | non=>
  cases rx
  cases y with
  | non=>cases ry;exact PySem.EqNone.ne_none_none (J1 I q (by simp))
  | bl j=>cases ry;exact PySem.EqNone.ne_none_bool (J1 I q (by simp))
  | int j=>obtain ⟨t',rfl⟩:=ry;exact PySem.EqNone.ne_none_int (J1 I q (by simp))
  | str j=>obtain ⟨t',rfl⟩:=ry;exact PySem.EqNone.ne_none_str (J1 I q (by simp))
  | _=>exact absurd (show false=true from hs) K7
 | bl i=>
  cases rx
  cases y with
  | non=>cases ry;exact PySem.EqNone.ne_bool_none (J1 I q (by simp))
  | bl j=>cases ry;exact ne_bool (J1 I q (congrArg not sR))
  | str j=>obtain ⟨t',rfl⟩:=ry;exact PySem.EqMixed.ne_bool_str (J1 I q (by simp))
  | _=>exact absurd (show false=true from hs) K7
 | int i=>
  obtain ⟨t,rfl⟩:=rx
  cases y with
  | non=>cases ry;exact PySem.EqNone.ne_int_none (J1 I q (by simp))
  | int j=>obtain ⟨t',rfl⟩:=ry;exact ne_int (J1 I q (congrArg not sQ))
  | str j=>obtain ⟨t',rfl⟩:=ry;exact PySem.EqMixed.ne_int_str (J1 I q (by simp))
  | _=>exact absurd (show false=true from hs) K7
 | str i=>
  obtain ⟨t,rfl⟩:=rx
  cases y with
  | non=>cases ry;exact PySem.EqNone.ne_str_none (J1 I q (by simp))
  | bl j=>cases ry;exact PySem.EqMixed.ne_str_bool (J1 I q (by simp))
  | int j=>obtain ⟨t',rfl⟩:=ry;exact PySem.EqMixed.ne_str_int (J1 I q (by simp))
  | str j=>obtain ⟨t',rfl⟩:=ry;exact ne_str (J1 I q (congrArg not sS))
  | _=>exact absurd (show false=true from hs) K7
 | byt i=>
  obtain ⟨t,rfl⟩:=rx
  cases y with
  | byt j=>obtain ⟨t',rfl⟩:=ry;exact PySem.W.ne_bytes (J1 I q (congrArg not sT))
  | _=>exact absurd (show false=true from hs) K7
 | _=>cases y <;> exact absurd (show false=true from hs) K7
theorem op_lt:E6 X (compareOp .Lt) (i9 fun i j=>.bl (decide (i<j))):=opB0 fun _ _ _ _ _ _ _ q=>lt_int q
theorem op_le:E6 X (compareOp .LtE) (i9 fun i j=>.bl (decide (i<=j))):=opB0 fun _ _ _ _ _ _ _ q=>le_int q
theorem op_gt:E6 X (compareOp .Gt) (i9 fun i j=>.bl (decide (j<i))):=opB0 fun _ _ _ _ _ _ _ q=>gt_int q
theorem agN:E6 X (compareOp .Lt) (fun x y H Q=>∃ i j,x=.str i/\y=.str j/\Q (.bl (decide (i.cps.toList<j.cps.toList))) H):=by
 intro pins s O H x y v u Q I rx ry h;obtain ⟨i,j,rfl,rfl,q⟩:=h;obtain ⟨t,rfl⟩:=rx;obtain ⟨t',rfl⟩:=ry;exact lt_str (J1 I q rfl)
theorem agO:E6 X (compareOp .In) (fun x y H Q=>∃ i j,x=.str i/\y=.str j/\Q (.bl (!(Builtin.Str.occurrences j i 0 j.length 1).isEmpty)) H):=by
 intro pins s O H x y v u Q I rx ry h;obtain ⟨i,j,rfl,rfl,q⟩:=h;obtain ⟨t,rfl⟩:=rx;obtain ⟨t',rfl⟩:=ry;exact in_str (J1 I q rfl)
theorem ama:E6 X (compareOp .Is) (fun x y H Q=>y=.non/\Q (.bl (decide (x=.non))) H):=by
 intro pins s O H x y v u Q I rx ry h;obtain ⟨rfl,q⟩:=h
 cases ry
 refine is_none_gen (J1 I q ?_)
 cases x <;> first
  | (cases rx;rfl)
  | (obtain ⟨t,rfl⟩:=rx;rfl)
theorem akc:E6 X (compareOp .IsNot) (fun x y H Q=>y=.non/\Q (.bl (!decide (x=.non))) H):=by
 intro pins s O H x y v u Q I rx ry h;obtain ⟨rfl,q⟩:=h
 cases ry
 refine isnot_none_gen (J1 I q ?_)
 cases x <;> first
  | (cases rx;rfl)
  | (obtain ⟨t,rfl⟩:=rx;rfl)
theorem sU(b:Expr){op:CmpOp}(h:op≠.In:=by decide)(h2:op≠.NotIn:=by decide):behindInMarks op b=false:=by
 have e1:(op==CmpOp.In)=false:=by cases op <;> first | rfl | exact absurd rfl h
 have e2:(op==CmpOp.NotIn)=false:=by cases op <;> first | rfl | exact absurd rfl h2
 cases b <;> simp [behindInMarks,e1,e2]
theorem akd{op:CmpOp}{r:R2}(ho:E6 X (compareOp op) r)(ha:PE X a ta)(hb:PE X b tb)(hm:behindInMarks op b=false):PE X (.Compare a [op] [b] pos) (o4 r ta tb):=by
 intro pins s O H Q I h;exact wpAny_Compare1 (binT ha hb I h fun v u s2 x y H2 I2 rx ry q=>ho pins s2 O H2 x y v u Q I2 rx ry q) hm
noncomputable def tTest (t:TE):TT:=fun O H Q=>t O H fun x H'=>∃ k,x=.bl k/\Q k H'
theorem ake{op:CmpOp}{r:R2}(ho:E6 X (compareOp op) r)(ha:PE X a ta)(hb:PE X b tb)(hm:behindInMarks op b=false):PT X (.Compare a [op] [b] pos) (tTest (o4 r ta tb)):=by
 intro pins s O H Q I h;refine wpAny_isTrue_Compare1 (C0 (ha pins s O H _ I h) fun v s1 ⟨x,H1,I1,r1,q1⟩=>C0 (hb pins s1 O H1 _ I1 q1) fun u s2 ⟨y,H2,I2,r2,q2⟩=>
  C0 (ho pins s2 O H2 x y v u _ I2 r1 r2 q2) fun c s3 ⟨z,H3,I3,r3,k,e,q3⟩=>?_) hm
 subst e
 cases r3
 exact wpAny_truthy_bool ⟨H3,I3,q3⟩
noncomputable def mV (r r':R2) (ta tb tc:TE):TE:=fun O H Q=>ta O H fun x H1=>tb O H1 fun y H2=>r x y H2 fun z H3=>∃ k,z=.bl k/\
 (if k=true then tc O H3 fun w' H4=>r' y w' H4 Q else Q (.bl false) H3)
theorem aij{op op':CmpOp}{r r':R2}(ho:E6 X (compareOp op) r)(e9:E6 X (compareOp op') r')(ha:PE X a ta)(hb:PE X b tb)(hc:PE X c tc)(hm:lastMarks [op,op'] [b,c]=false:=by with_unfolding_all rfl):PE X (.Compare a [op,op'] [b,c] pos) (mV r r' ta tb tc):=by
 intro pins s O H Q I h;refine Compare_chain (C0 (ha pins s O H _ I h) fun v s1 ⟨x,H1,I1,r1,q1⟩=>chain_link (C0 (hb pins s1 O H1 _ I1 q1) fun u s2 ⟨y,H2,I2,r2,q2⟩=>
  C0 (ho pins s2 O H2 x y v u _ I2 r1 r2 q2) fun d s3 ⟨z,H3,I3,r3,k,e,q3⟩=>?_)) hm
 subst e
 cases r3
 refine wpAny_truthy_bool ?_
 cases k with
 | false=>exact ite_ff ⟨.bl false,H3,I3,rfl,q3⟩
 | true=>exact ite_tt (chain_last (C0 (hc pins s3 O H3 _ I3 q3) fun w' s4 ⟨z',H4,I4,r4,q4⟩=>e9 pins s4 O H4 y z' u w' Q I4 r2 r4 q4))
noncomputable def TruV (K:PySem.W.Frag) (x:V) (H:Hp) (k:Bool):Prop:=
 match x with
 | .non=>k=false
 | .bl b=>k=b
 | .int i=>k=(i != 0)
 | .str y=>y.length<=sizeLine/\k=((y.length:Int) != 0)
 | .byt y=>y.size<=sizeLine/\k=((y.size:Int) != 0)
 | .ref p=>(∃ xs,D5 K H p xs/\k=!xs.isEmpty)\/(∃ xs,D0 K H p xs/\k=!xs.isEmpty)\/∃ kvs,H p=some (.dK kvs)/\k=!kvs.isEmpty
 | _=>False
theorem af2{κ:Type}{kvs:List (κ×V)}{vs:List (κ×Value)}(r:KV kvs vs):(!vs.isEmpty)=!kvs.isEmpty:=by
 cases r <;> rfl
theorem sV{xs:List V}{its:List Value}(r:Vals xs its):(!its.toArray.isEmpty)=!xs.isEmpty:=by
 cases r <;> simp
theorem gH:(sizeLine:Nat)<2 ^ 63:=by rw [sizeLine_eq];decide
theorem sW:TruR X (fun x H Q=>∃ k,TruV X.K x H k/\Q k H):=by
 intro pins s O H x v Q I rx h;obtain ⟨k,e,q⟩:=h;have hl:=gH;have hs:sizeLine=16777216:=sizeLine_eq
 cases x with
 | non=>
  cases rx
  have e':k=false:=e;subst e';exact truthy_none ⟨H,I,q⟩
 | bl b=>
  cases rx
  have e':k=b:=e;subst e';exact wpAny_truthy_bool ⟨H,I,q⟩
 | int i=>
  obtain ⟨t,rfl⟩:=rx;have e':k=(i != 0):=e;subst e';exact PySem.P.truthy_int ⟨H,I,q⟩
 | str y=>
  obtain ⟨t,rfl⟩:=rx;obtain ⟨hy,e'⟩:y.length<=sizeLine/\k=((y.length:Int) != 0):=e;subst e';exact PySem.P.truthy_str (by lia) ⟨H,I.tok _,q⟩
 | byt y=>
  obtain ⟨t,rfl⟩:=rx;obtain ⟨hy,e'⟩:y.size<=sizeLine/\k=((y.size:Int) != 0):=e;subst e';exact PySem.W.truthy_bytes (by lia) ⟨H,I.tok _,q⟩
 | ref p=>
  cases rx
  have e':(∃ xs,D5 X.K H p xs/\k=!xs.isEmpty)\/(∃ xs,D0 X.K H p xs/\k=!xs.isEmpty)\/∃ kvs,H p=some (.dK kvs)/\k=!kvs.isEmpty:=e
  rcases e' with ⟨xs,hx,e'⟩ | ⟨xs,hx,e'⟩ | ⟨kvs,hx,e'⟩
  .subst e';obtain ⟨its,r,pl,hz⟩:=I.list hx;have B3:=r.length;exact wpAny_truthy_list pl.isList (by simp only [J2];lia) ⟨H,I.tok _,by rw [sV r];exact q⟩
  .subst e';obtain ⟨its,r,pl,hz⟩:=I.tuple hx;have B3:=r.length;exact truthy_tuple pl (by simp only [J2];lia) ⟨H,I.tok _,by rw [sV r];exact q⟩
  .subst e';obtain ⟨hz,hS,vs,r,m⟩:kvs.length<=sizeLine/\(p==sysModules)=false/\∃ vs,KV kvs vs/\s.heap.DictOf (L5 X.prog X.w) p vs:=I.hok p _ hx;have B3:kvs.length=vs.length:=Paired.length r;exact wpAny_truthy_dict hS m (by lia) ⟨H,I.tok _,by rw [af2 r];exact q⟩
 | _=>exact (show False from e).elim
theorem aik(ha:PE X a ta)(he:∀ whole,isTrue a X.env whole=(do let v <- whole;standAt a.pos;holding [v] (truthy v))) :
  PT X a (fun O H Q=>ta O H fun x H'=>∃ k,TruV X.K x H' k/\Q k H'):=by
 intro pins s O H Q I h;exact isTrue_plain (C0 (ha pins s O H _ I h) fun v s1 ⟨x,H1,I1,r1,q1⟩=>sW pins s1 O H1 x v Q I1 r1 q1) (he _)
theorem af3:E6 X (binaryOp .Add) (fun x y H Q=>∃ i j,x=.str i/\y=.str j/\i.length+j.length<=sizeLine/\Q (.str (i++j)) H):=by
 intro pins s O H x y v u Q I rx ry h;obtain ⟨i,j,rfl,rfl,hz,q⟩:=h;obtain ⟨t,rfl⟩:=rx;obtain ⟨t',rfl⟩:=ry;exact add_str (fun t' tk=>⟨.str (i++j),H,I.tok _,⟨_,rfl⟩,q⟩) hz
theorem vals1{x:V}{us:List Value}(r:Vals [x] us):∃ u,us=[u]/\RelV x u:=by
 cases r with
 | cons r1 r2=>cases r2;exact ⟨_,rfl,r1⟩
theorem vals2{x y:V}{us:List Value}(r:Vals [x,y] us):∃ u w',us=[u,w']/\RelV x u/\RelV y w':=by
 cases r with
 | cons r1 r2=>
  cases r2 with
  | cons r3 r4=>cases r4;exact ⟨_,_,rfl,r1,r3⟩
noncomputable def LenV (K:PySem.W.Frag) (x:V) (H:Hp) (n:Nat):Prop:=
 match x with
 | .str y=>y.length<=sizeLine/\n=y.length
 | .byt y=>y.size<=sizeLine/\n=y.size
 | .ref p=>(∃ xs,D5 K H p xs/\n=xs.length)\/∃ xs,D0 K H p xs/\n=xs.length
 | _=>False
theorem mW:CallR X (.builtin "len") (fun xs H Q=>∃ x n,xs=[x]/\LenV X.K x H n/\Q (.int n) H):=by
 intro pins s O H xs us Q I r h;obtain ⟨x,n,rfl,e,q⟩:=h;obtain ⟨u,rfl,rx⟩:=vals1 r;have hl:=gH;have hs:sizeLine=16777216:=sizeLine_eq
 cases x with
 | str y=>
  obtain ⟨t,rfl⟩:=rx;obtain ⟨hy,e'⟩:y.length<=sizeLine/\n=y.length:=e;subst e';exact len_str (by lia) ⟨.int _,H,I.tok _,⟨_,rfl⟩,q⟩
 | byt y=>
  obtain ⟨t,rfl⟩:=rx;obtain ⟨hy,e'⟩:y.size<=sizeLine/\n=y.size:=e;subst e';exact PySem.W.len_bytes (by lia) ⟨.int _,H,I.tok _,⟨_,rfl⟩,q⟩
 | ref p=>
  cases rx
  have e':(∃ xs,D5 X.K H p xs/\n=xs.length)\/∃ xs,D0 X.K H p xs/\n=xs.length:=e
  rcases e' with ⟨xs,hx,e'⟩ | ⟨xs,hx,e'⟩
  .subst e';obtain ⟨its,r',pl,hz⟩:=I.list hx;have B3:=r'.length;exact Calls.call_len_list pl.isList (by simp only [J2];lia) ⟨.int xs.length,H,I.tok _,⟨_,by simp only [J2];rw [B3]⟩,q⟩
  .subst e';obtain ⟨its,r',pl,hz⟩:=I.tuple hx;have B3:=r'.length;exact len_tuple pl (by simp only [J2];lia) ⟨.int xs.length,H,I.tok _,⟨_,by simp only [J2];rw [B3]⟩,q⟩
 | _=>exact (show False from e).elim
end
end L2
namespace L2
open PySem PySem.Spec PyProof.Rows
structure ObjM(h:Heap)(x dx C:Addr)(mA:Str->Option Value):Prop where
 obj:h.get? x=some (v6 C dx)
 ns:h.Ns1 dx mA
 ne:dx≠x
theorem sX{h:Heap}{dx:Addr}{mA:Str->Option Value}(n:h.Ns1 dx mA):∃ od,h.get? dx=some od/\∀ name,PySem.W.lookIn name od=some (mA name):=by
 obtain ⟨o,es,ep,ho,hd,hk,_,hm⟩:=n;refine ⟨o,ho,fun name=>?_⟩;have e:=hm name;unfold nsFind findBy at e;rw [<- Array.find?_toList] at e;unfold PySem.W.lookIn;rw [hd]
 dsimp only
 split
 .rename_i y q
  rw [q] at e;exact congrArg some e
 .rename_i q
  rw [q] at e;have a:es.toList.any (·.refKey)=false:=by
   rw [List.any_eq_false];intro y hy;obtain ⟨z,t,W7⟩:=hk y (Array.mem_toList_iff.mp hy);simp [DictEntry.refKey,W7]
  have a':¬ es.toList.any (·.refKey)=true:=by rw [a];exact K7
  rw [if_neg a'];exact congrArg some e
theorem ObjM.look{h:Heap}{x dx C:Addr}{mA:Str->Option Value}(I:ObjM h x dx C mA):∃ od,PySem.W.InstAt h x (v6 C dx) C (some od)/\∀ name,PySem.W.lookIn name od=some (mA name):=
 let ⟨od,ho,hl⟩:=sX I.ns
 ⟨od,⟨I.obj,rfl,rfl,ho⟩,hl⟩
section
variable {prog:Program} {w:World} {A:Around} {E:Value->Shared->Prop} {s:Shared} {K:PySem.W.Frag} {x dx C f:Addr} {mA:Str->Option Value} {name:Str} {v:Value}
theorem akf{expr:Bool}{Q:Value->Shared->Prop}(X:K.In s.heap)(I:ObjM s.heap x dx C mA)(hg:gD K C name=true)(hh:cX K C=true)(ha:L4 K (.ref C) name=some none)(hv:mA name=some v)(lS:PySem.W.handedIn v=true)(h:Q v { s with toks:=s.toks+1 }) :
  wpAny (model prog w) A (getAttr (.ref x) name expr) Q E s:=by
 obtain ⟨od,J,hl⟩:=I.look;exact PySem.W.get_value X J (PySem.W.plainGet_of hg).1 (PySem.W.findObj_own hh ha rfl (by rw [hl,hv])) lS h
theorem ail{pl:Sem Bool}{Q:Value×List Value->Shared->Prop}(X:K.In s.heap)(I:ObjM s.heap x dx C mA)(hg:gD K C name=true)(hf:L4 K (.ref C) name=some (some (.ref f)))(ht:aY K (.ref f)=true)(hv:mA name=none)(h:Q (.ref f,[.ref x]) s) :
  wpAny (model prog w) A (getMethod (.ref x) name pl) Q E s:=by
 obtain ⟨od,J,hl⟩:=I.look;exact PySem.W.method_fn X J (PySem.W.plainGet_of hg).1 (PySem.W.plainGet_of hg).2 hf (beq_iff_eq.mp ht) (by show (PySem.W.lookIn name od).map (·.isSome)=some false;rw [hl,hv];rfl) h
theorem akg{ns:List Str}{Q:Unit->Shared->Prop}(X:K.In s.heap)(I:ObjM s.heap x dx C mA)(hs:L4 K (.ref C) "__setattr__"=some (some (.builtin "object.__setattr__")))(hp:PySem.W.plainOver K C=true)(ht:PySem.W.takerIn K C name=some none)(hh:cX K C=true)(hw:PySem.Within mA ns)(hsz:ns.length<=sizeLine)(h:∀ h',ObjM h' x dx C (fun y=>if y=name then some v else mA y)->Heap.SameBut dx s.heap h'->Q () { s with heap:=h',toks:=s.toks+2 }) :
  wpAny (model prog w) A (setAttr (.ref x) name v) Q E s:=by
 obtain ⟨od,J,hl⟩:=I.look;refine PySem.W.set_plain X J hs (PySem.W.osa_open (s:={ s with toks:=s.toks+1 }) (r:=none) X J hp ht fun b=>?_);obtain ⟨cd,hc,qC⟩:=PySem.W.any_some hh;have hx:s.heap.get? x=some ⟨.ref C,some dx,.plain,#[]⟩:=I.obj;refine wpAny_bind (wpAny_pure (wpAny_bind (wpAny_bind (wpAny_loadPart hx (wpAny_bind (PySem.W.Looks.here (s:={ s with toks:=s.toks+1 }) (PySem.W.looks_clsIn X hc) ?_))))));rw [qC];refine wpAny_pure (a:=some dx) (wpAny_bind (wpAny_pure (wpAny_bind ?_)));refine wpAny_nsSet1 (s:={ s with toks:=s.toks+1 }) I.ns fun h' lT eV=>?_
 obtain ⟨oD,esD,epD,hoD,hdD,hcD⟩:=lT.count (PySem.Within.cons name v hw);refine wpAny_bind (wpAny_lookBehind hoD (by rw [hdD];exact pastItsLine_dict (F6 hcD (by rw [G1];lia))) ?_);exact wpAny_pure (h _ ⟨(eV.2 _ (Ne.symm I.ne)).trans I.obj,lT,I.ne⟩ eV)
theorem aim{R:Result->Shared->Prop}{vs:List Value}{kw:List (Str×Value)}(X:K.In s.heap)(hm:PySem.W.makesIn K C=true)(hi:L4 K (.ref C) "__init__"=some (some (.ref f)))(hf:PySem.W.typeIn K (.ref f)=some (.type "function"))(h:codeAny (model prog w) (A.under (.builtin "type.__call__" ⟨.ref C::vs,kw⟩)) (.call (.ref f) ⟨.ref (s.heap.objs.size+1)::vs,kw⟩) (PySem.W.InitBack (s.heap.objs.size+1) R)
   { s with heap:=(s.heap.push o1).push (v6 C s.heap.objs.size) }) :
  codeAny (model prog w) A (.call (.ref C) ⟨vs,kw⟩) R s:=by
 obtain ⟨hh,g,d,t,os⟩:=s;exact PySem.W.make_core (PySem.W.makes_of X hm) (PySem.W.looks_findIn X hi) (fun self=>PySem.W.bind_fn X self hf) (.inl rfl) h
end
noncomputable def putF (f:Str) (v:V):List (Str×V)->List (Str×V)
 | []=>[(f,v)]
 | (g,x)::r=>if g=f then (g,v)::r else (g,x)::putF f v r
theorem R6(f g:Str)(v:V):∀ fs:List (Str×V),(putF f v fs).lookup g=if g=f then some v else fs.lookup g
 | []=>by
  show List.lookup g [(f,v)]=_
  by_cases h:g=f
  .have hb:(g==f)=true:=beq_iff_eq.mpr h;simp only [List.lookup,hb,if_pos h]
  .have hb:(g==f)=false:=beq_eq_false_iff_ne.mpr h;simp only [List.lookup,hb,if_neg h]
 | (k,x)::r=>by
  have ih:=R6 f g v r;rw [show putF f v ((k,x)::r)=(if k=f then (k,v)::r else (k,x)::putF f v r) from rfl]
  by_cases hk:k=f
  .rw [if_pos hk]
   by_cases h:g=k
   .have hb:(g==k)=true:=beq_iff_eq.mpr h;simp only [List.lookup,hb,if_pos (h.trans hk)]
   .have hb:(g==k)=false:=beq_eq_false_iff_ne.mpr h;simp only [List.lookup,hb,if_neg (fun e:g=f=>h (e.trans hk.symm))]
  .rw [if_neg hk]
   by_cases h:g=k
   .have hb:(g==k)=true:=beq_iff_eq.mpr h;simp only [List.lookup,hb,if_neg (fun e:g=f=>hk (h.symm.trans e))]
   .have hb:(g==k)=false:=beq_eq_false_iff_ne.mpr h;simp only [List.lookup,hb];exact ih
theorem mX(f:Str)(v:V):∀ fs:List (Str×V),f∈(putF f v fs).map (·.1)/\∀ g,g∈fs.map (·.1)->g∈(putF f v fs).map (·.1)
 | []=>⟨by simp [putF],fun g h=>by simp at h⟩
 | (k,x)::r=>by
  obtain ⟨i1,i2⟩:=mX f v r;rw [show putF f v ((k,x)::r)=(if k=f then (k,v)::r else (k,x)::putF f v r) from rfl]
  by_cases hk:k=f
  .rw [if_pos hk];subst hk;exact ⟨by simp,fun g h=>by simpa using h⟩
  .rw [if_neg hk];refine ⟨?_,fun g h=>?_⟩
   .rw [G3];exact M6 _ i1
   .rw [G3] at h ⊢
    rcases F9.mp h with e | e
    .exact F9.mpr (.inl e)
    .exact M6 _ (i2 g e)
theorem mY(f:Str)(v:V):∀ fs:List (Str×V),(putF f v fs).length<=fs.length+1
 | []=>by simp [putF]
 | (k,x)::r=>by
  have ih:=mY f v r;rw [show putF f v ((k,x)::r)=(if k=f then (k,v)::r else (k,x)::putF f v r) from rfl]
  by_cases hk:k=f
  .rw [if_pos hk,G1,G1];lia
  .rw [if_neg hk,G1,G1];lia
theorem gI{v:V}{o:Option Value}(r:RelO (some v) o):∃ u,o=some u/\RelV v u:=by
 cases o with
 | none=>exact (show False from r).elim
 | some u=>exact ⟨u,rfl,r⟩
theorem RelO.none_of{o:Option Value}(r:RelO none o):o=none:=by
 cases o with
 | none=>rfl
 | some u=>exact (show False from r).elim
theorem sY{v:V}{u:Value}(r:RelV v u):PySem.W.handedIn u=true:=by
 cases v with
 | non=>cases (show u=Value.none from r);rfl
 | bl b=>cases (show u=Value.bool b from r);rfl
 | int i=>obtain ⟨t,e⟩:=(show ∃ t,u=Value.int i t from r);cases e;rfl
 | str x=>obtain ⟨t,e⟩:=(show ∃ t,u=Value.str x t from r);cases e;rfl
 | byt b=>obtain ⟨t,e⟩:=(show ∃ t,u=Value.bytes b t from r);cases e;rfl
 | flt b=>obtain ⟨t,e⟩:=(show ∃ t,u=Value.float b t from r);cases e;rfl
 | ref a=>cases (show u=Value.ref a from r);rfl
 | ty n=>cases (show u=Value.type n from r);rfl
section
variable {P:Program} {w:World} {H H':Hp} {h h':Heap} {a C dx:Addr} {fs fs':List (Str×V)}
theorem jY(hok:J5 P w H h)(e:H a=some (.ins C dx fs)):∃ mA,ObjM h a dx C mA/\(∀ f,RelO (fs.lookup f) (mA f))/\PySem.Within mA (fs.map (·.1))/\fs.length<=1000/\H dx=some (.own a):=by
 obtain ⟨d,z,ne,ob,mA,n,r,q⟩:=(show ObjOk P w H h a (.ins C dx fs) from hok a _ e)
 exact ⟨mA,⟨ob,n,ne⟩,r,q,z,d⟩
end
structure Cls(K:PySem.W.Frag)(C:Addr):Prop where
 pg:gD K C Str.empty=true
 hd:cX K C=true
 po:PySem.W.plainOver K C=true
 sa:L4 K (.ref C) "__setattr__"=some (some (.builtin "object.__setattr__"))
theorem Cls.get{K:PySem.W.Frag}{C:Addr}(c:Cls K C)(f:Str):gD K C f=true:=c.pg
noncomputable def NoAttr (K:PySem.W.Frag) (C:Addr) (f:Str):Prop:=L4 K (.ref C) f=some none
theorem NoAttr.taker{K:PySem.W.Frag}{C:Addr}{f:Str}(n:NoAttr K C f):PySem.W.takerIn K C f=some none:=by
 unfold PySem.W.takerIn;rw [show L4 K (.ref C) f=some none from n];rfl
structure Meth(K:PySem.W.Frag)(C:Addr)(m:Str)(f:Addr):Prop where
 at_:L4 K (.ref C) m=some (some (.ref f))
 fn:aY K (.ref f)=true
 kp:Q6 K (.ref f)=true
section
variable {X:Cx} {pins:List (Addr×Obj)} {O:St} {H:Hp} {s:Shared} {a C dx:Addr} {fs:List (Str×V)} {f:Str} {v:V} {A:Around} {E:Value->Shared->Prop}
theorem af4{b:Bool}{Q:Value->Shared->Prop}(I:Inv X pins O H s)(e:H a=some (.ins C dx fs))(c:Cls X.K C)(n:NoAttr X.K C f)(l:fs.lookup f=some v)(h:∀ u s',Inv X pins O H s'->RelV v u->Q u s'):wpAny (model X.prog X.w) A (getAttr (.ref a) f b) Q E s:=by
 obtain ⟨mA,zy,r,_,_,_⟩:=jY I.hok e;obtain ⟨u,hu,ru⟩:=gI (v:=v) (o:=mA f) (by rw [<- l];exact r f);exact akf I.kIn zy (c.get f) c.hd n hu (sY ru) (h u _ (I.tok _) ru)
theorem af5{m:Str}{g:Addr}{pl:Sem Bool}{Q:Value×List Value->Shared->Prop}(I:Inv X pins O H s)(e:H a=some (.ins C dx fs))(c:Cls X.K C)(k:Meth X.K C m g)(l:fs.lookup m=none)(h:Q (.ref g,[.ref a]) s):wpAny (model X.prog X.w) A (getMethod (.ref a) m pl) Q E s:=by
 obtain ⟨mA,zy,r,_,_,_⟩:=jY I.hok e;have hn:mA m=none:=RelO.none_of (by rw [<- l];exact r m);exact ail I.kIn zy (c.get m) k.at_ k.fn hn h
theorem af6{y:V}{u:Value}{Q:Unit->Shared->Prop}(I:Inv X pins O H s)(e:H a=some (.ins C dx fs))(c:Cls X.K C)(n:NoAttr X.K C f)(hl:fs.length<1000)(ry:RelV y u)(h:∀ s',Inv X pins O (A0 H a (.ins C dx (putF f y fs))) s'->Q () s'):wpAny (model X.prog X.w) A (setAttr (.ref a) f u) Q E s:=by
 obtain ⟨mA,zy,r,wi,_,ho⟩:=jY I.hok e;have hz:(fs.map (·.1)).length<=sizeLine:=by rw [A8,sizeLine_eq];lia
 refine akg I.kIn zy c.sa c.po n.taker c.hd wi hz fun h' O' sb=>h _ ?_
 have hd:∃ o,h'.get? dx=some o:=let ⟨o,_,_,e',_⟩:=O'.ns;⟨o,e'⟩
 refine I.write (x:=a) (e:=dx) (by rw [e];exact True.intro) (.inr ho) (fun b q hb z=>(sb.2 b hb).trans z) hd ?_;refine ⟨by rw [A9 zy.ne];exact ho,?_,zy.ne,O'.obj,_,O'.ns,fun g=>?_,fun g hg=>?_⟩
 .have:=mY f y fs;lia
 .show RelO ((putF f y fs).lookup g) (if g=f then some u else mA g);rw [R6]
  by_cases q:g=f
  .rw [if_pos q,if_pos q];exact ry
  .rw [if_neg q,if_neg q];exact r g
 .by_cases q:g=f
  .rw [q];exact (mX f y fs).1
  .refine (mX f y fs).2 g (wi g fun z=>hg ?_);show (if g=f then some u else mA g)=none;rw [if_neg q];exact z
theorem Inv.made(I:Inv X pins O H s):Inv X pins O (A0 (A0 H s.heap.objs.size (.own (s.heap.objs.size+1))) (s.heap.objs.size+1) (.ins C s.heap.objs.size []))
  { s with heap:=(s.heap.push o1).push (v6 C s.heap.objs.size) }:=by
 have e1:(s.heap.push o1).get? s.heap.objs.size=some o1:=Heap.get?_push_size s.heap rfl;have e2:((s.heap.push o1).push (v6 C s.heap.objs.size)).get? (s.heap.objs.size+1)=some (v6 C s.heap.objs.size):=by
  have:=Heap.get?_push_size (s.heap.push o1) (o:=v6 C s.heap.objs.size) rfl
  rwa [Heap.size_push] at this
 have e3:(s.heap.push o1).Ns s.heap.objs.size (fun _=>none):=⟨o1,#[],_,e1,rfl,(fun e he=>absurd he (by simp)),fun _=>rfl⟩
 have I1:=I.laid (a:=s.heap.objs.size) (o:=.own (s.heap.objs.size+1)) (h':=s.heap.push o1) (t':=s.toks) (fun b u q=>Heap.get?_push_of_some _ q) (C6 _) ⟨_,e1⟩;refine I1.laid (a:=s.heap.objs.size+1) (o:=.ins C s.heap.objs.size []) (t':=s.toks) (fun b u q=>Heap.get?_push_of_some _ q) (Nat.le_of_eq (Heap.size_push _ _)) ?_;have ne:s.heap.objs.size≠s.heap.objs.size+1:=G6 (Nat.lt_succ_self _);refine ⟨by rw [A9 ne,A7],J4 _,ne,e2,fun _=>none,(Heap.Ns1.of_empty e3).at fun o q=>Heap.get?_push_of_some _ q,fun _=>True.intro,fun y hy=>absurd rfl hy⟩
theorem sZ{prog:Program}{w:World}{env:Env}{e:Expr}{f:Str}{pos:Pos}{s:Shared}{Q:Value->Shared->Prop}(hb:attributeBase e f env (eval e env)=eval e env)(h:wpAny (model prog w) A (eval e env) (fun o zw=>wpAny (model prog w) A (getAttr o f true) Q E zw) E s):wpAny (model prog w) A (eval (.Attribute e f pos) env) Q E s:=
 Attribute_any_ h (by rw [arm_eval_Attribute,hb])
end
noncomputable def tFld (K:PySem.W.Frag) (ta:TE) (f:Str):TE:=fun O H Q=>ta O H fun x H1=>∃ a C dx fs v,x=.ref a/\H1 a=some (.ins C dx fs)/\Cls K C/\NoAttr K C f/\fs.lookup f=some v/\Q v H1
noncomputable def sFld (K:PySem.W.Frag) (ta tv:TE) (f:Str):TS:=fun D O H=>tv O H fun y H1=>ta O H1 fun x H2=>∃ a C dx fs,x=.ref a/\H2 a=some (.ins C dx fs)/\Cls K C/\NoAttr K C f/\fs.length<1000/\
 D.nx O (A0 H2 a (.ins C dx (putF f y fs)))
noncomputable def InOp (X:Cx) (op:Operator) (rd:V->V->Hp->VK->Prop):Prop:=
 ∀ (pins:List (Addr×Obj)) (s:Shared) (O:St) (H:Hp) (x y:V) (u v:Value) (Q:VK),Inv X pins O H s->RelV x u->RelV y v->rd x y H Q->wpAny (model X.prog X.w) X.A (inplaceOp op u v) (EP X pins O Q) X.xe s
section
variable {X:Cx} {o e value:Expr} {f:Str} {pos pos' tpos:Pos} {ta tv:TE}
theorem amb(he:PE X e ta)(hb:attributeBase e f X.env (eval e X.env)=eval e X.env):PE X (.Attribute e f pos) (tFld X.K ta f):=by
 intro pins s O H Q I h;refine sZ hb (C0 (he pins s O H _ I h) fun u s1 ⟨x,H1,I1,rx,a,C,dx,fs,v,ex,ea,c,n,l,q⟩=>?_);subst ex;obtain rfl:u=Value.ref a:=rx;exact af4 I1 ea c n l fun u' s2 I2 ru=>⟨v,H1,I2,ru,q⟩
theorem amc(ha:PE X o ta)(hv:PE X value tv)(hs:swapsWith value (some (.Attribute o f pos')) pos.line X.env=pure false):PS X (.Assign [.Attribute o f pos'] value pos) (sFld X.K ta tv f):=by
 intro pins s O H D I h;refine plainObj_wpAny_Assign_Attribute (C0 (hv pins s O H _ I h) fun u s1 ⟨y,H1,I1,ry,q⟩=>C0 (ha pins s1 O H1 _ I1 q) fun ov s2 ⟨x,H2,I2,rx,a,C,dx,fs,ex,ea,c,n,l,q2⟩=>?_) hs;subst ex;obtain rfl:ov=Value.ref a:=rx;exact af6 I2 ea c n l ry fun s3 I3=>⟨O,_,I3,q2⟩
noncomputable def rAdd:V->V->Hp->VK->Prop:=fun x y H Q=>∃ i j,x=.int i/\y=.int j/\Q (.int (i+j)) H
noncomputable def rSub:V->V->Hp->VK->Prop:=fun x y H Q=>∃ i j,x=.int i/\y=.int j/\Q (.int (i-j)) H
theorem amd:InOp X .Add rAdd:=by
 rintro pins s O H x y u v Q I rx ry ⟨i,j,rfl,rfl,q⟩;obtain ⟨t,rfl⟩:=(show ∃ t,u=Value.int i t from rx)
 obtain ⟨t',rfl⟩:=(show ∃ t',v=Value.int j t' from ry)
 exact PyProof.Rows.iadd_int ⟨.int (i+j),H,I.tok _,⟨_,rfl⟩,q⟩
theorem ame:InOp X .Sub rSub:=by
 rintro pins s O H x y u v Q I rx ry ⟨i,j,rfl,rfl,q⟩;obtain ⟨t,rfl⟩:=(show ∃ t,u=Value.int i t from rx)
 obtain ⟨t',rfl⟩:=(show ∃ t',v=Value.int j t' from ry)
 exact PyProof.Rows.isub_int ⟨.int (i-j),H,I.tok _,⟨_,rfl⟩,q⟩
end
section
variable {X:Cx} {pins:List (Addr×Obj)} {O:St} {H:Hp} {s:Shared} {A:Around} {E:Value->Shared->Prop} {Q:Value->Shared->Prop} {c:Value} {b:Bool}
inductive TyOf (K:PySem.W.Frag) (H:Hp):V->Value->Prop where
 | non:TyOf K H .non (.type "NoneType")
 | bl (x:Bool):TyOf K H (.bl x) (.type "bool")
 | int (i:Int):TyOf K H (.int i) (.type "int")
 | str (x:Str):TyOf K H (.str x) (.type "str")
 | flt (x:UInt64):TyOf K H (.flt x) (.type "float")
 | lst {a:Addr} {xs:List V} (e:H a=some (.lst xs)):TyOf K H (.ref a) (.type "list")
 | frz {a:Addr} {o:Obj} {xs:List V} (e:H a=some (.frz o (.lst xs))):TyOf K H (.ref a) (.type "list")
 | tup {a:Addr} {xs:List V} (e:H a=some (.tup xs)):TyOf K H (.ref a) (.type "tuple")
 | dK {a:Addr} {kvs:List (B5×V)} (e:H a=some (.dK kvs)):TyOf K H (.ref a) (.type "dict")
 | dT {a:Addr} {kvs:List (List B5×V)} (e:H a=some (.dT kvs)):TyOf K H (.ref a) (.type "dict")
 | ins {a C dx:Addr} {fs:List (Str×V)} (e:H a=some (.ins C dx fs)) (cl:Cls K C) (ha:L4 K (.ref C) "__class__"=some (some (.builtin "object.__class__")))
   (hn:aX K (.builtin "object.__class__") "__get__"=some (some (.builtin "getset_descriptor.__get__"))) (f6:gE K (.builtin "object.__class__")=some true)
   (hm:R4 K C (.type "object")=some true):TyOf K H (.ref a) (.ref C)
theorem agR{x:V}{u t:Value}(I:Inv X pins O H s)(rx:RelV x u)(ty:TyOf X.K H x t)(e:K9 X.K t c=some b)(h:∀ tk,Q (.bool b) { s with toks:=tk }) :
  wpAny (model X.prog X.w) A (call (.builtin "isinstance") [u,c]) Q E s:=by
 cases ty with
 | non=>cases (show u=Value.none from rx);exact X6 PySem.W.kitx_none I.kIn True.intro e (fun z=>nomatch z) h
 | bl y=>cases (show u=Value.bool y from rx);exact X6 PySem.W.kitx_bool I.kIn True.intro e (fun z=>nomatch z) h
 | int i=>obtain ⟨t,q⟩:=(show ∃ t,u=Value.int i t from rx);cases q;exact X6 PySem.W.kitx_int I.kIn True.intro e (fun z=>nomatch z) h
 | str y=>obtain ⟨t,q⟩:=(show ∃ t,u=Value.str y t from rx);cases q;exact X6 PySem.W.kitx_str I.kIn True.intro e (fun z=>nomatch z) h
 | flt y=>obtain ⟨t,q⟩:=(show ∃ t,u=Value.float y t from rx);cases q;exact X6 PySem.W.kitx_float I.kIn True.intro e (fun z=>nomatch z) h
 | @lst a xs ea=>
  cases (show u=Value.ref a from rx)
  obtain ⟨_,_,n,_,h1⟩:=(show ObjOk X.prog X.w H s.heap a (.lst xs) from I.hok a _ ea)
  exact X6 PySem.W.kitx_list I.kIn ⟨_,h1,rfl⟩ e (fun z=>nomatch z) h
 | @frz a ob xs ea=>
  cases (show u=Value.ref a from rx)
  obtain ⟨_,_,_,n,_,h1⟩:=(show ObjOk X.prog X.w H s.heap a (.frz ob (.lst xs)) from I.hok a _ ea)
  exact X6 PySem.W.kitx_list I.kIn ⟨_,h1,rfl⟩ e (fun z=>nomatch z) h
 | @tup a xs ea=>
  cases (show u=Value.ref a from rx)
  obtain ⟨_,_,_,p⟩:=(show ObjOk X.prog X.w H s.heap a (.tup xs) from I.hok a _ ea)
  obtain ⟨o,h1,h2,_⟩:=p;exact X6 PySem.W.kitx_tuple I.kIn ⟨o,h1,h2⟩ e (fun z=>nomatch z) h
 | @dK a kvs ea=>
  cases (show u=Value.ref a from rx)
  obtain ⟨_,_,vs,_,p⟩:=(show ObjOk X.prog X.w H s.heap a (.dK kvs) from I.hok a _ ea)
  obtain ⟨o,es,ep,h1,h2,_⟩:=p;exact X6 PySem.W.kitx_dict I.kIn ⟨o,h1,h2.1⟩ e (fun z=>nomatch z) h
 | @dT a kvs ea=>
  cases (show u=Value.ref a from rx)
  obtain ⟨_,_,xs,_,o,es,ep,h1,h2,_⟩:=(show ObjOk X.prog X.w H s.heap a (.dT kvs) from I.hok a _ ea)
  exact X6 PySem.W.kitx_dict I.kIn ⟨o,h1,h2.1⟩ e (fun z=>nomatch z) h
 | @ins a C dx fs ea cl ha hn f6 hm=>
  cases (show u=Value.ref a from rx)
  obtain ⟨mA,zy,_⟩:=jY I.hok ea;obtain ⟨od,J,_⟩:=zy.look;exact X6 (PySem.W.kitx_own (cl.get _) cl.hd ha hn f6 hm) I.kIn J e (fun z=>nomatch z) h
end
end L2
namespace L2
open PySem PySem.Spec PyProof.Rows
structure Room(k:Nat)(A:Around):Prop where
 hd:A.handled=none
 dp:A.depth+3*k+5<recursionLimit
 un:A.units+16*k+200<cLine
 gd:A.guards=some []
theorem Room.mono{j k:Nat}{A:Around}(r:Room k A)(h:j<=k):Room j A:=⟨r.hd,by have:=r.dp;lia,by have:=r.un;lia,r.gd⟩
theorem Room.deeper{k:Nat}{A:Around}(r:Room (k+1) A)(env:Env):Room k (A.deeper env):=
 ⟨r.hd,by have:=r.dp;show A.depth+1+3*k+5<_;lia,by have:=r.un;show A.units+3+16*k+200<_;lia,r.gd⟩
theorem af7{A:Around}{C:Addr}{us:List Value}{kw:List (Str×Value)} : (A.under (.builtin "type.__call__" ⟨.ref C::us,kw⟩)).depth=A.depth+1:=by
 first | rfl | simp [Around.under,Code.weight,Code.isCreation,Code.isGuard,Code.isCaller,Code.frames,Code.isFrame,guardIds]
theorem af8{A:Around}{C:Addr}{us:List Value}{kw:List (Str×Value)} : (A.under (.builtin "type.__call__" ⟨.ref C::us,kw⟩)).units=A.units+1:=by
 first | rfl | simp [Around.under,Code.cUnits,Code.frames,Code.isFrame]
theorem Room.make{k:Nat}{A:Around}(r:Room (k+1) A)(C:Addr)(us:List Value)(kw:List (Str×Value)):Room k (A.under (.builtin "type.__call__" ⟨.ref C::us,kw⟩)):=
 ⟨r.hd,by have:=r.dp;rw [af7];lia,by have:=r.un;rw [af8];lia,r.gd⟩
theorem Room.depth{k:Nat}{A:Around}(r:Room k A):A.depth<recursionLimit:=by have:=r.dp;lia
theorem Room.units{k:Nat}{A:Around}(r:Room k A):A.units+64<cLine:=by have:=r.un;lia
noncomputable def tNil:TA:=fun _ H Q=>Q [] H
noncomputable def tCons (ta:TE) (tr:TA):TA:=fun O H Q=>ta O H fun x H1=>tr O H1 fun xs H2=>Q (x::xs) H2
section
variable {X:Cx} {e:Expr} {es:List Expr} {te:TE} {t:TA} {pos:Pos}
theorem amf:PA X [] tNil:=fun _ _ _ _ H Q I h=>Calls.spliced_nil ⟨[],H,I,.nil,h⟩
theorem akh(ha:PE X e te)(hr:PA X es t)(hs:starEach (e::es) X.env=(false,eval e X.env)::starEach es X.env:=by rfl):PA X (e::es) (tCons te t):=by
 intro pos pins s O H Q I h;rw [hs];show wpAny _ _ (spliced ((false,eval e X.env)::backTo pos (starEach es X.env))) _ _ s;refine Calls.spliced_cons (C0 (ha pins s O H _ I h) fun u s1 ⟨x,H1,I1,r1,q1⟩=>?_);exact C0 (hr pos pins s1 O H1 _ I1 q1) fun us s2 ⟨xs,H2,I2,r2,q2⟩=>⟨x::xs,H2,I2,.cons r1 r2,q2⟩
noncomputable def tTup (t:TA):TE:=fun O H Q=>t O H fun xs H1=>xs.length<=sizeLine/\∀ p,H1 p=none->Q (.ref p) (A0 H1 p (.tup xs))
noncomputable def tLst (t:TA):TE:=fun O H Q=>t O H fun xs H1=>xs.length<=sizeLine/\∀ p,H1 p=none->Q (.ref p) (A0 H1 p (.lst xs))
theorem amg{x1}(h:PA X es t):PE X (.Tuple es x1 pos) (tTup t):=by
 intro pins s O H Q I hq;refine wpAny_Tuple_spliced (C0 (h pos pins s O H _ I hq) fun us s1 ⟨xs,H1,I1,r,z,q⟩=>⟨by rw [<- r.length];exact z,?_⟩);have hf:H1 s1.heap.objs.size=none:=I1.hok.fresh (C6 _);refine ⟨.ref s1.heap.objs.size,A0 H1 s1.heap.objs.size (.tup xs),I1.laid (t':=s1.toks) (fun b u e=>Heap.get?_push_of_some _ e) (C6 _) ?_,rfl,q _ hf⟩;exact ⟨z,us,r,⟨_,Heap.get?_push_size _ rfl,rfl,_,rfl⟩⟩
theorem amh(h:PA X es t):PE X (.List es pos) (tLst t):=by
 intro pins s O H Q I hq;refine wpAny_List_spliced (C0 (h pos pins s O H _ I hq) fun us s1 ⟨xs,H1,I1,r,z,q⟩=>⟨by rw [<- r.length];exact z,?_⟩);have hf:H1 s1.heap.objs.size=none:=I1.hok.fresh (C6 _);refine ⟨.ref s1.heap.objs.size,A0 H1 s1.heap.objs.size (.lst xs),I1.laid (t':=s1.toks) (fun b u e=>Heap.get?_push_of_some _ e) (C6 _) ?_,rfl,q _ hf⟩;exact ⟨z,us,0,r,Heap.get?_push_size _ rfl⟩
end
noncomputable abbrev Sp:=List V->Hp->VK->XK->Prop
noncomputable abbrev U3:=List Env->Hp->Shared->XK->Value->Shared->Prop
structure Env0(P:Program)(w:World)(K:PySem.W.Frag)(mg:Str->Option Value)(base:Heap)(A:Around)(outer:List Env)(s:Shared)(H:Hp):Prop where
 frames:A.frames=some outer
 mod:Mod K mg base
 bs:∀ b o,base.get? b=some o->s.heap.get? b=some o/\H b=none
 bsz:base.objs.size<=s.heap.objs.size
 funs:s.heap.FunFrames base outer
 frf:∀ b∈O4 outer,H b=none
 hok:J5 P w H s.heap
 bare:AllBare s.gens
noncomputable def CE (outer:List Env) (P:Program) (w:World) (H:Hp) (s:Shared) (Q:VK) (u:Value) (s':Shared):Prop:=
 ∃ v H',s'.os=s.os/\AllBare s'.gens/\Un (O4 outer) [] H H' s.heap s'.heap/\J5 P w H' s'.heap/\RelV v u/\Q v H'
noncomputable def CR (CX:U3) (outer:List Env) (P:Program) (w:World) (H:Hp) (s:Shared) (Q:VK) (E:XK) (r:Result) (s':Shared):Prop:=
 match r with
 | .ok (.ret u)=>CE outer P w H s Q u s'
 | .ok _=>False
 | .error e=>CX outer H s E e s'
structure FnOk(P:Program)(w:World)(K:PySem.W.Frag)(mg:Str->Option Value)(base:Heap)(CX:U3)(k:Nat)(f:Addr)(fd:FuncData)(ps:List Str)(sp:Sp):Prop where
 len:∀ vs H Q E,sp vs H Q E->vs.length=ps.length
 run:∀ (A:Around) (outer:List Env) (s:Shared) (H:Hp) (args:Args) (us:List Value) (vs:List V) (Q:VK) (E:XK),Room k A->Env0 P w K mg base A outer s H->BindsTo s fd args (ps.zip us)->Vals vs us->sp vs H Q E->
  codeAny (model P w) A (.call (.ref f) args) (CR CX outer P w H s Q E) s
theorem Env0.make{P:Program}{w:World}{K:PySem.W.Frag}{mg:Str->Option Value}{base:Heap}{A:Around}{outer:List Env}{s:Shared}{H:Hp}(e:Env0 P w K mg base A outer s H)(C:Addr)(us:List Value)(kw:List (Str×Value)) :
  Env0 P w K mg base (A.under (.builtin "type.__call__" ⟨.ref C::us,kw⟩)) outer s H:=⟨by first | exact e.frames | (simpa [Around.under,Code.envs,Code.isFrame,pushEnvs] using e.frames),e.mod,e.bs,e.bsz,e.funs,e.frf,e.hok,e.bare⟩
section
variable {X:Cx} {pins:List (Addr×Obj)} {O:St} {H:Hp} {s s':Shared}
theorem Inv.env0(I:Inv X pins O H s):Env0 X.prog X.w X.K X.mg X.base X.A X.stack s H:=
 ⟨I.ok.frames,I.ok.mod,I.bs,F6 I.ok.bsz I.sz,I.stack,I.stkFree,I.hok,I.bare⟩
theorem Inv.after{Q:VK}{u:Value}(I:Inv X pins O H s)(h:CE X.stack X.prog X.w H s Q u s'):EP X pins O Q u s':=by
 obtain ⟨v,H',os,bare,un,hok,r,q⟩:=h;obtain ⟨hh,g,d,t,os'⟩:=s';obtain rfl:os'=s.os:=os;exact ⟨v,H',I.call (h':=hh) (g':=g) (d':=d) (t':=t) (ch:=[]) un hok bare (fun b z=>absurd z (by simp)),r,q⟩
end
noncomputable def tCall (sp:Sp) (dvs:List V) (E:XK) (t:TA):TE:=fun O H Q=>t O H fun vs H1=>sp (vs++dvs) H1 Q E
noncomputable def tMeth (C:Addr) (m:Str) (sp:Sp) (dvs:List V) (E:XK) (ta:TE) (t:TA):TE:=fun O H Q=>ta O H fun x H1=>∃ a dx fs,x=.ref a/\H1 a=some (.ins C dx fs)/\fs.lookup m=none/\
 t O H1 fun vs H2=>sp (x::(vs++dvs)) H2 Q E
noncomputable def tMake (C:Addr) (sp:Sp) (dvs:List V) (E:XK) (t:TA):TE:=fun O H Q=>t O H fun vs H1=>∀ x dx,H1 x=none->H1 dx=none->dx≠x->
 sp (.ref x::(vs++dvs)) (A0 (A0 H1 dx (.own x)) x (.ins C dx [])) (fun v H2=>v=.non/\Q (.ref x) H2) E
noncomputable def Binds (K:PySem.W.Frag) (fd:FuncData) (ps:List Str) (ds:List Value):Prop:=
 ∀ (s:Shared) (us:List Value),K.In s.heap->(us++ds).length=ps.length->BindsTo s fd ⟨us,[]⟩ (ps.zip (us++ds))
theorem Binds.all{K:PySem.W.Frag}{fd:FuncData}{ps:List Str}(h:∀ us:List Value,us.length=ps.length->bindArgs fd ⟨us,[]⟩=pure (ps.zip us)):Binds K fd ps []:=fun s us _ hl=>by
 rw [M7] at hl ⊢
 exact .of_eq (h us hl)
noncomputable def gJ (CX:U3) (X:Cx) (E:XK):Prop:=∀ (pins:List (Addr×Obj)) (O:St) (H:Hp) (s:Shared) (e:Value) (s':Shared),Inv X pins O H s->CX X.stack H s E e s'->X.xe e s'
section
variable {X:Cx} {CX:U3} {k:Nat} {f C:Addr} {fd:FuncData} {ps:List Str} {sp:Sp} {dvs:List V} {ds:List Value} {E:XK} {x m:Str} {p pos apos:Pos} {e o:Expr} {es:List Expr} {ta:TE} {t:TA}
theorem tD{pins:List (Addr×Obj)}{O:St}{H:Hp}{s:Shared}{Q:VK}{us:List Value}{vs:List V}(F:FnOk X.prog X.w X.K X.mg X.base CX k f fd ps sp)(hr:Room k X.A)(hb:Binds X.K fd ps ds)(hd:Vals dvs ds)(hx:gJ CX X E)(I:Inv X pins O H s)(r:Vals vs us)(h:sp (vs++dvs) H Q E):wpAny (model X.prog X.w) X.A (call (.ref f) us) (EP X pins O Q) X.xe s:=by
 have r2:Vals (vs++dvs) (us++ds):=r.append hd;have hl:(us++ds).length=ps.length:=by rw [<- r2.length];exact F.len _ _ _ _ h
 refine wpAny_call (codeAny_mono (F.run X.A X.stack s H ⟨us,[]⟩ (us++ds) (vs++dvs) Q E hr I.env0 (hb s us I.kIn hl) r2 h) fun r s' hq=>?_)
 cases r with
 | error e=>exact hx pins O H s e s' I hq
 | ok fl=>
  cases fl with
  | ret u=>exact I.after hq
  | next=>exact False.elim hq
  | brk=>exact False.elim hq
  | cont=>exact False.elim hq
theorem tE(F:FnOk X.prog X.w X.K X.mg X.base CX k f fd ps sp)(hr:Room k X.A)(hg:Gl X x)(hm:X.mg x=some (.ref f))(hk:Q6 X.K (.ref f)=true)(hb:Binds X.K fd ps ds)(hd:Vals dvs ds)(hx:gJ CX X E)(ha:PA X (e::es) t)(J7:(x==("__debug__" : Str))=false:=by decide)(he:starEach (e::es) X.env=(false,eval e X.env)::starEach es X.env:=by rfl)(P6:(backTo pos (starEach es X.env)).any (·.1)=false:=by rfl) :
  PE X (.Call (.Name x p) (e::es) [] pos) (tCall sp dvs E t):=by
 intro pins s O H Q I h;refine wpAny_Call_Name_kw (dF I hg hm ?_ J7);refine PySem.W.callWith_K (h₀:=X.base) I.ok.mod.kin hk (C0 (ha pos pins s O H _ I h) fun us s1 ⟨vs,H1,I1,r,q⟩=>⟨I1.kIn,?_⟩) he P6;exact tD F hr hb hd hx I1 r q
structure Mk(K:PySem.W.Frag)(C f:Addr):Prop where
 makes:PySem.W.makesIn K C=true
 init:L4 K (.ref C) "__init__"=some (some (.ref f))
 fn:aY K (.ref f)=true
 kp:Q6 K (.ref C)=true
end
noncomputable def PK (X:Cx) (kws:List Keyword) (t:TA):Prop:=
 ∀ (pos:Pos) (pins:List (Addr×Obj)) (s:Shared) (O:St) (H:Hp) (Q:List V->Hp->Prop),Inv X pins O H s->t O H Q->wpAny (model X.prog X.w) X.A (evalAll ((backToKw pos (keywordEach kws X.env)).map (·.2))) (AP X pins O Q) X.xe s
section
variable {X:Cx} {CX:U3} {k:Nat} {f C:Addr} {fd:FuncData} {ps ks:List Str} {sp:Sp} {E:XK} {x m:Str} {p pos apos kpos:Pos} {e o:Expr} {es:List Expr} {kws:List Keyword} {te ta:TE} {t tk:TA} {nm:Option Str}
theorem ami:PK X [] tNil:=fun _ _ _ _ H Q I h=>wpAny_evalAll_nil ⟨[],H,I,.nil,h⟩
theorem aki(ha:PE X e te)(hr:PK X kws t):PK X (⟨nm,e,kpos⟩::kws) (tCons te t):=by
 intro pos pins s O H Q I h;show wpAny _ _ (evalAll ((do let v <- eval e X.env;standAt pos;pure v)::(backToKw pos (keywordEach kws X.env)).map (·.2))) _ _ s;refine wpAny_evalAll_cons (wpAny_bind (C0 (ha pins s O H _ I h) fun u s1 ⟨x,H1,I1,r1,q1⟩=>wpAny_bind (wpAny_standAt (wpAny_pure ?_))));exact C0 (hr pos pins s1 O H1 _ I1 q1) fun us s2 ⟨xs,H2,I2,r2,q2⟩=>⟨x::xs,H2,I2,.cons r1 r2,q2⟩
variable {g:List Value->List Value->List Value} {gV:List V->List V->List V}
end
structure FnScope(N P:List Str)(sc:Scope):Prop where
 kind:sc.kind=.function
 co:sc.isCoroutine=false
 gen:sc.isGenerator=false
 nd:N.Nodup
 pre:N.take P.length=P
 par:∀ x∈P,sc.names.lookup x=some .local\/sc.names.lookup x=some .cell
 nofree:∀ y∈sc.names,y.2≠.free
theorem tF{kindOf:Str->Option NameKind}{x:Str} : ∀ {binds:List (Str×Value)} {m:Str->Option Value},(∀ v,(x,v)∉binds)->bindL kindOf binds m x=m x
 | [],_,_=>rfl
 | (n,v)::r,m,h=>by
  unfold bindL;rw [tF fun w hw=>h w (M6 _ hw)]
  split
  .have:x≠n:=by rintro rfl;exact h v M5
   simp [this]
  .rfl
theorem tG{kindOf:Str->Option NameKind}{x:Str} : ∀ {binds:List (Str×Value)} {m:Str->Option Value},(∀ v,(x,v)∉binds)->bindC kindOf binds m x=m x
 | [],_,_=>rfl
 | (n,v)::r,m,h=>by
  unfold bindC;rw [tG fun w hw=>h w (M6 _ hw)]
  split
  .rfl
  .have:x≠n:=by rintro rfl;exact h v M5
   simp [this]
theorem tH{kindOf:Str->Option NameKind}{x:Str}{v:Value} : ∀ {P:List Str} {vs:List Value} {i:Nat} {m:Str->Option Value},P.Nodup->P[i]?=some x->vs[i]?=some v->kindOf x=some .local->
  bindL kindOf (P.zip vs) m x=some v
 | [],_,_,_,_,h,_,_=>by simp at h
 | _::_,[],_,_,_,_,h,_=>by simp at h
 | p::P,w::vs,0,m,nd,h1,h2,hk=>by
  simp at h1 h2;subst h1;subst h2;show bindL kindOf ((p,w)::P.zip vs) m p=_;unfold bindL;rw [tF fun v hv=>(W0.mp nd).1 (List.of_mem_zip hv).1,if_pos hk]
  simp
 | p::P,w::vs,i+1,m,nd,h1,h2,hk=>by
  show bindL kindOf ((p,w)::P.zip vs) m x=_;unfold bindL;exact tH (i:=i) (W0.mp nd).2 (by simpa using h1) (by simpa using h2) hk
theorem tI{kindOf:Str->Option NameKind}{x:Str}{v:Value} : ∀ {P:List Str} {vs:List Value} {i:Nat} {m:Str->Option Value},P.Nodup->P[i]?=some x->vs[i]?=some v->kindOf x≠some .local->
  bindC kindOf (P.zip vs) m x=some v
 | [],_,_,_,_,h,_,_=>by simp at h
 | _::_,[],_,_,_,_,h,_=>by simp at h
 | p::P,w::vs,0,m,nd,h1,h2,hk=>by
  simp at h1 h2;subst h1;subst h2;show bindC kindOf ((p,w)::P.zip vs) m p=_;unfold bindC;rw [tG fun v hv=>(W0.mp nd).1 (List.of_mem_zip hv).1,if_neg hk]
  simp
 | p::P,w::vs,i+1,m,nd,h1,h2,hk=>by
  show bindC kindOf ((p,w)::P.zip vs) m x=_;unfold bindC;exact tI (i:=i) (W0.mp nd).2 (by simpa using h1) (by simpa using h2) hk
noncomputable def start (N:List Str) (vs:List V):St:=vs.map some++N2 (N.length-vs.length) none
noncomputable def cxOf (CX:U3) (P:Program) (w:World) (K:PySem.W.Frag) (mg:Str->Option Value) (base:Heap) (N:List Str) (qual:Str) (scope:Scope) (f:Addr) (cd:Value) (A:Around) (outer:List Env) (s:Shared) (H:Hp) (E:XK):Cx where
 prog:=P
 w:=w
 K:=K
 mg:=mg
 base:=base
 A:=A.deeper (envOfC qual scope s.heap.objs.size f cd)
 N:=N
 s₀:=s
 H₀:=H
 env:=envOfC qual scope s.heap.objs.size f cd
 outer:=outer
 stack:=envOfC qual scope s.heap.objs.size f cd::outer
 ex:=[]
 calm:=true
 fn:=fun _=>true
 pn:=[]
 xe:=fun e s'=>wpAny (model P w) (A.deeper (envOfC qual scope s.heap.objs.size f cd)) (leaving (envOfC qual scope s.heap.objs.size f cd) e) (fun _ s''=>CX outer H s E e s'') (fun e' s''=>CX outer H s E e' s'') s'
theorem tJ{sc:Scope}{n:Nat}{x:Str}(h:sc.names.lookup x=some .cell):∃ c,(cellsFrom n sc.names []).lookup x=some c:=by
 have q:=PySem.W.cellsFrom_some sc.names n [] (.inl h);exact Option.isSome_iff_exists.mp q
theorem agT{CX:U3}{P:Program}{w:World}{K:PySem.W.Frag}{mg:Str->Option Value}{base:Heap}{N ps:List Str}{qual:Str}{scope:Scope}{f:Addr}{cd:Value}{A:Around}{outer:List Env}{s s1:Shared}{H:Hp}{E:XK}{us:List Value}{vs:List V}(S:FnScope N ps scope)(hd:A.handled=none)(e0:Env0 P w K mg base A outer s H)(hl:vs.length=ps.length)(r:Vals vs us)(x:InCallC s s.heap.objs.size (bindL (envOfC qual scope s.heap.objs.size f cd).kindOf (ps.zip us) fun _=>none) (cellsFrom (s.heap.objs.size+1) scope.names []) (bindC (envOfC qual scope s.heap.objs.size f cd).kindOf (ps.zip us) fun _=>none) s1) :
  Inv (cxOf CX P w K mg base N qual scope f cd A outer s H E) [] (start N vs) H s1:=by
 have P6:ps.length<=N.length:=by have:=congrArg List.length S.pre;rw [L9] at this;lia
 obtain ⟨h1,tk,rfl,hk⟩:=x.done;have noA:∀ b:Addr,b∉(cxOf CX P w K mg base N qual scope f cd A outer s H E).ex:=fun b z=>absurd (show b∈([]:List Addr) from z) (by simp)
 refine ⟨⟨e0.mod,S.kind,rfl,rfl,C6 _,fun y z c h1 h2=>?_,fun y hy=>?_,fun y c _ h=>?_,fun _=>hd,Around.frames_deeper e0.frames,.inr ⟨rfl,rfl⟩,fun b z=>absurd z (noA b),e0.bs,e0.bsz,fun b _ _=>noA b,fun b z=>absurd z (noA b),e0.funs,e0.frf⟩,
  rfl,e0.bare,Un.kept hk,⟨_,x.toInCall.ns,fun i y v h1 h2 h3=>?_⟩,fun y c h=>⟨_,x.cell y c h⟩,e0.hok.fresh (C6 _),fun y c h=>?_,fun p hp=>absurd (show p∈([]:List (Addr×Obj)) from hp) (by simp),e0.hok.kept hk,?_⟩
 .exact name_of_addr x.apart (PySem.mem_of_lookup h1) (PySem.mem_of_lookup h2)
 .have hy:scope.names.lookup y=some .cell\/scope.names.lookup y=some .free:=hy
  rcases hy with hy | hy
  .exact tJ hy
  .exact absurd rfl (S.nofree _ (PySem.mem_of_lookup hy))
 .exact Nat.le_of_lt (x.above y c (PySem.mem_of_lookup h))
 .have hi:i<vs.length:=by
   unfold start at h2
   by_cases hi:i<vs.length
   .exact hi
   .rw [fV (by simpa using hi)] at h2;rw [List.getElem?_replicate] at h2
    split at h2 <;> cases h2
  have ha:vs[i]?=some v:=by
   unfold start at h2;rw [fW (by simpa using hi),Q5] at h2;cases e:vs[i]? with
   | none=>rw [e] at h2;cases h2
   | some a=>rw [e] at h2;cases h2;rfl
  obtain ⟨u,hu,rv⟩:=r.get ha;have hp:ps[i]?=some y:=by
   rw [<- S.pre,List.getElem?_take_of_lt (by lia)];exact h1
  have ndP:ps.Nodup:=by rw [<- S.pre];exact S.nd.sublist (List.take_sublist _ _)
  refine ⟨u,rv,?_⟩
  rcases S.par y (P1 hp) with k | k
  .exact .inl ⟨k,tH ndP hp hu k⟩
  .obtain ⟨c,e⟩:=tJ (n:=s.heap.objs.size+1) k;refine .inr ⟨.inl k,c,e,?_⟩;have q:=x.cell y c e;rw [tI ndP hp hu (by show scope.names.lookup y≠_;rw [k];decide)] at q;exact q
 .exact e0.hok.fresh (Nat.le_of_lt (x.above y c (PySem.mem_of_lookup h)))
 .unfold start;show _=N.length;rw [E4,A8,List.length_replicate];lia
theorem fn_of{CX:U3}{P:Program}{w:World}{K:PySem.W.Frag}{mg:Str->Option Value}{base:Heap}{k:Nat}{f:Addr}{name qual:Str}{params:Arguments}{body:List Stmt}{scope:Scope}{dV kV doc pm cdv ct oc:Value}{an od:Option Addr}{osl:Array (Option Value)}{N ps:List Str}{sp:Sp}(lk:K.lookup f=some ⟨oc,od,.func (R5 name qual params body scope dV kV doc pm an cdv ct),osl⟩)(P5:Z8 K cdv qual=true)(S:FnScope N ps scope)(len:∀ vs H Q E,sp vs H Q E->vs.length=ps.length)(Q2:∀ (A:Around) (outer:List Env) (s:Shared) (H:Hp) (vs:List V) (Q:VK) (E:XK),Room k (A.deeper (envOfC qual scope s.heap.objs.size f cdv))->sp vs H Q E->
   ∃ t,P7 (cxOf CX P w K mg base N qual scope f cdv A outer s H E) body t/\t { nx:=fun _ H'=>Q .non H',rt:=Q } (start N vs) H) :
  FnOk P w K mg base CX (k+1) f (R5 name qual params body scope dV kV doc pm an cdv ct) ps sp:=by
 refine ⟨len,fun A outer s H args us vs Q E hr e0 hb r k8=>?_⟩;have hl:=len _ _ _ _ k8;have KX:K.In s.heap:=e0.mod.kin.keeps fun b o e=>(e0.bs b o e).1
 have lim:s.heap.NoLimit:=e0.mod.nolimit.keeps fun b o e=>(e0.bs b o e).1
 have iI:∀ y∈ps.zip us,scope.names.lookup y.1=some .local\/(scope.names.lookup y.1=some .cell/\((cellsFrom (s.heap.objs.size+1) scope.names []).lookup y.1).isSome=true):=fun ⟨n,v⟩ hy=>by
  rcases S.par n (List.of_mem_zip hy).1 with q | q
  .exact .inl q
  .exact .inr ⟨q,PySem.W.cellsFrom_some _ _ _ (.inl q)⟩
 refine codeAny_call_function hr.depth (KX _ _ lk) rfl S.co S.gen rfl (PySem.W.codeRec_of KX P5) (hb _ _ _ _ ?_);refine wpAny_newFunctionEnv_cells S.kind iI fun env he s1 x=>?_
 subst he;refine ⟨lim.keeps x.toInCall.keep,codeAny_func ?_⟩;obtain ⟨t,ht,hq⟩:=Q2 A outer s H vs Q E (hr.deeper _) k8;have I:Inv (cxOf CX P w K mg base N qual scope f cdv A outer s H E) [] (start N vs) H s1:=agT S hr.hd e0 hl r x;refine wpAny_mono (ht [] s1 (start N vs) H _ I hq) (fun fl s' hs=>?_) fun e s' hs=>hs
 have fin:∀ {σ':St} {H':Hp} {v:V} {u:Value},Inv (cxOf CX P w K mg base N qual scope f cdv A outer s H E) [] σ' H' s'->RelV v u->Q v H'->CE outer P w H s Q u s':=
  fun {σ' H' v u} J rv q=>⟨v,H',J.os,J.bare,J.base,J.hok,rv,q⟩
 cases fl with
 | ret u=>
  obtain ⟨v,σ',H',J,rv,q⟩:=hs;exact fin J rv q
 | next=>
  obtain ⟨σ',H',J,q⟩:=hs;exact fin (v:=V.non) (u:=Value.none) J rfl q
 | brk=>
  obtain ⟨_,_,_,q⟩:=hs;exact False.elim q
 | cont=>
  obtain ⟨_,_,_,q⟩:=hs;exact False.elim q
end L2
section
variable {C T a b dx f fa it r sl t0:PySem.Addr}{dvs vs xs ys:List L2.V}{Q:L2.VK}{cd ct oc pm u v vl vu:PySem.Value}{ck i j k m n t' x1:Nat}{items:Array PySem.Value}{fr ns:List Int}{bmB its us:List PySem.Value}{A:PySem.Around}{s zu:PySem.Shared}{x y:L2.V}{pins:List (PySem.Addr×PySem.Obj)}{O:L2.St}{H H' H0 H1 H2 H3 zt:L2.Hp}{h h' h2:PySem.Heap}{p q qual z:PySem.Str}{L M N N' S acc bad ks line loose ps ts zs:List PySem.Str}{K:PySem.W.Frag}{mg:PySem.Str->Option PySem.Value}{fd:PySem.FuncData}{sp:L2.Sp}{X:L2.Cx}{kvs:List (L2.B5×L2.V)}{prog:PySem.Program}{E:PySem.Value->PySem.Shared->Prop}{ixs:List Nat}{e elt iter target tg:PySem.Expr}{elts es ifs:List PySem.Expr}{g:L2.TG}{c:L2.TT}{te tl:L2.TE}{fp zx rs:List PySem.Addr}{cpos kpos spos tpos:PySem.Pos}{calm fg neg:Bool}{st:PySem.Stmt}{an od:Option PySem.Addr}{tb:L2.TS}{D:L2.Ends}{lo:Int}{o:PySem.Obj}{ta:L2.TA}{ss:Array (Option PySem.Value)}
namespace L2
open PySem PySem.Spec PyProof.Rows
section
variable {X:Cx} {x:Str} {p pos:Pos} {e:Expr} {es:List Expr} {t:TA} {id T:String} {r:List V->Hp->VK->Prop}
noncomputable def w6 (r:List V->Hp->VK->Prop) (t:TA):TE:=fun O H Q=>t O H fun vs H1=>r vs H1 Q
theorem ain(hc:CallR X (.builtin id) r)(hg:Gl X x)(hm:X.mg x=none)(hv:bootBuiltins x=some (.builtin id))(ha:PA X (e::es) t)(hn:x≠"__name__":=by decide)(J7:(x==("__debug__" : Str))=false:=by decide)(he:starEach (e::es) X.env=(false,eval e X.env)::starEach es X.env:=by rfl)(P6:(backTo pos (starEach es X.env)).any (·.1)=false:=by rfl):PE X (.Call (.Name x p) (e::es) [] pos) (w6 r t):=by
 intro pins s O H Q I h;refine wpAny_Call_Name_kw (v9 I hg hm hv ?_ hn J7);exact PyProof.Rows.callWith_builtin1 (C0 (ha pos pins s O H _ I h) fun us s1 ⟨vs,H1,I1,r1,q1⟩=>hc pins s1 O H1 vs us Q I1 r1 q1) he P6
theorem agU(hc:CallR X (.type T) r)(hg:Gl X x)(hm:X.mg x=none)(hv:bootBuiltins x=some (.type T))(ha:PA X (e::es) t)(hn:x≠"__name__":=by decide)(J7:(x==("__debug__" : Str))=false:=by decide)(he:starEach (e::es) X.env=(false,eval e X.env)::starEach es X.env:=by rfl)(P6:(backTo pos (starEach es X.env)).any (·.1)=false:=by rfl):PE X (.Call (.Name x p) (e::es) [] pos) (w6 r t):=by
 intro pins s O H Q I h;refine wpAny_Call_Name_kw (v9 I hg hm hv ?_ hn J7);exact PyProof.Rows.callWith_type1 (C0 (ha pos pins s O H _ I h) fun us s1 ⟨vs,H1,I1,r1,q1⟩=>hc pins s1 O H1 vs us Q I1 r1 q1) he P6
end
end L2
namespace HT
open PySem PyProof.Rows
section
open PySem.SeqAt
open PySem.AutoSeq1 (wpAny_loadPart')
open PySem.MeetsSeq PySem.MeetsSeq2 PySem.MeetsSeq3
end
section
variable {prog:Program} {w:World} {A:Around} {E:Value->Shared->Prop} {s:Shared}
theorem cat_tup{t:Addr}{vs ws:List Value}{Q:Value->Shared->Prop}(ht:IsTup s.heap t vs.toArray)(hb:IsTup s.heap b ws.toArray)(hv:vs≠[])(h1:ws=[]->Q (.ref t) s)(h2:ws≠[]->Q (.ref s.heap.objs.size) { s with heap:=s.heap.push { cls:=.type "tuple",data:=.seq (vs++ws).toArray } })(hsz:vs.length+ws.length<=sizeLine):wpAny (model prog w) A (binaryOp .Add (.ref t) (.ref b)) Q E s:=by
 obtain ⟨⟨cls,dd,data,sl⟩,ho,hc,n,hd⟩:=id ht;obtain ⟨⟨cls2,zQ,data2,mZ⟩,lU,r0,n2,T8⟩:=id hb;simp only at hc hd r0 T8;subst hc hd r0 T8;have e:vs.toArray++ws.toArray=(vs++ws).toArray:=by simp
 by_cases hw:ws=[]
 .exact concat_meets ⟨_,ho,rfl⟩ ⟨_,lU,rfl⟩ noFill_tuple_add seq_tuple_add PySem.F.slot_tuple_add PySem.F.entry_tuple_add (PySem.F.args_tuple_add_2 _ _)
   (tuple_addW1 t b vs.toArray ws.toArray n n2 dd zQ sl mZ (by simpa using hv) (by simp [hw])) ⟨ho,lU,h1 hw⟩
 .refine concat_meets ⟨_,ho,rfl⟩ ⟨_,lU,rfl⟩ noFill_tuple_add seq_tuple_add PySem.F.slot_tuple_add PySem.F.entry_tuple_add (PySem.F.args_tuple_add_2 _ _)
   (tuple_addW2 t b vs.toArray ws.toArray n n2 dd zQ sl mZ (by simpa using hv) (by simpa using hw) (by rw [J2,J2];exact hsz)) ⟨ho,lU,?_⟩
  rw [e];exact h2 hw
noncomputable def sIx (n d:Nat):Option Int->Nat
 | none=>d
 | some v=>if v<0 then (v+(n:Int)).toNat else min v.toNat n
theorem sIx_nat(n d k:Nat):sIx n d (some (k:Int))=min k n:=by
 show (if (k:Int)<0 then ((k:Int)+(n:Int)).toNat else min (k:Int).toNat n)=min k n;rw [if_neg (by lia),Int.toNat_natCast]
theorem sIx_le(n d:Nat)(hd:d<=n)(o:Option Int):sIx n d o<=n:=by
 cases o with
 | none=>exact hd
 | some v=>
  show (if v<0 then (v+(n:Int)).toNat else min v.toNat n)<=n
  by_cases hv:v<0
  .rw [if_pos hv];lia
  .rw [if_neg hv];exact Nat.min_le_right _ _
theorem clip_eq(v:Int)(n d:Nat):(if v<0 then max (v+(n:Int)) 0 else min v (n:Int))=((sIx n d (some v):Nat):Int):=by
 show (if v<0 then max (v+(n:Int)) 0 else min v (n:Int))=(((if v<0 then (v+(n:Int)).toNat else min v.toNat n):Nat):Int)
 by_cases hv:v<0
 .simp only [if_pos hv];lia
 .simp only [if_neg hv];lia
theorem af9(lo hi:Option Int)(n:Nat):Builtin.Slice.sliceAdjust lo hi 1 (n:Int)=(((sIx n 0 lo:Nat):Int),((sIx n n hi:Nat):Int)):=by
 have h1:¬ ((1:Int)<0):=by lia
 unfold Builtin.Slice.sliceAdjust;simp only [h1,if_false];refine Prod.ext ?_ ?_
 .cases lo with
  | none=>rfl
  | some v=>exact clip_eq v n 0
 .cases hi with
  | none=>rfl
  | some v=>exact clip_eq v n n
theorem aga(i j:Nat):Builtin.Slice.slicePlaces (i:Int) (j:Int) 1=j-i:=by
 unfold Builtin.Slice.slicePlaces;have h1:(1:Int) > 0:=by lia
 simp only [h1,if_true,Int.ediv_one]
 split <;> lia
theorem tK{o:Option Int}{Q:Option Int->Shared->Prop}(p:IsPart v o)(h:Q o s):wpAny (model prog w) A (Builtin.Slice.slicePartIndex v) Q E s:=by
 cases p with
 | none=>exact slicePart_none h
 | int i t=>exact slicePart_int h
theorem sliceApplied_gen{lo hi:Option Int}{Q:Int×Int×Nat->Shared->Prop}(hs:s.heap.IsSliceOf sl vl vu .none)(pl:IsPart vl lo)(pu:IsPart vu hi)(h:Q (((sIx n 0 lo:Nat):Int),1,sIx n n hi-sIx n 0 lo) s):wpAny (model prog w) A (Builtin.Slice.sliceApplied (.ref sl) (pure (n:Int))) Q E s:=by
 obtain ⟨os,bW,lV,iJ⟩:=id hs;unfold Builtin.Slice.sliceApplied Builtin.Slice.sliceFields;refine wpAny_bind (wpAny_bind (wpAny_field bW iJ (x:=vl) rfl (wpAny_bind (wpAny_field bW iJ (x:=vu) rfl (wpAny_bind (wpAny_field bW iJ (x:=.none) rfl (wpAny_pure ?_)))))));refine wpAny_bind (slicePart_none ?_);show wpAny _ _ (if ((1:Int)==0)=true then _ else _) _ _ s;rw [if_neg (by decide)];refine wpAny_bind (tK pl (wpAny_bind (tK pu (wpAny_bind (wpAny_pure ?_)))));show wpAny _ _ (match Builtin.Slice.sliceAdjust lo hi 1 (n:Int) with | (lo,hi)=>pure (lo,(1:Int),Builtin.Slice.slicePlaces lo hi 1)) _ _ s;rw [af9 lo hi n];show wpAny _ _ (pure (((sIx n 0 lo:Nat):Int),(1:Int),Builtin.Slice.slicePlaces ((sIx n 0 lo:Nat):Int) ((sIx n n hi:Nat):Int) 1)) _ _ s;rw [aga];exact wpAny_pure h
theorem aio(xs:Array Value)(i k:Nat):((M8 k).filterMap fun (m:Nat)=>xs[((i:Int)+(m:Int)*1).toNat]?).toArray=((xs.toList.drop i).take k).toArray:=by
 have e:(fun (m:Nat)=>xs[((i:Int)+(m:Int)*1).toNat]?)=fun m=>xs[i+m]?:=by
  funext m
  have:((i:Int)+(m:Int)*1).toNat=i+m:=by lia
  rw [this]
 rw [e]
 have:=pick_run xs i k
 rw [List.filterMap_map] at this;have e2:((fun x=>xs[x]?)∘fun x=>i+x)=fun m=>xs[i+m]?:=rfl
 rw [e2] at this;rw [this]
theorem getItem_tuple_cut{t:Addr}{lo hi:Option Int}{Q:Value->Shared->Prop}(ht:IsTup s.heap t items)(hs:s.heap.IsSliceOf sl vl vu .none)(pl:IsPart vl lo)(pu:IsPart vu hi)(hw:¬ (sIx items.size 0 lo=0/\sIx items.size items.size hi=items.size))(h:Q (.ref s.heap.objs.size) { s with heap:=s.heap.push { cls:=.type "tuple",data:=.seq ((items.toList.drop (sIx items.size 0 lo)).take (sIx items.size items.size hi-sIx items.size 0 lo)).toArray } })(hsz:items.size<=sizeLine):wpAny (model prog w) A (getItem (.ref t) (.ref sl)) Q E s:=by
 have U7:sizeOk (.seq ((items.toList.drop (sIx items.size 0 lo)).take (sIx items.size items.size hi-sIx items.size 0 lo)).toArray):=by
  show ((items.toList.drop (sIx items.size 0 lo)).take (sIx items.size items.size hi-sIx items.size 0 lo)).toArray.size<=sizeLine;rw [J2,L9,i4,aZ];lia
 have hj:sIx items.size items.size hi<=items.size:=sIx_le _ _ (C6 _) hi;obtain ⟨os,bW,lV,iJ⟩:=id hs;have hTs:s.TypeIs (.ref sl) "slice":=⟨os,bW,lV⟩
 unfold getItem
 try with_reducible refine wpAny_holding ?_
 first | refine wpAny_bind (wpAny_pure ?_) | skip
 refine wpAny_bind (wpAny_sequenceKey ht.typeIs (by decide) ?_);refine wpAny_bind (wpAny_callSpecial?_slot (name:=Str.ofString "__getitem__") ht.typeIs PyProof.Rows.slot_tuple_getitem
  (wpAny_call_entry PyProof.Rows.slot_tuple_getitem ht.typeIs entry_tuple_getitem ?_ (args_tuple_getitem _ _)))
 show wpAny _ _ (Builtin.Tuple.tupleItemsOf (.ref t) >>= _) _ _ s;refine wpAny_bind (tupleItemsOf_ ht ?_);refine wpAny_bind (wpAny_typeOf hTs ?_);rw [if_pos (by decide)];refine wpAny_bind (sliceApplied_gen hs pl pu ?_);have iK:¬ ((((sIx items.size 0 lo:Nat):Int)==0&&(1:Int)==1&&(sIx items.size items.size hi-sIx items.size 0 lo)==items.size)=true):=by
  intro q;rw [Z7,Z7] at q;have q1:((sIx items.size 0 lo:Nat):Int)=0:=eq_of_beq q.1.1;have q2:sIx items.size items.size hi-sIx items.size 0 lo=items.size:=eq_of_beq q.2;exact hw ⟨by lia,by lia⟩
 show wpAny _ _ (if (((sIx items.size 0 lo:Nat):Int)==0&&(1:Int)==1&&(sIx items.size items.size hi-sIx items.size 0 lo)==items.size)=true then _ else _) _ _ s;rw [if_neg iK,aio]
 first
  | exact wpAny_bind (m:=Builtin.Tuple.tupleExact _) (wpAny_newObj_type (wpAny_pure ⟨_,rfl,wpAny_pure h⟩) U7)
  | exact wpAny_bind (m:=Builtin.Tuple.tupleExact _) (wpAny_newObj_type (wpAny_bind (wpAny_pure (wpAny_pure ⟨_,rfl,wpAny_pure h⟩))) U7)
  | exact wpAny_bind (wpAny_bind (m:=Builtin.Tuple.tupleExact _) (wpAny_newObj_type (wpAny_pure (wpAny_pure ⟨_,rfl,wpAny_pure h⟩)) U7))
  | exact wpAny_bind (wpAny_bind (m:=Builtin.Tuple.tupleExact _) (wpAny_newObj_type (wpAny_pure ⟨_,rfl,wpAny_pure h⟩) U7))
end
end HT
namespace L2
open PySem PySem.Spec PyProof.Rows
noncomputable abbrev TO:=St->Hp->(Option Int->Hp->Prop)->Prop
noncomputable def PO (X:Cx) (e:Option Expr) (t:TO):Prop:=
 ∀ (pins:List (Addr×Obj)) (s:Shared) (O:St) (H:Hp) (Q:Option Int->Hp->Prop),Inv X pins O H s->t O H Q->
  wpAny (model X.prog X.w) X.A (evalPart e X.env) (fun u s'=>∃ o H',Inv X pins O H' s'/\IsPart u o/\Q o H') X.xe s
noncomputable def nA:TO:=fun _ H Q=>Q none H
noncomputable def tPart (t:TE):TO:=fun O H Q=>t O H fun x H1=>∃ i,x=.int i/\Q (some i) H1
theorem tL : ∀ {us:List Value},Vals (ns.map V.int) us->IntsAre us ns:=by
 induction ns with
 | nil=>intro us r;rw [aV] at r;cases r;exact .nil
 | cons n ns ih=>
  intro us r;rw [G3] at r
  cases r with
  | cons r1 r2=>
   obtain ⟨t,e⟩:=r1;subst e;exact .cons n t (ih r2)
section
variable {X:Cx} {e:Expr} {te:TE} {lo hi:Option Expr} {tl th:TO} {pos p2:Pos}
theorem akj:PO X none nA:=by
 intro pins s O H Q I h;rw [evalPart_none];exact wpAny_pure ⟨none,H,I,.none,h⟩
theorem akk(h:PE X e te):PO X (some e) (tPart te):=by
 intro pins s O H Q I hw;rw [evalPart_some];refine C0 (h pins s O H _ I hw) fun u s1 ⟨x,H1,I1,r1,q1⟩=>?_
 obtain ⟨i,rfl,q⟩:=q1;obtain ⟨t,rfl⟩:=r1;exact ⟨some i,H1,I1,.int i t,q⟩
noncomputable def dI (X:Cx) (r:V->Option Int->Option Int->Hp->VK->Prop):Prop:=
 ∀ (pins:List (Addr×Obj)) (s:Shared) (O:St) (H:Hp) (x:V) (v vl vu:Value) (lo hi:Option Int) (sl:Addr) (Q:VK),Inv X pins O H s->RelV x v->s.heap.IsSliceOf sl vl vu .none->IsPart vl lo->IsPart vu hi->r x lo hi H Q->
  ∃ T id,typeLookup (.type T) "__getitem__"=pure (some (.builtin id))/\s.TypeIs v T/\wpAny (model X.prog X.w) X.A (getItem v (.ref sl)) (EP X pins O Q) X.xe s
noncomputable def nB (r:V->Option Int->Option Int->Hp->VK->Prop) (te:TE) (tl th:TO):TE:=fun O H Q=>te O H fun x H1=>tl O H1 fun l H2=>th O H2 fun u H3=>r x l u H3 Q
theorem aip{r:V->Option Int->Option Int->Hp->VK->Prop}(hr:dI X r)(he:PE X e te)(hl:PO X lo tl)(hu:PO X hi th):PE X (.Subscript e (.Slice lo hi none p2) pos) (nB r te tl th):=by
 intro pins s O H Q I h;refine Subscript_ (C0 (he pins s O H _ I h) fun v s1 ⟨x,H1,I1,r1,q1⟩=>?_);refine wpAny_Slice (C0 (hl pins s1 O H1 _ I1 q1) fun vl s2 ⟨l,H2,I2,pl,q2⟩=>C0 (hu pins s2 O H2 _ I2 q2) fun vu s3 ⟨u,H3,I3,pu,q3⟩=>?_);rw [evalPart_none];refine wpAny_pure ?_;have I4:Inv X pins O H3 { s3 with heap:=s3.heap.push { cls:=.type "slice",data:=.fields #[vl,vu,.none] } }:=I3.kept (t':=s3.toks) fun b ob q=>Heap.get?_push_of_some _ q
 obtain ⟨T,id,hT,ht,hg⟩:=hr pins { s3 with heap:=s3.heap.push { cls:=.type "slice",data:=.fields #[vl,vu,.none] } } O H3 x v vl vu l u s3.heap.objs.size Q I4 r1 (Heap.IsSliceOf.new ..) pl pu q3;show wpAny (model X.prog X.w) X.A (subscriptTail e (.Slice lo hi none p2) v (.ref s3.heap.objs.size)) (EP X pins O Q) X.xe { s3 with heap:=s3.heap.push { cls:=.type "slice",data:=.fields #[vl,vu,.none] } };exact tail_any (ops:=[.ref s3.heap.objs.size,v]) ht hT hg (by with_unfolding_all rfl)
noncomputable def cutV (xs:List V) (lo hi:Option Int):List V:=(xs.drop (HT.sIx xs.length 0 lo)).take (HT.sIx xs.length xs.length hi-HT.sIx xs.length 0 lo)
theorem tM(xs:List V)(lo hi:Option Int):(cutV xs lo hi).length<=xs.length:=by
 unfold cutV;rw [L9,i4];lia
noncomputable def rSlT (K:PySem.W.Frag):V->Option Int->Option Int->Hp->VK->Prop:=fun x lo hi H Q=>∃ a xs,x=.ref a/\D0 K H a xs/\
 ¬ (HT.sIx xs.length 0 lo=0/\HT.sIx xs.length xs.length hi=xs.length)/\∀ p,H p=none->Q (.ref p) (A0 H p (.tup (cutV xs lo hi)))
theorem amj:dI X (rSlT X.K):=by
 intro pins s O H x v vl vu lo hi sl Q I rx hs pl pu h;obtain ⟨a,xs,rfl,hx,hw,q⟩:=h
 cases rx
 obtain ⟨its,r,ht,hz⟩:=I.tuple hx;have B3:its.toArray.size=xs.length:=by rw [J2];exact r.length.symm
 refine ⟨"tuple",_,PyProof.Rows.slot_tuple_getitem.lookup,ht.typeIs,?_⟩;refine HT.getItem_tuple_cut ht hs pl pu (by rw [B3];exact hw) ?_ (by rw [B3];exact hz);rw [B3];refine ⟨.ref s.heap.objs.size,_,I.laid (t':=s.toks) (o:=.tup (cutV xs lo hi)) (fun b ob q=>Heap.get?_push_of_some _ q) (C6 _) ?_,rfl,q _ (I.hok.fresh (C6 _))⟩;exact ⟨F6 (tM xs lo hi) hz,_,(r.drop (HT.sIx xs.length 0 lo)).take (HT.sIx xs.length xs.length hi-HT.sIx xs.length 0 lo),IsTup.new _ _⟩
noncomputable def rCatT (K:PySem.W.Frag):R2:=fun x y H Q=>∃ a b xs ys,x=.ref a/\y=.ref b/\D0 K H a xs/\D0 K H b ys/\xs≠[]/\xs.length+ys.length<=sizeLine/\
 (ys=[]->Q (.ref a) H)/\(ys≠[]->∀ p,H p=none->Q (.ref p) (A0 H p (.tup (xs++ys))))
theorem Vals.nil_iff(r:Vals xs us):us=[]↔xs=[]:=by
 cases r with
 | nil=>simp
 | cons _ _=>simp
theorem akl:E6 X (binaryOp .Add) (rCatT X.K):=by
 intro pins s O H x y v u Q I rx ry h;obtain ⟨a,b,xs,ys,rfl,rfl,ha,hb,hx,hz,q1,q2⟩:=h
 cases rx
 cases ry
 obtain ⟨its,r1,p1,_⟩:=I.tuple ha;obtain ⟨its2,r2,p2,_⟩:=I.tuple hb;refine HT.cat_tup p1 p2 (fun z=>hx (r1.nil_iff.mp z)) (fun z=>⟨.ref a,H,I,rfl,q1 (r2.nil_iff.mp z)⟩) (fun z=>?_) (by rw [<- r1.length,<- r2.length];exact hz);refine ⟨.ref s.heap.objs.size,_,I.laid (t':=s.toks) (o:=.tup (xs++ys)) (fun b ob q=>Heap.get?_push_of_some _ q) (C6 _) ?_,rfl,q2 (fun w=>z (r2.nil_iff.mpr w)) _ (I.hok.fresh (C6 _))⟩;exact ⟨by rw [E4];exact hz,_,r1.append r2,IsTup.new _ _⟩
end
end L2
namespace L2
open PySem PySem.Spec PyProof.Rows
noncomputable def j0 (n:Nat) (i:Int):Option Nat:=if 0<=i then (if i<n then some i.toNat else none) else if -(n:Int)<=i then some (i+n).toNat else none
noncomputable def G7 {α:Type} (xs:List α) (i:Int):Option α:=(j0 xs.length i).bind fun j=>xs[j]?
theorem akm{i:Int}(h:j0 n i=some j):seqIndex? i n=some j/\j<n/\-(n:Int)<=i/\i<n:=by
 unfold j0 at h
 by_cases h0:0<=i
 .rw [if_pos h0] at h
  by_cases h1:i<n
  .rw [if_pos h1] at h;have e:i.toNat=j:=Option.some.inj h;exact ⟨by rw [seqIndex_of h0 h1,e],by lia,by lia,h1⟩
  .rw [if_neg h1] at h;cases h
 .rw [if_neg h0] at h
  by_cases h1:-(n:Int)<=i
  .rw [if_pos h1] at h;have e:(i+n).toNat=j:=Option.some.inj h;exact ⟨by rw [seqIndex_neg (by lia) h1,e],by lia,h1,by lia⟩
  .rw [if_neg h1] at h;cases h
theorem nC{α:Type}{xs:List α}{i:Int}{v:α}(h:G7 xs i=some v):∃ j,seqIndex? i xs.length=some j/\xs[j]?=some v/\j<xs.length/\-(xs.length:Int)<=i/\i<xs.length:=by
 unfold G7 at h;cases e:j0 xs.length i with
 | none=>rw [e] at h;cases h
 | some j=>
  rw [e] at h;obtain ⟨h1,h2,h3,h4⟩:=akm e;exact ⟨j,h1,h,h2,h3,h4⟩
theorem R7{α:Type}{xs:List α}{v:α}(h:xs[j]?=some v):G7 xs (j:Int)=some v:=by
 have hj:j<xs.length:=(K1.mp h).1;have e:j0 xs.length (j:Int)=some j:=by
  unfold j0;rw [if_pos (by lia),if_pos (by lia)];simp
 unfold G7;rw [e];exact h
noncomputable def tN (b:Expr):Prop:=∀ o i,subscripted b false o i=operate [o,i] (getItem o i)
noncomputable def o5 (X:Cx) (r:R2):Prop:=
 ∀ (value slice:Expr) (pins:List (Addr×Obj)) (s:Shared) (O:St) (H:Hp) (x y:V) (v u:Value) (Q:VK),Inv X pins O H s->RelV x v->RelV y u->r x y H Q->
  subscripted slice false v u=operate [v,u] (getItem v u)->wpAny (model X.prog X.w) X.A (subscriptTail value slice v u) (EP X pins O Q) X.xe s
noncomputable def nE (X:Cx) (id:String) (r:V->List V->Hp->VK->Prop):Prop:=
 ∀ (pins:List (Addr×Obj)) (s:Shared) (O:St) (H:Hp) (x:V) (xs:List V) (v:Value) (us:List Value) (Q:VK),Inv X pins O H s->RelV x v->Vals xs us->r x xs H Q->
  wpAny (model X.prog X.w) X.A (call (.builtin id) (v::us)) (EP X pins O Q) X.xe s
section
variable {X:Cx} {a b:Expr} {ta tb:TE} {pos:Pos}
theorem o5.or{r r':R2}(h:o5 X r)(h':o5 X r'):o5 X (fun x y H Q=>r x y H Q\/r' x y H Q):=by
 intro value slice pins s O H x y v u Q I rx ry q hs
 rcases q with q | q
 .exact h value slice pins s O H x y v u Q I rx ry q hs
 .exact h' value slice pins s O H x y v u Q I rx ry q hs
theorem pe_ix{r:R2}(hr:o5 X r)(ha:PE X a ta)(hb:PE X b tb)(hs:tN b):PE X (.Subscript a b pos) (o4 r ta tb):=by
 intro pins s O H Q I h;exact Subscript_ (binT ha hb I h fun v u s2 x y H2 I2 rx ry q=>hr a b pins s2 O H2 x y v u Q I2 rx ry q (hs _ _))
noncomputable def rIxL (K:PySem.W.Frag):R2:=fun x y H Q=>∃ p xs i v,x=.ref p/\y=.int i/\D5 K H p xs/\G7 xs i=some v/\Q v H
noncomputable def rIxT (K:PySem.W.Frag):R2:=fun x y H Q=>∃ p xs i v,x=.ref p/\y=.int i/\D0 K H p xs/\G7 xs i=some v/\Q v H
noncomputable def rIxS:R2:=fun x y H Q=>∃ z i c,x=.str z/\y=.int i/\z.length<=sizeLine/\G7 z.cps.toList i=some c/\Q (.str ⟨#[c]⟩) H
theorem ix_list:o5 X (rIxL X.K):=by
 intro value slice pins s O H x y v u Q I rx ry h hs;obtain ⟨p,xs,i,z,rfl,rfl,hq,he,q⟩:=h
 cases rx
 obtain ⟨t,rfl⟩:=ry;obtain ⟨its,r,pl,hz⟩:=I.list hq;obtain ⟨j,h1,h2,h3,h4,h5⟩:=nC he;obtain ⟨w,ew,rw'⟩:=r.get h2;have hl:=r.length;have hn:=gH;have fin:EP X pins O Q w s:=⟨z,H,I,rw',q⟩
 by_cases h0:0<=i
 .have hj:i.toNat=j:=by
   rw [seqIndex_of h0 h5] at h1;exact Option.some.inj h1
  exact item_listR pl.isList h0 (by lia) (by rw [hj];simpa using ew) fin hs
 .have hj:(i+(its.toArray.size:Int)).toNat=j:=by
   rw [seqIndex_neg (by lia) h4] at h1;rw [J2,<- hl];exact Option.some.inj h1
  exact subscriptTail_builtinR (x:=w) pl.isList.typeIs slot_list_getitem.lookup
   (wpAny_getItem_list_neg (Q:=fun r s'=>r=w/\EP X pins O Q r s') pl.isList (by lia) (by rw [J2] <;> lia) (by lia) (by rw [hj];simpa using ew) ⟨rfl,fin⟩) hs
theorem ix_tup:o5 X (rIxT X.K):=by
 intro value slice pins s O H x y v u Q I rx ry h hs;obtain ⟨p,xs,i,z,rfl,rfl,hq,he,q⟩:=h
 cases rx
 obtain ⟨t,rfl⟩:=ry;obtain ⟨its,r,pl,hz⟩:=I.tuple hq;obtain ⟨j,h1,h2,h3,h4,h5⟩:=nC he;obtain ⟨w,ew,rw'⟩:=r.get h2;have hl:=r.length;have hn:=gH;have fin:EP X pins O Q w s:=⟨z,H,I,rw',q⟩
 exact subscriptTail_builtinR (x:=w) pl.typeIs slot_tuple_getitem.lookup
  (getItem_tuple (j:=j) (Q:=fun r s'=>r=w/\EP X pins O Q r s') pl (by lia) (by lia) (by rw [J2,<- hl];exact h1) (by simpa using ew) ⟨rfl,fin⟩) hs
theorem amk:o5 X rIxS:=by
 intro value slice pins s O H x y v u Q I rx ry h hs;obtain ⟨z,i,c,rfl,rfl,hz,he,q⟩:=h;obtain ⟨t,rfl⟩:=rx;obtain ⟨t',rfl⟩:=ry;obtain ⟨j,h1,h2,h3,h4,h5⟩:=nC he;have hl:z.cps.toList.length=z.length:=by simp [Str.length]
 rw [hl] at h1 h4 h5;have hn:=gH;exact tail_any (typeIs_str s z t) slot_str_getitem.lookup (getItem_str (c:=c) (by
  have e1:decide (i < -(2 ^ 63:Int))=false:=decide_eq_false (by lia);have e2:decide (i≥2 ^ 63)=false:=decide_eq_false (by lia);rw [e1,e2,Bool.or_false]) (by rw [h1];simpa using h2) ⟨.str ⟨#[c]⟩,H,I.tok _,⟨_,rfl⟩,q⟩) hs
noncomputable def dJ (K:PySem.W.Frag):R2:=fun x y H Q=>rIxL K x y H Q\/rIxT K x y H Q\/rIxS x y H Q
theorem aml:o5 X (dJ X.K):=ix_list.or (ix_tup.or amk)
theorem aek(lo hi:Option Int)(n:Nat):(sliceBounds lo hi none n).1=((HT.sIx n 0 lo:Nat):Int)/\(sliceBounds lo hi none n).2.1=((HT.sIx n n hi:Nat):Int)/\(sliceBounds lo hi none n).2.2=1:=by
 refine ⟨?_,?_,rfl⟩
 .cases lo with
  | none=>simp [sliceBounds,HT.sIx]
  | some i=>
   simp only [sliceBounds,HT.sIx,Option.getD_none,show (1:Int) > 0 by decide,if_true]
   by_cases h:i<0
   .simp only [h,if_true] <;> lia
   .simp only [h,if_false] <;> lia
 .cases hi with
  | none=>simp [sliceBounds,HT.sIx]
  | some i=>
   simp only [sliceBounds,HT.sIx,Option.getD_none,show (1:Int) > 0 by decide,if_true]
   by_cases h:i<0
   .simp only [h,if_true] <;> lia
   .simp only [h,if_false] <;> lia
theorem adR(its:List Value)(lo hi:Option Int):slicePick its.toArray lo hi none=((its.drop (HT.sIx its.length 0 lo)).take (HT.sIx its.length its.length hi-HT.sIx its.length 0 lo)).toArray:=by
 obtain ⟨h1,h2,h3⟩:=aek lo hi its.toArray.size;unfold slicePick;rw [h1,h2,h3];simp only [sliceRange_one,pick_run,J2] <;> rfl
noncomputable def rSlL (K:PySem.W.Frag):V->Option Int->Option Int->Hp->VK->Prop:=fun x lo hi H Q=>∃ a xs,x=.ref a/\D5 K H a xs/\∀ p,H p=none->Q (.ref p) (A0 H p (.lst (cutV xs lo hi)))
theorem akn:dI X (rSlL X.K):=by
 intro pins s O H x v vl vu lo hi sl Q I rx hs pl pu h;obtain ⟨a,xs,rfl,hx,q⟩:=h
 cases rx
 obtain ⟨its,r,ht,hz⟩:=I.list hx;have B3:=r.length;refine ⟨"list",_,slot_list_getitem.lookup,ht.isList.typeIs,?_⟩;refine wpAny_getItem_list_slice ht.isList hs pl pu .none (by simp) ?_ (by rw [J2] <;> lia);rw [adR,<- B3];refine ⟨.ref s.heap.objs.size,_,I.laid (t':=s.toks) (o:=.lst (cutV xs lo hi)) (fun b ob q=>Heap.get?_push_of_some _ q) (C6 _) ?_,rfl,q _ (I.hok.fresh (C6 _))⟩;exact ⟨F6 (tM xs lo hi) hz,_,0,(r.drop (HT.sIx xs.length 0 lo)).take (HT.sIx xs.length xs.length hi-HT.sIx xs.length 0 lo),Heap.get?_push_size _ rfl⟩
noncomputable def flatV:V->Bool
 | .non=>true
 | .bl _=>true
 | .int _=>true
 | .str _=>true
 | _=>false
noncomputable def w8:V->V->Bool
 | .non,.non=>true
 | .bl a,.bl b=>a==b
 | .bl a,.int b=>(if a then 1 else 0)==b
 | .int a,.bl b=>a==(if b then 1 else 0)
 | .int a,.int b=>a==b
 | .str a,.str b=>a==b
 | _,_=>false
theorem amm(ry:RelV y u)(rx:RelV x v)(fy:flatV y=true)(fx:flatV x=true):SeqAt.EqAt A s u v (w8 y x):=by
 cases y with
 | non=>
  cases ry
  cases x with
  | non=>cases rx;exact SeqAt.EqAt.same _
  | bl b=>cases rx;exact SeqAt.EqAt.none_bool b
  | int b=>obtain ⟨t,rfl⟩:=rx;exact SeqAt.EqAt.none_int b t
  | str b=>obtain ⟨t,rfl⟩:=rx;exact SeqAt.EqAt.none_str b t
  | _=>exact absurd (show false=true from fx) K7
 | bl a=>
  cases ry
  cases x with
  | non=>cases rx;exact SeqAt.EqAt.bool_none a
  | bl b=>cases rx;exact SeqAt.EqAt.bool_bool a b
  | int b=>obtain ⟨t,rfl⟩:=rx;exact SeqAt.EqAt.bool_int a b t
  | str b=>obtain ⟨t,rfl⟩:=rx;exact SeqAt.EqAt.bool_str a b t
  | _=>exact absurd (show false=true from fx) K7
 | int a=>
  obtain ⟨t',rfl⟩:=ry
  cases x with
  | non=>cases rx;exact SeqAt.EqAt.int_none a t'
  | bl b=>cases rx;exact SeqAt.EqAt.int_bool a t' b
  | int b=>obtain ⟨t,rfl⟩:=rx;exact SeqAt.EqAt.int_int a t' b t
  | str b=>obtain ⟨t,rfl⟩:=rx;exact SeqAt.EqAt.int_str a t' b t
  | _=>exact absurd (show false=true from fx) K7
 | str a=>
  obtain ⟨t',rfl⟩:=ry
  cases x with
  | non=>cases rx;exact SeqAt.EqAt.str_none a t'
  | bl b=>cases rx;exact SeqAt.EqAt.str_bool a t' b
  | int b=>obtain ⟨t,rfl⟩:=rx;exact SeqAt.EqAt.str_int a t' b t
  | str b=>obtain ⟨t,rfl⟩:=rx;exact SeqAt.EqAt.str_str a t' b t
  | _=>exact absurd (show false=true from fx) K7
 | _=>exact absurd (show false=true from fy) K7
noncomputable def R8 (x:V) (u:Value):Bool:=match u with
 | .none=>w8 .non x
 | .bool b=>w8 (.bl b) x
 | .int i _=>w8 (.int i) x
 | .str z _=>w8 (.str z) x
 | _=>false
theorem tO(r:RelV y u)(f:flatV y=true):R8 x u=w8 y x:=by
 cases y with
 | non=>cases r;rfl
 | bl b=>cases r;rfl
 | int i=>obtain ⟨t,rfl⟩:=r;rfl
 | str z=>obtain ⟨t,rfl⟩:=r;rfl
 | _=>exact absurd (show false=true from f) K7
theorem gK : ∀ {xs:List V} {us:List Value},Vals xs us->xs.all flatV=true->us.any (R8 x)=xs.any fun y=>w8 y x
 | _,_,.nil,_=>rfl
 | y::xs,u::us,.cons r t,f=>by
  rw [List.all_cons,Z7] at f;rw [n9,n9,tO r f.1,gK t f.2]
theorem gL(rx:RelV x v)(fx:flatV x=true):∀ {xs:List V} {us:List Value},Vals xs us->xs.all flatV=true->∀ u∈us,SeqAt.EqAt A s u v (R8 x u)
 | _,_,.nil,_=>fun u hu=>by cases hu
 | y::xs,u::us,.cons r t,f=>fun u' hu=>by
  rw [List.all_cons,Z7] at f
  rcases F9.mp hu with rfl | hu
  .rw [tO r f.1];exact amm r rx f.1 fx
  .exact gL rx fx t f.2 u' hu
noncomputable def j1 (x:V) (xs:List V):Bool:=xs.any fun y=>w8 y x
noncomputable def nF (K:PySem.W.Frag) (neg:Bool):R2:=fun x y H Q=>∃ p xs,y=.ref p/\(D5 K H p xs\/D0 K H p xs)/\flatV x=true/\xs.all flatV=true/\Q (.bl (if neg then !j1 x xs else j1 x xs)) H
theorem agW:E6 X (compareOp .In) (nF X.K false):=by
 intro pins s O H x y v u Q I rx ry h;obtain ⟨p,xs,rfl,hq,fx,fs,q⟩:=h
 cases ry
 rcases hq with hq | hq
 .obtain ⟨its,r,pl,hz⟩:=I.list hq;refine SeqAt.in_listAt (R8 x) pl.isList (fun w hw=>gL rx fx r fs w (by simpa using hw)) ⟨.bl _,H,I,rfl,?_⟩;rw [show its.toArray.any (R8 x)=its.any (R8 x) by simp,gK r fs];exact q
 .obtain ⟨its,r,pl,hz⟩:=I.tuple hq;refine SeqAt.in_tupleAt (R8 x) pl (fun w hw=>gL rx fx r fs w (by simpa using hw)) ⟨.bl _,H,I,rfl,?_⟩;rw [show its.toArray.any (R8 x)=its.any (R8 x) by simp,gK r fs];exact q
theorem ael:E6 X (compareOp .NotIn) (nF X.K true):=by
 intro pins s O H x y v u Q I rx ry h;obtain ⟨p,xs,rfl,hq,fx,fs,q⟩:=h
 cases ry
 rcases hq with hq | hq
 .obtain ⟨its,r,pl,hz⟩:=I.list hq;refine SeqAt.notIn_listAt (R8 x) pl.isList (fun w hw=>gL rx fx r fs w (by simpa using hw)) ⟨.bl _,H,I,rfl,?_⟩;rw [show its.toArray.any (R8 x)=its.any (R8 x) by simp,gK r fs];exact q
 .obtain ⟨its,r,pl,hz⟩:=I.tuple hq;refine SeqAt.notIn_tupleAt (R8 x) pl (fun w hw=>gL rx fx r fs w (by simpa using hw)) ⟨.bl _,H,I,rfl,?_⟩;rw [show its.toArray.any (R8 x)=its.any (R8 x) by simp,gK r fs];exact q
theorem aem:E6 X (compareOp .NotIn) (fun x y H Q=>∃ i j,x=.str i/\y=.str j/\Q (.bl (!(!(Builtin.Str.occurrences j i 0 j.length 1).isEmpty))) H):=by
 intro pins s O H x y v u Q I rx ry h;obtain ⟨i,j,rfl,rfl,q⟩:=h;obtain ⟨t,rfl⟩:=rx;obtain ⟨t',rfl⟩:=ry;exact notIn_str ⟨.bl _,H,I,rfl,q⟩
theorem aen:CallR X (.type "list") (fun xs H Q=>∃ p ys,xs=[.ref p]/\(D5 X.K H p ys\/D0 X.K H p ys)/\∀ l,H l=none->Q (.ref l) (A0 H l (.lst ys))):=by
 intro pins s O H xs us Q I r h;obtain ⟨p,ys,rfl,hq,q⟩:=h;obtain ⟨u,rfl,rx⟩:=vals1 r
 cases rx
 have fin:∀ (its:List Value),Vals ys its->ys.length<=sizeLine->∀ (h':Heap) (c':Nat),(∀ b o',s.heap.get? b=some o'->h'.get? b=some o')->
   h'.get? s.heap.objs.size=some { cls:=.type "list",dict:=none,data:=.seq its.toArray c',slots:=#[] }->EP X pins O Q (.ref s.heap.objs.size) { s with heap:=h' }:=fun its r' hz h' c' kp e=>
  ⟨.ref s.heap.objs.size,_,I.laid (t':=s.toks) kp (C6 _) (show ObjOk X.prog X.w _ h' _ (.lst ys) from ⟨hz,its,c',r',e⟩),rfl,q _ (I.hok.fresh (C6 _))⟩
 rcases hq with hq | hq
 .obtain ⟨its,r',pl,hz⟩:=I.list hq;have B3:=r'.length;obtain ⟨o,ho,hc,n,hd⟩:=pl.isList;exact call_list_seq p (.inl rfl) ho hc hd (fun h' c' kp e=>fin its r' hz h' c' kp e) (by simp only [J2] <;> lia)
 .obtain ⟨its,r',pl,hz⟩:=I.tuple hq;have B3:=r'.length;obtain ⟨o,ho,hc,n,hd⟩:=pl;exact call_list_seq p (.inr rfl) ho hc hd (fun h' c' kp e=>fin its r' hz h' c' kp e) (by simp only [J2] <;> lia)
theorem adS:CallR X (.type "tuple") (fun xs H Q=>∃ p ys,xs=[.ref p]/\((D5 X.K H p ys/\∀ l,H l=none->Q (.ref l) (A0 H l (.tup ys)))\/(D0 X.K H p ys/\Q (.ref p) H))):=by
 intro pins s O H xs us Q I r h;obtain ⟨p,ys,rfl,h⟩:=h;obtain ⟨u,rfl,rx⟩:=vals1 r
 cases rx
 rcases h with ⟨hq,q⟩ | ⟨hq,q⟩
 .obtain ⟨its,r',pl,hz⟩:=I.list hq;have B3:=r'.length;refine call_tuple_list pl.isList (fun h' kp=>?_) (by simp only [J2] <;> lia);have I1:Inv X pins O H { s with heap:=h' }:=I.kept (t':=s.toks) kp;have I2:Inv X pins O (A0 H h'.objs.size (.tup ys)) { s with heap:=h'.push { cls:=.type "tuple",data:=.seq its.toArray } }:=
   I1.laid (t':=s.toks) (fun b o e=>Heap.get?_push_of_some _ e) (C6 _) (show ObjOk X.prog X.w _ _ _ (.tup ys) from ⟨hz,its,r',IsTup.new _ _⟩)
  exact ⟨.ref h'.objs.size,_,I2,rfl,q _ (I1.hok.fresh (C6 _))⟩
 .obtain ⟨its,r',pl,hz⟩:=I.tuple hq;exact call_tuple_same pl ⟨.ref p,H,I,rfl,q⟩
noncomputable def x0 (K:PySem.W.Frag) (T:String) (x:V) (H:Hp):Prop:=match x with
 | .str _=>T="str"
 | .int _=>T="int"
 | .ref p=>(T="list"/\∃ xs,D5 K H p xs)\/(T="tuple"/\∃ o,K.lookup p=some o/\o.cls=.type "tuple"/\o.dict=none)\/
   (T="dict"/\((∃ kvs,H p=some (.dK kvs))\/∃ kvs,H p=some (.dT kvs)))\/(T="set"/\∃ S n,H p=some (.set S n))
 | _=>False
theorem amn{T:String}(I:Inv X pins O H s)(r:RelV x v)(ty:x0 X.K T x H) :
  s.TypeIs v T/\∀ a,v=.ref a->∃ ob,s.heap.get? a=some ob/\ob.dict=none:=by
 cases x with
 | str z=>
  obtain ⟨t,rfl⟩:=r
  cases (show T="str" from ty)
  exact ⟨typeIs_str s z t,fun _ e=>nomatch e⟩
 | int i=>
  obtain ⟨t,rfl⟩:=r
  cases (show T="int" from ty)
  exact ⟨typeIs_int s i t,fun _ e=>nomatch e⟩
 | ref p=>
  cases r
  rcases ty with ⟨rfl,xs,hq⟩ | ⟨rfl,o,hk,hc,hd⟩ | ⟨rfl,hk⟩ | ⟨rfl,S,n,hk⟩
  .obtain ⟨its,_,pl,_⟩:=I.list hq;refine ⟨pl.isList.typeIs,fun a e=>?_⟩;cases e;obtain ⟨o,n,e,c,hd,_⟩:=pl;exact ⟨o,e,hd⟩
  .refine ⟨⟨o,I.kIn p o hk,hc⟩,fun a e=>?_⟩;cases e;exact ⟨o,I.kIn _ o hk,hd⟩
  .have z:∃ o,s.heap.get? p=some o/\o.ExactDict:=by
    rcases hk with ⟨kvs,hk⟩ | ⟨kvs,hk⟩
    .obtain ⟨_,_,_,_,o,_,_,e,ex,_⟩:=I.hok p _ hk;exact ⟨o,e,ex⟩
    .obtain ⟨_,_,_,_,o,_,_,e,ex,_⟩:=I.hok p _ hk;exact ⟨o,e,ex⟩
   obtain ⟨o,e,ex⟩:=z;refine ⟨⟨o,e,ex.1⟩,fun a e2=>?_⟩;cases e2;exact ⟨o,e,ex.2.1⟩
  .obtain ⟨o,_,_,_,e,ex,_⟩:=I.hok p _ hk;refine ⟨⟨o,e,ex.1⟩,fun a e2=>?_⟩;cases e2;exact ⟨o,e,ex.2.1⟩
 | _=>exact False.elim ty
noncomputable def tBM0 (K:PySem.W.Frag) (T:String) (r:V->List V->Hp->VK->Prop) (to:TE):TE:=fun O H Q=>to O H fun x H1=>x0 K T x H1/\r x [] H1 Q
noncomputable def jZ (K:PySem.W.Frag) (T:String) (r:V->List V->Hp->VK->Prop) (to:TE) (t:TA):TE:=fun O H Q=>to O H fun x H1=>x0 K T x H1/\t O H1 fun xs H2=>r x xs H2 Q
variable {o e:Expr} {es:List Expr} {to:TE} {t:TA} {name:Str} {apos cpos:Pos} {T id:String} {r:V->List V->Hp->VK->Prop}
theorem pe_bm(pa:PlainAttrs T)(slot:Slot T name id)(W8:typeOf (.builtin id)=pure (.type "method_descriptor"))(hm:nE X id r)(ho:PE X o to)(ha:PA X (e::es) t)(J0:attributeBase o name X.env (eval o X.env)=eval o X.env:=by rfl)(qH:((backTo cpos (starEach (e::es) X.env)).all (fun x=>!x.1)&&(backToKw cpos (keywordEach [] X.env)).all (fun x=>x.1.isSome)
   && decide ((e::es).length+([]:List Keyword).length+(if ([]:List Keyword).isEmpty then 0 else 1)<30))=true:=by rfl)(K8:(apos.endLine==cpos.line)=true:=by rfl)(hs:starEach (e::es) X.env=(false,eval e X.env)::starEach es X.env:=by rfl)(hplain:(backTo cpos (starEach es X.env)).any (·.1)=false:=by rfl) :
  PE X (.Call (.Attribute o name apos) (e::es) [] cpos) (jZ X.K T r to t):=by
 intro pins s O H Q I h;refine wpAny_Call_method_late J0 qH K8 rfl (C0 (ho pins s O H _ I h) fun v s1 ⟨x,H1,I1,r1,ty,q1⟩=>?_);obtain ⟨h1,h2⟩:=amn I1 r1 ty;refine ⟨T,id,pa,slot,W8,h1,h2,?_⟩;have hA:=ha cpos pins s1 O H1 _ I1 q1;rw [hs] at hA ⊢
 refine Calls.callWith_builtin (by show (false || (backTo cpos (starEach es X.env)).any (·.1))=false;rw [hplain] <;> rfl) (Calls.evalArgs_plain ?_);exact C0 hA fun us s2 ⟨vs,H2,I2,r2,q2⟩=>hm pins s2 O H2 x vs v us Q I2 r1 r2 q2
end
end L2
namespace L2
open PySem PySem.Spec PyProof.Rows
noncomputable def nG (X:Cx) (id:String) (r:V->List V->Hp->VK->Prop):Prop:=
 ∀ (pins:List (Addr×Obj)) (s:Shared) (O:St) (H:Hp) (x:V) (xs:List V) (v:Value) (us:List Value) (Q:VK),Inv X pins O H s->RelV x v->Vals xs us->r x xs H Q->
  wpAny (model X.prog X.w) X.A (call (.builtin id) (v::us)) (EP X pins O Q) X.xe s
theorem Vals.one:∀ {x:V} {us:List Value},Vals [x] us->∃ u,us=[u]/\RelV x u
 | _,_,.cons r .nil=>⟨_,rfl,r⟩
theorem Vals.eraseIdx:∀ {xs:List V} {us:List Value} (i:Nat),Vals xs us->Vals (xs.eraseIdx i) (us.eraseIdx i)
 | _,_,_,.nil=>.nil
 | _,_,0,.cons _ t=>t
 | _,_,i+1,.cons r t=>.cons r (Vals.eraseIdx i t)
theorem Vals.rep(h:Vals xs us):∀ k:Nat,Vals (N2 k xs).flatten (N2 k us).flatten
 | 0=>.nil
 | k+1=>by
  rw [cR,cR,aQ,aQ];exact Vals.append h (Vals.rep h k)
theorem tP(its:List Value):∀ (k:Nat) (acc:List Value),
  List.foldl (fun x1 x2=>x1++x2) acc.toArray (N2 k its.toArray)=(acc++(N2 k its).flatten).toArray
 | 0,acc=>by simp
 | k+1,acc=>by
  have e:acc.toArray++its.toArray=(acc++its).toArray:=by simp
  have e2:(acc++its)++(N2 k its).flatten=acc++(N2 (k+1) its).flatten:=by
   rw [cR,aQ,Z5]
  rw [<- e2,<- tP its k (acc++its),<- e,cR,List.foldl_cons]
section
variable {X:Cx} {pins:List (Addr×Obj)} {O:St} {H:Hp} {s:Shared} {l b:Addr} {xs ys zs:List V}
theorem Inv.lset{its':List Value}{f:Array Value->Array Value}(I:Inv X pins O H s)(hH:H l=some (.lst xs))(e:s.heap.get? l=some { cls:=.type "list",data:=.seq its.toArray n })(hf:f its.toArray=its'.toArray)(hv:Vals ys its')(hz:ys.length<=sizeLine) :
  Inv X pins O (A0 H l (.lst ys)) { s with heap:=s.heap.update l (Obj.mapSeq f),toks:=t' }:=by
 have q:=PySem.IsL.update e f;rw [hf] at q;refine I.write (x:=l) (e:=l) (by rw [hH];exact trivial) (.inl rfl) (fun b' u hb hu=>(Heap.get?_update_other s.heap (Obj.mapSeq f) (Ne.symm hb)).trans hu) ⟨_,q⟩ ?_;exact ⟨hz,its',_,hv,q⟩
theorem Inv.lnew(I:Inv X pins O H s)(hv:Vals ys its)(hz:ys.length<=sizeLine) :
  Inv X pins O (A0 H s.heap.objs.size (.lst ys)) { s with heap:=s.heap.push { cls:=.type "list",data:=.seq its.toArray },toks:=t' }:=
 I.laid (fun _ _ q=>Heap.get?_push_of_some _ q) (C6 _) ⟨hz,its,0,hv,Heap.get?_push_size _ rfl⟩
theorem Inv.fresh(I:Inv X pins O H s):H s.heap.objs.size=none:=I.hok.fresh (C6 _)
theorem Inv.lstM(I:Inv X pins O H s)(hH:H l=some (.lst xs)):xs.length<=sizeLine/\∃ (its:List Value) (n:Nat),Vals xs its/\xs.length=its.length/\s.heap.get? l=some { cls:=.type "list",data:=.seq its.toArray n }:=by
 obtain ⟨z,its,n,r,e⟩:=I.hok l _ hH;exact ⟨z,its,n,r,r.length,e⟩
theorem tQ(h:n<=sizeLine):Builtin.List.listTooLong n=false:=by
 unfold Builtin.List.listTooLong;exact decide_eq_false (by lia)
end
section
variable {X:Cx}
noncomputable def nH:V->List V->Hp->VK->Prop:=fun x vs H Q=>∃ l xs y,x=.ref l/\vs=[y]/\H l=some (.lst xs)/\xs.length<sizeLine/\Q .non (A0 H l (.lst (xs++[y])))
theorem tR:nG X "list.append" nH:=by
 intro pins s O H x vs v us Q I rx rv h;obtain ⟨l,xs,y,rfl,rfl,hH,hz,q⟩:=h
 cases rx
 obtain ⟨u,rfl,ru⟩:=rv.one;obtain ⟨z,its,n,r,hl,e⟩:=I.lstM hH;refine call_meets F.slot_list_append ⟨_,e,rfl⟩ F.entry_list_append (F.args_list_append_2 _ _) (PySem.list_append l its.toArray n u (by rw [J2];lia)) ⟨e,?_⟩;refine ⟨.non,_,I.lset (its':=its++[u]) hH e (by simp) (r.append (.cons ru .nil)) ?_,rfl,q⟩;rw [E4,X3];lia
noncomputable def rCat:R2:=fun x y H Q=>∃ l b xs zs,x=.ref l/\y=.ref b/\H l=some (.lst xs)/\H b=some (.lst zs)/\xs.length+zs.length<=sizeLine/\∀ p,H p=none->Q (.ref p) (A0 H p (.lst (xs++zs)))
theorem amo:E6 X (binaryOp .Add) rCat:=by
 intro pins s O H x y v u Q I rx ry h;obtain ⟨l,b,xs,zs,rfl,rfl,hH,hB,hz,q⟩:=h
 cases rx
 cases ry
 obtain ⟨z,its,n,r,hl,e⟩:=I.lstM hH;obtain ⟨z2,its2,n2,r2,iL,e2⟩:=I.lstM hB;refine PySem.P.add_list e e2 ?_ (by rw [J2,J2];lia);have ea:its.toArray++its2.toArray=(its++its2).toArray:=by simp
 rw [ea];exact ⟨.ref _,_,I.lnew (t':=s.toks) (r.append r2) (by rw [E4];lia),rfl,q _ I.fresh⟩
noncomputable def rRep:R2:=fun x y H Q=>∃ l k xs,x=.ref l/\y=.int k/\H l=some (.lst xs)/\-(2 ^ 63)<=k/\k<2 ^ 63/\xs.length*k.toNat<=sizeLine/\
 ∀ p,H p=none->Q (.ref p) (A0 H p (.lst (N2 k.toNat xs).flatten))
theorem ako{α:Type}(xs:List α)(k:Nat):(N2 k xs).flatten.length=k*xs.length:=by
 induction k with
 | zero=>simp
 | succ k ih=>rw [cR,aQ,E4,ih,Nat.succ_mul,Nat.add_comm]
theorem amp:E6 X (binaryOp .Mult) rRep:=by
 intro pins s O H x y v u Q I rx ry h;obtain ⟨l,k,xs,rfl,rfl,hH,h1,h2,hz,q⟩:=h
 cases rx
 obtain ⟨t,rfl⟩:=ry;obtain ⟨z,its,n,r,hl,e⟩:=I.lstM hH;have B3:its.toArray.size*k.toNat<=sizeLine:=by rw [J2,<- hl];exact hz
 have qI:¬ its.toArray.size*k.toNat > (2 ^ 63-1) / 8:=by
  have:(sizeLine:Nat)<=(2 ^ 63-1) / 8:=by decide
  lia
 have qJ:¬ (!Builtin.List.listFitsIndex k)=true:=by
  rw [fitsIndex_both h1 h2];exact K7
 have f7:¬ Builtin.List.listTooLong (its.toArray.size*k.toNat)=true:=by
  rw [tQ B3];exact K7
 have O1:List.foldl (fun x1 x2=>x1++x2) #[] (N2 (if its.toArray.isEmpty=true then 0 else k.toNat) its.toArray)=(N2 k.toNat its).flatten.toArray:=by
  have f0:∀ m:Nat,List.foldl (fun x1 x2=>x1++x2) #[] (N2 m its.toArray)=(N2 m its).flatten.toArray:=fun m=>by
   have:=tP its m []
   rw [aR] at this;exact this
  rw [f0]
  cases its with
  | nil=>simp
  | cons a r'=>rw [if_neg (by simp)]
 refine wpAny_binaryOp_repeat_ref (T:="list") (U:="int") (by decide) ⟨_,e,rfl⟩ (fun s'=>typeIs_int s' k t) noFill_list_mul F.fills_int_mul F.slot_int_rmul repeat_list F.slot_int_index.lookup
  (call_meets F.slot_int_rmul (typeIs_int s k t) F.entry_int_rmul (F.args_int_rmul_2 _ _) (int___rmul___int_list k t l its.toArray n)
   ⟨e,rfl,⟨_,e,rfl⟩,call_meets F.slot_list_mul ⟨_,e,rfl⟩ F.entry_list_mul (F.args_list_mul_2 _ _) (AutoListH.list___mul___list_int_3 l its.toArray n k t qJ qI f7) ⟨e,?_⟩⟩)
 rw [O1];exact ⟨.ref _,_,I.lnew (t':=s.toks) (r.rep k.toNat) (by rw [ako,Nat.mul_comm];exact hz),rfl,q _ I.fresh⟩
end
section
variable {prog:Program} {w:World} {A:Around} {E:Value->Shared->Prop} {s:Shared}
end
section
variable {X:Cx}
end
end L2
namespace Att
open PySem PySem.W PySem.Calls PyProof.Rows
theorem ac5{P:Params} : ∀ (ns:List Int) (vs:List Value),WellAll P h vs (ns.map WData.int)->IntsAre vs ns:=by
 intro ns
 induction ns with
 | nil=>
  intro vs w;rw [aV] at w
  cases w
  exact .nil
 | cons n ns ih=>
  intro vs w;rw [G3] at w
  cases w with
  | cons a b=>
   cases a
   exact .cons _ _ (ih _ b)
theorem agX{l:OpenLaw}(hn:l.most=some n){P:Params}{args:List WData}{vals:List Value}(s0:l.row.toRowW.claim.pre args=true)(qK:WellAll P h vals args) :
  ∃ a vs ns,vals=[Value.ref a]/\args=[WData.list (ns.map WData.int)]/\h.get? a=some { cls:=.type "list",data:=.seq vs.toArray }/\IntsAre vs ns/\ns.length<=n:=by
 have hsh:WShape.hasAll [] args [.list .int]=true:=(pre_splitW s0).1;have hc:l.pre.holds [] { args:=args }=true:=(pre_splitW s0).2;obtain ⟨d,r,rfl,h1,h2⟩:=hasAllW_cons hsh;obtain rfl:=hasAllW_nil h2;obtain ⟨xs,rfl,h3⟩:=hasW_list h1;obtain ⟨ns,rfl⟩:=items_int h3;have B3:ns.length<=n:=by
  unfold OpenLaw.pre at hc;have h4:(WTm.not (.lt (.lit (.int (n:Int))) (.len (.arg 0)))).holds [] { args:=[.list (ns.map .int)] }=true:=by
   have h4:=(holds_andW hc).1;rw [hn] at h4;exact h4
  have h5:=condW_of h4 (w_not (w_lt w_lit (w_len_list (w_arg rfl))));rw [A8] at h5;refine Nat.le_of_not_lt fun q=>?_
  have q':(n:Int)<((ns.length:Nat):Int):=by lia
  first
   | (rw [decide_eq_true q'] at h5;exact absurd h5 (by decide))
   | (simp at h5;lia)
 cases qK with
 | cons w1 w2=>
  cases w2
  cases w1 with
  | list ho t8=>exact ⟨_,_,ns,rfl,rfl,ho,ac5 ns _ t8,B3⟩
theorem agY(l:OpenLaw)(args:List WData):l.row.toRowW.claim.post args (.bool true) args=true:=
 postW_of (r:=l.row.toRowW) (X:=(true==true))
  (show WShape.has [] (.bool true) .bool=true by first | rfl | decide | simp [WShape.has,WShape.arms,WShape.armsAll])
  (show (WTm.eq .res (.lit (.bool true))).value [] { args:=args,res:=some (.bool true),after:=args }=some (.bool (true==true)) from w_eq_bool (w_res rfl) w_lit) rfl
theorem attach_call{l:OpenLaw}{q:Program}{XP:(Str->Option Value)->Heap->Prop}{YP:World->Heap->Prop}{d:DefRec}(hn:l.most=some n)(k9:d.params.defaults=[])(call:∀ (w:World) (s₀ zw:Shared) (mg mb:Str->Option Value) (fa:Addr) (o:Obj) (pm cd doc:Value) (a:Addr) (vs:List Value) (ns:List Int),
   Ground q loose [] XP w s₀ mg mb zw.heap->YP w zw.heap->
   zw.heap.get? fa=some o->o.data=.func (docDef d.name d.params d.body d.scope pm cd doc)->zw.heap.CodeRec cd d.name->mg d.name=some (.ref fa)->
   zw.heap.get? a=some { cls:=.type "list",data:=.seq vs.toArray }->IntsAre vs ns->ns.length<=n->zw.gens=#[]->
   codeAny (model l.prog w) callerA (.call (.ref fa) ⟨[.ref a],[]⟩) (fun r s'=>r=.ok (.ret (.bool true))/\OldK zw.heap s'.heap/\s'.os=zw.os/\AllBare s'.gens) zw) :
  WalkO q loose XP YP l.row.toRowW d [] (fun f vs=>PySem.call f vs):=by
 intro w s₀ zw mg mb G Y fa o pm cd doc dV kV ho hd P5 hD bX hg args vals as s0 hlay hrd qK hlo;obtain rfl:dV=.none:=Dflts.none hD k9;obtain rfl:kV=.none:=Dflts.noKw hD;obtain ⟨a,vs,ns,rfl,rfl,bY,f8,B3⟩:=agX hn s0 qK;refine enter_call (codeAny_mono (call w s₀ zw mg mb fa o pm cd doc a vs ns G Y ho (fd_plain hd) P5 bX bY f8 B3 hg) fun r s' hq=>?_);obtain ⟨rfl,h2,h3,h4⟩:=hq;exact ⟨.inl ⟨.bool true,.bool true,[],rfl,fun _=>rfl,.bool true,agY l _,fun _=>⟨List.Pairwise.nil,fun _ hm=>(nomatch hm)⟩⟩,h2,h3,h4⟩
section
variable {prog:Program} {w:World} {A:Around} {E:Value->Shared->Prop} {s:Shared} {K:Frag}
end
end Att
namespace L2
open PySem PySem.Spec PyProof.Rows
theorem tS:∀ {vs:List Value} {ns:List Int},IntsAre vs ns->Vals (ns.map V.int) vs
 | _,_,.nil=>.nil
 | _,_,.cons n t h=>.cons ⟨t,rfl⟩ (tS h)
noncomputable def Only (H:Hp):Prop:=∀ b,H b=none\/∃ o xs,H b=some (.frz o (.lst xs))
theorem aiq{P:Program}{w:World}{mb:Str->Option Value}{CX:U3}{x:Str}{zw:Shared}{vs:List Value}(KX:K.In zw.heap)(aD:zw.heap.Ns mainGlobals mg)(hb:zw.heap.Ns builtinsNs mb)(hbb:∀ x:Str,x≠"__name__"->mb x=bootBuiltins x)(qL:zw.heap.NoLimit)(hg:zw.gens=#[])(ha:zw.heap.get? a=some { cls:=.type "list",data:=.seq vs.toArray })(hi:IntsAre vs ns)(hl:ns.length<=sizeLine)(hr:Room k callerA)(F:∀ base:Heap,K.In base->base.Ns mainGlobals mg->FnOk P w K mg base CX k fa fd [x] sp)(iM:∀ (s:Shared) (u:Value),BindsTo s fd ⟨[u],[]⟩ [(x,u)])(k8:∀ H:Hp,Only H->D5 K H a (ns.map V.int)->sp [.ref a] H (fun v _=>v=.bl true) fun _ _ _=>False)(hCX:∀ H e s',CX [] H zw (fun _ _ _=>False) e s'->False) :
  codeAny (model P w) callerA (.call (.ref fa) ⟨[.ref a],[]⟩) (fun r s'=>r=.ok (.ret (.bool true))/\OldK zw.heap s'.heap/\s'.os=zw.os/\AllBare s'.gens) zw:=by
 have rv:=tS hi;have lenV:=hi.length;have core:∀ H:Hp,Only H->D5 K H a (ns.map V.int)->J5 P w H zw.heap->(∀ b,H b≠none->b=a)->(H a≠none->K.lookup a=none)->
   codeAny (model P w) callerA (.call (.ref fa) ⟨[.ref a],[]⟩) (fun r s'=>r=.ok (.ret (.bool true))/\OldK zw.heap s'.heap/\s'.os=zw.os/\AllBare s'.gens) zw:=by
  intro H hO hS hok hA hK;have base_of:∀ {b:Addr} {o:Obj},zw.heap.get? b=some o->H b=none->(hidT zw.heap H).get? b=some o:=fun e n=>aib e n
  have noA:∀ {b:Addr} {o:Obj} {es:Array DictEntry} {ep:Nat},zw.heap.get? b=some o->o.data=.dict es ep->H b=none:=fun {b o es ep} e d=>by
   cases q:H b with
   | none=>rfl
   | some u=>
    have e':b=a:=hA b (by rw [q];simp);subst e';rw [ha] at e;cases e;have d':Data.seq vs.toArray _=Data.dict es ep:=d
    cases d'
  have nsK:∀ {b:Addr} {m:Str->Option Value},zw.heap.Ns b m->(hidT zw.heap H).Ns b m:=fun {b m} ⟨o,es,ep,e,d,r⟩=>⟨o,es,ep,base_of e (noA e d),d,r⟩
  have hKb:K.In (hidT zw.heap H):=fun b o e=>base_of (KX b o e) (by
   cases q:H b with
   | none=>rfl
   | some u=>
    have e':b=a:=hA b (by rw [q];simp);subst e';rw [hK (by rw [q];simp)] at e;cases e)
  have hM:Mod K mg (hidT zw.heap H):=⟨hKb,nsK aD,⟨mb,nsK hb,hbb⟩,let ⟨mc,h1,h2⟩:=qL;⟨mc,nsK h1,h2⟩⟩
  have e0:Env0 P w K mg (hidT zw.heap H) callerA [] zw H:=⟨rfl,hM,fun b o e=>aj0 e,Nat.le_of_eq (agC _ _),trivial,fun b hb=>absurd (show b∈([]:List Addr) from hb) (by simp),hok,.of_eq hg⟩
  refine codeAny_mono ((F _ hKb (nsK aD)).run callerA [] zw H ⟨[.ref a],[]⟩ [.ref a] [.ref a] _ _ hr e0 (iM zw (.ref a)) (.cons rfl .nil) (k8 H hO hS)) fun r s' h=>?_
  cases r with
  | error e=>exact (hCX H e s' h).elim
  | ok fl=>
   cases fl with
   | next=>exact False.elim h
   | brk=>exact False.elim h
   | cont=>exact False.elim h
   | ret u=>
    obtain ⟨v,H',os,bare,un,qM,r',q⟩:=h;have q':v=.bl true:=q;subst q';obtain rfl:u=Value.bool true:=r';refine ⟨rfl,OldK.of_keep fun b o e=>?_,os,bare⟩
    cases q:H b with
    | none=>exact un.keep b o e q (by intro z;exact absurd (show b∈([]:List Addr) from z) (by simp)) (by simp)
    | some u=>
     rcases hO b with z | ⟨ob,xs,z⟩
     .rw [q] at z;cases z
     .have z2:=un.frzs b ob _ z;obtain ⟨e1,_⟩:=hok b _ z;obtain ⟨e2,_⟩:=qM b _ z2;rw [e] at e1;cases e1;exact e2
 cases hk:K.lookup a with
 | some o=>
  have e:=KX a o hk;rw [ha] at e;cases e;refine core (fun _=>none) (fun _=>.inl rfl) (.inr ⟨_,vs.toArray,_,hk,rfl,rfl,rfl,by rw [J2,lenV];exact hl,by simpa using rv⟩) (fun b u z=>by have z':(none:Option HO)=some u:=z;cases z') (fun b z=>absurd rfl z) fun z=>absurd rfl z
 | none=>
  refine core (fun b=>if b=a then some (.frz { cls:=.type "list",data:=.seq vs.toArray } (.lst (ns.map V.int))) else none) (fun b=>?_) (.inl (.inr ⟨{ cls:=.type "list",data:=.seq vs.toArray },if_pos rfl⟩)) (fun b u z=>?_) (fun b z=>?_) fun _=>hk
  .by_cases hb:b=a
   .exact .inr ⟨_,_,if_pos hb⟩
   .exact .inl (if_neg hb)
  .by_cases hb:b=a
   .have z':=(if_pos hb).symm.trans z
    cases z'
    subst hb;exact ⟨ha,by rw [A8];exact hl,vs,_,rv,ha⟩
   .have z':=(if_neg hb).symm.trans z
    cases z'
  .by_cases hb:b=a
   .exact hb
   .exact absurd (if_neg hb) z
end L2
namespace L2
open PySem PySem.Spec PyProof.Rows
theorem walk_of{l:PySem.W.OpenLaw}{q:Program}{XP:(Str->Option Value)->Heap->Prop}{YP:World->Heap->Prop}{d:DefRec}{K:Params->PySem.W.Frag}{CX:World->U3}{sp:World->Sp}{x:Str}(hn:l.most=some n)(lT:n<=sizeLine)(k9:d.params.defaults=[])(hr:Room k callerA)(hY:∀ (w:World) (h:Heap),YP w h->(K w.params).In h)(F:∀ (w:World) (mg:Str->Option Value) (fa:Addr) (h:Heap),(K w.params).In h->h.Ns mainGlobals mg->mg d.name=some (.ref fa)->
   ∃ fd:FuncData,(∀ (s:Shared) (u:Value),BindsTo s fd ⟨[u],[]⟩ [(x,u)])/\
    ∀ base:Heap,(K w.params).In base->base.Ns mainGlobals mg->FnOk l.prog w (K w.params) mg base (CX w) k fa fd [x] (sp w))(k8:∀ (w:World) (H:Hp) (a:Addr) (ns:List Int),ns.length<=n->Only H->D5 (K w.params) H a (ns.map V.int)->sp w [.ref a] H (fun v _=>v=.bl true) fun _ _ _=>False)(hCX:∀ (w:World) (H:Hp) (s:Shared) (e:Value) (s':Shared),CX w [] H s (fun _ _ _=>False) e s'->False) :
  PySem.W.WalkO q loose XP YP l.row.toRowW d [] (fun f vs=>PySem.call f vs):=by
 refine Att.attach_call hn k9 fun w s₀ zw mg mb fa o pm cd doc a vs ns G Y ho hd P5 bX bY f8 B3 hg=>?_
 have KX:=hY w _ Y;obtain ⟨fd,hb,hF⟩:=F w mg fa _ KX G.T.g bX;exact aiq KX G.T.g G.T.b G.T.builtins G.T.nolimit hg bY f8 (F6 B3 lT) hr hF hb (fun H hO hS=>k8 w H a ns B3 hO hS) fun H e s'=>hCX w H zw e s'
end L2
namespace L2
open PySem PySem.Spec PyProof.Rows
noncomputable def nI (s:Stmt) (j:Nat):Stmt:=match s with
 | .ClassDef _ _ _ body _ _ _ _ _ _ _=>body.getD j (.Pass ⟨0,0,0,0⟩)
 | _=>.Pass ⟨0,0,0,0⟩
noncomputable def W2 (s:Stmt):Arguments:=match s with
 | .FunctionDef _ a _ _ _ _ _ _ _ _=>a
 | _=>{ posonlyargs:=[],args:=[],vararg:=none,kwonlyargs:=[],kw_defaults:=[],kwarg:=none,defaults:=[] }
noncomputable def R9 (s:Stmt):List Stmt:=match s with
 | .FunctionDef _ _ b _ _ _ _ _ _ _=>b
 | _=>[]
noncomputable def D3 (s:Stmt):Scope:=match s with
 | .FunctionDef _ _ _ _ _ _ sc _ _ _=>sc
 | _=>{ kind:=.function,names:=[],isGenerator:=false,isCoroutine:=false }
noncomputable abbrev G0:U3:=fun _ _ _ _ _ _=>False
noncomputable abbrev E0:XK:=fun _ _ _=>False
theorem pass0 : gJ G0 X E0:=fun _ _ _ _ _ _ _ h=>h.elim
structure Fun(K:PySem.W.Frag)(x qual:Str)(st:Stmt)(f:Addr)(fd:FuncData):Prop where
 ex:∃ (oc:Value) (od:Option Addr) (kV doc pm:Value) (an:Option Addr) (cdv ct:Value) (osl:Array (Option Value)),
  fd=R5 x qual (W2 st) (R9 st) (D3 st) .none kV doc pm an cdv ct/\K.lookup f=some ⟨oc,od,.func fd,osl⟩/\Z8 K cdv qual=true
 kp:Q6 K (.ref f)=true
section
variable {P:Program} {w:World} {K:PySem.W.Frag} {mg:Str->Option Value} {base:Heap}
end
theorem hu_of(hr:Room k A):A.units+1<cLine:=Nat.lt_of_le_of_lt (Nat.add_le_add_left (by decide:1<=64) _) hr.units
section
variable {X:Cx}
end
theorem iteF{A B:Prop}(h:B):if false=true then A else B:=by
 rw [if_neg K7];exact h
theorem iteT{A B:Prop}(h:A):if true=true then A else B:=by
 rw [if_pos rfl];exact h
noncomputable def Same (H H':Hp):Prop:=∀ b o,H b=some o->H' b=some o
theorem P2(H:Hp):Same H H:=fun _ _ h=>h
theorem Same.trans(a:Same H H1)(b:Same H1 H2):Same H H2:=fun c o h=>b c o (a c o h)
theorem Same.free(e:Same H H'){l:Addr}(h:H' l=Option.none):H l=Option.none:=by
 cases q:H l with
 | none=>rfl
 | some o=>
  rw [e l o q] at h;cases h
theorem Same.seq(e:Same H H')(h:D5 K H a xs):D5 K H' a xs:=by
 rcases h with (h | ⟨o,h⟩) | h
 .exact .inl (.inl (e _ _ h))
 .exact .inl (.inr ⟨o,e _ _ h⟩)
 .exact .inr h
end L2
set_option maxRecDepth 100000
namespace L2
open PySem PySem.Spec PyProof.Rows
section
variable {κ:Type} [DecidableEq κ]
noncomputable def valV (kvs:List (κ×V)) (k:κ):Option V:=(kvs.find? fun kv=>decide (kv.1=k)).map (·.2)
noncomputable def putK (kvs:List (κ×V)) (k:κ) (v:V):List (κ×V):=
 if (kvs.any fun kv=>decide (kv.1=k))=true then kvs.map (fun kv=>if kv.1=k then (kv.1,v) else kv) else kvs++[(k,v)]
theorem kA{p:κ×V}{r:List (κ×V)}{k:κ}(e:p.1=k):valV (p::r) k=some p.2:=by simp [valV,i5,e]
theorem o6{p:κ×V}{r:List (κ×V)}{k:κ}(e:¬ p.1=k):valV (p::r) k=valV r k:=by simp [valV,i5,e]
theorem nJ(k:κ):∀ kvs:List (κ×V),(kvs.any fun kv=>decide (kv.1=k))=(valV kvs k).isSome
 | []=>rfl
 | p::r=>by
  rw [n9]
  by_cases e:p.1=k
  .simp only [kA e,decide_eq_true e,Bool.true_or,Option.isSome_some]
  .rw [o6 e,decide_eq_false e,Bool.false_or];exact nJ k r
theorem nK(kvs:List (κ×V))(k:κ)(v:V):(putK kvs k v).length<=kvs.length+1:=by
 unfold putK
 split
 .rw [A8];lia
 .rw [E4,G1,R3];lia
theorem air{kvs:List (κ×V)}{k:κ}(v:V)(h:valV kvs k=none):putK kvs k v=kvs++[(k,v)]:=by
 unfold putK;rw [nJ,h];exact if_neg (by decide)
theorem RelO.isSome_eq{o:Option V}{u:Option Value}(r:RelO o u):o.isSome=u.isSome:=by
 cases o with
 | none=>cases u with
  | none=>rfl
  | some _=>exact (show False from r).elim
 | some _=>cases u with
  | none=>exact (show False from r).elim
  | some _=>rfl
theorem RelO.getD{o:Option V}{u:Option Value}{d:V}{d':Value}(r:RelO o u)(rd:RelV d d'):RelV (o.getD d) (u.getD d'):=by
 cases o with
 | none=>cases u with
  | none=>exact rd
  | some _=>exact (show False from r).elim
 | some _=>cases u with
  | none=>exact (show False from r).elim
  | some _=>exact r
theorem KV.val{kvs:List (κ×V)}{vs:List (κ×Value)}(r:KV kvs vs)(k:κ):RelO (valV kvs k) (valueAt vs k):=by
 unfold KV at r
 induction r with
 | nil=>exact True.intro
 | @cons p q ps qs h t ih=>
  obtain ⟨h1,h2⟩:=h
  by_cases e:p.1=k
  .have e':q.1=k:=h1.symm.trans e;have b:valueAt (q::qs) k=some q.2:=by simp [valueAt,i5,e']
   rw [kA e,b];exact h2
  .have e':¬ q.1=k:=fun z=>e (h1.trans z)
   have b:valueAt (q::qs) k=valueAt qs k:=by simp [valueAt,i5,e']
   rw [o6 e,b];exact ih
theorem KV.any{kvs:List (κ×V)}{vs:List (κ×Value)}(r:KV kvs vs)(k:κ):(kvs.any fun kv=>decide (kv.1=k))=vs.any fun kv=>decide (kv.1=k):=by
 unfold KV at r
 induction r with
 | nil=>rfl
 | cons h t ih=>rw [n9,n9,ih,h.1]
theorem KV.repl{kvs:List (κ×V)}{vs:List (κ×Value)}(r:KV kvs vs)(k:κ)(ry:RelV y u) :
  KV (kvs.map fun kv=>if kv.1=k then (kv.1,y) else kv) (vs.map fun kv=>if kv.1=k then (kv.1,u) else kv):=by
 unfold KV at r ⊢
 induction r with
 | nil=>exact .nil
 | @cons p q ps qs h t ih=>
  rw [G3,G3];refine .cons ?_ ih;obtain ⟨h1,h2⟩:=h
  by_cases e:p.1=k
  .rw [if_pos e,if_pos (h1.symm.trans e)];exact ⟨h1,ry⟩
  .rw [if_neg e,if_neg (fun z=>e (h1.trans z))];exact ⟨h1,h2⟩
theorem KV.put{kvs:List (κ×V)}{vs:List (κ×Value)}(r:KV kvs vs)(k:κ)(ry:RelV y u):KV (putK kvs k y) (stored vs k u):=by
 unfold putK stored;rw [r.any k]
 by_cases e:(vs.any fun kv=>decide (kv.1=k))=true
 .rw [if_pos e,if_pos e];exact r.repl k ry
 .rw [if_neg e,if_neg e];exact Paired.snoc r ⟨rfl,ry⟩
theorem KV.keys{kvs:List (κ×V)}{vs:List (κ×Value)}(r:KV kvs vs):kvs.map (·.1)=vs.map (·.1):=by
 unfold KV at r
 induction r with
 | nil=>rfl
 | cons h t ih=>rw [G3,G3,ih,h.1]
theorem KV.length{kvs:List (κ×V)}{vs:List (κ×Value)}(r:KV kvs vs):kvs.length=vs.length:=Paired.length r
end
theorem kV_is{P:Program}{w:World}{k:B5}(r:RelV (kV k) u):(L5 P w).is k u=true:=by
 cases k with
 | inl i=>obtain ⟨t,e⟩:=(show ∃ t,u=Value.int i t from r);subst e;exact ae1 P w i t
 | inr x=>obtain ⟨t,e⟩:=(show ∃ t,u=Value.str x t from r);subst e;exact ae2 P w x t
theorem tT{P:Program}{w:World} : ∀ {ks:List B5} {us:List Value},Vals (ks.map kV) us->ItemsAre (L5 P w) ks us
 | [],_,r=>by rw [aV] at r;cases r;exact .nil
 | k::ks,_,r=>by
  rw [G3] at r
  cases r with
  | cons h t=>exact .cons (kV_is h) (tT t)
noncomputable abbrev KT (H:Hp):List (List B5×V)->List (List B5×Addr×Value)->Prop:=Paired fun p q=>p.1=q.1/\H q.2.1=some (.tup (p.1.map kV))/\RelV p.2 q.2.2
theorem KT.val{kvs:List (List B5×V)}{xs:List (List B5×Addr×Value)}(r:KT H kvs xs)(k:List B5):RelO (valV kvs k) ((atKey xs k).map (·.2)):=by
 induction r with
 | nil=>exact True.intro
 | @cons p q ps qs h t ih=>
  obtain ⟨h1,_,h2⟩:=h
  by_cases e:p.1=k
  .have e':q.1=k:=h1.symm.trans e;have b:atKey (q::qs) k=some q.2:=by simp [atKey,i5,e']
   rw [kA e,b];exact h2
  .have e':¬ q.1=k:=fun z=>e (h1.trans z)
   have b:atKey (q::qs) k=atKey qs k:=by simp [atKey,i5,e']
   rw [o6 e,b];exact ih
theorem KT.repl{kvs:List (List B5×V)}{xs:List (List B5×Addr×Value)}(r:KT H kvs xs)(k:List B5)(ry:RelV y u) :
  KT H (kvs.map fun kv=>if kv.1=k then (kv.1,y) else kv) (xs.map (putAt k u)):=by
 induction r with
 | nil=>exact .nil
 | @cons p q ps qs h t ih=>
  rw [G3,G3];refine .cons ?_ ih;obtain ⟨h1,h2,h3⟩:=h;unfold putAt
  by_cases e:p.1=k
  .rw [if_pos e,if_pos (h1.symm.trans e)];exact ⟨h1,h2,ry⟩
  .rw [if_neg e,if_neg (fun z=>e (h1.trans z))];exact ⟨h1,h2,h3⟩
theorem KT.put{kvs:List (List B5×V)}{xs:List (List B5×Addr×Value)}(r:KT H kvs xs)(k:List B5)(hb:H b=some (.tup (k.map kV)))(ry:RelV y u) :
  KT H (putK kvs k y) (storedH xs k b u):=by
 have e:(kvs.any fun kv=>decide (kv.1=k))=(atKey xs k).isSome:=by
  rw [nJ,(r.val k).isSome_eq,Option.isSome_map]
 unfold putK storedH;rw [e]
 by_cases q:(atKey xs k).isSome=true
 .rw [if_pos q,if_pos q];exact r.repl k ry
 .rw [if_neg q,if_neg q];exact Paired.snoc r ⟨rfl,hb,ry⟩
theorem KT.keeps{kvs:List (List B5×V)}{xs:List (List B5×Addr×Value)}(r:KT H kvs xs)(ht:∀ b ys,H b=some (.tup ys)->H' b=some (.tup ys)):KT H' kvs xs:=
 Q7 r fun _ _ z=>⟨z.1,ht _ _ z.2.1,z.2.2⟩
section
variable {P:Program} {w:World} {H:Hp} {h:Heap} {a:Addr}
theorem rd_of{u:HO}(ok:J5 P w H h)(e:Rd H a u):ObjOk P w H h a u:=e.ok ok
theorem dk_rd(ok:J5 P w H h)(e:Rd H a (.dK kvs)):kvs.length<=sizeLine/\(a==sysModules)=false/\∃ vs,KV kvs vs/\h.DictOf (L5 P w) a vs:=
 show ObjOk P w H h a (.dK kvs) from rd_of ok e
theorem dk_of(ok:J5 P w H h)(e:H a=some (.dK kvs)):kvs.length<=sizeLine/\(a==sysModules)=false/\∃ vs,KV kvs vs/\h.DictOf (L5 P w) a vs:=dk_rd ok (.inl e)
theorem dL{ks:List B5}(ok:J5 P w H h)(e:H a=some (.tup (ks.map kV))):(tupleKind (L5 P w)).is h ks a:=by
 obtain ⟨_,its,r,o,h1,h2,n,h3⟩:=(show ObjOk P w H h a (.tup (ks.map kV)) from ok a _ e)
 exact ⟨o,its.toArray,n,h1,h2,h3,by simpa using tT r⟩
theorem dt_rd{kvs:List (List B5×V)}(ok:J5 P w H h)(e:Rd H a (.dT kvs)):kvs.length<=sizeLine/\(a==sysModules)=false/\
  ∃ xs,KT H kvs xs/\h.DictOfH (tupleKind (L5 P w)) a xs:=by
 obtain ⟨z,y,xs,r,o,es,ep,h1,h2,h3,h4,h5⟩:=(show ObjOk P w H h a (.dT kvs) from rd_of ok e)
 refine ⟨z,y,xs,r,o,es,ep,h1,h2,h3,h4,fun x hx=>?_,h5⟩;have all:∀ {l:List (List B5×V)} {m:List (List B5×Addr×Value)},KT H l m->∀ x∈m,(tupleKind (L5 P w)).is h x.1 x.2.1:=by
  intro l m q
  induction q with
  | nil=>intro x hx;exact nomatch hx
  | @cons p q ps qs hq t ih=>
   intro x hx
   rcases F9.mp hx with e | hx
   .subst e;exact dL ok (by rw [<- hq.1];exact hq.2.1)
   .exact ih x hx
 exact all r x hx
theorem dt_of{kvs:List (List B5×V)}(ok:J5 P w H h)(e:H a=some (.dT kvs)):kvs.length<=sizeLine/\(a==sysModules)=false/\
  ∃ xs,KT H kvs xs/\h.DictOfH (tupleKind (L5 P w)) a xs:=dt_rd ok (.inl e)
end
noncomputable def DGet (H:Hp) (a:Addr) (y:V) (r:Option V):Prop:=
 (∃ kvs k,Rd H a (.dK kvs)/\y=kV k/\r=valV kvs k)\/∃ kvs k b,Rd H a (.dT kvs)/\y=.ref b/\H b=some (.tup (k.map kV))/\r=valV kvs k
noncomputable def DPut (H:Hp) (a:Addr) (y v:V) (H':Hp):Prop:=
 (∃ kvs k,H a=some (.dK kvs)/\y=kV k/\kvs.length<sizeLine/\H'=A0 H a (.dK (putK kvs k v)))\/
 ∃ kvs k b,H a=some (.dT kvs)/\y=.ref b/\H b=some (.tup (k.map kV))/\kvs.length<sizeLine/\H'=A0 H a (.dT (putK kvs k v))
theorem kB{k:B5}(e:H a=some (.dK kvs)):DGet H a (kV k) (valV kvs k):=.inl ⟨kvs,k,.inl e,rfl,rfl⟩
theorem x4{k:B5}{v:V}(e:H a=some (.dK kvs))(hl:kvs.length<sizeLine):DPut H a (kV k) v (A0 H a (.dK (putK kvs k v))):=.inl ⟨kvs,k,e,rfl,hl,rfl⟩
section
variable {X:Cx} {pins:List (Addr×Obj)} {O:St} {H:Hp} {s:Shared} {a:Addr} {y v:V} {u r:Value} {o:Option V} {A:Around} {E:Value->Shared->Prop}
theorem Inv.big(I:Inv X pins O H s):sysModules<s.heap.objs.size:=by
 have h:mainGlobals<s.heap.objs.size:=(I.mod.glob.keeps I.bk).lt;exact aW (by decide) h
theorem tU{Q:Value->Shared->Prop}(hu:A.units+1<cLine)(I:Inv X pins O H s)(g:DGet H a y (some v))(ry:RelV y u)(h:∀ w' s',Inv X pins O H s'->RelV v w'->Q w' s') :
  wpAny (model X.prog X.w) A (getItem (.ref a) u) Q E s:=by
 rcases g with ⟨kvs,k,e,ey,l⟩ | ⟨kvs,k,b,e,ey,eb,l⟩
 .subst ey;obtain ⟨z,hd,vs,rel,dd⟩:=dk_rd I.hok e;obtain ⟨w',hw,rw'⟩:=gI (v:=v) (o:=valueAt vs k) (by rw [l];exact rel.val k);exact wpAny_getItem_of (kV_is ry) dd.mapOf hw (h w' _ (I.tok _) rw')
 .subst ey
  cases (show u=Value.ref b from ry)
  obtain ⟨z,hd,xs,rel,dd⟩:=dt_rd I.hok e;obtain ⟨w',hw,rw'⟩:=gI (v:=v) (o:=(atKey xs k).map (·.2)) (by rw [l];exact rel.val k);obtain ⟨p,hp,lW⟩:=Option.map_eq_some_iff.mp hw;refine wpAny_getItem_heap (tupleKind_room_in1 hu) (dL I.hok eb) dd hp ?_;rw [lW];exact h w' _ (I.tok _) rw'
theorem d_in{Q:Value->Shared->Prop}(hu:A.units+1<cLine)(I:Inv X pins O H s)(g:DGet H a y o)(ry:RelV y u)(h:∀ s',Inv X pins O H s'->Q (.bool o.isSome) s') :
  wpAny (model X.prog X.w) A (compareOp .In u (.ref a)) Q E s:=by
 rcases g with ⟨kvs,k,e,ey,l⟩ | ⟨kvs,k,b,e,ey,eb,l⟩
 .subst ey;obtain ⟨z,hd,vs,rel,dd⟩:=dk_rd I.hok e;refine wpAny_in_of (kV_is ry) hd dd.mapOf ?_;rw [<- (rel.val k).isSome_eq,<- l];exact h _ (I.tok _)
 .subst ey
  cases (show u=Value.ref b from ry)
  obtain ⟨z,hd,xs,rel,dd⟩:=dt_rd I.hok e;refine wpAny_in_heap (tupleKind_room_in1 hu) (dL I.hok eb) hd dd ?_;have q:=(rel.val k).isSome_eq;rw [Option.isSome_map] at q;rw [<- q,<- l];exact h _ (I.tok _)
theorem akp{Q:Value->Shared->Prop}(hu:A.units+1<cLine)(I:Inv X pins O H s)(g:DGet H a y o)(ry:RelV y u)(h:∀ s',Inv X pins O H s'->Q (.bool (!o.isSome)) s') :
  wpAny (model X.prog X.w) A (compareOp .NotIn u (.ref a)) Q E s:=by
 rcases g with ⟨kvs,k,e,ey,l⟩ | ⟨kvs,k,b,e,ey,eb,l⟩
 .subst ey;obtain ⟨z,hd,vs,rel,dd⟩:=dk_rd I.hok e;refine wpAny_notIn_of (kV_is ry) hd dd.mapOf ?_;rw [<- (rel.val k).isSome_eq,<- l];exact h _ (I.tok _)
 .subst ey
  cases (show u=Value.ref b from ry)
  obtain ⟨z,hd,xs,rel,dd⟩:=dt_rd I.hok e;refine wpAny_notIn_heap (tupleKind_room_in1 hu) (dL I.hok eb) hd dd ?_;have q:=(rel.val k).isSome_eq;rw [Option.isSome_map] at q;rw [<- q,<- l];exact h _ (I.tok _)
theorem nM{ob:HO}(I:Inv X pins O H s)(mu:dE (H a))(hs:Heap.SameBut a s.heap h')(he:∃ q,h'.get? a=some q)(new:ObjOk X.prog X.w (A0 H a ob) h' a ob) :
  Inv X pins O (A0 H a ob) { s with heap:=h',toks:=t' }:=
 I.write (x:=a) (e:=a) mu (.inl rfl) (fun b q hb z=>(hs.2 b hb).trans z) he new
theorem nN{P:Program}{w:World}{vs:List (B5×Value)}(z:kvs.length<=sizeLine)(hd:(a==sysModules)=false)(rel:KV kvs vs)(dd:h'.DictOf (L5 P w) a vs) :
  ObjOk P w H' h' a (.dK kvs):=⟨z,hd,vs,rel,dd⟩
theorem tV{Q:Unit->Shared->Prop}(hu:A.units+1<cLine)(I:Inv X pins O H s)(g:DPut H a y v H')(ry:RelV y u)(rv:RelV v r)(h:∀ s',Inv X pins O H' s'->Q () s') :
  wpAny (model X.prog X.w) A (setItem (.ref a) u r) Q E s:=by
 rcases g with ⟨kvs,k,e,ey,l,eH⟩ | ⟨kvs,k,b,e,ey,eb,l,eH⟩
 .subst ey eH;obtain ⟨z,hd,vs,rel,dd⟩:=dk_of I.hok e;have hz:vs.length<=sizeLine:=by rw [<- rel.length];exact z
  have hl:(putK kvs k v).length<=sizeLine:=by have:=nK kvs k v;lia
  refine wpAny_setItem_pairs (hsz:=hz) (kV_is ry) dd fun h' dd' hs=>h _ ?_
  have he:∃ q,h'.get? a=some q:=let ⟨q,_,_,hq,_⟩:=dd';⟨q,hq⟩
  exact nM I (by rw [e];exact True.intro) hs he (nN hl hd (rel.put k rv) dd')
 .subst ey eH
  cases (show u=Value.ref b from ry)
  obtain ⟨z,hd,xs,rel,dd⟩:=dt_of I.hok e;have hz:xs.length<=sizeLine:=by rw [<- Paired.length rel];exact z
  have hl:(putK kvs k v).length<=sizeLine:=by have:=nK kvs k v;lia
  refine wpAny_setItem_heap (hsz:=hz) (tupleKind_room_in1 hu) (dL I.hok eb) dd fun h' dd' hs=>h _ ?_
  obtain ⟨q,es,ep,hq,h2,h3,h4,_,h5⟩:=dd';refine nM I (by rw [e];exact True.intro) hs ⟨q,hq⟩ ⟨hl,hd,_,(rel.put k eb rv).keeps fun c ys ec=>?_,q,es,ep,hq,h2,h3,h4,h5⟩;rw [A9 (ne_of ec e (fun z=>nomatch z))];exact ec
end
section
variable {X:Cx} {pins:List (Addr×Obj)} {O:St} {H:Hp} {s:Shared} {a:Addr} {kvs:List (B5×V)} {k:B5} {u:Value} {A:Around} {E:Value->Shared->Prop}
theorem d_len{Q:Value->Shared->Prop}(I:Inv X pins O H s)(e:Rd H a (.dK kvs))(h:∀ t s',Inv X pins O H s'->Q (.int kvs.length t) s'):wpAny (model X.prog X.w) A (call (.builtin "len") [.ref a]) Q E s:=by
 obtain ⟨z,hd,vs,rel,dd⟩:=dk_rd I.hok e;refine call_len_dict hd dd (by rw [<- rel.length];rw [sizeLine_eq] at z;lia) ?_;rw [<- rel.length];exact h _ _ (I.tok _)
end
noncomputable def NoSl (i:Expr):Prop:=∀ ov iv,subscripted i false ov iv=operate [ov,iv] (getItem ov iv)
theorem tW{w:World}{env:Env}{value slice:Expr}{pos:Pos}{T id:String}{Q:Value->Shared->Prop}(hl:typeLookup (.type T) "__getitem__"=pure (some (.builtin id)))(hs:NoSl slice)(h:wpAny (model prog w) A (eval value env) (fun o zw=>wpAny (model prog w) A (eval slice env) (fun i zv=>zv.TypeIs o T/\wpAny (model prog w) A (getItem o i) Q E zv) E zw) E s) :
  wpAny (model prog w) A (eval (.Subscript value slice pos) env) Q E s:=by
 refine Subscript_ (wpAny_mono h (fun o zw zr=>wpAny_mono zr (fun i zv zq=>?_) fun _ _ x=>x) fun _ _ x=>x);obtain ⟨hT,zq⟩:=zq;unfold subscriptTail;refine wpAny_bind ?_;rw [getitemInPython_of_ne hT.not_modules];refine wpAny_bind (wpAny_specialOf hT hl ?_);have fin:wpAny (model prog w) A (subscripted slice false o i) (fun r zu=>wpAny (model prog w) A (letTemporaryGo value o r >>= fun _=>pure r) Q E zu) E zv:=by
  rw [hs o i];exact wpAny_operating (wpAny_mono zq (fun r zu zp=>wpAny_bind (wpAny_letTemporaryGo (wpAny_pure zp))) fun _ _ x=>x)
 first
  | exact wpAny_pure (wpAny_bind fin)
  | exact wpAny_bind (wpAny_pure (wpAny_bind fin))
  | exact wpAny_bind fin
theorem ae8{o:Option V}(I:Inv X pins O H s)(g:DGet H a y o):s.TypeIs (.ref a) "dict":=by
 rcases g with ⟨kvs,k,e,_,_⟩ | ⟨kvs,k,b,e,_,_,_⟩
 .obtain ⟨_,_,vs,_,dd⟩:=dk_rd I.hok e;exact dd.typeIs
 .obtain ⟨_,_,xs,_,dd⟩:=dt_rd I.hok e;exact dd.typeIs
noncomputable def tDGet (td ty:TE):TE:=fun O H Q=>td O H fun x H1=>ty O H1 fun y H2=>∃ a v,x=.ref a/\DGet H2 a y (some v)/\Q v H2
noncomputable def sDPut (td ty tv:TE):TS:=fun D O H=>tv O H fun v H1=>td O H1 fun x H2=>ty O H2 fun y H3=>∃ a H4,x=.ref a/\DPut H3 a y v H4/\D.nx O H4
noncomputable def sDAug (td ty tv:TE) (rd:V->V->Hp->VK->Prop):TS:=fun D O H=>td O H fun x H1=>ty O H1 fun y H2=>∃ a v,x=.ref a/\DGet H2 a y (some v)/\
 tv O H2 fun y2 H3=>rd v y2 H3 fun z H4=>∃ H5,DPut H4 a y z H5/\D.nx O H5
section
variable {X:Cx} {o i e value:Expr} {pos pos' tpos:Pos} {td ty tv:TE}
theorem akq(hu:X.A.units+1<cLine)(ho:PE X o td)(hi:PE X i ty)(hs:NoSl i):PE X (.Subscript o i pos) (tDGet td ty):=by
 intro pins s O H Q I h;refine tW PySem.F.slot_dict_getitem.lookup hs (C0 (ho pins s O H _ I h) fun u s1 ⟨x,H1,I1,rx,q1⟩=>C0 (hi pins s1 O H1 _ I1 q1) fun iv s2 ⟨y,H2,I2,ry,a,v,ex,g,q2⟩=>?_);subst ex;obtain rfl:u=Value.ref a:=rx;exact ⟨ae8 I2 g,tU hu I2 g ry fun w' s3 I3 rw'=>⟨v,H2,I3,rw',q2⟩⟩
theorem akr(hu:X.A.units+1<cLine)(ho:PE X o td)(hi:PE X i ty)(hv:PE X value tv)(hs:swapsWith value (some (.Subscript o i pos')) pos.line X.env=pure false) :
  PS X (.Assign [.Subscript o i pos'] value pos) (sDPut td ty tv):=by
 intro pins s O H D I h;refine wpAny_Assign_Subscript (C0 (hv pins s O H _ I h) fun r s1 ⟨v,H1,I1,rv,q1⟩=>C0 (ho pins s1 O H1 _ I1 q1) fun u s2 ⟨x,H2,I2,rx,q2⟩=>C0 (hi pins s2 O H2 _ I2 q2) fun iv s3 ⟨y,H3,I3,ry,a,H4,ex,g,q3⟩=>?_) hs;subst ex;obtain rfl:u=Value.ref a:=rx;exact tV hu I3 g ry rv fun s4 I4=>⟨O,H4,I4,q3⟩
theorem aks{op:Operator}{rd:V->V->Hp->VK->Prop}(hu:X.A.units+1<cLine)(ho:PE X o td)(hi:PE X i ty)(hv:PE X value tv)(qN:InOp X op rd)(ha:∀ ov iv new,augStore i ov iv new=(do holding [new,ov,iv] (setItem ov iv new);release [new,ov,iv] [];pure .next)):PS X (.AugAssign (.Subscript o i tpos) op value pos) (sDAug td ty tv rd):=by
 intro pins s O H D I h;refine wpAny_AugAssign_SubscriptAny (C0 (ho pins s O H _ I h) fun u s1 ⟨x,H1,I1,rx,q1⟩=>C0 (hi pins s1 O H1 _ I1 q1) fun iv s2 ⟨y,H2,I2,ry,a,v,ex,g,q2⟩=>?_) ha;subst ex;obtain rfl:u=Value.ref a:=rx;refine tU hu I2 g ry fun w' s3 I3 rw'=>C0 (hv pins s3 O H2 _ I3 q2) fun w2 s4 ⟨y2,H3,I4,ry2,q3⟩=>C0 (qN pins s4 O H3 v y2 w' w2 _ I4 rw' ry2 q3) fun w3 s5 ⟨z,H4,I5,rz,H5,g5,q4⟩=>?_
 exact tV hu I5 g5 ry rz fun s6 I6=>⟨O,H5,I6,q4⟩
end
theorem ais{P:Program}{w:World}(h:Heap)(hb:sysModules<h.objs.size):ObjOk P w H (h.push { cls:=.type "dict",data:=.dict #[] }) h.objs.size (.dK []):=
 ⟨J4 _,beq_eq_false_iff_ne.mpr (Ne.symm (G6 hb)),[],.nil,Heap.DictOf.new h⟩
noncomputable def nO:TE:=fun _ H Q=>∀ p,H p=none->Q (.ref p) (A0 H p (.dK []))
section
variable {X:Cx} {pos:Pos}
theorem ait:PE X (.Dict [] [] pos) nO:=fun pins s O H Q I h=>
 wpAny_Dict_empty ⟨.ref s.heap.objs.size,_,I.laid (a:=s.heap.objs.size) (o:=.dK []) (t':=s.toks) (fun _ _ q=>Heap.get?_push_of_some _ q) (C6 _) (ais s.heap I.big),rfl,h _ (I.hok.fresh (C6 _))⟩
end
noncomputable def dM:List (TE×TE)->St->Hp->(List (V×V)->Hp->Prop)->Prop
 | [],_,H,Q=>Q [] H
 | (tk,tv)::r,O,H,Q=>tk O H fun x H1=>tv O H1 fun y H2=>dM r O H2 fun ps H3=>Q ((x,y)::ps) H3
noncomputable def W3 (kvs more:List (B5×V)):List (B5×V):=more.foldl (fun acc kv=>putK acc kv.1 kv.2) kvs
theorem tX:∀ (more kvs:List (B5×V)),(W3 kvs more).length<=kvs.length+more.length
 | [],kvs=>by show kvs.length<=kvs.length+0;lia
 | p::r,kvs=>by
  have h1:=tX r (putK kvs p.1 p.2);have h2:=nK kvs p.1 p.2;show (W3 (putK kvs p.1 p.2) r).length<=_;rw [G1];lia
noncomputable def tDisp (trs:List (TE×TE)):TE:=fun O H Q=>∀ p,H p=none->dM trs O (A0 H p (.dK [])) fun ps H2=>H2 p=some (.dK [])/\∃ kvs:List (B5×V),ps=kvs.map (fun kv=>(kV kv.1,kv.2))/\kvs.length<=15/\Q (.ref p) (A0 H2 p (.dK (W3 [] kvs)))
structure M1(X:Cx)(o:Expr)(m:Str)(apos:Pos)(e:Expr)(cpos:Pos):Prop where
 base:attributeBase o m X.env (eval o X.env)=eval o X.env
 few:((backTo cpos (starEach [e] X.env)).all (fun x=>!x.1)&&(backToKw cpos (keywordEach [] X.env)).all (fun x=>x.1.isSome)
  && decide (([e]:List Expr).length+([]:List Keyword).length+(if ([]:List Keyword).isEmpty then 0 else 1)<30))=true
 line:(apos.endLine==cpos.line)=true
 trees:backTo cpos (starEach [e] X.env)=[(false,eval e X.env)]
structure M2(X:Cx)(o:Expr)(m:Str)(apos:Pos)(e f:Expr)(cpos:Pos):Prop where
 base:attributeBase o m X.env (eval o X.env)=eval o X.env
 few:((backTo cpos (starEach [e,f] X.env)).all (fun x=>!x.1)&&(backToKw cpos (keywordEach [] X.env)).all (fun x=>x.1.isSome)
  && decide (([e,f]:List Expr).length+([]:List Keyword).length+(if ([]:List Keyword).isEmpty then 0 else 1)<30))=true
 line:(apos.endLine==cpos.line)=true
 trees:backTo cpos (starEach [e,f] X.env)=[(false,eval e X.env),(false,eval f X.env)]
noncomputable def bB (H:Hp) (a:Addr):Prop:=(∃ kvs,Rd H a (.dK kvs))\/∃ kvs,Rd H a (.dT kvs)
theorem tY(I:Inv X pins O H s)(d:bB H a) :
  s.TypeIs (.ref a) "dict"/\(∀ b,Value.ref a=.ref b->∃ ob,s.heap.get? b=some ob/\ob.dict=none)/\(a==sysModules)=false:=by
 rcases d with ⟨kvs,e⟩ | ⟨kvs,e⟩
 .obtain ⟨_,hd,vs,_,dd⟩:=dk_rd I.hok e;refine ⟨dd.typeIs,fun b q=>?_,hd⟩
  cases q
  obtain ⟨ob,_,_,h1,h2,_⟩:=dd;exact ⟨ob,h1,h2.2.1⟩
 .obtain ⟨_,hd,xs,_,dd⟩:=dt_rd I.hok e;refine ⟨dd.typeIs,fun b q=>?_,hd⟩
  cases q
  obtain ⟨ob,_,_,h1,h2,_⟩:=dd;exact ⟨ob,h1,h2.2.1⟩
section
variable {X:Cx} {pins:List (Addr×Obj)} {O:St} {H:Hp} {s:Shared} {a:Addr} {y d:V} {u r:Value} {o:Option V} {A:Around} {E:Value->Shared->Prop}
theorem amq{Q:Value->Shared->Prop}(hu:A.units+1<cLine)(I:Inv X pins O H s)(g:DGet H a y o)(ry:RelV y u)(h:∀ w' s',Inv X pins O H s'->RelV (o.getD .non) w'->Q w' s') :
  wpAny (model X.prog X.w) A (call (.builtin "dict.get") [.ref a,u]) Q E s:=by
 rcases g with ⟨kvs,k,e,ey,l⟩ | ⟨kvs,k,b,e,ey,eb,l⟩
 .subst ey;obtain ⟨z,hd,vs,rel,dd⟩:=dk_rd I.hok e;refine call_meetsIn PySem.F.slot_dict_get dd.typeIs PySem.F.entry_dict_get (PySem.F.args_dict_get_2 _ _) (meets_dict_get (L5 X.prog X.w) a (kV_is ry) hd) ⟨_,dd.mapOf,h _ _ (I.tok _) ?_⟩;rw [l];exact (rel.val k).getD rfl
 .subst ey
  cases (show u=Value.ref b from ry)
  obtain ⟨z,hd,xs,rel,dd⟩:=dt_rd I.hok e;refine call_meetsIn PySem.F.slot_dict_get dd.typeIs PySem.F.entry_dict_get (PySem.F.args_dict_get_2 _ _) (meetsH_dict_get (tupleKind (L5 X.prog X.w)) a b hd) ⟨tupleKind_room_in1 hu,k,xs,dL I.hok eb,dd,h _ _ (I.tok _) ?_⟩;rw [l];exact (rel.val k).getD rfl
end
noncomputable def nP (td ty:TE):TE:=fun O H Q=>td O H fun x H1=>∃ a,x=.ref a/\bB H1 a/\ty O H1 fun y H2=>∃ o,DGet H2 a y o/\Q (o.getD .non) H2
noncomputable def amr (td ty tx:TE):TE:=fun O H Q=>td O H fun x H1=>∃ a,x=.ref a/\bB H1 a/\ty O H1 fun y H2=>tx O H2 fun z H3=>∃ o,DGet H3 a y o/\Q (o.getD z) H3
section
variable {X:Cx} {o e f:Expr} {apos cpos:Pos} {td ty tx:TE}
theorem aiu(hu:X.A.units+1<cLine)(ho:PE X o td)(he:PE X e ty)(m:M1 X o "get" apos e cpos):PE X (.Call (.Attribute o "get" apos) [e] [] cpos) (nP td ty):=by
 intro pins s O H Q I h;refine wpAny_Call_method m.base m.few m.line PySem.F.plainAttrs_dict PySem.F.slot_dict_get PySem.F.type_dict_get (C0 (ho pins s O H _ I h) fun u s1 ⟨x,H1,I1,rx,a,ex,d,q1⟩=>?_);subst ex;obtain rfl:u=Value.ref a:=rx;obtain ⟨t1,t2,_⟩:=tY I1 d;refine ⟨t1,t2,?_⟩;rw [m.trees];refine Calls.callWith_builtin rfl (Calls.evalArgs_plain (Calls.spliced_cons (C0 (he pins s1 O H1 _ I1 q1) fun iv s2 ⟨y,H2,I2,ry,ov,g,q2⟩=>Calls.spliced_nil ?_)));exact amq hu I2 g ry fun w' s3 I3 rw'=>⟨_,H2,I3,rw',q2⟩
end
section
variable {X:Cx} {pins:List (Addr×Obj)} {O:St} {H:Hp} {s:Shared} {a:Addr} {kvs:List (B5×V)} {A:Around} {E:Value->Shared->Prop}
end
section
variable {X:Cx} {pins:List (Addr×Obj)} {O:St} {H:Hp} {s:Shared} {a:Addr} {y:V} {u:Value} {A:Around} {E:Value->Shared->Prop}
end
end L2
namespace L2
open PySem PySem.Spec PyProof.Rows
section
variable {X:Cx}
end
section
variable {κ:Type} [DecidableEq κ]
theorem nQ:∀ {l:List κ} {k:κ},l.Nodup->¬ k∈l->(l++[k]).Nodup
 | [],k,_,_=>by simp
 | a::r,k,h,hk=>by
  obtain ⟨h1,h2⟩:=W0.mp h;show (a::(r++[k])).Nodup;refine W0.mpr ⟨fun m=>?_,nQ h2 fun m=>hk (F9.mpr (Or.inr m))⟩
  rcases J3.mp m with q | q
  .exact h1 q
  .exact hk (F9.mpr (Or.inl (G5.mp q).symm))
end
end L2
set_option maxRecDepth 100000
namespace L2
open PySem PySem.Spec PyProof.Rows
noncomputable def cloOf (cells:List (Str×Addr)):List (Str×NameKind)->List (Str×Addr)->List (Str×Addr)
 | [],acc=>acc
 | (n,k)::r,acc=>if k=.free then cloOf cells r ((n,(cells.lookup n).getD 0)::acc) else cloOf cells r acc
theorem nR{env:Env} : ∀ (names:List (Str×NameKind)) (acc:List (Str×Addr)),(∀ x∈names,x.2=.free->∃ c,env.cells.lookup x.1=some c)->
  (forIn names acc fun (x:Str×NameKind) (cs:List (Str×Addr))=>(if (x.2==NameKind.free)=true then do
   let c <- cellOf env x.1
   pure (ForInStep.yield ((x.1,c)::cs)) else pure (ForInStep.yield cs):Sem (ForInStep (List (Str×Addr)))))=(pure (cloOf env.cells names acc):Sem (List (Str×Addr)))
 | [],acc,_=>rfl
 | (n,k)::r,acc,h=>by
  rw [List.forIn_cons];have hr:∀ x∈r,x.2=.free->∃ c,env.cells.lookup x.1=some c:=fun x hx=>h x (M6 _ hx)
  by_cases hk:k=.free
  .subst hk;obtain ⟨c,hc⟩:=h (n,.free) M5 rfl;have e1:cellOf env n=pure c:=by unfold cellOf;rw [show env.cells.lookup n=some c from hc]
   simp only [beq_self_eq_true,if_true];rw [e1];show (forIn r ((n,c)::acc) _:Sem _)=_;rw [nR r _ hr];show _=pure (if NameKind.free=.free then cloOf env.cells r ((n,(env.cells.lookup n).getD 0)::acc) else _);rw [if_pos rfl,show env.cells.lookup n=some c from hc];rfl
  .have hb:(k==NameKind.free)=false:=by simpa using hk
   simp only [hb,Bool.false_eq_true,if_false];show (forIn r acc _:Sem _)=_;rw [nR r _ hr];show _=pure (if k=.free then _ else cloOf env.cells r acc);rw [if_neg hk]
theorem tZ{scope:Scope}{env:Env}(h:∀ x∈scope.names,x.2=.free->∃ c,env.cells.lookup x.1=some c):closureFor scope env=pure (cloOf env.cells scope.names []):=by
 simp only [closureFor];have e:=nR (env:=env) scope.names [] h;rw [e];rfl
theorem kC{cells:List (Str×Addr)}{x:Str} : ∀ (names:List (Str×NameKind)) (acc:List (Str×Addr)),
  (cloOf cells names acc).lookup x=if (x,NameKind.free)∈names then some ((cells.lookup x).getD 0) else acc.lookup x
 | [],acc=>by simp [cloOf]
 | (n,k)::r,acc=>by
  show (if k=.free then cloOf cells r ((n,(cells.lookup n).getD 0)::acc) else cloOf cells r acc).lookup x=_
  by_cases hk:k=.free
  .subst hk;rw [if_pos rfl,kC r]
   by_cases hm:(x,NameKind.free)∈r
   .rw [if_pos hm,if_pos (M6 _ hm)]
   .rw [if_neg hm,gB]
    by_cases hx:x=n
    .subst hx;rw [if_pos M5]
     simp
    .have e:(x==n)=false:=by simpa using hx
     rw [e,if_neg];intro z
     rcases F9.mp z with z | z
     .exact hx (Prod.mk.inj z).1
     .exact hm z
  .rw [if_neg hk,kC r]
   by_cases hm:(x,NameKind.free)∈r
   .rw [if_pos hm,if_pos (M6 _ hm)]
   .rw [if_neg hm,if_neg];intro z
    rcases F9.mp z with z | z
    .exact hk (Prod.mk.inj z).2.symm
    .exact hm z
theorem nS{α:Type}{x:Str} : ∀ {l:List (Str×α)} {k:α},l.lookup x=some k->(x,k)∈l
 | [],_,h=>by simp at h
 | (n,a)::r,k,h=>by
  rw [gB] at h
  by_cases hx:x=n
  .subst hx;simp at h;subst h;exact M5
  .have e:(x==n)=false:=by simpa using hx
   rw [e] at h;exact M6 _ (nS h)
theorem uA{sc:Scope}{env:Env}{x:Str}{k:NameKind}(hc:∀ y∈sc.names,y.2≠.cell)(h:(relabel sc env).names.lookup x=some k)(hk:k=.cell\/k=.free):(x,NameKind.free)∈sc.names:=by
 have m:=nS h;unfold relabel at m;obtain ⟨⟨n,k'⟩,hm,e⟩:=D4.mp m;have N5:=hc _ hm
 by_cases hf:k'=.free
 .subst hf
  have:n=x:=by
   dsimp only at e
   split at e
   .exact (Prod.mk.inj e).1
   .exact (Prod.mk.inj e).1
  subst this;exact hm
 .have hb:(k'==NameKind.free)=false:=by simpa using hf
  simp only [hb,Bool.false_and,Bool.false_eq_true,if_false] at e;obtain ⟨e1,e2⟩:=Prod.mk.inj e;subst e1 e2
  rcases hk with z | z
  .exact absurd z N5
  .subst z;exact absurd rfl hf
structure CompOk(N:List Str)(kn:List (Str×NameKind))(sc:Scope)(N':List Str)(k:Nat)(ixs:List Nat):Prop where
 kind:sc.kind=.function
 cell:∀ x∈sc.names,x.2≠.cell
 names:∀ x∈sc.names,x.2=.local->sc.names.lookup x.1=some .local
 free:∀ x∈sc.names,x.2=.free->kn.lookup x.1=some .cell\/kn.lookup x.1=some .free
 clean:∀ x∈sc.names,x.2=.free->sc.names.lookup x.1=some .free
 len:N'.length=k+ixs.length
 at_:ixs.map (fun i=>N[i]?)=(N'.drop k).map some
 fr:∀ x∈N'.drop k,(x,NameKind.free)∈sc.names
noncomputable def K3 (X:Cx) (sc:Scope) (N':List Str) (C:Addr) (zu:Shared) (zt:Hp) (fp:List Addr) (pins:List (Addr×Obj)):Cx:=
 {prog:=X.prog,w:=X.w,K:=X.K,mg:=X.mg,base:=X.base,A:=X.A,N:=N',s₀:=zu,H₀:=zt,
  env:=compEnvC sc (cloOf X.env.cells sc.names []) C X.env,outer:=X.stack,stack:=X.stack,ex:=fp,fn:=fun _=>false,calm:=X.calm,
  pn:=X.pn++pins,xe:=fun _ _=>False }
noncomputable def compStart (k:Nat) (ixs:List Nat) (O:St):St:=N2 k none++ixs.map fun i=>(O[i]?).join
theorem adU : (compStart k ixs O).length=k+ixs.length:=by simp [compStart]
section
variable {X:Cx} {sc:Scope} {N':List Str} {k:Nat} {ixs:List Nat} {pins:List (Addr×Obj)} {O:St} {H:Hp} {s:Shared} {fp:List Addr}
theorem dN(C:CompOk X.N X.env.scope.names sc N' k ixs)(I:Inv X pins O H s){x:Str}{c:Addr}(e:(cloOf X.env.cells sc.names []).lookup x=some c):X.env.cells.lookup x=some c/\(x,NameKind.free)∈sc.names:=by
 rw [kC] at e
 by_cases hm:(x,NameKind.free)∈sc.names
 .rw [if_pos hm] at e;obtain ⟨c',k7⟩:=I.ok.has x (C.free _ hm rfl);rw [k7] at e;exact ⟨k7.trans e,hm⟩
 .rw [if_neg hm] at e;cases e
theorem uB(C:CompOk X.N X.env.scope.names sc N' k ixs)(I:Inv X pins O H s){x:Str}(hm:(x,NameKind.free)∈sc.names):∃ c,(cloOf X.env.cells sc.names []).lookup x=some c/\X.env.cells.lookup x=some c:=by
 obtain ⟨c',k7⟩:=I.ok.has x (C.free _ hm rfl);refine ⟨c',?_,k7⟩;rw [kC,if_pos hm,k7];rfl
theorem ams(C:CompOk X.N X.env.scope.names sc N' k ixs)(I:Inv X pins O H s)(hf:∀ b∈fp,FpOk X pins H b)(ho:∀ b∈fp,∃ o,s.heap.get? b=some o):(K3 X sc N' s.heap.objs.size s H fp pins).Ok where
 mod:=I.ok.mod
 kind:=C.kind
 glob:=I.ok.glob
 blt:=I.ok.blt
 above:=C6 _
 inj:=fun x y c e1 e2=>I.ok.inj x y c (dN C I e1).1 (dN C I e2).1
 has:=fun x hx=>by
  have hm:(x,NameKind.free)∈sc.names:=by
   rcases hx with z | z
   .exact uA C.cell z (.inl rfl)
   .exact uA C.cell z (.inr rfl)
  obtain ⟨c,h1,_⟩:=uB C I hm;exact ⟨c,h1⟩
 cab:=fun x c h _=>by cases h
 hd:=I.ok.hd
 frames:=I.ok.frames
 stk:=.inl rfl
 exf:=fun b hb=>by
  obtain ⟨o,e⟩:=ho b hb;exact ⟨G6 (Heap.lt_size e),fun x c e1=>(hf b hb).2.2.2.2.1 x c (dN C I e1).1⟩
 bs:=I.bs
 bsz:=F6 I.ok.bsz I.sz
 noex:=fun b o e hb=>by
  rcases (hf b hb).2.2.2.1 with z | z
  .exact I.ok.noex b o e z
  .exact absurd (O9 (Heap.lt_size e) (F6 I.ok.bsz z)) (X5 _)
 exfs:=fun b hb hm=>by
  rcases F9.mp (I.stkSub b hm) with z | z
  .exact (hf b hb).2.1 z
  .exact (hf b hb).2.2.1 z
 funs:=I.stack
 frf:=I.stkFree
theorem akt(C:CompOk X.N X.env.scope.names sc N' k ixs)(I:Inv X pins O H s)(hf:∀ b∈fp,FpOk X pins H b)(ho:∀ b∈fp,∃ o,s.heap.get? b=some o){m:Str->Option Value}(hn:h'.Ns s.heap.objs.size m)(hk:∀ b o,s.heap.get? b=some o->h'.get? b=some o):Inv (K3 X sc N' s.heap.objs.size s H fp pins) [] (compStart k ixs O) H { s with heap:=h',toks:=t' } where
 ok:=ams C I hf ho
 os:=rfl
 bare:=I.bare
 base:=Un.kept hk
 loc:=by
  refine ⟨m,hn,fun i x v e1 e2 e3=>?_⟩;unfold compStart at e2
  by_cases hi:i<k
  .rw [fW (by simpa using hi)] at e2;rw [List.getElem?_replicate_of_lt hi] at e2;cases e2
  .rw [fV (by simpa using hi),List.length_replicate] at e2;rw [Q5] at e2;cases e4:ixs[i-k]? with
   | none=>rw [e4] at e2;cases e2
   | some j=>
    rw [e4] at e2;have e5:(O[j]?).join=some v:=Option.some.inj e2;have e6:O[j]?=some (some v):=by
     cases e7:O[j]? with
     | none=>rw [e7] at e5;cases e5
     | some o=>rw [e7] at e5;exact congrArg some e5
    have e1':N'[i]?=some x:=e1;have ed:(N'.drop k)[i-k]?=some x:=by rw [List.getElem?_drop,show k+(i-k)=i by lia];exact e1'
    have n3:(x,NameKind.free)∈sc.names:=C.fr x (P1 ed);have n2:X.N[j]?=some x:=by
     have q:=congrArg (fun l=>l[i-k]?) C.at_;simp only [Q5,e4,ed,Option.map_some] at q;exact Option.some.inj q
    obtain ⟨m0,hn0,qO⟩:=I.loc;have iN:X.env.scope.names.lookup x=some .cell\/X.env.scope.names.lookup x=some .free:=C.free _ n3 rfl;obtain ⟨u,r,l⟩:=qO j x v n2 e6 (.inr iN);refine ⟨u,r,.inr ?_⟩
    rcases l with ⟨l,_⟩ | ⟨_,c,hc,M4⟩
    .have l':X.env.scope.names.lookup x=some .local:=l
     rcases iN with z | z
     .rw [l'] at z;cases z
     .rw [l'] at z;cases z
    .obtain ⟨c',h1,h2⟩:=uB C I n3;rw [hc] at h2;cases h2;refine ⟨?_,c,h1,?_⟩
     .have e3':(relabel sc X.env).names.lookup x=some .local\/(relabel sc X.env).names.lookup x=some .cell\/(relabel sc X.env).names.lookup x=some .free:=e3
      rcases e3' with z | z
      .exfalso
       have mm:=nS z;unfold relabel at mm;obtain ⟨⟨n,k'⟩,hm,e⟩:=D4.mp mm;have iO:k'=.local/\n=x:=by
        dsimp only at e
        split at e
        .obtain ⟨_,q⟩:=Prod.mk.inj e
         cases q
        .exact ⟨(Prod.mk.inj e).2,(Prod.mk.inj e).1⟩
       obtain ⟨z1,z2⟩:=iO;subst z1 z2;have q1:=C.names _ hm rfl;rw [C.clean _ n3 rfl] at q1
       cases q1
      .exact z
     .exact M4.keeps hk
 cell:=fun x c e=>by
  obtain ⟨v,z⟩:=I.cell x c (dN C I e).1;exact ⟨v,z.keeps hk⟩
 free:=I.hok.fresh (C6 _)
 freeC:=fun x c e=>I.freeC x c (dN C I e).1
 pin:=fun p hp=>by
  have lX:p∈X.pn++pins:=by simpa [K3] using hp
  obtain ⟨e,n,ne,nf,d⟩:=I.pin p lX;refine ⟨hk _ _ e,n,G6 (Heap.lt_size e),fun hm=>?_,d⟩
  rcases F9.mp (I.stkSub _ hm) with z | z
  .exact ne z
  .exact nf z
 hok:=I.hok.kept hk
 len:=by rw [adU];exact C.len.symm
end
section
variable {prog:Program} {w:World} {A:Around} {R:Result->Shared->Prop} {s:Shared}
theorem aeu{scope:Scope}{pos:Pos}{it acc:Value}{env:Env}(I:Nat->Shared->Prop)(turn:∀ n s,I n s->wpAny (model prog w) A (pyNext it) (fun r zw=>match r with
   | none=>R (.ok .next) zw
   | some v=>wpAny (model prog w) A (letOwnedTupleGo target it v) (fun _ zw=>wpAny (model prog w) A (assign target env v) (fun _ zv=>
     wpAny (model prog w) A (forIn ifs true fun c r=>if r=true then do let ok <- isTrue c env (eval c env);pure (ForInStep.yield ok) else pure (ForInStep.yield r)) (fun ok zu=>
      if ok=true then wpAny (model prog w) A (eval elt env) (fun x zo=>
       wpAny (model prog w) A (call (.builtin "list.append") [acc,x]) (fun _ zn=>∃ m,m<n/\I m zn) (notedBy (model prog w) A env fun e s'=>R (.error e) s') zo) (notedBy (model prog w) A env fun e s'=>R (.error e) s') zu
      else ∃ m,m<n/\I m zu) (notedBy (model prog w) A env fun e s'=>R (.error e) s') zv) (notedBy (model prog w) A env fun e s'=>R (.error e) s') zw) (notedBy (model prog w) A env fun e s'=>R (.error e) s') zw) (notedBy (model prog w) A env fun e s'=>R (.error e) s') s)(n:Nat)(h:I n s) :
  codeAny (model prog w) A (.compLoop (.ListComp elt [⟨target,iter,ifs,0⟩] scope pos) 0 it acc env) R s:=by
 refine codeAny_loop rfl I (fun n s hI=>?_) n h;show wpAny _ A ((compTurn (.ListComp elt [⟨target,iter,ifs,0⟩] scope pos) 0 it acc env).onRaise (fun x=>do noteFrame x env;theTreesLotGoes x)) _ _ s;refine wpAny_noted ?_;rw [compTurn_list];refine wpAny_bind (wpAny_standAt (wpAny_bind (wpAny_mono (turn n s hI) (fun r zw zr=>?_) fun _ _ h'=>h')))
 cases r with
 | none=>exact wpAny_pure zr
 | some v=>
  refine wpAny_bind (wpAny_mono zr (fun _ zw zr=>?_) fun _ _ h'=>h');refine wpAny_bind (wpAny_mono zr (fun _ zv zq=>wpAny_bind (wpAny_mono zq (fun ok zu zp=>?_) fun _ _ h'=>h')) fun _ _ h'=>h')
  cases ok with
  | false=>exact wpAny_pure ⟨rfl,zp⟩
  | true=>
   exact wpAny_bind (wpAny_bind (wpAny_mono zp (fun x zo zm=>wpAny_bind (wpAny_mono zm (fun _ zn zk=>wpAny_pure (wpAny_pure ⟨rfl,zk⟩)) fun _ _ h'=>h')) fun _ _ h'=>h'))
end
noncomputable def PIfs (X:Cx) (ifs:List Expr) (t:TT):Prop:=
 ∀ (pins:List (Addr×Obj)) (s:Shared) (O:St) (H:Hp) (Q:Bool->Hp->Prop),Inv X pins O H s->t O H Q->
  wpAny (model X.prog X.w) X.A (forIn ifs true fun c r=>if r=true then do let ok <- isTrue c X.env (eval c X.env);pure (ForInStep.yield ok) else pure (ForInStep.yield r)) (TP X pins O Q) X.xe s
noncomputable def tYes:TT:=fun _ H Q=>Q true H
theorem aiv : PIfs X [] tYes:=fun _ _ _ H _ I h=>wpAny_tests_nil ⟨H,I,h⟩
theorem aiw{c:Expr}{t:TT}(hc:PT X c t):PIfs X [c] t:=fun pins s O H Q I h=>wpAny_tests_one (hc pins s O H Q I h)
noncomputable def tComp (wi:TI) (k:Nat) (ixs:List Nat) (g:TG) (c:TT) (te:TE):TE:=fun O H Q=>wi O H fun J H1=>∀ D,H1 D=none->
 ∃ (n:Nat) (W:Nat->List V->St->Hp->Prop),W 0 [] (compStart k ixs O) (A0 H1 D (.lst []))/\∀ i ys σ2 H2,W i ys σ2 H2->H2 D=some (.lst ys)->
  (J.stop i H2/\Q (.ref D) H2)\/
  (i<n/\J.go i H2/\∀ x H',J.yld i H2 x H'->g x σ2 H' fun σ3 H3=>c σ3 H3 fun b H4=>
   if b=true then te σ3 H4 fun y H5=>H5 D=some (.lst ys)/\ys.length<sizeLine/\W (i+1) (ys++[y]) σ3 (A0 H5 D (.lst (ys++[y])))
   else H4 D=some (.lst ys)/\W (i+1) ys σ3 H4)
section
variable {X:Cx} {sc:Scope} {N':List Str} {k:Nat} {ixs:List Nat}
theorem uC{pos:Pos}{J:It}(C:CompOk X.N X.env.scope.names sc N' k ixs)(K0:X.calm=true)(hg:∀ C zu zt fp pins,PG (K3 X sc N' C zu zt fp pins) target g)(hc:∀ C zu zt fp pins,PIfs (K3 X sc N' C zu zt fp pins) ifs c)(he:∀ C zu zt fp pins,PE (K3 X sc N' C zu zt fp pins) elt te){tn:Nat->Heap->Prop}(I:Inv X pins O H s)(T:Turn X.prog X.w X.K target J fp it tn)(st:tn 0 s.heap)(hf:∀ b∈fp,FpOk X pins H b)(h:∀ D,H D=none->∃ (n:Nat) (W:Nat->List V->St->Hp->Prop),W 0 [] (compStart k ixs O) (A0 H D (.lst []))/\∀ i ys σ2 H2,W i ys σ2 H2->H2 D=some (.lst ys)->
   (J.stop i H2/\Q (.ref D) H2)\/
   (i<n/\J.go i H2/\∀ x H',J.yld i H2 x H'->g x σ2 H' fun σ3 H3=>c σ3 H3 fun b H4=>
    if b=true then te σ3 H4 fun y H5=>H5 D=some (.lst ys)/\ys.length<sizeLine/\W (i+1) (ys++[y]) σ3 (A0 H5 D (.lst (ys++[y])))
    else H4 D=some (.lst ys)/\W (i+1) ys σ3 H4)){RR:Value->Addr->Result->Shared->Prop}(hRR:∀ D Cc (H':Hp) (s':Shared) (o:Obj) m,Inv X pins O H' s'->Inv X (pins++[(Cc,o)]) O H' s'->s'.heap.get? Cc=some o->s'.heap.Ns Cc m->H' Cc=none->Cc≠X.env.locals->X.s₀.heap.objs.size<=Cc->
   (∀ x c,X.env.cells.lookup x=some c->c≠Cc)->(∀ p∈X.pn++pins,p.1≠Cc)->Q (.ref D) H'->RR (.ref D) Cc (.ok .next) s') :
  wpAny (model X.prog X.w) X.A (newList []) (fun acc zu=>wpAny (model X.prog X.w) X.A (newFunctionEnv sc X.env.globals (cloOf X.env.cells sc.names []) [] X.env.qual none .none (some X.env)) (fun cenv zo=>
   codeAny (model X.prog X.w) X.A (.compStart (.ListComp elt [⟨target,iter,ifs,0⟩] sc pos) 0 (.ref it) acc { cenv with scope:=relabel sc X.env }) (RR acc cenv.locals) zo) E zu) E s:=by
 have fresh:=I.hok.fresh (C6 s.heap.objs.size);obtain ⟨n,W,w0,turn⟩:=h s.heap.objs.size fresh;have hfD:∀ b∈fp,b≠s.heap.objs.size:=fun b hb z=>by
  obtain ⟨o,e,_⟩:=T.obj _ _ st b hb;rw [z] at e;exact absurd (Heap.lt_size e) (X5 _)
 have zR:∀ b∈fp,FpOk X pins (A0 H s.heap.objs.size (.lst [])) b:=fun b hb=>⟨by rw [A9 (hfD b hb)];exact (hf b hb).1,(hf b hb).2⟩
 have main:∀ (s3:Shared) (zr:Heap) (t1:Nat),Inv X pins O (A0 H s.heap.objs.size (.lst [])) s3->(∀ b o,s.heap.get? b=some o->s3.heap.get? b=some o)->zr.Ns s3.heap.objs.size (fun x=>([]:List (Str×Value)).reverse.lookup x)->
   (∀ b o,s3.heap.get? b=some o->zr.get? b=some o)->
   tn 0 zr/\codeAny (model X.prog X.w) X.A (.compLoop (.ListComp elt [⟨target,iter,ifs,0⟩] sc pos) 0 (.ref it) (.ref s.heap.objs.size) (K3 X sc N' s3.heap.objs.size s3 (A0 H s.heap.objs.size (.lst [])) fp pins).env) (RR (.ref s.heap.objs.size) s3.heap.objs.size) { s3 with heap:=zr,toks:=t1 }:=by
  intro s3 zr t1 I3 k3 aD keep3;have aB:tn 0 s3.heap:=T.keep _ _ _ st fun b hb o e=>k3 b o e
  have zS:∀ b∈fp,∃ o,s3.heap.get? b=some o:=fun b hb=>let ⟨o,e,_⟩:=T.obj _ _ aB b hb;⟨o,e⟩
  have lY:tn 0 zr:=T.keep _ _ _ aB fun b hb o e=>keep3 b o e
  have B0:Inv (K3 X sc N' s3.heap.objs.size s3 (A0 H s.heap.objs.size (.lst [])) fp pins) [] (compStart k ixs O) (A0 H s.heap.objs.size (.lst [])) { s3 with heap:=zr,toks:=t1 }:=akt C I3 zR zS aD keep3;refine ⟨lY,?_⟩;have fpX:∀ {H':Hp},(∀ b∈fp,H' b=none)->∀ b∈fp,FpOk (K3 X sc N' s3.heap.objs.size s3 (A0 H s.heap.objs.size (.lst [])) fp pins) [] H' b:=fun {H'} hn b hb=>by
   obtain ⟨o,eo⟩:=zS b hb;refine ⟨hn b hb,G6 (Heap.lt_size eo),?_,.inl hb,?_,?_⟩
   .intro hm
    rcases F9.mp (I3.stkSub b hm) with z | z
    .exact (hf b hb).2.1 z
    .exact (hf b hb).2.2.1 z
   .intro x cc ec;exact (hf b hb).2.2.2.2.1 x cc (dN C I3 ec).1
   .intro p hp;exact (hf b hb).2.2.2.2.2 p (by simpa [K3] using hp)
  refine aeu (fun m s'=>∃ i ys σ' H',m=n-i/\Inv (K3 X sc N' s3.heap.objs.size s3 (A0 H s.heap.objs.size (.lst [])) fp pins) [] σ' H' s'/\tn i s'.heap/\(∀ b∈fp,H' b=none)/\H' s.heap.objs.size=some (.lst ys)/\W i ys σ' H') ?_ n ⟨0,[],_,_,rfl,B0,lY,fun b hb=>(zR b hb).1,A7,w0⟩;rintro m s4 ⟨i,ys,σ4,H4,rfl,I4,zT,zU,hD4,w4⟩;have again:∀ {i':Nat} {ys':List V} {σ7:St} {H7:Hp} {s6 s7:Shared},i<n->i'=i+1->tn i' s6.heap->Inv (K3 X sc N' s3.heap.objs.size s3 (A0 H s.heap.objs.size (.lst [])) fp pins) ([]++dG fp s6.heap) σ7 H7 s7->H7 s.heap.objs.size=some (.lst ys')->W i' ys' σ7 H7->
    ∃ m,m<n-i/\∃ i ys σ' H',m=n-i/\Inv (K3 X sc N' s3.heap.objs.size s3 (A0 H s.heap.objs.size (.lst [])) fp pins) [] σ' H' s7/\tn i s7.heap/\(∀ b∈fp,H' b=none)/\H' s.heap.objs.size=some (.lst ys)/\W i ys σ' H':=fun {i' ys' σ7 H7 s6 s7} D1 ei eW I7 hD w=>by
   subst ei;refine ⟨n-(i+1),by lia,i+1,ys',σ7,H7,rfl,I7.unpinned,T.keep _ _ _ eW fun b hb o e=>(I7.pin (b,o) (O3 _ (O3 _ (dH hb e)))).1,fun b hb=>?_,hD,w⟩;obtain ⟨o,e,_⟩:=T.obj _ _ eW b hb;exact (I7.pin (b,o) (O3 _ (O3 _ (dH hb e)))).2.1
  rcases turn i ys σ4 H4 w4 hD4 with ⟨stop,q⟩ | ⟨D1,go,step⟩
  .refine C0 (T.done (K3 X sc N' s3.heap.objs.size s3 (A0 H s.heap.objs.size (.lst [])) fp pins) rfl rfl rfl K0 i [] s4 σ4 H4 _ I4 (fpX zU) zT stop) fun r s5 eX=>?_
   obtain ⟨hr,I5⟩:=eX;subst hr;have back:Inv X pins O H4 s5:=I3.call' (ch:=fp) I5.os I5.base I5.hok I5.bare fun b hb=>⟨(hf b hb).2.2.2.1,(hf b hb).2.1,(hf b hb).2.2.2.2.1,(hf b hb).2.2.2.2.2⟩
   obtain ⟨mm,zV,_⟩:=I5.loc;obtain ⟨o,es,ep,ho,hd,U8⟩:=id zV;have hC:s3.heap.objs.size≠X.env.locals:=i7 I3.lt;refine hRR s.heap.objs.size s3.heap.objs.size H4 s5 o mm back ?_ ho zV I5.free hC I3.sz ?_ ?_ q
   .refine back.pins_of fun p hp=>?_
    rcases J3.mp hp with z | z
    .exact back.pin p (O3 _ z)
    .have e:p=(s3.heap.objs.size,o):=by simpa using z
     subst e;exact ⟨ho,I5.free,hC,I3.nofs (C6 _),fun v z=>by rw [hd] at z;cases z⟩
   .intro x c e z;obtain ⟨v,q⟩:=I3.cell x c e
    have:=q.lt
    rw [z] at this;exact X5 _ this
   .intro p hp z
    have:=Heap.lt_size (I3.pin p hp).1
    rw [z] at this;exact X5 _ this
  .refine C0 (T.item (K3 X sc N' s3.heap.objs.size s3 (A0 H s.heap.objs.size (.lst [])) fp pins) rfl rfl rfl K0 i [] s4 σ4 H4 _ I4 (fpX zU) zT go) fun r s5 eX=>?_
   obtain ⟨u,hr,h5⟩:=eX;subst hr;refine C0 h5 fun _ s6 h6=>?_
   obtain ⟨x,H6,I6,r6,y6,eW,fr6⟩:=h6;have I6':=I6.pinned (fpX fr6) (T.obj _ _ eW);refine wpAny_mono (hg _ _ _ _ _ _ s6 σ4 H6 x u _ I6' r6 (step x H6 y6)) (fun _ s7 h7=>?_) fun _ _ z=>False.elim z
   obtain ⟨σ7,H7,I7,q7⟩:=h7;refine wpAny_mono (hc _ _ _ _ _ _ s7 σ7 H7 _ I7 q7) (fun ok s8 h8=>?_) fun _ _ z=>False.elim z
   obtain ⟨H8,I8,q8⟩:=h8
   cases ok with
   | false=>
    rw [if_neg K7] at q8 ⊢
    exact again D1 rfl eW I8 q8.1 q8.2
   | true=>
    rw [if_pos rfl] at q8 ⊢
    refine wpAny_mono (he _ _ _ _ _ _ s8 σ7 H8 _ I8 q8) (fun y s9 h9=>?_) fun _ _ z=>False.elim z
    obtain ⟨yv,H9,I9,r9,hD9,hz9,w9⟩:=h9;refine wpAny_mono (tR (X:=(K3 X sc N' s3.heap.objs.size s3 (A0 H s.heap.objs.size (.lst [])) fp pins)) _ s9 σ7 H9 (.ref s.heap.objs.size) [yv] (.ref s.heap.objs.size) [y] (fun _ H'=>H'=A0 H9 s.heap.objs.size (.lst (ys++[yv]))) I9 rfl (.cons r9 .nil) ⟨_,ys,yv,rfl,rfl,hD9,hz9,rfl⟩) (fun _ s10 h10=>?_) fun _ _ z=>False.elim z
    obtain ⟨_,W9,I10,_,e10⟩:=h10;subst e10;exact again D1 rfl eW I10 A7 w9
 have I3:=I.lnew (ys:=[]) (its:=[]) (t':=s.toks) .nil (J4 _);refine wpAny_newObj_type (wpAny_newFunctionEnv C.cell (by intro y hy;simp at hy) (fun zr zj zi=>?_) C.kind);obtain ⟨lY,loop⟩:=main _ zr (s.toks+([]:List (Str×Value)).length) I3 (fun b o e=>Heap.get?_push_of_some _ e) zj fun b o e=>zi.extBut b o (G6 (Heap.lt_size e)) (Heap.get?_push_of_some _ e)
 exact codeAny_compStart_list loop (T.self X.A 0 _ _ _ lY loop)
theorem aku{pos:Pos}{wi:TI}(C:CompOk X.N X.env.scope.names sc N' k ixs)(K0:X.calm=true)(hi:PI X target iter wi)(hg:∀ C zu zt fp pins,PG (K3 X sc N' C zu zt fp pins) target g)(hc:∀ C zu zt fp pins,PIfs (K3 X sc N' C zu zt fp pins) ifs c)(he:∀ C zu zt fp pins,PE (K3 X sc N' C zu zt fp pins) elt te)(hs:∀ x,foldedSetIterable iter X.env x=pure x:=by intro _;rfl):PE X (.ListComp elt [⟨target,iter,ifs,0⟩] sc pos) (tComp wi k ixs g c te):=by
 intro pins s O H Q I h;rw [eval_ListComp];refine wpAny_comprehension_free (use:=none) rfl hs (tZ fun x hx hf=>I.ok.has x.1 (C.free x hx hf)) C.kind C.names (C0 (hi pins s O H _ I h) fun v s1 h1=>C0 h1 fun itv s2 h2=>?_);obtain ⟨it,fp,tn,J,H2,e,I2,T,iG,f2,q2⟩:=h2;subst e;refine uC (RR:=fun acc C=>compPost (model X.prog X.w) X.A X.xe none (EP X pins O Q) acc C) C K0 hg hc he I2 T iG f2 q2 ?_;intro D Cc H' s' o m I' _ ho hn hC hL eY M4 bZ q;exact ⟨m,hn,fun h'' hs''=>⟨.ref D,H',I'.turned (t':=s'.toks) (fun b o hb e=>hs''.extBut b o hb e) hC hL (.inr eY) M4 bZ,rfl,q⟩⟩
theorem agb{pos py:Pos}{wi:TI}{y:Str}(hN:X.N.Nodup)(hiN:X.N[i]?=some y)(hx:i8 X.env.scope y)(C:CompOk X.N X.env.scope.names sc N' k ixs)(K0:X.calm=true)(hi:PI X target iter wi)(hg:∀ C zu zt fp pins,PG (K3 X sc N' C zu zt fp pins) target g)(hc:∀ C zu zt fp pins,PIfs (K3 X sc N' C zu zt fp pins) ifs c)(he:∀ C zu zt fp pins,PE (K3 X sc N' C zu zt fp pins) elt te)(cA:swapsWith (.ListComp elt [⟨target,iter,ifs,0⟩] sc pos) (some (.Name y py)) spos.line X.env=pure true:=by rfl)(hf:X.fn y=true\/X.env.scope.names.lookup y=some .local:=by first | exact .inl rfl | exact .inr rfl | assumption)(hs:∀ x,foldedSetIterable iter X.env x=pure x:=by intro _;rfl):PS X (.Assign [.Name y py] (.ListComp elt [⟨target,iter,ifs,0⟩] sc pos) spos) (tAsg (tComp wi k ixs g c te) (gName i)):=by
 intro pins s O H D I h;rw [exec_Assign_Name_used _ _ _ _ cA];refine wpAny_bind (wpAny_standAt (wpAny_bind ?_));show wpAny _ X.A (do let _ <- comprehension (.ListComp elt [⟨target,iter,ifs,0⟩] sc pos) sc X.env _ (newList []) false (eval iter X.env) (some (assign (.Name y py) X.env))) _ _ s;refine wpAny_bind (wpAny_mono (wpAny_comprehension_free (use:=some (assign (.Name y py) X.env)) (Q:=fun _ s'=>SP X pins D .next s') rfl hs (tZ fun x hx hf=>I.ok.has x.1 (C.free x hx hf)) C.kind C.names
  (C0 (hi pins s O H _ I h) fun v s1 h1=>C0 h1 fun itv s2 h2=>?_)) (fun _ s' hq=>wpAny_pure (wpAny_pure hq)) fun _ _ e=>e)
 obtain ⟨it,fp,tn,J,H2,e,I2,T,iG,f2,q2⟩:=h2;subst e;refine uC (Q:=fun x H1=>gName i x O H1 D.nx) (RR:=fun acc C=>compPost (model X.prog X.w) X.A X.xe (some (assign (.Name y py) X.env)) (fun _ s'=>SP X pins D .next s') acc C) C K0 hg hc he I2 T iG f2 q2 ?_;intro Da Cc H' s' o m _ Ip ho hn hC hL eY M4 bZ q;show wpAny _ X.A (assign (.Name y py) X.env (.ref Da)) _ _ _;refine wpAny_assign_Name (gF (v:=.ref Da) Ip hN hiN hx rfl (fun s'' I''=>?_) hf);have hC2:=(I''.pin (Cc,o) (O3 _ (O3 _ (G5.mpr rfl)))).1;refine ⟨m,hn.at' fun o' e'=>?_,fun h'' hs''=>?_⟩
 .rw [ho] at e';cases e';exact hC2
 .have I3:Inv X pins (O.set i (some (.ref Da))) H' s'':=I''.unpinned;exact ⟨_,H',I3.turned (t':=s''.toks) (fun b o hb e=>hs''.extBut b o hb e) hC hL (.inr eY) M4 bZ,q⟩
end
end L2
end
set_option maxRecDepth 100000
namespace L2
open PySem PySem.Spec PyProof.Rows
section
variable {X:Cx} {a b:Expr} {ta tb:TE} {pos:Pos} {rest:List Expr}
noncomputable def tTru (K:PySem.W.Frag) (te:TE):TT:=fun O H Q=>te O H fun x H1=>∃ k,TruV K x H1 k/\Q k H1
theorem amt(ha:PE X a ta)(he:∀ whole,isTrue a X.env whole=(do let v <- whole;standAt a.pos;holding [v] (truthy v)):=by intro _;rfl):PT X a (tTru X.K ta):=aik ha he
noncomputable def tNotT (K:PySem.W.Frag) (te:TE):TE:=fun O H Q=>te O H fun x H1=>∃ k,TruV K x H1 k/\Q (.bl (!k)) H1
theorem akv(ha:PE X a ta):PE X (.UnaryOp .Not a pos) (tNotT X.K ta):=by
 intro pins s O H Q I h;refine UnaryOp_ (C0 (ha pins s O H _ I h) fun v s1 ⟨x,H1,I1,r1,q1⟩=>?_);exact not_of (C0 (sW pins s1 O H1 x v (fun k H2=>Q (.bl (!k)) H2) I1 r1 q1) fun c s2 ⟨H2,I2,q2⟩=>⟨.bl (!c),H2,I2,rfl,q2⟩)
end
mutual
inductive Dn (K:PySem.W.Frag) (H:Hp):V->PyData->Prop
 | non:Dn K H .non .none
 | bl (b):Dn K H (.bl b) (.bool b)
 | int (i):Dn K H (.int i) (.int i)
 | str (x):Z9 x=true->Dn K H (.str x) (.str x)
 | lst {a xs ds} : D5 K H a xs->DnAll K H xs ds->Dn K H (.ref a) (.list ds)
 | tup {a xs ds} : D0 K H a xs->DnAll K H xs ds->Dn K H (.ref a) (.tuple ds)
inductive DnAll (K:PySem.W.Frag) (H:Hp):List V->List PyData->Prop
 | nil:DnAll K H [] []
 | cons {x xs d ds} : Dn K H x d->DnAll K H xs ds->DnAll K H (x::xs) (d::ds)
end
section
variable {X:Cx} {pins:List (Addr×Obj)} {O:St} {H:Hp} {s:Shared}
mutual
theorem Dn.reads{K:PySem.W.Frag}{x:V}{d:PyData}(I:Inv X pins O H s)(hK:X.K=K):Dn K H x d->∀ {u:Value},RelV x u->d.canLay0=true/\∃ as,Reads s.heap u d as
 | .non,u,r=>by cases r;exact ⟨rfl,_,.none⟩
 | .bl b,u,r=>by cases r;exact ⟨rfl,_,.bool b⟩
 | .int i,u,r=>by obtain ⟨t,rfl⟩:=r;exact ⟨rfl,_,.int i t⟩
 | .str x hx,u,r=>by obtain ⟨t,rfl⟩:=r;exact ⟨hx,_,.str x t⟩
 | .lst (a:=a) q hs,u,r=>by
  cases r
  subst hK;obtain ⟨its,rv,⟨o,n,e,c,_,dd⟩,_⟩:=I.list q;obtain ⟨h1,as,h2⟩:=DnAll.reads I rfl hs rv;exact ⟨h1,_,.list e c dd (by simpa using h2)⟩
 | .tup (a:=a) q hs,u,r=>by
  cases r
  subst hK;obtain ⟨its,rv,⟨o,e,c,n,dd⟩,_⟩:=I.tuple q;obtain ⟨h1,as,h2⟩:=DnAll.reads I rfl hs rv;exact ⟨h1,_,.tuple e c dd (by simpa using h2)⟩
theorem DnAll.reads{K:PySem.W.Frag}{xs:List V}{ds:List PyData}(I:Inv X pins O H s)(hK:X.K=K):DnAll K H xs ds->∀ {us:List Value},Vals xs us->PyData.canLayAll0 ds=true/\∃ as,ReadsAll s.heap us ds as
 | .nil,us,r=>by cases r;exact ⟨rfl,_,.nil⟩
 | .cons h t,us,r=>by
  cases r with
  | cons r1 r2=>
   obtain ⟨c1,a1,q1⟩:=Dn.reads I hK h r1;obtain ⟨c2,a2,q2⟩:=DnAll.reads I hK t r2;exact ⟨by simp [PyData.canLayAll0,c1,c2],_,.cons q1 q2⟩
end
end
mutual
theorem Dn.same{K:PySem.W.Frag}{H H':Hp}(hs:Same H H'){x:V}{d:PyData} : Dn K H x d->Dn K H' x d
 | .non=>.non
 | .bl b=>.bl b
 | .int i=>.int i
 | .str x h=>.str x h
 | .lst q h=>.lst (hs.seq q) (DnAll.same hs h)
 | .tup (a:=a) (xs:=xs) q h=>.tup (by
   rcases q with (q | ⟨o,q⟩) | q
   .exact .inl (.inl (hs _ _ q))
   .exact .inl (.inr ⟨o,hs _ _ q⟩)
   .exact .inr q) (DnAll.same hs h)
theorem DnAll.same{K:PySem.W.Frag}{H H':Hp}(hs:Same H H'){xs:List V}{ds:List PyData} : DnAll K H xs ds->DnAll K H' xs ds
 | .nil=>.nil
 | .cons h t=>.cons (Dn.same hs h) (DnAll.same hs t)
end
noncomputable def rAddR (K:PySem.W.Frag) (a b:Addr) (H:Hp) (Q:VK):Prop:=rCat (.ref a) (.ref b) H Q\/rCatT K (.ref a) (.ref b) H Q
theorem rAddR.l{K:PySem.W.Frag}{a b:Addr}{H:Hp}{Q:VK}{xs ys:List V}(h1:H a=some (.lst xs))(h2:H b=some (.lst ys))(h3:xs.length+ys.length<=sizeLine)(h:∀ p,H p=none->Q (.ref p) (A0 H p (.lst (xs++ys)))):rAddR K a b H Q:=.inl ⟨a,b,xs,ys,rfl,rfl,h1,h2,h3,h⟩
theorem rAddR.t{K:PySem.W.Frag}{a b:Addr}{H:Hp}{Q:VK}{xs ys:List V}(h1:D0 K H a xs)(h2:D0 K H b ys)(h0:xs≠[])(h3:xs.length+ys.length<=sizeLine)(he:ys=[]->Q (.ref a) H)(h:ys≠[]->∀ p,H p=none->Q (.ref p) (A0 H p (.tup (xs++ys)))):rAddR K a b H Q:=.inr ⟨a,b,xs,ys,rfl,rfl,h1,h2,h0,h3,he,h⟩
noncomputable def rAddU (K:PySem.W.Frag):V->V->Hp->VK->Prop
 | .int i,.int j,H,Q=>Q (.int (i+j)) H
 | .str i,.str j,H,Q=>i.length+j.length<=sizeLine/\Q (.str (i++j)) H
 | .ref a,.ref b,H,Q=>rAddR K a b H Q
 | _,_,_,_=>False
noncomputable def rMulU:V->V->Hp->VK->Prop
 | .int i,.int j,H,Q=>CMul i j/\Q (.int (i*j)) H
 | .ref a,.int j,H,Q=>rRep (.ref a) (.int j) H Q
 | _,_,_,_=>False
noncomputable def rEqU (K:PySem.W.Frag):V->V->Hp->VK->Prop
 | .int i,.int j,H,Q=>Q (.bl (decide (i=j))) H
 | .str i,.str j,H,Q=>Q (.bl (decide (i=j))) H
 | .bl i,.bl j,H,Q=>Q (.bl (decide (i=j))) H
 | x,y,H,Q=>∃ d e,Dn K H x d/\Dn K H y e/\min d.depth e.depth<=60/\Q (.bl (PyData.eqv d e)) H
noncomputable def rNeU (K:PySem.W.Frag):V->V->Hp->VK->Prop
 | .int i,.int j,H,Q=>Q (.bl (!decide (i=j))) H
 | .str i,.str j,H,Q=>Q (.bl (!decide (i=j))) H
 | .bl i,.bl j,H,Q=>Q (.bl (!decide (i=j))) H
 | x,y,H,Q=>∃ d e,Dn K H x d/\Dn K H y e/\min d.depth e.depth<=60/\Q (.bl (!PyData.eqv d e)) H
noncomputable def rLtU:V->V->Hp->VK->Prop
 | .int i,.int j,H,Q=>Q (.bl (decide (i<j))) H
 | .str i,.str j,H,Q=>Q (.bl (decide (i.cps.toList<j.cps.toList))) H
 | _,_,_,_=>False
noncomputable def rLeU:V->V->Hp->VK->Prop
 | .int i,.int j,H,Q=>Q (.bl (decide (i<=j))) H
 | .str i,.str j,H,Q=>Q (.bl (!decide (j.cps.toList<i.cps.toList))) H
 | _,_,_,_=>False
noncomputable def rGtU:V->V->Hp->VK->Prop
 | .int i,.int j,H,Q=>Q (.bl (decide (j<i))) H
 | .str i,.str j,H,Q=>Q (.bl (decide (j.cps.toList<i.cps.toList))) H
 | _,_,_,_=>False
noncomputable def rGeU:V->V->Hp->VK->Prop
 | .int i,.int j,H,Q=>Q (.bl (decide (j<=i))) H
 | .str i,.str j,H,Q=>Q (.bl (!decide (i.cps.toList<j.cps.toList))) H
 | _,_,_,_=>False
noncomputable def rInR (K:PySem.W.Frag) (neg:Bool) (x:V) (p:Addr) (H:Hp) (Q:VK):Prop:=nF K neg x (.ref p) H Q\/∃ o,DGet H p x o/\Q (.bl (neg.xor o.isSome)) H
theorem rInR.l{K:PySem.W.Frag}{neg:Bool}{x:V}{p:Addr}{H:Hp}{Q:VK}{xs:List V}(h1:D5 K H p xs\/D0 K H p xs)(h2:flatV x=true)(h3:xs.all flatV=true)(h:Q (.bl (neg.xor (j1 x xs))) H):rInR K neg x p H Q:=.inl ⟨p,xs,rfl,h1,h2,h3,by cases neg <;> simpa using h⟩
theorem rInR.d{K:PySem.W.Frag}{neg:Bool}{x:V}{p:Addr}{H:Hp}{Q:VK}{o:Option V}(h1:DGet H p x o)(h:Q (.bl (neg.xor o.isSome)) H):rInR K neg x p H Q:=.inr ⟨o,h1,h⟩
noncomputable def rInU (K:PySem.W.Frag) (neg:Bool) (x:V):V->Hp->VK->Prop
 | .str j,H,Q=>∃ i,x=.str i/\Q (.bl (neg.xor (!(Builtin.Str.occurrences j i 0 j.length 1).isEmpty))) H
 | .ref p,H,Q=>rInR K neg x p H Q
 | _,_,_=>False
section
variable {X:Cx} {pins:List (Addr×Obj)} {O:St} {H:Hp} {s:Shared}
theorem p_add:E6 X (binaryOp .Add) (rAddU X.K):=by
 intro pins s O H x y v u Q I rx ry h
 cases x <;> cases y <;> try exact h.elim
 .exact al5 pins s O H _ _ v u Q I rx ry ⟨_,_,rfl,rfl,h⟩
 .exact af3 pins s O H _ _ v u Q I rx ry ⟨_,_,rfl,rfl,h⟩
 .rcases h with h | h
  .exact amo pins s O H _ _ v u Q I rx ry h
  .exact akl pins s O H _ _ v u Q I rx ry h
theorem p_sub:E6 X (binaryOp .Sub) (i9 fun i j=>.int (i-j)):=al6
theorem p_mul:E6 X (binaryOp .Mult) rMulU:=by
 intro pins s O H x y v u Q I rx ry h
 cases x <;> cases y <;> try exact h.elim
 .exact al7 pins s O H _ _ v u Q I rx ry ⟨_,_,rfl,rfl,h⟩
 .exact amp pins s O H _ _ v u Q I rx ry h
theorem amu:E6 X (binaryOp .FloorDiv) (rI CDiv fun i j=>.int (i / j)):=akb
theorem p_mod:E6 X (binaryOp .Mod) (rI (fun _ j=>0<j) fun i j=>.int (i % j)):=al8
theorem kD(hu:X.A.units+64<cLine){x y:V}{v u:Value}{Q:VK}(I:Inv X pins O H s)(rx:RelV x v)(ry:RelV y u)(h:∃ d e,Dn X.K H x d/\Dn X.K H y e/\min d.depth e.depth<=60/\Q (.bl (PyData.eqv d e)) H):wpAny (model X.prog X.w) X.A (compareOp .Eq v u) (EP X pins O Q) X.xe s:=by
 obtain ⟨d,e,h1,h2,hd,q⟩:=h;obtain ⟨c1,as,r1⟩:=h1.reads I rfl rx;obtain ⟨c2,bs,r2⟩:=h2.reads I rfl ry;exact SeqAt.compareEq_reads r1 r2 c1 c2 (by lia) ⟨.bl _,H,I,rfl,q⟩
theorem kE(hu:X.A.units+64<cLine){x y:V}{v u:Value}{Q:VK}(I:Inv X pins O H s)(rx:RelV x v)(ry:RelV y u)(h:∃ d e,Dn X.K H x d/\Dn X.K H y e/\min d.depth e.depth<=60/\Q (.bl (!PyData.eqv d e)) H):wpAny (model X.prog X.w) X.A (compareOp .NotEq v u) (EP X pins O Q) X.xe s:=by
 obtain ⟨d,e,h1,h2,hd,q⟩:=h;obtain ⟨c1,as,r1⟩:=h1.reads I rfl rx;obtain ⟨c2,bs,r2⟩:=h2.reads I rfl ry;exact SeqAt.compareNe_reads r1 r2 c1 c2 (by lia) ⟨.bl _,H,I,rfl,q⟩
theorem p_eq(hu:X.A.units+64<cLine):E6 X (compareOp .Eq) (rEqU X.K):=by
 intro pins s O H x y v u Q I rx ry h;have sc:∀ {x y:V},sO x y H Q->RelV x v->RelV y u->wpAny (model X.prog X.w) X.A (compareOp .Eq v u) (EP X pins O Q) X.xe s:=fun {x y} h rx ry=>op_eq pins s O H x y v u Q I rx ry h
 cases x with
 | int i=>cases y with
  | int j=>exact sc (x:=.int i) (y:=.int j) ⟨rfl,by simpa using (show Q (.bl (decide (i=j))) H from h)⟩ rx ry
  | _=>exact kD hu I rx ry h
 | str i=>cases y with
  | str j=>exact sc (x:=.str i) (y:=.str j) ⟨rfl,by simpa using (show Q (.bl (decide (i=j))) H from h)⟩ rx ry
  | _=>exact kD hu I rx ry h
 | bl i=>cases y with
  | bl j=>exact sc (x:=.bl i) (y:=.bl j) ⟨rfl,by simpa using (show Q (.bl (decide (i=j))) H from h)⟩ rx ry
  | _=>exact kD hu I rx ry h
 | _=>cases y <;> exact kD hu I rx ry h
theorem p_ne(hu:X.A.units+64<cLine):E6 X (compareOp .NotEq) (rNeU X.K):=by
 intro pins s O H x y v u Q I rx ry h;have sc:∀ {x y:V},sP x y H Q->RelV x v->RelV y u->wpAny (model X.prog X.w) X.A (compareOp .NotEq v u) (EP X pins O Q) X.xe s:=fun {x y} h rx ry=>op_ne pins s O H x y v u Q I rx ry h
 cases x with
 | int i=>cases y with
  | int j=>exact sc (x:=.int i) (y:=.int j) ⟨rfl,by simpa using (show Q (.bl (!decide (i=j))) H from h)⟩ rx ry
  | _=>exact kE hu I rx ry h
 | str i=>cases y with
  | str j=>exact sc (x:=.str i) (y:=.str j) ⟨rfl,by simpa using (show Q (.bl (!decide (i=j))) H from h)⟩ rx ry
  | _=>exact kE hu I rx ry h
 | bl i=>cases y with
  | bl j=>exact sc (x:=.bl i) (y:=.bl j) ⟨rfl,by simpa using (show Q (.bl (!decide (i=j))) H from h)⟩ rx ry
  | _=>exact kE hu I rx ry h
 | _=>cases y <;> exact kE hu I rx ry h
theorem p_lt:E6 X (compareOp .Lt) rLtU:=by
 intro pins s O H x y v u Q I rx ry h
 cases x <;> cases y <;> try exact h.elim
 .exact op_lt pins s O H _ _ v u Q I rx ry ⟨_,_,rfl,rfl,h⟩
 .exact agN pins s O H _ _ v u Q I rx ry ⟨_,_,rfl,rfl,h⟩
theorem p_le:E6 X (compareOp .LtE) rLeU:=by
 intro pins s O H x y v u Q I rx ry h
 cases x <;> cases y <;> try exact h.elim
 .exact op_le pins s O H _ _ v u Q I rx ry ⟨_,_,rfl,rfl,h⟩
 .obtain ⟨t,rfl⟩:=rx;obtain ⟨t',rfl⟩:=ry;exact PySem.P.le_str ⟨.bl _,H,I,by simp [RelV],h⟩
theorem p_gt:E6 X (compareOp .Gt) rGtU:=by
 intro pins s O H x y v u Q I rx ry h
 cases x <;> cases y <;> try exact h.elim
 .exact op_gt pins s O H _ _ v u Q I rx ry ⟨_,_,rfl,rfl,h⟩
 .obtain ⟨t,rfl⟩:=rx;obtain ⟨t',rfl⟩:=ry;exact PySem.P.gt_str ⟨.bl _,H,I,rfl,h⟩
theorem p_in(hu:X.A.units+64<cLine):E6 X (compareOp .In) (rInU X.K false):=by
 intro pins s O H x y v u Q I rx ry h
 cases y with
 | str j=>
  obtain ⟨i,rfl,q⟩:=h;exact agO pins s O H _ _ v u Q I rx ry ⟨i,j,rfl,rfl,by simpa using q⟩
 | ref p=>
  rcases h with h | ⟨o,g,q⟩
  .exact agW pins s O H _ _ v u Q I rx ry h
  .obtain rfl:u=Value.ref p:=ry;exact d_in (by lia) I g rx fun s3 I3=>⟨.bl o.isSome,H,I3,rfl,by simpa using q⟩
 | _=>exact h.elim
theorem akw(hu:X.A.units+64<cLine):E6 X (compareOp .NotIn) (rInU X.K true):=by
 intro pins s O H x y v u Q I rx ry h
 cases y with
 | str j=>
  obtain ⟨i,rfl,q⟩:=h;exact aem pins s O H _ _ v u Q I rx ry ⟨i,j,rfl,rfl,by simpa using q⟩
 | ref p=>
  rcases h with h | ⟨o,g,q⟩
  .exact ael pins s O H _ _ v u Q I rx ry h
  .obtain rfl:u=Value.ref p:=ry;exact akp (by lia) I g rx fun s3 I3=>⟨.bl (!o.isSome),H,I3,rfl,by simpa using q⟩
 | _=>exact h.elim
noncomputable def cutS (x:Str) (lo hi:Option Int):Str:=⟨((x.cps.toList.drop (HT.sIx x.length 0 lo)).take (HT.sIx x.length x.length hi-HT.sIx x.length 0 lo)).toArray⟩
noncomputable def rSlS:V->Option Int->Option Int->Hp->VK->Prop:=fun x lo hi H Q=>∃ z,x=.str z/\z.length<=sizeLine/\Q (.str (cutS z lo hi)) H
end
end L2
variable {C T a b dx f fa it r sl t0:PySem.Addr}{dvs vs xs ys:List L2.V}{Q:L2.VK}{cd ct oc pm u v vl vu:PySem.Value}{ck i j k m n t' x1:Nat}{items:Array PySem.Value}{fr ns:List Int}{bmB its us:List PySem.Value}{A:PySem.Around}{s zu:PySem.Shared}{x y:L2.V}{pins:List (PySem.Addr×PySem.Obj)}{O:L2.St}{H H' H0 H1 H2 H3 zt:L2.Hp}{h h' h2:PySem.Heap}{p q qual z:PySem.Str}{L M N N' S acc bad ks line loose ps ts zs:List PySem.Str}{K:PySem.W.Frag}{mg:PySem.Str->Option PySem.Value}{fd:PySem.FuncData}{sp:L2.Sp}{X:L2.Cx}{kvs:List (L2.B5×L2.V)}{prog:PySem.Program}{E:PySem.Value->PySem.Shared->Prop}{ixs:List Nat}{e elt iter target tg:PySem.Expr}{elts es ifs:List PySem.Expr}{g:L2.TG}{c:L2.TT}{te tl:L2.TE}{fp zx rs:List PySem.Addr}{cpos kpos spos tpos:PySem.Pos}{calm fg neg:Bool}{st:PySem.Stmt}{an od:Option PySem.Addr}{tb:L2.TS}{D:L2.Ends}{lo:Int}{o:PySem.Obj}{ta:L2.TA}{ss:Array (Option PySem.Value)}
set_option maxRecDepth 100000
namespace L2
open PySem PySem.Spec PyProof.Rows
section
variable {X:Cx}
theorem ag4(x:Str)(lo hi:Option Int):Txt.slice x lo hi=cutS x lo hi:=by
 have c1:∀ (o:Option Int) (d:Nat),(match o with | none=>(d:Int) | some i=>if (1:Int) > 0 then max 0 (min (if i<0 then i+(x.length:Int) else i) (x.length:Int)) else max (-1) (min (if i<0 then i+(x.length:Int) else i) ((x.length:Int)-1)))=((HT.sIx x.length d o:Nat):Int):=by
  intro o d
  cases o with
  | none=>rfl
  | some i=>
   rw [<- HT.clip_eq i x.length d];simp only [show ((1:Int) > 0)=True by simp,if_true]
   split <;> lia
 have h2:Builtin.Str.strSliceIndices lo hi 1 x.length=Builtin.Str.strSliceIndices (some ((HT.sIx x.length 0 lo:Nat):Int)) (some ((HT.sIx x.length x.length hi:Nat):Int)) 1 x.length:=by
  have e1:=c1 lo 0;have e2:=c1 hi x.length;have e3:=c1 (some ((HT.sIx x.length 0 lo:Nat):Int)) 0;have e4:=c1 (some ((HT.sIx x.length x.length hi:Nat):Int)) x.length;have l1:=HT.sIx_le x.length 0 (J4 _) lo;have l2:=HT.sIx_le x.length x.length (C6 _) hi;rw [HT.sIx_nat,cV l1] at e3;rw [HT.sIx_nat,cV l2] at e4;unfold Builtin.Str.strSliceIndices
  dsimp only at e3 e4 ⊢
  rw [e3,e4];clear e3 e4 l1 l2;refine congr (congr (congrArg sliceRange ?_) ?_) rfl
  .cases lo with
   | none=>exact e1
   | some i=>exact e1
  .cases hi with
   | none=>exact e2
   | some i=>exact e2
 have l1:=HT.sIx_le x.length 0 (J4 _) lo;have l2:=HT.sIx_le x.length x.length (C6 _) hi;unfold Txt.slice cutS;rw [h2];generalize HT.sIx x.length 0 lo=a at *;generalize HT.sIx x.length x.length hi=b at *;have len:x.length=x.cps.toList.length:=by simp [Str.length]
 by_cases eY:a<=b
 .rw [StrLaws.sliced_plain x eY l2,StrLaws.strSliceIndices_plain eY l2]
  split
  .rename_i hc
   have k7:b-a=x.length:=by simpa using hc
   have ha:a=0:=by lia
   subst ha;rw [List.drop_zero,Z4 (by lia)]
  .rfl
 .have e:Builtin.Str.strSliceIndices (some (a:Int)) (some (b:Int)) 1 x.length=[]:=by
   have h1:¬ ((a:Int)<0):=by lia
   have h2:¬ ((b:Int)<0):=by lia
   have e1:max (0:Int) (min (a:Int) (x.length:Int))=a:=by lia
   have e2:max (0:Int) (min (b:Int) (x.length:Int))=b:=by lia
   simp only [Builtin.Str.strSliceIndices,sliceRange,h1,h2,if_false,e1,e2,show ((1:Int) > 0)=True from by simp,if_true];rw [if_neg (by lia)];rfl
  rw [e,show b-a=0 by lia,i6]
  split
  .rename_i hc
   have k7:0=x.length:=by simpa using hc
   have:x.cps.toList=[]:=List.eq_nil_of_length_eq_zero (by lia)
   obtain ⟨⟨l⟩⟩:=x;simp at this;subst this;rfl
  .rfl
theorem amv:dI X rSlS:=by
 intro pins s O H x v vl vu lo hi sl Q I rx hs pl pu h;obtain ⟨z,rfl,hz,q⟩:=h;obtain ⟨t,rfl⟩:=rx;refine ⟨"str",_,F.slot_str_getitem.lookup,typeIs_str _ _ _,?_⟩;rw [<- ag4] at q;have part:∀ {u:Value} {o:Option Int},IsPart u o->∃ l:Option (Int×Tok),u=partValue l/\l.map (·.1)=o:=fun {u o} p=>by
  cases p with
  | none=>exact ⟨none,rfl,rfl⟩
  | int i t=>exact ⟨some (i,t),rfl,rfl⟩
 obtain ⟨l,rfl,el⟩:=part pl;obtain ⟨u,rfl,eu⟩:=part pu;subst el eu;refine wpAny_getItem_str_slice (l:=l) (u:=u) (st:=none) hs rfl ?_;exact post_val_or_str ⟨F6 (Txt.slice_le z _ _) hz,fun t' k=>⟨.str _,H,I.tok _,⟨t',rfl⟩,q⟩⟩
theorem acI{w:World}{t:Addr}{lo hi:Option Int}{Q:Value->Shared->Prop}(ht:IsTup s.heap t items)(hs:s.heap.IsSliceOf sl vl vu .none)(pl:IsPart vl lo)(pu:IsPart vu hi)(hw:HT.sIx items.size 0 lo=0/\HT.sIx items.size items.size hi=items.size)(h:Q (.ref t) s):wpAny (model prog w) A (getItem (.ref t) (.ref sl)) Q E s:=by
 obtain ⟨os,bW,lV,iJ⟩:=id hs;have hTs:s.TypeIs (.ref sl) "slice":=⟨os,bW,lV⟩
 unfold getItem
 try with_reducible refine wpAny_holding ?_
 first | refine wpAny_bind (wpAny_pure ?_) | skip
 refine wpAny_bind (wpAny_sequenceKey ht.typeIs (by decide) ?_);refine wpAny_bind (wpAny_callSpecial?_slot (name:=Str.ofString "__getitem__") ht.typeIs PyProof.Rows.slot_tuple_getitem
  (wpAny_call_entry PyProof.Rows.slot_tuple_getitem ht.typeIs PyProof.Rows.entry_tuple_getitem ?_ (PyProof.Rows.args_tuple_getitem _ _)))
 show wpAny _ _ (Builtin.Tuple.tupleItemsOf (.ref t) >>= _) _ _ s;refine wpAny_bind (PyProof.Rows.tupleItemsOf_ ht ?_);refine wpAny_bind (wpAny_typeOf hTs ?_);rw [if_pos (by decide)];refine wpAny_bind (HT.sliceApplied_gen hs pl pu ?_);have qP:((((HT.sIx items.size 0 lo:Nat):Int)==0&&(1:Int)==1&&(HT.sIx items.size items.size hi-HT.sIx items.size 0 lo)==items.size)=true):=by
  rw [hw.1,hw.2]
  simp
 show wpAny _ _ (if (((HT.sIx items.size 0 lo:Nat):Int)==0&&(1:Int)==1&&(HT.sIx items.size items.size hi-HT.sIx items.size 0 lo)==items.size)=true then _ else _) _ _ s;rw [if_pos qP];refine wpAny_bind ?_;show wpAny _ _ (typeOf (.ref t) >>= fun v=>pure (v == .type "tuple")) _ _ s;refine wpAny_bind (wpAny_typeOf ht.typeIs (wpAny_pure ?_));rw [if_pos (by decide)];refine wpAny_bind (wpAny_rule ?_);exact wpAny_pure ⟨_,rfl,wpAny_pure h⟩
noncomputable def rSlW (K:PySem.W.Frag):V->Option Int->Option Int->Hp->VK->Prop:=fun x lo hi H Q=>∃ a xs,x=.ref a/\D0 K H a xs/\(HT.sIx xs.length 0 lo=0/\HT.sIx xs.length xs.length hi=xs.length)/\Q (.ref a) H
theorem amw:dI X (rSlW X.K):=by
 intro pins s O H x v vl vu lo hi sl Q I rx hs pl pu h;obtain ⟨a,xs,rfl,hx,hw,q⟩:=h
 cases rx
 obtain ⟨its,r,ht,hz⟩:=I.tuple hx;have B3:its.toArray.size=xs.length:=by rw [J2];exact r.length.symm
 refine ⟨"tuple",_,PyProof.Rows.slot_tuple_getitem.lookup,ht.typeIs,?_⟩;exact acI ht hs pl pu (by rw [B3];exact hw) ⟨.ref a,H,I,rfl,q⟩
noncomputable def rSlR (K:PySem.W.Frag) (a:Addr) (lo hi:Option Int) (H:Hp) (Q:VK):Prop:=rSlL K (.ref a) lo hi H Q\/rSlT K (.ref a) lo hi H Q\/rSlW K (.ref a) lo hi H Q
theorem rSlR.l{lo hi:Option Int}(h1:D5 K H a xs)(h:∀ p,H p=none->Q (.ref p) (A0 H p (.lst (cutV xs lo hi)))):rSlR K a lo hi H Q:=.inl ⟨a,xs,rfl,h1,h⟩
theorem rSlR.t{lo hi:Option Int}(h1:D0 K H a xs)(h2:¬ (HT.sIx xs.length 0 lo=0/\HT.sIx xs.length xs.length hi=xs.length))(h:∀ p,H p=none->Q (.ref p) (A0 H p (.tup (cutV xs lo hi)))):rSlR K a lo hi H Q:=.inr (.inl ⟨a,xs,rfl,h1,h2,h⟩)
theorem rSlR.w{lo hi:Option Int}(h1:D0 K H a xs)(h2:HT.sIx xs.length 0 lo=0/\HT.sIx xs.length xs.length hi=xs.length)(h:Q (.ref a) H):rSlR K a lo hi H Q:=.inr (.inr ⟨a,xs,rfl,h1,h2,h⟩)
noncomputable def rSlU (K:PySem.W.Frag):V->Option Int->Option Int->Hp->VK->Prop
 | .str z,lo,hi,H,Q=>z.length<=sizeLine/\Q (.str (cutS z lo hi)) H
 | .ref a,lo,hi,H,Q=>rSlR K a lo hi H Q
 | _,_,_,_,_=>False
theorem p_sl:dI X (rSlU X.K):=by
 intro pins s O H x v vl vu lo hi sl Q I rx hs pl pu h
 cases x with
 | str z=>exact amv pins s O H _ v vl vu lo hi sl Q I rx hs pl pu ⟨z,rfl,h⟩
 | ref a=>
  rcases h with h | h | h
  .exact akn pins s O H _ v vl vu lo hi sl Q I rx hs pl pu h
  .exact amj pins s O H _ v vl vu lo hi sl Q I rx hs pl pu h
  .exact amw pins s O H _ v vl vu lo hi sl Q I rx hs pl pu h
 | _=>exact h.elim
noncomputable def LenR (K:PySem.W.Frag) (H:Hp) (p:Addr) (n:Nat):Prop:=(∃ xs,D5 K H p xs/\n=xs.length)\/(∃ xs,D0 K H p xs/\n=xs.length)\/∃ kvs,Rd H p (.dK kvs)/\n=kvs.length
noncomputable def rLenU (K:PySem.W.Frag):List V->Hp->VK->Prop
 | [.str z],H,Q=>z.length<=sizeLine/\Q (.int z.length) H
 | [.ref p],H,Q=>∃ n:Nat,LenR K H p n/\Q (.int n) H
 | _,_,_=>False
theorem p_len:CallR X (.builtin "len") (rLenU X.K):=by
 intro pins s O H xs us Q I r h
 match xs,h with
 | [.str z],h=>exact mW pins s O H _ us Q I r ⟨.str z,z.length,rfl,⟨h.1,rfl⟩,h.2⟩
 | [.ref p],⟨n,l,q⟩=>
  rcases l with ⟨xs,l,rfl⟩ | ⟨xs,l,rfl⟩ | ⟨kvs,l,rfl⟩
  .exact mW pins s O H _ us Q I r ⟨.ref p,_,rfl,.inl ⟨xs,l,rfl⟩,q⟩
  .exact mW pins s O H _ us Q I r ⟨.ref p,_,rfl,.inr ⟨xs,l,rfl⟩,q⟩
  .obtain ⟨u,rfl,ru⟩:=vals1 r
   cases ru
   exact d_len I l fun t s' I'=>⟨.int kvs.length,H,I',⟨t,rfl⟩,q⟩
theorem adq(hc:X.calm=true):CallR X (.type "list") (fun xs H Q=>∃ d kvs,xs=[.ref d]/\Rd H d (.dK kvs)/\∀ l,H l=none->Q (.ref l) (A0 H l (.lst (kvs.map fun kv=>kV kv.1)))):=by
 intro pins s O H xs us Q I r h;obtain ⟨d,kvs,rfl,e,q⟩:=h;obtain ⟨u,rfl,rx⟩:=vals1 r
 cases rx
 obtain ⟨z,hd,vs,rel,dd⟩:=dk_rd I.hok e;obtain ⟨ep,Q3⟩:=dd.dictAt;have hl:=rel.length;refine PySem.W.kdl_call (PySem.W.kdl_dict (knd:=L5 X.prog X.w) (kvs:=vs) (ep:=ep) hd) (I.ok.hd hc) Q3 (by lia) fun h' tk acc c' kp hD iP=>?_
 have hv:Vals (kvs.map fun kv=>kV kv.1) acc.toList:=by
  have hk:=rel.keys;have B3:acc.toList.length=kvs.length:=by rw [aZ,iP.1,hl]
  have key:∀ (ks:List B5) (us:List Value),us.length=ks.length->(∀ (j:Nat) (v:Value),us[j]?=some v->∃ k,ks[j]?=some k/\keyIs k v=true)->Vals (ks.map kV) us:=by
   intro ks
   induction ks with
   | nil=>intro us h1 _;cases us with
    | nil=>exact .nil
    | cons _ _=>simp at h1
   | cons k ks ih=>
    intro us h1 h2
    cases us with
    | nil=>simp at h1
    | cons u us=>
     obtain ⟨k',e1,e2⟩:=h2 0 u rfl;simp at e1;subst e1;refine .cons ?_ (ih us (by simpa using h1) fun j v hj=>by simpa using h2 (j+1) v (by simpa using hj))
     rcases X7 e2 with ⟨i,t,rfl,rfl⟩ | ⟨x,t,rfl,rfl⟩
     .exact ⟨t,rfl⟩
     .exact ⟨t,rfl⟩
  rw [show (kvs.map fun kv=>kV kv.1)=(kvs.map (·.1)).map kV by rw [o0];rfl];refine key _ _ (by rw [B3,A8]) fun j v hj=>?_
  obtain ⟨k,x,hx,iQ⟩:=iP.2 j v (by rw [<- Array.getElem?_toList];exact hj);refine ⟨k,?_,iQ⟩;rw [hk,Q5,hx];rfl
 refine ⟨.ref s.heap.objs.size,_,I.laid (t':=tk) kp (C6 _) (show ObjOk X.prog X.w _ h' _ (.lst (kvs.map fun kv=>kV kv.1)) from ⟨by rw [A8];exact z,acc.toList,c',hv,by simpa using hD⟩),rfl,q _ (I.hok.fresh (C6 _))⟩
noncomputable def rListR (K:PySem.W.Frag) (calm:Bool) (p:Addr) (H:Hp) (Q:VK):Prop:=(∃ ys,(D5 K H p ys\/D0 K H p ys)/\∀ l,H l=none->Q (.ref l) (A0 H l (.lst ys)))\/(calm=true/\∃ kvs,Rd H p (.dK kvs)/\∀ l,H l=none->Q (.ref l) (A0 H l (.lst (kvs.map fun kv=>kV kv.1))))
theorem rListR.l{p:Addr}(h1:D5 K H p ys\/D0 K H p ys)(h:∀ l,H l=none->Q (.ref l) (A0 H l (.lst ys))):rListR K calm p H Q:=.inl ⟨ys,h1,h⟩
theorem rListR.d{p:Addr}(h1:Rd H p (.dK kvs))(h:∀ l,H l=none->Q (.ref l) (A0 H l (.lst (kvs.map fun kv=>kV kv.1)))):rListR K true p H Q:=.inr ⟨rfl,kvs,h1,h⟩
noncomputable def kF (K:PySem.W.Frag) (calm:Bool):List V->Hp->VK->Prop
 | [.ref p],H,Q=>rListR K calm p H Q
 | _,_,_=>False
theorem amx:CallR X (.type "list") (kF X.K X.calm):=by
 intro pins s O H xs us Q I r h
 match xs,h with
 | [.ref p],h=>
  rcases h with ⟨ys,h1,h2⟩ | ⟨hc,kvs,h1,h2⟩
  .exact aen pins s O H _ us Q I r ⟨p,ys,rfl,h1,h2⟩
  .exact adq hc pins s O H _ us Q I r ⟨p,kvs,rfl,h1,h2⟩
noncomputable def rAllB (calm:Bool):List V->Hp->VK->Prop
 | [.ref p],H,Q=>∃ bs:List Bool,calm=true/\H p=some (.lst (bs.map V.bl))/\Q (.bl (bs.all id)) H
 | _,_,_=>False
noncomputable def kG (H:Hp):V->Option String
 | .non=>some "NoneType"
 | .bl _=>some "bool"
 | .int _=>some "int"
 | .str _=>some "str"
 | .ref a=>match H a with
  | some (.lst _)=>some "list"
  | some (.frz _ (.lst _))=>some "list"
  | some (.tup _)=>some "tuple"
  | some (.dK _)=>some "dict"
  | _=>none
 | _=>none
noncomputable def nU (T n:String):Bool:=T==n || (T == "bool" && n == "int")
noncomputable def isTys:List String:=["str", "int", "bool", "list", "tuple", "dict"]
noncomputable def rIsi:List V->Hp->VK->Prop
 | [x,.ty n],H,Q=>∃ T,kG H x=some T/\isTys.contains n=true/\Q (.bl (nU T n)) H
 | _,_,_=>False
theorem amy{T:String}(h:kG H x=some T):TyOf K H x (.type T)/\["NoneType", "bool", "int", "str", "list", "tuple", "dict"].contains T=true:=by
 cases x with
 | non=>cases h;exact ⟨.non,by decide⟩
 | bl b=>cases h;exact ⟨.bl b,by decide⟩
 | int i=>cases h;exact ⟨.int i,by decide⟩
 | str z=>cases h;exact ⟨.str z,by decide⟩
 | ref a=>
  unfold kG at h
  dsimp only at h
  cases e:H a with
  | none=>rw [e] at h;cases h
  | some o=>
   rw [e] at h
   cases o with
   | lst xs=>cases h;exact ⟨.lst e,by decide⟩
   | tup xs=>cases h;exact ⟨.tup e,by decide⟩
   | dK kvs=>cases h;exact ⟨.dK e,by decide⟩
   | frz ob u=>
    cases u with
    | lst xs=>cases h;exact ⟨.frz e,by decide⟩
    | _=>cases h
   | _=>cases h
 | _=>cases h
theorem akx(K:PySem.W.Frag):∀ T∈["NoneType", "bool", "int", "str", "list", "tuple", "dict"],∀ n∈isTys,K9 K (.type T) (.type n)=some (nU T n):=by
 intro T hT n hn;simp only [F9,cS,or_false,isTys] at hT hn
 rcases hT with rfl | rfl | rfl | rfl | rfl | rfl | rfl <;> rcases hn with rfl | rfl | rfl | rfl | rfl | rfl <;> rfl
theorem aix:CallR X (.builtin "isinstance") rIsi:=by
 intro pins s O H xs us Q I r h
 match xs,h with
 | [x,.ty n],⟨T,h1,h2,q⟩=>
  obtain ⟨u,c,rfl,ru,rc⟩:=vals2 r;obtain rfl:c=Value.type n:=rc;obtain ⟨h3,h4⟩:=amy (K:=X.K) h1;exact agR I ru h3 (akx X.K T (by simpa using h4) n (by simpa using h2)) fun tk=>⟨.bl _,H,I.tok tk,rfl,q⟩
noncomputable def rOrd:List V->Hp->VK->Prop
 | [.str z],H,Q=>z.length=1/\Q (.int (z.cps.getD 0 0:Nat)) H
 | _,_,_=>False
noncomputable def dO (x:Str):It:=⟨fun i _=>i<x.cps.size,fun i H v H'=>H'=H/\∃ c,x.cps.toList[i]?=some c/\v=.str ⟨#[c]⟩,fun i _=>x.cps.size<=i⟩
theorem aiy{P:Program}{w:World}{ty:String}(W8:ty="str_ascii_iterator"\/ty="str_iterator")(it:Addr)(x:Str)(t:Tok):Turn P w K tg (dO x) [it] it (fun i h=>h.IsStrIter it ty x t i) where
 mem:=by simp
 obj:=fun i h st b hb=>by
  have e:b=it:=by simpa using hb
  subst e;obtain ⟨o,e,c,d⟩:=st;exact ⟨o,e,fun v z=>by rw [d] at z;cases z⟩
 keep:=fun i h h' st k=>let ⟨o,e,r⟩:=st;⟨o,k it (by simp) o e,r⟩
 item:=by
  intro X hP hw hK hc i pins s O H E I hf st hg;subst hP hw hK;obtain ⟨f0,f1,f2,f3,f4,f5⟩:=hf it (by simp);have eZ:i<x.cps.size:=hg;have go:∀ h',h'.IsStrIter it ty x t (i+1)->Heap.SameBut it s.heap h'->∃ u,some (Value.str ⟨#[x.cps[i]]⟩ s.toks)=some u/\
    wpAny (model X.prog X.w) X.A (letOwnedTupleGo tg (.ref it) u) (fun _ s2=>∃ y H',Inv X pins O H' s2/\RelV y u/\(dO x).yld i H y H'/\s2.heap.IsStrIter it ty x t (i+1)/\∀ b∈[it],H' b=none) E { s with heap:=h',toks:=s.toks+1 }:=by
   intro h' st' sb;have I1:Inv X pins O H { s with heap:=h',toks:=s.toks+1 }:=I.turned (t':=s.toks+1) (fun b o hb e=>(sb.2 b hb).trans e) f0 f1 f3 f4 f5;obtain ⟨o,e,c,d⟩:=id st';refine ⟨_,rfl,go_of (s:={ s with heap:=h',toks:=s.toks+1 }) e c d (by rcases W8 with rfl | rfl <;> decide) ⟨.str ⟨#[x.cps[i]]⟩,H,I1,⟨_,rfl⟩,⟨rfl,x.cps[i],?_,rfl⟩,st',fun b hb=>(hf b hb).1⟩⟩;simp [eZ]
  rcases W8 with rfl | rfl
  .exact wpAny_pyNext_ascii_item st (c:=x.cps[i]) (by simp [eZ]) go
  .exact wpAny_pyNext_wide_item st (c:=x.cps[i]) (by simp [eZ]) go
 done:=by
  intro X hP hw hK hc i pins s O H E I hf st hg;subst hP hw hK;obtain ⟨f0,f1,f2,f3,f4,f5⟩:=hf it (by simp);have eZ:x.cps.size<=i:=hg;have fin:∀ h',Heap.ExtBut it s.heap h'->(none:Option Value)=none/\Inv X pins O H { s with heap:=h' }:=fun h' eb=>⟨rfl,I.turned (t':=s.toks) (fun b o hb e=>eb b o hb e) f0 f1 f3 f4 f5⟩
  rcases W8 with rfl | rfl
  .exact wpAny_pyNext_ascii_end (I.ok.hd hc) st (by simp [eZ]) fin
  .exact wpAny_pyNext_wide_end (I.ok.hd hc) st (by simp [eZ]) fin
 self:=fun A i s Q E st h=>by
  rcases W8 with rfl | rfl
  .exact wpAny_pyIter_striter_ascii st h
  .exact wpAny_pyIter_striter_wide st h
noncomputable def iStr (tl:TE):TI:=fun O H R=>tl O H fun x H1=>∃ z,x=.str z/\R (dO z) H1
variable {tg:Expr}
theorem amz{l:Expr}(hl:PE X l tl):PI X tg l (iStr tl):=by
 intro pins s O H R I h;refine C0 (hl pins s O H _ I h) fun v s1 ⟨x,H1,I1,r1,q1⟩=>?_
 obtain ⟨z,rfl,q⟩:=q1;obtain ⟨t,rfl⟩:=r1;have fin:∀ (ty:String) (W8:ty="str_ascii_iterator"\/ty="str_iterator"),mU X pins O tg R (.ref s1.heap.objs.size) { s1 with heap:=s1.heap.push { cls:=.type ty,data:=.fields #[.str z t,.int 0 0] } }:=fun ty W8=>by
  refine ⟨s1.heap.objs.size,[s1.heap.objs.size],_,_,H1,rfl,I1.kept (t':=s1.toks) fun b o e=>Heap.get?_push_of_some _ e,aiy W8 s1.heap.objs.size z t,⟨_,Heap.get?_push_size _ rfl,rfl,rfl⟩,fun b hb=>?_,q⟩;have e:b=s1.heap.objs.size:=by simpa using hb
  subst e;exact I1.fpOk (C6 _) (I1.hok.fresh (C6 _))
 cases ha:z.cps.all (· < 128)
 .exact wpAny_pyIter_wide ha (fin _ (.inr rfl))
 .exact wpAny_pyIter_ascii ha (fin _ (.inl rfl))
end
end L2
set_option maxRecDepth 100000
namespace L2
open PySem PySem.Spec PyProof.Rows
noncomputable def K4:Expr->Bool
 | .Starred _ _=>true
 | _=>false
noncomputable def T0 (es:List Expr):Bool:=es.all fun e=>!K4 e
theorem N7{env:Env}(h:K4 e=false):starEach (e::es) env=(false,eval e env)::starEach es env:=by
 cases e <;> first | rfl | cases h
theorem bC{pos:Pos}{env:Env} : ∀ {es:List Expr},T0 es=true->(backTo pos (starEach es env)).any (·.1)=false
 | [],_=>rfl
 | e::es,h=>by
  have h':(!K4 e&&T0 es)=true:=h;rw [Z7] at h';rw [N7 (by simpa using h'.1)];have ih:=bC (pos:=pos) (env:=env) h'.2;unfold backTo at ih ⊢
  rw [G3,n9,ih];rfl
theorem uD{pos:Pos}{env:Env} : ∀ {es:List Expr},T0 es=true->(backTo pos (starEach es env)).all (fun x=>!x.1)=true
 | [],_=>rfl
 | e::es,h=>by
  have h':(!K4 e&&T0 es)=true:=h;rw [Z7] at h';rw [N7 (by simpa using h'.1)];have ih:=uD (pos:=pos) (env:=env) h'.2;unfold backTo at ih ⊢
  rw [G3,List.all_cons,ih];rfl
section
variable {X:Cx} {e:Expr} {es:List Expr} {te:TE} {t:TA} {x:Str} {p pos:Pos} {id T:String} {r:List V->Hp->VK->Prop}
theorem pa_c(ha:PE X e te)(hr:PA X es t)(h:K4 e=false:=by rfl):PA X (e::es) (tCons te t):=akh ha hr (N7 h)
theorem pe_cB(hc:CallR X (.builtin id) r)(hg:Gl X x)(hm:X.mg x=none)(hv:bootBuiltins x=some (.builtin id))(ha:PA X (e::es) t)(h1:K4 e=false:=by rfl)(h2:T0 es=true:=by rfl)(hn:x≠"__name__":=by decide)(J7:(x==("__debug__" : Str))=false:=by decide) :
  PE X (.Call (.Name x p) (e::es) [] pos) (w6 r t):=ain hc hg hm hv ha hn J7 (N7 h1) (bC h2)
theorem pe_cT(hc:CallR X (.type T) r)(hg:Gl X x)(hm:X.mg x=none)(hv:bootBuiltins x=some (.type T))(ha:PA X (e::es) t)(h1:K4 e=false:=by rfl)(h2:T0 es=true:=by rfl)(hn:x≠"__name__":=by decide)(J7:(x==("__debug__" : Str))=false:=by decide) :
  PE X (.Call (.Name x p) (e::es) [] pos) (w6 r t):=agU hc hg hm hv ha hn J7 (N7 h1) (bC h2)
variable {o:Expr} {to:TE} {name:Str} {apos cpos:Pos} {rm:V->List V->Hp->VK->Prop}
theorem pe_mB(pa:PlainAttrs T)(slot:Slot T name id)(W8:typeOf (.builtin id)=pure (.type "method_descriptor"))(hm:nE X id rm)(ho:PE X o to)(ha:PA X (e::es) t)(h1:K4 e=false:=by rfl)(h2:T0 es=true:=by rfl)(h3:decide ((e::es).length<30)=true:=by rfl)(J0:attributeBase o name X.env (eval o X.env)=eval o X.env:=by rfl)(K8:(apos.endLine==cpos.line)=true:=by rfl):PE X (.Call (.Attribute o name apos) (e::es) [] cpos) (jZ X.K T rm to t):=
 pe_bm pa slot W8 hm ho ha J0 (by
  rw [uD (show T0 (e::es)=true by show (!K4 e&&T0 es)=true;rw [h1,h2];rfl)];have h3':(e::es).length<30:=of_decide_eq_true h3;simp only [List.isEmpty_nil,if_true,R3,Nat.add_zero,Bool.true_and];rw [decide_eq_true h3'];rfl) K8 (N7 h1) (bC h2)
variable {tg a b:Expr} {ta:TA}
theorem pi_r1(hg:Gl X "range")(hm:X.mg "range"=none)(ha:PA X [a] ta)(h1:K4 a=false:=by rfl):PI X tg (.Call (.Name "range" p) [a] [] pos) (iRng1 ta):=agH hg hm ha (by rw [N7 h1];rfl)
end
noncomputable def FO (P:Program) (w:World) (K:PySem.W.Frag) (mg:Str->Option Value) (base:Heap) (k:Nat) (x:Str) (ps:List Str) (dvs:List V) (sp:Sp):Prop:=
 ∃ f fd,FnOk P w K mg base G0 k f fd ps sp/\mg x=some (.ref f)/\Q6 K (.ref f)=true/\∃ ds,Binds K fd ps ds/\Vals dvs ds
structure FunD(K:PySem.W.Frag)(x qual:Str)(st:Stmt)(f:Addr)(fd:FuncData):Prop where
 ex:∃ (oc:Value) (od:Option Addr) (dV kV doc pm:Value) (an:Option Addr) (cdv ct:Value) (osl:Array (Option Value)),
  fd=R5 x qual (W2 st) (R9 st) (D3 st) dV kV doc pm an cdv ct/\K.lookup f=some ⟨oc,od,.func fd,osl⟩/\Z8 K cdv qual=true
section
variable {P:Program} {w:World} {K:PySem.W.Frag} {mg:Str->Option Value} {base:Heap}
theorem FunD.ok{x:Str}(F:FunD K x qual st f fd)(S:FnScope N ps (D3 st))(len:∀ vs H Q E,sp vs H Q E->vs.length=ps.length)(Q2:∀ (cdv:Value) (A:Around) (outer:List Env) (s:Shared) (H:Hp) (vs:List V) (Q:VK) (E:XK),Room k (A.deeper (envOfC qual (D3 st) s.heap.objs.size f cdv))->sp vs H Q E->
   ∃ t,P7 (cxOf G0 P w K mg base N qual (D3 st) f cdv A outer s H E).nox (R9 st) t/\t { nx:=fun _ H'=>Q .non H',rt:=Q } (start N vs) H):FnOk P w K mg base G0 (k+1) f fd ps sp:=by
 obtain ⟨oc,od,dV,kV,doc,pm,an,cdv,ct,osl,rfl,lk,P5⟩:=F.ex;refine fn_of lk P5 S len fun A outer s H vs Q E hr k8=>?_
 obtain ⟨t,h,q⟩:=Q2 cdv A outer s H vs Q E hr k8;exact ⟨t,h.nox,q⟩
theorem dP{x:Str}{osl:Array (Option Value)}{dV kV doc cdv:Value}(l:K.lookup f=some ⟨oc,od,.func (R5 x qual (W2 st) (R9 st) (D3 st) dV kV doc pm an cdv ct),osl⟩)(c:Z8 K cdv qual=true):FunD K x qual st f (R5 x qual (W2 st) (R9 st) (D3 st) dV kV doc pm an cdv ct):=⟨oc,od,dV,kV,doc,pm,an,cdv,ct,osl,rfl,l,c⟩
end
section
variable {X:Cx} {k:Nat} {ps:List Str} {sp:Sp} {dvs:List V} {x:Str} {p pos:Pos} {e:Expr} {es:List Expr} {t:TA}
theorem aiz(G:FO X.prog X.w X.K X.mg X.base k x ps dvs sp)(hr:Room k X.A)(ha:PA X (e::es) t)(hg:Gl X x:=by rfl)(h1:K4 e=false:=by rfl)(h2:T0 es=true:=by rfl)(J7:(x==("__debug__" : Str))=false:=by decide):PE X (.Call (.Name x p) (e::es) [] pos) (tCall sp dvs E0 t):=by
 obtain ⟨f,fd,F,hm,hk,ds,hb,hd⟩:=G;exact tE F hr hg hm hk hb hd pass0 ha J7 (N7 h1) (bC h2)
theorem aiA{i:Int}(h:∃ t,X.mg x=some (.int i t))(hg:Gl X x:=by rfl)(hd:(x==("__debug__" : Str))=false:=by decide):PE X (.Name x p) (tC (.int i)):=by
 obtain ⟨t,h⟩:=h;exact sN hg h ⟨t,rfl⟩ hd
theorem aiB(h:X.mg x=some (.ref a))(hg:Gl X x:=by rfl)(hd:(x==("__debug__" : Str))=false:=by decide):PE X (.Name x p) (tC (.ref a)):=sN hg h rfl hd
end
section
variable {O:St} {H:Hp} {Q:VK} {B:Bool->Hp->Prop} {ta tb tc te:TE} {t u:TS} {tt uu:TT} {D:Ends} {i:Nat} {v:V} {r r':R2} {K:PySem.W.Frag} {taa:TA} {R:List V->Hp->Prop} {g:TG}
theorem uE:tVar i O H Q=∃ v,(O[i]?).join=some v/\Q v H:=by
 unfold tVar;refine propext ⟨fun ⟨v,h,q⟩=>⟨v,by rw [h];rfl,q⟩,fun ⟨v,h,q⟩=>⟨v,?_,q⟩⟩;cases e:O[i]? with
 | none=>rw [e] at h;cases h
 | some o=>rw [e] at h;exact congrArg some h
theorem ap_c:tC v O H Q=Q v H:=rfl
theorem ap_op:o4 r ta tb O H Q=ta O H fun x H1=>tb O H1 fun y H2=>r x y H2 Q:=rfl
theorem ap_un{ru:V->Hp->VK->Prop} : tUn ru ta O H Q=ta O H fun x H1=>ru x H1 Q:=rfl
theorem ap_rU{f:Int->V} : rU f x H Q=∃ i,x=.int i/\Q (f i) H:=rfl
theorem aky:tTest ta O H B=ta O H fun x H'=>∃ k,x=.bl k/\B k H':=rfl
theorem ap_tB:tB ta O H B=ta O H fun x H'=>∃ k,x=.bl k/\B k H':=rfl
theorem akz:tTru K ta O H B=ta O H fun x H'=>∃ k,TruV K x H' k/\B k H':=rfl
theorem akA:tNotT K ta O H Q=ta O H fun x H'=>∃ k,TruV K x H' k/\Q (.bl (!k)) H':=rfl
theorem aiC:mV r r' ta tb tc O H Q=ta O H fun x H1=>tb O H1 fun y H2=>r x y H2 fun z H3=>∃ k,z=.bl k/\(if k=true then tc O H3 fun w' H4=>r' y w' H4 Q else Q (.bl false) H3):=rfl
theorem amA:tAnd tt uu O H B=tt O H fun c H1=>if c=true then uu O H1 B else B false H1:=rfl
theorem ap_or:mQ tt uu O H B=tt O H fun c H1=>if c=true then B true H1 else uu O H1 B:=rfl
theorem amB:tNot tt O H B=tt O H fun c H1=>B (!c) H1:=rfl
theorem akB:tAndV ta tb O H Q=ta O H fun x H1=>∃ c,x=.bl c/\if c=true then tb O H1 Q else Q (.bl false) H1:=rfl
theorem amC:tOrV ta tb O H Q=ta O H fun x H1=>∃ c,x=.bl c/\if c=true then Q (.bl true) H1 else tb O H1 Q:=rfl
theorem akC:tNotV ta O H Q=ta O H fun x H1=>∃ c,x=.bl c/\Q (.bl (!c)) H1:=rfl
theorem ap_if:mR tt ta tb O H Q=tt O H fun c H1=>if c=true then ta O H1 Q else tb O H1 Q:=rfl
theorem akD:tNext D O H=D.nx O H:=rfl
theorem amD:tSeq t u D O H=t { D with nx:=u D } O H:=rfl
theorem aiD:alY D O H=D.bk O H:=rfl
theorem akE:tCont D O H=D.ct O H:=rfl
theorem akF:tDrop te D O H=te O H fun _ H1=>D.nx O H1:=rfl
theorem amE:tRet te D O H=te O H D.rt:=rfl
theorem akG:tRetN D O H=D.rt .non H:=rfl
theorem amF:tIfS tt t u D O H=tt O H fun b H1=>if b=true then t D O H1 else u D O H1:=rfl
theorem aiE:mS D O H=False:=rfl
theorem akH{Z:St->Hp->Prop} : gName i v O H Z=Z (O.set i (some v)) H:=rfl
theorem akI{Z:St->Hp->Prop} : gNil vs O H Z=(vs=[]/\Z O H):=rfl
theorem aiF{us:Y0}{Z:St->Hp->Prop} : gCons g us vs O H Z=∃ v r,vs=v::r/\g v O H fun σ' H'=>us r σ' H' Z:=rfl
theorem akJ{us:Y0}{Z:St->Hp->Prop} : gTup K n us v O H Z=∃ a xs,v=.ref a/\D0 K H a xs/\xs.length=n/\us xs O H Z:=rfl
theorem akK{ts:TSet}{Z:St->Hp->Prop} : gSub ta tb ts v O H Z=ta O H fun o H1=>tb O H1 fun i H2=>ts o i v H2 fun H3=>Z O H3:=rfl
theorem amG:tAsg te g D O H=te O H fun x H1=>g x O H1 D.nx:=rfl
theorem amH{ti:mT} : tAug i te ti D O H=∃ x,(O[i]?).join=some x/\te O H fun y H1=>ti x y H1 fun z H2=>D.nx (O.set i (some z)) H2:=uE (Q:=fun x H=>te O H fun y H1=>ti x y H1 fun z H2=>D.nx (O.set i (some z)) H2)
theorem amI{f:Int->Int->Int} : ipI f x y H Q=∃ i j,x=.int i/\y=.int j/\Q (.int (f i j)) H:=rfl
theorem akL:tCons te taa O H R=te O H fun x H1=>taa O H1 fun xs H2=>R (x::xs) H2:=rfl
theorem amJ:tNil O H R=R [] H:=rfl
theorem akM{E:XK} : tCall sp dvs E taa O H Q=taa O H fun vs H1=>sp (vs++dvs) H1 Q E:=rfl
theorem ap_cb{rc:List V->Hp->VK->Prop} : w6 rc taa O H Q=taa O H fun vs H1=>rc vs H1 Q:=rfl
theorem amK:tTup taa O H Q=taa O H fun xs H1=>xs.length<=sizeLine/\∀ p,H1 p=none->Q (.ref p) (A0 H1 p (.tup xs)):=rfl
theorem amL:tLst taa O H Q=taa O H fun xs H1=>xs.length<=sizeLine/\∀ p,H1 p=none->Q (.ref p) (A0 H1 p (.lst xs)):=rfl
theorem ap_sl{rs:V->Option Int->Option Int->Hp->VK->Prop}{tl th:TO} : nB rs te tl th O H Q=te O H fun x H1=>tl O H1 fun l H2=>th O H2 fun u H3=>rs x l u H3 Q:=rfl
theorem ag5{zy:Option Int->Hp->Prop} : nA O H zy=zy none H:=rfl
theorem akN{zy:Option Int->Hp->Prop} : tPart te O H zy=te O H fun x H1=>∃ i,x=.int i/\zy (some i) H1:=rfl
theorem ap_bm{T:String}{rm:V->List V->Hp->VK->Prop} : jZ K T rm te taa O H Q=te O H fun x H1=>x0 K T x H1/\taa O H1 fun xs H2=>rm x xs H2 Q:=rfl
theorem amM{T:String}{rm:V->List V->Hp->VK->Prop} : tBM0 K T rm te O H Q=te O H fun x H1=>x0 K T x H1/\rm x [] H1 Q:=rfl
theorem amN:tYes O H B=B true H:=rfl
theorem akO:nO O H Q=∀ p,H p=none->Q (.ref p) (A0 H p (.dK [])):=rfl
theorem akP:tDGet ta tb O H Q=ta O H fun x H1=>tb O H1 fun y H2=>∃ a v,x=.ref a/\DGet H2 a y (some v)/\Q v H2:=rfl
theorem akQ:sDPut ta tb tc D O H=tc O H fun v H1=>ta O H1 fun x H2=>tb O H2 fun y H3=>∃ a H4,x=.ref a/\DPut H3 a y v H4/\D.nx O H4:=rfl
theorem akR{rd:V->V->Hp->VK->Prop} : sDAug ta tb tc rd D O H=ta O H fun x H1=>tb O H1 fun y H2=>∃ a v,x=.ref a/\DGet H2 a y (some v)/\tc O H2 fun y2 H3=>rd v y2 H3 fun z H4=>∃ H5,DPut H4 a y z H5/\D.nx O H5:=rfl
theorem akS : i9 (fun i j=>V.int (i-j)) x y H Q=∃ i j,x=.int i/\y=.int j/\Q (.int (i-j)) H:=rfl
theorem aiG : rI CDiv (fun i j=>V.int (i / j)) x y H Q=∃ i j,x=.int i/\y=.int j/\(0<j/\j<1073741824)/\Q (.int (i / j)) H:=rfl
theorem akT : rI (fun _ j=>0<j) (fun i j=>V.int (i % j)) x y H Q=∃ i j,x=.int i/\y=.int j/\0<j/\Q (.int (i % j)) H:=rfl
theorem akU : x0 K "str" (.str z) H=True:=by simp [x0]
noncomputable def ForIt (J:It) (g:TG) (tb:TS) (D:Ends) (O:St) (H1:Hp):Prop:=∃ W:Nat->Nat->St->Hp->Prop,(∃ m,W 0 m O H1)/\∀ i m O H,W i m O H->
 (J.stop i H/\D.nx O H)\/(J.go i H/\∃ N:St->Hp->Prop,(∀ σ' H',N σ' H'->∃ m',m'<m/\W (i+1) m' σ' H')/\∀ x H',J.yld i H x H'->g x O H' fun σ2 H2=>tb { D with nx:=N,ct:=N,bk:=D.nx } σ2 H2)
theorem amO{wi:TI}{tbs:TS} : tFor wi g tbs D O H=wi O H fun J H1=>ForIt J g tbs D O H1:=rfl
theorem aiH{Z:It->Hp->Prop} : iList K te O H Z=te O H fun x H1=>∃ a,x=.ref a/\(∃ xs,D5 K H1 a xs)/\Z (o3 K a) H1:=rfl
theorem akV{Z:It->Hp->Prop} : iTup K te O H Z=te O H fun x H1=>∃ a,x=.ref a/\(∃ xs,D0 K H1 a xs)/\Z (w5 K a) H1:=rfl
theorem akW{Z:It->Hp->Prop} : iStr te O H Z=te O H fun x H1=>∃ z,x=.str z/\Z (dO z) H1:=rfl
theorem aiI{Z:It->Hp->Prop} : iRng1 taa O H Z=taa O H fun vs H1=>∃ j:Int,vs=[.int j]/\-(2 ^ 62)<=j/\j<2 ^ 62/\Z (Y1 0 j.toNat) H1:=rfl
theorem aiJ{Z:It->Hp->Prop} : iRng2 taa O H Z=taa O H fun vs H1=>∃ i j:Int,vs=[.int i,.int j]/\(-(2 ^ 62)<=i/\i<2 ^ 62/\-(2 ^ 62)<=j/\j<2 ^ 62)/\Z (Y1 i (j-i).toNat) H1:=rfl
noncomputable def bD (J:It) (k:Nat) (ixs:List Nat) (g:TG) (c:TT) (te:TE) (O:St) (Q:VK) (H1:Hp):Prop:=∀ D,H1 D=none->
 ∃ (n:Nat) (W:Nat->List V->St->Hp->Prop),W 0 [] (compStart k ixs O) (A0 H1 D (.lst []))/\∀ i ys σ2 H2,W i ys σ2 H2->H2 D=some (.lst ys)->
  (J.stop i H2/\Q (.ref D) H2)\/
  (i<n/\J.go i H2/\∀ x H',J.yld i H2 x H'->g x σ2 H' fun σ3 H3=>c σ3 H3 fun b H4=>
   if b=true then te σ3 H4 fun y H5=>H5 D=some (.lst ys)/\ys.length<sizeLine/\W (i+1) (ys++[y]) σ3 (A0 H5 D (.lst (ys++[y])))
   else H4 D=some (.lst ys)/\W (i+1) ys σ3 H4)
theorem akX{wi:TI} : tComp wi k ixs g tt te O H Q=wi O H fun J H1=>bD J k ixs g tt te O Q H1:=rfl
end
theorem akY{b k:Bool} : TruV K (.bl b) H k=(k=b):=rfl
theorem aiK{i:Int}{k:Bool} : TruV K (.int i) H k=(k=(i != 0)):=rfl
theorem aiL{k:Bool} : TruV K (.str z) H k=(z.length<=sizeLine/\k=((z.length:Int) != 0)):=rfl
theorem aiM{k:Bool} : TruV K .non H k=(k=false):=rfl
theorem aiN : start N vs=vs.map some++N2 (N.length-vs.length) none:=rfl
theorem aev : compStart k ixs O=N2 k none++ixs.map fun i=>(O[i]?).join:=rfl
theorem akZ{i:Int} : dJ K (.str z) (.int i) H Q=∃ c,z.length<=sizeLine/\G7 z.cps.toList i=some c/\Q (.str ⟨#[c]⟩) H:=by
 simp only [dJ,rIxL,rIxT,rIxS];refine propext ⟨fun h=>?_,fun ⟨c,h⟩=>.inr (.inr ⟨z,i,c,rfl,rfl,h⟩)⟩
 rcases h with ⟨p,xs,j,v,e,_⟩ | ⟨p,xs,j,v,e,_⟩ | ⟨z',i',c,e1,e2,h⟩
 .cases e
 .cases e
 .cases e1;cases e2;exact ⟨c,h⟩
theorem ak0{p:Addr}{i:Int} : dJ K (.ref p) (.int i) H Q=∃ xs v,(D5 K H p xs\/D0 K H p xs)/\G7 xs i=some v/\Q v H:=by
 simp only [dJ,rIxL,rIxT,rIxS];refine propext ⟨fun h=>?_,fun ⟨xs,v,h,r⟩=>?_⟩
 .rcases h with ⟨p',xs,j,v,e1,e2,h1,h2⟩ | ⟨p',xs,j,v,e1,e2,h1,h2⟩ | ⟨z',i',c,e1,e2,h⟩
  .cases e1;cases e2;exact ⟨xs,v,.inl h1,h2⟩
  .cases e1;cases e2;exact ⟨xs,v,.inr h1,h2⟩
  .cases e1
 .rcases h with h | h
  .exact .inl ⟨p,xs,i,v,rfl,rfl,h,r⟩
  .exact .inr (.inl ⟨p,xs,i,v,rfl,rfl,h,r⟩)
theorem kH{α:Type}{xs:List α}{i:Int}(h0:0<=i)(h1:i<xs.length):∃ v,G7 xs i=some v/\v∈xs:=by
 have D1:i.toNat<xs.length:=by lia
 refine ⟨xs[i.toNat],?_,cT D1⟩;unfold G7 j0;rw [if_pos h0,if_pos h1];simp [D1]
theorem dQ:bootBuiltins "len"=some (.builtin "len"):=by decide +kernel
theorem W4:bootBuiltins "isinstance"=some (.builtin "isinstance"):=by decide +kernel
theorem uF:bootBuiltins "any"=some (.builtin "any"):=by decide +kernel
theorem amP:bootBuiltins "min"=some (.builtin "min"):=by decide +kernel
theorem bE:bootBuiltins "list"=some (.type "list"):=by decide +kernel
theorem uG:bootBuiltins "tuple"=some (.type "tuple"):=by decide +kernel
theorem ak1:bootBuiltins "dict"=some (.type "dict"):=by decide +kernel
theorem amQ:bootBuiltins "set"=some (.type "set"):=by decide +kernel
theorem amR:bootBuiltins "str"=some (.type "str"):=by decide +kernel
section
variable {K:PySem.W.Frag} {H:Hp} {Q:VK} {i j:Int} {x y:Str} {u v:V} {b c:Bool} {p q:Addr} {lo hi:Option Int} {cm:Bool}
theorem ad_ii:rAddU K (.int i) (.int j) H Q=Q (.int (i+j)) H:=rfl
theorem ad_ss:rAddU K (.str x) (.str y) H Q=(x.length+y.length<=sizeLine/\Q (.str (x++y)) H):=rfl
theorem ad_rr:rAddU K (.ref p) (.ref q) H Q=rAddR K p q H Q:=rfl
theorem mu_ii:rMulU (.int i) (.int j) H Q=(CMul i j/\Q (.int (i*j)) H):=rfl
theorem mu_ri:rMulU (.ref p) (.int j) H Q=rRep (.ref p) (.int j) H Q:=rfl
theorem eq_ii:rEqU K (.int i) (.int j) H Q=Q (.bl (decide (i=j))) H:=rfl
theorem eq_ss:rEqU K (.str x) (.str y) H Q=Q (.bl (decide (x=y))) H:=rfl
theorem eq_bb:rEqU K (.bl b) (.bl c) H Q=Q (.bl (decide (b=c))) H:=rfl
theorem eq_rx:rEqU K (.ref p) v H Q=∃ d e,Dn K H (.ref p) d/\Dn K H v e/\min d.depth e.depth<=60/\Q (.bl (PyData.eqv d e)) H:=by cases v <;> rfl
theorem eq_xr:rEqU K v (.ref p) H Q=∃ d e,Dn K H v d/\Dn K H (.ref p) e/\min d.depth e.depth<=60/\Q (.bl (PyData.eqv d e)) H:=by cases v <;> rfl
theorem ne_ii:rNeU K (.int i) (.int j) H Q=Q (.bl (!decide (i=j))) H:=rfl
theorem ne_ss:rNeU K (.str x) (.str y) H Q=Q (.bl (!decide (x=y))) H:=rfl
theorem ne_bb:rNeU K (.bl b) (.bl c) H Q=Q (.bl (!decide (b=c))) H:=rfl
theorem ne_rx:rNeU K (.ref p) v H Q=∃ d e,Dn K H (.ref p) d/\Dn K H v e/\min d.depth e.depth<=60/\Q (.bl (!PyData.eqv d e)) H:=by cases v <;> rfl
theorem ne_xr:rNeU K v (.ref p) H Q=∃ d e,Dn K H v d/\Dn K H (.ref p) e/\min d.depth e.depth<=60/\Q (.bl (!PyData.eqv d e)) H:=by cases v <;> rfl
theorem lt_ii:rLtU (.int i) (.int j) H Q=Q (.bl (decide (i<j))) H:=rfl
theorem lt_ss:rLtU (.str x) (.str y) H Q=Q (.bl (decide (x.cps.toList<y.cps.toList))) H:=rfl
theorem le_ii:rLeU (.int i) (.int j) H Q=Q (.bl (decide (i<=j))) H:=rfl
theorem le_ss:rLeU (.str x) (.str y) H Q=Q (.bl (!decide (y.cps.toList<x.cps.toList))) H:=rfl
theorem gt_ii:rGtU (.int i) (.int j) H Q=Q (.bl (decide (j<i))) H:=rfl
theorem gt_ss:rGtU (.str x) (.str y) H Q=Q (.bl (decide (y.cps.toList<x.cps.toList))) H:=rfl
theorem ge_ii:rGeU (.int i) (.int j) H Q=Q (.bl (decide (j<=i))) H:=rfl
theorem ge_ss:rGeU (.str x) (.str y) H Q=Q (.bl (!decide (x.cps.toList<y.cps.toList))) H:=rfl
theorem in_xs:rInU K b u (.str x) H Q=∃ i,u=.str i/\Q (.bl (b.xor (!(Builtin.Str.occurrences x i 0 x.length 1).isEmpty))) H:=rfl
theorem in_xr:rInU K b u (.ref p) H Q=rInR K b u p H Q:=rfl
theorem sl_s:rSlU K (.str x) lo hi H Q=(x.length<=sizeLine/\Q (.str (cutS x lo hi)) H):=rfl
theorem sl_r:rSlU K (.ref p) lo hi H Q=rSlR K p lo hi H Q:=rfl
theorem len_s:rLenU K [.str x] H Q=(x.length<=sizeLine/\Q (.int x.length) H):=rfl
theorem len_r:rLenU K [.ref p] H Q=∃ n:Nat,LenR K H p n/\Q (.int n) H:=rfl
theorem amS:kF K cm [.ref p] H Q=rListR K cm p H Q:=rfl
theorem all_r:rAllB cm [.ref p] H Q=∃ bs:List Bool,cm=true/\H p=some (.lst (bs.map V.bl))/\Q (.bl (bs.all id)) H:=rfl
theorem isi_t{n:String} : rIsi [u,.ty n] H Q=∃ T,kG H u=some T/\isTys.contains n=true/\Q (.bl (nU T n)) H:=rfl
theorem ord_s:rOrd [.str x] H Q=(x.length=1/\Q (.int (x.cps.getD 0 0:Nat)) H):=rfl
end
theorem forL(Pv:Nat->St->Hp->Prop)(h0:Pv 0 O H)(hl:∀ i O H,i<=xs.length->Pv i O H->D5 K H a xs)(hs:∀ i x O H,xs[i]?=some x->Pv i O H->g x O H fun σ2 H2=>tb { D with nx:=Pv (i+1),ct:=Pv (i+1),bk:=D.nx } σ2 H2)(hd:∀ O H,Pv xs.length O H->D.nx O H):ForIt (o3 K a) g tb D O H:=aii Pv h0 hl hs hd
theorem forT(Pv:Nat->St->Hp->Prop)(h0:Pv 0 O H)(hl:∀ i O H,i<=xs.length->Pv i O H->D0 K H a xs)(hs:∀ i x O H,xs[i]?=some x->Pv i O H->g x O H fun σ2 H2=>tb { D with nx:=Pv (i+1),ct:=Pv (i+1),bk:=D.nx } σ2 H2)(hd:∀ O H,Pv xs.length O H->D.nx O H):ForIt (w5 K a) g tb D O H:=aka Pv h0 hl hs hd
theorem forR(Pv:Nat->St->Hp->Prop)(h0:Pv 0 O H)(hs:∀ i O H,i<n->Pv i O H->g (.int (lo+i)) O H fun σ2 H2=>tb { D with nx:=Pv (i+1),ct:=Pv (i+1),bk:=D.nx } σ2 H2)(hd:∀ O H,Pv n O H->D.nx O H):ForIt (Y1 lo n) g tb D O H:=agJ Pv h0 hs hd
noncomputable def CW (n:Nat) (fr:St) (Pv:Nat->List V->Hp->Prop) (i:Nat) (ys:List V) (σ2:St) (H2:Hp):Prop:=i<=n/\ys.length<=i/\(∃ v,σ2=v::fr)/\Pv i ys H2
theorem CW.put{fr:St}{Pv:Nat->List V->Hp->Prop}{o:Option V}(hi:i<n)(hy:ys.length<=i)(p:Pv (i+1) (ys++[y]) H):CW n fr Pv (i+1) (ys++[y]) (o::fr) H:=
 ⟨hi,by rw [E4,X3];lia,⟨_,rfl⟩,p⟩
theorem uH{fr:St}{Pv:Nat->List V->Hp->Prop}{o:Option V}(hi:i<n)(hy:ys.length<=i)(p:Pv (i+1) ys H):CW n fr Pv (i+1) ys (o::fr) H:=⟨hi,Nat.le_succ_of_le hy,⟨_,rfl⟩,p⟩
theorem compL(fr:St)(N6:compStart 1 ixs O=none::fr)(Pv:Addr->Nat->List V->Hp->Prop)(h0:∀ D,H1 D=none->Pv D 0 [] (A0 H1 D (.lst [])))(hl:∀ D i ys H,H1 D=none->i<=xs.length->Pv D i ys H->D5 K H a xs)(hs:∀ D i x ys H,H1 D=none->i<xs.length->xs[i]?=some x->Pv D i ys H->H D=some (.lst ys)->ys.length<=i->c (some x::fr) H fun b H4=>
   if b=true then te (some x::fr) H4 fun y H5=>H5 D=some (.lst ys)/\ys.length<sizeLine/\CW xs.length fr (Pv D) (i+1) (ys++[y]) (some x::fr) (A0 H5 D (.lst (ys++[y])))
   else H4 D=some (.lst ys)/\CW xs.length fr (Pv D) (i+1) ys (some x::fr) H4)(hd:∀ D ys H,H1 D=none->Pv D xs.length ys H->H D=some (.lst ys)->ys.length<=xs.length->Q (.ref D) H):bD (o3 K a) 1 ixs (gName 0) c te O Q H1:=by
 intro D hD;refine ⟨xs.length,CW xs.length fr (Pv D),⟨J4 _,J4 _,⟨none,N6⟩,h0 D hD⟩,?_⟩;rintro i ys σ2 H2 ⟨hi,hy,⟨v,rfl⟩,p⟩ hDy;have q:=hl D i ys H2 hD hi p
 by_cases D1:i<xs.length
 .refine .inr ⟨D1,⟨xs,xs[i],q,by simp [D1]⟩,fun x H' y=>?_⟩;obtain ⟨e,y⟩:=y;subst e;exact hs D i x ys _ hD D1 (y xs q) p hDy hy
 .have e:i=xs.length:=by lia
  subst e;exact .inl ⟨⟨xs,q,C6 _⟩,hd D ys H2 hD p hDy hy⟩
theorem compT(fr:St)(N6:compStart 1 ixs O=none::fr)(Pv:Addr->Nat->List V->Hp->Prop)(h0:∀ D,H1 D=none->Pv D 0 [] (A0 H1 D (.lst [])))(hl:∀ D i ys H,H1 D=none->i<=xs.length->Pv D i ys H->D0 K H a xs)(hs:∀ D i x ys H,H1 D=none->i<xs.length->xs[i]?=some x->Pv D i ys H->H D=some (.lst ys)->ys.length<=i->c (some x::fr) H fun b H4=>
   if b=true then te (some x::fr) H4 fun y H5=>H5 D=some (.lst ys)/\ys.length<sizeLine/\CW xs.length fr (Pv D) (i+1) (ys++[y]) (some x::fr) (A0 H5 D (.lst (ys++[y])))
   else H4 D=some (.lst ys)/\CW xs.length fr (Pv D) (i+1) ys (some x::fr) H4)(hd:∀ D ys H,H1 D=none->Pv D xs.length ys H->H D=some (.lst ys)->ys.length<=xs.length->Q (.ref D) H):bD (w5 K a) 1 ixs (gName 0) c te O Q H1:=by
 intro D hD;refine ⟨xs.length,CW xs.length fr (Pv D),⟨J4 _,J4 _,⟨none,N6⟩,h0 D hD⟩,?_⟩;rintro i ys σ2 H2 ⟨hi,hy,⟨v,rfl⟩,p⟩ hDy;have q:=hl D i ys H2 hD hi p
 by_cases D1:i<xs.length
 .refine .inr ⟨D1,⟨xs,xs[i],q,by simp [D1]⟩,fun x H' y=>?_⟩;obtain ⟨e,y⟩:=y;subst e;exact hs D i x ys _ hD D1 (y xs q) p hDy hy
 .have e:i=xs.length:=by lia
  subst e;exact .inl ⟨⟨xs,q,C6 _⟩,hd D ys H2 hD p hDy hy⟩
theorem compS(fr:St)(N6:compStart 1 ixs O=none::fr)(Pv:Addr->Nat->List V->Hp->Prop)(h0:∀ D,H1 D=none->Pv D 0 [] (A0 H1 D (.lst [])))(hs:∀ D i x ys H,H1 D=none->i<z.cps.size->z.cps.toList[i]?=some x->Pv D i ys H->H D=some (.lst ys)->ys.length<=i->c (some (.str ⟨#[x]⟩)::fr) H fun b H4=>
   if b=true then te (some (.str ⟨#[x]⟩)::fr) H4 fun y H5=>H5 D=some (.lst ys)/\ys.length<sizeLine/\CW z.cps.size fr (Pv D) (i+1) (ys++[y]) (some (.str ⟨#[x]⟩)::fr) (A0 H5 D (.lst (ys++[y])))
   else H4 D=some (.lst ys)/\CW z.cps.size fr (Pv D) (i+1) ys (some (.str ⟨#[x]⟩)::fr) H4)(hd:∀ D ys H,H1 D=none->Pv D z.cps.size ys H->H D=some (.lst ys)->ys.length<=z.cps.size->Q (.ref D) H):bD (dO z) 1 ixs (gName 0) c te O Q H1:=by
 intro D hD;refine ⟨z.cps.size,CW z.cps.size fr (Pv D),⟨J4 _,J4 _,⟨none,N6⟩,h0 D hD⟩,?_⟩;rintro i ys σ2 H2 ⟨hi,hy,⟨v,rfl⟩,p⟩ hDy
 by_cases D1:i<z.cps.size
 .refine .inr ⟨D1,D1,fun x H' y=>?_⟩;obtain ⟨e,c,hc,rfl⟩:=y;subst e;exact hs D i c ys _ hD D1 hc p hDy hy
 .have e:i=z.cps.size:=by lia
  subst e;exact .inl ⟨C6 _,hd D ys H2 hD p hDy hy⟩
theorem compR(fr:St)(N6:compStart 1 ixs O=none::fr)(Pv:Addr->Nat->List V->Hp->Prop)(h0:∀ D,H1 D=none->Pv D 0 [] (A0 H1 D (.lst [])))(hs:∀ D i ys H,H1 D=none->i<n->Pv D i ys H->H D=some (.lst ys)->ys.length<=i->c (some (.int (lo+i))::fr) H fun b H4=>
   if b=true then te (some (.int (lo+i))::fr) H4 fun y H5=>H5 D=some (.lst ys)/\ys.length<sizeLine/\CW n fr (Pv D) (i+1) (ys++[y]) (some (.int (lo+i))::fr) (A0 H5 D (.lst (ys++[y])))
   else H4 D=some (.lst ys)/\CW n fr (Pv D) (i+1) ys (some (.int (lo+i))::fr) H4)(hd:∀ D ys H,H1 D=none->Pv D n ys H->H D=some (.lst ys)->ys.length<=n->Q (.ref D) H):bD (Y1 lo n) 1 ixs (gName 0) c te O Q H1:=by
 intro D hD;refine ⟨n,CW n fr (Pv D),⟨J4 _,J4 _,⟨none,N6⟩,h0 D hD⟩,?_⟩;rintro i ys σ2 H2 ⟨hi,hy,⟨v,rfl⟩,p⟩ hDy
 by_cases D1:i<n
 .refine .inr ⟨D1,D1,fun x H' y=>?_⟩;obtain ⟨e,y⟩:=y;subst e y;exact hs D i ys _ hD D1 p hDy hy
 .have e:i=n:=by lia
  subst e;exact .inl ⟨C6 _,hd D ys H2 hD p hDy hy⟩
theorem C9{p q:Addr}{o u:HO}(h:H p=some o)(n:H q=none):A0 H q u p=some o:=by rw [A9 (O0 h n)];exact h
theorem Same.new{q:Addr}{u:HO}(n:H q=none):Same H (A0 H q u):=fun _ _ h=>C9 h n
theorem Same.put{q:Addr}{u:HO}(s:Same H0 H)(n:H0 q=none):Same H0 (A0 H q u):=fun b o h=>by rw [A9 (O0 h n)];exact s b o h
end L2
set_option maxRecDepth 100000
namespace L2
open PySem PySem.Spec PyProof.Rows
theorem cxK{CX:U3}{P:Program}{w:World}{base:Heap}{sc:Scope}{o:List Env}{E:XK} : (cxOf CX P w K mg base N q sc f cd A o s H E).K=K:=rfl
theorem cxKn : X.nox.K=X.K:=rfl
theorem cxKb{sc:Scope} : (K3 X sc N' C zu zt fp pins).K=X.K:=rfl
theorem cxC{CX:U3}{P:Program}{w:World}{base:Heap}{sc:Scope}{o:List Env}{E:XK} : (cxOf CX P w K mg base N q sc f cd A o s H E).calm=true:=rfl
theorem cxCn : X.nox.calm=X.calm:=rfl
theorem cxCb{sc:Scope} : (K3 X sc N' C zu zt fp pins).calm=X.calm:=rfl
theorem iteD{c A B:Prop}[Decidable c](h1:c->A)(h2:¬ c->B):if decide c=true then A else B:=by
 by_cases h:c
 .rw [decide_eq_true h,if_pos rfl];exact h1 h
 .rw [decide_eq_false h,if_neg K7];exact h2 h
theorem iteN{c A B:Prop}[Decidable c](h1:¬ c->A)(h2:c->B):if (!decide c)=true then A else B:=by
 by_cases h:c
 .rw [decide_eq_true h];exact iteF (h2 h)
 .rw [decide_eq_false h];exact iteT (h1 h)
theorem o7{p:Addr}(h:H p=some (.lst xs)):x0 K "list" (.ref p) H:=.inl ⟨rfl,_,D5.of h⟩
theorem appOk{l:Addr}(h:H l=some (.lst xs))(hz:xs.length<sizeLine)(q:Q .non (A0 H l (.lst (xs++[y])))):nH (.ref l) [y] H Q:=⟨l,xs,y,rfl,rfl,h,hz,q⟩
theorem M9(h:n<=1000000):n<sizeLine:=Nat.lt_of_le_of_lt h (by decide)
theorem o8(h:n<=1000000):n<=sizeLine:=Nat.le_of_lt (M9 h)
noncomputable def signB (c:Nat):Bool:=decide (33<=c)&&decide (c<=126)&&decide (c≠37)
noncomputable def kI (z:Str):Bool:=decide (1<=z.length)&&decide (z.length<=2)&&z.cps.toList.all signB
theorem ag6(h:kI z=true):Z9 z=true/\1<=z.length/\z.length<=2:=by
 unfold kI at h;simp only [Z7,decide_eq_true_eq] at h;refine ⟨?_,h.1.1,h.1.2⟩;unfold Z9;rw [Array.all_eq_true_iff_forall_mem];intro c hc
 have:=List.all_eq_true.mp h.2 c (Array.mem_toList_iff.mpr hc)
 unfold signB at this;simp only [Z7,decide_eq_true_eq] at this;simp only [decide_eq_true_eq];lia
noncomputable def SG:List Nat:=[33,34,35,36]++(M8 89).map (· + 38)
theorem ak2:∀ c∈SG,signB c=true:=by decide +kernel
theorem nV:SG.length=93:=by decide +kernel
structure IsRows(H:Hp)(a:Addr)(rs:List Addr)(zss:List (List Str)):Prop where
 top:H a=some (.lst (rs.map V.ref))
 row:Paired (fun r (zs:List Str)=>H r=some (.lst (zs.map V.str))) rs zss
theorem IsRows.same{zss:List (List Str)}(R:IsRows H a rs zss)(s:Same H H'):IsRows H' a rs zss:=⟨s _ _ R.top,Q7 R.row fun _ _ h=>s _ _ h⟩
theorem Paired.at{α β:Type}{F:α->β->Prop} : ∀ {zx:List α} {l₂:List β} {i:Nat} {a:α},Paired F zx l₂->zx[i]?=some a->∃ b,l₂[i]?=some b/\F a b
 | _,_,_,_,.nil,h=>by simp at h
 | _,_,0,_,.cons h t,e=>by simp at e;subst e;exact ⟨_,rfl,h⟩
 | _,_,i+1,_,.cons h t,e=>by
  obtain ⟨b,h1,h2⟩:=Paired.at (i:=i) t (by simpa using e);exact ⟨b,by simpa using h1,h2⟩
noncomputable def dd (acc:List Str) (z:Str):List Str:=if z∈acc then acc else acc++[z]
noncomputable def J8 (acc zs:List Str):List Str:=zs.foldl dd acc
noncomputable def toldL (zss:List (List Str)):List Str:=zss.foldl J8 []
theorem gM(zs:List Str):∀ acc:List Str,(J8 acc zs).length<=acc.length+zs.length:=by
 induction zs with
 | nil=>intro acc;exact C6 _
 | cons z zs ih=>
  intro acc;have h1:=ih (dd acc z);have h2:(dd acc z).length<=acc.length+1:=by
   unfold dd
   split
   .lia
   .simp
  show (J8 (dd acc z) zs).length<=_;rw [G1];lia
theorem aiO(h:zs[j]?=some z):J8 acc (zs.take (j+1))=dd (J8 acc (zs.take j)) z:=by
 rw [X4,h];simp [J8,aP]
theorem ag8{zss:List (List Str)}(h:zss[i]?=some zs):toldL (zss.take (i+1))=J8 (toldL (zss.take i)) zs:=by
 rw [X4,h];simp [toldL,aP]
theorem kJ(zss:List (List Str)):∀ acc,zss.foldl J8 acc=J8 acc zss.flatten:=by
 induction zss with
 | nil=>intro acc;rfl
 | cons zs zss ih=>
  intro acc;rw [List.foldl_cons,ih,aQ];unfold J8;rw [aP]
theorem dR(zss:List (List Str)):(toldL zss).length<=zss.flatten.length:=by
 unfold toldL;rw [kJ]
 have:=gM zss.flatten []
 simpa using this
noncomputable def kvOf (zs:List Str):List (B5×V):=zs.map fun z=>(Sum.inr z,V.bl true)
theorem uI(z:Str):∀ acc:List Str,((kvOf acc).any fun kv=>decide (kv.1=(Sum.inr z:B5)))=decide (z∈acc)
 | []=>by simp [kvOf]
 | y::acc=>by
  have ih:=uI z acc;unfold kvOf at ih ⊢
  rw [G3,n9,ih]
  by_cases e:y=z
  .subst e
   simp
  .have e1:decide ((Sum.inr y:B5)=Sum.inr z)=false:=decide_eq_false fun q=>e (Sum.inr.inj q)
   have e2:decide (z∈y::acc)=decide (z∈acc):=by
    by_cases h:z∈acc
    .rw [decide_eq_true h,decide_eq_true (M6 _ h)]
    .rw [decide_eq_false h,decide_eq_false];intro q
     rcases F9.mp q with q | q
     .exact e q.symm
     .exact h q
   rw [e2];simp only [e1,Bool.false_or]
theorem ag9(acc:List Str)(z:Str):putK (kvOf acc) (Sum.inr z:B5) (.bl true)=kvOf (dd acc z):=by
 unfold putK dd;rw [uI]
 by_cases h:z∈acc
 .rw [decide_eq_true h,if_pos rfl,if_pos h];unfold kvOf;rw [o0];refine fY fun y _=>?_
  show (if (Sum.inr y:B5)=Sum.inr z then ((Sum.inr y:B5),V.bl true) else (Sum.inr y,V.bl true))=_
  split <;> rfl
 .rw [decide_eq_false h,if_neg K7,if_neg h];unfold kvOf;rw [F8];rfl
theorem aha(acc:List Str):((kvOf acc).map fun kv=>kV kv.1)=acc.map V.str:=by
 unfold kvOf;rw [o0];rfl
theorem bF(z:Str):∀ acc:List Str,j1 (.str z) (acc.map V.str)=decide (z∈acc)
 | []=>by simp [j1]
 | y::acc=>by
  have ih:=bF z acc;unfold j1 at ih ⊢
  rw [G3,n9,ih];show ((y==z) || decide (z∈acc))=_
  by_cases e:y=z
  .subst e
   simp
  .have e1:(y==z)=false:=by simpa using e
   rw [e1,Bool.false_or]
   by_cases h:z∈acc
   .rw [decide_eq_true h,decide_eq_true (M6 _ h)]
   .rw [decide_eq_false h,decide_eq_false];intro q
    rcases F9.mp q with q | q
    .exact e q.symm
    .exact h q
theorem gN:∀ acc:List Str,(acc.map V.str).all flatV=true
 | []=>rfl
 | _::acc=>by rw [G3,List.all_cons,gN acc];rfl
theorem K5{α β:Type}{f:α->β}{l:List α}{y:β}(h:(l.map f)[i]?=some y):∃ x,l[i]?=some x/\y=f x:=by
 rw [Q5] at h;cases e:l[i]? with
 | none=>rw [e] at h;cases h
 | some x=>rw [e] at h;exact ⟨x,rfl,(Option.some.inj h).symm⟩
noncomputable def SS:Str:=Str.ofString "!\"#$&'()*+,-./0123456789:;<=>?@ABCDEFGHIJKLMNOPQRSTUVWXYZ[\\]^_`"++Str.ofString "abcdefghijklmnopqrstuvwxyz{|}~"
theorem SS_eq:SS.cps.toList=SG:=by decide +kernel
theorem amT:SS.length<=sizeLine:=by decide +kernel
theorem ak3:(Str.ofString "!\"#$&'()*+,-./0123456789:;<=>?@ABCDEFGHIJKLMNOPQRSTUVWXYZ[\\]^_`").length+(Str.ofString "abcdefghijklmnopqrstuvwxyz{|}~").length<=sizeLine:=by decide +kernel
theorem SS_at{i:Int}(h0:0<=i)(h1:i<93):∃ c,G7 SS.cps.toList i=some c/\signB c=true:=by
 rw [SS_eq];obtain ⟨c,h2,h3⟩:=kH (xs:=SG) h0 (by rw [nV];exact h1);exact ⟨c,h2,ak2 c h3⟩
theorem drawn{i:Int}(hx:∀ x∈xs,∃ n,x=V.int n)(h0:0<=i)(h1:i<xs.length):∃ n,G7 xs i=some (V.int n):=by
 obtain ⟨v,h2,h3⟩:=kH h0 h1;obtain ⟨n,rfl⟩:=hx v h3;exact ⟨n,h2⟩
theorem nW{α β:Type}{F G:α->β->Prop} : ∀ {zx:List α} {l₂:List β},Paired F zx l₂->(∀ a∈zx,∀ b,F a b->G a b)->Paired G zx l₂
 | _,_,.nil,_=>.nil
 | _,_,.cons h t,k=>.cons (k _ M5 _ h) (nW t fun a ha b hb=>k a (M6 _ ha) b hb)
structure RowsAt(H0 H:Hp)(a:Addr)(rs:List Addr)(zss:List (List Str)):Prop where
 rows:IsRows H a rs zss
 nd:(a::rs).Nodup
 new:∀ r∈a::rs,H0 r=none
 same:Same H0 H
theorem RowsAt.live{zss:List (List Str)}(R:RowsAt H0 H a rs zss)(h:r∈a::rs):∃ o,H r=some o:=by
 rcases F9.mp h with h | h
 .subst h;exact ⟨_,R.rows.top⟩
 .obtain ⟨i,hi,rfl⟩:=V7.mp h;obtain ⟨zs,_,h2⟩:=Paired.at R.rows.row (i:=i) (a:=rs[i]) (by simp [hi]);exact ⟨_,h2⟩
end L2
set_option maxRecDepth 100000
namespace L2
open PySem PySem.Spec PyProof.Rows
structure QE(X:Cx)(e:Expr)(t:TE):Prop where
 out:PE X e t
structure QT(X:Cx)(e:Expr)(t:TT):Prop where
 out:PT X e t
structure QW(X:Cx)(e:Expr)(t:TT):Prop where
 out:PW X e t
structure QA(X:Cx)(es:List Expr)(t:TA):Prop where
 out:PA X es t
structure QS(X:Cx)(st:Stmt)(t:TS):Prop where
 out:PS X st t
structure QSs(X:Cx)(st:List Stmt)(t:TS):Prop where
 out:P7 X st t
structure QG(X:Cx)(tg:Expr)(t:TG):Prop where
 out:PG X tg t
structure QGs(X:Cx)(tg:List Expr)(t:Y0):Prop where
 out:gG X tg t
structure QI(X:Cx)(tg iter:Expr)(wi:TI):Prop where
 out:PI X tg iter wi
structure QO(X:Cx)(e:Option Expr)(t:TO):Prop where
 out:PO X e t
structure QIfs(X:Cx)(ifs:List Expr)(t:TT):Prop where
 out:PIfs X ifs t
structure QOp(X:Cx)(f:Value->Value->Sem Value)(r:R2):Prop where
 out:E6 X f r
structure QCall(X:Cx)(f:Value)(r:List V->Hp->VK->Prop):Prop where
 out:CallR X f r
structure QMt(X:Cx)(id:String)(r:V->List V->Hp->VK->Prop):Prop where
 out:nE X id r
structure QIn(X:Cx)(op:Operator)(t:V->V->Hp->VK->Prop):Prop where
 out:InOp X op t
section
variable {X:Cx} {a b c e o i value:Expr} {es:List Expr} {ta tb tc te to ti tv:TE} {tA tB':TT} {t u:TS} {tl:TA} {pos p pos' tpos:Pos} {rest:List Expr} {r r':R2} {x:Str}
theorem A5{i j} : QE X (.Constant (.int i) j pos) (tC (.int i)):=⟨sM⟩
theorem qe_bl{b j} : QE X (.Constant (.bool b) j pos) (tC (.bl b)):=⟨pe_bl⟩
theorem kK{j} : QE X (.Constant .none j pos) (tC .non):=⟨alS⟩
theorem E5{x j} : QE X (.Constant (.str x) j pos) (tC (.str x)):=⟨alT⟩
theorem qe_v(hN:X.N[n]?=some x)(hv:jV X.env.scope x)(hd:(x==("__debug__" : Str))=false)(P5:(x==("__classdict__" : Str))=false):QE X (.Name x pos) (tVar n):=⟨sL hN hv hd P5⟩
theorem qv(n:Nat)(hN:X.N[n]?=some x:=by rfl)(hv:jV X.env.scope x:=by first | exact Or.inl rfl | exact Or.inr (Or.inl rfl) | exact Or.inr (Or.inr rfl))(hd:(x==("__debug__" : Str))=false:=by decide)(P5:(x==("__classdict__" : Str))=false:=by decide):QE X (.Name x pos) (tVar n):=⟨sL hN hv hd P5⟩
theorem nX{i:Int}(h:∃ t,X.mg x=some (.int i t))(hg:Gl X x:=by rfl)(hd:(x==("__debug__" : Str))=false:=by decide):QE X (.Name x p) (tC (.int i)):=⟨aiA h hg hd⟩
theorem T3{a:Addr}(h:X.mg x=some (.ref a))(hg:Gl X x:=by rfl)(hd:(x==("__debug__" : Str))=false:=by decide):QE X (.Name x p) (tC (.ref a)):=⟨aiB h hg hd⟩
theorem qe_ty{n:String}(hm:X.mg x=none)(hv:bootBuiltins x=some (.type n))(hg:Gl X x:=by rfl)(hn:x≠"__name__":=by decide)(hd:(x==("__debug__" : Str))=false:=by decide):QE X (.Name x p) (tC (.ty n)):=⟨aj2 hg hm hv rfl hn hd⟩
theorem qe_op{op:Operator}(ho:QOp X (binaryOp op) r)(ha:QE X a ta)(hb:QE X b tb):QE X (.BinOp a op b pos) (o4 r ta tb):=⟨pe_op ho.out ha.out hb.out⟩
theorem ak4(ha:QE X a ta)(hK:X.K=K:=by rfl):QE X (.UnaryOp .Not a pos) (tNotT K ta):=by subst hK;exact ⟨akv ha.out⟩
theorem nY{op}(ha:QE X a ta):QE X (.BoolOp op [a] pos) ta:=⟨alW ha.out⟩
theorem gO(ha:QE X a ta)(hb:QE X (.BoolOp .And (b::rest) pos) tb):QE X (.BoolOp .And (a::b::rest) pos) (tAndV ta tb):=⟨alX ha.out hb.out⟩
theorem bG{op:CmpOp}(ho:QOp X (compareOp op) r)(ha:QE X a ta)(hb:QE X b tb)(hm:behindInMarks op b=false:=by first | exact sU _ | rfl):QE X (.Compare a [op] [b] pos) (o4 r ta tb):=⟨akd ho.out ha.out hb.out hm⟩
theorem aiP{op op':CmpOp}(ho:QOp X (compareOp op) r)(e9:QOp X (compareOp op') r')(ha:QE X a ta)(hb:QE X b tb)(hc:QE X c tc)(hm:lastMarks [op,op'] [b,c]=false:=by with_unfolding_all rfl):QE X (.Compare a [op,op'] [b,c] pos) (mV r r' ta tb tc):=⟨aij ho.out e9.out ha.out hb.out hc.out hm⟩
theorem aiQ(hc:QT X c tA)(ha:QE X a ta)(hb:QE X b tb):QE X (.IfExp c a b pos) (mR tA ta tb):=⟨aic hc.out ha.out hb.out⟩
theorem A6:QA X [] tNil:=⟨amf⟩
theorem qa_c(ha:QE X e te)(hr:QA X es tl)(h:K4 e=false:=by rfl):QA X (e::es) (tCons te tl):=⟨pa_c ha.out hr.out h⟩
theorem P8(h:QA X es tl):QE X (.List es pos) (tLst tl):=⟨amh h.out⟩
theorem M0{x1}(h:QA X es tl):QE X (.Tuple es x1 pos) (tTup tl):=⟨amg h.out⟩
theorem dS:QE X (.Dict [] [] pos) nO:=⟨ait⟩
theorem Y2:QO X none nA:=⟨akj⟩
theorem O5(h:QE X e te):QO X (some e) (tPart te):=⟨akk h.out⟩
theorem Q8{lo hi:Option Expr}{tlo thi:TO}{p2:Pos}(he:QE X e te)(hl:QO X lo tlo)(hu:QO X hi thi)(hK:X.K=K:=by rfl):QE X (.Subscript e (.Slice lo hi none p2) pos) (nB (rSlU K) te tlo thi):=by subst hK;exact ⟨aip p_sl he.out hl.out hu.out⟩
theorem b0(hu:X.A.units+1<cLine)(ho:QE X o to)(hi:QE X i ti)(hs:NoSl i:=by exact fun _ _=>rfl):QE X (.Subscript o i pos) (tDGet to ti):=⟨akq hu ho.out hi.out hs⟩
theorem qe_ix(ha:QE X a ta)(hb:QE X b tb)(hs:tN b:=by exact fun _ _=>rfl)(hK:X.K=K:=by rfl):QE X (.Subscript a b pos) (o4 (dJ K) ta tb):=by subst hK;exact ⟨pe_ix aml ha.out hb.out hs⟩
theorem qe_cB{id:String}{rc:List V->Hp->VK->Prop}(hc:QCall X (.builtin id) rc)(hm:X.mg x=none)(hv:bootBuiltins x=some (.builtin id))(ha:QA X (e::es) tl)(hg:Gl X x:=by rfl)(h1:K4 e=false:=by rfl)(h2:T0 es=true:=by rfl)(hn:x≠"__name__":=by decide)(J7:(x==("__debug__" : Str))=false:=by decide) :
  QE X (.Call (.Name x p) (e::es) [] pos) (w6 rc tl):=⟨pe_cB hc.out hg hm hv ha.out h1 h2 hn J7⟩
theorem qe_cT{T:String}{rc:List V->Hp->VK->Prop}(hc:QCall X (.type T) rc)(hm:X.mg x=none)(hv:bootBuiltins x=some (.type T))(ha:QA X (e::es) tl)(hg:Gl X x:=by rfl)(h1:K4 e=false:=by rfl)(h2:T0 es=true:=by rfl)(hn:x≠"__name__":=by decide)(J7:(x==("__debug__" : Str))=false:=by decide) :
  QE X (.Call (.Name x p) (e::es) [] pos) (w6 rc tl):=⟨pe_cT hc.out hg hm hv ha.out h1 h2 hn J7⟩
theorem qe_mB{T id:String}{name:Str}{apos:Pos}{rm:V->List V->Hp->VK->Prop}(pa:PlainAttrs T)(slot:Slot T name id)(W8:typeOf (.builtin id)=pure (.type "method_descriptor"))(hm:QMt X id rm)(ho:QE X o to)(ha:QA X (e::es) tl)(h1:K4 e=false:=by rfl)(h2:T0 es=true:=by rfl)(h3:decide ((e::es).length<30)=true:=by rfl)(J0:attributeBase o name X.env (eval o X.env)=eval o X.env:=by rfl)(K8:(apos.endLine==cpos.line)=true:=by rfl)(hK:X.K=K:=by rfl):QE X (.Call (.Attribute o name apos) (e::es) [] cpos) (jZ K T rm to tl):=by subst hK;exact ⟨pe_mB pa slot W8 hm.out ho.out ha.out h1 h2 h3 J0 K8⟩
theorem D8(G:FO X.prog X.w X.K X.mg X.base k x ps dvs sp)(hr:Room k X.A)(ha:QA X (e::es) tl)(hg:Gl X x:=by rfl)(h1:K4 e=false:=by rfl)(h2:T0 es=true:=by rfl)(J7:(x==("__debug__" : Str))=false:=by decide) :
  QE X (.Call (.Name x p) (e::es) [] pos) (tCall sp dvs E0 tl):=⟨aiz G hr ha.out hg h1 h2 J7⟩
theorem F7{op:CmpOp}(ho:QOp X (compareOp op) r)(ha:QE X a ta)(hb:QE X b tb)(hm:behindInMarks op b=false:=by first | exact sU _ | rfl):QT X (.Compare a [op] [b] pos) (tTest (o4 r ta tb)):=⟨ake ho.out ha.out hb.out hm⟩
theorem gP(ha:QT X a tA):QW X (.BoolOp .And [a] pos) tA:=⟨aj3 ha.out⟩
theorem uJ(ha:QT X a tA):QW X (.BoolOp .Or [a] pos) tA:=⟨alU ha.out⟩
theorem gQ(ha:QT X a tA)(hb:QW X (.BoolOp .And (b::rest) pos) tB'):QW X (.BoolOp .And (a::b::rest) pos) (tAnd tA tB'):=⟨alV ha.out hb.out⟩
theorem qw_or(ha:QT X a tA)(hb:QW X (.BoolOp .Or (b::rest) pos) tB'):QW X (.BoolOp .Or (a::b::rest) pos) (mQ tA tB'):=⟨pw_or ha.out hb.out⟩
theorem QW.pt(h:QW X a tA):QT X a tA:=⟨h.out.pt⟩
theorem gR(ha:QE X a ta)(he:∀ whole,isTrue a X.env whole=(do let v <- whole;standAt a.pos;holding [v] (truthy v)):=by intro _;rfl)(hK:X.K=K:=by rfl):QT X a (tTru K ta):=by subst hK;exact ⟨amt ha.out he⟩
variable {st:Stmt} {sts:List Stmt}
theorem K2:QSs X [] tNext:=⟨aj4⟩
theorem C4(h:QS X st t):QSs X [st] t:=⟨aj5 h.out⟩
theorem C3(h:QS X st t)(h2:QSs X sts u):QSs X (st::sts) (tSeq t u):=⟨aid h.out h2.out⟩
theorem E8(he:QE X e te):QS X (.Return (some e) pos) (tRet te):=⟨alZ he.out⟩
theorem uK:QS X st mS:=⟨aie⟩
theorem E1(hN:X.N.Nodup)(hi:X.N[n]?=some x)(hx:i8 X.env.scope x)(he:QE X e te)(hs:swapsWith e (some (.Name x pos')) pos.line X.env=pure false:=by rfl)(hf:X.fn x=true:=by rfl):QS X (.Assign [.Name x pos'] e pos) (tAsg te (gName n)):=⟨al2 hN hi hx he.out hs (.inl hf)⟩
theorem dU{f:Str}(ho:QE X o to)(hv:QE X value tv)(hs:swapsWith value (some (.Attribute o f pos')) pos.line X.env=pure false:=by rfl)(hK:X.K=K:=by rfl):QS X (.Assign [.Attribute o f pos'] value pos) (sFld K to tv f):=by subst hK;exact ⟨amc ho.out hv.out hs⟩
theorem kL{f:Str}(ho:QE X o to)(hb:attributeBase o f X.env (eval o X.env)=eval o X.env:=by rfl)(hK:X.K=K:=by rfl):QE X (.Attribute o f pos) (tFld K to f):=by subst hK;exact ⟨amb ho.out hb⟩
theorem o9(hu:X.A.units+1<cLine)(ho:QE X o to)(hi:QE X i ti)(hv:QE X value tv)(hs:swapsWith value (some (.Subscript o i pos')) pos.line X.env=pure false:=by rfl):QS X (.Assign [.Subscript o i pos'] value pos) (sDPut to ti tv):=⟨akr hu ho.out hi.out hv.out hs⟩
theorem uL{op:Operator}{rd:V->V->Hp->VK->Prop}(hu:X.A.units+1<cLine)(ho:QE X o to)(hi:QE X i ti)(hv:QE X value tv)(qN:QIn X op rd)(ha:∀ ov iv new,augStore i ov iv new=(do holding [new,ov,iv] (setItem ov iv new);release [new,ov,iv] [];pure .next):=by exact fun _ _ _=>rfl) :
  QS X (.AugAssign (.Subscript o i tpos) op value pos) (sDAug to ti tv rd):=⟨aks hu ho.out hi.out hv.out qN.out ha⟩
theorem amU(he:QE X e te)(hg:QG X tg g)(hs:swapsWithSole [tg] e pos.line X.env=pure false:=by rfl)(hw:swappedStores [tg] e X.env=pure none:=by rfl)(h1:(assignEach [tg] X.env).map (·.2)=[assign tg X.env]:=by rfl):QS X (.Assign [tg] e pos) (tAsg te g):=⟨al1 he.out hg.out hs hw h1⟩
theorem j3(he:QE X e te)(hs:swapsWith e none pos.line X.env=pure false:=by rfl):QS X (.Expr e pos) (tDrop te):=⟨aj6 he.out hs⟩
theorem qs_if{sa sb:List Stmt}(hc:QT X c tA)(ha:QSs X sa t)(hb:QSs X sb u):QS X (.If c sa sb pos) (tIfS tA t u):=⟨ps_if hc.out ha.out hb.out⟩
theorem aiR{body:List Stmt}(hp:PassesOwn (model X.prog X.w) X.A X.env X.xe)(hc:QT X c tA)(hb:QSs X body t):QS X (.While c body [] pos) (jW tA t):=⟨aig hp hc.out hb.out⟩
theorem O6{body:List Stmt}{wi:TI}(hp:PassesOwn (model X.prog X.w) X.A X.env X.xe)(hi:QI X tg iter wi)(hg:QG X tg g)(hb:QSs X body t)(hc:X.calm=true:=by rfl)(hs:∀ x,foldedSetIterable iter X.env x=pure x:=by intro _;rfl):QS X (.For tg iter body [] pos) (tFor wi g t):=⟨al4 hp hc hi.out hg.out hb.out hs⟩
theorem E9(hN:X.N.Nodup)(hi:X.N[n]?=some x)(hx:i8 X.env.scope x)(hf:X.fn x=true\/X.env.scope.names.lookup x=some .local:=by first | exact .inl rfl | exact .inr rfl | assumption):QG X (.Name x pos) (gName n):=⟨aj7 hN hi hx hf⟩
theorem bH:QGs X [] gNil:=⟨aj8⟩
theorem U4{gs:Y0}(h1:QG X e g)(h2:QGs X es gs)(hs:(assignEach (e::es) X.env).map (·.2)=assign e X.env::(assignEach es X.env).map (·.2):=by rfl):QGs X (e::es) (gCons g gs):=⟨aif h1.out h2.out hs⟩
theorem bI{gs:Y0}(h:QGs X es gs)(hc:X.calm=true:=by rfl)(hn:(assignEach es X.env).length=n:=by rfl)(U6:(assignEach es X.env).findIdx? (·.1)=none:=by rfl)(hK:X.K=K:=by rfl):QG X (.Tuple es k pos) (gTup K n gs):=by subst hK;exact ⟨al0 hc h.out hn U6⟩
variable {tg:Expr}
theorem T4(h:QE X e te)(hK:X.K=K:=by rfl):QI X tg e (iList K te):=by subst hK;exact ⟨aj9 h.out⟩
theorem dW(h:QE X e te)(hK:X.K=K:=by rfl):QI X tg e (iTup K te):=by subst hK;exact ⟨al3 h.out⟩
theorem amV(h:QE X e te):QI X tg e (iStr te):=⟨amz h.out⟩
theorem qi_r1(hm:X.mg "range"=none)(ha:QA X [a] tl)(hg:Gl X "range":=by rfl)(h1:K4 a=false:=by rfl):QI X tg (.Call (.Name "range" p) [a] [] pos) (iRng1 tl):=⟨pi_r1 hg hm ha.out h1⟩
theorem gS:QIfs X [] tYes:=⟨aiv⟩
theorem gT(h:QT X c tA):QIfs X [c] tA:=⟨aiw h.out⟩
variable {sc:Scope} {N':List Str} {k:Nat} {ixs:List Nat} {ifs:List Expr} {wi:TI} {g:TG} {elt:Expr}
theorem x5(C:CompOk X.N X.env.scope.names sc N' k ixs)(hi:QI X tg e wi)(hg:∀ C zu zt fp pins,QG (K3 X sc N' C zu zt fp pins) tg g)(hc:∀ C zu zt fp pins,QIfs (K3 X sc N' C zu zt fp pins) ifs tA)(he:∀ C zu zt fp pins,QE (K3 X sc N' C zu zt fp pins) elt te)(K0:X.calm=true:=by rfl)(hs:∀ x,foldedSetIterable e X.env x=pure x:=by intro _;rfl):QE X (.ListComp elt [⟨tg,e,ifs,0⟩] sc pos) (tComp wi k ixs g tA te):=
 ⟨aku C K0 hi.out (fun _ _ _ _ _=>(hg _ _ _ _ _).out) (fun _ _ _ _ _=>(hc _ _ _ _ _).out) (fun _ _ _ _ _=>(he _ _ _ _ _).out) hs⟩
theorem uM(hN:X.N.Nodup)(hiN:X.N[n]?=some x)(hx:i8 X.env.scope x)(C:CompOk X.N X.env.scope.names sc N' k ixs)(hi:QI X tg e wi)(hg:∀ C zu zt fp pins,QG (K3 X sc N' C zu zt fp pins) tg g)(hc:∀ C zu zt fp pins,QIfs (K3 X sc N' C zu zt fp pins) ifs tA)(he:∀ C zu zt fp pins,QE (K3 X sc N' C zu zt fp pins) elt te)(cA:swapsWith (.ListComp elt [⟨tg,e,ifs,0⟩] sc pos) (some (.Name x pos')) spos.line X.env=pure true:=by rfl)(K0:X.calm=true:=by rfl)(hf:X.fn x=true:=by rfl)(hs:∀ x,foldedSetIterable e X.env x=pure x:=by intro _;rfl) :
  QS X (.Assign [.Name x pos'] (.ListComp elt [⟨tg,e,ifs,0⟩] sc pos) spos) (tAsg (tComp wi k ixs g tA te) (gName n)):=
 ⟨agb hN hiN hx C K0 hi.out (fun _ _ _ _ _=>(hg _ _ _ _ _).out) (fun _ _ _ _ _=>(hc _ _ _ _ _).out) (fun _ _ _ _ _=>(he _ _ _ _ _).out) cA (.inl hf) hs⟩
theorem q_add(hK:X.K=K:=by rfl):QOp X (binaryOp .Add) (rAddU K):=by subst hK;exact ⟨p_add⟩
theorem q_sub:QOp X (binaryOp .Sub) (i9 fun i j=>.int (i-j)):=⟨p_sub⟩
theorem q_mul:QOp X (binaryOp .Mult) rMulU:=⟨p_mul⟩
theorem T5:QOp X (binaryOp .FloorDiv) (rI CDiv fun i j=>.int (i / j)):=⟨amu⟩
theorem q_mod:QOp X (binaryOp .Mod) (rI (fun _ j=>0<j) fun i j=>.int (i % j)):=⟨p_mod⟩
theorem q_eq(hu:X.A.units+64<cLine)(hK:X.K=K:=by rfl):QOp X (compareOp .Eq) (rEqU K):=by subst hK;exact ⟨p_eq hu⟩
theorem q_ne(hu:X.A.units+64<cLine)(hK:X.K=K:=by rfl):QOp X (compareOp .NotEq) (rNeU K):=by subst hK;exact ⟨p_ne hu⟩
theorem q_lt:QOp X (compareOp .Lt) rLtU:=⟨p_lt⟩
theorem q_le:QOp X (compareOp .LtE) rLeU:=⟨p_le⟩
theorem q_gt:QOp X (compareOp .Gt) rGtU:=⟨p_gt⟩
theorem q_in(hu:X.A.units+64<cLine)(hK:X.K=K:=by rfl):QOp X (compareOp .In) (rInU K false):=by subst hK;exact ⟨p_in hu⟩
theorem dX(hu:X.A.units+64<cLine)(hK:X.K=K:=by rfl):QOp X (compareOp .NotIn) (rInU K true):=by subst hK;exact ⟨akw hu⟩
theorem q_isN:QOp X (compareOp .Is) (fun x y H Q=>y=.non/\Q (.bl (decide (x=.non))) H):=⟨ama⟩
theorem amW:QOp X (compareOp .IsNot) (fun x y H Q=>y=.non/\Q (.bl (!decide (x=.non))) H):=⟨akc⟩
theorem q_len(hK:X.K=K:=by rfl):QCall X (.builtin "len") (rLenU K):=by subst hK;exact ⟨p_len⟩
theorem q_isi:QCall X (.builtin "isinstance") rIsi:=⟨aix⟩
theorem bJ(hK:X.K=K:=by rfl)(cB:X.calm=calm:=by rfl):QCall X (.type "list") (kF K calm):=by subst hK;subst cB;exact ⟨amx⟩
theorem dY:QMt X "list.append" nH:=⟨fun pins s O H x xs v us Q I rx rv h=>tR pins s O H x xs v us Q I rx rv h⟩
theorem amX:QIn X .Add rAdd:=⟨amd⟩
theorem amY:QIn X .Sub rSub:=⟨ame⟩
end
end L2
set_option maxRecDepth 100000
namespace L2
open PySem PySem.Spec PyProof.Rows
noncomputable def ModD (P:Program) (w:World) (K:PySem.W.Frag) (a:Addr) (kvs:List (B5×V)):Prop:=(a==sysModules)=false/\∀ h:Heap,K.In h->∃ vs,KV kvs vs/\h.DictOf (L5 P w) a vs
noncomputable abbrev ModE (w:World):List DictEntry->List (B5×V)->Prop:=Paired fun e kv=>keyIs kv.1 e.key=true/\e.hash=keyH w kv.1/\RelV kv.2 e.val
theorem ModE.pairs{P:Program}{w:World} : ∀ {es:List DictEntry} {kvs:List (B5×V)},ModE w es kvs->∃ vs:List (B5×Value),KV kvs vs/\Pairs (L5 P w) es vs/\(∀ e∈es,∃ k,(L5 P w).is k e.key=true/\e.hash=(L5 P w).hash k)/\vs.map (·.1)=kvs.map (·.1)
 | _,_,.nil=>⟨[],.nil,.nil,fun e h=>(nomatch h),rfl⟩
 | e::es,kv::kvs,.cons ⟨h1,h2,h3⟩ t=>by
  obtain ⟨vs,a1,a2,a3,a4⟩:=ModE.pairs (P:=P) t;refine ⟨(kv.1,e.val)::vs,.cons ⟨rfl,h3⟩ a1,.cons h1 rfl a2,fun e' he=>?_,by rw [G3,G3,a4]⟩
  rcases F9.mp he with z | z
  .rw [z];exact ⟨kv.1,h1,h2⟩
  .exact a3 e' z
theorem ak5{P:Program}{w:World}{es:Array DictEntry}{ep:Nat}(l:K.lookup a=some { cls:=.type "dict",dict:=none,data:=.dict es ep,slots:=#[] })(hs:(a==sysModules)=false)(he:ModE w es.toList kvs)(hn:(kvs.map (·.1)).Nodup):ModD P w K a kvs:=by
 refine ⟨hs,fun h X=>?_⟩;obtain ⟨vs,a1,a2,a3,a4⟩:=he.pairs (P:=P);exact ⟨vs,a1,_,es,ep,X a _ l,⟨rfl,rfl,rfl⟩,rfl,fun e h=>a3 e (Array.mem_toList_iff.mpr h),a2,by rw [a4];exact hn⟩
noncomputable def rInM (neg:Bool) (a:Addr) (kvs:List (B5×V)):R2:=fun x y H Q=>y=.ref a/\∃ k,x=kV k/\Q (.bl (neg.xor (valV kvs k).isSome)) H
noncomputable def uN (a:Addr) (kvs:List (B5×V)) (to ti:TE):TE:=fun O H Q=>to O H fun x H1=>ti O H1 fun y H2=>x=.ref a/\∃ k v,y=kV k/\valV kvs k=some v/\Q v H2
section
variable {X:Cx} {a:Addr} {kvs:List (B5×V)} {o i:Expr} {to ti:TE} {pos:Pos}
theorem q_inM(M:ModD X.prog X.w X.K a kvs):QOp X (compareOp .In) (rInM false a kvs):=⟨by
 intro pins s O H x y v u Q I rx ry h;obtain ⟨rfl,k,rfl,q⟩:=h;obtain rfl:u=Value.ref a:=ry;obtain ⟨hd,M⟩:=M;obtain ⟨vs,rel,dd⟩:=M s.heap I.kIn;refine wpAny_in_of (kV_is rx) hd dd.mapOf ?_;rw [<- (rel.val k).isSome_eq];exact ⟨.bl _,H,I.tok _,rfl,by simpa using q⟩⟩
theorem uO(M:ModD X.prog X.w X.K a kvs)(ho:QE X o to)(hi:QE X i ti)(hs:NoSl i:=by exact fun _ _=>rfl):QE X (.Subscript o i pos) (uN a kvs to ti):=⟨by
 intro pins s O H Q I h;refine tW PySem.F.slot_dict_getitem.lookup hs (C0 (ho.out pins s O H _ I h) fun u s1 ⟨x,H1,I1,rx,q1⟩=>C0 (hi.out pins s1 O H1 _ I1 q1) fun iv s2 ⟨y,H2,I2,ry,ex,k,v,ey,l,q2⟩=>?_);subst ex ey;obtain rfl:u=Value.ref a:=rx;obtain ⟨hd,M⟩:=M;obtain ⟨vs,rel,dd⟩:=M s2.heap I2.kIn;obtain ⟨w',hw,rw'⟩:=gI (v:=v) (o:=valueAt vs k) (by rw [<- l];exact rel.val k);exact ⟨dd.typeIs,wpAny_getItem_of (kV_is ry) dd.mapOf hw ⟨v,H2,I2.tok _,rw',q2⟩⟩⟩
end
theorem uP{k:B5} : (V.str z=kV k)=(k=Sum.inr z):=by
 cases k with
 | inl i=>exact propext ⟨fun h=>(by cases h),fun h=>(by cases h)⟩
 | inr x=>exact propext ⟨fun h=>(by cases h;rfl),fun h=>(by cases h;rfl)⟩
theorem amZ : rInM neg a kvs (.str z) (.ref b) H Q=(V.ref b=V.ref a/\Q (.bl (neg.xor (valV kvs (Sum.inr z)).isSome)) H):=by
 unfold rInM;simp only [uP,exists_eq_left]
theorem aiS{to ti:TE} : uN a kvs to ti O H Q=to O H fun x H1=>ti O H1 fun y H2=>x=.ref a/\∃ k v,y=kV k/\valV kvs k=some v/\Q v H2:=rfl
noncomputable def uQ (c:TT) (tb:TS) (D:Ends) (O:St) (H:Hp):Prop:=jW c tb D O H
theorem aiT : jW c tb D O H=uQ c tb D O H:=rfl
theorem am0(Pv:Nat->St->Hp->Prop)(m:Nat)(h0:Pv m O H)(hs:∀ m O H,Pv m O H->c O H fun b H1=>if b=true then ∃ N:St->Hp->Prop,(∀ σ' H',N σ' H'->∃ m',m'<m/\Pv m' σ' H')/\tb { D with nx:=N,ct:=N,bk:=D.nx } O H1 else D.nx O H1):uQ c tb D O H:=⟨Pv,⟨m,h0⟩,hs⟩
noncomputable def rTupR (K:PySem.W.Frag) (p:Addr) (H:Hp) (Q:VK):Prop:=∃ ys,(D5 K H p ys/\∀ l,H l=none->Q (.ref l) (A0 H l (.tup ys)))\/(D0 K H p ys/\Q (.ref p) H)
theorem rTupR.l{p:Addr}(h1:D5 K H p ys)(h:∀ l,H l=none->Q (.ref l) (A0 H l (.tup ys))):rTupR K p H Q:=⟨ys,.inl ⟨h1,h⟩⟩
noncomputable def rTupU (K:PySem.W.Frag):List V->Hp->VK->Prop
 | [.ref p],H,Q=>rTupR K p H Q
 | _,_,_=>False
theorem tup_r{p:Addr} : rTupU K [.ref p] H Q=rTupR K p H Q:=rfl
theorem uR(hK:X.K=K:=by rfl):QCall X (.type "tuple") (rTupU K):=by
 subst hK;refine ⟨fun pins s O H xs us Q I r h=>?_⟩
 match xs,h with
 | [.ref p],⟨ys,h⟩=>exact adS pins s O H _ us Q I r ⟨p,ys,rfl,h⟩
noncomputable def rMin:List V->Hp->VK->Prop:=fun xs H Q=>∃ i j,xs=[.int i,.int j]/\Q (.int (if j<i then j else i)) H
noncomputable def rMax:List V->Hp->VK->Prop:=fun xs H Q=>∃ i j,xs=[.int i,.int j]/\Q (.int (if j > i then j else i)) H
theorem am1{i j:Int} : rMin [.int i,.int j] H Q=Q (.int (if j<i then j else i)) H:=propext ⟨fun ⟨_,_,e,q⟩=>(by cases e;exact q),fun q=>⟨_,_,rfl,q⟩⟩
theorem am2{i j:Int} : rMax [.int i,.int j] H Q=Q (.int (if j > i then j else i)) H:=propext ⟨fun ⟨_,_,e,q⟩=>(by cases e;exact q),fun q=>⟨_,_,rfl,q⟩⟩
noncomputable def rCalm (calm:Bool) (r:List V->Hp->VK->Prop):List V->Hp->VK->Prop:=fun xs H Q=>calm=true/\r xs H Q
theorem ak6{r:List V->Hp->VK->Prop} : rCalm true r xs H Q=r xs H Q:=propext ⟨fun h=>h.2,fun h=>⟨rfl,h⟩⟩
end L2
set_option maxRecDepth 100000
namespace L2
open PySem PySem.Spec PyProof.Rows
open PySem.Builtin PySem.Builtin.Str PySem.StrLaws
noncomputable def tSeqM (t u:TS):TS:=fun D O H=>∃ M:St->Hp->Prop,t { D with nx:=M } O H/\∀ σ' H',M σ' H'->u D σ' H'
theorem dZ{rest:List Stmt}{t u:TS}(h1:QS X st t)(h2:QSs X rest u):QSs X (st::rest) (tSeqM t u):=⟨by
 intro pins s O H D I h;obtain ⟨M,h,hm⟩:=h;refine wpAny_execs_cons (C0 (h1.out pins s O H { D with nx:=M } I h) fun f s1 q=>?_)
 cases f with
 | next=>
  obtain ⟨σ',H',I',q⟩:=q;exact h2.out pins s1 σ' H' D I' (hm _ _ q)
 | ret v=>exact q
 | brk=>exact q
 | cont=>exact q⟩
theorem uS{p:Addr}(h:H p=some (.lst xs)):TruV K (.ref p) H (!xs.isEmpty):=.inl ⟨xs,.of h,rfl⟩
theorem x6(xs:List V)(k:Nat):cutV xs (some (k:Int)) none=xs.drop k:=by
 unfold cutV;have e1:HT.sIx xs.length 0 (some (k:Int))=min k xs.length:=by unfold HT.sIx;simp;lia
 have e2:HT.sIx xs.length xs.length none=xs.length:=rfl;rw [e1,e2,Z4 (by rw [i4];exact C6 _)]
 by_cases h:k<=xs.length
 .rw [cV h]
 .rw [Nat.min_eq_right (by lia),jR (C6 _),jR (by lia)]
theorem uT(xs:List V)(k:Nat):cutV xs none (some (k:Int))=xs.take k:=by
 unfold cutV;have e1:HT.sIx xs.length xs.length (some (k:Int))=min k xs.length:=by unfold HT.sIx;simp;lia
 have e2:HT.sIx xs.length 0 none=0:=rfl;rw [e1,e2,List.drop_zero,Nat.sub_zero]
 by_cases h:k<=xs.length
 .rw [cV h]
 .rw [Nat.min_eq_right (by lia),Z4 (C6 _),Z4 (by lia)]
theorem nZ(x:V)(xs:List V):cutV (x::xs) (some 1) none=xs:=x6 (x::xs) 1
theorem N8{α:Type}(x:α)(xs:List α):G7 (x::xs) 0=some x:=by
 have e:j0 (x::xs).length 0=some 0:=by unfold j0;rw [if_pos (Int.le_refl 0),if_pos (by rw [G1];lia)];rfl
 unfold G7;rw [e];rfl
theorem ak7{trs:List (TE×TE)} : tDisp trs O H Q=∀ p,H p=none->dM trs O (A0 H p (.dK [])) fun ps H2=>H2 p=some (.dK [])/\∃ kvs:List (B5×V),ps=kvs.map (fun kv=>(kV kv.1,kv.2))/\kvs.length<=15/\Q (.ref p) (A0 H2 p (.dK (W3 [] kvs))):=rfl
theorem ak8{Q:List (V×V)->Hp->Prop} : dM [] O H Q=Q [] H:=rfl
theorem aiU{tk tv:TE}{r:List (TE×TE)}{Q:List (V×V)->Hp->Prop} : dM ((tk,tv)::r) O H Q=tk O H fun x H1=>tv O H1 fun y H2=>dM r O H2 fun ps H3=>Q ((x,y)::ps) H3:=rfl
theorem aiV{td ty tx:TE} : amr td ty tx O H Q=td O H fun x H1=>∃ a,x=.ref a/\bB H1 a/\ty O H1 fun y H2=>tx O H2 fun z H3=>∃ o,DGet H3 a y o/\Q (o.getD z) H3:=rfl
end L2
set_option maxRecDepth 100000
namespace L2
open PySem PySem.Spec PyProof.Rows
theorem uU:entryFor table "dict.update.loop"=some Builtin.«dict.update.loop»:=entryFor_of_tree (by kernel_rfl)
theorem kM:plainId "dict.update.loop"=true:=by decide +kernel
section
variable {prog:Program} {w:World} {A:Around} {R:Result->Shared->Prop} {I:Addr} {fp wr:List Addr} {G:Array GenState->Array GenState->Prop} {n:Nat} {P:Nat->Value->Prop} {St:Nat->Shared->Prop}
variable {K:Type} [DecidableEq K] {knd:KeyKind prog w K}
noncomputable def b8 (ks:Nat->K) (vl:Nat->Value):Nat->List (K×Value)
 | 0=>[]
 | i+1=>stored (b8 ks vl i) (ks i) (vl i)
theorem uV(ks:Nat->K)(vl:Nat->Value):∀ i,(b8 ks vl i).length<=i
 | 0=>C6 _
 | i+1=>by
  have h1:=uV ks vl i;have h2:(stored (b8 ks vl i) (ks i) (vl i)).length<=(b8 ks vl i).length+1:=by
   unfold stored
   split
   .rw [A8];lia
   .rw [E4];exact C6 _
  show (stored (b8 ks vl i) (ks i) (vl i)).length<=i+1;lia
theorem ahh(W:WalksS prog w A.in1 I fp wr G n P St)(d:Addr)(k9:d∉fp)(tp:Nat->Addr)(ky vl:Nat->Value)(ks:Nat->K)(hP:∀ i v,P i v->v=.ref (tp i))(hk:∀ i,i<n->knd.is (ks i) (ky i)=true)(ht:∀ i,i<n->tp i≠d/\tp i∉wr)(hn:n<=sizeLine) :
  ∀ (k i:Nat) (s:Shared) (j:Int) (t:Tok),n-i=k->i<=n->St i s->(∀ i,i<n->IsTup s.heap (tp i) #[ky i,vl i])->s.heap.DictOf knd d (b8 ks vl i)->
   (∀ s',Moved (d::wr) G s s'->s'.heap.DictOf knd d (b8 ks vl n)->R (.ok (.ret .none)) s')->
   codeAny (model prog w) A (.builtin "dict.update.loop" ⟨[.ref d,.ref I,.int j t,.none],[]⟩) R s:=by
 have zW:d∉wr:=fun h=>k9 (W.sub _ h)
 have f9:∀ b∈wr,b∈d::wr:=fun b hb=>M6 _ hb
 intro k
 induction k with
 | zero=>
  intro i s j t iQ hi U6 hT hD hR;have M3:i=n:=by lia
  subst M3;refine codeAny_builtin uU ?_;rw [Around.under_plainId kM _];show wpAny _ A.in1 (pyNext (.ref I) >>= _) _ _ s;refine wpAny_bind (W.done s _ _ U6 fun s' hm=>?_);have e0:Builtin.Dict.addKeywords d []=pure ():=rfl;show wpAny _ A.in1 (Builtin.Dict.addKeywords d [] >>= fun _=>ret Value.none) _ _ s';rw [e0];refine wpAny_bind (wpAny_pure (wpAny_pure (hR s' (hm.mono f9) ?_)));obtain ⟨o,es,ep,ho,rest⟩:=hD;exact ⟨o,es,ep,hm.heap d _ zW ho,rest⟩
 | succ k ih=>
  intro i s j t iQ hi U6 hT hD hR;have D1:i<n:=by lia
  refine codeAny_builtin uU ?_;rw [Around.under_plainId kM _];show wpAny _ A.in1 (pyNext (.ref I) >>= _) _ _ s;refine wpAny_bind (W.item i s _ _ D1 U6 fun v s' hv cC hm=>?_);obtain rfl:=hP i v hv;have hD':s'.heap.DictOf knd d (b8 ks vl i):=by
   obtain ⟨o,es,ep,ho,rest⟩:=hD;exact ⟨o,es,ep,hm.heap d _ zW ho,rest⟩
  have hT':∀ i,i<n->IsTup s'.heap (tp i) #[ky i,vl i]:=fun i hi=>by
   obtain ⟨o,ho,rest⟩:=hT i hi;exact ⟨o,hm.heap _ _ (ht i hi).2 ho,rest⟩
  have hTi:=hT' i D1;obtain ⟨o,ho,qE,n0,fA⟩:=id hTi;refine wpAny_bind (wpAny_holding (wpAny_bind (wpAny_tryCatch ?_)));unfold Builtin.Dict.pairItems;refine wpAny_bind (wpAny_typeOf hTi.typeIs ?_);rw [if_pos (by decide)];refine wpAny_bind (wpAny_seqItems ho fA ?_);refine wpAny_pure ?_;show wpAny _ _ (holding [ky i,vl i] (dictSet d (ky i) (vl i))) _ _ s';have hl:=uV ks vl i;refine wpAny_holding (wpAny_dictSet_pairs (hk i D1) hD' (fun h' hD2 fB=>?_) (by lia));refine wpAny_pure ⟨plainId_quiet kM _,ih (i+1) _ (j+1) 0 (by lia) D1 (W.frame _ s' _ _ cC (Nat.le_succ _) fun b hb o e=>?_) (fun i hi=>?_) hD2 fun s'' hm'' hD''=>?_⟩
  .rw [fB.2 b (fun h:b=d=>k9 (by rw [<- h];exact hb))];exact e
  .obtain ⟨o,ho,rest⟩:=hT' i hi;exact ⟨o,(fB.2 _ (ht i hi).1).trans ho,rest⟩
  .refine hR s'' (Moved.trans W.gtrans ((hm.mono f9).then_heap (Nat.le_succ _) fun b o hb e=>?_) hm'') hD'';rw [fB.2 b (fun h:b=d=>hb (by rw [h];exact M5))];exact e
end
theorem agc:typeLookup (.type "list") "__getattribute__"=pure (some (.builtin "list.__getattribute__")):=by rw [typeLookup_type,builtinLookup_eq_fast];kernel_rfl
theorem aez:typeLookup (.type "list") "keys"=pure none:=by rw [typeLookup_type,builtinLookup_eq_fast];kernel_rfl
theorem aeA:typeLookup (.type "list") "__getattr__"=pure none:=by rw [typeLookup_type,builtinLookup_eq_fast];kernel_rfl
theorem aeB{w:World}{l:Addr}{xs:Array Value}{Q:Option Value->Shared->Prop}(hx:s.heap.get? l=some o)(hc:o.cls=.type "list")(iR:o.data=.seq xs k)(hd:o.dict=none)(hA:A.handled=none)(h:∀ h' tk,(∀ b o,s.heap.get? b=some o->h'.get? b=some o)->Q none { s with heap:=h',toks:=tk }):wpAny (model prog w) A (getAttr? (.ref l) "keys") Q E s:=by
 obtain ⟨c,dct,dat,sl⟩:=o;simp only at hc iR hd;subst hc iR hd;obtain ⟨hp,g,d,tk,os⟩:=s;have hT:∀ tk',(⟨hp,g,d,tk',os⟩:Shared).TypeIs (.ref l) "list":=fun _=>⟨_,hx,rfl⟩
 have f4:=F.slot_list_getattribute.bind (.ref l);unfold getAttr? getAttrBy? getAttrBy;refine wpAny_bind (wpAny_mkText (wpAny_bind (wpAny_attempt (wpAny_holding (wpAny_bind (wpAny_typeOf (hT _) ?_))))));rw [agc];refine wpAny_bind (wpAny_pure ?_);show wpAny _ _ (getAttrByItsOwn _ _ _ _ _ _) _ _ _;unfold getAttrByItsOwn;refine wpAny_bind (wpAny_pure ?_);refine wpAny_bind (wpAny_attempt (wpAny_holding ?_));show wpAny _ _ (boundAndCalled _ _ _) _ _ _;unfold boundAndCalled;rw [f4];refine wpAny_bind (wpAny_pure ?_);refine call_meets F.slot_list_getattribute (hT _) am_entry_list_getattribute (F.args_list_getattribute_2 _ _) (meets_getattribute_miss_list l xs k sl "keys" _ aez (by decide +kernel) (by decide +kernel)) ⟨hx,hA,fun h' tk' e new=>?_⟩;obtain ⟨t',u',he⟩:=new.there;have hTe:∀ tk',(⟨h',g,d,tk',os⟩:Shared).TypeIs (.ref e) "AttributeError":=fun _=>⟨_,he,rfl⟩
 show wpAny _ _ (getattributeRaised _ _ _ _ _ _ _) _ _ _;unfold getattributeRaised;refine wpAny_bind (wpAny_isInstance (hTe _) sub_AttributeError ?_);rw [if_pos rfl];show wpAny _ _ (hookBehind _ _ >>= _) _ _ _;unfold hookBehind;rw [if_neg (by decide),aeA];refine wpAny_bind (wpAny_pure ?_);unfold hookOrError attributeErrorLeaves;show wpAny _ _ (if (!false)=true then _ else _) _ _ _;rw [if_pos (by decide)];refine wpAny_bind (wpAny_throw ?_);show wpAny _ _ (isInstance _ _ >>= _) _ _ _;refine wpAny_bind (wpAny_isInstance (hTe _) sub_AttributeError ?_);rw [if_pos rfl];exact wpAny_pure (h h' tk' new.keeps)
section
variable {prog:Program} {w:World} {A:Around} {E:Value->Shared->Prop} {s:Shared} {K:Type} [DecidableEq K] {knd:KeyKind prog w K}
theorem adf{l:Addr}{Q:Value->Shared->Prop}(hl:PlainL s.heap l items)(hA:A.handled=none)(tp:Nat->Addr)(ky vl:Nat->Value)(ks:Nat->K)(hP:∀ (i:Nat) (v:Value),items[i]?=some v->v=Value.ref (tp i))(hk:∀ i,i<items.size->knd.is (ks i) (ky i)=true)(hT:∀ i,i<items.size->IsTup s.heap (tp i) #[ky i,vl i])(hn:items.size<=sizeLine)(h:∀ h' tk,(∀ b o,s.heap.get? b=some o->h'.get? b=some o)->h'.DictOf knd s.heap.objs.size (b8 ks vl items.size)->Q (.ref s.heap.objs.size) { s with heap:=h',toks:=tk }) :
  wpAny (model prog w) A (call (.type "dict") [.ref l]) Q E s:=by
 refine callType_codes (Q₁:=fun obj zw=>obj=.ref s.heap.objs.size/\zw={ s with heap:=s.heap.push { cls:=.type "dict",data:=.dict #[] } }) F.kt_called_dict (F.kt_typeCall_dict_1 _) F.entry_dict_init (kt_code_dict_new _ ⟨rfl,rfl⟩) ?_;rintro obj zw ⟨rfl,rfl⟩;have O1:(s.heap.push { cls:=.type "dict",data:=.dict #[] }).DictOf knd s.heap.objs.size []:=Heap.DictOf.new s.heap;obtain ⟨ol,nl,cD,iS,zX,U9⟩:=hl;have cE:(s.heap.push { cls:=.type "dict",data:=.dict #[] }).get? l=some ol:=Heap.get?_push_of_some _ cD;have D1:l<s.heap.objs.size:=Heap.lt_size cD;refine ⟨O1.typeIs,F.args_dict_init_2 _ _,?_⟩;unfold Builtin.«dict.__init__»;refine wpAny_bind ?_;unfold Builtin.Dict.selfAndRest;refine wpAny_bind (wpAny_notOrdered_dict O1.typeIs ?_);show wpAny _ _ (pure (s.heap.objs.size,[Value.ref l])) _ _ _;refine wpAny_pure ?_;show wpAny _ _ (Builtin.Dict.updateFrom "dict.__init__" s.heap.objs.size (.ref l) [] .none) _ _ _;unfold Builtin.Dict.updateFrom;refine wpAny_bind (wpAny_typeOf (T:="list") ⟨_,cE,iS⟩ ?_);rw [if_pos (by decide)];refine wpAny_bind (aeB cE iS U9 zX (by simp [hA]) fun h2 tk2 keep2=>?_);rw [if_pos (show (none:Option Value).isNone=true from rfl)];refine wpAny_bind (wpAny_rule ?_);have iL:h2.IsList l items:=⟨ol,keep2 _ _ cE,iS,nl,U9⟩
 refine wpAny_bind (wpAny_pyIter_list iL ?_);obtain ⟨od,es,ep,fA,restd⟩:=O1;have u0:s.heap.objs.size<h2.objs.size:=Heap.lt_size (keep2 _ _ fA);have N5:l≠h2.objs.size:=G6 (aW D1 u0);have hh:A.in1.in1.handled=none:=by simp [hA]
 have k9:s.heap.objs.size∉[h2.objs.size,l]:=by
  simp only [F9,cS,or_false,not_or];exact ⟨G6 u0,i7 D1⟩
 have cF:∀ i,i<items.size->tp i<s.heap.objs.size:=fun i hi=>by
  obtain ⟨o,ho,_⟩:=hT i hi;exact Heap.lt_size ho
 refine wpAny_pure ⟨plainId_quiet kM _,ahh ((Walks.list hh _ l N5 items).toS) s.heap.objs.size k9 tp ky vl ks hP hk (fun i hi=>⟨G6 (cF i hi),?_⟩) hn (items.size-0) 0 _ 0 0 (by lia) (J4 _) ⟨⟨_,Heap.get?_push_size _ rfl,rfl,rfl⟩,iL.push _⟩ (fun i hi=>?_) ?_ fun s' hm hD'=>?_⟩
 .simp only [F9,cS,or_false];exact G6 (aW (cF i hi) u0)
 .obtain ⟨o,ho,rest⟩:=hT i hi;exact ⟨o,Heap.get?_push_of_some _ (keep2 _ _ (Heap.get?_push_of_some _ ho)),rest⟩
 .exact ⟨od,es,ep,Heap.get?_push_of_some _ (keep2 _ _ fA),restd⟩
 .obtain ⟨h',g',d',tk',os'⟩:=s';have eg:g'=s.gens:=hm.gens;have ed:d'=s.drawn:=hm.drawn;have eo:os'=s.os:=hm.os;subst eg ed eo;refine ⟨rfl,h h' tk' (fun b o hb=>hm.heap b o ?_ (Heap.get?_push_of_some _ (keep2 _ _ (Heap.get?_push_of_some _ hb)))) hD'⟩;have g0:b<s.heap.objs.size:=Heap.lt_size hb;simp only [F9,cS,or_false,not_or];exact ⟨G6 g0,G6 (aW g0 u0)⟩
end
noncomputable def am3 (K:PySem.W.Frag) (calm:Bool):List V->Hp->VK->Prop:=fun xs H Q=>calm=true/\∃ (p:Addr) (ts:List Addr) (kxs:List (B5×V)),xs=[.ref p]/\D5 K H p (ts.map V.ref)/\Paired (fun t kx=>D0 K H t [kV kx.1,kx.2]) ts kxs/\∀ d,H d=none->Q (.ref d) (A0 H d (.dK (W3 [] kxs)))
theorem uW(I:Inv X pins O H s):∀ {ts:List Addr} {kxs:List (B5×V)},Paired (fun t kx=>D0 X.K H t [kV kx.1,kx.2]) ts kxs->
  ∃ ws:List (Value×Value),Paired (fun t w=>IsTup s.heap t #[w.1,w.2]) ts ws/\Paired (fun (kx:B5×V) (w:Value×Value)=>keyIs kx.1 w.1=true/\RelV kx.2 w.2) kxs ws
 | _,_,.nil=>⟨[],.nil,.nil⟩
 | _,_,.cons h t=>by
  obtain ⟨ws,h1,h2⟩:=uW I t;obtain ⟨its,r,ht,_⟩:=I.tuple h;obtain ⟨u1,u2,rfl,r1,r2⟩:=vals2 r;exact ⟨(u1,u2)::ws,.cons ht h1,.cons ⟨kV_is (P:=X.prog) (w:=X.w) r1,r2⟩ h2⟩
theorem uX:∀ {ts:List Addr} {us:List Value},Vals (ts.map V.ref) us->us=ts.map Value.ref
 | [],_,.nil=>rfl
 | t::ts,_::_,.cons h r=>by
  rw [G3,<- uX r];cases h;rfl
theorem ak9(hK:X.K=K:=by rfl)(hc:X.calm=calm:=by rfl):QCall X (.type "dict") (am3 K calm):=⟨by
 subst hK;intro pins s O H xs us Q I r h;obtain ⟨cB,p,ts,kxs,rfl,hp,hP,q⟩:=h;obtain ⟨u,rfl,rx⟩:=vals1 r
 cases rx
 obtain ⟨its,r',pl,hz⟩:=I.list hp;have iT:=uX r';obtain ⟨ws,h1,h2⟩:=uW I hP;have qQ:ts.length=ws.length:=Paired.length h1;have iL:kxs.length=ws.length:=Paired.length h2;rw [A8] at hz;have hsz:its.toArray.size=ts.length:=by rw [J2,iT,A8]
 have qR:∀ i,i<=ts.length->KV (W3 [] (kxs.take i)) (b8 (fun i=>(kxs.getD i (Sum.inl 0,.non)).1) (fun i=>(ws.getD i (.none,.none)).2) i):=by
  intro i
  induction i with
  | zero=>intro _;exact .nil
  | succ i ih=>
   intro hi;have fC:i<kxs.length:=by lia
   obtain ⟨w',hw,hr⟩:=Paired.at h2 (L8 fC);have e1:W3 [] (kxs.take (i+1))=putK (W3 [] (kxs.take i)) kxs[i].1 kxs[i].2:=by
    unfold W3;rw [X4,L8 fC,Option.toList_some,aP];rfl
   rw [e1];show KV _ (stored _ (kxs.getD i (Sum.inl 0,.non)).1 (ws.getD i (.none,.none)).2);have e2:(kxs.getD i (Sum.inl 0,.non))=kxs[i]:=by rw [Z3,L8 fC];rfl
   have e3:(ws.getD i (.none,.none))=w':=by rw [Z3,hw];rfl
   rw [e2,e3];exact (ih (by lia)).put _ hr.2
 refine adf (knd:=L5 X.prog X.w) pl (I.ok.hd (hc.trans cB)) (fun i=>ts.getD i 0) (fun i=>(ws.getD i (.none,.none)).1) (fun i=>(ws.getD i (.none,.none)).2) (fun i=>(kxs.getD i (Sum.inl 0,.non)).1) (fun i v hv=>?_) (fun i hi=>?_) (fun i hi=>?_) (by lia) fun h' tk keep hD=>?_
 .rw [<- Array.getElem?_toList,iT,Q5] at hv;rw [Z3];cases e:ts[i]? with
  | none=>rw [e] at hv;cases hv
  | some t=>rw [e] at hv;cases hv;rfl
 .obtain ⟨w',hw,hr⟩:=Paired.at h2 (L8 (show i<kxs.length by lia));have e2:(kxs.getD i (Sum.inl 0,.non))=kxs[i]'(by lia):=by rw [Z3,L8 (show i<kxs.length by lia)];rfl
  have e3:(ws.getD i (.none,.none))=w':=by rw [Z3,hw];rfl
  rw [e2,e3];exact hr.1
 .have zY:i<ts.length:=by lia
  obtain ⟨w',hw,hr⟩:=Paired.at h1 (L8 zY);have e3:(ws.getD i (.none,.none))=w':=by rw [Z3,hw];rfl
  have e4:ts.getD i 0=ts[i]:=by rw [Z3,L8 zY];rfl
  rw [e3,e4];exact hr
 .have hD2:KV (W3 [] kxs) (b8 (fun i=>(kxs.getD i (Sum.inl 0,.non)).1) (fun i=>(ws.getD i (.none,.none)).2) its.toArray.size):=by
   have:=qR ts.length (C6 _)
   rw [Z4 (by lia)] at this;rw [hsz];exact this
  have B3:=tX kxs [];rw [R3] at B3;exact ⟨.ref s.heap.objs.size,_,I.laid (t':=tk) keep (C6 _) (nN (by lia) (beq_eq_false_iff_ne.mpr (Ne.symm (G6 I.big))) hD2 hD),rfl,q _ (I.hok.fresh (C6 _))⟩⟩
end L2
set_option maxRecDepth 100000
namespace L2
open PySem PySem.Spec PyProof.Rows
section
variable {X:Cx} {pins:List (Addr×Obj)} {O:St} {H:Hp} {s:Shared} {h':Heap}
theorem Inv.turnNew{ch:List Addr}{o:HO}(I:Inv X pins O H s)(hf:∀ b∈ch,FpOk X pins H b)(k:∀ b u,b∉ch->s.heap.get? b=some u->h'.get? b=some u)(hT:s.heap.objs.size<=T)(new:ObjOk X.prog X.w (A0 H T o) h' T o):Inv X pins O (A0 H T o) { s with heap:=h',toks:=t' }:=by
 have hn:H T=none:=I.hok.fresh hT;have nch:∀ b u,H b=some u->b∉ch:=fun b u e z=>by rw [(hf b z).1] at e;cases e
 have neT:∀ b u,s.heap.get? b=some u->b≠T:=fun b u e=>G6 (O9 (Heap.lt_size e) hT)
 refine I.step (g':=s.gens) (d':=s.drawn) (ch:=ch) (fun b hb=>?_) (fun b u _ _ hc e _=>k b u hc e) (fun b u _ _ hc e _=>⟨u.slots,k b u hc e⟩) (fun b u _ e n=>by rw [A9 (neT b u e)];exact n)
  (fun b u hc e=>⟨u,k b u hc e⟩) (fun b xs e=>C9 e hn) (fun b ob u e=>C9 e hn) (fun b ps e=>⟨#[],by rw [C9 e hn];simp⟩) (fun m hm=>?_) (fun b u e=>?_) I.bare
 .obtain ⟨f0,f1,f2,f3,f4,f5⟩:=hf b hb;exact ⟨f3,f1,f4,f5⟩
 .obtain ⟨ob,es,ep,ho,r⟩:=hm;exact ⟨ob,es,ep,k _ ob (fun z=>(hf _ z).2.1 rfl) ho,r⟩
 .by_cases hb:b=T
  .subst hb;rw [A7] at e;cases e;exact new
  .rw [A9 hb] at e;refine (I.hok b u e).stay (fun c v hc q=>k c v ?_ q) (fun c q=>C9 q hn) fun c xs q=>C9 q hn
   rcases hc with z | z
   .rw [z];exact nch b u e
   .exact nch c _ z
end
theorem Y3{a b:Nat}(h:a<b\/b<a):(show Addr from a)≠(show Addr from b):=fun e=>by
 have e:a=b:=e;lia
noncomputable def kN (l1 l2 : Addr) : It :=
  ⟨fun i H => ∃ xs ys x y, H l1 = some (.lst xs) /\ H l2 = some (.lst ys) /\ xs[i]? = some x /\ ys[i]? = some y,
   fun i H v H' => ∃ t xs ys x y, H l1 = some (.lst xs) /\ H l2 = some (.lst ys) /\ xs[i]? = some x /\ ys[i]? = some y /\ H t = none /\ v = .ref t /\ H' = A0 H t (.tup [x, y]),
   fun i H => ∃ xs ys, H l1 = some (.lst xs) /\ H l2 = some (.lst ys) /\ (xs.length <= i \/ ys.length <= i)⟩
theorem aiW{P:Program}{w:World}{pos:Pos}(z TI TO i1 i2 l1 l2:Addr)(a1:TI≠z)(a2:TO≠z)(a3:i1≠z)(a4:i2≠z)(a5:TI≠TO)(a6:TI≠i1)(a7:TI≠i2)(a8:TO≠i1)(a9:TO≠i2)(a10:i1≠i2) :
  Turn P w K (.Tuple elts x1 pos) (kN l1 l2) [z,TO,i1,i2,TI] z (fun i h=>IsZip h z TI TO .none/\IsPair h TI (.ref i1) (.ref i2)/\(∃ a b,IsPair h TO a b)/\h.IsListIter i1 l1 i/\h.IsListIter i2 l2 i) where
 mem:=by simp
 obj:=fun i h ⟨hz,hTI,⟨a,b,hTO⟩,h1,h2⟩ c hc=>by
  have e:c=z\/c=TO\/c=i1\/c=i2\/c=TI:=by simpa using hc
  rcases e with rfl | rfl | rfl | rfl | rfl
  .exact ⟨_,hz,fun v q=>by cases q⟩
  .exact ⟨_,hTO,fun v q=>by cases q⟩
  .obtain ⟨o,e,c,d⟩:=h1;exact ⟨o,e,fun v z=>by rw [d] at z;cases z⟩
  .obtain ⟨o,e,c,d⟩:=h2;exact ⟨o,e,fun v z=>by rw [d] at z;cases z⟩
  .exact ⟨_,hTI,fun v q=>by cases q⟩
 keep:=fun i h h' ⟨hz,hTI,⟨a,b,hTO⟩,h1,h2⟩ k=>⟨k z (by simp) _ hz,k TI (by simp) _ hTI,⟨a,b,k TO (by simp) _ hTO⟩,h1.at fun o e=>k i1 (by simp) o e,h2.at fun o e=>k i2 (by simp) o e⟩
 item:=by
  intro X hP hw hK hc i pins s O H E I hf ⟨hz,hTI,⟨a,b,hTO⟩,h1,h2⟩ hg;subst hP hw hK;obtain ⟨xs,ys,x,y,e1,e2,hx,hy⟩:=hg;obtain ⟨its1,V0,p1,_⟩:=I.list (D5.of (K:=X.K) e1);obtain ⟨its2,lZ,p2,_⟩:=I.list (D5.of (K:=X.K) e2);obtain ⟨u1,D6,r1⟩:=V0.get hx;obtain ⟨u2,hu2,r2⟩:=lZ.get hy;have nl:∀ c∈[z,TO,i1,i2,TI],l1≠c/\l2≠c:=fun c hc=>⟨fun q=>(by rw [q,(hf c hc).1] at e1;cases e1),fun q=>(by rw [q,(hf c hc).1] at e2;cases e2)⟩
  have D:ZipApart z TI TO i1 i2 l1 l2:=⟨a1,a2,a3,a4,a5,a6,a7,a8,a9,a10,(nl z (by simp)).1,(nl TO (by simp)).1,(nl i1 (by simp)).1,(nl i2 (by simp)).1,(nl z (by simp)).2,(nl TO (by simp)).2,(nl i1 (by simp)).2,(nl i2 (by simp)).2⟩
  refine wpAny_pyNext_zip_item D hz hTI hTO h1 h2 p1.isList p2.isList (x:=u1) (y:=u2) (by simpa using D6) (by simpa using hu2) fun h' b1 b2 b3 b4 b5 b6 b7=>⟨_,rfl,wpAny_letOwnedTupleGo_zip b1 fun h2' c1 c2=>?_⟩
  have iU:z<s.heap.objs.size:=Heap.lt_size hz;have up:∀ c o,c≠z->h'.get? c=some o->h2'.get? c=some o:=fun c o hc e=>(c2.2 c hc).trans e
  have nT:∀ c∈[z,TO,i1,i2,TI],c≠s.heap.objs.size:=fun c hc=>by
   have e:c=z\/c=TO\/c=i1\/c=i2\/c=TI:=by simpa using hc
   refine G6 ?_
   rcases e with rfl | rfl | rfl | rfl | rfl
   .exact Heap.lt_size hz
   .exact Heap.lt_size hTO
   .obtain ⟨o,e,_⟩:=h1;exact Heap.lt_size e
   .obtain ⟨o,e,_⟩:=h2;exact Heap.lt_size e
   .exact Heap.lt_size hTI
  have hT:=up _ _ (i7 iU) b5;refine ⟨.ref s.heap.objs.size,A0 H s.heap.objs.size (.tup [x,y]),I.turnNew (t':=s.toks) (ch:=[z,TO,i1,i2,TI]) hf (fun c u hc e=>?_) (C6 _) ⟨by show 2<=sizeLine;decide,[u1,u2],.cons r1 (.cons r2 .nil),?_⟩,rfl,⟨_,xs,ys,x,y,e1,e2,hx,hy,I.fresh,rfl,rfl⟩,
   ⟨c1,up _ _ a1 (b7 _ _ a1 a5 a6 a7 hTI),⟨_,_,up _ _ a2 b2⟩,b3.at fun o e=>up _ o a3 e,b4.at fun o e=>up _ o a4 e⟩,fun c hc=>by rw [A9 (nT c hc)];exact (hf c hc).1⟩
  .have q:c≠z/\c≠TO/\c≠i1/\c≠i2:=by
    refine ⟨fun q=>hc (by simp [q]),fun q=>hc (by simp [q]),fun q=>hc (by simp [q]),fun q=>hc (by simp [q])⟩
   exact up c u q.1 (b7 c u q.1 q.2.1 q.2.2.1 q.2.2.2 e)
  .exact ⟨_,hT,rfl,_,rfl⟩
 done:=by
  intro X hP hw hK hc i pins s O H E I hf ⟨hz,hTI,⟨a,b,hTO⟩,h1,h2⟩ hg;subst hP hw hK;obtain ⟨xs,ys,e1,e2,T9⟩:=hg;obtain ⟨its1,V0,p1,_⟩:=I.list (D5.of (K:=X.K) e1);obtain ⟨its2,lZ,p2,_⟩:=I.list (D5.of (K:=X.K) e2);have q1:=V0.length;have q2:=lZ.length;have nl:∀ c∈[z,TO,i1,i2,TI],l1≠c/\l2≠c:=fun c hc=>⟨fun q=>(by rw [q,(hf c hc).1] at e1;cases e1),fun q=>(by rw [q,(hf c hc).1] at e2;cases e2)⟩
  have D:ZipApart z TI TO i1 i2 l1 l2:=⟨a1,a2,a3,a4,a5,a6,a7,a8,a9,a10,(nl z (by simp)).1,(nl TO (by simp)).1,(nl i1 (by simp)).1,(nl i2 (by simp)).1,(nl z (by simp)).2,(nl TO (by simp)).2,(nl i1 (by simp)).2,(nl i2 (by simp)).2⟩
  refine wpAny_pyNext_zip_end (I.ok.hd hc) D hz hTI hTO h1 h2 p1.isList p2.isList (by rcases T9 with q | q <;> simp <;> lia) fun h' k=>⟨rfl,?_⟩
  refine I.step (h':=h') (t':=s.toks) (g':=s.gens) (d':=s.drawn) (ch:=[z,TO,i1,i2,TI]) (fun b hb=>?_) (fun b u _ _ hc e _=>?_) (fun b u _ _ hc e _=>⟨u.slots,?_⟩) (fun b u _ e n=>n)
   (fun b u hc e=>⟨u,?_⟩) (fun b xs e=>e) (fun b ob u e=>e) (fun b ps e=>⟨#[],by rw [e];simp⟩) (fun m hm=>?_) (fun b u e=>?_) I.bare
  .obtain ⟨f0,f1,f2,f3,f4,f5⟩:=hf b hb;exact ⟨f3,f1,f4,f5⟩
  .exact k b u (fun q=>hc (by simp [q])) (fun q=>hc (by simp [q])) (fun q=>hc (by simp [q])) (fun q=>hc (by simp [q])) e
  .exact k b u (fun q=>hc (by simp [q])) (fun q=>hc (by simp [q])) (fun q=>hc (by simp [q])) (fun q=>hc (by simp [q])) e
  .exact k b u (fun q=>hc (by simp [q])) (fun q=>hc (by simp [q])) (fun q=>hc (by simp [q])) (fun q=>hc (by simp [q])) e
  .obtain ⟨ob,es,ep,ho,r⟩:=hm;have nL:∀ c∈[z,TO,i1,i2,TI],X.env.locals≠c:=fun c hc q=>(hf c hc).2.1 q.symm
   exact ⟨ob,es,ep,k _ ob (nL z (by simp)) (nL TO (by simp)) (nL i1 (by simp)) (nL i2 (by simp)) ho,r⟩
  .have nch:∀ b u,H b=some u->∀ c∈[z,TO,i1,i2,TI],b≠c:=fun b u e c hc q=>by rw [q,(hf c hc).1] at e;cases e
   refine (I.hok b u e).stay (fun c v hc q=>?_) (fun c q=>q) fun c xs q=>q
   have:∀ d∈[z,TO,i1,i2,TI],c≠d:=by
    rcases hc with z | z
    .rw [z];exact nch b u e
    .exact nch c _ z
   exact k c v (this z (by simp)) (this TO (by simp)) (this i1 (by simp)) (this i2 (by simp)) q
 self:=fun _ _ _ _ _ st h=>wpAny_pyIter_zip st.1 h
section
variable {X:Cx}
noncomputable def iZip (ta:TA):TI:=fun O H R=>ta O H fun vs H1=>∃ (l1 l2:Addr) (xs ys:List V),vs=[.ref l1,.ref l2]/\H1 l1=some (.lst xs)/\H1 l2=some (.lst ys)/\R (kN l1 l2) H1
theorem am4{a b:Expr}{p pos:Pos}(hg:Gl X "zip")(hm:X.mg "zip"=none)(ha:PA X [a,b] ta)(h1:K4 a=false:=by rfl)(h2:K4 b=false:=by rfl) :
  PI X (.Tuple elts x1 tpos) (.Call (.Name "zip" p) [a,b] [] pos) (iZip ta):=by
 intro pins s O H R I h;refine Call_ (v9 I hg hm boot_zip (PyProof.Rows.callWith_type1 (C0 (ha pos pins s O H _ I h) fun us s1 ⟨vs,H1,I1,r1,q1⟩=>?_) (N7 h1) (by rw [N7 h2];rfl)));obtain ⟨l1,l2,xs,ys,rfl,e1,e2,q⟩:=q1;obtain ⟨u1,u2,rfl,iV,qS⟩:=vals2 r1
 cases iV
 cases qS
 obtain ⟨its1,V0,p1,_⟩:=I1.list (D5.of (K:=X.K) e1);obtain ⟨its2,lZ,p2,_⟩:=I1.list (D5.of (K:=X.K) e2);refine call_zip_2 p1.isList p2.isList fun h' z1 z2 z3 z4 z5 z6 z7=>wpAny_pyIter_zip z1 ?_
 refine ⟨s1.heap.objs.size+4,[s1.heap.objs.size+4,s1.heap.objs.size+3,s1.heap.objs.size,s1.heap.objs.size+1,s1.heap.objs.size+2],_,_,H1,rfl,I1.kept (t':=s1.toks) z7,
  aiW _ (s1.heap.objs.size+2) (s1.heap.objs.size+3) s1.heap.objs.size (s1.heap.objs.size+1) l1 l2 (Y3 (by lia)) (Y3 (by lia)) (Y3 (by lia)) (Y3 (by lia)) (Y3 (by lia)) (Y3 (by lia)) (Y3 (by lia)) (Y3 (by lia)) (Y3 (by lia)) (Y3 (by lia)),⟨z1,z2,⟨_,_,z3⟩,z4,z5⟩,fun b hb=>?_,q⟩
 have N0:s1.heap.objs.size<=b:=by
  have e:b=s1.heap.objs.size+4\/b=s1.heap.objs.size+3\/b=s1.heap.objs.size\/b=s1.heap.objs.size+1\/b=s1.heap.objs.size+2:=by simpa using hb
  rcases e with rfl | rfl | rfl | rfl | rfl
  .exact v4 _ _
  .exact v4 _ _
  .exact C6 _
  .exact v4 _ _
  .exact v4 _ _
 exact I1.fpOk N0 (I1.hok.fresh N0)
theorem am5{a b:Expr}{p pos:Pos}(hm:X.mg "zip"=none)(ha:QA X [a,b] ta)(hg:Gl X "zip":=by rfl)(h1:K4 a=false:=by rfl)(h2:K4 b=false:=by rfl) :
  QI X (.Tuple elts x1 tpos) (.Call (.Name "zip" p) [a,b] [] pos) (iZip ta):=⟨am4 hg hm ha.out h1 h2⟩
end
theorem ala{R:It->Hp->Prop} : iZip ta O H R=ta O H fun vs H1=>∃ (l1 l2:Addr) (xs ys:List V),vs=[.ref l1,.ref l2]/\H1 l1=some (.lst xs)/\H1 l2=some (.lst ys)/\R (kN l1 l2) H1:=rfl
theorem forZ{l1 l2:Addr}(Pv:Nat->St->Hp->Prop)(h0:Pv 0 O H)(hl:∀ i O H,Pv i O H->H l1=some (.lst xs)/\H l2=some (.lst ys))(hs:∀ i x y t O H,xs[i]?=some x->ys[i]?=some y->Pv i O H->H t=none->g (.ref t) O (A0 H t (.tup [x,y])) fun σ2 H2=>tb { D with nx:=Pv (i+1),ct:=Pv (i+1),bk:=D.nx } σ2 H2)(hd:∀ O H,Pv (min xs.length ys.length) O H->D.nx O H):ForIt (kN l1 l2) g tb D O H:=by
 refine ⟨fun i m O H=>m=min xs.length ys.length-i/\i<=min xs.length ys.length/\Pv i O H,⟨min xs.length ys.length,by simp,J4 _,h0⟩,?_⟩;rintro i m O H ⟨rfl,hi,p⟩;obtain ⟨e1,e2⟩:=hl i O H p
 by_cases D1:i<min xs.length ys.length
 .refine .inr ⟨⟨xs,ys,xs[i]'(by lia),ys[i]'(by lia),e1,e2,by simp,by simp⟩,Pv (i+1),fun σ' H' p'=>⟨_,by lia,rfl,D1,p'⟩,fun v H' y=>?_⟩;obtain ⟨t,xs',ys',x,y',f1,f2,hx,hy,ht,rfl,rfl⟩:=y;rw [e1] at f1;cases f1;rw [e2] at f2;cases f2;exact hs i x y' t O H hx hy p ht
 .have e:i=min xs.length ys.length:=by lia
  subst e;exact .inl ⟨⟨xs,ys,e1,e2,by lia⟩,hd O H p⟩
noncomputable def Itr3 (lo st:Int) (n:Nat):It:=⟨fun i _=>i<n,fun i H x H'=>H'=H/\x=.int (lo+i*st),fun i _=>n<=i⟩
theorem uY{α β:Type}(f:α->β):∀ (l:List α) (i:Nat),(l.eraseIdx i).map f=(l.map f).eraseIdx i
 | [],_=>rfl
 | _::_,0=>rfl
 | x::l,i+1=>by
  show f x::(l.eraseIdx i).map f=f x::(l.map f).eraseIdx i;rw [uY f l i]
noncomputable def oA (td ty tx:TE):TE:=fun O H Q=>td O H fun x H1=>∃ a,x=.ref a/\bB H1 a/\ty O H1 fun y H2=>tx O H2 fun z H3=>∃ kvs k,H3 a=some (.dK kvs)/\kvs.length<sizeLine/\y=kV k/\
 (∀ v,valV kvs k=some v->Q v H3)/\(valV kvs k=none->Q z (A0 H3 a (.dK (putK kvs k z))))
section
variable {X:Cx} {o e f:Expr} {apos cpos:Pos} {td ty tx:TE} {pins:List (Addr×Obj)} {O:St} {H:Hp} {s:Shared} {a:Addr} {A:Around} {E:Value->Shared->Prop}
theorem am6{k:B5}{z:V}{r:Value}{Q:Value->Shared->Prop}(I:Inv X pins O H s)(e:H a=some (.dK kvs))(hl:kvs.length<sizeLine)(ry:RelV (kV k) u)(rz:RelV z r)(h1:∀ v w' s',valV kvs k=some v->Inv X pins O H s'->RelV v w'->Q w' s')(h2:∀ s',valV kvs k=none->Inv X pins O (A0 H a (.dK (putK kvs k z))) s'->Q r s') :
  wpAny (model X.prog X.w) A (call (.builtin "dict.setdefault") [.ref a,u,r]) Q E s:=by
 obtain ⟨hz,hd,vs,rel,dd⟩:=dk_of I.hok e;have B3:=rel.length;refine call_meetsIn PySem.F.slot_dict_setdefault dd.typeIs PySem.F.entry_dict_setdefault (PySem.F.args_dict_setdefault_3 _ _ _) (kt_meets_setdefault (L5 X.prog X.w) a (kV_is ry) hd r) ⟨vs,dd,by lia,fun v hv=>?_,fun hn h' hm hs=>?_⟩
 .have:=rel.val k
  rw [hv] at this;cases cG:valV kvs k with
  | none=>rw [cG] at this;exact this.elim
  | some x=>rw [cG] at this;exact h1 x v _ cG (I.tok _) this
 .have:=rel.val k
  rw [hn] at this;cases cG:valV kvs k with
  | some x=>rw [cG] at this;exact this.elim
  | none=>
   have P6:(putK kvs k z).length<=sizeLine:=by rw [air z cG,E4,X3];lia
   obtain ⟨ob,_,_,ho,_⟩:=id hm;exact h2 _ cG (nM (t':=s.toks+1) I (by rw [e];exact trivial) hs ⟨ob,ho⟩ (nN P6 hd (rel.put k rz) hm))
theorem aiX(ho:PE X o td)(he:PE X e ty)(hf:PE X f tx)(m:M2 X o "setdefault" apos e f cpos):PE X (.Call (.Attribute o "setdefault" apos) [e,f] [] cpos) (oA td ty tx):=by
 intro pins s O H Q I h;refine wpAny_Call_method m.base m.few m.line PySem.F.plainAttrs_dict PySem.F.slot_dict_setdefault PySem.F.type_dict_setdefault (C0 (ho pins s O H _ I h) fun u s1 ⟨x,H1,I1,rx,a,ex,d,q1⟩=>?_);subst ex;obtain rfl:u=Value.ref a:=rx;obtain ⟨t1,t2,_⟩:=tY I1 d;refine ⟨t1,t2,?_⟩;rw [m.trees];refine Calls.callWith_builtin rfl (Calls.evalArgs_plain (Calls.spliced_cons (C0 (he pins s1 O H1 _ I1 q1) fun iv s2 ⟨y,H2,I2,ry,q2⟩=>
  Calls.spliced_cons (C0 (hf pins s2 O H2 _ I2 q2) fun fv s3 ⟨z,H3,I3,rz,kvs,k,e3,hl,ey,q3,q4⟩=>Calls.spliced_nil ?_))))
 subst ey;exact am6 I3 e3 hl ry rz (fun v w' s4 hv I4 rw'=>⟨v,H3,I4,rw',q3 v hv⟩) fun s4 hn I4=>⟨z,_,I4,rz,q4 hn⟩
theorem aiY(ho:QE X o td)(he:QE X e ty)(hf:QE X f tx)(h1:K4 e=false:=by rfl)(h2:K4 f=false:=by rfl)(J0:attributeBase o "setdefault" X.env (eval o X.env)=eval o X.env:=by rfl)(K8:(apos.endLine==cpos.line)=true:=by rfl):QE X (.Call (.Attribute o "setdefault" apos) [e,f] [] cpos) (oA td ty tx):=
 ⟨aiX ho.out he.out hf.out ⟨J0,by rw [N7 h1,N7 h2];rfl,K8,by rw [N7 h1,N7 h2];rfl⟩⟩
theorem aiZ:oA td ty tx O H Q=td O H fun x H1=>∃ a,x=.ref a/\bB H1 a/\ty O H1 fun y H2=>tx O H2 fun z H3=>∃ kvs k,H3 a=some (.dK kvs)/\kvs.length<sizeLine/\y=kV k/\
 (∀ v,valV kvs k=some v->Q v H3)/\(valV kvs k=none->Q z (A0 H3 a (.dK (putK kvs k z)))):=rfl
end
section
variable {X:Cx} {tg:Expr}
noncomputable def uZ (i j k:Int):Nat:=(if i<j then (j-i-1) / k+1 else 0).toNat
noncomputable def iRng3 (ta:TA):TI:=fun O H R=>ta O H fun vs H1=>∃ i j k:Int,vs=[.int i,.int j,.int k]/\(-(2 ^ 60)<=i/\i<2 ^ 60/\-(2 ^ 60)<=j/\j<2 ^ 60/\0<k/\k<1000000)/\R (Itr3 i k (uZ i j k)) H1
end
theorem ai0{R:It->Hp->Prop} : iRng3 ta O H R=ta O H fun vs H1=>∃ i j k:Int,vs=[.int i,.int j,.int k]/\(-(2 ^ 60)<=i/\i<2 ^ 60/\-(2 ^ 60)<=j/\j<2 ^ 60/\0<k/\k<1000000)/\R (Itr3 i k (uZ i j k)) H1:=rfl
section
variable {X:Cx} {pins:List (Addr×Obj)} {O:St} {H:Hp} {s:Shared} {a:Addr}
theorem Inv.swap{u u':HO}(I:Inv X pins O H s)(e:H a=some u)(n1:∀ xs,u≠.tup xs)(n2:∀ x,u≠.own x)(n3:∀ ps,u≠.tbl ps)(n4:∀ o v,X.H₀ a≠some (.frz o v))(new:ObjOk X.prog X.w H s.heap a u'):Inv X pins O (A0 H a u') s:=by
 have ne:∀ b,H b=none->b≠a:=fun b h q=>by rw [q,e] at h;cases h
 have own:∀ c x,H c=some (.own x)->A0 H a u' c=some (.own x):=fun c x q=>by
  rw [A9 (fun z=>by rw [z,e] at q;exact n2 x (Option.some.inj q))];exact q
 have tup:∀ c xs,H c=some (.tup xs)->A0 H a u' c=some (.tup xs):=fun c x q=>by
  rw [A9 (fun z=>by rw [z,e] at q;exact n1 x (Option.some.inj q))];exact q
 refine ⟨I.ok,I.os,I.bare,⟨I.base.keep,I.base.slot,fun b o h1 h2 h3=>?_,I.base.there,fun b xs h=>tup b xs (I.base.tups b xs h),fun b o v h=>?_,fun b ps h=>?_⟩,I.loc,I.cell,?_,fun x c h=>?_,fun p hp=>?_,fun b v h=>?_,I.len⟩
 .have:=I.base.free b o h1 h2 h3
  rw [A9 (ne b this)];exact this
 .rw [A9 (fun z=>n4 o v (by rw [<- z];exact h))];exact I.base.frzs b o v h
 .obtain ⟨m,q⟩:=I.base.tbls b ps h;exact ⟨m,by rw [A9 (fun z=>by rw [z,e] at q;exact n3 _ (Option.some.inj q))];exact q⟩
 .rw [A9 (ne _ I.free)];exact I.free
 .rw [A9 (ne _ (I.freeC x c h))];exact I.freeC x c h
 .obtain ⟨h1,h2,h3⟩:=I.pin p hp;exact ⟨h1,by rw [A9 (ne _ h2)];exact h2,h3⟩
 .by_cases hb:b=a
  .subst hb;rw [A7] at h;cases h;exact new.stay (fun _ _ _ q=>q) (fun c q=>own c _ q) fun c xs q=>tup c xs q
  .rw [A9 hb] at h;exact (I.hok b v h).stay (fun _ _ _ q=>q) (fun c q=>own c _ q) fun c xs q=>tup c xs q
end
noncomputable def gU (a:Addr) (o:Obj) (kvs:List (B5×V)):It:=
 ⟨fun i H=>H a=some (.frz o (.dK kvs))/\i<kvs.length,fun i H x H'=>H'=H/\∃ k v,kvs[i]?=some (k,v)/\x=kV k,fun i H=>H a=some (.frz o (.dK kvs))/\kvs.length<=i⟩
theorem ahk{P:Program}{w:World}(a it:Addr)(o:Obj)(kvs:List (B5×V))(vs:List (B5×Value))(ep:Nat)(Q3:∀ h:Heap,h.get? a=some o->h.DictAt (L5 P w) a vs ep)(rel:KV kvs vs):Turn P w K tg (gU a o kvs) [it] it (fun i h=>h.IsKeyIter it a i vs.length ep) where
 mem:=by simp
 obj:=fun i h st b hb=>by
  have e:b=it:=by simpa using hb
  subst e;obtain ⟨o,e,c,d⟩:=st;exact ⟨o,e,fun v z=>by rw [d] at z;cases z⟩
 keep:=fun i h h' st k=>st.at fun o e=>k it (by simp) o e
 item:=by
  intro X hP hw hK hc i pins s O H E I hf st hg;subst hP hw hK;obtain ⟨f0,f1,f2,f3,f4,f5⟩:=hf it (by simp);obtain ⟨u3,iW⟩:=hg;have hd:=Q3 s.heap (I.hok a _ u3).1;have zZ:i<vs.length:=by rw [<- rel.length];exact iW
  refine wpAny_pyNext_dict_item st hd (k:=vs[i].1) (v:=vs[i].2) (by rw [L8 zZ]) fun key h' W7 iX mB=>?_
  have I1:Inv X pins O H { s with heap:=h' }:=I.turned (t':=s.toks) (fun b o hb e=>(mB.2 b hb).trans e) f0 f1 f3 f4 f5;obtain ⟨oi,e,c,d⟩:=id iX;have hk:kvs[i].1=vs[i].1:=by
   have:=congrArg (·[i]?) rel.keys
   simpa [iW,zZ] using this
  have rk:RelV (kV kvs[i].1) key:=by
   rw [hk];have W7:keyIs vs[i].1 key=true:=W7;generalize vs[i].1=kk at W7
   rcases X7 W7 with ⟨j,t,rfl,rfl⟩ | ⟨x,t,rfl,rfl⟩
   .exact ⟨t,rfl⟩
   .exact ⟨t,rfl⟩
  exact ⟨key,rfl,go_of (s:={ s with heap:=h' }) e c d (by decide) ⟨kV kvs[i].1,H,I1,rk,⟨rfl,kvs[i].1,kvs[i].2,by rw [L8 iW],rfl⟩,iX,fun b hb=>(hf b hb).1⟩⟩
 done:=by
  intro X hP hw hK hc i pins s O H E I hf st hg;subst hP hw hK;obtain ⟨f0,f1,f2,f3,f4,f5⟩:=hf it (by simp);obtain ⟨u3,iW⟩:=hg;have hd:=Q3 s.heap (I.hok a _ u3).1;exact wpAny_pyNext_dict_end (I.ok.hd hc) st hd (by rw [List.getElem?_eq_none_iff,<- rel.length];exact iW) fun h' eb=>⟨rfl,I.turned (t':=s.toks) (fun b o hb e=>eb b o hb e) f0 f1 f3 f4 f5⟩
 self:=fun _ _ _ _ _ st h=>wpAny_pyIter_keyiter st h
noncomputable def Ends.thaw (D:Ends) (a:Addr) (kvs:List (B5×V)):Ends where
 nx:=fun O H=>(∃ o,H a=some (.frz o (.dK kvs)))/\D.nx O (A0 H a (.dK kvs))
 rt:=fun v H=>(∃ o,H a=some (.frz o (.dK kvs)))/\D.rt v (A0 H a (.dK kvs))
noncomputable def tForD (tl:TE) (g:TG) (tb:TS):TS:=fun D O H=>tl O H fun x H1=>∃ a kvs,x=.ref a/\H1 a=some (.dK kvs)/\∀ o,ForIt (gU a o kvs) g tb (D.thaw a kvs) O (A0 H1 a (.frz o (.dK kvs)))
theorem alb{l:Expr}{body:List Stmt}{pos:Pos}(hp:PassesOwn (model X.prog X.w) X.A X.env X.xe)(hc:X.calm=true)(hl:PE X l tl)(hg:PG X tg g)(hb:P7 X body tb)(hs:∀ x,foldedSetIterable l X.env x=pure x):PS X (.For tg l body [] pos) (tForD tl g tb):=by
 intro pins s O H D I h;refine wpAny_For (C0 (hl pins s O H _ I h) fun v s1 ⟨x,H1,I1,r1,q1⟩=>?_) hs;obtain ⟨a,kvs,rfl,e,q⟩:=q1
 cases r1
 obtain ⟨z,hd,vs,rel,dd⟩:=dk_of I1.hok e;obtain ⟨ep,Q3⟩:=dd.dictAt;obtain ⟨o,es,ho,U8⟩:=id Q3;refine wpAny_pyIter_dict hd Q3 ?_;have NF:∀ o' v',X.H₀ a≠some (.frz o' v'):=fun o' v' z=>by
  have:=I1.base.frzs _ _ _ z
  rw [e] at this;cases this
 have I1':Inv X pins O H1 { s1 with heap:=s1.heap.push { cls:=.type "dict_keyiterator",data:=.fields #[.ref a,.int 0 0,.int vs.length 0,.int ep 0] } }:=I1.kept (t':=s1.toks) fun b u e=>Heap.get?_push_of_some _ e
 have I2:=I1'.swap (u':=.frz o (.dK kvs)) e (fun _ q=>by cases q) (fun _ q=>by cases q) (fun _ q=>by cases q) NF ⟨Heap.get?_push_of_some _ ho,I1'.hok a _ e⟩;have thaw:∀ {σ':St} {H':Hp} {s':Shared},Inv X pins σ' H' s'->(∃ o,H' a=some (.frz o (.dK kvs)))->Inv X pins σ' (A0 H' a (.dK kvs)) s':=fun {σ' H' s'} I' ⟨o',e'⟩=>
  I'.swap e' (fun _ q=>by cases q) (fun _ q=>by cases q) (fun _ q=>by cases q) NF (I'.hok a _ e').2
 have T:Turn X.prog X.w X.K tg (gU a o kvs) [s1.heap.objs.size] s1.heap.objs.size (fun i h=>h.IsKeyIter s1.heap.objs.size a i vs.length ep):=ahk a _ o kvs vs ep (fun h e=>⟨o,es,e,U8⟩) rel;have N6:A0 H1 a (.frz o (.dK kvs)) s1.heap.objs.size=none:=by rw [A9 (fun q=>by rw [<- q,I1.fresh] at e;cases e)];exact I1.fresh
 have f2:∀ b∈[s1.heap.objs.size],FpOk X pins (A0 H1 a (.frz o (.dK kvs))) b:=fun b hb=>by
  have e:b=s1.heap.objs.size:=by simpa using hb
  subst e;exact I1.fpOk (C6 _) N6
 obtain ⟨W,⟨m0,w0⟩,turn⟩:=q o;have stat:∀ {H':Hp},(∀ b∈[s1.heap.objs.size],H' b=none)->∀ b∈[s1.heap.objs.size],FpOk X pins H' b:=fun hn b hb=>⟨hn b hb,(f2 b hb).2⟩
 refine codeAny_forLoop_any (fun n s'=>∃ i σ' H',Inv X pins σ' H' s'/\s'.heap.IsKeyIter s1.heap.objs.size a i vs.length ep/\(∀ b∈[s1.heap.objs.size],H' b=none)/\W i n σ' H') ?_ m0 ⟨0,O,_,I2,⟨_,Heap.get?_push_size _ rfl,rfl,rfl⟩,fun b hb=>(f2 b hb).1,w0⟩;rintro n s3 ⟨i,σ3,H3,I3,aB,iH,w3⟩
 rcases turn i n σ3 H3 w3 with ⟨stop,qn⟩ | ⟨go,N,hN,step⟩
 .refine wpAny_passesOwn hp (C0 (T.done X rfl rfl rfl hc i pins s3 σ3 H3 X.xe I3 (stat iH) aB stop) fun r s4 ⟨hr,I4⟩=>?_);subst hr;exact wpAny_execs_nil ⟨σ3,_,thaw I4 qn.1,qn.2⟩
 .refine wpAny_passesOwn hp (C0 (T.item X rfl rfl rfl hc i pins s3 σ3 H3 X.xe I3 (stat iH) aB go) fun r s4 ⟨u,hr,h4⟩=>?_);subst hr;refine wpAny_passesOwn hp (C0 h4 fun _ s5 ⟨x,H5,I5,r5,y5,bV,qG⟩=>?_);have I5':=I5.pinned (stat qG) (T.obj _ _ bV);refine wpAny_passesOwn hp (C0 (hg _ s5 σ3 H5 x u _ I5' r5 (step x H5 y5)) fun _ s6 ⟨σ6,H6,I6,q6⟩=>?_);refine wpAny_passesOwn hp (C0 (hb _ s6 σ6 H6 _ I6 q6) fun f s7 q7=>?_);have again:∀ {σ7:St} {H7:Hp},Inv X (pins++dG [s1.heap.objs.size] s5.heap) σ7 H7 s7->N σ7 H7->∃ m,m<n/\∃ i σ' H',Inv X pins σ' H' s7/\s7.heap.IsKeyIter s1.heap.objs.size a i vs.length ep/\(∀ b∈[s1.heap.objs.size],H' b=none)/\W i m σ' H':=fun {σ7 H7} I7 n7=>by
   obtain ⟨m',hm,w7⟩:=hN σ7 H7 n7;refine ⟨m',hm,i+1,σ7,H7,I7.unpinned,T.keep _ _ _ bV fun b hb o e=>(I7.pin (b,o) (O3 _ (O3 _ (dH hb e)))).1,fun b hb=>?_,w7⟩;obtain ⟨o,e,d⟩:=T.obj _ _ bV b hb;exact (I7.pin (b,o) (O3 _ (O3 _ (dH hb e)))).2.1
  cases f with
  | next=>obtain ⟨σ7,H7,I7,n7⟩:=q7;exact again I7 n7
  | cont=>obtain ⟨σ7,H7,I7,n7⟩:=q7;exact again I7 n7
  | brk=>obtain ⟨σ7,H7,I7,q7⟩:=q7;exact ⟨σ7,_,thaw I7.unpinned q7.1,q7.2⟩
  | ret v=>obtain ⟨x7,σ7,H7,I7,r7,q7⟩:=q7;exact ⟨x7,σ7,_,thaw I7.unpinned q7.1,r7,q7.2⟩
theorem oB{l:Expr}{body:List Stmt}{pos:Pos}(hp:PassesOwn (model X.prog X.w) X.A X.env X.xe)(hl:QE X l tl)(hg:QG X tg g)(hb:QSs X body tb)(hc:X.calm=true:=by rfl)(hs:∀ x,foldedSetIterable l X.env x=pure x:=by intro _;rfl):QS X (.For tg l body [] pos) (tForD tl g tb):=⟨alb hp hc hl.out hg.out hb.out hs⟩
theorem alc : tForD tl g tb D O H=tl O H fun x H1=>∃ a kvs,x=.ref a/\H1 a=some (.dK kvs)/\∀ o,ForIt (gU a o kvs) g tb (D.thaw a kvs) O (A0 H1 a (.frz o (.dK kvs))):=rfl
theorem forD(Pv:Nat->St->Hp->Prop)(h0:Pv 0 O H)(hl:∀ i O H,Pv i O H->H a=some (.frz o (.dK kvs)))(hs:∀ i k v O H,kvs[i]?=some (k,v)->Pv i O H->g (kV k) O H fun σ2 H2=>tb { D.thaw a kvs with nx:=Pv (i+1),ct:=Pv (i+1),bk:=(D.thaw a kvs).nx } σ2 H2)(hd:∀ O H,Pv kvs.length O H->D.nx O (A0 H a (.dK kvs))):ForIt (gU a o kvs) g tb (D.thaw a kvs) O H:=by
 refine ⟨fun i m O H=>m=kvs.length-i/\i<=kvs.length/\Pv i O H,⟨kvs.length,by simp,J4 _,h0⟩,?_⟩;rintro i m O H ⟨rfl,hi,p⟩;have e:=hl i O H p
 by_cases D1:i<kvs.length
 .refine .inr ⟨⟨e,D1⟩,Pv (i+1),fun σ' H' p'=>⟨_,by lia,rfl,D1,p'⟩,fun v H' y=>?_⟩;obtain ⟨rfl,k,v',hk,rfl⟩:=y;exact hs i k v' O _ hk p
 .have e2:i=kvs.length:=by lia
  subst e2;exact .inl ⟨⟨e,C6 _⟩,⟨o,e⟩,hd O H p⟩
end L2
set_option maxRecDepth 100000
namespace L2
open PySem PySem.Spec PyProof.Rows
noncomputable def T6 (row:List Str):List (Str×Str):=row.zip row.tail
noncomputable def edges (rows:List (List Str)):List (Str×Str):=rows.flatMap T6
noncomputable def D9 (E:List (Str×Str)) (p:Str):List Str:=(E.filter fun e=>decide (e.1=p)).map (·.2)
noncomputable def E3 (E:List (Str×Str)) (line:List Str) (q:Str):Nat:=E.countP fun e=>decide (e.2=q) && !decide (e.1∈line)
noncomputable def cntIn (E:List (Str×Str)) (S:List Str) (q:Str):Nat:=E.countP fun e=>decide (e.2=q)&&decide (e.1∈S)
theorem ai1(E:List (Str×Str))(a b p:Str):D9 (E++[(a,b)]) p=if a=p then D9 E p++[b] else D9 E p:=by
 unfold D9;rw [V9,F8]
 by_cases h:a=p
 .rw [if_pos h,aM (by simpa using h)];rfl
 .rw [if_neg h,aN (by simpa using h)];simp
theorem vA(E:List (Str×Str))(p q:Str):(D9 E p).count q=E.countP fun e=>decide (e.2=q)&&decide (e.1=p):=by
 induction E with
 | nil=>rfl
 | cons e E ih=>
  unfold D9 at ih ⊢
  by_cases h:e.1=p
  .rw [aM (by simpa using h),G3,List.count_cons,ih,v3]
   by_cases h2:e.2=q
   .simp [h,h2]
   .simp [h,h2]
  .rw [aN (by simpa using h),ih,v3];simp [h]
theorem agd{E:List (Str×Str)}(h:p∉S):cntIn E (S++[p]) q=cntIn E S q+(D9 E p).count q:=by
 rw [vA];unfold cntIn
 induction E with
 | nil=>rfl
 | cons e E ih=>
  rw [v3,v3,v3,ih]
  by_cases h2:e.2=q
  .by_cases h1:e.1=p
   .have:e.1∉S:=by rw [h1];exact h
    simp [h2,h1,h];lia
   .by_cases h3:e.1∈S
    .simp [h2,h1,h3];lia
    .simp [h2,h1,h3]
  .simp [h2]
theorem vB{E:List (Str×Str)}(h:p∉line):E3 E line q=E3 E (line++[p]) q+(D9 E p).count q:=by
 rw [vA];unfold E3
 induction E with
 | nil=>rfl
 | cons e E ih=>
  rw [v3,v3,v3,ih]
  by_cases h2:e.2=q
  .by_cases h1:e.1=p
   .simp [h2,h1,h];lia
   .by_cases h3:e.1∈line
    .simp [h2,h1,h3]
    .simp [h2,h1,h3];lia
  .simp [h2]
theorem ahl{E:List (Str×Str)}(h:∀ e∈E,e.1∈S)(q:Str):cntIn E S q=E3 E [] q:=by
 unfold cntIn E3;refine List.countP_congr fun e he=>?_
 simp [h e he]
theorem ahm(E:List (Str×Str))(q:Str):cntIn E [] q=0:=by
 unfold cntIn
 simp
theorem cnt_zero{E:List (Str×Str)} : E3 E line q=0↔∀ e∈E,e.2=q->e.1∈line:=by
 unfold E3;rw [List.countP_eq_zero]
 constructor
 .intro h e he h2
  have:=h e he
  simpa [h2] using this
 .intro h e he
  by_cases h2:e.2=q
  .simp [h2,h e he h2]
  .simp [h2]
noncomputable def nextP (E:List (Str×Str)) (ts pre:List Str):Option Str:=(ts.filter fun p=>!decide (p∈pre)).find? fun p=>decide (E3 E pre p=0)
noncomputable def P9 (E:List (Str×Str)) (ts line:List Str):Prop:=∀ pre q post,line=pre++q::post->nextP E ts pre=some q
theorem P9.nil(E:List (Str×Str))(ts:List Str):P9 E ts []:=fun pre q post h=>by
 have:=congrArg List.length h
 simp at this
theorem P9.snoc{E:List (Str×Str)}(r:P9 E ts line)(h:nextP E ts line=some p):P9 E ts (line++[p]):=fun pre q post e=>by
 rcases List.append_eq_append_iff.mp e with ⟨m,h1,h2⟩ | ⟨m,h1,h2⟩
 .cases m with
  | nil=>
   rw [M7] at h1;rw [aR] at h2
   cases (List.cons.inj h2).1
   rw [h1];exact h
  | cons a m=>
   have:=congrArg List.length h2
   simp at this
 .cases m with
  | nil=>
   rw [M7] at h1;rw [aR] at h2
   cases (List.cons.inj h2).1
   rw [<- h1];exact h
  | cons a m=>
   rw [List.cons_append] at h2;have h3:=(List.cons.inj h2).1;exact r pre q m (by rw [h1,h3])
theorem gW{E:List (Str×Str)}{pre:List Str}(h:nextP E ts pre=some q):q∈ts/\q∉pre/\E3 E pre q=0:=by
 have h1:=List.mem_of_find?_eq_some h;have h2:=List.find?_some h;rw [N1] at h1;exact ⟨h1.1,by simpa using h1.2,by simpa using h2⟩
theorem P9.nodup{E:List (Str×Str)} : ∀ {line:List Str},P9 E ts line->line.Nodup:=by
 intro line r;rw [Z2,m9];intro i j hi hj fD e;have e1:line=line.take j++line[j]::line.drop (j+1):=by rw [<- List.drop_eq_getElem_cons hj,X2]
 have:=(gW (r _ _ _ e1)).2.1
 exact this (V7.mpr ⟨i,by rw [L9];lia,by rw [List.getElem_take];exact e⟩)
theorem P9.sub{E:List (Str×Str)}(r:P9 E ts line)(h:q∈line):q∈ts:=by
 obtain ⟨pre,post,e⟩:=List.append_of_mem h;exact (gW (r pre q post e)).1
theorem ai2{E:List (Str×Str)}{rank:Str->Nat}(hr:∀ e∈E,rank e.1<rank e.2)(hE:∀ e∈E,e.1∈ts)(hw:∃ p∈ts,p∉line):∃ q,nextP E ts line=some q:=by
 have key:∀ n p,rank p<=n->p∈ts->p∉line->∃ q∈ts,q∉line/\E3 E line q=0:=by
  intro n
  induction n with
  | zero=>
   intro p hp ht hl;refine ⟨p,ht,hl,cnt_zero.mpr fun e he h2=>?_⟩
   have:=hr e he
   rw [h2] at this;lia
  | succ n ih=>
   intro p hp ht hl
   by_cases hc:E3 E line p=0
   .exact ⟨p,ht,hl,hc⟩
   .have:∃ e∈E,e.2=p/\e.1∉line:=by
     refine Classical.byContradiction fun hn=>hc (cnt_zero.mpr fun e he h2=>Classical.byContradiction fun h3=>hn ⟨e,he,h2,h3⟩)
    obtain ⟨e,he,h2,h3⟩:=this;have h4:=hr e he;rw [h2] at h4;exact ih e.1 (by lia) (hE e he) h3
 obtain ⟨p,hp,hl⟩:=hw;obtain ⟨q,h1,h2,h3⟩:=key (rank p) p (C6 _) hp hl;cases h:nextP E ts line with
 | some q=>exact ⟨q,rfl⟩
 | none=>
  have:=List.find?_eq_none.mp h q (N1.mpr ⟨h1,by simpa using h2⟩)
  simp [h3] at this
theorem kO{E:List (Str×Str)}(nd:ts.Nodup)(r:P9 E ts line)(h:∀ p∈ts,p∈line):line.length=ts.length:=
 ((List.perm_ext_iff_of_nodup r.nodup nd).mpr fun a=>⟨r.sub,h a⟩).length_eq
theorem vC(E:List (Str×Str))(pre:List Str):∀ ts:List Str,nextP E ts pre=ts.find? fun p=>!decide (p∈pre)&&decide (∀ e∈E,e.2=p->e.1∈pre)
 | []=>rfl
 | t::ts=>by
  have ih:=vC E pre ts;unfold nextP at ih ⊢
  by_cases h:t∈pre
  .rw [aN (by simpa using h),i5,ih];simp [h]
  .rw [aM (by simpa using h),i5,i5,ih]
   by_cases h2:E3 E pre t=0
   .have:=cnt_zero.mp h2
    rw [decide_eq_true h2,decide_eq_true this];simp [h]
   .have:¬ ∀ e∈E,e.2=t->e.1∈pre:=fun z=>h2 (cnt_zero.mpr z)
    rw [decide_eq_false h2,decide_eq_false this];simp [h]
theorem age{row:List Str}{e:Str×Str}(h:e∈T6 row):e.1∈row/\e.2∈row:=by
 unfold T6 at h;exact ⟨(List.of_mem_zip h).1,List.mem_of_mem_tail (List.of_mem_zip h).2⟩
theorem vD{rows:List (List Str)}{e:Str×Str}(h:e∈edges rows):e.1∈rows.flatten/\e.2∈rows.flatten:=by
 unfold edges at h;obtain ⟨row,h1,h2⟩:=Z6.mp h
 have:=age h2
 exact ⟨gA.mpr ⟨row,h1,this.1⟩,gA.mpr ⟨row,h1,this.2⟩⟩
noncomputable def C1 (ts:List Str) (f:Str->V):List (B5×V):=ts.map fun t=>(Sum.inr t,f t)
theorem oC(f:Str->V)(z:Str):∀ ts:List Str,((C1 ts f).any fun kv=>decide (kv.1=(Sum.inr z:B5)))=decide (z∈ts)
 | []=>by simp [C1]
 | y::ts=>by
  have ih:=oC f z ts;unfold C1 at ih ⊢
  rw [G3,n9,ih]
  by_cases e:y=z
  .subst e
   simp
  .have e1:decide ((Sum.inr y:B5)=Sum.inr z)=false:=decide_eq_false fun q=>e (Sum.inr.inj q)
   rw [e1,Bool.false_or]
   by_cases h:z∈ts
   .rw [decide_eq_true h,decide_eq_true (M6 _ h)]
   .rw [decide_eq_false h,decide_eq_false];intro q
    rcases F9.mp q with q | q
    .exact e q.symm
    .exact h q
theorem O7(f:Str->V)(z:Str):∀ ts:List Str,valV (C1 ts f) (Sum.inr z)=if z∈ts then some (f z) else none
 | []=>rfl
 | y::ts=>by
  have ih:=O7 f z ts;unfold C1 at ih ⊢
  rw [G3]
  by_cases e:y=z
  .subst e;rw [kA rfl,if_pos M5]
  .rw [o6 (fun q=>e (Sum.inr.inj q)),ih]
   by_cases h:z∈ts
   .rw [if_pos h,if_pos (M6 _ h)]
   .rw [if_neg h,if_neg];intro q
    rcases F9.mp q with q | q
    .exact e q.symm
    .exact h q
theorem kP{f:Str->V}(v:V)(h:z∈ts):putK (C1 ts f) (Sum.inr z:B5) v=C1 ts fun t=>if t=z then v else f t:=by
 unfold putK;rw [oC,decide_eq_true h,if_pos rfl];unfold C1;rw [o0];refine fY fun y _=>?_
 show (if (Sum.inr y:B5)=Sum.inr z then ((Sum.inr y:B5),v) else (Sum.inr y,f y))=((Sum.inr y:B5),if y=z then v else f y)
 by_cases e:y=z
 .rw [if_pos (by rw [e]),if_pos e]
 .rw [if_neg (fun q=>e (Sum.inr.inj q)),if_neg e]
theorem bK{f:Str->V}(v:V)(h:z∉ts):putK (C1 ts f) (Sum.inr z:B5) v=C1 (ts++[z]) fun t=>if t=z then v else f t:=by
 unfold putK;rw [oC,decide_eq_false h,if_neg K7];unfold C1;rw [F8]
 congr 1
 .refine fY fun y hy=>?_
  show _=((Sum.inr y:B5),if y=z then v else f y);rw [if_neg (fun e:y=z=>h (by rw [<- e];exact hy))]
 .simp
theorem Q0{f g:Str->V}(h:∀ t∈ts,f t=g t):C1 ts f=C1 ts g:=by
 unfold C1;exact fY fun t ht=>by rw [h t ht]
theorem b9(f:Str->V)(ts:List Str):(C1 ts f).length=ts.length:=by unfold C1;rw [A8]
theorem vE{f:Str->V}{k:B5}{v:V}(h:(C1 ts f)[i]?=some (k,v)):∃ t,ts[i]?=some t/\k=Sum.inr t/\v=f t:=by
 unfold C1 at h;obtain ⟨t,h1,h2⟩:=K5 h;cases h2;exact ⟨t,h1,rfl,rfl⟩
theorem ai3(f:Str->V)(ts:List Str):((C1 ts f).map fun kv=>kV kv.1)=ts.map V.str:=by
 unfold C1;rw [o0];rfl
structure DL(H0 H:Hp)(ts:List Str)(ad:Str->Addr)(F:Str->List Str):Prop where
 row:∀ t∈ts,H (ad t)=some (.lst ((F t).map V.str))
 inj:∀ t∈ts,∀ u∈ts,ad t=ad u->t=u
 new:∀ t∈ts,H0 (ad t)=none
theorem DL.same{ad:Str->Addr}{F:Str->List Str}(x:DL H0 H ts ad F)(s:Same H H'):DL H0 H' ts ad F:=⟨fun t h=>s _ _ (x.row t h),x.inj,x.new⟩
theorem DL.app{ad:Str->Addr}{F:Str->List Str}(x:DL H0 H ts ad F)(hz:z∈ts)(ys:List Str):DL H0 (A0 H (ad z) (.lst (ys.map V.str))) ts ad fun t=>if t=z then ys else F t:=by
 refine ⟨fun t ht=>?_,x.inj,x.new⟩;show _=some (HO.lst ((if t=z then ys else F t).map V.str))
 by_cases e:t=z
 .subst e;rw [A7,if_pos rfl]
 .rw [A9 (fun q=>e (x.inj t ht z hz q)),if_neg e];exact x.row t ht
theorem DL.more{ad:Str->Addr}{F:Str->List Str}(x:DL H0 H ts ad F)(hz:z∉ts){p:Addr}(np:H p=none)(n0:H0 p=none):DL H0 (A0 H p (.lst [])) (ts++[z]) (fun t=>if t=z then p else ad t) fun t=>if t=z then [] else F t:=by
 have ne:∀ t∈ts,t≠z:=fun t ht e=>hz (by rw [<- e];exact ht)
 have nad:∀ t∈ts,ad t≠p:=fun t ht e=>by have:=x.row t ht;rw [e,np] at this;cases this
 have cases':∀ t,t∈ts++[z]->(t∈ts/\t≠z)\/t=z:=fun t ht=>by
  rcases J3.mp ht with h | h
  .exact .inl ⟨h,ne t h⟩
  .exact .inr (G5.mp h)
 refine ⟨fun t ht=>?_,fun t ht u hu e=>?_,fun t ht=>?_⟩
 .show A0 H p (.lst []) (if t=z then p else ad t)=some (.lst ((if t=z then [] else F t).map V.str))
  rcases cases' t ht with ⟨h1,h2⟩ | rfl
  .rw [if_neg h2,if_neg h2,A9 (nad t h1)];exact x.row t h1
  .rw [if_pos rfl,if_pos rfl,A7];rfl
 .have e:(if t=z then p else ad t)=(if u=z then p else ad u):=e
  rcases cases' t ht with ⟨h1,h2⟩ | rfl <;> rcases cases' u hu with ⟨h3,h4⟩ | rfl
  .rw [if_neg h2,if_neg h4] at e;exact x.inj t h1 u h3 e
  .rw [if_neg h2,if_pos rfl] at e;exact absurd e (nad t h1)
  .rw [if_pos rfl,if_neg h4] at e;exact absurd e.symm (nad u h3)
  .rfl
 .show H0 (if t=z then p else ad t)=none
  rcases cases' t ht with ⟨h1,h2⟩ | rfl
  .rw [if_neg h2];exact x.new t h1
  .rw [if_pos rfl];exact n0
theorem ai4(h:acc.Nodup)(z:Str):(dd acc z).Nodup:=by
 unfold dd
 split
 .exact h
 .rename_i hz
  rw [n6];refine ⟨h,by simp,fun a ha b hb e=>hz ?_⟩;rw [<- G5.mp hb,<- e];exact ha
theorem oE:∀ {zs acc:List Str},acc.Nodup->(J8 acc zs).Nodup
 | [],_,h=>h
 | z::zs,acc,h=>oE (zs:=zs) (ai4 h z)
theorem eA(zss:List (List Str)):(toldL zss).Nodup:=by
 unfold toldL;rw [kJ];exact oE (by simp)
theorem x8(x:Str):∀ (zs acc:List Str),x∈J8 acc zs↔x∈acc\/x∈zs
 | [],acc=>by simp [J8]
 | z::zs,acc=>by
  show x∈J8 (dd acc z) zs↔_;rw [x8 x zs];unfold dd
  by_cases h:z∈acc
  .rw [if_pos h,F9]
   constructor
   .rintro (h1 | h1)
    .exact .inl h1
    .exact .inr (.inr h1)
   .rintro (h1 | rfl | h1)
    .exact .inl h1
    .exact .inl h
    .exact .inr h1
  .rw [if_neg h,J3,G5,F9,or_assoc]
theorem oF(x:Str)(zss:List (List Str)):x∈toldL zss↔x∈zss.flatten:=by
 unfold toldL;rw [kJ,x8]
 simp
theorem agf{zss:List (List Str)}{e:Str×Str}(h:e∈edges zss):e.1∈toldL zss/\e.2∈toldL zss:=⟨(oF _ _).mpr (vD h).1,(oF _ _).mpr (vD h).2⟩
theorem agg{zss:List (List Str)}(h:zss[i]?=some zs):edges (zss.take (i+1))=edges (zss.take i)++T6 zs:=by
 rw [X4,h];unfold edges;rw [V8]
 simp
theorem oG(zs:List Str):(T6 zs).length=min zs.length zs.tail.length:=by unfold T6;rw [List.length_zip]
theorem ahn{x y:Str}(h1:zs[j]?=some x)(h2:zs.tail[j]?=some y):(T6 zs)[j]?=some (x,y):=by
 unfold T6;rw [List.getElem?_zip_eq_some];exact ⟨h1,h2⟩
theorem vF(zss:List (List Str)):(edges zss).length<=zss.flatten.length:=by
 induction zss with
 | nil=>exact C6 _
 | cons zs zss ih=>
  unfold edges at ih ⊢
  rw [v2,E4,aQ,E4,oG];lia
theorem DL.put{ad:Str->Addr}{F:Str->List Str}(x:DL H0 H ts ad F){o u:HO}(hb:H0 b=some u):DL H0 (A0 H b o) ts ad F:=
 ⟨fun t ht=>by rw [A9 (fun e=>by have:=x.new t ht;rw [e,hb] at this;cases this)];exact x.row t ht,x.inj,x.new⟩
theorem DL.congr{ad:Str->Addr}{F G:Str->List Str}(x:DL H0 H ts ad F)(h:∀ t∈ts,F t=G t):DL H0 H ts ad G:=⟨fun t ht=>by rw [<- h t ht];exact x.row t ht,x.inj,x.new⟩
theorem DL.old{H00:Hp}{ad:Str->Addr}{F:Str->List Str}(x:DL H0 H ts ad F)(s:Same H00 H0):DL H00 H ts ad F:=⟨x.row,x.inj,fun t ht=>s.free (x.new t ht)⟩
theorem oH(nd:ts.Nodup)(h:ts[i]?=some z):z∉ts.take i:=fun hm=>by
 obtain ⟨hi,e⟩:=K1.mp h;obtain ⟨j,hj,e2⟩:=V7.mp hm;rw [L9] at hj;rw [List.getElem_take] at e2
 have:=(Z2.mp nd)
 rw [m9] at this;exact this j i (by lia) hi (by lia) (e2.trans e.symm)
theorem L6{α:Type}{ts:List α}{z:α}(h:ts[i]?=some z):ts.take (i+1)=ts.take i++[z]:=by rw [X4,h];rfl
noncomputable def SameBut (d:Addr) (H H':Hp):Prop:=∀ b o,b≠d->H b=some o->H' b=some o
theorem SameBut.put{d q:Addr}{u:HO}(s:SameBut d H0 H)(n:H0 q=none):SameBut d H0 (A0 H q u):=fun b o hb h=>by rw [A9 (O0 h n)];exact s b o hb h
theorem SameBut.thaw{d:Addr}{u:HO}(s:SameBut d H0 H)(h:H0 d=some u):Same H0 (A0 H d u):=fun b o hb=>by
 by_cases e:b=d
 .subst e;rw [A7,<- hb,h]
 .rw [A9 e];exact s b o e hb
theorem RowsAt.grow{q:Addr}{zss:List (List Str)}(R:RowsAt H0 H a rs zss)(S:Same H H')(hq:H q=none)(U0:H' q=some (.lst (zs.map V.str))):RowsAt H0 (A0 H' a (.lst (rs.map V.ref++[V.ref q]))) a (rs++[q]) (zss++[zs]):=by
 have nq:∀ r∈a::rs,r≠q:=fun r hr z=>by
  obtain ⟨o,e⟩:=R.live hr;rw [z,hq] at e;cases e
 obtain ⟨na,_⟩:=W0.mp R.nd;refine ⟨⟨by rw [A7,F8];rfl,?_⟩,?_,?_,?_⟩
 .refine Paired.snoc (nW R.rows.row fun r hr zs h=>?_) ?_
  .rw [A9 (fun z:r=a=>na (by rw [<- z];exact hr))];exact S _ _ h
  .rw [A9 (nq a M5).symm];exact U0
 .show (a::(rs++[q])).Nodup;exact nQ R.nd fun h=>nq q h rfl
 .intro r hr
  rcases F9.mp hr with h | h
  .exact R.new r (by rw [h];exact M5)
  .rcases J3.mp h with h | h
   .exact R.new r (M6 _ h)
   .rw [G5.mp h];exact R.same.free hq
 .exact (R.same.trans S).put (R.new a M5)
noncomputable def spFol:Sp:=fun vs H Q _=>∃ (a:Addr) (rs:List Addr) (zss:List (List Str)),vs=[.ref a]/\IsRows H a rs zss/\zss.flatten.length<=100000/\
 ∀ (d:Addr) (ad:Str->Addr) (H':Hp),H d=none->Same H H'->H' d=some (.dK (C1 (toldL zss) fun t=>.ref (ad t)))->DL H H' (toldL zss) ad (D9 (edges zss))->Q (.ref d) H'
noncomputable def vG:Sp:=fun vs H Q _=>∃ (d:Addr) (ts:List Str) (ad:Str->Addr) (E:List (Str×Str)),vs=[.ref d]/\H d=some (.dK (C1 ts fun t=>.ref (ad t)))/\ts.Nodup/\ts.length<=100000/\E.length<=100000/\
 (∀ t∈ts,H (ad t)=some (.lst ((D9 E t).map V.str)))/\(∀ e∈E,e.1∈ts/\e.2∈ts)/\∀ c H',H c=none->Same H H'->H' c=some (.dK (C1 ts fun t=>.int (E3 E [] t:Nat)))->Q (.ref c) H'
theorem vH:∀ {l m:List Str},l.Nodup->(∀ x∈l,x∈m)->l.length<=m.length
 | [],_,_,_=>J4 _
 | x::l,m,nd,h=>by
  obtain ⟨n1,n2⟩:=W0.mp nd;have hx:=h x M5
  have:=vH (l:=l) (m:=m.erase x) n2 fun y hy=>(List.mem_erase_of_ne (fun e=>n1 (by rw [<- e];exact hy))).mpr (h y (M6 _ hy))
  rw [jP hx] at this;have u4:=List.length_pos_of_mem hx;rw [G1];lia
noncomputable def vI:Sp:=fun vs H Q _=>∃ (a:Addr) (rs:List Addr) (zss:List (List Str)) (rank:Str->Nat),vs=[.ref a]/\IsRows H a rs zss/\zss.flatten.length<=100000/\(∀ e∈edges zss,rank e.1<rank e.2)/\
 ∀ (l:Addr) (line:List Str) (H':Hp),H l=none->Same H H'->H' l=some (.lst (line.map V.str))->P9 (edges zss) (toldL zss) line->(∀ p∈toldL zss,p∈line)->Q (.ref l) H'
theorem SameBut.free{d p:Addr}(s:SameBut d H0 H)(n:H p=none)(h:p≠d):H0 p=none:=by
 cases e:H0 p with
 | none=>rfl
 | some o=>
  have:=s p o h e
  rw [n] at this;cases this
theorem SameBut.same{d:Addr}(s:SameBut d H1 H2)(S:Same H H1)(n:H d=none):Same H H2:=fun b o h=>s b o (O0 h n) (S b o h)
theorem vJ(d:Addr)(H:Hp):SameBut d H H:=fun _ _ _ h=>h
theorem SameBut.at{d:Addr}{o:HO}(s:SameBut d H H'):SameBut d H (A0 H' d o):=fun b u hb h=>by rw [A9 hb];exact s b u hb h
noncomputable def one (c:Nat):Str:=⟨#[c]⟩
theorem SG_nd:SG.Nodup:=by decide +kernel
end L2
set_option maxRecDepth 100000
namespace L2
open PySem PySem.Spec PyProof.Rows
section
variable {X:Cx}
noncomputable def rAnyB (calm:Bool):List V->Hp->VK->Prop
 | [.ref p],H,Q=>∃ bs:List Bool,calm=true/\H p=some (.lst (bs.map V.bl))/\Q (.bl (bs.any id)) H
 | _,_,_=>False
theorem p_any:CallR X (.builtin "any") (rAnyB X.calm):=by
 intro pins s O H xs us Q I r h
 match xs,h with
 | [.ref p],⟨bs,hc,hp,q⟩=>
  obtain ⟨u,rfl,rx⟩:=vals1 r
  cases rx
  obtain ⟨z,its,n,rv,hl,e⟩:=I.lstM hp;have pl:s.heap.IsList p its.toArray:=⟨_,e,rfl,n,rfl⟩
  refine call_any_walk (wpAny_pyIter_list pl ?_);have N5:p≠s.heap.objs.size:=G6 (Heap.lt_size e);have hk:∀ b o,s.heap.get? b=some o->(s.heap.push { cls:=.type "list_iterator",data:=.fields #[.ref p,.int 0 0] }).get? b=some o:=fun b o q=>Heap.get?_push_of_some _ q
  refine ⟨_,_,_,_,_,_,fun i=>(bs[i]?).getD false,rfl,Walks.list (show X.A.in1.handled=none from I.ok.hd hc) s.heap.objs.size p N5 its.toArray,⟨⟨_,Heap.get?_push_size _ rfl,rfl,rfl⟩,pl.at fun o q=>hk p o q⟩,?_,?_⟩
  .intro i v s' Q' E' hv hq;have lS:its[i]?=some v:=by simpa using hv
   have hb:∃ b,bs[i]?=some b/\v=.bool b:=by
    cases eb:(bs.map V.bl)[i]? with
    | none=>
     have:=rv.none_of eb
     rw [lS] at this
     cases this
    | some y=>
     obtain ⟨u,h1,h2⟩:=rv.get eb;rw [lS] at h1;cases h1;rw [Q5] at eb;cases e3:bs[i]? with
     | none=>rw [e3] at eb;cases eb
     | some b=>
      rw [e3] at eb;cases eb;exact ⟨b,rfl,h2⟩
   obtain ⟨b,e1,rfl⟩:=hb;have hq:Q' ((bs[i]?).getD false) s':=hq;rw [e1] at hq;exact wpAny_truthy_bool hq
  .intro h' tk iY;have e1:(M8 its.toArray.size).any (fun i=>(bs[i]?).getD false)=bs.any id:=by
    have B3:its.toArray.size=bs.length:=by
     rw [J2,<- hl,A8]
    rw [B3,cW,List.any_eq_true,List.any_eq_true]
    constructor
    .rintro ⟨i,hi,hb⟩;rw [aS] at hi;rw [L8 hi,Option.getD_some] at hb;exact ⟨bs[i],cT hi,hb⟩
    .rintro ⟨b,hb,ht⟩;obtain ⟨i,hi,rfl⟩:=V7.mp hb;exact ⟨i,aS.mpr hi,by rw [L8 hi];exact ht⟩
   rw [e1];have I1:Inv X pins O H { s with heap:=h',toks:=tk }:=I.kept fun b o q=>iY b o (by
    intro hm
    have:b=s.heap.objs.size:=by simpa using hm
    rw [this] at q;exact absurd (Heap.lt_size q) (X5 _)) (hk b o q)
   exact ⟨.bl _,H,I1,rfl,q⟩
theorem q_any(cB:X.calm=calm:=by rfl):QCall X (.builtin "any") (rAnyB calm):=by subst cB;exact ⟨p_any⟩
theorem any_r{cm:Bool}{p:Addr} : rAnyB cm [.ref p] H Q=∃ bs:List Bool,cm=true/\H p=some (.lst (bs.map V.bl))/\Q (.bl (bs.any id)) H:=rfl
end
noncomputable def eB (l : Addr) : It :=
  ⟨fun i H => ∃ xs x, H l = some (.lst xs) /\ xs[i]? = some x,
   fun i H v H' => ∃ t xs x, H l = some (.lst xs) /\ xs[i]? = some x /\ H t = none /\ v = .ref t /\ H' = A0 H t (.tup [.int i, x]),
   fun i H => ∃ xs, H l = some (.lst xs) /\ xs.length <= i⟩
theorem ahq{P:Program}{w:World}{pos:Pos}(e it l:Addr)(N5:e≠it) :
  Turn P w K (.Tuple elts x1 pos) (eB l) [e,it] e (fun i h=>(∃ old,IsEnum h e it ((i:Nat):Int) old)/\h.IsListIter it l i) where
 mem:=by simp
 obj:=fun i h ⟨⟨old,he⟩,hi⟩ c hc=>by
  have q:c=e\/c=it:=by simpa using hc
  rcases q with rfl | rfl
  .exact ⟨_,he,fun v q=>by cases q⟩
  .obtain ⟨o,e,c,d⟩:=hi;exact ⟨o,e,fun v z=>by rw [d] at z;cases z⟩
 keep:=fun i h h' ⟨⟨old,he⟩,hi⟩ k=>⟨⟨old,k e (by simp) _ he⟩,hi.at fun o q=>k it (by simp) o q⟩
 item:=by
  intro X hP hw hK hc i pins s O H E I hf ⟨⟨old,he⟩,hi⟩ hg;subst hP hw hK;obtain ⟨xs,x,e1,hx⟩:=hg;obtain ⟨its1,V0,p1,_⟩:=I.list (D5.of (K:=X.K) e1);obtain ⟨u1,D6,r1⟩:=V0.get hx;refine wpAny_pyNext_enum_item he hi p1.isList (x:=u1) (by simpa using D6) N5 fun h' b1 b2 b3 b4 b5=>⟨_,rfl,wpAny_letOwnedTupleGo_enum b1 fun h2' c1 c2=>?_⟩
  have fE:e<s.heap.objs.size:=Heap.lt_size he;have up:∀ c o,c≠e->h'.get? c=some o->h2'.get? c=some o:=fun c o hc q=>(c2.2 c hc).trans q
  have hT:=up _ _ (i7 fE) b3;have nT:∀ c∈[e,it],c≠s.heap.objs.size:=fun c hc=>by
   have q:c=e\/c=it:=by simpa using hc
   refine G6 ?_
   rcases q with rfl | rfl
   .exact fE
   .obtain ⟨o,q,_⟩:=hi;exact Heap.lt_size q
  refine ⟨.ref s.heap.objs.size,A0 H s.heap.objs.size (.tup [.int i,x]),I.turnNew (t':=s.toks+1) (ch:=[e,it]) hf (fun c u hc q=>?_) (C6 _) ⟨by show 2<=sizeLine;decide,[.int i s.toks,u1],.cons ⟨_,rfl⟩ (.cons r1 .nil),?_⟩,rfl,⟨_,xs,x,e1,hx,I.fresh,rfl,rfl⟩,
   ⟨⟨_,c1⟩,b2.at fun o q=>up _ o N5.symm q⟩,fun c hc=>by rw [A9 (nT c hc)];exact (hf c hc).1⟩
  .have q1:c≠e/\c≠it:=⟨fun q=>hc (by simp [q]),fun q=>hc (by simp [q])⟩
   exact up c u q1.1 (b5 c u q1.1 q1.2 q)
  .exact ⟨_,hT,rfl,_,rfl⟩
 done:=by
  intro X hP hw hK hc i pins s O H E I hf ⟨⟨old,he⟩,hi⟩ hg;subst hP hw hK;obtain ⟨xs,e1,T9⟩:=hg;obtain ⟨its1,V0,p1,_⟩:=I.list (D5.of (K:=X.K) e1);have q1:=V0.length;obtain ⟨f0,f1,f2,f3,f4,f5⟩:=hf it (by simp);exact wpAny_pyNext_enum_end (I.ok.hd hc) he hi p1.isList (by simp;lia) fun h' eb=>⟨rfl,I.turned (t':=s.toks) (fun b o hb q=>eb b o hb q) f0 f1 f3 f4 f5⟩
 self:=fun _ _ _ _ _ st h=>by
  obtain ⟨⟨old,he⟩,_⟩:=st;exact wpAny_pyIter_enum he h
section
variable {X:Cx}
noncomputable def iEnum (ta:TA):TI:=fun O H R=>ta O H fun vs H1=>∃ (l:Addr) (xs:List V),vs=[.ref l]/\H1 l=some (.lst xs)/\R (eB l) H1
theorem ald{a:Expr}{p pos:Pos}(hg:Gl X "enumerate")(hm:X.mg "enumerate"=none)(ha:PA X [a] ta)(h1:K4 a=false:=by rfl) :
  PI X (.Tuple elts x1 tpos) (.Call (.Name "enumerate" p) [a] [] pos) (iEnum ta):=by
 intro pins s O H R I h;refine Call_ (v9 I hg hm boot_enumerate (PyProof.Rows.callWith_type1 (C0 (ha pos pins s O H _ I h) fun us s1 ⟨vs,H1,I1,r1,q1⟩=>?_) (N7 h1) rfl));obtain ⟨l,xs,rfl,e1,q⟩:=q1;obtain ⟨u1,rfl,iV⟩:=vals1 r1
 cases iV
 obtain ⟨its1,V0,p1,_⟩:=I1.list (D5.of (K:=X.K) e1);refine call_enumerate_list p1.isList fun h' z1 z2 z3 z4=>wpAny_pyIter_enum z1 ?_
 refine ⟨s1.heap.objs.size+1,[s1.heap.objs.size+1,s1.heap.objs.size],_,_,H1,rfl,I1.kept (t':=s1.toks) z4,ahq _ s1.heap.objs.size l (Y3 (by lia)),⟨⟨_,z1⟩,z2⟩,fun b hb=>?_,q⟩;have N0:s1.heap.objs.size<=b:=by
  have e:b=s1.heap.objs.size+1\/b=s1.heap.objs.size:=by simpa using hb
  rcases e with rfl | rfl
  .exact v4 _ _
  .exact C6 _
 exact I1.fpOk N0 (I1.hok.fresh N0)
theorem kQ{a:Expr}{p pos:Pos}(hm:X.mg "enumerate"=none)(ha:QA X [a] ta)(hg:Gl X "enumerate":=by rfl)(h1:K4 a=false:=by rfl) :
  QI X (.Tuple elts x1 tpos) (.Call (.Name "enumerate" p) [a] [] pos) (iEnum ta):=⟨ald hg hm ha.out h1⟩
end
theorem ai5{R:It->Hp->Prop} : iEnum ta O H R=ta O H fun vs H1=>∃ (l:Addr) (xs:List V),vs=[.ref l]/\H1 l=some (.lst xs)/\R (eB l) H1:=rfl
theorem forE{l:Addr}(Pv:Nat->St->Hp->Prop)(h0:Pv 0 O H)(hl:∀ i O H,Pv i O H->H l=some (.lst xs))(hs:∀ i x t O H,xs[i]?=some x->Pv i O H->H t=none->g (.ref t) O (A0 H t (.tup [.int i,x])) fun σ2 H2=>tb { D with nx:=Pv (i+1),ct:=Pv (i+1),bk:=D.nx } σ2 H2)(hd:∀ O H,Pv xs.length O H->D.nx O H):ForIt (eB l) g tb D O H:=by
 refine ⟨fun i m O H=>m=xs.length-i/\i<=xs.length/\Pv i O H,⟨xs.length,by simp,J4 _,h0⟩,?_⟩;rintro i m O H ⟨rfl,hi,p⟩;have e1:=hl i O H p
 by_cases D1:i<xs.length
 .refine .inr ⟨⟨xs,xs[i],e1,by simp⟩,Pv (i+1),fun σ' H' p'=>⟨_,by lia,rfl,D1,p'⟩,fun v H' y=>?_⟩;obtain ⟨t,xs',x,f1,hx,ht,rfl,rfl⟩:=y;rw [e1] at f1;cases f1;exact hs i x t O H hx p ht
 .have e:i=xs.length:=by lia
  subst e;exact .inl ⟨⟨xs,e1,by lia⟩,hd O H p⟩
noncomputable def MO (P:Program) (w:World) (K:PySem.W.Frag) (mg:Str->Option Value) (base:Heap) (k:Nat) (C:Addr) (m:Str) (ps:List Str) (sp:Sp):Prop:=
 ∃ f fd,FnOk P w K mg base G0 k f fd ps sp/\Cls K C/\Meth K C m f/\Binds K fd ps []
section
variable {X:Cx} {k:Nat} {C:Addr} {ps:List Str} {sp:Sp} {x m:Str} {p pos apos:Pos} {e o:Expr} {es:List Expr} {ta:TE} {t:TA}
end
section
variable {C:Addr} {m f:Str} {sp:Sp} {K:PySem.W.Frag} {ta tv:TE} {t:TA} {O:St} {H:Hp} {Q:VK} {D:Ends}
theorem ale:tMake C sp [] E0 t O H Q=t O H fun vs H1=>∀ x dx,H1 x=none->H1 dx=none->dx≠x->sp (.ref x::(vs++[])) (A0 (A0 H1 dx (.own x)) x (.ins C dx [])) (fun v H2=>v=.non/\Q (.ref x) H2) E0:=rfl
theorem alf:tMeth C m sp [] E0 ta t O H Q=ta O H fun x H1=>∃ a dx fs,x=.ref a/\H1 a=some (.ins C dx fs)/\fs.lookup m=none/\t O H1 fun vs H2=>sp (x::(vs++[])) H2 Q E0:=rfl
theorem am7:tFld K ta f O H Q=ta O H fun x H1=>∃ a C dx fs v,x=.ref a/\H1 a=some (.ins C dx fs)/\Cls K C/\NoAttr K C f/\fs.lookup f=some v/\Q v H1:=rfl
theorem alg:sFld K ta tv f D O H=tv O H fun y H1=>ta O H1 fun x H2=>∃ a C dx fs,x=.ref a/\H2 a=some (.ins C dx fs)/\Cls K C/\NoAttr K C f/\fs.length<1000/\D.nx O (A0 H2 a (.ins C dx (putF f y fs))):=rfl
end
section
variable {X:Cx} {o e:Expr} {apos cpos:Pos} {td ty:TE}
theorem oI(hu:X.A.units+1<cLine)(ho:QE X o td)(he:QE X e ty)(h1:K4 e=false:=by rfl)(J0:attributeBase o "get" X.env (eval o X.env)=eval o X.env:=by rfl)(K8:(apos.endLine==cpos.line)=true:=by rfl):QE X (.Call (.Attribute o "get" apos) [e] [] cpos) (nP td ty):=
 ⟨aiu hu ho.out he.out ⟨J0,by rw [N7 h1];rfl,K8,by rw [N7 h1];rfl⟩⟩
theorem ai6 : nP td ty O H Q=td O H fun x H1=>∃ a,x=.ref a/\bB H1 a/\ty O H1 fun y H2=>∃ o,DGet H2 a y o/\Q (o.getD .non) H2:=rfl
end
noncomputable def rIntB:List V->Hp->VK->Prop
 | [.bl b],H,Q=>Q (.int (if b then 1 else 0)) H
 | _,_,_=>False
theorem int_b{b:Bool} : rIntB [.bl b] H Q=Q (.int (if b then 1 else 0)) H:=rfl
end L2
set_option maxRecDepth 100000
namespace L2
open PySem PySem.Spec PyProof.Rows
noncomputable abbrev Rl:=Str×List Str
noncomputable def tupR (z:Rl):HO:=.tup ((z.1::z.2).map V.str)
structure IsRules(H:Hp)(a:Addr)(rs:List Addr)(R:List Rl):Prop where
 top:H a=some (.lst (rs.map V.ref))
 row:Paired (fun r z=>H r=some (tupR z)) rs R
theorem IsRules.same{R:List Rl}(h:IsRules H a rs R)(s:Same H H'):IsRules H' a rs R:=⟨s _ _ h.top,Q7 h.row fun _ _ e=>s _ _ e⟩
theorem IsRules.cat{l:Addr}{ts us:List Addr}{A B:List Rl}(x:IsRules H a ts A)(y:IsRules H b us B)(n:H l=none):IsRules (A0 H l (.lst (ts.map V.ref++us.map V.ref))) l (ts++us) (A++B):=by
 refine ⟨by rw [A7,F8],?_⟩;have ap:∀ {zx zh:List Addr} {l₂ zg:List Rl},Paired (fun r z=>A0 H l (.lst (ts.map V.ref++us.map V.ref)) r=some (tupR z)) zx l₂->Paired (fun r z=>A0 H l (.lst (ts.map V.ref++us.map V.ref)) r=some (tupR z)) zh zg->Paired (fun r z=>A0 H l (.lst (ts.map V.ref++us.map V.ref)) r=some (tupR z)) (zx++zh) (l₂++zg):=by
  intro zx zh l₂ zg h
  induction h with
  | nil=>intro h';exact h'
  | cons h t ih=>intro h';exact .cons h (ih h')
 exact ap (Q7 x.row fun r z h=>C9 h n) (Q7 y.row fun r z h=>C9 h n)
theorem IsRules.len{R:List Rl}(h:IsRules H a rs R):rs.length=R.length:=Paired.length h.row
noncomputable def G4 (z:Rl):List Str:=if z.1=("great" : Str) then z.2.drop 1 else if z.1=("as" : Str) then z.2.take 1 else if z.1=("row" : Str)\/z.1=("marks" : Str)\/z.1=("over" : Str) then z.2 else []
noncomputable def jobD (w:Str):Str:=if w=("row" : Str) then "letter" else if w=("marks" : Str) then "mark" else w
noncomputable def C8 (R:List Rl):List (Str×Str):=R.flatMap fun z=>(G4 z).map fun p=>(p,jobD z.1)
noncomputable def hasW (R:List Rl) (w:Str):Bool:=R.any fun z=>decide (z.1=w)
noncomputable def figO (c:Nat):Bool:=decide (48<=c)&&decide (c<=57)
noncomputable def bL:List Str:=["letter", "mark", "over"]
noncomputable def NC (figs:Bool) (g:Str->Str) (PL:List (Str×Str)):Prop:=∀ i p j,PL[i]?=some (p,j)->j=g p/\(p∈(PL.take i).map (·.1)->j∈bL)/\(figs=true->∀ c∈p.cps.toList,figO c=false)/\p.length<=1000
noncomputable def keysP (PL:List (Str×Str)):List Str:=J8 [] (PL.map (·.1))
theorem vK{R:List Rl}{z:Rl}(h:R[i]?=some z):C8 (R.take (i+1))=C8 (R.take i)++(G4 z).map fun p=>(p,jobD z.1):=by
 rw [X4,h];unfold C8;rw [V8]
 simp
theorem vL(R:List Rl)(i:Nat):∃ more,C8 R=C8 (R.take i)++more:=⟨C8 (R.drop i),by
 unfold C8;rw [<- V8,X2]⟩
theorem agh(PL:List (Str×Str))(p j:Str):keysP (PL++[(p,j)])=dd (keysP PL) p:=by
 unfold keysP J8;rw [F8,aP];rfl
theorem kR(x:Str)(PL:List (Str×Str)):x∈keysP PL↔x∈PL.map (·.1):=by
 unfold keysP;rw [x8]
 simp
theorem vM(PL:List (Str×Str)):(keysP PL).length<=PL.length:=by
 have:=gM (PL.map (·.1)) []
 rw [A8] at this
 simpa [keysP] using this
noncomputable def rowsW (R:List Rl) (w:Str):List (List Str):=(R.filter fun z=>decide (z.1=w)).map (·.2)
theorem oJ{R:List Rl}{z:Rl}{w:Str}(h:R[i]?=some z):rowsW (R.take (i+1)) w=if z.1=w then rowsW (R.take i) w++[z.2] else rowsW (R.take i) w:=by
 rw [X4,h];unfold rowsW;rw [V9,F8]
 by_cases e:z.1=w
 .rw [if_pos e,Option.toList_some,aM (by simpa using e)];rfl
 .rw [if_neg e,Option.toList_some,aN (by simpa using e)];simp
theorem Y4{hi:Option Int}(hk:1<=k)(hn:1<=n):¬ (HT.sIx n 0 (some (k:Int))=0/\HT.sIx n n hi=n):=fun h=>by
 have:=h.1
 rw [HT.sIx_nat] at this;lia
noncomputable abbrev jobsL:List (B5×V):=[((Sum.inr ("row" : Str):B5),V.str "letter"),(Sum.inr ("marks" : Str),V.str "mark"),(Sum.inr ("great" : Str),V.str "great"),(Sum.inr ("as" : Str),V.str "as"),(Sum.inr ("over" : Str),V.str "over")]
noncomputable def bM (w:Str):Prop:=w=("row" : Str)\/w=("marks" : Str)\/w=("great" : Str)\/w=("as" : Str)\/w=("over" : Str)
theorem oK{w:Str}(h:bM w):valV jobsL (Sum.inr w)=some (.str (jobD w)):=by
 rcases h with rfl | rfl | rfl | rfl | rfl <;> decide +kernel
theorem ai7{w:Str}(h:¬ bM w):valV jobsL (Sum.inr w)=none:=by
 unfold bM at h;have n:∀ u:Str,w≠u->¬ ((Sum.inr u:B5)=Sum.inr w):=fun u hu e=>hu (Sum.inr.inj e).symm
 rw [o6 (n _ (fun e=>h (.inl e))),o6 (n _ (fun e=>h (.inr (.inl e)))),o6 (n _ (fun e=>h (.inr (.inr (.inl e))))),o6 (n _ (fun e=>h (.inr (.inr (.inr (.inl e)))))),o6 (n _ (fun e=>h (.inr (.inr (.inr (.inr e))))))];rfl
theorem gY{z:Rl}(h:p∈G4 z):bM z.1:=by
 unfold G4 at h;unfold bM
 split at h
 .rename_i e;exact .inr (.inr (.inl e))
 .split at h
  .rename_i e;exact .inr (.inr (.inr (.inl e)))
  .split at h
   .rename_i e
    rcases e with e | e | e
    .exact .inl e
    .exact .inr (.inl e)
    .exact .inr (.inr (.inr (.inr e)))
   .cases h
theorem am8{R:List Rl}{z:Rl}(hz:R[i]?=some z)(hp:(G4 z)[j]?=some p) :
  (C8 R)[(C8 (R.take i)).length+j]?=some (p,jobD z.1)/\(C8 R).take ((C8 (R.take i)).length+j)=C8 (R.take i)++((G4 z).take j).map fun p=>(p,jobD z.1):=by
 obtain ⟨more,e⟩:=vL R (i+1);rw [vK hz,Z5] at e;have hj:j<(G4 z).length:=(K1.mp hp).1;rw [e]
 constructor
 .rw [fV (v4 _ _),Nat.add_sub_cancel_left,fW (by rw [A8];exact hj),Q5,hp];rfl
 .rw [List.take_append,Z4 (v4 _ _),Nat.add_sub_cancel_left,List.take_append_of_le_length (by rw [A8];lia),aT]
theorem am9{c d:Nat} : (([c]:List Nat)<[d])↔c<d:=by
 constructor
 .intro h;cases h with
  | rel h=>exact h
  | cons h=>cases h
 .intro h;exact List.Lex.rel h
theorem D0.same(e:Same H H')(h:D0 K H a xs):D0 K H' a xs:=by
 rcases h with (h | ⟨o,h⟩) | h
 .exact .inl (.inl (e _ _ h))
 .exact .inl (.inr ⟨o,e _ _ h⟩)
 .exact .inr h
theorem D0.dput{d:Addr}{o:HO}(hd:H d=some (.dK kvs))(h:D0 K H a xs):D0 K (A0 H d o) a xs:=by
 rcases h with (h | ⟨o,h⟩) | h
 .exact .inl (.inl (by rw [A9 (fun e=>by rw [e,hd] at h;cases h)];exact h))
 .exact .inl (.inr ⟨o,by rw [A9 (fun e=>by rw [e,hd] at h;cases h)];exact h⟩)
 .exact .inr h
noncomputable def spHas (K:PySem.W.Frag):Sp:=fun vs H Q _=>∃ (a:Addr) (ts:List Addr) (R:List Rl) (w:Str),vs=[.ref a,.str w]/\IsRules H a ts R/\R.length<=1000/\∀ H',Same H H'->Q (.bl (hasW R w)) H'
noncomputable def vN (K:PySem.W.Frag):Sp:=fun vs H Q _=>∃ (t:Addr) (z:Rl),vs=[.ref t]/\H t=some (tupR z)/\∀ p H',Same H H'->D0 K H' p ((G4 z).map V.str)->Q (.ref p) H'
noncomputable def vO:Sp:=fun vs H Q _=>∃ (d:Addr) (p j:Str) (fg:Bool) (ks:List Str) (g:Str->Str),vs=[.ref d,.str p,.str j,.bl fg]/\H d=some (.dK (C1 ks fun t=>.str (g t)))/\p.length<=1000/\(p∈ks->g p=j/\j∈bL)/\(fg=true->∀ c∈p.cps.toList,figO c=false)/\
 ∀ H',Same H H'->Q (.bl false) H'
noncomputable def Q9 (R:List Rl):List Str:=if hasW R "blanks"=true then [" "] else []
noncomputable def jobG (g:Str->Str):Str->V:=fun t=>if t=(" " : Str) then .str "over" else .str (g t)
noncomputable def vP (K:PySem.W.Frag):Sp:=fun vs H Q _=>∃ (a:Addr) (ts:List Addr) (R:List Rl) (g:Str->Str),vs=[.ref a]/\IsRules H a ts R/\R.length<=1000/\(C8 R).length<=10000/\NC (hasW R "figures") g (C8 R)/\(" " : Str)∉(C8 R).map (·.1)/\
 ∀ d H',H d=none->Same H H'->H' d=some (.dK (C1 (keysP (C8 R)++Q9 R) (jobG g)))->Q (.ref d) H'
noncomputable def ordF (f b:Bool) (j ll ml md:Addr):List (Str×V):=putF "made" (.ref md) (putF "mark_line" (.ref ml) (putF "letter_line" (.ref ll) (putF "jobs" (.ref j) (putF "behind" (.bl b) (putF "figures" (.bl f) [])))))
theorem aeJ(f b:Bool)(j ll ml md:Addr):(ordF f b j ll ml md).lookup ("letter_line" : Str)=some (V.ref ll):=by
 unfold ordF;rw [R6,if_neg (by decide +kernel),R6,if_neg (by decide +kernel),R6,if_pos rfl]
theorem alh(f b:Bool)(j ll ml md:Addr){m:Str}(h:m∉(["made", "mark_line", "letter_line", "jobs", "behind", "figures"]:List Str)):(ordF f b j ll ml md).lookup m=none:=by
 unfold ordF;have n:∀ u∈(["made", "mark_line", "letter_line", "jobs", "behind", "figures"]:List Str),¬ m=u:=fun u hu e=>h (by rw [e];exact hu)
 rw [R6,if_neg (n _ (by simp)),R6,if_neg (n _ (by simp)),R6,if_neg (n _ (by simp)),R6,if_neg (n _ (by simp)),R6,if_neg (n _ (by simp)),R6,if_neg (n _ (by simp))];rfl
theorem IsRules.but{x:Addr}{R:List Rl}(h:IsRules H a rs R)(s:SameBut x H H'){fs:List (Str×V)}(hx:H x=some (.ins C dx fs)):IsRules H' a rs R:=
 ⟨s _ _ (fun e=>by have:=h.top;rw [e,hx] at this;cases this) h.top,Q7 h.row fun t z e=>s _ _ (fun q=>by rw [q,hx] at e;cases e) e⟩
theorem SameBut.trans{x:Addr}(a:SameBut x H H1)(b:SameBut x H1 H2):SameBut x H H2:=fun c o hc h=>b c o hc (a c o hc h)
theorem Same.but{x:Addr}(a:Same H H1):SameBut x H H1:=fun c o _ h=>a c o h
noncomputable def c9 (R:List Rl) (w:Str) (L:List Str):Prop:=P9 (edges (rowsW R w)) (toldL (rowsW R w)) L/\∀ p∈toldL (rowsW R w),p∈L
structure IsOrder(C:Addr)(H:Hp)(x:Addr)(g:Str->Str)(R:List Rl)(L M:List Str):Prop where
 ob:∃ dx j ll ml md,H x=some (.ins C dx (ordF (hasW R "figures") (hasW R "behind") j ll ml md))/\H j=some (.dK (C1 (keysP (C8 R)++Q9 R) (jobG g)))/\H ll=some (.lst (L.map V.str))/\H ml=some (.lst (M.map V.str))
 l1:c9 R "row" L
 l2:c9 R "marks" M
noncomputable def vQ (K:PySem.W.Frag):Sp:=fun vs H Q _=>∃ (a:Addr) (ts:List Addr) (R:List Rl) (w:Str) (rank:Str->Nat),vs=[.ref a,.str w]/\IsRules H a ts R/\R.length<=1000/\(rowsW R w).flatten.length<=100000/\(∀ e∈edges (rowsW R w),rank e.1<rank e.2)/\
 ∀ (l:Addr) (line:List Str) (H':Hp),H l=none->Same H H'->H' l=some (.lst (line.map V.str))->P9 (edges (rowsW R w)) (toldL (rowsW R w)) line->(∀ p∈toldL (rowsW R w),p∈line)->Q (.ref l) H'
noncomputable def cellF (ns:List Int) (k:Int):Int:=if k<(ns.length:Int) then ns.getD k.toNat 0 else 0
noncomputable def gZ (K:PySem.W.Frag):Sp:=fun vs H Q _=>∃ (a:Addr) (ns:List Int) (k:Int),vs=[.ref a,.int k]/\D5 K H a (ns.map V.int)/\0<=k/\Q (.int (cellF ns k)) H
noncomputable def SA:Str:=Str.ofString "!\"#$&'()*+,-./:;<=>?@ABCDEFGHIJKLMNOPQRSTUVWXYZ[\\]^_`abcdefghijklmnopqrstuvwxyz{|}~"
noncomputable def LA:List Nat:=SG.filter fun c=>!figO c
noncomputable def LB:List Nat:=LA++[48,49,50,51,52,53,54,55,56,57]
noncomputable def listF (d:Bool):List Nat:=if d=true then LB else LA
noncomputable def lenF (d:Bool):Int:=if d=true then 93 else 83
noncomputable def oM (ns:List Int):Bool:=decide (cellF ns 1 / 12 % 2=0)
noncomputable def stepO:List Int:=[1,2,4,5,7,8,10,11,13,23,44,80]
noncomputable def stO (ns:List Int):Int:=(G7 stepO (cellF ns 1 % 12)).getD 0
noncomputable def eC (ns:List Int) (k:Int):Nat:=(G7 (listF (oM ns)) ((cellF ns 0+k*stO ns) % lenF (oM ns))).getD 33
theorem ana{l:List Nat}(nd:l.Nodup){i j:Int}(h0:0<=i)(h1:i<l.length)(h2:0<=j)(h3:j<l.length)(h:(G7 l i).getD 33=(G7 l j).getD 33):i=j:=by
 have li:i.toNat<l.length:=by lia
 have lj:j.toNat<l.length:=by lia
 have a1:G7 l i=some l[i.toNat]:=by
  have:=R7 (xs:=l) (j:=i.toNat) (v:=l[i.toNat]) (L8 li)
  rw [show ((i.toNat:Nat):Int)=i by lia] at this;exact this
 have a2:G7 l j=some l[j.toNat]:=by
  have:=R7 (xs:=l) (j:=j.toNat) (v:=l[j.toNat]) (L8 lj)
  rw [show ((j.toNat:Nat):Int)=j by lia] at this;exact this
 rw [a1,a2] at h
 have:=(Z2.mp nd)
 rw [m9] at this
 rcases Nat.lt_trichotomy i.toNat j.toNat with z | z | z
 .exact absurd h (this _ _ li lj z)
 .lia
 .exact absurd h.symm (this _ _ lj li z)
theorem agi{m s t b k l:Int}(ht:s*t % m=1)(e:(b+k*s) % m=(b+l*s) % m)(h0:0<=k)(h1:k<m)(h2:0<=l)(h3:l<m):k=l:=by
 have d1:m ∣ (k-l)*s:=by
  have:=Int.dvd_of_emod_eq_zero (Int.emod_eq_emod_iff_emod_sub_eq_zero.mp e)
  rwa [show (b+k*s)-(b+l*s)=(k-l)*s by rw [Int.sub_mul];lia] at this
 have d3:m ∣ (k-l)*(s*t):=by rw [<- Int.mul_assoc];exact Int.dvd_mul_of_dvd_left d1
 have d4:m ∣ s*t-1:=⟨s*t / m,by have:=Int.emod_add_mul_ediv (s*t) m;lia⟩
 have d5:m ∣ (k-l)*(s*t-1):=Int.dvd_mul_of_dvd_right d4;have d6:=Int.dvd_sub d3 d5;rw [show (k-l)*(s*t)-(k-l)*(s*t-1)=k-l by rw [Int.mul_sub,Int.mul_one];lia] at d6;have d7:=Int.emod_eq_emod_iff_emod_sub_eq_zero.mpr (Int.emod_eq_zero_of_dvd d6)
 rwa [Int.emod_eq_of_lt h0 h1,Int.emod_eq_of_lt h2 h3] at d7
end L2
set_option maxRecDepth 100000
namespace L2
open PySem PySem.Spec PyProof.Rows
open AutoSeq1 (wpAny_loadPart' idx_int)
noncomputable abbrev bareL (ys:Array Value) (k:Nat):Obj:=⟨.type "list",none,.seq ys k,#[]⟩
noncomputable abbrev anyT (dd:Option Addr) (ys:Array Value) (k:Nat) (ss:Array (Option Value)):Obj:=⟨.type "tuple",dd,.seq ys k,ss⟩
theorem adj{l:Addr}{ys zs:Array Value}{k2:Nat}{dd:Option Addr}(short:¬ (!ys.isEmpty&&Builtin.List.listTooLong (ys.size+zs.size))=true)(h1:ys.size<=sizeLine)(h2:ys.size+zs.size<=sizeLine+1) :
  Meets (Builtin.«list.extend» ⟨[.ref l,.ref b],[]⟩) (fun _ R s=>s.heap.get? l=some (bareL ys k)/\s.heap.get? b=some (anyT dd zs k2 ss)/\R (.ok (.ret .none)) { s with heap:=s.heap.update l (Obj.mapSeq (·++zs)),toks:=s.toks }):=by
 refine .of_wp fun _ _ _ R s ⟨gl,gb,fin⟩=>?_
 rcases s with ⟨hp,gens,dr,tk,sys⟩
 have c1:=idx_int;have c2:=AutoSeq1.sub_tuple_tuple;have c3:=AutoSeq1.sub_list_list;have c4:=AutoSeq1.sub_tuple_list;have c5:=AutoSeq1.sub_list_tuple;have room:(ys++zs).size<=sizeLine+1:=Array.size_append ▸ h2
 wp_walk using (wpAny_updateSeq gl rfl (hz:=h1) (_hz':=room)),wpAny_loadPart' gl,wpAny_loadPart' gb
 exact ⟨_,rfl,fin⟩
section
variable {X:Cx}
noncomputable def vR (K:PySem.W.Frag):V->List V->Hp->VK->Prop:=fun x vs H Q=>∃ l b xs zs,x=.ref l/\vs=[.ref b]/\H l=some (.lst xs)/\D0 K H b zs/\xs.length+zs.length<=sizeLine/\Q .non (A0 H l (.lst (xs++zs)))
theorem agj:nG X "list.extend" (vR X.K):=by
 intro pins s O H x vs v us Q I rx rv h;obtain ⟨l,b,xs,zs,rfl,rfl,hH,hB,hz,q⟩:=h
 cases rx
 obtain ⟨u,rfl,ru⟩:=rv.one
 cases ru
 obtain ⟨z,its,n,r,hl,e⟩:=I.lstM hH;obtain ⟨its2,r2,⟨⟨c,dct,dt,sl⟩,e2,hc,n2,hd⟩,iL⟩:=I.tuple hB
 replace hc:c=.type "tuple":=hc
 replace hd:dt=.seq its2.toArray n2:=hd
 subst hc hd;have q1:=r2.length;have hsz:its.toArray.size+its2.toArray.size<=sizeLine:=by rw [J2,J2];lia
 have f7:¬ (!its.toArray.isEmpty&&Builtin.List.listTooLong (its.toArray.size+its2.toArray.size))=true:=by
  rw [tQ hsz,Bool.and_false];exact K7
 refine call_meets F.slot_list_extend ⟨_,e,rfl⟩ F.entry_list_extend (F.args_list_extend_2 _ _)
  (adj (k:=n) (k2:=n2) (dd:=dct) (ss:=sl) f7 (by rw [J2];lia) (by lia)) ⟨e,e2,?_⟩
 refine ⟨.non,_,I.lset (its':=its++its2) hH e (by simp) (r.append r2) ?_,rfl,q⟩;rw [E4];lia
theorem aht(hK:X.K=K:=by rfl):QMt X "list.extend" (vR K):=by subst hK;exact ⟨fun pins s O H x xs v us Q I rx rv h=>agj pins s O H x xs v us Q I rx rv h⟩
end
noncomputable def vS (l : Addr) (n : Nat) : It :=
  ⟨fun i H => ∃ xs x, H l = some (.lst xs) /\ i<n /\ xs[n-1-i]? = some x,
   fun i H v H' => H' = H /\ ∀ xs, H l = some (.lst xs) -> xs[n-1-i]? = some v,
   fun i H => ∃ xs, H l = some (.lst xs) /\ n <= i⟩
section
variable {X:Cx}
noncomputable def iRev (ta:TA):TI:=fun O H R=>ta O H fun vs H1=>∃ (l:Addr) (xs:List V),vs=[.ref l]/\H1 l=some (.lst xs)/\R (vS l xs.length) H1
end
theorem ali{R:It->Hp->Prop} : iRev ta O H R=ta O H fun vs H1=>∃ (l:Addr) (xs:List V),vs=[.ref l]/\H1 l=some (.lst xs)/\R (vS l xs.length) H1:=rfl
noncomputable abbrev x9 (l:Addr):Obj:={ cls:=.type "list_iterator",data:=.fields #[.ref l,.int 0 0] }
noncomputable abbrev eD (it:Addr) (i:Int):Obj:={ cls:=.type "enumerate",data:=.fields #[.none,.bool false,.ref it,rawInt i,.none,.none] }
noncomputable abbrev anyL (dd:Option Addr) (ys:Array Value) (k:Nat) (ss:Array (Option Value)):Obj:=⟨.type "list",dd,.seq ys k,ss⟩
set_option maxHeartbeats 4000000 in
theorem adr{l:Addr}{ys:Array Value}{dd:Option Addr}{i:Int}{t:Tok}(fits:Builtin.SmallTypes.fitsIndex i=true) :
  Meets (Builtin.«enumerate.__new__» ⟨[.type "enumerate",.ref l],[("start",.int i t)]⟩) (fun _ R s=>s.heap.get? l=some (anyL dd ys k ss)/\
   R (.ok (.ret (.ref (s.heap.push (x9 l)).objs.size))) { s with heap:=(s.heap.push (x9 l)).push (eD s.heap.objs.size i) }):=by
 refine .of_wp fun _ _ _ R s ⟨gl,fin⟩=>?_
 rcases s with ⟨hp,gens,dr,tk,sys⟩
 have c1:=sub_enumerate;have isl:Heap.IsList (Shared.heap ⟨hp,gens,dr,tk,sys⟩) l ys:=⟨_,gl,rfl,k,rfl⟩
 wp_walk using wpAny_loadPart' gl
 refine wpAny_stack_any fun _=>wpAny_pure ?_
 split
 case h_1 c _ _ _ _ _=>
  generalize (c==Value.type "enumerate")=truth
  cases truth <;> (wp_walk using wpAny_loadPart' gl,wpAny_pyIter_list isl;exact ⟨_,rfl,fin⟩)
 case h_2=>(wp_walk using wpAny_loadPart' gl,wpAny_pyIter_list isl;exact ⟨_,rfl,fin⟩)
theorem agk(a b:Value):checkTypeCall "enumerate" ⟨[a],[("start",b)]⟩=pure ():=by kernel_rfl
theorem ahu(a b:Value):checkBuiltinCall "enumerate.__new__" ⟨[.type "enumerate",a],[("start",b)]⟩=pure ():=by kernel_rfl
theorem agl(a b c:Value):argsOk "object.__init__" ⟨[a,b],[("start",c)]⟩:=by
 unfold argsOk;rw [signature?_of (id:="object.__init__") (n:="__init__".toList.reverse) (o:="object".toList.reverse) (by kernel_rfl) F.owner_object]
 kernel_rfl
theorem ahv{self b c:Value} : Meets (Builtin.«object.__init__» ⟨[self,b],[("start",c)]⟩) (fun _ R s=>s.TypeIs self "enumerate"/\R (.ok (.ret .none)) s):=by
 have c1:=F.called_enumerate.init.lookup;have c2:=F.called_enumerate.made;refine .of_wp fun _ _ _ R s ⟨isT,fin⟩=>?_
 repeat (any_goals (first | assumption | wp_step))
 exact ⟨_,rfl,fin⟩
section
variable {prog:Program} {w:World} {A:Around} {E:Value->Shared->Prop} {s:Shared}
theorem adk{l:Addr}{ys:Array Value}{i:Int}{t:Tok}{Q:Value->Shared->Prop}(isl:s.heap.IsList l ys)(fits:Builtin.SmallTypes.fitsIndex i=true)(fin:∀ h',IsEnum h' (s.heap.objs.size+1) s.heap.objs.size i .none->h'.IsListIter s.heap.objs.size l 0->(∀ b o,s.heap.get? b=some o->h'.get? b=some o)->Q (.ref (s.heap.objs.size+1)) { s with heap:=h' }) :
  wpAny (model prog w) A (call (.type "enumerate") [.ref l] [("start",.int i t)]) Q E s:=by
 obtain ⟨⟨c,dd,dt,ss⟩,gl,hc,k,hd⟩:=isl;obtain rfl:c=.type "list":=hc;obtain rfl:dt=.seq ys k:=hd;obtain ⟨hd0,tl,c1⟩:=F.called_enumerate.mro;have c2:=F.called_enumerate.made;have c3:=F.called_enumerate.sub;have c4:=F.called_enumerate.notType;have c5:=F.called_enumerate.canCreate;have c6:=F.called_enumerate.init.lookup;have c7:=agk (.ref l) (.int i t);refine wpAny_call (codeAny_of_tree (show wpAny _ _ (callAny (.type "enumerate") _) _ _ _ from wpAny_pure ⟨Code.quiet_builtin _ (by decide +kernel),codeAny_builtin F.entry_type_call ?_⟩));rw [Around.under_plain (weight_type_call_type "enumerate" [.ref l] [("start",.int i t)]) (units_type_call_type "enumerate" [.ref l] [("start",.int i t)])]
 repeat (any_goals (first | assumption | wp_step))
 have z:(s.heap.push (x9 l)).objs.size=s.heap.objs.size+1:=Heap.size_push ..;have made:IsEnum ((s.heap.push (x9 l)).push (eD s.heap.objs.size i)) (s.heap.objs.size+1) s.heap.objs.size i .none:=by
  have g:=Heap.get?_push_size (s.heap.push (x9 l)) (o:=eD s.heap.objs.size i) rfl;rw [z] at g;exact g
 have done:=fin _ made ⟨_,Heap.get?_push_of_some _ (Heap.get?_push_size _ rfl),rfl,rfl⟩ fun b o g=>Heap.get?_push_of_some _ (Heap.get?_push_of_some _ g)
 refine codeAny_mono (codeAny_call_builtin F.called_enumerate.plain F.entry_enumerate_new (wpAny_of_eq (ahu _ _) (adr (dd:=dd) (k:=k) (ss:=ss) fits prog w A.in1 (wants (fun v s2=>v=.ref (s.heap.objs.size+1)/\s2={ s with heap:=(s.heap.push (x9 l)).push (eD s.heap.objs.size i) }) E) s ⟨gl,?_,?_⟩))) ?_
 .rw [z]
 .rfl
 .intro r s1 hr
  rcases r with e | fl
  .exact hr
  .cases fl with
   | ret v=>
    obtain ⟨rfl,rfl⟩:=hr;have isT:Shared.TypeIs { s with heap:=(s.heap.push (x9 l)).push (eD s.heap.objs.size i) } (.ref (s.heap.objs.size+1)) "enumerate":=⟨_,made,rfl⟩
    have c8:=F.called_enumerate.init.bind (.ref (s.heap.objs.size+1))
    repeat (any_goals (first | assumption | wp_step))
    have ran:=ahv (self:=.ref (s.heap.objs.size+1)) (b:=.ref l) (c:=.int i t) prog w A.in1 (wants (fun v s2=>v=.none/\s2={ s with heap:=(s.heap.push (x9 l)).push (eD s.heap.objs.size i) }) E) _ ⟨isT,rfl,rfl⟩;refine codeAny_mono (codeAny_call_builtin F.called_enumerate.init.plain F.entry_object_init (F.called_enumerate.init.check _ _ _ _ _ _ _ _ isT (agl _ _ _) ran)) fun r s2 hr=>?_
    rcases r with e | fl
    .exact hr
    .cases fl with
     | ret v=>
      obtain ⟨rfl,rfl⟩:=hr
      repeat (any_goals (first | assumption | wp_step))
     | next=>exact hr.elim
     | brk=>exact hr.elim
     | cont=>exact hr.elim
   | next=>exact hr.elim
   | brk=>exact hr.elim
   | cont=>exact hr.elim
end
theorem anb{w:World}(calm:A.handled=none){l:Addr}(apart:l≠it)(ys:Array Value) :
  Draws prog w A it [it,l] (ys.size+1) (fun i v=>1<=i/\ys[i-1]?=some v) (fun i h=>1<=i/\h.IsListIter it l (i-1)/\h.IsList l ys):=by
 have D:=Draws.list (prog:=prog) (w:=w) calm it l apart ys;refine ⟨fun i h st=>D.live (i-1) h st.2,fun i h h' st same=>⟨st.1,D.frame (i-1) h h' st.2 same⟩,fun i s Q E hi st fin=>?_,fun s Q E st fin=>D.done s Q E st.2 fin⟩;refine D.item (i-1) s Q E (by have:=st.1;lia) st.2 fun x h' tk px st' sb=>fin x h' tk ⟨st.1,px⟩ ⟨by lia,?_⟩ sb
 rw [show i+1-1=i-1+1 by have:=st.1;lia];exact st'
theorem anc{w : World}(calm : A.handled = none){l: Addr}{ys : Array Value}(none : ys[i]? = none) :
    Draws prog w A it [it, l] (i+1) (fun _ _ => True) (fun k h => k = i+1 /\ h.IsListIter it l i /\ h.IsList l ys) :=
  ⟨fun _ _ st => let ⟨o, ho, _⟩ := st.2.1; ⟨o, ho⟩, fun _ _ _ st same => ⟨st.1, st.2.1.at fun o g => same it (by simp) o g, st.2.2.at fun o g => same l (by simp) o g⟩,
   fun k s Q E hk st => absurd st.1 (by lia), fun s Q E st fin => wpAny_nextOf_list_end calm st.2.1 st.2.2 none fin⟩
noncomputable def Ite1 (l : Addr) : It :=
  ⟨fun i H => ∃ xs x, H l = some (.lst xs) /\ xs[i]? = some x,
   fun i H v H' => ∃ t xs x, H l = some (.lst xs) /\ xs[i]? = some x /\ H t = none /\ v = .ref t /\ H' = A0 H t (.tup [.int (i+1 : Nat), x]),
   fun i H => ∃ xs, H l = some (.lst xs) /\ xs.length <= i⟩
theorem agm{P:Program}{w:World}{pos:Pos}(e it l:Addr)(N5:e≠it) :
  Turn P w K (.Tuple elts x1 pos) (Ite1 l) [e,it] e (fun i h=>(∃ old,IsEnum h e it ((i+1:Nat):Int) old)/\h.IsListIter it l i) where
 mem:=by simp
 obj:=fun i h ⟨⟨old,he⟩,hi⟩ c hc=>by
  have q:c=e\/c=it:=by simpa using hc
  rcases q with rfl | rfl
  .exact ⟨_,he,fun v q=>by cases q⟩
  .obtain ⟨o,e,c,d⟩:=hi;exact ⟨o,e,fun v z=>by rw [d] at z;cases z⟩
 keep:=fun i h h' ⟨⟨old,he⟩,hi⟩ k=>⟨⟨old,k e (by simp) _ he⟩,hi.at fun o q=>k it (by simp) o q⟩
 item:=by
  intro X hP hw hK hc i pins s O H E I hf ⟨⟨old,he⟩,hi⟩ hg;subst hP hw hK;obtain ⟨xs,x,e1,hx⟩:=hg;obtain ⟨its1,V0,p1,_⟩:=I.list (D5.of (K:=X.K) e1);obtain ⟨u1,D6,r1⟩:=V0.get hx;have D1:i<its1.length:=(K1.mp D6).1;obtain ⟨ol,gl,cl,_⟩:=p1.isList;have nli:l≠it:=fun q=>by
   obtain ⟨oi,gi,ci,_⟩:=hi;rw [q,gi] at gl
   cases gl
   rw [ci] at cl;exact absurd cl (by decide)
  have nle:e≠l:=fun q=>by
   rw [<- q,he] at gl
   cases gl
   exact absurd (show Value.type "enumerate"=Value.type "list" from cl) (by decide)
  refine wpAny_pyNext_enum_itemD (i:=i+1) (anb (A:=X.A.in1) (show X.A.in1.handled=none from I.ok.hd hc) nli its1.toArray) he ⟨by lia,by simpa using hi,p1.isList⟩ (by simp;lia) N5 (by simp [N5,nle]) fun y h' tk py b1 b2 b3 b4 b5=>?_
  obtain rfl:u1=y:=by
   have:=py.2
   simp [D6] at this;exact this
  refine ⟨_,rfl,wpAny_letOwnedTupleGo_enum b1 fun h2' c1 c2=>?_⟩;have fE:e<s.heap.objs.size:=Heap.lt_size he;have up:∀ c o,c≠e->h'.get? c=some o->h2'.get? c=some o:=fun c o hc q=>(c2.2 c hc).trans q
  have hT:=up _ _ (i7 fE) b3;have nT:∀ c∈[e,it],c≠s.heap.objs.size:=fun c hc=>by
   have q:c=e\/c=it:=by simpa using hc
   refine G6 ?_
   rcases q with rfl | rfl
   .exact fE
   .obtain ⟨o,q,_⟩:=hi;exact Heap.lt_size q
  refine ⟨.ref s.heap.objs.size,A0 H s.heap.objs.size (.tup [.int (i+1:Nat),x]),I.turnNew (t':=tk+1) (ch:=[e,it]) hf (fun c u hc q=>?_) (C6 _) ⟨by show 2<=sizeLine;decide,[.int (i+1:Nat) tk,u1],.cons ⟨_,rfl⟩ (.cons r1 .nil),?_⟩,rfl,⟨_,xs,x,e1,hx,I.fresh,rfl,rfl⟩,
   ⟨⟨_,c1⟩,(show h'.IsListIter it l (i+1) by simpa using b2.2.1).at fun o q=>up _ o N5.symm q⟩,fun c hc=>by rw [A9 (nT c hc)];exact (hf c hc).1⟩
  .have q1:c≠e/\c≠it:=⟨fun q=>hc (by simp [q]),fun q=>hc (by simp [q])⟩
   exact up c u q1.1 (b5 c u q1.1 q1.2 q)
  .exact ⟨_,hT,rfl,_,rfl⟩
 done:=by
  intro X hP hw hK hc i pins s O H E I hf ⟨⟨old,he⟩,hi⟩ hg;subst hP hw hK;obtain ⟨xs,e1,T9⟩:=hg;obtain ⟨its1,V0,p1,_⟩:=I.list (D5.of (K:=X.K) e1);have q1:=V0.length;obtain ⟨f0,f1,f2,f3,f4,f5⟩:=hf it (by simp);exact wpAny_pyNext_enum_endD (anc (A:=X.A.in1) (show X.A.in1.handled=none from I.ok.hd hc) (ys:=its1.toArray) (i:=i) (by simp;lia)) he ⟨rfl,hi,p1.isList⟩ fun h' eb=>⟨rfl,I.turned (t':=s.toks) (fun b o hb q=>eb b o hb q) f0 f1 f3 f4 f5⟩
 self:=fun _ _ _ _ _ st h=>by
  obtain ⟨⟨old,he⟩,_⟩:=st;exact wpAny_pyIter_enum he h
theorem ahw:bootBuiltins "enumerate"=some (.type "enumerate"):=by decide +kernel
section
variable {X:Cx}
noncomputable def oN (ta:TA):TI:=fun O H R=>ta O H fun vs H1=>∃ (l:Addr) (xs:List V),vs=[.ref l]/\H1 l=some (.lst xs)/\R (Ite1 l) H1
theorem ai8{a:Expr}{p pos:Pos}(hg:Gl X "enumerate")(hm:X.mg "enumerate"=none)(ha:PA X [a] ta)(h1:K4 a=false:=by rfl) :
  PI X (.Tuple elts x1 tpos) (.Call (.Name "enumerate" p) [a] [⟨some "start",.Constant (.int 1) ck cpos,kpos⟩] pos) (oN ta):=by
 intro pins s O H R I h;refine wpAny_Call_Name_kw (v9 I hg hm ahw (PySem.W.callWith_of (P:=fun _=>True) ?_ (fun _ _=>⟨_,.inr (.inl rfl),PySem.W.Looks.of_pure rfl⟩) (PyProof.Rows.evalArgs_kw2 rfl (C0 (ha pos pins s O H _ I h) fun us s1 ⟨vs,H1,I1,r1,q1⟩=>?_) (N7 h1))))
 .rw [N7 h1];rfl
 have kw:PK X [⟨some "start",.Constant (.int 1) ck cpos,kpos⟩] (tCons (tC (.int 1)) tNil):=aki sM ami;refine C0 (kw pos pins s1 O H1 (fun zs H2=>zs=[.int 1]/\H2=H1) I1 ⟨rfl,rfl⟩) fun ws s2 ⟨zs,H2,I2,rz,e1,e2⟩=>⟨trivial,?_⟩
 subst e1 e2;obtain ⟨l,xs,rfl,e1,q⟩:=q1;obtain ⟨u1,rfl,iV⟩:=vals1 r1
 cases iV
 obtain ⟨u2,rfl,qS⟩:=vals1 rz;obtain ⟨t,rfl⟩:=qS;obtain ⟨its1,V0,p1,_⟩:=I2.list (D5.of (K:=X.K) e1);refine adk p1.isList (by decide) fun h' z1 z2 z4=>wpAny_pyIter_enum z1 ?_
 refine ⟨s2.heap.objs.size+1,[s2.heap.objs.size+1,s2.heap.objs.size],_,_,H2,rfl,I2.kept (t':=s2.toks) z4,agm _ s2.heap.objs.size l (Y3 (by lia)),⟨⟨_,z1⟩,z2⟩,fun b hb=>?_,q⟩;have N0:s2.heap.objs.size<=b:=by
  have e:b=s2.heap.objs.size+1\/b=s2.heap.objs.size:=by simpa using hb
  rcases e with rfl | rfl
  .exact v4 _ _
  .exact C6 _
 exact I2.fpOk N0 (I2.hok.fresh N0)
theorem ai9{a:Expr}{p pos:Pos}(hm:X.mg "enumerate"=none)(ha:QA X [a] ta)(hg:Gl X "enumerate":=by rfl)(h1:K4 a=false:=by rfl) :
  QI X (.Tuple elts x1 tpos) (.Call (.Name "enumerate" p) [a] [⟨some "start",.Constant (.int 1) ck cpos,kpos⟩] pos) (oN ta):=⟨ai8 hg hm ha.out h1⟩
end
theorem ahy{R:It->Hp->Prop} : oN ta O H R=ta O H fun vs H1=>∃ (l:Addr) (xs:List V),vs=[.ref l]/\H1 l=some (.lst xs)/\R (Ite1 l) H1:=rfl
theorem forE1{l:Addr}(Pv:Nat->St->Hp->Prop)(h0:Pv 0 O H)(hl:∀ i O H,Pv i O H->H l=some (.lst xs))(hs:∀ i x t O H,xs[i]?=some x->Pv i O H->H t=none->g (.ref t) O (A0 H t (.tup [.int (i+1:Nat),x])) fun σ2 H2=>tb { D with nx:=Pv (i+1),ct:=Pv (i+1),bk:=D.nx } σ2 H2)(hd:∀ O H,Pv xs.length O H->D.nx O H):ForIt (Ite1 l) g tb D O H:=by
 refine ⟨fun i m O H=>m=xs.length-i/\i<=xs.length/\Pv i O H,⟨xs.length,by simp,J4 _,h0⟩,?_⟩;rintro i m O H ⟨rfl,hi,p⟩;have e1:=hl i O H p
 by_cases D1:i<xs.length
 .refine .inr ⟨⟨xs,xs[i],e1,by simp⟩,Pv (i+1),fun σ' H' p'=>⟨_,by lia,rfl,D1,p'⟩,fun v H' y=>?_⟩;obtain ⟨t,xs',x,f1,hx,ht,rfl,rfl⟩:=y;rw [e1] at f1;cases f1;exact hs i x t O H hx p ht
 .have e:i=xs.length:=by lia
  subst e;exact .inl ⟨⟨xs,e1,by lia⟩,hd O H p⟩
end L2
set_option maxRecDepth 100000
namespace L2
open PySem PySem.Spec PyProof.Rows
noncomputable def oO:V->List V->Hp->VK->Prop:=fun x vs H Q=>∃ (l:Addr) (zs:List Int) (z:Int),x=.ref l/\vs=[.int z]/\H l=some (.lst (zs.map V.int))/\z∈zs/\Q .non (A0 H l (.lst ((zs.erase z).map V.int)))
theorem vT:∀ {vs:List Value} {zs:List Int},IntsAre vs zs->∀ {j:Nat} {z:Int},zs[j]?=some z->∃ t,vs[j]?=some (.int z t)
 | _,_,.nil,_,_,h=>by simp at h
 | _,_,.cons _ _ _,0,_,h=>by simp at h;subst h;exact ⟨_,rfl⟩
 | _,_,.cons _ _ r,j+1,z,h=>by
  obtain ⟨t,q⟩:=vT r (j:=j) (z:=z) (by simpa using h);exact ⟨t,by simpa using q⟩
theorem agn : nG X "list.remove" oO:=by
 intro pins s O H x vs v us Q I rx rv h;obtain ⟨l,zs,zz,rfl,rfl,hH,hm,q⟩:=h
 cases rx
 obtain ⟨u,rfl,ru⟩:=rv.one;obtain ⟨t,rfl⟩:=ru;obtain ⟨z,its,n,r,hl,e⟩:=I.lstM hH;have sa:=tL r;have hj:zs.idxOf zz<zs.length:=jQ.mpr hm;rw [A8] at hl;have Q3:∀ (j:Nat) (hj:j<its.toArray.size),∃ y t',zs[j]?=some y/\its.toArray[j]=.int y t':=fun j hj'=>by
  have hj2:j<zs.length:=by rw [hl];simpa using hj'
  obtain ⟨t',ht⟩:=vT sa (j:=j) (z:=zs[j]) (by simp);refine ⟨zs[j],t',by simp,?_⟩
  have:=(K1.mp ht).2
  simpa using this
 have hsz:zs.idxOf zz<its.toArray.size:=by rw [J2,<- hl];exact hj
 refine call_meets F.slot_list_remove ⟨_,e,rfl⟩ F.entry_list_remove (F.args_list_remove_2 _ _)
  (MeetsSeq.list_remove l its.toArray n (.int zz t) (isInt zz) (fun y hy=>eq_isInt zz t sa y (by simpa using hy)) (zs.idxOf zz) hsz ?_ (fun m iZ D1=>?_) (by rw [J2,<- hl];rw [A8] at z;exact z)) ⟨e,?_⟩
 .obtain ⟨y,t',h1,h2⟩:=Q3 _ hsz;rw [h2]
  have:y=zz:=by
   have:=List.getElem_idxOf hj
   rw [L8 hj,this] at h1;exact (Option.some.inj h1).symm
  subst this;simp [isInt]
 .obtain ⟨y,t',h1,h2⟩:=Q3 _ iZ;rw [h2]
  have:y≠zz:=fun q=>by
   obtain ⟨h3,h4⟩:=K1.mp h1
   have:=List.not_of_lt_findIdx (show m<zs.findIdx (· == zz) from D1)
   rw [h4] at this;simp [q] at this
  simp [isInt,this]
 .refine ⟨.non,_,I.lset (its':=its.eraseIdx (zs.idxOf zz)) hH e ?_ ?_ ?_,rfl,q⟩
  .show its.toArray.eraseIdxIfInBounds (zs.idxOf zz)=_;rw [List.eraseIdxIfInBounds_toArray]
  .rw [List.erase_eq_eraseIdx_of_idxOf (l:=zs) (a:=zz) (w:=rfl),uY];exact r.eraseIdx _
  .rw [A8,jP hm];rw [A8] at z;lia
theorem ahz : QMt X "list.remove" oO:=⟨fun pins s O H x xs v us Q I rx rv h=>agn pins s O H x xs v us Q I rx rv h⟩
theorem ane{l:Addr}{zs:List Int}{z:Int}(h:H l=some (.lst (zs.map V.int)))(hm:z∈zs)(q:Q .non (A0 H l (.lst ((zs.erase z).map V.int)))):oO (.ref l) [.int z] H Q:=⟨l,zs,z,rfl,rfl,h,hm,q⟩
noncomputable def rMinL:List V->Hp->VK->Prop:=fun xs H Q=>∃ (p:Addr) (ns:List Int),xs=[.ref p]/\H p=some (.lst (ns.map V.int))/\ns≠[]/\∀ M:Int,M∈ns->(∀ a∈ns,M<=a)->Q (.int M) H
theorem ahA(hc:X.calm=true):CallR X (.builtin "min") rMinL:=by
 intro pins s O H xs us Q I r h;obtain ⟨p,ns,rfl,hH,N5,q⟩:=h;obtain ⟨u,rfl,ru⟩:=vals1 r
 cases ru
 obtain ⟨z,its,n,rr,hl,e⟩:=I.lstM hH;have hi:=tL rr;have hL:s.heap.IsList p its.toArray:=⟨_,e,rfl,n,rfl⟩
 obtain ⟨ys,e2⟩:=hi.allInts.items;have aD:ns=ys.toList.map (·.1):=by rw [<- hi.numsOf,<- nums_intItems,<- e2]
 have hsz:0<ys.size:=by
  have h3:=List.length_pos_iff.mpr N5;rw [aD,A8,aZ] at h3;exact h3
 rw [e2] at hL;refine min_intList (I.ok.hd hc) hL hsz fun v h' tk hv hk=>?_
 obtain ⟨t,rfl⟩:=intItems_at hv;obtain ⟨h1,h2⟩:=argBest_lt (numAt ys) (ys.size-1);refine ⟨.int _,H,I.kept hk,⟨t,rfl⟩,q _ ?_ fun a ha=>?_⟩
 .rw [aD,numAt_eq];exact getD_mem (by rw [A8,aZ];lia)
 .rw [aD] at ha;obtain ⟨j,hj,rfl⟩:=mem_getD ha;rw [A8,aZ] at hj;rw [<- numAt_eq];exact h2 j (by lia)
theorem anf(hc:X.calm=calm:=by rfl):QCall X (.builtin "min") (rCalm calm rMinL):=⟨fun pins s O H xs us Q I r h=>ahA (hc.trans h.1) pins s O H xs us Q I r h.2⟩
theorem ang{p:Addr} : rMinL [.ref p] H Q=∃ ns:List Int,H p=some (.lst (ns.map V.int))/\ns≠[]/\∀ M:Int,M∈ns->(∀ a∈ns,M<=a)->Q (.int M) H:=
 propext ⟨fun ⟨_,ns,e,h⟩=>(by cases e;exact ⟨ns,h⟩),fun ⟨ns,h⟩=>⟨p,ns,rfl,h⟩⟩
noncomputable def eE (n:Nat) (fr:St) (Pv:Nat->List V->Hp->Prop) (i:Nat) (ys:List V) (σ2:St) (H2:Hp):Prop:=i<=n/\ys.length<=i/\(∃ v w,σ2=v::w::fr)/\Pv i ys H2
theorem eE.put{fr:St}{Pv:Nat->List V->Hp->Prop}{o o2:Option V}(hi:i<n)(hy:ys.length<=i)(p:Pv (i+1) (ys++[y]) H):eE n fr Pv (i+1) (ys++[y]) (o::o2::fr) H:=
 ⟨hi,by rw [E4,X3];lia,⟨_,_,rfl⟩,p⟩
theorem compE{l:Addr}(fr:St)(N6:compStart 2 ixs O=none::none::fr)(Pv:Addr->Nat->List V->Hp->Prop)(h0:∀ D,H1 D=none->Pv D 0 [] (A0 H1 D (.lst [])))(hl:∀ D i ys H,H1 D=none->i<=xs.length->Pv D i ys H->H l=some (.lst xs))(hs:∀ D i x t ys H,H1 D=none->i<xs.length->xs[i]?=some x->Pv D i ys H->H D=some (.lst ys)->ys.length<=i->H t=none->c (some (.int i)::some x::fr) (A0 H t (.tup [.int i,x])) fun b H4=>
   if b=true then te (some (.int i)::some x::fr) H4 fun y H5=>H5 D=some (.lst ys)/\ys.length<sizeLine/\eE xs.length fr (Pv D) (i+1) (ys++[y]) (some (.int i)::some x::fr) (A0 H5 D (.lst (ys++[y])))
   else H4 D=some (.lst ys)/\eE xs.length fr (Pv D) (i+1) ys (some (.int i)::some x::fr) H4)(hd:∀ D ys H,H1 D=none->Pv D xs.length ys H->H D=some (.lst ys)->ys.length<=xs.length->Q (.ref D) H):bD (eB l) 2 ixs (gTup K 2 (gCons (gName 0) (gCons (gName 1) gNil))) c te O Q H1:=by
 intro D hD;refine ⟨xs.length,eE xs.length fr (Pv D),⟨J4 _,J4 _,⟨none,none,N6⟩,h0 D hD⟩,?_⟩;rintro i ys σ2 H2 ⟨hi,hy,⟨v,w,rfl⟩,p⟩ hDy;have q:=hl D i ys H2 hD hi p
 by_cases D1:i<xs.length
 .refine .inr ⟨D1,⟨xs,xs[i],q,by simp [D1]⟩,fun x H' y=>?_⟩;obtain ⟨t,xs',x',f1,hx,ht,rfl,rfl⟩:=y;rw [q] at f1;cases f1;exact ⟨t,_,rfl,D0.of A7,rfl,_,_,rfl,_,_,rfl,rfl,hs D i x' t ys H2 hD D1 hx p hDy hy ht⟩
 .have e:i=xs.length:=by lia
  subst e;exact .inl ⟨⟨xs,q,C6 _⟩,hd D ys H2 hD p hDy hy⟩
end L2
set_option maxRecDepth 100000
namespace L2
open PySem PySem.Spec PyProof.Rows
section
variable {X:Cx} {o value:Expr} {to tv:TE} {pos tpos:Pos} {st:Stmt} {t:TS} {h₀:ExceptHandler} {hs:List ExceptHandler}
end
end L2
set_option maxRecDepth 100000
namespace L2
open PySem PySem.Spec PyProof.Rows
end L2
set_option maxRecDepth 100000
namespace L2
open PySem PySem.Spec PyProof.Rows
noncomputable def FS (ts bad:List Str) (z:Str->Prop) (fr:List Int):Prop:=fr.Nodup/\∀ n:Int,n∈fr↔∃ (m:Nat) (q:Str),n=(m:Int)/\ts[m]?=some q/\q∉bad/\z q
theorem FS.nil(z:Str->Prop):FS [] [] z []:=⟨by simp,fun n=>by simp⟩
theorem FS.snoc{z:Str->Prop}(h:FS ts bad z fr)(hi:i=ts.length)(hb:q∉bad):(z q->FS (ts++[q]) bad z (fr++[(i:Int)]))/\(¬ z q->FS (ts++[q]) bad z fr):=by
 have M3:∀ (m:Nat) (x:Str),(ts++[q])[m]?=some x↔(ts[m]?=some x\/(m=i/\x=q)):=fun m x=>by
  rcases Nat.lt_trichotomy m ts.length with hm | hm | hm
  .rw [fW hm]
   constructor
   .exact .inl
   .rintro (h | ⟨h,_⟩)
    .exact h
    .lia
  .subst hm;rw [fV (C6 _),Nat.sub_self]
   have:ts[ts.length]?=none:=by simp
   rw [this];simp [hi,eq_comm]
  .have h1:ts[m]?=none:=by simp;lia
   have h2:(ts++[q])[m]?=none:=by simp;lia
   rw [h1,h2]
   simp
   lia
 have iK:(i:Int)∉fr:=fun hm=>by
  obtain ⟨m,x,e,h1,_⟩:=(h.2 _).mp hm
  have:=(K1.mp h1).1
  lia
 refine ⟨fun hz=>⟨?_,fun n=>?_⟩,fun hz=>⟨h.1,fun n=>?_⟩⟩
 .rw [n6];refine ⟨h.1,by simp,fun x hx y hy e=>iK ?_⟩;rw [<- G5.mp hy,<- e];exact hx
 .rw [J3,h.2,G5]
  constructor
  .rintro (⟨m,x,e,h1,h2,h3⟩ | rfl)
   .exact ⟨m,x,e,(M3 m x).mpr (.inl h1),h2,h3⟩
   .exact ⟨i,q,rfl,(M3 i q).mpr (.inr ⟨rfl,rfl⟩),hb,hz⟩
  .rintro ⟨m,x,e,h1,h2,h3⟩
   rcases (M3 m x).mp h1 with h1 | ⟨rfl,rfl⟩
   .exact .inl ⟨m,x,e,h1,h2,h3⟩
   .exact .inr e
 .rw [h.2]
  constructor
  .rintro ⟨m,x,e,h1,h2,h3⟩;exact ⟨m,x,e,(M3 m x).mpr (.inl h1),h2,h3⟩
  .rintro ⟨m,x,e,h1,h2,h3⟩
   rcases (M3 m x).mp h1 with h1 | ⟨rfl,rfl⟩
   .exact ⟨m,x,e,h1,h2,h3⟩
   .exact absurd h3 hz
theorem vU(nd:ts.Nodup)(h1:ts[i]?=some q)(h2:ts[j]?=some q):i=j:=by
 obtain ⟨a1,b1⟩:=K1.mp h1;obtain ⟨a2,b2⟩:=K1.mp h2
 have:=Z2.mp nd
 rw [m9] at this
 rcases Nat.lt_trichotomy i j with hl | hl | hl
 .exact absurd (b1.trans b2.symm) (this i j a1 a2 hl)
 .exact hl
 .exact absurd (b2.trans b1.symm) (this j i a2 a1 hl)
theorem FS.take{z:Str->Prop}(nd:ts.Nodup)(h:FS ts bad z fr){M:Nat}(hp:ts[M]?=some p):FS ts (bad++[p]) z (fr.erase (M:Int)):=by
 refine ⟨h.1.erase _,fun n=>?_⟩;rw [h.1.mem_erase_iff,h.2]
 constructor
 .rintro ⟨N5,m,x,e,h1,h2,h3⟩;refine ⟨m,x,e,h1,fun hm=>?_,h3⟩
  rcases J3.mp hm with hm | hm
  .exact h2 hm
  .rw [G5.mp hm] at h1;exact N5 (by rw [e,vU nd h1 hp])
 .rintro ⟨m,x,e,h1,h2,h3⟩;refine ⟨fun e2=>h2 ?_,m,x,e,h1,fun hm=>h2 (R1 _ hm),h3⟩
  have:m=M:=by lia
  subst this;rw [hp] at h1;cases h1
  simp
theorem FS.turn{z z':Str->Prop}(nd:ts.Nodup)(h:FS ts bad z fr){y:Str}(N5:∀ q,q≠y->(z' q↔z q))(hy:¬ z y)(hm:ts[m]?=some y)(hb:y∉bad):(z' y->FS ts bad z' (fr++[(m:Int)]))/\(¬ z' y->FS ts bad z' fr):=by
 have iK:(m:Int)∉fr:=fun h1=>by
  obtain ⟨k,x,e,h2,_,h3⟩:=(h.2 _).mp h1
  have:k=m:=by lia
  subst this;rw [hm] at h2;cases h2;exact hy h3
 have V1:∀ (k:Nat) (x:Str),ts[k]?=some x->x≠y\/(k=m/\x=y):=fun k x hk=>by
  by_cases e:x=y
  .subst e;exact .inr ⟨vU nd hk hm,rfl⟩
  .exact .inl e
 refine ⟨fun hz=>⟨?_,fun n=>?_⟩,fun hz=>⟨h.1,fun n=>?_⟩⟩
 .rw [n6];refine ⟨h.1,by simp,fun x hx w hw e=>iK ?_⟩;rw [<- G5.mp hw,<- e];exact hx
 .rw [J3,h.2,G5]
  constructor
  .rintro (⟨k,x,e,h1,h2,h3⟩ | rfl)
   .rcases V1 k x h1 with c | ⟨_,rfl⟩
    .exact ⟨k,x,e,h1,h2,(N5 x c).mpr h3⟩
    .exact absurd h3 hy
   .exact ⟨m,y,rfl,hm,hb,hz⟩
  .rintro ⟨k,x,e,h1,h2,h3⟩
   rcases V1 k x h1 with c | ⟨rfl,rfl⟩
   .exact .inl ⟨k,x,e,h1,h2,(N5 x c).mp h3⟩
   .exact .inr e
 .rw [h.2]
  constructor
  .rintro ⟨k,x,e,h1,h2,h3⟩
   rcases V1 k x h1 with c | ⟨_,rfl⟩
   .exact ⟨k,x,e,h1,h2,(N5 x c).mpr h3⟩
   .exact absurd h3 hy
  .rintro ⟨k,x,e,h1,h2,h3⟩
   rcases V1 k x h1 with c | ⟨_,rfl⟩
   .exact ⟨k,x,e,h1,h2,(N5 x c).mp h3⟩
   .exact absurd h3 hz
theorem FS.congr{z z':Str->Prop}(h:FS ts bad z fr)(e:∀ q,z' q↔z q):FS ts bad z' fr:=⟨h.1,fun n=>by rw [h.2];exact ⟨fun ⟨m,x,a,b,c,d⟩=>⟨m,x,a,b,c,(e x).mpr d⟩,fun ⟨m,x,a,b,c,d⟩=>⟨m,x,a,b,c,(e x).mp d⟩⟩⟩
theorem afd{E:List (Str×Str)}(h:FS ts line (fun q=>E3 E line q=0) fr){M:Int}(hM:M∈fr)(cH:∀ a∈fr,M<=a):∃ (m:Nat) (p:Str),M=(m:Int)/\ts[m]?=some p/\nextP E ts line=some p:=by
 obtain ⟨m,p,e,h1,h2,h3⟩:=(h.2 M).mp hM;refine ⟨m,p,e,h1,?_⟩;rw [vC];obtain ⟨hm,rfl⟩:=K1.mp h1;have e1:ts=ts.take m++ts[m]::ts.drop (m+1):=by rw [<- List.drop_eq_getElem_cons hm,X2]
 generalize hP:(fun p=>!decide (p∈line)&&decide (∀ e∈E,e.2=p->e.1∈line))=P;have hp:P ts[m]=true:=by
  rw [<- hP];simp only [Z7,Bool.not_eq_true',decide_eq_false_iff_not,decide_eq_true_eq];exact ⟨h2,cnt_zero.mp h3⟩
 have jA:(ts.take m).find? P=none:=by
  rw [List.find?_eq_none];intro x hx hxP;obtain ⟨k,hk,rfl⟩:=V7.mp hx;rw [L9] at hk;rw [List.getElem_take,<- hP] at hxP;simp only [Z7,Bool.not_eq_true',decide_eq_false_iff_not,decide_eq_true_eq] at hxP
  have:=cH (k:Int) ((h.2 _).mpr ⟨k,ts[k],rfl,by simp,hxP.1,cnt_zero.mpr hxP.2⟩)
  lia
 conv=>lhs;rw [e1]
 rw [List.find?_append,jA,i5,hp];rfl
theorem aja{E:List (Str×Str)}(r:P9 E ts line)(h:q∈line):E3 E line q=0:=by
 obtain ⟨pre,post,rfl⟩:=List.append_of_mem h
 have:=(gW (r pre q post rfl)).2.2
 rw [cnt_zero] at this ⊢
 intro e he h2;exact R1 _ (this e he h2)
theorem vV{f:Str->V} : ∀ {ts pre:List Str},(pre++ts).Nodup->W3 (C1 pre f) (C1 ts f)=C1 (pre++ts) f
 | [],pre,_=>by rw [M7];rfl
 | t::ts,pre,h=>by
  have ht:t∉pre:=fun hm=>(n6.mp h).2.2 t hm t M5 rfl
  show W3 (putK (C1 pre f) (Sum.inr t) (f t)) (C1 ts f)=_;rw [bK _ ht,show C1 (pre++[t]) (fun x=>if x=t then f t else f x)=C1 (pre++[t]) f from Q0 fun x _=>by
   by_cases e:x=t
   .rw [if_pos e,e]
   .rw [if_neg e]]
  rw [vV (pre:=pre++[t]) (by simpa using h)]
  simp
theorem vW:∀ {l m:List Int},l.Nodup->(∀ x∈l,x∈m)->l.length<=m.length
 | [],_,_,_=>J4 _
 | x::l,m,nd,h=>by
  obtain ⟨n1,n2⟩:=W0.mp nd;have hx:=h x M5
  have:=vW (l:=l) (m:=m.erase x) n2 fun y hy=>(List.mem_erase_of_ne (fun e=>n1 (by rw [<- e];exact hy))).mpr (h y (M6 _ hy))
  rw [jP hx] at this;have u4:=List.length_pos_of_mem hx;rw [G1];lia
theorem vX{f:Str->V} : ∀ {qs:List Addr} {ts:List Str},Paired (fun q t=>H q=some (.tup [.str t,f t])) qs ts->Paired (fun q (kx:B5×V)=>D0 K H q [kV kx.1,kx.2]) qs (C1 ts f)
 | _,_,.nil=>.nil
 | _,_,.cons h t=>.cons (.of h) (vX t)
theorem forRs(Pv:Nat->St->Hp->Prop)(h0:Pv 0 O H)(hs:∀ (P':Nat->St->Hp->Prop) (B':St->Hp->Prop),(∀ i O H,Pv i O H->P' i O H)->∀ i O H,i<n->Pv i O H->g (.int (lo+i)) O H fun σ2 H2=>tb { D with nx:=P' (i+1),ct:=P' (i+1),bk:=B' } σ2 H2)(hd:∀ O H,Pv n O H->D.nx O H):ForIt (Y1 lo n) g tb D O H:=forR Pv h0 (hs Pv _ fun _ _ _ h=>h) hd
theorem forLs(Pv:Nat->St->Hp->Prop)(h0:Pv 0 O H)(hl:∀ i O H,i<=xs.length->Pv i O H->D5 K H a xs)(hs:∀ (P':Nat->St->Hp->Prop) (B':St->Hp->Prop),(∀ i O H,Pv i O H->P' i O H)->∀ i x O H,xs[i]?=some x->Pv i O H->g x O H fun σ2 H2=>tb { D with nx:=P' (i+1),ct:=P' (i+1),bk:=B' } σ2 H2)(hd:∀ O H,Pv xs.length O H->D.nx O H):ForIt (o3 K a) g tb D O H:=forL Pv h0 hl (hs Pv _ fun _ _ _ h=>h) hd
theorem midS{t u:TS}(M:St->Hp->Prop)(h:∀ M':St->Hp->Prop,(∀ O H,M O H->M' O H)->t { D with nx:=M' } O H)(h2:∀ σ' H',M σ' H'->u D σ' H'):tSeqM t u D O H:=⟨M,h M fun _ _ h=>h,h2⟩
noncomputable def vY:Sp:=fun vs H Q _=>∃ (a:Addr) (rs:List Addr) (zss:List (List Str)),vs=[.ref a]/\IsRows H a rs zss/\zss.flatten.length<=100000/\
 ∀ l H',H l=none->Same H H'->H' l=some (.lst ((toldL zss).map V.str))->Q (.ref l) H'
noncomputable def oP:Sp:=fun vs H Q _=>∃ c,vs=[.str ⟨#[c]⟩]/\Q (.bl (figO c)) H
noncomputable def J9 (R:List Rl):List (Str×List Str):=R.filterMap fun z=>if z.1=("great" : Str) then z.2.head?.map fun y=>(y,z.2.drop 1) else none
noncomputable def D7 (R:List Rl):List Str:=J8 [] ((J9 R).map (·.1))
noncomputable def E2 (R:List Rl) (y:Str):List Str:=((J9 R).filter fun e=>decide (e.1=y)).flatMap (·.2)
theorem kT(A B:List Rl):J9 (A++B)=J9 A++J9 B:=by
 unfold J9;rw [List.filterMap_append]
theorem oQ{R:List Rl}{z:Rl}(h:R[i]?=some z):J9 (R.take (i+1))=J9 (R.take i)++J9 [z]:=by
 rw [L6 h,kT]
theorem kU{z:Rl}(h:z.1≠("great" : Str)):J9 [z]=[]:=by
 unfold J9;rw [aO,if_neg h];rfl
theorem oR{y:Str}{fs:List Str} : J9 [(("great" : Str),y::fs)]=[(y,fs)]:=by
 unfold J9;rw [aO,if_pos rfl];rfl
theorem oS{A:List Rl}{y:Str}{fs:List Str}(x:Str):E2 (A++[(("great" : Str),y::fs)]) x=if x=y then E2 A x++fs else E2 A x:=by
 unfold E2;rw [kT,oR,V9,V8]
 by_cases h:x=y
 .subst h;simp
 .have:¬ (y=x):=fun e=>h e.symm
  simp [this,h]
theorem kW{A:List Rl}{y:Str}{fs:List Str} : D7 (A++[(("great" : Str),y::fs)])=dd (D7 A) y:=by
 unfold D7 J8;rw [kT,oR,F8,aP];rfl
noncomputable def vZ (K:PySem.W.Frag):Sp:=fun vs H Q _=>∃ (a:Addr) (ts:List Addr) (R:List Rl),vs=[.ref a]/\IsRules H a ts R/\(∀ z∈R,z.1=("great" : Str)->z.2≠[])/\R.length<=1000/\(∀ i y,(E2 (R.take i) y).length<=10000)/\
 ∀ d ad H',H d=none->Same H H'->H' d=some (.dK (C1 (D7 R) fun y=>.ref (ad y)))->DL H H' (D7 R) ad (E2 R)->Q (.ref d) H'
theorem oU(xs:List V)(h:i<=j):cutV xs (some (i:Int)) (some (j:Int))=(xs.drop i).take (j-i):=by
 unfold cutV;rw [HT.sIx_nat,HT.sIx_nat]
 by_cases hi:i<=xs.length
 .rw [cV hi]
  by_cases hj:j<=xs.length
  .rw [cV hj]
  .rw [Nat.min_eq_right (by lia),Z4 (by rw [i4];exact C6 _),Z4 (by rw [i4];lia)]
 .rw [Nat.min_eq_right (by lia:xs.length<=i),jR (C6 _),jR (by lia),List.take_nil,List.take_nil]
noncomputable abbrev Tr:=Int×Int×Int
noncomputable def tupT (s:Tr):HO:=.tup [.int s.1,.int s.2.1,.int s.2.2]
structure StepAt(H:Hp)(r:Addr)(ss:List Tr):Prop where
 ex:∃ ts:List Addr,H r=some (.tup (ts.map V.ref))/\Paired (fun t s=>H t=some (tupT s)) ts ss
theorem StepAt.same{ss:List Tr}(h:StepAt H r ss)(S:Same H H'):StepAt H' r ss:=
 let ⟨ts,h1,h2⟩:=h.ex
 ⟨ts,S _ _ h1,Q7 h2 fun _ _ e=>S _ _ e⟩
theorem StepAt.put{d:Addr}{ss:List Tr}{o o':HO}(h:StepAt H r ss)(hd:H d=some o')(hn:∀ xs,o'≠.tup xs):StepAt (A0 H d o) r ss:=by
 obtain ⟨ts,h1,h2⟩:=h.ex;refine ⟨ts,?_,Q7 h2 fun t s e=>?_⟩
 .rw [A9 (fun e=>by rw [e,hd] at h1;exact hn _ (Option.some.inj h1))];exact h1
 .rw [A9 (fun q=>by rw [q,hd] at e;exact hn _ (Option.some.inj e))];exact e
theorem StepAt.one{t:Addr}{s:Tr}(h1:H r=some (.tup [.ref t]))(h2:H t=some (tupT s)):StepAt H r [s]:=⟨[t],h1,.cons h2 .nil⟩
noncomputable def IsMade (H:Hp) (d:Addr) (ks:List Str) (F:Str->List Tr):Prop:=∃ ad:Str->Addr,H d=some (.dK (C1 ks fun y=>.ref (ad y)))/\∀ y∈ks,StepAt H (ad y) (F y)
theorem IsMade.same{d:Addr}{F:Str->List Tr}(h:IsMade H d ks F)(S:Same H H'):IsMade H' d ks F:=
 let ⟨ad,h1,h2⟩:=h
 ⟨ad,S _ _ h1,fun y hy=>(h2 y hy).same S⟩
theorem IsMade.put{d:Addr}{F:Str->List Tr}{ad:Str->Addr}(h1:H d=some (.dK (C1 ks fun y=>.ref (ad y))))(h2:∀ y∈ks,StepAt H (ad y) (F y)){l:Str}{p:Addr}(hp:StepAt H p (F l)) :
  IsMade (A0 H d (.dK (putK (C1 ks fun y=>.ref (ad y)) (Sum.inr l) (.ref p)))) d (dd ks l) F:=by
 refine ⟨fun y=>if y=l then p else ad y,?_,fun y hy=>?_⟩
 .rw [A7];have e:∀ t,(if t=l then V.ref p else V.ref (ad t))=V.ref (if t=l then p else ad t):=fun t=>by
   by_cases h:t=l
   .rw [if_pos h,if_pos h]
   .rw [if_neg h,if_neg h]
  unfold dd
  by_cases hl:l∈ks
  .rw [if_pos hl,kP _ hl];exact congrArg (fun x=>some (HO.dK x)) (Q0 fun t _=>e t)
  .rw [if_neg hl,bK _ hl];exact congrArg (fun x=>some (HO.dK x)) (Q0 fun t _=>e t)
 .by_cases h:y=l
  .subst h;show StepAt _ (if y=y then p else ad y) _;rw [if_pos rfl];exact hp.put h1 (by intro xs e;cases e)
  .show StepAt _ (if y=l then p else ad y) _;rw [if_neg h];refine (h2 y ?_).put h1 (by intro xs e;cases e);unfold dd at hy
   by_cases hl:l∈ks
   .rw [if_pos hl] at hy;exact hy
   .rw [if_neg hl] at hy
    rcases J3.mp hy with q | q
    .exact q
    .exact absurd (G5.mp q) h
structure StI(H H2:Hp)(d:Addr)(P:List Str)(F:Str->List Tr):Prop where
 same:Same H H2
 made:IsMade H2 d (J8 [] P) F
theorem ajb(P:List Str)(x:Str):J8 [] (P++[x])=dd (J8 [] P) x:=by
 unfold J8;rw [aP];rfl
theorem StI.putX{d:Addr}{P:List Str}{F:Str->List Tr}(nd:H d=none)(h:StI H H2 d P F)(hP:P.length<100000){l:Str}{p:Addr}(hp:StepAt H2 p (F l)) :
  ∃ kvs o,H2 d=some (.dK kvs)/\DPut H2 d (V.str l) (V.ref p) (A0 H2 d o)/\StI H (A0 H2 d o) d (P++[l]) F:=by
 obtain ⟨ad,h1,h2⟩:=h.made;have hl:=gM P [];rw [R3,Nat.zero_add] at hl;refine ⟨_,_,h1,x4 (k:=Sum.inr l) h1 (by rw [b9];exact M9 (by lia)),h.same.put nd,?_⟩;rw [ajb];exact IsMade.put h1 h2 hp
theorem StI.put{d:Addr}{P:List Str}{F:Str->List Tr}(nd:H d=none)(h:StI H H2 d P F)(hP:P.length<100000){l:Str}{p:Addr}(hp:StepAt H2 p (F l)) :
  ∃ x,DPut H2 d (V.str l) (V.ref p) x/\StI H x d (P++[l]) F:=
 let ⟨_,_,_,h1,h2⟩:=h.putX nd hP hp
 ⟨_,h1,h2⟩
theorem StI.more{d:Addr}{P:List Str}{F:Str->List Tr}(h:StI H H2 d P F)(S:Same H2 H3):StI H H3 d P F:=⟨h.same.trans S,h.made.same S⟩
theorem StI.frz{d:Addr}{P:List Str}{F:Str->List Tr}{o:HO}(h:StI H H2 d P F)(hf:H2 f=some (.dK kvs))(n:H f=none)(nf:f≠d):StI H (A0 H2 f o) d P F:=
 let ⟨ad,h1,h2⟩:=h.made
 ⟨h.same.put n,ad,by rw [A9 nf.symm];exact h1,fun y hy=>(h2 y hy).put hf (by intro xs e;cases e)⟩
theorem StI.thaw{d:Addr}{P:List Str}{F:Str->List Tr}{q:Obj}{o o':HO}(h:StI H H2 d P F)(hf:H2 f=some (.frz q o'))(n:H f=none)(nf:f≠d):StI H (A0 H2 f o) d P F:=
 let ⟨ad,h1,h2⟩:=h.made
 ⟨h.same.put n,ad,by rw [A9 nf.symm];exact h1,fun y hy=>(h2 y hy).put hf (by intro xs e;cases e)⟩
structure FoI(H H2:Hp)(d f:Addr)(o:Obj)(ts:List Str)(af:Str->Addr)(G:Str->List Str)(P:List Str)(F:Str->List Tr):Prop where
 frz:H2 f=some (.frz o (.dK (C1 ts fun y=>.ref (af y))))
 rows:∀ y∈ts,H2 (af y)=some (.lst ((G y).map V.str))
 st:StI H H2 d P F
theorem FoI.more{d:Addr}{af:Str->Addr}{G:Str->List Str}{P:List Str}{F:Str->List Tr}(h:FoI H H2 d f o ts af G P F)(S:Same H2 H3):FoI H H3 d f o ts af G P F:=⟨S _ _ h.frz,fun y hy=>S _ _ (h.rows y hy),h.st.more S⟩
theorem FoI.put{d:Addr}{af:Str->Addr}{G:Str->List Str}{P:List Str}{F:Str->List Tr}(nd:H d=none)(h:FoI H H2 d f o ts af G P F)(hP:P.length<100000){l:Str}{p:Addr}(hp:StepAt H2 p (F l)) :
  ∃ x,DPut H2 d (V.str l) (V.ref p) x/\FoI H x d f o ts af G (P++[l]) F:=by
 obtain ⟨kvs,o',h0,h1,h2⟩:=h.st.putX nd hP hp;refine ⟨_,h1,?_,fun y hy=>?_,h2⟩
 .rw [A9 (fun e=>by have:=h.frz;rw [e,h0] at this;cases this)];exact h.frz
 .rw [A9 (fun e=>by have:=h.rows y hy;rw [e,h0] at this;cases this)];exact h.rows y hy
theorem StI.putL{d:Addr}{P:List Str}{F:Str->List Tr}{o:HO}(h:StI H H2 d P F)(hf:H2 f=some (.lst xs))(n:H f=none):StI H (A0 H2 f o) d P F:=
 let ⟨ad,h1,h2⟩:=h.made
 ⟨h.same.put n,ad,by rw [A9 (fun e=>by rw [e,hf] at h1;cases h1)];exact h1,fun y hy=>(h2 y hy).put hf (by intro xs e;cases e)⟩
structure AsI(H H7 H2:Hp)(d:Addr)(P:List Str)(F:Str->List Tr)(ts:List Addr)(ss:List Tr):Prop where
 st:StI H H2 d P F
 pr:Paired (fun t s=>H2 t=some (tupT s)) ts ss
 sm:Same H7 H2
theorem AsI.putL{H7:Hp}{d:Addr}{P:List Str}{F:Str->List Tr}{ts:List Addr}{ss:List Tr}{o:HO}(h:AsI H H7 H2 d P F ts ss)(hf:H2 f=some (.lst xs))(n:H f=none)(n7:H7 f=none):AsI H H7 (A0 H2 f o) d P F ts ss:=
 ⟨h.st.putL hf n,Q7 h.pr fun t s e=>by rw [A9 (fun q=>by rw [q,hf] at e;cases e)];exact e,h.sm.put n7⟩
noncomputable def asKs (R:List Rl):List Str:=R.filterMap fun z=>if z.1=("as" : Str) then z.2.head? else none
theorem wA{R:List Rl}{z:Rl}(h:R[i]?=some z):asKs (R.take (i+1))=asKs (R.take i)++asKs [z]:=by
 rw [L6 h];unfold asKs;rw [List.filterMap_append]
theorem wB{z:Rl}(h:z.1≠("as" : Str)):asKs [z]=[]:=by
 unfold asKs;rw [aO,if_neg h];rfl
theorem wC{y:Str}{fs:List Str} : asKs [(("as" : Str),y::fs)]=[y]:=by
 unfold asKs;rw [aO,if_pos rfl];rfl
theorem ajc(R:List Rl):(asKs R).length<=R.length:=List.length_filterMap_le _ _
structure Made(R:List Rl)(L M:List Str)(F:Str->List Tr):Prop where
 lt:∀ (i:Nat) y,L[i]?=some y->F y=[(2,(i:Int),0)]
 mr:∀ (i:Nat) y,M[i]?=some y->F y=[(0,(i:Int),0)]
 gl:∀ y∈D7 R,y∈L
 gr:∀ y∈D7 R,∀ (c:Nat) f,(E2 R y)[c]?=some f->F f=[(2,(L.idxOf y:Int),((c+1:Nat):Int))]
 ne:∀ z∈R,z.1=("as" : Str)\/z.1=("great" : Str)->z.2≠[]
 pt:∀ z∈R,z.1=("as" : Str)->∀ q∈z.2.drop 1,q∈L\/q∈M
 as:∀ z∈R,z.1=("as" : Str)->∀ p qs,z.2=p::qs->F p=qs.map fun q=>(F q).headD (0,0,0)
noncomputable def allKs (R:List Rl) (L M:List Str):List Str:=L++M++(D7 R).flatMap (E2 R)++asKs R
theorem Made.base{R:List Rl}{F:Str->List Tr}(m:Made R L M F)(h:q∈L\/q∈M):∃ s,F q=[s]:=by
 rcases h with h | h
 .obtain ⟨i,hi,e⟩:=V7.mp h;exact ⟨_,m.lt i q (by rw [L8 hi,e])⟩
 .obtain ⟨i,hi,e⟩:=V7.mp h;exact ⟨_,m.mr i q (by rw [L8 hi,e])⟩
theorem Made.letter{R:List Rl}{F:Str->List Tr}(m:Made R L M F)(h:q∈L):F q=[(2,(L.idxOf q:Int),0)]:=by
 have hi:=jQ.mpr h;exact m.lt (L.idxOf q) q (by rw [L8 hi,List.getElem_idxOf])
noncomputable def wD (K:PySem.W.Frag):Sp:=fun vs H Q _=>∃ (a b c:Addr) (ts:List Addr) (R:List Rl) (L M:List Str) (F:Str->List Tr),vs=[.ref a,.ref b,.ref c]/\IsRules H a ts R/\Made R L M F/\H b=some (.lst (L.map V.str))/\H c=some (.lst (M.map V.str))/\(∀ z∈R,z.2.length<=1000)/\R.length<=1000/\(∀ i y,(E2 (R.take i) y).length<=10000)/\(allKs R L M).length<=50000/\
 ∀ d H',H d=none->Same H H'->IsMade H' d (J8 [] (allKs R L M)) F->Q (.ref d) H'
noncomputable def baseT (L M:List Str) (q:Str):Tr:=if q∈L then (2,(L.idxOf q:Int),0) else (0,(M.idxOf q:Int),0)
noncomputable def oV (L M:List Str) (R:List Rl):List (Str×List Tr):=R.filterMap fun z=>if z.1=("as" : Str) then z.2.head?.map fun p=>(p,(z.2.drop 1).map (baseT L M)) else none
noncomputable def putsL (R:List Rl) (L M:List Str):List (Str×List Tr):=
 (L.zipIdx.map fun e=>(e.1,[((2:Int),(e.2:Int),(0:Int))]))++(M.zipIdx.map fun e=>(e.1,[((0:Int),(e.2:Int),(0:Int))]))++((D7 R).flatMap fun y=>(E2 R y).zipIdx.map fun e=>(e.1,[((2:Int),(L.idxOf y:Int),((e.2+1:Nat):Int))]))++oV L M R
noncomputable def stepF (R:List Rl) (L M:List Str) (p:Str):List Tr:=((putsL R L M).lookup p).getD []
theorem wE{s:List Tr} : ∀ {l:List (Str×List Tr)},(l.map (·.1)).Nodup->(p,s)∈l->l.lookup p=some s
 | [],_,h=>by cases h
 | (y,t)::l,nd,h=>by
  rw [G3,W0] at nd;rw [gB]
  rcases F9.mp h with h | h
  .obtain ⟨rfl,rfl⟩:=Prod.mk.inj h
   simp
  .have:p≠y:=fun e=>nd.1 (D4.mpr ⟨_,h,e⟩)
   have e:(p==y)=false:=by simpa using this
   rw [e];exact wE nd.2 h
theorem ahF(R:List Rl)(L M:List Str):(putsL R L M).map (·.1)=allKs R L M:=by
 have z:∀ (l:List Str) (f:Nat->List Tr),(l.zipIdx.map fun e=>(e.1,f e.2)).map (·.1)=l:=fun l f=>by
  rw [o0];exact List.zipIdx_map_fst 0 l
 have a:(oV L M R).map (·.1)=asKs R:=by
  unfold oV asKs;rw [List.map_filterMap]
  congr 1
  funext z
  by_cases h:z.1=("as" : Str)
  .rw [if_pos h,if_pos h]
   cases z.2 <;> rfl
  .rw [if_neg h,if_neg h];rfl
 unfold putsL allKs;rw [F8,F8,F8,z L fun i=>[(2,(i:Int),0)],z M fun i=>[(0,(i:Int),0)],a,List.map_flatMap]
 congr 2
 congr 1
 funext y
 exact z (E2 R y) fun i=>[(2,(L.idxOf y:Int),((i+1:Nat):Int))]
theorem eF{R:List Rl}(nd:(allKs R L M).Nodup){s:List Tr}(h:(p,s)∈putsL R L M):stepF R L M p=s:=by
 unfold stepF;rw [wE (by rw [ahF];exact nd) h];rfl
theorem alj{R:List Rl}(nd:(allKs R L M).Nodup)(gl:∀ y∈D7 R,y∈L)(ne:∀ z∈R,z.1=("as" : Str)\/z.1=("great" : Str)->z.2≠[])(pt:∀ z∈R,z.1=("as" : Str)->∀ q∈z.2.drop 1,q∈L\/q∈M):Made R L M (stepF R L M):=by
 have m1:∀ (i:Nat) y,L[i]?=some y->(y,[((2:Int),(i:Int),(0:Int))])∈putsL R L M:=fun i y h=>by
  refine R1 _ (R1 _ (R1 _ (D4.mpr ⟨(y,i),?_,rfl⟩)));rw [List.mem_zipIdx_iff_getElem?];exact h
 have m2:∀ (i:Nat) y,M[i]?=some y->(y,[((0:Int),(i:Int),(0:Int))])∈putsL R L M:=fun i y h=>by
  refine R1 _ (R1 _ (O3 _ (D4.mpr ⟨(y,i),?_,rfl⟩)));rw [List.mem_zipIdx_iff_getElem?];exact h
 have hb:∀ q,q∈L\/q∈M->stepF R L M q=[baseT L M q]:=fun q hq=>by
  unfold baseT
  by_cases h:q∈L
  .rw [if_pos h];have hi:=jQ.mpr h;exact eF nd (m1 (L.idxOf q) q (by rw [L8 hi,List.getElem_idxOf]))
  .rw [if_neg h];have hm:=hq.resolve_left h;have hi:=jQ.mpr hm;exact eF nd (m2 (M.idxOf q) q (by rw [L8 hi,List.getElem_idxOf]))
 refine ⟨fun i y h=>eF nd (m1 i y h),fun i y h=>eF nd (m2 i y h),gl,fun y hy c f h=>eF nd ?_,ne,pt,fun z hz e p qs ez=>?_⟩
 .refine R1 _ (O3 _ (Z6.mpr ⟨y,hy,D4.mpr ⟨(f,c),?_,rfl⟩⟩));rw [List.mem_zipIdx_iff_getElem?];exact h
 .have:(p,qs.map (baseT L M))∈putsL R L M:=O3 _ (List.mem_filterMap.mpr ⟨z,hz,by rw [if_pos e,ez];rfl⟩)
  rw [eF nd this];refine fY fun q hq=>?_
  rw [hb q (pt z hz e q (by rw [ez];exact hq))];rfl
theorem alk{g:Str->Str}{PL:List (Str×Str)}(nc:NC fg g PL):PL.Pairwise fun a b=>a.1=b.1->b.2∈bL:=by
 rw [m9];intro i j hi hj fD e;refine (nc j PL[j].1 PL[j].2 (by rw [L8 hj])).2.1 ?_;rw [<- e];refine D4.mpr ⟨PL[i],?_,rfl⟩;rw [List.mem_take_iff_getElem];exact ⟨i,by lia,rfl⟩
theorem eG{g:Str->Str}{PL:List (Str×Str)}(nc:NC fg g PL){j:Str}(h:(p,j)∈PL):g p=j:=by
 obtain ⟨i,hi,e⟩:=V7.mp h;exact (nc i p j (by rw [L8 hi,e])).1.symm
theorem wF{g:Str->Str}{PL:List (Str×Str)}(nc:NC fg g PL){j:Str}(hj:j∉bL):((PL.filter fun e=>decide (e.2=j)).map (·.1)).Nodup:=by
 rw [Z2,List.pairwise_map];refine List.Pairwise.imp_of_mem ?_ ((alk nc).filter _);intro a b _ hb h e
 have:=h e
 have hb2:b.2=j:=by simpa using (N1.mp hb).2
 rw [hb2] at this;exact hj this
theorem kX{w:Str}(h:bM w):(jobD w=("great" : Str)↔w="great")/\(jobD w=("as" : Str)↔w="as")/\(jobD w=("letter" : Str)↔w="row")/\(jobD w=("mark" : Str)↔w="marks")/\(jobD w=("over" : Str)↔w="over"):=by
 rcases h with rfl | rfl | rfl | rfl | rfl <;> decide +kernel
theorem mem_pairs{R:List Rl}{j:Str} : (p,j)∈C8 R↔∃ z∈R,p∈G4 z/\jobD z.1=j:=by
 unfold C8;rw [Z6]
 constructor
 .rintro ⟨z,hz,h⟩;obtain ⟨q,hq,e⟩:=D4.mp h;obtain ⟨rfl,rfl⟩:=Prod.mk.inj e;exact ⟨z,hz,hq,rfl⟩
 .rintro ⟨z,hz,hp,rfl⟩;exact ⟨z,hz,D4.mpr ⟨p,hp,rfl⟩⟩
theorem wG(z:Rl)(R:List Rl):C8 (z::R)=((G4 z).map fun p=>(p,jobD z.1))++C8 R:=by
 unfold C8;rw [v2]
theorem j4{z:Rl} : (z.1=("great" : Str)->G4 z=z.2.drop 1)/\(z.1=("as" : Str)->G4 z=z.2.take 1)/\(z.1=("row" : Str)\/z.1=("marks" : Str)\/z.1=("over" : Str)->G4 z=z.2):=by
 unfold G4;refine ⟨fun h=>by rw [if_pos h],fun h=>?_,fun h=>?_⟩
 .rw [if_neg (by rw [h];decide +kernel),if_pos h]
 .rw [if_neg,if_neg,if_pos h]
  .rcases h with h | h | h <;> rw [h] <;> decide +kernel
  .rcases h with h | h | h <;> rw [h] <;> decide +kernel
theorem hG:∀ R:List Rl,((C8 R).filter fun e=>decide (e.2=("great" : Str))).map (·.1)=(J9 R).flatMap (·.2)
 | []=>rfl
 | z::R=>by
  rw [wG,V9,F8,hG R];have e:J9 (z::R)=J9 [z]++J9 R:=kT [z] R;rw [e,V8]
  congr 1
  by_cases h:z.1=("great" : Str)
  .obtain ⟨w,ps⟩:=z;obtain rfl:w=("great" : Str):=h;rw [j4.1 rfl,List.filter_eq_self.mpr,o0]
   .cases ps with
    | nil=>simp [J9]
    | cons y fs=>
     rw [oR];show List.map _ fs=_;simp [Function.comp_def]
   .intro a ha;obtain ⟨q,_,rfl⟩:=D4.mp ha;exact decide_eq_true (show jobD "great"=("great" : Str) by decide +kernel)
  .rw [kU h,cQ.mpr]
   .rfl
   .intro a ha;obtain ⟨q,hq,rfl⟩:=D4.mp ha
    have:=(kX (gY hq)).1
    simp only [decide_eq_true_eq];exact fun e=>h (this.mp e)
theorem kY:∀ R:List Rl,((C8 R).filter fun e=>decide (e.2=("as" : Str))).map (·.1)=asKs R
 | []=>rfl
 | z::R=>by
  rw [wG,V9,F8,kY R];have e:asKs (z::R)=asKs [z]++asKs R:=by unfold asKs;rw [<- List.filterMap_append];rfl
  rw [e]
  congr 1
  by_cases h:z.1=("as" : Str)
  .obtain ⟨w,ps⟩:=z;obtain rfl:w=("as" : Str):=h;rw [j4.2.1 rfl,List.filter_eq_self.mpr,o0]
   .cases ps with
    | nil=>simp [asKs]
    | cons y fs=>
     rw [wC];rfl
   .intro a ha;obtain ⟨q,_,rfl⟩:=D4.mp ha;exact decide_eq_true (show jobD "as"=("as" : Str) by decide +kernel)
  .rw [wB h,cQ.mpr]
   .rfl
   .intro a ha;obtain ⟨q,hq,rfl⟩:=D4.mp ha
    have:=(kX (gY hq)).2.1
    simp only [decide_eq_true_eq];exact fun e=>h (this.mp e)
theorem wH{R:List Rl}{w:Str} : p∈(rowsW R w).flatten↔∃ z∈R,z.1=w/\p∈z.2:=by
 unfold rowsW;rw [gA]
 constructor
 .rintro ⟨l,hl,hp⟩;obtain ⟨z,hz,rfl⟩:=D4.mp hl;obtain ⟨h1,h2⟩:=N1.mp hz;exact ⟨z,h1,by simpa using h2,hp⟩
 .rintro ⟨z,hz,e,hp⟩;exact ⟨z.2,D4.mpr ⟨z,N1.mpr ⟨hz,by simpa using e⟩,rfl⟩,hp⟩
theorem mem_letter{R:List Rl} : (p,("letter" : Str))∈C8 R↔p∈(rowsW R "row").flatten:=by
 rw [mem_pairs,wH]
 constructor
 .rintro ⟨z,hz,hp,e⟩
  have:=(kX (gY hp)).2.2.1.mp e
  exact ⟨z,hz,this,by rw [j4.2.2 (.inl this)] at hp;exact hp⟩
 .rintro ⟨z,hz,e,hp⟩;exact ⟨z,hz,by rw [j4.2.2 (.inl e)];exact hp,by rw [e];decide +kernel⟩
theorem mem_mark{R:List Rl} : (p,("mark" : Str))∈C8 R↔p∈(rowsW R "marks").flatten:=by
 rw [mem_pairs,wH]
 constructor
 .rintro ⟨z,hz,hp,e⟩
  have:=(kX (gY hp)).2.2.2.1.mp e
  exact ⟨z,hz,this,by rw [j4.2.2 (.inr (.inl this))] at hp;exact hp⟩
 .rintro ⟨z,hz,e,hp⟩;exact ⟨z,hz,by rw [j4.2.2 (.inr (.inl e))];exact hp,by rw [e];decide +kernel⟩
theorem mem_toldF{zss:List (List Str)} : p∈toldL zss↔p∈zss.flatten:=by
 unfold toldL;rw [kJ,x8]
 simp
theorem y0{R:List Rl}{w:Str}(h:c9 R w L) : p∈L↔p∈(rowsW R w).flatten:=by
 rw [<- mem_toldF];exact ⟨h.1.sub,h.2 p⟩
structure GoodR(g:Str->Str)(r1 r2:Str->Nat)(R:List Rl):Prop where
 len:R.length<=1000
 plen:(C8 R).length<=10000
 nc:NC (hasW R "figures") g (C8 R)
 nb:(" " : Str)∉(C8 R).map (·.1)
 zl:∀ z∈R,z.2.length<=1000
 ne:∀ z∈R,z.1=("as" : Str)\/z.1=("great" : Str)->z.2≠[]
 gl:∀ z∈R,z.1=("great" : Str)->∀ p∈z.2.take 1,(p,("letter" : Str))∈C8 R
 al:∀ z∈R,z.1=("as" : Str)->∀ p∈(z.2.drop 1).take 1,(p,("letter" : Str))∈C8 R
 am:∀ z∈R,z.1=("as" : Str)->∀ p∈z.2.drop 2,(p,("letter" : Str))∈C8 R\/(p,("mark" : Str))∈C8 R
 f1:(rowsW R "row").flatten.length<=10000
 f2:(rowsW R "marks").flatten.length<=10000
 a1:∀ e∈edges (rowsW R "row"),r1 e.1<r1 e.2
 a2:∀ e∈edges (rowsW R "marks"),r2 e.1<r2 e.2
theorem forms_mem{R:List Rl}{y f:Str} : f∈E2 R y↔∃ e∈J9 R,e.1=y/\f∈e.2:=by
 unfold E2;rw [Z6]
 constructor
 .rintro ⟨e,he,hf⟩;obtain ⟨h1,h2⟩:=N1.mp he;exact ⟨e,h1,by simpa using h2,hf⟩
 .rintro ⟨e,he,h,hf⟩;exact ⟨e,N1.mpr ⟨he,by simpa using h⟩,hf⟩
theorem mem_formKs{R:List Rl}{y:Str} : y∈D7 R↔∃ e∈J9 R,e.1=y:=by
 unfold D7;rw [x8,D4]
 simp
theorem wI{g:Str->Str}{r1 r2:Str->Nat}{R:List Rl}(h:GoodR g r1 r2 R)(hL:c9 R "row" L)(hM:c9 R "marks" M):(allKs R L M).Nodup:=by
 have Z:((J9 R).flatMap (·.2)).Nodup:=by rw [<- hG];exact wF h.nc (by decide +kernel)
 have jl:∀ p∈L,g p="letter":=fun p hp=>eG h.nc (mem_letter.mpr ((y0 hL).mp hp))
 have jm:∀ p∈M,g p="mark":=fun p hp=>eG h.nc (mem_mark.mpr ((y0 hM).mp hp))
 have jf:∀ p∈(D7 R).flatMap (E2 R),g p="great":=fun p hp=>by
  obtain ⟨y,_,hp⟩:=Z6.mp hp;obtain ⟨e,he,_,hf⟩:=forms_mem.mp hp
  have:p∈(J9 R).flatMap (·.2):=Z6.mpr ⟨e,he,hf⟩
  rw [<- hG] at this;obtain ⟨⟨q,j⟩,hq,rfl⟩:=D4.mp this;obtain ⟨h1,h2⟩:=N1.mp hq;have h2:j=("great" : Str):=by simpa using h2
  subst h2;exact eG h.nc h1
 have ja:∀ p∈asKs R,g p="as":=fun p hp=>by
  rw [<- kY] at hp;obtain ⟨⟨q,j⟩,hq,rfl⟩:=D4.mp hp;obtain ⟨h1,h2⟩:=N1.mp hq;have h2:j=("as" : Str):=by simpa using h2
  subst h2;exact eG h.nc h1
 have nf:((D7 R).flatMap (E2 R)).Nodup:=by
  rw [Z2,List.pairwise_flatMap] at Z ⊢
  obtain ⟨z1,z2⟩:=Z;refine ⟨fun y _=>?_,?_⟩
  .unfold E2;rw [List.pairwise_flatMap];exact ⟨fun e he=>z1 e (N1.mp he).1,z2.filter _⟩
  .have nk:(D7 R).Nodup:=by unfold D7;exact oE (by simp)
   refine List.Pairwise.imp ?_ (Z2.mp nk);intro y y' hyy f hf f' hf' e;subst e;obtain ⟨e1,h1,r1,f1⟩:=forms_mem.mp hf;obtain ⟨e2,h2,r2,f2⟩:=forms_mem.mp hf';obtain ⟨i,hi,q1⟩:=V7.mp h1;obtain ⟨j,hj,q2⟩:=V7.mp h2;rw [m9] at z2
   rcases Nat.lt_trichotomy i j with c | c | c
   .exact z2 i j hi hj c f (by rw [q1];exact f1) f (by rw [q2];exact f2) rfl
   .subst c;exact hyy (by rw [<- r1,<- r2,<- q1,<- q2])
   .exact z2 j i hj hi c f (by rw [q2];exact f2) f (by rw [q1];exact f1) rfl
 have na:(asKs R).Nodup:=by rw [<- kY];exact wF h.nc (by decide +kernel)
 have n1:("letter" : Str)≠"mark"/\("letter" : Str)≠"great"/\("letter" : Str)≠"as"/\("mark" : Str)≠"great"/\("mark" : Str)≠"as"/\("great" : Str)≠"as":=by decide +kernel
 unfold allKs;rw [n6,n6,n6];refine ⟨⟨⟨hL.1.nodup,hM.1.nodup,fun a ha b hb e=>?_⟩,nf,fun a ha b hb e=>?_⟩,na,fun a ha b hb e=>?_⟩
 .subst e;exact n1.1 ((jl a ha).symm.trans (jm a hb))
 .subst e
  rcases J3.mp ha with ha | ha
  .exact n1.2.1 ((jl a ha).symm.trans (jf a hb))
  .exact n1.2.2.2.1 ((jm a ha).symm.trans (jf a hb))
 .subst e
  rcases J3.mp ha with ha | ha
  .rcases J3.mp ha with ha | ha
   .exact n1.2.2.1 ((jl a ha).symm.trans (ja a hb))
   .exact n1.2.2.2.2.1 ((jm a ha).symm.trans (ja a hb))
  .exact n1.2.2.2.2.2 ((jf a ha).symm.trans (ja a hb))
theorem alm{g:Str->Str}{r1 r2:Str->Nat}{R:List Rl}(h:GoodR g r1 r2 R)(hL:c9 R "row" L)(hM:c9 R "marks" M):Made R L M (stepF R L M):=by
 refine alj (wI h hL hM) (fun y hy=>?_) h.ne fun z hz e q hq=>?_
 .obtain ⟨e,he,rfl⟩:=mem_formKs.mp hy;unfold J9 at he;obtain ⟨z,hz,hh⟩:=List.mem_filterMap.mp he
  by_cases hg:z.1=("great" : Str)
  .rw [if_pos hg] at hh;obtain ⟨w,ps⟩:=z
   cases ps with
   | nil=>cases hh
   | cons y fs=>
    have hh:=Option.some.inj hh;rw [<- hh];exact (y0 hL).mpr (mem_letter.mp (h.gl _ hz hg y (by simp)))
  .rw [if_neg hg] at hh;cases hh
 .rw [<- X2 1 (z.2.drop 1)] at hq
  rcases J3.mp hq with hq | hq
  .exact .inl ((y0 hL).mpr (mem_letter.mp (h.al z hz e q hq)))
  .rw [List.drop_drop] at hq
   rcases h.am z hz e q hq with h1 | h1
   .exact .inl ((y0 hL).mpr (mem_letter.mp h1))
   .exact .inr ((y0 hM).mpr (mem_mark.mp h1))
theorem aln{g:Str->Str}{r1 r2:Str->Nat}{R:List Rl}(h:GoodR g r1 r2 R)(hL:c9 R "row" L)(hM:c9 R "marks" M):(allKs R L M).length<=10000:=by
 refine F6 ?_ h.plen
 have:=List.Nodup.length_le_of_subset (l₂:=(C8 R).map (·.1)) (wI h hL hM) fun p hp=>by
  unfold allKs at hp
  rcases J3.mp hp with hp | hp
  .rcases J3.mp hp with hp | hp
   .rcases J3.mp hp with hp | hp
    .exact D4.mpr ⟨_,mem_letter.mpr ((y0 hL).mp hp),rfl⟩
    .exact D4.mpr ⟨_,mem_mark.mpr ((y0 hM).mp hp),rfl⟩
   .obtain ⟨y,_,hp⟩:=Z6.mp hp;obtain ⟨e,he,_,hf⟩:=forms_mem.mp hp
    have:p∈(J9 R).flatMap (·.2):=Z6.mpr ⟨e,he,hf⟩
    rw [<- hG] at this;obtain ⟨q,hq,rfl⟩:=D4.mp this;exact D4.mpr ⟨q,(N1.mp hq).1,rfl⟩
  .rw [<- kY] at hp;obtain ⟨q,hq,rfl⟩:=D4.mp hp;exact D4.mpr ⟨q,(N1.mp hq).1,rfl⟩
 rw [A8] at this;exact this
theorem ahH{g:Str->Str}{r1 r2:Str->Nat}{R:List Rl}(h:GoodR g r1 r2 R)(i:Nat)(y:Str):(E2 (R.take i) y).length<=10000:=by
 refine F6 ?_ h.plen;have h1:(E2 (R.take i) y).length<=((J9 (R.take i)).flatMap (·.2)).length:=by
  unfold E2;generalize J9 (R.take i)=E
  induction E with
  | nil=>exact C6 _
  | cons e E ih=>
   rw [gC]
   split
   .rw [v2,v2,E4,E4];lia
   .rw [v2,E4];lia
 have h2:((J9 (R.take i)).flatMap (·.2)).length<=(C8 (R.take i)).length:=by
  rw [<- hG,A8];exact jS _ _
 obtain ⟨more,e⟩:=vL R i;rw [e,E4];lia
theorem IsMade.mod{d:Addr}{F:Str->List Tr}{o o':HO}(h:IsMade H d ks F)(ha:H a=some o')(hn:∀ xs,o'≠.tup xs)(nd:d≠a):IsMade (A0 H a o) d ks F:=
 let ⟨ad,h1,h2⟩:=h
 ⟨ad,by rw [A9 nd];exact h1,fun y hy=>(h2 y hy).put ha hn⟩
structure IsOrd(C:Addr)(H:Hp)(x j ll ml md:Addr)(g:Str->Str)(R:List Rl)(L M:List Str):Prop where
 ob:∃ dx,H x=some (.ins C dx (ordF (hasW R "figures") (hasW R "behind") j ll ml md))
 jobs:H j=some (.dK (C1 (keysP (C8 R)++Q9 R) (jobG g)))
 lets:H ll=some (.lst (L.map V.str))
 mrks:H ml=some (.lst (M.map V.str))
 made:IsMade H md (J8 [] (allKs R L M)) (stepF R L M)
 l1:c9 R "row" L
 l2:c9 R "marks" M
noncomputable def oW (C:Addr):Sp:=fun vs H Q _=>∃ (x j ll ml md:Addr) (g:Str->Str) (R:List Rl) (L M:List Str),vs=[.ref x]/\IsOrd C H x j ll ml md g R L M/\∀ l,H l=none->Q (.ref l) (A0 H l (.lst (L.map V.str)))
end L2
set_option maxRecDepth 100000
namespace L2
open PySem PySem.Spec PyProof.Rows
structure RulesAt(H0 H:Hp)(a:Addr)(ts:List Addr)(R:List Rl):Prop where
 rows:IsRules H a ts R
 nd:(a::ts).Nodup
 new:∀ r∈a::ts,H0 r=none
 same:Same H0 H
theorem RulesAt.live{R:List Rl}(h:RulesAt H0 H a rs R)(hr:r∈a::rs):∃ o,H r=some o:=by
 rcases F9.mp hr with h' | h'
 .subst h';exact ⟨_,h.rows.top⟩
 .obtain ⟨i,hi,rfl⟩:=V7.mp h';obtain ⟨zs,_,h2⟩:=Paired.at h.rows.row (i:=i) (a:=rs[i]) (by simp [hi]);exact ⟨_,h2⟩
theorem RulesAt.grow{q:Addr}{R:List Rl}(h:RulesAt H0 H a rs R)(S:Same H H')(hq:H q=none){z:Rl}(U0:H' q=some (tupR z)):RulesAt H0 (A0 H' a (.lst (rs.map V.ref++[V.ref q]))) a (rs++[q]) (R++[z]):=by
 have nq:∀ r∈a::rs,r≠q:=fun r hr e=>by
  obtain ⟨o,e'⟩:=h.live hr;rw [e,hq] at e';cases e'
 obtain ⟨na,_⟩:=W0.mp h.nd;refine ⟨⟨by rw [A7,F8];rfl,?_⟩,?_,?_,?_⟩
 .refine Paired.snoc (nW h.rows.row fun r hr zs h=>?_) ?_
  .rw [A9 (fun e:r=a=>na (by rw [<- e];exact hr))];exact S _ _ h
  .rw [A9 (nq a M5).symm];exact U0
 .show (a::(rs++[q])).Nodup;exact nQ h.nd fun e=>nq q e rfl
 .intro r hr
  rcases F9.mp hr with e | e
  .exact h.new r (by rw [e];exact M5)
  .rcases J3.mp e with e | e
   .exact h.new r (M6 _ e)
   .rw [G5.mp e];exact h.same.free hq
 .exact (h.same.trans S).put (h.new a M5)
theorem aff{F:Addr->Rl->Prop}{l₂:List Rl}(h:Paired F zx l₂):∀ k,Paired F (zx.take k) (l₂.take k):=by
 induction h with
 | nil=>intro k;rw [List.take_nil,List.take_nil];exact .nil
 | cons h t ih=>intro k;cases k with
  | zero=>exact .nil
  | succ k=>exact .cons h (ih k)
theorem afg{F:Addr->Rl->Prop}{l₂:List Rl}(h:Paired F zx l₂):∀ k,Paired F (zx.drop k) (l₂.drop k):=by
 induction h with
 | nil=>intro k;rw [List.drop_nil,List.drop_nil];exact .nil
 | cons h t ih=>intro k;cases k with
  | zero=>exact .cons h t
  | succ k=>exact ih k
theorem alo{l:Addr}{ts:List Addr}{R:List Rl}(h:IsRules H b ts R)(k:Nat)(n:H l=none):IsRules (A0 H l (.lst ((ts.take k).map V.ref))) l (ts.take k) (R.take k):=⟨A7,aff (Q7 h.row fun _ _ e=>C9 e n) k⟩
theorem ahI{l:Addr}{ts:List Addr}{R:List Rl}(h:IsRules H b ts R)(k:Nat)(n:H l=none):IsRules (A0 H l (.lst ((ts.drop k).map V.ref))) l (ts.drop k) (R.drop k):=⟨A7,afg (Q7 h.row fun _ _ e=>C9 e n) k⟩
noncomputable def oX (ns:List Int) (k:Int) (p:Str):Prop:=∃ rest:List Nat,p.cps.toList=eC ns k::rest/\rest.length<=1/\∀ c∈rest,∃ m:Int,c=eC ns m
noncomputable def wJ (ns:List Int) (S:Int->Prop) (p:Str):Prop:=∃ k,S k/\oX ns k p
structure Dis(ns:List Int)(S:Int->Prop)(ps:List Str):Prop where
 nd:ps.Nodup
 pc:∀ p∈ps,wJ ns S p
 uq:∀ p∈ps,∀ q∈ps,∀ k:Int,20<=k->k<83->oX ns k p->oX ns k q->p=q
noncomputable def LetS (k:Int):Prop:=0<=k/\k<16
structure LetW(ns:List Int)(n:Int)(ps:List Str):Prop where
 n0:2<=n
 n1:n<=16
 all:∀ k:Int,0<=k->k<n->one (eC ns k)∈ps
 each:∀ p∈ps,∃ k:Int,0<=k/\k<n/\(p=one (eC ns k)\/∃ m:Int,0<=m/\m<n/\p=one (eC ns k)++one (eC ns m))
noncomputable def OthZ (ls ms:List Str) (z:Rl):Prop:=(z.1=("great" : Str)/\∃ l fs,z.2=l::fs/\l∈ls/\1<=fs.length/\fs.length<=2)\/(z.1=("as" : Str)/\∃ p q qs,z.2=p::q::qs/\q∈ls/\(∀ r∈qs,r∈ls\/r∈ms)/\qs.length<=2)\/(z.1=("over" : Str)/\z.2.length<=2)
noncomputable def GS (i:Nat) (k:Int):Prop:=(30<=k/\k<30+(i:Int))\/(34<=k/\k<34+(i:Int))
noncomputable def AS (i:Nat) (k:Int):Prop:=GS 3 k\/(40<=k/\k<40+(i:Int))
noncomputable def OS (k:Int):Prop:=AS 3 k\/(50<=k/\k<52)
structure AsR(ls ms:List Str)(H0 H:Hp)(t:Addr)(p:Str)(qs:List Str)(j:Nat):Prop where
 same:Same H0 H
 tup:H t=some (tupR ("as",p::qs))
 new:H0 t=none
 len:qs.length=j
 ok:∀ i q,qs[i]?=some q->q∈ls\/(0<i/\q∈ms)
noncomputable def MarkS (k:Int):Prop:=20<=k/\k<25
noncomputable def flagW (w:Str):Prop:=w=("figures" : Str)\/w=("behind" : Str)\/w=("blanks" : Str)
structure RulP(ns:List Int)(ls ms:List Str)(b:Bool)(n:Nat)(R:List Rl):Prop where
 dis:Dis ns (fun k=>LetS k\/OS k\/(b=true/\MarkS k)) ((C8 R).map (·.1))
 row:rowsW R "row"=[ls]
 mrk:rowsW R "marks"=if b=true then [ms] else []
 each:∀ z∈R,z=(("row" : Str),ls)\/(z=(("marks" : Str),ms)/\b=true)\/OthZ ls ms z\/(z.2=[]/\flagW z.1)
 len:R.length<=n
 fig:hasW R "figures"=true->oM ns=false
 oi:∀ z∈R,OthZ ls ms z->∀ p∈G4 z,wJ ns OS p
theorem ahJ(z:Rl):(G4 z).length<=z.2.length:=by
 unfold G4
 split
 .rw [i4];lia
 .split
  .rw [L9];lia
  .split
   .exact C6 _
   .exact J4 _
structure RulG(ns:List Int)(ls ms:List Str)(R:List Rl):Prop where
 p:∃ b,RulP ns ls ms b 12 R/\(b=false->ms=[])
 l0:2<=ls.length
 l1:ls.length<=19
 ld:Dis ns LetS ls
 lw:∃ n,LetW ns n ls
 m1:ms.length<=4
 md:Dis ns MarkS ms
noncomputable def spLaw (K:PySem.W.Frag):Sp:=fun vs H Q _=>∃ (a:Addr) (ns:List Int),vs=[.ref a]/\D5 K H a (ns.map V.int)/\ns.length<=63/\∀ H',Q (.bl true) H'
end L2
set_option maxRecDepth 100000
namespace L2
open PySem PySem.Spec PyProof.Rows
end L2
set_option maxRecDepth 100000
namespace L2
open PySem PySem.Spec PyProof.Rows
open PySem.Builtin PySem.Builtin.Str PySem.StrLaws
end L2
set_option maxRecDepth 100000
namespace L2
open PySem PySem.Spec PyProof.Rows
noncomputable abbrev kZ:=Int×Int×List Int×Int
noncomputable def UnAt (H:Hp) (e:Addr×Addr) (u:kZ):Prop:=H e.1=some (.tup [.int u.1,.int u.2.1,.ref e.2,.int u.2.2.2])/\H e.2=some (.lst (u.2.2.1.map V.int))
structure UnI(H0 H:Hp)(l:Addr)(es:List (Addr×Addr))(U:List kZ):Prop where
 top:H l=some (.lst (es.map fun e=>V.ref e.1))
 row:Paired (UnAt H) es U
 nd:(l::es.map (·.2)).Nodup
 new:∀ a∈l::es.map (·.2),H0 a=none
 same:Same H0 H
end L2
variable {R:List L2.Rl}
set_option maxRecDepth 100000
namespace L2
open PySem PySem.Spec PyProof.Rows
structure StepL(H:Hp)(r:Addr)(ss:List Tr):Prop where
 ex:∃ ts:List Addr,H r=some (.lst (ts.map V.ref))/\Paired (fun t s=>H t=some (tupT s)) ts ss
noncomputable def IsMk (H:Hp) (d:Addr) (ks:List Str) (F:Str->List Tr):Prop:=∃ ad:Str->Addr,H d=some (.dK (C1 ks fun y=>.ref (ad y)))/\∀ y∈ks,StepL H (ad y) (F y)
structure MkI(H H2:Hp)(d:Addr)(P:List Str)(F:Str->List Tr):Prop where
 same:Same H H2
 made:IsMk H2 d (J8 [] P) F
theorem bN{w:Str}{z:Rl}(h:R[i]?=some z):(rowsW (R.take (i+1)) w).flatten=if z.1=w then (rowsW (R.take i) w).flatten++z.2 else (rowsW (R.take i) w).flatten:=by
 rw [oJ h]
 by_cases e:z.1=w
 .rw [if_pos e,if_pos e,List.flatten_append];simp
 .rw [if_neg e,if_neg e]
theorem mZ{t:Addr}(hT:D0 K H t xs)(q:∀ p H',Same H H'->D0 K H' p (xs.take 2)->Q (.ref p) H'):rSlR K t none (some 2) H Q:=by
 by_cases h:xs.length<=2
 .refine rSlR.w hT ⟨rfl,?_⟩ (q t H (P2 H) (by rw [Z4 h];exact hT));rw [show ((2:Int))=((2:Nat):Int) from rfl,HT.sIx_nat];lia
 .refine rSlR.t hT (fun e=>?_) fun p np=>q p _ (Same.new np) (.of ?_)
  .have:=e.2
   rw [show ((2:Int))=((2:Nat):Int) from rfl,HT.sIx_nat] at this;lia
  .rw [A7,show cutV xs none (some 2)=_ from uT xs 2]
noncomputable def UnT (H:Hp) (e:Addr×Addr) (u:kZ):Prop:=H e.1=some (.tup [.int u.1,.int u.2.1,.ref e.2,.int u.2.2.2])/\H e.2=some (.tup (u.2.2.1.map V.int))
structure UnJ(H0 H:Hp)(l:Addr)(es:List (Addr×Addr))(U:List kZ):Prop where
 same:Same H0 H
 new:H0 l=none
 top:H l=some (.lst (es.map fun e=>V.ref e.1))
 row:Paired (UnT H) es U
theorem q_pow : QOp X (binaryOp .Pow) (rI CPow fun i j=>.int (i ^ j.toNat)):=⟨al9⟩
end L2
set_option maxRecDepth 100000
namespace L2
open PySem PySem.Spec PyProof.Rows
section
variable {prog:Program} {w:World} {K:Type} [DecidableEq K] {knd:KeyKind prog w K}
noncomputable def addK (O:List K) (k:K):List K:=if k∈O then O else O++[k]
noncomputable def metN (f:Nat->K):Nat->List K
 | 0=>[]
 | i+1=>addK (metN f i) (f i)
theorem wK(O:List K)(k:K):(addK O k).length=if decide (k∈O)=true then O.length else O.length+1:=by
 unfold addK;by_cases h:k∈O <;> simp [h]
theorem wL(O:List K)(k j:K):decide (j∈addK O k)=(decide (j∈O) || decide (j=k)):=by
 unfold addK
 by_cases h:k∈O
 .rw [if_pos h]
  by_cases e:j=k
  .subst e;simp [h]
  .simp [e]
 .rw [if_neg h];simp [J3]
theorem wM(f:Nat->K):∀ i,(metN f i).length<=i
 | 0=>C6 _
 | i+1=>by
  have:=wM f i
  show (addK (metN f i) (f i)).length<=i+1;rw [wK];split <;> lia
noncomputable abbrev SetK (knd:KeyKind prog w K) (h:Heap) (a:Addr) (O:List K):Prop:=h.SetOf knd a (fun k=>decide (k∈O)) O.length
theorem oY{S:K->Bool}(x:h.SetOf knd a S n)(k:∀ o,h.get? a=some o->h'.get? a=some o):h'.SetOf knd a S n:=by
 obtain ⟨o,es,ep,t,ho,r⟩:=x;exact ⟨o,es,ep,t,k o ho,r⟩
theorem ajd{O:List K}{k:K}(x:h.SetOf knd a (fun k'=>decide (k'∈O) || decide (k'=k)) (if decide (k∈O)=true then O.length else O.length+1)):SetK knd h a (addK O k):=by
 have e:(fun k'=>decide (k'∈O) || decide (k'=k))=fun k'=>decide (k'∈addK O k):=funext fun j=>(wL O k j).symm
 rw [e,<- wK] at x;exact x
end
section
variable {prog:Program} {w:World} {A:Around} {R:Result->Shared->Prop} {I:Addr} {fp wr:List Addr} {G:Array GenState->Array GenState->Prop} {n:Nat} {P:Nat->Value->Prop} {St:Nat->Shared->Prop}
variable {K:Type} [DecidableEq K] {knd:KeyKind prog w K}
theorem aje(W:WalksS prog w A.in1 I fp wr G n P St)(a:Addr)(mC:a∉fp)(f:Nat->K)(hP:∀ i v,P i v->knd.is (f i) v=true/\v.scannable=true)(hb:n+1<scanBound) :
  ∀ (k i:Nat) (s:Shared),n-i=k->i<=n->St i s->SetK knd s.heap a (metN f i)->(∀ s',Moved (a::wr) G s s'->SetK knd s'.heap a (metN f n)->R (.ok (.ret .none)) s')->
   codeAny (model prog w) A (.builtin "set.update.loop" ⟨[.ref a,.ref I],[]⟩) R s:=by
 have haw:a∉wr:=fun h=>mC (W.sub _ h)
 have f9:∀ b∈wr,b∈a::wr:=fun b hb=>M6 _ hb
 intro k
 induction k with
 | zero=>
  intro i s iQ hi U6 hD hR;obtain rfl:i=n:=by lia
  refine codeAny_builtin PyProof.Rows.F.entry_set_update_loop ?_;rw [Around.under_plainId PyProof.Rows.F.plain_set_update_loop _];show wpAny _ A.in1 (pyNext (.ref I) >>= _) _ _ s;refine wpAny_bind (W.done s _ _ U6 fun s' hm=>?_);exact wpAny_pure (hR s' (hm.mono f9) (oY hD fun o ho=>hm.heap a o haw ho))
 | succ k ih=>
  intro i s iQ hi U6 hD hR;have D1:i<n:=by lia
  refine codeAny_builtin PyProof.Rows.F.entry_set_update_loop ?_;rw [Around.under_plainId PyProof.Rows.F.plain_set_update_loop _];show wpAny _ A.in1 (pyNext (.ref I) >>= _) _ _ s;refine wpAny_bind (W.item i s _ _ D1 U6 fun v s' hv cC hm=>?_);obtain ⟨hk,hsc⟩:=hP i v hv;have hD':SetK knd s'.heap a (metN f i):=oY hD fun o ho=>hm.heap a o haw ho
  show wpAny _ A.in1 (holding [v] (setAdd a v) >>= _) _ _ s';refine wpAny_bind (wpAny_holding ?_);unfold setAdd;refine wpAny_holding (wpAny_bind (knd.pyHash (k:=f i) hk ?_));have hl:=wM f i;refine wpAny_setAddHashed_of (s:={ s' with toks:=s'.toks+1 }) hk hsc hD' (by lia) fun h' fB hD2=>?_
  refine wpAny_pure ⟨plainId_quiet PyProof.Rows.F.plain_set_update_loop _,ih (i+1) _ (by lia) D1 (W.frame _ s' _ _ cC (Nat.le_succ _) fun b hb o e=>?_) (ajd hD2) fun s'' hm'' hD''=>?_⟩
  .rw [fB.2 b (fun h:b=a=>mC (by rw [<- h];exact hb))];exact e
  .refine hR s'' (Moved.trans W.gtrans ((hm.mono f9).then_heap (Nat.le_succ _) fun b o hb e=>?_) hm'') hD'';rw [fB.2 b (fun h:b=a=>hb (by rw [h];exact M5))];exact e
end
section
variable {prog:Program} {w:World} {A:Around} {E:Value->Shared->Prop} {s:Shared} {K:Type} [DecidableEq K] {knd:KeyKind prog w K}
set_option maxHeartbeats 3200000 in
theorem ajf{l:Addr}{Q:Value->Shared->Prop}(hA:A.handled=none)(hl:s.heap.IsList l items)(f:Nat->K)(hv:∀ (i:Nat) (v:Value),items[i]?=some v->knd.is (f i) v=true/\v.scannable=true)(hb:items.size+1<scanBound)(h:∀ h' tk,SetK knd h' s.heap.objs.size (metN f items.size)->(∀ b o,s.heap.get? b=some o->h'.get? b=some o)->Q (.ref s.heap.objs.size) { s with heap:=h',toks:=tk }) :
  wpAny (model prog w) A (call (.type "set") [.ref l]) Q E s:=by
 obtain ⟨c,tl,m0⟩:=v8.mro;have m1:=v8.made;have m2:=v8.sub;have m3:=v8.notType;have m4:=v8.canCreate;have m5:=PySem.F.typeCall_set_1 (.ref l);refine wpAny_call (codeAny_of_tree ?_);show wpAny _ _ (callAny (.type "set") _) _ _ _;refine wpAny_pure ⟨Code.quiet_builtin _ (by decide +kernel),codeAny_builtin PySem.F.entry_type_call ?_⟩;rw [Around.under_plain (weight_type_call_type "set" [.ref l] []) rfl]
 repeat (any_goals (first | assumption | wp_step))
 refine codeAny_mono (code_set_new_1 (.ref l) (E:=E) (Q₁:=fun v zw=>∃ led:Bool,v=.ref s.heap.objs.size/\zw={ s with heap:=s.heap.push { cls:=.type "set",dict:=none,data:=.set #[] 0 (.fresh 0 0 led) } }) fun led=>⟨led,rfl,rfl⟩) fun r zw z=>?_
 match r,z with
 | .error e,z=>exact z
 | .ok (.ret v),⟨led,e1,e2⟩=>
  subst e1 e2;generalize qT:({ cls:=.type "set",dict:=none,data:=.set #[] 0 (.fresh 0 0 led) } : Obj)=ob;have hS:(s.heap.push ob).get? s.heap.objs.size=some ob:=by rw [<- qT];exact Heap.get?_push_size _ rfl
  have hT:Shared.TypeIs { s with heap:=s.heap.push ob } (.ref s.heap.objs.size) "set":=⟨_,hS,by rw [<- qT]⟩
  have m6:=v8.init.lookup;have m7:=v8.init.bind (.ref s.heap.objs.size)
  repeat (any_goals (first | assumption | wp_step))
  refine codeAny_mono (codeAny_call_builtin (R:=wants (fun r zv=>r=.none/\∃ h' tk,zv={ s with heap:=h',toks:=tk }/\SetK knd h' s.heap.objs.size (metN f items.size)/\∀ b o,s.heap.get? b=some o->h'.get? b=some o) E) v8.init.plain PySem.F.entry_set_init (check_set_init_1 hT ?_)) fun zf zv ze=>?_
  .obtain ⟨⟨oc,od,oda,osl⟩,cD,cI,nl,fF⟩:=hl;simp only at cI fF;subst cI fF;have D1:l<s.heap.objs.size:=Heap.lt_size cD;have qU:(s.heap.push ob).get? l=some { cls:=.type "list",dict:=od,data:=.seq items nl,slots:=osl }:=Heap.get?_push_of_some _ cD;have g1:=PySem.F.sub_list_set;have g2:=PySem.F.sub_list_frozenset;have g3:(Value.type "list" == Value.type "dict")=false:=by decide
   have qQ:(s.heap.push ob).IsList l items:=⟨_,qU,rfl,nl,rfl⟩
   subst qT;unfold Builtin.«set.__init__» noKeywords Builtin.Frozenset.updateFrom;generalize hPI:pyIter=PI
   wp_walk
   subst hPI;refine wpAny_pyIter_list qQ ?_;refine wpAny_bind (wpAny_runValue ?_);have fF:s.heap.objs.size<(s.heap.push { cls:=.type "set",dict:=none,data:=.set #[] 0 (.fresh 0 0 led) }).objs.size:=by rw [Heap.size_push];exact Nat.lt_succ_self _
   have N5:l≠(s.heap.push { cls:=.type "set",dict:=none,data:=.set #[] 0 (.fresh 0 0 led) }).objs.size:=G6 (aW D1 fF);have mC:s.heap.objs.size∉[(s.heap.push { cls:=.type "set",dict:=none,data:=.set #[] 0 (.fresh 0 0 led) }).objs.size,l]:=by
    simp only [F9,cS,or_false,not_or];exact ⟨G6 fF,i7 D1⟩
   refine aje (knd:=knd) ((Walks.list (by simp [hA]) _ l N5 items).toS) s.heap.objs.size mC f hv hb (items.size-0) 0 _ (by lia) (J4 _) ⟨⟨_,Heap.get?_push_size _ rfl,rfl,rfl⟩,qQ.push _⟩ ?_ fun s' hm hD=>?_
   .refine ⟨{ cls:=.type "set",dict:=none,data:=.set #[] 0 (.fresh 0 0 led) },#[],0,_,Heap.get?_push_of_some _ hS,⟨rfl,rfl,rfl⟩,rfl,fun e he=>by simp at he,fun k=>by simp [metN],by decide,rfl,rfl⟩
   .obtain ⟨h',g',d',tk',os'⟩:=s';have eg:g'=s.gens:=hm.gens;have ed:d'=s.drawn:=hm.drawn;have eo:os'=s.os:=hm.os;subst eg ed eo;show wpAny _ _ _ _ _ _;refine wpAny_pure ?_;show wpAny _ _ (ret Value.none) _ _ _;refine wpAny_pure ⟨rfl,h',tk',rfl,hD,fun b o hb=>hm.heap b o ?_ (Heap.get?_push_of_some _ (Heap.get?_push_of_some _ hb))⟩;have g0:b<s.heap.objs.size:=Heap.lt_size hb;simp only [F9,cS,or_false,not_or];exact ⟨G6 g0,G6 (aW g0 fF)⟩
  .match zf,ze with
   | .error e,z=>exact z
   | .ok (.ret v),⟨e1,h',tk,e2,hD,keep⟩=>
    subst e1 e2
    repeat (any_goals (first | assumption | wp_step))
    exact h _ _ hD keep
end
section
variable {prog:Program} {w:World} {A:Around} {E:Value->Shared->Prop} {s:Shared} {K:Type} [DecidableEq K] {knd:KeyKind prog w K}
end
section
variable {prog:Program} {w:World} {A:Around} {E:Value->Shared->Prop} {s:Shared} {K:Type} [DecidableEq K] {knd:KeyKind prog w K}
end
end L2
set_option maxRecDepth 100000
namespace L2
open PySem PySem.Spec PyProof.Rows
noncomputable def SetO (P:Program) (w:World) (a:Addr) (O:List B5):HO:=.ext fun h=>SetK (L5 P w) h a O
theorem alp{P:Program}{w:World}{O:List B5}(x:SetK (L5 P w) h a O):ObjOk P w H h a (SetO P w a O):=
 ⟨x,by obtain ⟨o,_,_,_,ho,_⟩:=x;exact ⟨o,ho⟩,fun _ _ y k=>oY y k⟩
noncomputable def metK (ks:List B5):List B5:=metN (fun i=>ks.getD i (Sum.inl 0)) ks.length
noncomputable def anh (P:Program) (w:World) (K:PySem.W.Frag) (calm:Bool):List V->Hp->VK->Prop:=fun xs H Q=>calm=true/\∃ (p:Addr) (ks:List B5),xs=[.ref p]/\D5 K H p (ks.map kV)/\ks.length+1<4096/\∀ l,H l=none->Q (.ref l) (A0 H l (SetO P w l (metK ks)))
noncomputable def rLenS (P:Program) (w:World):List V->Hp->VK->Prop:=fun xs H Q=>∃ (p:Addr) (O:List B5),xs=[.ref p]/\H p=some (SetO P w p O)/\O.length<4096/\Q (.int O.length) H
section
variable {X:Cx} {P:Program} {w:World} {K:PySem.W.Frag} {calm:Bool}
theorem ajg{k:B5}(h:keyIs k v=true):v.scannable=true:=by
 rcases X7 h with ⟨i,t,rfl,rfl⟩ | ⟨x,t,rfl,rfl⟩ <;> rfl
theorem ani(hP:X.prog=P:=by rfl)(hw:X.w=w:=by rfl)(hK:X.K=K:=by rfl)(hc:X.calm=calm:=by rfl):QCall X (.type "set") (anh P w K calm):=⟨by
 subst hP hw hK;intro pins s O H xs us Q I r h;obtain ⟨cB,p,ks,rfl,hp,B3,q⟩:=h;obtain ⟨u,rfl,rx⟩:=vals1 r
 cases rx
 obtain ⟨its,r',pl,hz⟩:=I.list hp;obtain ⟨ol,nl,cD,iS,zX,U9⟩:=pl;have hl:=r'.length;rw [A8] at hl;have hsz:its.toArray.size=ks.length:=by rw [J2,hl]
 refine ajf (knd:=L5 X.prog X.w) (I.ok.hd (hc.trans cB)) ⟨ol,cD,iS,nl,U9⟩ (fun i=>ks.getD i (Sum.inl 0)) (fun i v hv=>?_) (by rw [hsz];exact B3) fun h' tk hS keep=>?_
 .rw [<- Array.getElem?_toList] at hv;have hi:i<ks.length:=by
   have:=(K1.mp hv).1
   simp only [List.toList_toArray] at this;lia
  obtain ⟨u',h1,h2⟩:=Vals.get r' (i:=i) (x:=kV ks[i]) (by rw [Q5,L8 hi];rfl);have e:u'=v:=by simp only [List.toList_toArray] at hv;rw [h1] at hv;exact Option.some.inj hv
  subst e;have e2:ks.getD i (Sum.inl 0)=ks[i]:=by rw [Z3,L8 hi];rfl
  have hk:(L5 X.prog X.w).is (ks.getD i (Sum.inl 0)) u'=true:=by rw [e2];exact kV_is h2
  exact ⟨hk,ajg hk⟩
 .rw [hsz] at hS;exact ⟨.ref s.heap.objs.size,_,I.laid (t':=tk) keep (C6 _) (alp hS),rfl,q _ (I.hok.fresh (C6 _))⟩⟩
theorem anj(hP:X.prog=P:=by rfl)(hw:X.w=w:=by rfl):QCall X (.builtin "len") (rLenS P w):=⟨by
 subst hP hw;intro pins s O H xs us Q I r h;obtain ⟨p,τ,rfl,hp,B3,q⟩:=h;obtain ⟨u,rfl,rx⟩:=vals1 r
 cases rx
 obtain ⟨o,es,ep,t,ho,hex,hd,fE,hmem,hb,hf,hn⟩:=(I.hok p _ hp).1;have h63:(2:Int) ^ 63=9223372036854775808:=by decide
 refine call_len_set ho hex hd hf (by rw [hn];lia) ?_;rw [hn];exact ⟨.int τ.length,H,(I.tok _),⟨_,rfl⟩,q⟩⟩
end
end L2
set_option maxRecDepth 100000
namespace L2
open PySem PySem.Spec PyProof.Rows
section
variable {prog:Program} {w:World} {A:Around} {E:Value->Shared->Prop} {h:Heap} {g:Array GenState} {d:Drawn} {t:Nat} {os:OsState}
variable {nm q:Str} {C N:Addr} {bs bm bmB:List Value} {O2:Bool} {sn:List Str} {sub:List Value} {ab:Bool} {col:Option Bool} {dd:Option Addr} {k0 k1 k2 k3 k5:Option Value} {B Bn newId nid initId inN:String} {bmN:List Value}
theorem ajh(Fn:ExcBaseFacts Bn newId inN bmN)(hBn:bmB.contains (.type Bn)=true)(F:ExcBaseFacts B nid initId bmB)(T:OwnTail h bmB bm){mN:Str->Option Value}{rest:List Value}{of:Obj}{Q:Value->Shared->Prop}(hC:h.get? C=some (excClassObj nm q C N bs bm O2 sn sub ab col dd k0 k1 k2 k3 k5 newId))(hn:h.Ns N mN)(qV:mN "__init__"=some (.ref f))(qW:h.get? f=some of)(qX:of.cls=.type "function")(U8:rest.length<=sizeLine)(hq:codeAny (model prog w) (A.under (.builtin "type.__call__" ⟨.ref C::rest,[]⟩)) (.call (.ref f) ⟨.ref (h.objs.size+1)::rest,[]⟩) (fun r s'=>match r with | .ok (.ret v)=>v=.none/\Q (.ref (h.objs.size+1)) s' | .ok _=>False | .error e=>E e s')
   ⟨(h.push { cls:=.type "tuple",data:=.seq rest.toArray }).push { cls:=.ref C,data:=.fields #[.ref h.objs.size,.none,.none,.none,.bool false,.none] },g,d,t,os⟩) :
  wpAny (model prog w) A (call (.ref C) rest) Q E ⟨h,g,d,t,os⟩:=by
 have f1:=tc_lookup;have f2:=tc_bind (.ref C);have hT:(⟨h,g,d,t,os⟩:Shared).TypeIs (.ref C) "type":=⟨_,hC,rfl⟩
 refine wpAny_call (codeAny_of_tree ?_);show wpAny _ _ (callAny (.ref C) _) _ _ _
 repeat (any_goals (first | assumption | with_reducible refine wpAny_loadPart_at hC ?_ | wp_step))
 refine ⟨rfl,?_⟩;refine codeAny_call_builtin_at (Code.quiet_builtin _ (by decide +kernel)) entry_typeCall (wpAny_check_type_call_sub hC ?_)
 repeat (first | with_reducible refine wpAny_loadPart_at hC ?_ | with_reducible refine wpAny_madeBy_exc hC ?_ | wp_step)
 refine codeAny_call_builtin_code (Code.quiet_builtin _ Fn.quiet) (wpAny_check_new_subU Fn hBn T hC ?_);refine codeAny_exc_new_subU Fn hBn F T hC ?_ U8;show wpAny _ _ _ _ _ ⟨(h.push { cls:=.type "tuple",data:=.seq rest.toArray }).push { cls:=.ref C,data:=.fields #[.ref h.objs.size,.none,.none,.none,.bool false,.none] },g,d,t,os⟩;generalize hh1:((h.push { cls:=.type "tuple",data:=.seq rest.toArray }).push { cls:=.ref C,data:=.fields #[.ref h.objs.size,.none,.none,.none,.bool false,.none] })=h1 at hq ⊢
 have keep:∀ b o,h.get? b=some o->h1.get? b=some o:=fun b o e=>by rw [<- hh1];exact Heap.get?_push_of_some _ (Heap.get?_push_of_some _ e)
 have hC1:=keep _ _ hC;have hn1:h1.Ns N mN:=let ⟨o,es,ep,e,r⟩:=hn;⟨o,es,ep,keep _ _ e,r⟩
 have qY:h1.get? (h.objs.size+1)=some { cls:=.ref C,data:=.fields #[.ref h.objs.size,.none,.none,.none,.bool false,.none] }:=by rw [<- hh1];heap_get
 have hcC:(Value.ref C::bm).contains (.ref C)=true:=by simp
 have T1:=T.keeps (h':=h1) keep;unfold isInstance
 repeat (first | with_reducible refine wpAny_loadPart_at qY ?_ | (with_reducible refine wpAny_isSubtype_exc hC1 ?_;rw [hcC]) | wp_step)
 show wpAny _ _ (typeLookup (.ref C) _) _ _ _;refine wpAny_typeLookup_tail hC1 hn1 T1 F.mroIs F.init.lookup ?_;rw [qV];show wpAny _ _ (holding _ _) _ _ _;refine wpAny_holding (wpAny_bind (wpAny_bindSpecial_def (keep _ _ qW) qX ?_));refine wpAny_bind (wpAny_call (codeAny_mono hq fun r s' hr=>?_))
 match r,hr with
 | .error e,z=>exact z
 | .ok (.ret v),⟨e1,z⟩=>
  subst e1;refine wpAny_pure ?_;show wpAny _ _ (ret _) _ _ _;exact wpAny_pure z
end
end L2
set_option maxRecDepth 100000
namespace L2
open PySem PySem.Spec PyProof.Rows
section
variable {prog:Program} {w:World} {A:Around} {E:Value->Shared->Prop} {h:Heap} {g:Array GenState} {d:Drawn} {t:Nat} {os:OsState}
variable {nm q:Str} {C N:Addr} {bs bm bmB:List Value} {O2:Bool} {sn:List Str} {sub:List Value} {ab:Bool} {col:Option Bool} {dd:Option Addr} {k0 k1 k2 k3 k5:Option Value} {B newId nid initId:String}
noncomputable abbrev Q1 (C t0:Addr) (od:Option Addr):Obj:={ cls:=.ref C,dict:=od,data:=.fields #[.ref t0,.none,.none,.none,.bool false,.none] }
theorem ad4(F:ExcBaseFacts B nid initId bmB)(T:OwnTail h bmB bm){e a0:Addr}{Q:Value->Shared->Prop}(hC:h.get? C=some (excClassObj nm q C N bs bm O2 sn sub ab col dd k0 k1 k2 k3 k5 newId))(he:h.get? e=some (Q1 C a0 od))(hq:∀ h' a1,(∀ b o,b≠e->h.get? b=some o->h'.get? b=some o)->h'.get? e=some (Q1 C a1 od)->Q .none ⟨h',g,d,t,os⟩) :
  wpAny (model prog w) A (call (.builtin initId) [.ref e,v]) Q E ⟨h,g,d,t,os⟩:=by
 refine wpAny_call (codeAny_call_builtin F.init.plain F.initEntry (wpAny_check_init_subU F T hC he rfl ?_))
 wp_walk
 refine hq _ h.objs.size (fun b o hb hbo=>?_) ?_
 .rw [Heap.get?_update_other _ _ (Ne.symm hb)];exact Heap.get?_push_of_some _ hbo
 .rw [Heap.get?_update_self _ (Heap.get?_push_of_some _ he) rfl];rfl
end
end L2
set_option maxRecDepth 100000
namespace L2
open PySem PySem.Spec PyProof.Rows
section
variable {M:Model} {A:Around} {E:Value->Shared->Prop} {env:Env}
theorem ahK{x:Sem Value}{Q:Flow->Shared->Prop}(hh:A.handled=none)(h:wpAny M A x (fun v zw=>∃ (e C t N:Addr) (od:Option Addr) (nm q:Str) (bs bm:List Value) (O2:Bool) (sn:List Str) (sub:List Value) (ab:Bool) (col:Option Bool) (dd:Option Addr) (k0 k1 k2 k3 k5:Option Value) (newId:String),v=.ref e/\
   zw.heap.get? C=some (excClassObj nm q C N bs bm O2 sn sub ab col dd k0 k1 k2 k3 k5 newId)/\bm.contains (.type "BaseException")=true/\zw.heap.get? e=some (Q1 C t od)/\E (.ref e) zw) E s) :
  wpAny M A (raiseStmt env (some x) none) Q E s:=by
 unfold raiseStmt;refine wpAny_bind (wpAny_mono h (fun v zw z=>?_) fun _ _ y=>y);obtain ⟨e,C,t,N,od,nm,q,bs,bm,O2,sn,sub,ab,col,dd,k0,k1,k2,k3,k5,newId,rfl,hC,J0,he,hE⟩:=z;have hcB:(Value.ref C::bm).contains (.type "BaseException")=true:=by rw [List.contains_cons,J0,Bool.or_true]
 obtain ⟨hp,g,d,tk,os⟩:=zw
 repeat (first | with_reducible refine wpAny_loadPart_at he ?_ | with_reducible refine wpAny_loadPart_at hC ?_ | (with_reducible refine wpAny_isSubtype_exc hC ?_;rw [hcB]) | wp_step)
 exact wpAny_raiseNew_none hh hE
end
end L2
set_option maxRecDepth 100000
namespace L2
open PySem PySem.Spec PyProof.Rows PySem.W PySem.Builtin PySem.Builtin.ObjectAttr
noncomputable def p5 (bmB:List Value):List Value->Bool
 | []=>bmB==[]
 | v::r=>(v::r)==bmB || match v with
  | .ref _=>p5 bmB r
  | _=>false
theorem wN{B:String}(SF:StoreFacts B bmB "object.__setattr__" "object")(self:Value):∀ {l:List Value},p5 bmB l=true->refuseLoop self "__setattr__" l=pure ()
 | [],e=>by rw [<- SF.passes self,<- beq_iff_eq.mp e]
 | v::r,e=>by
  unfold p5 at e
  rcases Bool.or_eq_true_iff.mp e with z | z
  .rw [beq_iff_eq.mp z];exact SF.passes self
  .cases v with
   | ref c=>rw [refuseLoop_ref];exact wN SF self z
   | _=>cases z
theorem wO{B:String}(SF:StoreFacts B bmB "object.__setattr__" "object"):∀ {l:List Value},p5 bmB l=true->l.contains (.type "object")=true
 | [],e=>by have:=SF.hasOwner;rw [beq_iff_eq.mp e] at this;exact this
 | v::r,e=>by
  unfold p5 at e
  rcases Bool.or_eq_true_iff.mp e with z | z
  .rw [beq_iff_eq.mp z];exact SF.hasOwner
  .cases v with
   | ref c=>rw [List.contains_cons,wO SF z,Bool.or_true]
   | _=>cases z
section
variable {prog:Program} {w:World} {A:Around} {E:Value->Shared->Prop} {h:Heap} {g:Array GenState} {d:Drawn} {t:Nat} {os:OsState} {K:Frag} {C e t0:Addr} {cd:ClassData} {B:String} {bmB:List Value} {name:Str} {v:Value}
theorem ahL{Q:Unit->Shared->Prop}(SF:StoreFacts B bmB "object.__setattr__" "object")(X:K.In h)(he:h.get? e=some (Q1 C t0 none))(hc:clsIn K C=some cd)(hd:cd.hasDict=true)(ho:p5 bmB cd.mro=true)(hs:findIn K (.ref C) "__setattr__"=some (some (.builtin "object.__setattr__")))(ht:findIn K (.ref C) name=some none)(hq:∀ h' dx tk,h.objs.size<=dx->dx≠e->h'.get? e=some (Q1 C t0 (some dx))->h'.Ns1 dx (fun y=>if y=name then some v else none)->(∀ b o,b≠e->h.get? b=some o->h'.get? b=some o)->Q () ⟨h',g,d,tk,os⟩) :
  wpAny (model prog w) A (setAttr (.ref e) name v) Q E ⟨h,g,d,t,os⟩:=by
 have I:InstAt h e (Q1 C t0 none) C none:=⟨he,rfl,rfl,trivial⟩
 refine set_plain (s:=⟨h,g,d,t,os⟩) X I hs ?_;have ne:cd.mro.isEmpty=false:=by
  cases q:cd.mro with
  | nil=>
   rw [q] at ho
   have:=SF.hasOwner
   rw [beq_iff_eq.mp ho] at this
   cases this
  | cons _ _=>rfl
 have sb:Looks (model prog w) h (isInstance (.ref e) (.type "object")) true:=I.type.andThen (looks_mroIn X (by unfold mroIn;rw [hc,Option.bind_some,if_neg (by rw [ne];decide),wO SF ho]));refine codeAny_call_builtin SF.slot.plain SF.entry (@check_slot (model prog w) _ _ ⟨h,g,d,t+1,os⟩ "object.__setattr__" "object" "__setattr__" (.ref e) [.str name t,v] [] _ SF.kind SF.split sb (SF.args (.ref e) (.str name t) v) ?_);have hm:Looks (model prog w) h (mroOf (.ref C)) cd.mro:=(looks_clsIn X hc).andThen .now;rw [osa_eq,refuse_eq];refine wpAny_bind (wpAny_bind (I.type.here (s:=⟨h,g,d,t+1,os⟩) (wpAny_bind (hm.here (s:=⟨h,g,d,t+1,os⟩) ?_))));rw [wN SF _ ho];refine wpAny_pure (wpAny_bind (I.type.here (s:=⟨h,g,d,t+1,os⟩) (wpAny_bind ((looks_findIn X ht).here (s:=⟨h,g,d,t+1,os⟩) (wpAny_bind (m:=storeTaker? none) (wpAny_pure ?_))))));show wpAny _ _ (ownStreamTells (.ref e) (.ref C) >>= _) _ _ _;refine wpAny_bind (m:=ownStreamTells (.ref e) (.ref C)) (wpAny_pure ?_);show wpAny _ _ (ownDictForStores (.ref e) >>= _) _ _ _;refine wpAny_bind ?_;show wpAny _ _ (instanceDict e true) _ _ _;unfold instanceDict;refine wpAny_bind (wpAny_loadPart (s:=⟨h,g,d,t+1,os⟩) he ?_)
 dsimp only
 refine wpAny_bind ((looks_clsIn X hc).here (s:=⟨h,g,d,t+1,os⟩) ?_);rw [hd,if_neg (by decide),if_neg (by simp [typeHasDict])];have zd:(h.push { cls:=.type "dict",data:=.dict #[] }).get? e=some (Q1 C t0 none):=Heap.get?_push_of_some _ he;have qZ:e≠h.objs.size:=G6 (Heap.lt_size he);refine wpAny_bind (wpAny_alloc' (wpAny_bind (wpAny_update' zd (wpAny_pure ?_))));have hgd:((h.push { cls:=.type "dict",data:=.dict #[] }).update e fun o=>{ cls:=o.cls,dict:=some h.objs.size,data:=o.data,slots:=o.slots }).get? h.objs.size=some { cls:=.type "dict",data:=.dict #[] }:=(Heap.get?_update_ne _ _ _ _ qZ.symm).trans (Heap.get?_push_at rfl rfl);have mD:((h.push { cls:=.type "dict",data:=.dict #[] }).update e fun o=>{ cls:=o.cls,dict:=some h.objs.size,data:=o.data,slots:=o.slots }).get? e=some (Q1 C t0 (some h.objs.size)):=Heap.get?_update_self _ zd rfl;have hgo:∀ b o,b≠e->h.get? b=some o->((h.push { cls:=.type "dict",data:=.dict #[] }).update e fun o=>{ cls:=o.cls,dict:=some h.objs.size,data:=o.data,slots:=o.slots }).get? b=some o:=fun b o hb z=>(Heap.get?_update_ne _ _ _ _ hb).trans (Heap.get?_push_of_some _ z)
 generalize ((h.push { cls:=.type "dict",data:=.dict #[] }).update e fun o=>{ cls:=o.cls,dict:=some h.objs.size,data:=o.data,slots:=o.slots })=h2 at hgd mD hgo ⊢
 have hnd:h2.Ns h.objs.size (fun _=>none):=⟨_,#[],_,hgd,rfl,fun e he=>absurd he (by simp),fun _=>rfl⟩
 show wpAny _ _ (storeInDict h.objs.size (.str name t) name v) _ _ _;unfold storeInDict newKeyGuard;refine wpAny_bind (wpAny_pure (wpAny_bind (wpAny_nsSet1 (Heap.Ns1.of_empty hnd) fun h' eU mB=>?_)));obtain ⟨oD,esD,epD,hoD,hdD,hcD⟩:=eU.count (Within.cons name v Within.nil);refine wpAny_bind (wpAny_lookBehind hoD (by rw [hdD];exact pastItsLine_dict (F6 hcD (by rw [G1,R3,sizeLine_eq];lia))) (wpAny_pure ?_));exact hq h' h.objs.size _ (C6 _) qZ.symm ((mB.2 e qZ).trans mD) eU fun b o hb z=>(mB.2 b (G6 (Heap.lt_size z))).trans (hgo b o hb z)
end
end L2
set_option maxRecDepth 100000
namespace L2
open PySem PySem.Spec PyProof.Rows PySem.W
section
variable {M:Model} {A:Around} {E:Value->Shared->Prop} {s:Shared} {K:Frag} {C D e:Addr} {oe:Obj} {b:Bool}
theorem ahM{Q:Bool->Shared->Prop}(X:K.In s.heap)(he:s.heap.get? e=some oe)(hc:oe.cls=.ref C){cd:ClassData}(hD:clsIn K D=some cd)(hT:typeIn K (.ref D)=some (.type "type"))(hB:mroIn K D (.type "BaseException")=some true)(hm:mroIn K C (.ref D)=some b)(h:Q b s) :
  wpAny M A (excMatches (.ref e) (.ref D)) Q E s:=by
 have t1:Looks M s.heap (isInstance (.ref D) (.type "tuple")) false:=(looks_typeIn X hT).andThen (Looks.of_pure tc_notTuple);have t2:Looks M s.heap (isExcClass (.ref D)) true:=by
  unfold isExcClass;refine Looks.andThen (a:=true) ?_ (by rw [if_pos rfl];exact looks_mroIn X hB);show Looks M s.heap (isType (.ref D)) true;unfold clsIn at hD
  split at hD
  .rename_i ho
   exact (Looks.ld (part:=none) (X _ _ ho)).andThen .now
  .cases hD
 have t3:Looks M s.heap (typeOf (.ref e)) (.ref C):=hc ▸ (Looks.ld he).andThen .now;unfold excMatches;refine wpAny_bind (t1.here ?_);rw [if_neg (by decide)];refine wpAny_bind (wpAny_pure (wpAny_bind ?_));rw [List.forIn_cons];refine wpAny_bind (wpAny_bind (t2.here (wpAny_pure ?_)));refine wpAny_pure (wpAny_bind (t3.here (wpAny_bind ?_)));rw [List.forIn_cons];refine wpAny_bind (wpAny_bind ((looks_mroIn X hm).here ?_))
 cases b with
 | true=>exact wpAny_pure (wpAny_pure (wpAny_pure h))
 | false=>exact wpAny_pure (wpAny_pure (wpAny_pure h))
end
end L2
set_option maxRecDepth 100000
namespace L2
open PySem PySem.Spec PyProof.Rows PySem.W PySem.Builtin PySem.Builtin.ObjectAttr
section
variable {prog:Program} {w:World} {A:Around} {E:Value->Shared->Prop} {K:Frag} {h:Heap} {g:Array GenState} {d:Drawn} {t:Nat} {os:OsState} {C e dx:Addr} {ox od:Obj} {name:Str} {v:Value} {expr:Bool} {Q:Value->Shared->Prop}
theorem alq(X:K.In h)(I:InstAt h e ox C (some od))(u3:findIn K (.ref C) "__getattribute__"=some (some (.builtin "BaseException.__getattribute__")))(jB:findIn K (.ref C) "__getattr__"=some none)(hB:mroIn K C (.type "BaseException")=some true)(hf:findObj K C (some od) name=some (.value v))(hh:handedIn v=true)(hq:Q v ⟨h,g,d,t+1,os⟩):wpAny (model prog w) A (getAttr (.ref e) name expr) Q E ⟨h,g,d,t,os⟩:=by
 have L0:=I.type (M:=model prog w);have L1:=looks_findIn (M:=model prog w) X u3;have L2:=looks_findIn (M:=model prog w) X jB;have L3:=looks_find (M:=model prog w) X I hf;have cJ:(Value.builtin "BaseException.__getattribute__" == Value.builtin "object.__getattribute__")=false:=by decide +kernel
 have u5:(onTheHeap (Value.ref C)&&Value.builtin "BaseException.__getattribute__" == Value.builtin "object.__getattribute__")=false:=by rw [cJ];rfl
 have hx0:(expr&&onTheHeap (Value.builtin "BaseException.__getattribute__"))=false:=by cases expr <;> rfl
 unfold getAttr getAttrBy;refine wpAny_bind (wpAny_mkText (wpAny_holding (wpAny_bind (L0.at (wpAny_bind (L1.at ?_))))))
 dsimp only
 rw [u5,if_neg (by decide)];show wpAny _ _ (getAttrByItsOwn _ _ _ _ _ _) _ _ _;unfold getAttrByItsOwn;refine wpAny_bind ?_;show wpAny _ _ (typeLookup (.ref C) "__getattr__") _ _ _;refine L2.at (wpAny_bind (wpAny_attempt (wpAny_holding ?_)));unfold callGetattribute;rw [hx0,if_neg (by decide)];unfold boundAndCalled;have FA:ExcAttrFacts "ValueError":=F.attr_ValueError;rw [FA.ga.bind (.ref e)];refine wpAny_bind (wpAny_pure (wpAny_call ?_));have sb:Looks (model prog w) h (isInstance (.ref e) (.type "BaseException")) true:=L0.andThen (looks_mroIn X hB);refine codeAny_call_builtin FA.ga.plain F.entry_bexc_ga (@check_slot (model prog w) _ _ ⟨h,g,d,t+1,os⟩ "BaseException.__getattribute__" "BaseException" "__getattribute__" (.ref e) [.str name t] [] _ (by decide +kernel) (by decide +kernel) sb (F.args_bexc_ga _ _) ?_);unfold Builtin.«object.__getattribute__»;have e0:slotArgs "__getattribute__" 1 ⟨[Value.ref e]++[Value.str name t],[]⟩=pure (.ref e,[.str name t]):=rfl;rw [e0];refine wpAny_bind (wpAny_pure ?_);show wpAny _ _ (attrName (.str name t) >>= _) _ _ _;refine wpAny_bind (m:=attrName (.str name t)) (wpAny_pure ?_);refine wpAny_bind (L0.at (wpAny_bind (L3.at (wpAny_pure ?_))));show wpAny _ _ (handedOut v) _ _ _;rw [handedOut_of hh];exact wpAny_pure hq
end
end L2
set_option maxRecDepth 100000
namespace L2
open PySem PySem.Spec PyProof.Rows PySem.W PySem.Builtin PySem.Builtin.ObjectAttr
section
variable {prog:Program} {w:World} {A:Around} {E:Value->Shared->Prop} {K:Frag} {h:Heap} {g:Array GenState} {d:Drawn} {t:Nat} {os:OsState} {C e dx:Addr} {ox od:Obj} {Q:Option Value->Shared->Prop}
theorem ahN(X:K.In h)(I:InstAt h e ox C (some od))(u3:findIn K (.ref C) "__getattribute__"=some (some (.builtin "BaseException.__getattribute__")))(jB:findIn K (.ref C) "__getattr__"=some none)(hB:mroIn K C (.type "BaseException")=some true)(hf:findObj K C (some od) "__class__"=some (.bind (.builtin "getset_descriptor.__get__") (.builtin "object.__class__")))(hO:mroIn K C (.type "object")=some true)(hq:Q (some (.ref C)) ⟨h,g,d,t+1,os⟩):wpAny (model prog w) A (getAttr? (.ref e) "__class__") Q E ⟨h,g,d,t,os⟩:=by
 have L0:=I.type (M:=model prog w);have L1:=looks_findIn (M:=model prog w) X u3;have L2:=looks_findIn (M:=model prog w) X jB;have L3:=looks_find (M:=model prog w) X I hf;have cJ:(Value.builtin "BaseException.__getattribute__" == Value.builtin "object.__getattribute__")=false:=by decide +kernel
 have u5:(onTheHeap (Value.ref C)&&Value.builtin "BaseException.__getattribute__" == Value.builtin "object.__getattribute__")=false:=by rw [cJ];rfl
 unfold getAttr? getAttrBy? getAttrBy;refine wpAny_bind (wpAny_mkText (wpAny_bind (wpAny_attempt (wpAny_holding (wpAny_bind (L0.at (wpAny_bind (L1.at ?_))))))))
 dsimp only
 rw [u5,if_neg (by decide)];show wpAny _ _ (getAttrByItsOwn _ _ _ _ _ _) _ _ _;unfold getAttrByItsOwn;refine wpAny_bind ?_;show wpAny _ _ (typeLookup (.ref C) "__getattr__") _ _ _;refine L2.at (wpAny_bind (wpAny_attempt (wpAny_holding ?_)));unfold callGetattribute;rw [if_neg (by simp)];unfold boundAndCalled;have FA:ExcAttrFacts "ValueError":=F.attr_ValueError;rw [FA.ga.bind (.ref e)];refine wpAny_bind (wpAny_pure (wpAny_call ?_));have sb:Looks (model prog w) h (isInstance (.ref e) (.type "BaseException")) true:=L0.andThen (looks_mroIn X hB);refine codeAny_call_builtin FA.ga.plain F.entry_bexc_ga (@check_slot (model prog w) _ _ ⟨h,g,d,t+1,os⟩ "BaseException.__getattribute__" "BaseException" "__getattribute__" (.ref e) [.str "__class__" t] [] _ (by decide +kernel) (by decide +kernel) sb (F.args_bexc_ga _ _) ?_);unfold Builtin.«object.__getattribute__»;have e0:slotArgs "__getattribute__" 1 ⟨[Value.ref e]++[Value.str "__class__" t],[]⟩=pure (.ref e,[.str "__class__" t]):=rfl;rw [e0];refine wpAny_bind (wpAny_pure ?_);show wpAny _ _ (attrName (.str "__class__" t) >>= _) _ _ _;refine wpAny_bind (m:=attrName (.str "__class__" t)) (wpAny_pure ?_);refine wpAny_bind (L0.at (wpAny_bind (L3.at ?_)));show wpAny _ _ (bindTo (.builtin "getset_descriptor.__get__") (.builtin "object.__class__") (.ref e) (.ref C)) _ _ _;unfold bindTo;refine wpAny_bind (wpAny_holding (wpAny_call (class_get (s:=⟨h,g,d,t+1,os⟩) (ox:=ox) (od:=some od) X I hO ?_)));refine wpAny_pure ?_;show wpAny _ _ (handedOut (.ref C)) _ _ _;rw [handedOut_of rfl];exact wpAny_pure (wpAny_pure hq)
theorem aji(O2:hasDictIn K C=true)(u3:findIn K (.ref C) "__getattribute__"=some (some (.builtin "BaseException.__getattribute__")))(jB:findIn K (.ref C) "__getattr__"=some none)(hB:mroIn K C (.type "BaseException")=some true)(ha:findIn K (.ref C) "__class__"=some (some (.builtin "object.__class__")))(hn:specialIn K (.builtin "object.__class__") "__get__"=some (some (.builtin "getset_descriptor.__get__")))(f6:takesIn K (.builtin "object.__class__")=some true)(hO:mroIn K C (.type "object")=some true) :
  KitX K (.ref e) (.ref C) (fun h=>InstAt h e ox C (some od)) where
 ty:=fun _ _ _ I=>I.type
 it:=fun _ _ X _=>by
  obtain ⟨cdD,hcD,_⟩:=any_some O2;unfold clsIn at hcD
  split at hcD
  .rename_i ho
   exact (Looks.ld (part:=none) (X _ _ ho)).andThen .now
  .cases hcD
 ne:=fun h tp dd its n sl X htp=>by
  obtain ⟨cdD,hcD,_⟩:=any_some O2;refine Bool.eq_false_iff.mpr fun q=>?_
  have e1:C=tp:=Value.ref.inj (beq_iff_eq.mp q);subst e1;unfold clsIn at hcD
  split at hcD
  .rename_i ho
   cases (X _ _ ho).symm.trans htp
  .cases hcD
 ca:=fun {_ _ _ _ _ s} X I k=>by
  obtain ⟨h,g,d,t,os⟩:=s;exact ahN X I u3 jB hB (findObj_data (by obtain ⟨cd,hc,_⟩:=any_some O2;rw [hc];rfl) ha hn f6) hO k
end
end L2
set_option maxRecDepth 100000
namespace L2
open PySem PySem.Spec PyProof.Rows PySem.W
noncomputable def Flies (h:Heap) (x C dx T:Addr):Prop:=∃ (vs:Array Value) (oT:Obj) (ts:Array Value),h.get? x=some { cls:=.ref C,dict:=some dx,data:=.fields vs }/\vs[1]?=some (.ref T)/\T≠x/\h.get? T=some oT/\oT.data=.fields ts/\ts[3]?=some .none
section
variable {M:Model} {A:Around} {E:Value->Shared->Prop} {s:Shared} {base:Heap} {env:Env} {outer:List Env} {L x C dx:Addr} {Q:Unit->Shared->Prop}
theorem wP{vs:Array Value}{l:List Env}(hl:s.heap.FunFrames base l)(he:s.heap.get? x=some o)(hd:o.data=.fields vs):x∉l.filterMap (·.frame):=fun hm=>by
 obtain ⟨_,o',ho,hn⟩:=hl.mem hm;rw [he] at ho;cases ho;exact hn vs hd
theorem wQ{oe:Obj}{vs:Array Value}{head:Value}{hadNext:Bool}(N6:A.frames=some (env::outer))(hl:s.heap.FunFrames base (env::outer))(hf:env.frame=some L)(he:s.heap.get? x=some { cls:=.ref C,dict:=some dx,data:=.fields vs })(hsz:1<vs.size)(h:∀ h' T,s.heap.objs.size<=T->Flies h' x C dx T->(∀ b o,b≠x->b∉(env::outer).filterMap (·.frame)->s.heap.get? b=some o->h'.get? b=some o)->(∀ b o,b≠x->s.heap.get? b=some o->∃ sl,h'.get? b=some { o with slots:=sl })->Q () { s with heap:=h' }) :
  wpAny M A (do let a <- frameOf env;let pl <- entryPlaceOf L hadNext;let b <- EntryCells.newEntry head a .none (rawInt L) .none pl;setField (.ref x) 1 b) (fun _ s'=>wpAny M A (setFlight (.ref x) none) Q E s') E s:=by
 have hxf:=wP hl he rfl;refine wpAny_bind (wpAny_frameOf_fun N6 hl hf fun zr zc=>wpAny_bind (wpAny_entryPlaceOf fun pl P6=>?_));unfold EntryCells.newEntry newFields;refine wpAny_bind (wpAny_newObj_type ?_ (P6.sizeOk5 _ _ _ _ _));have zb:zr.get? x=some { cls:=.ref C,dict:=some dx,data:=.fields vs }:=(zc.2.1 x hxf).trans he;generalize hoT:({ cls:=.type "traceback",dict:=none,data:=.fields ([head,.ref L,.none,rawInt L,.none]++(if pl.isEmpty then N2 6 Value.none else pl)).toArray } : Obj)=oT;have hTd:∃ ts:Array Value,oT.data=.fields ts/\3<ts.size:=⟨_,by rw [<- hoT],by simp only [J2,E4,G1,R3] <;> lia⟩
 obtain ⟨ts,hTd,hT3⟩:=hTd;have hTf:oT.isFreed=false:=by rw [<- hoT];rfl
 have hTe:zr.objs.size≠x:=i7 (Heap.lt_size zb);have za:=Heap.get?_push_of_some (h:=zr) oT zb;have yz:(zr.push oT).get? zr.objs.size=some oT:=Heap.get?_push_size zr hTf;refine wpAny_setField za rfl hsz ?_;have yy:=Obj.data_mapFields (o:={ cls:=.ref C,dict:=some dx,data:=.fields vs }) rfl (·.setIfInBounds 1 (Value.ref zr.objs.size));have yx:=Heap.get?_update_self (Obj.mapFields (·.setIfInBounds 1 (Value.ref zr.objs.size))) za (Obj.isFreed_of_fields yy);have yw:=(Heap.get?_update_other (zr.push oT) (Obj.mapFields (·.setIfInBounds 1 (Value.ref zr.objs.size))) (Ne.symm hTe)).trans yz;unfold setFlight;refine wpAny_bind (wpAny_field yx yy (x:=.ref zr.objs.size) (by simp [hsz]) ?_);rw [if_pos (show (Value.ref zr.objs.size != Value.none)=true from by simp)];refine wpAny_setField yw hTd hT3 (h _ zr.objs.size ?_ ?_ (fun b o hb rA z=>?_) fun b o hb z=>?_)
 .rw [zc.1];exact C6 _
 .refine ⟨_,_,_,(by rw [Heap.get?_update_other _ _ hTe];exact yx),?_,hTe,Heap.get?_update_self _ yw (Obj.isFreed_of_fields (Obj.data_mapFields hTd _)),Obj.data_mapFields hTd _,?_⟩
  .simp [hsz]
  .simp [hT3]
 .have hbT:zr.objs.size≠b:=i7 (by rw [zc.1];exact Heap.lt_size z);rw [Heap.get?_update_other _ _ hbT,Heap.get?_update_other _ _ (Ne.symm hb)];exact Heap.get?_push_of_some _ ((zc.2.1 b rA).trans z)
 .have hbT:zr.objs.size≠b:=i7 (by rw [zc.1];exact Heap.lt_size z);obtain ⟨sl,z'⟩:=zc.2.2 b o z;refine ⟨sl,?_⟩;rw [Heap.get?_update_other _ _ hbT,Heap.get?_update_other _ _ (Ne.symm hb)];exact Heap.get?_push_of_some _ z'
theorem ahO(N6:A.frames=some (env::outer))(hl:s.heap.FunFrames base (env::outer))(hf:env.frame=some L)(he:s.heap.get? x=some (Q1 C t0 (some dx)))(h:∀ h' T,s.heap.objs.size<=T->Flies h' x C dx T->(∀ b o,b≠x->b∉(env::outer).filterMap (·.frame)->s.heap.get? b=some o->h'.get? b=some o)->(∀ b o,b≠x->s.heap.get? b=some o->∃ sl,h'.get? b=some { o with slots:=sl })->Q () { s with heap:=h' }) :
  wpAny M A (noteFrame (.ref x) env) (fun _ s'=>wpAny M A (setFlight (.ref x) none) Q E s') E s:=by
 unfold noteFrame;simp only [hf];refine wpAny_bind (wpAny_field he rfl (x:=.none) rfl ?_);rw [if_neg (by decide)];exact wQ (oe:=Q1 C t0 (some dx)) N6 hl hf he (by simp) h
theorem wR(N6:A.frames=some (env::outer))(hl:s.heap.FunFrames base (env::outer))(hf:env.frame=some L)(fl:Flies s.heap x C dx T)(h:∀ h' T',s.heap.objs.size<=T'->Flies h' x C dx T'->(∀ b o,b≠x->b≠T->b∉(env::outer).filterMap (·.frame)->s.heap.get? b=some o->h'.get? b=some o)->(∀ b o,b≠x->b≠T->s.heap.get? b=some o->∃ sl,h'.get? b=some { o with slots:=sl })->Q () { s with heap:=h' }) :
  wpAny M A (noteFrame (.ref x) env) (fun _ s'=>wpAny M A (setFlight (.ref x) none) Q E s') E s:=by
 obtain ⟨vs,oT,ts,he,h1,hTx,hT,hTd,h3⟩:=fl;unfold noteFrame;simp only [hf];refine wpAny_bind (wpAny_field he rfl h1 ?_);rw [if_pos (show (Value.ref T != Value.none)=true from by simp)];refine wpAny_bind (wpAny_field hT hTd h3 ?_);rw [if_neg (show ¬ ((Value.none==rawInt L)=true) from by simp [rawInt])];refine wpAny_bind (wpAny_setField hT hTd (Array.getElem?_eq_some_iff.mp h3).1 ?_);have oth:∀ b,b≠T->(s.heap.update T (Obj.mapFields (·.setIfInBounds 3 Value.none))).get? b=s.heap.get? b:=fun b hb=>Heap.get?_update_other _ _ (Ne.symm hb)
 have hTf:T∉(env::outer).filterMap (·.frame):=wP hl hT hTd;have hTn:∀ b o,s.heap.get? b=some o->(∀ vs,o.data≠.fields vs)->b≠T:=fun b o hb hn q=>by rw [q,hT] at hb;cases hb;exact hn ts hTd
 refine wQ (oe:=oT) N6 (hl.of_keeps fun b o hb hn=>⟨o,(oth b (hTn b o hb hn)).trans hb,rfl⟩) hf ((oth x (Ne.symm hTx)).trans he) (Array.getElem?_eq_some_iff.mp h1).1 fun h' T' n' fl' k1 k2=>h h' T' ?_ fl' (fun b o hb hbT rA z=>k1 b o hb rA ((oth b hbT).trans z)) fun b o hb hbT z=>k2 b o hb ((oth b hbT).trans z)
 exact F6 (Nat.le_of_eq (Heap.size_update ..).symm) n'
theorem ajj(fl:Flies s.heap x C dx T)(h:∀ h',Flies h' x C dx T->(∀ b o,b≠T->s.heap.get? b=some o->h'.get? b=some o)->Q () { s with heap:=h' }):wpAny M A (setFlight (.ref x) none) Q E s:=by
 obtain ⟨vs,oT,ts,he,h1,hTx,hT,hTd,h3⟩:=fl;have h3s:3<ts.size:=(Array.getElem?_eq_some_iff.mp h3).1;unfold setFlight;refine wpAny_bind (wpAny_field he rfl h1 ?_);rw [if_pos (show (Value.ref T != Value.none)=true from by simp)];refine wpAny_setField hT hTd h3s (h _ ⟨vs,_,_,(Heap.get?_update_other _ _ hTx).trans he,h1,hTx,Heap.get?_update_self _ hT (Obj.isFreed_of_fields (Obj.data_mapFields hTd _)),Obj.data_mapFields hTd _,?_⟩ fun b o hb z=>(Heap.get?_update_other _ _ (Ne.symm hb)).trans z);simp [h3s]
end
end L2
set_option maxRecDepth 100000
namespace L2
open PySem PySem.Spec PyProof.Rows
noncomputable def xm (m:Nat) (x C:Addr):HO:=.ext fun h=>m<=x/\∃ t0,h.get? x=some (Q1 C t0 none)
noncomputable def xo (m:Nat) (x C dx:Addr):HO:=.ext fun h=>m<=x/\∃ t0,h.get? x=some (Q1 C t0 (some dx))
noncomputable def xc (x C dx:Addr):HO:=.ext fun h=>∃ o,h.get? x=some o/\o.cls=.ref C/\o.dict=some dx/\PySem.W.notCls o=true
theorem xm_ok{P:Program}{w:World}{x:Addr}(hm:m<=x)(e:h.get? x=some (Q1 C t0 none)):ObjOk P w H h x (xm m x C):=⟨⟨hm,t0,e⟩,⟨_,e⟩,fun _ _ z k=>⟨z.1,z.2.elim fun t a=>⟨t,k _ a⟩⟩⟩
theorem xo_ok{P:Program}{w:World}{x:Addr}(hm:m<=x)(e:h.get? x=some (Q1 C t0 (some dx))):ObjOk P w H h x (xo m x C dx):=⟨⟨hm,t0,e⟩,⟨_,e⟩,fun _ _ z k=>⟨z.1,z.2.elim fun t a=>⟨t,k _ a⟩⟩⟩
theorem xc_ok{P:Program}{w:World}{x:Addr}(e:h.get? x=some o)(h1:o.cls=.ref C)(h2:o.dict=some dx)(h3:PySem.W.notCls o=true):ObjOk P w H h x (xc x C dx):=
 ⟨⟨o,e,h1,h2,h3⟩,⟨_,e⟩,fun _ _ z k=>z.elim fun t a=>⟨t,k _ a.1,a.2⟩⟩
theorem wS{P:Program}{w:World}{o:HO}(x:J5 P w H h)(hn:H a=none)(new:ObjOk P w (A0 H a o) h a o):J5 P w (A0 H a o) h:=fun b u e=>by
 by_cases hb:b=a
 .subst hb;rw [A7] at e;cases e;exact new
 .rw [A9 hb] at e;exact (x b u e).stay (fun c v _ q=>q) (fun c q=>by rw [A9 (O0 q hn)];exact q) fun c xs q=>by rw [A9 (O0 q hn)];exact q
theorem ank{N:Addr}{m:Str->Option Value}{n:Str}(X:K.In h)(G:h.Ns N m)(e:E7 K N n=some (some v)):m n=some v:=by
 obtain ⟨o,es,ep,ho,hd,_,hf⟩:=G;unfold E7 at e
 split at e
 .rename_i es' n' q
  rw [X _ _ q] at ho;cases ho;cases hd
  split at e
  .rename_i y hy
   cases e;rw [<- hf];unfold nsFind findBy;rw [<- Array.find?_toList,hy];rfl
  .exfalso
   split at e <;> cases e
 .cases e
noncomputable abbrev hJ:List Value:=[.type "ValueError",.type "Exception",.type "BaseException",.type "object"]
structure ErrC(K:PySem.W.Frag)(C f:Addr):Prop where
 ex:∃ (nm q:Str) (N:Addr) (bs bm:List Value) (sn:List Str) (sub:List Value) (ab:Bool) (col:Option Bool) (dd:Option Addr) (k0 k1 k2 k3 k5:Option Value),
  K.lookup C=some (excClassObj nm q C N bs bm true sn sub ab col dd k0 k1 k2 k3 k5 "ValueError.__new__")/\cY K hJ bm=true/\p5 hJ (.ref C::bm)=true/\PySem.W.nsOkIn K N=true/\E7 K N "__init__"=some (some (.ref f))
 fn:aY K (.ref f)=true
 sa:L4 K (.ref C) "__setattr__"=some (some (.builtin "object.__setattr__"))
 ga:L4 K (.ref C) "__getattribute__"=some (some (.builtin "BaseException.__getattribute__"))
 gt:L4 K (.ref C) "__getattr__"=some none
 cl:L4 K (.ref C) "__class__"=some (some (.builtin "object.__class__"))
 bx:R4 K C (.type "BaseException")=some true
 ob:R4 K C (.type "object")=some true
 kp:Q6 K (.ref C)=true
theorem ErrC.cls(M:ErrC K C f):∃ cd,cZ K C=some cd/\cd.hasDict=true/\p5 hJ cd.mro=true:=by
 obtain ⟨nm,q,N,bs,bm,sn,sub,ab,col,dd,k0,k1,k2,k3,k5,l,_,o,_,_⟩:=M.ex;exact ⟨_,by unfold cZ;rw [l],rfl,o⟩
section
variable {X:Cx} {k:Nat} {f C:Addr} {fd:FuncData} {ps:List Str} {sp:Sp} {x:Str} {p pos:Pos} {e:Expr} {es:List Expr} {t:TA}
noncomputable def tErr (m:Nat) (C:Addr) (sp:Sp) (t:TA):TE:=fun O H Q=>t O H fun vs H1=>vs.length<=1000/\∀ x,H1 x=none->sp (.ref x::vs) (A0 H1 x (xm m x C)) (fun v H2=>v=.non/\Q (.ref x) H2) E0
theorem alr(M:ErrC X.K C f)(F:FnOk X.prog X.w X.K X.mg X.base G0 k f fd ps sp)(hr:Room (k+1) X.A)(hb:Binds X.K fd ps [])(I:Inv X pins O H s)(r:Vals vs us)(B3:vs.length<=1000)(h:∀ x,H x=none->sp (.ref x::vs) (A0 H x (xm X.s₀.heap.objs.size x C)) (fun v H2=>v=.non/\Q (.ref x) H2) E0) :
  wpAny (model X.prog X.w) X.A (call (.ref C) us) (EP X pins O Q) X.xe s:=by
 have hq:=h (s.heap.objs.size+1) (I.hok.fresh (Nat.le_succ _));obtain ⟨nm,q,N,bs,bm,sn,sub,ab,col,dd,k0,k1,k2,k3,k5,l,ht,ho,hok,hi⟩:=M.ex;have hC:=I.kIn _ _ l;have hN:s.heap.Ns N (s.heap.nsMap N):=.of_isNs (PySem.W.isNs_of_in I.kIn hok);have qV:=ank I.kIn hN hi;have hf:∃ o,s.heap.get? f=some o/\o.cls=.type "function":=by
  obtain ⟨o,ho,hc⟩:=Option.map_eq_some_iff.mp (beq_iff_eq.mp M.fn);exact ⟨o,I.kIn _ _ ho,hc⟩
 obtain ⟨of,qW,qX⟩:=hf;have qO:=r.length;have r2:Vals (V.ref (s.heap.objs.size+1)::vs) (Value.ref (s.heap.objs.size+1)::us):=.cons rfl r;have hl:(Value.ref (s.heap.objs.size+1)::us++[]).length=ps.length:=by
  have e:=r2.length;rw [F.len _ _ _ _ hq] at e;rw [M7];exact e.symm
 obtain ⟨h0,g,d,tk,os⟩:=s;refine ajh PySem.F.excBase_ValueError (by decide) PySem.F.excBase_ValueError (PySem.W.tail_of_in I.kIn ht) hC hN qV qW qX (by rw [<- qO];exact F6 B3 (by decide)) ?_;have I2:Inv X pins O (A0 H (h0.objs.size+1) (xm X.s₀.heap.objs.size (h0.objs.size+1) C)) ⟨(h0.push { cls:=.type "tuple",data:=.seq us.toArray }).push (Q1 C h0.objs.size none),g,d,tk,os⟩:=
  I.laid (t':=tk) (fun b u z=>Heap.get?_push_of_some _ (Heap.get?_push_of_some _ z)) (Nat.le_succ _) (xm_ok (t0:=h0.objs.size) (Nat.le_succ_of_le I.sz) (by
   have:=Heap.get?_push_size (h0.push { cls:=.type "tuple",data:=.seq us.toArray }) (o:=Q1 C h0.objs.size none) rfl
   rwa [Heap.size_push] at this))
 refine codeAny_mono (F.run _ X.stack _ _ ⟨Value.ref (h0.objs.size+1)::us,[]⟩ (Value.ref (h0.objs.size+1)::us) _ _ E0 (hr.make C us []) (I2.env0.make C us []) (by have:=hb _ (Value.ref (h0.objs.size+1)::us) I2.kIn hl;rwa [M7] at this) r2 hq) fun r s' U0=>?_
 cases r with
 | error e=>exact U0.elim
 | ok fl=>
  cases fl with
  | ret u=>
   obtain ⟨v,H',I3,rv,ev,q3⟩:=I2.after U0;subst ev;exact ⟨rv,⟨V.ref (h0.objs.size+1),H',I3,rfl,q3⟩⟩
  | next=>exact False.elim U0
  | brk=>exact False.elim U0
  | cont=>exact False.elim U0
theorem anl(M:ErrC X.K C f)(F:FnOk X.prog X.w X.K X.mg X.base G0 k f fd ps sp)(hr:Room (k+1) X.A)(hg:Gl X x)(hm:X.mg x=some (.ref C))(hb:Binds X.K fd ps [])(ha:PA X (e::es) t)(J7:(x==("__debug__" : Str))=false:=by decide)(he:starEach (e::es) X.env=(false,eval e X.env)::starEach es X.env:=by rfl)(P6:(backTo pos (starEach es X.env)).any (·.1)=false:=by rfl) :
  PE X (.Call (.Name x p) (e::es) [] pos) (tErr X.s₀.heap.objs.size C sp t):=by
 intro pins s O H Q I h;refine wpAny_Call_Name_kw (dF I hg hm ?_ J7);refine PySem.W.callWith_K (h₀:=X.base) I.ok.mod.kin M.kp (C0 (ha pos pins s O H _ I h) fun us s1 ⟨vs,H1,I1,r,q0,q⟩=>⟨I1.kIn,alr M F hr hb I1 r q0 q⟩) he P6
end
theorem ajk{o:HO}(h:H a=some o):A0 H a o=H:=by
 funext b;unfold A0;split
 .rename_i e;rw [e,h]
 .rfl
structure LoreC(K:PySem.W.Frag)(L:Addr):Prop where
 sp:aX K (.ref L) "__getattribute__"=some (some (.builtin "type.__getattribute__"))
 rd:PySem.W.readsIn K L (.type "type")=true
 fc:PySem.W.findCls K (.ref L) (.type "type") "__init__"=some (.val (.builtin "ValueError.__init__"))
noncomputable def tInit (K:PySem.W.Frag) (ta tb:TE):TE:=fun O H Q=>ta O H fun x H1=>tb O H1 fun _ H2=>∃ a m C f,x=.ref a/\H2 a=some (xm m a C)/\ErrC K C f/\Q .non H2
section
variable {X:Cx} {L:Addr} {x:Str} {np ap cp:Pos} {a b:Expr} {ta tb:TE} {pl:Sem Bool}
theorem als(N:LoreC X.K L)(hg:Gl X x)(hm:X.mg x=some (.ref L))(ha:PE X a ta)(hb:PE X b tb)(J7:(x==("__debug__" : Str))=false:=by decide)(rB:backTo cp (starEach [a,b] X.env)=[(false,eval a X.env),(false,eval b X.env)]:=by rfl)(ht:eval (.Call (.Attribute (.Name x np) "__init__" ap) [a,b] [] cp) X.env=(do
   let ov <- eval (.Name x np) X.env
   standAt ap.atName
   let (f,first) <- holding [ov] (getMethod ov "__init__" pl)
   callWith cp f first (backTo cp (starEach [a,b] X.env)) (backToKw cp (keywordEach [] X.env))):=by rfl) :
  PE X (.Call (.Attribute (.Name x np) "__init__" ap) [a,b] [] cp) (tInit X.K ta tb):=by
 intro pins s O H Q I h;refine PySem.W.methodCall_KW (pl:=pl) (dF I hg hm ?_ J7) ht;refine PySem.W.method_cls I.kIn N.sp (PySem.W.cls_value I.kIn N.rd N.fc rfl ?_);rw [rB];have I0:=I.tok (s.toks+1);refine Calls.callWith_builtin rfl (Calls.evalArgs_plain (Calls.spliced_cons (C0 (ha pins _ O H _ I0 h) fun u s1 ⟨v,H1,I1,rv,q1⟩=>Calls.spliced_cons (C0 (hb pins s1 O H1 _ I1 q1) fun z s2 ⟨y,H2,I2,ry,e,m,C,f,ex,he,M,q2⟩=>Calls.spliced_nil ?_))));subst ex;obtain rfl:u=Value.ref e:=rv;obtain ⟨nm,q,N',bs,bm,sn,sub,ab,col,dd,k0,k1,k2,k3,k5,l,cF,ho,hok,hi⟩:=M.ex;obtain ⟨rC,t0,hx⟩:=(I2.hok _ _ he).1;obtain ⟨h2,g,d,tk,os⟩:=s2;refine ad4 PySem.F.excBase_ValueError (PySem.W.tail_of_in I2.kIn cF) (I2.kIn _ _ l) hx fun h' t1 keep fG=>?_
 have I3:=I2.write (x:=e) (e:=e) (t':=tk) (by rw [he];exact True.intro) (.inl rfl) (fun b u hb z=>keep b u hb z) ⟨_,fG⟩ (xm_ok rC fG);rw [ajk he] at I3;exact ⟨.non,H2,I3,rfl,q2⟩
end
end L2
set_option maxRecDepth 100000
namespace L2
open PySem PySem.Spec PyProof.Rows
noncomputable def tFmtI (te:TE):TE:=fun O H Q=>te O H fun v H1=>∃ i:Int,v=.int i/\i.natAbs<10 ^ 9/\∀ z:Str,z.length<=100->Q (.str z) H1
noncomputable def bO:List TE->TE
 | [],_,H,Q=>∀ z:Str,Q (.str z) H
 | t::ts,O,H,Q=>t O H fun v H1=>∃ y:Str,v=.str y/\y.length<=100000/\bO ts O H1 Q
section
variable {X:Cx} {e:Expr} {te:TE} {pos:Pos}
inductive PFs (X:Cx):List Expr->List TE->Prop
 | nil:PFs X [] []
 | cons {e:Expr} {te:TE} {es:List Expr} {ts:List TE} : PE X e te->PFs X es ts->PFs X (e::es) (te::ts)
theorem wT : ∀ {es:List Expr} {ts:List TE} (acc:Str) (n:Nat) (s:Shared) (H:Hp),PFs X es ts->Inv X pins O H s->acc.length+100000*es.length<=sizeLine->bO ts O H Q->
  Joins (model X.prog X.w) X.A X.xe (evalEach es X.env) acc (fun out zw=>out.length<=sizeLine/\EP X pins O Q (.str out zw.toks) { zw with toks:=zw.toks+1 }) s
 | [],_,acc,n,s,H,.nil,I,hl,h=>⟨by simpa using hl,.str acc,H,I.tok _,⟨_,rfl⟩,h acc⟩
 | e::es,_,acc,n,s,H,.cons he hr,I,hl,h=>C0 (he pins s O H _ I h) fun u s1 ⟨v,H1,I1,rv,y,ev,hy,q⟩=>by
  subst ev;obtain ⟨t,rfl⟩:=rv;rw [G1] at hl;have e1:(acc++y).length=acc.length+y.length:=strLen_append ..;exact ⟨y,t,rfl,by lia,wT (acc++y) n s1 H1 hr I1 (by lia) q⟩
theorem ahP{e1 e2:Expr}{ts:List TE}(h:PFs X (e1::e2::es) ts)(hn:es.length<=2):PE X (.JoinedStr (e1::e2::es) pos) (bO ts):=by
 intro pins s O H Q I hq;refine wpAny_JoinedStr (wT Str.empty 0 s H h I ?_ hq)
 have:Str.empty.length=0:=rfl
 rw [this,G1,G1,sizeLine_eq];lia
end
noncomputable def sXFld (K:PySem.W.Frag) (ta tv:TE) (f:Str):TS:=fun D O H=>tv O H fun y H1=>ta O H1 fun x H2=>∃ a m C g,x=.ref a/\H2 a=some (xm m a C)/\ErrC K C g/\NoAttr K C f/\∀ dx,H2 dx=none->dx≠a->D.nx O (A0 (A0 H2 a (xo m a C dx)) dx (.xd [(f,y)]))
section
variable {X:Cx} {o value:Expr} {ta tv:TE} {f:Str} {ap pos:Pos}
theorem Inv.xstore(I:Inv X pins O H s)(e:H a=some (xm m a C))(hd:s.heap.objs.size<=dx)(ne:dx≠a)(hx:h'.get? a=some (Q1 C t0 (some dx)))(hn:h'.Ns1 dx (fun z=>if z=f then some u else none))(k:∀ b o,b≠a->s.heap.get? b=some o->h'.get? b=some o)(ry:RelV y u) :
  Inv X pins O (A0 (A0 H a (xo m a C dx)) dx (.xd [(f,y)])) { s with heap:=h',toks:=t' }:=by
 have hdn:H dx=none:=I.hok.fresh hd;have rC:m<=a:=(I.hok _ _ e).1.1;have mu:dE (H a):=by rw [e];exact True.intro
 have u6:A0 H a (xo m a C dx) dx=none:=by rw [A9 ne];exact hdn
 have w1:Un X.fs [] H (A0 H a (xo m a C dx)) s.heap h':=Un.write mu (.inl rfl) k ⟨_,hx⟩;have old:∀ b o,s.heap.get? b=some o->b≠dx:=fun b o z q=>by rw [q] at z;exact absurd (Heap.lt_size z) (Nat.not_lt.mpr hd)
 refine I.un ⟨w1.keep,w1.slot,fun b o z n hb=>?_,w1.there,fun b xs z=>?_,fun b o v z=>?_,fun b ps z=>?_⟩ (wS (I.hok.write mu (.inl rfl) k ⟨_,hx⟩ (xo_ok rC hx)) u6 ⟨_,hn,fun g=>?_⟩)
 .rw [A9 (old b o z)];exact w1.free b o z n hb
 .rw [A9 (O0 (w1.tups b xs z) u6)];exact w1.tups b xs z
 .rw [A9 (O0 (w1.frzs b o v z) u6)];exact w1.frzs b o v z
 .obtain ⟨more,q⟩:=w1.tbls b ps z;exact ⟨more,by rw [A9 (O0 q u6)];exact q⟩
 .show RelO ([(f,y)].lookup g) (if g=f then some u else none)
  by_cases q:g=f
  .rw [if_pos q,q,List.lookup_cons_self];exact ry
  .rw [if_neg q,gB,show (g==f)=false from beq_eq_false_iff_ne.mpr q];exact True.intro
theorem alt(ha:PE X o ta)(hv:PE X value tv)(hs:swapsWith value (some (.Attribute o f ap)) pos.line X.env=pure false):PS X (.Assign [.Attribute o f ap] value pos) (sXFld X.K ta tv f):=by
 intro pins s O H D I h;refine plainObj_wpAny_Assign_Attribute (C0 (hv pins s O H _ I h) fun u s1 ⟨y,H1,I1,ry,q⟩=>C0 (ha pins s1 O H1 _ I1 q) fun ov s2 ⟨x,H2,I2,rx,a,m,C,g,ex,he,M,n,q2⟩=>?_) hs;subst ex;obtain rfl:ov=Value.ref a:=rx;obtain ⟨cd,hc,hd,ho⟩:=M.cls;obtain ⟨_,t0,hx⟩:=(I2.hok _ _ he).1;obtain ⟨h2,gg,d,tk,os⟩:=s2;refine ahL PySem.F.store_ValueError I2.kIn hx hc hd ho M.sa n fun h' dx tk' n1 n2 fG hn keep=>?_
 have I3:=I2.xstore (t':=tk') he n1 n2 fG hn keep ry;exact ⟨O,_,I3,q2 dx (I2.hok.fresh n1) n2⟩
end
end L2
set_option maxRecDepth 100000
namespace L2
open PySem PySem.Spec PyProof.Rows
noncomputable def W5 (H:Hp) (x:Addr):Hp:=fun b=>if b=x then none else H b
theorem wU{x:Addr} : W5 H x x=none:=by unfold W5;rw [if_pos rfl]
theorem j5{x:Addr}(h:b≠x):W5 H x b=H b:=by unfold W5;rw [if_neg h]
theorem ajl{x:Addr}{o:HO}(h:W5 H x b=some o):b≠x/\H b=some o:=by
 by_cases e:b=x
 .rw [e,wU] at h;cases h
 .rw [j5 e] at h;exact ⟨e,h⟩
noncomputable def T7 (P:Program) (w:World):U3:=fun outer H s E e s'=>∃ (x C dx T:Addr) (H':Hp),e=.ref x/\s'.os=s.os/\AllBare s'.gens/\Un (O4 outer) [] H H' s.heap s'.heap/\J5 P w H' s'.heap/\s.heap.objs.size<=x/\s.heap.objs.size<=T/\H' x=none/\H' T=none/\Flies s'.heap x C dx T/\E (.ref C) (some dx) H'
section
variable {P:Program} {w:World} {K:PySem.W.Frag} {mg:Str->Option Value} {base:Heap} {N:List Str} {qual:Str} {scope:Scope} {f:Addr} {cd:Value} {A:Around} {outer:List Env} {s s1:Shared} {H H1:Hp} {E:XK} {pins:List (Addr×Obj)} {O:St} {x C dx:Addr}
theorem anm(I:Inv (cxOf (T7 P w) P w K mg base N qual scope f cd A outer s H E) pins O H1 s1)(e:H1 x=some (xo s.heap.objs.size x C dx))(hE:E (.ref C) (some dx) (W5 H1 x)) :
  (cxOf (T7 P w) P w K mg base N qual scope f cd A outer s H E).xe (.ref x) s1:=by
 obtain ⟨hm,t0,hx⟩:=(I.hok _ _ e).1;have B:Un (O4 outer) [] H H1 s.heap s1.heap:=I.base;have old:∀ b o,s.heap.get? b=some o->b≠x:=fun b o z q=>by rw [q] at z;exact absurd (Heap.lt_size z) (Nat.not_lt.mpr hm)
 have N6:∀ b o,s.heap.get? b=some o->b∉O4 outer->b∉O4 ((envOfC qual scope s.heap.objs.size f cd)::outer):=fun b o z n q=>by
  have z1:b∈(envOfC qual scope s.heap.objs.size f cd).locals::O4 outer:=I.stkSub b q
  rcases F9.mp z1 with r | r
  .have:b<(envOfC qual scope s.heap.objs.size f cd).locals:=O9 (Heap.lt_size z) I.ok.above
   rw [r] at this;exact absurd this (X5 _)
  .exact n r
 show wpAny _ _ (leaving _ _) _ _ _;unfold leaving;refine wpAny_bind (ahO (s:=s1) I.ok.frames I.stack (L:=s.heap.objs.size) rfl hx fun h' T nT fl k1 k2=>?_);have szl:s.heap.objs.size<=s1.heap.objs.size:=I.sz;refine ⟨x,C,dx,T,W5 H1 x,rfl,I.os,I.bare,⟨fun b o z n hb N0=>?_,fun b o z n hb N0=>?_,fun b o z n N0=>?_,fun b o z N0=>?_,fun b xs z=>?_,fun b o v z=>?_,fun b ps z=>?_⟩,fun b u q=>?_,hm,F6 szl nT,wU,?_,fl,hE⟩
 .exact k1 b o (old b o z) (N6 b o z hb) (B.keep b o z n hb N0)
 .obtain ⟨sl,q⟩:=B.slot b o z n hb N0;obtain ⟨sl',q'⟩:=k2 b _ (old b o z) q;exact ⟨sl',q'⟩
 .rw [j5 (old b o z)];exact B.free b o z n N0
 .obtain ⟨o',q⟩:=B.there b o z N0;obtain ⟨sl',q'⟩:=k2 b o' (old b o z) q;exact ⟨_,q'⟩
 .have q:=B.tups b xs z;rw [j5 (fun r=>by rw [r,e] at q;cases q)];exact q
 .have q:=B.frzs b o v z;rw [j5 (fun r=>by rw [r,e] at q;cases q)];exact q
 .obtain ⟨more,q⟩:=B.tbls b ps z;exact ⟨more,by rw [j5 (fun r=>by rw [r,e] at q;cases q)];exact q⟩
 .obtain ⟨n1,q1⟩:=ajl q;refine (I.hok b u q1).stay (fun c v hc z=>?_) (fun c z=>by rw [j5 (fun r=>by rw [r,e] at z;cases z)];exact z) fun c xs z=>by rw [j5 (fun r=>by rw [r,e] at z;cases z)];exact z
  have hcH:∃ o,H1 c=some o:=by
   rcases hc with r | r
   .rw [r];exact ⟨_,q1⟩
   .exact ⟨_,r⟩
  obtain ⟨oc,hcH⟩:=hcH;refine k1 c v (fun r=>?_) (fun r=>?_) z
  .rcases hc with r' | r'
   .exact n1 (r'.symm.trans r)
   .rw [r,e] at r';cases r'
  .have:=I.stkFree c r
   rw [hcH] at this;cases this
 .rw [j5 (fun r=>by
   have D1:=Heap.lt_size hx;rw [<- r] at D1;exact absurd D1 (Nat.not_lt.mpr nT))]
  exact I.hok.fresh nT
end
noncomputable def oZ (K:PySem.W.Frag) (m:Nat) (E:XK) (te:TE):TS:=fun _ O H=>te O H fun v H1=>∃ x C dx f,v=.ref x/\H1 x=some (xo m x C dx)/\ErrC K C f/\E (.ref C) (some dx) (W5 H1 x)
section
variable {X:Cx} {m:Nat} {E:XK} {e:Expr} {te:TE} {pos:Pos}
theorem ajm(hx:∀ (pins:List (Addr×Obj)) (O:St) (H:Hp) (s:Shared) (x C dx:Addr),Inv X pins O H s->H x=some (xo m x C dx)->E (.ref C) (some dx) (W5 H x)->X.xe (.ref x) s)(hc:X.calm=true)(he:PE X e te):PS X (.Raise (some e) none pos) (oZ X.K m E te):=by
 intro pins s O H D I h;rw [arm_exec_Raise];refine wpAny_bind (wpAny_standAt (ahK (I.ok.hd hc) (wpAny_bind (C0 (he pins s O H _ I h) fun u s1 z=>wpAny_bind (wpAny_standAt (wpAny_pure ?_))))));obtain ⟨v,H1,I1,rv,x,C,dx,f,ev,ex,M,hE⟩:=z;subst ev;obtain rfl:u=Value.ref x:=rv;obtain ⟨nm,q,N,bs,bm,sn,sub,ab,col,dd,k0,k1,k2,k3,k5,l,cF,ho,hok,hi⟩:=M.ex;obtain ⟨_,t0,fG⟩:=(I1.hok _ _ ex).1;exact ⟨x,C,t0,N,some dx,nm,q,bs,bm,true,sn,sub,ab,col,dd,k0,k1,k2,k3,k5,_,rfl,I1.kIn _ _ l,(PySem.W.tail_of_in I1.kIn cF).hasType (by decide),fG,hx pins O H1 s1 x C dx I1 ex hE⟩
end
section
variable {P:Program} {w:World} {K:PySem.W.Frag} {mg:Str->Option Value} {base:Heap}
theorem FunD.okX{x:Str}(F:FunD K x qual st f fd)(S:FnScope N ps (D3 st))(len:∀ vs H Q E,sp vs H Q E->vs.length=ps.length)(Q2:∀ (cdv:Value) (A:Around) (outer:List Env) (s:Shared) (H:Hp) (vs:List V) (Q:VK) (E:XK),Room k (A.deeper (envOfC qual (D3 st) s.heap.objs.size f cdv))->sp vs H Q E->
   ∃ t,P7 (cxOf (T7 P w) P w K mg base N qual (D3 st) f cdv A outer s H E) (R9 st) t/\t { nx:=fun _ H'=>Q .non H',rt:=Q } (start N vs) H):FnOk P w K mg base (T7 P w) (k+1) f fd ps sp:=by
 obtain ⟨oc,od,dV,kV,doc,pm,an,cdv,ct,osl,rfl,lk,P5⟩:=F.ex;exact fn_of lk P5 S len fun A outer s H vs Q E hr k8=>Q2 cdv A outer s H vs Q E hr k8
end
section
variable {P:Program} {w:World} {K:PySem.W.Frag} {mg:Str->Option Value} {base:Heap} {N:List Str} {qual:Str} {scope:Scope} {f:Addr} {cd:Value} {A:Around} {outer:List Env} {s s1:Shared} {H H1:Hp} {E:XK} {pins:List (Addr×Obj)} {O:St}
theorem alu:gJ (T7 P w) (cxOf (T7 P w) P w K mg base N qual scope f cd A outer s H E) E:=by
 intro pins O H1 s1 e s' I ⟨x,C,dx,T,H',ee,os',bare',un,hok,nx,nT,hx,hT,fl,hE⟩;subst ee;have I':=I.call' (ch:=[]) os' un hok bare' (fun b z=>absurd z (by simp));have B:Un (O4 outer) [] H H' s.heap s'.heap:=I'.base;have szl:s.heap.objs.size<=s1.heap.objs.size:=I.sz;have old:∀ (y:Addr),s1.heap.objs.size<=y->∀ b o,s.heap.get? b=some o->b≠y:=fun y hy b o z q=>by rw [q] at z;exact absurd (Heap.lt_size z) (Nat.not_lt.mpr (F6 szl hy))
 have N6:∀ b o,s.heap.get? b=some o->b∉O4 outer->b∉O4 ((envOfC qual scope s.heap.objs.size f cd)::outer):=fun b o z n q=>by
  have z1:b∈(envOfC qual scope s.heap.objs.size f cd).locals::O4 outer:=I.stkSub b q
  rcases F9.mp z1 with r | r
  .have:b<(envOfC qual scope s.heap.objs.size f cd).locals:=O9 (Heap.lt_size z) I.ok.above
   rw [r] at this;exact absurd this (X5 _)
  .exact n r
 show wpAny _ _ (leaving _ _) _ _ _;unfold leaving;refine wpAny_bind (wR (s:=s') I'.ok.frames I'.stack (L:=s.heap.objs.size) rfl fl fun h' T' nT' fl' k1 k2=>?_);refine ⟨x,C,dx,T',H',rfl,I'.os,I'.bare,⟨fun b o z n hb N0=>?_,fun b o z n hb N0=>?_,fun b o z n N0=>B.free b o z n N0,fun b o z N0=>?_,B.tups,B.frzs,B.tbls⟩,fun b u q=>?_,F6 szl nx,?_,hx,I'.hok.fresh nT',fl',hE⟩
 .exact k1 b o (old x nx b o z) (old T nT b o z) (N6 b o z hb) (B.keep b o z n hb N0)
 .obtain ⟨sl,q⟩:=B.slot b o z n hb N0;obtain ⟨sl',q'⟩:=k2 b _ (old x nx b o z) (old T nT b o z) q;exact ⟨sl',q'⟩
 .obtain ⟨o',q⟩:=B.there b o z N0;obtain ⟨sl',q'⟩:=k2 b o' (old x nx b o z) (old T nT b o z) q;exact ⟨_,q'⟩
 .refine (I'.hok b u q).stay (fun c v hc z=>?_) (fun c z=>z) fun c xs z=>z
  have hcH:∃ o,H' c=some o:=by
   rcases hc with r | r
   .rw [r];exact ⟨_,q⟩
   .exact ⟨_,r⟩
  obtain ⟨oc,hcH⟩:=hcH;refine k1 c v (fun r=>?_) (fun r=>?_) (fun r=>?_) z
  .rw [r,hx] at hcH;cases hcH
  .rw [r,hT] at hcH;cases hcH
  .have:=I'.stkFree c r
   rw [hcH] at this;cases this
 .exact F6 I'.sz nT'
end
end L2
set_option maxRecDepth 100000
namespace L2
open PySem PySem.Spec PyProof.Rows
noncomputable abbrev Cx.inExc (X:Cx) (x:Addr) (xe:Value->Shared->Prop):Cx:={ X with A:=X.A.mark (some (.ref x)),calm:=false,xe:=xe }
section
variable {X:Cx} {pins:List (Addr×Obj)} {O:St} {H:Hp} {s:Shared}
theorem Inv.inExc(I:Inv X pins O H s)(x:Addr)(xe:Value->Shared->Prop):Inv (X.inExc x xe) pins O H s:=
 ⟨⟨I.ok.mod,I.ok.kind,I.ok.glob,I.ok.blt,I.ok.above,I.ok.inj,I.ok.has,I.ok.cab,(fun z=>by cases z),I.ok.frames,I.ok.stk,I.ok.exf,I.ok.bs,I.ok.bsz,I.ok.noex,I.ok.exfs,I.ok.funs,I.ok.frf⟩,I.os,I.bare,I.base,I.loc,I.cell,I.free,I.freeC,I.pin,I.hok,I.len⟩
theorem Inv.outExc{x:Addr}{xe:Value->Shared->Prop}(hd:X.calm=true->X.A.handled=none)(I:Inv (X.inExc x xe) pins O H s):Inv X pins O H s:=
 ⟨⟨I.ok.mod,I.ok.kind,I.ok.glob,I.ok.blt,I.ok.above,I.ok.inj,I.ok.has,I.ok.cab,hd,I.ok.frames,I.ok.stk,I.ok.exf,I.ok.bs,I.ok.bsz,I.ok.noex,I.ok.exfs,I.ok.funs,I.ok.frf⟩,I.os,I.bare,I.base,I.loc,I.cell,I.free,I.freeC,I.pin,I.hok,I.len⟩
theorem Inv.beyond{s':Shared}(I:Inv X pins O H s)(h:s.heap.objs.size<=b):(b∈X.ex\/X.s₀.heap.objs.size<=b)/\b≠X.env.locals/\(∀ x c,X.env.cells.lookup x=some c->c≠b)/\∀ p∈X.pn++pins,p.1≠b:=by
 refine ⟨.inr (F6 I.sz h),fun e=>?_,fun x c z e=>?_,fun p hp e=>?_⟩
 .have:=I.lt
  rw [<- e] at this;exact absurd this (Nat.not_lt.mpr h)
 .obtain ⟨v,o,ho,_⟩:=I.cell x c z
  have:=Heap.lt_size ho
  rw [e] at this;exact absurd this (Nat.not_lt.mpr h)
 .have:=Heap.lt_size (I.pin p hp).1
  rw [e] at this;exact absurd this (Nat.not_lt.mpr h)
theorem ahR{M:Model}{n:Str}{pos:Pos}{Q:Unit->Shared->Prop}(I:Inv X pins O H s)(hN:X.N.Nodup)(hi:X.N[i]?=some n)(hk:X.env.kindOf n=some .local)(h:∀ s',Inv X pins (O.set i none) H s'->Q () s'):wpAny M A (do bindName X.env n .none;unbindBehindTheSuite X.env n pos) Q E s:=by
 obtain ⟨m,hn,hl⟩:=I.loc;have bU:(X.env.scope.kind == .class || (X.env.scope.kind == .module&&X.env.locals != X.env.globals))=false:=by rw [I.ok.kind];rfl
 refine wpAny_nameGoes_keeps hk hn bU fun h' v eU hs=>h _ ?_
 have cne:=I.cne;have k:∀ b o,b≠X.env.locals->s.heap.get? b=some o->h'.get? b=some o:=fun b o hb z=>(hs.2 b hb).trans z
 have neL:∀ b o,X.s₀.heap.get? b=some o->b≠X.env.locals:=fun b o e=>G6 (O9 (Heap.lt_size e) I.ok.above)
 have B:=I.base;refine ⟨I.ok,I.os,I.bare,⟨fun b o z n hb hx=>k b o (neL b o z) (B.keep b o z n hb hx),fun b o z n hb hx=>?_,B.free,fun b o z hx=>?_,B.tups,B.frzs,B.tbls⟩,⟨_,eU,fun j y u h1 h2 h3=>?_⟩,fun y c z=>?_,I.free,I.freeC,fun p hp=>?_,fun b u e=>?_,?_⟩
 .obtain ⟨sl,q⟩:=B.slot b o z n hb hx;exact ⟨sl,k b _ (neL b o z) q⟩
 .obtain ⟨o',q⟩:=B.there b o z hx;exact ⟨o',k b o' (neL b o z) q⟩
 .have fD:i≠j:=fun e=>by
   subst e;rw [List.getElem?_set_self (by rw [I.len];exact (K1.mp hi).1)] at h2;cases h2
  rw [List.getElem?_set_ne fD] at h2;obtain ⟨u',r,lk⟩:=hl j y u h1 h2 h3;have hyn:y≠n:=fun e=>fD (mP hN (by rw [hi,<- e]) h1)
  refine ⟨u',r,?_⟩
  rcases lk with ⟨a,b⟩ | ⟨a,c,b,d⟩
  .exact .inl ⟨a,by show (if y=n then v else m y)=_;rw [if_neg hyn];exact b⟩
  .obtain ⟨o,ho,hd⟩:=d;exact .inr ⟨a,c,b,o,k c o (cne y c b) ho,hd⟩
 .obtain ⟨v',o,ho,hd⟩:=I.cell y c z;exact ⟨v',o,k c o (cne y c z) ho,hd⟩
 .obtain ⟨a,b,c,d,e⟩:=I.pin p hp;exact ⟨k _ _ c a,b,c,d,e⟩
 .refine (I.hok b u e).stay (fun c v' hc z=>k c v' (fun r=>?_) z) (fun _ z=>z) fun _ _ z=>z
  have:=I.free
  rcases hc with r' | r'
  .rw [<- r,r',e] at this;cases this
  .rw [<- r,r'] at this;cases this
 .rw [List.length_set];exact I.len
end
end L2
set_option maxRecDepth 100000
namespace L2
open PySem PySem.Spec PyProof.Rows
section
variable {X:Cx} {pins:List (Addr×Obj)} {O:St} {H:Hp} {s s':Shared} {E:XK} {e:Value} {Dn n:Str} {dp hp:Pos} {i:Nat} {yu:Stmt} {suite:List Stmt} {ts:TS} {D:Ends} {DC:Addr} {cd:ClassData}
theorem Inv.held{x T2:Addr}(I1:Inv X pins O H' s')(hbx:(x∈X.ex\/X.s₀.heap.objs.size<=x)/\x≠X.env.locals/\(∀ y c,X.env.cells.lookup y=some c->c≠x)/\∀ p∈X.pn++pins,p.1≠x)(hbT:(T∈X.ex\/X.s₀.heap.objs.size<=T)/\T≠X.env.locals/\(∀ y c,X.env.cells.lookup y=some c->c≠T)/\∀ p∈X.pn++pins,p.1≠T)(hx:H' x=none)(hT:H' T=none)(fH:Flies h2 x C dx T2)(k1:∀ b o,b≠x->b≠T->b∉X.stack.filterMap (·.frame)->s'.heap.get? b=some o->h2.get? b=some o)(k2:∀ b o,b≠x->b≠T->s'.heap.get? b=some o->∃ sl,h2.get? b=some { o with slots:=sl }) :
  Inv X pins O (A0 H' x (xc x C dx)) { s' with heap:=h2 }:=by
 obtain ⟨vs,oT,tsl,he,h1,hTx,hT2,hTd,h3⟩:=fH;have fr:∀ b,b≠X.env.locals->b∉X.fs->b∉X.stack.filterMap (·.frame):=fun b hL hf q=>by
  rcases F9.mp (I1.stkSub b q) with r | r
  .exact hL r
  .exact hf r
 refine I1.step (g':=s'.gens) (d':=s'.drawn) (t':=s'.toks) (ch:=[x,T]) (fun b hb=>?_) (fun b o hL hf hc z _=>k1 b o (fun r=>hc (by simp [r])) (fun r=>hc (by simp [r])) (fr b hL hf) z) (fun b o hL hf hc z _=>k2 b o (fun r=>hc (by simp [r])) (fun r=>hc (by simp [r])) z) (fun b o hc z n=>?_) (fun b o hc z=>?_) (fun b xs z=>?_) (fun b o u z=>?_) (fun b ps z=>?_) (fun m hm=>?_) (wS (fun b u q=>?_) hx (xc_ok he rfl rfl rfl)) I1.bare
 .rcases F9.mp hb with r | r
  .rw [r];exact hbx
  .rw [G5.mp r];exact hbT
 .rw [A9 (fun r=>hc (by simp [r]))];exact n
 .obtain ⟨sl,q⟩:=k2 b o (fun r=>hc (by simp [r])) (fun r=>hc (by simp [r])) z;exact ⟨_,q⟩
 .rw [A9 (O0 z hx)];exact z
 .rw [A9 (O0 z hx)];exact z
 .exact ⟨#[],by rw [A9 (O0 z hx),z];simp⟩
 .obtain ⟨o,es,ep,ho,r⟩:=hm;obtain ⟨sl,q⟩:=k2 _ o (Ne.symm hbx.2.1) (Ne.symm hbT.2.1) ho;exact ⟨_,es,ep,q,r⟩
 .refine (I1.hok b u q).stay (fun c v hc z=>?_) (fun c z=>z) fun c xs z=>z
  have hcH:∃ o,H' c=some o:=by
   rcases hc with r | r
   .rw [r];exact ⟨_,q⟩
   .exact ⟨_,r⟩
  obtain ⟨oc,hcH⟩:=hcH;refine k1 c v (O0 hcH hx) (O0 hcH hT) (fun r=>?_) z
  have:=I1.stkFree c r
  rw [hcH] at this;cases this
theorem Inv.other(I:Inv X pins O H s)(hb:(T∈X.ex\/X.s₀.heap.objs.size<=T)/\T≠X.env.locals/\(∀ y c,X.env.cells.lookup y=some c->c≠T)/\∀ p∈X.pn++pins,p.1≠T)(hT:H T=none)(k:∀ b o,b≠T->s.heap.get? b=some o->h2.get? b=some o):Inv X pins O H { s with heap:=h2 }:=
 I.turned (t':=s.toks) k hT hb.2.1 hb.1 hb.2.2.1 hb.2.2.2
theorem wV(U1:X.stack=X.env::X.outer)(jC:X.env.frame=some X.env.locals)(I:Inv X pins O H s)(c:T7 X.prog X.w X.stack H s E e s')(hg:Gl X Dn)(hm:X.mg Dn=some (.ref DC))(hDc:cZ X.K DC=some cd)(hDt:PySem.W.typeIn X.K (.ref DC)=some (.type "type"))(hDb:R4 X.K DC (.type "BaseException")=some true)(hN:X.N.Nodup)(hi:X.N[i]?=some n)(hk:X.env.kindOf n=some .local)(hs:∀ x xe,P7 (X.inExc x xe) (yu::suite) ts)(hE:∀ C dx H',E (.ref C) (some dx) H'->R4 X.K C (.ref DC)=some true/\∀ x,H' x=none->ts { nx:=fun σ' H''=>D.nx (σ'.set i none) H'',rt:=fun _ _=>False } (O.set i (some (.ref x))) (A0 H' x (xc x C dx)))(J7:(Dn==("__debug__" : Str))=false:=by decide) :
  wpAny (model X.prog X.w) X.A (noteFrame e X.env) (fun _ zv=>wpAny (model X.prog X.w) X.A (setFlight e none) (fun _ zu=>wpAny (model X.prog X.w) X.A (handleBy e X.env [.ExceptHandler (some (.Name Dn dp)) (some n) (yu::suite) hp]) (SP X pins D) X.xe zu) X.xe zv) X.xe s':=by
 obtain ⟨x,C,dx,T,H',ee,os',bare',un,hok,nx,nT,hx,hT,fl,hE'⟩:=c;subst ee;obtain ⟨rD,jD⟩:=hE C dx H' hE';have I1:=I.call' (ch:=[]) os' un hok bare' (fun b z=>absurd z (by simp));have bx:=I.beyond (s':=s) nx;have bT:=I.beyond (s':=s) nT;have N6:X.A.frames=some (X.env::X.outer):=by rw [<- U1];exact I.ok.frames
 have Z0:s'.heap.FunFrames X.base (X.env::X.outer):=by rw [<- U1];exact I1.stack
 refine wR (s:=s') N6 Z0 jC fl fun h2 T2 nT2 fH k1 k2=>?_
 rw [<- U1] at k1;have I2:=I1.held bx bT hx hT fH k1 k2;have bT2:=I1.beyond (s':=s) nT2;have hT2:A0 H' x (xc x C dx) T2=none:=by
  obtain ⟨_,_,_,_,_,hTx,_⟩:=fH;rw [A9 hTx];exact I1.hok.fresh nT2
 refine wpAny_handleBy_cons (codeAny_handlers_test ?_) (by intro q;cases q);have I3:=I2.inExc x X.xe;have hmatch:∀ (s2:Shared),s2={ s' with heap:=h2 }->True:=fun _ _=>trivial
 refine dF I3 hg hm ?_ J7;obtain ⟨vs,oT,tsl,mE,r2⟩:=id fH;refine ahM (s:={ s' with heap:=h2 }) I2.kIn mE rfl hDc hDt hDb rD ?_;refine codeAny_handlers_suite_as (ajj (s:={ s' with heap:=h2 }) fH fun h3 fl3 k3=>?_);have I4:=I2.other bT2 hT2 k3;refine gF I4 hN hi (.inl hk) (v:=.ref x) rfl (fun s5 I5=>?_) (.inr hk);refine wpAny_mono (hs x _ pins s5 _ _ _ (I5.inExc x _) (jD x hx)) (fun f s6 q=>?_) fun _ _ z=>z
 cases f with
 | next=>
  obtain ⟨σ6,H6,I6,q6⟩:=q;exact ahR (I6.outExc I.ok.hd) hN hi hk fun s7 I7=>⟨_,H6,I7,q6⟩
 | ret u=>obtain ⟨_,_,_,_,_,z⟩:=q;exact z.elim
 | brk=>obtain ⟨_,_,_,z⟩:=q;exact z.elim
 | cont=>obtain ⟨_,_,_,z⟩:=q;exact z.elim
end
end L2
set_option maxRecDepth 100000
namespace L2
open PySem PySem.Spec PyProof.Rows
section
variable {X:Cx} {pins:List (Addr×Obj)} {O:St} {H:Hp} {s:Shared} {E:XK} {k:Nat} {f:Addr} {fd:FuncData} {ps:List Str} {sp:Sp} {g:Str} {gp cp:Pos} {e:Expr} {es:List Expr} {t:TA} {Q:VK} {XE:Value->Shared->Prop} {dvs:List V} {ds:List Value}
end
noncomputable def j6 (K:PySem.W.Frag) (DC:Addr) (i:Nat) (ts:TS) (D:Ends) (O:St):XK:=fun cls dx H'=>∃ C d,cls=.ref C/\dx=some d/\R4 K C (.ref DC)=some true/\∀ x,H' x=none->ts { nx:=fun σ' H''=>D.nx (σ'.set i none) H'',rt:=fun _ _=>False } (O.set i (some (.ref x))) (A0 H' x (xc x C d))
noncomputable def tTryE (K:PySem.W.Frag) (sp:Sp) (dvs:List V) (t:TA) (DC:Addr) (i:Nat) (ts:TS):TS:=fun D O H=>t O H fun vs H1=>sp (vs++dvs) H1 (fun _ H2=>D.nx O H2) (j6 K DC i ts D O)
noncomputable def tTryA (K:PySem.W.Frag) (sp:Sp) (dvs:List V) (t:TA) (j:Nat) (DC:Addr) (i:Nat) (ts:TS):TS:=fun D O H=>t O H fun vs H1=>sp (vs++dvs) H1 (fun v H2=>D.nx (O.set j (some v)) H2) (j6 K DC i ts D O)
structure CatchC(K:PySem.W.Frag)(DC:Addr):Prop where
 cl:∃ cd,cZ K DC=some cd
 ty:PySem.W.typeIn K (.ref DC)=some (.type "type")
 bx:R4 K DC (.type "BaseException")=some true
section
variable {X:Cx} {k:Nat} {f DC:Addr} {fd:FuncData} {ps:List Str} {sp:Sp} {g Dn n y:Str} {gp cp ep dp hp pos yp:Pos} {e:Expr} {es:List Expr} {t:TA} {i j:Nat} {yu:Stmt} {suite:List Stmt} {ts:TS} {dvs:List V} {ds:List Value}
end
noncomputable def tXGet (K:PySem.W.Frag) (ta:TE) (f:Str):TE:=fun O H Q=>ta O H fun x H1=>∃ a C dx g fs v,x=.ref a/\H1 a=some (xc a C dx)/\H1 dx=some (.xd fs)/\ErrC K C g/\NoAttr K C f/\fs.lookup f=some v/\Q v H1
noncomputable def clsV:V->Option Value
 | .ref a=>some (.ref a)
 | .ty t=>some (.type t)
 | _=>none
noncomputable def rIsX (K:PySem.W.Frag):List V->Hp->VK->Prop:=fun xs H Q=>∃ a C dx g fs c cv b,xs=[.ref a,c]/\H a=some (xc a C dx)/\H dx=some (.xd fs)/\ErrC K C g/\clsV c=some cv/\K9 K (.ref C) cv=some b/\Q (.bl b) H
section
variable {X:Cx} {e:Expr} {te:TE} {f:Str} {pos:Pos}
theorem wW{fs:List (Str×V)}(I:Inv X pins O H s)(h1:H a=some (xc a C dx))(h2:H dx=some (.xd fs)) :
  ∃ (ox od:Obj) (mA:Str->Option Value),PySem.W.InstAt s.heap a ox C (some od)/\(∀ name,PySem.W.lookIn name od=some (mA name))/\∀ g,RelO (fs.lookup g) (mA g):=by
 obtain ⟨o,ho,hc,hd,hn⟩:=(I.hok _ _ h1).1;obtain ⟨mA,ns,rel⟩:=I.hok _ _ h2;obtain ⟨od,fA,hl⟩:=sX ns;refine ⟨o,od,mA,⟨ho,hc,hn,?_⟩,hl,rel⟩;rw [hd];exact fA
theorem alv(he:PE X e te)(hb:attributeBase e f X.env (eval e X.env)=eval e X.env):PE X (.Attribute e f pos) (tXGet X.K te f):=by
 intro pins s O H Q I h;refine sZ hb (C0 (he pins s O H _ I h) fun u s1 z=>?_);obtain ⟨x,H1,I1,rx,a,C,dx,g,fs,v,ex,h1,h2,M,n,l,q⟩:=z;subst ex;obtain rfl:u=Value.ref a:=rx;obtain ⟨ox,od,mA,J,hl,rel⟩:=wW I1 h1 h2;obtain ⟨u,hu,ru⟩:=gI (v:=v) (o:=mA f) (by rw [<- l];exact rel f);obtain ⟨cd,hc,hd,_⟩:=M.cls;obtain ⟨hh,g',d,tk,os⟩:=s1;refine alq I1.kIn J M.ga M.gt M.bx (PySem.W.findObj_own (by unfold cX;rw [hc];exact hd) n rfl (by rw [hl,hu])) (sY ru) ?_;exact ⟨v,H1,I1.tok _,ru,q⟩
theorem ajn(hn:aX X.K (.builtin "object.__class__") "__get__"=some (some (.builtin "getset_descriptor.__get__")))(ht:gE X.K (.builtin "object.__class__")=some true):CallR X (.builtin "isinstance") (rIsX X.K):=by
 intro pins s O H xs us Q I r h;obtain ⟨a,C,dx,g,fs,c,cv,b,rfl,h1,h2,M,jE,hk,q⟩:=h;obtain ⟨u1,u2,rfl,r1,r2⟩:=vals2 r
 cases r1
 have e2:u2=cv:=by
  cases c with
  | ref D=>cases jE;exact r2
  | ty t=>cases jE;exact r2
  | _=>cases jE
 subst e2;obtain ⟨ox,od,mA,J,hl,rel⟩:=wW I h1 h2;obtain ⟨cd,hc,hd,_⟩:=M.cls;exact X6 (aji (ox:=ox) (od:=od) (by unfold cX;rw [hc];exact hd) M.ga M.gt M.bx M.cl hn ht M.ob) I.kIn J hk (by intro z;cases z) fun tk=>⟨.bl b,H,I.tok _,rfl,q⟩
end
end L2
set_option maxRecDepth 100000
namespace L2
open PySem PySem.Spec PyProof.Rows
noncomputable def pA (P:Program) (w:World) (K:PySem.W.Frag) (mg:Str->Option Value) (base:Heap) (k:Nat) (x:Str) (ps:List Str) (dvs:List V) (sp:Sp):Prop:=
 ∃ f fd,FnOk P w K mg base (T7 P w) k f fd ps sp/\mg x=some (.ref f)/\Q6 K (.ref f)=true/\∃ ds,Binds K fd ps ds/\Vals dvs ds
noncomputable def EO (P:Program) (w:World) (K:PySem.W.Frag) (mg:Str->Option Value) (base:Heap) (k:Nat) (C:Addr) (x:Str) (ps:List Str) (sp:Sp):Prop:=
 ∃ f fd,FnOk P w K mg base G0 k f fd ps sp/\mg x=some (.ref C)/\ErrC K C f/\Binds K fd ps []
section
variable {X:Cx} {K:PySem.W.Frag} {k:Nat} {C:Addr} {ps:List Str} {sp:Sp} {x:Str} {p pos np ap cp ep dp hp yp gp:Pos} {e a b:Expr} {es:List Expr} {t:TA} {te ta tb tv:TE} {m:Nat} {E:XK}
theorem ann(G:EO X.prog X.w X.K X.mg X.base k C x ps sp)(hr:Room (k+1) X.A)(ha:QA X (e::es) t)(hg:Gl X x:=by rfl)(hm:X.s₀.heap.objs.size=m:=by rfl)(J7:(x==("__debug__" : Str))=false:=by decide)(he:starEach (e::es) X.env=(false,eval e X.env)::starEach es X.env:=by rfl)(P6:(backTo pos (starEach es X.env)).any (·.1)=false:=by rfl):QE X (.Call (.Name x p) (e::es) [] pos) (tErr m C sp t):=by
 subst hm;obtain ⟨f,fd,F,bX,M,hb⟩:=G;exact ⟨anl M F hr hg bX hb ha.out J7 he P6⟩
theorem alw{L:Addr}{pl:Sem Bool}(N:LoreC X.K L)(hm:X.mg x=some (.ref L))(ha:QE X a ta)(hb:QE X b tb)(hK:X.K=K:=by rfl)(hg:Gl X x:=by rfl)(J7:(x==("__debug__" : Str))=false:=by decide)(rB:backTo cp (starEach [a,b] X.env)=[(false,eval a X.env),(false,eval b X.env)]:=by rfl)(ht:eval (.Call (.Attribute (.Name x np) "__init__" ap) [a,b] [] cp) X.env=(do
   let ov <- eval (.Name x np) X.env
   standAt ap.atName
   let (f,first) <- holding [ov] (getMethod ov "__init__" pl)
   callWith cp f first (backTo cp (starEach [a,b] X.env)) (backToKw cp (keywordEach [] X.env))):=by rfl):QE X (.Call (.Attribute (.Name x np) "__init__" ap) [a,b] [] cp) (tInit K ta tb):=by
 subst hK;exact ⟨als N hg hm ha.out hb.out J7 rB ht⟩
theorem ago{t1 t2:TE}(h1:QE X a t1)(h2:QE X b t2):QE X (.JoinedStr [a,b] pos) (bO [t1,t2]):=⟨ahP (.cons h1.out (.cons h2.out .nil)) (by decide)⟩
theorem alx{f:Str}(ha:QE X a ta)(hv:QE X b tv)(hK:X.K=K:=by rfl)(hs:swapsWith b (some (.Attribute a f ap)) pos.line X.env=pure false:=by rfl):QS X (.Assign [.Attribute a f ap] b pos) (sXFld K ta tv f):=by
 subst hK;exact ⟨alt ha.out hv.out hs⟩
theorem ajo(hx:∀ (pins:List (Addr×Obj)) (O:St) (H:Hp) (s:Shared) (x C dx:Addr),Inv X pins O H s->H x=some (xo m x C dx)->E (.ref C) (some dx) (W5 H x)->X.xe (.ref x) s)(he:QE X e te)(hK:X.K=K:=by rfl)(hc:X.calm=true:=by rfl):QS X (.Raise (some e) none pos) (oZ K m E te):=by
 subst hK;exact ⟨ajm hx hc he.out⟩
theorem ajp(G:pA X.prog X.w X.K X.mg X.base k x ps dvs sp)(hr:Room k X.A)(hx:gJ (T7 X.prog X.w) X E)(ha:QA X (e::es) t)(hg:Gl X x:=by rfl)(J7:(x==("__debug__" : Str))=false:=by decide)(he:starEach (e::es) X.env=(false,eval e X.env)::starEach es X.env:=by rfl)(P6:(backTo pos (starEach es X.env)).any (·.1)=false:=by rfl):QE X (.Call (.Name x p) (e::es) [] pos) (tCall sp dvs E t):=by
 obtain ⟨f,fd,F,hm,hk,ds,hb,hd⟩:=G;exact ⟨tE F hr hg hm hk hb hd hx ha.out J7 he P6⟩
theorem aly{f:Str}(he:QE X e te)(hK:X.K=K:=by rfl)(hb:attributeBase e f X.env (eval e X.env)=eval e X.env:=by rfl):QE X (.Attribute e f pos) (tXGet K te f):=by
 subst hK;exact ⟨alv he.out hb⟩
theorem q_isX(hn:aX X.K (.builtin "object.__class__") "__get__"=some (some (.builtin "getset_descriptor.__get__")))(ht:gE X.K (.builtin "object.__class__")=some true)(hK:X.K=K:=by rfl):QCall X (.builtin "isinstance") (rIsX K):=by
 subst hK;exact ⟨ajn hn ht⟩
variable {DC:Addr} {Dn n y:Str} {i j:Nat} {yu:Stmt} {suite:List Stmt} {ts:TS} {dvs:List V} {N:List Str} {S:Scope}
end
section
variable {O:St} {H:Hp} {Q:VK} {D:Ends} {m:Nat} {C DC:Addr} {sp:Sp} {t:TA} {te ta tb tv:TE} {K:PySem.W.Frag} {E:XK} {f:Str} {i j:Nat} {ts:TS} {dvs:List V} {tl:List TE}
theorem ano:tErr m C sp t O H Q=t O H fun vs H1=>vs.length<=1000/\∀ x,H1 x=none->sp (.ref x::vs) (A0 H1 x (xm m x C)) (fun v H2=>v=.non/\Q (.ref x) H2) E0:=rfl
theorem ajq:oZ K m E te D O H=te O H fun v H1=>∃ x C dx f,v=.ref x/\H1 x=some (xo m x C dx)/\ErrC K C f/\E (.ref C) (some dx) (W5 H1 x):=rfl
theorem alz:tInit K ta tb O H Q=ta O H fun x H1=>tb O H1 fun _ H2=>∃ a m C f,x=.ref a/\H2 a=some (xm m a C)/\ErrC K C f/\Q .non H2:=rfl
theorem alA:tFmtI te O H Q=te O H fun v H1=>∃ i:Int,v=.int i/\i.natAbs<10 ^ 9/\∀ z:Str,z.length<=100->Q (.str z) H1:=rfl
theorem ahS:bO [] O H Q=∀ z:Str,Q (.str z) H:=rfl
theorem ajr:bO (te::tl) O H Q=te O H fun v H1=>∃ y:Str,v=.str y/\y.length<=100000/\bO tl O H1 Q:=rfl
theorem alB:sXFld K ta tv f D O H=tv O H fun y H1=>ta O H1 fun x H2=>∃ a m C g,x=.ref a/\H2 a=some (xm m a C)/\ErrC K C g/\NoAttr K C f/\∀ dx,H2 dx=none->dx≠a->D.nx O (A0 (A0 H2 a (xo m a C dx)) dx (.xd [(f,y)])):=rfl
theorem alC:tXGet K ta f O H Q=ta O H fun x H1=>∃ a C dx g fs v,x=.ref a/\H1 a=some (xc a C dx)/\H1 dx=some (.xd fs)/\ErrC K C g/\NoAttr K C f/\fs.lookup f=some v/\Q v H1:=rfl
theorem alD:tTryE K sp dvs t DC i ts D O H=t O H fun vs H1=>sp (vs++dvs) H1 (fun _ H2=>D.nx O H2) (j6 K DC i ts D O):=rfl
theorem alE:tTryA K sp dvs t j DC i ts D O H=t O H fun vs H1=>sp (vs++dvs) H1 (fun v H2=>D.nx (O.set j (some v)) H2) (j6 K DC i ts D O):=rfl
end
theorem ad5:bootBuiltins "ValueError"=some (.type "ValueError"):=by decide +kernel
theorem nsOk_of{N:Addr}{c:Value}{d:Option Addr}{es:Array DictEntry}{sl:Array (Option Value)}(h:K.lookup N=some ⟨c,d,.dict es n,sl⟩)(ha:(es.toList.all fun e=>match e.key with | .str _ _=>true | _=>false)=true):PySem.W.nsOkIn K N=true:=by
 unfold PySem.W.nsOkIn;rw [h];show (es.all _)=true;rw [<- Array.all_toList];exact ha
theorem tail_one{A:Addr}{c:Value}{d:Option Addr}{cd:ClassData}{sl:Array (Option Value)}(h:K.lookup A=some ⟨c,d,.cls cd,sl⟩)(h1:PySem.W.nsOkIn K cd.ns=true)(h2:E7 K cd.ns "__init__"=some none):cY K bmB (.ref A::bmB)=true:=by
 unfold cY
 dsimp only
 rw [h];have h3:cY K bmB bmB=true:=by
  cases bmB with
  | nil=>rfl
  | cons v r=>
   unfold cY;rw [beq_self_eq_true];rfl
 simp only [h1,h2,h3,beq_self_eq_true,Bool.and_self,Bool.or_true]
end L2
set_option maxRecDepth 100000
namespace L2
open PySem PySem.Spec PyProof.Rows
open PySem.Builtin PySem.Builtin.Str PySem.StrLaws
end L2
set_option maxRecDepth 100000
namespace L2
open PySem PySem.Spec PyProof.Rows
open PySem.Builtin PySem.Builtin.Str PySem.StrLaws
end L2
set_option maxRecDepth 100000
namespace L2
open PySem PySem.Spec PyProof.Rows
open PySem.Builtin PySem.Builtin.Str PySem.StrLaws
noncomputable def tFmtR (te:TE):TE:=fun O H Q=>te O H fun v H1=>∃ y:Str,v=.str y/\y.length<=1000/\Z9 y=true/\∀ z:Str,z.length<=20000->Q (.str z) H1
theorem alF : tFmtR te O H Q=te O H fun v H1=>∃ y:Str,v=.str y/\y.length<=1000/\Z9 y=true/\∀ z:Str,z.length<=20000->Q (.str z) H1:=rfl
theorem alG{pos:Pos}(he:PE X e te):PE X (.FormattedValue e 114 none pos) (tFmtR te):=by
 intro pins s O H Q I h;refine wpAny_FormattedValue_repr (C0 (he pins s O H _ I h) fun u s1 ⟨v,H1,I1,rv,y,ev,hy,ho,q⟩=>?_);subst ev;obtain ⟨t,rfl⟩:=rv;have hc:∀ c∈y.cps.toList,c<16 ^ 8:=fun c hc=>by
  unfold Z9 at ho;rw [<- Array.all_toList,List.all_eq_true] at ho
  have:=ho c hc
  simp only [decide_eq_true_eq] at this;exact aW this (by decide)
 have hl:(reprText y).length<=20000:=F6 (reprText_len y hc) (by lia);have hz:(reprText y).length<=sizeLine:=F6 hl (by decide);exact wpAny_pyReprObj_str (wpAny_formatField_str ⟨.str _,H1,I1.tok _,⟨_,rfl⟩,q _ hl⟩ ⟨.str _,H1,I1.tok _,⟨_,rfl⟩,q _ hl⟩ hz) hz
theorem alH{pos:Pos}(he:QE X e te):QE X (.FormattedValue e 114 none pos) (tFmtR te):=⟨alG he.out⟩
end L2
set_option maxRecDepth 100000
namespace L2
open PySem PySem.Spec PyProof.Rows
noncomputable def XH1 (X:Cx) (pins:List (Addr×Obj)) (D:Ends) (hh:ExceptHandler):Value->Shared->Prop:=fun e s'=>wpAny (model X.prog X.w) X.A (noteFrame e X.env) (fun _ zv=>wpAny (model X.prog X.w) X.A (setFlight e none) (fun _ zu=>wpAny (model X.prog X.w) X.A (handleBy e X.env [hh]) (SP X pins D) X.xe zu) X.xe zv) X.xe s'
structure QTB(X:Cx)(hh:ExceptHandler)(bs:List Stmt)(t:TS):Prop where
 out:∀ (pins:List (Addr×Obj)) (s:Shared) (O:St) (H:Hp) (D:Ends),Inv X pins O H s->t D O H->wpAny (model X.prog X.w) X.A (execs bs X.env) (SP X pins D) (XH1 X pins D hh) s
section
variable {X:Cx} {K:PySem.W.Frag} {hh:ExceptHandler} {bs sa sb:List Stmt} {t u:TS} {pos:Pos} {c:Expr} {tA:TT}
theorem wX(h:QTB X hh bs t):QS X (.Try bs [hh] [] [] pos) t:=
 ⟨fun pins s O H D I z=>wpAny_Try_except (wpAny_mono (h.out pins s O H D I z) (fun f s1 z=>by cases f <;> first | exact wpAny_execs_nil z | exact z) fun _ _ z=>z)⟩
end
section
variable {X:Cx} {K:PySem.W.Frag} {k:Nat} {DC:Addr} {ps:List Str} {sp:Sp} {x Dn n:Str} {gp cp ep dp hp:Pos} {e:Expr} {es:List Expr} {t:TA} {i:Nat} {yu:Stmt} {suite:List Stmt} {ts:TS} {dvs:List V}
end
end L2
set_option maxRecDepth 100000
namespace L2
open PySem PySem.Spec PyProof.Rows
noncomputable def lA (P:Program) (w:World) (K:PySem.W.Frag) (mg:Str->Option Value) (base:Heap) (k:Nat) (C:Addr) (x:Str) (ps:List Str) (sp:Sp):Prop:=
 ∃ f fd,FnOk P w K mg base (T7 P w) k f fd ps sp/\Mk K C f/\mg x=some (.ref C)/\Binds K fd ps []
structure QEx(X:Cx)(e:Expr)(t:XK->TE):Prop where
 out:∀ (XE:Value->Shared->Prop) (E:XK) (pins:List (Addr×Obj)) (s:Shared) (O:St) (H:Hp) (Q:VK),(∀ H1 s1 e' s',Inv X pins O H1 s1->T7 X.prog X.w X.stack H1 s1 E e' s'->XE e' s')->Inv X pins O H s->t E O H Q->wpAny (model X.prog X.w) X.A (eval e X.env) (EP X pins O Q) XE s
section
variable {X:Cx} {k:Nat} {f C:Addr} {fd:FuncData} {ps:List Str} {sp:Sp} {x m:Str} {p pos apos:Pos} {e o:Expr} {es:List Expr} {ta:XK->TE} {t:TA} {E:XK} {XE:Value->Shared->Prop}
theorem ahU(M:Mk X.K C f)(F:FnOk X.prog X.w X.K X.mg X.base (T7 X.prog X.w) k f fd ps sp)(hr:Room (k+1) X.A){ds:List Value}(hb:Binds X.K fd ps ds)(hd:Vals dvs ds)(hx:∀ H1 s1 e' s',Inv X pins O H1 s1->T7 X.prog X.w X.stack H1 s1 E e' s'->XE e' s')(I:Inv X pins O H s)(r:Vals vs us)(h:∀ x dx,H x=none->H dx=none->dx≠x->sp (.ref x::(vs++dvs)) (A0 (A0 H dx (.own x)) x (.ins C dx [])) (fun v H2=>v=.non/\Q (.ref x) H2) E) :
  wpAny (model X.prog X.w) X.A (call (.ref C) us) (EP X pins O Q) XE s:=by
 have hq:=h (s.heap.objs.size+1) s.heap.objs.size (I.hok.fresh (Nat.le_succ _)) (I.hok.fresh (C6 _)) (G6 (Nat.lt_succ_self _));have I2:=Inv.made (C:=C) I;have r2:Vals (V.ref (s.heap.objs.size+1)::(vs++dvs)) (Value.ref (s.heap.objs.size+1)::(us++ds)):=.cons rfl (r.append hd);have hl:(Value.ref (s.heap.objs.size+1)::us++ds).length=ps.length:=by
  have e:=r2.length;rw [F.len _ _ _ _ hq] at e;exact e.symm
 refine wpAny_call (aim (f:=f) I.kIn M.makes M.init (beq_iff_eq.mp M.fn) (codeAny_mono (F.run _ X.stack _ _ ⟨Value.ref (s.heap.objs.size+1)::us,[]⟩ (Value.ref (s.heap.objs.size+1)::(us++ds)) _ _ E (hr.make C us [])
  (I2.env0.make C us []) (hb _ (Value.ref (s.heap.objs.size+1)::us) I2.kIn hl) r2 hq) fun r s' U0=>?_))
 cases r with
 | error e=>exact hx _ _ e s' I2 U0
 | ok fl=>
  cases fl with
  | ret u=>
   obtain ⟨v,H',I3,rv,ev,q3⟩:=I2.after U0;subst ev;exact ⟨rv,⟨V.ref (s.heap.objs.size+1),H',I3,rfl,q3⟩⟩
  | next=>exact False.elim U0
  | brk=>exact False.elim U0
  | cont=>exact False.elim U0
theorem wY(G:lA X.prog X.w X.K X.mg X.base k C x ps sp)(hr:Room (k+1) X.A)(ha:∀ XE,QA (X.wish XE) (e::es) t)(hg:Gl X x:=by rfl)(h1:K4 e=false:=by rfl)(h2:T0 es=true:=by rfl)(J7:(x==("__debug__" : Str))=false:=by decide) :
  QEx X (.Call (.Name x p) (e::es) [] pos) (fun E=>tMake C sp [] E t):=by
 obtain ⟨f,fd,F,M,hm,hb⟩:=G;refine ⟨fun XE E pins s O H Q hx I h=>?_⟩;refine wpAny_Call_Name_kw (dF I hg hm ?_ J7);refine PySem.W.callWith_K (h₀:=X.base) I.ok.mod.kin M.kp (C0 ((ha XE).out pos pins s O H _ (I.wish XE) h) fun us s1 z=>?_) (N7 h1) (bC h2);obtain ⟨vs,H1,I1,r,q⟩:=z;have I1:=I1.unwish;exact ⟨I1.kIn,ahU M F hr hb .nil hx I1 r q⟩
theorem ajs(ho:QEx X o ta)(G:MO X.prog X.w X.K X.mg X.base k C m ps sp)(hr:Room k X.A){pl:Sem Bool}(ht:eval (.Call (.Attribute o m apos) [] [] pos) X.env=(do
   let ov <- eval o X.env
   standAt apos.atName
   let (f,first) <- holding [ov] (getMethod ov m pl)
   callWith pos f first (backTo pos (starEach [] X.env)) (backToKw pos (keywordEach [] X.env))):=by rfl) :
  QEx X (.Call (.Attribute o m apos) [] [] pos) (fun E=>tMeth C m sp [] E0 (ta E) tNil):=by
 obtain ⟨f,fd,F,c,hm,hb⟩:=G;refine ⟨fun XE E pins s O H Q hx I h=>?_⟩;refine PySem.W.methodCall_KW (pl:=pl) (C0 (ho.out XE E pins s O H _ hx I h) fun u s1 z=>?_) ht;obtain ⟨x,H1,I1,rx,a,dx,fs,ex,ea,l,q⟩:=z;subst ex;obtain rfl:u=Value.ref a:=rx;refine af5 I1 ea c hm l ?_;exact wpAny_mono (PySem.W.callWith_K0 (first:=[.ref a]) I1.kIn hm.kp (tD (X:=X.wish XE) (us:=[.ref a]) (vs:=[.ref a]) F hr hb .nil pass0 (I1.wish XE) (.cons rfl .nil) q)) (fun v s2 z=>by
  obtain ⟨x,H2,I2,r,q⟩:=z;exact ⟨x,H2,I2.unwish,r,q⟩) fun _ _ z=>z
theorem qx_cB{id:String}{rc:List V->Hp->VK->Prop}(hc:∀ XE,QCall (X.wish XE) (.builtin id) rc)(hm:X.mg x=none)(hv:bootBuiltins x=some (.builtin id))(he:QEx X e ta)(hg:Gl X x:=by rfl)(h1:K4 e=false:=by rfl)(hn:x≠"__name__":=by decide)(J7:(x==("__debug__" : Str))=false:=by decide) :
  QEx X (.Call (.Name x p) [e] [] pos) (fun E=>w6 rc (tCons (ta E) tNil)):=by
 refine ⟨fun XE E pins s O H Q hx I h=>?_⟩;refine wpAny_Call_Name_kw (v9 I hg hm hv ?_ hn J7);refine PyProof.Rows.callWith_builtin1 ?_ (N7 h1) (bC rfl);rw [N7 h1];show wpAny _ _ (spliced ((false,eval e X.env)::backTo pos (starEach [] X.env))) _ _ s;refine Calls.spliced_cons (C0 (he.out XE E pins s O H _ hx I h) fun u s1 z=>?_);obtain ⟨x,H1,I1,r1,q1⟩:=z;refine Calls.spliced_nil ?_;refine C0 ((hc XE).out pins s1 O H1 [x] [u] Q (I1.wish XE) (.cons r1 .nil) q1) fun v s2 z=>?_
 obtain ⟨y,H2,I2,r2,q2⟩:=z;exact ⟨y,H2,I2.unwish,r2,q2⟩
end
noncomputable def tTryX (K:PySem.W.Frag) (te:XK->TE) (j:Nat) (DC:Addr) (i:Nat) (ts:TS):TS:=fun D O H=>te (j6 K DC i ts D O) O H fun v H2=>D.nx (O.set j (some v)) H2
noncomputable def wZ (K:PySem.W.Frag) (te:XK->TE) (DC:Addr) (i:Nat) (ts:TS):TS:=fun D O H=>te (j6 K DC i ts D O) O H fun _ H2=>D.nx O H2
section
variable {X:Cx} {K:PySem.W.Frag} {DC:Addr} {Dn n y:Str} {ep dp hp yp:Pos} {e:Expr} {te:XK->TE} {i j:Nat} {yu:Stmt} {suite:List Stmt} {ts:TS}
theorem ajt(he:QEx X e te)(hmD:X.mg Dn=some (.ref DC))(CC:CatchC X.K DC)(hN:X.N.Nodup)(hj:X.N[j]?=some y)(hy:i8 X.env.scope y)(hi:X.N[i]?=some n)(fI:X.env.kindOf n=some .local)(hs:∀ x xe,QSs (X.inExc x xe) (yu::suite) ts)(hK:X.K=K:=by rfl)(U1:X.stack=X.env::X.outer:=by rfl)(jC:X.env.frame=some X.env.locals:=by rfl)(hgD:Gl X Dn:=by rfl)(hdD:(Dn==("__debug__" : Str))=false:=by decide)(cA:swapsWith e (some (.Name y yp)) ep.line X.env=pure false:=by rfl)(hf:X.fn y=true\/X.env.scope.names.lookup y=some .local:=by first | exact .inl rfl | exact .inr rfl | assumption) :
  QTB X (.ExceptHandler (some (.Name Dn dp)) (some n) (yu::suite) hp) [.Assign [.Name y yp] e ep] (tTryX K te j DC i ts):=by
 subst hK;refine ⟨fun pins s O H D I h=>?_⟩;obtain ⟨cd,P5⟩:=CC.cl;refine wpAny_execs_cons (wpAny_Assign_Name (wpAny_mono (he.out _ (j6 X.K DC i ts D O) pins s O H _ (fun H1 s1 e' s' I1 c=>wV U1 jC I1 c hgD hmD P5 CC.ty CC.bx hN hi fI (fun x xe=>(hs x xe).out) (fun C dx H' hE=>?_) hdD) I h) (fun u s1 z=>?_) fun _ _ z=>z) cA)
 .obtain ⟨C',d',e1,e2,h1,h2⟩:=hE;cases e1;cases e2;exact ⟨h1,h2⟩
 .obtain ⟨v,H1,I1,rv,q⟩:=z;exact gF I1 hN hj hy rv (fun s2 I2=>wpAny_execs_nil ⟨_,H1,I2,q⟩) hf
theorem ahW(he:QEx X e te)(hmD:X.mg Dn=some (.ref DC))(CC:CatchC X.K DC)(hN:X.N.Nodup)(hi:X.N[i]?=some n)(fI:X.env.kindOf n=some .local)(hs:∀ x xe,QSs (X.inExc x xe) (yu::suite) ts)(hK:X.K=K:=by rfl)(U1:X.stack=X.env::X.outer:=by rfl)(jC:X.env.frame=some X.env.locals:=by rfl)(hgD:Gl X Dn:=by rfl)(hdD:(Dn==("__debug__" : Str))=false:=by decide)(cA:swapsWith e none ep.line X.env=pure false:=by rfl) :
  QTB X (.ExceptHandler (some (.Name Dn dp)) (some n) (yu::suite) hp) [.Expr e ep] (wZ K te DC i ts):=by
 subst hK;refine ⟨fun pins s O H D I h=>?_⟩;obtain ⟨cd,P5⟩:=CC.cl;refine wpAny_execs_cons (wpAny_Expr_any (wpAny_mono (he.out _ (j6 X.K DC i ts D O) pins s O H _ (fun H1 s1 e' s' I1 c=>wV U1 jC I1 c hgD hmD P5 CC.ty CC.bx hN hi fI (fun x xe=>(hs x xe).out) (fun C dx H' hE=>?_) hdD) I h) (fun u s1 z=>?_) fun _ _ z=>z) I.quiet cA)
 .obtain ⟨C',d',e1,e2,h1,h2⟩:=hE;cases e1;cases e2;exact ⟨h1,h2⟩
 .obtain ⟨v,H1,I1,rv,q⟩:=z;exact wpAny_execs_nil ⟨O,H1,I1,q⟩
end
section
variable {K:PySem.W.Frag} {te:XK->TE} {DC C:Addr} {i j:Nat} {ts:TS} {D:Ends} {O:St} {H:Hp} {sp:Sp} {E:XK} {t:TA} {Q:VK}
theorem alI:tTryX K te j DC i ts D O H=te (j6 K DC i ts D O) O H fun v H2=>D.nx (O.set j (some v)) H2:=rfl
theorem aju:wZ K te DC i ts D O H=te (j6 K DC i ts D O) O H fun _ H2=>D.nx O H2:=rfl
theorem ajv:tMake C sp [] E t O H Q=t O H fun vs H1=>∀ x dx,H1 x=none->H1 dx=none->dx≠x->sp (.ref x::(vs++[])) (A0 (A0 H1 dx (.own x)) x (.ins C dx [])) (fun v H2=>v=.non/\Q (.ref x) H2) E:=rfl
end
end L2
open L2 in
local macro_rules | `(tactic| walk_at "rd")=>`(tactic| simp only [↓uE,↓ap_c,↓akD,↓amD,↓aiD,↓akE,↓akF,↓amE,↓akG,↓amF,↓amG,↓akH,↓ap_op,↓aky,↓ap_tB,↓amB,↓amA,↓ap_or,↓akB,↓amC,↓akC,↓akA,↓ap_if,↓aiC,↓ap_cb,↓akL,↓amJ,↓akM,↓amK,↓amL,↓ap_sl,↓ag5,↓akN,↓amO,↓akX,↓aiH,↓akV,↓akW,↓aiI,↓aiJ,↓ap_bm,↓amM,↓amH,↓akJ,↓akI,↓aiF,↓akK,↓ap_un,↓ap_rU,↓amI,↓amN,↓akO,↓akP,↓akQ,↓akR,↓aiE,↓akS,↓aiG,↓akT,↓akz,akU,akY,aiK,aiL,aiM,↓ad_ii,↓ad_ss,↓ad_rr,↓mu_ii,↓mu_ri,↓eq_ii,↓eq_ss,↓eq_bb,↓eq_rx,↓eq_xr,↓ne_ii,↓ne_ss,↓ne_bb,↓ne_rx,↓ne_xr,↓L2.lt_ii,↓L2.lt_ss,↓le_ii,↓le_ss,↓gt_ii,↓gt_ss,↓ge_ii,↓ge_ss,↓in_xs,↓in_xr,↓sl_s,↓sl_r,↓len_s,↓len_r,↓amS,↓all_r,↓isi_t,↓ord_s,↓amZ,↓aiS,uP,↓aiT,↓tup_r,↓ak6,↓am1,↓am2,↓ak7,↓ak8,↓aiU,↓aiV,↓akZ,↓ak0,↓ano,↓ajq,↓alz,↓alA,↓alF,↓ahS,↓ajr,↓alB,↓alC,↓alD,↓alE,↓alI,↓aju,↓ajv,↓ang,↓ali,↓ahy,↓int_b,↓any_r,↓ai5,↓ale,↓alf,↓am7,↓alg,↓ai6,↓ala,↓ai0,↓alc,↓aiZ,aiN,aev,cxK,cxKn,cxKb,cxC,cxCn,cxCb,G3,aV,G1,R3,Nat.sub_self,Nat.reduceAdd,Nat.reduceSub,Nat.zero_add,Nat.add_one_sub_one,List.replicate_zero,cR,M7,aR,List.cons_append,List.getElem?_cons_zero,fX,List.set_cons_zero,List.set_cons_succ,Option.some.injEq,Option.join_some,Option.join_none,exists_eq_left',exists_eq_left,exists_eq',exists_eq,reduceCtorEq,false_and,and_false,exists_false,exists_const,false_or,or_false,true_and,and_true,V.str.injEq,V.int.injEq,V.bl.injEq,V.ref.injEq,V.ty.injEq,List.cons.injEq,exists_and_left,exists_and_right,and_assoc,if_true,if_false,Bool.false_eq_true,Bool.not_true,Bool.not_false,ite_true,ite_false,Int.reduceLT,Int.reduceLE,J4])
namespace K24
open PySem PySem.Spec PyProof.Rows L2
set_option maxRecDepth 100000
set_option maxHeartbeats 4000000
noncomputable def top (i:Nat):Stmt:=PySem.Challenge.pw_sortlore_k24_no_letter.main.body.getD i (.Pass ⟨0,0,0,0⟩)
noncomputable abbrev y1:Stmt:=nI (top 6) 0
noncomputable abbrev j7:Stmt:=top 14
noncomputable abbrev U5:Stmt:=top 15
noncomputable abbrev j8:Stmt:=top 18
noncomputable abbrev N9:Stmt:=top 21
noncomputable abbrev lB:Stmt:=top 23
noncomputable abbrev hU:Stmt:=top 29
noncomputable abbrev lC:Stmt:=top 30
noncomputable abbrev y3:Stmt:=top 31
noncomputable abbrev Y5:Stmt:=top 32
noncomputable abbrev p6:Stmt:=top 33
noncomputable abbrev Y6:Stmt:=top 34
noncomputable abbrev hV:Stmt:=top 35
noncomputable abbrev y4:Stmt:=top 36
noncomputable abbrev N4:Stmt:=top 37
noncomputable abbrev y7:Stmt:=nI (top 38) 0
noncomputable abbrev bP:Stmt:=nI (top 38) 1
noncomputable abbrev hW:Stmt:=top 40
noncomputable abbrev p7:Stmt:=top 41
noncomputable abbrev y8:Stmt:=top 43
noncomputable abbrev P3:Stmt:=top 44
noncomputable abbrev lD:Stmt:=top 45
noncomputable abbrev P0:Stmt:=top 46
noncomputable abbrev Y7:Stmt:=top 47
noncomputable abbrev eI:Stmt:=top 42
noncomputable abbrev j9:Stmt:=top 48
noncomputable abbrev y9:Stmt:=top 49
noncomputable abbrev s_law:Stmt:=top 50
noncomputable def visB (S:Scope) (x:Str):Bool:=decide (S.names.lookup x=some .local) || decide (S.names.lookup x=some .cell) || decide (S.names.lookup x=some .free)
theorem qvd{pos:Pos}{S:Scope}{x:Str}(hN:X.N=N)(hs:X.env.scope=S)(h:(decide (N[n]?=some x)&&visB S x && !(x==("__debug__" : Str)) && !(x==("__classdict__" : Str)))=true):QE X (.Name x pos) (tVar n):=by
 subst hN hs;simp only [visB,Z7,Bool.or_eq_true,decide_eq_true_eq,Bool.not_eq_true'] at h;exact qe_v h.1.1.1 (h.1.1.2.elim (fun z=>z.elim .inl fun z=>.inr (.inl z)) fun z=>.inr (.inr z)) h.1.2 h.2
theorem len1{α:Type}{F:List α->Prop}(h:∀ a,F [a]):∀ us:List α,us.length=1->F us
 | [a],_=>h a
theorem len2{α:Type}{F:List α->Prop}(h:∀ a b,F [a,b]):∀ us:List α,us.length=2->F us
 | [a,b],_=>h a b
theorem len3{α:Type}{F:List α->Prop}(h:∀ a b c,F [a,b,c]):∀ us:List α,us.length=3->F us
 | [a,b,c],_=>h a b c
theorem len4{α:Type}{F:List α->Prop}(h:∀ a b c d,F [a,b,c,d]):∀ us:List α,us.length=4->F us
 | [a,b,c,d],_=>h a b c d
theorem len5{α:Type}{F:List α->Prop}(h:∀ a b c d e,F [a,b,c,d,e]):∀ us:List α,us.length=5->F us
 | [a,b,c,d,e],_=>h a b c d e
theorem L7{Q:List Str}{sc:Scope}(h1:sc.kind=.function:=by rfl)(h2:sc.isCoroutine=false:=by rfl)(h3:sc.isGenerator=false:=by rfl)(h4:N.Nodup:=by decide +kernel)(h5:N.take Q.length=Q:=by rfl)(h6:∀ x∈Q,sc.names.lookup x=some .local\/sc.names.lookup x=some .cell:=by decide +kernel)(h7:∀ y∈sc.names,y.2≠.free:=by decide +kernel):FnScope N Q sc:=⟨h1,h2,h3,h4,h5,h6,h7⟩
theorem k4{kn:List (Str×NameKind)}{sc:Scope}(h1:sc.kind=.function:=by rfl)(h2:∀ x∈sc.names,x.2≠.cell:=by decide +kernel)(h3:∀ x∈sc.names,x.2=.local->sc.names.lookup x.1=some .local:=by decide +kernel)(h4:∀ x∈sc.names,x.2=.free->kn.lookup x.1=some .cell\/kn.lookup x.1=some .free:=by decide +kernel)(h5:∀ x∈sc.names,x.2=.free->sc.names.lookup x.1=some .free:=by decide +kernel)(h6:N'.length=k+ixs.length:=by rfl)(h7:ixs.map (fun i=>N[i]?)=(N'.drop k).map some:=by decide +kernel)(h8:∀ x∈N'.drop k,(x,NameKind.free)∈sc.names:=by decide +kernel):CompOk N kn sc N' k ixs:=⟨h1,h2,h3,h4,h5,h6,h7,h8⟩
theorem hm(r:Room k A)(h:j<=k:=by decide):Room j A:=r.mono h
structure DF(K:PySem.W.Frag)(n:Str)(s:Stmt):Prop where
 ex:∃ (f:Addr) (oc:Value) (od:Option Addr) (kV dc pm:Value) (an:Option Addr) (cd ct:Value) (sl:Array (Option Value)),E7 K mainGlobals n=some (some (.ref f))/\K.lookup f=some ⟨oc,od,.func (R5 n n (W2 s) (R9 s) (D3 s) .none kV dc pm an cd ct),sl⟩/\Z8 K cd n=true/\Q6 K (.ref f)=true
theorem df_mk{n:Str}{s:Stmt}{kV dc:Value}{sl:Array (Option Value)}(a:E7 K mainGlobals n=some (some (.ref f)))(l:K.lookup f=some ⟨oc,od,.func (R5 n n (W2 s) (R9 s) (D3 s) .none kV dc pm an cd ct),sl⟩)(c:Z8 K cd n=true)(k:Q6 K (.ref f)=true):DF K n s:=⟨f,oc,od,kV,dc,pm,an,cd,ct,sl,a,l,c,k⟩
theorem DF.go{P:Program}{w:World}{base:Heap}{n:Str}{s:Stmt}(d:DF K n s)(X:K.In h)(G:h.Ns mainGlobals mg)(_:K.In base)(ok:∀ {f fd},FunD K n n s f fd->FnOk P w K mg base G0 k f fd ps sp)(hl:∀ (kV dc pm:Value) (an:Option Addr) (cd ct:Value) (us:List Value),us.length=ps.length->bindArgs (R5 n n (W2 s) (R9 s) (D3 s) .none kV dc pm an cd ct) ⟨us,[]⟩=pure (ps.zip us):=by first | exact fun _ _ _ _ _ _=>len1 fun _=>rfl | exact fun _ _ _ _ _ _=>len2 fun _ _=>rfl | exact fun _ _ _ _ _ _=>len3 fun _ _ _=>rfl | exact fun _ _ _ _ _ _=>len4 fun _ _ _ _=>rfl | exact fun _ _ _ _ _ _=>len5 fun _ _ _ _ _=>rfl):FO P w K mg base k n ps [] sp:=by
 obtain ⟨f,oc,od,kV,dc,pm,an,cd,ct,sl,a,l,c,kp⟩:=d.ex;exact ⟨_,_,ok (dP (st:=s) l c),N3 X G a,kp,[],.all (hl kV dc pm an cd ct),.nil⟩
structure Txt(P:Program)(w:World)(K:PySem.W.Frag)(mg:Str->Option Value)(C:Addr)(C_NoLetter:Addr):Prop where
 cl:Cls K C
 na_figures:NoAttr K C "figures"
 na_behind:NoAttr K C "behind"
 na_jobs:NoAttr K C "jobs"
 na_letter_line:NoAttr K C "letter_line"
 na_mark_line:NoAttr K C "mark_line"
 na_made:NoAttr K C "made"
 lore:∃ L,mg "LoreError"=some (.ref L)/\LoreC K L
 na_NoLetter:NoAttr K C_NoLetter "piece"
 er_NoLetter:∃ f,ErrC K C_NoLetter f
 cn:aX K (.builtin "object.__class__") "__get__"=some (some (.builtin "getset_descriptor.__get__"))
 ct:gE K (.builtin "object.__class__")=some true
 c_LoreError:∃ a,mg "LoreError"=some (.ref a)/\CatchC K a/\R4 K C_NoLetter (.ref a)=some true
 c_NoLetter:∃ a,mg "NoLetter"=some (.ref a)/\CatchC K a/\R4 K C_NoLetter (.ref a)=some true
 x_Clash:∃ a,mg "Clash"=some (.ref a)/\K9 K (.ref C_NoLetter) (.ref a)=some false
 x_NoDeed:∃ a,mg "NoDeed"=some (.ref a)/\K9 K (.ref C_NoLetter) (.ref a)=some false
 x_NoSign:∃ a,mg "NoSign"=some (.ref a)/\K9 K (.ref C_NoLetter) (.ref a)=some false
 x_NoName:∃ a,mg "NoName"=some (.ref a)/\K9 K (.ref C_NoLetter) (.ref a)=some false
 x_NoRule:∃ a,mg "NoRule"=some (.ref a)/\K9 K (.ref C_NoLetter) (.ref a)=some false
 x_NotPlain:∃ a,mg "NotPlain"=some (.ref a)/\K9 K (.ref C_NoLetter) (.ref a)=some false
 x_NoText:∃ a,mg "NoText"=some (.ref a)/\K9 K (.ref C_NoLetter) (.ref a)=some false
 x_Ring:∃ a,mg "Ring"=some (.ref a)/\K9 K (.ref C_NoLetter) (.ref a)=some false
 x_Round:∃ a,mg "Round"=some (.ref a)/\K9 K (.ref C_NoLetter) (.ref a)=some false
 x_Twice:∃ a,mg "Twice"=some (.ref a)/\K9 K (.ref C_NoLetter) (.ref a)=some false
 x_NoLetter:∃ a,mg "NoLetter"=some (.ref a)/\K9 K (.ref C_NoLetter) (.ref a)=some true
 y_ValueError:K9 K (.ref C_NoLetter) (.type "ValueError")=some true
 b_ValueError:mg "ValueError"=none
 b_any:mg "any"=none
 b_dict:mg "dict"=none
 b_enumerate:mg "enumerate"=none
 b_isinstance:mg "isinstance"=none
 b_len:mg "len"=none
 b_list:mg "list"=none
 b_min:mg "min"=none
 b_range:mg "range"=none
 b_set:mg "set"=none
 b_str:mg "str"=none
 b_tuple:mg "tuple"=none
 b_zip:mg "zip"=none
 g_MARK:∃ t,mg "MARK"=some (.int 0 t)
 g_LETTER:∃ t,mg "LETTER"=some (.int 2 t)
 x_JOBS:∃ a,mg "JOBS"=some (.ref a)/\ModD P w K a [((Sum.inr ("row" : Str):B5),V.str "letter"),((Sum.inr ("marks" : Str):B5),V.str "mark"),((Sum.inr ("great" : Str):B5),V.str "great"),((Sum.inr ("as" : Str):B5),V.str "as"),((Sum.inr ("over" : Str):B5),V.str "over")]
 x_AGAIN:∃ a,mg "AGAIN"=some (.ref a)/\∀ H:Hp,D0 K H a [V.str "letter",V.str "mark",V.str "over"]
theorem pB{x:Addr}{fld:Str}{v:V}(nx:H x=none)(nd:A0 H x (xm m x C) dx=none)(ne:dx≠x) :
  A0 (A0 (A0 H x (xm m x C)) x (xo m x C dx)) dx (.xd [(fld,v)]) x=some (xo m x C dx)/\Same H (W5 (A0 (A0 (A0 H x (xm m x C)) x (xo m x C dx)) dx (.xd [(fld,v)])) x)/\W5 (A0 (A0 (A0 H x (xm m x C)) x (xo m x C dx)) dx (.xd [(fld,v)])) x dx=some (.xd [(fld,v)]):=by
 rw [A9 ne] at nd;refine ⟨by rw [A9 ne.symm,A7],fun b o h=>?_,by rw [j5 ne,A7]⟩;have h1:b≠x:=O0 h nx;rw [j5 h1,A9 (O0 h nd),A9 h1,A9 h1];exact h
noncomputable def pC (K:PySem.W.Frag) (C:Addr) (fld:Str):Sp:=fun vs H Q _=>∃ m x z f,vs=[.ref x,.str z]/\H x=some (xm m x C)/\ErrC K C f/\NoAttr K C fld/\z.length<=1000/\Z9 z=true/\∀ dx,H dx=none->dx≠x->Q .non (A0 (A0 H x (xo m x C dx)) dx (.xd [(fld,.str z)]))
noncomputable def XP (CN:Addr) (H:Hp) (E:XK) (p:Str):Prop:=∀ dx H',Same H H'->H' dx=some (.xd [("piece",.str p)])->E (.ref CN) (some dx) H'
noncomputable def jobV (ks:List Str) (g:Str->V) (p:Str):V:=if p∈ks then g p else .non
noncomputable def d0 (ks:List Str) (g:Str->V) (p:Str):Bool:=!decide (jobV ks g p=V.str "letter")
noncomputable def z0 (ks:List Str) (g:Str->V) (p:Str):Bool:=!(decide (jobV ks g p=V.str "letter") || decide (jobV ks g p=V.str "mark"))
noncomputable def misL (ks:List Str) (g:Str->V) (z:Rl):List Str:=if z.1=("great" : Str) then (z.2.take 1).filter (d0 ks g) else if z.1=("as" : Str) then ((z.2.drop 1).take 1).filter (d0 ks g)++(z.2.drop 2).filter (z0 ks g) else []
theorem pD{g:Str->V} : (if p∈ks then some (g p) else none).getD V.non=jobV ks g p:=by
 unfold jobV
 by_cases h:p∈ks
 .rw [if_pos h,if_pos h];rfl
 .rw [if_neg h,if_neg h];rfl
theorem lE{g:Str->V}(hg:∀ p,∃ s,g p=V.str s)(p:Str):jobV ks g p=.non\/∃ s,jobV ks g p=.str s:=by
 unfold jobV
 by_cases h:p∈ks
 .rw [if_pos h];exact .inr (hg p)
 .rw [if_neg h];exact .inl rfl
theorem xA{v:V}{c:Str}(hv:v=.non\/∃ s,v=.str s)(hc:Z9 c=true)(q:Q (.bl (!decide (v=.str c))) H):rNeU K v (.str c) H Q:=by
 rcases hv with rfl | ⟨s,rfl⟩
 .exact ⟨_,_,.non,.str _ hc,F6 (Nat.min_le_left _ _) (by decide),q⟩
 .show Q (.bl (!decide (s=c))) H;rw [show decide (s=c)=decide (V.str s=V.str c) from decide_eq_decide.mpr ⟨fun e=>by rw [e],fun e=>V.str.inj e⟩];exact q
theorem ajw{g:Str->V}(hg:∀ p,∃ s,g p=V.str s)(p:Str):flatV (jobV ks g p)=true:=by
 rcases lE (ks:=ks) hg p with e | ⟨s,e⟩ <;> rw [e] <;> rfl
theorem anp{g:Str->V}(hg:∀ p,∃ s,g p=V.str s)(p:Str):j1 (jobV ks g p) [V.str (Str.ofString "letter"),V.str (Str.ofString "mark")]=(decide (jobV ks g p=V.str "letter") || decide (jobV ks g p=V.str "mark")):=by
 rcases lE (ks:=ks) hg p with e | ⟨s,e⟩
 .rw [e];decide +kernel
 .rw [e];have h:∀ c:Str,decide (V.str s=V.str c)=decide (s=c):=fun c=>decide_eq_decide.mpr ⟨fun e=>V.str.inj e,fun e=>by rw [e]⟩
  rw [h,h];rw [show j1 (V.str s) [V.str (Str.ofString "letter"),V.str (Str.ofString "mark")]=j1 (V.str s) (([Str.ofString "letter",Str.ofString "mark"]:List Str).map V.str) from rfl,bF,cW]
  simp
noncomputable def xB (K:PySem.W.Frag):Sp:=fun vs H Q _=>∃ (t d:Addr) (z:Rl) (ks:List Str) (g:Str->V),vs=[.ref t,.ref d]/\H t=some (tupR z)/\H d=some (.dK (C1 ks g))/\(∀ p,∃ s,g p=V.str s)/\z.2.length<=1000/\∀ p H',H p=none->Same H H'->H' p=some (.lst ((misL ks g z).map V.str))->Q (.ref p) H'
noncomputable def pE (K:PySem.W.Frag) (CN:Addr):Sp:=fun vs H Q E=>∃ (a d:Addr) (ts:List Addr) (R:List Rl) (ks:List Str) (g:Str->V),vs=[.ref a,.ref d]/\IsRules H a ts R/\H d=some (.dK (C1 ks g))/\(∀ p,∃ s,g p=V.str s)/\(∀ z∈R,z.2.length<=1000/\∀ p∈z.2,p.length<=1000/\Z9 p=true)/\
 ((R.flatMap (misL ks g)).head?=none->∀ H',Same H H'->Q .non H')/\(∀ p,(R.flatMap (misL ks g)).head?=some p->XP CN H E p)
theorem ajx(g:Str->Str)(p:Str):∃ s,jobG g p=V.str s:=by
 unfold jobG
 split
 .exact ⟨_,rfl⟩
 .exact ⟨_,rfl⟩
structure GoodJ(g:Str->Str)(R:List Rl):Prop where
 len:R.length<=1000
 plen:(C8 R).length<=10000
 nc:NC (hasW R "figures") g (C8 R)
 nb:(" " : Str)∉(C8 R).map (·.1)
 zl:∀ z∈R,z.2.length<=1000
 ok:∀ z∈R,∀ p∈z.2,p.length<=1000/\Z9 p=true
noncomputable def misR (g:Str->Str) (R:List Rl):List Str:=R.flatMap (misL (keysP (C8 R)++Q9 R) (jobG g))
noncomputable def lF (C CN:Addr):Sp:=fun vs H Q E=>∃ (x dx a:Addr) (ts:List Addr) (R:List Rl) (g:Str->Str) (r1 r2:Str->Nat),vs=[.ref x,.ref a]/\H x=some (.ins C dx [])/\IsRules H a ts R/\GoodJ g R/\((misR g R).head?=none->GoodR g r1 r2 R)/\
 ((misR g R).head?=none->∀ j ll ml md L M H',H j=none->H ll=none->H ml=none->H md=none->SameBut x H H'->IsOrd C H' x j ll ml md g R L M->Q .non H')/\(∀ p,(misR g R).head?=some p->∀ dx' H',SameBut x H H'->H' dx'=some (.xd [("piece",.str p)])->E (.ref CN) (some dx') H')
theorem alJ{g:Str->V}{z:Rl}(h:p∈misL ks g z):p∈z.2:=by
 unfold misL at h
 split at h
 .exact jT (N1.mp h).1
 split at h
 .rcases J3.mp h with h | h
  .exact List.mem_of_mem_drop (jT (N1.mp h).1)
  .exact List.mem_of_mem_drop (N1.mp h).1
 .cases h
theorem xC{K:Type}[DecidableEq K](f:Nat->K)(k:K):∀ n,k∈metN f n↔∃ i,i<n/\f i=k
 | 0=>by simp [metN]
 | n+1=>by
  have h:=wL (metN f n) (f n) k;have e:k∈metN f (n+1)↔k∈metN f n\/k=f n:=by
   have h':decide (k∈addK (metN f n) (f n))=decide (k∈metN f n\/k=f n):=by rw [h];simp
   exact decide_eq_decide.mp h'
  rw [e,xC f k n]
  constructor
  .rintro (⟨i,hi,hk⟩ | rfl)
   .exact ⟨i,by lia,hk⟩
   .exact ⟨n,by lia,rfl⟩
  .rintro ⟨i,hi,hk⟩
   rcases Nat.lt_succ_iff_lt_or_eq.mp hi with h | h
   .exact .inl ⟨i,h,hk⟩
   .subst h;exact .inr hk.symm
theorem hZ{K:Type}[DecidableEq K](f:Nat->K):∀ n,(metN f n).Nodup
 | 0=>List.nodup_nil
 | n+1=>by
  show (addK (metN f n) (f n)).Nodup;unfold addK
  split
  .exact hZ f n
  .rename_i h
   rw [n6];exact ⟨hZ f n,by simp,fun a ha b hb=>by rw [G5.mp hb];exact fun e=>h (by rw [<- e];exact ha)⟩
theorem eJ(ks:List B5)(k:B5):k∈metK ks↔k∈ks:=by
 unfold metK;rw [xC]
 constructor
 .rintro ⟨i,hi,rfl⟩;rw [Z3,L8 hi];exact cT hi
 .intro h;obtain ⟨i,hi,rfl⟩:=V7.mp h;exact ⟨i,hi,by rw [Z3,L8 hi];rfl⟩
theorem iA{α:Type}[DecidableEq α]:∀ {l m:List α},l.Nodup->(∀ x∈l,x∈m)->l.length<=m.length
 | [],_,_,_=>J4 _
 | x::l,m,nd,h=>by
  obtain ⟨n1,n2⟩:=W0.mp nd;have hx:=h x M5
  have:=iA (l:=l) (m:=m.erase x) n2 fun y hy=>(List.mem_erase_of_ne (fun e=>n1 (by rw [<- e];exact hy))).mpr (h y (M6 _ hy))
  rw [jP hx] at this;have u4:=List.length_pos_of_mem hx;rw [G1];lia
theorem ajy{ks js:List B5}(h:∀ k,k∈ks↔k∈js):(metK ks).length=(metK js).length:=
 Nat.le_antisymm (iA (hZ _ _) fun x hx=>(eJ js x).mpr ((h x).mp ((eJ ks x).mp hx))) (iA (hZ _ _) fun x hx=>(eJ ks x).mpr ((h x).mpr ((eJ js x).mp hx)))
theorem ahZ{ks:List B5}(nd:ks.Nodup):(metK ks).length=ks.length:=
 Nat.le_antisymm (iA (hZ _ _) fun x hx=>(eJ ks x).mp hx) (iA nd fun x hx=>(eJ ks x).mpr hx)
noncomputable def kS (zs:List Str):List B5:=zs.map Sum.inr
theorem kS_nd(nd:zs.Nodup):(kS zs).Nodup:=List.Pairwise.map Sum.inr (fun a b (h:a≠b) e=>h (Sum.inr.inj e)) nd
theorem xD{k:B5} : k∈kS zs↔∃ z∈zs,k=Sum.inr z:=by
 unfold kS;rw [D4];exact ⟨fun ⟨z,h,e⟩=>⟨z,h,e.symm⟩,fun ⟨z,h,e⟩=>⟨z,h,e.symm⟩⟩
theorem kS_kV(zs:List Str):(kS zs).map kV=zs.map V.str:=by unfold kS;rw [o0];rfl
theorem alK{α β:Type}(f:α->β)(xs:List α)(i:Int):G7 (xs.map f) i=(G7 xs i).map f:=by
 unfold G7;rw [A8]
 cases j0 xs.length i with
 | none=>rfl
 | some j=>
  show (xs.map f)[j]?=(xs[j]?).map f;rw [Q5]
noncomputable def stpN (ns:List Int):Int:=((G7 [1,2,4,5,7,8,10,11,13,23,44,91] (cellF ns 1 % 12)).getD 0:Int)
noncomputable def sgnF (ns:List Int) (k:Int):Nat:=(G7 SG ((cellF ns 0+k*stpN ns) % 93)).getD 33
noncomputable def eK (K:PySem.W.Frag):Sp:=fun vs H Q _=>∃ (a:Addr) (ns:List Int) (k:Int),vs=[.ref a,.int k]/\D5 K H a (ns.map V.int)/\0<=k/\∀ H',Same H H'->Q (.str (one (sgnF ns k))) H'
theorem alL(ns:List Int):G7 ([1,2,4,5,7,8,10,11,13,23,44,91]:List Int) (cellF ns 1 % 12)=some (stpN ns)/\0<=stpN ns/\stpN ns<=91:=by
 obtain ⟨v,h1,h2⟩:=kH (xs:=([1,2,4,5,7,8,10,11,13,23,44,91]:List Int)) (i:=cellF ns 1 % 12) (by lia) (by simp only [G1,R3];lia);unfold stpN;rw [h1];exact ⟨rfl,(show ∀ s∈([1,2,4,5,7,8,10,11,13,23,44,91]:List Int),0<=s/\s<=91 by decide) v h2⟩
theorem xE(ns:List Int)(k:Int):G7 SG ((cellF ns 0+k*stpN ns) % 93)=some (sgnF ns k)/\signB (sgnF ns k)=true:=by
 obtain ⟨c,h1,h2⟩:=SS_at (i:=(cellF ns 0+k*stpN ns) % 93) (by lia) (by lia);rw [SS_eq] at h1;unfold sgnF;rw [h1];exact ⟨rfl,h2⟩
theorem ajz(ns:List Int):stpN ns∈([1,2,4,5,7,8,10,11,13,23,44,91]:List Int):=by
 obtain ⟨v,h1,h2⟩:=kH (xs:=([1,2,4,5,7,8,10,11,13,23,44,91]:List Int)) (i:=cellF ns 1 % 12) (by lia) (by simp only [G1,R3];lia);unfold stpN;rw [h1];exact h2
theorem ajA:∀ s∈([1,2,4,5,7,8,10,11,13,23,44,91]:List Int),∃ t∈(M8 93).map Int.ofNat,s*t % 93=1:=by decide +kernel
theorem SG_nd:SG.Nodup:=by decide +kernel
theorem nV:SG.length=93:=by decide +kernel
theorem alM{k l:Int}(h0:0<=k)(h1:k<93)(h2:0<=l)(h3:l<93)(h:sgnF ns k=sgnF ns l):k=l:=by
 have hl:((SG.length:Nat):Int)=93:=by rw [nV];rfl
 have e:=ana SG_nd (i:=(cellF ns 0+k*stpN ns) % 93) (j:=(cellF ns 0+l*stpN ns) % 93) (by lia) (by lia) (by lia) (by lia) h;obtain ⟨t,_,ht⟩:=ajA _ (ajz ns);exact agi ht e h0 h1 h2 h3
noncomputable def pF (ns:List Int) (k:Int):Str:=one (sgnF ns k)
theorem anq(ns:List Int)(k:Int):∃ c,pF ns k=one c/\signB c=true:=⟨_,rfl,(xE ns k).2⟩
noncomputable def C5 (ns:List Int) (i:Nat):Str:=pF ns (i:Int)
theorem xF(hi:i<93)(hj:j<93)(h:C5 ns i=C5 ns j):i=j:=by
 have e:[sgnF ns (i:Int)]=[sgnF ns (j:Int)]:=congrArg (fun z:Str=>z.cps.toList) h
 have:=alM (by lia) (by lia) (by lia) (by lia) (List.singleton_inj.mp e)
 lia
theorem lG(ns:List Int)(i:Nat):(C5 ns i).length<=1000/\Z9 (C5 ns i)=true/\C5 ns i≠" ":=by
 obtain ⟨c,e,hc⟩:=anq ns (i:Int);have e':C5 ns i=one c:=e;rw [e'];refine ⟨by show 1<=1000;decide,(ag6 (show kI (one c)=true by simp [kI,one,hc,Str.length])).1,fun q=>?_⟩;have e1:[c]=[32]:=congrArg (fun z:Str=>z.cps.toList) q;rw [List.singleton_inj.mp e1] at hc;cases hc
inductive RN (ns:List Int) (n:Nat):Rl->Prop
 | row (is:List Nat):is≠[]->is.length<=6->is.Pairwise (· < ·)->(∀ i∈is,i<6)->RN ns n (("row" : Str),is.map (C5 ns))
 | marks (m:Nat):(m=6\/m=7)->RN ns n (("marks" : Str),[C5 ns m])
 | over:RN ns n (("over" : Str),[C5 ns 8])
 | great (i:Nat):i<93->RN ns n (("great" : Str),[C5 ns i,C5 ns n])
 | as (is:List Nat):is≠[]->is.length<=3->(∀ i∈is,i<93)->RN ns n (("as" : Str),C5 ns n::is.map (C5 ns))
structure RRs(ns:List Int)(X:List (Nat×Rl)):Prop where
 ok:∀ e∈X,RN ns e.1 e.2
 nd:(X.map (·.1)).Nodup
 rg:∀ e∈X,10<=e.1/\e.1<93
 ln:X.length<=60
noncomputable def C2 (X:List (Nat×Rl)):List Rl:=X.map (·.2)
theorem RN.len{z:Rl}(h:RN ns n z):z.2.length<=6/\z.2≠[]:=by
 cases h with
 | row is h0 h1 _ _=>exact ⟨by rw [A8];exact h1,fun e=>h0 (List.map_eq_nil_iff.mp e)⟩
 | marks m _=>exact ⟨by simp,by simp⟩
 | over=>exact ⟨by simp,by simp⟩
 | great i _=>exact ⟨by simp,by simp⟩
 | as is _ h1 _=>exact ⟨by simp only [G1,A8];lia,by simp⟩
theorem RN.pcs{z:Rl}(h:RN ns n z)(hn:n<93):∀ p∈z.2,∃ i,i<93/\p=C5 ns i:=by
 intro p hp;cases h with
 | row is _ _ _ h4=>
  obtain ⟨i,hi,rfl⟩:=D4.mp hp;exact ⟨i,by have:=h4 i hi;lia,rfl⟩
 | marks m h1=>rw [G5.mp hp];exact ⟨m,by lia,rfl⟩
 | over=>rw [G5.mp hp];exact ⟨8,by lia,rfl⟩
 | great i h1=>
  rcases F9.mp hp with rfl | hp
  .exact ⟨i,h1,rfl⟩
  .rw [G5.mp hp];exact ⟨n,hn,rfl⟩
 | as is _ _ h3=>
  rcases F9.mp hp with rfl | hp
  .exact ⟨n,hn,rfl⟩
  .obtain ⟨i,hi,rfl⟩:=D4.mp hp;exact ⟨i,h3 i hi,rfl⟩
theorem RN.tells{z:Rl}(h:RN ns n z):∀ p∈G4 z,∃ i,p=C5 ns i/\((i<6/\z.1="row")\/((i=6\/i=7)/\z.1="marks")\/(i=8/\z.1="over")\/(i=n/\(z.1="great"\/z.1="as")/\G4 z=[C5 ns n])):=by
 obtain ⟨t1,t2,t3⟩:=@j4 z;intro p hp;cases h with
 | row is _ _ _ h4=>
  rw [t3 (.inl rfl)] at hp;obtain ⟨i,hi,rfl⟩:=D4.mp hp;exact ⟨i,rfl,.inl ⟨h4 i hi,rfl⟩⟩
 | marks m h1=>
  rw [t3 (.inr (.inl rfl))] at hp;rw [G5.mp hp];exact ⟨m,rfl,.inr (.inl ⟨h1,rfl⟩)⟩
 | over=>
  rw [t3 (.inr (.inr rfl))] at hp;rw [G5.mp hp];exact ⟨8,rfl,.inr (.inr (.inl ⟨rfl,rfl⟩))⟩
 | great i h1=>
  have e:=t1 rfl;rw [e] at hp ⊢
  rw [G5.mp (show p∈[C5 ns n] from hp)];exact ⟨n,rfl,.inr (.inr (.inr ⟨rfl,.inl rfl,rfl⟩))⟩
 | as is _ _ h3=>
  have e:=t2 rfl;rw [e] at hp ⊢
  rw [G5.mp (show p∈[C5 ns n] from hp)];exact ⟨n,rfl,.inr (.inr (.inr ⟨rfl,.inr rfl,rfl⟩))⟩
noncomputable def idxN (ns:List Int) (p:Str):Nat:=((M8 93).map (C5 ns)).idxOf p
theorem eM(hi:i<93):idxN ns (C5 ns i)=i:=by
 have nd:((M8 93).map (C5 ns)).Nodup:=by
  rw [Z2,List.pairwise_map];exact List.Pairwise.imp_of_mem (fun ha hb h e=>h (xF (aS.mp ha) (aS.mp hb) e)) (Z2.mp List.nodup_range)
 have h:=nd.idxOf_getElem i (by simpa using hi);unfold idxN
 simpa using h
noncomputable def gX (ns:List Int) (X:List (Nat×Rl)) (p:Str):Str:=if idxN ns p<6 then "letter" else if idxN ns p<8 then "mark" else if idxN ns p=8 then "over" else ((X.lookup (idxN ns p)).map (·.1)).getD ""
theorem xG:∀ {l:List (Nat×Rl)} {p:Nat} {j:Rl},(l.map (·.1)).Nodup->(p,j)∈l->l.lookup p=some j
 | [],_,_,_,h=>by cases h
 | (y,t)::l,p,j,nd,h=>by
  rw [G3,W0] at nd;rw [gB]
  rcases F9.mp h with h | h
  .obtain ⟨rfl,rfl⟩:=Prod.mk.inj h
   simp
  .have:p≠y:=fun e=>nd.1 (D4.mpr ⟨_,h,e⟩)
   have e:(p==y)=false:=by simpa using this
   rw [e];exact xG nd.2 h
theorem RRs.job{X:List (Nat×Rl)}(h:RRs ns X){e:Nat×Rl}(he:e∈X)(hp:p∈G4 e.2):gX ns X p=jobD e.2.1/\p.length<=1000:=by
 have hr:=h.rg e he;obtain ⟨i,rfl,hc⟩:=(h.ok e he).tells p hp;refine ⟨?_,(lG ns i).1⟩;unfold gX
 rcases hc with ⟨h1,h2⟩ | ⟨h1,h2⟩ | ⟨h1,h2⟩ | ⟨h1,h2,_⟩
 .rw [eM (by lia),if_pos h1,h2];decide +kernel
 .rw [eM (by lia),if_neg (by lia),if_pos (by lia),h2];decide +kernel
 .rw [eM (by lia),if_neg (by lia),if_neg (by lia),if_pos h1,h2];decide +kernel
 .rw [h1,eM (by lia),if_neg (by lia),if_neg (by lia),if_neg (by lia),xG h.nd (show (e.1,e.2)∈X from he)];show e.2.1=_
  rcases h2 with h2 | h2 <;> rw [h2] <;> decide +kernel
theorem anr{g:Str->Str}{PL:List (Str×Str)}{j:Str}(h:NC false g PL)(hg:∀ p∈ps,g p=j/\p.length<=1000)(hn:j∈bL\/(ps.Nodup/\∀ p∈ps,p∉PL.map (·.1))):NC false g (PL++ps.map fun p=>(p,j)):=by
 intro i p q hi
 by_cases hl:i<PL.length
 .rw [fW hl] at hi;rw [List.take_append_of_le_length (by lia)];exact h i p q hi
 .rw [fV (by lia),Q5] at hi;obtain ⟨p',lX,e⟩:=Option.map_eq_some_iff.mp hi;obtain ⟨rfl,rfl⟩:=Prod.mk.inj e;have hm:=P1 lX;refine ⟨(hg p' hm).1.symm,fun hq=>?_,fun f=>absurd f (by decide),(hg p' hm).2⟩
  rcases hn with hn | ⟨n1,n2⟩
  .exact hn
  .exfalso
   rw [List.take_append,F8,Z4 (by lia)] at hq
   rcases J3.mp hq with hq | hq
   .exact n2 p' hm hq
   .obtain ⟨⟨p2,j2⟩,hq1,hq2⟩:=D4.mp hq;rw [<- aT] at hq1;obtain ⟨p3,hq3,hq4⟩:=D4.mp hq1;obtain ⟨m,hm1,iZ⟩:=List.mem_take_iff_getElem.mp hq3;obtain ⟨g6,e2⟩:=K1.mp lX;rw [Z2,m9] at n1;refine n1 m (i-PL.length) (by lia) g6 (by lia) ?_;rw [iZ,e2,(Prod.mk.inj hq4).1];exact hq2
theorem agp(R:List Rl)(z:Rl):C8 (R++[z])=C8 R++(G4 z).map fun p=>(p,jobD z.1):=by
 unfold C8;rw [V8]
 simp
theorem mem_pairs{j:Str} : (p,j)∈C8 R↔∃ z∈R,p∈G4 z/\jobD z.1=j:=by
 unfold C8;rw [Z6]
 constructor
 .rintro ⟨z,hz,h⟩;obtain ⟨q,hq,e⟩:=D4.mp h;obtain ⟨rfl,rfl⟩:=Prod.mk.inj e;exact ⟨z,hz,hq,rfl⟩
 .rintro ⟨z,hz,h,rfl⟩;exact ⟨z,hz,D4.mpr ⟨p,h,rfl⟩⟩
theorem RRs.nc{X:List (Nat×Rl)}(h:RRs ns X):NC false (gX ns X) (C8 (C2 X)):=by
 have main:∀ k,k<=X.length->NC false (gX ns X) (C8 (C2 (X.take k))):=by
  intro k
  induction k with
  | zero=>intro _ i p j hi;cases hi
  | succ k ih=>
   intro hk;have hx:X[k]?=some X[k]:=L8 (by lia);have hm:X[k]∈X:=cT _;rw [L6 hx];unfold C2;rw [F8,G3,aV,agp];refine anr (ih (by lia)) (fun p hp=>h.job hm hp) ?_;have ht:=(h.ok _ hm).tells
   by_cases hj:jobD (X[k]).2.1∈bL
   .exact .inl hj
   .right
    have rE:G4 (X[k]).2=[C5 ns (X[k]).1]\/G4 (X[k]).2=[]:=by
     cases hc:G4 (X[k]).2 with
     | nil=>exact .inr rfl
     | cons y ys=>
      left
      obtain ⟨i,_,q⟩:=ht y (by rw [hc];exact M5)
      rcases q with ⟨_,q⟩ | ⟨_,q⟩ | ⟨_,q⟩ | ⟨_,_,q⟩
      .exact absurd (by rw [q];decide +kernel) hj
      .exact absurd (by rw [q];decide +kernel) hj
      .exact absurd (by rw [q];decide +kernel) hj
      .rw [hc] at q;exact q
    rcases rE with e | e
    .rw [e];refine ⟨by simp,fun p hp hq=>?_⟩;rw [G5.mp hp] at hq;obtain ⟨⟨p2,j2⟩,h1,h2⟩:=D4.mp hq;have h3:p2=C5 ns (X[k]).1:=h2;rw [h3] at h1;obtain ⟨z,hz,rF,_⟩:=mem_pairs.mp h1;obtain ⟨e',l7,rfl⟩:=D4.mp hz;have mE:=jT l7;obtain ⟨i,q1,q2⟩:=(h.ok _ mE).tells _ rF;have r1:=h.rg _ hm;have r2:=h.rg _ mE;have rG:i<93:=by rcases q2 with ⟨q,_⟩ | ⟨q,_⟩ | ⟨q,_⟩ | ⟨q,_⟩ <;> lia
     have hki:=xF r1.2 rG q1;have hie:i=e'.1:=by rcases q2 with ⟨q,_⟩ | ⟨q,_⟩ | ⟨q,_⟩ | ⟨q,_⟩ <;> lia
     obtain ⟨m,hm1,iZ⟩:=List.mem_take_iff_getElem.mp l7;have nd:=h.nd;rw [Z2,List.pairwise_map,m9] at nd;refine nd m k (by lia) (by lia) (by lia) ?_;rw [iZ,<- hie,<- hki]
    .rw [e];exact ⟨by simp,fun p hp=>by cases hp⟩
 have:=main X.length (C6 _)
 rw [K6] at this;exact this
noncomputable def letsX (X:List (Nat×Rl)):List Str:=(rowsW (C2 X) "row").flatten
noncomputable def mrksX (X:List (Nat×Rl)):List Str:=(rowsW (C2 X) "marks").flatten
theorem mem_rows{w:Str} : p∈(rowsW R w).flatten↔∃ z∈R,z.1=w/\p∈z.2:=by
 unfold rowsW;rw [gA]
 constructor
 .rintro ⟨l,hl,hp⟩;obtain ⟨z,hz,rfl⟩:=D4.mp hl;rw [N1,decide_eq_true_iff] at hz;exact ⟨z,hz.1,hz.2,hp⟩
 .rintro ⟨z,hz,hw,hp⟩;exact ⟨z.2,D4.mpr ⟨z,N1.mpr ⟨hz,decide_eq_true hw⟩,rfl⟩,hp⟩
theorem RRs.has{X:List (Nat×Rl)}(h:RRs ns X){w:Str}(hw:w≠"row"/\w≠"marks"/\w≠"over"/\w≠"great"/\w≠"as"):hasW (C2 X) w=false:=by
 unfold hasW;rw [List.any_eq_false];intro z hz;obtain ⟨e,he,rfl⟩:=D4.mp hz;rw [decide_eq_true_iff];intro q;have hk:=h.ok e he;generalize e.2=z at hk q;cases hk with
 | row=>exact hw.1 q.symm
 | marks=>exact hw.2.1 q.symm
 | over=>exact hw.2.2.1 q.symm
 | great=>exact hw.2.2.2.1 q.symm
 | as=>exact hw.2.2.2.2 q.symm
theorem RRs.word{X:List (Nat×Rl)}(h:RRs ns X){z:Rl}(hz:z∈C2 X):z.1="row"\/z.1="marks"\/z.1="over"\/z.1="great"\/z.1="as":=by
 obtain ⟨e,he,rfl⟩:=D4.mp hz;have hk:=h.ok e he;generalize e.2=z at hk;cases hk with
 | row=>exact .inl rfl
 | marks=>exact .inr (.inl rfl)
 | over=>exact .inr (.inr (.inl rfl))
 | great=>exact .inr (.inr (.inr (.inl rfl)))
 | as=>exact .inr (.inr (.inr (.inr rfl)))
theorem RRs.nb{X:List (Nat×Rl)}(h:RRs ns X):(" " : Str)∉(C8 (C2 X)).map (·.1):=fun hb=>by
 obtain ⟨⟨p,j⟩,h1,h2⟩:=D4.mp hb;have h3:p=" ":=h2;obtain ⟨z,hz,hp,_⟩:=mem_pairs.mp h1;obtain ⟨e,he,rfl⟩:=D4.mp hz;obtain ⟨i,q,_⟩:=(h.ok e he).tells p hp;exact (lG ns i).2.2 (q.symm.trans h3)
theorem ah2{Y:List (Nat×Rl)}{f:Rl->List (Str×Str)}(hf:∀ e∈Y,(f e.2).length<=6):((C2 Y).flatMap f).length<=6*Y.length:=by
 induction Y with
 | nil=>exact J4 _
 | cons e Y ih=>
  unfold C2 at ih ⊢
  rw [G3,v2,E4,G1];have h1:=hf e M5;have h2:=ih fun e' l7=>hf e' (M6 _ l7)
  lia
theorem RRs.goodJ{X:List (Nat×Rl)}(h:RRs ns X):GoodJ (gX ns X) (C2 X):=by
 have hl:=h.ln;refine ⟨by unfold C2;rw [A8];lia,?_,by rw [h.has (by decide +kernel)];exact h.nc,h.nb,fun z hz=>?_,fun z hz p hp=>?_⟩
 .unfold C8
  have:=ah2 (Y:=X) (f:=fun z=>(G4 z).map fun p=>(p,jobD z.1)) fun e he=>by
   rw [A8];exact F6 (ahJ _) (h.ok e he).len.1
  lia
 .obtain ⟨e,he,rfl⟩:=D4.mp hz
  have:=(h.ok e he).len.1
  lia
 .obtain ⟨e,he,rfl⟩:=D4.mp hz;obtain ⟨i,_,rfl⟩:=(h.ok e he).pcs (h.rg e he).2 p hp;exact ⟨(lG ns i).1,(lG ns i).2.1⟩
theorem xH{w:Str}(hw:w="row"\/w="marks"\/w="over"\/w="great"\/w="as"):(jobD w="letter"↔w="row")/\(jobD w="mark"↔w="marks"):=by
 rcases hw with rfl | rfl | rfl | rfl | rfl <;> decide +kernel
theorem RRs.jobs{X:List (Nat×Rl)}(h:RRs ns X)(p:Str):(jobV (keysP (C8 (C2 X))++Q9 (C2 X)) (jobG (gX ns X)) p=V.str "letter"↔p∈letsX X)/\(jobV (keysP (C8 (C2 X))++Q9 (C2 X)) (jobG (gX ns X)) p=V.str "mark"↔p∈mrksX X):=by
 have hbk:Q9 (C2 X)=[]:=by
  unfold Q9;rw [h.has (by decide +kernel),if_neg (by decide)]
 rw [hbk,M7];have tl:∀ z∈C2 X,∀ w:Str,(w="row"\/w="marks")->z.1=w->G4 z=z.2:=fun z _ w hw e=>(@j4 z).2.2 (hw.elim (fun q=>.inl (e.trans q)) fun q=>.inr (.inl (e.trans q)))
 have go:∀ {w j:Str},(w="row"\/w="marks")->(∀ {u:Str},(u="row"\/u="marks"\/u="over"\/u="great"\/u="as")->(jobD u=j↔u=w))->(jobV (keysP (C8 (C2 X))) (jobG (gX ns X)) p=V.str j↔p∈(rowsW (C2 X) w).flatten):=fun {w j} hw hj=>by
  constructor
  .intro e;unfold jobV at e
   by_cases hk:p∈keysP (C8 (C2 X))
   .rw [if_pos hk] at e;rw [kR] at hk;obtain ⟨⟨q,j2⟩,h1,rfl⟩:=D4.mp hk;obtain ⟨z,hz,hp,hjz⟩:=mem_pairs.mp h1;unfold jobG at e;rw [if_neg (fun q=>h.nb (by rw [<- q];exact hk)),eG h.nc h1] at e;have ez:z.1=w:=(hj (h.word hz)).mp (hjz.trans (V.str.inj e));rw [tl z hz w hw ez] at hp;exact mem_rows.mpr ⟨z,hz,ez,hp⟩
   .rw [if_neg hk] at e;cases e
  .intro hp;obtain ⟨z,hz,ez,hp⟩:=mem_rows.mp hp;rw [<- tl z hz w hw ez] at hp;have h1:(p,j)∈C8 (C2 X):=mem_pairs.mpr ⟨z,hz,hp,(hj (h.word hz)).mpr ez⟩;have hk:p∈(C8 (C2 X)).map (·.1):=D4.mpr ⟨_,h1,rfl⟩;unfold jobV jobG;rw [if_pos ((kR _ _).mpr hk),if_neg (fun q=>h.nb (by rw [<- q];exact hk)),eG h.nc h1]
 exact ⟨go (.inl rfl) fun hu=>(xH hu).1,go (.inr rfl) fun hu=>(xH hu).2⟩
noncomputable def R0 (ls ms:List Str) (z:Rl):List Str:=if z.1=("great" : Str) then (z.2.take 1).filter (fun p=>!decide (p∈ls)) else if z.1=("as" : Str) then ((z.2.drop 1).take 1).filter (fun p=>!decide (p∈ls))++(z.2.drop 2).filter (fun p=>!decide (p∈ls) && !decide (p∈ms)) else []
noncomputable def dueX (X:List (Nat×Rl)):Option Str:=((C2 X).flatMap (R0 (letsX X) (mrksX X))).head?
theorem RRs.mis{X:List (Nat×Rl)}(h:RRs ns X):(misR (gX ns X) (C2 X)).head?=dueX X:=by
 have e1:d0 (keysP (C8 (C2 X))++Q9 (C2 X)) (jobG (gX ns X))=fun p=>!decide (p∈letsX X):=by
  funext p
  unfold d0;rw [show decide (jobV (keysP (C8 (C2 X))++Q9 (C2 X)) (jobG (gX ns X)) p=V.str "letter")=decide (p∈letsX X) from decide_eq_decide.mpr (h.jobs p).1]
 have e2:z0 (keysP (C8 (C2 X))++Q9 (C2 X)) (jobG (gX ns X))=fun p=>!decide (p∈letsX X) && !decide (p∈mrksX X):=by
  funext p
  unfold z0;rw [show decide (jobV (keysP (C8 (C2 X))++Q9 (C2 X)) (jobG (gX ns X)) p=V.str "letter")=decide (p∈letsX X) from decide_eq_decide.mpr (h.jobs p).1,show decide (jobV (keysP (C8 (C2 X))++Q9 (C2 X)) (jobG (gX ns X)) p=V.str "mark")=decide (p∈mrksX X) from decide_eq_decide.mpr (h.jobs p).2,Bool.not_or]
 unfold misR dueX
 congr 2
 funext z
 unfold misL R0;rw [e1,e2]
theorem forEs{l:Addr}{O:L2.St}(Pv:Nat->L2.St->Hp->Prop)(h0:Pv 0 O H)(hl:∀ i O H,Pv i O H->H l=some (.lst xs))(hs:∀ (P':Nat->L2.St->Hp->Prop) (B':L2.St->Hp->Prop),(∀ i O H,Pv i O H->P' i O H)->∀ i x t O H,xs[i]?=some x->Pv i O H->H t=none->g (.ref t) O (A0 H t (.tup [.int i,x])) fun σ2 H2=>tb { D with nx:=P' (i+1),ct:=P' (i+1),bk:=B' } σ2 H2)(hd:∀ O H,Pv xs.length O H->D.nx O H):ForIt (eB l) g tb D O H:=forE Pv h0 hl (hs Pv _ fun _ _ _ h=>h) hd
theorem RRs.snoc{X:List (Nat×Rl)}(h:RRs ns X){z:Rl}(hz:RN ns n z)(hn:∀ e∈X,e.1≠n)(h1:10<=n)(h2:n<93)(hl:X.length<60):RRs ns (X++[(n,z)]):=by
 refine ⟨fun e he=>?_,?_,fun e he=>?_,by rw [E4,X3];lia⟩
 .rcases J3.mp he with he | he
  .exact h.ok e he
  .rw [G5.mp he];exact hz
 .rw [F8,n6];refine ⟨h.nd,by simp,fun a ha b hb=>?_⟩;obtain ⟨e,he,rfl⟩:=D4.mp ha;rw [show b=n by simpa using hb];exact hn e he
 .rcases J3.mp he with he | he
  .exact h.rg e he
  .rw [G5.mp he];exact ⟨h1,h2⟩
theorem RRs.perm{X Y:List (Nat×Rl)}(h:RRs ns X)(p:X.Perm Y):RRs ns Y:=
 ⟨fun e he=>h.ok e (p.mem_iff.mpr he),(p.map _).nodup_iff.mp h.nd,fun e he=>h.rg e (p.mem_iff.mpr he),by rw [<- p.length_eq];exact h.ln⟩
theorem RRs.fl{X:List (Nat×Rl)}(h:RRs ns X)(w:Str):(rowsW (C2 X) w).flatten.length<=360:=by
 have h1:(rowsW (C2 X) w).flatten.length<=6*X.length:=by
  unfold rowsW C2;have hX:=h.ok;clear h
  induction X with
  | nil=>exact J4 _
  | cons e X ih=>
   have h2:=ih fun e' l7=>hX e' (M6 _ l7)
   have h3:=(hX e M5).len.1;rw [G3,gC,G1]
   split
   .rw [G3,aQ,E4];lia
   .lia
 have:=h.ln
 lia
theorem RRs.good{X:List (Nat×Rl)}(h:RRs ns X)(hd:dueX X=none):GoodR (gX ns X) (idxN ns) (idxN ns) (C2 X):=by
 have gj:=h.goodJ;have h0:∀ z∈C2 X,R0 (letsX X) (mrksX X) z=[]:=fun z hz=>by
  have e:=List.head?_eq_none_iff.mp hd;exact List.flatMap_eq_nil_iff.mp e z hz
 have inL:∀ {p:Str},p∈letsX X->(p,("letter" : Str))∈C8 (C2 X):=fun hp=>by
  obtain ⟨z,hz,ez,hp⟩:=mem_rows.mp hp;exact mem_pairs.mpr ⟨z,hz,by rw [(@j4 z).2.2 (.inl ez)];exact hp,by rw [ez];decide +kernel⟩
 have inM:∀ {p:Str},p∈mrksX X->(p,("mark" : Str))∈C8 (C2 X):=fun hp=>by
  obtain ⟨z,hz,ez,hp⟩:=mem_rows.mp hp;exact mem_pairs.mpr ⟨z,hz,by rw [(@j4 z).2.2 (.inr (.inl ez))];exact hp,by rw [ez];decide +kernel⟩
 have fl:∀ w,(rowsW (C2 X) w).flatten.length<=10000:=fun w=>F6 (h.fl w) (by decide)
 refine ⟨gj.len,gj.plen,gj.nc,gj.nb,gj.zl,fun z hz _=>?_,fun z hz hw p hp=>?_,fun z hz hw p hp=>?_,fun z hz hw p hp=>?_,fl _,fl _,fun e he=>?_,fun e he=>?_⟩
 .obtain ⟨e,he,rfl⟩:=D4.mp hz;exact (h.ok e he).len.2
 .have e:=h0 z hz;unfold R0 at e;rw [if_pos hw] at e
  have:=cQ.mp e p hp
  exact inL (by simpa using this)
 .have e:=h0 z hz;unfold R0 at e;rw [if_neg (by rw [hw];decide +kernel),if_pos hw] at e
  have:=cQ.mp (List.append_eq_nil_iff.mp e).1 p hp
  exact inL (by simpa using this)
 .have e:=h0 z hz;unfold R0 at e;rw [if_neg (by rw [hw];decide +kernel),if_pos hw] at e
  have:=cQ.mp (List.append_eq_nil_iff.mp e).2 p hp
  by_cases hl:p∈letsX X
  .exact .inl (inL hl)
  .exact .inr (inM (by simpa [hl] using this))
 .unfold edges at he;obtain ⟨row,hr,he⟩:=Z6.mp he;unfold rowsW at hr;obtain ⟨z,hz,rfl⟩:=D4.mp hr;rw [N1,decide_eq_true_iff] at hz;obtain ⟨e',l7,rfl⟩:=D4.mp hz.1;have hk:=h.ok e' l7;have hw:=hz.2;generalize e'.2=z at hk hw he;cases hk with
  | row is _ _ hp h6=>
   unfold T6 at he;obtain ⟨i,hi,e1⟩:=V7.mp he;rw [List.getElem_zip] at e1;have hl:i+1<is.length:=by
    simp only [List.length_zip,List.length_tail,A8] at hi;lia
   have e2:e=(C5 ns (is[i]'(by lia)),C5 ns (is[i+1]'hl)):=by
    rw [<- e1]
    simp
   rw [e2];have q1:=h6 _ (cT (l:=is) (n:=i) (by lia));have q2:=h6 _ (cT (l:=is) (n:=i+1) hl);rw [eM (by lia),eM (by lia)];exact m9.mp hp i (i+1) (by lia) hl (by lia)
  | marks=>exact absurd (show Str.ofString "marks"=_ from hw) (by decide +kernel)
  | over=>exact absurd (show Str.ofString "over"=_ from hw) (by decide +kernel)
  | great=>exact absurd (show Str.ofString "great"=_ from hw) (by decide +kernel)
  | as=>exact absurd (show Str.ofString "as"=_ from hw) (by decide +kernel)
 .unfold edges at he;obtain ⟨row,hr,he⟩:=Z6.mp he;unfold rowsW at hr;obtain ⟨z,hz,rfl⟩:=D4.mp hr;rw [N1,decide_eq_true_iff] at hz;obtain ⟨e',l7,rfl⟩:=D4.mp hz.1;have hk:=h.ok e' l7;have hw:=hz.2;generalize e'.2=z at hk hw he;cases hk with
  | row=>exact absurd (show Str.ofString "row"=_ from hw) (by decide +kernel)
  | marks m _=>cases he
  | over=>exact absurd (show Str.ofString "over"=_ from hw) (by decide +kernel)
  | great=>exact absurd (show Str.ofString "great"=_ from hw) (by decide +kernel)
  | as=>exact absurd (show Str.ofString "as"=_ from hw) (by decide +kernel)
noncomputable def optP:Option Str->V
 | none=>.non
 | some p=>.str p
noncomputable def xI (ns:List Int) (n:Nat) (z:Rl):Prop:=(∃ i j,i<=j/\j<6/\z=(("row" : Str),[C5 ns i,C5 ns j]))\/(RN ns n z/\z.1≠"row")
theorem xJ{v w:Int}(h0:0<=v)(h1:v<8)(h2:0<=w)(h3:w<5):∃ i:Int,0<=i/\i<93/\G7 [V.int v,V.int 8,V.int 9,V.int 80,V.int 81] w=some (V.int i):=by
 rcases (show w=0\/w=1\/w=2\/w=3\/w=4 by lia) with e | e | e | e | e
 .exact ⟨v,h0,by lia,by rw [e];rfl⟩
 .exact ⟨8,by decide,by decide,by rw [e];rfl⟩
 .exact ⟨9,by decide,by decide,by rw [e];rfl⟩
 .exact ⟨80,by decide,by decide,by rw [e];rfl⟩
 .exact ⟨81,by decide,by decide,by rw [e];rfl⟩
noncomputable def xK (K:PySem.W.Frag):Sp:=fun vs H Q _=>∃ (a:Addr) (n:Int) (b:Bool) (ns:List Int),vs=[.ref a,.int n,.bl b]/\D5 K H a (ns.map V.int)/\∀ i H',i<93->Same H H'->Q (.str (C5 ns i)) H'
noncomputable def xL (K:PySem.W.Frag):Sp:=fun vs H Q _=>∃ (a:Addr) (k:Nat) (c:Int) (ns:List Int),vs=[.ref a,.int k,.int c]/\D5 K H a (ns.map V.int)/\k<40/\∀ t z H',H t=none->Same H H'->H' t=some (tupR z)->xI ns (10+k) z->Q (.ref t) H'
noncomputable def xM:Sp:=fun vs H Q _=>∃ (t:Addr) (z:Rl) (ns:List Int) (n:Nat),vs=[.ref t]/\H t=some (tupR z)/\xI ns n z/\∀ t2 z2 H',(t2=t\/H t2=none)->Same H H'->H' t2=some (tupR z2)->RN ns n z2->Q (.ref t2) H'
noncomputable def xN (K:PySem.W.Frag):Sp:=fun vs H Q _=>∃ (a:Addr) (ns:List Int),vs=[.ref a]/\D5 K H a (ns.map V.int)/\∀ l ts X H',H l=none->Same H H'->IsRules H' l ts (C2 X)->RRs ns X->Q (.ref l) H'
noncomputable def xO:Sp:=fun vs H Q _=>∃ (r:Addr) (ts:List Addr) (X:List (Nat×Rl)) (ns:List Int),vs=[.ref r]/\IsRules H r ts (C2 X)/\RRs ns X/\∀ t l H',Same H H'->H' t=some (.tup [optP (dueX X),.ref l])->H' l=some (.lst ((letsX X).map V.str))->Q (.ref t) H'
noncomputable def askV (X:List (Nat×Rl)):List V:=match dueX X with
 | none=>[.str "made",.int ((toldL (rowsW (C2 X) "row")).length:Nat)]
 | some p=>[.str "letter",.str p]
noncomputable def xP:Sp:=fun vs H Q _=>∃ (r:Addr) (ts:List Addr) (X:List (Nat×Rl)) (ns:List Int),vs=[.ref r]/\IsRules H r ts (C2 X)/\RRs ns X/\∀ t H',Same H H'->H' t=some (.tup (askV X))->Q (.ref t) H'
noncomputable def xQ:Sp:=fun vs H Q _=>∃ (r:Addr) (ts:List Addr) (X:List (Nat×Rl)) (ns:List Int) (p:Str),vs=[.ref r]/\IsRules H r ts (C2 X)/\RRs ns X/\dueX X=some p/\∀ H',Same H H'->Q (.bl true) H'
theorem pG : ∀ bs:List Bool,DnAll K H (bs.map V.bl) (bs.map PyData.bool)
 | []=>.nil
 | b::bs=>.cons (.bl b) (pG bs)
structure KeptP(CN:Addr)(H:Hp)(x:Addr)(p:Str):Prop where
 ex:∃ dx,H x=some (xc x CN dx)/\H dx=some (.xd [("piece",.str p)])
noncomputable def kindN:List Bool:=[false,true,false,false,false,false,false,false,false,false,false,false]
noncomputable def xR (CN:Addr):Sp:=fun vs H Q _=>∃ (x:Addr) (p:Str),vs=[.ref x]/\KeptP CN H x p/\∀ l H',H l=none->Same H H'->H' l=some (.lst (kindN.map V.bl))->Q (.ref l) H'
section
variable {P:Program} {w:World} {K:PySem.W.Frag} {mg:Str->Option Value} {base:Heap} {C:Addr} {C_NoLetter:Addr}
theorem acf:FnScope ["self", "piece"] ["self", "piece"] (D3 y1):=L7
abbrev VS(N:List Str)(s:Stmt)(x:Str)(n:Nat):Prop:=∀ {X:Cx} {pos:Pos},X.N=N->X.env.scope=D3 s->QE X (.Name x pos) (tVar n)
theorem vq{s:Stmt}{x:Str}(h:(decide (N[n]?=some x)&&visB (D3 s) x && !(x==("__debug__" : Str)) && !(x==("__classdict__" : Str)))=true:=by decide +kernel):VS N s x n:=fun hN hs=>qvd hN hs h
theorem vi{s:Stmt}{x:Str}{pos:Pos}(h:VS N s x n)(h1:X.N=N:=by rfl)(h2:X.env.scope=D3 s:=by rfl):QE X (.Name x pos) (tVar n):=h h1 h2
abbrev LS(s:Stmt)(x:Str):Prop:=i8 (D3 s) x
theorem lq{s:Stmt}{x:Str}(h:(D3 s).names.lookup x=some .local\/(D3 s).names.lookup x=some .cell:=by decide +kernel):LS s x:=h
abbrev xS:List Str:=["self", "piece"]
theorem xT:VS xS y1 "self" 0:=vq
theorem xU:VS xS y1 "piece" 1:=vq
theorem acg(F:FunD K "__init__" "NoLetter.__init__" y1 f fd)(T:Txt P w K mg C C_NoLetter):FnOk P w K mg base G0 1 f fd ["self", "piece"] (pC K C_NoLetter "piece"):=by
 refine F.ok acf ?_ ?_
 .rintro _ _ _ _ ⟨m,x,z,f,rfl,_⟩;rfl
 .intro cdv A outer s H vs Q E hr h;have D6:=hu_of hr;have hu:=hr.units;obtain ⟨aL,mL,NL⟩:=T.lore;refine ⟨_,QSs.out (C3 (j3 (alw NL mL (vi xT) (ago (alH (vi xU)) E5) (K:=K)))
   (C4 (alx (vi xT) (vi xU) (K:=K)))),?_⟩
  obtain ⟨m,x,z,f,rfl,hx,M,n,hz,hok,q⟩:=h;walk_at "rd";exact ⟨hz,hok,fun z1 h1=>⟨by lia,by decide +kernel,fun z2=>⟨m,C_NoLetter,hx,⟨f,M⟩,m,C_NoLetter,hx,⟨f,M⟩,n,q⟩⟩⟩
theorem sc_told:FnScope ["rows", "seen", "row", "piece"] ["rows"] (D3 j7):=L7
abbrev lH:List Str:=["rows", "seen", "row", "piece"]
theorem vac:VS lH j7 "rows" 0:=vq
theorem xV:VS lH j7 "seen" 1:=vq
theorem vae:VS lH j7 "row" 2:=vq
theorem vaf:VS lH j7 "piece" 3:=vq
theorem vag:LS j7 "seen":=lq
theorem vah:LS j7 "row":=lq
theorem vai:LS j7 "piece":=lq
theorem alN(F:FunD K "told" "told" j7 f fd)(T:Txt P w K mg C C_NoLetter):FnOk P w K mg base G0 1 f fd ["rows"] vY:=by
 refine F.ok sc_told ?_ ?_
 .rintro _ _ _ _ ⟨a,rs,zss,rfl,_⟩;rfl
 .intro cdv A outer s H vs Q E hr h;have D6:=hu_of hr;have hu:=hr.units;refine ⟨_,QSs.out (C3 (E1 (n:=1) sc_told.nd rfl vag dS)
   (C3 (O6 PassesOwn.never (T4 (K:=K) (vi vac)) (E9 (n:=2) sc_told.nd rfl vah (.inl rfl)) (C4 (O6 PassesOwn.never (T4 (K:=K) (vi vae)) (E9 (n:=3) sc_told.nd rfl vai (.inl rfl)) (C4 (o9 D6 (vi xV) (vi vaf) qe_bl)))))
   (C4 (E8 (qe_cT (bJ (K:=K) (calm:=true)) T.b_list bE (qa_c (vi xV) A6)))))),?_⟩
  obtain ⟨a,rs,zss,rfl,hR,hz,q⟩:=h;walk_at "rd";intro d nd;have hlz:∀ n:Nat,n<=100000->n<sizeLine:=fun n h=>M9 (by lia)
  refine ⟨⟨_,.of (C9 hR.top nd)⟩,forL (xs:=rs.map V.ref) (fun i O H2=>∃ (u v:Option V),O=[some (.ref a),some (.ref d),u,v]/\Same H H2/\H2 d=some (.dK (kvOf (toldL (zss.take i)))))
   ⟨none,none,rfl,Same.new nd,by rw [A7];rfl⟩ (by rintro i O H2 _ ⟨_,_,_,S,_⟩;exact .of (S _ _ hR.top)) ?_ ?_⟩
  .rintro i x O H2 hx ⟨u,v,rfl,S,hd⟩;obtain ⟨r,hr,rfl⟩:=K5 hx;obtain ⟨zs,fJ,C7⟩:=Paired.at hR.row hr;have hcount:(toldL (zss.take i)).length+zs.length<=100000:=by
    have h1:zss.take (i+1)=zss.take i++[zs]:=by rw [X4,fJ];rfl
    have h2:=dR (zss.take i);have h3:(zss.take (i+1)).flatten.length<=zss.flatten.length:=by
     conv=>rhs;rw [<- X2 (i+1) zss]
     rw [List.flatten_append,E4];lia
    rw [h1,List.flatten_append,E4] at h3;simp at h3;simp at h2 hz h3 ⊢
    lia
   walk_at "rd";refine ⟨⟨_,.of (S _ _ C7)⟩,forL (xs:=zs.map V.str) (fun j O H3=>∃ (v:Option V),O=[some (.ref a),some (.ref d),some (.ref r),v]/\Same H H3/\H3 d=some (.dK (kvOf (J8 (toldL (zss.take i)) (zs.take j)))))
    ⟨v,rfl,S,hd⟩ (by rintro j O H3 _ ⟨_,_,S3,_⟩;exact .of (S3 _ _ C7)) ?_ ?_⟩
   .rintro j y O H3 hy ⟨v,rfl,S3,U2⟩;obtain ⟨z,hz',rfl⟩:=K5 hy;walk_at "rd";refine ⟨_,x4 (k:=Sum.inr z) U2 ?_,S3.put nd,?_⟩
    .unfold kvOf;rw [A8];refine hlz _ ?_
     have:=gM (zs.take j) (toldL (zss.take i))
     rw [L9] at this;lia
    .rw [A7,ag9,aiO hz']
   .rintro O H3 ⟨v,rfl,S3,U2⟩;walk_at "rd";refine ⟨S3,?_⟩;rw [U2,ag8 fJ,A8,K6]
  .rintro O H2 ⟨u,v,rfl,S,hd⟩;walk_at "rd";refine rListR.d (.of hd) fun l nl=>?_
   refine q l _ (S.free nl) (fun b o h=>C9 (S b o h) nl) ?_;rw [A7,aha,A8];rw [show rs.length=zss.length from Paired.length hR.row,K6]
theorem sc_followers:FnScope ["rows", "after", "piece", "row", "one", "other"] ["rows"] (D3 U5):=L7
abbrev eN:List Str:=["rows", "after", "piece", "row", "one", "other"]
theorem xW:VS eN U5 "rows" 0:=vq
theorem pH:VS eN U5 "after" 1:=vq
theorem vam:VS eN U5 "piece" 2:=vq
theorem xX:VS eN U5 "row" 3:=vq
theorem vao:VS eN U5 "one" 4:=vq
theorem vap:VS eN U5 "other" 5:=vq
theorem vaq:LS U5 "after":=lq
theorem var:LS U5 "piece":=lq
theorem vas:LS U5 "row":=lq
theorem vat:LS U5 "one":=lq
theorem vau:LS U5 "other":=lq
theorem aeT(F:FunD K "followers" "followers" U5 f fd)(T:Txt P w K mg C C_NoLetter)(G_told:FO P w K mg base 1 "told" ["rows"] [] vY):FnOk P w K mg base G0 2 f fd ["rows"] spFol:=by
 refine F.ok sc_followers ?_ ?_
 .rintro _ _ _ _ ⟨a,rs,zss,rfl,_⟩;rfl
 .intro cdv A outer s H vs Q E hr h;have D6:=hu_of hr;have hu:=hr.units;refine ⟨_,QSs.out (C3 (E1 (n:=1) sc_followers.nd rfl vaq dS)
   (C3 (O6 PassesOwn.never (T4 (K:=K) (D8 G_told (hm hr) (qa_c (vi xW) A6))) (E9 (n:=2) sc_followers.nd rfl var (.inl rfl)) (C4 (o9 D6 (vi pH) (vi vam) (P8 A6))))
   (C3 (O6 PassesOwn.never (T4 (K:=K) (vi xW)) (E9 (n:=3) sc_followers.nd rfl vas (.inl rfl)) (C4 (O6 PassesOwn.never (am5 T.b_zip (qa_c (vi xX) (qa_c (Q8 (K:=K) (vi xX) (O5 A5) Y2) A6))) (bI (K:=K) (n:=2) (U4 ((E9 (n:=4) sc_followers.nd rfl vat (.inl rfl))) (U4 ((E9 (n:=5) sc_followers.nd rfl vau (.inl rfl))) bH))) (C4 (j3 (qe_mB (K:=K) v7 dB dA dY (b0 D6 (vi pH) (vi vao)) (qa_c (vi vap) A6)))))))
   (C4 (E8 (vi pH)))))),?_⟩
  obtain ⟨a,rs,zss,rfl,hR,hz,q⟩:=h;walk_at "rd";intro d nd;have S0:Same H (A0 H d (.dK [])):=Same.new nd;refine ⟨a,rs,zss,rfl,hR.same S0,hz,fun l H1 nl S1 hl=>?_⟩;have rH:H1 d=some (.dK []):=S1 _ _ A7;have S01:=S0.trans S1;have B3:(toldL zss).length<=100000:=F6 (dR zss) hz;have tnd:=eA zss;refine ⟨l,rfl,⟨_,.of hl⟩,forL (xs:=(toldL zss).map V.str) (fun i O H2=>∃ (u v w x:Option V) (ad:Str->Addr),O=[some (.ref a),some (.ref d),u,v,w,x]/\SameBut d H1 H2/\H2 d=some (.dK (C1 ((toldL zss).take i) fun t=>.ref (ad t)))/\DL H1 H2 ((toldL zss).take i) ad fun _=>[])
   ⟨none,none,none,none,fun _=>0,rfl,vJ _ _,rH,⟨fun t h=>by simp at h,fun t h=>by simp at h,fun t h=>by simp at h⟩⟩ (fun i O H2 _ ⟨_,_,_,_,_,_,S,_⟩=>.of (S _ _ (fun e=>by rw [e,rH] at hl;cases hl) hl)) ?_ ?_⟩
  .rintro i x O H2 hx ⟨u,v,w,y,ad,rfl,S,hd,dl⟩;obtain ⟨z,hk,rfl⟩:=K5 hx;have hi:i<(toldL zss).length:=(K1.mp hk).1;have O1:=oH tnd hk;walk_at "rd";refine fun p np=>⟨_,x4 (k:=Sum.inr z) (C9 hd np) (by rw [b9,L9];exact M9 (by lia)),?_⟩
   have n1:H1 p=none:=S.free np (fun e=>by rw [e,hd] at np;cases np);refine ⟨(S.put n1).at,fun t=>if t=z then p else ad t,?_,?_⟩
   .rw [A7,bK _ O1,L6 hk];have e:(fun t=>if t=z then V.ref p else V.ref (ad t))=fun t=>V.ref (if t=z then p else ad t):=by funext t;split <;> rfl
    rw [e]
   .rw [L6 hk];exact ((dl.more O1 np n1).congr fun t _=>by split <;> rfl).put rH
  .rintro O H2 ⟨u,v,w,y,ad,rfl,S,hd,dl⟩;rw [A8,K6] at hd dl;have S2:Same H H2:=S.same S01 nd;walk_at "rd";have dl0:DL H H2 (toldL zss) ad fun _=>[]:=dl.old S01
   refine ⟨⟨_,.of (S2 _ _ hR.top)⟩,forL (xs:=rs.map V.ref) (fun i O H3=>∃ (v w x:Option V),O=[some (.ref a),some (.ref d),u,v,w,x]/\Same H H3/\H3 d=some (.dK (C1 (toldL zss) fun t=>.ref (ad t)))/\DL H H3 (toldL zss) ad (D9 (edges (zss.take i))))
    ⟨v,w,y,rfl,S2,hd,dl0⟩ (by rintro i O H3 _ ⟨_,_,_,_,S,_⟩;exact .of (S _ _ hR.top)) ?_ ?_⟩
   .rintro i x O H3 hx ⟨v,w,y,rfl,S3,U2,l8⟩;obtain ⟨r,hr,rfl⟩:=K5 hx;obtain ⟨zs,fJ,C7⟩:=Paired.at hR.row hr;have aE:=S3 _ _ C7;have M3:∀ x∈zs,x∈toldL zss:=fun x hx=>(oF _ _).mpr (gA.mpr ⟨zs,P1 fJ,hx⟩)
    walk_at "rd";refine rSlR.l (.of aE) fun p np=>?_
    have ecut:cutV (zs.map V.str) (some 1) none=zs.tail.map V.str:=by
     have:=x6 (zs.map V.str) 1
     rw [show ((1:Nat):Int)=1 from rfl] at this;rw [this,<- aU,List.drop_one]
    rw [ecut];have np0:H p=none:=S3.free np;have nad:∀ t∈toldL zss,ad t≠p:=fun t ht e=>by have:=l8.row t ht;rw [e,np] at this;cases this
    have nadr:∀ t∈toldL zss,ad t≠r:=fun t ht e=>by have:=l8.new t ht;rw [e,C7] at this;cases this
    have ndp:d≠p:=fun e=>by rw [<- e,U2] at np;cases np
    have nadd:∀ t∈toldL zss,ad t≠d:=fun t ht e=>by have:=l8.row t ht;rw [e,U2] at this;cases this
    refine ⟨p,rfl,⟨_,C9 aE np⟩,⟨_,A7⟩,forZ (xs:=zs.map V.str) (ys:=zs.tail.map V.str) (fun j O H4=>∃ (w x:Option V),O=[some (.ref a),some (.ref d),u,some (.ref r),w,x]/\Same H H4/\H4 p=some (.lst (zs.tail.map V.str))/\H4 d=some (.dK (C1 (toldL zss) fun t=>.ref (ad t)))/\DL H H4 (toldL zss) ad (D9 (edges (zss.take i)++(T6 zs).take j)))
     ⟨w,y,rfl,S3.put np0,A7,C9 U2 np,?_⟩ (by rintro j O H4 ⟨_,_,_,S,hp,_⟩;exact ⟨S _ _ C7,hp⟩) ?_ ?_⟩
    .rw [i6,M7];exact l8.same (Same.new np)
    .rintro j xv yv t O H4 hxv hyv ⟨w,v,rfl,S4,jF,V2,fK⟩ nt;obtain ⟨x,hx,rfl⟩:=K5 hxv;obtain ⟨y,hy,rfl⟩:=K5 hyv;have fL:=M3 x (P1 hx);have nt0:H t=none:=S4.free nt;have hlx:=fK.row x fL;have hE:(T6 zs)[j]?=some (x,y):=ahn hx hy;walk_at "rd";refine ⟨_,.of A7,rfl,_,_,rfl,_,_,rfl,rfl,V.ref (ad x),.inl ⟨_,Sum.inr x,.inl (C9 V2 nt),rfl,by rw [O7,if_pos fL]⟩,o7 (C9 hlx nt),appOk (C9 hlx nt) ?_ ⟨(S4.put nt0).put (fK.new x fL),?_,?_,?_⟩⟩
     .rw [A8];refine M9 ?_;have h1:(D9 (edges (zss.take i)++(T6 zs).take j) x).length<=(edges (zss.take i)++(T6 zs).take j).length:=by
       unfold D9;rw [A8];exact jS _ _
      have h2:=vF (zss.take i);have h3:(zss.take i).flatten.length<=zss.flatten.length:=by
       conv=>rhs;rw [<- X2 i zss]
       rw [List.flatten_append,E4];lia
      have h4:zs.length<=zss.flatten.length:=List.Sublist.length_le (List.sublist_flatten_of_mem (P1 fJ));rw [E4,L9,oG] at h1;lia
     .rw [A9 (nad x fL).symm];exact C9 jF nt
     .rw [A9 (nadd x fL).symm];exact C9 V2 nt
     .have h1:=(fK.same (Same.new (u:=.tup [V.str x,V.str y]) nt)).app fL (D9 (edges (zss.take i)++(T6 zs).take j) x++[y]);rw [F8] at h1;refine h1.congr fun t _=>?_
      rw [L6 hE,<- Z5,ai1]
      by_cases e:t=x
      .rw [if_pos e,if_pos e.symm,e]
      .rw [if_neg e,if_neg (fun z=>e z.symm)]
    .rintro O H4 ⟨w,x,rfl,S4,jF,V2,fK⟩;walk_at "rd";refine ⟨S4,V2,?_⟩;rw [agg fJ];rw [Z4 (l:=T6 zs) (by rw [oG,A8,A8];exact C6 _)] at fK;exact fK
   .rintro O H3 ⟨v,w,y,rfl,S3,U2,l8⟩;rw [A8,show rs.length=zss.length from Paired.length hR.row,K6] at l8;walk_at "rd";exact q d ad H3 nd S3 U2 l8
theorem sc_count_ahead:FnScope ["after", "ahead", "piece", "other"] ["after"] (D3 j8):=L7
abbrev lI:List Str:=["after", "ahead", "piece", "other"]
theorem pI:VS lI j8 "after" 0:=vq
theorem pJ:VS lI j8 "ahead" 1:=vq
theorem xY:VS lI j8 "piece" 2:=vq
theorem vay:VS lI j8 "other" 3:=vq
theorem vaz:LS j8 "ahead":=lq
theorem xZ:LS j8 "piece":=lq
theorem vaB:LS j8 "other":=lq
theorem ads(F:FunD K "count_ahead" "count_ahead" j8 f fd)(T:Txt P w K mg C C_NoLetter):FnOk P w K mg base G0 1 f fd ["after"] vG:=by
 refine F.ok sc_count_ahead ?_ ?_
 .rintro _ _ _ _ ⟨d,ts,ad,E,rfl,_⟩;rfl
 .intro cdv A outer s H vs Q E hr h;have D6:=hu_of hr;have hu:=hr.units;refine ⟨_,QSs.out (C3 (E1 (n:=1) sc_count_ahead.nd rfl vaz dS)
   (C3 (oB PassesOwn.never (vi pI) (E9 (n:=2) sc_count_ahead.nd rfl xZ (.inl rfl)) (C4 (o9 D6 (vi pJ) (vi xY) A5)))
   (C3 (oB PassesOwn.never (vi pI) (E9 (n:=2) sc_count_ahead.nd rfl xZ (.inl rfl)) (C4 (O6 PassesOwn.never (T4 (K:=K) (b0 D6 (vi pI) (vi xY))) (E9 (n:=3) sc_count_ahead.nd rfl vaB (.inl rfl)) (C4 (uL D6 (vi pJ) (vi vay) A5 amX)))))
   (C4 (E8 (vi pJ)))))),?_⟩
  obtain ⟨d,ts,ad,E,rfl,hd,tnd,B3,hElen,C7,hE,q⟩:=h;walk_at "rd";intro c nc;have ndc:d≠c:=fun e=>by rw [e,nc] at hd;cases hd
  refine ⟨_,C9 hd nc,fun o=>forD (fun i O H2=>∃ (u v:Option V),O=[some (.ref d),some (.ref c),u,v]/\H2 d=some (.frz o (.dK (C1 ts fun t=>.ref (ad t))))/\SameBut d H H2/\H2 c=some (.dK (C1 (ts.take i) fun _=>.int 0)))
   ⟨none,none,rfl,A7,(SameBut.put (vJ _ _) nc).at,by rw [A9 ndc.symm,A7];rfl⟩ (by rintro i O H2 ⟨_,_,_,h,_⟩;exact h) ?_ ?_⟩
  .rintro i k v O H2 hk ⟨u,w,rfl,hf,S,hc⟩;obtain ⟨t,ht,rfl,rfl⟩:=vE hk;have hi:i<ts.length:=(K1.mp ht).1;walk_at "rd";refine ⟨_,x4 (k:=Sum.inr t) hc (by rw [b9,L9];exact M9 (by lia)),?_,S.put nc,?_⟩
   .rw [A9 ndc];exact hf
   .rw [A7,bK _ (oH tnd ht),L6 ht];exact congrArg (fun x=>some (HO.dK x)) (Q0 fun t _=>by split <;> rfl)
  .rintro O H2 ⟨u,w,rfl,hf,S,hc⟩;rw [b9,K6] at hc;have S2:Same H (A0 H2 d (.dK (C1 ts fun t=>.ref (ad t)))):=S.thaw hd;have T8:A0 H2 d (.dK (C1 ts fun t=>.ref (ad t))) d=some (.dK (C1 ts fun t=>.ref (ad t))):=A7;have r0:A0 H2 d (.dK (C1 ts fun t=>.ref (ad t))) c=some (.dK (C1 ts fun _=>.int 0)):=by rw [A9 ndc.symm];exact hc
   generalize A0 H2 d (.dK (C1 ts fun t=>.ref (ad t)))=H3 at S2 T8 r0;walk_at "rd";refine ⟨_,T8,fun o=>forD (fun i O H4=>∃ (u v:Option V),O=[some (.ref d),some (.ref c),u,v]/\H4 d=some (.frz o (.dK (C1 ts fun t=>.ref (ad t))))/\SameBut d H H4/\H4 c=some (.dK (C1 ts fun t=>.int (cntIn E (ts.take i) t:Nat))))
    ⟨u,w,rfl,A7,fun b o hb h=>by rw [A9 hb];exact S2 b o h,?_⟩ (by rintro i O H2 ⟨_,_,_,h,_⟩;exact h) ?_ ?_⟩
   .rw [A9 ndc.symm,r0];exact congrArg (fun x=>some (HO.dK x)) (Q0 fun t _=>by rw [i6,ahm];rfl)
   .rintro i k v O H4 hk ⟨u,w,rfl,hf,S4,fM⟩;obtain ⟨t,ht,rfl,rfl⟩:=vE hk;have jG:t∈ts:=P1 ht;have rJ:H4 (ad t)=some (.lst ((D9 E t).map V.str)):=S4 _ _ (fun e=>by have:=C7 t jG;rw [e,hd] at this;cases this) (C7 t jG);walk_at "rd";refine ⟨V.ref (ad t),.inl ⟨_,Sum.inr t,.inr ⟨o,hf⟩,rfl,by rw [O7,if_pos jG]⟩,ad t,rfl,⟨_,.of rJ⟩,forL (xs:=(D9 E t).map V.str) (fun j O H5=>∃ (v:Option V),O=[some (.ref d),some (.ref c),some (kV (Sum.inr t)),v]/\H5 d=some (.frz o (.dK (C1 ts fun t=>.ref (ad t))))/\SameBut d H H5/\
     H5 c=some (.dK (C1 ts fun q=>.int (cntIn E (ts.take i) q+((D9 E t).take j).count q:Nat)))) ⟨w,rfl,hf,S4,by rw [fM];rfl⟩ (fun j O H5 _ ⟨_,_,_,S5,_⟩=>.of (S5 _ _ (fun e=>by have:=C7 t jG;rw [e,hd] at this;cases this) (C7 t jG))) ?_ ?_⟩
    .rintro j v5 O H5 rK ⟨v,rfl,rL,S5,V3⟩;obtain ⟨y,hy2,rfl⟩:=K5 rK;have aF:y∈ts:=by
      have:=P1 hy2
      unfold D9 at this;obtain ⟨e,he,rfl⟩:=D4.mp this;exact (hE e (N1.mp he).1).2
     walk_at "rd";refine ⟨V.int (cntIn E (ts.take i) y+((D9 E t).take j).count y:Nat),.inl ⟨_,Sum.inr y,.inl V3,rfl,by rw [O7,if_pos aF]⟩,_,_,rfl,rfl,_,x4 (k:=Sum.inr y) V3 (by rw [b9];exact M9 (by lia)),?_,S5.put nc,?_⟩
     .rw [A9 ndc];exact rL
     .rw [A7,kP _ aF];refine congrArg (fun x=>some (HO.dK x)) (Q0 fun q _=>?_);rw [L6 hy2,List.count_append,List.count_singleton]
      by_cases e:q=y
      .rw [if_pos e,e,if_pos (by simp)];exact congrArg V.int (by lia)
      .rw [if_neg e,if_neg (by simpa using fun z:y=q=>e z.symm)];rfl
    .rintro O H5 ⟨v,rfl,rL,S5,V3⟩;walk_at "rd";refine ⟨rL,S5,?_⟩;rw [A8,K6] at V3;rw [V3];refine congrArg (fun x=>some (HO.dK x)) (Q0 fun q _=>?_);rw [L6 ht,agd (oH tnd ht)]
   .rintro O H4 ⟨u,w,rfl,hf,S4,fM⟩;rw [b9,K6] at fM;walk_at "rd";refine q c _ nc (S4.thaw hd) ?_;rw [A9 ndc.symm,fM];exact congrArg (fun x=>some (HO.dK x)) (Q0 fun t _=>by rw [ahl (fun e he=>(hE e he).1)])
theorem sc_lined_up:FnScope ["rows", "after", "ahead", "pieces", "numbers", "free", "line", "number", "other"] ["rows"] (D3 N9):=L7
abbrev p8:List Str:=["rows", "after", "ahead", "pieces", "numbers", "free", "line", "number", "other"]
theorem vaC:VS p8 N9 "rows" 0:=vq
theorem pK:VS p8 N9 "after" 1:=vq
theorem yA:VS p8 N9 "ahead" 2:=vq
theorem iB:VS p8 N9 "pieces" 3:=vq
theorem vaG:VS p8 N9 "numbers" 4:=vq
theorem lJ:VS p8 N9 "free" 5:=vq
theorem pL:VS p8 N9 "line" 6:=vq
theorem pM:VS p8 N9 "number" 7:=vq
theorem pN:VS p8 N9 "other" 8:=vq
theorem vaL:LS N9 "after":=lq
theorem vaM:LS N9 "ahead":=lq
theorem vaN:LS N9 "pieces":=lq
theorem vaO:LS N9 "numbers":=lq
theorem vaP:LS N9 "free":=lq
theorem vaQ:LS N9 "line":=lq
theorem vaR:LS N9 "number":=lq
theorem vaS:LS N9 "other":=lq
theorem afi(F:FunD K "lined_up" "lined_up" N9 f fd)(T:Txt P w K mg C C_NoLetter)(G_followers:FO P w K mg base 2 "followers" ["rows"] [] spFol)(G_count_ahead:FO P w K mg base 1 "count_ahead" ["after"] [] vG):FnOk P w K mg base G0 3 f fd ["rows"] vI:=by
 refine F.ok sc_lined_up ?_ ?_
 .rintro _ _ _ _ ⟨a,rs,zss,rank,rfl,_⟩;rfl
 .intro cdv A outer s H vs Q E hr h;have D6:=hu_of hr;have hu:=hr.units;refine ⟨_,QSs.out (C3 (E1 (n:=1) sc_lined_up.nd rfl vaL (D8 G_followers (hm hr) (qa_c (vi vaC) A6)))
   (C3 (E1 (n:=2) sc_lined_up.nd rfl vaM (D8 G_count_ahead (hm hr) (qa_c (vi pK) A6)))
   (C3 (E1 (n:=3) sc_lined_up.nd rfl vaN (qe_cT (bJ (K:=K) (calm:=true)) T.b_list bE (qa_c (vi pK) A6)))
   (C3 (E1 (n:=4) sc_lined_up.nd rfl vaO (qe_cT (ak9 (K:=K) (calm:=true)) T.b_dict ak1 (qa_c (x5  (k4:CompOk ["rows", "after", "ahead", "pieces", "numbers", "free", "line", "number", "other"] (D3 N9).names _ ["number", "piece"] 2 []) (kQ T.b_enumerate (qa_c (vi iB) A6)) (fun _ _ _ _ _=>(bI (K:=K) (n:=2) (U4 (E9 (n:=0) (show List.Nodup (["number", "piece"]:List Str) by decide +kernel) rfl (Or.inl rfl)) (U4 (E9 (n:=1) (show List.Nodup (["number", "piece"]:List Str) by decide +kernel) rfl (Or.inl rfl)) bH)))) (fun _ _ _ _ _=>gS) (fun _ _ _ _ _=>(M0 (qa_c (qv 1) (qa_c (qv 0) A6))))) A6)))
   (C3 (uM (n:=5) sc_lined_up.nd rfl vaP (k4:CompOk ["rows", "after", "ahead", "pieces", "numbers", "free", "line", "number", "other"] (D3 N9).names _ ["piece", "numbers", "ahead"] 1 [4,2]) (T4 (K:=K) (vi iB)) (fun _ _ _ _ _=>E9 (n:=0) (show List.Nodup (["piece", "numbers", "ahead"]:List Str) by decide +kernel) rfl (Or.inl rfl)) (fun _ _ _ _ _=>(gT (F7 (q_eq (K:=K) hu) (b0 D6 (qv 2) (qv 0)) A5))) (fun _ _ _ _ _=>(b0 D6 (qv 1) (qv 0))))
   (C3 (E1 (n:=6) sc_lined_up.nd rfl vaQ (P8 A6))
   (C3 (aiR PassesOwn.never (gR (K:=K) (vi lJ)) (C3 (E1 (n:=7) sc_lined_up.nd rfl vaR (qe_cB (anf (calm:=true)) T.b_min amP (qa_c (vi lJ) A6)))
   (C3 (j3 (qe_mB (K:=K) v7 PySem.F.slot_list_remove PySem.F.type_list_remove ahz (vi lJ) (qa_c (vi pM) A6)))
   (C3 (j3 (qe_mB (K:=K) v7 dB dA dY (vi pL) (qa_c (qe_ix (K:=K) (vi iB) (vi pM)) A6)))
   (C4 (O6 PassesOwn.never (T4 (K:=K) (b0 D6 (vi pK) (qe_ix (K:=K) (vi iB) (vi pM)))) (E9 (n:=8) sc_lined_up.nd rfl vaS (.inl rfl)) (C3 (uL D6 (vi yA) (vi pN) A5 amY)
   (C4 (qs_if (F7 (q_eq (K:=K) hu) (b0 D6 (vi yA) (vi pN)) A5) (C4 (j3 (qe_mB (K:=K) v7 dB dA dY (vi lJ) (qa_c (b0 D6 (vi vaG) (vi pN)) A6)))) K2)))))))))
   (C3 (qs_if (F7 q_lt (qe_cB (q_len (K:=K)) T.b_len dQ (qa_c (vi pL) A6)) (qe_cB (q_len (K:=K)) T.b_len dQ (qa_c (vi iB) A6))) (C4 uK) K2)
   (C4 (E8 (vi pL))))))))))),?_⟩
  obtain ⟨a,rs,zss,rank,rfl,hR,hz,g7,q⟩:=h;walk_at "rd";have B3:(toldL zss).length<=100000:=F6 (dR zss) hz;have hElen:(edges zss).length<=100000:=F6 (vF zss) hz;have tnd:=eA zss;have etold:∀ e∈edges zss,e.1∈toldL zss/\e.2∈toldL zss:=fun e he=>agf he
  refine ⟨a,rs,zss,rfl,hR,hz,fun d ad H1 nd S1 hd dl=>?_⟩;generalize hts:toldL zss=ts at *;generalize hEE:edges zss=E at *;refine ⟨d,ts,ad,E,rfl,hd,tnd,B3,hElen,dl.row,etold,fun c H2 nc S2 hc=>?_⟩;walk_at "rd";refine rListR.d (.of (S2 _ _ hd)) fun w nw=>?_
  rw [ai3];have aG:=S1.trans S2;have ncH:H c=none:=S1.free nc;have T8:=S2 _ _ hd;have ncd:c≠d:=fun e=>by rw [e,hd] at nc;cases nc
  have nac:∀ t∈ts,ad t≠c:=fun t ht e=>by have:=dl.row t ht;rw [e,nc] at this;cases this
  have mF:A0 H2 w (.lst (ts.map V.str)) w=some (.lst (ts.map V.str)):=A7;have Sw:Same H2 (A0 H2 w (.lst (ts.map V.str))):=Same.new nw;generalize A0 H2 w (.lst (ts.map V.str))=H3 at mF Sw ⊢
  have idx:∀ {i:Nat} {z:Str},ts[i]?=some z->ts.idxOf z=i:=fun {i z} h=>by
   obtain ⟨hi,rfl⟩:=K1.mp h;exact List.Nodup.idxOf_getElem tnd i hi
  refine ⟨w,rfl,⟨_,mF⟩,compE (xs:=ts.map V.str) [] rfl (fun D i ys H4=>∃ qs:List Addr,ys=qs.map V.ref/\Same H3 H4/\Paired (fun q t=>H4 q=some (.tup [.str t,.int (ts.idxOf t:Nat)])) qs (ts.take i)) (fun D nD=>⟨[],rfl,Same.new nD,.nil⟩) (by rintro D i ys H4 nD _ ⟨_,_,S,_⟩;exact S _ _ mF) ?_ ?_⟩
  .rintro D i x t ys H4 nD hi hx ⟨qs,rfl,S,P4⟩ hD hy nt;obtain ⟨z,hz,rfl⟩:=K5 hx;rw [A8] at hi hy;walk_at "rd";refine ⟨by decide,fun p np=>⟨C9 (C9 hD nt) np,by rw [A8];exact M9 (by lia),eE.put (by rw [A8];exact hi) (by rw [A8];exact hy) ⟨qs++[p],by rw [F8];rfl,((S.trans (Same.new nt)).trans (Same.new np)).put nD,?_⟩⟩⟩;rw [L6 hz];refine Paired.snoc (Q7 P4 fun q t' h=>?_) ?_
   .rw [A9 (fun e=>by rw [e,hD] at h;cases h)];exact C9 (C9 h nt) np
   .rw [A9 (fun e=>by rw [e,C9 hD nt] at np;cases np),A7,idx hz]
  rintro D ys H4 nD ⟨qs,rfl,rM,P4⟩ hD hy;rw [A8,K6] at P4;refine ⟨rfl,D,qs,_,rfl,.of hD,vX (f:=fun t=>.int (ts.idxOf t:Nat)) P4,fun nm nnm=>?_⟩;rw [show W3 [] (C1 ts fun t=>V.int (ts.idxOf t:Nat))=C1 ts fun t=>V.int (ts.idxOf t:Nat) from vV (pre:=[]) (by simpa using tnd)];have S5:Same H2 (A0 H4 nm (.dK (C1 ts fun t=>V.int (ts.idxOf t:Nat)))):=(Sw.trans rM).trans (Same.new nnm);have u7:A0 H4 nm (.dK (C1 ts fun t=>V.int (ts.idxOf t:Nat))) w=some (.lst (ts.map V.str)):=C9 (rM _ _ mF) nnm;have rN:A0 H4 nm (.dK (C1 ts fun t=>V.int (ts.idxOf t:Nat))) nm=some (.dK (C1 ts fun t=>V.int (ts.idxOf t:Nat))):=A7;have fM:H4 c=some (.dK (C1 ts fun t=>.int (E3 E [] t:Nat))):=rM _ _ (Sw _ _ hc);have ncn:c≠nm:=fun e=>by rw [<- e,fM] at nnm;cases nnm
  generalize A0 H4 nm (.dK (C1 ts fun t=>V.int (ts.idxOf t:Nat)))=H5 at S5 u7 rN ⊢
  have V3:=S5 _ _ hc;have hd5:=S5 _ _ T8;have eX:∀ t∈ts,H5 (ad t)=some (.lst ((D9 E t).map V.str)):=fun t ht=>S5 _ _ (S2 _ _ (dl.row t ht))
  have S05:=aG.trans S5;have ncw:c≠w:=fun e=>by rw [e,u7] at V3;cases V3
  refine ⟨w,rfl,⟨_,.of u7⟩,compL (xs:=ts.map V.str) [some (.ref nm),some (.ref c)] rfl (fun D i ys H6=>∃ fr:List Int,ys=fr.map V.int/\Same H5 H6/\FS (ts.take i) [] (fun q=>E3 E [] q=0) fr) (fun D nD=>⟨[],rfl,Same.new nD,FS.nil _⟩) (by rintro D i ys H6 nD _ ⟨_,_,S,_⟩;exact .of (S _ _ u7)) ?_ ?_⟩
  .rintro D i x ys H6 nD hi hx ⟨fr,rfl,S,F⟩ hD hy;obtain ⟨z,hz,rfl⟩:=K5 hx;have hzt:z∈ts:=P1 hz;have hil:i<ts.length:=(K1.mp hz).1;rw [A8] at hy;have hs:=F.snoc (i:=i) (q:=z) (by rw [L9];lia) (by simp);rw [<- L6 hz] at hs;walk_at "rd";refine ⟨V.int (E3 E [] z:Nat),.inl ⟨_,Sum.inr z,.inl (S _ _ V3),rfl,by rw [O7,if_pos hzt]⟩,?_⟩
   try walk_at "rd"
   refine iteD (fun h0=>⟨V.int (ts.idxOf z:Nat),.inl ⟨_,Sum.inr z,.inl (S _ _ rN),rfl,by rw [O7,if_pos hzt]⟩,hD,by rw [A8];exact M9 (by lia),CW.put hi (by rw [A8];exact hy) ⟨fr++[(i:Int)],by rw [F8,idx hz];rfl,S.put nD,hs.1 (by lia)⟩⟩) fun h0=>⟨hD,uH hi (by rw [A8];exact hy) ⟨fr,rfl,S,hs.2 (by lia)⟩⟩
  rintro f ys H6 nf ⟨fr,rfl,rO,F0⟩ rP hy;rw [A8,K6] at F0;intro ln nln;have nln5:H5 ln=none:=rO.free nln;have Z0:f≠ln:=fun e=>by rw [e,nln] at rP;cases rP
  have frlen:∀ {line fr z},FS ts line z fr->fr.length<=ts.length:=fun {line fr z} F=>by
   have h1:∀ n∈fr,n∈(M8 ts.length).map fun (n:Nat)=>(n:Int):=fun n hn=>by
    obtain ⟨m,q,e,h2,_⟩:=(F.2 n).mp hn;exact D4.mpr ⟨m,aS.mpr (K1.mp h2).1,e.symm⟩
   have:=vW F.1 h1
   simpa using this
  refine am0 (fun m O H7=>∃ (u v:Option V) (line:List Str) (fr:List Int),O=[some (.ref a),some (.ref d),some (.ref c),some (.ref w),some (.ref nm),some (.ref f),some (.ref ln),u,v]/\SameBut c H5 H7/\
    H7 c=some (.dK (C1 ts fun t=>.int (E3 E line t:Nat)))/\H7 f=some (.lst (fr.map V.int))/\FS ts line (fun q=>E3 E line q=0) fr/\H7 ln=some (.lst (line.map V.str))/\P9 E ts line/\m=ts.length-line.length) ts.length
   ⟨none,none,[],fr,rfl,fun b o _ h=>C9 (rO _ _ h) nln,C9 (rO _ _ V3) nln,C9 rP nln,F0,A7,P9.nil _ _,rfl⟩ ?_
  rintro m O H7 ⟨u,v,line,fr,rfl,B7,hc7,mG,F,rQ,run,rfl⟩;have S07:Same H H7:=B7.same S05 ncH;walk_at "rd";refine ⟨_,uS mG,?_⟩
  by_cases u8:fr=[]
  .have t8:∀ p∈ts,p∈line:=fun p hp=>Classical.byContradiction fun hn=>by
    obtain ⟨q',hq⟩:=ai2 (line:=line) g7 (fun e he=>(etold e he).1) ⟨p,hp,hn⟩;obtain ⟨h1,h2,h3⟩:=gW hq;obtain ⟨k,hk⟩:=List.mem_iff_getElem?.mp h1
    have:=(F.2 (k:Int)).mpr ⟨k,q',rfl,hk,h2,h3⟩
    rw [u8] at this
    cases this
   have hsl:=kO tnd run t8;rw [u8];refine iteF ?_
   try walk_at "rd"
   refine ⟨line.length,.inl ⟨_,.of rQ,by rw [A8]⟩,ts.length,.inl ⟨_,.of (B7 _ _ ncw.symm u7),by rw [A8]⟩,?_⟩
   try walk_at "rd"
   exact iteD (fun h=>absurd h (by lia)) fun _=>q ln line H7 (S05.free nln5) S07 rQ run t8
  rw [show (!(fr.map V.int).isEmpty)=true by cases fr with | nil=>exact absurd rfl u8 | cons=>rfl];refine iteT ⟨fun σ' H'=>∃ (u v:Option V) (line':List Str) (fr:List Int),σ'=[some (.ref a),some (.ref d),some (.ref c),some (.ref w),some (.ref nm),some (.ref f),some (.ref ln),u,v]/\SameBut c H5 H'/\
    H' c=some (.dK (C1 ts fun t=>.int (E3 E line' t:Nat)))/\H' f=some (.lst (fr.map V.int))/\FS ts line' (fun q=>E3 E line' q=0) fr/\H' ln=some (.lst (line'.map V.str))/\P9 E ts line'/\ts.length-line'.length<ts.length-line.length,?_,?_⟩
  .rintro σ' H' ⟨u,v,line',fr',rfl,h1,h2,h3,h4,h5,h6,h7⟩;exact ⟨_,h7,⟨_,_,rfl⟩,h1,line',h2,fr',h3,h4,h5,h6,rfl⟩
  try walk_at "rd"
  refine ⟨fr,mG,u8,fun M hM cH=>?_⟩;obtain ⟨mm,p,rfl,hpm,V4⟩:=afd F hM cH;obtain ⟨aH,lW,mH⟩:=gW V4;have rR:line.length<ts.length:=by
   have h1:(line++[p]).Nodup:=(run.snoc V4).nodup;have h3:=vH h1 fun x hx=>(run.snoc V4).sub hx
   rw [E4,X3] at h3;lia
  have F1:=F.take tnd hpm
  try walk_at "rd"
  refine ⟨o7 mG,ane mG hM ?_⟩;have hwf:w≠f:=fun e=>by rw [e,nf] at u7;cases u7
  have rS:c≠f:=fun e=>by rw [e,nf] at V3;cases V3
  have cI:c≠ln:=fun e=>by rw [e,nln5] at V3;cases V3
  have B8:SameBut c H5 (A0 H7 f (.lst ((fr.erase (mm:Int)).map V.int))):=B7.put nf;have fO:A0 H7 f (.lst ((fr.erase (mm:Int)).map V.int)) ln=some (.lst (line.map V.str)):=by rw [A9 Z0.symm];exact rQ
  have hf8:A0 H7 f (.lst ((fr.erase (mm:Int)).map V.int)) f=some (.lst ((fr.erase (mm:Int)).map V.int)):=A7;have hc8:A0 H7 f (.lst ((fr.erase (mm:Int)).map V.int)) c=some (.dK (C1 ts fun t=>.int (E3 E line t:Nat))):=by rw [A9 rS];exact hc7
  generalize A0 H7 f (.lst ((fr.erase (mm:Int)).map V.int))=H8 at B8 fO hf8 hc8 ⊢
  have atp:G7 (ts.map V.str) (mm:Int)=some (V.str p):=R7 (by rw [Q5,hpm];rfl);refine ⟨o7 fO,_,.inl (.of (B8 _ _ ncw.symm u7)),V.str p,atp,appOk fO (by rw [A8];exact M9 (by lia)) ?_⟩;have B9:SameBut c H5 (A0 H8 ln (.lst (line.map V.str++[V.str p]))):=B8.put nln5;have rT:A0 H8 ln (.lst (line.map V.str++[V.str p])) ln=some (.lst ((line++[p]).map V.str)):=by rw [A7,F8];rfl
  have hf9:A0 H8 ln (.lst (line.map V.str++[V.str p])) f=some (.lst ((fr.erase (mm:Int)).map V.int)):=by rw [A9 Z0];exact hf8
  have hc9:A0 H8 ln (.lst (line.map V.str++[V.str p])) c=some (.dK (C1 ts fun t=>.int (E3 E line t:Nat))):=by rw [A9 cI];exact hc8
  generalize A0 H8 ln (.lst (line.map V.str++[V.str p]))=H9 at B9 rT hf9 hc9 ⊢
  refine ⟨_,.inl (.of (B9 _ _ ncw.symm u7)),V.str p,atp,V.ref (ad p),.inl ⟨_,Sum.inr p,.inl (B9 _ _ ncd.symm hd5),rfl,by rw [O7,if_pos aH]⟩,ad p,rfl,⟨_,.of (B9 _ _ (nac p aH) (eX p aH))⟩,
   forL (xs:=(D9 E p).map V.str) (fun j O H7=>∃ (x:Option V) (fr:List Int),O=[some (.ref a),some (.ref d),some (.ref c),some (.ref w),some (.ref nm),some (.ref f),some (.ref ln),some (.int (mm:Int)),x]/\SameBut c H5 H7/\
    H7 c=some (.dK (C1 ts fun t=>.int ((E3 E line t:Nat)-(((D9 E p).take j).count t:Nat))))/\H7 f=some (.lst (fr.map V.int))/\FS ts (line++[p]) (fun q=>E3 E line q=((D9 E p).take j).count q) fr/\H7 ln=some (.lst ((line++[p]).map V.str)))
   ⟨v,_,rfl,B9,?_,hf9,F1.congr fun q=>(by simp),rT⟩ (by rintro j O H7 _ ⟨_,_,_,B,_⟩;exact .of (B _ _ (nac p aH) (eX p aH))) ?_ ?_⟩
  .rw [hc9];exact congrArg (fun x=>some (HO.dK x)) (Q0 fun t _=>congrArg V.int (by simp))
  .rintro j v5 O W9 rK ⟨x,fr,rfl,B,g8,cK,F,cL⟩;obtain ⟨y,hy,rfl⟩:=K5 rK;have aF:y∈ts:=by
    have:=P1 hy
    unfold D9 at this;obtain ⟨e,he,rfl⟩:=D4.mp this;exact (etold e (N1.mp he).1).2
   have u4:((D9 E p).take j).count y<E3 E line y:=by
    have h1:=vB (E:=E) (q:=y) lW;have h2:(D9 E p).count y=((D9 E p).take (j+1)).count y+((D9 E p).drop (j+1)).count y:=by rw [<- List.count_append,X2]
    rw [L6 hy,List.count_append,List.count_singleton,if_pos (by simp)] at h2;lia
   have hyb:y∉line++[p]:=fun hm=>by
    rcases J3.mp hm with hm | hm
    .have:=aja run hm;lia
    .rw [G5.mp hm] at u4;lia
   obtain ⟨my,hmy⟩:=List.mem_iff_getElem?.mp aF;have jH:∀ q,((D9 E p).take (j+1)).count q=((D9 E p).take j).count q+if y=q then 1 else 0:=fun q=>by
    rw [L6 hy,List.count_append,List.count_singleton]
    by_cases e:y=q
    .rw [if_pos e,if_pos (by simpa using e)]
    .rw [if_neg e,if_neg (by simpa using e)]
   have turn:=F.turn (z':=fun q=>E3 E line q=((D9 E p).take (j+1)).count q) tnd (y:=y) (fun q hq=>by rw [jH,if_neg (fun e=>hq e.symm),Nat.add_zero]) (by lia) hmy hyb;have O1:C1 ts (fun t=>V.int (if t=y then (E3 E line y:Nat)-(((D9 E p).take j).count y:Nat)-1 else (E3 E line t:Nat)-(((D9 E p).take j).count t:Nat)))=C1 ts (fun t=>V.int ((E3 E line t:Nat)-(((D9 E p).take (j+1)).count t:Nat))):=Q0 fun q _=>by
    rw [jH]
    by_cases e:q=y
    .rw [if_pos e,e,if_pos rfl];exact congrArg V.int (by lia)
    .rw [if_neg e,if_neg (fun z=>e z.symm)];exact congrArg V.int (by lia)
   walk_at "rd";refine ⟨_,.inl ⟨_,Sum.inr y,.inl g8,rfl,by rw [O7,if_pos aF]⟩,_,_,rfl,rfl,_,x4 (k:=Sum.inr y) g8 (by rw [b9];exact M9 (by lia)),?_⟩;have u9:A0 W9 c (.dK (putK (C1 ts fun t=>V.int ((E3 E line t:Nat)-(((D9 E p).take j).count t:Nat))) (Sum.inr y) (V.int ((E3 E line y:Nat)-(((D9 E p).take j).count y:Nat)-1)))) c=some (.dK (C1 ts (fun t=>V.int ((E3 E line t:Nat)-(((D9 E p).take (j+1)).count t:Nat))))):=by
    rw [A7,kP _ aF,<- O1];refine congrArg (fun x=>some (HO.dK x)) (Q0 fun q _=>?_)
    by_cases e:q=y
    .rw [if_pos e,if_pos e]
    .rw [if_neg e,if_neg e]
   have B11:SameBut c H5 (A0 W9 c (.dK (putK (C1 ts fun t=>V.int ((E3 E line t:Nat)-(((D9 E p).take j).count t:Nat))) (Sum.inr y) (V.int ((E3 E line y:Nat)-(((D9 E p).take j).count y:Nat)-1))))):=B.at;have v0:A0 W9 c (.dK (putK (C1 ts fun t=>V.int ((E3 E line t:Nat)-(((D9 E p).take j).count t:Nat))) (Sum.inr y) (V.int ((E3 E line y:Nat)-(((D9 E p).take j).count y:Nat)-1)))) f=some (.lst (fr.map V.int)):=by rw [A9 rS.symm];exact cK
   have cM:A0 W9 c (.dK (putK (C1 ts fun t=>V.int ((E3 E line t:Nat)-(((D9 E p).take j).count t:Nat))) (Sum.inr y) (V.int ((E3 E line y:Nat)-(((D9 E p).take j).count y:Nat)-1)))) ln=some (.lst ((line++[p]).map V.str)):=by rw [A9 cI.symm];exact cL
   generalize A0 W9 c (.dK (putK (C1 ts fun t=>V.int ((E3 E line t:Nat)-(((D9 E p).take j).count t:Nat))) (Sum.inr y) (V.int ((E3 E line y:Nat)-(((D9 E p).take j).count y:Nat)-1))))=H11 at u9 B11 v0 cM ⊢
   refine ⟨V.int ((E3 E line y:Nat)-(((D9 E p).take (j+1)).count y:Nat)),.inl ⟨_,Sum.inr y,.inl u9,rfl,by rw [O7,if_pos aF]⟩,?_⟩
   try walk_at "rd"
   have rV:=frlen F;refine iteD (fun h0=>⟨o7 v0,V.int (ts.idxOf y:Nat),.inl ⟨_,Sum.inr y,.inl (B11 _ _ ncn.symm rN),rfl,by rw [O7,if_pos aF]⟩,appOk v0 (by rw [A8];exact M9 (by lia)) ?_⟩) fun h0=>?_
   .refine ⟨B11.put nf,?_,fr++[(my:Int)],?_,turn.1 (by lia),?_⟩
    .rw [A9 rS];exact u9
    .rw [A7,F8,idx hmy];rfl
    .rw [A9 Z0.symm];exact cM
   .exact ⟨B11,u9,fr,v0,turn.2 (by lia),cM⟩
  .rintro O W9 ⟨x,fr,rfl,B,g8,cK,F,cL⟩;rw [A8,K6] at g8 F;have aI:∀ q,E3 E line q=E3 E (line++[p]) q+(D9 E p).count q:=fun q=>vB (E:=E) (q:=q) lW
   refine ⟨⟨_,_,rfl⟩,B,line++[p],?_,fr,cK,F.congr fun q=>?_,cL,run.snoc V4,by rw [E4,X3];lia⟩
   .rw [g8];exact congrArg (fun x=>some (HO.dK x)) (Q0 fun q _=>congrArg V.int (by have:=aI q;lia))
   .have:=aI q
    lia
theorem aeU:FnScope ["sign"] ["sign"] (D3 lB):=L7
abbrev afj:List Str:=["sign"]
theorem vaT:VS afj lB "sign" 0:=vq
theorem aeV(F:FunD K "is_figure" "is_figure" lB f fd)(T:Txt P w K mg C C_NoLetter):FnOk P w K mg base G0 1 f fd ["sign"] oP:=by
 refine F.ok aeU ?_ ?_
 .rintro _ _ _ _ ⟨c,rfl,_⟩;rfl
 .intro cdv A outer s H vs Q E hr h;have D6:=hu_of hr;have hu:=hr.units;refine ⟨_,QSs.out (C4 (E8 (aiP q_le q_le E5 (vi vaT) E5))),?_⟩;obtain ⟨c,rfl,q⟩:=h;walk_at "rd";have e1:(Str.ofString "0").cps.toList=[48]:=by decide +kernel
  have e2:(Str.ofString "9").cps.toList=[57]:=by decide +kernel
  rw [e1,e2];simp only [am9];refine iteN (fun h1=>?_) fun h1=>?_
  .have e:figO c=!decide (57<c):=by
    unfold figO;rw [decide_eq_true (by lia:48<=c)]
    by_cases h2:c<=57
    .rw [decide_eq_true h2,decide_eq_false (by lia:¬ 57<c)];rfl
    .rw [decide_eq_false h2,decide_eq_true (by lia:57<c)];rfl
   rw [e] at q;exact q
  .have e:figO c=false:=by unfold figO;rw [decide_eq_false (by lia:¬ 48<=c)];rfl
   rw [e] at q;exact q
theorem afk:FnScope ["rules", "word"] ["rules", "word"] (D3 hU):=L7
abbrev agq:List Str:=["rules", "word"]
theorem vaU:VS agq hU "rules" 0:=vq
theorem afl(F:FunD K "has_rule" "has_rule" hU f fd)(T:Txt P w K mg C C_NoLetter):FnOk P w K mg base G0 1 f fd ["rules", "word"] (spHas K):=by
 refine F.ok afk ?_ ?_
 .rintro _ _ _ _ ⟨a,ts,R,w,rfl,_⟩;rfl
 .intro cdv A outer s H vs Q E hr h;have D6:=hu_of hr;have hu:=hr.units;refine ⟨_,QSs.out (C4 (E8 (qe_cB (q_any (calm:=true)) T.b_any uF (qa_c (x5  (k4:CompOk ["rules", "word"] (D3 hU).names _ ["rule", "word"] 1 [1]) (T4 (K:=K) (vi vaU)) (fun _ _ _ _ _=>E9 (n:=0) (show List.Nodup (["rule", "word"]:List Str) by decide +kernel) rfl (Or.inl rfl)) (fun _ _ _ _ _=>gS) (fun _ _ _ _ _=>(bG (q_eq (K:=K) hu) (qe_ix (K:=K) (qv 0) A5) (qv 1)))) A6)))),?_⟩;obtain ⟨a,ts,R,w,rfl,hR,hl,q⟩:=h;walk_at "rd";refine ⟨⟨_,.of hR.top⟩,compL (xs:=ts.map V.ref) [some (.str w)] rfl (fun D i ys H4=>ys=((R.take i).map fun z=>decide (z.1=w)).map V.bl/\Same H H4) (fun D nD=>⟨rfl,Same.new nD⟩) (by rintro D i ys H4 nD _ ⟨_,S⟩;exact .of (S _ _ hR.top)) ?_ ?_⟩
  .rintro D i x ys H4 nD hi hx ⟨rfl,S⟩ hD hy;obtain ⟨t,ht,rfl⟩:=K5 hx;obtain ⟨z,hz,C7⟩:=Paired.at hR.row ht;have g6:i<R.length:=(K1.mp hz).1;walk_at "rd";refine ⟨_,.inr (.of (S _ _ C7)),V.str z.1,N8 _ _,?_⟩;walk_at "rd";refine ⟨hD,by rw [A8,A8,L9];exact M9 (by lia),CW.put hi hy ⟨?_,S.put nD⟩⟩;rw [X4,hz]
   simp
  rintro D ys H4 nD ⟨rfl,S⟩ hD hy;rw [A8,hR.len,K6] at hD;refine ⟨_,rfl,hD,?_⟩;have e:((R.map fun z=>decide (z.1=w)).any id)=hasW R w:=by
   unfold hasW;rw [List.any_map];rfl
  rw [e];exact q H4 S
theorem adt:FnScope ["rule"] ["rule"] (D3 lC):=L7
abbrev aea:List Str:=["rule"]
theorem eO:VS aea lC "rule" 0:=vq
theorem adu(F:FunD K "pieces_told" "pieces_told" lC f fd)(T:Txt P w K mg C C_NoLetter):FnOk P w K mg base G0 1 f fd ["rule"] (vN K):=by
 refine F.ok adt ?_ ?_
 .rintro _ _ _ _ ⟨t,z,rfl,_⟩;rfl
 .intro cdv A outer s H vs Q E hr h;have D6:=hu_of hr;have hu:=hr.units;obtain ⟨a_JOBS,m_JOBS,M_JOBS⟩:=T.x_JOBS;refine ⟨_,QSs.out (C3 (qs_if (F7 (q_eq (K:=K) hu) (qe_ix (K:=K) (vi eO) A5) E5) (C4 (E8 (Q8 (K:=K) (vi eO) (O5 A5) Y2))) K2)
   (C3 (qs_if (F7 (q_eq (K:=K) hu) (qe_ix (K:=K) (vi eO) A5) E5) (C4 (E8 (Q8 (K:=K) (vi eO) (O5 A5) (O5 A5)))) K2)
   (C4 (E8 (aiQ (F7 (q_inM M_JOBS) (qe_ix (K:=K) (vi eO) A5) (T3 m_JOBS)) (Q8 (K:=K) (vi eO) (O5 A5) Y2) (M0 A6)))))),?_⟩
  obtain ⟨t,z,rfl,ht,q⟩:=h;have hT:D0 K H t ((z.1::z.2).map V.str):=.of ht;have B3:1<=((z.1::z.2).map V.str).length:=by rw [A8,G1];lia
  walk_at "rd";refine ⟨_,.inr hT,V.str z.1,N8 _ _,?_⟩;walk_at "rd";refine iteD (fun e=>?_) fun n1=>⟨_,.inr hT,V.str z.1,N8 _ _,?_⟩
  .refine rSlR.t hT (Y4 (k:=2) (by decide) B3) fun p np=>q p _ (Same.new np) (.of ?_)
   rw [A7,show ((2:Int))=((2:Nat):Int) from rfl,x6,G3,fZ,<- aU];unfold G4;rw [if_pos e]
  walk_at "rd";refine iteD (fun e=>?_) fun n2=>⟨_,.inr hT,V.str z.1,N8 _ _,?_⟩
  .refine rSlR.t hT (Y4 (k:=1) (by decide) B3) fun p np=>q p _ (Same.new np) (.of ?_)
   have ecut:cutV ((z.1::z.2).map V.str) (some 1) (some 2)=(z.2.take 1).map V.str:=by
    unfold cutV
    cases z.2 with
    | nil=>rfl
    | cons y r=>
     have e1:HT.sIx ((z.1::y::r).map V.str).length 0 (some 1)=1:=by
      rw [show ((1:Int))=((1:Nat):Int) from rfl,HT.sIx_nat,A8,G1,G1];lia
     have e2:HT.sIx ((z.1::y::r).map V.str).length ((z.1::y::r).map V.str).length (some 2)=2:=by
      rw [show ((2:Int))=((2:Nat):Int) from rfl,HT.sIx_nat,A8,G1,G1];lia
     rw [e1,e2];rfl
   rw [A7,ecut];unfold G4;rw [if_neg n1,if_pos e]
  walk_at "rd"
  by_cases hj:bM z.1
  .rw [oK hj];refine iteT (rSlR.t hT (Y4 (k:=1) (by decide) B3) fun p np=>q p _ (Same.new np) (.of ?_));rw [A7,G3,nZ];unfold G4;have h3:z.1=("row" : Str)\/z.1=("marks" : Str)\/z.1=("over" : Str):=by
    rcases hj with h | h | h | h | h
    .exact .inl h
    .exact .inr (.inl h)
    .exact absurd h n1
    .exact absurd h n2
    .exact .inr (.inr h)
   rw [if_neg n1,if_neg n2,if_pos h3]
  .rw [ai7 hj];refine iteF fun p np=>q p _ (Same.new np) (.of ?_)
   rw [A7];unfold G4;rw [if_neg n1,if_neg n2,if_neg (fun h=>hj (by
    rcases h with h | h | h
    .exact .inl h
    .exact .inr (.inl h)
    .exact .inr (.inr (.inr (.inr h)))))]
   rfl
theorem afm:FnScope ["jobs", "piece", "job", "figures"] ["jobs", "piece", "job", "figures"] (D3 y3):=L7
abbrev lK:List Str:=["jobs", "piece", "job", "figures"]
theorem yB:VS lK y3 "jobs" 0:=vq
theorem pO:VS lK y3 "piece" 1:=vq
theorem yC:VS lK y3 "job" 2:=vq
theorem vaZ:VS lK y3 "figures" 3:=vq
theorem afn(F:FunD K "is_clash" "is_clash" y3 f fd)(T:Txt P w K mg C C_NoLetter)(G_is_figure:FO P w K mg base 1 "is_figure" ["sign"] [] oP):FnOk P w K mg base G0 2 f fd ["jobs", "piece", "job", "figures"] vO:=by
 refine F.ok afm ?_ ?_
 .rintro _ _ _ _ ⟨d,p,j,fg,ks,g,rfl,_⟩;rfl
 .intro cdv A outer s H vs Q E hr h;have D6:=hu_of hr;have hu:=hr.units;obtain ⟨a_AGAIN,m_AGAIN,M_AGAIN⟩:=T.x_AGAIN;refine ⟨_,QSs.out (C3 (qs_if (QW.pt (gQ (F7 (q_in (K:=K) hu) (vi pO) (vi yB)) (gP (QW.pt (qw_or (F7 (q_ne (K:=K) hu) (b0 D6 (vi yB) (vi pO)) (vi yC)) (uJ (F7 (dX (K:=K) hu) (vi yC) (T3 m_AGAIN)))))))) (C4 (E8 qe_bl)) K2)
   (C4 (E8 (gO (vi vaZ) (nY (qe_cB (q_any (calm:=true)) T.b_any uF (qa_c (x5  (k4:CompOk ["jobs", "piece", "job", "figures"] (D3 y3).names _ ["sign"] 1 []) (amV (vi pO)) (fun _ _ _ _ _=>E9 (n:=0) (show List.Nodup (["sign"]:List Str) by decide +kernel) rfl (Or.inl rfl)) (fun _ _ _ _ _=>gS) (fun _ _ _ _ _=>(D8 G_is_figure (hm hr) (qa_c (qv 0) A6)))) A6))))))),?_⟩
  obtain ⟨d,p,j,fg,ks,g,rfl,hd,hp,h1,h2,q⟩:=h;walk_at "rd";have tail:(if fg=true then bD (dO p) 1 [] (gName 0) tYes (tCall oP [] E0 (tCons (tVar 0) tNil)) [some (V.ref d),some (V.str p),some (V.str j),some (V.bl fg)] (fun x H1=>rAnyB true [x] H1 Q) H else Q (V.bl false) H):=by
   by_cases hf:fg=true
   .rw [if_pos hf];refine compS [] rfl (fun D i ys H4=>ys=((p.cps.toList.take i).map figO).map V.bl/\Same H H4) (fun D nD=>⟨rfl,Same.new nD⟩) ?_ ?_
    .rintro D i x ys H4 nD hi hx ⟨rfl,S⟩ hD hy;walk_at "rd";refine ⟨x,rfl,hD,?_,CW.put hi hy ⟨?_,S.put nD⟩⟩
     .rw [A8,A8,L9];exact M9 (by have:p.cps.size=p.length:=rfl;lia)
     .rw [X4,hx]
      simp
    .rintro D ys H4 nD ⟨rfl,S⟩ hD hy;walk_at "rd";refine ⟨_,hD,?_⟩;have e:((p.cps.toList.take p.cps.size).map figO).any id=false:=by
      rw [List.any_eq_false];intro b hb;obtain ⟨c,hc,rfl⟩:=D4.mp hb;rw [h2 hf c (jT hc)];decide
     rw [e];exact q H4 S
   .rw [if_neg hf];exact q H (P2 H)
  refine rInR.d (kB (k:=Sum.inr p) hd) ⟨_,rfl,?_⟩;rw [O7,Bool.false_xor]
  by_cases hk:p∈ks
  .obtain ⟨e1,e2⟩:=h1 hk;rw [if_pos hk];refine iteT ⟨V.str (g p),.inl ⟨_,Sum.inr p,.inl hd,rfl,by rw [O7,if_pos hk]⟩,?_⟩;walk_at "rd";rw [decide_eq_true e1];refine iteF (rInR.l (.inr (M_AGAIN _)) rfl rfl ⟨_,rfl,?_⟩);have e3:j1 (.str j) [V.str "letter",V.str "mark",V.str "over"]=true:=by
    have:=bF j bL
    rw [decide_eq_true e2] at this;exact this
   rw [e3];exact iteF tail
  .rw [if_neg hk];exact iteF tail
theorem sc_jobs_of:FnScope ["rules", "figures", "jobs", "rule", "piece"] ["rules"] (D3 Y5):=L7
abbrev iC:List Str:=["rules", "figures", "jobs", "rule", "piece"]
theorem pP:VS iC Y5 "rules" 0:=vq
theorem va1:VS iC Y5 "figures" 1:=vq
theorem lL:VS iC Y5 "jobs" 2:=vq
theorem pQ:VS iC Y5 "rule" 3:=vq
theorem yD:VS iC Y5 "piece" 4:=vq
theorem va5:LS Y5 "figures":=lq
theorem va6:LS Y5 "jobs":=lq
theorem va7:LS Y5 "rule":=lq
theorem va8:LS Y5 "piece":=lq
theorem agr(F:FunD K "jobs_of" "jobs_of" Y5 f fd)(T:Txt P w K mg C C_NoLetter)(G_has_rule:FO P w K mg base 1 "has_rule" ["rules", "word"] [] (spHas K))(G_pieces_told:FO P w K mg base 1 "pieces_told" ["rule"] [] (vN K))(G_is_clash:FO P w K mg base 2 "is_clash" ["jobs", "piece", "job", "figures"] [] vO):FnOk P w K mg base G0 3 f fd ["rules"] (vP K):=by
 refine F.ok sc_jobs_of ?_ ?_
 .rintro _ _ _ _ ⟨a,ts,R,g,rfl,_⟩;rfl
 .intro cdv A outer s H vs Q E hr h;have D6:=hu_of hr;have hu:=hr.units;obtain ⟨a_JOBS,m_JOBS,M_JOBS⟩:=T.x_JOBS;refine ⟨_,QSs.out (C3 (E1 (n:=1) sc_jobs_of.nd rfl va5 (D8 G_has_rule (hm hr) (qa_c (vi pP) (qa_c E5 A6))))
   (C3 (E1 (n:=2) sc_jobs_of.nd rfl va6 dS)
   (C3 (O6 PassesOwn.never (T4 (K:=K) (vi pP)) (E9 (n:=3) sc_jobs_of.nd rfl va7 (.inl rfl)) (C4 (O6 PassesOwn.never (dW (K:=K) (D8 G_pieces_told (hm hr) (qa_c (vi pQ) A6))) (E9 (n:=4) sc_jobs_of.nd rfl va8 (.inl rfl)) (C3 (qs_if (gR (K:=K) (D8 G_is_clash (hm hr) (qa_c (vi lL) (qa_c (vi yD) (qa_c (uO M_JOBS (T3 m_JOBS) (qe_ix (K:=K) (vi pQ) A5)) (qa_c (vi va1) A6)))))) (C4 uK) K2)
   (C4 (o9 D6 (vi lL) (vi yD) (uO M_JOBS (T3 m_JOBS) (qe_ix (K:=K) (vi pQ) A5))))))))
   (C3 (qs_if (gR (K:=K) (D8 G_has_rule (hm hr) (qa_c (vi pP) (qa_c E5 A6)))) (C4 (o9 D6 (vi lL) E5 E5)) K2)
   (C4 (E8 (vi lL))))))),?_⟩
  obtain ⟨a,ts,R,g,rfl,hR,hl,P6,hnc,hbl,q⟩:=h;walk_at "rd";refine ⟨a,ts,R, "figures",rfl,hR,hl,fun H1 S1=>?_⟩;generalize hasW R "figures"=fg at hnc;intro d nd;have mI:H d=none:=S1.free nd;have S2:Same H (A0 H1 d (.dK [])):=fun b o h=>C9 (S1 b o h) nd
  refine ⟨⟨_,.of (S2 _ _ hR.top)⟩,forL (xs:=ts.map V.ref) (fun i O H2=>∃ (u v:Option V),O=[some (.ref a),some (.bl fg),some (.ref d),u,v]/\Same H H2/\H2 d=some (.dK (C1 (keysP (C8 (R.take i))) fun t=>.str (g t))))
   ⟨none,none,rfl,S2,by rw [A7];rfl⟩ (by rintro i O H2 _ ⟨_,_,_,S,_⟩;exact .of (S _ _ hR.top)) ?_ ?_⟩
  .rintro i x O H2 hx ⟨u,v,rfl,S,hd⟩;obtain ⟨t,ht,rfl⟩:=K5 hx;obtain ⟨z,hz,C7⟩:=Paired.at hR.row ht;walk_at "rd";refine ⟨t,z,rfl,S _ _ C7,fun p H3 S3 hp=>⟨p,rfl,⟨_,hp⟩,forT (xs:=(G4 z).map V.str) (fun j O H4=>∃ (v:Option V),O=[some (.ref a),some (.bl fg),some (.ref d),some (.ref t),v]/\D0 K H4 p ((G4 z).map V.str)/\Same H H4/\H4 d=some (.dK (C1 (keysP (C8 (R.take i)++((G4 z).take j).map fun p=>(p,jobD z.1))) fun t=>.str (g t))))
    ⟨v,rfl,hp,S.trans S3,by rw [i6,aV,M7];exact S3 _ _ hd⟩ (by rintro j O H4 _ ⟨_,_,h,_⟩;exact h) ?_ ?_⟩⟩
   .rintro j x O H4 fP ⟨v,rfl,jF,S4,V2⟩;obtain ⟨pc,rW,rfl⟩:=K5 fP;obtain ⟨e1,e2⟩:=am8 hz rW;obtain ⟨n1,n2,n3,n4⟩:=hnc _ _ _ e1;rw [e2] at n2;have hw:=gY (P1 rW);have Q4:D0 K H4 t ((z.1::z.2).map V.str):=.of (S4 _ _ C7);have iO:(keysP (C8 (R.take i)++((G4 z).take j).map fun p=>(p,jobD z.1))).length<=10000:=by
     have h1:=vM (C8 (R.take i)++((G4 z).take j).map fun p=>(p,jobD z.1));have h2:=congrArg List.length e2;rw [L9] at h2;lia
    walk_at "rd";refine ⟨_,.inr Q4,V.str z.1,N8 _ _,Sum.inr z.1,rfl,V.str (jobD z.1),oK hw,d,pc,jobD z.1,fg,_,g,rfl,V2,n4,fun hk=>⟨n1.symm,n2 ((kR _ _).mp hk)⟩,n3,fun H5 S5=>⟨false,rfl,iteF ⟨_,.inr (Q4.same S5),V.str z.1,N8 _ _,Sum.inr z.1,rfl,V.str (jobD z.1),oK hw,_,x4 (k:=Sum.inr pc) (S5 _ _ V2) (by rw [b9];exact M9 (by lia)),(jF.same S5).dput (S5 _ _ V2),(S4.trans S5).put mI,?_⟩⟩⟩;rw [A7,L6 rW,F8,<- Z5];rw [show ([pc].map fun p=>(p,jobD z.1))=[(pc,jobD z.1)] from rfl,agh];unfold dd
    by_cases M3:pc∈keysP (C8 (R.take i)++((G4 z).take j).map fun p=>(p,jobD z.1))
    .rw [if_pos M3,kP _ M3];refine congrArg (fun x=>some (HO.dK x)) (Q0 fun t _=>?_)
     by_cases e:t=pc
     .rw [if_pos e,e,n1]
     .rw [if_neg e]
    .rw [if_neg M3,bK _ M3];refine congrArg (fun x=>some (HO.dK x)) (Q0 fun t _=>?_)
     by_cases e:t=pc
     .rw [if_pos e,e,n1]
     .rw [if_neg e]
   .rintro O H4 ⟨v,rfl,jF,S4,V2⟩;walk_at "rd";refine ⟨S4,?_⟩;rw [vK hz];rw [A8,K6] at V2;exact V2
  .rintro O H2 ⟨u,v,rfl,S,hd⟩;rw [A8,hR.len,K6] at hd;walk_at "rd";refine ⟨a,ts,R, "blanks",rfl,hR.same S,hl,fun H3 S3=>⟨hasW R "blanks",rfl,?_⟩⟩;have U2:=S3 _ _ hd;have fI:(" " : Str)∉keysP (C8 R):=fun h=>hbl ((kR _ _).mp h)
   have iO:=vM (C8 R);have hg:∀ t∈keysP (C8 R),V.str (g t)=jobG g t:=fun t ht=>by
    unfold jobG;rw [if_neg (fun e=>fI (by rw [<- e];exact ht))]
   by_cases hb:hasW R "blanks"=true
   .rw [hb];refine iteT ⟨_,x4 (k:=Sum.inr (" " : Str)) U2 (by rw [b9];exact M9 (by lia)),q d _ mI ((S.trans S3).put mI) ?_⟩;rw [A7,bK _ fI];unfold Q9;rw [if_pos hb];refine congrArg (fun x=>some (HO.dK x)) (Q0 fun t ht=>?_);unfold jobG
    by_cases e:t=(" " : Str)
    .simp only [if_pos e]
    .simp only [if_neg e]
   .rw [Bool.not_eq_true] at hb;rw [hb];refine iteF (q d _ mI (S.trans S3) ?_);unfold Q9;rw [hb,if_neg K7,M7,U2];exact congrArg (fun x=>some (HO.dK x)) (Q0 hg)
theorem sc_misused:FnScope ["rule", "jobs", "first"] ["rule", "jobs"] (D3 p6):=L7
abbrev yE:List Str:=["rule", "jobs", "first"]
theorem iD:VS yE p6 "rule" 0:=vq
theorem vba:VS yE p6 "first" 2:=vq
theorem vbb:LS p6 "first":=lq
theorem ags(F:FunD K "misused" "misused" p6 f fd)(T:Txt P w K mg C C_NoLetter):FnOk P w K mg base G0 1 f fd ["rule", "jobs"] (xB K):=by
 refine F.ok sc_misused ?_ ?_
 .rintro _ _ _ _ ⟨t,d,z,ks,g,rfl,_⟩;rfl
 .intro cdv A outer s H vs Q E hr h;have D6:=hu_of hr;have hu:=hr.units;refine ⟨_,QSs.out (C3 (qs_if (F7 (q_eq (K:=K) hu) (qe_ix (K:=K) (vi iD) A5) E5) (C4 (E8 (x5  (k4:CompOk ["rule", "jobs", "first"] (D3 p6).names _ ["piece", "jobs"] 1 [1]) (dW (K:=K) (Q8 (K:=K) (vi iD) (O5 A5) (O5 A5))) (fun _ _ _ _ _=>E9 (n:=0) (show List.Nodup (["piece", "jobs"]:List Str) by decide +kernel) rfl (Or.inl rfl)) (fun _ _ _ _ _=>(gT (F7 (q_ne (K:=K) hu) (oI D6 (qv 1) (qv 0)) E5))) (fun _ _ _ _ _=>(qv 0))))) K2)
   (C3 (qs_if (F7 (q_eq (K:=K) hu) (qe_ix (K:=K) (vi iD) A5) E5) (C3 (uM (n:=2) sc_misused.nd rfl vbb (k4:CompOk ["rule", "jobs", "first"] (D3 p6).names _ ["piece", "jobs"] 1 [1]) (dW (K:=K) (Q8 (K:=K) (vi iD) (O5 A5) (O5 A5))) (fun _ _ _ _ _=>E9 (n:=0) (show List.Nodup (["piece", "jobs"]:List Str) by decide +kernel) rfl (Or.inl rfl)) (fun _ _ _ _ _=>(gT (F7 (q_ne (K:=K) hu) (oI D6 (qv 1) (qv 0)) E5))) (fun _ _ _ _ _=>(qv 0)))
   (C4 (E8 (qe_op (q_add (K:=K)) (vi vba) (x5  (k4:CompOk ["rule", "jobs", "first"] (D3 p6).names _ ["piece", "jobs"] 1 [1]) (dW (K:=K) (Q8 (K:=K) (vi iD) (O5 A5) Y2)) (fun _ _ _ _ _=>E9 (n:=0) (show List.Nodup (["piece", "jobs"]:List Str) by decide +kernel) rfl (Or.inl rfl)) (fun _ _ _ _ _=>(gT (F7 (dX (K:=K) hu) (oI D6 (qv 1) (qv 0)) (M0 (qa_c E5 (qa_c E5 A6)))))) (fun _ _ _ _ _=>(qv 0))))))) K2)
   (C4 (E8 (P8 A6))))),?_⟩
  obtain ⟨t,d,z,ks,g,rfl,ht,hd,hg,hl,q⟩:=h;have hT:D0 K H t ((z.1::z.2).map V.str):=.of ht;walk_at "rd";refine ⟨_,.inr hT,V.str z.1,N8 _ _,?_⟩;walk_at "rd"
  by_cases h1:z.1=("great" : Str)
  .rw [decide_eq_true h1];have B3:1<=((z.1::z.2).map V.str).length:=by rw [A8,G1];lia
   refine iteT (rSlR.t hT (Y4 (k:=1) (by decide) B3) fun s ns=>?_);have ecut:cutV ((z.1::z.2).map V.str) (some 1) (some 2)=(z.2.take 1).map V.str:=by
    rw [show cutV ((z.1::z.2).map V.str) (some 1) (some 2)=_ from oU ((z.1::z.2).map V.str) (i:=1) (j:=2) (by decide),G3,fZ,List.drop_zero,<- aT]
   rw [ecut];have S1:Same H (A0 H s (.tup ((z.2.take 1).map V.str))):=Same.new ns;have hs:A0 H s (.tup ((z.2.take 1).map V.str)) s=some (.tup ((z.2.take 1).map V.str)):=A7;generalize A0 H s (.tup ((z.2.take 1).map V.str))=H1 at S1 hs;refine ⟨s,rfl,⟨_,.of hs⟩,compT (xs:=(z.2.take 1).map V.str) [some (.ref d)] rfl (fun D i ys H2=>ys=(((z.2.take 1).take i).filter (d0 ks g)).map V.str/\Same H1 H2) (fun D nD=>⟨rfl,Same.new nD⟩) (by rintro D i ys H2 nD _ ⟨_,S⟩;exact .of (S _ _ hs)) ?_ ?_⟩
   .rintro D i y ys H2 nD hi hy ⟨rfl,S⟩ hD l9;obtain ⟨p,hp,rfl⟩:=K5 hy;have T8:=S _ _ (S1 _ _ hd);rw [A8] at l9;have g6:=(K1.mp hp).1;rw [L9] at g6;walk_at "rd";refine ⟨.inl ⟨_,.inl T8⟩,_,kB (k:=Sum.inr p) T8,?_⟩;rw [O7,pD];refine xA (lE hg p) (by decide +kernel) ⟨_,rfl,?_⟩;rw [show (!decide (jobV ks g p=V.str (Str.ofString "letter")))=d0 ks g p from rfl]
    by_cases e:d0 ks g p=true
    .rw [if_pos e];refine ⟨hD,by rw [A8];exact M9 (by lia),CW.put hi (by rw [A8];exact l9) ⟨?_,S.put nD⟩⟩;rw [L6 hp,V9,aM e,F8];rfl
    .rw [if_neg e];refine ⟨hD,hi,by rw [A8];lia,⟨_,rfl⟩,?_,S⟩;rw [L6 hp,V9,aN e,cU,M7]
   .rintro D ys H2 nD ⟨rfl,S⟩ hD l9;refine q D H2 (S1.free nD) (S1.trans S) ?_;rw [hD,A8,K6];unfold misL;rw [if_pos h1]
  rw [decide_eq_false h1];refine iteF ⟨_,.inr hT,V.str z.1,N8 _ _,?_⟩;walk_at "rd"
  by_cases h2:z.1=("as" : Str)
  .rw [decide_eq_true h2];have B3:1<=((z.1::z.2).map V.str).length:=by rw [A8,G1];lia
   refine iteT (rSlR.t hT (Y4 (k:=2) (by decide) B3) fun s ns=>?_);have ecut:cutV ((z.1::z.2).map V.str) (some 2) (some 3)=((z.2.drop 1).take 1).map V.str:=by
    rw [show cutV ((z.1::z.2).map V.str) (some 2) (some 3)=_ from oU ((z.1::z.2).map V.str) (i:=2) (j:=3) (by decide),G3,fZ,<- aU,<- aT]
   rw [ecut];have S1:Same H (A0 H s (.tup (((z.2.drop 1).take 1).map V.str))):=Same.new ns;have hs:A0 H s (.tup (((z.2.drop 1).take 1).map V.str)) s=some (.tup (((z.2.drop 1).take 1).map V.str)):=A7;generalize A0 H s (.tup (((z.2.drop 1).take 1).map V.str))=H1 at S1 hs;refine ⟨s,rfl,⟨_,.of hs⟩,compT (xs:=((z.2.drop 1).take 1).map V.str) [some (.ref d)] rfl (fun D i ys H2=>ys=((((z.2.drop 1).take 1).take i).filter (d0 ks g)).map V.str/\Same H1 H2) (fun D nD=>⟨rfl,Same.new nD⟩) (by rintro D i ys H2 nD _ ⟨_,S⟩;exact .of (S _ _ hs)) ?_ ?_⟩
   .rintro D i y ys H2 nD hi hy ⟨rfl,S⟩ hD l9;obtain ⟨p,hp,rfl⟩:=K5 hy;have T8:=S _ _ (S1 _ _ hd);rw [A8] at l9;have g6:=(K1.mp hp).1;rw [L9] at g6;walk_at "rd";refine ⟨.inl ⟨_,.inl T8⟩,_,kB (k:=Sum.inr p) T8,?_⟩;rw [O7,pD];refine xA (lE hg p) (by decide +kernel) ⟨_,rfl,?_⟩;rw [show (!decide (jobV ks g p=V.str (Str.ofString "letter")))=d0 ks g p from rfl]
    by_cases e:d0 ks g p=true
    .rw [if_pos e];refine ⟨hD,by rw [A8];exact M9 (by lia),CW.put hi (by rw [A8];exact l9) ⟨?_,S.put nD⟩⟩;rw [L6 hp,V9,aM e,F8];rfl
    .rw [if_neg e];refine ⟨hD,hi,by rw [A8];lia,⟨_,rfl⟩,?_,S⟩;rw [L6 hp,V9,aN e,cU,M7]
   rintro D ys H2 nD ⟨rfl,S⟩ hD l9;rw [A8,K6] at hD;have S2:=S1.trans S;have hT2:D0 K H2 t ((z.1::z.2).map V.str):=.of (S2 _ _ ht);refine rSlR.t hT2 (Y4 (k:=3) (by decide) B3) fun s2 fQ=>?_
   have ecut2:cutV ((z.1::z.2).map V.str) (some 3) none=(z.2.drop 2).map V.str:=by
    rw [show cutV ((z.1::z.2).map V.str) (some 3) none=_ from x6 ((z.1::z.2).map V.str) 3,G3,fZ,<- aU]
   rw [ecut2];have S3:Same H2 (A0 H2 s2 (.tup ((z.2.drop 2).map V.str))):=Same.new fQ;have eV:A0 H2 s2 (.tup ((z.2.drop 2).map V.str)) s2=some (.tup ((z.2.drop 2).map V.str)):=A7;generalize A0 H2 s2 (.tup ((z.2.drop 2).map V.str))=H3 at S3 eV;refine ⟨s2,rfl,⟨_,.of eV⟩,compT (xs:=(z.2.drop 2).map V.str) [some (.ref d)] rfl (fun D i ys H4=>ys=(((z.2.drop 2).take i).filter (z0 ks g)).map V.str/\Same H3 H4) (fun D nD=>⟨rfl,Same.new nD⟩) (by rintro D i ys H4 nD _ ⟨_,S⟩;exact .of (S _ _ eV)) ?_ ?_⟩
   .rintro D2 i y ys H4 nD2 hi hy ⟨rfl,S4⟩ hD2 cN;obtain ⟨p,hp,rfl⟩:=K5 hy;have V2:=S4 _ _ (S3 _ _ (S2 _ _ hd));rw [A8] at cN;have g6:=(K1.mp hp).1;rw [i4] at g6;walk_at "rd";refine ⟨.inl ⟨_,.inl V2⟩,_,kB (k:=Sum.inr p) V2,?_⟩;rw [O7,pD];refine ⟨by decide,fun v nv=>?_⟩;refine rInR.l (.inr (.of A7)) (ajw hg p) rfl ?_;rw [anp hg p];refine ⟨_,rfl,?_⟩;rw [show (true ^^ (decide (jobV ks g p=V.str "letter") || decide (jobV ks g p=V.str "mark")))=z0 ks g p by unfold z0;rw [Bool.true_xor]];have S5:=S4.trans (Same.new (u:=HO.tup [V.str (Str.ofString "letter"),V.str (Str.ofString "mark")]) nv)
    by_cases e:z0 ks g p=true
    .rw [if_pos e];refine ⟨C9 hD2 nv,by rw [A8];exact M9 (by lia),CW.put hi (by rw [A8];exact cN) ⟨?_,S5.put nD2⟩⟩;rw [L6 hp,V9,aM e,F8];rfl
    .rw [if_neg e];refine ⟨C9 hD2 nv,hi,by rw [A8];lia,⟨_,rfl⟩,?_,S5⟩;rw [L6 hp,V9,aN e,cU,M7]
   rintro D2 ys H4 nD2 ⟨rfl,S4⟩ hD2 cN;rw [A8,K6] at hD2;have hD4:=S4 _ _ (S3 _ _ hD);have f1:=jS (d0 ks g) ((z.2.drop 1).take 1);have f2:=jS (z0 ks g) (z.2.drop 2);rw [L9,i4] at f1;rw [i4] at f2;refine rAddR.l hD4 hD2 (by rw [A8,A8];exact o8 (by lia)) fun l nl=>?_
   refine q l _ ((S2.trans (S3.trans S4)).free nl) ((S2.trans (S3.trans S4)).trans (Same.new nl)) ?_;rw [A7,<- F8];unfold misL;rw [if_neg h1,if_pos h2]
  rw [decide_eq_false h2];refine iteF fun p np=>q p _ np (Same.new np) ?_
  rw [A7];unfold misL;rw [if_neg h1,if_neg h2];rfl
theorem sc_check_letters:FnScope ["rules", "jobs", "rule", "wrong"] ["rules", "jobs"] (D3 Y6):=L7
abbrev lM:List Str:=["rules", "jobs", "rule", "wrong"]
theorem vbc:VS lM Y6 "rules" 0:=vq
theorem vbd:VS lM Y6 "jobs" 1:=vq
theorem vbe:VS lM Y6 "rule" 2:=vq
theorem yF:VS lM Y6 "wrong" 3:=vq
theorem vbg:LS Y6 "rule":=lq
theorem vbh:LS Y6 "wrong":=lq
theorem acU(F:FunD K "check_letters" "check_letters" Y6 f fd)(T:Txt P w K mg C C_NoLetter)(G_NoLetter___init__:EO P w K mg base 1 C_NoLetter "NoLetter" ["self", "piece"] (pC K C_NoLetter "piece"))(G_misused:FO P w K mg base 1 "misused" ["rule", "jobs"] [] (xB K)):FnOk P w K mg base (T7 P w) 3 f fd ["rules", "jobs"] (pE K C_NoLetter):=by
 refine F.okX sc_check_letters ?_ ?_
 .rintro _ _ _ _ ⟨a,d,ts,R,ks,g,rfl,_⟩;rfl
 .intro cdv A outer s H vs Q E hr h;have D6:=hu_of hr;have hu:=hr.units;refine ⟨_,QSs.out (C4 (O6 PassesOwn.leaving (T4 (K:=K) (vi vbc)) (E9 (n:=2) sc_check_letters.nd rfl vbg (.inl rfl)) (C3 (E1 (n:=3) sc_check_letters.nd rfl vbh (D8 G_misused (hm hr) (qa_c (vi vbe) (qa_c (vi vbd) A6))))
   (C4 (qs_if (gR (K:=K) (vi yF)) (C4 (ajo (fun _ _ _ _ _ _ _ I h1 h2=>anm I h1 h2) (ann G_NoLetter___init__ (hm hr) (qa_c (qe_ix (K:=K) (vi yF) A5) A6)) (K:=K))) K2))))),?_⟩
  obtain ⟨a,d,ts,R,ks,g,rfl,hR,hd,hg,hw,q1,q2⟩:=h;obtain ⟨fN,MN⟩:=T.er_NoLetter;walk_at "rd";refine ⟨⟨_,.of hR.top⟩,forL (xs:=ts.map V.ref) (fun i O H2=>∃ (u v:Option V),O=[some (.ref a),some (.ref d),u,v]/\Same H H2/\(R.take i).flatMap (misL ks g)=[]) ⟨none,none,rfl,P2 H,rfl⟩ (by rintro i O H2 _ ⟨_,_,_,S,_⟩;exact .of (S _ _ hR.top)) ?_ ?_⟩
  .rintro i x O H2 hx ⟨u,v,rfl,S,h0⟩;obtain ⟨t,ht,rfl⟩:=K5 hx;obtain ⟨z,hz,C7⟩:=Paired.at hR.row ht;obtain ⟨n1,n2⟩:=hw z (P1 hz);walk_at "rd";refine ⟨t,d,z,ks,g,rfl,S _ _ C7,S _ _ hd,hg,n1,fun p H3 np S3 hp=>⟨_,uS hp,?_⟩⟩;have f6:(R.take (i+1)).flatMap (misL ks g)=misL ks g z:=by
    rw [X4,hz,V8,h0]
    simp
   cases hm:misL ks g z with
   | nil=>
    refine iteF ⟨S.trans S3,?_⟩;rw [f6,hm]
   | cons y more=>
    rw [hm] at hp;have hym:y∈z.2:=alJ (ks:=ks) (g:=g) (by rw [hm];exact M5);have hfirst:(R.flatMap (misL ks g)).head?=some y:=by
     rw [<- X2 (i+1) R,V8,f6,hm];rfl
    refine iteT ?_;walk_at "rd";refine ⟨_,.inl (.of hp),V.str y,N8 _ _,by decide,fun x nx=>?_⟩;exact ⟨s.heap.objs.size,x,y,fN,rfl,A7,MN,T.na_NoLetter,(n2 y hym).1,(n2 y hym).2,fun dx nd ne=>⟨rfl,C_NoLetter,dx,(pB nx nd ne).1,⟨fN,MN⟩,(q2 y hfirst) dx _ ((S.trans S3).trans (pB nx nd ne).2.1) (pB nx nd ne).2.2⟩⟩
  .rintro O H2 ⟨u,v,rfl,S,h0⟩;rw [A8,hR.len,K6] at h0;exact q1 (by rw [h0];rfl) H2 S
theorem agt:FnScope ["rules", "word"] ["rules", "word"] (D3 hV):=L7
abbrev ah6:List Str:=["rules", "word"]
theorem vbi:VS ah6 hV "rules" 0:=vq
theorem agu(F:FunD K "line_of" "line_of" hV f fd)(T:Txt P w K mg C C_NoLetter)(G_lined_up:FO P w K mg base 3 "lined_up" ["rows"] [] vI):FnOk P w K mg base G0 4 f fd ["rules", "word"] (vQ K):=by
 refine F.ok agt ?_ ?_
 .rintro _ _ _ _ ⟨a,ts,R,w,rank,rfl,_⟩;rfl
 .intro cdv A outer s H vs Q E hr h;have D6:=hu_of hr;have hu:=hr.units;refine ⟨_,QSs.out (C4 (E8 (D8 G_lined_up (hm hr) (qa_c (x5  (k4:CompOk ["rules", "word"] (D3 hV).names _ ["rule", "word"] 1 [1]) (T4 (K:=K) (vi vbi)) (fun _ _ _ _ _=>E9 (n:=0) (show List.Nodup (["rule", "word"]:List Str) by decide +kernel) rfl (Or.inl rfl)) (fun _ _ _ _ _=>(gT (F7 (q_eq (K:=K) hu) (qe_ix (K:=K) (qv 0) A5) (qv 1)))) (fun _ _ _ _ _=>(qe_cT (bJ (K:=K) (calm:=true)) T.b_list bE (qa_c (Q8 (K:=K) (qv 0) (O5 A5) Y2) A6)))) A6)))),?_⟩;obtain ⟨a,ts,R,w,rank,rfl,hR,hl,Z0,g7,q⟩:=h;walk_at "rd";refine ⟨⟨_,.of hR.top⟩,compL (xs:=ts.map V.ref) [some (.str w)] rfl (fun D i ys H4=>∃ qs:List Addr,ys=qs.map V.ref/\RowsAt H H4 D qs (rowsW (R.take i) w)) (fun D nD=>⟨[],rfl,⟨⟨A7,.nil⟩,by simp,fun r hr=>by rw [G5.mp hr];exact nD,Same.new nD⟩⟩)
   (by rintro D i ys H4 nD _ ⟨qs,_,RA⟩;exact .of (RA.same _ _ hR.top)) ?_ ?_⟩
  .rintro D i x ys H4 nD hi hx ⟨qs,rfl,RA⟩ hD hy;obtain ⟨t,ht,rfl⟩:=K5 hx;obtain ⟨z,hz,C7⟩:=Paired.at hR.row ht;have g6:i<R.length:=(K1.mp hz).1;have Q4:D0 K H4 t ((z.1::z.2).map V.str):=.of (RA.same _ _ C7);have B3:1<=((z.1::z.2).map V.str).length:=by rw [A8,G1];lia
   walk_at "rd";refine ⟨_,.inr Q4,V.str z.1,N8 _ _,?_⟩;walk_at "rd";refine iteD (fun e=>rSlR.t Q4 (Y4 (k:=1) (by decide) B3) fun p np=>?_) fun e=>⟨hD,uH hi hy ⟨qs,rfl,?_⟩⟩
   .rw [G3,nZ];walk_at "rd";refine rListR.l (.inr (.of A7)) fun p2 V5=>⟨C9 (C9 hD np) V5,?_,CW.put hi hy ⟨qs++[p2],by rw [F8];rfl,?_⟩⟩
    .rw [A8] at hy;rw [A8];exact M9 (by lia)
    .rw [oJ hz,if_pos e];have n2:H4 p2=none:=(Same.new np).free V5;exact RA.grow (fun b o h=>C9 (C9 h np) V5) n2 A7
   .rw [oJ hz,if_neg e];exact RA
  rintro D ys H4 nD ⟨qs,rfl,RA⟩ hD hy;rw [A8,hR.len,K6] at RA;refine ⟨D,qs,rowsW R w,rank,rfl,RA.rows,Z0,g7,fun l line H5 nl S5 hl5 run cov=>?_⟩;exact q l line H5 (RA.same.free nl) (RA.same.trans S5) hl5 run cov
theorem sc_forms_of:FnScope ["rules", "forms", "rule"] ["rules"] (D3 y4):=L7
abbrev pR:List Str:=["rules", "forms", "rule"]
theorem vbj:VS pR y4 "rules" 0:=vq
theorem yG:VS pR y4 "forms" 1:=vq
theorem pS:VS pR y4 "rule" 2:=vq
theorem vbm:LS y4 "forms":=lq
theorem vbn:LS y4 "rule":=lq
theorem afo(F:FunD K "forms_of" "forms_of" y4 f fd)(T:Txt P w K mg C C_NoLetter):FnOk P w K mg base G0 1 f fd ["rules"] (vZ K):=by
 refine F.ok sc_forms_of ?_ ?_
 .rintro _ _ _ _ ⟨a,ts,R,rfl,_⟩;rfl
 .intro cdv A outer s H vs Q E hr h;have D6:=hu_of hr;have hu:=hr.units;refine ⟨_,QSs.out (C3 (E1 (n:=1) sc_forms_of.nd rfl vbm dS)
   (C3 (O6 PassesOwn.never (T4 (K:=K) (vi vbj)) (E9 (n:=2) sc_forms_of.nd rfl vbn (.inl rfl)) (C4 (qs_if (F7 (q_eq (K:=K) hu) (qe_ix (K:=K) (vi pS) A5) E5) (C4 (j3 (qe_mB (K:=K) v7 PySem.F.slot_list_extend PySem.F.type_list_extend (aht (K:=K)) (aiY (vi yG) (qe_ix (K:=K) (vi pS) A5) (P8 A6)) (qa_c (Q8 (K:=K) (vi pS) (O5 A5) Y2) A6)))) K2)))
   (C4 (E8 (vi yG))))),?_⟩
  obtain ⟨a,ts,R,rfl,hR,hg,hl,hf,q⟩:=h;walk_at "rd";intro d nd;refine ⟨⟨_,.of (C9 hR.top nd)⟩,forL (xs:=ts.map V.ref) (fun i O H2=>∃ (u:Option V) (ad:Str->Addr),O=[some (.ref a),some (.ref d),u]/\Same H H2/\H2 d=some (.dK (C1 (D7 (R.take i)) fun y=>.ref (ad y)))/\DL (A0 H d (.dK [])) H2 (D7 (R.take i)) ad (E2 (R.take i))) ⟨none,fun _=>d,rfl,Same.new nd,A7,⟨by simp [D7,J9,J8],by simp [D7,J9,J8],by simp [D7,J9,J8]⟩⟩ (by rintro i O H2 _ ⟨_,_,_,S,_⟩;exact .of (S _ _ hR.top)) ?_ ?_⟩
  .rintro i x O H2 hx ⟨u,ad,rfl,S,hd,dl⟩;obtain ⟨t,ht,rfl⟩:=K5 hx;obtain ⟨z,hz,C7⟩:=Paired.at hR.row ht;have hT:D0 K H2 t ((z.1::z.2).map V.str):=.of (S _ _ C7);walk_at "rd";refine ⟨_,.inr hT,V.str z.1,N8 _ _,?_⟩;walk_at "rd"
   by_cases fR:z.1=("great" : Str)
   .rw [decide_eq_true fR];refine iteT ?_;obtain ⟨w,ps⟩:=z;obtain rfl:w=("great" : Str):=fR;obtain ⟨y,fs,rfl⟩:∃ y fs,ps=y::fs:=by
     cases ps with
     | nil=>exact absurd rfl (hg _ (P1 hz) rfl)
     | cons y fs=>exact ⟨y,fs,rfl⟩
    have etk:R.take (i+1)=R.take i++[(("great" : Str),y::fs)]:=L6 hz;have Z0:(E2 (R.take i) y).length+fs.length<=10000:=by
     have:=hf (i+1) y
     rw [etk,oS,if_pos rfl,E4] at this;exact this
    have iO:(C1 (D7 (R.take i)) fun y=>V.ref (ad y)).length<=1000:=by
     rw [b9];unfold D7;have h1:=gM ((J9 (R.take i)).map (·.1)) [];have h2:(J9 (R.take i)).length<=(R.take i).length:=List.length_filterMap_le _ _;rw [A8,R3] at h1;rw [L9] at h2;lia
    have Q3:G7 (((("great" : Str),y::fs).1::(("great" : Str),y::fs).2).map V.str) 1=some (V.str y):=R7 (j:=1) rfl;have v1:cutV (((("great" : Str),y::fs).1::(("great" : Str),y::fs).2).map V.str) (some 2) none=fs.map V.str:=x6 _ 2;refine ⟨.inl ⟨_,.inl hd⟩,_,.inr hT,V.str y,Q3,fun p np=>⟨_,C9 hd np,Nat.lt_of_le_of_lt iO (by decide),Sum.inr y,rfl,fun v hv=>?_,fun hn=>?_⟩⟩
    .rw [O7] at hv
     by_cases hy:y∈D7 (R.take i)
     .rw [if_pos hy] at hv;cases hv;have aJ:=dl.row y hy;have ndy:ad y≠d:=fun e=>by have:=dl.new y hy;rw [e,A7] at this;cases this
      have nHy:H (ad y)=none:=by have:=dl.new y hy;rw [A9 ndy] at this;exact this
      have T1:Same H2 (A0 H2 p (.lst [])):=Same.new np;generalize A0 H2 p (.lst [])=H3 at T1;refine ⟨o7 (T1 _ _ aJ),rSlR.t (hT.same T1) (Y4 (k:=2) (by decide) (by simp)) fun s ns=>?_⟩;rw [v1];have T2:Same H3 (A0 H3 s (.tup (fs.map V.str))):=Same.new ns;have hs:A0 H3 s (.tup (fs.map V.str)) s=some (.tup (fs.map V.str)):=A7;generalize A0 H3 s (.tup (fs.map V.str))=H4 at T2 hs;have T:=T1.trans T2;refine ⟨ad y,s,_,_,rfl,rfl,T _ _ aJ,.of hs,by rw [A8,A8];exact o8 (by lia),(S.trans T).put nHy,ad,?_,?_⟩
      .rw [A9 ndy.symm,T _ _ hd,etk,kW];unfold dd;rw [if_pos hy]
      .rw [etk,kW];unfold dd;rw [if_pos hy,<- F8];refine ((dl.same T).app hy (E2 (R.take i) y++fs)).congr fun x _=>?_
       rw [oS]
       by_cases m8:x=y
       .subst m8;simp
       .simp [m8]
     .rw [if_neg hy] at hv;cases hv
    .have hy:y∉D7 (R.take i):=fun hy=>by rw [O7,if_pos hy] at hn;cases hn
     have ndp:d≠p:=fun e=>by rw [<- e,hd] at np;cases np
     have n0:A0 H d (.dK []) p=none:=by rw [A9 ndp.symm];exact S.free np
     have dl2:=dl.more hy np n0;have l8:=dl2.put (b:=d) (o:=.dK (C1 (D7 (R.take i)++[y]) fun t=>if t=y then V.ref p else V.ref (ad t))) (u:=.dK []) A7;rw [bK (V.ref p) hy];have mH:A0 (A0 H2 p (.lst [])) d (.dK (C1 (D7 (R.take i)++[y]) fun t=>if t=y then V.ref p else V.ref (ad t))) p=some (.lst []):=by rw [A9 ndp.symm,A7]
     have U2:A0 (A0 H2 p (.lst [])) d (.dK (C1 (D7 (R.take i)++[y]) fun t=>if t=y then V.ref p else V.ref (ad t))) d=some (.dK (C1 (D7 (R.take i)++[y]) fun t=>if t=y then V.ref p else V.ref (ad t))):=A7;have S3:Same H (A0 (A0 H2 p (.lst [])) d (.dK (C1 (D7 (R.take i)++[y]) fun t=>if t=y then V.ref p else V.ref (ad t)))):=(S.trans (Same.new np)).put nd;generalize A0 (A0 H2 p (.lst [])) d (.dK (C1 (D7 (R.take i)++[y]) fun t=>if t=y then V.ref p else V.ref (ad t)))=H3 at l8 mH U2 S3;have hT3:D0 K H3 t (((("great" : Str),y::fs).1::(("great" : Str),y::fs).2).map V.str):=.of (S3 _ _ C7);refine ⟨o7 mH,rSlR.t hT3 (Y4 (k:=2) (by decide) (by simp)) fun s ns=>?_⟩;rw [v1];have T2:Same H3 (A0 H3 s (.tup (fs.map V.str))):=Same.new ns;have hs:A0 H3 s (.tup (fs.map V.str)) s=some (.tup (fs.map V.str)):=A7;generalize A0 H3 s (.tup (fs.map V.str))=H4 at T2 hs;refine ⟨p,s,_,_,rfl,rfl,T2 _ _ mH,.of hs,by rw [A8];exact o8 (by simp;lia),(S3.trans T2).put (S.free np),fun t=>if t=y then p else ad t,?_,?_⟩
     .rw [A9 ndp,T2 _ _ U2,etk,kW];unfold dd;rw [if_neg hy];refine congrArg (fun z=>some (HO.dK z)) (Q0 fun x _=>?_);show (if x=y then V.ref p else V.ref (ad x))=V.ref (if x=y then p else ad x)
      by_cases m8:x=y
      .rw [if_pos m8,if_pos m8]
      .rw [if_neg m8,if_neg m8]
     .rw [etk,kW];unfold dd;rw [if_neg hy,aR]
      have:=((l8.same T2).app (z:=y) (by simp) fs).congr (G:=E2 (R.take i++[(("great" : Str),y::fs)])) fun x _=>by
       rw [oS]
       by_cases m8:x=y
       .subst m8;have e0:E2 (R.take i) x=[]:=by
         unfold E2;rw [cQ.mpr fun e he=>?_]
         .rfl
         .intro h;have h:e.1=x:=by simpa using h
          refine hy ?_;unfold D7;rw [x8];exact .inr (D4.mpr ⟨e,he,h⟩)
        simp [e0]
       .simp [m8]
      rw [if_pos rfl] at this;exact this
   .rw [decide_eq_false fR];refine iteF ⟨S,ad,?_,?_⟩
    .rw [show D7 (R.take (i+1))=D7 (R.take i) by unfold D7;rw [oQ hz,kU fR,M7]];exact hd
    .rw [show D7 (R.take (i+1))=D7 (R.take i) by unfold D7;rw [oQ hz,kU fR,M7]];refine dl.congr fun x _=>?_
     unfold E2;rw [oQ hz,kU fR,M7]
  .rintro O H2 ⟨u,ad,rfl,S,hd,dl⟩;walk_at "rd";rw [A8,hR.len,K6] at hd dl;exact q d ad H2 nd S hd (dl.old (Same.new nd))
theorem sc_steps_of:FnScope ["rules", "letters", "marks", "steps", "place", "letter", "mark", "forms", "case", "form", "rule"] ["rules", "letters", "marks"] (D3 N4):=L7
abbrev e8:List Str:=["rules", "letters", "marks", "steps", "place", "letter", "mark", "forms", "case", "form", "rule"]
theorem yH:VS e8 N4 "rules" 0:=vq
theorem vbp:VS e8 N4 "letters" 1:=vq
theorem vbq:VS e8 N4 "marks" 2:=vq
theorem eP:VS e8 N4 "steps" 3:=vq
theorem yI:VS e8 N4 "place" 4:=vq
theorem pT:VS e8 N4 "letter" 5:=vq
theorem vbu:VS e8 N4 "mark" 6:=vq
theorem yJ:VS e8 N4 "forms" 7:=vq
theorem vbw:VS e8 N4 "case" 8:=vq
theorem vbx:VS e8 N4 "form" 9:=vq
theorem pU:VS e8 N4 "rule" 10:=vq
theorem vbz:LS N4 "steps":=lq
theorem yK:LS N4 "place":=lq
theorem yL:LS N4 "letter":=lq
theorem vbC:LS N4 "mark":=lq
theorem vbD:LS N4 "forms":=lq
theorem vbE:LS N4 "case":=lq
theorem vbF:LS N4 "form":=lq
theorem vbG:LS N4 "rule":=lq
theorem afp(F:FunD K "steps_of" "steps_of" N4 f fd)(T:Txt P w K mg C C_NoLetter)(G_forms_of:FO P w K mg base 1 "forms_of" ["rules"] [] (vZ K)):FnOk P w K mg base G0 2 f fd ["rules", "letters", "marks"] (wD K):=by
 refine F.ok sc_steps_of ?_ ?_
 .rintro _ _ _ _ ⟨a,b,c,ts,R,L,M,F,rfl,_⟩;rfl
 .intro cdv A outer s H vs Q E hr h;have D6:=hu_of hr;have hu:=hr.units;refine ⟨_,QSs.out (C3 (E1 (n:=3) sc_steps_of.nd rfl vbz dS)
   (C3 (O6 PassesOwn.never (kQ T.b_enumerate (qa_c (vi vbp) A6)) (bI (K:=K) (n:=2) (U4 ((E9 (n:=4) sc_steps_of.nd rfl yK (.inl rfl))) (U4 ((E9 (n:=5) sc_steps_of.nd rfl yL (.inl rfl))) bH))) (C4 (o9 D6 (vi eP) (vi pT) (M0 (qa_c (M0 (qa_c (nX T.g_LETTER) (qa_c (vi yI) (qa_c A5 A6)))) A6)))))
   (C3 (O6 PassesOwn.never (kQ T.b_enumerate (qa_c (vi vbq) A6)) (bI (K:=K) (n:=2) (U4 ((E9 (n:=4) sc_steps_of.nd rfl yK (.inl rfl))) (U4 ((E9 (n:=6) sc_steps_of.nd rfl vbC (.inl rfl))) bH))) (C4 (o9 D6 (vi eP) (vi vbu) (M0 (qa_c (M0 (qa_c (nX T.g_MARK) (qa_c (vi yI) (qa_c A5 A6)))) A6)))))
   (C3 (E1 (n:=7) sc_steps_of.nd rfl vbD (D8 G_forms_of (hm hr) (qa_c (vi yH) A6)))
   (C3 (oB PassesOwn.never (vi yJ) (E9 (n:=5) sc_steps_of.nd rfl yL (.inl rfl)) (C4 (O6 PassesOwn.never (ai9 T.b_enumerate (qa_c (b0 D6 (vi yJ) (vi pT)) A6)) (bI (K:=K) (n:=2) (U4 ((E9 (n:=8) sc_steps_of.nd rfl vbE (.inl rfl))) (U4 ((E9 (n:=9) sc_steps_of.nd rfl vbF (.inl rfl))) bH))) (C4 (o9 D6 (vi eP) (vi vbx) (M0 (qa_c (M0 (qa_c (nX T.g_LETTER) (qa_c (qe_ix (K:=K) (qe_ix (K:=K) (b0 D6 (vi eP) (vi pT)) A5) A5) (qa_c (vi vbw) A6)))) A6)))))))
   (C3 (O6 PassesOwn.never (T4 (K:=K) (vi yH)) (E9 (n:=10) sc_steps_of.nd rfl vbG (.inl rfl)) (C4 (qs_if (F7 (q_eq (K:=K) hu) (qe_ix (K:=K) (vi pU) A5) E5) (C4 (o9 D6 (vi eP) (qe_ix (K:=K) (vi pU) A5) (qe_cT (uR (K:=K)) T.b_tuple uG (qa_c (x5  (k4:CompOk ["rules", "letters", "marks", "steps", "place", "letter", "mark", "forms", "case", "form", "rule"] (D3 N4).names _ ["part", "steps"] 1 [3]) (dW (K:=K) (Q8 (K:=K) (vi pU) (O5 A5) Y2)) (fun _ _ _ _ _=>E9 (n:=0) (show List.Nodup (["part", "steps"]:List Str) by decide +kernel) rfl (Or.inl rfl)) (fun _ _ _ _ _=>gS) (fun _ _ _ _ _=>(qe_ix (K:=K) (b0 D6 (qv 1) (qv 0)) A5))) A6)))) K2)))
   (C4 (E8 (vi eP))))))))),?_⟩
  obtain ⟨a,b,c,ts,R,L,M,F,rfl,hR,md,hb,hc,iU,hRl,Z0,rX,q⟩:=h;have B3:L.length+M.length+((D7 R).flatMap (E2 R)).length+(asKs R).length<=50000:=by
   unfold allKs at rX;simp only [E4] at rX;exact rX
  walk_at "rd";intro d nd;have ndR:∀ {x:Addr} {o:HO},H x=some o->x≠d:=fun h e=>by rw [e,nd] at h;cases h
  refine ⟨⟨_,C9 hb nd⟩,forE (xs:=L.map V.str) (fun i O H2=>∃ (u v w x y z r:Option V),O=[some (.ref a),some (.ref b),some (.ref c),some (.ref d),u,v,w,x,y,z,r]/\StI H H2 d (L.take i) F)
   ⟨none,none,none,none,none,none,none,rfl,Same.new nd,fun _=>d,A7,by simp [J8]⟩ (by rintro i O H2 ⟨_,_,_,_,_,_,_,_,S⟩;exact S.same _ _ hb) ?_ ?_⟩
  .rintro i x t O H2 hx ⟨u,v,w,x',y,z,r,rfl,S⟩ nt;obtain ⟨l,hl,rfl⟩:=K5 hx;have hi:i<L.length:=(K1.mp hl).1;walk_at "rd";refine ⟨_,.of A7,rfl,_,_,rfl,_,_,rfl,rfl,by decide,fun p np=>⟨by decide,fun p1 O8=>?_⟩⟩;rw [L6 hl];exact StI.put nd (((S.more (Same.new nt)).more (Same.new np)).more (Same.new O8)) (by rw [L9];lia) (by
    rw [md.lt i l hl];exact StepAt.one A7 (C9 A7 O8))
  rintro O H2 ⟨u,v,w,x',y,z,r,rfl,S⟩;rw [A8,K6] at S;walk_at "rd";refine ⟨⟨_,S.same _ _ hc⟩,forE (xs:=M.map V.str) (fun i O H2=>∃ (u v w x y z r:Option V),O=[some (.ref a),some (.ref b),some (.ref c),some (.ref d),u,v,w,x,y,z,r]/\StI H H2 d (L++M.take i) F)
   ⟨u,v,w,x',y,z,r,rfl,by rw [i6,M7];exact S⟩ (by rintro i O H2 ⟨_,_,_,_,_,_,_,_,S⟩;exact S.same _ _ hc) ?_ ?_⟩
  .clear S;rintro i x t O H2 hx ⟨u,v,w,x',y,z,r,rfl,S⟩ nt;obtain ⟨l,hl,rfl⟩:=K5 hx;have hi:i<M.length:=(K1.mp hl).1;walk_at "rd";refine ⟨_,.of A7,rfl,_,_,rfl,_,_,rfl,rfl,by decide,fun p np=>⟨by decide,fun p1 O8=>?_⟩⟩;rw [L6 hl,<- Z5];exact StI.put nd (((S.more (Same.new nt)).more (Same.new np)).more (Same.new O8)) (by rw [E4,L9];lia) (by
    rw [md.mr i l hl];exact StepAt.one A7 (C9 A7 O8))
  clear S H2 u v w x' y z r;rintro O H2 ⟨u,v,w,x',y,z,r,rfl,S⟩;rw [A8,K6] at S;walk_at "rd";refine ⟨a,ts,R,rfl,hR.same S.same,fun z hz e=>md.ne z hz (.inr e),hRl,Z0,fun fd af H3 nfd S3 mJ dl=>?_⟩;have nf0:H fd=none:=S.same.free nfd;have nf1:fd≠d:=fun e=>by
   obtain ⟨ad,h1,_⟩:=S.made;rw [<- e,nfd] at h1;cases h1
  have S':=S.more S3;have C7:=dl.row;clear S S3 dl nfd H2;refine ⟨fd,rfl,_,mJ,fun o=>forD (fun i O H4=>∃ (u v w y z r:Option V),O=[some (.ref a),some (.ref b),some (.ref c),some (.ref d),u,v,w,some (.ref fd),y,z,r]/\FoI H H4 d fd o (D7 R) af (E2 R) (L++M++((D7 R).take i).flatMap (E2 R)) F)
   ⟨u,v,w,y,z,r,rfl,⟨A7,fun y hy=>by rw [A9 (fun e=>by have:=C7 y hy;rw [e,mJ] at this;cases this)];exact C7 y hy,by rw [i6,List.flatMap_nil,M7];exact S'.frz mJ nf0 nf1⟩⟩ (by rintro i O H4 ⟨_,_,_,_,_,_,_,h⟩;exact h.frz) ?_ ?_⟩
  .rintro i k v' O H4 hk ⟨u,v,w,y,z,r,rfl,J⟩;obtain ⟨l,hl,e⟩:=K5 (f:=fun t=>((Sum.inr t:B5),V.ref (af t))) hk;obtain ⟨rfl,rfl⟩:=Prod.mk.inj e;have jI:l∈D7 R:=P1 hl;have hlL:=md.gl l jI;have rV:(((D7 R).take i).flatMap (E2 R)).length+(E2 R l).length<=((D7 R).flatMap (E2 R)).length:=by
    have e:(D7 R).flatMap (E2 R)=((D7 R).take i).flatMap (E2 R)++E2 R l++((D7 R).drop (i+1)).flatMap (E2 R):=by
     have:=X2 (i+1) (D7 R)
     rw [L6 hl] at this;rw [<- this,V8,V8,v2,List.flatMap_nil,M7];rw [this]
    rw [e,E4,E4];lia
   walk_at "rd";refine ⟨V.ref (af l),.inl ⟨_,Sum.inr l,.inr ⟨o,J.frz⟩,rfl,by rw [O7,if_pos jI]⟩,af l,rfl,⟨_,J.rows l jI⟩,forE1 (xs:=(E2 R l).map V.str) (fun j O H5=>∃ (y z r:Option V),O=[some (.ref a),some (.ref b),some (.ref c),some (.ref d),u,some (kV (Sum.inr l)),w,some (.ref fd),y,z,r]/\FoI H H5 d fd o (D7 R) af (E2 R) (L++M++((D7 R).take i).flatMap (E2 R)++(E2 R l).take j) F) ⟨y,z,r,rfl,by rw [i6,M7];exact J⟩ (by rintro j O H5 ⟨_,_,_,_,h⟩;exact h.rows l jI) ?_ ?_⟩
   .clear J y z r;rintro j x t O H5 hx ⟨y,z,r,rfl,J⟩ nt;obtain ⟨f,hf,rfl⟩:=K5 hx;have hj:j<(E2 R l).length:=(K1.mp hf).1;have T1:Same H5 (A0 H5 t (.tup [.int ((j+1:Nat):Int),.str f])):=Same.new nt;have ht:A0 H5 t (.tup [.int ((j+1:Nat):Int),.str f]) t=some (.tup [.int ((j+1:Nat):Int),.str f]):=A7;generalize A0 H5 t (.tup [.int ((j+1:Nat):Int),.str f])=H6 at T1 ht ⊢
    have J6:=J.more T1;obtain ⟨ad,h1,h2⟩:=J6.st.made;have M3:l∈J8 [] (L++M++((D7 R).take i).flatMap (E2 R)++(E2 R l).take j):=by
     rw [x8];exact .inr (R1 _ (R1 _ (R1 _ hlL)))
    obtain ⟨tt,e1,e2⟩:=(h2 l M3).ex;rw [md.letter hlL] at e2;obtain ⟨t0,rfl,e3⟩:∃ t0,tt=[t0]/\H6 t0=some (tupT (2,(L.idxOf l:Int),0)):=by
     cases e2 with
     | cons h t=>cases t;exact ⟨_,rfl,h⟩
    walk_at "rd";refine ⟨_,.of ht,rfl,_,_,rfl,_,_,rfl,rfl,V.ref (ad l),.inl ⟨_,Sum.inr l,.inl h1,rfl,by rw [O7,if_pos M3]⟩,?_⟩;walk_at "rd";refine ⟨_,.inr (.of e1),V.ref t0,N8 _ _,?_⟩;walk_at "rd";refine ⟨_,.inr (.of e3),V.int (L.idxOf l:Int),R7 (j:=1) rfl,by decide,fun p np=>⟨by decide,fun p1 O8=>?_⟩⟩;rw [L6 hf,<- Z5];exact FoI.put nd ((J6.more (Same.new np)).more (Same.new O8)) (by simp only [E4,L9];lia) (by
     rw [md.gr l jI j f hf];exact StepAt.one A7 (C9 A7 O8))
   .rintro O H5 ⟨y,z,r,rfl,J⟩;rw [A8,K6] at J;refine ⟨⟨_,_,_,_,_,_,rfl⟩,?_⟩;rw [L6 hl,V8,v2,List.flatMap_nil,M7,<- Z5];exact J
  rintro O H4 ⟨u,v,w,y,z,r,rfl,J⟩;rw [b9,K6] at J;have S5:=J.st.thaw (o:=.dK (C1 (D7 R) fun y=>V.ref (af y))) J.frz nf0 nf1;generalize A0 H4 fd (.dK (C1 (D7 R) fun y=>V.ref (af y)))=H5 at S5 ⊢
  clear J mJ C7;walk_at "rd";refine ⟨⟨_,.of (S5.same _ _ hR.top)⟩,forL (xs:=ts.map V.ref) (fun i O H6=>∃ (r:Option V),O=[some (.ref a),some (.ref b),some (.ref c),some (.ref d),u,v,w,some (.ref fd),y,z,r]/\StI H H6 d (L++M++(D7 R).flatMap (E2 R)++asKs (R.take i)) F) ⟨r,rfl,by rw [i6];rw [show asKs []=[] from rfl,M7];exact S5⟩ (by rintro i O H6 _ ⟨_,_,S⟩;exact .of (S.same _ _ hR.top)) ?_ ?_⟩
  .clear S5 r;rintro i x O H6 hx ⟨r,rfl,S⟩;obtain ⟨t,ht,rfl⟩:=K5 hx;obtain ⟨zz,hz,C7⟩:=Paired.at hR.row ht;have cO:=P1 hz;have hT:D0 K H6 t ((zz.1::zz.2).map V.str):=.of (S.same _ _ C7);walk_at "rd";refine ⟨_,.inr hT,V.str zz.1,N8 _ _,?_⟩;walk_at "rd"
   by_cases has:zz.1=("as" : Str)
   .rw [decide_eq_true has];refine iteT ?_;obtain ⟨w1,ps⟩:=zz;obtain rfl:w1=("as" : Str):=has;obtain ⟨p,qs,rfl⟩:∃ p qs,ps=p::qs:=by
     cases ps with
     | nil=>exact absurd rfl (md.ne _ cO (.inl rfl))
     | cons p qs=>exact ⟨p,qs,rfl⟩
    have v1:cutV (((("as" : Str),p::qs).1::(("as" : Str),p::qs).2).map V.str) (some 2) none=qs.map V.str:=x6 _ 2;have hql:qs.length<=1000:=by have:=iU _ cO;simp only [G1] at this;lia
    have rY:=ajc (R.take i);rw [L9] at rY;refine rSlR.t hT (Y4 (k:=2) (by decide) (by simp)) fun s ns=>?_
    rw [v1];have T1:Same H6 (A0 H6 s (.tup (qs.map V.str))):=Same.new ns;have hs:A0 H6 s (.tup (qs.map V.str)) s=some (.tup (qs.map V.str)):=A7;generalize A0 H6 s (.tup (qs.map V.str))=H7 at T1 hs;have S7:=S.more T1;have hT7:D0 K H7 t (((("as" : Str),p::qs).1::(("as" : Str),p::qs).2).map V.str):=D0.same T1 hT;clear hT S;refine ⟨s,rfl,⟨_,.of hs⟩,compT (xs:=qs.map V.str) [some (.ref d)] rfl (fun D j ys H8=>∃ X0:List Addr,ys=X0.map V.ref/\AsI H H7 H8 d (L++M++(D7 R).flatMap (E2 R)++asKs (R.take i)) F X0 ((qs.take j).map fun q=>(F q).headD (0,0,0))) (fun D nD=>⟨[],rfl,S7.more (Same.new nD),.nil,Same.new nD⟩) (by rintro D j ys H8 nD _ ⟨_,_,h⟩;exact .of (h.sm _ _ hs)) ?_ ?_⟩
    .rintro D j yv ys H8 nD hi hy ⟨X0,rfl,J⟩ hD l9;obtain ⟨qq,hq,rfl⟩:=K5 hy;have hqb:=md.pt _ cO rfl qq (P1 hq);obtain ⟨st,U6⟩:=md.base hqb;obtain ⟨ad,h1,h2⟩:=J.st.made;have M3:qq∈J8 [] (L++M++(D7 R).flatMap (E2 R)++asKs (R.take i)):=by
      rw [x8];refine .inr (R1 _ (R1 _ (J3.mpr hqb)))
     obtain ⟨tt,e1,e2⟩:=(h2 qq M3).ex;rw [U6] at e2;obtain ⟨t0,rfl,e3⟩:∃ t0,tt=[t0]/\H8 t0=some (tupT st):=by
      cases e2 with
      | cons h t=>cases t;exact ⟨_,rfl,h⟩
     walk_at "rd";refine ⟨V.ref (ad qq),.inl ⟨_,Sum.inr qq,.inl h1,rfl,by rw [O7,if_pos M3]⟩,?_⟩;walk_at "rd";have fO:X0.length<=1000:=by
      have:=Paired.length J.pr
      rw [A8,L9] at this;lia
     refine ⟨_,.inr (.of e1),V.ref t0,N8 _ _,hD,by rw [A8];exact M9 (by lia),CW.put hi l9 ⟨X0++[t0],by rw [F8];rfl,?_⟩⟩;refine AsI.putL (f:=D) ⟨J.st,?_,J.sm⟩ hD (S7.same.free nD) nD;rw [L6 hq,F8];refine Paired.snoc J.pr ?_;show H8 t0=some (tupT ((F qq).headD (0,0,0)));rw [U6];exact e3
    rintro D ys H8 nD ⟨X0,rfl,J⟩ hD l9;rw [A8,K6] at J;rw [tup_r];refine rTupR.l (.of hD) fun p1 O8=>?_
    have Q3:G7 (((("as" : Str),p::qs).1::(("as" : Str),p::qs).2).map V.str) 1=some (V.str p):=R7 (j:=1) rfl;have S8:Same H8 (A0 H8 p1 (.tup (X0.map V.ref))):=Same.new O8;refine ⟨_,.inr (D0.same (J.sm.trans S8) hT7),V.str p,Q3,?_⟩;rw [wA hz,wC,<- Z5];refine StI.put nd (J.st.more S8) (by simp only [E4];lia) ?_;rw [md.as _ cO rfl p qs rfl];exact ⟨X0,A7,Q7 J.pr fun t s e=>S8 _ _ e⟩
   .rw [decide_eq_false has];refine iteF ?_;rw [wA hz,wB has,M7];exact S
  rintro O H6 ⟨r,rfl,S⟩;rw [A8,hR.len,K6] at S;walk_at "rd";exact q d H6 nd S.same S.made
theorem acQ:FnScope ["self", "rules"] ["self", "rules"] (D3 y7):=L7
abbrev yM:List Str:=["self", "rules"]
theorem p9:VS yM y7 "self" 0:=vq
theorem bQ:VS yM y7 "rules" 1:=vq
theorem acR(F:FunD K "__init__" "Order.__init__" y7 f fd)(T:Txt P w K mg C C_NoLetter)(G_has_rule:FO P w K mg base 1 "has_rule" ["rules", "word"] [] (spHas K))(G_jobs_of:FO P w K mg base 3 "jobs_of" ["rules"] [] (vP K))(G_check_letters:pA P w K mg base 3 "check_letters" ["rules", "jobs"] [] (pE K C_NoLetter))(G_line_of:FO P w K mg base 4 "line_of" ["rules", "word"] [] (vQ K))(G_steps_of:FO P w K mg base 2 "steps_of" ["rules", "letters", "marks"] [] (wD K)):FnOk P w K mg base (T7 P w) 5 f fd ["self", "rules"] (lF C C_NoLetter):=by
 refine F.okX acQ ?_ ?_
 .rintro _ _ _ _ ⟨x,dx,a,ts,R,g,r1,r2,rfl,_⟩;rfl
 .intro cdv A outer s H vs Q E hr h;have D6:=hu_of hr;have hu:=hr.units;refine ⟨_,QSs.out (C3 (dU (K:=K) (vi p9) (D8 G_has_rule (hm hr) (qa_c (vi bQ) (qa_c E5 A6))))
   (C3 (dU (K:=K) (vi p9) (D8 G_has_rule (hm hr) (qa_c (vi bQ) (qa_c E5 A6))))
   (C3 (dU (K:=K) (vi p9) (D8 G_jobs_of (hm hr) (qa_c (vi bQ) A6)))
   (C3 (j3 (ajp G_check_letters (hm hr) alu (qa_c (vi bQ) (qa_c (kL (K:=K) (vi p9)) A6))))
   (C3 (dU (K:=K) (vi p9) (D8 G_line_of (hm hr) (qa_c (vi bQ) (qa_c E5 A6))))
   (C3 (dU (K:=K) (vi p9) (D8 G_line_of (hm hr) (qa_c (vi bQ) (qa_c E5 A6))))
   (C4 (dU (K:=K) (vi p9) (D8 G_steps_of (hm hr) (qa_c (vi bQ) (qa_c (kL (K:=K) (vi p9)) (qa_c (kL (K:=K) (vi p9)) A6)))))))))))),?_⟩
  obtain ⟨x,dx,a,ts,R,g,r1,r2,rfl,hx,hR,gj,gr,q1,q2⟩:=h;have lp:∀ (f:Str) (y:V) (fs:List (Str×V)),(putF f y fs).length<=fs.length+1:=mY;walk_at "rd";refine ⟨a,ts,R, "figures",rfl,hR,gj.len,fun H1 S1=>⟨C,dx,[],S1 _ _ hx,T.cl,T.na_figures,by decide,?_⟩⟩;generalize hF1:putF (Str.ofString "figures") (V.bl (hasW R (Str.ofString "figures"))) []=F1;have l1:F1.length<=1:=by rw [<- hF1];exact lp _ _ _
  have B2:SameBut x H (A0 H1 x (.ins C dx F1)):=(Same.but S1).at;have cJ:A0 H1 x (.ins C dx F1) x=some (.ins C dx F1):=A7;generalize A0 H1 x (.ins C dx F1)=H2 at B2 cJ;have hR2:=hR.but B2 hx;refine ⟨a,ts,R, "behind",rfl,hR2,gj.len,fun H3 S3=>⟨C,dx,F1,S3 _ _ cJ,T.cl,T.na_behind,by lia,?_⟩⟩;generalize hF2:putF (Str.ofString "behind") (V.bl (hasW R (Str.ofString "behind"))) F1=F2;have l2:F2.length<=2:=by rw [<- hF2];exact F6 (lp _ _ _) (by lia)
  have B4:SameBut x H2 (A0 H3 x (.ins C dx F2)):=(Same.but S3).at;have fP:A0 H3 x (.ins C dx F2) x=some (.ins C dx F2):=A7;generalize A0 H3 x (.ins C dx F2)=H4 at B4 fP;have hR4:=hR2.but B4 cJ;refine ⟨a,ts,R,g,rfl,hR4,gj.len,gj.plen,gj.nc,gj.nb,fun j H5 nj S5 hj=>?_⟩;have njx:j≠x:=fun e=>by rw [e,fP] at nj;cases nj
  generalize hF3:putF (Str.ofString "jobs") (V.ref j) F2=F3;have l3:F3.length<=3:=by rw [<- hF3];exact F6 (lp _ _ _) (by lia)
  have k3:F3.lookup (Str.ofString "jobs")=some (V.ref j):=by rw [<- hF3,R6,if_pos rfl]
  refine ⟨C,dx,F2,S5 _ _ fP,T.cl,T.na_jobs,by lia,?_⟩;rw [hF3];have B6:SameBut x H4 (A0 H5 x (.ins C dx F3)):=(Same.but S5).at;have jJ:A0 H5 x (.ins C dx F3) x=some (.ins C dx F3):=A7;have rZ:A0 H5 x (.ins C dx F3) j=some (.dK (C1 (keysP (C8 R)++Q9 R) (jobG g))):=by rw [A9 njx];exact hj
  generalize A0 H5 x (.ins C dx F3)=H6 at B6 jJ rZ;have hR6:=hR4.but B6 fP;refine ⟨C,dx,F3,jJ,T.cl,T.na_jobs,_,k3,a,j,ts,R,_,_,rfl,hR6,rZ,ajx g,fun z hz=>⟨gj.zl z hz,gj.ok z hz⟩,fun hm H7 S7=>?_,fun p hp dx' H7 S7 hd=>q2 p hp dx' H7 (((B2.trans B4).trans B6).trans (Same.but S7)) hd⟩;have pl:=gr hm;have q:=q1 hm;clear gr q1 q2;refine ⟨a,ts,R, "row",r1,rfl,hR6.same S7,pl.len,F6 pl.f1 (by decide),pl.a1,fun ll L H8 nll S8 rR run cov=>?_⟩;have hx8:=S8 _ _ (S7 _ _ jJ);have nlx:ll≠x:=fun e=>by rw [e,S7 _ _ jJ] at nll;cases nll
  have llen:L.length<=10000:=by
   rw [kO (eA _) run cov];exact F6 (dR _) pl.f1
  generalize hF4:putF (Str.ofString "letter_line") (V.ref ll) F3=F4;have l4:F4.length<=4:=by rw [<- hF4];exact F6 (lp _ _ _) (by lia)
  refine ⟨C,dx,F3,hx8,T.cl,T.na_letter_line,by lia,?_⟩;rw [hF4];have B9:SameBut x H6 (A0 H8 x (.ins C dx F4)):=(Same.but (S7.trans S8)).at;have mK:A0 H8 x (.ins C dx F4) x=some (.ins C dx F4):=A7;have jK:A0 H8 x (.ins C dx F4) ll=some (.lst (L.map V.str)):=by rw [A9 nlx];exact rR
  generalize A0 H8 x (.ins C dx F4)=H9 at B9 mK jK;have hR9:=hR6.but B9 jJ;refine ⟨a,ts,R, "marks",r2,rfl,hR9,pl.len,F6 pl.f2 (by decide),pl.a2,fun ml M W9 nml sB fS run2 cov2=>?_⟩;have nmx:ml≠x:=fun e=>by rw [e,mK] at nml;cases nml
  have mlen:M.length<=10000:=by
   rw [kO (eA _) run2 cov2];exact F6 (dR _) pl.f2
  generalize hF5:putF (Str.ofString "mark_line") (V.ref ml) F4=F5;have l5:F5.length<=5:=by rw [<- hF5];exact F6 (lp _ _ _) (by lia)
  refine ⟨C,dx,F4,sB _ _ mK,T.cl,T.na_mark_line,by lia,?_⟩;rw [hF5];have B11:SameBut x H9 (A0 W9 x (.ins C dx F5)):=(Same.but sB).at;have X1:A0 W9 x (.ins C dx F5) x=some (.ins C dx F5):=A7;have g9:A0 W9 x (.ins C dx F5) ml=some (.lst (M.map V.str)):=by rw [A9 nmx];exact fS
  have i3:A0 W9 x (.ins C dx F5) ll=some (.lst (L.map V.str)):=by rw [A9 nlx];exact sB _ _ jK
  generalize A0 W9 x (.ins C dx F5)=H11 at B11 X1 g9 i3;have hR11:=hR9.but B11 mK;have kl:F5.lookup (Str.ofString "letter_line")=some (V.ref ll):=by rw [<- hF5,R6,if_neg (by decide +kernel),<- hF4,R6,if_pos rfl]
  have km:F5.lookup (Str.ofString "mark_line")=some (V.ref ml):=by rw [<- hF5,R6,if_pos rfl]
  refine ⟨C,dx,F5,X1,T.cl,T.na_letter_line,_,kl,C,dx,F5,X1,T.cl,T.na_mark_line,_,km,a,ll,ml,ts,R,L,M,stepF R L M,rfl,hR11,alm pl ⟨run,cov⟩ ⟨run2,cov2⟩,i3,g9,pl.zl,pl.len,ahH pl,F6 (aln pl ⟨run,cov⟩ ⟨run2,cov2⟩) (by decide),fun md H12 nmd aG hmd=>⟨C,dx,F5,aG _ _ X1,T.cl,T.na_made,by lia,?_⟩⟩;have nmdx:md≠x:=fun e=>by rw [e,X1] at nmd;cases nmd
  have B:SameBut x H (A0 H12 x (.ins C dx (putF (Str.ofString "made") (V.ref md) F5))):=((B2.trans B4).trans ((B6.trans B9).trans (B11.trans (Same.but aG)))).at;have fr:∀ {H':Hp} {y:Addr},SameBut x H H'->H' y=none->y≠x->H y=none:=fun {H' y} b n nx=>by
   cases e:H y with
   | none=>rfl
   | some o=>have:=b _ _ nx e;rw [n] at this;cases this
  have B44:=B2.trans B4;refine q j ll ml md L M _ (fr B44 nj njx) (fr ((B44.trans B6).trans (Same.but S7)) nll nlx) (fr ((B44.trans B6).trans B9) nml nmx) (fr (((B44.trans B6).trans B9).trans B11) nmd nmdx) B ⟨⟨dx,?_⟩,?_,?_,?_,hmd.mod (aG _ _ X1) (by intro xs e;cases e) nmdx,⟨run,cov⟩,⟨run2,cov2⟩⟩
  .rw [A7,<- hF5,<- hF4,<- hF3,<- hF2,<- hF1];rfl
  .rw [A9 njx];exact aG _ _ (B11 _ _ njx (B9 _ _ njx rZ))
  .rw [A9 nlx];exact aG _ _ i3
  .rw [A9 nmx];exact aG _ _ g9
theorem acV:FnScope ["self"] ["self"] (D3 bP):=L7
abbrev ado:List Str:=["self"]
theorem vbJ:VS ado bP "self" 0:=vq
theorem acW(F:FunD K "letters" "Order.letters" bP f fd)(T:Txt P w K mg C C_NoLetter):FnOk P w K mg base G0 1 f fd ["self"] (oW C):=by
 refine F.ok acV ?_ ?_
 .rintro _ _ _ _ ⟨x,j,ll,ml,md,g,R,L,M,rfl,_⟩;rfl
 .intro cdv A outer s H vs Q E hr h;have D6:=hu_of hr;have hu:=hr.units;refine ⟨_,QSs.out (C4 (E8 (qe_cT (bJ (K:=K) (calm:=true)) T.b_list bE (qa_c (kL (K:=K) (vi vbJ)) A6)))),?_⟩;obtain ⟨x,j,ll,ml,md,g,R,L,M,rfl,hO,q⟩:=h;obtain ⟨dx,h1⟩:=hO.ob;walk_at "rd";refine ⟨_,_,_,h1,T.cl,T.na_letter_line,_,aeJ _ _ _ _ _ _,?_⟩;walk_at "rd";exact rListR.l (.inl (.of hO.lets)) fun l nl=>q l nl
theorem aeX:FnScope ["_law_script", "_law_k"] ["_law_script", "_law_k"] (D3 hW):=L7
abbrev yN:List Str:=["_law_script", "_law_k"]
theorem yO:VS yN hW "_law_script" 0:=vq
theorem yP:VS yN hW "_law_k" 1:=vq
theorem aeY(F:FunD K "_law_cell_at" "_law_cell_at" hW f fd)(T:Txt P w K mg C C_NoLetter):FnOk P w K mg base G0 1 f fd ["_law_script", "_law_k"] (gZ K):=by
 refine F.ok aeX ?_ ?_
 .rintro _ _ _ _ ⟨a,ns,k,rfl,_⟩;rfl
 .intro cdv A outer s H vs Q E hr h;have D6:=hu_of hr;have hu:=hr.units;refine ⟨_,QSs.out (C3 (qs_if (F7 q_lt (vi yP) (qe_cB (q_len (K:=K)) T.b_len dQ (qa_c (vi yO) A6))) (C4 (E8 (qe_ix (K:=K) (vi yO) (vi yP)))) K2)
   (C4 (E8 A5))),?_⟩
  obtain ⟨a,ns,k,rfl,hS,hk,q⟩:=h;walk_at "rd";unfold cellF at q;refine ⟨ns.length,.inl ⟨_,hS,by rw [A8]⟩,iteD (fun D1=>?_) fun mD=>?_⟩
  .rw [if_pos D1] at q;have hi:k.toNat<ns.length:=by lia
   refine ⟨_,.inl hS,V.int (ns.getD k.toNat 0),?_,q⟩;have e:((k.toNat:Nat):Int)=k:=by lia
   have h1:G7 (ns.map V.int) ((k.toNat:Nat):Int)=some (V.int (ns.getD k.toNat 0)):=R7 (by rw [Q5,Z3,L8 hi];rfl);rw [e] at h1;exact h1
  .rw [if_neg mD] at q;exact q
theorem sc_l_sign:FnScope ["_law_script", "_law_k", "_law_some", "_law_step"] ["_law_script", "_law_k"] (D3 p7):=L7
abbrev lN:List Str:=["_law_script", "_law_k", "_law_some", "_law_step"]
theorem yQ:VS lN p7 "_law_script" 0:=vq
theorem vbN:VS lN p7 "_law_k" 1:=vq
theorem yR:VS lN p7 "_law_some" 2:=vq
theorem vbP:VS lN p7 "_law_step" 3:=vq
theorem yS:LS p7 "_law_some":=lq
theorem vbR:LS p7 "_law_step":=lq
theorem ah7(F:FunD K "_law_sign" "_law_sign" p7 f fd)(T:Txt P w K mg C C_NoLetter)(G_l_cell_at:FO P w K mg base 1 "_law_cell_at" ["_law_script", "_law_k"] [] (gZ K)):FnOk P w K mg base G0 2 f fd ["_law_script", "_law_k"] (eK K):=by
 refine F.ok sc_l_sign ?_ ?_
 .rintro _ _ _ _ ⟨a,ns,k,rfl,_⟩;rfl
 .intro cdv A outer s H vs Q E hr h;have D6:=hu_of hr;have hu:=hr.units;refine ⟨_,QSs.out (C3 (E1 (n:=2) sc_l_sign.nd rfl yS E5)
   (C3 (E1 (n:=2) sc_l_sign.nd rfl yS (qe_op (q_add (K:=K)) (vi yR) E5))
   (C3 (E1 (n:=3) sc_l_sign.nd rfl vbR (qe_ix (K:=K) (P8 (qa_c A5 (qa_c A5 (qa_c A5 (qa_c A5 (qa_c A5 (qa_c A5 (qa_c A5 (qa_c A5 (qa_c A5 (qa_c A5 (qa_c A5 (qa_c A5 A6))))))))))))) (qe_op q_mod (D8 G_l_cell_at (hm hr) (qa_c (vi yQ) (qa_c A5 A6))) A5)))
   (C4 (E8 (qe_ix (K:=K) (vi yR) (qe_op q_mod (qe_op (q_add (K:=K)) (D8 G_l_cell_at (hm hr) (qa_c (vi yQ) (qa_c A5 A6))) (qe_op q_mul (vi vbN) (vi vbP))) A5))))))),?_⟩
  obtain ⟨a,ns,k,rfl,hS,hk,q⟩:=h;walk_at "rd";have h1:=alL ns;have h2:=(xE ns k).1;rw [<- SS_eq] at h2;refine ⟨ak3,by decide,fun p np=>⟨a,ns,1,rfl,(Same.new np).seq hS,by decide,⟨_,rfl,_,.inl (.of A7),V.int (stpN ns),?_,a,ns,0,rfl,(Same.new np).seq hS,by decide,?_⟩⟩⟩
  .have:=alK V.int ([1,2,4,5,7,8,10,11,13,23,44,91]:List Int) (cellF ns 1 % 12)
   rw [h1.1] at this;exact this
  walk_at "rd";exact ⟨.inr ⟨by lia,by lia⟩,amT,_,h2,q _ (Same.new np)⟩
theorem sc_l_part:FnScope ["_law_script", "_law_number", "_law_first_here", "_law_way"] ["_law_script", "_law_number", "_law_first_here"] (D3 y8):=L7
abbrev lO:List Str:=["_law_script", "_law_number", "_law_first_here", "_law_way"]
theorem eQ:VS lO y8 "_law_script" 0:=vq
theorem eR:VS lO y8 "_law_number" 1:=vq
theorem vbU:VS lO y8 "_law_first_here" 2:=vq
theorem yT:VS lO y8 "_law_way" 3:=vq
theorem yU:LS y8 "_law_way":=lq
theorem ah8(F:FunD K "_law_part" "_law_part" y8 f fd)(T:Txt P w K mg C C_NoLetter)(G_l_cell_at:FO P w K mg base 1 "_law_cell_at" ["_law_script", "_law_k"] [] (gZ K))(G_l_sign:FO P w K mg base 2 "_law_sign" ["_law_script", "_law_k"] [] (eK K)):FnOk P w K mg base G0 3 f fd ["_law_script", "_law_number", "_law_first_here"] (xK K):=by
 refine F.ok sc_l_part ?_ ?_
 .rintro _ _ _ _ ⟨a,n,b,ns,rfl,_⟩;rfl
 .intro cdv A outer s H vs Q E hr h;have D6:=hu_of hr;have hu:=hr.units;refine ⟨_,QSs.out (C3 (qs_if (F7 (q_eq (K:=K) hu) (qe_op q_mod (vi eR) A5) A5) (C3 (E1 (n:=3) sc_l_part.nd rfl yU (qe_op q_mod (qe_op T5 (D8 G_l_cell_at (hm hr) (qa_c (vi eQ) (qa_c A5 A6))) A5) A5))
   (C3 (qs_if (F7 (q_eq (K:=K) hu) (vi yT) A5) (C4 (E1 (n:=3) sc_l_part.nd rfl yU (qe_op q_mod (qe_op T5 (vi eR) A5) A5))) K2)
   (C4 (E8 (D8 G_l_sign (hm hr) (qa_c (vi eQ) (qa_c (qe_ix (K:=K) (P8 (qa_c (qe_op q_mod (qe_op T5 (vi eR) A5) A5) (qa_c A5 (qa_c A5 (qa_c A5 (qa_c A5 A6)))))) (vi yT)) A6))))))) K2)
   (C3 (qs_if (QW.pt (qw_or (gR (K:=K) (vi vbU)) (uJ (F7 (q_eq (K:=K) hu) (qe_op q_mod (vi eR) A5) A5)))) (C4 (E8 (D8 G_l_sign (hm hr) (qa_c (vi eQ) (qa_c (qe_op q_mod (qe_op T5 (vi eR) A5) (qe_op (q_add (K:=K)) A5 (qe_op q_mod (D8 G_l_cell_at (hm hr) (qa_c (vi eQ) (qa_c A5 A6))) A5))) A6))))) K2)
   (C4 (E8 (D8 G_l_sign (hm hr) (qa_c (vi eQ) (qa_c (qe_op (q_add (K:=K)) A5 (qe_op q_mod (qe_op T5 (vi eR) A5) (qe_op (q_add (K:=K)) A5 (qe_op q_mod (qe_op T5 (D8 G_l_cell_at (hm hr) (qa_c (vi eQ) (qa_c A5 A6))) A5) A5)))) A6))))))),?_⟩
  obtain ⟨a,n,b,ns,rfl,hS,q⟩:=h;have sgq:∀ (e:Int) (H1:Hp),0<=e->e<93->Same H H1->eK K [V.ref a,V.int e] H1 Q E0:=fun e H1 h0 h1 S=>by
   obtain ⟨j,rfl⟩:=Int.eq_ofNat_of_zero_le h0;exact ⟨a,ns,j,rfl,S.seq hS,by lia,fun H2 S2=>q j H2 (by lia) (S.trans S2)⟩
  walk_at "rd";refine iteD (fun _=>⟨a,ns,2,rfl,hS,by decide,_,rfl,iteD (fun _=>⟨by decide,fun p np=>?_⟩) fun e=>⟨by decide,fun p np=>?_⟩⟩) fun _=>?_
  .obtain ⟨i,h0,h1,hi⟩:=xJ (v:=n / 9 % 8) (w:=n / 72 % 5) (by lia) (by lia) (by lia) (by lia);exact ⟨_,.inl (.of A7),_,hi,sgq i _ h0 h1 (Same.new np)⟩
  .obtain ⟨i,h0,h1,hi⟩:=xJ (v:=n / 9 % 8) (w:=cellF ns 2 / 480 % 6) (by lia) (by lia) (by lia) (by lia);exact ⟨_,.inl (.of A7),_,hi,sgq i _ h0 h1 (Same.new np)⟩
  by_cases hb:b=true
  .rw [if_pos hb];have h1:=bA (n / 9) (show (3+cellF ns 2 % 4)≠0 by lia);have h2:=dC (n / 9) (show 0<(3+cellF ns 2 % 4) by lia);exact ⟨a,ns,2,rfl,hS,by decide,_,rfl,by lia,sgq _ _ h1 (by lia) (P2 _)⟩
  rw [if_neg hb];refine iteD (fun _=>⟨a,ns,2,rfl,hS,by decide,_,rfl,by lia,?_⟩) fun _=>⟨a,ns,2,rfl,hS,by decide,_,rfl,by lia,?_⟩
  .have h1:=bA (n / 9) (show (3+cellF ns 2 % 4)≠0 by lia);have h2:=dC (n / 9) (show 0<(3+cellF ns 2 % 4) by lia);exact sgq _ _ h1 (by lia) (P2 _)
  .have h1:=bA (n / 9) (show (1+cellF ns 2 / 4 % 2)≠0 by lia);have h2:=dC (n / 9) (show 0<(1+cellF ns 2 / 4 % 2) by lia);exact sgq _ _ (by lia) (by lia) (P2 _)
theorem sc_l_rule:FnScope ["_law_script", "_law_k", "_law_cell", "_law_number", "_law_many", "_law_one", "_law_rule_here", "_law_j", "_law_mixed"] ["_law_script", "_law_k", "_law_cell"] (D3 P3):=L7
abbrev q5:List Str:=["_law_script", "_law_k", "_law_cell", "_law_number", "_law_many", "_law_one", "_law_rule_here", "_law_j", "_law_mixed"]
theorem q9:VS q5 P3 "_law_script" 0:=vq
theorem pV:VS q5 P3 "_law_k" 1:=vq
theorem lP:VS q5 P3 "_law_cell" 2:=vq
theorem eS:VS q5 P3 "_law_number" 3:=vq
theorem yV:VS q5 P3 "_law_many" 4:=vq
theorem pW:VS q5 P3 "_law_one" 5:=vq
theorem yW:VS q5 P3 "_law_rule_here" 6:=vq
theorem yX:VS q5 P3 "_law_j" 7:=vq
theorem vb5:VS q5 P3 "_law_mixed" 8:=vq
theorem vb6:LS P3 "_law_number":=lq
theorem vb7:LS P3 "_law_many":=lq
theorem vb8:LS P3 "_law_one":=lq
theorem yY:LS P3 "_law_rule_here":=lq
theorem vca:LS P3 "_law_j":=lq
theorem vcb:LS P3 "_law_mixed":=lq
theorem ah9(F:FunD K "_law_rule" "_law_rule" P3 f fd)(T:Txt P w K mg C C_NoLetter)(G_l_cell_at:FO P w K mg base 1 "_law_cell_at" ["_law_script", "_law_k"] [] (gZ K))(G_l_sign:FO P w K mg base 2 "_law_sign" ["_law_script", "_law_k"] [] (eK K))(G_l_part:FO P w K mg base 3 "_law_part" ["_law_script", "_law_number", "_law_first_here"] [] (xK K)):FnOk P w K mg base G0 4 f fd ["_law_script", "_law_k", "_law_cell"] (xL K):=by
 refine F.ok sc_l_rule ?_ ?_
 .rintro _ _ _ _ ⟨a,k,c,ns,rfl,_⟩;rfl
 .intro cdv A outer s H vs Q E hr h;have D6:=hu_of hr;have hu:=hr.units;refine ⟨_,QSs.out (C3 (E1 (n:=3) sc_l_rule.nd rfl vb6 (qe_op q_mod (qe_op T5 (vi lP) A5) (qe_op q_pow A5 A5)))
   (C3 (E1 (n:=4) sc_l_rule.nd rfl vb7 (qe_op (q_add (K:=K)) A5 (qe_op q_mod (D8 G_l_cell_at (hm hr) (qa_c (vi q9) (qa_c A5 A6))) A5)))
   (C3 (qs_if (F7 (q_eq (K:=K) hu) (qe_op q_mod (vi lP) A5) A5) (C3 (E1 (n:=5) sc_l_rule.nd rfl vb8 (qe_op q_mod (vi eS) (vi yV)))
   (C4 (E8 (M0 (qa_c E5 (qa_c (D8 G_l_sign (hm hr) (qa_c (vi q9) (qa_c (vi pW) A6))) (qa_c (D8 G_l_sign (hm hr) (qa_c (vi q9) (qa_c (qe_op (q_add (K:=K)) (vi pW) (qe_op q_mod (qe_op T5 (vi eS) A5) (qe_op q_sub (vi yV) (vi pW)))) A6))) A6))))))) K2)
   (C3 (qs_if (F7 (q_eq (K:=K) hu) (qe_op q_mod (vi lP) A5) A5) (C4 (E8 (M0 (qa_c E5 (qa_c (D8 G_l_sign (hm hr) (qa_c (vi q9) (qa_c (qe_op (q_add (K:=K)) A5 (qe_op q_mod (vi eS) (qe_op (q_add (K:=K)) A5 (qe_op q_mod (qe_op T5 (D8 G_l_cell_at (hm hr) (qa_c (vi q9) (qa_c A5 A6))) A5) A5)))) A6))) A6))))) K2)
   (C3 (qs_if (F7 (q_eq (K:=K) hu) (qe_op q_mod (vi lP) A5) A5) (C4 (E8 (M0 (qa_c E5 (qa_c (D8 G_l_part (hm hr) (qa_c (vi q9) (qa_c (vi eS) (qa_c qe_bl A6)))) (qa_c (D8 G_l_sign (hm hr) (qa_c (vi q9) (qa_c (qe_op (q_add (K:=K)) A5 (vi pV)) A6))) A6)))))) K2)
   (C3 (E1 (n:=6) sc_l_rule.nd rfl yY (M0 (qa_c E5 (qa_c (D8 G_l_sign (hm hr) (qa_c (vi q9) (qa_c (qe_op (q_add (K:=K)) A5 (vi pV)) A6))) A6))))
   (C3 (O6 PassesOwn.never (qi_r1 T.b_range (qa_c (qe_op (q_add (K:=K)) A5 (qe_op q_mod (vi eS) A5)) A6)) (E9 (n:=7) sc_l_rule.nd rfl vca (.inl rfl)) (C3 (E1 (n:=8) sc_l_rule.nd rfl vcb (qe_op q_mod (qe_op q_mul (qe_op T5 (vi eS) A5) (qe_ix (K:=K) (P8 (qa_c A5 (qa_c A5 (qa_c A5 A6)))) (vi yX))) (qe_op q_sub A5 (vi pV))))
   (C4 (E1 (n:=6) sc_l_rule.nd rfl yY (qe_op (q_add (K:=K)) (vi yW) (M0 (qa_c (D8 G_l_part (hm hr) (qa_c (vi q9) (qa_c (vi vb5) (qa_c (bG (q_eq (K:=K) hu) (vi yX) A5) A6)))) A6)))))))
   (C4 (E8 (vi yW)))))))))),?_⟩
  obtain ⟨a,k,c,ns,rfl,hS,hk,q⟩:=h;walk_at "rd";refine ⟨10,9,rfl,rfl,⟨by decide,by decide,by decide⟩,_,rfl,by decide,a,ns,2,rfl,hS,by decide,_,rfl,?_⟩;generalize c / 5 % (10:Int) ^ (9:Int).toNat=N;obtain ⟨m,hm,fT,hm6⟩:∃ m:Nat,3+cellF ns 2 % 4=m/\3<=m/\m<=6:=⟨(3+cellF ns 2 % 4).toNat,by lia,by lia,by lia⟩
  rw [hm];have sgq:∀ (i:Nat) (H1:Hp) {Z:VK},Same H H1->(∀ H2,Same H1 H2->Z (.str (C5 ns i)) H2)->eK K [V.ref a,V.int (i:Int)] H1 Z E0:=fun i H1 Z S hz=>⟨a,ns,i,rfl,S.seq hS,by lia,hz⟩
  have hn:(10+(k:Int))=((10+k:Nat):Int):=by lia
  rw [hn];refine iteD (fun _=>⟨by lia,?_⟩) fun _=>iteD (fun _=>⟨a,ns,2,rfl,hS,by decide,_,rfl,by lia,?_⟩) fun _=>iteD (fun _=>?_) fun _=>?_
  .obtain ⟨i,hi,fC⟩:∃ i:Nat,N % (m:Int)=i/\i<m:=by
    have h1:=bA N (show (m:Int)≠0 by lia);have h2:=dC N (show (0:Int)<m by lia);exact ⟨(N % (m:Int)).toNat,by lia,by lia⟩
   rw [hi];obtain ⟨j,hj,hj1,hj2⟩:∃ j:Nat,(i:Int)+N / 6 % ((m:Int)-i)=j/\i<=j/\j<m:=by
    have h1:=bA (N / 6) (show ((m:Int)-i)≠0 by lia);have h2:=dC (N / 6) (show (0:Int)<(m:Int)-i by lia);exact ⟨((i:Int)+N / 6 % ((m:Int)-i)).toNat,by lia,by lia,by lia⟩
   rw [hj];exact sgq i H (P2 _) fun H2 S2=>⟨by lia,sgq j H2 S2 fun H3 S3=>⟨by decide,fun t nt=>q t (("row" : Str),[C5 ns i,C5 ns j]) _ ((S2.trans S3).free nt) ((S2.trans S3).trans (Same.new nt)) A7 (.inl ⟨i,j,hj1,by lia,rfl⟩)⟩⟩
  .obtain ⟨i,hi,fC⟩:∃ i:Nat,6+N % (1+cellF ns 2 / 4 % 2)=i/\(i=6\/i=7):=by
    have h1:=bA N (show (1+cellF ns 2 / 4 % 2)≠0 by lia);have h2:=dC N (show (0:Int)<1+cellF ns 2 / 4 % 2 by lia);exact ⟨(6+N % (1+cellF ns 2 / 4 % 2)).toNat,by lia,by lia⟩
   rw [hi];exact sgq i H (P2 _) fun H2 S2=>⟨by decide,fun t nt=>q t (("marks" : Str),[C5 ns i]) _ (S2.free nt) (S2.trans (Same.new nt)) A7 (.inr ⟨.marks i fC,(by decide +kernel:Str.ofString "marks"≠Str.ofString "row")⟩)⟩
  .exact ⟨a,N,true,ns,rfl,hS,fun i H2 hi S2=>sgq (10+k) H2 S2 fun H3 S3=>⟨by decide,fun t nt=>q t (("great" : Str),[C5 ns i,C5 ns (10+k)]) _ ((S2.trans S3).free nt) ((S2.trans S3).trans (Same.new nt)) A7 (.inr ⟨.great i hi,(by decide +kernel:Str.ofString "great"≠Str.ofString "row")⟩)⟩⟩
  .refine sgq (10+k) H (P2 _) fun H2 S2=>⟨by decide,fun t nt=>⟨by lia,by lia,?_⟩⟩
   obtain ⟨w,hw,hw1,hw3⟩:∃ w:Nat,(1+N % 3).toNat=w/\1<=w/\w<=3:=⟨_,rfl,by lia,by lia⟩
   rw [hw];refine forRs (fun i O H3=>∃ (u v:Option V) (t:Addr) (is:List Nat),O=[some (.ref a),some (.int k),some (.int c),some (.int N),some (.int m),none,some (.ref t),u,v]/\Same H H3/\H t=none/\H3 t=some (tupR (("as" : Str),C5 ns (10+k)::is.map (C5 ns)))/\is.length=i/\∀ i∈is,i<93) ⟨none,none,t,[],rfl,S2.trans (Same.new nt),S2.free nt,A7,rfl,by simp⟩ ?_ ?_
   .rintro P' Bk hP i O H3 hi ⟨u,v,t,is,rfl,S3,nt3,ht,hl,h93⟩;obtain ⟨x3,hx3,b1,b2⟩:∃ x3:Int,G7 [V.int 1,V.int 48271,V.int 69621] (0+(i:Int))=some (V.int x3)/\0<x3/\x3<100000:=by
     rcases (show i=0\/i=1\/i=2 by lia) with e | e | e <;> rw [e]
     .exact ⟨1,rfl,by decide,by decide⟩
     .exact ⟨48271,rfl,by decide,by decide⟩
     .exact ⟨69621,rfl,by decide,by decide⟩
    walk_at "rd";refine ⟨by decide,fun p np=>⟨_,.inl (.of A7),_,hx3,?_⟩⟩;walk_at "rd";refine ⟨.inr ⟨by lia,by lia⟩,by lia,?_⟩;have S4:Same H3 (A0 H3 p (.lst [V.int 1,V.int 48271,V.int 69621])):=Same.new np;generalize A0 H3 p (.lst [V.int 1,V.int 48271,V.int 69621])=H4 at S4;refine ⟨a,_,_,ns,rfl,(S3.trans S4).seq hS,fun i2 H5 g6 S5=>⟨by decide,fun p2 V5=>?_⟩⟩;refine rAddR.t (.of (C9 (S5 _ _ (S4 _ _ ht)) V5)) (.of A7) (by simp) (by simp only [A8,G1,R3];exact o8 (by lia)) (fun e=>by cases e) fun _ t2 nt2=>?_
    have S6:=(S4.trans S5).trans (Same.new (u:=HO.tup [V.str (C5 ns i2)]) V5);refine hP _ _ _ ⟨_,_,t2,is++[i2],rfl,(S3.trans S6).trans (Same.new nt2),(S3.trans S6).free nt2,?_,by rw [E4,hl];rfl,fun i hi=>(J3.mp hi).elim (h93 i) fun e=>by rw [G5.mp e];exact g6⟩;rw [A7];show _=some (HO.tup ((("as" : Str)::C5 ns (10+k)::(is++[i2]).map (C5 ns)).map V.str));rw [F8]
    simp
   rintro O H3 ⟨u,v,t,is,rfl,S3,nt3,ht,hl,h93⟩;walk_at "rd";exact q t _ H3 nt3 S3 ht (.inr ⟨.as is (fun e=>by rw [e] at hl;simp at hl;lia) (by lia) h93,(by decide +kernel:Str.ofString "as"≠Str.ofString "row")⟩)
theorem agv:FnScope ["_law_rule_here"] ["_law_rule_here"] (D3 lD):=L7
abbrev aia:List Str:=["_law_rule_here"]
theorem iE:VS aia lD "_law_rule_here" 0:=vq
theorem agw(F:FunD K "_law_plain" "_law_plain" lD f fd)(T:Txt P w K mg C C_NoLetter):FnOk P w K mg base G0 1 f fd ["_law_rule_here"] xM:=by
 refine F.ok agv ?_ ?_
 .rintro _ _ _ _ ⟨t,z,ns,n,rfl,_⟩;rfl
 .intro cdv A outer s H vs Q E hr h;have D6:=hu_of hr;have hu:=hr.units;refine ⟨_,QSs.out (C3 (qs_if (QW.pt (gQ (F7 (q_eq (K:=K) hu) (qe_ix (K:=K) (vi iE) A5) E5) (gP (F7 (q_eq (K:=K) hu) (qe_ix (K:=K) (vi iE) A5) (qe_ix (K:=K) (vi iE) A5))))) (C4 (E8 (M0 (qa_c E5 (qa_c (qe_ix (K:=K) (vi iE) A5) A6))))) K2)
   (C4 (E8 (vi iE)))),?_⟩
  obtain ⟨t,z,ns,n,rfl,ht,hz,q⟩:=h;walk_at "rd"
  rcases hz with ⟨i,j,fD,hj,rfl⟩ | ⟨hz,hw⟩
  .refine ⟨_,.inr (.of ht),_,N8 _ _,?_⟩;walk_at "rd";refine iteT ⟨_,.inr (.of ht),V.str (C5 ns i),R7 (j:=1) rfl,_,.inr (.of ht),V.str (C5 ns j),R7 (j:=2) rfl,?_⟩;walk_at "rd";refine iteD (fun e=>⟨_,.inr (.of ht),V.str (C5 ns i),R7 (j:=1) rfl,by decide,fun p np=>?_⟩) fun e=>?_
   .exact q p (("row" : Str),[C5 ns i]) _ (.inr np) (Same.new np) A7 (.row [i] (by simp) (by simp) (by simp) (by simp;lia))
   .exact q t _ H (.inl rfl) (P2 _) ht (.row [i,j] (by simp) (by simp) (by simp;exact Nat.lt_of_le_of_ne fD fun q=>e (by rw [q])) (by simp;lia))
  .refine ⟨_,.inr (.of ht),_,N8 _ _,?_⟩;walk_at "rd";rw [if_neg (by rw [decide_eq_true_iff];exact hw)];exact q t _ H (.inl rfl) (P2 _) ht hz
theorem sc_l_rules:FnScope ["_law_script", "_law_rules_here", "_law_k", "_law_cell", "_law_at", "_law_row", "_law_letter", "_law_more"] ["_law_script"] (D3 P0):=L7
abbrev z8:List Str:=["_law_script", "_law_rules_here", "_law_k", "_law_cell", "_law_at", "_law_row", "_law_letter", "_law_more"]
theorem W6:VS z8 P0 "_law_script" 0:=vq
theorem bR:VS z8 P0 "_law_rules_here" 1:=vq
theorem vcf:VS z8 P0 "_law_k" 2:=vq
theorem vcg:VS z8 P0 "_law_cell" 3:=vq
theorem yZ:VS z8 P0 "_law_at" 4:=vq
theorem vci:VS z8 P0 "_law_row" 5:=vq
theorem pX:VS z8 P0 "_law_letter" 6:=vq
theorem pY:VS z8 P0 "_law_more" 7:=vq
theorem zA:LS P0 "_law_rules_here":=lq
theorem vcm:LS P0 "_law_k":=lq
theorem vcn:LS P0 "_law_cell":=lq
theorem zB:LS P0 "_law_at":=lq
theorem vcp:LS P0 "_law_row":=lq
theorem vcq:LS P0 "_law_letter":=lq
theorem vcr:LS P0 "_law_more":=lq
theorem agx(F:FunD K "_law_rules" "_law_rules" P0 f fd)(T:Txt P w K mg C C_NoLetter)(G_l_cell_at:FO P w K mg base 1 "_law_cell_at" ["_law_script", "_law_k"] [] (gZ K))(G_l_sign:FO P w K mg base 2 "_law_sign" ["_law_script", "_law_k"] [] (eK K))(G_l_rule:FO P w K mg base 4 "_law_rule" ["_law_script", "_law_k", "_law_cell"] [] (xL K))(G_l_plain:FO P w K mg base 1 "_law_plain" ["_law_rule_here"] [] xM):FnOk P w K mg base G0 5 f fd ["_law_script"] (xN K):=by
 refine F.ok sc_l_rules ?_ ?_
 .rintro _ _ _ _ ⟨a,ns,rfl,_⟩;rfl
 .intro cdv A outer s H vs Q E hr h;have D6:=hu_of hr;have hu:=hr.units;refine ⟨_,QSs.out (C3 (E1 (n:=1) sc_l_rules.nd rfl zA (P8 A6))
   (C3 (O6 PassesOwn.never (kQ T.b_enumerate (qa_c (Q8 (K:=K) (vi W6) (O5 A5) (O5 A5)) A6)) (bI (K:=K) (n:=2) (U4 ((E9 (n:=2) sc_l_rules.nd rfl vcm (.inl rfl))) (U4 ((E9 (n:=3) sc_l_rules.nd rfl vcn (.inl rfl))) bH))) (C4 (j3 (qe_mB (K:=K) v7 dB dA dY (vi bR) (qa_c (D8 G_l_plain (hm hr) (qa_c (D8 G_l_rule (hm hr) (qa_c (vi W6) (qa_c (vi vcf) (qa_c (vi vcg) A6)))) A6)) A6)))))
   (C3 (E1 (n:=4) sc_l_rules.nd rfl zB A5)
   (dZ (qs_if (F7 (q_eq (K:=K) hu) (qe_op q_mod (qe_op T5 (D8 G_l_cell_at (hm hr) (qa_c (vi W6) (qa_c A5 A6))) A5) A5) A5) (C4 (E1 (n:=4) sc_l_rules.nd rfl zB (qe_op q_mod (qe_op T5 (D8 G_l_cell_at (hm hr) (qa_c (vi W6) (qa_c A5 A6))) A5) (qe_op (q_add (K:=K)) (qe_cB (q_len (K:=K)) T.b_len dQ (qa_c (vi bR) A6)) A5)))) K2)
   (C3 (E1 (n:=5) sc_l_rules.nd rfl vcp (qe_op (q_add (K:=K)) (M0 (qa_c E5 A6)) (qe_cT (uR (K:=K)) T.b_tuple uG (qa_c (x5  (k4:CompOk ["_law_script", "_law_rules_here", "_law_k", "_law_cell", "_law_at", "_law_row", "_law_letter", "_law_more"] (D3 P0).names _ ["_law_k", "_law_script"] 1 [0]) (qi_r1 T.b_range (qa_c (qe_op (q_add (K:=K)) A5 (qe_op q_mod (D8 G_l_cell_at (hm hr) (qa_c (vi W6) (qa_c A5 A6))) A5)) A6)) (fun _ _ _ _ _=>E9 (n:=0) (show List.Nodup (["_law_k", "_law_script"]:List Str) by decide +kernel) rfl (Or.inl rfl)) (fun _ _ _ _ _=>gS) (fun _ _ _ _ _=>(D8 G_l_sign (hm hr) (qa_c (qv 1) (qa_c (qv 0) A6))))) A6))))
   (dZ (qs_if (F7 q_gt (qe_op q_mod (qe_op T5 (D8 G_l_cell_at (hm hr) (qa_c (vi W6) (qa_c A5 A6))) A5) A5) A5) (C4 (E1 (n:=1) sc_l_rules.nd rfl zA (qe_op (q_add (K:=K)) (qe_op (q_add (K:=K)) (Q8 (K:=K) (vi bR) Y2 (O5 (vi yZ))) (P8 (qa_c (vi vci) A6))) (Q8 (K:=K) (vi bR) (O5 (vi yZ)) Y2)))) K2)
   (dZ (qs_if (F7 q_gt (qe_op q_mod (qe_op T5 (D8 G_l_cell_at (hm hr) (qa_c (vi W6) (qa_c A5 A6))) A5) A5) A5) (C4 (j3 (qe_mB (K:=K) v7 dB dA dY (vi bR) (qa_c (M0 (qa_c E5 (qa_c (D8 G_l_sign (hm hr) (qa_c (vi W6) (qa_c A5 A6))) A6))) A6)))) K2)
   (C3 (E1 (n:=6) sc_l_rules.nd rfl vcq (D8 G_l_sign (hm hr) (qa_c (vi W6) (qa_c A5 A6))))
   (C3 (E1 (n:=7) sc_l_rules.nd rfl vcr (P8 (qa_c (M0 (qa_c E5 (qa_c (D8 G_l_sign (hm hr) (qa_c (vi W6) (qa_c A5 A6))) A6))) (qa_c (M0 (qa_c E5 (qa_c (vi pX) A6))) (qa_c (M0 (qa_c E5 (qa_c (vi pX) (qa_c (D8 G_l_sign (hm hr) (qa_c (vi W6) (qa_c A5 A6))) A6)))) A6)))))
   (C3 (j3 (qe_mB (K:=K) v7 dB dA dY (vi pY) (qa_c (M0 (qa_c E5 (qa_c (D8 G_l_sign (hm hr) (qa_c (vi W6) (qa_c A5 A6))) (qa_c (vi pX) A6)))) A6)))
   (C3 (qs_if (F7 (q_eq (K:=K) hu) (qe_op q_mod (qe_op T5 (D8 G_l_cell_at (hm hr) (qa_c (vi W6) (qa_c A5 A6))) A5) A5) A5) (C4 (E8 (qe_op (q_add (K:=K)) (vi pY) (vi bR)))) K2)
   (C4 (E8 (qe_op (q_add (K:=K)) (vi bR) (vi pY))))))))))))))),?_⟩
  obtain ⟨a,ns,rfl,hS,q⟩:=h;walk_at "rd";refine fun p np=>rSlR.l ((Same.new np).seq hS) fun c nc=>?_
  rw [show cutV (ns.map V.int) (some 3) (some 43)=((ns.drop 3).take 40).map V.int by rw [show cutV (ns.map V.int) (some 3) (some 43)=_ from oU _ (i:=3) (j:=43) (by decide),<- aU,<- aT]];have cI:((ns.drop 3).take 40).length<=40:=by rw [L9];lia
  generalize (ns.drop 3).take 40=cs at cI;have S1:Same H (A0 (A0 H p (.lst [])) c (.lst (cs.map V.int))):=(Same.new np).trans (Same.new nc);have sC:A0 (A0 H p (.lst [])) c (.lst (cs.map V.int)) c=some (.lst (cs.map V.int)):=A7;have aH:A0 (A0 H p (.lst [])) c (.lst (cs.map V.int)) p=some (.lst []):=C9 A7 nc;have ncp:c≠p:=fun e=>by rw [e,A7] at nc;cases nc
  generalize A0 (A0 H p (.lst [])) c (.lst (cs.map V.int))=H1 at S1 sC aH;have RA0:RulesAt H H1 p [] (C2 []):=⟨⟨aH,.nil⟩,by simp,fun b hb=>by rw [G5.mp hb];exact np,S1⟩
  refine ⟨c,rfl,⟨_,sC⟩,forEs (xs:=cs.map V.int) (fun i O H2=>∃ (u v:Option V) (ts:List Addr) (X:List (Nat×Rl)),O=[some (.ref a),some (.ref p),u,v,none,none,none,none]/\RulesAt H H2 p ts (C2 X)/\H2 c=some (.lst (cs.map V.int))/\X.length=i/\RRs ns X/\∀ e∈X,e.1<10+i) ⟨none,none,[],[],rfl,RA0,sC,rfl,⟨by simp,by simp,by simp,by simp⟩,by simp⟩ (by rintro i O H2 ⟨_,_,_,_,_,_,h,_⟩;exact h) ?_ ?_⟩
  .rintro P' Bk hP i x t O H2 hx ⟨u,v,ts,X,rfl,RA,r0,hXl,G,hXi⟩ nt;obtain ⟨cv,jE,rfl⟩:=K5 hx;have hi:i<cs.length:=(K1.mp jE).1;have S3:Same H2 (A0 H2 t (.tup [V.int i,V.int cv])):=Same.new nt;have ht3:A0 H2 t (.tup [V.int i,V.int cv]) t=some (.tup [V.int i,V.int cv]):=A7;generalize A0 H2 t (.tup [V.int i,V.int cv])=H3 at S3 ht3;walk_at "rd";refine ⟨_,.of ht3,rfl,_,_,rfl,_,_,rfl,rfl,o7 (S3 _ _ RA.rows.top),a,i,cv,ns,rfl,(RA.same.trans S3).seq hS,by lia,fun t4 z4 H4 n4 S4 h4 hz4=>⟨t4,z4,ns,10+i,rfl,h4,hz4,fun t5 z5 H5 n5 S5 h5 hz5=>?_⟩⟩;have n45:H2 t5=none:=by
    rcases n5 with rfl | n5
    .exact S3.free n4
    .exact (S3.trans S4).free n5
   have sD:=S3.trans (S4.trans S5);have RB:=RA.grow sD n45 h5;refine appOk (sD _ _ RA.rows.top) (by rw [A8,RA.rows.len];unfold C2;rw [A8];exact M9 (by lia)) ?_;have G2:=G.snoc (n:=10+i) hz5 (fun e he=>by have:=hXi e he;lia) (by lia) (by lia) (by lia);exact hP _ _ _ ⟨_,_,_,X++[(10+i,z5)],rfl,by unfold C2;rw [F8];exact RB,by rw [A9 ncp];exact sD _ _ r0,by rw [E4,hXl];rfl,G2,fun e he=>(J3.mp he).elim (fun h=>by have:=hXi e h;lia) fun h=>by rw [G5.mp h];show 10+i<_;lia⟩
  rintro O H2 ⟨u,v,ts,X,rfl,RA,r0,hXl,G,hXi⟩;rw [A8] at hXl hXi;have hR:=RA.rows;have S2:=RA.same;have V5:=RA.new p M5;clear RA r0 RA0;have hX40:X.length<=40:=by lia
  have hXn:∀ e∈X,e.1<50:=fun e he=>by have:=hXi e he;lia
  clear hXl hXi;have hS2:=S2.seq hS;walk_at "rd";refine midS (fun O H3=>∃ (k:Nat),O=[some (.ref a),some (.ref p),u,v,some (.int k),none,none,none]/\H3=H2) ?_ ?_
  .intro M' hM';walk_at "rd";refine ⟨a,ns,2,rfl,hS2,by decide,_,rfl,iteD (fun _=>⟨a,ns,2,rfl,hS2,by decide,?_⟩) fun _=>hM' _ _ ⟨0,rfl,rfl⟩⟩
   try walk_at "rd"
   refine ⟨ts.length,.inl ⟨_,.of hR.top,by rw [A8]⟩,by lia,?_⟩;obtain ⟨k,hk⟩:∃ k:Nat,cellF ns 2 / 16 % ((ts.length:Int)+1)=(k:Int):=⟨(cellF ns 2 / 16 % ((ts.length:Int)+1)).toNat,by
    have:=bA (cellF ns 2 / 16) (show ((ts.length:Int)+1)≠0 by lia)
    lia⟩
   rw [hk];exact hM' _ _ ⟨k,rfl,rfl⟩
  rintro O H3 ⟨k,rfl,rfl⟩;have hts:=hR.len;have hrl:(C2 X).length=X.length:=by unfold C2;rw [A8]
  walk_at "rd";refine ⟨by decide,fun pr npr=>⟨a,ns,2,rfl,(S2.trans (Same.new npr)).seq hS,by decide,_,rfl,by lia,by lia,?_⟩⟩;obtain ⟨m,hm,fT,hm6⟩:∃ m:Nat,(3+cellF ns 2 % 4).toNat=m/\3<=m/\m<=6:=⟨(3+cellF ns 2 % 4).toNat,rfl,by lia,by lia⟩
  rw [hm];have S4:Same H3 (A0 H3 pr (.tup [V.str (Str.ofString "row")])):=Same.new npr;have h4:A0 H3 pr (.tup [V.str (Str.ofString "row")]) pr=some (.tup [V.str (Str.ofString "row")]):=A7;generalize A0 H3 pr (.tup [V.str (Str.ofString "row")])=H4 at S4 h4;refine compR [some (.ref a)] rfl (fun D j ys H5=>ys=((M8 j).map (C5 ns)).map V.str/\Same H4 H5) (fun D nD=>⟨rfl,Same.new nD⟩) ?_ ?_
  .rintro D j ys H5 nD hi ⟨rfl,S5⟩ hD hy;walk_at "rd";refine ⟨a,ns,_,rfl,(S2.trans (S4.trans S5)).seq hS,by lia,fun H6 S6=>⟨S6 _ _ hD,M9 (by lia),CW.put hi hy ⟨?_,(S5.trans S6).put nD⟩⟩⟩;rw [List.range_succ,Int.zero_add];simp [C5,pF]
  rintro D ys H5 nD ⟨rfl,S5⟩ hD hy;walk_at "rd";refine rTupR.l (.of hD) fun t6 sE=>?_
  walk_at "rd";refine rAddR.t (.of (C9 (S5 _ _ h4) sE)) (.of A7) (by simp) (by simp only [A8,List.length_range,G1,R3];exact o8 (by lia)) (fun e=>by have:=congrArg List.length e;simp at this;lia) fun _ t7 nt7=>?_
  have S7:Same H3 (A0 (A0 H5 t6 (.tup (((M8 m).map (C5 ns)).map V.str))) t7 (.tup ([V.str (Str.ofString "row")]++((M8 m).map (C5 ns)).map V.str))):=S4.trans (S5.trans ((Same.new sE).trans (Same.new nt7)));have h7:A0 (A0 H5 t6 (.tup (((M8 m).map (C5 ns)).map V.str))) t7 (.tup ([V.str (Str.ofString "row")]++((M8 m).map (C5 ns)).map V.str)) t7=some (tupR (("row" : Str),(M8 m).map (C5 ns))):=A7;generalize A0 (A0 H5 t6 (.tup (((M8 m).map (C5 ns)).map V.str))) t7 (.tup ([V.str (Str.ofString "row")]++((M8 m).map (C5 ns)).map V.str))=H7 at S7 h7;have C7:RN ns 60 (("row" : Str),(M8 m).map (C5 ns)):=.row (M8 m) (fun e=>by have:=congrArg List.length e;simp at this;lia) (by simpa using hm6) List.pairwise_lt_range (fun i hi=>by have:=aS.mp hi;lia);clear S4 S5 h4 sE nt7 hD nD npr;refine midS (fun O H8=>∃ (r8:Addr) (X0:List Addr) (X8:List (Nat×Rl)),O=[some (.ref a),some (.ref r8),u,v,some (.int k),some (.ref t7),none,none]/\Same H H8/\H r8=none/\IsRules H8 r8 X0 (C2 X8)/\RRs ns X8/\X8.length<=41/\∀ e∈X8,e.1<61) ?_ ?_
  .intro M' hM';have hR7:=hR.same S7;walk_at "rd";refine ⟨a,ns,2,rfl,(S2.trans S7).seq hS,by decide,_,rfl,iteD (fun _=>?_) fun _=>hM' _ _ ⟨p,ts,X,rfl,S2.trans S7,V5,hR7,G,by lia,fun e he=>by have:=hXn e he;lia⟩⟩;refine rSlR.l (.of hR7.top) fun l1 nl1=>?_
   rw [uT,<- aT];have A1:=alo hR7 k nl1;have S8:Same H7 (A0 H7 l1 (.lst ((ts.take k).map V.ref))):=Same.new nl1;generalize A0 H7 l1 (.lst ((ts.take k).map V.ref))=H8 at A1 S8;refine ⟨by decide,fun lb nlb=>?_⟩;have B1:IsRules (A0 H8 lb (.lst [V.ref t7])) lb [t7] [(("row" : Str),(M8 m).map (C5 ns))]:=⟨A7,.cons (C9 (S8 _ _ h7) nlb) .nil⟩
   have S9:Same H8 (A0 H8 lb (.lst [V.ref t7])):=Same.new nlb;generalize A0 H8 lb (.lst [V.ref t7])=H9 at B1 S9;walk_at "rd";refine rAddR.l (A1.same S9).top B1.top (by simp only [A8,L9,G1,R3];exact o8 (by lia)) fun l2 nl2=>?_
   have A2:=(A1.same S9).cat B1 nl2;have SA:Same H9 (A0 H9 l2 (.lst ((ts.take k).map V.ref++[t7].map V.ref))):=Same.new nl2;generalize A0 H9 l2 (.lst ((ts.take k).map V.ref++[t7].map V.ref))=HA at A2 SA;have hRA:=hR7.same (S8.trans (S9.trans SA));refine rSlR.l (.of hRA.top) fun l3 nl3=>?_
   rw [x6,<- aU];have A3:=ahI hRA k nl3;have SB:Same HA (A0 HA l3 (.lst ((ts.drop k).map V.ref))):=Same.new nl3;generalize A0 HA l3 (.lst ((ts.drop k).map V.ref))=HB at A3 SB;walk_at "rd";refine rAddR.l (A2.same SB).top A3.top (by simp only [A8,L9,E4,i4,G1,R3];exact o8 (by lia)) fun l4 sF=>?_
   have A4:=(A2.same SB).cat A3 sF;have S0B:=(S2.trans S7).trans (S8.trans (S9.trans (SA.trans SB)));have pm:(X++[(60,(("row" : Str),(M8 m).map (C5 ns)))]).Perm (X.take k++[(60,(("row" : Str),(M8 m).map (C5 ns)))]++X.drop k):=by
    conv=>lhs;rw [<- X2 k X]
    rw [Z5,Z5];exact List.Perm.append_left _ List.perm_append_comm
   have G8:=(G.snoc C7 (fun e he=>by have:=hXn e he;lia) (by decide) (by decide) (by lia)).perm pm;refine hM' _ _ ⟨l4,ts.take k++[t7]++ts.drop k,_,rfl,S0B.trans (Same.new sF),S0B.free sF,?_,G8,by rw [<- pm.length_eq,E4,X3];lia,fun e he=>?_⟩
   .rw [show C2 (X.take k++[(60,(("row" : Str),(M8 m).map (C5 ns)))]++X.drop k)=(C2 X).take k++[(("row" : Str),(M8 m).map (C5 ns))]++(C2 X).drop k by unfold C2;simp only [F8,aT,aU,G3,aV]];exact A4
   .rcases J3.mp (pm.mem_iff.mpr he) with he | he
    .have:=hXn e he;lia
    .rw [G5.mp he];exact (by decide:60<61)
  rintro O H8 ⟨r8,X0,X8,rfl,S8,n8,hR8,G8,fO,mM⟩;clear hR S7 h7 S2 hS2 G hXn hX40 hts hrl V5;have sG:=hR8.len;have sH:(C2 X8).length=X8.length:=by unfold C2;rw [A8]
  refine midS (fun O H9=>∃ (fU:List Addr) (X9:List (Nat×Rl)),O=[some (.ref a),some (.ref r8),u,v,some (.int k),some (.ref t7),none,none]/\Same H H9/\IsRules H9 r8 fU (C2 X9)/\RRs ns X9/\X9.length<=42/\∀ e∈X9,e.1<62) ?_ ?_
  .intro M' hM';walk_at "rd";refine ⟨a,ns,2,rfl,S8.seq hS,by decide,_,rfl,iteD (fun _=>⟨o7 hR8.top,a,ns,6,rfl,S8.seq hS,by decide,fun H9 S9=>⟨by decide,fun t9 jL=>?_⟩⟩) fun _=>hM' _ _ ⟨X0,X8,rfl,S8,hR8,G8,by lia,fun e he=>by have:=mM e he;lia⟩⟩;have h9r:=S9 _ _ hR8.top;refine appOk (C9 h9r jL) (by rw [A8];exact M9 (by lia)) (hM' _ _ ⟨X0++[t9],X8++[(61,(("marks" : Str),[C5 ns 6]))],rfl,((S8.trans S9).trans (Same.new jL)).put n8,⟨by rw [A7,F8];rfl,?_⟩,G8.snoc (.marks 6 (.inl rfl)) (fun e he=>by have:=mM e he;lia) (by decide) (by decide) (by lia),by rw [E4,X3];lia,fun e he=>?_⟩)
   .have ner:∀ {b:Addr} {xs:List V},H8 b=some (.tup xs)->b≠r8:=fun h e=>by rw [e,hR8.top] at h;cases h
    have nt9r:t9≠r8:=fun e=>by rw [e,h9r] at jL;cases jL
    unfold C2;rw [F8];refine Paired.snoc (Q7 hR8.row fun b z hb=>?_) (by rw [A9 nt9r,A7];rfl);rw [A9 (ner hb)];exact C9 (S9 _ _ hb) jL
   .rcases J3.mp he with he | he
    .have:=mM e he;lia
    .rw [G5.mp he];exact (by decide:61<62)
  rintro O H9 ⟨fU,X9,rfl,S9,hR9,G9,rT,hn9⟩;clear hR8 G8 S8 n8 fO mM sG sH;have hts9:=hR9.len;have hrl9:(C2 X9).length=X9.length:=by unfold C2;rw [A8]
  walk_at "rd";refine ⟨a,ns,0,rfl,S9.seq hS,by decide,fun HA SA=>⟨a,ns,8,rfl,(S9.trans SA).seq hS,by decide,fun HB SB=>⟨by decide,fun q1 n1=>⟨by decide,fun q2 n2=>?_⟩⟩⟩⟩;have SC:Same H9 (A0 (A0 HB q1 (.tup [V.str (Str.ofString "over"),V.str (one (sgnF ns 8))])) q2 (.tup [V.str (Str.ofString "row"),V.str (one (sgnF ns 0))])):=(SA.trans SB).trans ((Same.new n1).trans (Same.new n2));have h1:A0 (A0 HB q1 (.tup [V.str (Str.ofString "over"),V.str (one (sgnF ns 8))])) q2 (.tup [V.str (Str.ofString "row"),V.str (one (sgnF ns 0))]) q1=some (tupR (("over" : Str),[C5 ns 8])):=C9 A7 n2;have h2:A0 (A0 HB q1 (.tup [V.str (Str.ofString "over"),V.str (one (sgnF ns 8))])) q2 (.tup [V.str (Str.ofString "row"),V.str (one (sgnF ns 0))]) q2=some (tupR (("row" : Str),[0].map (C5 ns))):=A7;generalize A0 (A0 HB q1 (.tup [V.str (Str.ofString "over"),V.str (one (sgnF ns 8))])) q2 (.tup [V.str (Str.ofString "row"),V.str (one (sgnF ns 0))])=HC at SC h1 h2;refine ⟨a,ns,80,rfl,(S9.trans SC).seq hS,by decide,fun HD SD=>⟨by decide,fun q3 n3=>⟨by decide,fun ml nml=>?_⟩⟩⟩;have SE:Same HD (A0 (A0 HD q3 (.tup [V.str (Str.ofString "great"),V.str (one (sgnF ns 0)),V.str (one (sgnF ns 80))])) ml (.lst [V.ref q1,V.ref q2,V.ref q3])):=(Same.new n3).trans (Same.new nml);have h3:A0 (A0 HD q3 (.tup [V.str (Str.ofString "great"),V.str (one (sgnF ns 0)),V.str (one (sgnF ns 80))])) ml (.lst [V.ref q1,V.ref q2,V.ref q3]) q3=some (tupR (("great" : Str),[C5 ns 0,C5 ns 80])):=C9 A7 nml;have fS:A0 (A0 HD q3 (.tup [V.str (Str.ofString "great"),V.str (one (sgnF ns 0)),V.str (one (sgnF ns 80))])) ml (.lst [V.ref q1,V.ref q2,V.ref q3]) ml=some (.lst [V.ref q1,V.ref q2,V.ref q3]):=A7;have nmD:HD ml=none:=(Same.new n3).free nml;have S0D:=S9.trans (SC.trans SD);generalize A0 (A0 HD q3 (.tup [V.str (Str.ofString "great"),V.str (one (sgnF ns 0)),V.str (one (sgnF ns 80))])) ml (.lst [V.ref q1,V.ref q2,V.ref q3])=HE at SE h3 fS;refine ⟨o7 fS,a,ns,81,rfl,(S0D.trans SE).seq hS,by decide,fun HF SF=>⟨by decide,fun q4 n4=>?_⟩⟩;have hmF:=SF _ _ fS;have nq4:q4≠ml:=fun e=>by rw [e,hmF] at n4;cases n4
  refine appOk (C9 hmF n4) (show 3<sizeLine by decide) ?_;have nt:∀ {b:Addr} {xs:List V},HE b=some (.tup xs)->b≠ml:=fun h e=>by rw [e,fS] at h;cases h
  have M1:IsRules (A0 (A0 HF q4 (.tup [V.str (Str.ofString "as"),V.str (one (sgnF ns 81)),V.str (one (sgnF ns 0))])) ml (.lst ([V.ref q1,V.ref q2,V.ref q3]++[V.ref q4]))) ml [q1,q2,q3,q4] (C2 [(62,(("over" : Str),[C5 ns 8])),(63,(("row" : Str),[0].map (C5 ns))),(80,(("great" : Str),[C5 ns 0,C5 ns 80])),(81,(("as" : Str),C5 ns 81::[0].map (C5 ns)))]):=by
   have k1:=SE _ _ (SD _ _ h1);have k2:=SE _ _ (SD _ _ h2);refine ⟨A7,.cons ?_ (.cons ?_ (.cons ?_ (.cons ?_ .nil)))⟩
   .rw [A9 (nt k1)];exact C9 (SF _ _ k1) n4
   .rw [A9 (nt k2)];exact C9 (SF _ _ k2) n4
   .rw [A9 (nt h3)];exact C9 (SF _ _ h3) n4
   .rw [A9 nq4,A7];rfl
  have SG:Same H (A0 (A0 HF q4 (.tup [V.str (Str.ofString "as"),V.str (one (sgnF ns 81)),V.str (one (sgnF ns 0))])) ml (.lst ([V.ref q1,V.ref q2,V.ref q3]++[V.ref q4]))):=(S0D.trans (SE.trans (SF.trans (Same.new n4)))).put (S0D.free nmD);have SG9:Same H9 (A0 (A0 HF q4 (.tup [V.str (Str.ofString "as"),V.str (one (sgnF ns 81)),V.str (one (sgnF ns 0))])) ml (.lst ([V.ref q1,V.ref q2,V.ref q3]++[V.ref q4]))):=((SC.trans SD).trans (SE.trans (SF.trans (Same.new n4)))).put ((SC.trans SD).free nmD);generalize A0 (A0 HF q4 (.tup [V.str (Str.ofString "as"),V.str (one (sgnF ns 81)),V.str (one (sgnF ns 0))])) ml (.lst ([V.ref q1,V.ref q2,V.ref q3]++[V.ref q4]))=HG at M1 SG SG9;have R9G:=hR9.same SG9;have GG:RRs ns (X9++[(62,(("over" : Str),[C5 ns 8])),(63,(("row" : Str),[0].map (C5 ns))),(80,(("great" : Str),[C5 ns 0,C5 ns 80])),(81,(("as" : Str),C5 ns 81::[0].map (C5 ns)))]):=by
   have g1:=G9.snoc (n:=62) .over (fun e he=>by have:=hn9 e he;lia) (by decide) (by decide) (by lia);have m1:∀ e∈X9++[(62,(("over" : Str),[C5 ns 8]))],e.1<63:=fun e he=>(J3.mp he).elim (fun h=>by have:=hn9 e h;lia) fun h=>by rw [G5.mp h];exact (by decide:62<63)
   have g2:=g1.snoc (n:=63) (.row [0] (by simp) (by simp) (by simp) (by simp)) (fun e he=>by have:=m1 e he;lia) (by decide) (by decide) (by simp only [E4,X3];lia);have m2:∀ e∈X9++[(62,(("over" : Str),[C5 ns 8]))]++[(63,(("row" : Str),[0].map (C5 ns)))],e.1<64:=fun e he=>(J3.mp he).elim (fun h=>by have:=m1 e h;lia) fun h=>by rw [G5.mp h];exact (by decide:63<64)
   have g3:=g2.snoc (n:=80) (.great 0 (by decide)) (fun e he=>by have:=m2 e he;lia) (by decide) (by decide) (by simp only [E4,X3];lia);have m3:∀ e∈X9++[(62,(("over" : Str),[C5 ns 8]))]++[(63,(("row" : Str),[0].map (C5 ns)))]++[(80,(("great" : Str),[C5 ns 0,C5 ns 80]))],e.1<81:=fun e he=>(J3.mp he).elim (fun h=>by have:=m2 e h;lia) fun h=>by rw [G5.mp h];exact (by decide:80<81)
   have g4:=g3.snoc (n:=81) (.as [0] (by simp) (by simp) (by simp)) (fun e he=>by have:=m3 e he;lia) (by decide) (by decide) (by simp only [E4,X3];lia)
   simpa [Z5] using g4
  have hl9s:fU.length<=42:=by lia
  have bd:(List.map V.ref [q1,q2,q3,q4]).length+(fU.map V.ref).length<=sizeLine:=by rw [A8];exact o8 (by simp only [G1,R3,A8];lia)
  refine ⟨a,ns,2,rfl,SG.seq hS,by decide,_,rfl,iteD (fun _=>rAddR.l M1.top R9G.top bd fun l nl=>?_) fun _=>rAddR.l R9G.top M1.top (by rw [Nat.add_comm];exact bd) fun l nl=>?_⟩
  .refine q l ([q1,q2,q3,q4]++fU) _ _ (SG.free nl) (SG.trans (Same.new nl)) ?_ (GG.perm List.perm_append_comm);have A:=M1.cat R9G nl;unfold C2 at A ⊢
   rw [F8];exact A
  .refine q l (fU++[q1,q2,q3,q4]) _ _ (SG.free nl) (SG.trans (Same.new nl)) ?_ GG;have A:=R9G.cat M1 nl;unfold C2 at A ⊢
   rw [F8];exact A
theorem sc_l_first:FnScope ["_law_rules_here", "_law_letters", "_law_marks", "_law_rule_here", "_law_part_here"] ["_law_rules_here"] (D3 Y7):=L7
abbrev iF:List Str:=["_law_rules_here", "_law_letters", "_law_marks", "_law_rule_here", "_law_part_here"]
theorem zC:VS iF Y7 "_law_rules_here" 0:=vq
theorem z9:VS iF Y7 "_law_letters" 1:=vq
theorem zD:VS iF Y7 "_law_marks" 2:=vq
theorem Y8:VS iF Y7 "_law_rule_here" 3:=vq
theorem pZ:VS iF Y7 "_law_part_here" 4:=vq
theorem zE:LS Y7 "_law_letters":=lq
theorem zF:LS Y7 "_law_marks":=lq
theorem zG:LS Y7 "_law_rule_here":=lq
theorem vcA:LS Y7 "_law_part_here":=lq
theorem agy(F:FunD K "_law_first" "_law_first" Y7 f fd)(T:Txt P w K mg C C_NoLetter):FnOk P w K mg base G0 1 f fd ["_law_rules_here"] xO:=by
 refine F.ok sc_l_first ?_ ?_
 .rintro _ _ _ _ ⟨r,ts,X,ns,rfl,_⟩;rfl
 .intro cdv A outer s H vs Q E hr h;have D6:=hu_of hr;have hu:=hr.units;refine ⟨_,QSs.out (C3 (E1 (n:=1) sc_l_first.nd rfl zE (P8 A6))
   (C3 (E1 (n:=2) sc_l_first.nd rfl zF (P8 A6))
   (C3 (O6 PassesOwn.never (T4 (K:=K) (vi zC)) (E9 (n:=3) sc_l_first.nd rfl zG (.inl rfl)) (dZ (qs_if (F7 (q_eq (K:=K) hu) (qe_ix (K:=K) (vi Y8) A5) E5) (C4 (E1 (n:=1) sc_l_first.nd rfl zE (qe_op (q_add (K:=K)) (vi z9) (qe_cT (bJ (K:=K) (calm:=true)) T.b_list bE (qa_c (Q8 (K:=K) (vi Y8) (O5 A5) Y2) A6))))) K2)
   (C4 (qs_if (F7 (q_eq (K:=K) hu) (qe_ix (K:=K) (vi Y8) A5) E5) (C4 (E1 (n:=2) sc_l_first.nd rfl zF (qe_op (q_add (K:=K)) (vi zD) (qe_cT (bJ (K:=K) (calm:=true)) T.b_list bE (qa_c (Q8 (K:=K) (vi Y8) (O5 A5) Y2) A6))))) K2))))
   (C3 (O6 PassesOwn.never (T4 (K:=K) (vi zC)) (E9 (n:=3) sc_l_first.nd rfl zG (.inl rfl)) (dZ (qs_if (QW.pt (gQ (F7 (q_eq (K:=K) hu) (qe_ix (K:=K) (vi Y8) A5) E5) (gP (F7 (dX (K:=K) hu) (qe_ix (K:=K) (vi Y8) A5) (vi z9))))) (C4 (E8 (M0 (qa_c (qe_ix (K:=K) (vi Y8) A5) (qa_c (vi z9) A6))))) K2)
   (dZ (qs_if (QW.pt (gQ (F7 (q_eq (K:=K) hu) (qe_ix (K:=K) (vi Y8) A5) E5) (gP (F7 (dX (K:=K) hu) (qe_ix (K:=K) (vi Y8) A5) (vi z9))))) (C4 (E8 (M0 (qa_c (qe_ix (K:=K) (vi Y8) A5) (qa_c (vi z9) A6))))) K2)
   (C4 (qs_if (F7 (q_eq (K:=K) hu) (qe_ix (K:=K) (vi Y8) A5) E5) (C4 (O6 PassesOwn.never (dW (K:=K) (Q8 (K:=K) (vi Y8) (O5 A5) Y2)) (E9 (n:=4) sc_l_first.nd rfl vcA (.inl rfl)) (C4 (qs_if (QW.pt (gQ (F7 (dX (K:=K) hu) (vi pZ) (vi z9)) (gP (F7 (dX (K:=K) hu) (vi pZ) (vi zD))))) (C4 (E8 (M0 (qa_c (vi pZ) (qa_c (vi z9) A6))))) K2)))) K2)))))
   (C4 (E8 (M0 (qa_c kK (qa_c (vi z9) A6))))))))),?_⟩
  obtain ⟨r,ts,X,ns,rfl,hR,G,q⟩:=h;have rR:=G.ln;have hRl:(C2 X).length=X.length:=by unfold C2;rw [A8]
  have iU:∀ z∈C2 X,z.2.length<=6:=fun z hz=>by
   obtain ⟨e,he,rfl⟩:=D4.mp hz;exact (G.ok e he).len.1
  walk_at "rd";refine fun p np p1 O8=>⟨⟨_,.of (C9 (C9 hR.top np) O8)⟩,forLs (xs:=ts.map V.ref) (fun i O H2=>∃ (l m:Addr) (u:Option V),O=[some (.ref r),some (.ref l),some (.ref m),u,none]/\Same H H2/\H2 l=some (.lst ((rowsW ((C2 X).take i) "row").flatten.map V.str))/\H2 m=some (.lst ((rowsW ((C2 X).take i) "marks").flatten.map V.str))/\(rowsW ((C2 X).take i) "row").flatten.length<=6*i/\(rowsW ((C2 X).take i) "marks").flatten.length<=6*i) ⟨p,p1,none,rfl,(Same.new np).trans (Same.new O8),C9 A7 O8,A7,J4 _,J4 _⟩ (by rintro i O H2 _ ⟨_,_,_,_,S,_⟩;exact .of (S _ _ hR.top)) ?_ ?_⟩
  .rintro P' Bk hP i x O H2 hx ⟨l,m,u,rfl,S,hl,hm,ll,ml⟩;obtain ⟨t,ht,rfl⟩:=K5 hx;obtain ⟨z,Z1,C7⟩:=Paired.at hR.row ht;have hz6:=iU z (P1 Z1);have hi:i<(C2 X).length:=(K1.mp Z1).1;have jM:∀ {b:Addr} {ps:List Str} {H3:Hp} {Z:VK},Same H H3->H3 b=some (.lst (ps.map V.str))->ps.length<=6*i->(∀ s H4,Same H3 H4->H4 s=some (.lst ((ps++z.2).map V.str))->Z (.ref s) H4)->rSlU K (V.ref t) (some 1) none H3 fun x H4=>kF K true [x] H4 fun y H5=>rAddU K (V.ref b) y H5 Z:=fun {b ps H3 Z} S3 hb P6 hq=>by
    have hT:D0 K H3 t ((z.1::z.2).map V.str):=.of (S3 _ _ C7);walk_at "rd";refine rSlR.t hT (Y4 (k:=1) (by decide) (by simp)) fun s ns=>?_
    rw [G3,nZ];walk_at "rd";refine rListR.l (.inr (.of A7)) fun s2 fQ=>?_
    walk_at "rd";refine rAddR.l (C9 (C9 hb ns) fQ) A7 (by rw [A8,A8];exact o8 (by lia)) fun s3 ns3=>?_
    exact hq s3 _ (((Same.new ns).trans (Same.new fQ)).trans (Same.new ns3)) (by rw [A7,F8])
   refine midS (fun O H3=>∃ (l2:Addr),O=[some (.ref r),some (.ref l2),some (.ref m),some (.ref t),none]/\Same H H3/\H3 l2=some (.lst ((rowsW ((C2 X).take (i+1)) "row").flatten.map V.str))/\H3 m=some (.lst ((rowsW ((C2 X).take i) "marks").flatten.map V.str))) ?_ ?_
   .intro M' hM';walk_at "rd";refine ⟨_,.inr (.of (S _ _ C7)),V.str z.1,N8 _ _,?_⟩;walk_at "rd";refine iteD (fun e=>?_) fun e=>hM' _ _ ⟨l,rfl,S,by rw [bN Z1,if_neg e];exact hl,hm⟩
    exact jM S hl ll fun s H4 S4 hs=>hM' _ _ ⟨s,rfl,S.trans S4,by rw [bN Z1,if_pos e];exact hs,S4 _ _ hm⟩
   rintro O H3 ⟨l2,rfl,S3,cP,fT⟩;have ll2:(rowsW ((C2 X).take (i+1)) "row").flatten.length<=6*(i+1):=by
    rw [bN Z1]
    split
    .rw [E4];lia
    .lia
   walk_at "rd";refine ⟨_,.inr (.of (S3 _ _ C7)),V.str z.1,N8 _ _,?_⟩;walk_at "rd";refine iteD (fun e=>?_) fun e=>hP _ _ _ ⟨l2,m,_,rfl,S3,cP,by rw [bN Z1,if_neg e];exact fT,ll2,by rw [bN Z1,if_neg e];lia⟩
   exact jM S3 fT ml fun s H4 S4 hs=>hP _ _ _ ⟨l2,s,_,rfl,S3.trans S4,S4 _ _ cP,by rw [bN Z1,if_pos e];exact hs,ll2,by rw [bN Z1,if_pos e,E4];lia⟩
  rintro O H2 ⟨l,m,u,rfl,S,hl,hm,ll,ml⟩;rw [A8,hR.len,K6] at hl hm;have hl':H2 l=some (.lst ((letsX X).map V.str)):=hl;have hm':H2 m=some (.lst ((mrksX X).map V.str)):=hm;clear hl hm;walk_at "rd";refine ⟨⟨_,.of (S _ _ hR.top)⟩,forLs (xs:=ts.map V.ref) (fun i O H3=>∃ (u v:Option V),O=[some (.ref r),some (.ref l),some (.ref m),u,v]/\Same H2 H3/\((C2 X).take i).flatMap (R0 (letsX X) (mrksX X))=[]) ⟨u,none,rfl,P2 _,rfl⟩ (by rintro i O H3 _ ⟨_,_,_,S3,_⟩;exact .of (S3 _ _ (S _ _ hR.top))) ?_ ?_⟩
  .rintro P' Bk hP i x O H3 hx ⟨u,v,rfl,S3,h0⟩;obtain ⟨t,ht,rfl⟩:=K5 hx;obtain ⟨z,Z1,C7⟩:=Paired.at hR.row ht;have cO:=P1 Z1;have hr3:=S3 _ _ (S _ _ C7);have hT:D0 K H3 t ((z.1::z.2).map V.str):=.of hr3;have cP:=S3 _ _ hl';have fT:=S3 _ _ hm';have f6:((C2 X).take (i+1)).flatMap (R0 (letsX X) (mrksX X))=R0 (letsX X) (mrksX X) z:=by
    rw [X4,Z1,V8,h0]
    simp
   have T9:∀ (p:Str) (more:List Str) (H4:Hp),Same H3 H4->R0 (letsX X) (mrksX X) z=p::more->∀ t2,H4 t2=none->Q (.ref t2) (A0 H4 t2 (.tup [.str p,.ref l])):=fun p more H4 S4 e t2 n2=>by
    have hd:dueX X=some p:=by
     unfold dueX;rw [<- X2 (i+1) (C2 X),V8,f6,e];rfl
    refine q t2 l _ (S.trans (S3.trans (S4.trans (Same.new n2)))) ?_ (C9 (S4 _ _ cP) n2);rw [A7,hd];rfl
   have rF:∃ y ys,z.2=y::ys:=by
    obtain ⟨e,he,rfl⟩:=D4.mp cO;cases h:e.2.2 with
    | nil=>exact absurd h (G.ok e he).len.2
    | cons y ys=>exact ⟨y,ys,rfl⟩
   obtain ⟨y,ys,hy⟩:=rF;walk_at "rd";refine midS (fun O H4=>O=[some (.ref r),some (.ref l),some (.ref m),some (.ref t),v]/\H4=H3/\(z.1=("great" : Str)->R0 (letsX X) (mrksX X) z=[])) ?_ ?_
   .intro M' hM';walk_at "rd";refine ⟨_,.inr hT,V.str z.1,N8 _ _,?_⟩;walk_at "rd";refine iteD (fun e=>?_) fun e=>hM' _ _ ⟨rfl,rfl,fun q=>absurd q e⟩
    refine ⟨_,.inr hT,V.str y,R7 (j:=1) (by rw [Q5,fX,hy];rfl),?_⟩
    try walk_at "rd"
    refine rInR.l (.inl (.of cP)) rfl (gN _) ⟨_,rfl,?_⟩;rw [bF,Bool.true_xor];have el:R0 (letsX X) (mrksX X) z=if (!decide (y∈letsX X))=true then [y] else []:=by
     unfold R0;rw [if_pos e,hy,List.take_succ_cons,i6,gC,cU]
    by_cases M3:(!decide (y∈letsX X))=true
    .rw [if_pos M3] at el ⊢
     exact ⟨_,.inr hT,V.str y,R7 (j:=1) (by rw [Q5,fX,hy];rfl),by decide,T9 y [] H3 (P2 _) el⟩
    .rw [if_neg M3] at el ⊢
     exact hM' _ _ ⟨rfl,rfl,fun _=>el⟩
   rintro O H4 ⟨rfl,rfl,hg⟩;have jN:z.1=("as" : Str)->∃ x xs,ys=x::xs:=fun e=>by
    obtain ⟨en,he,rfl⟩:=D4.mp cO;have hk:=G.ok en he;generalize en.2=z at hk e hy;cases hk with
    | as is h0 _ _=>
     cases is with
     | nil=>exact absurd rfl h0
     | cons i is=>
      obtain ⟨_,rfl⟩:=List.cons.inj hy;exact ⟨_,_,rfl⟩
    | row=>exact absurd (show Str.ofString "row"=_ from e) (by decide +kernel)
    | marks=>exact absurd (show Str.ofString "marks"=_ from e) (by decide +kernel)
    | over=>exact absurd (show Str.ofString "over"=_ from e) (by decide +kernel)
    | great=>exact absurd (show Str.ofString "great"=_ from e) (by decide +kernel)
   have ela:z.1=("as" : Str)->∀ x xs,ys=x::xs->R0 (letsX X) (mrksX X) z=(if (!decide (x∈letsX X))=true then [x] else [])++xs.filter (fun p=>!decide (p∈letsX X) && !decide (p∈mrksX X)):=fun e x xs ey=>by
    unfold R0;rw [if_neg (by rw [e];decide +kernel),if_pos e,hy,ey];simp only [fZ,List.drop_zero,List.take_succ_cons,i6,gC,cU]
   refine midS (fun O H5=>O=[some (.ref r),some (.ref l),some (.ref m),some (.ref t),v]/\H5=H4/\(z.1=("as" : Str)->∀ x xs,ys=x::xs->(!decide (x∈letsX X))=false)) ?_ ?_
   .intro M' hM';walk_at "rd";refine ⟨_,.inr hT,V.str z.1,N8 _ _,?_⟩;walk_at "rd";refine iteD (fun e=>?_) fun e=>hM' _ _ ⟨rfl,rfl,fun q=>absurd q e⟩
    obtain ⟨x,xs,ey⟩:=jN e;have Q3:G7 ((z.1::z.2).map V.str) 2=some (V.str x):=R7 (j:=2) (by rw [Q5,fX,hy,fX,ey];rfl);refine ⟨_,.inr hT,V.str x,Q3,?_⟩
    try walk_at "rd"
    refine rInR.l (.inl (.of cP)) rfl (gN _) ⟨_,rfl,?_⟩;rw [bF,Bool.true_xor];have el:=ela e x xs ey
    by_cases M3:(!decide (x∈letsX X))=true
    .rw [if_pos M3] at el ⊢
     exact ⟨_,.inr hT,V.str x,Q3,by decide,T9 x _ H4 (P2 _) el⟩
    .rw [if_neg M3];refine hM' _ _ ⟨rfl,rfl,fun _ x2 xs2 e2=>?_⟩;obtain ⟨rfl,_⟩:=List.cons.inj (ey.symm.trans e2)
     simpa using M3
   rintro O H5 ⟨rfl,rfl,ha⟩;walk_at "rd";refine ⟨_,.inr hT,V.str z.1,N8 _ _,?_⟩;walk_at "rd";refine iteD (fun e=>?_) fun e=>hP _ _ _ ⟨_,_,rfl,S3,?_⟩
   .obtain ⟨x,xs,ey⟩:=jN e;have el:=ela e x xs ey;rw [if_neg (by rw [ha e x xs ey];decide),aR] at el;refine rSlR.t hT (Y4 (k:=3) (by decide) (by simp)) fun s fQ=>?_
    rw [show cutV ((z.1::z.2).map V.str) (some 3) none=xs.map V.str by rw [show cutV ((z.1::z.2).map V.str) (some 3) none=_ from x6 ((z.1::z.2).map V.str) 3,hy,ey];rfl];have S6:Same H5 (A0 H5 s (.tup (xs.map V.str))):=Same.new fQ;have sI:A0 H5 s (.tup (xs.map V.str)) s=some (.tup (xs.map V.str)):=A7;generalize A0 H5 s (.tup (xs.map V.str))=H6 at S6 sI;refine ⟨s,rfl,⟨_,.of sI⟩,forT (xs:=xs.map V.str) (fun j O H7=>∃ (v:Option V),O=[some (.ref r),some (.ref l),some (.ref m),some (.ref t),v]/\H7=H6/\(xs.take j).filter (fun p=>!decide (p∈letsX X) && !decide (p∈mrksX X))=[]) ⟨_,rfl,rfl,rfl⟩ (fun j O H7 _ ⟨_,_,e,_⟩=>by rw [e];exact .of sI) ?_ ?_⟩
    .rintro j w O H7 hw ⟨v,rfl,rfl,hf⟩;obtain ⟨p,hp,rfl⟩:=K5 hw;have l6:=S6 _ _ cP;have m6:=S6 _ _ fT;walk_at "rd";refine rInR.l (.inl (.of l6)) rfl (gN _) ⟨_,rfl,?_⟩;rw [bF,Bool.true_xor];have efl:∀ b:Bool,((xs.take (j+1)).filter (fun p=>!decide (p∈letsX X) && !decide (p∈mrksX X))=if b=true then [p] else [])↔((if (!decide (p∈letsX X) && !decide (p∈mrksX X))=true then [p] else [])=if b=true then [p] else []):=fun b=>by
      rw [L6 hp,V9,hf,aR,gC,cU]
     by_cases h1:(!decide (p∈letsX X))=true
     .rw [if_pos h1];refine rInR.l (.inl (.of m6)) rfl (gN _) ⟨_,rfl,?_⟩;rw [bF,Bool.true_xor]
      by_cases h2:(!decide (p∈mrksX X))=true
      .rw [if_pos h2];refine ⟨by decide,?_⟩;refine T9 p ((xs.drop (j+1)).filter (fun p=>!decide (p∈letsX X) && !decide (p∈mrksX X))) H7 S6 ?_;rw [el,<- X2 (j+1) xs,V9,(efl true).mpr (by rw [h1,h2];rfl)]
       simp
      .rw [if_neg h2];refine ⟨rfl,(efl false).mpr ?_⟩;rw [Bool.not_eq_true] at h2;rw [h2,Bool.and_false]
     .rw [if_neg h1];refine ⟨rfl,(efl false).mpr ?_⟩;rw [Bool.not_eq_true] at h1;rw [h1,Bool.false_and]
    rintro O H7 ⟨v,rfl,rfl,hf⟩;rw [A8,K6] at hf;exact hP _ _ _ ⟨_,_,rfl,S3.trans S6,by rw [f6,el,hf]⟩
   .rw [f6]
    by_cases e2:z.1=("great" : Str)
    .exact hg e2
    .unfold R0;rw [if_neg e2,if_neg e]
  rintro O H3 ⟨u,v,rfl,S3,h0⟩;rw [A8,hR.len,K6] at h0;walk_at "rd";refine ⟨by decide,fun t nt=>?_⟩;have hd:dueX X=none:=by unfold dueX;rw [h0];rfl
  refine q t l _ (S.trans (S3.trans (Same.new nt))) ?_ (C9 (S3 _ _ hl') nt);rw [A7,hd];rfl
theorem sc_l_kinds:FnScope ["_law_e", "_law_some"] ["_law_e"] (D3 eI):=L7
abbrev zH:List Str:=["_law_e", "_law_some"]
theorem Y9:VS zH eI "_law_e" 0:=vq
theorem zI:VS zH eI "_law_some" 1:=vq
theorem zJ:LS eI "_law_some":=lq
theorem agz(F:FunD K "_law_kinds" "_law_kinds" eI f fd)(T:Txt P w K mg C C_NoLetter):FnOk P w K mg base G0 1 f fd ["_law_e"] (xR C_NoLetter):=by
 refine F.ok sc_l_kinds ?_ ?_
 .rintro _ _ _ _ ⟨x,p,rfl,_⟩;rfl
 .intro cdv A outer s H vs Q E hr h;have D6:=hu_of hr;have hu:=hr.units;obtain ⟨a_Clash,m_Clash,M_Clash⟩:=T.x_Clash;obtain ⟨a_NoDeed,m_NoDeed,M_NoDeed⟩:=T.x_NoDeed;obtain ⟨a_NoLetter,m_NoLetter,M_NoLetter⟩:=T.x_NoLetter;obtain ⟨a_NoName,m_NoName,M_NoName⟩:=T.x_NoName;obtain ⟨a_NoRule,m_NoRule,M_NoRule⟩:=T.x_NoRule;obtain ⟨a_NoSign,m_NoSign,M_NoSign⟩:=T.x_NoSign;obtain ⟨a_NoText,m_NoText,M_NoText⟩:=T.x_NoText;obtain ⟨a_NotPlain,m_NotPlain,M_NotPlain⟩:=T.x_NotPlain;obtain ⟨a_Ring,m_Ring,M_Ring⟩:=T.x_Ring;obtain ⟨a_Round,m_Round,M_Round⟩:=T.x_Round;obtain ⟨a_Twice,m_Twice,M_Twice⟩:=T.x_Twice;refine ⟨_,QSs.out (C3 (E1 (n:=1) sc_l_kinds.nd rfl zJ (P8 (qa_c (qe_cB (q_isX T.cn T.ct (K:=K)) T.b_isinstance W4 (qa_c (vi Y9) (qa_c (T3 m_Clash) A6))) (qa_c (qe_cB (q_isX T.cn T.ct (K:=K)) T.b_isinstance W4 (qa_c (vi Y9) (qa_c (T3 m_NoLetter) A6))) (qa_c (qe_cB (q_isX T.cn T.ct (K:=K)) T.b_isinstance W4 (qa_c (vi Y9) (qa_c (T3 m_Round) A6))) (qa_c (qe_cB (q_isX T.cn T.ct (K:=K)) T.b_isinstance W4 (qa_c (vi Y9) (qa_c (T3 m_NoSign) A6))) A6))))))
   (C3 (E1 (n:=1) sc_l_kinds.nd rfl zJ (qe_op (q_add (K:=K)) (vi zI) (P8 (qa_c (qe_cB (q_isX T.cn T.ct (K:=K)) T.b_isinstance W4 (qa_c (vi Y9) (qa_c (T3 m_NoRule) A6))) (qa_c (qe_cB (q_isX T.cn T.ct (K:=K)) T.b_isinstance W4 (qa_c (vi Y9) (qa_c (T3 m_Twice) A6))) (qa_c (qe_cB (q_isX T.cn T.ct (K:=K)) T.b_isinstance W4 (qa_c (vi Y9) (qa_c (T3 m_NoText) A6))) (qa_c (qe_cB (q_isX T.cn T.ct (K:=K)) T.b_isinstance W4 (qa_c (vi Y9) (qa_c (T3 m_NotPlain) A6))) A6)))))))
   (C4 (E8 (qe_op (q_add (K:=K)) (vi zI) (P8 (qa_c (qe_cB (q_isX T.cn T.ct (K:=K)) T.b_isinstance W4 (qa_c (vi Y9) (qa_c (T3 m_NoName) A6))) (qa_c (qe_cB (q_isX T.cn T.ct (K:=K)) T.b_isinstance W4 (qa_c (vi Y9) (qa_c (T3 m_Ring) A6))) (qa_c (qe_cB (q_isX T.cn T.ct (K:=K)) T.b_isinstance W4 (qa_c (vi Y9) (qa_c (T3 m_NoDeed) A6))) (qa_c (ak4 (K:=K) (qe_cB (q_isX T.cn T.ct (K:=K)) T.b_isinstance W4 (qa_c (vi Y9) (qa_c (qe_ty T.b_ValueError ad5) A6)))) A6)))))))))),?_⟩
  obtain ⟨x,p0,rfl,hk,q⟩:=h;obtain ⟨dx,hx,hd⟩:=hk.ex;obtain ⟨fN,MN⟩:=T.er_NoLetter;have no:∀ {a:Addr} {b:Bool} {H1:Hp} {Q':V->Hp->Prop},Same H H1->K9 K (.ref C_NoLetter) (.ref a)=some b->Q' (V.bl b) H1->rIsX K [V.ref x,V.ref a] H1 Q':=fun S h1 h2=>⟨x,C_NoLetter,dx,fN,_,.ref _,.ref _,_,rfl,S _ _ hx,S _ _ hd,MN,rfl,h1,h2⟩
  walk_at "rd";refine no (P2 _) M_Clash (no (P2 _) M_NoLetter (no (P2 _) M_Round (no (P2 _) M_NoSign ⟨by decide,fun p np=>?_⟩)));have S1:Same H (A0 H p (.lst [V.bl false,V.bl true,V.bl false,V.bl false])):=Same.new np;refine no S1 M_NoRule (no S1 M_Twice (no S1 M_NoText (no S1 M_NotPlain ⟨by decide,fun p1 O8=>?_⟩)));refine rAddR.l (C9 A7 O8) A7 (by decide) fun p2 V5=>?_
  have S2:=(S1.trans (Same.new O8)).trans (Same.new (u:=HO.lst ([V.bl false,V.bl true,V.bl false,V.bl false]++[V.bl false,V.bl false,V.bl false,V.bl false])) V5);refine no S2 M_NoName (no S2 M_Ring (no S2 M_NoDeed ⟨x,C_NoLetter,dx,fN,_,_,_,true,rfl,S2 _ _ hx,S2 _ _ hd,MN,rfl,T.y_ValueError,true,rfl,by decide,fun p3 mO=>?_⟩));walk_at "rd";refine rAddR.l (C9 A7 mO) A7 (by decide) fun p4 np4=>?_
  have S3:=S2.trans (Same.new (u:=HO.lst [V.bl false,V.bl false,V.bl false,V.bl (!true)]) mO);exact q p4 _ (S3.free np4) (S3.trans (Same.new np4)) A7
theorem sc_l_asked:FnScope ["_law_rules_here", "_law_word", "_law_found", "_law_e"] ["_law_rules_here"] (D3 j9):=L7
abbrev lQ:List Str:=["_law_rules_here", "_law_word", "_law_found", "_law_e"]
theorem vcE:VS lQ j9 "_law_rules_here" 0:=vq
theorem vcF:VS lQ j9 "_law_word" 1:=vq
theorem vcG:VS lQ j9 "_law_found" 2:=vq
theorem vcH:VS lQ j9 "_law_e" 3:=vq
theorem zK:LS j9 "_law_word":=lq
theorem zL:LS j9 "_law_found":=lq
theorem afq:(D3 j9).names.lookup ("_law_e" : Str)=some .local:=by decide +kernel
theorem agA(F:FunD K "_law_asked" "_law_asked" j9 f fd)(T:Txt P w K mg C C_NoLetter)(G_Order___init__:lA P w K mg base 5 C "Order" ["self", "rules"] (lF C C_NoLetter))(G_Order_letters:MO P w K mg base 1 C "letters" ["self"] (oW C)):FnOk P w K mg base G0 7 f fd ["_law_rules_here"] xP:=by
 refine F.ok sc_l_asked ?_ ?_
 .rintro _ _ _ _ ⟨r,ts,X,ns,rfl,_⟩;rfl
 .intro cdv A outer s H vs Q E hr h;have D6:=hu_of hr;have hu:=hr.units;obtain ⟨d_NoLetter,md_NoLetter,CC_NoLetter,mr_NoLetter⟩:=T.c_NoLetter;refine ⟨_,QSs.out (C3 (E1 (n:=1) sc_l_asked.nd rfl zK E5)
   (C3 (wX (ajt (qx_cB (fun _=>(q_len (K:=K))) T.b_len dQ (ajs (wY G_Order___init__ (hm hr) (fun _=>(qa_c (vi vcE) A6))) G_Order_letters (hm hr))) md_NoLetter CC_NoLetter sc_l_asked.nd (j:=2) rfl zL (i:=3) rfl afq (fun _ _=>(C3 (E1 (n:=1) sc_l_asked.nd rfl zK E5)
   (C4 (E1 (n:=2) sc_l_asked.nd rfl zL (aly (vi vcH) (K:=K)))))) (K:=K)))
   (C4 (E8 (M0 (qa_c (vi vcF) (qa_c (vi vcG) A6))))))),?_⟩
  obtain ⟨r,ts,X,ns,rfl,hR,G,q⟩:=h;obtain ⟨fN,MN⟩:=T.er_NoLetter;walk_at "rd";intro x dx nx ndx ndxx;have S1:Same H (A0 (A0 H dx (.own x)) x (.ins C dx [])):=(Same.new ndx).trans (Same.new (by rw [A9 ndxx.symm];exact nx));have u5:A0 (A0 H dx (.own x)) x (.ins C dx []) x=some (.ins C dx []):=A7;generalize A0 (A0 H dx (.own x)) x (.ins C dx [])=H1 at S1 u5;have V6:∀ {H2:Hp},SameBut x H1 H2->Same H H2:=fun B b o hb=>B b o (fun e=>by rw [e,nx] at hb;cases hb) (S1 b o hb)
  refine ⟨x,dx,r,ts,C2 X,gX ns X,idxN ns,idxN ns,rfl,u5,hR.same S1,G.goodJ,fun e=>G.good (by rw [<- G.mis];exact e),fun e j ll ml md L M H2 _ _ _ _ B2 hO=>⟨rfl,?_⟩,fun p hp dx' H2 B2 hd=>⟨C_NoLetter,dx',rfl,rfl,mr_NoLetter,fun y ny=>?_⟩⟩
  .rw [G.mis] at e;obtain ⟨dx2,ho⟩:=hO.ob;refine ⟨_,_,ho,alh _ _ _ _ _ _ (by decide +kernel),x,j,ll,ml,md,gX ns X,C2 X,L,M,rfl,hO,fun l nl=>?_⟩;walk_at "rd";refine ⟨L.length,.inl ⟨_,.of A7,by rw [A8]⟩,by decide,fun t nt=>q t _ ((V6 B2).trans ((Same.new nl).trans (Same.new nt))) ?_⟩;rw [A7];unfold askV;rw [e,kO (eA _) hO.l1.1 hO.l1.2]
  .rw [G.mis] at hp;walk_at "rd";refine ⟨C_NoLetter,dx',A7,fN,_,C9 hd ny,MN,T.na_NoLetter,_,rfl,by decide,fun t nt=>q t _ ((V6 B2).trans ((Same.new ny).trans (Same.new nt))) ?_⟩;rw [A7];unfold askV;rw [hp]
theorem sc_l_refused:FnScope ["_law_rules_here", "_law_kept", "_law_e"] ["_law_rules_here"] (D3 y9):=L7
abbrev qA:List Str:=["_law_rules_here", "_law_kept", "_law_e"]
theorem vcK:VS qA y9 "_law_rules_here" 0:=vq
theorem zM:VS qA y9 "_law_kept" 1:=vq
theorem vcM:VS qA y9 "_law_e" 2:=vq
theorem zN:LS y9 "_law_kept":=lq
theorem aeb:(D3 y9).names.lookup ("_law_e" : Str)=some .local:=by decide +kernel
theorem ae0(F:FunD K "_law_refused" "_law_refused" y9 f fd)(T:Txt P w K mg C C_NoLetter)(G_Order___init__:lA P w K mg base 5 C "Order" ["self", "rules"] (lF C C_NoLetter))(G_l_kinds:FO P w K mg base 1 "_law_kinds" ["_law_e"] [] (xR C_NoLetter)):FnOk P w K mg base G0 7 f fd ["_law_rules_here"] xQ:=by
 refine F.ok sc_l_refused ?_ ?_
 .rintro _ _ _ _ ⟨r,ts,X,ns,p,rfl,_⟩;rfl
 .intro cdv A outer s H vs Q E hr h;have D6:=hu_of hr;have hu:=hr.units;obtain ⟨d_LoreError,md_LoreError,CC_LoreError,mr_LoreError⟩:=T.c_LoreError;refine ⟨_,QSs.out (C3 (E1 (n:=1) sc_l_refused.nd rfl zN kK)
   (C3 (wX (ahW (wY G_Order___init__ (hm hr) (fun _=>(qa_c (vi vcK) A6))) md_LoreError CC_LoreError sc_l_refused.nd (i:=2) rfl aeb (fun _ _=>(C4 (E1 (n:=1) sc_l_refused.nd rfl zN (vi vcM)))) (K:=K)))
   (C4 (E8 (gO (bG amW (vi zM) kK) (nY (bG (q_eq (K:=K) hu) (D8 G_l_kinds (hm hr) (qa_c (vi zM) A6)) (qe_op (q_add (K:=K)) (P8 (qa_c qe_bl (qa_c qe_bl A6))) (qe_op q_mul (P8 (qa_c qe_bl A6)) A5))))))))),?_⟩
  obtain ⟨r,ts,X,ns,p,rfl,hR,G,hd,q⟩:=h;obtain ⟨fN,MN⟩:=T.er_NoLetter;walk_at "rd";intro x dx nx ndx ndxx;have S1:Same H (A0 (A0 H dx (.own x)) x (.ins C dx [])):=(Same.new ndx).trans (Same.new (by rw [A9 ndxx.symm];exact nx));have u5:A0 (A0 H dx (.own x)) x (.ins C dx []) x=some (.ins C dx []):=A7;generalize A0 (A0 H dx (.own x)) x (.ins C dx [])=H1 at S1 u5;have V6:∀ {H2:Hp},SameBut x H1 H2->Same H H2:=fun B b o hb=>B b o (fun e=>by rw [e,nx] at hb;cases hb) (S1 b o hb)
  refine ⟨x,dx,r,ts,C2 X,gX ns X,idxN ns,idxN ns,rfl,u5,hR.same S1,G.goodJ,fun e=>G.good (by rw [<- G.mis];exact e),fun e=>(by rw [G.mis,hd] at e;cases e),fun p' hp dx' H2 B2 T8=>⟨C_NoLetter,dx',rfl,rfl,mr_LoreError,fun y ny=>?_⟩⟩;walk_at "rd";rw [if_pos (by decide)];have S2:=(V6 B2).trans (Same.new (u:=xc y C_NoLetter dx') ny);refine ⟨y,p',rfl,⟨dx',A7,C9 T8 ny⟩,fun l H3 nl S3 hl=>⟨by decide,fun p np=>⟨by decide,fun p1 O8=>⟨p1,10,[V.bl false],rfl,rfl,A7,by decide,by decide,by decide,fun p2 V5=>?_⟩⟩⟩⟩;walk_at "rd";refine rAddR.l (C9 (C9 A7 O8) V5) A7 (by decide) fun p3 mO=>?_
  have S4:=(Same.new (u:=HO.lst [V.bl false,V.bl true]) np).trans ((Same.new (u:=HO.lst [V.bl false]) O8).trans ((Same.new (u:=HO.lst (N2 (10:Int).toNat [V.bl false]).flatten) V5).trans (Same.new (u:=HO.lst ([V.bl false,V.bl true]++(N2 (10:Int).toNat [V.bl false]).flatten)) mO)));have h4:A0 (A0 (A0 (A0 H3 p (HO.lst [V.bl false,V.bl true])) p1 (HO.lst [V.bl false])) p2 (HO.lst (N2 (10:Int).toNat [V.bl false]).flatten)) p3 (HO.lst ([V.bl false,V.bl true]++(N2 (10:Int).toNat [V.bl false]).flatten)) p3=some (.lst (kindN.map V.bl)):=A7;generalize A0 (A0 (A0 (A0 H3 p (HO.lst [V.bl false,V.bl true])) p1 (HO.lst [V.bl false])) p2 (HO.lst (N2 (10:Int).toNat [V.bl false]).flatten)) p3 (HO.lst ([V.bl false,V.bl true]++(N2 (10:Int).toNat [V.bl false]).flatten))=H4 at S4 h4;refine ⟨_,.lst (.of (S4 _ _ hl)) (pG _),_,.lst (.of h4) (pG _),by decide,?_⟩;rw [show (PyData.list (kindN.map PyData.bool)).eqv (PyData.list (kindN.map PyData.bool))=true by decide];exact q _ (S2.trans (S3.trans S4))
theorem sc_law:FnScope ["_law_script", "_law_rules_here", "_law_due", "_law_letters", "_law_found"] ["_law_script"] (D3 s_law):=L7
abbrev n_law:List Str:=["_law_script", "_law_rules_here", "_law_due", "_law_letters", "_law_found"]
theorem vcO:VS n_law s_law "_law_script" 0:=vq
theorem qB:VS n_law s_law "_law_rules_here" 1:=vq
theorem zO:VS n_law s_law "_law_due" 2:=vq
theorem vcR:VS n_law s_law "_law_letters" 3:=vq
theorem lR:VS n_law s_law "_law_found" 4:=vq
theorem vcT:LS s_law "_law_rules_here":=lq
theorem vcU:LS s_law "_law_due":=lq
theorem vcV:LS s_law "_law_letters":=lq
theorem vcW:LS s_law "_law_found":=lq
theorem ans(F:FunD K "law" "law" s_law f fd)(T:Txt P w K mg C C_NoLetter)(G_l_rules:FO P w K mg base 5 "_law_rules" ["_law_script"] [] (xN K))(G_l_first:FO P w K mg base 1 "_law_first" ["_law_rules_here"] [] xO)(G_l_asked:FO P w K mg base 7 "_law_asked" ["_law_rules_here"] [] xP)(G_l_refused:FO P w K mg base 7 "_law_refused" ["_law_rules_here"] [] xQ):FnOk P w K mg base G0 8 f fd ["_law_script"] (spLaw K):=by
 refine F.ok sc_law ?_ ?_
 .rintro _ _ _ _ ⟨a,ns,rfl,_⟩;rfl
 .intro cdv A outer s H vs Q E hr h;have D6:=hu_of hr;have hu:=hr.units;refine ⟨_,QSs.out (C3 (E1 (n:=1) sc_law.nd rfl vcT (D8 G_l_rules (hm hr) (qa_c (vi vcO) A6)))
   (C3 (amU (D8 G_l_first (hm hr) (qa_c (vi qB) A6)) (bI (K:=K) (n:=2) (U4 ((E9 (n:=2) sc_law.nd rfl vcU (.inl rfl))) (U4 ((E9 (n:=3) sc_law.nd rfl vcV (.inl rfl))) bH))))
   (C3 (E1 (n:=4) sc_law.nd rfl vcW (D8 G_l_asked (hm hr) (qa_c (qe_cT (bJ (K:=K) (calm:=true)) T.b_list bE (qa_c (vi qB) A6)) A6)))
   (C3 (qs_if (F7 q_isN (vi zO) kK) (C4 (E8 (bG (q_eq (K:=K) hu) (vi lR) (M0 (qa_c E5 (qa_c (qe_cB (anj (P:=P) (w:=w)) T.b_len dQ (qa_c (qe_cT (ani (P:=P) (w:=w) (K:=K) (calm:=true)) T.b_set amQ (qa_c (vi vcR) A6)) A6)) A6)))))) K2)
   (C4 (E8 (gO (bG (q_eq (K:=K) hu) (qe_ix (K:=K) (vi lR) A5) E5) (gO (qe_cB q_isi T.b_isinstance W4 (qa_c (qe_ix (K:=K) (vi lR) A5) (qa_c (qe_ty T.b_str amR) A6))) (gO (bG (q_eq (K:=K) hu) (qe_ix (K:=K) (vi lR) A5) (vi zO)) (nY (D8 G_l_refused (hm hr) (qa_c (vi qB) A6)))))))))))),?_⟩
  obtain ⟨a,ns,rfl,hS,B3,q⟩:=h;walk_at "rd";refine ⟨a,ns,rfl,hS,fun r ts X H1 nr S1 hR G=>⟨r,ts,X,ns,rfl,hR,G,fun t l H2 S2 ht hl=>⟨t,rfl,_,.of ht,rfl,_,_,rfl,_,_,rfl,rfl,?_⟩⟩⟩;have hR2:=hR.same S2;walk_at "rd";refine rListR.l (.inl (.of hR2.top)) fun r2 nr2=>?_
  have S3:Same H2 (A0 H2 r2 (.lst (ts.map V.ref))):=Same.new nr2;have hR3:IsRules (A0 H2 r2 (.lst (ts.map V.ref))) r2 ts (C2 X):=⟨A7,(hR2.same S3).row⟩
  generalize A0 H2 r2 (.lst (ts.map V.ref))=H3 at S3 hR3;refine ⟨r2,ts,X,ns,rfl,hR3,G,fun t2 H4 S4 aK=>?_⟩;have S24:=S3.trans S4;have rJ:=S24 _ _ hl;cases hd:dueX X with
  | none=>
   show if decide (optP none=V.non)=true then _ else _
   rw [if_pos (show decide (optP none=V.non)=true from rfl)];unfold askV at aK;rw [hd] at aK;have Z0:=G.fl "row";have jO:(metK (kS (letsX X))).length=(toldL (rowsW (C2 X) "row")).length:=by
    rw [ajy (js:=kS (toldL (rowsW (C2 X) "row"))) (fun k=>by
     rw [xD,xD];exact ⟨fun ⟨z,hz,e⟩=>⟨z,mem_toldF.mpr hz,e⟩,fun ⟨z,hz,e⟩=>⟨z,mem_toldF.mp hz,e⟩⟩),ahZ (kS_nd (eA _))]
    unfold kS;rw [A8]
   have cF:(toldL (rowsW (C2 X) "row")).length<=360:=F6 (dR _) Z0;refine ⟨rfl,l,kS (letsX X),rfl,by rw [kS_kV];exact .of rJ,?_,fun sA nsA=>⟨sA,_,rfl,A7,by lia,by decide,fun p np=>?_⟩⟩
   .unfold kS;rw [A8];unfold letsX;lia
   refine ⟨_,.tup (.of (C9 (C9 aK nsA) np)) (.cons (.str _ (by decide +kernel)) (.cons (.int _) .nil)),_,.tup (.of A7) (.cons (.str _ (by decide +kernel)) (.cons (.int _) .nil)),by simp [PyData.depth,PyData.depthAll],?_⟩;rw [jO];rw [show (PyData.tuple [PyData.str (Str.ofString "made"),PyData.int ((toldL (rowsW (C2 X) (Str.ofString "row"))).length:Nat)]).eqv (PyData.tuple [PyData.str (Str.ofString "made"),PyData.int ((toldL (rowsW (C2 X) (Str.ofString "row"))).length:Nat)])=true by simp [PyData.eqv,PyData.eqvAll]];exact q _
  | some p=>
   show if decide (optP (some p)=V.non)=true then _ else _
   rw [if_neg (by rw [decide_eq_true_iff];intro e;cases e)];unfold askV at aK;rw [hd] at aK;walk_at "rd";refine ⟨_,.inr (.of aK),_,N8 _ _,?_⟩;walk_at "rd";refine iteT ⟨_,.inr (.of aK),V.str p,R7 (j:=1) rfl, "str",rfl,rfl,iteT ⟨_,.inr (.of aK),V.str p,R7 (j:=1) rfl,?_⟩⟩;show rEqU K (V.str p) (V.str p) H4 _;walk_at "rd";rw [if_pos (show decide True=true from rfl)];exact ⟨r,ts,X,ns,p,rfl,hR2.same S24,G,hd,fun H' _=>q H'⟩
end
theorem all_mk{l:PySem.W.OpenLaw}{w:World}{C_NoLetter:Addr}(X:K.In h)(G:h.Ns mainGlobals mg)(hfa:mg "law"=some (.ref fa)){f0:Addr}{od0 an0:Option Addr}{sl0:Array (Option Value)}{oc0 kV0 dc0 pm0 cd0 ct0:Value}(i0:aY K (.ref f0)=true)(l0:K.lookup f0=some ⟨oc0,od0,.func (R5 "__init__" "NoLetter.__init__" (W2 y1) (R9 y1) (D3 y1) .none kV0 dc0 pm0 an0 cd0 ct0),sl0⟩)(c0:Z8 K cd0 "NoLetter.__init__"=true)(k0:Q6 K (.ref f0)=true)(d1:DF K "told" j7)(d2:DF K "followers" U5)(d3:DF K "count_ahead" j8)(d4:DF K "lined_up" N9)(d5:DF K "is_figure" lB)(d6:DF K "has_rule" hU)(d7:DF K "pieces_told" lC)(d8:DF K "is_clash" y3)(d9:DF K "jobs_of" Y5)(d10:DF K "misused" p6){f11:Addr}{od11 an11:Option Addr}{sl11:Array (Option Value)}{oc11 kV11 dc11 pm11 cd11 ct11:Value}(a11:E7 K mainGlobals "check_letters"=some (some (.ref f11)))(l11:K.lookup f11=some ⟨oc11,od11,.func (R5 "check_letters" "check_letters" (W2 Y6) (R9 Y6) (D3 Y6) .none kV11 dc11 pm11 an11 cd11 ct11),sl11⟩)(c11:Z8 K cd11 "check_letters"=true)(k11:Q6 K (.ref f11)=true)(d12:DF K "line_of" hV)(d13:DF K "forms_of" y4)(d14:DF K "steps_of" N4){f15:Addr}{od15 an15:Option Addr}{sl15:Array (Option Value)}{oc15 kV15 dc15 pm15 cd15 ct15:Value}(a15:L4 K (.ref C) "__init__"=some (some (.ref f15)))(i15:aY K (.ref f15)=true)(l15:K.lookup f15=some ⟨oc15,od15,.func (R5 "__init__" "Order.__init__" (W2 y7) (R9 y7) (D3 y7) .none kV15 dc15 pm15 an15 cd15 ct15),sl15⟩)(c15:Z8 K cd15 "Order.__init__"=true)(k15:Q6 K (.ref f15)=true){f16:Addr}{od16 an16:Option Addr}{sl16:Array (Option Value)}{oc16 kV16 dc16 pm16 cd16 ct16:Value}(a16:L4 K (.ref C) "letters"=some (some (.ref f16)))(i16:aY K (.ref f16)=true)(l16:K.lookup f16=some ⟨oc16,od16,.func (R5 "letters" "Order.letters" (W2 bP) (R9 bP) (D3 bP) .none kV16 dc16 pm16 an16 cd16 ct16),sl16⟩)(c16:Z8 K cd16 "Order.letters"=true)(k16:Q6 K (.ref f16)=true)(d17:DF K "_law_cell_at" hW)(d18:DF K "_law_sign" p7)(d19:DF K "_law_part" y8)(d20:DF K "_law_rule" P3)(d21:DF K "_law_plain" lD)(d22:DF K "_law_rules" P0)(d23:DF K "_law_first" Y7)(d24:DF K "_law_kinds" eI)(d25:DF K "_law_asked" j9)(d26:DF K "_law_refused" y9){f27:Addr}{od27 an27:Option Addr}{sl27:Array (Option Value)}{oc27 kV27 dc27 pm27 cd27 ct27:Value}(a27:E7 K mainGlobals "law"=some (some (.ref f27)))(l27:K.lookup f27=some ⟨oc27,od27,.func (R5 "law" "law" (W2 s_law) (R9 s_law) (D3 s_law) .none kV27 dc27 pm27 an27 cd27 ct27),sl27⟩)(c27:Z8 K cd27 "law"=true)(k27:Q6 K (.ref f27)=true){N_NoLetter:Addr}{nm_NoLetter q_NoLetter:Str}{bs_NoLetter bm_NoLetter sub_NoLetter:List Value}{sn_NoLetter:List Str}{ab_NoLetter:Bool}{col_NoLetter:Option Bool}{dd_NoLetter:Option Addr}{k0_NoLetter k1_NoLetter k2_NoLetter k3_NoLetter k5_NoLetter:Option Value}(aE_NoLetter:E7 K mainGlobals "NoLetter"=some (some (.ref C_NoLetter)))(lE_NoLetter:K.lookup C_NoLetter=some (excClassObj nm_NoLetter q_NoLetter C_NoLetter N_NoLetter bs_NoLetter bm_NoLetter true sn_NoLetter sub_NoLetter ab_NoLetter col_NoLetter dd_NoLetter k0_NoLetter k1_NoLetter k2_NoLetter k3_NoLetter k5_NoLetter "ValueError.__new__"))(t1_NoLetter:cY K hJ bm_NoLetter=true)(t2_NoLetter:p5 hJ (.ref C_NoLetter::bm_NoLetter)=true)(t3_NoLetter:PySem.W.nsOkIn K N_NoLetter=true)(t4_NoLetter:E7 K N_NoLetter "__init__"=some (some (.ref f0)))(sa_NoLetter:L4 K (.ref C_NoLetter) "__setattr__"=some (some (.builtin "object.__setattr__")))(ga_NoLetter:L4 K (.ref C_NoLetter) "__getattribute__"=some (some (.builtin "BaseException.__getattribute__")))(gt_NoLetter:L4 K (.ref C_NoLetter) "__getattr__"=some (none))(cl_NoLetter:L4 K (.ref C_NoLetter) "__class__"=some (some (.builtin "object.__class__")))(bx_NoLetter:R4 K C_NoLetter (.type "BaseException")=some true)(ob_NoLetter:R4 K C_NoLetter (.type "object")=some true)(kp_NoLetter:Q6 K (.ref C_NoLetter)=true)(nE_NoLetter:L4 K (.ref C_NoLetter) "piece"=some none){aL:Addr}(eL:E7 K mainGlobals "LoreError"=some (some (.ref aL)))(eL1:aX K (.ref aL) "__getattribute__"=some (some (.builtin "type.__getattribute__")))(eL2:PySem.W.readsIn K aL (.type "type")=true)(eL3:PySem.W.findCls K (.ref aL) (.type "type") "__init__"=some (.val (.builtin "ValueError.__init__")))(ecn:aX K (.builtin "object.__class__") "__get__"=some (some (.builtin "getset_descriptor.__get__")))(ect:gE K (.builtin "object.__class__")=some true){d_LoreError:Addr}{cd_LoreError:ClassData}(aD_LoreError:E7 K mainGlobals "LoreError"=some (some (.ref d_LoreError)))(D1_LoreError:cZ K d_LoreError=some cd_LoreError)(D2_LoreError:PySem.W.typeIn K (.ref d_LoreError)=some (.type "type"))(D3_LoreError:R4 K d_LoreError (.type "BaseException")=some true)(D4_LoreError:R4 K C_NoLetter (.ref d_LoreError)=some true){d_NoLetter:Addr}{cd_NoLetter:ClassData}(aD_NoLetter:E7 K mainGlobals "NoLetter"=some (some (.ref d_NoLetter)))(D1_NoLetter:cZ K d_NoLetter=some cd_NoLetter)(D2_NoLetter:PySem.W.typeIn K (.ref d_NoLetter)=some (.type "type"))(D3_NoLetter:R4 K d_NoLetter (.type "BaseException")=some true)(D4_NoLetter:R4 K C_NoLetter (.ref d_NoLetter)=some true){x_Clash:Addr}(aX_Clash:E7 K mainGlobals "Clash"=some (some (.ref x_Clash)))(X1_Clash:K9 K (.ref C_NoLetter) (.ref x_Clash)=some false){x_NoDeed:Addr}(aX_NoDeed:E7 K mainGlobals "NoDeed"=some (some (.ref x_NoDeed)))(X1_NoDeed:K9 K (.ref C_NoLetter) (.ref x_NoDeed)=some false){x_NoSign:Addr}(aX_NoSign:E7 K mainGlobals "NoSign"=some (some (.ref x_NoSign)))(X1_NoSign:K9 K (.ref C_NoLetter) (.ref x_NoSign)=some false){x_NoName:Addr}(aX_NoName:E7 K mainGlobals "NoName"=some (some (.ref x_NoName)))(X1_NoName:K9 K (.ref C_NoLetter) (.ref x_NoName)=some false){x_NoRule:Addr}(aX_NoRule:E7 K mainGlobals "NoRule"=some (some (.ref x_NoRule)))(X1_NoRule:K9 K (.ref C_NoLetter) (.ref x_NoRule)=some false){x_NotPlain:Addr}(aX_NotPlain:E7 K mainGlobals "NotPlain"=some (some (.ref x_NotPlain)))(X1_NotPlain:K9 K (.ref C_NoLetter) (.ref x_NotPlain)=some false){x_NoText:Addr}(aX_NoText:E7 K mainGlobals "NoText"=some (some (.ref x_NoText)))(X1_NoText:K9 K (.ref C_NoLetter) (.ref x_NoText)=some false){x_Ring:Addr}(aX_Ring:E7 K mainGlobals "Ring"=some (some (.ref x_Ring)))(X1_Ring:K9 K (.ref C_NoLetter) (.ref x_Ring)=some false){x_Round:Addr}(aX_Round:E7 K mainGlobals "Round"=some (some (.ref x_Round)))(X1_Round:K9 K (.ref C_NoLetter) (.ref x_Round)=some false){x_Twice:Addr}(aX_Twice:E7 K mainGlobals "Twice"=some (some (.ref x_Twice)))(X1_Twice:K9 K (.ref C_NoLetter) (.ref x_Twice)=some false){x_NoLetter:Addr}(aX_NoLetter:E7 K mainGlobals "NoLetter"=some (some (.ref x_NoLetter)))(X1_NoLetter:K9 K (.ref C_NoLetter) (.ref x_NoLetter)=some true)(Y1_ValueError:K9 K (.ref C_NoLetter) (.type "ValueError")=some true)(aC:E7 K mainGlobals "Order"=some (some (.ref C)))(pgC:gD K C Str.empty=true)(hdC:cX K C=true)(poC:PySem.W.plainOver K C=true)(saC:L4 K (.ref C) "__setattr__"=some (some (.builtin "object.__setattr__")))(mkC:PySem.W.makesIn K C=true)(kcC:Q6 K (.ref C)=true)(nC_figures:L4 K (.ref C) "figures"=some none)(nC_behind:L4 K (.ref C) "behind"=some none)(nC_jobs:L4 K (.ref C) "jobs"=some none)(nC_letter_line:L4 K (.ref C) "letter_line"=some none)(nC_mark_line:L4 K (.ref C) "mark_line"=some none)(nC_made:L4 K (.ref C) "made"=some none)(z_ValueError:E7 K mainGlobals "ValueError"=some none)(z_any:E7 K mainGlobals "any"=some none)(z_dict:E7 K mainGlobals "dict"=some none)(z_enumerate:E7 K mainGlobals "enumerate"=some none)(z_isinstance:E7 K mainGlobals "isinstance"=some none)(z_len:E7 K mainGlobals "len"=some none)(z_list:E7 K mainGlobals "list"=some none)(z_min:E7 K mainGlobals "min"=some none)(z_range:E7 K mainGlobals "range"=some none)(z_set:E7 K mainGlobals "set"=some none)(z_str:E7 K mainGlobals "str"=some none)(z_tuple:E7 K mainGlobals "tuple"=some none)(z_zip:E7 K mainGlobals "zip"=some none){a_JOBS:Addr}{ep_JOBS:Nat}{h_JOBS_0:Int}{t_JOBS_0 u_JOBS_0:Tok}{h_JOBS_1:Int}{t_JOBS_1 u_JOBS_1:Tok}{h_JOBS_2:Int}{t_JOBS_2 u_JOBS_2:Tok}{h_JOBS_3:Int}{t_JOBS_3 u_JOBS_3:Tok}{h_JOBS_4:Int}{t_JOBS_4 u_JOBS_4:Tok}(y_JOBS:E7 K mainGlobals "JOBS"=some (some (.ref a_JOBS)))(d_JOBS:K.lookup a_JOBS=some { cls:=.type "dict",dict:=none,data:=.dict #[⟨h_JOBS_0,.str "row" t_JOBS_0,.str "letter" u_JOBS_0⟩,⟨h_JOBS_1,.str "marks" t_JOBS_1,.str "mark" u_JOBS_1⟩,⟨h_JOBS_2,.str "great" t_JOBS_2,.str "great" u_JOBS_2⟩,⟨h_JOBS_3,.str "as" t_JOBS_3,.str "as" u_JOBS_3⟩,⟨h_JOBS_4,.str "over" t_JOBS_4,.str "over" u_JOBS_4⟩] ep_JOBS,slots:=#[] })(s_JOBS:(a_JOBS==sysModules)=false)(e_JOBS_0:h_JOBS_0=keyH w (Sum.inr ("row" : Str)))(e_JOBS_1:h_JOBS_1=keyH w (Sum.inr ("marks" : Str)))(e_JOBS_2:h_JOBS_2=keyH w (Sum.inr ("great" : Str)))(e_JOBS_3:h_JOBS_3=keyH w (Sum.inr ("as" : Str)))(e_JOBS_4:h_JOBS_4=keyH w (Sum.inr ("over" : Str))){a_AGAIN:Addr}{n_AGAIN:Nat}{od_AGAIN:Option Addr}{sl_AGAIN:Array (Option Value)}{t_AGAIN_0:Tok}{t_AGAIN_1:Tok}{t_AGAIN_2:Tok}(y_AGAIN:E7 K mainGlobals "AGAIN"=some (some (.ref a_AGAIN)))(d_AGAIN:K.lookup a_AGAIN=some ⟨.type "tuple",od_AGAIN,.seq #[.str "letter" t_AGAIN_0,.str "mark" t_AGAIN_1,.str "over" t_AGAIN_2] n_AGAIN,sl_AGAIN⟩){tMARK tLETTER:Tok}(y_MARK:E7 K mainGlobals "MARK"=some (some (.int 0 tMARK)))(y_LETTER:E7 K mainGlobals "LETTER"=some (some (.int 2 tLETTER)))
  : ∃ fd:FuncData,(∀ (s:Shared) (v:Value),BindsTo s fd ⟨[v],[]⟩ [("_law_script",v)])/\∀ base:Heap,K.In base->base.Ns mainGlobals mg->FnOk l.prog w K mg base G0 8 fa fd ["_law_script"] (spLaw K):=by
 have e:=hfa.symm.trans (N3 X G a27);cases e;have M_NoLetter:ErrC K C_NoLetter f0:=⟨⟨_,_,_,_,_,_,_,_,_,_,_,_,_,_,_,lE_NoLetter,t1_NoLetter,t2_NoLetter,t3_NoLetter,t4_NoLetter⟩,i0,sa_NoLetter,ga_NoLetter,gt_NoLetter,cl_NoLetter,bx_NoLetter,ob_NoLetter,kp_NoLetter⟩
 have T:Txt l.prog w K mg C C_NoLetter:=⟨⟨pgC,hdC,poC,saC⟩,nC_figures,nC_behind,nC_jobs,nC_letter_line,nC_mark_line,nC_made,⟨aL,N3 X G eL,⟨eL1,eL2,eL3⟩⟩,nE_NoLetter,⟨_,M_NoLetter⟩,ecn,ect,⟨d_LoreError,N3 X G aD_LoreError,⟨⟨_,D1_LoreError⟩,D2_LoreError,D3_LoreError⟩,D4_LoreError⟩,⟨d_NoLetter,N3 X G aD_NoLetter,⟨⟨_,D1_NoLetter⟩,D2_NoLetter,D3_NoLetter⟩,D4_NoLetter⟩,⟨x_Clash,N3 X G aX_Clash,X1_Clash⟩,⟨x_NoDeed,N3 X G aX_NoDeed,X1_NoDeed⟩,⟨x_NoSign,N3 X G aX_NoSign,X1_NoSign⟩,⟨x_NoName,N3 X G aX_NoName,X1_NoName⟩,⟨x_NoRule,N3 X G aX_NoRule,X1_NoRule⟩,⟨x_NotPlain,N3 X G aX_NotPlain,X1_NotPlain⟩,⟨x_NoText,N3 X G aX_NoText,X1_NoText⟩,⟨x_Ring,N3 X G aX_Ring,X1_Ring⟩,⟨x_Round,N3 X G aX_Round,X1_Round⟩,⟨x_Twice,N3 X G aX_Twice,X1_Twice⟩,⟨x_NoLetter,N3 X G aX_NoLetter,X1_NoLetter⟩,Y1_ValueError,W1 X G z_ValueError,W1 X G z_any,W1 X G z_dict,W1 X G z_enumerate,W1 X G z_isinstance,W1 X G z_len,W1 X G z_list,W1 X G z_min,W1 X G z_range,W1 X G z_set,W1 X G z_str,W1 X G z_tuple,W1 X G z_zip,⟨_,N3 X G y_MARK⟩,⟨_,N3 X G y_LETTER⟩,⟨_,N3 X G y_JOBS,ak5 d_JOBS s_JOBS (.cons ⟨dD _ _,e_JOBS_0,⟨_,rfl⟩⟩ ( .cons ⟨dD _ _,e_JOBS_1,⟨_,rfl⟩⟩ ( .cons ⟨dD _ _,e_JOBS_2,⟨_,rfl⟩⟩ ( .cons ⟨dD _ _,e_JOBS_3,⟨_,rfl⟩⟩ ( .cons ⟨dD _ _,e_JOBS_4,⟨_,rfl⟩⟩ ( .nil)))))) (by decide +kernel)⟩,⟨_,N3 X G y_AGAIN,fun H=>.inr ⟨_,_,_,d_AGAIN,rfl,rfl,(by show 3<=sizeLine;decide),.cons ⟨_,rfl⟩ ( .cons ⟨_,rfl⟩ ( .cons ⟨_,rfl⟩ ( .nil)))⟩⟩⟩
 have F0:=dP (st:=y1) l0 c0;have F11:=dP (st:=Y6) l11 c11;have F15:=dP (st:=y7) l15 c15;have F16:=dP (st:=bP) l16 c16;have F27:=dP (st:=s_law) l27 c27;refine ⟨R5 "law" "law" (W2 s_law) (R9 s_law) (D3 s_law) .none kV27 dc27 pm27 an27 cd27 ct27,fun s v=>.of_eq rfl,fun base hb hn=>?_⟩;have G_NoLetter___init__:EO l.prog w K mg base 1 C_NoLetter "NoLetter" ["self", "piece"] (pC K C_NoLetter "piece"):=⟨_,_,acg F0 T,N3 X G aE_NoLetter,M_NoLetter,.all (len2 fun _ _=>rfl)⟩
 have G_told:=d1.go X G hb fun F=>alN F T
 have G_followers:=d2.go X G hb fun F=>aeT F T G_told
 have G_count_ahead:=d3.go X G hb fun F=>ads F T
 have G_lined_up:=d4.go X G hb fun F=>afi F T G_followers G_count_ahead
 have G_is_figure:=d5.go X G hb fun F=>aeV F T
 have G_has_rule:=d6.go X G hb fun F=>afl F T
 have G_pieces_told:=d7.go X G hb fun F=>adu F T
 have G_is_clash:=d8.go X G hb fun F=>afn F T G_is_figure
 have G_jobs_of:=d9.go X G hb fun F=>agr F T G_has_rule G_pieces_told G_is_clash
 have G_misused:=d10.go X G hb fun F=>ags F T
 have G_check_letters:pA l.prog w K mg base 3 "check_letters" ["rules", "jobs"] [] (pE K C_NoLetter):=⟨_,_,acU F11 T G_NoLetter___init__ G_misused,N3 X G a11,k11,[],.all (len2 fun _ _=>rfl),.nil⟩
 have G_line_of:=d12.go X G hb fun F=>agu F T G_lined_up
 have G_forms_of:=d13.go X G hb fun F=>afo F T
 have G_steps_of:=d14.go X G hb fun F=>afp F T G_forms_of
 have G_Order___init__:lA l.prog w K mg base 5 C "Order" ["self", "rules"] (lF C C_NoLetter):=⟨_,_,acR F15 T G_has_rule G_jobs_of G_check_letters G_line_of G_steps_of,⟨mkC,a15,i15,kcC⟩,N3 X G aC,.all (len2 fun _ _=>rfl)⟩
 have G_Order_letters:MO l.prog w K mg base 1 C "letters" ["self"] (oW C):=⟨_,_,acW F16 T,T.cl,⟨a16,i16,k16⟩,.all (len1 fun _=>rfl)⟩
 have G_l_cell_at:=d17.go X G hb fun F=>aeY F T
 have G_l_sign:=d18.go X G hb fun F=>ah7 F T G_l_cell_at
 have G_l_part:=d19.go X G hb fun F=>ah8 F T G_l_cell_at G_l_sign
 have G_l_rule:=d20.go X G hb fun F=>ah9 F T G_l_cell_at G_l_sign G_l_part
 have G_l_plain:=d21.go X G hb fun F=>agw F T
 have G_l_rules:=d22.go X G hb fun F=>agx F T G_l_cell_at G_l_sign G_l_rule G_l_plain
 have G_l_first:=d23.go X G hb fun F=>agy F T
 have G_l_kinds:=d24.go X G hb fun F=>agz F T
 have G_l_asked:=d25.go X G hb fun F=>agA F T G_Order___init__ G_Order_letters
 have G_l_refused:=d26.go X G hb fun F=>ae0 F T G_Order___init__ G_l_kinds
 exact ans F27 T G_l_rules G_l_first G_l_asked G_l_refused
theorem walk{l:PySem.W.OpenLaw}{q:Program}{XP:(Str->Option Value)->Heap->Prop}{YP:World->Heap->Prop}{d:DefRec}{K:Params->PySem.W.Frag}(hn:l.most=some 63)(k9:d.params.defaults=[])(hY:∀ (w:World) (h:Heap),YP w h->(K w.params).In h)(F:∀ (w:World) (mg:Str->Option Value) (fa:Addr) (h:Heap),(K w.params).In h->h.Ns mainGlobals mg->mg d.name=some (.ref fa)->
   ∃ fd:FuncData,(∀ (s:Shared) (u:Value),BindsTo s fd ⟨[u],[]⟩ [("_law_script",u)])/\∀ base:Heap,(K w.params).In base->base.Ns mainGlobals mg->FnOk l.prog w (K w.params) mg base G0 8 fa fd ["_law_script"] (spLaw (K w.params))) :
  PySem.W.WalkO q loose XP YP l.row.toRowW d [] (fun f vs=>PySem.call f vs):=
 L2.walk_of (n:=63) (k:=8) (x:="_law_script") (CX:=fun _=>G0) (sp:=fun w=>spLaw (K w.params)) hn (by decide) k9 ⟨rfl,by decide,by decide,rfl⟩ hY F (fun _ _ a ns hl _ hS=>⟨a,ns,rfl,hS,hl,fun _=>rfl⟩) fun _ _ _ _ _ z=>z
end K24
open PySem PySem.W PyProof.Rows
set_option maxRecDepth 100000 in
set_option maxHeartbeats 0 in
theorem PySem.Challenge.cw_sortlore_k24_no_letter_holds : PySem.Challenge.rw_sortlore_k24_no_letter.Holds := by
 w_on;o_law;k_head;(case hw=>w_witness2)
 k_fill
 refine K24.walk (l:=PySem.Challenge.rw_sortlore_k24_no_letter) rfl rfl (fun w h Y=>PySem.W.kIn_of Y) ?F
 case F=>
  intro w mg fa h KX G bX
  refine' K24.all_mk KX G bX ?i0 ?l0 ?c0 ?k0 ?d1 ?d2 ?d3 ?d4 ?d5 ?d6 ?d7 ?d8 ?d9 ?d10 ?a11 ?l11 ?c11 ?k11 ?d12 ?d13 ?d14 ?a15 ?i15 ?l15 ?c15 ?k15 ?a16 ?i16 ?l16 ?c16 ?k16 ?d17 ?d18 ?d19 ?d20 ?d21 ?d22 ?d23 ?d24 ?d25 ?d26 ?a27 ?l27 ?c27 ?k27 ?aE_NoLetter ?lE_NoLetter ?t1_NoLetter ?t2_NoLetter ?t3_NoLetter ?t4_NoLetter ?sa_NoLetter ?ga_NoLetter ?gt_NoLetter ?cl_NoLetter ?bx_NoLetter ?ob_NoLetter ?kp_NoLetter ?nE_NoLetter ?eL ?eL1 ?eL2 ?eL3 ?ecn ?ect ?aD_LoreError ?D1_LoreError ?D2_LoreError ?D3_LoreError ?D4_LoreError ?aD_NoLetter ?D1_NoLetter ?D2_NoLetter ?D3_NoLetter ?D4_NoLetter ?aX_Clash ?X1_Clash ?aX_NoDeed ?X1_NoDeed ?aX_NoSign ?X1_NoSign ?aX_NoName ?X1_NoName ?aX_NoRule ?X1_NoRule ?aX_NotPlain ?X1_NotPlain ?aX_NoText ?X1_NoText ?aX_Ring ?X1_Ring ?aX_Round ?X1_Round ?aX_Twice ?X1_Twice ?aX_NoLetter ?X1_NoLetter ?Y1_ValueError ?aC ?pgC ?hdC ?poC ?saC ?mkC ?kcC ?nC_figures ?nC_behind ?nC_jobs ?nC_letter_line ?nC_mark_line ?nC_made ?z_ValueError ?z_any ?z_dict ?z_enumerate ?z_isinstance ?z_len ?z_list ?z_min ?z_range ?z_set ?z_str ?z_tuple ?z_zip ?y_JOBS ?d_JOBS ?s_JOBS ?e_JOBS_0 ?e_JOBS_1 ?e_JOBS_2 ?e_JOBS_3 ?e_JOBS_4 ?y_AGAIN ?d_AGAIN ?y_MARK ?y_LETTER
  any_goals (refine' K24.df_mk ?da ?dl ?dc ?dk;(case da=>k_is);(case dl=>k_is);(case dc=>k_is);(case dk=>k_is))
  (case aE_NoLetter=>k_is)
  (case lE_NoLetter=>k_is)
  (case t4_NoLetter=>k_is)
  (case aC=>k_is)
  (case i0=>k_is)
  (case l0=>k_is)
  (case c0=>k_is)
  (case k0=>k_is)
  (case a11=>k_is)
  (case l11=>k_is)
  (case c11=>k_is)
  (case k11=>k_is)
  (case a15=>k_is)
  (case i15=>k_is)
  (case l15=>k_is)
  (case c15=>k_is)
  (case k15=>k_is)
  (case a16=>k_is)
  (case i16=>k_is)
  (case l16=>k_is)
  (case c16=>k_is)
  (case k16=>k_is)
  (case a27=>k_is)
  (case l27=>k_is)
  (case c27=>k_is)
  (case k27=>k_is)
  (case t1_NoLetter=>refine' L2.tail_one ?tl1 ?tl2 ?tl3;(case tl1=>k_is);(case tl3=>k_is);(case tl2=>refine' L2.nsOk_of ?sJ ?sK;(case sJ=>k_is);(case sK=>rfl)))
  (case t2_NoLetter=>rfl)
  (case t3_NoLetter=>refine' L2.nsOk_of ?sJ ?sK;(case sJ=>k_is);(case sK=>rfl))
  (case sa_NoLetter=>k_is)
  (case ga_NoLetter=>k_is)
  (case gt_NoLetter=>k_is)
  (case cl_NoLetter=>k_is)
  (case bx_NoLetter=>k_is)
  (case ob_NoLetter=>k_is)
  (case kp_NoLetter=>k_is)
  (case nE_NoLetter=>k_is)
  (case eL=>k_is)
  (case eL1=>k_is)
  (case eL2=>k_is)
  (case eL3=>k_is)
  (case ecn=>k_is)
  (case ect=>k_is)
  (case aD_LoreError=>k_is)
  (case D1_LoreError=>k_is)
  (case D2_LoreError=>k_is)
  (case D3_LoreError=>k_is)
  (case D4_LoreError=>k_is)
  (case aD_NoLetter=>k_is)
  (case D1_NoLetter=>k_is)
  (case D2_NoLetter=>k_is)
  (case D3_NoLetter=>k_is)
  (case D4_NoLetter=>k_is)
  (case aX_Clash=>k_is)
  (case X1_Clash=>kit_is)
  (case aX_NoDeed=>k_is)
  (case X1_NoDeed=>kit_is)
  (case aX_NoSign=>k_is)
  (case X1_NoSign=>kit_is)
  (case aX_NoName=>k_is)
  (case X1_NoName=>kit_is)
  (case aX_NoRule=>k_is)
  (case X1_NoRule=>kit_is)
  (case aX_NotPlain=>k_is)
  (case X1_NotPlain=>kit_is)
  (case aX_NoText=>k_is)
  (case X1_NoText=>kit_is)
  (case aX_Ring=>k_is)
  (case X1_Ring=>kit_is)
  (case aX_Round=>k_is)
  (case X1_Round=>kit_is)
  (case aX_Twice=>k_is)
  (case X1_Twice=>kit_is)
  (case aX_NoLetter=>k_is)
  (case X1_NoLetter=>kit_is)
  (case Y1_ValueError=>kit_is)
  (case pgC=>k_is)
  (case hdC=>k_is)
  (case poC=>k_is)
  (case saC=>k_is)
  (case mkC=>k_is)
  (case kcC=>k_is)
  (case nC_figures=>k_is)
  (case nC_behind=>k_is)
  (case nC_jobs=>k_is)
  (case nC_letter_line=>k_is)
  (case nC_mark_line=>k_is)
  (case nC_made=>k_is)
  (case z_ValueError=>k_is)
  (case z_any=>k_is)
  (case z_dict=>k_is)
  (case z_enumerate=>k_is)
  (case z_isinstance=>k_is)
  (case z_len=>k_is)
  (case z_list=>k_is)
  (case z_min=>k_is)
  (case z_range=>k_is)
  (case z_set=>k_is)
  (case z_str=>k_is)
  (case z_tuple=>k_is)
  (case z_zip=>k_is)
  (case y_JOBS=>k_is)
  (case d_JOBS=>k_is)
  (case s_JOBS=>rfl)
  (case e_JOBS_0=>rfl)
  (case e_JOBS_1=>rfl)
  (case e_JOBS_2=>rfl)
  (case e_JOBS_3=>rfl)
  (case e_JOBS_4=>rfl)
  (case y_AGAIN=>k_is)
  (case d_AGAIN=>k_is)
  (case y_MARK=>k_is)
  (case y_LETTER=>k_is)
