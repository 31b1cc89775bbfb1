import PyProof.Rows.All
import Wide.All
import OpenK.AllK
import Wide.FinOn
import Lean
import PyProof.EqAt
import PyProof.EqKinds
import PyProof.TupleCall
import PySem.Challenge.RW_sortlore_k85_a_book_refused
set_option compiler.extract_closed false
open PySem.W renaming kitOne → B7, findIn → D0, nsIn → C4, mroIn → E6, mg_of → F7, keepIn → G9, fnOf → J5, codeIn → M8, mg_none_of → U2, kia_one → P9, specialIn → W7, emptyDict → W8, isFn → R1, callWith_K → c6, instObj → Y7, hasDictIn → c7, takesIn → d0, tailIn → d5, tail_of_in → w5, nsOkIn → m8, methodCall_KW → bP, plainGet → w6, clsIn → m9
open List renaming length_map → B9, mem_cons → C0, size_toArray → E7, mem_cons_of_mem → J0, length_cons → E8, length_append → K3, map_cons → E5, mem_cons_self → M9, not_mem_nil → L8, replicate → K7, map_append → M2, mem_of_getElem? → Q0, all_eq_true → N2, mem_append_right → R3, getElem?_eq_some_iff → W9, mem_append → N3, mem_singleton → Q1, getElem?_map → Q2, take_of_length_le → X0, length_singleton → Y8, length_take → U3, getElem?_append_right → n5, length_nil → U4, mem_map → U5, replicate_succ → n6, length_drop → d8, append_nil → d9, range → R4, any_cons → Y9, range' → X1, find?_cons → n8, drop_of_length_le → bQ
open Nat renaming le_refl → B5, le_trans → C3, lt_of_lt_of_le → K4, ne_of_lt → J6, lt_irrefl → O1, zero_le → O2, ne_of_gt → R5, not_lt → R6, min_eq_left → n9
open Bool renaming false_ne_true → F3, and_eq_true → J7, eq_iff_iff → o0
open PySem.F renaming type_list_append → O8, slot_list_append → O9, plainAttrs_list → P0, plainAttrs_str → o6, excBase_ValueError → w8
open PySem.PyData renaming strOk → E2, eqvAll → O3, depthAll → U6, depth → P1, eqv → Q3, str → X2
open Array renaming getElem?_eq_some_iff → o9, all_eq_true_iff_forall_mem → bR, mem_toList_iff → p0
open Int renaming emod_nonneg → Z0, emod_lt_of_pos → x3, mul_ediv_add_emod → bS
set_option Elab.async false
set_option linter.all false
set_option maxRecDepth 100000
noncomputable section
set_option genInjectivity false in
set_option genSizeOf false in
structure PySem.W.Fast where (tw5658688830318346839 tw8853633406903344808 tw13740001156253141547 tw17473443261579293780 tw17621329410979321040 tw10681417174250428986 tw5436519061998671772 tw15910594723019664313 tw11506258276049034624 tw17577898075014115535 tw7325694653878222140 tw3517479791707004459 tw8199675871783650721 tw1626949121010581972 tw5163261885576703825 tw4863613010027334911 tw16947231761500620564 tw2505238210661266950 tw11187427239168657550 tw7455154451923892943 tw2867571621862765389 tw17387019034840887609 tw7008551053875175264 tw7923021052258311762 tw7312590406517272418 tw12851294335107202424 tw10603094709687931113 tw8332510970316077083 tw8306310121928511590 tw7752030458575516353 tw7850234399097580623 tw5165359194571423205 tw16681274158817067226 tw1342909733463941844 tw12228509924831597903 tw7647551892976374632 tw2755161975160949709 tw7112921182811254367 tw2393228042630796762
tw4536000084861339580 tw4464913649380126949 tw4618276621689871808 tw4040115242296984065 tw4928684813238647849 tw12030030802528812175 tw4199358415515290920 tw10465224384339482216 tw11527850689102851210 tw3313497197147845088 tw16628958686908186641 tw4559007695557647887 tw13847513856940205245 tw8951936957538200865 tw5999729480780952288 tw13839162912651934852 tw13480925126973810421 tw4240273332219557650 tw9875943925815026120 tw12109802093936104631 tw9898116099016490262 tw4923153044553798543 tw13457638799995366180 tw10884462259085481240 tw16498295232192376585 tw8355757130134885387 tw11976187984048604728 tw7369960252942219850 tw15900255904874907687 tw250127973088488960 tw7660960653259418096 tw5490828256271124676 tw7929601659752091243 tw17772549259770316594 tw1722997621186379580 tw6572227240431962161 tw8775056023231187048 tw8104052265210397833 tw7212745173716615489 tw6621111858085660575
tw2005973780643227873 tw12653255209553213036 tw12308122118093008719 tw11674791227377330897 tw18026492587794595590 tw11099898781890536170 tw14766275302312171081 tw3646803263245747867 tw4133558371129433764 tw7837878945773949650 tw14826205263533884433 tw12866263089530416964 tw9107174688288605897 tw16176771756887231594 tw1656369901103684502 tw17888489391149708806 tw13028196200085641457 tw10754653365574801251 tw5750128610164197884 tw9699994226901233347 tw10463681385596267243 tw14512530891168512196 tw13156162389773470108 tw8259250305557011308 tw1947463109813880824 tw8997752567879424268 tw9371813650788830665 tw12282850286349304537 tw16801425463451657996 tw239237640322776913 tw9397236398495704678 tw17950403856736760490 tw14821889282957883521 tw17939775913848908605 tw5598429949420588538 tw1093748417423212865 tw5572092794389067292 tw8858422982679000424 tw10035314470640218719 tw17814037458208181050
tw17299307766484284413 tw16308793426124153710 tw193613592993860505 tw16709027551023859111 tw7685429176488780685 tw3208354190472563083 tw13637725509483520022 tw17776082471720028991 tw12909309037366384850 tw6456593497155856055 tw8682423152983213347 tw11943547273854814063 tw15096056049395250981 tw16621452991341942468 tw3311166550397136343 tw17319833036689294645 tw17730574908101468118 tw7225304814453111314 tw1753020028190268086 tw3634379351024026501 tw2010500176859807253 tw3735331907746517656 tw14762796848272225854 tw2577665522974604757 tw3731479717460938056 tw17659645663984504287 tw2734414432406823699 tw11034444980485972330 tw3624383554034163946 tw4361837503412757671 tw16914995627204642804 tw15661940043815257731 tw1264412368840437087 tw16601146238588687308 tw18275838444779140791 tw6541742954304712156 tw8283465833290621173 tw16161467094569937377 tw1029029674781766133 tw10843892491266081779
tw11089136439237636027 tw753226598239381002 tw13484510290153691794 tw13919603509311389002 tw17039924532586447559 tw2556002179158529488 tw4400002609803286641 tw16271010306938516724 tw12255126910900690445 tw4013387556271560027 tw6155352337430682271 tw12361097993664076022 tw13907739562366523198 tw10573947967278035815 tw2306406446091334809 tw6001900713941423679 tw11467214687290601291 tw17795947712133544686 tw2437255032618980849 tw7305537786469185742 tw5528707694315564128 tw3254412171043355294 tw6465903636154626517 tw12955573857061841699 tw9720365988255153995 tw6246824006098399972 tw7360877671418887364 tw3298219391745030154 tw5092775006340018896 tw18134560998327186723 tw7177746246436995762 tw422302975503357379 tw10263530161393077546 tw8135073274515663077 tw649689249045163625 tw13236411410144487369 tw7491584584984184598 tw8803630276891849496 tw15969725168220247243 tw5948844063265228603
tw3933918181294132512 tw14524262267989617208 tw1595127674547550216 tw10783585072634716630 tw4951721567587858665 tw12039717744753016110 tw3615301777301721282 tw18008337996641916696 tw5929566578786023714 tw6497101730317002986 tw9173131825467930524 tw16128793530406298761 tw4788136400290948719 tw12117281421817971509 tw6812806196155640297 tw11326618016744814982 tw9191794440604945002 tw4764161459035905289 tw6856709706550920194 tw18207915048715910046 tw7850375964925554190 tw11988922838178732649 tw6726693144584194578 tw9502612814762186987 tw14996430180715077454 tw15458045980126692024 tw12576848580615075616 tw18433271364348441460 tw1885445007874782142 tw1318428954816243464 tw14372784205950045131 tw17245120814977149640 tw6491255653696112795 tw13287456234839896457 tw6813988766324623347 tw12854225379513889007 tw13518829911460004392 tw12226307443576755748 tw16834263692063562837 tw5069997779414547727
tw599663543458219920 tw560555198775582703 tw17569229523689281723 tw9818319475754371733 tw7952773910036175872 tw5595193050201062580 tw6116647611963575450 tw16709732385490803533 tw8934533929427703095 tw17741877439125396136 tw14927018982456710601 tw8037953764859773587 tw2605475541798530263 tw12630860852540668886 tw4791786319270747326 tw2844557957452068976 tw15280801313489909294 tw4958113263894984771 tw6406906532651111172 tw16524219769507530453 tw9941642258340217074 tw6826987396329857338 tw16420150640610459340 tw14233118770921508120 tw4359919739275755729 tw3626837446792542953 tw15058533437335068137 tw5340267256159704227 tw16955226381883982281 tw347812385999664013 tw12483144516213430855 tw14252657740060192276 tw6027605239733316810 tw3534252853635834264 tw11407205072873326624 tw1424409138826947200 tw4497779073679222095 tw15803319452722855536 tw6296686152302658191 tw14314397453958300467
tw1559761572232832048 tw8631308753023054102 tw10534618212610322049 tw3710556266486950050 tw10813058977521955300 tw2589279671274416597 tw4798409197961049275 tw1351728146802445664 tw7622301387506548522 tw9433251726457621461 tw11967947459488463899 tw8535824663036092205 tw6355805965515455124 tw4517912086784023764 tw14625405174291088441 tw13987537416781988760 tw9382323980819852395 tw1054922664174715066 tw14253429917310393103 tw11583300979440305064 tw6793860430467719824 tw15862195089506517077 tw13840700449176414283 tw11119062016909265168 tw11603374018813954512 tw10713947751478213583 tw13199960231681254642 tw17851121602493778307 tw7569487811488262331 tw8900430633045950865 tw3946388035922142425 tw6365967144263457512 tw16679992818517551881 tw7498373487123785058 tw3693973813438952528 tw5968702080798581093 tw1018755036820457463 tw1544140295379226464 tw15370957857298651740 tw15662144970588669570
tw12820153201138981055 tw8138424873928248057 tw9993692472841771658 tw17127495974592318273 tw16645707438137314263 tw489135665673914200 tw11743818711618410008 tw10905654770867752305 tw10466713060545693312 tw1988949592473667278 tw6789565470752657205 tw4199126487125319787 tw8656871593341553390 tw3181202261324957304 tw12697533986455992749 tw216463732009913427 tw7177927576325813239 tw15259638460651324348 tw12764318708762966060 tw17510870750290172377 tw3293107516948922693 tw10781595903355925421 tw7980475608063340991 tw4973676894360409770 tw11329408269163041231 tw13183092762322103916 tw15602759139946725725 tw16233002605105239342 tw18363621444487330400 tw12552230936212353109 tw14575689154504322439 tw10506572150800879375 tw4095027983347545405 tw2606719269908649392 tw1906599921900748180 tw17621538060307618870 tw250956041604786502 tw6568588585166032811 tw11418903954075510881 tw6134691266341096191
tw16146979991977033077 tw5718012891561237044 tw5325260014739932449 tw18323840161312280745 tw808281255767213646 tw6679081501175792042 tw6176396284217121027 tw13788703896218780678 tw8481271143279440097 tw11341626697227524247 tw1709809327898926249 tw7020863726106320737 tw14350897200302730804 tw17278839955633514696 tw2594923106067154108 tw131075425370547305 tw10198154407942762465 tw15841412291948348209 tw13425701426375677177 tw18211701848261129622 tw10541013289095787906 tw16777359544485248169 tw212594025448051484 tw16657916527694221051 tw11893068612376516564 tw11599545408769189900 tw9041000356675044742 tw3498239606762052710 tw17476976631636675942 tw16852247513071002127 tw17271893663457076713 tw14486850171439172325 tw6675114323768439421 tw7327097816609626729 tw7480822390530574621 tw7258859036366489259 tw11561354448037401524 tw816823534367816130 tw46412650270721858 tw8741911318991671734
tw14254353404820069808 tw9504159324258251600 tw17509755863918959366 tw16696593591277103743 tw3020553767866503161 tw7376213679602815494 tw10074273684519506394 tw14554524854844365294 tw13737972238109729162 tw18014887456632564693 tw11510787375802077940 tw6101756862047709062 tw17260298838461406713 tw7349488224559899208 tw11327318106626947933 tw3312265449025778039 tw2581514822670580940 tw11630312988538111225 tw10406371595463022986 tw647481869725835039 tw18094714126868104562 tw3580235902615208071 tw9061254957044071635 tw14136668818204747556 tw1595200408572693924 tw7908824366107369924 tw14509413495184152076 tw6961628076780932396 tw12785781622249474521 tw9937819703108271000 tw10333688742693780499 tw15259305029881424233 tw8848075213160752305 tw13649224107445992090 tw12931738960451192733 tw5017650877601825671 tw5697295570884330702 tw4188402955364842564 tw9184526203533855150 tw15386541034951567753
tw12509760759844123079 tw4362152664842923962 tw3535404603635444664 tw7155109068135622417 tw17837176516835158587 tw3888095356532500916 tw13572715832238784084 tw11926265738566115212 tw4075886391952184902 tw18107634862041569246 tw9744381748446411680 tw13206327520114257158 tw13424681625809919829 tw9296100800113739037 tw2943151374812781192 tw3048921866610717714 tw17667805022620357570 tw6929452442295312515 tw13086307108490404949 tw14634250785133738031 tw6667665389828903517 tw584521292720502023 tw4001720750327356543 tw5612483184398826882 tw4207325372283830337 tw2182838056493679253 tw5646117005324167053 tw13609351858300573974 tw4938317376259044501 tw2031887251996883247 tw1490623933884111849 tw10113062905376451972 tw18102849153261793632 tw2137365730417832339 tw11166545556092803543 tw7628814106562615383 tw863052183620073225 tw3271687938602359265 tw7143840074332715848 tw8374814644889072708
tw12901372839974259058 tw7355970567949739737 tw1178777807513295912 tw6514816943032672551:Nat)
set_option maxRecDepth 100000
namespace L2
open PySem PySem.Spec PyProof.Rows
noncomputable abbrev A9:=Sum Int Str
noncomputable def keyIs:A9->Value->Bool
 | .inl k,v=>Value.isInt k v
 | .inr x,v=>Value.isStrOf x v
noncomputable def keyH (w:World):A9->Int
 | .inl k=>hashInt k
 | .inr x=>hashStr w x
theorem U7:∀ {k:A9} {v:Value},keyIs k v=true->(∃ i t,k=Sum.inl i/\v=Value.int i t)\/(∃ x t,k=Sum.inr x/\v=Value.str x t)
 | .inl i,v,h=>by
  obtain ⟨t,e⟩:=Value.isInt_shape (k:=i) (v:=v) h;exact .inl ⟨i,t,rfl,e⟩
 | .inr x,v,h=>by
  obtain ⟨t,e⟩:=Value.isStrOf_shape (x:=x) (v:=v) h;exact .inr ⟨x,t,rfl,e⟩
theorem sT(i:Int)(t:Tok):keyIs (.inl i) (.int i t)=true:=by simp [keyIs,Value.isInt]
theorem e8(x:Str)(t:Tok):keyIs (.inr x) (.str x t)=true:=by simp [keyIs,Value.isStrOf]
theorem sU(a b:Int):decide ((Sum.inl a:A9)=Sum.inl b)=(a==b):=by
 by_cases e:a=b
 .subst e;simp
 .have h:¬ (Sum.inl a:A9)=Sum.inl b:=fun q=>e (Sum.inl.inj q)
  rw [decide_eq_false h];exact (beq_eq_false_iff_ne.mpr e).symm
theorem sV(a b:Str):decide ((Sum.inr a:A9)=Sum.inr b)=decide (a=b):=by
 by_cases e:a=b
 .subst e;simp
 .have h:¬ (Sum.inr a:A9)=Sum.inr b:=fun q=>e (Sum.inr.inj q)
  rw [decide_eq_false h,decide_eq_false e]
theorem sW(a:Int)(b:Str):decide ((Sum.inl a:A9)=Sum.inr b)=false:=decide_eq_false (fun q=>nomatch q)
theorem sX(a:Str)(b:Int):decide ((Sum.inr a:A9)=Sum.inl b)=false:=decide_eq_false (fun q=>nomatch q)
noncomputable def K8 (prog:Program) (w:World):PySem.KeyKind prog w A9 where
 is:=keyIs
 hash:=keyH w
 inj:=fun v a b ha hb=>by
  rcases U7 ha with ⟨i,t,rfl,rfl⟩ | ⟨x,t,rfl,rfl⟩
  .rcases U7 hb with ⟨j,u,rfl,e⟩ | ⟨y,u,rfl,e⟩
   .injection e with e1 _;rw [e1]
   .exact nomatch e
  .rcases U7 hb with ⟨j,u,rfl,e⟩ | ⟨y,u,rfl,e⟩
   .exact nomatch e
   .injection e with e1 _;rw [e1]
 byValue:=fun k v h=>by
  rcases U7 h with ⟨i,t,rfl,rfl⟩ | ⟨x,t,rfl,rfl⟩ <;> rfl
 pyHash:=fun hv h=>by
  rcases U7 hv with ⟨i,t,rfl,rfl⟩ | ⟨x,t,rfl,rfl⟩
  .exact wpAny_pyHash_int h
  .exact wpAny_pyHash_str h
 eqBool:=fun hu hv h=>by
  rcases U7 hu with ⟨i,t,rfl,rfl⟩ | ⟨x,t,rfl,rfl⟩
  .rcases U7 hv with ⟨j,u,rfl,rfl⟩ | ⟨y,u,rfl,rfl⟩
   .rw [sU] at h;exact wpAny_eqBool_int h
   .rw [sW] at h;exact SeqAt.EqAt.int_str i t y u _ _ _ _ h
  .rcases U7 hv with ⟨j,u,rfl,rfl⟩ | ⟨y,u,rfl,rfl⟩
   .rw [sX] at h;exact SeqAt.EqAt.str_int x t j u _ _ _ _ h
   .rw [sV] at h;exact wpAny_eqBool_str h
 «strs»:=fun k x t v h=>by
  rcases U7 h with ⟨i,u,rfl,e⟩ | ⟨y,u,rfl,e⟩
  .exact nomatch e
  .injection e with e1 _
   subst e1
   cases v <;> rfl
theorem sY(prog:Program)(w:World)(i:Int)(t:Tok):(K8 prog w).is (.inl i) (.int i t)=true:=sT i t
theorem sZ(prog:Program)(w:World)(x:Str)(t:Tok):(K8 prog w).is (.inr x) (.str x t)=true:=e8 x t
end L2
namespace L2
open PySem PySem.Spec PyProof.Rows
inductive V where
 | non | bl (b:Bool) | int (i:Int) | str (x:Str) | byt (b:Array UInt8) | flt (b:UInt64) | ref (a:Addr) | ty (n:String)
 deriving DecidableEq
noncomputable def RelV:V->Value->Prop
 | .non,u=>u=Value.none
 | .bl b,u=>u=Value.bool b
 | .int i,u=>∃ t,u=Value.int i t
 | .str x,u=>∃ t,u=Value.str x t
 | .byt b,u=>∃ t,u=Value.bytes b t
 | .flt b,u=>∃ t,u=Value.float b t
 | .ref a,u=>u=Value.ref a
 | .ty n,u=>u=Value.type n
noncomputable abbrev Vals:List V->List Value->Prop:=Paired RelV
theorem Vals.length{xs:List V}{us:List Value}(r:Vals xs us):xs.length=us.length:=Paired.length r
theorem Vals.get:∀ {xs:List V} {us:List Value} {i:Nat} {x:V},Vals xs us->xs[i]?=some x->∃ u,us[i]?=some u/\RelV x u
 | _,_,_,_,.nil,e=>by simp at e
 | _,_,0,_,.cons r _,e=>by simp at e;subst e;exact ⟨_,rfl,r⟩
 | _,_,i+1,x,.cons _ t,e=>by
  obtain ⟨u,h1,h2⟩:=Vals.get (i:=i) (x:=x) t (by simpa using e);exact ⟨u,by simpa using h1,h2⟩
theorem Vals.append:∀ {xs ys:List V} {us ws:List Value},Vals xs us->Vals ys ws->Vals (xs++ys) (us++ws)
 | _,_,_,_,.nil,s=>s
 | _,_,_,_,.cons r t,s=>.cons r (Vals.append t s)
theorem Vals.take:∀ {xs:List V} {us:List Value} (n:Nat),Vals xs us->Vals (xs.take n) (us.take n)
 | _,_,0,_=>.nil
 | _,_,_+1,.nil=>.nil
 | _,_,n+1,.cons r t=>.cons r (Vals.take n t)
theorem Vals.drop:∀ {xs:List V} {us:List Value} (n:Nat),Vals xs us->Vals (xs.drop n) (us.drop n)
 | _,_,0,r=>r
 | _,_,_+1,.nil=>.nil
 | _,_,n+1,.cons _ t=>Vals.drop n t
theorem Vals.none_of:∀ {xs:List V} {us:List Value} {i:Nat},Vals xs us->xs[i]?=none->us[i]?=none:=fun {xs us i} r e=>by
 have h1:=r.length;have h2:xs.length<=i:=List.getElem?_eq_none_iff.mp e;exact List.getElem?_eq_none_iff.mpr (by lia)
noncomputable def RelO:Option V->Option Value->Prop
 | some v,some u=>RelV v u
 | none,none=>True
 | _,_=>False
noncomputable def KV {κ:Type} : List (κ×V)->List (κ×Value)->Prop:=Paired fun (p:κ×V) (q:κ×Value)=>p.1=q.1/\RelV p.2 q.2
noncomputable def kV:A9->V
 | .inl i=>.int i
 | .inr x=>.str x
inductive HO where
 | lst (xs:List V)
 | tup (xs:List V)
 | dK (kvs:List (A9×V)) | dT (kvs:List (List A9×V))
 | set (S:Int->Bool) (n:Nat)
 | ins (C dx:Addr) (fs:List (Str×V))
 | own (x:Addr)
 | xd (fs:List (Str×V))
 | met (f x:Addr)
 | rng (lo hi:Int)
 | frz (o:Obj) (u:HO)
 | tbl (ps:Array Value)
 | ext (φ:Heap->Prop)
noncomputable abbrev Hp:=Addr->Option HO
noncomputable def A0 (H:Hp) (a:Addr) (o:HO):Hp:=fun b=>if b=a then some o else H b
theorem A3{H:Hp}{a:Addr}{o:HO} : A0 H a o a=some o:=by unfold A0;rw [if_pos rfl]
theorem A7{H:Hp}{a b:Addr}{o:HO}(h:b≠a):A0 H a o b=H b:=by unfold A0;rw [if_neg h]
theorem tD{H:Hp}{a:Addr}{o u:HO} : A0 (A0 H a o) a u=A0 H a u:=by
 funext b;unfold A0;split <;> rfl
theorem ne_of{H:Hp}{a b:Addr}{o u:HO}(h:H a=some o)(h':H b=some u)(d:o≠u):a≠b:=by
 intro e;subst e;rw [h] at h';exact d (Option.some.inj h')
theorem F4{H:Hp}{a b:Addr}{o:HO}(h:H a=some o)(h':H b=none):a≠b:=by
 intro e;subst e;rw [h] at h';cases h'
section
variable (P:Program) (w:World)
noncomputable def ObjOk (H:Hp) (h:Heap) (a:Addr):HO->Prop
 | .lst xs=>xs.length<=sizeLine/\∃ (its:List Value) (n:Nat),Vals xs its/\h.get? a=some { cls:=.type "list",data:=.seq its.toArray n }
 | .tup xs=>xs.length<=sizeLine/\∃ its:List Value,Vals xs its/\IsTup h a its.toArray
 | .dK kvs=>kvs.length<=sizeLine/\(a==sysModules)=false/\∃ vs,KV kvs vs/\h.DictOf (K8 P w) a vs
 | .dT kvs=>kvs.length<=sizeLine/\(a==sysModules)=false/\∃ xs:List (List A9×Addr×Value),
   Paired (fun (p:List A9×V) (q:List A9×Addr×Value)=>p.1=q.1/\H q.2.1=some (.tup (p.1.map kV))/\RelV p.2 q.2.2) kvs xs/\
   ∃ o es ep,h.get? a=some o/\o.ExactDict/\o.data=.dict es ep/\es.toList=xs.map (entryOfKey (tupleKind (K8 P w)))/\(xs.map (·.1)).Nodup
 | .set S n=>h.SetOf (intKind P w) a S n
 | .ins C dx fs=>H dx=some (.own a)/\fs.length<=1000/\dx≠a/\h.get? a=some (Y7 C dx)/\
   ∃ mA,h.Ns1 dx mA/\(∀ f,RelO (fs.lookup f) (mA f))/\PySem.Within mA (fs.map (·.1))
 | .own _=>∃ o,h.get? a=some o
 | .xd fs=>∃ mA,h.Ns1 a mA/\∀ f,RelO (fs.lookup f) (mA f)
 | .rng lo hi=>∃ t u v,h.get? a=some { cls:=.type "range",data:=.fields #[.int lo t,.int hi u,.int 1 v] }
 | .frz o u=>h.get? a=some o/\ObjOk H h a u
 | .tbl ps=>h.get? a=some { cls:=.none,data:=.fields ps }
 | .met f x=>h.get? a=some (PySem.W.methodObj (.ref f) (.ref x))
 | .ext φ=>φ h/\(∃ o,h.get? a=some o)/\∀ h1 h2:Heap,φ h1->(∀ o,h1.get? a=some o->h2.get? a=some o)->φ h2
noncomputable def D1 (H:Hp) (h:Heap):Prop:=∀ a o,H a=some o->ObjOk P w H h a o
end
section
variable {P:Program} {w:World} {H H':Hp} {h h':Heap} {a:Addr} {o:HO}
theorem ObjOk.lt(x:ObjOk P w H h a o):a<h.objs.size:=by
 cases o with
 | lst xs=>obtain ⟨_,_,_,_,e⟩:=x;exact Heap.lt_size e
 | tup xs=>obtain ⟨_,_,_,p⟩:=x;exact p.lt
 | dK kvs=>obtain ⟨_,_,_,_,o,_,_,e,_⟩:=x;exact Heap.lt_size e
 | dT kvs=>obtain ⟨_,_,_,_,o,_,_,e,_⟩:=x;exact Heap.lt_size e
 | set S n=>obtain ⟨o,_,_,_,e,_⟩:=x;exact Heap.lt_size e
 | ins C dx fs=>obtain ⟨_,_,_,e,_⟩:=x;exact Heap.lt_size e
 | own y=>obtain ⟨_,e⟩:=x;exact Heap.lt_size e
 | xd fs=>obtain ⟨_,⟨_,_,_,e,_⟩,_⟩:=x;exact Heap.lt_size e
 | rng lo hi=>obtain ⟨_,_,_,e⟩:=x;exact Heap.lt_size e
 | frz ob u=>obtain ⟨e,_⟩:=x;exact Heap.lt_size e
 | tbl ps=>exact Heap.lt_size (show h.get? a=some _ from x)
 | met f y=>exact Heap.lt_size (show h.get? a=some _ from x)
 | ext φ=>obtain ⟨_,⟨_,e⟩,_⟩:=x;exact Heap.lt_size e
theorem U8{α β:Type}{F G:α->β->Prop} : ∀ {zx:List α} {zw:List β},Paired F zx zw->(∀ a b,F a b->G a b)->Paired G zx zw
 | _,_,.nil,_=>.nil
 | _,_,.cons r t,f=>.cons (f _ _ r) (U8 t f)
theorem ObjOk.stay(x:ObjOk P w H h a o)(k:∀ b u,(b=a\/H b=some (.own a))->h.get? b=some u->h'.get? b=some u)(ho:∀ b,H b=some (.own a)->H' b=some (.own a))(ht:∀ b xs,H b=some (.tup xs)->H' b=some (.tup xs)):ObjOk P w H' h' a o:=by
 induction o with
 | lst xs=>obtain ⟨z,its,n,r,e⟩:=x;exact ⟨z,its,n,r,k _ _ (.inl rfl) e⟩
 | tup xs=>obtain ⟨z,its,r,ob,e,c⟩:=x;exact ⟨z,its,r,ob,k _ _ (.inl rfl) e,c⟩
 | dK kvs=>obtain ⟨z,y,vs,r,ob,es,ep,e,c⟩:=x;exact ⟨z,y,vs,r,ob,es,ep,k _ _ (.inl rfl) e,c⟩
 | dT kvs=>
  obtain ⟨z,y,xs,r,ob,es,ep,e,c⟩:=x;exact ⟨z,y,xs,U8 r fun p q z=>⟨z.1,ht _ _ z.2.1,z.2.2⟩,ob,es,ep,k _ _ (.inl rfl) e,c⟩
 | set S n=>obtain ⟨ob,es,ep,t,e,c⟩:=x;exact ⟨ob,es,ep,t,k _ _ (.inl rfl) e,c⟩
 | ins C dx fs=>
  obtain ⟨d,z,ne,e,mA,⟨od,es,ep,e2,c⟩,r⟩:=x;exact ⟨ho _ d,z,ne,k _ _ (.inl rfl) e,mA,⟨od,es,ep,k _ _ (.inr d) e2,c⟩,r⟩
 | own y=>obtain ⟨ob,e⟩:=x;exact ⟨ob,k _ _ (.inl rfl) e⟩
 | xd fs=>obtain ⟨mA,⟨od,es,ep,e,c⟩,r⟩:=x;exact ⟨mA,⟨od,es,ep,k _ _ (.inl rfl) e,c⟩,r⟩
 | rng lo hi=>obtain ⟨t,u,v,e⟩:=x;exact ⟨t,u,v,k _ _ (.inl rfl) e⟩
 | frz ob u ih=>obtain ⟨e,q⟩:=x;exact ⟨k _ _ (.inl rfl) e,ih q⟩
 | tbl ps=>
  have e:h.get? a=some { cls:=.none,data:=.fields ps }:=x;show h'.get? a=some { cls:=.none,data:=.fields ps };exact k a _ (.inl rfl) e
 | met f y=>
  have e:h.get? a=some (PySem.W.methodObj (.ref f) (.ref y)):=x;show h'.get? a=some (PySem.W.methodObj (.ref f) (.ref y));exact k a _ (.inl rfl) e
 | ext φ=>obtain ⟨p,⟨o,e⟩,st⟩:=x;exact ⟨st _ _ p fun o q=>k _ _ (.inl rfl) q,⟨o,k _ _ (.inl rfl) e⟩,st⟩
theorem D1.lt(x:D1 P w H h)(e:H a=some o):a<h.objs.size:=(x a o e).lt
theorem D1.fresh(x:D1 P w H h)(e:h.objs.size<=a):H a=none:=by
 cases q:H a with
 | none=>rfl
 | some u=>exact absurd (K4 (x.lt q) e) (O1 _)
theorem D1.kept(x:D1 P w H h)(k:∀ b u,h.get? b=some u->h'.get? b=some u):D1 P w H h':=fun a o e=>
 (x a o e).stay (fun b u _ q=>k b u q) (fun _ q=>q) fun _ _ q=>q
theorem D1.laid(x:D1 P w H h)(k:∀ b u,h.get? b=some u->h'.get? b=some u)(hp:h.objs.size<=a)(new:ObjOk P w (A0 H a o) h' a o):D1 P w (A0 H a o) h':=fun b u e=>by
 have hn:=x.fresh hp
 by_cases hb:b=a
 .subst hb;rw [A3] at e;cases e;exact new
 .rw [A7 hb] at e;exact (x b u e).stay (fun c v _ q=>k c v q) (fun c q=>by rw [A7 (F4 q hn)];exact q) fun c xs q=>by rw [A7 (F4 q hn)];exact q
end
noncomputable def Rd (H:Hp) (a:Addr) (u:HO):Prop:=H a=some u\/∃ o,H a=some (.frz o u)
theorem Rd.of{H:Hp}{a:Addr}{u:HO}(h:H a=some u):Rd H a u:=.inl h
theorem Rd.ok{P:Program}{w:World}{H:Hp}{h:Heap}{a:Addr}{u:HO}(r:Rd H a u)(x:D1 P w H h):ObjOk P w H h a u:=by
 rcases r with r | ⟨o,r⟩
 .exact x a u r
 .obtain ⟨_,q⟩:=x a _ r;exact q
noncomputable def p7:Option HO->Prop
 | some (.lst _)=>True
 | some (.dK _)=>True
 | some (.dT _)=>True
 | some (.set _ _)=>True
 | some (.ins _ _ _)=>True
 | some (.ext _)=>True
 | _=>False
section
variable {P:Program} {w:World} {H:Hp} {h h':Heap} {x e:Addr} {o':HO}
theorem D1.write(ok:D1 P w H h)(mu:p7 (H x))(he:e=x\/H e=some (.own x))(k:∀ b u,b≠e->h.get? b=some u->h'.get? b=some u)(u8:∃ u,h'.get? e=some u)(new:ObjOk P w (A0 H x o') h' x o'):D1 P w (A0 H x o') h':=fun b u q=>by
 have nown:∀ c y,H c=some (.own y)->c≠x:=fun c y r z=>by subst z;rw [r] at mu;exact mu
 have ntup:∀ c xs,H c=some (.tup xs)->c≠x:=fun c xs r z=>by subst z;rw [r] at mu;exact mu
 by_cases hb:b=x
 .subst hb;rw [A3] at q;cases q;exact new
 .rw [A7 hb] at q
  by_cases P6:b=e
  .have q':H b=some (.own x):=by
    rcases he with z | z
    .exact absurd (P6.trans z) hb
    .rw [P6];exact z
   rw [q] at q';cases q';obtain ⟨v,hv⟩:=u8;exact ⟨v,by rw [P6];exact hv⟩
  .refine (ok b u q).stay (fun c v hc r=>k c v ?_ r) (fun c r=>by rw [A7 (nown c b r)];exact r) fun c xs r=>by rw [A7 (ntup c xs r)];exact r
   rcases hc with rfl | hc
   .exact P6
   .rintro rfl
    rcases he with z | z
    .exact nown c b hc z
    .rw [hc] at z;cases z;exact hb rfl
end
structure Un(fs ex:List Addr)(H H':Hp)(h h':Heap):Prop where
 keep:∀ b o,h.get? b=some o->H b=none->b∉fs->b∉ex->h'.get? b=some o
 slot:∀ b o,h.get? b=some o->H b=none->b∈fs->b∉ex->∃ sl,h'.get? b=some { o with slots:=sl }
 free:∀ b o,h.get? b=some o->H b=none->b∉ex->H' b=none
 there:∀ b o,h.get? b=some o->b∉ex->∃ o',h'.get? b=some o'
 tups:∀ b xs,H b=some (.tup xs)->H' b=some (.tup xs)
 frzs:∀ b o u,H b=some (.frz o u)->H' b=some (.frz o u)
 tbls:∀ b ps,H b=some (.tbl ps)->∃ more,H' b=some (.tbl (ps++more))
section
variable {fs fs' ex ex':List Addr} {H H1 H2:Hp} {h h1 h2 h':Heap} {a x e:Addr} {o:HO}
theorem Un.any(u:Un fs ex H H1 h h1){b:Addr}{ob:Obj}(q:h.get? b=some ob)(n:H b=none)(hx:b∉ex):∃ sl,h1.get? b=some { ob with slots:=sl }:=by
 by_cases hb:b∈fs
 .exact u.slot b ob q n hb hx
 .exact ⟨ob.slots,u.keep b ob q n hb hx⟩
theorem Un.kept(k:∀ b u,h.get? b=some u->h'.get? b=some u):Un fs ex H H h h':=
 ⟨fun b ob q _ _ _=>k b ob q,fun b ob q _ _ _=>⟨ob.slots,k b ob q⟩,fun _ _ _ n _=>n,fun b ob q _=>⟨ob,k b ob q⟩,fun _ _ q=>q,fun _ _ _ q=>q,fun _ ps q=>⟨#[],by rw [q];simp⟩⟩
theorem tE:Un fs ex H H h h:=Un.kept fun _ _ q=>q
theorem Un.laid(k:∀ b u,h.get? b=some u->h'.get? b=some u)(hp:h.objs.size<=a)(hn:H a=none):Un fs ex H (A0 H a o) h h' where
 keep:=fun b u q _ _ _=>k b u q
 slot:=fun b u q _ _ _=>⟨u.slots,k b u q⟩
 free:=fun b u q n _=>by rw [A7 (J6 (K4 (Heap.lt_size q) hp))];exact n
 there:=fun b u q _=>⟨u,k b u q⟩
 tups:=fun b xs q=>by rw [A7 (F4 q hn)];exact q
 frzs:=fun b u xs q=>by rw [A7 (F4 q hn)];exact q
 tbls:=fun b ps q=>⟨#[],by rw [A7 (F4 q hn),q];simp⟩
theorem Un.write(mu:p7 (H x))(he:e=x\/H e=some (.own x))(k:∀ b u,b≠e->h.get? b=some u->h'.get? b=some u)(u8:∃ u,h'.get? e=some u):Un fs ex H (A0 H x o) h h':=by
 have hx:∀ b,H b=none->b≠x:=fun b n z=>by subst z;rw [n] at mu;exact mu
 have hb:∀ b,H b=none->b≠e:=fun b n z=>by
  subst z
  rcases he with r | r
  .exact hx b n r
  .rw [n] at r;cases r
 have hm:∀ b u,H b=some u->¬ p7 (some u)->b≠x:=fun b u q nm z=>by subst z;rw [q] at mu;exact nm mu
 refine ⟨fun b u q n _ _=>k b u (hb b n) q,fun b u q n _ _=>⟨u.slots,k b u (hb b n) q⟩,fun b u q n _=>by rw [A7 (hx b n)];exact n,fun b u q _=>?_,
  fun b xs q=>by rw [A7 (hm b _ q fun z=>z)];exact q,fun b u xs q=>by rw [A7 (hm b _ q fun z=>z)];exact q,fun b ps q=>⟨#[],by rw [A7 (hm b _ q fun z=>z),q];simp⟩⟩
 by_cases P6:b=e
 .subst P6;exact u8
 .exact ⟨u,k b u P6 q⟩
end
noncomputable def bU (h:Heap) (H:Hp):List Addr:=(R4 h.objs.size).filter fun a=>(H a).isSome
noncomputable def hidT (h:Heap) (H:Hp):Heap:=PySem.W.hideAll h (bU h H)
theorem tF(h:Heap)(H:Hp):(hidT h H).objs.size=h.objs.size:=PySem.W.hideAll_size _ _
theorem tG{h:Heap}{H:Hp}{b:Addr}{o:Obj}(e:h.get? b=some o)(n:H b=none):(hidT h H).get? b=some o:=
 PySem.W.hideAll_get _ e fun hm=>by
  have q:(H b).isSome=true:=(List.mem_filter.mp hm).2;rw [n] at q;simp at q
theorem tH{h:Heap}{H:Hp}{b:Addr}{o:Obj}(e:(hidT h H).get? b=some o):h.get? b=some o/\H b=none:=by
 have e':h.get? b=some o:=PySem.W.of_hideAll (bU h H) e;refine ⟨e',?_⟩
 cases q:H b with
 | none=>rfl
 | some x=>
  have hm:b∈bU h H:=List.mem_filter.mpr ⟨List.mem_range.mpr (Heap.lt_size e'),by simp [q]⟩;have z:(hidT h H).get? b=none:=PySem.W.hideAll_none (bU h H) hm;rw [z] at e;cases e
noncomputable def tI (g h:Heap) (L:Addr):List (Addr×Obj):=(R4 h.objs.size).filterMap fun a=>if a=L\/(g.get? a).isSome=true then none else (h.get? a).map fun o=>(a,o)
noncomputable def rest (g h:Heap) (L d:Addr):List (Addr×Obj):=(tI g h L).filter fun p=>decide (p.1≠d)
end L2
namespace L2
open PySem PySem.Spec PyProof.Rows
structure Mod(K:PySem.W.Frag)(mg:Str->Option Value)(base:Heap):Prop where
 kin:K.In base
 glob:base.Ns mainGlobals mg
 blt:∃ mb,base.Ns builtinsNs mb/\∀ x:Str,x≠"__name__"->mb x=bootBuiltins x
 nolimit:base.NoLimit
structure Cx where
 prog:Program
 w:World
 K:PySem.W.Frag
 mg:Str->Option Value
 base:Heap
 A:Around
 N:List Str
 s₀:Shared
 H₀:Hp
 env:Env
 outer:List Env
 stack:List Env
 ex:List Addr
 fn:Str->Bool
 calm:Bool
 pn:List (Addr×Obj)
 xe:Value->Shared->Prop
noncomputable def E3 (l:List Env):List Addr:=l.filterMap (·.frame)
noncomputable abbrev Cx.fs (X:Cx):List Addr:=E3 X.outer
noncomputable def bV (sc:Scope) (x:Str):Prop:=sc.names.lookup x=some .local\/sc.names.lookup x=some .cell\/sc.names.lookup x=some .free
noncomputable def X3 (sc:Scope) (x:Str):Prop:=sc.names.lookup x=some .local\/sc.names.lookup x=some .cell
noncomputable def Look (env:Env) (h:Heap) (m:Str->Option Value) (x:Str) (u:Value):Prop:=
 (env.kindOf x=some .local/\m x=some u)\/((env.kindOf x=some .cell\/env.kindOf x=some .free)/\∃ c,env.cells.lookup x=some c/\h.IsCell c (some u))
structure Cx.Ok(X:Cx):Prop where
 mod:Mod X.K X.mg X.base
 kind:X.env.scope.kind=.function
 glob:X.env.globals=mainGlobals
 blt:X.env.builtins=builtinsNs
 above:X.s₀.heap.objs.size<=X.env.locals
 inj:∀ x y c,X.env.cells.lookup x=some c->X.env.cells.lookup y=some c->x=y
 has:∀ x,(X.env.kindOf x=some .cell\/X.env.kindOf x=some .free)->∃ c,X.env.cells.lookup x=some c
 cab:∀ x c,X.fn x=true->X.env.cells.lookup x=some c->X.s₀.heap.objs.size<=c
 hd:X.calm=true->X.A.handled=none
 frames:X.A.frames=some X.stack
 stk:X.stack=X.outer\/(X.stack=X.env::X.outer/\X.env.frame=some X.env.locals)
 exf:∀ b∈X.ex,b≠X.env.locals/\∀ x c,X.env.cells.lookup x=some c->c≠b
 bs:∀ b o,X.base.get? b=some o->X.s₀.heap.get? b=some o/\X.H₀ b=none
 bsz:X.base.objs.size<=X.s₀.heap.objs.size
 noex:∀ b o,X.base.get? b=some o->b∉X.ex
 exfs:∀ b∈X.ex,b∉X.fs
 funs:X.s₀.heap.FunFrames X.base X.outer
 frf:∀ b∈X.fs,X.H₀ b=none
structure Inv(X:Cx)(pins:List (Addr×Obj))(Y:List (Option V))(H:Hp)(s:Shared):Prop where
 ok:X.Ok
 os:s.os=X.s₀.os
 bare:AllBare s.gens
 base:Un X.fs X.ex X.H₀ H X.s₀.heap s.heap
 loc:∃ m,s.heap.Ns X.env.locals m/\∀ (i:Nat) (x:Str) (v:V),X.N[i]?=some x->Y[i]?=some (some v)->bV X.env.scope x->∃ u,RelV v u/\Look X.env s.heap m x u
 cell:∀ x c,X.env.cells.lookup x=some c->∃ v,s.heap.IsCell c v
 free:H X.env.locals=none
 freeC:∀ x c,X.env.cells.lookup x=some c->H c=none
 pin:∀ p∈X.pn++pins,s.heap.get? p.1=some p.2/\H p.1=none/\p.1≠X.env.locals/\p.1∉X.fs/\∀ v,p.2.data≠.cell v
 hok:D1 X.prog X.w H s.heap
 len:Y.length=X.N.length
section
variable {X:Cx} {pins:List (Addr×Obj)} {Y:List (Option V)} {H H':Hp} {s:Shared} {h':Heap}
theorem Cx.Ok.nofr(ok:X.Ok){b:Addr}{o:Obj}(e:X.base.get? b=some o):b∉X.fs:=fun hb=>by
 have:=(ok.funs.mem hb).1
 rw [e] at this;cases this
theorem Inv.bs(I:Inv X pins Y H s):∀ b o,X.base.get? b=some o->s.heap.get? b=some o/\H b=none:=fun b o e=>
 ⟨I.base.keep b o (I.ok.bs b o e).1 (I.ok.bs b o e).2 (I.ok.nofr e) (I.ok.noex b o e),I.base.free b o (I.ok.bs b o e).1 (I.ok.bs b o e).2 (I.ok.noex b o e)⟩
theorem Inv.bk(I:Inv X pins Y H s):∀ b o,X.base.get? b=some o->s.heap.get? b=some o:=fun b o e=>(I.bs b o e).1
theorem Inv.mod(I:Inv X pins Y H s):Mod X.K X.mg X.base:=I.ok.mod
theorem Inv.kIn(I:Inv X pins Y H s):X.K.In s.heap:=I.ok.mod.kin.keeps I.bk
theorem Inv.lt(I:Inv X pins Y H s):X.env.locals<s.heap.objs.size:=let ⟨_,hn,_⟩:=I.loc;hn.lt
theorem Inv.sz(I:Inv X pins Y H s):X.s₀.heap.objs.size<=s.heap.objs.size:=C3 I.ok.above (Nat.le_of_lt I.lt)
theorem Inv.nofs(I:Inv X pins Y H s){a:Addr}(h:s.heap.objs.size<=a):a∉X.fs:=fun hb=>by
 obtain ⟨_,o,ho,_⟩:=I.ok.funs.mem hb;exact absurd (K4 (Heap.lt_size ho) (C3 I.sz h)) (O1 _)
theorem Inv.cne(I:Inv X pins Y H s):∀ x c,X.env.cells.lookup x=some c->c≠X.env.locals:=fun x c e z=>by
 obtain ⟨v,o,ho,hd⟩:=I.cell x c e;obtain ⟨m,⟨o',es,ep,T7,j3,_⟩,_⟩:=I.loc;rw [z,T7] at ho;cases ho;rw [j3] at hd;cases hd
theorem Inv.funs(I:Inv X pins Y H s):s.heap.FunFrames X.base X.outer:=by
 have all:∀ (l:List Env),(∀ b∈E3 l,b∈X.fs)->X.s₀.heap.FunFrames X.base l->s.heap.FunFrames X.base l:=by
  intro l
  induction l with
  | nil=>intro _ _;trivial
  | cons env r ih=>
   intro hs hl;obtain ⟨hk,⟨L,o,hf,hn,ho,hd⟩,hr⟩:=hl;have hL:L∈X.fs:=hs L (by unfold E3;rw [List.filterMap_cons,hf];exact M9);obtain ⟨sl,e⟩:=I.base.slot L o ho (I.ok.frf L hL) hL fun z=>I.ok.exfs L z hL
   exact ⟨hk,⟨L,_,hf,hn,e,hd⟩,ih (fun b hb=>hs b (by unfold E3;rw [List.filterMap_cons,hf];exact J0 _ hb)) hr⟩
 exact all X.outer (fun _ hb=>hb) I.ok.funs
theorem Inv.stack(I:Inv X pins Y H s):s.heap.FunFrames X.base X.stack:=by
 rcases I.ok.stk with e | ⟨e,hf⟩
 .rw [e];exact I.funs
 .rw [e];obtain ⟨m,hn,_⟩:=I.loc;refine .cons (by rw [I.ok.kind];decide) hf hn ?_ I.funs;exact Heap.get?_none_of_le (C3 I.ok.bsz I.ok.above)
theorem Inv.stkSub(I:Inv X pins Y H s):∀ b∈E3 X.stack,b∈X.env.locals::X.fs:=fun b hb=>by
 rcases I.ok.stk with e | ⟨e,hf⟩
 .rw [e] at hb;exact J0 _ hb
 .rw [e] at hb;unfold E3 at hb;rw [List.filterMap_cons,hf] at hb;exact hb
theorem Inv.stkFree(I:Inv X pins Y H s):∀ b∈E3 X.stack,H b=none:=fun b hb=>by
 rcases C0.mp (I.stkSub b hb) with e | hb
 .rw [e];exact I.free
 .obtain ⟨_,o,ho,_⟩:=I.ok.funs.mem hb;exact I.base.free b o ho (I.ok.frf b hb) fun z=>I.ok.exfs b z hb
theorem Inv.step{g':Array GenState}{t':Nat}{d':Drawn}{ch:List Addr}(I:Inv X pins Y H s)(W0:∀ b∈ch,(b∈X.ex\/X.s₀.heap.objs.size<=b)/\b≠X.env.locals/\(∀ x c,X.env.cells.lookup x=some c->c≠b)/\∀ p∈X.pn++pins,p.1≠b)(keep:∀ b o,b≠X.env.locals->b∉X.fs->b∉ch->s.heap.get? b=some o->H b=none->h'.get? b=some o)(slot:∀ b o,b≠X.env.locals->b∈X.fs->b∉ch->s.heap.get? b=some o->H b=none->∃ sl,h'.get? b=some { o with slots:=sl })(free:∀ b o,b∉ch->s.heap.get? b=some o->H b=none->H' b=none)(there:∀ b o,b∉ch->s.heap.get? b=some o->∃ o',h'.get? b=some o')(tups:∀ b xs,H b=some (.tup xs)->H' b=some (.tup xs))(frzs:∀ b o u,H b=some (.frz o u)->H' b=some (.frz o u))(tbls:∀ b ps,H b=some (.tbl ps)->∃ more,H' b=some (.tbl (ps++more)))(ns:∀ m,s.heap.Ns X.env.locals m->h'.Ns X.env.locals m)(hok:D1 X.prog X.w H' h')(hg:AllBare g') :
  Inv X pins Y H' { s with heap:=h',gens:=g',drawn:=d',toks:=t' }:=by
 have neL:∀ b o,X.s₀.heap.get? b=some o->b≠X.env.locals:=fun b o e=>J6 (K4 (Heap.lt_size e) I.ok.above)
 have neC:∀ b o,X.s₀.heap.get? b=some o->b∉X.ex->b∉ch:=fun b o e hx hb=>by
  rcases (W0 b hb).1 with z | z
  .exact hx z
  .exact absurd (K4 (Heap.lt_size e) z) (O1 _)
 have cellK:∀ x c,X.env.cells.lookup x=some c->∀ v,s.heap.IsCell c v->h'.IsCell c v:=fun x c e v ⟨o,ho,hd⟩=>by
  have nch:c∉ch:=fun z=>(W0 c z).2.2.1 x c e rfl
  by_cases hc:c∈X.fs
  .obtain ⟨sl,q⟩:=slot c o (I.cne x c e) hc nch ho (I.freeC x c e);exact ⟨_,q,hd⟩
  .exact ⟨o,keep c o (I.cne x c e) hc nch ho (I.freeC x c e),hd⟩
 refine ⟨I.ok,I.os,hg,⟨fun b o e n hb hx=>?_,fun b o e n hb hx=>?_,fun b o e n hx=>?_,fun b o e hx=>?_,fun b xs e=>tups b xs (I.base.tups b xs e),fun b o xs e=>frzs b o xs (I.base.frzs b o xs e),fun b ps e=>?_⟩,?_,fun x c e=>?_,?_,fun x c e=>?_,fun p hp=>?_,hok,I.len⟩
 .exact keep b o (neL b o e) hb (neC b o e hx) (I.base.keep b o e n hb hx) (I.base.free b o e n hx)
 .obtain ⟨sl,e1⟩:=I.base.slot b o e n hb hx;obtain ⟨sl',e2⟩:=slot b _ (neL b o e) hb (neC b o e hx) e1 (I.base.free b o e n hx);exact ⟨sl',e2⟩
 .obtain ⟨o',e1⟩:=I.base.there b o e hx;exact free b o' (neC b o e hx) e1 (I.base.free b o e n hx)
 .obtain ⟨o',e1⟩:=I.base.there b o e hx;exact there b o' (neC b o e hx) e1
 .obtain ⟨m1,e1⟩:=I.base.tbls b ps e;obtain ⟨m2,e2⟩:=tbls b _ e1;exact ⟨m1++m2,by rw [e2,Array.append_assoc]⟩
 .obtain ⟨m,hn,hl⟩:=I.loc;refine ⟨m,ns m hn,fun i x v e1 e2 e3=>?_⟩;obtain ⟨u,r,l⟩:=hl i x v e1 e2 e3;refine ⟨u,r,?_⟩
  rcases l with l | ⟨k,c,e,z⟩
  .exact .inl l
  .exact .inr ⟨k,c,e,cellK x c e _ z⟩
 .obtain ⟨v,z⟩:=I.cell x c e;exact ⟨v,cellK x c e v z⟩
 .obtain ⟨m,⟨o,_,_,ho,_⟩,_⟩:=I.loc;exact free _ o (fun z=>(W0 _ z).2.1 rfl) ho I.free
 .obtain ⟨v,o,ho,hd⟩:=I.cell x c e;exact free c o (fun z=>(W0 c z).2.2.1 x c e rfl) ho (I.freeC x c e)
 .obtain ⟨e,n,ne,nf,d⟩:=I.pin p hp;have nch:p.1∉ch:=fun z=>(W0 p.1 z).2.2.2 p hp rfl
  exact ⟨keep p.1 p.2 ne nf nch e n,free p.1 p.2 nch e n,ne,nf,d⟩
theorem Inv.un{t':Nat}(I:Inv X pins Y H s)(u:Un X.fs [] H H' s.heap h')(hok:D1 X.prog X.w H' h'):Inv X pins Y H' { s with heap:=h',toks:=t' }:=by
 obtain ⟨m,⟨o,es,ep,ho,r⟩,_⟩:=id I.loc;obtain ⟨sl,hL⟩:=u.any ho I.free (by simp);exact I.step (g':=s.gens) (d':=s.drawn) (ch:=[]) (fun _ z=>nomatch z) (fun b o _ hb _ e n=>u.keep b o e n hb (by simp)) (fun b o _ hb _ e n=>u.slot b o e n hb (by simp)) (fun b o _ e n=>u.free b o e n (by simp)) (fun b o _ e=>u.there b o e (by simp)) u.tups u.frzs u.tbls (fun m' hm=>by
  obtain ⟨o',es',ep',T7,r'⟩:=hm;rw [ho] at T7;cases T7;exact ⟨_,es',ep',hL,r'⟩) hok I.bare
theorem Inv.call{g':Array GenState}{t':Nat}{d':Drawn}{ch:List Addr}(I:Inv X pins Y H s)(u:Un (E3 X.stack) ch H H' s.heap h')(hok:D1 X.prog X.w H' h')(hg:AllBare g')(W0:∀ b∈ch,(b∈X.ex\/X.s₀.heap.objs.size<=b)/\b≠X.env.locals/\(∀ x c,X.env.cells.lookup x=some c->c≠b)/\∀ p∈X.pn++pins,p.1≠b) :
  Inv X pins Y H' { s with heap:=h',gens:=g',drawn:=d',toks:=t' }:=by
 obtain ⟨m,⟨o,es,ep,ho,r⟩,_⟩:=id I.loc;obtain ⟨sl,hL⟩:=u.any ho I.free fun z=>(W0 _ z).2.1 rfl
 exact I.step (ch:=ch) W0 (fun b o hL hb hc e n=>u.keep b o e n (fun z=>(C0.mp (I.stkSub b z)).elim hL hb) hc) (fun b o _ _ hc e n=>u.any e n hc) (fun b o hc e n=>u.free b o e n hc) (fun b o hc e=>u.there b o e hc) u.tups u.frzs u.tbls (fun m' hm=>by
  obtain ⟨o',es',ep',T7,r'⟩:=hm;rw [ho] at T7;cases T7;exact ⟨_,es',ep',hL,r'⟩) hok hg
theorem Inv.turned{t':Nat}{it:Addr}(I:Inv X pins Y H s)(k:∀ b o,b≠it->s.heap.get? b=some o->h'.get? b=some o)(hn:H it=none)(hL:it≠X.env.locals)(h1:it∈X.ex\/X.s₀.heap.objs.size<=it)(h2:∀ x c,X.env.cells.lookup x=some c->c≠it)(h3:∀ p∈X.pn++pins,p.1≠it):Inv X pins Y H { s with heap:=h',toks:=t' }:=by
 have nit:∀ b u,H b=some u->b≠it:=fun b u e z=>by rw [z,hn] at e;cases e
 refine I.step (g':=s.gens) (d':=s.drawn) (ch:=[it]) (fun b hb=>?_) (fun b o _ _ hc e _=>k b o (fun z=>hc (by simp [z])) e) (fun b o _ _ hc e _=>⟨o.slots,k b o (fun z=>hc (by simp [z])) e⟩) (fun _ _ _ _ n=>n)
  (fun b o hc e=>⟨o,k b o (fun z=>hc (by simp [z])) e⟩) (fun _ _ e=>e) (fun _ _ _ e=>e) (fun b ps e=>⟨#[],by rw [e];simp⟩) (fun m hm=>?_) (fun b u e=>?_) I.bare
 .have e:b=it:=by simpa using hb
  subst e;exact ⟨h1,hL,h2,h3⟩
 .obtain ⟨o,es,ep,ho,r⟩:=hm;exact ⟨o,es,ep,k _ o (Ne.symm hL) ho,r⟩
 .refine (I.hok b u e).stay (fun c v hc q=>k c v ?_ q) (fun _ q=>q) fun _ _ q=>q
  rcases hc with z | z
  .rw [z];exact nit b u e
  .exact nit c _ z
theorem Inv.tok(I:Inv X pins Y H s)(t:Nat):Inv X pins Y H { s with toks:=t }:=I.un (h':=s.heap) (t':=t) tE I.hok
theorem Inv.kept{t':Nat}(I:Inv X pins Y H s)(k:∀ b u,s.heap.get? b=some u->h'.get? b=some u):Inv X pins Y H { s with heap:=h',toks:=t' }:=I.un (Un.kept k) (I.hok.kept k)
theorem Inv.laid{a:Addr}{o:HO}{t':Nat}(I:Inv X pins Y H s)(k:∀ b u,s.heap.get? b=some u->h'.get? b=some u)(hp:s.heap.objs.size<=a)(new:ObjOk X.prog X.w (A0 H a o) h' a o) :
  Inv X pins Y (A0 H a o) { s with heap:=h',toks:=t' }:=I.un (Un.laid k hp (I.hok.fresh hp)) (I.hok.laid k hp new)
theorem Inv.write{x e:Addr}{o:HO}{t':Nat}(I:Inv X pins Y H s)(mu:p7 (H x))(he:e=x\/H e=some (.own x))(k:∀ b u,b≠e->s.heap.get? b=some u->h'.get? b=some u)(u8:∃ u,h'.get? e=some u)(new:ObjOk X.prog X.w (A0 H x o) h' x o):Inv X pins Y (A0 H x o) { s with heap:=h',toks:=t' }:=I.un (Un.write mu he k u8) (I.hok.write mu he k u8 new)
theorem Inv.pins_of{pins':List (Addr×Obj)}(I:Inv X pins Y H s)(h:∀ p∈pins',s.heap.get? p.1=some p.2/\H p.1=none/\p.1≠X.env.locals/\p.1∉X.fs/\∀ v,p.2.data≠.cell v):Inv X pins' Y H s:=
 ⟨I.ok,I.os,I.bare,I.base,I.loc,I.cell,I.free,I.freeC,fun p hp=>(N3.mp hp).elim (fun z=>I.pin p (List.mem_append_left _ z)) (h p),I.hok,I.len⟩
theorem eD{N:List Str}(hN:N.Nodup){i j:Nat}{x:Str}(a:N[i]?=some x)(b:N[j]?=some x):i=j:=by
 obtain ⟨h1,e1⟩:=W9.mp a;obtain ⟨h2,e2⟩:=W9.mp b;exact (List.getElem_inj hN).mp (e1.trans e2.symm)
theorem tJ{M:Model}{A:Around}{E:Value->Shared->Prop}{i:Nat}{x:Str}{v:V}{u:Value}{Q:Unit->Shared->Prop}(I:Inv X pins Y H s)(hN:X.N.Nodup)(hi:X.N[i]?=some x)(hx:X3 X.env.scope x)(r:RelV v u)(h:∀ s',Inv X pins (Y.set i (some v)) H s'->(∃ a,Heap.SameBut a s.heap s'.heap/\(a=X.env.locals\/X.env.cells.lookup x=some a))->Q () s')(hf:X.fn x=true\/X.env.scope.names.lookup x=some .local:=by first | exact .inl rfl | exact .inr rfl | assumption):wpAny M A (storeName X.env x u) Q E s:=by
 obtain ⟨m,hn,hl⟩:=id I.loc;have j4:(X.env.scope.kind == .class || (X.env.scope.kind == .module&&X.env.locals != X.env.globals))=false:=by rw [I.ok.kind];rfl
 have hiσ:i<Y.length:=by rw [I.len];exact (W9.mp hi).1
 have cne:=I.cne;have tracked:∀ {a:Addr} {h':Heap},(∃ o,s.heap.get? a=some o/\H a=none)->Heap.SameBut a s.heap h'->D1 X.prog X.w H h':=fun {a h'} ha hs b ob e=>by
  obtain ⟨_,_,b5⟩:=ha;refine (I.hok b ob e).stay (fun c w' hc q=>(hs.2 c ?_).trans q) (fun _ q=>q) fun _ _ q=>q
  rintro rfl
  rcases hc with rfl | hc
  .rw [b5] at e;cases e
  .rw [b5] at hc;cases hc
 rcases hx with hk | hk
 .refine wpAny_storeName_local hk hn (fun h' u9 hs=>?_) j4;obtain ⟨oL,_,_,hoL,_⟩:=id hn;refine h _ ⟨I.ok,I.os,I.bare,⟨fun b o e n hb hx=>?_,fun b o e n hb hx=>?_,I.base.free,fun b o e hx=>?_,I.base.tups,I.base.frzs,I.base.tbls⟩,⟨_,u9,fun j y v' e1 e2 e3=>?_⟩,fun y c e=>?_,I.free,I.freeC,fun p hp=>?_,tracked ⟨oL,hoL,I.free⟩ hs,by simpa using I.len⟩ ⟨_,hs,.inl rfl⟩
  .exact (hs.2 b (J6 (K4 (Heap.lt_size e) I.ok.above))).trans (I.base.keep b o e n hb hx)
  .obtain ⟨sl,e1⟩:=I.base.slot b o e n hb hx;exact ⟨sl,(hs.2 b (J6 (K4 (Heap.lt_size e) I.ok.above))).trans e1⟩
  .obtain ⟨o',e1⟩:=I.base.there b o e hx;exact ⟨o',(hs.2 b (J6 (K4 (Heap.lt_size e) I.ok.above))).trans e1⟩
  .by_cases hj:j=i
   .subst hj;rw [hi] at e1;cases e1;rw [List.getElem?_set_self hiσ] at e2;cases e2;exact ⟨u,r,.inl ⟨hk,by simp⟩⟩
   .rw [List.getElem?_set_ne (Ne.symm hj)] at e2;obtain ⟨u',r',q⟩:=hl j y v' e1 e2 e3;refine ⟨u',r',?_⟩
    rcases q with ⟨k,e⟩ | ⟨k,c,e,z⟩
    .refine .inl ⟨k,?_⟩
     have:y≠x:=fun e=>hj (eD hN e1 (e ▸ hi))
     simp [this,e]
    .exact .inr ⟨k,c,e,z.sameBut hs (cne y c e)⟩
  .obtain ⟨w',z⟩:=I.cell y c e;exact ⟨w',z.sameBut hs (cne y c e)⟩
  .obtain ⟨e,n,ne,nf,d⟩:=I.pin p hp;exact ⟨(hs.2 p.1 ne).trans e,n,ne,nf,d⟩
 .have iV:X.fn x=true:=by
   rcases hf with z | z
   .exact z
   .rw [z] at hk;cases hk
  obtain ⟨c,hc⟩:=I.ok.has x (.inl hk);obtain ⟨w',z⟩:=I.cell x c hc;refine wpAny_storeName_cell I.ok.kind hk hc z (fun h' W1 hs=>?_);obtain ⟨oc,rJ,iW⟩:=id z;refine h { s with heap:=h' } ⟨I.ok,I.os,I.bare,⟨fun b o e n hb hx=>?_,fun b o e n hb hx=>?_,I.base.free,fun b o e hx=>?_,I.base.tups,I.base.frzs,I.base.tbls⟩,⟨m,hn.sameBut hs (Ne.symm (cne x c hc)),fun j y v' e1 e2 e3=>?_⟩,fun y c' e=>?_,I.free,I.freeC,fun p hp=>?_,tracked ⟨oc,rJ,I.freeC x c hc⟩ hs,by simpa using I.len⟩ ⟨c,hs,.inr hc⟩
  .exact (hs.2 b (J6 (K4 (Heap.lt_size e) (I.ok.cab x c iV hc)))).trans (I.base.keep b o e n hb hx)
  .obtain ⟨sl,e1⟩:=I.base.slot b o e n hb hx;exact ⟨sl,(hs.2 b (J6 (K4 (Heap.lt_size e) (I.ok.cab x c iV hc)))).trans e1⟩
  .obtain ⟨o',e1⟩:=I.base.there b o e hx;exact ⟨o',(hs.2 b (J6 (K4 (Heap.lt_size e) (I.ok.cab x c iV hc)))).trans e1⟩
  .by_cases hj:j=i
   .subst hj;rw [hi] at e1;cases e1;rw [List.getElem?_set_self hiσ] at e2;cases e2;exact ⟨u,r,.inr ⟨.inl hk,c,hc,W1⟩⟩
   .rw [List.getElem?_set_ne (Ne.symm hj)] at e2;obtain ⟨u',r',q⟩:=hl j y v' e1 e2 e3;refine ⟨u',r',?_⟩
    rcases q with q | ⟨k,c',e,z'⟩
    .exact .inl q
    .refine .inr ⟨k,c',e,z'.sameBut hs ?_⟩;rintro rfl;exact hj (eD hN e1 (I.ok.inj _ _ _ e hc ▸ hi))
  .by_cases rK:c'=c
   .subst rK;exact ⟨_,W1⟩
   .obtain ⟨w2,z2⟩:=I.cell y c' e;exact ⟨w2,z2.sameBut hs rK⟩
  .obtain ⟨e,n,ne,nf,d⟩:=I.pin p hp;refine ⟨(hs.2 p.1 ?_).trans e,n,ne,nf,d⟩;intro q;rw [q,rJ] at e;have q':oc=p.2:=Option.some.inj e;exact d w' (by rw [<- q'];exact iW)
theorem x4{M:Model}{A:Around}{E:Value->Shared->Prop}{i:Nat}{x:Str}{v:V}{u:Value}{Q:Unit->Shared->Prop}(I:Inv X pins Y H s)(hN:X.N.Nodup)(hi:X.N[i]?=some x)(hx:X3 X.env.scope x)(r:RelV v u)(h:∀ s',Inv X pins (Y.set i (some v)) H s'->Q () s')(hf:X.fn x=true\/X.env.scope.names.lookup x=some .local:=by first | exact .inl rfl | exact .inr rfl | assumption):wpAny M A (storeName X.env x u) Q E s:=
 tJ I hN hi hx r (fun s' I' _=>h s' I') hf
theorem Inv.call'{s':Shared}{ch:List Addr}(I:Inv X pins Y H s)(ho:s'.os=s.os)(u:Un (E3 X.stack) ch H H' s.heap s'.heap)(hok:D1 X.prog X.w H' s'.heap)(hg:AllBare s'.gens)(W0:∀ b∈ch,(b∈X.ex\/X.s₀.heap.objs.size<=b)/\b≠X.env.locals/\(∀ x c,X.env.cells.lookup x=some c->c≠b)/\∀ p∈X.pn++pins,p.1≠b):Inv X pins Y H' s':=by
 obtain ⟨h',g',d',t',o'⟩:=s';have e:o'=s.os:=ho;subst e;exact I.call (g':=g') (t':=t') (d':=d') u hok hg W0
end
noncomputable abbrev XK:=Value->Option Addr->Hp->Prop
noncomputable abbrev St:=List (Option V)
noncomputable abbrev VK:=V->Hp->Prop
noncomputable abbrev TE:=St->Hp->VK->Prop
noncomputable abbrev TT:=St->Hp->(Bool->Hp->Prop)->Prop
noncomputable abbrev TA:=St->Hp->(List V->Hp->Prop)->Prop
structure Ends where
 nx:St->Hp->Prop
 rt:VK
 bk:St->Hp->Prop:=fun _ _=>False
 ct:St->Hp->Prop:=fun _ _=>False
noncomputable abbrev TS:=Ends->St->Hp->Prop
noncomputable def EP (X:Cx) (pins:List (Addr×Obj)) (Y:St) (Q:VK) (u:Value) (s':Shared):Prop:=∃ v H',Inv X pins Y H' s'/\RelV v u/\Q v H'
noncomputable def TP (X:Cx) (pins:List (Addr×Obj)) (Y:St) (Q:Bool->Hp->Prop) (b:Bool) (s':Shared):Prop:=∃ H',Inv X pins Y H' s'/\Q b H'
noncomputable def AP (X:Cx) (pins:List (Addr×Obj)) (Y:St) (Q:List V->Hp->Prop) (us:List Value) (s':Shared):Prop:=∃ vs H',Inv X pins Y H' s'/\Vals vs us/\Q vs H'
noncomputable def SP (X:Cx) (pins:List (Addr×Obj)) (D:Ends) (f:Flow) (s':Shared):Prop:=
 match f with
 | .next=>∃ σ' H',Inv X pins σ' H' s'/\D.nx σ' H'
 | .brk=>∃ σ' H',Inv X pins σ' H' s'/\D.bk σ' H'
 | .cont=>∃ σ' H',Inv X pins σ' H' s'/\D.ct σ' H'
 | .ret u=>∃ v σ' H',Inv X pins σ' H' s'/\RelV v u/\D.rt v H'
noncomputable def PE (X:Cx) (e:Expr) (t:TE):Prop:=
 ∀ (pins:List (Addr×Obj)) (s:Shared) (Y:St) (H:Hp) (Q:VK),Inv X pins Y H s->t Y H Q->wpAny (model X.prog X.w) X.A (eval e X.env) (EP X pins Y Q) X.xe s
noncomputable def PT (X:Cx) (e:Expr) (t:TT):Prop:=
 ∀ (pins:List (Addr×Obj)) (s:Shared) (Y:St) (H:Hp) (Q:Bool->Hp->Prop),Inv X pins Y H s->t Y H Q->wpAny (model X.prog X.w) X.A (isTrue e X.env (eval e X.env)) (TP X pins Y Q) X.xe s
noncomputable def PW (X:Cx) (e:Expr) (t:TT):Prop:=
 ∀ (whole:Sem Value) (pins:List (Addr×Obj)) (s:Shared) (Y:St) (H:Hp) (Q:Bool->Hp->Prop),Inv X pins Y H s->t Y H Q->wpAny (model X.prog X.w) X.A (isTrue e X.env whole) (TP X pins Y Q) X.xe s
theorem PW.pt{X:Cx}{e:Expr}{t:TT}(h:PW X e t):PT X e t:=h _
noncomputable def PA (X:Cx) (es:List Expr) (t:TA):Prop:=
 ∀ (pos:Pos) (pins:List (Addr×Obj)) (s:Shared) (Y:St) (H:Hp) (Q:List V->Hp->Prop),Inv X pins Y H s->t Y H Q->wpAny (model X.prog X.w) X.A (spliced (backTo pos (starEach es X.env))) (AP X pins Y Q) X.xe s
noncomputable def PS (X:Cx) (st:Stmt) (t:TS):Prop:=
 ∀ (pins:List (Addr×Obj)) (s:Shared) (Y:St) (H:Hp) (D:Ends),Inv X pins Y H s->t D Y H->wpAny (model X.prog X.w) X.A (exec st X.env) (SP X pins D) X.xe s
noncomputable def M3 (X:Cx) (st:List Stmt) (t:TS):Prop:=
 ∀ (pins:List (Addr×Obj)) (s:Shared) (Y:St) (H:Hp) (D:Ends),Inv X pins Y H s->t D Y H->wpAny (model X.prog X.w) X.A (execs st X.env) (SP X pins D) X.xe s
theorem A4{α:Type}{t:Sem α}{Q Q':α->Shared->Prop}{M:Model}{A:Around}{E:Value->Shared->Prop}{s:Shared}(h:wpAny M A t Q E s)(hQ:∀ a s,Q a s->Q' a s):wpAny M A t Q' E s:=wpAny_mono h hQ fun _ _ x=>x
end L2
namespace L2
open PySem PySem.Spec PyProof.Rows
section
variable {X:Cx}
noncomputable def tVar (i:Nat):TE:=fun Y H Q=>∃ v,Y[i]?=some (some v)/\Q v H
noncomputable def tC (v:V):TE:=fun _ H Q=>Q v H
theorem kP{i:Nat}{x:Str}{pos:Pos}(hN:X.N[i]?=some x)(hv:bV X.env.scope x)(hd:(x==("__debug__" : Str))=false:=by decide)(G5:(x==("__classdict__" : Str))=false:=by decide):PE X (.Name x pos) (tVar i):=by
 intro pins s Y H Q I h;obtain ⟨v,e,h⟩:=h;obtain ⟨m,hn,hl⟩:=I.loc;obtain ⟨u,r,l⟩:=hl i x v hN e hv;have fin:EP X pins Y Q u s:=⟨v,H,I,r,h⟩
 rcases l with ⟨hk,hm⟩ | ⟨hk,c,hc,K5⟩
 .exact wpAny_Name (wpAny_loadName_local I.ok.kind hk hn hm fin) hd
 .rcases hk with hk | hk
  .exact wpAny_Name (wpAny_loadName_cell I.ok.kind hk hc K5 fin) hd
  .exact wpAny_Name (wpAny_loadName_free I.ok.kind hk hc K5 fin G5) hd
theorem tK{i j pos} : PE X (.Constant (.int i) j pos) (tC (.int i)):=fun _ _ _ H _ I h=>wpAny_Constant_int ⟨.int i,H,I.tok _,⟨_,rfl⟩,h⟩
theorem pe_bl{b j pos} : PE X (.Constant (.bool b) j pos) (tC (.bl b)):=fun _ _ _ H _ I h=>Constant_bool ⟨.bl b,H,I,rfl,h⟩
theorem tL{j pos} : PE X (.Constant .none j pos) (tC .non):=fun _ _ _ H _ I h=>Constant_none ⟨.non,H,I,rfl,h⟩
theorem tM{x j pos} : PE X (.Constant (.str x) j pos) (tC (.str x)):=fun _ _ _ H _ I h=>Calls.Constant_str ⟨.str x,H,I.tok _,⟨_,rfl⟩,h⟩
noncomputable def Gl (X:Cx) (x:Str):Prop:=X.env.kindOf x=some .globalImplicit
theorem U9{E:Value->Shared->Prop}{pins:List (Addr×Obj)}{s:Shared}{Y:St}{H:Hp}{x:Str}{u:Value}{pos:Pos}{Q:Value->Shared->Prop}(I:Inv X pins Y H s)(hg:Gl X x)(hm:X.mg x=some u)(h:Q u s)(hd:(x==("__debug__" : Str))=false:=by decide):wpAny (model X.prog X.w) X.A (eval (.Name x pos) X.env) Q E s:=
 Calls.Name_function_global I.ok.kind hg (Calls.loadGlobal_global (by rw [I.ok.glob];exact I.mod.glob.keeps I.bk) hm h) hd
theorem bW{E:Value->Shared->Prop}{pins:List (Addr×Obj)}{s:Shared}{Y:St}{H:Hp}{x:Str}{u:Value}{pos:Pos}{Q:Value->Shared->Prop}(I:Inv X pins Y H s)(hg:Gl X x)(hm:X.mg x=none)(hv:bootBuiltins x=some u)(h:Q u s)(hn:x≠"__name__":=by decide)(hd:(x==("__debug__" : Str))=false:=by decide):wpAny (model X.prog X.w) X.A (eval (.Name x pos) X.env) Q E s:=by
 obtain ⟨mb,h1,h2⟩:=I.mod.blt;exact Calls.Name_function_global I.ok.kind hg (Calls.loadGlobal_builtin (by rw [I.ok.glob];exact I.mod.glob.keeps I.bk) hm (by rw [I.ok.blt];exact h1.keeps I.bk) ((h2 x hn).trans hv) h) hd
theorem kQ{x:Str}{v:V}{u:Value}{pos:Pos}(hg:Gl X x)(hm:X.mg x=some u)(r:RelV v u)(hd:(x==("__debug__" : Str))=false:=by decide):PE X (.Name x pos) (tC v):=
 fun _ _ _ H _ I h=>U9 I hg hm ⟨v,H,I,r,h⟩ hd
theorem tN{x:Str}{v:V}{u:Value}{pos:Pos}(hg:Gl X x)(hm:X.mg x=none)(hv:bootBuiltins x=some u)(r:RelV v u)(hn:x≠"__name__":=by decide)(hd:(x==("__debug__" : Str))=false:=by decide):PE X (.Name x pos) (tC v):=
 fun _ _ _ H _ I h=>bW I hg hm hv ⟨v,H,I,r,h⟩ hn hd
variable {a b:Expr} {ta tb:TE} {pos:Pos}
noncomputable def tB (t:TE):TT:=fun Y H Q=>t Y H fun x H1=>∃ c,x=.bl c/\Q c H1
variable {tA tB':TT} {rest:List Expr}
noncomputable def tAnd (t u:TT):TT:=fun Y H Q=>t Y H fun c H1=>if c=true then u Y H1 Q else Q false H1
noncomputable def eE (t u:TT):TT:=fun Y H Q=>t Y H fun c H1=>if c=true then Q true H1 else u Y H1 Q
noncomputable def tNot (t:TT):TT:=fun Y H Q=>t Y H fun c H1=>Q (!c) H1
theorem tO(ha:PT X a tA):PW X (.BoolOp .And [a] pos) tA:=by
 intro wh pins s Y H Q I h;refine isTrue_and (A4 (ha pins s Y H Q I h) fun c s1 e=>?_)
 cases c with
 | true=>exact isTrue_and_nil e
 | false=>exact e
theorem tP(ha:PT X a tA):PW X (.BoolOp .Or [a] pos) tA:=by
 intro wh pins s Y H Q I h;refine isTrue_or (A4 (ha pins s Y H Q I h) fun c s1 e=>?_)
 cases c with
 | false=>exact isTrue_or_nil e
 | true=>exact e
theorem tQ(ha:PT X a tA)(hb:PW X (.BoolOp .And (b::rest) pos) tB'):PW X (.BoolOp .And (a::b::rest) pos) (tAnd tA tB'):=by
 intro wh pins s Y H Q I h;refine isTrue_and (A4 (ha pins s Y H _ I h) fun c s1 ⟨H1,I1,q1⟩=>?_)
 cases c with
 | true=>exact hb wh pins s1 Y H1 Q I1 q1
 | false=>exact ⟨H1,I1,q1⟩
theorem pw_or(ha:PT X a tA)(hb:PW X (.BoolOp .Or (b::rest) pos) tB'):PW X (.BoolOp .Or (a::b::rest) pos) (eE tA tB'):=by
 intro wh pins s Y H Q I h;refine isTrue_or (A4 (ha pins s Y H _ I h) fun c s1 ⟨H1,I1,q1⟩=>?_)
 cases c with
 | true=>exact ⟨H1,I1,q1⟩
 | false=>exact hb wh pins s1 Y H1 Q I1 q1
theorem tR(ha:PT X a tA):PT X (.UnaryOp .Not a pos) (tNot tA):=by
 intro pins s Y H Q I h;exact isTrue_not (ha pins s Y H (fun c H1=>Q (!c) H1) I h)
noncomputable def tAndV (ta tb:TE):TE:=fun Y H Q=>ta Y H fun x H1=>∃ c,x=.bl c/\if c=true then tb Y H1 Q else Q (.bl false) H1
noncomputable def tOrV (ta tb:TE):TE:=fun Y H Q=>ta Y H fun x H1=>∃ c,x=.bl c/\if c=true then Q (.bl true) H1 else tb Y H1 Q
noncomputable def tNotV (ta:TE):TE:=fun Y H Q=>ta Y H fun x H1=>∃ c,x=.bl c/\Q (.bl (!c)) H1
theorem tS{op}{t:TE}(h:PE X a t):PE X (.BoolOp op [a] pos) t:=fun pins s Y H Q I hw=>BoolOp_one (h pins s Y H Q I hw)
theorem tT(ha:PE X a ta)(hb:PE X (.BoolOp .And (b::rest) pos) tb):PE X (.BoolOp .And (a::b::rest) pos) (tAndV ta tb):=by
 intro pins s Y H Q I h;refine BoolOp_and (A4 (ha pins s Y H _ I h) fun v s1 ⟨x,H1,I1,r1,q1⟩=>?_);obtain ⟨c,rfl,q1⟩:=q1
 cases r1
 refine wpAny_truthy_bool ?_
 cases c with
 | true=>exact hb pins s1 Y H1 Q I1 q1
 | false=>exact ⟨.bl false,H1,I1,rfl,q1⟩
noncomputable def tU (t:TT) (ta tb:TE):TE:=fun Y H Q=>t Y H fun c H1=>if c=true then ta Y H1 Q else tb Y H1 Q
end
end L2
namespace L2
open PySem PySem.Spec PyProof.Rows
noncomputable def C1 (K:PySem.W.Frag) (H:Hp) (a:Addr) (xs:List V):Prop:=
 Rd H a (.lst xs)\/
  ∃ (o:Obj) (its:Array Value) (n:Nat),K.lookup a=some o/\o.cls=.type "list"/\o.dict=none/\o.data=.seq its n/\its.size<=sizeLine/\Vals xs its.toList
noncomputable def D2 (K:PySem.W.Frag) (H:Hp) (a:Addr) (xs:List V):Prop:=
 Rd H a (.tup xs)\/
  ∃ (o:Obj) (its:Array Value) (n:Nat),K.lookup a=some o/\o.cls=.type "tuple"/\o.data=.seq its n/\its.size<=sizeLine/\Vals xs its.toList
noncomputable def absV:Value->Option V
 | .none=>some .non
 | .bool b=>some (.bl b)
 | .int i _=>some (.int i)
 | .str x _=>some (.str x)
 | .bytes b _=>some (.byt b)
 | .float b _=>some (.flt b)
 | .ref a=>some (.ref a)
 | .type n=>some (.ty n)
 | _=>none
theorem RelV.abs{x:V}{u:Value}(r:RelV x u):absV u=some x:=by
 cases x with
 | non=>cases r;rfl
 | bl _=>cases r;rfl
 | int _=>obtain ⟨t,rfl⟩:=r;rfl
 | str _=>obtain ⟨t,rfl⟩:=r;rfl
 | byt _=>obtain ⟨t,rfl⟩:=r;rfl
 | flt _=>obtain ⟨t,rfl⟩:=r;rfl
 | ref _=>cases r;rfl
 | ty _=>cases r;rfl
theorem RelV.inj{x y:V}{u:Value}(r:RelV x u)(q:RelV y u):x=y:=Option.some.inj (r.abs.symm.trans q.abs)
theorem Vals.inj:∀ {xs ys:List V} {us:List Value},Vals xs us->Vals ys us->xs=ys
 | _,_,_,.nil,.nil=>rfl
 | _,_,_,.cons r t,.cons r' t'=>by rw [r.inj r',Vals.inj t t']
section
variable {X:Cx} {pins:List (Addr×Obj)} {Y:St} {H:Hp} {s:Shared} {a:Addr} {xs ys:List V}
theorem C1.of{K:PySem.W.Frag}(h:H a=some (.lst xs)):C1 K H a xs:=.inl (.inl h)
theorem D2.of{K:PySem.W.Frag}(h:H a=some (.tup xs)):D2 K H a xs:=.inl (.inl h)
theorem Inv.list(I:Inv X pins Y H s)(h:C1 X.K H a xs):∃ its:List Value,Vals xs its/\PlainL s.heap a its.toArray/\xs.length<=sizeLine:=by
 rcases h with h | ⟨o,its,n,hk,hc,hd,hs,hz,r⟩
 .obtain ⟨z,its,n,r,e⟩:=h.ok I.hok;exact ⟨its,r,⟨_,n,e,rfl,rfl,rfl⟩,z⟩
 .refine ⟨its.toList,r,⟨o,n,I.kIn a o hk,hc,hd,by simpa using hs⟩,?_⟩;have e:=r.length;simp only [Array.length_toList] at e;lia
theorem Inv.tuple(I:Inv X pins Y H s)(h:D2 X.K H a xs):∃ its:List Value,Vals xs its/\IsTup s.heap a its.toArray/\xs.length<=sizeLine:=by
 rcases h with h | ⟨o,its,n,hk,hc,hs,hz,r⟩
 .obtain ⟨z,its,r,p⟩:=h.ok I.hok;exact ⟨its,r,p,z⟩
 .refine ⟨its.toList,r,⟨o,I.kIn a o hk,hc,n,by simpa using hs⟩,?_⟩;have e:=r.length;simp only [Array.length_toList] at e;lia
theorem Inv.list_inj(I:Inv X pins Y H s)(h:C1 X.K H a xs)(h':C1 X.K H a ys):xs=ys:=by
 obtain ⟨its,r,⟨o,n,e,_,_,d⟩,_⟩:=I.list h;obtain ⟨its',r',⟨o',n',e',_,_,d'⟩,_⟩:=I.list h';rw [e] at e';cases e';rw [d] at d'
 injection d' with d1 _
 have:its=its':=by simpa using congrArg Array.toList d1
 subst this;exact r.inj r'
end
noncomputable abbrev Cx.wish (X:Cx) (E:Value->Shared->Prop):Cx:={ X with xe:=E }
noncomputable abbrev Cx.nox (X:Cx):Cx:=X.wish fun _ _=>False
theorem Cx.Ok.wish{X:Cx}(ok:X.Ok)(E:Value->Shared->Prop):(X.wish E).Ok:=
 ⟨ok.mod,ok.kind,ok.glob,ok.blt,ok.above,ok.inj,ok.has,ok.cab,ok.hd,ok.frames,ok.stk,ok.exf,ok.bs,ok.bsz,ok.noex,ok.exfs,ok.funs,ok.frf⟩
theorem Cx.Ok.unwish{X:Cx}{E:Value->Shared->Prop}(ok:(X.wish E).Ok):X.Ok:=
 ⟨ok.mod,ok.kind,ok.glob,ok.blt,ok.above,ok.inj,ok.has,ok.cab,ok.hd,ok.frames,ok.stk,ok.exf,ok.bs,ok.bsz,ok.noex,ok.exfs,ok.funs,ok.frf⟩
section
variable {X:Cx} {pins:List (Addr×Obj)} {Y:St} {H:Hp} {s:Shared} {E:Value->Shared->Prop}
theorem Inv.wish(I:Inv X pins Y H s)(E:Value->Shared->Prop):Inv (X.wish E) pins Y H s:=⟨I.ok.wish E,I.os,I.bare,I.base,I.loc,I.cell,I.free,I.freeC,I.pin,I.hok,I.len⟩
theorem Inv.unwish(I:Inv (X.wish E) pins Y H s):Inv X pins Y H s:=⟨I.ok.unwish,I.os,I.bare,I.base,I.loc,I.cell,I.free,I.freeC,I.pin,I.hok,I.len⟩
theorem SP.unwish{D:Ends}{f:Flow}{s':Shared}(h:SP (X.wish E) pins D f s'):SP X pins D f s':=by
 cases f with
 | next=>obtain ⟨σ',H',I,q⟩:=h;exact ⟨σ',H',I.unwish,q⟩
 | brk=>obtain ⟨σ',H',I,q⟩:=h;exact ⟨σ',H',I.unwish,q⟩
 | cont=>obtain ⟨σ',H',I,q⟩:=h;exact ⟨σ',H',I.unwish,q⟩
 | ret u=>obtain ⟨v,σ',H',I,r,q⟩:=h;exact ⟨v,σ',H',I.unwish,r,q⟩
theorem M3.nox{st:List Stmt}{t:TS}(h:M3 X.nox st t):M3 X st t:=fun pins s Y H D I hw=>
 wpAny_mono (h pins s Y H D (I.wish _) hw) (fun _ _ q=>q.unwish) fun _ _ z=>False.elim z
end
section
variable {X:Cx} {st:Stmt} {rest:List Stmt} {t u:TS} {e:Expr} {te:TE} {pos:Pos}
noncomputable def tNext:TS:=fun D Y H=>D.nx Y H
noncomputable def tSeq (t u:TS):TS:=fun D Y H=>t { D with nx:=u D } Y H
theorem tV:M3 X [] tNext:=fun _ _ Y H _ I h=>wpAny_execs_nil ⟨Y,H,I,h⟩
theorem tW(h1:PS X st t)(h2:M3 X rest u):M3 X (st::rest) (tSeq t u):=by
 intro pins s Y H D I h;refine wpAny_execs_cons (A4 (h1 pins s Y H { D with nx:=u D } I h) fun f s1 q=>?_)
 cases f with
 | next=>
  obtain ⟨σ',H',I',q⟩:=q;exact h2 pins s1 σ' H' D I' q
 | ret v=>exact q
 | brk=>exact q
 | cont=>exact q
theorem tX(h1:PS X st t):M3 X [st] t:=by
 intro pins s Y H D I h;refine wpAny_execs_cons (A4 (h1 pins s Y H D I h) fun f s1 q=>?_)
 cases f with
 | next=>exact wpAny_execs_nil q
 | ret v=>exact q
 | brk=>exact q
 | cont=>exact q
noncomputable def tY:TS:=fun D Y H=>D.bk Y H
noncomputable def tCont:TS:=fun D Y H=>D.ct Y H
theorem Inv.quiet{pins:List (Addr×Obj)}{Y:St}{H:Hp}{s:Shared}(I:Inv X pins Y H s):interactive X.env=false:=by simp [interactive,I.ok.kind]
noncomputable def tDrop (te:TE):TS:=fun D Y H=>te Y H fun _ H1=>D.nx Y H1
theorem tZ(he:PE X e te)(hs:swapsWith e none pos.line X.env=pure false:=by rfl):PS X (.Expr e pos) (tDrop te):=by
 intro pins s Y H D I h;exact wpAny_Expr_any (A4 (he pins s Y H _ I h) fun v s1 ⟨x,H1,I1,r1,q1⟩=>⟨Y,H1,I1,q1⟩) I.quiet hs
noncomputable def tRet (te:TE):TS:=fun D Y H=>te Y H D.rt
theorem uA(he:PE X e te):PS X (.Return (some e) pos) (tRet te):=by
 intro pins s Y H D I h;exact wpAny_Return_some (A4 (he pins s Y H _ I h) fun v s1 ⟨x,H1,I1,r1,q1⟩=>⟨x,Y,H1,I1,r1,q1⟩)
noncomputable def tRetN:TS:=fun D _ H=>D.rt .non H
noncomputable def tIfS (c:TT) (t u:TS):TS:=fun D Y H=>c Y H fun b H1=>if b=true then t D Y H1 else u D Y H1
theorem ps_if{c:Expr}{a b:List Stmt}{tc:TT}(hc:PT X c tc)(ha:M3 X a t)(hb:M3 X b u):PS X (.If c a b pos) (tIfS tc t u):=by
 intro pins s Y H D I h;refine wpAny_If (A4 (hc pins s Y H _ I h) fun d s1 ⟨H1,I1,q1⟩=>?_)
 cases d with
 | true=>exact ha pins s1 Y H1 D I1 q1
 | false=>exact hb pins s1 Y H1 D I1 q1
noncomputable def uB:TS:=fun _ _ _=>False
end
noncomputable abbrev TG:=V->St->Hp->(St->Hp->Prop)->Prop
noncomputable abbrev Q4:=List V->St->Hp->(St->Hp->Prop)->Prop
noncomputable def PG (X:Cx) (target:Expr) (t:TG):Prop:=
 ∀ (pins:List (Addr×Obj)) (s:Shared) (Y:St) (H:Hp) (v:V) (u:Value) (Q:St->Hp->Prop),Inv X pins Y H s->RelV v u->t v Y H Q->
  wpAny (model X.prog X.w) X.A (assign target X.env u) (fun _ s'=>∃ σ' H',Inv X pins σ' H' s'/\Q σ' H') X.xe s
noncomputable def x5 (X:Cx) (ts:List Expr) (t:Q4):Prop:=
 ∀ (pins:List (Addr×Obj)) (s:Shared) (Y:St) (H:Hp) (vs:List V) (us:List Value) (Q:St->Hp->Prop),Inv X pins Y H s->Vals vs us->t vs Y H Q->
  wpAny (model X.prog X.w) X.A (assignInOrder ((assignEach ts X.env).map (·.2)) us) (fun _ s'=>∃ σ' H',Inv X pins σ' H' s'/\Q σ' H') X.xe s
noncomputable abbrev TSet:=V->V->V->Hp->(Hp->Prop)->Prop
noncomputable abbrev eF:=V->V->Hp->VK->Prop
section
variable {X:Cx} {pos:Pos}
noncomputable def gName (i:Nat):TG:=fun v Y H Q=>Q (Y.set i (some v)) H
theorem uC{i:Nat}{x:Str}(hN:X.N.Nodup)(hi:X.N[i]?=some x)(hx:X3 X.env.scope x)(hf:X.fn x=true\/X.env.scope.names.lookup x=some .local:=by first | exact .inl rfl | exact .inr rfl | assumption):PG X (.Name x pos) (gName i):=by
 intro pins s Y H v u Q I r h;exact wpAny_assign_Name (x4 I hN hi hx r (fun s' I'=>⟨_,H,I',h⟩) hf)
noncomputable def gNil:Q4:=fun vs Y H Q=>vs=[]/\Q Y H
noncomputable def gCons (t:TG) (u:Q4):Q4:=fun vs Y H Q=>∃ v r,vs=v::r/\t v Y H fun σ' H'=>u r σ' H' Q
theorem uD:x5 X [] gNil:=by
 intro pins s Y H vs us Q I r h;obtain ⟨e,h⟩:=h;subst e
 cases r
 exact assignInOrder_nil ⟨Y,H,I,h⟩
theorem uE{e:Expr}{es:List Expr}{t:TG}{u:Q4}(h1:PG X e t)(h2:x5 X es u)(hs:(assignEach (e::es) X.env).map (·.2)=assign e X.env::(assignEach es X.env).map (·.2):=by rfl):x5 X (e::es) (gCons t u):=by
 intro pins s Y H vs us Q I r h;obtain ⟨v,vr,e1,h⟩:=h;subst e1
 cases r with
 | cons r rr=>
  rw [hs];refine assignInOrder_cons (A4 (h1 pins s Y H _ _ _ I r h) fun _ s1 ⟨σ1,H1,I1,q1⟩=>?_);exact h2 pins s1 σ1 H1 _ _ Q I1 rr q1
noncomputable def gTup (K:PySem.W.Frag) (n:Nat) (t:Q4):TG:=fun v Y H Q=>∃ a xs,v=.ref a/\D2 K H a xs/\xs.length=n/\t xs Y H Q
theorem uF{es:List Expr}{k:Nat}{t:Q4}{n:Nat}(hc:X.calm=true)(h:x5 X es t)(hn:(assignEach es X.env).length=n:=by rfl)(j5:(assignEach es X.env).findIdx? (·.1)=none:=by rfl):PG X (.Tuple es k pos) (gTup X.K n t):=by
 intro pins s Y H v u Q I r hw;obtain ⟨a,xs,e1,hq,hl,hw⟩:=hw;subst e1
 cases r
 obtain ⟨its,rv,ht,hz⟩:=I.tuple hq;refine assign_Tuple_tuple (I.ok.hd hc) ht (by simp [hn,<- hl,rv.length]) j5 fun h' hx=>?_
 have I1:Inv X pins Y H { s with heap:=h' }:=I.kept (t':=s.toks) fun b o e=>hx b o (J6 (Heap.lt_size e)) e
 exact h pins _ Y H xs _ Q I1 (by simpa using rv) hw
noncomputable def gSub (to ti:TE) (t:TSet):TG:=fun v Y H Q=>to Y H fun o H1=>ti Y H1 fun i H2=>t o i v H2 fun H3=>Q Y H3
noncomputable def tAsg (te:TE) (g:TG):TS:=fun D Y H=>te Y H fun x H1=>g x Y H1 D.nx
theorem uG{i:Nat}{x:Str}{e:Expr}{te:TE}{pos':Pos}(hN:X.N.Nodup)(hi:X.N[i]?=some x)(hx:X3 X.env.scope x)(he:PE X e te)(hs:swapsWith e (some (.Name x pos')) pos.line X.env=pure false:=by rfl)(hf:X.fn x=true\/X.env.scope.names.lookup x=some .local:=by first | exact .inl rfl | exact .inr rfl | assumption) :
  PS X (.Assign [.Name x pos'] e pos) (tAsg te (gName i)):=by
 intro pins s Y H D I h;refine wpAny_Assign_Name (A4 (he pins s Y H _ I h) fun v s1 ⟨y,H1,I1,r1,q1⟩=>?_) hs;exact x4 I1 hN hi hx r1 (fun s2 I2=>⟨_,H1,I2,q1⟩) hf
noncomputable def tAug (i:Nat) (te:TE) (ti:eF):TS:=fun D Y H=>∃ x,Y[i]?=some (some x)/\te Y H fun y H1=>ti x y H1 fun z H2=>D.nx (Y.set i (some z)) H2
noncomputable def uH (f:Int->Int->Int):eF:=fun x y H Q=>∃ i j,x=.int i/\y=.int j/\Q (.int (f i j)) H
end
section
variable {X:Cx} {pos:Pos}
noncomputable def kR (c:TT) (tb:TS):TS:=fun D Y H=>∃ W:Nat->St->Hp->Prop,(∃ m,W m Y H)/\∀ m Y H,W m Y H->
 c Y H fun b H1=>if b=true then ∃ N:St->Hp->Prop,(∀ σ' H',N σ' H'->∃ m',m'<m/\W m' σ' H')/\tb { D with nx:=N,ct:=N,bk:=D.nx } Y H1 else D.nx Y H1
end
structure It where
 go:Nat->Hp->Prop
 yld:Nat->Hp->V->Hp->Prop
 stop:Nat->Hp->Prop
noncomputable def FpOk (X:Cx) (pins:List (Addr×Obj)) (H:Hp) (b:Addr):Prop:=
 H b=none/\b≠X.env.locals/\b∉X.fs/\(b∈X.ex\/X.s₀.heap.objs.size<=b)/\(∀ x c,X.env.cells.lookup x=some c->c≠b)/\∀ p∈X.pn++pins,p.1≠b
theorem Inv.fpOk{X:Cx}{pins:List (Addr×Obj)}{Y:St}{H H':Hp}{s:Shared}{b:Addr}(I:Inv X pins Y H s)(hb:s.heap.objs.size<=b)(hn:H' b=none):FpOk X pins H' b:=by
 refine ⟨hn,R5 (K4 I.lt hb),I.nofs hb,.inr (C3 I.sz hb),fun x c e z=>?_,fun p hp z=>?_⟩
 .obtain ⟨v,q⟩:=I.cell x c e;exact absurd (K4 q.lt (by rw [z];exact hb)) (O1 _)
 .exact absurd (K4 (Heap.lt_size (I.pin p hp).1) (by rw [z];exact hb)) (O1 _)
structure Turn(P:Program)(w:World)(K:PySem.W.Frag)(tg:Expr)(J:It)(fp:List Addr)(it:Addr)(tn:Nat->Heap->Prop):Prop where
 mem:it∈fp
 obj:∀ i h,tn i h->∀ b∈fp,∃ o,h.get? b=some o/\∀ v,o.data≠.cell v
 keep:∀ i h h',tn i h->(∀ b∈fp,∀ o,h.get? b=some o->h'.get? b=some o)->tn i h'
 item:∀ (X:Cx),X.prog=P->X.w=w->X.K=K->X.calm=true->∀ (i:Nat) (pins:List (Addr×Obj)) (s:Shared) (Y:St) (H:Hp) (E:Value->Shared->Prop),Inv X pins Y H s->(∀ b∈fp,FpOk X pins H b)->tn i s.heap->J.go i H->
  wpAny (model P w) X.A (pyNext (.ref it)) (fun r s1=>∃ u,r=some u/\
   wpAny (model P w) X.A (letOwnedTupleGo tg (.ref it) u) (fun _ s2=>∃ x H',Inv X pins Y H' s2/\RelV x u/\J.yld i H x H'/\tn (i+1) s2.heap/\∀ b∈fp,H' b=none) E s1) E s
 done:∀ (X:Cx),X.prog=P->X.w=w->X.K=K->X.calm=true->∀ (i:Nat) (pins:List (Addr×Obj)) (s:Shared) (Y:St) (H:Hp) (E:Value->Shared->Prop),Inv X pins Y H s->(∀ b∈fp,FpOk X pins H b)->tn i s.heap->J.stop i H->
  wpAny (model P w) X.A (pyNext (.ref it)) (fun r s1=>r=none/\Inv X pins Y H s1) E s
 self:∀ (A:Around) (i:Nat) (s:Shared) (Q:Value->Shared->Prop) (E:Value->Shared->Prop),tn i s.heap->Q (.ref it) s->wpAny (model P w) A (pyIter (.ref it)) Q E s
noncomputable abbrev TI:=St->Hp->(It->Hp->Prop)->Prop
noncomputable def eG (X:Cx) (pins:List (Addr×Obj)) (Y:St) (tg:Expr) (R:It->Hp->Prop) (itv:Value) (s2:Shared):Prop:=
 ∃ (it:Addr) (fp:List Addr) (tn:Nat->Heap->Prop) (J:It) (H':Hp),itv=.ref it/\Inv X pins Y H' s2/\Turn X.prog X.w X.K tg J fp it tn/\tn 0 s2.heap/\(∀ b∈fp,FpOk X pins H' b)/\R J H'
noncomputable def PI (X:Cx) (tg iter:Expr) (wi:TI):Prop:=
 ∀ (pins:List (Addr×Obj)) (s:Shared) (Y:St) (H:Hp) (R:It->Hp->Prop),Inv X pins Y H s->wi Y H R->
  wpAny (model X.prog X.w) X.A (eval iter X.env) (fun v s1=>wpAny (model X.prog X.w) X.A (pyIter v) (eG X pins Y tg R) X.xe s1) X.xe s
theorem go_of{M : Model}{A : Around}{E : Value -> Shared -> Prop}{s : Shared}{tg : Expr}{it : Addr}{u : Value}{o : Obj}{n : String}{vs : Array Value}{Q : Unit -> Shared -> Prop}(ho : s.heap.get? it = some o)(hc : o.cls = .type n)(hd : o.data = .fields vs)(hn : ["enumerate", "zip", "dict_itemiterator", "dict_reverseitemiterator", "odict_iterator", "itertools.zip_longest", "itertools.pairwise"].contains n = false)(hQ : Q () s) : wpAny M A (letOwnedTupleGo tg (.ref it) u) Q E s := by
  unfold letOwnedTupleGo
  cases tg <;> first
    | exact wpAny_pure hQ
    | (cases u <;> first
        | exact wpAny_pure hQ
        | (refine wpAny_bind (wpAny_load ho ?_)
           rw [hc, hd];show wpAny M A (if (["enumerate", "zip", "dict_itemiterator", "dict_reverseitemiterator", "odict_iterator", "itertools.zip_longest", "itertools.pairwise"].contains n&&vs[0]? == some (rawInt _)) = true then _ else _) Q E s;rw [if_neg (by intro h; rw [hn, Bool.false_and] at h; cases h)];exact wpAny_pure hQ))
noncomputable def Z1 (K:PySem.W.Frag) (a:Addr):It:=
 ⟨fun i H=>∃ xs x,C1 K H a xs/\xs[i]?=some x,fun i H x H'=>H'=H/\∀ xs,C1 K H a xs->xs[i]?=some x,fun i H=>∃ xs,C1 K H a xs/\xs.length<=i⟩
noncomputable def kS (K:PySem.W.Frag) (a:Addr):It:=
 ⟨fun i H=>∃ xs x,D2 K H a xs/\xs[i]?=some x,fun i H x H'=>H'=H/\∀ xs,D2 K H a xs->xs[i]?=some x,fun i H=>∃ xs,D2 K H a xs/\xs.length<=i⟩
noncomputable def V0 (lo:Int) (n:Nat):It:=⟨fun i _=>i<n,fun i H x H'=>H'=H/\x=.int (lo+i),fun i _=>n<=i⟩
theorem uI{P:Program}{w:World}{K:PySem.W.Frag}{tg:Expr}(a it:Addr):Turn P w K tg (Z1 K a) [it] it (fun i h=>h.IsListIter it a i) where
 mem:=by simp
 obj:=fun i h st b hb=>by
  have e:b=it:=by simpa using hb
  subst e;obtain ⟨o,e,c,d⟩:=st;exact ⟨o,e,fun v z=>by rw [d] at z;cases z⟩
 keep:=fun i h h' st k=>st.at fun o e=>k it (by simp) o e
 item:=by
  intro X hP hw hK hc i pins s Y H E I hf st hg;subst hP hw hK;obtain ⟨xs,x,hq,hx⟩:=hg;obtain ⟨its,rv,p,hz⟩:=I.list hq;obtain ⟨u,hu,ru⟩:=rv.get hx;obtain ⟨f0,f1,f2,f3,f4,f5⟩:=hf it (by simp);refine wpAny_pyNext_list_item st p.isList (x:=u) (by simpa using hu) fun h' st' sb=>?_
  have I1:Inv X pins Y H { s with heap:=h' }:=I.turned (t':=s.toks) (fun b o hb e=>(sb.2 b hb).trans e) f0 f1 f3 f4 f5;obtain ⟨o,e,c,d⟩:=id st';exact ⟨u,rfl,go_of (s:={ s with heap:=h' }) e c d (by decide) ⟨x,H,I1,ru,⟨rfl,fun ys hy=>by rw [I.list_inj hy hq];exact hx⟩,st',fun b hb=>(hf b hb).1⟩⟩
 done:=by
  intro X hP hw hK hc i pins s Y H E I hf st hg;subst hP hw hK;obtain ⟨xs,hq,hx⟩:=hg;obtain ⟨its,rv,p,hz⟩:=I.list hq;obtain ⟨f0,f1,f2,f3,f4,f5⟩:=hf it (by simp);have hl:=rv.length;exact wpAny_pyNext_list_end (I.ok.hd hc) st p.isList (by simp;lia) fun h' eb=>⟨rfl,I.turned (t':=s.toks) (fun b o hb e=>eb b o hb e) f0 f1 f3 f4 f5⟩
 self:=fun _ _ _ _ _ st h=>wpAny_pyIter_listiter st h
theorem uJ{P:Program}{w:World}{K:PySem.W.Frag}{tg:Expr}(it:Addr)(lo:Int)(n:Nat):Turn P w K tg (V0 lo n) [it] it (fun i h=>IsRangeIter h it (lo+(i:Nat)*1) ((n:Int)-(i:Nat)) 1) where
 mem:=by simp
 obj:=fun i h st b hb=>by
  have e:b=it:=by simpa using hb
  subst e;exact ⟨_,st,fun v z=>by
   have z':Data.fields _=Data.cell v:=z
   cases z'⟩
 keep:=fun i h h' st k=>k it (by simp) _ st
 item:=by
  intro X hP hw hK hc i pins s Y H E I hf st hg;subst hP hw hK;obtain ⟨f0,f1,f2,f3,f4,f5⟩:=hf it (by simp);have W:=Walks.range (prog:=X.prog) (w:=X.w) (I.ok.hd hc) it lo 1 n;refine W.item i s _ _ hg st fun v h' tk hv st' kk=>?_
  obtain ⟨t,rfl⟩:=hv;have I1:Inv X pins Y H { s with heap:=h',toks:=tk }:=I.turned (fun b o hb e=>kk b o (by simpa using hb) e) f0 f1 f3 f4 f5;refine ⟨_,rfl,go_of (s:={ s with heap:=h',toks:=tk }) (n:="range_iterator") st' rfl rfl (by decide) ⟨.int (lo+i),H,I1,⟨t,?_⟩,⟨rfl,rfl⟩,st',fun b hb=>(hf b hb).1⟩⟩;rw [Int.mul_one]
 done:=by
  intro X hP hw hK hc i pins s Y H E I hf st hg;subst hP hw hK;obtain ⟨f0,f1,f2,f3,f4,f5⟩:=hf it (by simp);exact wpAny_pyNext_range_end (I.ok.hd hc) st (by have:n<=i:=hg;lia) fun h' eb=>⟨rfl,I.turned (t':=s.toks) (fun b o hb e=>eb b o hb e) f0 f1 f3 f4 f5⟩
 self:=fun _ _ _ _ _ st h=>wpAny_pyIter_rangeiter st h
end L2
namespace L2
open PySem PySem.Spec PyProof.Rows
section
variable {X:Cx} {tg:Expr}
noncomputable def iList (K:PySem.W.Frag) (tl:TE):TI:=fun Y H R=>tl Y H fun x H1=>∃ a,x=.ref a/\(∃ xs,C1 K H1 a xs)/\R (Z1 K a) H1
noncomputable def iTup (K:PySem.W.Frag) (tl:TE):TI:=fun Y H R=>tl Y H fun x H1=>∃ a,x=.ref a/\(∃ xs,D2 K H1 a xs)/\R (kS K a) H1
theorem uK{l:Expr}{tl:TE}(hl:PE X l tl):PI X tg l (iList X.K tl):=by
 intro pins s Y H R I h;refine A4 (hl pins s Y H _ I h) fun v s1 ⟨x,H1,I1,r1,q1⟩=>?_
 obtain ⟨a,e,⟨xs,hq⟩,q⟩:=q1;subst e
 cases r1
 obtain ⟨its,rv,p,hz⟩:=I1.list hq;refine wpAny_pyIter_list p.isList ?_;refine ⟨s1.heap.objs.size,[s1.heap.objs.size],_,_,H1,rfl,I1.kept (t':=s1.toks) fun b o e=>Heap.get?_push_of_some _ e,uI a _,⟨_,Heap.get?_push_size _ rfl,rfl,rfl⟩,fun b hb=>?_,q⟩;have e:b=s1.heap.objs.size:=by simpa using hb
 subst e;exact I1.fpOk (B5 _) (I1.hok.fresh (B5 _))
theorem uL{pins:List (Addr×Obj)}{Y:St}{H:Hp}{s:Shared}{R:It->Hp->Prop}{E:Value->Shared->Prop}{lo hi:Int}{t u v:Tok}{tk:Nat}(I:Inv X pins Y H s)(h1:-(2 ^ 62)<=lo)(h2:lo<2 ^ 62)(h3:-(2 ^ 62)<=hi)(h4:hi<2 ^ 62)(q:R (V0 lo (hi-lo).toNat) H):wpAny (model X.prog X.w) X.A (pyIter (.ref s.heap.objs.size)) (eG X pins Y tg R) E { s with heap:=s.heap.push { cls:=.type "range",data:=.fields #[.int lo t,.int hi u,.int 1 v] },toks:=tk }:=by
 refine wpAny_pyIter_range (IsRange.new ..) (small_one h1 h2 h3 h4) ?_;have I1:Inv X pins Y H { s with heap:=s.heap.push { cls:=.type "range",data:=.fields #[.int lo t,.int hi u,.int 1 v] },toks:=tk }:=I.kept fun b o e=>Heap.get?_push_of_some _ e
 refine ⟨(s.heap.push { cls:=.type "range",data:=.fields #[.int lo t,.int hi u,.int 1 v] }).objs.size,[(s.heap.push { cls:=.type "range",data:=.fields #[.int lo t,.int hi u,.int 1 v] }).objs.size],_,_,H,rfl,
  I1.kept (t':=tk) fun b o e=>Heap.get?_push_of_some _ e,uJ _ lo (hi-lo).toNat,?_,fun b hb=>?_,q⟩
 .have e1:lo+((0:Nat):Int)*1=lo:=by simp
  have e2:(((hi-lo).toNat:Nat):Int)-((0:Nat):Int)=Builtin.Range.rangeSize lo hi 1:=by rw [rangeSize_one];split <;> lia
  show IsRangeIter _ _ (lo+((0:Nat):Int)*1) ((((hi-lo).toNat:Nat):Int)-((0:Nat):Int)) 1;rw [e1,e2];exact Heap.get?_push_size _ rfl
 .have e:b=(s.heap.push { cls:=.type "range",data:=.fields #[.int lo t,.int hi u,.int 1 v] }).objs.size:=by simpa using hb
  subst e;exact I1.fpOk (B5 _) (I1.hok.fresh (B5 _))
noncomputable def iRng1 (ta:TA):TI:=fun Y H R=>ta Y H fun vs H1=>∃ j:Int,vs=[.int j]/\-(2 ^ 62)<=j/\j<2 ^ 62/\R (V0 0 j.toNat) H1
noncomputable def iRng2 (ta:TA):TI:=fun Y H R=>ta Y H fun vs H1=>∃ i j:Int,vs=[.int i,.int j]/\(-(2 ^ 62)<=i/\i<2 ^ 62/\-(2 ^ 62)<=j/\j<2 ^ 62)/\R (V0 i (j-i).toNat) H1
theorem uM{a:Expr}{ta:TA}{p pos:Pos}(hg:Gl X "range")(hm:X.mg "range"=none)(ha:PA X [a] ta)(hs:starEach [a] X.env=[(false,eval a X.env)]:=by rfl):PI X tg (.Call (.Name "range" p) [a] [] pos) (iRng1 ta):=by
 intro pins s Y H R I h;refine Call_ (bW I hg hm boot_range (PyProof.Rows.callWith_type1 (A4 (ha pos pins s Y H _ I h) fun us s1 ⟨vs,H1,I1,r1,q1⟩=>?_) hs rfl));obtain ⟨j,e,q1,q2,q⟩:=q1;subst e
 cases r1 with
 | cons r rr=>
  cases rr
  obtain ⟨t,rfl⟩:=r;exact call_range_1 (uL I1 (by lia) (by lia) q1 q2 (by simpa using q))
noncomputable def tFor (wi:TI) (g:TG) (tb:TS):TS:=fun D Y H=>wi Y H fun J H1=>∃ W:Nat->Nat->St->Hp->Prop,(∃ m,W 0 m Y H1)/\∀ i m Y H,W i m Y H->
 (J.stop i H/\D.nx Y H)\/(J.go i H/\∃ N:St->Hp->Prop,(∀ σ' H',N σ' H'->∃ m',m'<m/\W (i+1) m' σ' H')/\∀ x H',J.yld i H x H'->g x Y H' fun σ2 H2=>tb { D with nx:=N,ct:=N,bk:=D.nx } σ2 H2)
noncomputable def x6 (fp:List Addr) (h:Heap):List (Addr×Obj):=fp.filterMap fun b=>(h.get? b).map fun o=>(b,o)
theorem bX{fp:List Addr}{h:Heap}{b:Addr}{o:Obj}(hb:b∈fp)(e:h.get? b=some o):(b,o)∈x6 fp h:=List.mem_filterMap.mpr ⟨b,hb,by rw [e];rfl⟩
theorem uN{fp:List Addr}{h:Heap}{p:Addr×Obj}(hp:p∈x6 fp h):p.1∈fp/\h.get? p.1=some p.2:=by
 obtain ⟨b,hb,e⟩:=List.mem_filterMap.mp hp
 cases q:h.get? b with
 | none=>rw [q] at e;cases e
 | some o=>
  rw [q] at e;have e':(b,o)=p:=Option.some.inj e;subst e';exact ⟨hb,q⟩
theorem Inv.pinned{pins:List (Addr×Obj)}{Y:St}{H:Hp}{s:Shared}{fp:List Addr}(I:Inv X pins Y H s)(hf:∀ b∈fp,FpOk X pins H b)(ho:∀ b∈fp,∃ o,s.heap.get? b=some o/\∀ v,o.data≠.cell v):Inv X (pins++x6 fp s.heap) Y H s:=
 I.pins_of fun p hp=>(N3.mp hp).elim (fun z=>I.pin p (R3 _ z)) fun z=>by
  obtain ⟨hb,e⟩:=uN z;obtain ⟨f0,f1,f2,_⟩:=hf p.1 hb;obtain ⟨o,e',d⟩:=ho p.1 hb;rw [e] at e';cases e';exact ⟨e,f0,f1,f2,d⟩
theorem Inv.unpinned{pins pl:List (Addr×Obj)}{Y:St}{H:Hp}{s:Shared}(I:Inv X (pins++pl) Y H s):Inv X pins Y H s:=I.pins_of fun p hp=>I.pin p (R3 _ (List.mem_append_left _ hp))
theorem uO{iter:Expr}{body:List Stmt}{wi:TI}{g:TG}{tb:TS}{pos:Pos}(hp:PassesOwn (model X.prog X.w) X.A X.env X.xe)(hc:X.calm=true)(hi:PI X tg iter wi)(hg:PG X tg g)(hb:M3 X body tb)(hs:∀ x,foldedSetIterable iter X.env x=pure x:=by intro _;rfl):PS X (.For tg iter body [] pos) (tFor wi g tb):=by
 intro pins s Y H D I h;refine wpAny_For (A4 (hi pins s Y H _ I h) fun v s1 h1=>A4 h1 fun itv s2 h2=>?_) hs;obtain ⟨it,fp,tn,J,H2,e,I2,T,iX,f2,W,⟨m0,w0⟩,turn⟩:=h2;subst e;have stat:∀ {H':Hp},(∀ b∈fp,H' b=none)->∀ b∈fp,FpOk X pins H' b:=fun hn b hb=>⟨hn b hb,(f2 b hb).2⟩
 refine codeAny_forLoop_any (fun n s'=>∃ i σ' H',Inv X pins σ' H' s'/\tn i s'.heap/\(∀ b∈fp,H' b=none)/\W i n σ' H') ?_ m0 ⟨0,Y,H2,I2,iX,fun b hb=>(f2 b hb).1,w0⟩;rintro n s3 ⟨i,σ3,H3,I3,aM,rL,w3⟩
 rcases turn i n σ3 H3 w3 with ⟨stop,qn⟩ | ⟨go,N,hN,step⟩
 .refine wpAny_passesOwn hp (A4 (T.done X rfl rfl rfl hc i pins s3 σ3 H3 X.xe I3 (stat rL) aM stop) fun r s4 ⟨hr,I4⟩=>?_);subst hr;exact wpAny_execs_nil ⟨σ3,H3,I4,qn⟩
 .refine wpAny_passesOwn hp (A4 (T.item X rfl rfl rfl hc i pins s3 σ3 H3 X.xe I3 (stat rL) aM go) fun r s4 ⟨u,hr,h4⟩=>?_);subst hr;refine wpAny_passesOwn hp (A4 h4 fun _ s5 ⟨x,H5,I5,r5,y5,iY,fr5⟩=>?_);have I5':=I5.pinned (stat fr5) (T.obj _ _ iY);refine wpAny_passesOwn hp (A4 (hg _ s5 σ3 H5 x u _ I5' r5 (step x H5 y5)) fun _ s6 ⟨σ6,H6,I6,q6⟩=>?_);refine wpAny_passesOwn hp (A4 (hb _ s6 σ6 H6 _ I6 q6) fun f s7 q7=>?_);have again:∀ {σ7:St} {H7:Hp},Inv X (pins++x6 fp s5.heap) σ7 H7 s7->N σ7 H7->∃ m,m<n/\∃ i σ' H',Inv X pins σ' H' s7/\tn i s7.heap/\(∀ b∈fp,H' b=none)/\W i m σ' H':=fun {σ7 H7} I7 n7=>by
   obtain ⟨m',hm,w7⟩:=hN σ7 H7 n7;refine ⟨m',hm,i+1,σ7,H7,I7.unpinned,T.keep _ _ _ iY fun b hb o e=>(I7.pin (b,o) (R3 _ (R3 _ (bX hb e)))).1,fun b hb=>?_,w7⟩;obtain ⟨o,e,d⟩:=T.obj _ _ iY b hb;exact (I7.pin (b,o) (R3 _ (R3 _ (bX hb e)))).2.1
  cases f with
  | next=>obtain ⟨σ7,H7,I7,n7⟩:=q7;exact again I7 n7
  | cont=>obtain ⟨σ7,H7,I7,n7⟩:=q7;exact again I7 n7
  | brk=>obtain ⟨σ7,H7,I7,q7⟩:=q7;exact ⟨σ7,H7,I7.unpinned,q7⟩
  | ret v=>obtain ⟨x7,σ7,H7,I7,r7,q7⟩:=q7;exact ⟨x7,σ7,H7,I7.unpinned,r7,q7⟩
end
theorem uP{K:PySem.W.Frag}{a:Addr}{xs:List V}{g:TG}{tb:TS}{D:Ends}{Y:St}{H:Hp}(Pv:Nat->St->Hp->Prop)(h0:Pv 0 Y H)(hl:∀ i Y H,i<=xs.length->Pv i Y H->C1 K H a xs)(hs:∀ i x Y H,xs[i]?=some x->Pv i Y H->g x Y H fun σ2 H2=>tb { D with nx:=Pv (i+1),ct:=Pv (i+1),bk:=D.nx } σ2 H2)(hd:∀ Y H,Pv xs.length Y H->D.nx Y H) :
  ∃ W:Nat->Nat->St->Hp->Prop,(∃ m,W 0 m Y H)/\∀ i m Y H,W i m Y H->
   ((Z1 K a).stop i H/\D.nx Y H)\/((Z1 K a).go i H/\∃ N:St->Hp->Prop,(∀ σ' H',N σ' H'->∃ m',m'<m/\W (i+1) m' σ' H')/\∀ x H',(Z1 K a).yld i H x H'->g x Y H' fun σ2 H2=>tb { D with nx:=N,ct:=N,bk:=D.nx } σ2 H2):=by
 refine ⟨fun i m Y H=>m=xs.length-i/\i<=xs.length/\Pv i Y H,⟨xs.length,by simp,O2 _,h0⟩,?_⟩;rintro i m Y H ⟨rfl,hi,p⟩;have q:=hl i Y H hi p
 by_cases D5:i<xs.length
 .refine .inr ⟨⟨xs,xs[i],q,by simp [D5]⟩,Pv (i+1),fun σ' H' p'=>⟨xs.length-(i+1),by lia,rfl,D5,p'⟩,fun x H' y=>?_⟩;obtain ⟨e,y⟩:=y;subst e;exact hs i x Y _ (y xs q) p
 .have e:i=xs.length:=by lia
  subst e;exact .inl ⟨⟨xs,q,B5 _⟩,hd Y H p⟩
theorem uQ{lo:Int}{n:Nat}{g:TG}{tb:TS}{D:Ends}{Y:St}{H:Hp}(Pv:Nat->St->Hp->Prop)(h0:Pv 0 Y H)(hs:∀ i Y H,i<n->Pv i Y H->g (.int (lo+i)) Y H fun σ2 H2=>tb { D with nx:=Pv (i+1),ct:=Pv (i+1),bk:=D.nx } σ2 H2)(hd:∀ Y H,Pv n Y H->D.nx Y H) :
  ∃ W:Nat->Nat->St->Hp->Prop,(∃ m,W 0 m Y H)/\∀ i m Y H,W i m Y H->
   ((V0 lo n).stop i H/\D.nx Y H)\/((V0 lo n).go i H/\∃ N:St->Hp->Prop,(∀ σ' H',N σ' H'->∃ m',m'<m/\W (i+1) m' σ' H')/\∀ x H',(V0 lo n).yld i H x H'->g x Y H' fun σ2 H2=>tb { D with nx:=N,ct:=N,bk:=D.nx } σ2 H2):=by
 refine ⟨fun i m Y H=>m=n-i/\i<=n/\Pv i Y H,⟨n,by simp,O2 _,h0⟩,?_⟩;rintro i m Y H ⟨rfl,hi,p⟩
 by_cases D5:i<n
 .refine .inr ⟨D5,Pv (i+1),fun σ' H' p'=>⟨n-(i+1),by lia,rfl,D5,p'⟩,fun x H' y=>?_⟩;obtain ⟨e,y⟩:=y;subst e y;exact hs i Y _ D5 p
 .have e:i=n:=by lia
  subst e;exact .inl ⟨B5 _,hd Y H p⟩
end L2
namespace L2
open PySem PySem.Spec PyProof.Rows
noncomputable abbrev R2:=V->V->Hp->VK->Prop
noncomputable def C5 (X:Cx) (f:Value->Value->Sem Value) (r:R2):Prop:=
 ∀ (pins:List (Addr×Obj)) (s:Shared) (Y:St) (H:Hp) (x y:V) (v u:Value) (Q:VK),Inv X pins Y H s->RelV x v->RelV y u->r x y H Q->
  wpAny (model X.prog X.w) X.A (f v u) (EP X pins Y Q) X.xe s
noncomputable def CallR (X:Cx) (f:Value) (r:List V->Hp->VK->Prop):Prop:=
 ∀ (pins:List (Addr×Obj)) (s:Shared) (Y:St) (H:Hp) (xs:List V) (us:List Value) (Q:VK),Inv X pins Y H s->Vals xs us->r xs H Q->
  wpAny (model X.prog X.w) X.A (call f us) (EP X pins Y Q) X.xe s
noncomputable def TruR (X:Cx) (r:V->Hp->(Bool->Hp->Prop)->Prop):Prop:=
 ∀ (pins:List (Addr×Obj)) (s:Shared) (Y:St) (H:Hp) (x:V) (v:Value) (Q:Bool->Hp->Prop),Inv X pins Y H s->RelV x v->r x H Q->
  wpAny (model X.prog X.w) X.A (truthy v) (TP X pins Y Q) X.xe s
noncomputable def X4 (r:R2) (ta tb:TE):TE:=fun Y H Q=>ta Y H fun x H1=>tb Y H1 fun y H2=>r x y H2 Q
noncomputable def uR (r:V->Hp->VK->Prop) (ta:TE):TE:=fun Y H Q=>ta Y H fun x H1=>r x H1 Q
noncomputable def rI (C:Int->Int->Prop) (g:Int->Int->V):R2:=fun x y H Q=>∃ i j,x=.int i/\y=.int j/\C i j/\Q (g i j) H
noncomputable def R7 (g:Int->Int->V):R2:=fun x y H Q=>∃ i j,x=.int i/\y=.int j/\Q (g i j) H
noncomputable def rU (g:Int->V):V->Hp->VK->Prop:=fun x H Q=>∃ i,x=.int i/\Q (g i) H
section
variable {X:Cx} {a b c:Expr} {ta tb tc:TE} {pos:Pos}
theorem binT(ha:PE X a ta)(hb:PE X b tb){pins:List (Addr×Obj)}{s:Shared}{Y:St}{H:Hp}{R:V->V->Hp->Prop}(I:Inv X pins Y H s)(h:ta Y H fun x H1=>tb Y H1 fun y H2=>R x y H2){Q:Value->Shared->Prop}{f:Value->Value->Sem Value}(hf:∀ v u s2 x y H2,Inv X pins Y H2 s2->RelV x v->RelV y u->R x y H2->wpAny (model X.prog X.w) X.A (f v u) Q X.xe s2) :
  wpAny (model X.prog X.w) X.A (eval a X.env) (fun v zv=>wpAny (model X.prog X.w) X.A (eval b X.env) (fun u zu=>wpAny (model X.prog X.w) X.A (f v u) Q X.xe zu) X.xe zv) X.xe s:=by
 refine A4 (ha pins s Y H _ I h) fun v s1 ⟨x,H1,I1,r1,q1⟩=>?_
 refine A4 (hb pins s1 Y H1 _ I1 q1) fun u s2 ⟨y,H2,I2,r2,q2⟩=>?_
 exact hf v u s2 x y H2 I2 r1 r2 q2
theorem pe_op{op:Operator}{r:R2}(ho:C5 X (binaryOp op) r)(ha:PE X a ta)(hb:PE X b tb):PE X (.BinOp a op b pos) (X4 r ta tb):=by
 intro pins s Y H Q I h;exact wpAny_BinOp (binT ha hb I h fun v u s2 x y H2 I2 rx ry q=>ho pins s2 Y H2 x y v u Q I2 rx ry q)
theorem eI{f:Value->Value->Sem Value}{C:Int->Int->Prop}{g:Int->Int->Int}(rule:∀ (i j:Int) (t u:Tok) (s:Shared) (Q:Value->Shared->Prop) (E:Value->Shared->Prop),C i j->Q (.int (g i j) s.toks) { s with toks:=s.toks+1 }->wpAny (model X.prog X.w) X.A (f (.int i t) (.int j u)) Q E s) :
  C5 X f (rI C fun i j=>.int (g i j)):=by
 intro pins s Y H x y v u Q I rx ry h;obtain ⟨i,j,rfl,rfl,hc,q⟩:=h;obtain ⟨t,rfl⟩:=rx;obtain ⟨t',rfl⟩:=ry;exact rule i j t t' s _ _ hc ⟨.int (g i j),H,I.tok _,⟨_,rfl⟩,q⟩
theorem opI0{f:Value->Value->Sem Value}{g:Int->Int->Int}(rule:∀ (i j:Int) (t u:Tok) (s:Shared) (Q:Value->Shared->Prop) (E:Value->Shared->Prop),Q (.int (g i j) s.toks) { s with toks:=s.toks+1 }->wpAny (model X.prog X.w) X.A (f (.int i t) (.int j u)) Q E s) :
  C5 X f (R7 fun i j=>.int (g i j)):=by
 intro pins s Y H x y v u Q I rx ry h;obtain ⟨i,j,rfl,rfl,q⟩:=h;obtain ⟨t,rfl⟩:=rx;obtain ⟨t',rfl⟩:=ry;exact rule i j t t' s _ _ ⟨.int (g i j),H,I.tok _,⟨_,rfl⟩,q⟩
theorem opB0{f:Value->Value->Sem Value}{g:Int->Int->Bool}(rule:∀ (i j:Int) (t u:Tok) (s:Shared) (Q:Value->Shared->Prop) (E:Value->Shared->Prop),Q (.bool (g i j)) s->wpAny (model X.prog X.w) X.A (f (.int i t) (.int j u)) Q E s) :
  C5 X f (R7 fun i j=>.bl (g i j)):=by
 intro pins s Y H x y v u Q I rx ry h;obtain ⟨i,j,rfl,rfl,q⟩:=h;obtain ⟨t,rfl⟩:=rx;obtain ⟨t',rfl⟩:=ry;exact rule i j t t' s _ _ ⟨.bl (g i j),H,I,rfl,q⟩
noncomputable def CDiv (i j:Int):Prop:=0<j/\j<1073741824
noncomputable def CMul (i j:Int):Prop:=(-(2 ^ 64)<i/\i<2 ^ 64)\/(-(2 ^ 64)<j/\j<2 ^ 64)
theorem CMul.ok{i j:Int}(h:CMul i j):IntMulOk i j:=by
 rcases h with ⟨h1,h2⟩ | ⟨h1,h2⟩
 .exact .of_left (intBits_le_64 h1 h2)
 .exact .of_right (intBits_le_64 h1 h2)
theorem uS:C5 X (binaryOp .Add) (R7 fun i j=>.int (i+j)):=opI0 fun _ _ _ _ _ _ _ q=>add_int q
theorem uT:C5 X (binaryOp .Sub) (R7 fun i j=>.int (i-j)):=opI0 fun _ _ _ _ _ _ _ q=>sub_int q
theorem uU:C5 X (binaryOp .Mult) (rI CMul fun i j=>.int (i*j)):=eI fun _ _ _ _ _ _ _ hc q=>mul_int q hc.ok
theorem uV:C5 X (binaryOp .FloorDiv) (rI CDiv fun i j=>.int (i / j)):=eI fun i j _ _ _ _ _ hc q=>by
 have h1:(0:Int)<j:=hc.1;have h2:j<1073741824:=hc.2;exact floordiv_int (by lia) (by rw [Int.fdiv_eq_ediv_of_nonneg i (by lia)];exact q) (.inl (PyProof.noPylong_small (by lia)))
theorem uW:C5 X (binaryOp .Mod) (rI (fun _ j=>0<j) fun i j=>.int (i % j)):=eI fun i j _ _ _ _ _ hc q=>by
 have h1:(0:Int)<j:=hc;exact mod_int' (by lia) (by rw [Int.fmod_eq_emod_of_nonneg i (by lia)];exact q)
end
noncomputable def scal:V->V->Bool
 | .non,.non=>true | .non,.int _=>true | .int _,.non=>true | .non,.bl _=>true | .bl _,.non=>true | .non,.str _=>true | .str _,.non=>true
 | .int _,.int _=>true | .bl _,.bl _=>true | .str _,.str _=>true | .byt _,.byt _=>true
 | .int _,.str _=>true | .str _,.int _=>true | .bl _,.str _=>true | .str _,.bl _=>true
 | _,_=>false
noncomputable def kT:R2:=fun x y H Q=>scal x y=true/\Q (.bl (decide (x=y))) H
noncomputable def kU:R2:=fun x y H Q=>scal x y=true/\Q (.bl (!decide (x=y))) H
theorem kW{i j:Int} : decide (V.int i=V.int j)=(i==j):=by
 rw [o0]
 simp
theorem kX{i j:Bool} : decide (V.bl i=V.bl j)=(i==j):=by
 rw [o0]
 simp
theorem kY{i j:Str} : decide (V.str i=V.str j)=(i==j):=by
 rw [o0]
 simp
theorem kZ{i j:Array UInt8} : decide (V.byt i=V.byt j)=(i.toList==j.toList):=by
 rw [o0]
 cases i
 cases j
 simp
section
variable {X:Cx} {a b c:Expr} {ta tb tc:TE} {pos:Pos}
theorem D4{pins:List (Addr×Obj)}{Y:St}{H:Hp}{s:Shared}{Q:VK}{k k':Bool}(I:Inv X pins Y H s)(q:Q (.bl k) H)(e:k=k'):EP X pins Y Q (.bool k') s:=by
 subst e;exact ⟨.bl k,H,I,rfl,q⟩
theorem op_eq:C5 X (compareOp .Eq) kT:=by
 intro pins s Y H x y v u Q I rx ry h;obtain ⟨hs,q⟩:=h
 cases x with
 | non=>
  cases rx
  cases y with
  | non=>cases ry;exact PySem.EqNone.eq_none_none (D4 I q (by simp))
  | bl j=>cases ry;exact PySem.EqNone.eq_none_bool (D4 I q (by simp))
  | int j=>obtain ⟨t',rfl⟩:=ry;exact PySem.EqNone.eq_none_int (D4 I q (by simp))
  | str j=>obtain ⟨t',rfl⟩:=ry;exact PySem.EqNone.eq_none_str (D4 I q (by simp))
  | _=>exact absurd (show false=true from hs) F3
 | bl i=>
  cases rx
  cases y with
  | non=>cases ry;exact PySem.EqNone.eq_bool_none (D4 I q (by simp))
  | bl j=>cases ry;exact eq_bool (D4 I q kX)
  | str j=>obtain ⟨t',rfl⟩:=ry;exact PySem.EqMixed.eq_bool_str (D4 I q (by simp))
  | _=>exact absurd (show false=true from hs) F3
 | int i=>
  obtain ⟨t,rfl⟩:=rx
  cases y with
  | non=>cases ry;exact PySem.EqNone.eq_int_none (D4 I q (by simp))
  | int j=>obtain ⟨t',rfl⟩:=ry;exact eq_int (D4 I q kW)
  | str j=>obtain ⟨t',rfl⟩:=ry;exact PySem.EqMixed.eq_int_str (D4 I q (by simp))
  | _=>exact absurd (show false=true from hs) F3
 | str i=>
  obtain ⟨t,rfl⟩:=rx
  cases y with
  | non=>cases ry;exact PySem.EqNone.eq_str_none (D4 I q (by simp))
  | bl j=>cases ry;exact PySem.EqMixed.eq_str_bool (D4 I q (by simp))
  | int j=>obtain ⟨t',rfl⟩:=ry;exact PySem.EqMixed.eq_str_int (D4 I q (by simp))
  | str j=>obtain ⟨t',rfl⟩:=ry;exact eq_str (D4 I q kY)
  | _=>exact absurd (show false=true from hs) F3
 | byt i=>
  obtain ⟨t,rfl⟩:=rx
  cases y with
  | byt j=>obtain ⟨t',rfl⟩:=ry;exact PySem.W.eq_bytes (D4 I q kZ)
  | _=>exact absurd (show false=true from hs) F3
 | _=>cases y <;> exact absurd (show false=true from hs) F3
theorem op_ne:C5 X (compareOp .NotEq) kU:=by
 intro pins s Y H x y v u Q I rx ry h;obtain ⟨hs,q⟩:=h
 cases x with
 | non=>
  cases rx
  cases y with
  | non=>cases ry;exact PySem.EqNone.ne_none_none (D4 I q (by simp))
  | bl j=>cases ry;exact PySem.EqNone.ne_none_bool (D4 I q (by simp))
  | int j=>obtain ⟨t',rfl⟩:=ry;exact PySem.EqNone.ne_none_int (D4 I q (by simp))
  | str j=>obtain ⟨t',rfl⟩:=ry;exact PySem.EqNone.ne_none_str (D4 I q (by simp))
  | _=>exact absurd (show false=true from hs) F3
 | bl i=>
  cases rx
  cases y with
  | non=>cases ry;exact PySem.EqNone.ne_bool_none (D4 I q (by simp))
  | bl j=>cases ry;exact ne_bool (D4 I q (congrArg not kX))
  | str j=>obtain ⟨t',rfl⟩:=ry;exact PySem.EqMixed.ne_bool_str (D4 I q (by simp))
  | _=>exact absurd (show false=true from hs) F3
 | int i=>
  obtain ⟨t,rfl⟩:=rx
  cases y with
  | non=>cases ry;exact PySem.EqNone.ne_int_none (D4 I q (by simp))
  | int j=>obtain ⟨t',rfl⟩:=ry;exact ne_int (D4 I q (congrArg not kW))
  | str j=>obtain ⟨t',rfl⟩:=ry;exact PySem.EqMixed.ne_int_str (D4 I q (by simp))
  | _=>exact absurd (show false=true from hs) F3
 | str i=>
  obtain ⟨t,rfl⟩:=rx
  cases y with
  | non=>cases ry;exact PySem.EqNone.ne_str_none (D4 I q (by simp))
  | bl j=>cases ry;exact PySem.EqMixed.ne_str_bool (D4 I q (by simp))
  | int j=>obtain ⟨t',rfl⟩:=ry;exact PySem.EqMixed.ne_str_int (D4 I q (by simp))
  | str j=>obtain ⟨t',rfl⟩:=ry;exact ne_str (D4 I q (congrArg not kY))
  | _=>exact absurd (show false=true from hs) F3
 | byt i=>
  obtain ⟨t,rfl⟩:=rx
  cases y with
  | byt j=>obtain ⟨t',rfl⟩:=ry;exact PySem.W.ne_bytes (D4 I q (congrArg not kZ))
  | _=>exact absurd (show false=true from hs) F3
 | _=>cases y <;> exact absurd (show false=true from hs) F3
theorem op_lt:C5 X (compareOp .Lt) (R7 fun i j=>.bl (decide (i<j))):=opB0 fun _ _ _ _ _ _ _ q=>lt_int q
theorem op_le:C5 X (compareOp .LtE) (R7 fun i j=>.bl (decide (i<=j))):=opB0 fun _ _ _ _ _ _ _ q=>le_int q
theorem op_gt:C5 X (compareOp .Gt) (R7 fun i j=>.bl (decide (j<i))):=opB0 fun _ _ _ _ _ _ _ q=>gt_int q
theorem op_ge:C5 X (compareOp .GtE) (R7 fun i j=>.bl (decide (j<=i))):=opB0 fun _ _ _ _ _ _ _ q=>ge_int q
theorem uX:C5 X (compareOp .Lt) (fun x y H Q=>∃ i j,x=.str i/\y=.str j/\Q (.bl (decide (i.cps.toList<j.cps.toList))) H):=by
 intro pins s Y H x y v u Q I rx ry h;obtain ⟨i,j,rfl,rfl,q⟩:=h;obtain ⟨t,rfl⟩:=rx;obtain ⟨t',rfl⟩:=ry;exact lt_str (D4 I q rfl)
theorem uY:C5 X (compareOp .In) (fun x y H Q=>∃ i j,x=.str i/\y=.str j/\Q (.bl (!(Builtin.Str.occurrences j i 0 j.length 1).isEmpty)) H):=by
 intro pins s Y H x y v u Q I rx ry h;obtain ⟨i,j,rfl,rfl,q⟩:=h;obtain ⟨t,rfl⟩:=rx;obtain ⟨t',rfl⟩:=ry;exact in_str (D4 I q rfl)
theorem uZ:C5 X (compareOp .Is) (fun x y H Q=>y=.non/\Q (.bl (decide (x=.non))) H):=by
 intro pins s Y H x y v u Q I rx ry h;obtain ⟨rfl,q⟩:=h
 cases ry
 refine is_none_gen (D4 I q ?_)
 cases x <;> first
  | (cases rx;rfl)
  | (obtain ⟨t,rfl⟩:=rx;rfl)
theorem lA(b:Expr){op:CmpOp}(h:op≠.In:=by decide)(h2:op≠.NotIn:=by decide):behindInMarks op b=false:=by
 have e1:(op==CmpOp.In)=false:=by cases op <;> first | rfl | exact absurd rfl h
 have e2:(op==CmpOp.NotIn)=false:=by cases op <;> first | rfl | exact absurd rfl h2
 cases b <;> simp [behindInMarks,e1,e2]
theorem vA{op:CmpOp}{r:R2}(ho:C5 X (compareOp op) r)(ha:PE X a ta)(hb:PE X b tb)(hm:behindInMarks op b=false):PE X (.Compare a [op] [b] pos) (X4 r ta tb):=by
 intro pins s Y H Q I h;exact wpAny_Compare1 (binT ha hb I h fun v u s2 x y H2 I2 rx ry q=>ho pins s2 Y H2 x y v u Q I2 rx ry q) hm
noncomputable def tTest (t:TE):TT:=fun Y H Q=>t Y H fun x H'=>∃ k,x=.bl k/\Q k H'
theorem vB{op:CmpOp}{r:R2}(ho:C5 X (compareOp op) r)(ha:PE X a ta)(hb:PE X b tb)(hm:behindInMarks op b=false):PT X (.Compare a [op] [b] pos) (tTest (X4 r ta tb)):=by
 intro pins s Y H Q I h;refine wpAny_isTrue_Compare1 (A4 (ha pins s Y H _ I h) fun v s1 ⟨x,H1,I1,r1,q1⟩=>A4 (hb pins s1 Y H1 _ I1 q1) fun u s2 ⟨y,H2,I2,r2,q2⟩=>
  A4 (ho pins s2 Y H2 x y v u _ I2 r1 r2 q2) fun c s3 ⟨z,H3,I3,r3,k,e,q3⟩=>?_) hm
 subst e
 cases r3
 exact wpAny_truthy_bool ⟨H3,I3,q3⟩
noncomputable def eJ (r r':R2) (ta tb tc:TE):TE:=fun Y H Q=>ta Y H fun x H1=>tb Y H1 fun y H2=>r x y H2 fun z H3=>∃ k,z=.bl k/\
 (if k=true then tc Y H3 fun w' H4=>r' y w' H4 Q else Q (.bl false) H3)
theorem vC{op op':CmpOp}{r r':R2}(ho:C5 X (compareOp op) r)(T7:C5 X (compareOp op') r')(ha:PE X a ta)(hb:PE X b tb)(hc:PE X c tc)(hm:lastMarks [op,op'] [b,c]=false:=by with_unfolding_all rfl):PE X (.Compare a [op,op'] [b,c] pos) (eJ r r' ta tb tc):=by
 intro pins s Y H Q I h;refine Compare_chain (A4 (ha pins s Y H _ I h) fun v s1 ⟨x,H1,I1,r1,q1⟩=>chain_link (A4 (hb pins s1 Y H1 _ I1 q1) fun u s2 ⟨y,H2,I2,r2,q2⟩=>
  A4 (ho pins s2 Y H2 x y v u _ I2 r1 r2 q2) fun d s3 ⟨z,H3,I3,r3,k,e,q3⟩=>?_)) hm
 subst e
 cases r3
 refine wpAny_truthy_bool ?_
 cases k with
 | false=>exact ite_ff ⟨.bl false,H3,I3,rfl,q3⟩
 | true=>exact ite_tt (chain_last (A4 (hc pins s3 Y H3 _ I3 q3) fun w' s4 ⟨z',H4,I4,r4,q4⟩=>T7 pins s4 Y H4 y z' u w' Q I4 r2 r4 q4))
noncomputable def TruV (K:PySem.W.Frag) (x:V) (H:Hp) (k:Bool):Prop:=
 match x with
 | .non=>k=false
 | .bl b=>k=b
 | .int i=>k=(i != 0)
 | .str y=>y.length<=sizeLine/\k=((y.length:Int) != 0)
 | .byt y=>y.size<=sizeLine/\k=((y.size:Int) != 0)
 | .ref p=>(∃ xs,C1 K H p xs/\k=!xs.isEmpty)\/(∃ xs,D2 K H p xs/\k=!xs.isEmpty)\/∃ kvs,H p=some (.dK kvs)/\k=!kvs.isEmpty
 | _=>False
theorem vD{κ:Type}{kvs:List (κ×V)}{vs:List (κ×Value)}(r:KV kvs vs):(!vs.isEmpty)=!kvs.isEmpty:=by
 cases r <;> rfl
theorem lB{xs:List V}{its:List Value}(r:Vals xs its):(!its.toArray.isEmpty)=!xs.isEmpty:=by
 cases r <;> simp
theorem x8:(sizeLine:Nat)<2 ^ 63:=by rw [sizeLine_eq];decide
theorem lC:TruR X (fun x H Q=>∃ k,TruV X.K x H k/\Q k H):=by
 intro pins s Y H x v Q I rx h;obtain ⟨k,e,q⟩:=h;have hl:=x8;have hs:sizeLine=16777216:=sizeLine_eq
 cases x with
 | non=>
  cases rx
  have e':k=false:=e;subst e';exact truthy_none ⟨H,I,q⟩
 | bl b=>
  cases rx
  have e':k=b:=e;subst e';exact wpAny_truthy_bool ⟨H,I,q⟩
 | int i=>
  obtain ⟨t,rfl⟩:=rx;have e':k=(i != 0):=e;subst e';exact PySem.P.truthy_int ⟨H,I,q⟩
 | str y=>
  obtain ⟨t,rfl⟩:=rx;obtain ⟨hy,e'⟩:y.length<=sizeLine/\k=((y.length:Int) != 0):=e;subst e';exact PySem.P.truthy_str (by lia) ⟨H,I.tok _,q⟩
 | byt y=>
  obtain ⟨t,rfl⟩:=rx;obtain ⟨hy,e'⟩:y.size<=sizeLine/\k=((y.size:Int) != 0):=e;subst e';exact PySem.W.truthy_bytes (by lia) ⟨H,I.tok _,q⟩
 | ref p=>
  cases rx
  have e':(∃ xs,C1 X.K H p xs/\k=!xs.isEmpty)\/(∃ xs,D2 X.K H p xs/\k=!xs.isEmpty)\/∃ kvs,H p=some (.dK kvs)/\k=!kvs.isEmpty:=e
  rcases e' with ⟨xs,hx,e'⟩ | ⟨xs,hx,e'⟩ | ⟨kvs,hx,e'⟩
  .subst e';obtain ⟨its,r,pl,hz⟩:=I.list hx;have A8:=r.length;exact wpAny_truthy_list pl.isList (by simp only [E7];lia) ⟨H,I.tok _,by rw [lB r];exact q⟩
  .subst e';obtain ⟨its,r,pl,hz⟩:=I.tuple hx;have A8:=r.length;exact truthy_tuple pl (by simp only [E7];lia) ⟨H,I.tok _,by rw [lB r];exact q⟩
  .subst e';obtain ⟨hz,hS,vs,r,m⟩:kvs.length<=sizeLine/\(p==sysModules)=false/\∃ vs,KV kvs vs/\s.heap.DictOf (K8 X.prog X.w) p vs:=I.hok p _ hx;have A8:kvs.length=vs.length:=Paired.length r;exact wpAny_truthy_dict hS m (by lia) ⟨H,I.tok _,by rw [vD r];exact q⟩
 | _=>exact (show False from e).elim
theorem vE(ha:PE X a ta)(he:∀ whole,isTrue a X.env whole=(do let v <- whole;standAt a.pos;holding [v] (truthy v))) :
  PT X a (fun Y H Q=>ta Y H fun x H'=>∃ k,TruV X.K x H' k/\Q k H'):=by
 intro pins s Y H Q I h;exact isTrue_plain (A4 (ha pins s Y H _ I h) fun v s1 ⟨x,H1,I1,r1,q1⟩=>lC pins s1 Y H1 x v Q I1 r1 q1) (he _)
theorem vF:C5 X (binaryOp .Add) (fun x y H Q=>∃ i j,x=.str i/\y=.str j/\i.length+j.length<=sizeLine/\Q (.str (i++j)) H):=by
 intro pins s Y H x y v u Q I rx ry h;obtain ⟨i,j,rfl,rfl,hz,q⟩:=h;obtain ⟨t,rfl⟩:=rx;obtain ⟨t',rfl⟩:=ry;exact add_str (fun t' tk=>⟨.str (i++j),H,I.tok _,⟨_,rfl⟩,q⟩) hz
theorem vals1{x:V}{us:List Value}(r:Vals [x] us):∃ u,us=[u]/\RelV x u:=by
 cases r with
 | cons r1 r2=>cases r2;exact ⟨_,rfl,r1⟩
theorem vals2{x y:V}{us:List Value}(r:Vals [x,y] us):∃ u w',us=[u,w']/\RelV x u/\RelV y w':=by
 cases r with
 | cons r1 r2=>
  cases r2 with
  | cons r3 r4=>cases r4;exact ⟨_,_,rfl,r1,r3⟩
theorem vG:CallR X (.builtin "ord") (fun xs H Q=>∃ x,xs=[.str x]/\x.length=1/\Q (.int (x.cps.getD 0 0:Nat)) H):=by
 intro pins s Y H xs us Q I r h;obtain ⟨x,rfl,hz,q⟩:=h;obtain ⟨u,rfl,t,rfl⟩:=vals1 r;exact ord_of_one hz ⟨.int _,H,I.tok _,⟨_,rfl⟩,q⟩
noncomputable def LenV (K:PySem.W.Frag) (x:V) (H:Hp) (n:Nat):Prop:=
 match x with
 | .str y=>y.length<=sizeLine/\n=y.length
 | .byt y=>y.size<=sizeLine/\n=y.size
 | .ref p=>(∃ xs,C1 K H p xs/\n=xs.length)\/∃ xs,D2 K H p xs/\n=xs.length
 | _=>False
theorem eK:CallR X (.builtin "len") (fun xs H Q=>∃ x n,xs=[x]/\LenV X.K x H n/\Q (.int n) H):=by
 intro pins s Y H xs us Q I r h;obtain ⟨x,n,rfl,e,q⟩:=h;obtain ⟨u,rfl,rx⟩:=vals1 r;have hl:=x8;have hs:sizeLine=16777216:=sizeLine_eq
 cases x with
 | str y=>
  obtain ⟨t,rfl⟩:=rx;obtain ⟨hy,e'⟩:y.length<=sizeLine/\n=y.length:=e;subst e';exact len_str (by lia) ⟨.int _,H,I.tok _,⟨_,rfl⟩,q⟩
 | byt y=>
  obtain ⟨t,rfl⟩:=rx;obtain ⟨hy,e'⟩:y.size<=sizeLine/\n=y.size:=e;subst e';exact PySem.W.len_bytes (by lia) ⟨.int _,H,I.tok _,⟨_,rfl⟩,q⟩
 | ref p=>
  cases rx
  have e':(∃ xs,C1 X.K H p xs/\n=xs.length)\/∃ xs,D2 X.K H p xs/\n=xs.length:=e
  rcases e' with ⟨xs,hx,e'⟩ | ⟨xs,hx,e'⟩
  .subst e';obtain ⟨its,r',pl,hz⟩:=I.list hx;have A8:=r'.length;exact Calls.call_len_list pl.isList (by simp only [E7];lia) ⟨.int xs.length,H,I.tok _,⟨_,by simp only [E7];rw [A8]⟩,q⟩
  .subst e';obtain ⟨its,r',pl,hz⟩:=I.tuple hx;have A8:=r'.length;exact len_tuple pl (by simp only [E7];lia) ⟨.int xs.length,H,I.tok _,⟨_,by simp only [E7];rw [A8]⟩,q⟩
 | _=>exact (show False from e).elim
end
end L2
namespace L2
open PySem PySem.Spec PyProof.Rows
structure ObjM(h:Heap)(x dx C:Addr)(mA:Str->Option Value):Prop where
 obj:h.get? x=some (Y7 C dx)
 ns:h.Ns1 dx mA
 ne:dx≠x
theorem lD{h:Heap}{dx:Addr}{mA:Str->Option Value}(n:h.Ns1 dx mA):∃ od,h.get? dx=some od/\∀ name,PySem.W.lookIn name od=some (mA name):=by
 obtain ⟨o,es,ep,ho,hd,hk,_,hm⟩:=n;refine ⟨o,ho,fun name=>?_⟩;have e:=hm name;unfold nsFind findBy at e;rw [<- Array.find?_toList] at e;unfold PySem.W.lookIn;rw [hd]
 dsimp only
 split
 .rename_i y q
  rw [q] at e;exact congrArg some e
 .rename_i q
  rw [q] at e;have a:es.toList.any (·.refKey)=false:=by
   rw [List.any_eq_false];intro y hy;obtain ⟨z,t,iZ⟩:=hk y (p0.mp hy);simp [DictEntry.refKey,iZ]
  have a':¬ es.toList.any (·.refKey)=true:=by rw [a];exact F3
  rw [if_neg a'];exact congrArg some e
theorem ObjM.look{h:Heap}{x dx C:Addr}{mA:Str->Option Value}(I:ObjM h x dx C mA):∃ od,PySem.W.InstAt h x (Y7 C dx) C (some od)/\∀ name,PySem.W.lookIn name od=some (mA name):=
 let ⟨od,ho,hl⟩:=lD I.ns
 ⟨od,⟨I.obj,rfl,rfl,ho⟩,hl⟩
section
variable {prog:Program} {w:World} {A:Around} {E:Value->Shared->Prop} {s:Shared} {K:PySem.W.Frag} {x dx C f:Addr} {mA:Str->Option Value} {name:Str} {v:Value}
theorem vH{expr:Bool}{Q:Value->Shared->Prop}(X:K.In s.heap)(I:ObjM s.heap x dx C mA)(hg:w6 K C name=true)(hh:c7 K C=true)(ha:D0 K (.ref C) name=some none)(hv:mA name=some v)(dP:PySem.W.handedIn v=true)(h:Q v { s with toks:=s.toks+1 }) :
  wpAny (model prog w) A (getAttr (.ref x) name expr) Q E s:=by
 obtain ⟨od,J,hl⟩:=I.look;exact PySem.W.get_value X J (PySem.W.plainGet_of hg).1 (PySem.W.findObj_own hh ha rfl (by rw [hl,hv])) dP h
theorem vI{pl:Sem Bool}{Q:Value×List Value->Shared->Prop}(X:K.In s.heap)(I:ObjM s.heap x dx C mA)(hg:w6 K C name=true)(hf:D0 K (.ref C) name=some (some (.ref f)))(ht:R1 K (.ref f)=true)(hv:mA name=none)(h:Q (.ref f,[.ref x]) s) :
  wpAny (model prog w) A (getMethod (.ref x) name pl) Q E s:=by
 obtain ⟨od,J,hl⟩:=I.look;exact PySem.W.method_fn X J (PySem.W.plainGet_of hg).1 (PySem.W.plainGet_of hg).2 hf (beq_iff_eq.mp ht) (by show (PySem.W.lookIn name od).map (·.isSome)=some false;rw [hl,hv];rfl) h
theorem vJ{ns:List Str}{Q:Unit->Shared->Prop}(X:K.In s.heap)(I:ObjM s.heap x dx C mA)(hs:D0 K (.ref C) "__setattr__"=some (some (.builtin "object.__setattr__")))(hp:PySem.W.plainOver K C=true)(ht:PySem.W.takerIn K C name=some none)(hh:c7 K C=true)(hw:PySem.Within mA ns)(hsz:ns.length<=sizeLine)(h:∀ h',ObjM h' x dx C (fun y=>if y=name then some v else mA y)->Heap.SameBut dx s.heap h'->Q () { s with heap:=h',toks:=s.toks+2 }) :
  wpAny (model prog w) A (setAttr (.ref x) name v) Q E s:=by
 obtain ⟨od,J,hl⟩:=I.look;refine PySem.W.set_plain X J hs (PySem.W.osa_open (s:={ s with toks:=s.toks+1 }) (r:=none) X J hp ht fun b=>?_);obtain ⟨cd,hc,j3⟩:=PySem.W.any_some hh;have hx:s.heap.get? x=some ⟨.ref C,some dx,.plain,#[]⟩:=I.obj;refine wpAny_bind (wpAny_pure (wpAny_bind (wpAny_bind (wpAny_loadPart hx (wpAny_bind (PySem.W.Looks.here (s:={ s with toks:=s.toks+1 }) (PySem.W.looks_clsIn X hc) ?_))))));rw [j3];refine wpAny_pure (a:=some dx) (wpAny_bind (wpAny_pure (wpAny_bind ?_)));refine wpAny_nsSet1 (s:={ s with toks:=s.toks+1 }) I.ns fun h' dQ rM=>?_
 obtain ⟨oD,esD,epD,hoD,hdD,hcD⟩:=dQ.count (PySem.Within.cons name v hw);refine wpAny_bind (wpAny_lookBehind hoD (by rw [hdD];exact pastItsLine_dict (C3 hcD (by rw [E8];lia))) ?_);exact wpAny_pure (h _ ⟨(rM.2 _ (Ne.symm I.ne)).trans I.obj,dQ,I.ne⟩ rM)
theorem lE{R:Result->Shared->Prop}{vs:List Value}{kw:List (Str×Value)}(X:K.In s.heap)(hm:PySem.W.makesIn K C=true)(hi:D0 K (.ref C) "__init__"=some (some (.ref f)))(hf:PySem.W.typeIn K (.ref f)=some (.type "function"))(h:codeAny (model prog w) (A.under (.builtin "type.__call__" ⟨.ref C::vs,kw⟩)) (.call (.ref f) ⟨.ref (s.heap.objs.size+1)::vs,kw⟩) (PySem.W.InitBack (s.heap.objs.size+1) R)
   { s with heap:=(s.heap.push W8).push (Y7 C s.heap.objs.size) }) :
  codeAny (model prog w) A (.call (.ref C) ⟨vs,kw⟩) R s:=by
 obtain ⟨hh,g,d,t,os⟩:=s;exact PySem.W.make_core (PySem.W.makes_of X hm) (PySem.W.looks_findIn X hi) (fun self=>PySem.W.bind_fn X self hf) (.inl rfl) h
end
noncomputable def putF (f:Str) (v:V):List (Str×V)->List (Str×V)
 | []=>[(f,v)]
 | (g,x)::r=>if g=f then (g,v)::r else (g,x)::putF f v r
theorem lF(f g:Str)(v:V):∀ fs:List (Str×V),(putF f v fs).lookup g=if g=f then some v else fs.lookup g
 | []=>by
  show List.lookup g [(f,v)]=_
  by_cases h:g=f
  .have hb:(g==f)=true:=beq_iff_eq.mpr h;simp only [List.lookup,hb,if_pos h]
  .have hb:(g==f)=false:=beq_eq_false_iff_ne.mpr h;simp only [List.lookup,hb,if_neg h]
 | (k,x)::r=>by
  have ih:=lF f g v r;rw [show putF f v ((k,x)::r)=(if k=f then (k,v)::r else (k,x)::putF f v r) from rfl]
  by_cases hk:k=f
  .rw [if_pos hk]
   by_cases h:g=k
   .have hb:(g==k)=true:=beq_iff_eq.mpr h;simp only [List.lookup,hb,if_pos (h.trans hk)]
   .have hb:(g==k)=false:=beq_eq_false_iff_ne.mpr h;simp only [List.lookup,hb,if_neg (fun e:g=f=>h (e.trans hk.symm))]
  .rw [if_neg hk]
   by_cases h:g=k
   .have hb:(g==k)=true:=beq_iff_eq.mpr h;simp only [List.lookup,hb,if_neg (fun e:g=f=>hk (h.symm.trans e))]
   .have hb:(g==k)=false:=beq_eq_false_iff_ne.mpr h;simp only [List.lookup,hb];exact ih
theorem eM(f:Str)(v:V):∀ fs:List (Str×V),f∈(putF f v fs).map (·.1)/\∀ g,g∈fs.map (·.1)->g∈(putF f v fs).map (·.1)
 | []=>⟨by simp [putF],fun g h=>by simp at h⟩
 | (k,x)::r=>by
  obtain ⟨i1,i2⟩:=eM f v r;rw [show putF f v ((k,x)::r)=(if k=f then (k,v)::r else (k,x)::putF f v r) from rfl]
  by_cases hk:k=f
  .rw [if_pos hk];subst hk;exact ⟨by simp,fun g h=>by simpa using h⟩
  .rw [if_neg hk];refine ⟨?_,fun g h=>?_⟩
   .rw [E5];exact J0 _ i1
   .rw [E5] at h ⊢
    rcases C0.mp h with e | e
    .exact C0.mpr (.inl e)
    .exact J0 _ (i2 g e)
theorem lG(f:Str)(v:V):∀ fs:List (Str×V),(putF f v fs).length<=fs.length+1
 | []=>by simp [putF]
 | (k,x)::r=>by
  have ih:=lG f v r;rw [show putF f v ((k,x)::r)=(if k=f then (k,v)::r else (k,x)::putF f v r) from rfl]
  by_cases hk:k=f
  .rw [if_pos hk,E8,E8];lia
  .rw [if_neg hk,E8,E8];lia
theorem x9{v:V}{o:Option Value}(r:RelO (some v) o):∃ u,o=some u/\RelV v u:=by
 cases o with
 | none=>exact (show False from r).elim
 | some u=>exact ⟨u,rfl,r⟩
theorem RelO.none_of{o:Option Value}(r:RelO none o):o=none:=by
 cases o with
 | none=>rfl
 | some u=>exact (show False from r).elim
theorem lH{v:V}{u:Value}(r:RelV v u):PySem.W.handedIn u=true:=by
 cases v with
 | non=>cases (show u=Value.none from r);rfl
 | bl b=>cases (show u=Value.bool b from r);rfl
 | int i=>obtain ⟨t,e⟩:=(show ∃ t,u=Value.int i t from r);cases e;rfl
 | str x=>obtain ⟨t,e⟩:=(show ∃ t,u=Value.str x t from r);cases e;rfl
 | byt b=>obtain ⟨t,e⟩:=(show ∃ t,u=Value.bytes b t from r);cases e;rfl
 | flt b=>obtain ⟨t,e⟩:=(show ∃ t,u=Value.float b t from r);cases e;rfl
 | ref a=>cases (show u=Value.ref a from r);rfl
 | ty n=>cases (show u=Value.type n from r);rfl
section
variable {P:Program} {w:World} {H H':Hp} {h h':Heap} {a C dx:Addr} {fs fs':List (Str×V)}
theorem bY(hok:D1 P w H h)(e:H a=some (.ins C dx fs)):∃ mA,ObjM h a dx C mA/\(∀ f,RelO (fs.lookup f) (mA f))/\PySem.Within mA (fs.map (·.1))/\fs.length<=1000/\H dx=some (.own a):=by
 obtain ⟨d,z,ne,ob,mA,n,r,q⟩:=(show ObjOk P w H h a (.ins C dx fs) from hok a _ e)
 exact ⟨mA,⟨ob,n,ne⟩,r,q,z,d⟩
end
structure Cls(K:PySem.W.Frag)(C:Addr):Prop where
 pg:w6 K C Str.empty=true
 hd:c7 K C=true
 po:PySem.W.plainOver K C=true
 sa:D0 K (.ref C) "__setattr__"=some (some (.builtin "object.__setattr__"))
theorem Cls.get{K:PySem.W.Frag}{C:Addr}(c:Cls K C)(f:Str):w6 K C f=true:=c.pg
noncomputable def NoAttr (K:PySem.W.Frag) (C:Addr) (f:Str):Prop:=D0 K (.ref C) f=some none
theorem NoAttr.taker{K:PySem.W.Frag}{C:Addr}{f:Str}(n:NoAttr K C f):PySem.W.takerIn K C f=some none:=by
 unfold PySem.W.takerIn;rw [show D0 K (.ref C) f=some none from n];rfl
structure Meth(K:PySem.W.Frag)(C:Addr)(m:Str)(f:Addr):Prop where
 at_:D0 K (.ref C) m=some (some (.ref f))
 fn:R1 K (.ref f)=true
 kp:G9 K (.ref f)=true
section
variable {X:Cx} {pins:List (Addr×Obj)} {Y:St} {H:Hp} {s:Shared} {a C dx:Addr} {fs:List (Str×V)} {f:Str} {v:V} {A:Around} {E:Value->Shared->Prop}
theorem lI{b:Bool}{Q:Value->Shared->Prop}(I:Inv X pins Y H s)(e:H a=some (.ins C dx fs))(c:Cls X.K C)(n:NoAttr X.K C f)(l:fs.lookup f=some v)(h:∀ u s',Inv X pins Y H s'->RelV v u->Q u s'):wpAny (model X.prog X.w) A (getAttr (.ref a) f b) Q E s:=by
 obtain ⟨mA,O,r,_,_,_⟩:=bY I.hok e;obtain ⟨u,hu,ru⟩:=x9 (v:=v) (o:=mA f) (by rw [<- l];exact r f);exact vH I.kIn O (c.get f) c.hd n hu (lH ru) (h u _ (I.tok _) ru)
theorem eN{m:Str}{g:Addr}{pl:Sem Bool}{Q:Value×List Value->Shared->Prop}(I:Inv X pins Y H s)(e:H a=some (.ins C dx fs))(c:Cls X.K C)(k:Meth X.K C m g)(l:fs.lookup m=none)(h:Q (.ref g,[.ref a]) s):wpAny (model X.prog X.w) A (getMethod (.ref a) m pl) Q E s:=by
 obtain ⟨mA,O,r,_,_,_⟩:=bY I.hok e;have hn:mA m=none:=RelO.none_of (by rw [<- l];exact r m);exact vI I.kIn O (c.get m) k.at_ k.fn hn h
theorem lJ{y:V}{u:Value}{Q:Unit->Shared->Prop}(I:Inv X pins Y H s)(e:H a=some (.ins C dx fs))(c:Cls X.K C)(n:NoAttr X.K C f)(hl:fs.length<1000)(ry:RelV y u)(h:∀ s',Inv X pins Y (A0 H a (.ins C dx (putF f y fs))) s'->Q () s'):wpAny (model X.prog X.w) A (setAttr (.ref a) f u) Q E s:=by
 obtain ⟨mA,O,r,wi,_,ho⟩:=bY I.hok e;have hz:(fs.map (·.1)).length<=sizeLine:=by rw [B9,sizeLine_eq];lia
 refine vJ I.kIn O c.sa c.po n.taker c.hd wi hz fun h' O' sb=>h _ ?_
 have hd:∃ o,h'.get? dx=some o:=let ⟨o,_,_,e',_⟩:=O'.ns;⟨o,e'⟩
 refine I.write (x:=a) (e:=dx) (by rw [e];exact True.intro) (.inr ho) (fun b q hb z=>(sb.2 b hb).trans z) hd ?_;refine ⟨by rw [A7 O.ne];exact ho,?_,O.ne,O'.obj,_,O'.ns,fun g=>?_,fun g hg=>?_⟩
 .have:=lG f y fs;lia
 .show RelO ((putF f y fs).lookup g) (if g=f then some u else mA g);rw [lF]
  by_cases q:g=f
  .rw [if_pos q,if_pos q];exact ry
  .rw [if_neg q,if_neg q];exact r g
 .by_cases q:g=f
  .rw [q];exact (eM f y fs).1
  .refine (eM f y fs).2 g (wi g fun z=>hg ?_);show (if g=f then some u else mA g)=none;rw [if_neg q];exact z
theorem lK(I:Inv X pins Y H s):Inv X pins Y (A0 (A0 H s.heap.objs.size (.own (s.heap.objs.size+1))) (s.heap.objs.size+1) (.ins C s.heap.objs.size []))
  { s with heap:=(s.heap.push W8).push (Y7 C s.heap.objs.size) }:=by
 have e1:(s.heap.push W8).get? s.heap.objs.size=some W8:=Heap.get?_push_size s.heap rfl;have e2:((s.heap.push W8).push (Y7 C s.heap.objs.size)).get? (s.heap.objs.size+1)=some (Y7 C s.heap.objs.size):=by
  have:=Heap.get?_push_size (s.heap.push W8) (o:=Y7 C s.heap.objs.size) rfl
  rwa [Heap.size_push] at this
 have e3:(s.heap.push W8).Ns s.heap.objs.size (fun _=>none):=⟨W8,#[],_,e1,rfl,(fun e he=>absurd he (by simp)),fun _=>rfl⟩
 have I1:=I.laid (a:=s.heap.objs.size) (o:=.own (s.heap.objs.size+1)) (h':=s.heap.push W8) (t':=s.toks) (fun b u q=>Heap.get?_push_of_some _ q) (B5 _) ⟨_,e1⟩;refine I1.laid (a:=s.heap.objs.size+1) (o:=.ins C s.heap.objs.size []) (t':=s.toks) (fun b u q=>Heap.get?_push_of_some _ q) (Nat.le_of_eq (Heap.size_push _ _)) ?_;have ne:s.heap.objs.size≠s.heap.objs.size+1:=J6 (Nat.lt_succ_self _);refine ⟨by rw [A7 ne,A3],O2 _,ne,e2,fun _=>none,(Heap.Ns1.of_empty e3).at fun o q=>Heap.get?_push_of_some _ q,fun _=>True.intro,fun y hy=>absurd rfl hy⟩
theorem lL{prog:Program}{w:World}{env:Env}{e:Expr}{f:Str}{pos:Pos}{s:Shared}{Q:Value->Shared->Prop}(hb:attributeBase e f env (eval e env)=eval e env)(h:wpAny (model prog w) A (eval e env) (fun o zv=>wpAny (model prog w) A (getAttr o f true) Q E zv) E s):wpAny (model prog w) A (eval (.Attribute e f pos) env) Q E s:=
 Attribute_any_ h (by rw [arm_eval_Attribute,hb])
end
noncomputable def tFld (K:PySem.W.Frag) (ta:TE) (f:Str):TE:=fun Y H Q=>ta Y H fun x H1=>∃ a C dx fs v,x=.ref a/\H1 a=some (.ins C dx fs)/\Cls K C/\NoAttr K C f/\fs.lookup f=some v/\Q v H1
noncomputable def sFld (K:PySem.W.Frag) (ta tv:TE) (f:Str):TS:=fun D Y H=>tv Y H fun y H1=>ta Y H1 fun x H2=>∃ a C dx fs,x=.ref a/\H2 a=some (.ins C dx fs)/\Cls K C/\NoAttr K C f/\fs.length<1000/\
 D.nx Y (A0 H2 a (.ins C dx (putF f y fs)))
noncomputable def InOp (X:Cx) (op:Operator) (rd:V->V->Hp->VK->Prop):Prop:=
 ∀ (pins:List (Addr×Obj)) (s:Shared) (Y:St) (H:Hp) (x y:V) (u v:Value) (Q:VK),Inv X pins Y H s->RelV x u->RelV y v->rd x y H Q->wpAny (model X.prog X.w) X.A (inplaceOp op u v) (EP X pins Y Q) X.xe s
noncomputable def eO (K:PySem.W.Frag) (ta tv:TE) (rd:V->V->Hp->VK->Prop) (f:Str):TS:=fun D Y H=>ta Y H fun x H1=>∃ a C dx fs v,x=.ref a/\H1 a=some (.ins C dx fs)/\Cls K C/\NoAttr K C f/\fs.lookup f=some v/\
 tv Y H1 fun y H2=>rd v y H2 fun z H3=>∃ dx' fs',H3 a=some (.ins C dx' fs')/\fs'.length<1000/\D.nx Y (A0 H3 a (.ins C dx' (putF f z fs')))
section
variable {X:Cx} {o e value:Expr} {f:Str} {pos pos' tpos:Pos} {ta tv:TE}
theorem vK(he:PE X e ta)(hb:attributeBase e f X.env (eval e X.env)=eval e X.env):PE X (.Attribute e f pos) (tFld X.K ta f):=by
 intro pins s Y H Q I h;refine lL hb (A4 (he pins s Y H _ I h) fun u s1 ⟨x,H1,I1,rx,a,C,dx,fs,v,ex,ea,c,n,l,q⟩=>?_);subst ex;obtain rfl:u=Value.ref a:=rx;exact lI I1 ea c n l fun u' s2 I2 ru=>⟨v,H1,I2,ru,q⟩
theorem vL(ha:PE X o ta)(hv:PE X value tv)(hs:swapsWith value (some (.Attribute o f pos')) pos.line X.env=pure false):PS X (.Assign [.Attribute o f pos'] value pos) (sFld X.K ta tv f):=by
 intro pins s Y H D I h;refine plainObj_wpAny_Assign_Attribute (A4 (hv pins s Y H _ I h) fun u s1 ⟨y,H1,I1,ry,q⟩=>A4 (ha pins s1 Y H1 _ I1 q) fun ov s2 ⟨x,H2,I2,rx,a,C,dx,fs,ex,ea,c,n,l,q2⟩=>?_) hs;subst ex;obtain rfl:ov=Value.ref a:=rx;exact lJ I2 ea c n l ry fun s3 I3=>⟨Y,_,I3,q2⟩
theorem vM{op:Operator}{rd:V->V->Hp->VK->Prop}(ha:PE X o ta)(hv:PE X value tv)(jA:InOp X op rd):PS X (.AugAssign (.Attribute o f tpos) op value pos) (eO X.K ta tv rd f):=by
 intro pins s Y H D I h;refine wpAny_AugAssign_AttributeAny (A4 (ha pins s Y H _ I h) fun ov s1 ⟨x,H1,I1,rx,a,C,dx,fs,v,ex,ea,c,n,l,q⟩=>?_);subst ex;obtain rfl:ov=Value.ref a:=rx;refine lI I1 ea c n l fun u s2 I2 ru=>A4 (hv pins s2 Y H1 _ I2 q) fun w3 s3 ⟨y,H2,I3,ry,q3⟩=>A4 (jA pins s3 Y H2 v y u w3 _ I3 ru ry q3) fun w4 s4 ⟨z,H3,I4,rz,dx',fs',ea',l',q4⟩=>?_
 exact lJ I4 ea' c n l' rz fun s5 I5=>⟨Y,_,I5,q4⟩
noncomputable def rAdd:V->V->Hp->VK->Prop:=fun x y H Q=>∃ i j,x=.int i/\y=.int j/\Q (.int (i+j)) H
theorem vN:InOp X .Add rAdd:=by
 rintro pins s Y H x y u v Q I rx ry ⟨i,j,rfl,rfl,q⟩;obtain ⟨t,rfl⟩:=(show ∃ t,u=Value.int i t from rx)
 obtain ⟨t',rfl⟩:=(show ∃ t',v=Value.int j t' from ry)
 exact PyProof.Rows.iadd_int ⟨.int (i+j),H,I.tok _,⟨_,rfl⟩,q⟩
end
section
variable {X:Cx} {pins:List (Addr×Obj)} {Y:St} {H:Hp} {s:Shared} {A:Around} {E:Value->Shared->Prop} {Q:Value->Shared->Prop} {c:Value} {b:Bool}
inductive TyOf (K:PySem.W.Frag) (H:Hp):V->Value->Prop where
 | non:TyOf K H .non (.type "NoneType")
 | bl (x:Bool):TyOf K H (.bl x) (.type "bool")
 | int (i:Int):TyOf K H (.int i) (.type "int")
 | str (x:Str):TyOf K H (.str x) (.type "str")
 | flt (x:UInt64):TyOf K H (.flt x) (.type "float")
 | lst {a:Addr} {xs:List V} (e:H a=some (.lst xs)):TyOf K H (.ref a) (.type "list")
 | frz {a:Addr} {o:Obj} {xs:List V} (e:H a=some (.frz o (.lst xs))):TyOf K H (.ref a) (.type "list")
 | tup {a:Addr} {xs:List V} (e:H a=some (.tup xs)):TyOf K H (.ref a) (.type "tuple")
 | dK {a:Addr} {kvs:List (A9×V)} (e:H a=some (.dK kvs)):TyOf K H (.ref a) (.type "dict")
 | dT {a:Addr} {kvs:List (List A9×V)} (e:H a=some (.dT kvs)):TyOf K H (.ref a) (.type "dict")
 | ins {a C dx:Addr} {fs:List (Str×V)} (e:H a=some (.ins C dx fs)) (cl:Cls K C) (ha:D0 K (.ref C) "__class__"=some (some (.builtin "object.__class__")))
   (hn:W7 K (.builtin "object.__class__") "__get__"=some (some (.builtin "getset_descriptor.__get__"))) (j6:d0 K (.builtin "object.__class__")=some true)
   (hm:E6 K C (.type "object")=some true):TyOf K H (.ref a) (.ref C)
theorem vO{x:V}{u t:Value}(I:Inv X pins Y H s)(rx:RelV x u)(ty:TyOf X.K H x t)(e:B7 X.K t c=some b)(h:∀ tk,Q (.bool b) { s with toks:=tk }) :
  wpAny (model X.prog X.w) A (call (.builtin "isinstance") [u,c]) Q E s:=by
 cases ty with
 | non=>cases (show u=Value.none from rx);exact P9 PySem.W.kitx_none I.kIn True.intro e (fun z=>nomatch z) h
 | bl y=>cases (show u=Value.bool y from rx);exact P9 PySem.W.kitx_bool I.kIn True.intro e (fun z=>nomatch z) h
 | int i=>obtain ⟨t,q⟩:=(show ∃ t,u=Value.int i t from rx);cases q;exact P9 PySem.W.kitx_int I.kIn True.intro e (fun z=>nomatch z) h
 | str y=>obtain ⟨t,q⟩:=(show ∃ t,u=Value.str y t from rx);cases q;exact P9 PySem.W.kitx_str I.kIn True.intro e (fun z=>nomatch z) h
 | flt y=>obtain ⟨t,q⟩:=(show ∃ t,u=Value.float y t from rx);cases q;exact P9 PySem.W.kitx_float I.kIn True.intro e (fun z=>nomatch z) h
 | @lst a xs ea=>
  cases (show u=Value.ref a from rx)
  obtain ⟨_,_,n,_,h1⟩:=(show ObjOk X.prog X.w H s.heap a (.lst xs) from I.hok a _ ea)
  exact P9 PySem.W.kitx_list I.kIn ⟨_,h1,rfl⟩ e (fun z=>nomatch z) h
 | @frz a ob xs ea=>
  cases (show u=Value.ref a from rx)
  obtain ⟨_,_,_,n,_,h1⟩:=(show ObjOk X.prog X.w H s.heap a (.frz ob (.lst xs)) from I.hok a _ ea)
  exact P9 PySem.W.kitx_list I.kIn ⟨_,h1,rfl⟩ e (fun z=>nomatch z) h
 | @tup a xs ea=>
  cases (show u=Value.ref a from rx)
  obtain ⟨_,_,_,p⟩:=(show ObjOk X.prog X.w H s.heap a (.tup xs) from I.hok a _ ea)
  obtain ⟨o,h1,h2,_⟩:=p;exact P9 PySem.W.kitx_tuple I.kIn ⟨o,h1,h2⟩ e (fun z=>nomatch z) h
 | @dK a kvs ea=>
  cases (show u=Value.ref a from rx)
  obtain ⟨_,_,vs,_,p⟩:=(show ObjOk X.prog X.w H s.heap a (.dK kvs) from I.hok a _ ea)
  obtain ⟨o,es,ep,h1,h2,_⟩:=p;exact P9 PySem.W.kitx_dict I.kIn ⟨o,h1,h2.1⟩ e (fun z=>nomatch z) h
 | @dT a kvs ea=>
  cases (show u=Value.ref a from rx)
  obtain ⟨_,_,xs,_,o,es,ep,h1,h2,_⟩:=(show ObjOk X.prog X.w H s.heap a (.dT kvs) from I.hok a _ ea)
  exact P9 PySem.W.kitx_dict I.kIn ⟨o,h1,h2.1⟩ e (fun z=>nomatch z) h
 | @ins a C dx fs ea cl ha hn j6 hm=>
  cases (show u=Value.ref a from rx)
  obtain ⟨mA,O,_⟩:=bY I.hok ea;obtain ⟨od,J,_⟩:=O.look;exact P9 (PySem.W.kitx_own (cl.get _) cl.hd ha hn j6 hm) I.kIn J e (fun z=>nomatch z) h
end
end L2
namespace L2
open PySem PySem.Spec PyProof.Rows
structure Room(k:Nat)(A:Around):Prop where
 hd:A.handled=none
 dp:A.depth+3*k+5<recursionLimit
 un:A.units+16*k+200<cLine
 gd:A.guards=some []
theorem Room.mono{j k:Nat}{A:Around}(r:Room k A)(h:j<=k):Room j A:=⟨r.hd,by have:=r.dp;lia,by have:=r.un;lia,r.gd⟩
theorem Room.deeper{k:Nat}{A:Around}(r:Room (k+1) A)(env:Env):Room k (A.deeper env):=
 ⟨r.hd,by have:=r.dp;show A.depth+1+3*k+5<_;lia,by have:=r.un;show A.units+3+16*k+200<_;lia,r.gd⟩
theorem vP{A:Around}{C:Addr}{us:List Value}{kw:List (Str×Value)} : (A.under (.builtin "type.__call__" ⟨.ref C::us,kw⟩)).depth=A.depth+1:=by
 first | rfl | simp [Around.under,Code.weight,Code.isCreation,Code.isGuard,Code.isCaller,Code.frames,Code.isFrame,guardIds]
theorem vQ{A:Around}{C:Addr}{us:List Value}{kw:List (Str×Value)} : (A.under (.builtin "type.__call__" ⟨.ref C::us,kw⟩)).units=A.units+1:=by
 first | rfl | simp [Around.under,Code.cUnits,Code.frames,Code.isFrame]
theorem Room.make{k:Nat}{A:Around}(r:Room (k+1) A)(C:Addr)(us:List Value)(kw:List (Str×Value)):Room k (A.under (.builtin "type.__call__" ⟨.ref C::us,kw⟩)):=
 ⟨r.hd,by have:=r.dp;rw [vP];lia,by have:=r.un;rw [vQ];lia,r.gd⟩
theorem Room.depth{k:Nat}{A:Around}(r:Room k A):A.depth<recursionLimit:=by have:=r.dp;lia
theorem Room.units{k:Nat}{A:Around}(r:Room k A):A.units+64<cLine:=by have:=r.un;lia
noncomputable def tNil:TA:=fun _ H Q=>Q [] H
noncomputable def tCons (ta:TE) (tr:TA):TA:=fun Y H Q=>ta Y H fun x H1=>tr Y H1 fun xs H2=>Q (x::xs) H2
section
variable {X:Cx} {e:Expr} {es:List Expr} {te:TE} {t:TA} {pos:Pos}
theorem vR:PA X [] tNil:=fun _ _ _ _ H Q I h=>Calls.spliced_nil ⟨[],H,I,.nil,h⟩
theorem vS(ha:PE X e te)(hr:PA X es t)(hs:starEach (e::es) X.env=(false,eval e X.env)::starEach es X.env:=by rfl):PA X (e::es) (tCons te t):=by
 intro pos pins s Y H Q I h;rw [hs];show wpAny _ _ (spliced ((false,eval e X.env)::backTo pos (starEach es X.env))) _ _ s;refine Calls.spliced_cons (A4 (ha pins s Y H _ I h) fun u s1 ⟨x,H1,I1,r1,q1⟩=>?_);exact A4 (hr pos pins s1 Y H1 _ I1 q1) fun us s2 ⟨xs,H2,I2,r2,q2⟩=>⟨x::xs,H2,I2,.cons r1 r2,q2⟩
noncomputable def tTup (t:TA):TE:=fun Y H Q=>t Y H fun xs H1=>xs.length<=sizeLine/\∀ p,H1 p=none->Q (.ref p) (A0 H1 p (.tup xs))
noncomputable def tLst (t:TA):TE:=fun Y H Q=>t Y H fun xs H1=>xs.length<=sizeLine/\∀ p,H1 p=none->Q (.ref p) (A0 H1 p (.lst xs))
theorem vT{x1}(h:PA X es t):PE X (.Tuple es x1 pos) (tTup t):=by
 intro pins s Y H Q I hq;refine wpAny_Tuple_spliced (A4 (h pos pins s Y H _ I hq) fun us s1 ⟨xs,H1,I1,r,z,q⟩=>⟨by rw [<- r.length];exact z,?_⟩);have hf:H1 s1.heap.objs.size=none:=I1.hok.fresh (B5 _);refine ⟨.ref s1.heap.objs.size,A0 H1 s1.heap.objs.size (.tup xs),I1.laid (t':=s1.toks) (fun b u e=>Heap.get?_push_of_some _ e) (B5 _) ?_,rfl,q _ hf⟩;exact ⟨z,us,r,⟨_,Heap.get?_push_size _ rfl,rfl,_,rfl⟩⟩
theorem vU(h:PA X es t):PE X (.List es pos) (tLst t):=by
 intro pins s Y H Q I hq;refine wpAny_List_spliced (A4 (h pos pins s Y H _ I hq) fun us s1 ⟨xs,H1,I1,r,z,q⟩=>⟨by rw [<- r.length];exact z,?_⟩);have hf:H1 s1.heap.objs.size=none:=I1.hok.fresh (B5 _);refine ⟨.ref s1.heap.objs.size,A0 H1 s1.heap.objs.size (.lst xs),I1.laid (t':=s1.toks) (fun b u e=>Heap.get?_push_of_some _ e) (B5 _) ?_,rfl,q _ hf⟩;exact ⟨z,us,0,r,Heap.get?_push_size _ rfl⟩
end
noncomputable abbrev Sp:=List V->Hp->VK->XK->Prop
noncomputable abbrev N4:=List Env->Hp->Shared->XK->Value->Shared->Prop
structure Env0(P:Program)(w:World)(K:PySem.W.Frag)(mg:Str->Option Value)(base:Heap)(A:Around)(outer:List Env)(s:Shared)(H:Hp):Prop where
 frames:A.frames=some outer
 mod:Mod K mg base
 bs:∀ b o,base.get? b=some o->s.heap.get? b=some o/\H b=none
 bsz:base.objs.size<=s.heap.objs.size
 funs:s.heap.FunFrames base outer
 frf:∀ b∈E3 outer,H b=none
 hok:D1 P w H s.heap
 bare:AllBare s.gens
noncomputable def CE (outer:List Env) (P:Program) (w:World) (H:Hp) (s:Shared) (Q:VK) (u:Value) (s':Shared):Prop:=
 ∃ v H',s'.os=s.os/\AllBare s'.gens/\Un (E3 outer) [] H H' s.heap s'.heap/\D1 P w H' s'.heap/\RelV v u/\Q v H'
noncomputable def CR (CX:N4) (outer:List Env) (P:Program) (w:World) (H:Hp) (s:Shared) (Q:VK) (E:XK) (r:Result) (s':Shared):Prop:=
 match r with
 | .ok (.ret u)=>CE outer P w H s Q u s'
 | .ok _=>False
 | .error e=>CX outer H s E e s'
structure FnOk(P:Program)(w:World)(K:PySem.W.Frag)(mg:Str->Option Value)(base:Heap)(CX:N4)(k:Nat)(f:Addr)(fd:FuncData)(ps:List Str)(sp:Sp):Prop where
 len:∀ vs H Q E,sp vs H Q E->vs.length=ps.length
 run:∀ (A:Around) (outer:List Env) (s:Shared) (H:Hp) (args:Args) (us:List Value) (vs:List V) (Q:VK) (E:XK),Room k A->Env0 P w K mg base A outer s H->BindsTo s fd args (ps.zip us)->Vals vs us->sp vs H Q E->
  codeAny (model P w) A (.call (.ref f) args) (CR CX outer P w H s Q E) s
theorem Env0.make{P:Program}{w:World}{K:PySem.W.Frag}{mg:Str->Option Value}{base:Heap}{A:Around}{outer:List Env}{s:Shared}{H:Hp}(e:Env0 P w K mg base A outer s H)(C:Addr)(us:List Value)(kw:List (Str×Value)) :
  Env0 P w K mg base (A.under (.builtin "type.__call__" ⟨.ref C::us,kw⟩)) outer s H:=⟨by first | exact e.frames | (simpa [Around.under,Code.envs,Code.isFrame,pushEnvs] using e.frames),e.mod,e.bs,e.bsz,e.funs,e.frf,e.hok,e.bare⟩
section
variable {X:Cx} {pins:List (Addr×Obj)} {Y:St} {H:Hp} {s s':Shared}
theorem Inv.env0(I:Inv X pins Y H s):Env0 X.prog X.w X.K X.mg X.base X.A X.stack s H:=
 ⟨I.ok.frames,I.ok.mod,I.bs,C3 I.ok.bsz I.sz,I.stack,I.stkFree,I.hok,I.bare⟩
theorem Inv.after{Q:VK}{u:Value}(I:Inv X pins Y H s)(h:CE X.stack X.prog X.w H s Q u s'):EP X pins Y Q u s':=by
 obtain ⟨v,H',os,bare,un,hok,r,q⟩:=h;obtain ⟨hh,g,d,t,os'⟩:=s';obtain rfl:os'=s.os:=os;exact ⟨v,H',I.call (h':=hh) (g':=g) (d':=d) (t':=t) (ch:=[]) un hok bare (fun b z=>absurd z (by simp)),r,q⟩
end
noncomputable def tCall (sp:Sp) (dvs:List V) (E:XK) (t:TA):TE:=fun Y H Q=>t Y H fun vs H1=>sp (vs++dvs) H1 Q E
noncomputable def tMeth (C:Addr) (m:Str) (sp:Sp) (dvs:List V) (E:XK) (ta:TE) (t:TA):TE:=fun Y H Q=>ta Y H fun x H1=>∃ a dx fs,x=.ref a/\H1 a=some (.ins C dx fs)/\fs.lookup m=none/\
 t Y H1 fun vs H2=>sp (x::(vs++dvs)) H2 Q E
noncomputable def tMake (C:Addr) (sp:Sp) (dvs:List V) (E:XK) (t:TA):TE:=fun Y H Q=>t Y H fun vs H1=>∀ x dx,H1 x=none->H1 dx=none->dx≠x->
 sp (.ref x::(vs++dvs)) (A0 (A0 H1 dx (.own x)) x (.ins C dx [])) (fun v H2=>v=.non/\Q (.ref x) H2) E
noncomputable def Binds (K:PySem.W.Frag) (fd:FuncData) (ps:List Str) (ds:List Value):Prop:=
 ∀ (s:Shared) (us:List Value),K.In s.heap->(us++ds).length=ps.length->BindsTo s fd ⟨us,[]⟩ (ps.zip (us++ds))
theorem Binds.all{K:PySem.W.Frag}{fd:FuncData}{ps:List Str}(h:∀ us:List Value,us.length=ps.length->bindArgs fd ⟨us,[]⟩=pure (ps.zip us)):Binds K fd ps []:=fun s us _ hl=>by
 rw [d9] at hl ⊢
 exact .of_eq (h us hl)
noncomputable def R8 (CX:N4) (X:Cx) (E:XK):Prop:=∀ (pins:List (Addr×Obj)) (Y:St) (H:Hp) (s:Shared) (e:Value) (s':Shared),Inv X pins Y H s->CX X.stack H s E e s'->X.xe e s'
section
variable {X:Cx} {CX:N4} {k:Nat} {f C:Addr} {fd:FuncData} {ps:List Str} {sp:Sp} {dvs:List V} {ds:List Value} {E:XK} {x m:Str} {p pos apos:Pos} {e o:Expr} {es:List Expr} {ta:TE} {t:TA}
theorem bZ{pins:List (Addr×Obj)}{Y:St}{H:Hp}{s:Shared}{Q:VK}{us:List Value}{vs:List V}(F:FnOk X.prog X.w X.K X.mg X.base CX k f fd ps sp)(hr:Room k X.A)(hb:Binds X.K fd ps ds)(hd:Vals dvs ds)(hx:R8 CX X E)(I:Inv X pins Y H s)(r:Vals vs us)(h:sp (vs++dvs) H Q E):wpAny (model X.prog X.w) X.A (call (.ref f) us) (EP X pins Y Q) X.xe s:=by
 have r2:Vals (vs++dvs) (us++ds):=r.append hd;have hl:(us++ds).length=ps.length:=by rw [<- r2.length];exact F.len _ _ _ _ h
 refine wpAny_call (codeAny_mono (F.run X.A X.stack s H ⟨us,[]⟩ (us++ds) (vs++dvs) Q E hr I.env0 (hb s us I.kIn hl) r2 h) fun r s' hq=>?_)
 cases r with
 | error e=>exact hx pins Y H s e s' I hq
 | ok fl=>
  cases fl with
  | ret u=>exact I.after hq
  | next=>exact False.elim hq
  | brk=>exact False.elim hq
  | cont=>exact False.elim hq
theorem vV(F:FnOk X.prog X.w X.K X.mg X.base CX k f fd ps sp)(hr:Room k X.A)(hg:Gl X x)(hm:X.mg x=some (.ref f))(hk:G9 X.K (.ref f)=true)(hb:Binds X.K fd ps ds)(hd:Vals dvs ds)(hx:R8 CX X E)(ha:PA X (e::es) t)(C6:(x==("__debug__" : Str))=false:=by decide)(he:starEach (e::es) X.env=(false,eval e X.env)::starEach es X.env:=by rfl)(C7:(backTo pos (starEach es X.env)).any (·.1)=false:=by rfl) :
  PE X (.Call (.Name x p) (e::es) [] pos) (tCall sp dvs E t):=by
 intro pins s Y H Q I h;refine wpAny_Call_Name_kw (U9 I hg hm ?_ C6);refine c6 (h₀:=X.base) I.ok.mod.kin hk (A4 (ha pos pins s Y H _ I h) fun us s1 ⟨vs,H1,I1,r,q⟩=>⟨I1.kIn,?_⟩) he C7;exact bZ F hr hb hd hx I1 r q
theorem vW{pl:Sem Bool}(he:PE X o ta)(c:Cls X.K C)(hm:Meth X.K C m f)(F:FnOk X.prog X.w X.K X.mg X.base CX k f fd ps sp)(hr:Room k X.A)(hb:Binds X.K fd ps ds)(hd:Vals dvs ds)(hx:R8 CX X E)(ha:PA X (e::es) t)(j5:starEach (e::es) X.env=(false,eval e X.env)::starEach es X.env:=by rfl)(C7:(backTo pos (starEach es X.env)).any (·.1)=false:=by rfl)(ht:eval (.Call (.Attribute o m apos) (e::es) [] pos) X.env=(do
   let ov <- eval o X.env
   standAt apos.atName
   let (f,first) <- holding [ov] (getMethod ov m pl)
   callWith pos f first (backTo pos (starEach (e::es) X.env)) (backToKw pos (keywordEach [] X.env))):=by rfl) :
  PE X (.Call (.Attribute o m apos) (e::es) [] pos) (tMeth C m sp dvs E ta t):=by
 intro pins s Y H Q I h;refine bP (pl:=pl) (A4 (he pins s Y H _ I h) fun u s1 ⟨x,H1,I1,rx,a,dx,fs,ex,ea,l,q⟩=>?_) ht;subst ex;obtain rfl:u=Value.ref a:=rx;refine eN I1 ea c hm l ?_;refine c6 (first:=[.ref a]) (h₀:=X.base) I.ok.mod.kin hm.kp (A4 (ha pos pins s1 Y H1 _ I1 q) fun us s2 ⟨vs,H2,I2,r,q2⟩=>⟨I2.kIn,?_⟩) j5 C7;exact bZ (us:=.ref a::us) (vs:=.ref a::vs) F hr hb hd hx I2 (.cons rfl r) q2
theorem vX{pl:Sem Bool}(he:PE X o ta)(c:Cls X.K C)(hm:Meth X.K C m f)(F:FnOk X.prog X.w X.K X.mg X.base CX k f fd ps sp)(hr:Room k X.A)(hb:Binds X.K fd ps ds)(hd:Vals dvs ds)(hx:R8 CX X E)(ht:eval (.Call (.Attribute o m apos) [] [] pos) X.env=(do
   let ov <- eval o X.env
   standAt apos.atName
   let (f,first) <- holding [ov] (getMethod ov m pl)
   callWith pos f first (backTo pos (starEach [] X.env)) (backToKw pos (keywordEach [] X.env))):=by rfl) :
  PE X (.Call (.Attribute o m apos) [] [] pos) (tMeth C m sp dvs E ta tNil):=by
 intro pins s Y H Q I h;refine bP (pl:=pl) (A4 (he pins s Y H _ I h) fun u s1 ⟨x,H1,I1,rx,a,dx,fs,ex,ea,l,q⟩=>?_) ht;subst ex;obtain rfl:u=Value.ref a:=rx;refine eN I1 ea c hm l ?_;exact PySem.W.callWith_K0 (first:=[.ref a]) I1.kIn hm.kp (bZ (us:=[.ref a]) (vs:=[.ref a]) F hr hb hd hx I1 (.cons rfl .nil) q)
structure Mk(K:PySem.W.Frag)(C f:Addr):Prop where
 makes:PySem.W.makesIn K C=true
 init:D0 K (.ref C) "__init__"=some (some (.ref f))
 fn:R1 K (.ref f)=true
 kp:G9 K (.ref C)=true
theorem vY{pins:List (Addr×Obj)}{Y:St}{H:Hp}{s:Shared}{Q:VK}{us:List Value}{vs:List V}(M:Mk X.K C f)(F:FnOk X.prog X.w X.K X.mg X.base CX k f fd ps sp)(hr:Room (k+1) X.A)(hb:Binds X.K fd ps ds)(hd:Vals dvs ds)(hx:R8 CX X E)(I:Inv X pins Y H s)(r:Vals vs us)(h:∀ x dx,H x=none->H dx=none->dx≠x->sp (.ref x::(vs++dvs)) (A0 (A0 H dx (.own x)) x (.ins C dx [])) (fun v H2=>v=.non/\Q (.ref x) H2) E) :
  wpAny (model X.prog X.w) X.A (call (.ref C) us) (EP X pins Y Q) X.xe s:=by
 have hq:=h (s.heap.objs.size+1) s.heap.objs.size (I.hok.fresh (Nat.le_succ _)) (I.hok.fresh (B5 _)) (J6 (Nat.lt_succ_self _));have I2:=lK (C:=C) I;have r2:Vals (V.ref (s.heap.objs.size+1)::(vs++dvs)) (Value.ref (s.heap.objs.size+1)::(us++ds)):=.cons rfl (r.append hd);have hl:(Value.ref (s.heap.objs.size+1)::us++ds).length=ps.length:=by
  have e:=r2.length;rw [F.len _ _ _ _ hq] at e;exact e.symm
 refine wpAny_call (lE (f:=f) I.kIn M.makes M.init (beq_iff_eq.mp M.fn) (codeAny_mono (F.run _ X.stack _ _ ⟨Value.ref (s.heap.objs.size+1)::us,[]⟩ (Value.ref (s.heap.objs.size+1)::(us++ds)) _ _ E (hr.make C us [])
  (I2.env0.make C us []) (hb _ (Value.ref (s.heap.objs.size+1)::us) I2.kIn hl) r2 hq) fun r s' G7=>?_))
 cases r with
 | error e=>exact hx pins Y _ _ e s' I2 G7
 | ok fl=>
  cases fl with
  | ret u=>
   obtain ⟨v,H',I3,rv,ev,q3⟩:=I2.after G7;subst ev;exact ⟨rv,⟨V.ref (s.heap.objs.size+1),H',I3,rfl,q3⟩⟩
  | next=>exact False.elim G7
  | brk=>exact False.elim G7
  | cont=>exact False.elim G7
theorem vZ(M:Mk X.K C f)(F:FnOk X.prog X.w X.K X.mg X.base CX k f fd ps sp)(hr:Room (k+1) X.A)(hg:Gl X x)(hm:X.mg x=some (.ref C))(hb:Binds X.K fd ps ds)(hd:Vals dvs ds)(hx:R8 CX X E)(ha:PA X (e::es) t)(C6:(x==("__debug__" : Str))=false:=by decide)(he:starEach (e::es) X.env=(false,eval e X.env)::starEach es X.env:=by rfl)(C7:(backTo pos (starEach es X.env)).any (·.1)=false:=by rfl) :
  PE X (.Call (.Name x p) (e::es) [] pos) (tMake C sp dvs E t):=by
 intro pins s Y H Q I h;refine wpAny_Call_Name_kw (U9 I hg hm ?_ C6);refine c6 (h₀:=X.base) I.ok.mod.kin M.kp (A4 (ha pos pins s Y H _ I h) fun us s1 ⟨vs,H1,I1,r,q⟩=>⟨I1.kIn,?_⟩) he C7;exact vY M F hr hb hd hx I1 r q
end
section
variable {X:Cx} {CX:N4} {k:Nat} {f C:Addr} {fd:FuncData} {ps ks:List Str} {sp:Sp} {E:XK} {x m:Str} {p pos apos kpos:Pos} {e o:Expr} {es:List Expr} {kws:List Keyword} {te ta:TE} {t tk:TA} {nm:Option Str}
variable {g:List Value->List Value->List Value} {gV:List V->List V->List V}
end
structure FnScope(N P:List Str)(sc:Scope):Prop where
 kind:sc.kind=.function
 co:sc.isCoroutine=false
 gen:sc.isGenerator=false
 nd:N.Nodup
 pre:N.take P.length=P
 par:∀ x∈P,sc.names.lookup x=some .local\/sc.names.lookup x=some .cell
 nofree:∀ y∈sc.names,y.2≠.free
theorem lM{kindOf:Str->Option NameKind}{x:Str} : ∀ {binds:List (Str×Value)} {m:Str->Option Value},(∀ v,(x,v)∉binds)->bindL kindOf binds m x=m x
 | [],_,_=>rfl
 | (n,v)::r,m,h=>by
  unfold bindL;rw [lM fun w hw=>h w (J0 _ hw)]
  split
  .have:x≠n:=by rintro rfl;exact h v M9
   simp [this]
  .rfl
theorem lN{kindOf:Str->Option NameKind}{x:Str} : ∀ {binds:List (Str×Value)} {m:Str->Option Value},(∀ v,(x,v)∉binds)->bindC kindOf binds m x=m x
 | [],_,_=>rfl
 | (n,v)::r,m,h=>by
  unfold bindC;rw [lN fun w hw=>h w (J0 _ hw)]
  split
  .rfl
  .have:x≠n:=by rintro rfl;exact h v M9
   simp [this]
theorem lO{kindOf:Str->Option NameKind}{x:Str}{v:Value} : ∀ {P:List Str} {vs:List Value} {i:Nat} {m:Str->Option Value},P.Nodup->P[i]?=some x->vs[i]?=some v->kindOf x=some .local->
  bindL kindOf (P.zip vs) m x=some v
 | [],_,_,_,_,h,_,_=>by simp at h
 | _::_,[],_,_,_,_,h,_=>by simp at h
 | p::P,w::vs,0,m,nd,h1,h2,hk=>by
  simp at h1 h2;subst h1;subst h2;show bindL kindOf ((p,w)::P.zip vs) m p=_;unfold bindL;rw [lM fun v hv=>(List.nodup_cons.mp nd).1 (List.of_mem_zip hv).1,if_pos hk]
  simp
 | p::P,w::vs,i+1,m,nd,h1,h2,hk=>by
  show bindL kindOf ((p,w)::P.zip vs) m x=_;unfold bindL;exact lO (i:=i) (List.nodup_cons.mp nd).2 (by simpa using h1) (by simpa using h2) hk
theorem lP{kindOf:Str->Option NameKind}{x:Str}{v:Value} : ∀ {P:List Str} {vs:List Value} {i:Nat} {m:Str->Option Value},P.Nodup->P[i]?=some x->vs[i]?=some v->kindOf x≠some .local->
  bindC kindOf (P.zip vs) m x=some v
 | [],_,_,_,_,h,_,_=>by simp at h
 | _::_,[],_,_,_,_,h,_=>by simp at h
 | p::P,w::vs,0,m,nd,h1,h2,hk=>by
  simp at h1 h2;subst h1;subst h2;show bindC kindOf ((p,w)::P.zip vs) m p=_;unfold bindC;rw [lN fun v hv=>(List.nodup_cons.mp nd).1 (List.of_mem_zip hv).1,if_neg hk]
  simp
 | p::P,w::vs,i+1,m,nd,h1,h2,hk=>by
  show bindC kindOf ((p,w)::P.zip vs) m x=_;unfold bindC;exact lP (i:=i) (List.nodup_cons.mp nd).2 (by simpa using h1) (by simpa using h2) hk
noncomputable def start (N:List Str) (vs:List V):St:=vs.map some++K7 (N.length-vs.length) none
noncomputable def cxOf (CX:N4) (P:Program) (w:World) (K:PySem.W.Frag) (mg:Str->Option Value) (base:Heap) (N:List Str) (qual:Str) (scope:Scope) (f:Addr) (cd:Value) (A:Around) (outer:List Env) (s:Shared) (H:Hp) (E:XK):Cx where
 prog:=P
 w:=w
 K:=K
 mg:=mg
 base:=base
 A:=A.deeper (envOfC qual scope s.heap.objs.size f cd)
 N:=N
 s₀:=s
 H₀:=H
 env:=envOfC qual scope s.heap.objs.size f cd
 outer:=outer
 stack:=envOfC qual scope s.heap.objs.size f cd::outer
 ex:=[]
 calm:=true
 fn:=fun _=>true
 pn:=[]
 xe:=fun e s'=>wpAny (model P w) (A.deeper (envOfC qual scope s.heap.objs.size f cd)) (leaving (envOfC qual scope s.heap.objs.size f cd) e) (fun _ s''=>CX outer H s E e s'') (fun e' s''=>CX outer H s E e' s'') s'
theorem lQ{sc:Scope}{n:Nat}{x:Str}(h:sc.names.lookup x=some .cell):∃ c,(cellsFrom n sc.names []).lookup x=some c:=by
 have q:=PySem.W.cellsFrom_some sc.names n [] (.inl h);exact Option.isSome_iff_exists.mp q
theorem lR{CX:N4}{P:Program}{w:World}{K:PySem.W.Frag}{mg:Str->Option Value}{base:Heap}{N ps:List Str}{qual:Str}{scope:Scope}{f:Addr}{cd:Value}{A:Around}{outer:List Env}{s s1:Shared}{H:Hp}{E:XK}{us:List Value}{vs:List V}(S:FnScope N ps scope)(hd:A.handled=none)(e0:Env0 P w K mg base A outer s H)(hl:vs.length=ps.length)(r:Vals vs us)(x:InCallC s s.heap.objs.size (bindL (envOfC qual scope s.heap.objs.size f cd).kindOf (ps.zip us) fun _=>none) (cellsFrom (s.heap.objs.size+1) scope.names []) (bindC (envOfC qual scope s.heap.objs.size f cd).kindOf (ps.zip us) fun _=>none) s1) :
  Inv (cxOf CX P w K mg base N qual scope f cd A outer s H E) [] (start N vs) H s1:=by
 have C7:ps.length<=N.length:=by have:=congrArg List.length S.pre;rw [U3] at this;lia
 obtain ⟨h1,tk,rfl,hk⟩:=x.done;have noA:∀ b:Addr,b∉(cxOf CX P w K mg base N qual scope f cd A outer s H E).ex:=fun b z=>absurd (show b∈([]:List Addr) from z) (by simp)
 refine ⟨⟨e0.mod,S.kind,rfl,rfl,B5 _,fun y z c h1 h2=>?_,fun y hy=>?_,fun y c _ h=>?_,fun _=>hd,Around.frames_deeper e0.frames,.inr ⟨rfl,rfl⟩,fun b z=>absurd z (noA b),e0.bs,e0.bsz,fun b _ _=>noA b,fun b z=>absurd z (noA b),e0.funs,e0.frf⟩,
  rfl,e0.bare,Un.kept hk,⟨_,x.toInCall.ns,fun i y v h1 h2 h3=>?_⟩,fun y c h=>⟨_,x.cell y c h⟩,e0.hok.fresh (B5 _),fun y c h=>?_,fun p hp=>absurd (show p∈([]:List (Addr×Obj)) from hp) (by simp),e0.hok.kept hk,?_⟩
 .exact name_of_addr x.apart (PySem.mem_of_lookup h1) (PySem.mem_of_lookup h2)
 .have hy:scope.names.lookup y=some .cell\/scope.names.lookup y=some .free:=hy
  rcases hy with hy | hy
  .exact lQ hy
  .exact absurd rfl (S.nofree _ (PySem.mem_of_lookup hy))
 .exact Nat.le_of_lt (x.above y c (PySem.mem_of_lookup h))
 .have hi:i<vs.length:=by
   unfold start at h2
   by_cases hi:i<vs.length
   .exact hi
   .rw [n5 (by simpa using hi)] at h2;rw [List.getElem?_replicate] at h2
    split at h2 <;> cases h2
  have ha:vs[i]?=some v:=by
   unfold start at h2;rw [List.getElem?_append_left (by simpa using hi),Q2] at h2;cases e:vs[i]? with
   | none=>rw [e] at h2;cases h2
   | some a=>rw [e] at h2;cases h2;rfl
  obtain ⟨u,hu,rv⟩:=r.get ha;have hp:ps[i]?=some y:=by
   rw [<- S.pre,List.getElem?_take_of_lt (by lia)];exact h1
  have ndP:ps.Nodup:=by rw [<- S.pre];exact S.nd.sublist (List.take_sublist _ _)
  refine ⟨u,rv,?_⟩
  rcases S.par y (Q0 hp) with k | k
  .exact .inl ⟨k,lO ndP hp hu k⟩
  .obtain ⟨c,e⟩:=lQ (n:=s.heap.objs.size+1) k;refine .inr ⟨.inl k,c,e,?_⟩;have q:=x.cell y c e;rw [lP ndP hp hu (by show scope.names.lookup y≠_;rw [k];decide)] at q;exact q
 .exact e0.hok.fresh (Nat.le_of_lt (x.above y c (PySem.mem_of_lookup h)))
 .unfold start;show _=N.length;rw [K3,B9,List.length_replicate];lia
theorem fn_of{CX:N4}{P:Program}{w:World}{K:PySem.W.Frag}{mg:Str->Option Value}{base:Heap}{k:Nat}{f:Addr}{name qual:Str}{params:Arguments}{body:List Stmt}{scope:Scope}{dV kV doc pm cdv ct oc:Value}{an od:Option Addr}{osl:Array (Option Value)}{N ps:List Str}{sp:Sp}(lk:K.lookup f=some ⟨oc,od,.func (J5 name qual params body scope dV kV doc pm an cdv ct),osl⟩)(G5:M8 K cdv qual=true)(S:FnScope N ps scope)(len:∀ vs H Q E,sp vs H Q E->vs.length=ps.length)(C9:∀ (A:Around) (outer:List Env) (s:Shared) (H:Hp) (vs:List V) (Q:VK) (E:XK),Room k (A.deeper (envOfC qual scope s.heap.objs.size f cdv))->sp vs H Q E->
   ∃ t,M3 (cxOf CX P w K mg base N qual scope f cdv A outer s H E) body t/\t { nx:=fun _ H'=>Q .non H',rt:=Q } (start N vs) H) :
  FnOk P w K mg base CX (k+1) f (J5 name qual params body scope dV kV doc pm an cdv ct) ps sp:=by
 refine ⟨len,fun A outer s H args us vs Q E hr e0 hb r F6=>?_⟩;have hl:=len _ _ _ _ F6;have KX:K.In s.heap:=e0.mod.kin.keeps fun b o e=>(e0.bs b o e).1
 have lim:s.heap.NoLimit:=e0.mod.nolimit.keeps fun b o e=>(e0.bs b o e).1
 have T8:∀ y∈ps.zip us,scope.names.lookup y.1=some .local\/(scope.names.lookup y.1=some .cell/\((cellsFrom (s.heap.objs.size+1) scope.names []).lookup y.1).isSome=true):=fun ⟨n,v⟩ hy=>by
  rcases S.par n (List.of_mem_zip hy).1 with q | q
  .exact .inl q
  .exact .inr ⟨q,PySem.W.cellsFrom_some _ _ _ (.inl q)⟩
 refine codeAny_call_function hr.depth (KX _ _ lk) rfl S.co S.gen rfl (PySem.W.codeRec_of KX G5) (hb _ _ _ _ ?_);refine wpAny_newFunctionEnv_cells S.kind T8 fun env he s1 x=>?_
 subst he;refine ⟨lim.keeps x.toInCall.keep,codeAny_func ?_⟩;obtain ⟨t,ht,hq⟩:=C9 A outer s H vs Q E (hr.deeper _) F6;have I:Inv (cxOf CX P w K mg base N qual scope f cdv A outer s H E) [] (start N vs) H s1:=lR S hr.hd e0 hl r x;refine wpAny_mono (ht [] s1 (start N vs) H _ I hq) (fun fl s' hs=>?_) fun e s' hs=>hs
 have fin:∀ {σ':St} {H':Hp} {v:V} {u:Value},Inv (cxOf CX P w K mg base N qual scope f cdv A outer s H E) [] σ' H' s'->RelV v u->Q v H'->CE outer P w H s Q u s':=
  fun {σ' H' v u} J rv q=>⟨v,H',J.os,J.bare,J.base,J.hok,rv,q⟩
 cases fl with
 | ret u=>
  obtain ⟨v,σ',H',J,rv,q⟩:=hs;exact fin J rv q
 | next=>
  obtain ⟨σ',H',J,q⟩:=hs;exact fin (v:=V.non) (u:=Value.none) J rfl q
 | brk=>
  obtain ⟨_,_,_,q⟩:=hs;exact False.elim q
 | cont=>
  obtain ⟨_,_,_,q⟩:=hs;exact False.elim q
end L2
section
variable {C T T2 a b dx e f fa p r sl t t0:PySem.Addr}{dvs vs xs ys:List L2.V}{Q:L2.VK}{cd cdv ct dV doc head oc pm u v vl vu:PySem.Value}{c i j m n t':Nat}{items:Array PySem.Value}{bmB its us:List PySem.Value}{A:PySem.Around}{s s' zt:PySem.Shared}{y:L2.V}{Z name qual x z:PySem.Str}{pins:List (PySem.Addr×PySem.Obj)}{Y:L2.St}{H H' H0 H1 zr:L2.Hp}{h h' h2:PySem.Heap}{prog q:PySem.Program}{N N' loose ns ps ts zs:List PySem.Str}{w:PySem.World}{K:PySem.W.Frag}{mg:PySem.Str->Option PySem.Value}{fd:PySem.FuncData}{sp:L2.Sp}{X:L2.Cx}{kvs:List (L2.A9×L2.V)}{E xe:PySem.Value->PySem.Shared->Prop}{ixs:List Nat}{elt iter target tg:PySem.Expr}{es ifs:List PySem.Expr}{g:L2.TG}{t1 t2 te tl:L2.TE}{fp rs:List PySem.Addr}{calm hadNext neg:Bool}{st:PySem.Stmt}{an od:Option PySem.Addr}{osl:Array (Option PySem.Value)}{tb:L2.TS}{D:L2.Ends}{ta:L2.TA}{o oe oh:PySem.Obj}
namespace L2
open PySem PySem.Spec PyProof.Rows
section
variable {X:Cx} {x:Str} {p pos:Pos} {e:Expr} {es:List Expr} {t:TA} {id T:String} {r:List V->Hp->VK->Prop}
noncomputable def e9 (r:List V->Hp->VK->Prop) (t:TA):TE:=fun Y H Q=>t Y H fun vs H1=>r vs H1 Q
theorem wA(hc:CallR X (.builtin id) r)(hg:Gl X x)(hm:X.mg x=none)(hv:bootBuiltins x=some (.builtin id))(ha:PA X (e::es) t)(hn:x≠"__name__":=by decide)(C6:(x==("__debug__" : Str))=false:=by decide)(he:starEach (e::es) X.env=(false,eval e X.env)::starEach es X.env:=by rfl)(C7:(backTo pos (starEach es X.env)).any (·.1)=false:=by rfl):PE X (.Call (.Name x p) (e::es) [] pos) (e9 r t):=by
 intro pins s Y H Q I h;refine wpAny_Call_Name_kw (bW I hg hm hv ?_ hn C6);exact PyProof.Rows.callWith_builtin1 (A4 (ha pos pins s Y H _ I h) fun us s1 ⟨vs,H1,I1,r1,q1⟩=>hc pins s1 Y H1 vs us Q I1 r1 q1) he C7
theorem wB(hc:CallR X (.type T) r)(hg:Gl X x)(hm:X.mg x=none)(hv:bootBuiltins x=some (.type T))(ha:PA X (e::es) t)(hn:x≠"__name__":=by decide)(C6:(x==("__debug__" : Str))=false:=by decide)(he:starEach (e::es) X.env=(false,eval e X.env)::starEach es X.env:=by rfl)(C7:(backTo pos (starEach es X.env)).any (·.1)=false:=by rfl):PE X (.Call (.Name x p) (e::es) [] pos) (e9 r t):=by
 intro pins s Y H Q I h;refine wpAny_Call_Name_kw (bW I hg hm hv ?_ hn C6);exact PyProof.Rows.callWith_type1 (A4 (ha pos pins s Y H _ I h) fun us s1 ⟨vs,H1,I1,r1,q1⟩=>hc pins s1 Y H1 vs us Q I1 r1 q1) he C7
end
end L2
namespace HT
open PySem PyProof.Rows
section
open PySem.SeqAt
open PySem.AutoSeq1 (wpAny_loadPart')
open PySem.MeetsSeq PySem.MeetsSeq2 PySem.MeetsSeq3
end
section
variable {prog:Program} {w:World} {A:Around} {E:Value->Shared->Prop} {s:Shared}
theorem cat_tup{vs ws:List Value}{Q:Value->Shared->Prop}(ht:IsTup s.heap t vs.toArray)(hb:IsTup s.heap b ws.toArray)(hv:vs≠[])(h1:ws=[]->Q (.ref t) s)(h2:ws≠[]->Q (.ref s.heap.objs.size) { s with heap:=s.heap.push { cls:=.type "tuple",data:=.seq (vs++ws).toArray } })(hsz:vs.length+ws.length<=sizeLine):wpAny (model prog w) A (binaryOp .Add (.ref t) (.ref b)) Q E s:=by
 obtain ⟨⟨cls,dd,data,sl⟩,ho,hc,n,hd⟩:=id ht;obtain ⟨⟨cls2,rN,data2,rO⟩,dR,b6,n2,rP⟩:=id hb;simp only at hc hd b6 rP;subst hc hd b6 rP;have e:vs.toArray++ws.toArray=(vs++ws).toArray:=by simp
 by_cases hw:ws=[]
 .exact concat_meets ⟨_,ho,rfl⟩ ⟨_,dR,rfl⟩ noFill_tuple_add seq_tuple_add PySem.F.slot_tuple_add PySem.F.entry_tuple_add (PySem.F.args_tuple_add_2 _ _)
   (tuple_addW1 t b vs.toArray ws.toArray n n2 dd rN sl rO (by simpa using hv) (by simp [hw])) ⟨ho,dR,h1 hw⟩
 .refine concat_meets ⟨_,ho,rfl⟩ ⟨_,dR,rfl⟩ noFill_tuple_add seq_tuple_add PySem.F.slot_tuple_add PySem.F.entry_tuple_add (PySem.F.args_tuple_add_2 _ _)
   (tuple_addW2 t b vs.toArray ws.toArray n n2 dd rN sl rO (by simpa using hv) (by simpa using hw) (by rw [E7,E7];exact hsz)) ⟨ho,dR,?_⟩
  rw [e];exact h2 hw
noncomputable def sIx (n d:Nat):Option Int->Nat
 | none=>d
 | some v=>if v<0 then (v+(n:Int)).toNat else min v.toNat n
theorem sIx_nat(n d k:Nat):sIx n d (some (k:Int))=min k n:=by
 show (if (k:Int)<0 then ((k:Int)+(n:Int)).toNat else min (k:Int).toNat n)=min k n;rw [if_neg (by lia),Int.toNat_natCast]
theorem sIx_le(n d:Nat)(hd:d<=n)(o:Option Int):sIx n d o<=n:=by
 cases o with
 | none=>exact hd
 | some v=>
  show (if v<0 then (v+(n:Int)).toNat else min v.toNat n)<=n
  by_cases hv:v<0
  .rw [if_pos hv];lia
  .rw [if_neg hv];exact Nat.min_le_right _ _
theorem clip_eq(v:Int)(n d:Nat):(if v<0 then max (v+(n:Int)) 0 else min v (n:Int))=((sIx n d (some v):Nat):Int):=by
 show (if v<0 then max (v+(n:Int)) 0 else min v (n:Int))=(((if v<0 then (v+(n:Int)).toNat else min v.toNat n):Nat):Int)
 by_cases hv:v<0
 .simp only [if_pos hv];lia
 .simp only [if_neg hv];lia
theorem wC(lo hi:Option Int)(n:Nat):Builtin.Slice.sliceAdjust lo hi 1 (n:Int)=(((sIx n 0 lo:Nat):Int),((sIx n n hi:Nat):Int)):=by
 have h1:¬ ((1:Int)<0):=by lia
 unfold Builtin.Slice.sliceAdjust;simp only [h1,if_false];refine Prod.ext ?_ ?_
 .cases lo with
  | none=>rfl
  | some v=>exact clip_eq v n 0
 .cases hi with
  | none=>rfl
  | some v=>exact clip_eq v n n
theorem wD(i j:Nat):Builtin.Slice.slicePlaces (i:Int) (j:Int) 1=j-i:=by
 unfold Builtin.Slice.slicePlaces;have h1:(1:Int) > 0:=by lia
 simp only [h1,if_true,Int.ediv_one]
 split <;> lia
theorem lS{o:Option Int}{Q:Option Int->Shared->Prop}(p:IsPart v o)(h:Q o s):wpAny (model prog w) A (Builtin.Slice.slicePartIndex v) Q E s:=by
 cases p with
 | none=>exact slicePart_none h
 | int i t=>exact slicePart_int h
theorem sliceApplied_gen{lo hi:Option Int}{Q:Int×Int×Nat->Shared->Prop}(hs:s.heap.IsSliceOf sl vl vu .none)(pl:IsPart vl lo)(pu:IsPart vu hi)(h:Q (((sIx n 0 lo:Nat):Int),1,sIx n n hi-sIx n 0 lo) s):wpAny (model prog w) A (Builtin.Slice.sliceApplied (.ref sl) (pure (n:Int))) Q E s:=by
 obtain ⟨os,j7,dS,aN⟩:=id hs;unfold Builtin.Slice.sliceApplied Builtin.Slice.sliceFields;refine wpAny_bind (wpAny_bind (wpAny_field j7 aN (x:=vl) rfl (wpAny_bind (wpAny_field j7 aN (x:=vu) rfl (wpAny_bind (wpAny_field j7 aN (x:=.none) rfl (wpAny_pure ?_)))))));refine wpAny_bind (slicePart_none ?_);show wpAny _ _ (if ((1:Int)==0)=true then _ else _) _ _ s;rw [if_neg (by decide)];refine wpAny_bind (lS pl (wpAny_bind (lS pu (wpAny_bind (wpAny_pure ?_)))));show wpAny _ _ (match Builtin.Slice.sliceAdjust lo hi 1 (n:Int) with | (lo,hi)=>pure (lo,(1:Int),Builtin.Slice.slicePlaces lo hi 1)) _ _ s;rw [wC lo hi n];show wpAny _ _ (pure (((sIx n 0 lo:Nat):Int),(1:Int),Builtin.Slice.slicePlaces ((sIx n 0 lo:Nat):Int) ((sIx n n hi:Nat):Int) 1)) _ _ s;rw [wD];exact wpAny_pure h
theorem wE(xs:Array Value)(i k:Nat):((R4 k).filterMap fun (m:Nat)=>xs[((i:Int)+(m:Int)*1).toNat]?).toArray=((xs.toList.drop i).take k).toArray:=by
 have e:(fun (m:Nat)=>xs[((i:Int)+(m:Int)*1).toNat]?)=fun m=>xs[i+m]?:=by
  funext m
  have:((i:Int)+(m:Int)*1).toNat=i+m:=by lia
  rw [this]
 rw [e]
 have:=pick_run xs i k
 rw [List.filterMap_map] at this;have e2:((fun x=>xs[x]?)∘fun x=>i+x)=fun m=>xs[i+m]?:=rfl
 rw [e2] at this;rw [this]
theorem getItem_tuple_cut{lo hi:Option Int}{Q:Value->Shared->Prop}(ht:IsTup s.heap t items)(hs:s.heap.IsSliceOf sl vl vu .none)(pl:IsPart vl lo)(pu:IsPart vu hi)(hw:¬ (sIx items.size 0 lo=0/\sIx items.size items.size hi=items.size))(h:Q (.ref s.heap.objs.size) { s with heap:=s.heap.push { cls:=.type "tuple",data:=.seq ((items.toList.drop (sIx items.size 0 lo)).take (sIx items.size items.size hi-sIx items.size 0 lo)).toArray } })(hsz:items.size<=sizeLine):wpAny (model prog w) A (getItem (.ref t) (.ref sl)) Q E s:=by
 have O7:sizeOk (.seq ((items.toList.drop (sIx items.size 0 lo)).take (sIx items.size items.size hi-sIx items.size 0 lo)).toArray):=by
  show ((items.toList.drop (sIx items.size 0 lo)).take (sIx items.size items.size hi-sIx items.size 0 lo)).toArray.size<=sizeLine;rw [E7,U3,d8,Array.length_toList];lia
 have hj:sIx items.size items.size hi<=items.size:=sIx_le _ _ (B5 _) hi;obtain ⟨os,j7,dS,aN⟩:=id hs;have hTs:s.TypeIs (.ref sl) "slice":=⟨os,j7,dS⟩
 unfold getItem
 try with_reducible refine wpAny_holding ?_
 first | refine wpAny_bind (wpAny_pure ?_) | skip
 refine wpAny_bind (wpAny_sequenceKey ht.typeIs (by decide) ?_);refine wpAny_bind (wpAny_callSpecial?_slot (name:=Str.ofString "__getitem__") ht.typeIs PyProof.Rows.slot_tuple_getitem
  (wpAny_call_entry PyProof.Rows.slot_tuple_getitem ht.typeIs entry_tuple_getitem ?_ (args_tuple_getitem _ _)))
 show wpAny _ _ (Builtin.Tuple.tupleItemsOf (.ref t) >>= _) _ _ s;refine wpAny_bind (tupleItemsOf_ ht ?_);refine wpAny_bind (wpAny_typeOf hTs ?_);rw [if_pos (by decide)];refine wpAny_bind (sliceApplied_gen hs pl pu ?_);have hno:¬ ((((sIx items.size 0 lo:Nat):Int)==0&&(1:Int)==1&&(sIx items.size items.size hi-sIx items.size 0 lo)==items.size)=true):=by
  intro q;rw [J7,J7] at q;have q1:((sIx items.size 0 lo:Nat):Int)=0:=eq_of_beq q.1.1;have q2:sIx items.size items.size hi-sIx items.size 0 lo=items.size:=eq_of_beq q.2;exact hw ⟨by lia,by lia⟩
 show wpAny _ _ (if (((sIx items.size 0 lo:Nat):Int)==0&&(1:Int)==1&&(sIx items.size items.size hi-sIx items.size 0 lo)==items.size)=true then _ else _) _ _ s;rw [if_neg hno,wE]
 first
  | exact wpAny_bind (m:=Builtin.Tuple.tupleExact _) (wpAny_newObj_type (wpAny_pure ⟨_,rfl,wpAny_pure h⟩) O7)
  | exact wpAny_bind (m:=Builtin.Tuple.tupleExact _) (wpAny_newObj_type (wpAny_bind (wpAny_pure (wpAny_pure ⟨_,rfl,wpAny_pure h⟩))) O7)
  | exact wpAny_bind (wpAny_bind (m:=Builtin.Tuple.tupleExact _) (wpAny_newObj_type (wpAny_pure (wpAny_pure ⟨_,rfl,wpAny_pure h⟩)) O7))
  | exact wpAny_bind (wpAny_bind (m:=Builtin.Tuple.tupleExact _) (wpAny_newObj_type (wpAny_pure ⟨_,rfl,wpAny_pure h⟩) O7))
end
end HT
namespace L2
open PySem PySem.Spec PyProof.Rows
noncomputable abbrev TO:=St->Hp->(Option Int->Hp->Prop)->Prop
noncomputable def PO (X:Cx) (e:Option Expr) (t:TO):Prop:=
 ∀ (pins:List (Addr×Obj)) (s:Shared) (Y:St) (H:Hp) (Q:Option Int->Hp->Prop),Inv X pins Y H s->t Y H Q->
  wpAny (model X.prog X.w) X.A (evalPart e X.env) (fun u s'=>∃ o H',Inv X pins Y H' s'/\IsPart u o/\Q o H') X.xe s
noncomputable def eP:TO:=fun _ H Q=>Q none H
noncomputable def tPart (t:TE):TO:=fun Y H Q=>t Y H fun x H1=>∃ i,x=.int i/\Q (some i) H1
section
variable {X:Cx} {e:Expr} {te:TE} {lo hi:Option Expr} {tl th:TO} {pos p2:Pos}
theorem wF:PO X none eP:=by
 intro pins s Y H Q I h;rw [evalPart_none];exact wpAny_pure ⟨none,H,I,.none,h⟩
theorem wG(h:PE X e te):PO X (some e) (tPart te):=by
 intro pins s Y H Q I hw;rw [evalPart_some];refine A4 (h pins s Y H _ I hw) fun u s1 ⟨x,H1,I1,r1,q1⟩=>?_
 obtain ⟨i,rfl,q⟩:=q1;obtain ⟨t,rfl⟩:=r1;exact ⟨some i,H1,I1,.int i t,q⟩
noncomputable def p8 (X:Cx) (r:V->Option Int->Option Int->Hp->VK->Prop):Prop:=
 ∀ (pins:List (Addr×Obj)) (s:Shared) (Y:St) (H:Hp) (x:V) (v vl vu:Value) (lo hi:Option Int) (sl:Addr) (Q:VK),Inv X pins Y H s->RelV x v->s.heap.IsSliceOf sl vl vu .none->IsPart vl lo->IsPart vu hi->r x lo hi H Q->
  ∃ T id,typeLookup (.type T) "__getitem__"=pure (some (.builtin id))/\s.TypeIs v T/\wpAny (model X.prog X.w) X.A (getItem v (.ref sl)) (EP X pins Y Q) X.xe s
noncomputable def eQ (r:V->Option Int->Option Int->Hp->VK->Prop) (te:TE) (tl th:TO):TE:=fun Y H Q=>te Y H fun x H1=>tl Y H1 fun l H2=>th Y H2 fun u H3=>r x l u H3 Q
theorem wH{r:V->Option Int->Option Int->Hp->VK->Prop}(hr:p8 X r)(he:PE X e te)(hl:PO X lo tl)(hu:PO X hi th):PE X (.Subscript e (.Slice lo hi none p2) pos) (eQ r te tl th):=by
 intro pins s Y H Q I h;refine Subscript_ (A4 (he pins s Y H _ I h) fun v s1 ⟨x,H1,I1,r1,q1⟩=>?_);refine wpAny_Slice (A4 (hl pins s1 Y H1 _ I1 q1) fun vl s2 ⟨l,H2,I2,pl,q2⟩=>A4 (hu pins s2 Y H2 _ I2 q2) fun vu s3 ⟨u,H3,I3,pu,q3⟩=>?_);rw [evalPart_none];refine wpAny_pure ?_;have I4:Inv X pins Y H3 { s3 with heap:=s3.heap.push { cls:=.type "slice",data:=.fields #[vl,vu,.none] } }:=I3.kept (t':=s3.toks) fun b ob q=>Heap.get?_push_of_some _ q
 obtain ⟨T,id,hT,ht,hg⟩:=hr pins { s3 with heap:=s3.heap.push { cls:=.type "slice",data:=.fields #[vl,vu,.none] } } Y H3 x v vl vu l u s3.heap.objs.size Q I4 r1 (Heap.IsSliceOf.new ..) pl pu q3;show wpAny (model X.prog X.w) X.A (subscriptTail e (.Slice lo hi none p2) v (.ref s3.heap.objs.size)) (EP X pins Y Q) X.xe { s3 with heap:=s3.heap.push { cls:=.type "slice",data:=.fields #[vl,vu,.none] } };exact tail_any (ops:=[.ref s3.heap.objs.size,v]) ht hT hg (by with_unfolding_all rfl)
noncomputable def cutV (xs:List V) (lo hi:Option Int):List V:=(xs.drop (HT.sIx xs.length 0 lo)).take (HT.sIx xs.length xs.length hi-HT.sIx xs.length 0 lo)
theorem lT(xs:List V)(lo hi:Option Int):(cutV xs lo hi).length<=xs.length:=by
 unfold cutV;rw [U3,d8];lia
noncomputable def rSlT (K:PySem.W.Frag):V->Option Int->Option Int->Hp->VK->Prop:=fun x lo hi H Q=>∃ a xs,x=.ref a/\D2 K H a xs/\
 ¬ (HT.sIx xs.length 0 lo=0/\HT.sIx xs.length xs.length hi=xs.length)/\∀ p,H p=none->Q (.ref p) (A0 H p (.tup (cutV xs lo hi)))
theorem wI:p8 X (rSlT X.K):=by
 intro pins s Y H x v vl vu lo hi sl Q I rx hs pl pu h;obtain ⟨a,xs,rfl,hx,hw,q⟩:=h
 cases rx
 obtain ⟨its,r,ht,hz⟩:=I.tuple hx;have A8:its.toArray.size=xs.length:=by rw [E7];exact r.length.symm
 refine ⟨"tuple",_,PyProof.Rows.slot_tuple_getitem.lookup,ht.typeIs,?_⟩;refine HT.getItem_tuple_cut ht hs pl pu (by rw [A8];exact hw) ?_ (by rw [A8];exact hz);rw [A8];refine ⟨.ref s.heap.objs.size,_,I.laid (t':=s.toks) (o:=.tup (cutV xs lo hi)) (fun b ob q=>Heap.get?_push_of_some _ q) (B5 _) ?_,rfl,q _ (I.hok.fresh (B5 _))⟩;exact ⟨C3 (lT xs lo hi) hz,_,(r.drop (HT.sIx xs.length 0 lo)).take (HT.sIx xs.length xs.length hi-HT.sIx xs.length 0 lo),IsTup.new _ _⟩
noncomputable def rCatT (K:PySem.W.Frag):R2:=fun x y H Q=>∃ a b xs ys,x=.ref a/\y=.ref b/\D2 K H a xs/\D2 K H b ys/\xs≠[]/\xs.length+ys.length<=sizeLine/\
 (ys=[]->Q (.ref a) H)/\(ys≠[]->∀ p,H p=none->Q (.ref p) (A0 H p (.tup (xs++ys))))
theorem Vals.nil_iff(r:Vals xs us):us=[]↔xs=[]:=by
 cases r with
 | nil=>simp
 | cons _ _=>simp
theorem wJ:C5 X (binaryOp .Add) (rCatT X.K):=by
 intro pins s Y H x y v u Q I rx ry h;obtain ⟨a,b,xs,ys,rfl,rfl,ha,hb,hx,hz,q1,q2⟩:=h
 cases rx
 cases ry
 obtain ⟨its,r1,p1,_⟩:=I.tuple ha;obtain ⟨its2,r2,p2,_⟩:=I.tuple hb;refine HT.cat_tup p1 p2 (fun z=>hx (r1.nil_iff.mp z)) (fun z=>⟨.ref a,H,I,rfl,q1 (r2.nil_iff.mp z)⟩) (fun z=>?_) (by rw [<- r1.length,<- r2.length];exact hz);refine ⟨.ref s.heap.objs.size,_,I.laid (t':=s.toks) (o:=.tup (xs++ys)) (fun b ob q=>Heap.get?_push_of_some _ q) (B5 _) ?_,rfl,q2 (fun w=>z (r2.nil_iff.mpr w)) _ (I.hok.fresh (B5 _))⟩;exact ⟨by rw [K3];exact hz,_,r1.append r2,IsTup.new _ _⟩
end
end L2
namespace L2
open PySem PySem.Spec PyProof.Rows
noncomputable def R9 (n:Nat) (i:Int):Option Nat:=if 0<=i then (if i<n then some i.toNat else none) else if -(n:Int)<=i then some (i+n).toNat else none
noncomputable def J8 {α:Type} (xs:List α) (i:Int):Option α:=(R9 xs.length i).bind fun j=>xs[j]?
theorem wK{i:Int}(h:R9 n i=some j):seqIndex? i n=some j/\j<n/\-(n:Int)<=i/\i<n:=by
 unfold R9 at h
 by_cases h0:0<=i
 .rw [if_pos h0] at h
  by_cases h1:i<n
  .rw [if_pos h1] at h;have e:i.toNat=j:=Option.some.inj h;exact ⟨by rw [seqIndex_of h0 h1,e],by lia,by lia,h1⟩
  .rw [if_neg h1] at h;cases h
 .rw [if_neg h0] at h
  by_cases h1:-(n:Int)<=i
  .rw [if_pos h1] at h;have e:(i+n).toNat=j:=Option.some.inj h;exact ⟨by rw [seqIndex_neg (by lia) h1,e],by lia,h1,by lia⟩
  .rw [if_neg h1] at h;cases h
theorem eR{α:Type}{xs:List α}{i:Int}{v:α}(h:J8 xs i=some v):∃ j,seqIndex? i xs.length=some j/\xs[j]?=some v/\j<xs.length/\-(xs.length:Int)<=i/\i<xs.length:=by
 unfold J8 at h;cases e:R9 xs.length i with
 | none=>rw [e] at h;cases h
 | some j=>
  rw [e] at h;obtain ⟨h1,h2,h3,h4⟩:=wK e;exact ⟨j,h1,h,h2,h3,h4⟩
theorem N5{α:Type}{xs:List α}{v:α}(h:xs[j]?=some v):J8 xs (j:Int)=some v:=by
 have hj:j<xs.length:=(W9.mp h).1;have e:R9 xs.length (j:Int)=some j:=by
  unfold R9;rw [if_pos (by lia),if_pos (by lia)];simp
 unfold J8;rw [e];exact h
noncomputable def lU (b:Expr):Prop:=∀ o i,subscripted b false o i=operate [o,i] (getItem o i)
noncomputable def X5 (X:Cx) (r:R2):Prop:=
 ∀ (value slice:Expr) (pins:List (Addr×Obj)) (s:Shared) (Y:St) (H:Hp) (x y:V) (v u:Value) (Q:VK),Inv X pins Y H s->RelV x v->RelV y u->r x y H Q->
  subscripted slice false v u=operate [v,u] (getItem v u)->wpAny (model X.prog X.w) X.A (subscriptTail value slice v u) (EP X pins Y Q) X.xe s
noncomputable def eS (X:Cx) (id:String) (r:V->List V->Hp->VK->Prop):Prop:=
 ∀ (pins:List (Addr×Obj)) (s:Shared) (Y:St) (H:Hp) (x:V) (xs:List V) (v:Value) (us:List Value) (Q:VK),Inv X pins Y H s->RelV x v->Vals xs us->r x xs H Q->
  wpAny (model X.prog X.w) X.A (call (.builtin id) (v::us)) (EP X pins Y Q) X.xe s
section
variable {X:Cx} {a b:Expr} {ta tb:TE} {pos:Pos}
theorem X5.or{r r':R2}(h:X5 X r)(h':X5 X r'):X5 X (fun x y H Q=>r x y H Q\/r' x y H Q):=by
 intro value slice pins s Y H x y v u Q I rx ry q hs
 rcases q with q | q
 .exact h value slice pins s Y H x y v u Q I rx ry q hs
 .exact h' value slice pins s Y H x y v u Q I rx ry q hs
theorem pe_ix{r:R2}(hr:X5 X r)(ha:PE X a ta)(hb:PE X b tb)(hs:lU b):PE X (.Subscript a b pos) (X4 r ta tb):=by
 intro pins s Y H Q I h;exact Subscript_ (binT ha hb I h fun v u s2 x y H2 I2 rx ry q=>hr a b pins s2 Y H2 x y v u Q I2 rx ry q (hs _ _))
noncomputable def rIxL (K:PySem.W.Frag):R2:=fun x y H Q=>∃ p xs i v,x=.ref p/\y=.int i/\C1 K H p xs/\J8 xs i=some v/\Q v H
noncomputable def rIxT (K:PySem.W.Frag):R2:=fun x y H Q=>∃ p xs i v,x=.ref p/\y=.int i/\D2 K H p xs/\J8 xs i=some v/\Q v H
noncomputable def rIxS:R2:=fun x y H Q=>∃ z i c,x=.str z/\y=.int i/\z.length<=sizeLine/\J8 z.cps.toList i=some c/\Q (.str ⟨#[c]⟩) H
theorem ix_list:X5 X (rIxL X.K):=by
 intro value slice pins s Y H x y v u Q I rx ry h hs;obtain ⟨p,xs,i,z,rfl,rfl,hq,he,q⟩:=h
 cases rx
 obtain ⟨t,rfl⟩:=ry;obtain ⟨its,r,pl,hz⟩:=I.list hq;obtain ⟨j,h1,h2,h3,h4,h5⟩:=eR he;obtain ⟨w,ew,rw'⟩:=r.get h2;have hl:=r.length;have hn:=x8;have fin:EP X pins Y Q w s:=⟨z,H,I,rw',q⟩
 by_cases h0:0<=i
 .have hj:i.toNat=j:=by
   rw [seqIndex_of h0 h5] at h1;exact Option.some.inj h1
  exact item_listR pl.isList h0 (by lia) (by rw [hj];simpa using ew) fin hs
 .have hj:(i+(its.toArray.size:Int)).toNat=j:=by
   rw [seqIndex_neg (by lia) h4] at h1;rw [E7,<- hl];exact Option.some.inj h1
  exact subscriptTail_builtinR (x:=w) pl.isList.typeIs slot_list_getitem.lookup
   (wpAny_getItem_list_neg (Q:=fun r s'=>r=w/\EP X pins Y Q r s') pl.isList (by lia) (by rw [E7] <;> lia) (by lia) (by rw [hj];simpa using ew) ⟨rfl,fin⟩) hs
theorem ix_tup:X5 X (rIxT X.K):=by
 intro value slice pins s Y H x y v u Q I rx ry h hs;obtain ⟨p,xs,i,z,rfl,rfl,hq,he,q⟩:=h
 cases rx
 obtain ⟨t,rfl⟩:=ry;obtain ⟨its,r,pl,hz⟩:=I.tuple hq;obtain ⟨j,h1,h2,h3,h4,h5⟩:=eR he;obtain ⟨w,ew,rw'⟩:=r.get h2;have hl:=r.length;have hn:=x8;have fin:EP X pins Y Q w s:=⟨z,H,I,rw',q⟩
 exact subscriptTail_builtinR (x:=w) pl.typeIs slot_tuple_getitem.lookup
  (getItem_tuple (j:=j) (Q:=fun r s'=>r=w/\EP X pins Y Q r s') pl (by lia) (by lia) (by rw [E7,<- hl];exact h1) (by simpa using ew) ⟨rfl,fin⟩) hs
theorem wL:X5 X rIxS:=by
 intro value slice pins s Y H x y v u Q I rx ry h hs;obtain ⟨z,i,c,rfl,rfl,hz,he,q⟩:=h;obtain ⟨t,rfl⟩:=rx;obtain ⟨t',rfl⟩:=ry;obtain ⟨j,h1,h2,h3,h4,h5⟩:=eR he;have hl:z.cps.toList.length=z.length:=by simp [Str.length]
 rw [hl] at h1 h4 h5;have hn:=x8;exact tail_any (typeIs_str s z t) slot_str_getitem.lookup (getItem_str (c:=c) (by
  have e1:decide (i < -(2 ^ 63:Int))=false:=decide_eq_false (by lia);have e2:decide (i≥2 ^ 63)=false:=decide_eq_false (by lia);rw [e1,e2,Bool.or_false]) (by rw [h1];simpa using h2) ⟨.str ⟨#[c]⟩,H,I.tok _,⟨_,rfl⟩,q⟩) hs
noncomputable def p9 (K:PySem.W.Frag):R2:=fun x y H Q=>rIxL K x y H Q\/rIxT K x y H Q\/rIxS x y H Q
theorem wM:X5 X (p9 X.K):=ix_list.or (ix_tup.or wL)
noncomputable def rSetL:V->V->V->Hp->(Hp->Prop)->Prop:=fun o i v H Q=>∃ p xs k j,o=.ref p/\i=.int k/\H p=some (.lst xs)/\R9 xs.length k=some j/\Q (A0 H p (.lst (xs.set j v)))
theorem wN(lo hi:Option Int)(n:Nat):(sliceBounds lo hi none n).1=((HT.sIx n 0 lo:Nat):Int)/\(sliceBounds lo hi none n).2.1=((HT.sIx n n hi:Nat):Int)/\(sliceBounds lo hi none n).2.2=1:=by
 refine ⟨?_,?_,rfl⟩
 .cases lo with
  | none=>simp [sliceBounds,HT.sIx]
  | some i=>
   simp only [sliceBounds,HT.sIx,Option.getD_none,show (1:Int) > 0 by decide,if_true]
   by_cases h:i<0
   .simp only [h,if_true] <;> lia
   .simp only [h,if_false] <;> lia
 .cases hi with
  | none=>simp [sliceBounds,HT.sIx]
  | some i=>
   simp only [sliceBounds,HT.sIx,Option.getD_none,show (1:Int) > 0 by decide,if_true]
   by_cases h:i<0
   .simp only [h,if_true] <;> lia
   .simp only [h,if_false] <;> lia
theorem wO(its:List Value)(lo hi:Option Int):slicePick its.toArray lo hi none=((its.drop (HT.sIx its.length 0 lo)).take (HT.sIx its.length its.length hi-HT.sIx its.length 0 lo)).toArray:=by
 obtain ⟨h1,h2,h3⟩:=wN lo hi its.toArray.size;unfold slicePick;rw [h1,h2,h3];simp only [sliceRange_one,pick_run,E7] <;> rfl
noncomputable def rSlL (K:PySem.W.Frag):V->Option Int->Option Int->Hp->VK->Prop:=fun x lo hi H Q=>∃ a xs,x=.ref a/\C1 K H a xs/\∀ p,H p=none->Q (.ref p) (A0 H p (.lst (cutV xs lo hi)))
theorem wP:p8 X (rSlL X.K):=by
 intro pins s Y H x v vl vu lo hi sl Q I rx hs pl pu h;obtain ⟨a,xs,rfl,hx,q⟩:=h
 cases rx
 obtain ⟨its,r,ht,hz⟩:=I.list hx;have A8:=r.length;refine ⟨"list",_,slot_list_getitem.lookup,ht.isList.typeIs,?_⟩;refine wpAny_getItem_list_slice ht.isList hs pl pu .none (by simp) ?_ (by rw [E7] <;> lia);rw [wO,<- A8];refine ⟨.ref s.heap.objs.size,_,I.laid (t':=s.toks) (o:=.lst (cutV xs lo hi)) (fun b ob q=>Heap.get?_push_of_some _ q) (B5 _) ?_,rfl,q _ (I.hok.fresh (B5 _))⟩;exact ⟨C3 (lT xs lo hi) hz,_,0,(r.drop (HT.sIx xs.length 0 lo)).take (HT.sIx xs.length xs.length hi-HT.sIx xs.length 0 lo),Heap.get?_push_size _ rfl⟩
noncomputable def flatV:V->Bool
 | .non=>true
 | .bl _=>true
 | .int _=>true
 | .str _=>true
 | _=>false
noncomputable def Z2:V->V->Bool
 | .non,.non=>true
 | .bl a,.bl b=>a==b
 | .bl a,.int b=>(if a then 1 else 0)==b
 | .int a,.bl b=>a==(if b then 1 else 0)
 | .int a,.int b=>a==b
 | .str a,.str b=>a==b
 | _,_=>false
theorem wQ{x:V}(ry:RelV y u)(rx:RelV x v)(fy:flatV y=true)(fx:flatV x=true):SeqAt.EqAt A s u v (Z2 y x):=by
 cases y with
 | non=>
  cases ry
  cases x with
  | non=>cases rx;exact SeqAt.EqAt.same _
  | bl b=>cases rx;exact SeqAt.EqAt.none_bool b
  | int b=>obtain ⟨t,rfl⟩:=rx;exact SeqAt.EqAt.none_int b t
  | str b=>obtain ⟨t,rfl⟩:=rx;exact SeqAt.EqAt.none_str b t
  | _=>exact absurd (show false=true from fx) F3
 | bl a=>
  cases ry
  cases x with
  | non=>cases rx;exact SeqAt.EqAt.bool_none a
  | bl b=>cases rx;exact SeqAt.EqAt.bool_bool a b
  | int b=>obtain ⟨t,rfl⟩:=rx;exact SeqAt.EqAt.bool_int a b t
  | str b=>obtain ⟨t,rfl⟩:=rx;exact SeqAt.EqAt.bool_str a b t
  | _=>exact absurd (show false=true from fx) F3
 | int a=>
  obtain ⟨t',rfl⟩:=ry
  cases x with
  | non=>cases rx;exact SeqAt.EqAt.int_none a t'
  | bl b=>cases rx;exact SeqAt.EqAt.int_bool a t' b
  | int b=>obtain ⟨t,rfl⟩:=rx;exact SeqAt.EqAt.int_int a t' b t
  | str b=>obtain ⟨t,rfl⟩:=rx;exact SeqAt.EqAt.int_str a t' b t
  | _=>exact absurd (show false=true from fx) F3
 | str a=>
  obtain ⟨t',rfl⟩:=ry
  cases x with
  | non=>cases rx;exact SeqAt.EqAt.str_none a t'
  | bl b=>cases rx;exact SeqAt.EqAt.str_bool a t' b
  | int b=>obtain ⟨t,rfl⟩:=rx;exact SeqAt.EqAt.str_int a t' b t
  | str b=>obtain ⟨t,rfl⟩:=rx;exact SeqAt.EqAt.str_str a t' b t
  | _=>exact absurd (show false=true from fx) F3
 | _=>exact absurd (show false=true from fy) F3
noncomputable def X6 (x:V) (u:Value):Bool:=match u with
 | .none=>Z2 .non x
 | .bool b=>Z2 (.bl b) x
 | .int i _=>Z2 (.int i) x
 | .str z _=>Z2 (.str z) x
 | _=>false
theorem lV{x:V}(r:RelV y u)(f:flatV y=true):X6 x u=Z2 y x:=by
 cases y with
 | non=>cases r;rfl
 | bl b=>cases r;rfl
 | int i=>obtain ⟨t,rfl⟩:=r;rfl
 | str z=>obtain ⟨t,rfl⟩:=r;rfl
 | _=>exact absurd (show false=true from f) F3
theorem eT{x:V} : ∀ {xs:List V} {us:List Value},Vals xs us->xs.all flatV=true->us.any (X6 x)=xs.any fun y=>Z2 y x
 | _,_,.nil,_=>rfl
 | y::xs,u::us,.cons r t,f=>by
  rw [List.all_cons,J7] at f;rw [Y9,Y9,lV r f.1,eT t f.2]
theorem eU{x:V}(rx:RelV x v)(fx:flatV x=true):∀ {xs:List V} {us:List Value},Vals xs us->xs.all flatV=true->∀ u∈us,SeqAt.EqAt A s u v (X6 x u)
 | _,_,.nil,_=>fun u hu=>by cases hu
 | y::xs,u::us,.cons r t,f=>fun u' hu=>by
  rw [List.all_cons,J7] at f
  rcases C0.mp hu with rfl | hu
  .rw [lV r f.1];exact wQ r rx f.1 fx
  .exact eU rx fx t f.2 u' hu
noncomputable def q5 (x:V) (xs:List V):Bool:=xs.any fun y=>Z2 y x
noncomputable def lW (K:PySem.W.Frag) (neg:Bool):R2:=fun x y H Q=>∃ p xs,y=.ref p/\(C1 K H p xs\/D2 K H p xs)/\flatV x=true/\xs.all flatV=true/\Q (.bl (if neg then !q5 x xs else q5 x xs)) H
theorem wR:C5 X (compareOp .In) (lW X.K false):=by
 intro pins s Y H x y v u Q I rx ry h;obtain ⟨p,xs,rfl,hq,fx,fs,q⟩:=h
 cases ry
 rcases hq with hq | hq
 .obtain ⟨its,r,pl,hz⟩:=I.list hq;refine SeqAt.in_listAt (X6 x) pl.isList (fun w hw=>eU rx fx r fs w (by simpa using hw)) ⟨.bl _,H,I,rfl,?_⟩;rw [show its.toArray.any (X6 x)=its.any (X6 x) by simp,eT r fs];exact q
 .obtain ⟨its,r,pl,hz⟩:=I.tuple hq;refine SeqAt.in_tupleAt (X6 x) pl (fun w hw=>eU rx fx r fs w (by simpa using hw)) ⟨.bl _,H,I,rfl,?_⟩;rw [show its.toArray.any (X6 x)=its.any (X6 x) by simp,eT r fs];exact q
theorem wS:CallR X (.type "list") (fun xs H Q=>∃ p ys,xs=[.ref p]/\(C1 X.K H p ys\/D2 X.K H p ys)/\∀ l,H l=none->Q (.ref l) (A0 H l (.lst ys))):=by
 intro pins s Y H xs us Q I r h;obtain ⟨p,ys,rfl,hq,q⟩:=h;obtain ⟨u,rfl,rx⟩:=vals1 r
 cases rx
 have fin:∀ (its:List Value),Vals ys its->ys.length<=sizeLine->∀ (h':Heap) (c':Nat),(∀ b o',s.heap.get? b=some o'->h'.get? b=some o')->
   h'.get? s.heap.objs.size=some { cls:=.type "list",dict:=none,data:=.seq its.toArray c',slots:=#[] }->EP X pins Y Q (.ref s.heap.objs.size) { s with heap:=h' }:=fun its r' hz h' c' kp e=>
  ⟨.ref s.heap.objs.size,_,I.laid (t':=s.toks) kp (B5 _) (show ObjOk X.prog X.w _ h' _ (.lst ys) from ⟨hz,its,c',r',e⟩),rfl,q _ (I.hok.fresh (B5 _))⟩
 rcases hq with hq | hq
 .obtain ⟨its,r',pl,hz⟩:=I.list hq;have A8:=r'.length;obtain ⟨o,ho,hc,n,hd⟩:=pl.isList;exact call_list_seq p (.inl rfl) ho hc hd (fun h' c' kp e=>fin its r' hz h' c' kp e) (by simp only [E7] <;> lia)
 .obtain ⟨its,r',pl,hz⟩:=I.tuple hq;have A8:=r'.length;obtain ⟨o,ho,hc,n,hd⟩:=pl;exact call_list_seq p (.inr rfl) ho hc hd (fun h' c' kp e=>fin its r' hz h' c' kp e) (by simp only [E7] <;> lia)
theorem wT:CallR X (.type "tuple") (fun xs H Q=>∃ p ys,xs=[.ref p]/\((C1 X.K H p ys/\∀ l,H l=none->Q (.ref l) (A0 H l (.tup ys)))\/(D2 X.K H p ys/\Q (.ref p) H))):=by
 intro pins s Y H xs us Q I r h;obtain ⟨p,ys,rfl,h⟩:=h;obtain ⟨u,rfl,rx⟩:=vals1 r
 cases rx
 rcases h with ⟨hq,q⟩ | ⟨hq,q⟩
 .obtain ⟨its,r',pl,hz⟩:=I.list hq;have A8:=r'.length;refine call_tuple_list pl.isList (fun h' kp=>?_) (by simp only [E7] <;> lia);have I1:Inv X pins Y H { s with heap:=h' }:=I.kept (t':=s.toks) kp;have I2:Inv X pins Y (A0 H h'.objs.size (.tup ys)) { s with heap:=h'.push { cls:=.type "tuple",data:=.seq its.toArray } }:=
   I1.laid (t':=s.toks) (fun b o e=>Heap.get?_push_of_some _ e) (B5 _) (show ObjOk X.prog X.w _ _ _ (.tup ys) from ⟨hz,its,r',IsTup.new _ _⟩)
  exact ⟨.ref h'.objs.size,_,I2,rfl,q _ (I1.hok.fresh (B5 _))⟩
 .obtain ⟨its,r',pl,hz⟩:=I.tuple hq;exact call_tuple_same pl ⟨.ref p,H,I,rfl,q⟩
noncomputable def Z3 (K:PySem.W.Frag) (T:String) (x:V) (H:Hp):Prop:=match x with
 | .str _=>T="str"
 | .int _=>T="int"
 | .ref p=>(T="list"/\∃ xs,C1 K H p xs)\/(T="tuple"/\∃ o,K.lookup p=some o/\o.cls=.type "tuple"/\o.dict=none)\/
   (T="dict"/\((∃ kvs,H p=some (.dK kvs))\/∃ kvs,H p=some (.dT kvs)))\/(T="set"/\∃ S n,H p=some (.set S n))
 | _=>False
theorem wU{T:String}{x:V}(I:Inv X pins Y H s)(r:RelV x v)(ty:Z3 X.K T x H) :
  s.TypeIs v T/\∀ a,v=.ref a->∃ ob,s.heap.get? a=some ob/\ob.dict=none:=by
 cases x with
 | str z=>
  obtain ⟨t,rfl⟩:=r
  cases (show T="str" from ty)
  exact ⟨typeIs_str s z t,fun _ e=>nomatch e⟩
 | int i=>
  obtain ⟨t,rfl⟩:=r
  cases (show T="int" from ty)
  exact ⟨typeIs_int s i t,fun _ e=>nomatch e⟩
 | ref p=>
  cases r
  rcases ty with ⟨rfl,xs,hq⟩ | ⟨rfl,o,hk,hc,hd⟩ | ⟨rfl,hk⟩ | ⟨rfl,S,n,hk⟩
  .obtain ⟨its,_,pl,_⟩:=I.list hq;refine ⟨pl.isList.typeIs,fun a e=>?_⟩;cases e;obtain ⟨o,n,e,c,hd,_⟩:=pl;exact ⟨o,e,hd⟩
  .refine ⟨⟨o,I.kIn p o hk,hc⟩,fun a e=>?_⟩;cases e;exact ⟨o,I.kIn _ o hk,hd⟩
  .have z:∃ o,s.heap.get? p=some o/\o.ExactDict:=by
    rcases hk with ⟨kvs,hk⟩ | ⟨kvs,hk⟩
    .obtain ⟨_,_,_,_,o,_,_,e,ex,_⟩:=I.hok p _ hk;exact ⟨o,e,ex⟩
    .obtain ⟨_,_,_,_,o,_,_,e,ex,_⟩:=I.hok p _ hk;exact ⟨o,e,ex⟩
   obtain ⟨o,e,ex⟩:=z;refine ⟨⟨o,e,ex.1⟩,fun a e2=>?_⟩;cases e2;exact ⟨o,e,ex.2.1⟩
  .obtain ⟨o,_,_,_,e,ex,_⟩:=I.hok p _ hk;refine ⟨⟨o,e,ex.1⟩,fun a e2=>?_⟩;cases e2;exact ⟨o,e,ex.2.1⟩
 | _=>exact False.elim ty
noncomputable def tBM0 (K:PySem.W.Frag) (T:String) (r:V->List V->Hp->VK->Prop) (to:TE):TE:=fun Y H Q=>to Y H fun x H1=>Z3 K T x H1/\r x [] H1 Q
noncomputable def cA (K:PySem.W.Frag) (T:String) (r:V->List V->Hp->VK->Prop) (to:TE) (t:TA):TE:=fun Y H Q=>to Y H fun x H1=>Z3 K T x H1/\t Y H1 fun xs H2=>r x xs H2 Q
variable {o e:Expr} {es:List Expr} {to:TE} {t:TA} {name:Str} {apos cpos:Pos} {T id:String} {r:V->List V->Hp->VK->Prop}
theorem pe_bm(pa:PlainAttrs T)(slot:Slot T name id)(P7:typeOf (.builtin id)=pure (.type "method_descriptor"))(hm:eS X id r)(ho:PE X o to)(ha:PA X (e::es) t)(E4:attributeBase o name X.env (eval o X.env)=eval o X.env:=by rfl)(jB:((backTo cpos (starEach (e::es) X.env)).all (fun x=>!x.1)&&(backToKw cpos (keywordEach [] X.env)).all (fun x=>x.1.isSome)
   && decide ((e::es).length+([]:List Keyword).length+(if ([]:List Keyword).isEmpty then 0 else 1)<30))=true:=by rfl)(M6:(apos.endLine==cpos.line)=true:=by rfl)(hs:starEach (e::es) X.env=(false,eval e X.env)::starEach es X.env:=by rfl)(hplain:(backTo cpos (starEach es X.env)).any (·.1)=false:=by rfl) :
  PE X (.Call (.Attribute o name apos) (e::es) [] cpos) (cA X.K T r to t):=by
 intro pins s Y H Q I h;refine wpAny_Call_method_late E4 jB M6 rfl (A4 (ho pins s Y H _ I h) fun v s1 ⟨x,H1,I1,r1,ty,q1⟩=>?_);obtain ⟨h1,h2⟩:=wU I1 r1 ty;refine ⟨T,id,pa,slot,P7,h1,h2,?_⟩;have hA:=ha cpos pins s1 Y H1 _ I1 q1;rw [hs] at hA ⊢
 refine Calls.callWith_builtin (by show (false || (backTo cpos (starEach es X.env)).any (·.1))=false;rw [hplain] <;> rfl) (Calls.evalArgs_plain ?_);exact A4 hA fun us s2 ⟨vs,H2,I2,r2,q2⟩=>hm pins s2 Y H2 x vs v us Q I2 r1 r2 q2
end
end L2
namespace L2
open PySem PySem.Spec PyProof.Rows
noncomputable def wV (X:Cx) (id:String) (r:V->List V->Hp->VK->Prop):Prop:=
 ∀ (pins:List (Addr×Obj)) (s:Shared) (Y:St) (H:Hp) (x:V) (xs:List V) (v:Value) (us:List Value) (Q:VK),Inv X pins Y H s->RelV x v->Vals xs us->r x xs H Q->
  wpAny (model X.prog X.w) X.A (call (.builtin id) (v::us)) (EP X pins Y Q) X.xe s
theorem Vals.one:∀ {x:V} {us:List Value},Vals [x] us->∃ u,us=[u]/\RelV x u
 | _,_,.cons r .nil=>⟨_,rfl,r⟩
theorem Vals.rep(h:Vals xs us):∀ k:Nat,Vals (K7 k xs).flatten (K7 k us).flatten
 | 0=>.nil
 | k+1=>by
  rw [n6,n6,List.flatten_cons,List.flatten_cons];exact Vals.append h (Vals.rep h k)
theorem lX(its:List Value):∀ (k:Nat) (acc:List Value),
  List.foldl (fun x1 x2=>x1++x2) acc.toArray (K7 k its.toArray)=(acc++(K7 k its).flatten).toArray
 | 0,acc=>by simp
 | k+1,acc=>by
  have e:acc.toArray++its.toArray=(acc++its).toArray:=by simp
  have e2:(acc++its)++(K7 k its).flatten=acc++(K7 (k+1) its).flatten:=by
   rw [n6,List.flatten_cons,List.append_assoc]
  rw [<- e2,<- lX its k (acc++its),<- e,n6,List.foldl_cons]
section
variable {X:Cx} {pins:List (Addr×Obj)} {Y:St} {H:Hp} {s:Shared} {l b:Addr} {xs ys zs:List V}
theorem Inv.lset{its':List Value}{f:Array Value->Array Value}(I:Inv X pins Y H s)(hH:H l=some (.lst xs))(e:s.heap.get? l=some { cls:=.type "list",data:=.seq its.toArray n })(hf:f its.toArray=its'.toArray)(hv:Vals ys its')(hz:ys.length<=sizeLine) :
  Inv X pins Y (A0 H l (.lst ys)) { s with heap:=s.heap.update l (Obj.mapSeq f),toks:=t' }:=by
 have q:=PySem.IsL.update e f;rw [hf] at q;refine I.write (x:=l) (e:=l) (by rw [hH];exact trivial) (.inl rfl) (fun b' u hb hu=>(Heap.get?_update_other s.heap (Obj.mapSeq f) (Ne.symm hb)).trans hu) ⟨_,q⟩ ?_;exact ⟨hz,its',_,hv,q⟩
theorem Inv.lnew(I:Inv X pins Y H s)(hv:Vals ys its)(hz:ys.length<=sizeLine) :
  Inv X pins Y (A0 H s.heap.objs.size (.lst ys)) { s with heap:=s.heap.push { cls:=.type "list",data:=.seq its.toArray },toks:=t' }:=
 I.laid (fun _ _ q=>Heap.get?_push_of_some _ q) (B5 _) ⟨hz,its,0,hv,Heap.get?_push_size _ rfl⟩
theorem Inv.fresh(I:Inv X pins Y H s):H s.heap.objs.size=none:=I.hok.fresh (B5 _)
theorem Inv.lstM(I:Inv X pins Y H s)(hH:H l=some (.lst xs)):xs.length<=sizeLine/\∃ (its:List Value) (n:Nat),Vals xs its/\xs.length=its.length/\s.heap.get? l=some { cls:=.type "list",data:=.seq its.toArray n }:=by
 obtain ⟨z,its,n,r,e⟩:=I.hok l _ hH;exact ⟨z,its,n,r,r.length,e⟩
theorem wW(h:n<=sizeLine):Builtin.List.listTooLong n=false:=by
 unfold Builtin.List.listTooLong;exact decide_eq_false (by lia)
end
section
variable {X:Cx}
noncomputable def cB:V->List V->Hp->VK->Prop:=fun x vs H Q=>∃ l xs y,x=.ref l/\vs=[y]/\H l=some (.lst xs)/\xs.length<sizeLine/\Q .non (A0 H l (.lst (xs++[y])))
theorem lY:wV X "list.append" cB:=by
 intro pins s Y H x vs v us Q I rx rv h;obtain ⟨l,xs,y,rfl,rfl,hH,hz,q⟩:=h
 cases rx
 obtain ⟨u,rfl,ru⟩:=rv.one;obtain ⟨z,its,n,r,hl,e⟩:=I.lstM hH;refine call_meets F.slot_list_append ⟨_,e,rfl⟩ F.entry_list_append (F.args_list_append_2 _ _) (PySem.list_append l its.toArray n u (by rw [E7];lia)) ⟨e,?_⟩;refine ⟨.non,_,I.lset (its':=its++[u]) hH e (by simp) (r.append (.cons ru .nil)) ?_,rfl,q⟩;rw [K3,Y8];lia
noncomputable def rCat:R2:=fun x y H Q=>∃ l b xs zs,x=.ref l/\y=.ref b/\H l=some (.lst xs)/\H b=some (.lst zs)/\xs.length+zs.length<=sizeLine/\∀ p,H p=none->Q (.ref p) (A0 H p (.lst (xs++zs)))
theorem wX:C5 X (binaryOp .Add) rCat:=by
 intro pins s Y H x y v u Q I rx ry h;obtain ⟨l,b,xs,zs,rfl,rfl,hH,hB,hz,q⟩:=h
 cases rx
 cases ry
 obtain ⟨z,its,n,r,hl,e⟩:=I.lstM hH;obtain ⟨z2,its2,n2,r2,Y2,e2⟩:=I.lstM hB;refine PySem.P.add_list e e2 ?_ (by rw [E7,E7];lia);have ea:its.toArray++its2.toArray=(its++its2).toArray:=by simp
 rw [ea];exact ⟨.ref _,_,I.lnew (t':=s.toks) (r.append r2) (by rw [K3];lia),rfl,q _ I.fresh⟩
noncomputable def rRep:R2:=fun x y H Q=>∃ l k xs,x=.ref l/\y=.int k/\H l=some (.lst xs)/\-(2 ^ 63)<=k/\k<2 ^ 63/\xs.length*k.toNat<=sizeLine/\
 ∀ p,H p=none->Q (.ref p) (A0 H p (.lst (K7 k.toNat xs).flatten))
theorem wY{α:Type}(xs:List α)(k:Nat):(K7 k xs).flatten.length=k*xs.length:=by
 induction k with
 | zero=>simp
 | succ k ih=>rw [n6,List.flatten_cons,K3,ih,Nat.succ_mul,Nat.add_comm]
theorem wZ:C5 X (binaryOp .Mult) rRep:=by
 intro pins s Y H x y v u Q I rx ry h;obtain ⟨l,k,xs,rfl,rfl,hH,h1,h2,hz,q⟩:=h
 cases rx
 obtain ⟨t,rfl⟩:=ry;obtain ⟨z,its,n,r,hl,e⟩:=I.lstM hH;have A8:its.toArray.size*k.toNat<=sizeLine:=by rw [E7,<- hl];exact hz
 have jC:¬ its.toArray.size*k.toNat > (2 ^ 63-1) / 8:=by
  have:(sizeLine:Nat)<=(2 ^ 63-1) / 8:=by decide
  lia
 have jD:¬ (!Builtin.List.listFitsIndex k)=true:=by
  rw [fitsIndex_both h1 h2];exact F3
 have aO:¬ Builtin.List.listTooLong (its.toArray.size*k.toNat)=true:=by
  rw [wW A8];exact F3
 have jE:List.foldl (fun x1 x2=>x1++x2) #[] (K7 (if its.toArray.isEmpty=true then 0 else k.toNat) its.toArray)=(K7 k.toNat its).flatten.toArray:=by
  have f0:∀ m:Nat,List.foldl (fun x1 x2=>x1++x2) #[] (K7 m its.toArray)=(K7 m its).flatten.toArray:=fun m=>by
   have:=lX its m []
   rw [List.nil_append] at this;exact this
  rw [f0]
  cases its with
  | nil=>simp
  | cons a r'=>rw [if_neg (by simp)]
 refine wpAny_binaryOp_repeat_ref (T:="list") (U:="int") (by decide) ⟨_,e,rfl⟩ (fun s'=>typeIs_int s' k t) noFill_list_mul F.fills_int_mul F.slot_int_rmul repeat_list F.slot_int_index.lookup
  (call_meets F.slot_int_rmul (typeIs_int s k t) F.entry_int_rmul (F.args_int_rmul_2 _ _) (int___rmul___int_list k t l its.toArray n)
   ⟨e,rfl,⟨_,e,rfl⟩,call_meets F.slot_list_mul ⟨_,e,rfl⟩ F.entry_list_mul (F.args_list_mul_2 _ _) (AutoListH.list___mul___list_int_3 l its.toArray n k t jD jC aO) ⟨e,?_⟩⟩)
 rw [jE];exact ⟨.ref _,_,I.lnew (t':=s.toks) (r.rep k.toNat) (by rw [wY,Nat.mul_comm];exact hz),rfl,q _ I.fresh⟩
end
section
variable {prog:Program} {w:World} {A:Around} {E:Value->Shared->Prop} {s:Shared}
end
section
variable {X:Cx}
end
end L2
namespace Att
open PySem PySem.W PySem.Calls PyProof.Rows
theorem xA{P:Params} : ∀ (ns:List Int) (vs:List Value),WellAll P h vs (ns.map WData.int)->IntsAre vs ns:=by
 intro ns
 induction ns with
 | nil=>
  intro vs w;rw [List.map_nil] at w
  cases w
  exact .nil
 | cons n ns ih=>
  intro vs w;rw [E5] at w
  cases w with
  | cons a b=>
   cases a
   exact .cons _ _ (ih _ b)
theorem xB{l:OpenLaw}(hn:l.most=some n){P:Params}{args:List WData}{vals:List Value}(Y3:l.row.toRowW.claim.pre args=true)(jF:WellAll P h vals args) :
  ∃ a vs ns,vals=[Value.ref a]/\args=[WData.list (ns.map WData.int)]/\h.get? a=some { cls:=.type "list",data:=.seq vs.toArray }/\IntsAre vs ns/\ns.length<=n:=by
 have hsh:WShape.hasAll [] args [.list .int]=true:=(pre_splitW Y3).1;have hc:l.pre.holds [] { args:=args }=true:=(pre_splitW Y3).2;obtain ⟨d,r,rfl,h1,h2⟩:=hasAllW_cons hsh;obtain rfl:=hasAllW_nil h2;obtain ⟨xs,rfl,h3⟩:=hasW_list h1;obtain ⟨ns,rfl⟩:=items_int h3;have A8:ns.length<=n:=by
  unfold OpenLaw.pre at hc;have h4:(WTm.not (.lt (.lit (.int (n:Int))) (.len (.arg 0)))).holds [] { args:=[.list (ns.map .int)] }=true:=by
   have h4:=(holds_andW hc).1;rw [hn] at h4;exact h4
  have h5:=condW_of h4 (w_not (w_lt w_lit (w_len_list (w_arg rfl))));rw [B9] at h5;refine Nat.le_of_not_lt fun q=>?_
  have q':(n:Int)<((ns.length:Nat):Int):=by lia
  first
   | (rw [decide_eq_true q'] at h5;exact absurd h5 (by decide))
   | (simp at h5;lia)
 cases jF with
 | cons w1 w2=>
  cases w2
  cases w1 with
  | list ho j8=>exact ⟨_,_,ns,rfl,rfl,ho,xA ns _ j8,A8⟩
theorem xC(l:OpenLaw)(args:List WData):l.row.toRowW.claim.post args (.bool true) args=true:=
 postW_of (r:=l.row.toRowW) (X:=(true==true))
  (show WShape.has [] (.bool true) .bool=true by first | rfl | decide | simp [WShape.has,WShape.arms,WShape.armsAll])
  (show (WTm.eq .res (.lit (.bool true))).value [] { args:=args,res:=some (.bool true),after:=args }=some (.bool (true==true)) from w_eq_bool (w_res rfl) w_lit) rfl
theorem attach_call{l:OpenLaw}{XP:(Str->Option Value)->Heap->Prop}{YP:World->Heap->Prop}{d:DefRec}(hn:l.most=some n)(aP:d.params.defaults=[])(call:∀ (w:World) (s₀ zv:Shared) (mg mb:Str->Option Value) (fa:Addr) (o:Obj) (pm cd doc:Value) (a:Addr) (vs:List Value) (ns:List Int),
   Ground q loose [] XP w s₀ mg mb zv.heap->YP w zv.heap->
   zv.heap.get? fa=some o->o.data=.func (docDef d.name d.params d.body d.scope pm cd doc)->zv.heap.CodeRec cd d.name->mg d.name=some (.ref fa)->
   zv.heap.get? a=some { cls:=.type "list",data:=.seq vs.toArray }->IntsAre vs ns->ns.length<=n->zv.gens=#[]->
   codeAny (model l.prog w) callerA (.call (.ref fa) ⟨[.ref a],[]⟩) (fun r s'=>r=.ok (.ret (.bool true))/\OldK zv.heap s'.heap/\s'.os=zv.os/\AllBare s'.gens) zv) :
  WalkO q loose XP YP l.row.toRowW d [] (fun f vs=>PySem.call f vs):=by
 intro w s₀ zv mg mb G zy fa o pm cd doc dV kV ho hd G5 hD Y4 hg args vals as Y3 hlay W2 jF hlo;obtain rfl:dV=.none:=Dflts.none hD aP;obtain rfl:kV=.none:=Dflts.noKw hD;obtain ⟨a,vs,ns,rfl,rfl,j9,T9,A8⟩:=xB hn Y3 jF;refine enter_call (codeAny_mono (call w s₀ zv mg mb fa o pm cd doc a vs ns G zy ho (fd_plain hd) G5 Y4 j9 T9 A8 hg) fun r s' hq=>?_);obtain ⟨rfl,h2,h3,h4⟩:=hq;exact ⟨.inl ⟨.bool true,.bool true,[],rfl,fun _=>rfl,.bool true,xC l _,fun _=>⟨List.Pairwise.nil,fun _ hm=>(nomatch hm)⟩⟩,h2,h3,h4⟩
section
variable {prog:Program} {w:World} {A:Around} {E:Value->Shared->Prop} {s:Shared} {K:Frag}
end
end Att
namespace L2
open PySem PySem.Spec PyProof.Rows
theorem lZ:∀ {vs:List Value} {ns:List Int},IntsAre vs ns->Vals (ns.map V.int) vs
 | _,_,.nil=>.nil
 | _,_,.cons n t h=>.cons ⟨t,rfl⟩ (lZ h)
noncomputable def Only (H:Hp):Prop:=∀ b,H b=none\/∃ o xs,H b=some (.frz o (.lst xs))
theorem xD{P:Program}{mb:Str->Option Value}{CX:N4}{k:Nat}{zv:Shared}{vs:List Value}{ns:List Int}(KX:K.In zv.heap)(k6:zv.heap.Ns mainGlobals mg)(hb:zv.heap.Ns builtinsNs mb)(hbb:∀ x:Str,x≠"__name__"->mb x=bootBuiltins x)(jG:zv.heap.NoLimit)(hg:zv.gens=#[])(ha:zv.heap.get? a=some { cls:=.type "list",data:=.seq vs.toArray })(hi:IntsAre vs ns)(hl:ns.length<=sizeLine)(hr:Room k callerA)(F:∀ base:Heap,K.In base->base.Ns mainGlobals mg->FnOk P w K mg base CX k fa fd [x] sp)(aQ:∀ (s:Shared) (u:Value),BindsTo s fd ⟨[u],[]⟩ [(x,u)])(F6:∀ H:Hp,Only H->C1 K H a (ns.map V.int)->sp [.ref a] H (fun v _=>v=.bl true) fun _ _ _=>False)(hCX:∀ H e s',CX [] H zv (fun _ _ _=>False) e s'->False) :
  codeAny (model P w) callerA (.call (.ref fa) ⟨[.ref a],[]⟩) (fun r s'=>r=.ok (.ret (.bool true))/\OldK zv.heap s'.heap/\s'.os=zv.os/\AllBare s'.gens) zv:=by
 have rv:=lZ hi;have lenV:=hi.length;have core:∀ H:Hp,Only H->C1 K H a (ns.map V.int)->D1 P w H zv.heap->(∀ b,H b≠none->b=a)->(H a≠none->K.lookup a=none)->
   codeAny (model P w) callerA (.call (.ref fa) ⟨[.ref a],[]⟩) (fun r s'=>r=.ok (.ret (.bool true))/\OldK zv.heap s'.heap/\s'.os=zv.os/\AllBare s'.gens) zv:=by
  intro H hO hS hok hA hK;have base_of:∀ {b:Addr} {o:Obj},zv.heap.get? b=some o->H b=none->(hidT zv.heap H).get? b=some o:=fun e n=>tG e n
  have noA:∀ {b:Addr} {o:Obj} {es:Array DictEntry} {ep:Nat},zv.heap.get? b=some o->o.data=.dict es ep->H b=none:=fun {b o es ep} e d=>by
   cases q:H b with
   | none=>rfl
   | some u=>
    have e':b=a:=hA b (by rw [q];simp);subst e';rw [ha] at e;cases e;have d':Data.seq vs.toArray _=Data.dict es ep:=d
    cases d'
  have nsK:∀ {b:Addr} {m:Str->Option Value},zv.heap.Ns b m->(hidT zv.heap H).Ns b m:=fun {b m} ⟨o,es,ep,e,d,r⟩=>⟨o,es,ep,base_of e (noA e d),d,r⟩
  have hKb:K.In (hidT zv.heap H):=fun b o e=>base_of (KX b o e) (by
   cases q:H b with
   | none=>rfl
   | some u=>
    have e':b=a:=hA b (by rw [q];simp);subst e';rw [hK (by rw [q];simp)] at e;cases e)
  have hM:Mod K mg (hidT zv.heap H):=⟨hKb,nsK k6,⟨mb,nsK hb,hbb⟩,let ⟨mc,h1,h2⟩:=jG;⟨mc,nsK h1,h2⟩⟩
  have e0:Env0 P w K mg (hidT zv.heap H) callerA [] zv H:=⟨rfl,hM,fun b o e=>tH e,Nat.le_of_eq (tF _ _),trivial,fun b hb=>absurd (show b∈([]:List Addr) from hb) (by simp),hok,.of_eq hg⟩
  refine codeAny_mono ((F _ hKb (nsK k6)).run callerA [] zv H ⟨[.ref a],[]⟩ [.ref a] [.ref a] _ _ hr e0 (aQ zv (.ref a)) (.cons rfl .nil) (F6 H hO hS)) fun r s' h=>?_
  cases r with
  | error e=>exact (hCX H e s' h).elim
  | ok fl=>
   cases fl with
   | next=>exact False.elim h
   | brk=>exact False.elim h
   | cont=>exact False.elim h
   | ret u=>
    obtain ⟨v,H',os,bare,un,jH,r',q⟩:=h;have q':v=.bl true:=q;subst q';obtain rfl:u=Value.bool true:=r';refine ⟨rfl,OldK.of_keep fun b o e=>?_,os,bare⟩
    cases q:H b with
    | none=>exact un.keep b o e q (by intro z;exact absurd (show b∈([]:List Addr) from z) (by simp)) (by simp)
    | some u=>
     rcases hO b with z | ⟨ob,xs,z⟩
     .rw [q] at z;cases z
     .have z2:=un.frzs b ob _ z;obtain ⟨e1,_⟩:=hok b _ z;obtain ⟨e2,_⟩:=jH b _ z2;rw [e] at e1;cases e1;exact e2
 cases hk:K.lookup a with
 | some o=>
  have e:=KX a o hk;rw [ha] at e;cases e;refine core (fun _=>none) (fun _=>.inl rfl) (.inr ⟨_,vs.toArray,_,hk,rfl,rfl,rfl,by rw [E7,lenV];exact hl,by simpa using rv⟩) (fun b u z=>by have z':(none:Option HO)=some u:=z;cases z') (fun b z=>absurd rfl z) fun z=>absurd rfl z
 | none=>
  refine core (fun b=>if b=a then some (.frz { cls:=.type "list",data:=.seq vs.toArray } (.lst (ns.map V.int))) else none) (fun b=>?_) (.inl (.inr ⟨{ cls:=.type "list",data:=.seq vs.toArray },if_pos rfl⟩)) (fun b u z=>?_) (fun b z=>?_) fun _=>hk
  .by_cases hb:b=a
   .exact .inr ⟨_,_,if_pos hb⟩
   .exact .inl (if_neg hb)
  .by_cases hb:b=a
   .have z':=(if_pos hb).symm.trans z
    cases z'
    subst hb;exact ⟨ha,by rw [B9];exact hl,vs,_,rv,ha⟩
   .have z':=(if_neg hb).symm.trans z
    cases z'
  .by_cases hb:b=a
   .exact hb
   .exact absurd (if_neg hb) z
end L2
namespace L2
open PySem PySem.Spec PyProof.Rows
theorem walk_of{l:PySem.W.OpenLaw}{k:Nat}{XP:(Str->Option Value)->Heap->Prop}{YP:World->Heap->Prop}{d:DefRec}{K:Params->PySem.W.Frag}{CX:World->N4}{sp:World->Sp}(hn:l.most=some n)(dQ:n<=sizeLine)(aP:d.params.defaults=[])(hr:Room k callerA)(hY:∀ (w:World) (h:Heap),YP w h->(K w.params).In h)(F:∀ (w:World) (mg:Str->Option Value) (fa:Addr) (h:Heap),(K w.params).In h->h.Ns mainGlobals mg->mg d.name=some (.ref fa)->
   ∃ fd:FuncData,(∀ (s:Shared) (u:Value),BindsTo s fd ⟨[u],[]⟩ [(x,u)])/\
    ∀ base:Heap,(K w.params).In base->base.Ns mainGlobals mg->FnOk l.prog w (K w.params) mg base (CX w) k fa fd [x] (sp w))(F6:∀ (w:World) (H:Hp) (a:Addr) (ns:List Int),ns.length<=n->Only H->C1 (K w.params) H a (ns.map V.int)->sp w [.ref a] H (fun v _=>v=.bl true) fun _ _ _=>False)(hCX:∀ (w:World) (H:Hp) (s:Shared) (e:Value) (s':Shared),CX w [] H s (fun _ _ _=>False) e s'->False) :
  PySem.W.WalkO q loose XP YP l.row.toRowW d [] (fun f vs=>PySem.call f vs):=by
 refine Att.attach_call hn aP fun w s₀ zv mg mb fa o pm cd doc a vs ns G zy ho hd G5 Y4 j9 T9 A8 hg=>?_
 have KX:=hY w _ zy;obtain ⟨fd,hb,hF⟩:=F w mg fa _ KX G.T.g Y4;exact xD KX G.T.g G.T.b G.T.builtins G.T.nolimit hg j9 T9 (C3 A8 dQ) hr hF hb (fun H hO hS=>F6 w H a ns A8 hO hS) fun H e s'=>hCX w H zv e s'
end L2
namespace L2
open PySem PySem.Spec PyProof.Rows
noncomputable def f6 (s:Stmt) (j:Nat):Stmt:=match s with
 | .ClassDef _ _ _ body _ _ _ _ _ _ _=>body.getD j (.Pass ⟨0,0,0,0⟩)
 | _=>.Pass ⟨0,0,0,0⟩
noncomputable def M4 (s:Stmt):Arguments:=match s with
 | .FunctionDef _ a _ _ _ _ _ _ _ _=>a
 | _=>{ posonlyargs:=[],args:=[],vararg:=none,kwonlyargs:=[],kw_defaults:=[],kwarg:=none,defaults:=[] }
noncomputable def J9 (s:Stmt):List Stmt:=match s with
 | .FunctionDef _ _ b _ _ _ _ _ _ _=>b
 | _=>[]
noncomputable def B4 (s:Stmt):Scope:=match s with
 | .FunctionDef _ _ _ _ _ _ sc _ _ _=>sc
 | _=>{ kind:=.function,names:=[],isGenerator:=false,isCoroutine:=false }
noncomputable abbrev C8:N4:=fun _ _ _ _ _ _=>False
noncomputable abbrev E0:XK:=fun _ _ _=>False
theorem pass0 : R8 C8 X E0:=fun _ _ _ _ _ _ _ h=>h.elim
structure Fun(K:PySem.W.Frag)(x qual:Str)(st:Stmt)(f:Addr)(fd:FuncData):Prop where
 ex:∃ (oc:Value) (od:Option Addr) (kV doc pm:Value) (an:Option Addr) (cdv ct:Value) (osl:Array (Option Value)),
  fd=J5 x qual (M4 st) (J9 st) (B4 st) .none kV doc pm an cdv ct/\K.lookup f=some ⟨oc,od,.func fd,osl⟩/\M8 K cdv qual=true
 kp:G9 K (.ref f)=true
section
variable {P:Program} {w:World} {K:PySem.W.Frag} {mg:Str->Option Value} {base:Heap}
end
theorem hu_of{k:Nat}(hr:Room k A):A.units+1<cLine:=Nat.lt_of_le_of_lt (Nat.add_le_add_left (by decide:1<=64) _) hr.units
section
variable {X:Cx}
end
theorem iteF{A B:Prop}(h:B):if false=true then A else B:=by
 rw [if_neg F3];exact h
theorem iteT{A B:Prop}(h:A):if true=true then A else B:=by
 rw [if_pos rfl];exact h
noncomputable def Same (H H':Hp):Prop:=∀ b o,H b=some o->H' b=some o
theorem G0(H:Hp):Same H H:=fun _ _ h=>h
theorem Same.trans{H2:Hp}(a:Same H H1)(b:Same H1 H2):Same H H2:=fun c o h=>b c o (a c o h)
theorem Same.free(e:Same H H'){l:Addr}(h:H' l=Option.none):H l=Option.none:=by
 cases q:H l with
 | none=>rfl
 | some o=>
  rw [e l o q] at h;cases h
theorem Same.seq(e:Same H H')(h:C1 K H a xs):C1 K H' a xs:=by
 rcases h with (h | ⟨o,h⟩) | h
 .exact .inl (.inl (e _ _ h))
 .exact .inl (.inr ⟨o,e _ _ h⟩)
 .exact .inr h
end L2
set_option maxRecDepth 100000
namespace L2
open PySem PySem.Spec PyProof.Rows
section
variable {κ:Type} [DecidableEq κ]
noncomputable def valV (kvs:List (κ×V)) (k:κ):Option V:=(kvs.find? fun kv=>decide (kv.1=k)).map (·.2)
noncomputable def putK (kvs:List (κ×V)) (k:κ) (v:V):List (κ×V):=
 if (kvs.any fun kv=>decide (kv.1=k))=true then kvs.map (fun kv=>if kv.1=k then (kv.1,v) else kv) else kvs++[(k,v)]
theorem cC{p:κ×V}{r:List (κ×V)}{k:κ}(e:p.1=k):valV (p::r) k=some p.2:=by simp [valV,n8,e]
theorem cD{p:κ×V}{r:List (κ×V)}{k:κ}(e:¬ p.1=k):valV (p::r) k=valV r k:=by simp [valV,n8,e]
theorem mB(k:κ):∀ kvs:List (κ×V),(kvs.any fun kv=>decide (kv.1=k))=(valV kvs k).isSome
 | []=>rfl
 | p::r=>by
  rw [Y9]
  by_cases e:p.1=k
  .simp only [cC e,decide_eq_true e,Bool.true_or,Option.isSome_some]
  .rw [cD e,decide_eq_false e,Bool.false_or];exact mB k r
theorem mC(kvs:List (κ×V))(k:κ)(v:V):(putK kvs k v).length<=kvs.length+1:=by
 unfold putK
 split
 .rw [B9];lia
 .rw [K3,E8,U4];lia
theorem RelO.isSome_eq{o:Option V}{u:Option Value}(r:RelO o u):o.isSome=u.isSome:=by
 cases o with
 | none=>cases u with
  | none=>rfl
  | some _=>exact (show False from r).elim
 | some _=>cases u with
  | none=>exact (show False from r).elim
  | some _=>rfl
theorem KV.val{kvs:List (κ×V)}{vs:List (κ×Value)}(r:KV kvs vs)(k:κ):RelO (valV kvs k) (valueAt vs k):=by
 unfold KV at r
 induction r with
 | nil=>exact True.intro
 | @cons p q ps qs h t ih=>
  obtain ⟨h1,h2⟩:=h
  by_cases e:p.1=k
  .have e':q.1=k:=h1.symm.trans e;have b:valueAt (q::qs) k=some q.2:=by simp [valueAt,n8,e']
   rw [cC e,b];exact h2
  .have e':¬ q.1=k:=fun z=>e (h1.trans z)
   have b:valueAt (q::qs) k=valueAt qs k:=by simp [valueAt,n8,e']
   rw [cD e,b];exact ih
theorem KV.any{kvs:List (κ×V)}{vs:List (κ×Value)}(r:KV kvs vs)(k:κ):(kvs.any fun kv=>decide (kv.1=k))=vs.any fun kv=>decide (kv.1=k):=by
 unfold KV at r
 induction r with
 | nil=>rfl
 | cons h t ih=>rw [Y9,Y9,ih,h.1]
theorem KV.repl{kvs:List (κ×V)}{vs:List (κ×Value)}(r:KV kvs vs)(k:κ)(ry:RelV y u) :
  KV (kvs.map fun kv=>if kv.1=k then (kv.1,y) else kv) (vs.map fun kv=>if kv.1=k then (kv.1,u) else kv):=by
 unfold KV at r ⊢
 induction r with
 | nil=>exact .nil
 | @cons p q ps qs h t ih=>
  rw [E5,E5];refine .cons ?_ ih;obtain ⟨h1,h2⟩:=h
  by_cases e:p.1=k
  .rw [if_pos e,if_pos (h1.symm.trans e)];exact ⟨h1,ry⟩
  .rw [if_neg e,if_neg (fun z=>e (h1.trans z))];exact ⟨h1,h2⟩
theorem KV.put{kvs:List (κ×V)}{vs:List (κ×Value)}(r:KV kvs vs)(k:κ)(ry:RelV y u):KV (putK kvs k y) (stored vs k u):=by
 unfold putK stored;rw [r.any k]
 by_cases e:(vs.any fun kv=>decide (kv.1=k))=true
 .rw [if_pos e,if_pos e];exact r.repl k ry
 .rw [if_neg e,if_neg e];exact Paired.snoc r ⟨rfl,ry⟩
theorem KV.keys{kvs:List (κ×V)}{vs:List (κ×Value)}(r:KV kvs vs):kvs.map (·.1)=vs.map (·.1):=by
 unfold KV at r
 induction r with
 | nil=>rfl
 | cons h t ih=>rw [E5,E5,ih,h.1]
theorem KV.length{kvs:List (κ×V)}{vs:List (κ×Value)}(r:KV kvs vs):kvs.length=vs.length:=Paired.length r
end
theorem kV_is{P:Program}{k:A9}(r:RelV (kV k) u):(K8 P w).is k u=true:=by
 cases k with
 | inl i=>obtain ⟨t,e⟩:=(show ∃ t,u=Value.int i t from r);subst e;exact sY P w i t
 | inr x=>obtain ⟨t,e⟩:=(show ∃ t,u=Value.str x t from r);subst e;exact sZ P w x t
theorem mD{P:Program} : ∀ {ks:List A9} {us:List Value},Vals (ks.map kV) us->ItemsAre (K8 P w) ks us
 | [],_,r=>by rw [List.map_nil] at r;cases r;exact .nil
 | k::ks,_,r=>by
  rw [E5] at r
  cases r with
  | cons h t=>exact .cons (kV_is h) (mD t)
noncomputable abbrev KT (H:Hp):List (List A9×V)->List (List A9×Addr×Value)->Prop:=Paired fun p q=>p.1=q.1/\H q.2.1=some (.tup (p.1.map kV))/\RelV p.2 q.2.2
theorem KT.val{kvs:List (List A9×V)}{xs:List (List A9×Addr×Value)}(r:KT H kvs xs)(k:List A9):RelO (valV kvs k) ((atKey xs k).map (·.2)):=by
 induction r with
 | nil=>exact True.intro
 | @cons p q ps qs h t ih=>
  obtain ⟨h1,_,h2⟩:=h
  by_cases e:p.1=k
  .have e':q.1=k:=h1.symm.trans e;have b:atKey (q::qs) k=some q.2:=by simp [atKey,n8,e']
   rw [cC e,b];exact h2
  .have e':¬ q.1=k:=fun z=>e (h1.trans z)
   have b:atKey (q::qs) k=atKey qs k:=by simp [atKey,n8,e']
   rw [cD e,b];exact ih
theorem KT.repl{kvs:List (List A9×V)}{xs:List (List A9×Addr×Value)}(r:KT H kvs xs)(k:List A9)(ry:RelV y u) :
  KT H (kvs.map fun kv=>if kv.1=k then (kv.1,y) else kv) (xs.map (putAt k u)):=by
 induction r with
 | nil=>exact .nil
 | @cons p q ps qs h t ih=>
  rw [E5,E5];refine .cons ?_ ih;obtain ⟨h1,h2,h3⟩:=h;unfold putAt
  by_cases e:p.1=k
  .rw [if_pos e,if_pos (h1.symm.trans e)];exact ⟨h1,h2,ry⟩
  .rw [if_neg e,if_neg (fun z=>e (h1.trans z))];exact ⟨h1,h2,h3⟩
theorem KT.put{kvs:List (List A9×V)}{xs:List (List A9×Addr×Value)}(r:KT H kvs xs)(k:List A9)(hb:H b=some (.tup (k.map kV)))(ry:RelV y u) :
  KT H (putK kvs k y) (storedH xs k b u):=by
 have e:(kvs.any fun kv=>decide (kv.1=k))=(atKey xs k).isSome:=by
  rw [mB,(r.val k).isSome_eq,Option.isSome_map]
 unfold putK storedH;rw [e]
 by_cases q:(atKey xs k).isSome=true
 .rw [if_pos q,if_pos q];exact r.repl k ry
 .rw [if_neg q,if_neg q];exact Paired.snoc r ⟨rfl,hb,ry⟩
theorem KT.keeps{kvs:List (List A9×V)}{xs:List (List A9×Addr×Value)}(r:KT H kvs xs)(ht:∀ b ys,H b=some (.tup ys)->H' b=some (.tup ys)):KT H' kvs xs:=
 U8 r fun _ _ z=>⟨z.1,ht _ _ z.2.1,z.2.2⟩
section
variable {P:Program} {w:World} {H:Hp} {h:Heap} {a:Addr}
theorem rd_of{u:HO}(ok:D1 P w H h)(e:Rd H a u):ObjOk P w H h a u:=e.ok ok
theorem dk_rd(ok:D1 P w H h)(e:Rd H a (.dK kvs)):kvs.length<=sizeLine/\(a==sysModules)=false/\∃ vs,KV kvs vs/\h.DictOf (K8 P w) a vs:=
 show ObjOk P w H h a (.dK kvs) from rd_of ok e
theorem dk_of(ok:D1 P w H h)(e:H a=some (.dK kvs)):kvs.length<=sizeLine/\(a==sysModules)=false/\∃ vs,KV kvs vs/\h.DictOf (K8 P w) a vs:=dk_rd ok (.inl e)
theorem cE{ks:List A9}(ok:D1 P w H h)(e:H a=some (.tup (ks.map kV))):(tupleKind (K8 P w)).is h ks a:=by
 obtain ⟨_,its,r,o,h1,h2,n,h3⟩:=(show ObjOk P w H h a (.tup (ks.map kV)) from ok a _ e)
 exact ⟨o,its.toArray,n,h1,h2,h3,by simpa using mD r⟩
theorem dt_rd{kvs:List (List A9×V)}(ok:D1 P w H h)(e:Rd H a (.dT kvs)):kvs.length<=sizeLine/\(a==sysModules)=false/\
  ∃ xs,KT H kvs xs/\h.DictOfH (tupleKind (K8 P w)) a xs:=by
 obtain ⟨z,y,xs,r,o,es,ep,h1,h2,h3,h4,h5⟩:=(show ObjOk P w H h a (.dT kvs) from rd_of ok e)
 refine ⟨z,y,xs,r,o,es,ep,h1,h2,h3,h4,fun x hx=>?_,h5⟩;have all:∀ {l:List (List A9×V)} {m:List (List A9×Addr×Value)},KT H l m->∀ x∈m,(tupleKind (K8 P w)).is h x.1 x.2.1:=by
  intro l m q
  induction q with
  | nil=>intro x hx;exact nomatch hx
  | @cons p q ps qs hq t ih=>
   intro x hx
   rcases C0.mp hx with e | hx
   .subst e;exact cE ok (by rw [<- hq.1];exact hq.2.1)
   .exact ih x hx
 exact all r x hx
theorem dt_of{kvs:List (List A9×V)}(ok:D1 P w H h)(e:H a=some (.dT kvs)):kvs.length<=sizeLine/\(a==sysModules)=false/\
  ∃ xs,KT H kvs xs/\h.DictOfH (tupleKind (K8 P w)) a xs:=dt_rd ok (.inl e)
end
noncomputable def DGet (H:Hp) (a:Addr) (y:V) (r:Option V):Prop:=
 (∃ kvs k,Rd H a (.dK kvs)/\y=kV k/\r=valV kvs k)\/∃ kvs k b,Rd H a (.dT kvs)/\y=.ref b/\H b=some (.tup (k.map kV))/\r=valV kvs k
noncomputable def DPut (H:Hp) (a:Addr) (y v:V) (H':Hp):Prop:=
 (∃ kvs k,H a=some (.dK kvs)/\y=kV k/\kvs.length<sizeLine/\H'=A0 H a (.dK (putK kvs k v)))\/
 ∃ kvs k b,H a=some (.dT kvs)/\y=.ref b/\H b=some (.tup (k.map kV))/\kvs.length<sizeLine/\H'=A0 H a (.dT (putK kvs k v))
theorem DGet.k{k:A9}(e:H a=some (.dK kvs)):DGet H a (kV k) (valV kvs k):=.inl ⟨kvs,k,.inl e,rfl,rfl⟩
theorem mE{k:A9}{v:V}(e:H a=some (.dK kvs))(hl:kvs.length<sizeLine):DPut H a (kV k) v (A0 H a (.dK (putK kvs k v))):=.inl ⟨kvs,k,e,rfl,hl,rfl⟩
section
variable {X:Cx} {pins:List (Addr×Obj)} {Y:St} {H:Hp} {s:Shared} {a:Addr} {y v:V} {u r:Value} {o:Option V} {A:Around} {E:Value->Shared->Prop}
theorem Inv.big(I:Inv X pins Y H s):sysModules<s.heap.objs.size:=by
 have h:mainGlobals<s.heap.objs.size:=(I.mod.glob.keeps I.bk).lt;exact Nat.lt_trans (by decide) h
theorem xE{Q:Value->Shared->Prop}(hu:A.units+1<cLine)(I:Inv X pins Y H s)(g:DGet H a y (some v))(ry:RelV y u)(h:∀ w' s',Inv X pins Y H s'->RelV v w'->Q w' s') :
  wpAny (model X.prog X.w) A (getItem (.ref a) u) Q E s:=by
 rcases g with ⟨kvs,k,e,ey,l⟩ | ⟨kvs,k,b,e,ey,eb,l⟩
 .subst ey;obtain ⟨z,hd,vs,rel,dd⟩:=dk_rd I.hok e;obtain ⟨w',hw,rw'⟩:=x9 (v:=v) (o:=valueAt vs k) (by rw [l];exact rel.val k);exact wpAny_getItem_of (kV_is ry) dd.mapOf hw (h w' _ (I.tok _) rw')
 .subst ey
  cases (show u=Value.ref b from ry)
  obtain ⟨z,hd,xs,rel,dd⟩:=dt_rd I.hok e;obtain ⟨w',hw,rw'⟩:=x9 (v:=v) (o:=(atKey xs k).map (·.2)) (by rw [l];exact rel.val k);obtain ⟨p,hp,hp2⟩:=Option.map_eq_some_iff.mp hw;refine wpAny_getItem_heap (tupleKind_room_in1 hu) (cE I.hok eb) dd hp ?_;rw [hp2];exact h w' _ (I.tok _) rw'
theorem d_in{Q:Value->Shared->Prop}(hu:A.units+1<cLine)(I:Inv X pins Y H s)(g:DGet H a y o)(ry:RelV y u)(h:∀ s',Inv X pins Y H s'->Q (.bool o.isSome) s') :
  wpAny (model X.prog X.w) A (compareOp .In u (.ref a)) Q E s:=by
 rcases g with ⟨kvs,k,e,ey,l⟩ | ⟨kvs,k,b,e,ey,eb,l⟩
 .subst ey;obtain ⟨z,hd,vs,rel,dd⟩:=dk_rd I.hok e;refine wpAny_in_of (kV_is ry) hd dd.mapOf ?_;rw [<- (rel.val k).isSome_eq,<- l];exact h _ (I.tok _)
 .subst ey
  cases (show u=Value.ref b from ry)
  obtain ⟨z,hd,xs,rel,dd⟩:=dt_rd I.hok e;refine wpAny_in_heap (tupleKind_room_in1 hu) (cE I.hok eb) hd dd ?_;have q:=(rel.val k).isSome_eq;rw [Option.isSome_map] at q;rw [<- q,<- l];exact h _ (I.tok _)
theorem mF{ob:HO}(I:Inv X pins Y H s)(mu:p7 (H a))(hs:Heap.SameBut a s.heap h')(he:∃ q,h'.get? a=some q)(new:ObjOk X.prog X.w (A0 H a ob) h' a ob) :
  Inv X pins Y (A0 H a ob) { s with heap:=h',toks:=t' }:=
 I.write (x:=a) (e:=a) mu (.inl rfl) (fun b q hb z=>(hs.2 b hb).trans z) he new
theorem xF{P:Program}{vs:List (A9×Value)}(z:kvs.length<=sizeLine)(hd:(a==sysModules)=false)(rel:KV kvs vs)(dd:h'.DictOf (K8 P w) a vs) :
  ObjOk P w H' h' a (.dK kvs):=⟨z,hd,vs,rel,dd⟩
theorem xG{Q:Unit->Shared->Prop}(hu:A.units+1<cLine)(I:Inv X pins Y H s)(g:DPut H a y v H')(ry:RelV y u)(rv:RelV v r)(h:∀ s',Inv X pins Y H' s'->Q () s') :
  wpAny (model X.prog X.w) A (setItem (.ref a) u r) Q E s:=by
 rcases g with ⟨kvs,k,e,ey,l,eH⟩ | ⟨kvs,k,b,e,ey,eb,l,eH⟩
 .subst ey eH;obtain ⟨z,hd,vs,rel,dd⟩:=dk_of I.hok e;have hz:vs.length<=sizeLine:=by rw [<- rel.length];exact z
  have hl:(putK kvs k v).length<=sizeLine:=by have:=mC kvs k v;lia
  refine wpAny_setItem_pairs (hsz:=hz) (kV_is ry) dd fun h' dd' hs=>h _ ?_
  have he:∃ q,h'.get? a=some q:=let ⟨q,_,_,hq,_⟩:=dd';⟨q,hq⟩
  exact mF I (by rw [e];exact True.intro) hs he (xF hl hd (rel.put k rv) dd')
 .subst ey eH
  cases (show u=Value.ref b from ry)
  obtain ⟨z,hd,xs,rel,dd⟩:=dt_of I.hok e;have hz:xs.length<=sizeLine:=by rw [<- Paired.length rel];exact z
  have hl:(putK kvs k v).length<=sizeLine:=by have:=mC kvs k v;lia
  refine wpAny_setItem_heap (hsz:=hz) (tupleKind_room_in1 hu) (cE I.hok eb) dd fun h' dd' hs=>h _ ?_
  obtain ⟨q,es,ep,hq,h2,h3,h4,_,h5⟩:=dd';refine mF I (by rw [e];exact True.intro) hs ⟨q,hq⟩ ⟨hl,hd,_,(rel.put k eb rv).keeps fun c ys ec=>?_,q,es,ep,hq,h2,h3,h4,h5⟩;rw [A7 (ne_of ec e (fun z=>nomatch z))];exact ec
end
section
variable {X:Cx} {pins:List (Addr×Obj)} {Y:St} {H:Hp} {s:Shared} {a:Addr} {kvs:List (A9×V)} {k:A9} {u:Value} {A:Around} {E:Value->Shared->Prop}
theorem d_len{Q:Value->Shared->Prop}(I:Inv X pins Y H s)(e:Rd H a (.dK kvs))(h:∀ t s',Inv X pins Y H s'->Q (.int kvs.length t) s'):wpAny (model X.prog X.w) A (call (.builtin "len") [.ref a]) Q E s:=by
 obtain ⟨z,hd,vs,rel,dd⟩:=dk_rd I.hok e;refine call_len_dict hd dd (by rw [<- rel.length];rw [sizeLine_eq] at z;lia) ?_;rw [<- rel.length];exact h _ _ (I.tok _)
end
noncomputable def NoSl (i:Expr):Prop:=∀ ov iv,subscripted i false ov iv=operate [ov,iv] (getItem ov iv)
theorem mG{env:Env}{value slice:Expr}{pos:Pos}{T id:String}{Q:Value->Shared->Prop}(hl:typeLookup (.type T) "__getitem__"=pure (some (.builtin id)))(hs:NoSl slice)(h:wpAny (model prog w) A (eval value env) (fun o zv=>wpAny (model prog w) A (eval slice env) (fun i zu=>zu.TypeIs o T/\wpAny (model prog w) A (getItem o i) Q E zu) E zv) E s) :
  wpAny (model prog w) A (eval (.Subscript value slice pos) env) Q E s:=by
 refine Subscript_ (wpAny_mono h (fun o zv zq=>wpAny_mono zq (fun i zu zp=>?_) fun _ _ x=>x) fun _ _ x=>x);obtain ⟨hT,zp⟩:=zp;unfold subscriptTail;refine wpAny_bind ?_;rw [getitemInPython_of_ne hT.not_modules];refine wpAny_bind (wpAny_specialOf hT hl ?_);have fin:wpAny (model prog w) A (subscripted slice false o i) (fun r zt=>wpAny (model prog w) A (letTemporaryGo value o r >>= fun _=>pure r) Q E zt) E zu:=by
  rw [hs o i];exact wpAny_operating (wpAny_mono zp (fun r zt zo=>wpAny_bind (wpAny_letTemporaryGo (wpAny_pure zo))) fun _ _ x=>x)
 first
  | exact wpAny_pure (wpAny_bind fin)
  | exact wpAny_bind (wpAny_pure (wpAny_bind fin))
  | exact wpAny_bind fin
theorem xH{o:Option V}(I:Inv X pins Y H s)(g:DGet H a y o):s.TypeIs (.ref a) "dict":=by
 rcases g with ⟨kvs,k,e,_,_⟩ | ⟨kvs,k,b,e,_,_,_⟩
 .obtain ⟨_,_,vs,_,dd⟩:=dk_rd I.hok e;exact dd.typeIs
 .obtain ⟨_,_,xs,_,dd⟩:=dt_rd I.hok e;exact dd.typeIs
noncomputable def tDGet (td ty:TE):TE:=fun Y H Q=>td Y H fun x H1=>ty Y H1 fun y H2=>∃ a v,x=.ref a/\DGet H2 a y (some v)/\Q v H2
noncomputable def sDPut (td ty tv:TE):TS:=fun D Y H=>tv Y H fun v H1=>td Y H1 fun x H2=>ty Y H2 fun y H3=>∃ a H4,x=.ref a/\DPut H3 a y v H4/\D.nx Y H4
noncomputable def sDAug (td ty tv:TE) (rd:V->V->Hp->VK->Prop):TS:=fun D Y H=>td Y H fun x H1=>ty Y H1 fun y H2=>∃ a v,x=.ref a/\DGet H2 a y (some v)/\
 tv Y H2 fun y2 H3=>rd v y2 H3 fun z H4=>∃ H5,DPut H4 a y z H5/\D.nx Y H5
section
variable {X:Cx} {o i e value:Expr} {pos pos' tpos:Pos} {td ty tv:TE}
theorem xI(hu:X.A.units+1<cLine)(ho:PE X o td)(hi:PE X i ty)(hs:NoSl i):PE X (.Subscript o i pos) (tDGet td ty):=by
 intro pins s Y H Q I h;refine mG PySem.F.slot_dict_getitem.lookup hs (A4 (ho pins s Y H _ I h) fun u s1 ⟨x,H1,I1,rx,q1⟩=>A4 (hi pins s1 Y H1 _ I1 q1) fun iv s2 ⟨y,H2,I2,ry,a,v,ex,g,q2⟩=>?_);subst ex;obtain rfl:u=Value.ref a:=rx;exact ⟨xH I2 g,xE hu I2 g ry fun w' s3 I3 rw'=>⟨v,H2,I3,rw',q2⟩⟩
theorem xJ(hu:X.A.units+1<cLine)(ho:PE X o td)(hi:PE X i ty)(hv:PE X value tv)(hs:swapsWith value (some (.Subscript o i pos')) pos.line X.env=pure false) :
  PS X (.Assign [.Subscript o i pos'] value pos) (sDPut td ty tv):=by
 intro pins s Y H D I h;refine wpAny_Assign_Subscript (A4 (hv pins s Y H _ I h) fun r s1 ⟨v,H1,I1,rv,q1⟩=>A4 (ho pins s1 Y H1 _ I1 q1) fun u s2 ⟨x,H2,I2,rx,q2⟩=>A4 (hi pins s2 Y H2 _ I2 q2) fun iv s3 ⟨y,H3,I3,ry,a,H4,ex,g,q3⟩=>?_) hs;subst ex;obtain rfl:u=Value.ref a:=rx;exact xG hu I3 g ry rv fun s4 I4=>⟨Y,H4,I4,q3⟩
end
theorem xK{P:Program}(h:Heap)(hb:sysModules<h.objs.size):ObjOk P w H (h.push { cls:=.type "dict",data:=.dict #[] }) h.objs.size (.dK []):=
 ⟨O2 _,beq_eq_false_iff_ne.mpr (Ne.symm (J6 hb)),[],.nil,Heap.DictOf.new h⟩
noncomputable def eV:TE:=fun _ H Q=>∀ p,H p=none->Q (.ref p) (A0 H p (.dK []))
section
variable {X:Cx} {pos:Pos}
theorem xL:PE X (.Dict [] [] pos) eV:=fun pins s Y H Q I h=>
 wpAny_Dict_empty ⟨.ref s.heap.objs.size,_,I.laid (a:=s.heap.objs.size) (o:=.dK []) (t':=s.toks) (fun _ _ q=>Heap.get?_push_of_some _ q) (B5 _) (xK s.heap I.big),rfl,h _ (I.hok.fresh (B5 _))⟩
end
noncomputable def q9:List (TE×TE)->St->Hp->(List (V×V)->Hp->Prop)->Prop
 | [],_,H,Q=>Q [] H
 | (tk,tv)::r,Y,H,Q=>tk Y H fun x H1=>tv Y H1 fun y H2=>q9 r Y H2 fun ps H3=>Q ((x,y)::ps) H3
noncomputable def mH (kvs more:List (A9×V)):List (A9×V):=more.foldl (fun acc kv=>putK acc kv.1 kv.2) kvs
noncomputable def tDisp (trs:List (TE×TE)):TE:=fun Y H Q=>∀ p,H p=none->q9 trs Y (A0 H p (.dK [])) fun ps H2=>H2 p=some (.dK [])/\∃ kvs:List (A9×V),ps=kvs.map (fun kv=>(kV kv.1,kv.2))/\kvs.length<=15/\Q (.ref p) (A0 H2 p (.dK (mH [] kvs)))
noncomputable def s0 (H:Hp) (a:Addr):Prop:=(∃ kvs,Rd H a (.dK kvs))\/∃ kvs,Rd H a (.dT kvs)
section
variable {X:Cx} {pins:List (Addr×Obj)} {Y:St} {H:Hp} {s:Shared} {a:Addr} {y d:V} {u r:Value} {o:Option V} {A:Around} {E:Value->Shared->Prop}
end
noncomputable def xM (td ty:TE):TE:=fun Y H Q=>td Y H fun x H1=>∃ a,x=.ref a/\s0 H1 a/\ty Y H1 fun y H2=>∃ o,DGet H2 a y o/\Q (o.getD .non) H2
noncomputable def xN (td ty tx:TE):TE:=fun Y H Q=>td Y H fun x H1=>∃ a,x=.ref a/\s0 H1 a/\ty Y H1 fun y H2=>tx Y H2 fun z H3=>∃ o,DGet H3 a y o/\Q (o.getD z) H3
section
variable {X:Cx} {o e f:Expr} {apos cpos:Pos} {td ty tx:TE}
end
section
variable {X:Cx} {pins:List (Addr×Obj)} {Y:St} {H:Hp} {s:Shared} {a:Addr} {kvs:List (A9×V)} {A:Around} {E:Value->Shared->Prop}
end
section
variable {X:Cx} {pins:List (Addr×Obj)} {Y:St} {H:Hp} {s:Shared} {a:Addr} {y:V} {u:Value} {A:Around} {E:Value->Shared->Prop}
end
end L2
namespace L2
open PySem PySem.Spec PyProof.Rows
section
variable {X:Cx}
end
section
variable {κ:Type} [DecidableEq κ]
end
end L2
set_option maxRecDepth 100000
namespace L2
open PySem PySem.Spec PyProof.Rows
noncomputable def cloOf (cells:List (Str×Addr)):List (Str×NameKind)->List (Str×Addr)->List (Str×Addr)
 | [],acc=>acc
 | (n,k)::r,acc=>if k=.free then cloOf cells r ((n,(cells.lookup n).getD 0)::acc) else cloOf cells r acc
theorem eW{env:Env} : ∀ (names:List (Str×NameKind)) (acc:List (Str×Addr)),(∀ x∈names,x.2=.free->∃ c,env.cells.lookup x.1=some c)->
  (forIn names acc fun (x:Str×NameKind) (cs:List (Str×Addr))=>(if (x.2==NameKind.free)=true then do
   let c <- cellOf env x.1
   pure (ForInStep.yield ((x.1,c)::cs)) else pure (ForInStep.yield cs):Sem (ForInStep (List (Str×Addr)))))=(pure (cloOf env.cells names acc):Sem (List (Str×Addr)))
 | [],acc,_=>rfl
 | (n,k)::r,acc,h=>by
  rw [List.forIn_cons];have hr:∀ x∈r,x.2=.free->∃ c,env.cells.lookup x.1=some c:=fun x hx=>h x (J0 _ hx)
  by_cases hk:k=.free
  .subst hk;obtain ⟨c,hc⟩:=h (n,.free) M9 rfl;have e1:cellOf env n=pure c:=by unfold cellOf;rw [show env.cells.lookup n=some c from hc]
   simp only [beq_self_eq_true,if_true];rw [e1];show (forIn r ((n,c)::acc) _:Sem _)=_;rw [eW r _ hr];show _=pure (if NameKind.free=.free then cloOf env.cells r ((n,(env.cells.lookup n).getD 0)::acc) else _);rw [if_pos rfl,show env.cells.lookup n=some c from hc];rfl
  .have hb:(k==NameKind.free)=false:=by simpa using hk
   simp only [hb,Bool.false_eq_true,if_false];show (forIn r acc _:Sem _)=_;rw [eW r _ hr];show _=pure (if k=.free then _ else cloOf env.cells r acc);rw [if_neg hk]
theorem xO{scope:Scope}{env:Env}(h:∀ x∈scope.names,x.2=.free->∃ c,env.cells.lookup x.1=some c):closureFor scope env=pure (cloOf env.cells scope.names []):=by
 simp only [closureFor];have e:=eW (env:=env) scope.names [] h;rw [e];rfl
theorem cF{cells:List (Str×Addr)} : ∀ (names:List (Str×NameKind)) (acc:List (Str×Addr)),
  (cloOf cells names acc).lookup x=if (x,NameKind.free)∈names then some ((cells.lookup x).getD 0) else acc.lookup x
 | [],acc=>by simp [cloOf]
 | (n,k)::r,acc=>by
  show (if k=.free then cloOf cells r ((n,(cells.lookup n).getD 0)::acc) else cloOf cells r acc).lookup x=_
  by_cases hk:k=.free
  .subst hk;rw [if_pos rfl,cF r]
   by_cases hm:(x,NameKind.free)∈r
   .rw [if_pos hm,if_pos (J0 _ hm)]
   .rw [if_neg hm,List.lookup_cons]
    by_cases hx:x=n
    .subst hx;rw [if_pos M9]
     simp
    .have e:(x==n)=false:=by simpa using hx
     rw [e,if_neg];intro z
     rcases C0.mp z with z | z
     .exact hx (Prod.mk.inj z).1
     .exact hm z
  .rw [if_neg hk,cF r]
   by_cases hm:(x,NameKind.free)∈r
   .rw [if_pos hm,if_pos (J0 _ hm)]
   .rw [if_neg hm,if_neg];intro z
    rcases C0.mp z with z | z
    .exact hk (Prod.mk.inj z).2.symm
    .exact hm z
theorem eX{α:Type} : ∀ {l:List (Str×α)} {k:α},l.lookup x=some k->(x,k)∈l
 | [],_,h=>by simp at h
 | (n,a)::r,k,h=>by
  rw [List.lookup_cons] at h
  by_cases hx:x=n
  .subst hx;simp at h;subst h;exact M9
  .have e:(x==n)=false:=by simpa using hx
   rw [e] at h;exact J0 _ (eX h)
theorem mI{sc:Scope}{env:Env}{k:NameKind}(hc:∀ y∈sc.names,y.2≠.cell)(h:(relabel sc env).names.lookup x=some k)(hk:k=.cell\/k=.free):(x,NameKind.free)∈sc.names:=by
 have m:=eX h;unfold relabel at m;obtain ⟨⟨n,k'⟩,hm,e⟩:=U5.mp m;have L7:=hc _ hm
 by_cases hf:k'=.free
 .subst hf
  have:n=x:=by
   dsimp only at e
   split at e
   .exact (Prod.mk.inj e).1
   .exact (Prod.mk.inj e).1
  subst this;exact hm
 .have hb:(k'==NameKind.free)=false:=by simpa using hf
  simp only [hb,Bool.false_and,Bool.false_eq_true,if_false] at e;obtain ⟨e1,e2⟩:=Prod.mk.inj e;subst e1 e2
  rcases hk with z | z
  .exact absurd z L7
  .subst z;exact absurd rfl hf
structure CompOk(N:List Str)(kn:List (Str×NameKind))(sc:Scope)(N':List Str)(k:Nat)(ixs:List Nat):Prop where
 kind:sc.kind=.function
 cell:∀ x∈sc.names,x.2≠.cell
 names:∀ x∈sc.names,x.2=.local->sc.names.lookup x.1=some .local
 free:∀ x∈sc.names,x.2=.free->kn.lookup x.1=some .cell\/kn.lookup x.1=some .free
 clean:∀ x∈sc.names,x.2=.free->sc.names.lookup x.1=some .free
 len:N'.length=k+ixs.length
 at_:ixs.map (fun i=>N[i]?)=(N'.drop k).map some
 fr:∀ x∈N'.drop k,(x,NameKind.free)∈sc.names
noncomputable def G1 (X:Cx) (sc:Scope) (N':List Str) (C:Addr) (zt:Shared) (zr:Hp) (fp:List Addr) (pins:List (Addr×Obj)):Cx:=
 {prog:=X.prog,w:=X.w,K:=X.K,mg:=X.mg,base:=X.base,A:=X.A,N:=N',s₀:=zt,H₀:=zr,
  env:=compEnvC sc (cloOf X.env.cells sc.names []) C X.env,outer:=X.stack,stack:=X.stack,ex:=fp,fn:=fun _=>false,calm:=X.calm,
  pn:=X.pn++pins,xe:=fun _ _=>False }
noncomputable def compStart (k:Nat) (ixs:List Nat) (Y:St):St:=K7 k none++ixs.map fun i=>(Y[i]?).join
theorem xP{k:Nat} : (compStart k ixs Y).length=k+ixs.length:=by simp [compStart]
section
variable {X:Cx} {sc:Scope} {N':List Str} {k:Nat} {ixs:List Nat} {pins:List (Addr×Obj)} {Y:St} {H:Hp} {s:Shared} {fp:List Addr}
theorem t4(C:CompOk X.N X.env.scope.names sc N' k ixs)(I:Inv X pins Y H s){c:Addr}(e:(cloOf X.env.cells sc.names []).lookup x=some c):X.env.cells.lookup x=some c/\(x,NameKind.free)∈sc.names:=by
 rw [cF] at e
 by_cases hm:(x,NameKind.free)∈sc.names
 .rw [if_pos hm] at e;obtain ⟨c',W1⟩:=I.ok.has x (C.free _ hm rfl);rw [W1] at e;exact ⟨W1.trans e,hm⟩
 .rw [if_neg hm] at e;cases e
theorem mJ(C:CompOk X.N X.env.scope.names sc N' k ixs)(I:Inv X pins Y H s)(hm:(x,NameKind.free)∈sc.names):∃ c,(cloOf X.env.cells sc.names []).lookup x=some c/\X.env.cells.lookup x=some c:=by
 obtain ⟨c',W1⟩:=I.ok.has x (C.free _ hm rfl);refine ⟨c',?_,W1⟩;rw [cF,if_pos hm,W1];rfl
theorem xQ(C:CompOk X.N X.env.scope.names sc N' k ixs)(I:Inv X pins Y H s)(hf:∀ b∈fp,FpOk X pins H b)(ho:∀ b∈fp,∃ o,s.heap.get? b=some o):(G1 X sc N' s.heap.objs.size s H fp pins).Ok where
 mod:=I.ok.mod
 kind:=C.kind
 glob:=I.ok.glob
 blt:=I.ok.blt
 above:=B5 _
 inj:=fun x y c e1 e2=>I.ok.inj x y c (t4 C I e1).1 (t4 C I e2).1
 has:=fun x hx=>by
  have hm:(x,NameKind.free)∈sc.names:=by
   rcases hx with z | z
   .exact mI C.cell z (.inl rfl)
   .exact mI C.cell z (.inr rfl)
  obtain ⟨c,h1,_⟩:=mJ C I hm;exact ⟨c,h1⟩
 cab:=fun x c h _=>by cases h
 hd:=I.ok.hd
 frames:=I.ok.frames
 stk:=.inl rfl
 exf:=fun b hb=>by
  obtain ⟨o,e⟩:=ho b hb;exact ⟨J6 (Heap.lt_size e),fun x c e1=>(hf b hb).2.2.2.2.1 x c (t4 C I e1).1⟩
 bs:=I.bs
 bsz:=C3 I.ok.bsz I.sz
 noex:=fun b o e hb=>by
  rcases (hf b hb).2.2.2.1 with z | z
  .exact I.ok.noex b o e z
  .exact absurd (K4 (Heap.lt_size e) (C3 I.ok.bsz z)) (O1 _)
 exfs:=fun b hb hm=>by
  rcases C0.mp (I.stkSub b hm) with z | z
  .exact (hf b hb).2.1 z
  .exact (hf b hb).2.2.1 z
 funs:=I.stack
 frf:=I.stkFree
theorem xR(C:CompOk X.N X.env.scope.names sc N' k ixs)(I:Inv X pins Y H s)(hf:∀ b∈fp,FpOk X pins H b)(ho:∀ b∈fp,∃ o,s.heap.get? b=some o){m:Str->Option Value}(hn:h'.Ns s.heap.objs.size m)(hk:∀ b o,s.heap.get? b=some o->h'.get? b=some o):Inv (G1 X sc N' s.heap.objs.size s H fp pins) [] (compStart k ixs Y) H { s with heap:=h',toks:=t' } where
 ok:=xQ C I hf ho
 os:=rfl
 bare:=I.bare
 base:=Un.kept hk
 loc:=by
  refine ⟨m,hn,fun i x v e1 e2 e3=>?_⟩;unfold compStart at e2
  by_cases hi:i<k
  .rw [List.getElem?_append_left (by simpa using hi)] at e2;rw [List.getElem?_replicate_of_lt hi] at e2;cases e2
  .rw [n5 (by simpa using hi),List.length_replicate] at e2;rw [Q2] at e2;cases e4:ixs[i-k]? with
   | none=>rw [e4] at e2;cases e2
   | some j=>
    rw [e4] at e2;have e5:(Y[j]?).join=some v:=Option.some.inj e2;have e6:Y[j]?=some (some v):=by
     cases e7:Y[j]? with
     | none=>rw [e7] at e5;cases e5
     | some o=>rw [e7] at e5;exact congrArg some e5
    have e1':N'[i]?=some x:=e1;have ed:(N'.drop k)[i-k]?=some x:=by rw [List.getElem?_drop,show k+(i-k)=i by lia];exact e1'
    have n3:(x,NameKind.free)∈sc.names:=C.fr x (Q0 ed);have n2:X.N[j]?=some x:=by
     have q:=congrArg (fun l=>l[i-k]?) C.at_;simp only [Q2,e4,ed,Option.map_some] at q;exact Option.some.inj q
    obtain ⟨m0,dU,aR⟩:=I.loc;have aS:X.env.scope.names.lookup x=some .cell\/X.env.scope.names.lookup x=some .free:=C.free _ n3 rfl;obtain ⟨u,r,l⟩:=aR j x v n2 e6 (.inr aS);refine ⟨u,r,.inr ?_⟩
    rcases l with ⟨l,_⟩ | ⟨_,c,hc,K5⟩
    .have l':X.env.scope.names.lookup x=some .local:=l
     rcases aS with z | z
     .rw [l'] at z;cases z
     .rw [l'] at z;cases z
    .obtain ⟨c',h1,h2⟩:=mJ C I n3;rw [hc] at h2;cases h2;refine ⟨?_,c,h1,?_⟩
     .have e3':(relabel sc X.env).names.lookup x=some .local\/(relabel sc X.env).names.lookup x=some .cell\/(relabel sc X.env).names.lookup x=some .free:=e3
      rcases e3' with z | z
      .exfalso
       have mm:=eX z;unfold relabel at mm;obtain ⟨⟨n,k'⟩,hm,e⟩:=U5.mp mm;have hkl:k'=.local/\n=x:=by
        dsimp only at e
        split at e
        .obtain ⟨_,q⟩:=Prod.mk.inj e
         cases q
        .exact ⟨(Prod.mk.inj e).2,(Prod.mk.inj e).1⟩
       obtain ⟨z1,z2⟩:=hkl;subst z1 z2;have q1:=C.names _ hm rfl;rw [C.clean _ n3 rfl] at q1
       cases q1
      .exact z
     .exact K5.keeps hk
 cell:=fun x c e=>by
  obtain ⟨v,z⟩:=I.cell x c (t4 C I e).1;exact ⟨v,z.keeps hk⟩
 free:=I.hok.fresh (B5 _)
 freeC:=fun x c e=>I.freeC x c (t4 C I e).1
 pin:=fun p hp=>by
  have jI:p∈X.pn++pins:=by simpa [G1] using hp
  obtain ⟨e,n,ne,nf,d⟩:=I.pin p jI;refine ⟨hk _ _ e,n,J6 (Heap.lt_size e),fun hm=>?_,d⟩
  rcases C0.mp (I.stkSub _ hm) with z | z
  .exact ne z
  .exact nf z
 hok:=I.hok.kept hk
 len:=by rw [xP];exact C.len.symm
end
section
variable {prog:Program} {w:World} {A:Around} {R:Result->Shared->Prop} {s:Shared}
theorem xS{scope:Scope}{pos:Pos}{it acc:Value}{env:Env}(I:Nat->Shared->Prop)(turn:∀ n s,I n s->wpAny (model prog w) A (pyNext it) (fun r zv=>match r with
   | none=>R (.ok .next) zv
   | some v=>wpAny (model prog w) A (letOwnedTupleGo target it v) (fun _ zv=>wpAny (model prog w) A (assign target env v) (fun _ zu=>
     wpAny (model prog w) A (forIn ifs true fun c r=>if r=true then do let ok <- isTrue c env (eval c env);pure (ForInStep.yield ok) else pure (ForInStep.yield r)) (fun ok zt=>
      if ok=true then wpAny (model prog w) A (eval elt env) (fun x zn=>
       wpAny (model prog w) A (call (.builtin "list.append") [acc,x]) (fun _ zm=>∃ m,m<n/\I m zm) (notedBy (model prog w) A env fun e s'=>R (.error e) s') zn) (notedBy (model prog w) A env fun e s'=>R (.error e) s') zt
      else ∃ m,m<n/\I m zt) (notedBy (model prog w) A env fun e s'=>R (.error e) s') zu) (notedBy (model prog w) A env fun e s'=>R (.error e) s') zv) (notedBy (model prog w) A env fun e s'=>R (.error e) s') zv) (notedBy (model prog w) A env fun e s'=>R (.error e) s') s)(n:Nat)(h:I n s) :
  codeAny (model prog w) A (.compLoop (.ListComp elt [⟨target,iter,ifs,0⟩] scope pos) 0 it acc env) R s:=by
 refine codeAny_loop rfl I (fun n s hI=>?_) n h;show wpAny _ A ((compTurn (.ListComp elt [⟨target,iter,ifs,0⟩] scope pos) 0 it acc env).onRaise (fun x=>do noteFrame x env;theTreesLotGoes x)) _ _ s;refine wpAny_noted ?_;rw [compTurn_list];refine wpAny_bind (wpAny_standAt (wpAny_bind (wpAny_mono (turn n s hI) (fun r zv zq=>?_) fun _ _ h'=>h')))
 cases r with
 | none=>exact wpAny_pure zq
 | some v=>
  refine wpAny_bind (wpAny_mono zq (fun _ zv zq=>?_) fun _ _ h'=>h');refine wpAny_bind (wpAny_mono zq (fun _ zu zp=>wpAny_bind (wpAny_mono zp (fun ok zt zo=>?_) fun _ _ h'=>h')) fun _ _ h'=>h')
  cases ok with
  | false=>exact wpAny_pure ⟨rfl,zo⟩
  | true=>
   exact wpAny_bind (wpAny_bind (wpAny_mono zo (fun x zn zl=>wpAny_bind (wpAny_mono zl (fun _ zm zk=>wpAny_pure (wpAny_pure ⟨rfl,zk⟩)) fun _ _ h'=>h')) fun _ _ h'=>h'))
end
noncomputable def PIfs (X:Cx) (ifs:List Expr) (t:TT):Prop:=
 ∀ (pins:List (Addr×Obj)) (s:Shared) (Y:St) (H:Hp) (Q:Bool->Hp->Prop),Inv X pins Y H s->t Y H Q->
  wpAny (model X.prog X.w) X.A (forIn ifs true fun c r=>if r=true then do let ok <- isTrue c X.env (eval c X.env);pure (ForInStep.yield ok) else pure (ForInStep.yield r)) (TP X pins Y Q) X.xe s
noncomputable def tYes:TT:=fun _ H Q=>Q true H
theorem xT : PIfs X [] tYes:=fun _ _ _ H _ I h=>wpAny_tests_nil ⟨H,I,h⟩
noncomputable def tComp (wi:TI) (k:Nat) (ixs:List Nat) (g:TG) (c:TT) (te:TE):TE:=fun Y H Q=>wi Y H fun J H1=>∀ D,H1 D=none->
 ∃ (n:Nat) (W:Nat->List V->St->Hp->Prop),W 0 [] (compStart k ixs Y) (A0 H1 D (.lst []))/\∀ i ys σ2 H2,W i ys σ2 H2->H2 D=some (.lst ys)->
  (J.stop i H2/\Q (.ref D) H2)\/
  (i<n/\J.go i H2/\∀ x H',J.yld i H2 x H'->g x σ2 H' fun σ3 H3=>c σ3 H3 fun b H4=>
   if b=true then te σ3 H4 fun y H5=>H5 D=some (.lst ys)/\ys.length<sizeLine/\W (i+1) (ys++[y]) σ3 (A0 H5 D (.lst (ys++[y])))
   else H4 D=some (.lst ys)/\W (i+1) ys σ3 H4)
section
variable {X:Cx} {sc:Scope} {N':List Str} {k:Nat} {ixs:List Nat}
theorem xU{pos:Pos}{J:It}{c:TT}(C:CompOk X.N X.env.scope.names sc N' k ixs)(K6:X.calm=true)(hg:∀ C zt zr fp pins,PG (G1 X sc N' C zt zr fp pins) target g)(hc:∀ C zt zr fp pins,PIfs (G1 X sc N' C zt zr fp pins) ifs c)(he:∀ C zt zr fp pins,PE (G1 X sc N' C zt zr fp pins) elt te){it:Addr}{tn:Nat->Heap->Prop}(I:Inv X pins Y H s)(T:Turn X.prog X.w X.K target J fp it tn)(st:tn 0 s.heap)(hf:∀ b∈fp,FpOk X pins H b)(h:∀ D,H D=none->∃ (n:Nat) (W:Nat->List V->St->Hp->Prop),W 0 [] (compStart k ixs Y) (A0 H D (.lst []))/\∀ i ys σ2 H2,W i ys σ2 H2->H2 D=some (.lst ys)->
   (J.stop i H2/\Q (.ref D) H2)\/
   (i<n/\J.go i H2/\∀ x H',J.yld i H2 x H'->g x σ2 H' fun σ3 H3=>c σ3 H3 fun b H4=>
    if b=true then te σ3 H4 fun y H5=>H5 D=some (.lst ys)/\ys.length<sizeLine/\W (i+1) (ys++[y]) σ3 (A0 H5 D (.lst (ys++[y])))
    else H4 D=some (.lst ys)/\W (i+1) ys σ3 H4)){RR:Value->Addr->Result->Shared->Prop}(hRR:∀ D Cc (H':Hp) (s':Shared) (o:Obj) m,Inv X pins Y H' s'->Inv X (pins++[(Cc,o)]) Y H' s'->s'.heap.get? Cc=some o->s'.heap.Ns Cc m->H' Cc=none->Cc≠X.env.locals->X.s₀.heap.objs.size<=Cc->
   (∀ x c,X.env.cells.lookup x=some c->c≠Cc)->(∀ p∈X.pn++pins,p.1≠Cc)->Q (.ref D) H'->RR (.ref D) Cc (.ok .next) s') :
  wpAny (model X.prog X.w) X.A (newList []) (fun acc zt=>wpAny (model X.prog X.w) X.A (newFunctionEnv sc X.env.globals (cloOf X.env.cells sc.names []) [] X.env.qual none .none (some X.env)) (fun cenv zn=>
   codeAny (model X.prog X.w) X.A (.compStart (.ListComp elt [⟨target,iter,ifs,0⟩] sc pos) 0 (.ref it) acc { cenv with scope:=relabel sc X.env }) (RR acc cenv.locals) zn) E zt) E s:=by
 have fresh:=I.hok.fresh (B5 s.heap.objs.size);obtain ⟨n,W,w0,turn⟩:=h s.heap.objs.size fresh;have hfD:∀ b∈fp,b≠s.heap.objs.size:=fun b hb z=>by
  obtain ⟨o,e,_⟩:=T.obj _ _ st b hb;rw [z] at e;exact absurd (Heap.lt_size e) (O1 _)
 have rQ:∀ b∈fp,FpOk X pins (A0 H s.heap.objs.size (.lst [])) b:=fun b hb=>⟨by rw [A7 (hfD b hb)];exact (hf b hb).1,(hf b hb).2⟩
 have main:∀ (s3:Shared) (zq:Heap) (t1:Nat),Inv X pins Y (A0 H s.heap.objs.size (.lst [])) s3->(∀ b o,s.heap.get? b=some o->s3.heap.get? b=some o)->zq.Ns s3.heap.objs.size (fun x=>([]:List (Str×Value)).reverse.lookup x)->
   (∀ b o,s3.heap.get? b=some o->zq.get? b=some o)->
   tn 0 zq/\codeAny (model X.prog X.w) X.A (.compLoop (.ListComp elt [⟨target,iter,ifs,0⟩] sc pos) 0 (.ref it) (.ref s.heap.objs.size) (G1 X sc N' s3.heap.objs.size s3 (A0 H s.heap.objs.size (.lst [])) fp pins).env) (RR (.ref s.heap.objs.size) s3.heap.objs.size) { s3 with heap:=zq,toks:=t1 }:=by
  intro s3 zq t1 I3 k3 k6 keep3;have aM:tn 0 s3.heap:=T.keep _ _ _ st fun b hb o e=>k3 b o e
  have rR:∀ b∈fp,∃ o,s3.heap.get? b=some o:=fun b hb=>let ⟨o,e,_⟩:=T.obj _ _ aM b hb;⟨o,e⟩
  have dW:tn 0 zq:=T.keep _ _ _ aM fun b hb o e=>keep3 b o e
  have B0:Inv (G1 X sc N' s3.heap.objs.size s3 (A0 H s.heap.objs.size (.lst [])) fp pins) [] (compStart k ixs Y) (A0 H s.heap.objs.size (.lst [])) { s3 with heap:=zq,toks:=t1 }:=xR C I3 rQ rR k6 keep3;refine ⟨dW,?_⟩;have fpX:∀ {H':Hp},(∀ b∈fp,H' b=none)->∀ b∈fp,FpOk (G1 X sc N' s3.heap.objs.size s3 (A0 H s.heap.objs.size (.lst [])) fp pins) [] H' b:=fun {H'} hn b hb=>by
   obtain ⟨o,eo⟩:=rR b hb;refine ⟨hn b hb,J6 (Heap.lt_size eo),?_,.inl hb,?_,?_⟩
   .intro hm
    rcases C0.mp (I3.stkSub b hm) with z | z
    .exact (hf b hb).2.1 z
    .exact (hf b hb).2.2.1 z
   .intro x cc ec;exact (hf b hb).2.2.2.2.1 x cc (t4 C I3 ec).1
   .intro p hp;exact (hf b hb).2.2.2.2.2 p (by simpa [G1] using hp)
  refine xS (fun m s'=>∃ i ys σ' H',m=n-i/\Inv (G1 X sc N' s3.heap.objs.size s3 (A0 H s.heap.objs.size (.lst [])) fp pins) [] σ' H' s'/\tn i s'.heap/\(∀ b∈fp,H' b=none)/\H' s.heap.objs.size=some (.lst ys)/\W i ys σ' H') ?_ n ⟨0,[],_,_,rfl,B0,dW,fun b hb=>(rQ b hb).1,A3,w0⟩;rintro m s4 ⟨i,ys,σ4,H4,rfl,I4,rS,rT,hD4,w4⟩;have again:∀ {i':Nat} {ys':List V} {σ7:St} {H7:Hp} {s6 s7:Shared},i<n->i'=i+1->tn i' s6.heap->Inv (G1 X sc N' s3.heap.objs.size s3 (A0 H s.heap.objs.size (.lst [])) fp pins) ([]++x6 fp s6.heap) σ7 H7 s7->H7 s.heap.objs.size=some (.lst ys')->W i' ys' σ7 H7->
    ∃ m,m<n-i/\∃ i ys σ' H',m=n-i/\Inv (G1 X sc N' s3.heap.objs.size s3 (A0 H s.heap.objs.size (.lst [])) fp pins) [] σ' H' s7/\tn i s7.heap/\(∀ b∈fp,H' b=none)/\H' s.heap.objs.size=some (.lst ys)/\W i ys σ' H':=fun {i' ys' σ7 H7 s6 s7} D5 ei v0 I7 hD w=>by
   subst ei;refine ⟨n-(i+1),by lia,i+1,ys',σ7,H7,rfl,I7.unpinned,T.keep _ _ _ v0 fun b hb o e=>(I7.pin (b,o) (R3 _ (R3 _ (bX hb e)))).1,fun b hb=>?_,hD,w⟩;obtain ⟨o,e,_⟩:=T.obj _ _ v0 b hb;exact (I7.pin (b,o) (R3 _ (R3 _ (bX hb e)))).2.1
  rcases turn i ys σ4 H4 w4 hD4 with ⟨stop,q⟩ | ⟨D5,go,step⟩
  .refine A4 (T.done (G1 X sc N' s3.heap.objs.size s3 (A0 H s.heap.objs.size (.lst [])) fp pins) rfl rfl rfl K6 i [] s4 σ4 H4 _ I4 (fpX rT) rS stop) fun r s5 jJ=>?_
   obtain ⟨hr,I5⟩:=jJ;subst hr;have back:Inv X pins Y H4 s5:=I3.call' (ch:=fp) I5.os I5.base I5.hok I5.bare fun b hb=>⟨(hf b hb).2.2.2.1,(hf b hb).2.1,(hf b hb).2.2.2.2.1,(hf b hb).2.2.2.2.2⟩
   obtain ⟨mm,rV,_⟩:=I5.loc;obtain ⟨o,es,ep,ho,hd,b7⟩:=id rV;have hC:s3.heap.objs.size≠X.env.locals:=R5 I3.lt;refine hRR s.heap.objs.size s3.heap.objs.size H4 s5 o mm back ?_ ho rV I5.free hC I3.sz ?_ ?_ q
   .refine back.pins_of fun p hp=>?_
    rcases N3.mp hp with z | z
    .exact back.pin p (R3 _ z)
    .have e:p=(s3.heap.objs.size,o):=by simpa using z
     subst e;exact ⟨ho,I5.free,hC,I3.nofs (B5 _),fun v z=>by rw [hd] at z;cases z⟩
   .intro x c e z;obtain ⟨v,q⟩:=I3.cell x c e
    have:=q.lt
    rw [z] at this;exact O1 _ this
   .intro p hp z
    have:=Heap.lt_size (I3.pin p hp).1
    rw [z] at this;exact O1 _ this
  .refine A4 (T.item (G1 X sc N' s3.heap.objs.size s3 (A0 H s.heap.objs.size (.lst [])) fp pins) rfl rfl rfl K6 i [] s4 σ4 H4 _ I4 (fpX rT) rS go) fun r s5 jJ=>?_
   obtain ⟨u,hr,h5⟩:=jJ;subst hr;refine A4 h5 fun _ s6 h6=>?_
   obtain ⟨x,H6,I6,r6,y6,v0,fr6⟩:=h6;have I6':=I6.pinned (fpX fr6) (T.obj _ _ v0);refine wpAny_mono (hg _ _ _ _ _ _ s6 σ4 H6 x u _ I6' r6 (step x H6 y6)) (fun _ s7 h7=>?_) fun _ _ z=>False.elim z
   obtain ⟨σ7,H7,I7,q7⟩:=h7;refine wpAny_mono (hc _ _ _ _ _ _ s7 σ7 H7 _ I7 q7) (fun ok s8 h8=>?_) fun _ _ z=>False.elim z
   obtain ⟨H8,I8,q8⟩:=h8
   cases ok with
   | false=>
    rw [if_neg F3] at q8 ⊢
    exact again D5 rfl v0 I8 q8.1 q8.2
   | true=>
    rw [if_pos rfl] at q8 ⊢
    refine wpAny_mono (he _ _ _ _ _ _ s8 σ7 H8 _ I8 q8) (fun y s9 h9=>?_) fun _ _ z=>False.elim z
    obtain ⟨yv,H9,I9,r9,hD9,hz9,w9⟩:=h9;refine wpAny_mono (lY (X:=(G1 X sc N' s3.heap.objs.size s3 (A0 H s.heap.objs.size (.lst [])) fp pins)) _ s9 σ7 H9 (.ref s.heap.objs.size) [yv] (.ref s.heap.objs.size) [y] (fun _ H'=>H'=A0 H9 s.heap.objs.size (.lst (ys++[yv]))) I9 rfl (.cons r9 .nil) ⟨_,ys,yv,rfl,rfl,hD9,hz9,rfl⟩) (fun _ s10 h10=>?_) fun _ _ z=>False.elim z
    obtain ⟨_,H10,I10,_,e10⟩:=h10;subst e10;exact again D5 rfl v0 I10 A3 w9
 have I3:=I.lnew (ys:=[]) (its:=[]) (t':=s.toks) .nil (O2 _);refine wpAny_newObj_type (wpAny_newFunctionEnv C.cell (by intro y hy;simp at hy) (fun zq zj zi=>?_) C.kind);obtain ⟨dW,loop⟩:=main _ zq (s.toks+([]:List (Str×Value)).length) I3 (fun b o e=>Heap.get?_push_of_some _ e) zj fun b o e=>zi.extBut b o (J6 (Heap.lt_size e)) (Heap.get?_push_of_some _ e)
 exact codeAny_compStart_list loop (T.self X.A 0 _ _ _ dW loop)
theorem xV{pos:Pos}{wi:TI}{c:TT}(C:CompOk X.N X.env.scope.names sc N' k ixs)(K6:X.calm=true)(hi:PI X target iter wi)(hg:∀ C zt zr fp pins,PG (G1 X sc N' C zt zr fp pins) target g)(hc:∀ C zt zr fp pins,PIfs (G1 X sc N' C zt zr fp pins) ifs c)(he:∀ C zt zr fp pins,PE (G1 X sc N' C zt zr fp pins) elt te)(hs:∀ x,foldedSetIterable iter X.env x=pure x:=by intro _;rfl):PE X (.ListComp elt [⟨target,iter,ifs,0⟩] sc pos) (tComp wi k ixs g c te):=by
 intro pins s Y H Q I h;rw [eval_ListComp];refine wpAny_comprehension_free (use:=none) rfl hs (xO fun x hx hf=>I.ok.has x.1 (C.free x hx hf)) C.kind C.names (A4 (hi pins s Y H _ I h) fun v s1 h1=>A4 h1 fun itv s2 h2=>?_);obtain ⟨it,fp,tn,J,H2,e,I2,T,iX,f2,q2⟩:=h2;subst e;refine xU (RR:=fun acc C=>compPost (model X.prog X.w) X.A X.xe none (EP X pins Y Q) acc C) C K6 hg hc he I2 T iX f2 q2 ?_;intro D Cc H' s' o m I' _ ho hn hC hL v1 K5 jK q;exact ⟨m,hn,fun h'' hs''=>⟨.ref D,H',I'.turned (t':=s'.toks) (fun b o hb e=>hs''.extBut b o hb e) hC hL (.inr v1) K5 jK,rfl,q⟩⟩
end
end L2
end
set_option maxRecDepth 100000
namespace L2
open PySem PySem.Spec PyProof.Rows
section
variable {X:Cx} {a b:Expr} {ta tb:TE} {pos:Pos} {rest:List Expr}
noncomputable def tTru (K:PySem.W.Frag) (te:TE):TT:=fun Y H Q=>te Y H fun x H1=>∃ k,TruV K x H1 k/\Q k H1
theorem xW(ha:PE X a ta)(he:∀ whole,isTrue a X.env whole=(do let v <- whole;standAt a.pos;holding [v] (truthy v)):=by intro _;rfl):PT X a (tTru X.K ta):=vE ha he
noncomputable def tNotT (K:PySem.W.Frag) (te:TE):TE:=fun Y H Q=>te Y H fun x H1=>∃ k,TruV K x H1 k/\Q (.bl (!k)) H1
theorem xX(ha:PE X a ta):PE X (.UnaryOp .Not a pos) (tNotT X.K ta):=by
 intro pins s Y H Q I h;refine UnaryOp_ (A4 (ha pins s Y H _ I h) fun v s1 ⟨x,H1,I1,r1,q1⟩=>?_);exact not_of (A4 (lC pins s1 Y H1 x v (fun k H2=>Q (.bl (!k)) H2) I1 r1 q1) fun c s2 ⟨H2,I2,q2⟩=>⟨.bl (!c),H2,I2,rfl,q2⟩)
end
mutual
inductive Dn (K:PySem.W.Frag) (H:Hp):V->PyData->Prop
 | non:Dn K H .non .none
 | bl (b):Dn K H (.bl b) (.bool b)
 | int (i):Dn K H (.int i) (.int i)
 | str (x):E2 x=true->Dn K H (.str x) (.str x)
 | lst {a xs ds} : C1 K H a xs->DnAll K H xs ds->Dn K H (.ref a) (.list ds)
 | tup {a xs ds} : D2 K H a xs->DnAll K H xs ds->Dn K H (.ref a) (.tuple ds)
inductive DnAll (K:PySem.W.Frag) (H:Hp):List V->List PyData->Prop
 | nil:DnAll K H [] []
 | cons {x xs d ds} : Dn K H x d->DnAll K H xs ds->DnAll K H (x::xs) (d::ds)
end
section
variable {X:Cx} {pins:List (Addr×Obj)} {Y:St} {H:Hp} {s:Shared}
mutual
theorem Dn.reads{K:PySem.W.Frag}{x:V}{d:PyData}(I:Inv X pins Y H s)(hK:X.K=K):Dn K H x d->∀ {u:Value},RelV x u->d.canLay0=true/\∃ as,Reads s.heap u d as
 | .non,u,r=>by cases r;exact ⟨rfl,_,.none⟩
 | .bl b,u,r=>by cases r;exact ⟨rfl,_,.bool b⟩
 | .int i,u,r=>by obtain ⟨t,rfl⟩:=r;exact ⟨rfl,_,.int i t⟩
 | .str x hx,u,r=>by obtain ⟨t,rfl⟩:=r;exact ⟨hx,_,.str x t⟩
 | .lst (a:=a) q hs,u,r=>by
  cases r
  subst hK;obtain ⟨its,rv,⟨o,n,e,c,_,dd⟩,_⟩:=I.list q;obtain ⟨h1,as,h2⟩:=DnAll.reads I rfl hs rv;exact ⟨h1,_,.list e c dd (by simpa using h2)⟩
 | .tup (a:=a) q hs,u,r=>by
  cases r
  subst hK;obtain ⟨its,rv,⟨o,e,c,n,dd⟩,_⟩:=I.tuple q;obtain ⟨h1,as,h2⟩:=DnAll.reads I rfl hs rv;exact ⟨h1,_,.tuple e c dd (by simpa using h2)⟩
theorem DnAll.reads{K:PySem.W.Frag}{xs:List V}{ds:List PyData}(I:Inv X pins Y H s)(hK:X.K=K):DnAll K H xs ds->∀ {us:List Value},Vals xs us->PyData.canLayAll0 ds=true/\∃ as,ReadsAll s.heap us ds as
 | .nil,us,r=>by cases r;exact ⟨rfl,_,.nil⟩
 | .cons h t,us,r=>by
  cases r with
  | cons r1 r2=>
   obtain ⟨c1,a1,q1⟩:=Dn.reads I hK h r1;obtain ⟨c2,a2,q2⟩:=DnAll.reads I hK t r2;exact ⟨by simp [PyData.canLayAll0,c1,c2],_,.cons q1 q2⟩
end
end
mutual
theorem Dn.same{K:PySem.W.Frag}{H H':Hp}(hs:Same H H'){x:V}{d:PyData} : Dn K H x d->Dn K H' x d
 | .non=>.non
 | .bl b=>.bl b
 | .int i=>.int i
 | .str x h=>.str x h
 | .lst q h=>.lst (hs.seq q) (DnAll.same hs h)
 | .tup (a:=a) (xs:=xs) q h=>.tup (by
   rcases q with (q | ⟨o,q⟩) | q
   .exact .inl (.inl (hs _ _ q))
   .exact .inl (.inr ⟨o,hs _ _ q⟩)
   .exact .inr q) (DnAll.same hs h)
theorem DnAll.same{K:PySem.W.Frag}{H H':Hp}(hs:Same H H'){xs:List V}{ds:List PyData} : DnAll K H xs ds->DnAll K H' xs ds
 | .nil=>.nil
 | .cons h t=>.cons (Dn.same hs h) (DnAll.same hs t)
end
theorem DnAll.strs{K:PySem.W.Frag}{H:Hp} : ∀ {zs:List Str},(∀ z∈zs,E2 z=true)->DnAll K H (zs.map V.str) (zs.map X2)
 | [],_=>.nil
 | z::zs,h=>.cons (.str z (h z M9)) (DnAll.strs fun y hy=>h y (J0 _ hy))
theorem mK:∀ (xs ys:List Str),O3 (xs.map X2) (ys.map X2)=decide (xs=ys)
 | [],[]=>by simp [O3]
 | [],_::_=>by simp [O3]
 | _::_,[]=>by simp [O3]
 | x::xs,y::ys=>by
  rw [E5,E5,O3,mK xs ys];rw [show Q3 (.str x) (.str y)=(x==y) by simp [Q3]]
  by_cases h1:x=y
  .subst h1;simp
  .simp [h1]
noncomputable def rAddR (K:PySem.W.Frag) (a b:Addr) (H:Hp) (Q:VK):Prop:=rCat (.ref a) (.ref b) H Q\/rCatT K (.ref a) (.ref b) H Q
theorem rAddR.l{K:PySem.W.Frag}{a b:Addr}{H:Hp}{Q:VK}{xs ys:List V}(h1:H a=some (.lst xs))(h2:H b=some (.lst ys))(h3:xs.length+ys.length<=sizeLine)(h:∀ p,H p=none->Q (.ref p) (A0 H p (.lst (xs++ys)))):rAddR K a b H Q:=.inl ⟨a,b,xs,ys,rfl,rfl,h1,h2,h3,h⟩
theorem xY{K:PySem.W.Frag}{a b:Addr}{H:Hp}{Q:VK}{xs ys:List V}(h1:D2 K H a xs)(h2:D2 K H b ys)(h0:xs≠[])(h3:xs.length+ys.length<=sizeLine)(he:ys=[]->Q (.ref a) H)(h:ys≠[]->∀ p,H p=none->Q (.ref p) (A0 H p (.tup (xs++ys)))):rAddR K a b H Q:=.inr ⟨a,b,xs,ys,rfl,rfl,h1,h2,h0,h3,he,h⟩
noncomputable def rAddU (K:PySem.W.Frag):V->V->Hp->VK->Prop
 | .int i,.int j,H,Q=>Q (.int (i+j)) H
 | .str i,.str j,H,Q=>i.length+j.length<=sizeLine/\Q (.str (i++j)) H
 | .ref a,.ref b,H,Q=>rAddR K a b H Q
 | _,_,_,_=>False
noncomputable def rMulU:V->V->Hp->VK->Prop
 | .int i,.int j,H,Q=>CMul i j/\Q (.int (i*j)) H
 | .ref a,.int j,H,Q=>rRep (.ref a) (.int j) H Q
 | _,_,_,_=>False
noncomputable def rEqU (K:PySem.W.Frag):V->V->Hp->VK->Prop
 | .int i,.int j,H,Q=>Q (.bl (decide (i=j))) H
 | .str i,.str j,H,Q=>Q (.bl (decide (i=j))) H
 | .bl i,.bl j,H,Q=>Q (.bl (decide (i=j))) H
 | x,y,H,Q=>∃ d e,Dn K H x d/\Dn K H y e/\min d.depth e.depth<=60/\Q (.bl (Q3 d e)) H
noncomputable def rNeU (K:PySem.W.Frag):V->V->Hp->VK->Prop
 | .int i,.int j,H,Q=>Q (.bl (!decide (i=j))) H
 | .str i,.str j,H,Q=>Q (.bl (!decide (i=j))) H
 | .bl i,.bl j,H,Q=>Q (.bl (!decide (i=j))) H
 | x,y,H,Q=>∃ d e,Dn K H x d/\Dn K H y e/\min d.depth e.depth<=60/\Q (.bl (!PyData.eqv d e)) H
noncomputable def rLtU:V->V->Hp->VK->Prop
 | .int i,.int j,H,Q=>Q (.bl (decide (i<j))) H
 | .str i,.str j,H,Q=>Q (.bl (decide (i.cps.toList<j.cps.toList))) H
 | _,_,_,_=>False
noncomputable def rLeU:V->V->Hp->VK->Prop
 | .int i,.int j,H,Q=>Q (.bl (decide (i<=j))) H
 | .str i,.str j,H,Q=>Q (.bl (!decide (j.cps.toList<i.cps.toList))) H
 | _,_,_,_=>False
noncomputable def rGtU:V->V->Hp->VK->Prop
 | .int i,.int j,H,Q=>Q (.bl (decide (j<i))) H
 | .str i,.str j,H,Q=>Q (.bl (decide (j.cps.toList<i.cps.toList))) H
 | _,_,_,_=>False
noncomputable def rGeU:V->V->Hp->VK->Prop
 | .int i,.int j,H,Q=>Q (.bl (decide (j<=i))) H
 | .str i,.str j,H,Q=>Q (.bl (!decide (i.cps.toList<j.cps.toList))) H
 | _,_,_,_=>False
noncomputable def rInR (K:PySem.W.Frag) (neg:Bool) (x:V) (p:Addr) (H:Hp) (Q:VK):Prop:=lW K neg x (.ref p) H Q\/∃ o,DGet H p x o/\Q (.bl (neg.xor o.isSome)) H
theorem rInR.l{K:PySem.W.Frag}{neg:Bool}{x:V}{p:Addr}{H:Hp}{Q:VK}{xs:List V}(h1:C1 K H p xs\/D2 K H p xs)(h2:flatV x=true)(h3:xs.all flatV=true)(h:Q (.bl (neg.xor (q5 x xs))) H):rInR K neg x p H Q:=.inl ⟨p,xs,rfl,h1,h2,h3,by cases neg <;> simpa using h⟩
theorem rInR.d{K:PySem.W.Frag}{neg:Bool}{x:V}{p:Addr}{H:Hp}{Q:VK}{o:Option V}(h1:DGet H p x o)(h:Q (.bl (neg.xor o.isSome)) H):rInR K neg x p H Q:=.inr ⟨o,h1,h⟩
noncomputable def rInU (K:PySem.W.Frag) (neg:Bool) (x:V):V->Hp->VK->Prop
 | .str j,H,Q=>∃ i,x=.str i/\Q (.bl (neg.xor (!(Builtin.Str.occurrences j i 0 j.length 1).isEmpty))) H
 | .ref p,H,Q=>rInR K neg x p H Q
 | _,_,_=>False
section
variable {X:Cx} {pins:List (Addr×Obj)} {Y:St} {H:Hp} {s:Shared}
theorem p_add:C5 X (binaryOp .Add) (rAddU X.K):=by
 intro pins s Y H x y v u Q I rx ry h
 cases x <;> cases y <;> try exact h.elim
 .exact uS pins s Y H _ _ v u Q I rx ry ⟨_,_,rfl,rfl,h⟩
 .exact vF pins s Y H _ _ v u Q I rx ry ⟨_,_,rfl,rfl,h⟩
 .rcases h with h | h
  .exact wX pins s Y H _ _ v u Q I rx ry h
  .exact wJ pins s Y H _ _ v u Q I rx ry h
theorem p_sub:C5 X (binaryOp .Sub) (R7 fun i j=>.int (i-j)):=uT
theorem p_mul:C5 X (binaryOp .Mult) rMulU:=by
 intro pins s Y H x y v u Q I rx ry h
 cases x <;> cases y <;> try exact h.elim
 .exact uU pins s Y H _ _ v u Q I rx ry ⟨_,_,rfl,rfl,h⟩
 .exact wZ pins s Y H _ _ v u Q I rx ry h
theorem xZ:C5 X (binaryOp .FloorDiv) (rI CDiv fun i j=>.int (i / j)):=uV
theorem p_mod:C5 X (binaryOp .Mod) (rI (fun _ j=>0<j) fun i j=>.int (i % j)):=uW
theorem cG(hu:X.A.units+64<cLine){x y:V}{v u:Value}{Q:VK}(I:Inv X pins Y H s)(rx:RelV x v)(ry:RelV y u)(h:∃ d e,Dn X.K H x d/\Dn X.K H y e/\min d.depth e.depth<=60/\Q (.bl (Q3 d e)) H):wpAny (model X.prog X.w) X.A (compareOp .Eq v u) (EP X pins Y Q) X.xe s:=by
 obtain ⟨d,e,h1,h2,hd,q⟩:=h;obtain ⟨c1,as,r1⟩:=h1.reads I rfl rx;obtain ⟨c2,bs,r2⟩:=h2.reads I rfl ry;exact SeqAt.compareEq_reads r1 r2 c1 c2 (by lia) ⟨.bl _,H,I,rfl,q⟩
theorem cH(hu:X.A.units+64<cLine){x y:V}{v u:Value}{Q:VK}(I:Inv X pins Y H s)(rx:RelV x v)(ry:RelV y u)(h:∃ d e,Dn X.K H x d/\Dn X.K H y e/\min d.depth e.depth<=60/\Q (.bl (!PyData.eqv d e)) H):wpAny (model X.prog X.w) X.A (compareOp .NotEq v u) (EP X pins Y Q) X.xe s:=by
 obtain ⟨d,e,h1,h2,hd,q⟩:=h;obtain ⟨c1,as,r1⟩:=h1.reads I rfl rx;obtain ⟨c2,bs,r2⟩:=h2.reads I rfl ry;exact SeqAt.compareNe_reads r1 r2 c1 c2 (by lia) ⟨.bl _,H,I,rfl,q⟩
theorem p_eq(hu:X.A.units+64<cLine):C5 X (compareOp .Eq) (rEqU X.K):=by
 intro pins s Y H x y v u Q I rx ry h;have sc:∀ {x y:V},kT x y H Q->RelV x v->RelV y u->wpAny (model X.prog X.w) X.A (compareOp .Eq v u) (EP X pins Y Q) X.xe s:=fun {x y} h rx ry=>op_eq pins s Y H x y v u Q I rx ry h
 cases x with
 | int i=>cases y with
  | int j=>exact sc (x:=.int i) (y:=.int j) ⟨rfl,by simpa using (show Q (.bl (decide (i=j))) H from h)⟩ rx ry
  | _=>exact cG hu I rx ry h
 | str i=>cases y with
  | str j=>exact sc (x:=.str i) (y:=.str j) ⟨rfl,by simpa using (show Q (.bl (decide (i=j))) H from h)⟩ rx ry
  | _=>exact cG hu I rx ry h
 | bl i=>cases y with
  | bl j=>exact sc (x:=.bl i) (y:=.bl j) ⟨rfl,by simpa using (show Q (.bl (decide (i=j))) H from h)⟩ rx ry
  | _=>exact cG hu I rx ry h
 | _=>cases y <;> exact cG hu I rx ry h
theorem p_ne(hu:X.A.units+64<cLine):C5 X (compareOp .NotEq) (rNeU X.K):=by
 intro pins s Y H x y v u Q I rx ry h;have sc:∀ {x y:V},kU x y H Q->RelV x v->RelV y u->wpAny (model X.prog X.w) X.A (compareOp .NotEq v u) (EP X pins Y Q) X.xe s:=fun {x y} h rx ry=>op_ne pins s Y H x y v u Q I rx ry h
 cases x with
 | int i=>cases y with
  | int j=>exact sc (x:=.int i) (y:=.int j) ⟨rfl,by simpa using (show Q (.bl (!decide (i=j))) H from h)⟩ rx ry
  | _=>exact cH hu I rx ry h
 | str i=>cases y with
  | str j=>exact sc (x:=.str i) (y:=.str j) ⟨rfl,by simpa using (show Q (.bl (!decide (i=j))) H from h)⟩ rx ry
  | _=>exact cH hu I rx ry h
 | bl i=>cases y with
  | bl j=>exact sc (x:=.bl i) (y:=.bl j) ⟨rfl,by simpa using (show Q (.bl (!decide (i=j))) H from h)⟩ rx ry
  | _=>exact cH hu I rx ry h
 | _=>cases y <;> exact cH hu I rx ry h
theorem p_lt:C5 X (compareOp .Lt) rLtU:=by
 intro pins s Y H x y v u Q I rx ry h
 cases x <;> cases y <;> try exact h.elim
 .exact op_lt pins s Y H _ _ v u Q I rx ry ⟨_,_,rfl,rfl,h⟩
 .exact uX pins s Y H _ _ v u Q I rx ry ⟨_,_,rfl,rfl,h⟩
theorem p_le:C5 X (compareOp .LtE) rLeU:=by
 intro pins s Y H x y v u Q I rx ry h
 cases x <;> cases y <;> try exact h.elim
 .exact op_le pins s Y H _ _ v u Q I rx ry ⟨_,_,rfl,rfl,h⟩
 .obtain ⟨t,rfl⟩:=rx;obtain ⟨t',rfl⟩:=ry;exact PySem.P.le_str ⟨.bl _,H,I,by simp [RelV],h⟩
theorem p_gt:C5 X (compareOp .Gt) rGtU:=by
 intro pins s Y H x y v u Q I rx ry h
 cases x <;> cases y <;> try exact h.elim
 .exact op_gt pins s Y H _ _ v u Q I rx ry ⟨_,_,rfl,rfl,h⟩
 .obtain ⟨t,rfl⟩:=rx;obtain ⟨t',rfl⟩:=ry;exact PySem.P.gt_str ⟨.bl _,H,I,rfl,h⟩
theorem p_ge:C5 X (compareOp .GtE) rGeU:=by
 intro pins s Y H x y v u Q I rx ry h
 cases x <;> cases y <;> try exact h.elim
 .exact op_ge pins s Y H _ _ v u Q I rx ry ⟨_,_,rfl,rfl,h⟩
 .obtain ⟨t,rfl⟩:=rx;obtain ⟨t',rfl⟩:=ry;exact PySem.P.ge_str ⟨.bl _,H,I,by simp [RelV],h⟩
theorem p_in(hu:X.A.units+64<cLine):C5 X (compareOp .In) (rInU X.K false):=by
 intro pins s Y H x y v u Q I rx ry h
 cases y with
 | str j=>
  obtain ⟨i,rfl,q⟩:=h;exact uY pins s Y H _ _ v u Q I rx ry ⟨i,j,rfl,rfl,by simpa using q⟩
 | ref p=>
  rcases h with h | ⟨o,g,q⟩
  .exact wR pins s Y H _ _ v u Q I rx ry h
  .obtain rfl:u=Value.ref p:=ry;exact d_in (by lia) I g rx fun s3 I3=>⟨.bl o.isSome,H,I3,rfl,by simpa using q⟩
 | _=>exact h.elim
noncomputable def cutS (x:Str) (lo hi:Option Int):Str:=⟨((x.cps.toList.drop (HT.sIx x.length 0 lo)).take (HT.sIx x.length x.length hi-HT.sIx x.length 0 lo)).toArray⟩
noncomputable def rSlS:V->Option Int->Option Int->Hp->VK->Prop:=fun x lo hi H Q=>∃ z,x=.str z/\z.length<=sizeLine/\Q (.str (cutS z lo hi)) H
end
end L2
variable {C T T2 a b dx e f fa p r sl t t0:PySem.Addr}{dvs vs xs ys:List L2.V}{Q:L2.VK}{cd cdv ct dV doc head oc pm u v vl vu:PySem.Value}{c i j m n t':Nat}{items:Array PySem.Value}{bmB its us:List PySem.Value}{A:PySem.Around}{s s' zt:PySem.Shared}{y:L2.V}{Z name qual x z:PySem.Str}{pins:List (PySem.Addr×PySem.Obj)}{Y:L2.St}{H H' H0 H1 zr:L2.Hp}{h h' h2:PySem.Heap}{prog q:PySem.Program}{N N' loose ns ps ts zs:List PySem.Str}{w:PySem.World}{K:PySem.W.Frag}{mg:PySem.Str->Option PySem.Value}{fd:PySem.FuncData}{sp:L2.Sp}{X:L2.Cx}{kvs:List (L2.A9×L2.V)}{E xe:PySem.Value->PySem.Shared->Prop}{ixs:List Nat}{elt iter target tg:PySem.Expr}{es ifs:List PySem.Expr}{g:L2.TG}{t1 t2 te tl:L2.TE}{fp rs:List PySem.Addr}{calm hadNext neg:Bool}{st:PySem.Stmt}{an od:Option PySem.Addr}{osl:Array (Option PySem.Value)}{tb:L2.TS}{D:L2.Ends}{ta:L2.TA}{o oe oh:PySem.Obj}
set_option maxRecDepth 100000
namespace L2
open PySem PySem.Spec PyProof.Rows
section
variable {X:Cx}
theorem yA(x:Str)(lo hi:Option Int):Txt.slice x lo hi=cutS x lo hi:=by
 have c1:∀ (o:Option Int) (d:Nat),(match o with | none=>(d:Int) | some i=>if (1:Int) > 0 then max 0 (min (if i<0 then i+(x.length:Int) else i) (x.length:Int)) else max (-1) (min (if i<0 then i+(x.length:Int) else i) ((x.length:Int)-1)))=((HT.sIx x.length d o:Nat):Int):=by
  intro o d
  cases o with
  | none=>rfl
  | some i=>
   rw [<- HT.clip_eq i x.length d];simp only [show ((1:Int) > 0)=True by simp,if_true]
   split <;> lia
 have h2:Builtin.Str.strSliceIndices lo hi 1 x.length=Builtin.Str.strSliceIndices (some ((HT.sIx x.length 0 lo:Nat):Int)) (some ((HT.sIx x.length x.length hi:Nat):Int)) 1 x.length:=by
  have e1:=c1 lo 0;have e2:=c1 hi x.length;have e3:=c1 (some ((HT.sIx x.length 0 lo:Nat):Int)) 0;have e4:=c1 (some ((HT.sIx x.length x.length hi:Nat):Int)) x.length;have l1:=HT.sIx_le x.length 0 (O2 _) lo;have l2:=HT.sIx_le x.length x.length (B5 _) hi;rw [HT.sIx_nat,n9 l1] at e3;rw [HT.sIx_nat,n9 l2] at e4;unfold Builtin.Str.strSliceIndices
  dsimp only at e3 e4 ⊢
  rw [e3,e4];clear e3 e4 l1 l2;refine congr (congr (congrArg sliceRange ?_) ?_) rfl
  .cases lo with
   | none=>exact e1
   | some i=>exact e1
  .cases hi with
   | none=>exact e2
   | some i=>exact e2
 have l1:=HT.sIx_le x.length 0 (O2 _) lo;have l2:=HT.sIx_le x.length x.length (B5 _) hi;unfold Txt.slice cutS;rw [h2];generalize HT.sIx x.length 0 lo=a at *;generalize HT.sIx x.length x.length hi=b at *;have len:x.length=x.cps.toList.length:=by simp [Str.length]
 by_cases v1:a<=b
 .rw [StrLaws.sliced_plain x v1 l2,StrLaws.strSliceIndices_plain v1 l2]
  split
  .rename_i hc
   have W1:b-a=x.length:=by simpa using hc
   have ha:a=0:=by lia
   subst ha;rw [List.drop_zero,X0 (by lia)]
  .rfl
 .have e:Builtin.Str.strSliceIndices (some (a:Int)) (some (b:Int)) 1 x.length=[]:=by
   have h1:¬ ((a:Int)<0):=by lia
   have h2:¬ ((b:Int)<0):=by lia
   have e1:max (0:Int) (min (a:Int) (x.length:Int))=a:=by lia
   have e2:max (0:Int) (min (b:Int) (x.length:Int))=b:=by lia
   simp only [Builtin.Str.strSliceIndices,sliceRange,h1,h2,if_false,e1,e2,show ((1:Int) > 0)=True from by simp,if_true];rw [if_neg (by lia)];rfl
  rw [e,show b-a=0 by lia,List.take_zero]
  split
  .rename_i hc
   have W1:0=x.length:=by simpa using hc
   have:x.cps.toList=[]:=List.eq_nil_of_length_eq_zero (by lia)
   obtain ⟨⟨l⟩⟩:=x;simp at this;subst this;rfl
  .rfl
theorem yB:p8 X rSlS:=by
 intro pins s Y H x v vl vu lo hi sl Q I rx hs pl pu h;obtain ⟨z,rfl,hz,q⟩:=h;obtain ⟨t,rfl⟩:=rx;refine ⟨"str",_,F.slot_str_getitem.lookup,typeIs_str _ _ _,?_⟩;rw [<- yA] at q;have part:∀ {u:Value} {o:Option Int},IsPart u o->∃ l:Option (Int×Tok),u=partValue l/\l.map (·.1)=o:=fun {u o} p=>by
  cases p with
  | none=>exact ⟨none,rfl,rfl⟩
  | int i t=>exact ⟨some (i,t),rfl,rfl⟩
 obtain ⟨l,rfl,el⟩:=part pl;obtain ⟨u,rfl,eu⟩:=part pu;subst el eu;refine wpAny_getItem_str_slice (l:=l) (u:=u) (st:=none) hs rfl ?_;exact post_val_or_str ⟨C3 (Txt.slice_le z _ _) hz,fun t' k=>⟨.str _,H,I.tok _,⟨t',rfl⟩,q⟩⟩
theorem yC{lo hi:Option Int}{Q:Value->Shared->Prop}(ht:IsTup s.heap t items)(hs:s.heap.IsSliceOf sl vl vu .none)(pl:IsPart vl lo)(pu:IsPart vu hi)(hw:HT.sIx items.size 0 lo=0/\HT.sIx items.size items.size hi=items.size)(h:Q (.ref t) s):wpAny (model prog w) A (getItem (.ref t) (.ref sl)) Q E s:=by
 obtain ⟨os,j7,dS,aN⟩:=id hs;have hTs:s.TypeIs (.ref sl) "slice":=⟨os,j7,dS⟩
 unfold getItem
 try with_reducible refine wpAny_holding ?_
 first | refine wpAny_bind (wpAny_pure ?_) | skip
 refine wpAny_bind (wpAny_sequenceKey ht.typeIs (by decide) ?_);refine wpAny_bind (wpAny_callSpecial?_slot (name:=Str.ofString "__getitem__") ht.typeIs PyProof.Rows.slot_tuple_getitem
  (wpAny_call_entry PyProof.Rows.slot_tuple_getitem ht.typeIs PyProof.Rows.entry_tuple_getitem ?_ (PyProof.Rows.args_tuple_getitem _ _)))
 show wpAny _ _ (Builtin.Tuple.tupleItemsOf (.ref t) >>= _) _ _ s;refine wpAny_bind (PyProof.Rows.tupleItemsOf_ ht ?_);refine wpAny_bind (wpAny_typeOf hTs ?_);rw [if_pos (by decide)];refine wpAny_bind (HT.sliceApplied_gen hs pl pu ?_);have jL:((((HT.sIx items.size 0 lo:Nat):Int)==0&&(1:Int)==1&&(HT.sIx items.size items.size hi-HT.sIx items.size 0 lo)==items.size)=true):=by
  rw [hw.1,hw.2]
  simp
 show wpAny _ _ (if (((HT.sIx items.size 0 lo:Nat):Int)==0&&(1:Int)==1&&(HT.sIx items.size items.size hi-HT.sIx items.size 0 lo)==items.size)=true then _ else _) _ _ s;rw [if_pos jL];refine wpAny_bind ?_;show wpAny _ _ (typeOf (.ref t) >>= fun v=>pure (v == .type "tuple")) _ _ s;refine wpAny_bind (wpAny_typeOf ht.typeIs (wpAny_pure ?_));rw [if_pos (by decide)];refine wpAny_bind (wpAny_rule ?_);exact wpAny_pure ⟨_,rfl,wpAny_pure h⟩
noncomputable def rSlW (K:PySem.W.Frag):V->Option Int->Option Int->Hp->VK->Prop:=fun x lo hi H Q=>∃ a xs,x=.ref a/\D2 K H a xs/\(HT.sIx xs.length 0 lo=0/\HT.sIx xs.length xs.length hi=xs.length)/\Q (.ref a) H
theorem yD:p8 X (rSlW X.K):=by
 intro pins s Y H x v vl vu lo hi sl Q I rx hs pl pu h;obtain ⟨a,xs,rfl,hx,hw,q⟩:=h
 cases rx
 obtain ⟨its,r,ht,hz⟩:=I.tuple hx;have A8:its.toArray.size=xs.length:=by rw [E7];exact r.length.symm
 refine ⟨"tuple",_,PyProof.Rows.slot_tuple_getitem.lookup,ht.typeIs,?_⟩;exact yC ht hs pl pu (by rw [A8];exact hw) ⟨.ref a,H,I,rfl,q⟩
noncomputable def rSlR (K:PySem.W.Frag) (a:Addr) (lo hi:Option Int) (H:Hp) (Q:VK):Prop:=rSlL K (.ref a) lo hi H Q\/rSlT K (.ref a) lo hi H Q\/rSlW K (.ref a) lo hi H Q
theorem rSlR.l{lo hi:Option Int}(h1:C1 K H a xs)(h:∀ p,H p=none->Q (.ref p) (A0 H p (.lst (cutV xs lo hi)))):rSlR K a lo hi H Q:=.inl ⟨a,xs,rfl,h1,h⟩
noncomputable def rSlU (K:PySem.W.Frag):V->Option Int->Option Int->Hp->VK->Prop
 | .str z,lo,hi,H,Q=>z.length<=sizeLine/\Q (.str (cutS z lo hi)) H
 | .ref a,lo,hi,H,Q=>rSlR K a lo hi H Q
 | _,_,_,_,_=>False
theorem p_sl:p8 X (rSlU X.K):=by
 intro pins s Y H x v vl vu lo hi sl Q I rx hs pl pu h
 cases x with
 | str z=>exact yB pins s Y H _ v vl vu lo hi sl Q I rx hs pl pu ⟨z,rfl,h⟩
 | ref a=>
  rcases h with h | h | h
  .exact wP pins s Y H _ v vl vu lo hi sl Q I rx hs pl pu h
  .exact wI pins s Y H _ v vl vu lo hi sl Q I rx hs pl pu h
  .exact yD pins s Y H _ v vl vu lo hi sl Q I rx hs pl pu h
 | _=>exact h.elim
noncomputable def LenR (K:PySem.W.Frag) (H:Hp) (p:Addr) (n:Nat):Prop:=(∃ xs,C1 K H p xs/\n=xs.length)\/(∃ xs,D2 K H p xs/\n=xs.length)\/∃ kvs,Rd H p (.dK kvs)/\n=kvs.length
noncomputable def rLenU (K:PySem.W.Frag):List V->Hp->VK->Prop
 | [.str z],H,Q=>z.length<=sizeLine/\Q (.int z.length) H
 | [.ref p],H,Q=>∃ n:Nat,LenR K H p n/\Q (.int n) H
 | _,_,_=>False
theorem p_len:CallR X (.builtin "len") (rLenU X.K):=by
 intro pins s Y H xs us Q I r h
 match xs,h with
 | [.str z],h=>exact eK pins s Y H _ us Q I r ⟨.str z,z.length,rfl,⟨h.1,rfl⟩,h.2⟩
 | [.ref p],⟨n,l,q⟩=>
  rcases l with ⟨xs,l,rfl⟩ | ⟨xs,l,rfl⟩ | ⟨kvs,l,rfl⟩
  .exact eK pins s Y H _ us Q I r ⟨.ref p,_,rfl,.inl ⟨xs,l,rfl⟩,q⟩
  .exact eK pins s Y H _ us Q I r ⟨.ref p,_,rfl,.inr ⟨xs,l,rfl⟩,q⟩
  .obtain ⟨u,rfl,ru⟩:=vals1 r
   cases ru
   exact d_len I l fun t s' I'=>⟨.int kvs.length,H,I',⟨t,rfl⟩,q⟩
theorem yE(hc:X.calm=true):CallR X (.type "list") (fun xs H Q=>∃ d kvs,xs=[.ref d]/\Rd H d (.dK kvs)/\∀ l,H l=none->Q (.ref l) (A0 H l (.lst (kvs.map fun kv=>kV kv.1)))):=by
 intro pins s Y H xs us Q I r h;obtain ⟨d,kvs,rfl,e,q⟩:=h;obtain ⟨u,rfl,rx⟩:=vals1 r
 cases rx
 obtain ⟨z,hd,vs,rel,dd⟩:=dk_rd I.hok e;obtain ⟨ep,N9⟩:=dd.dictAt;have hl:=rel.length;refine PySem.W.kdl_call (PySem.W.kdl_dict (knd:=K8 X.prog X.w) (kvs:=vs) (ep:=ep) hd) (I.ok.hd hc) N9 (by lia) fun h' tk acc c' kp hD aT=>?_
 have hv:Vals (kvs.map fun kv=>kV kv.1) acc.toList:=by
  have hk:=rel.keys;have A8:acc.toList.length=kvs.length:=by rw [Array.length_toList,aT.1,hl]
  have key:∀ (ks:List A9) (us:List Value),us.length=ks.length->(∀ (j:Nat) (v:Value),us[j]?=some v->∃ k,ks[j]?=some k/\keyIs k v=true)->Vals (ks.map kV) us:=by
   intro ks
   induction ks with
   | nil=>intro us h1 _;cases us with
    | nil=>exact .nil
    | cons _ _=>simp at h1
   | cons k ks ih=>
    intro us h1 h2
    cases us with
    | nil=>simp at h1
    | cons u us=>
     obtain ⟨k',e1,e2⟩:=h2 0 u rfl;simp at e1;subst e1;refine .cons ?_ (ih us (by simpa using h1) fun j v hj=>by simpa using h2 (j+1) v (by simpa using hj))
     rcases U7 e2 with ⟨i,t,rfl,rfl⟩ | ⟨x,t,rfl,rfl⟩
     .exact ⟨t,rfl⟩
     .exact ⟨t,rfl⟩
  rw [show (kvs.map fun kv=>kV kv.1)=(kvs.map (·.1)).map kV by rw [List.map_map];rfl];refine key _ _ (by rw [A8,B9]) fun j v hj=>?_
  obtain ⟨k,x,hx,hk'⟩:=aT.2 j v (by rw [<- Array.getElem?_toList];exact hj);refine ⟨k,?_,hk'⟩;rw [hk,Q2,hx];rfl
 refine ⟨.ref s.heap.objs.size,_,I.laid (t':=tk) kp (B5 _) (show ObjOk X.prog X.w _ h' _ (.lst (kvs.map fun kv=>kV kv.1)) from ⟨by rw [B9];exact z,acc.toList,c',hv,by simpa using hD⟩),rfl,q _ (I.hok.fresh (B5 _))⟩
noncomputable def rListR (K:PySem.W.Frag) (calm:Bool) (p:Addr) (H:Hp) (Q:VK):Prop:=(∃ ys,(C1 K H p ys\/D2 K H p ys)/\∀ l,H l=none->Q (.ref l) (A0 H l (.lst ys)))\/(calm=true/\∃ kvs,Rd H p (.dK kvs)/\∀ l,H l=none->Q (.ref l) (A0 H l (.lst (kvs.map fun kv=>kV kv.1))))
theorem rListR.d(h1:Rd H p (.dK kvs))(h:∀ l,H l=none->Q (.ref l) (A0 H l (.lst (kvs.map fun kv=>kV kv.1)))):rListR K true p H Q:=.inr ⟨rfl,kvs,h1,h⟩
noncomputable def eY (K:PySem.W.Frag) (calm:Bool):List V->Hp->VK->Prop
 | [.ref p],H,Q=>rListR K calm p H Q
 | _,_,_=>False
theorem yF:CallR X (.type "list") (eY X.K X.calm):=by
 intro pins s Y H xs us Q I r h
 match xs,h with
 | [.ref p],h=>
  rcases h with ⟨ys,h1,h2⟩ | ⟨hc,kvs,h1,h2⟩
  .exact wS pins s Y H _ us Q I r ⟨p,ys,rfl,h1,h2⟩
  .exact yE hc pins s Y H _ us Q I r ⟨p,kvs,rfl,h1,h2⟩
noncomputable def rAllB (calm:Bool):List V->Hp->VK->Prop
 | [.ref p],H,Q=>∃ bs:List Bool,calm=true/\H p=some (.lst (bs.map V.bl))/\Q (.bl (bs.all id)) H
 | _,_,_=>False
theorem p_all:CallR X (.builtin "all") (rAllB X.calm):=by
 intro pins s Y H xs us Q I r h
 match xs,h with
 | [.ref p],⟨bs,hc,hp,q⟩=>
  obtain ⟨u,rfl,rx⟩:=vals1 r
  cases rx
  obtain ⟨z,its,n,rv,hl,e⟩:=I.lstM hp;have pl:s.heap.IsList p its.toArray:=⟨_,e,rfl,n,rfl⟩
  refine call_all_walk (wpAny_pyIter_list pl ?_);have L7:p≠s.heap.objs.size:=J6 (Heap.lt_size e);have hk:∀ b o,s.heap.get? b=some o->(s.heap.push { cls:=.type "list_iterator",data:=.fields #[.ref p,.int 0 0] }).get? b=some o:=fun b o q=>Heap.get?_push_of_some _ q
  refine ⟨_,_,_,_,_,_,fun i=>(bs[i]?).getD true,rfl,Walks.list (show X.A.in1.handled=none from I.ok.hd hc) s.heap.objs.size p L7 its.toArray,⟨⟨_,Heap.get?_push_size _ rfl,rfl,rfl⟩,pl.at fun o q=>hk p o q⟩,?_,?_⟩
  .intro i v s' Q' E' hv hq;have dP:its[i]?=some v:=by simpa using hv
   have hb:∃ b,bs[i]?=some b/\v=.bool b:=by
    cases eb:(bs.map V.bl)[i]? with
    | none=>
     have:=rv.none_of eb
     rw [dP] at this
     cases this
    | some y=>
     obtain ⟨u,h1,h2⟩:=rv.get eb;rw [dP] at h1;cases h1;rw [Q2] at eb;cases e3:bs[i]? with
     | none=>rw [e3] at eb;cases eb
     | some b=>
      rw [e3] at eb;cases eb;exact ⟨b,rfl,h2⟩
   obtain ⟨b,e1,rfl⟩:=hb;have hq:Q' ((bs[i]?).getD true) s':=hq;rw [e1] at hq;exact wpAny_truthy_bool hq
  .intro h' tk aU;have e1:(R4 its.toArray.size).all (fun i=>(bs[i]?).getD true)=bs.all id:=by
    have Y2:its.toArray.size=bs.length:=by simpa using hl.symm
    rw [Y2,o0,N2,N2]
    constructor
    .intro h b hb;obtain ⟨i,hi,rfl⟩:=List.mem_iff_getElem.mp hb
     have:=h i (List.mem_range.mpr hi)
     simpa [hi] using this
    .intro h i hi;have rW:=List.mem_range.mp hi
     simpa [rW] using h bs[i] (List.getElem_mem rW)
   refine ⟨.bl (bs.all id),H,I.kept (t':=tk) fun b o q=>aU b o ?_ (hk b o q),by rw [e1];rfl,q⟩;intro hb
   have:b=s.heap.objs.size:=by simpa using hb
   rw [this] at q;exact absurd (Heap.lt_size q) (O1 _)
noncomputable def V1 (H:Hp):V->Option String
 | .non=>some "NoneType"
 | .bl _=>some "bool"
 | .int _=>some "int"
 | .str _=>some "str"
 | .ref a=>match H a with
  | some (.lst _)=>some "list"
  | some (.frz _ (.lst _))=>some "list"
  | some (.tup _)=>some "tuple"
  | some (.dK _)=>some "dict"
  | _=>none
 | _=>none
noncomputable def y0 (T n:String):Bool:=T==n || (T == "bool" && n == "int")
noncomputable def isTys:List String:=["str", "int", "bool", "list", "tuple", "dict"]
noncomputable def rIsi:List V->Hp->VK->Prop
 | [x,.ty n],H,Q=>∃ T,V1 H x=some T/\isTys.contains n=true/\Q (.bl (y0 T n)) H
 | _,_,_=>False
theorem yG{x:V}{T:String}(h:V1 H x=some T):TyOf K H x (.type T)/\["NoneType", "bool", "int", "str", "list", "tuple", "dict"].contains T=true:=by
 cases x with
 | non=>cases h;exact ⟨.non,by decide⟩
 | bl b=>cases h;exact ⟨.bl b,by decide⟩
 | int i=>cases h;exact ⟨.int i,by decide⟩
 | str z=>cases h;exact ⟨.str z,by decide⟩
 | ref a=>
  unfold V1 at h
  dsimp only at h
  cases e:H a with
  | none=>rw [e] at h;cases h
  | some o=>
   rw [e] at h
   cases o with
   | lst xs=>cases h;exact ⟨.lst e,by decide⟩
   | tup xs=>cases h;exact ⟨.tup e,by decide⟩
   | dK kvs=>cases h;exact ⟨.dK e,by decide⟩
   | frz ob u=>
    cases u with
    | lst xs=>cases h;exact ⟨.frz e,by decide⟩
    | _=>cases h
   | _=>cases h
 | _=>cases h
theorem yH(K:PySem.W.Frag):∀ T∈["NoneType", "bool", "int", "str", "list", "tuple", "dict"],∀ n∈isTys,B7 K (.type T) (.type n)=some (y0 T n):=by
 intro T hT n hn;simp only [C0,L8,or_false,isTys] at hT hn
 rcases hT with rfl | rfl | rfl | rfl | rfl | rfl | rfl <;> rcases hn with rfl | rfl | rfl | rfl | rfl | rfl <;> rfl
theorem yI:CallR X (.builtin "isinstance") rIsi:=by
 intro pins s Y H xs us Q I r h
 match xs,h with
 | [x,.ty n],⟨T,h1,h2,q⟩=>
  obtain ⟨u,c,rfl,ru,rc⟩:=vals2 r;obtain rfl:c=Value.type n:=rc;obtain ⟨h3,h4⟩:=yG (K:=X.K) h1;exact vO I ru h3 (yH X.K T (by simpa using h4) n (by simpa using h2)) fun tk=>⟨.bl _,H,I.tok tk,rfl,q⟩
noncomputable def rOrd:List V->Hp->VK->Prop
 | [.str z],H,Q=>z.length=1/\Q (.int (z.cps.getD 0 0:Nat)) H
 | _,_,_=>False
theorem p_ord:CallR X (.builtin "ord") rOrd:=by
 intro pins s Y H xs us Q I r h
 match xs,h with
 | [.str z],h=>exact vG pins s Y H _ us Q I r ⟨z,rfl,h⟩
noncomputable def y1 (x:Str):It:=⟨fun i _=>i<x.cps.size,fun i H v H'=>H'=H/\∃ c,x.cps.toList[i]?=some c/\v=.str ⟨#[c]⟩,fun i _=>x.cps.size<=i⟩
theorem yJ{P:Program}{ty:String}(P7:ty="str_ascii_iterator"\/ty="str_iterator")(it:Addr)(x:Str)(t:Tok):Turn P w K tg (y1 x) [it] it (fun i h=>h.IsStrIter it ty x t i) where
 mem:=by simp
 obj:=fun i h st b hb=>by
  have e:b=it:=by simpa using hb
  subst e;obtain ⟨o,e,c,d⟩:=st;exact ⟨o,e,fun v z=>by rw [d] at z;cases z⟩
 keep:=fun i h h' st k=>let ⟨o,e,r⟩:=st;⟨o,k it (by simp) o e,r⟩
 item:=by
  intro X hP hw hK hc i pins s Y H E I hf st hg;subst hP hw hK;obtain ⟨f0,f1,f2,f3,f4,f5⟩:=hf it (by simp);have v3:i<x.cps.size:=hg;have go:∀ h',h'.IsStrIter it ty x t (i+1)->Heap.SameBut it s.heap h'->∃ u,some (Value.str ⟨#[x.cps[i]]⟩ s.toks)=some u/\
    wpAny (model X.prog X.w) X.A (letOwnedTupleGo tg (.ref it) u) (fun _ s2=>∃ y H',Inv X pins Y H' s2/\RelV y u/\(y1 x).yld i H y H'/\s2.heap.IsStrIter it ty x t (i+1)/\∀ b∈[it],H' b=none) E { s with heap:=h',toks:=s.toks+1 }:=by
   intro h' st' sb;have I1:Inv X pins Y H { s with heap:=h',toks:=s.toks+1 }:=I.turned (t':=s.toks+1) (fun b o hb e=>(sb.2 b hb).trans e) f0 f1 f3 f4 f5;obtain ⟨o,e,c,d⟩:=id st';refine ⟨_,rfl,go_of (s:={ s with heap:=h',toks:=s.toks+1 }) e c d (by rcases P7 with rfl | rfl <;> decide) ⟨.str ⟨#[x.cps[i]]⟩,H,I1,⟨_,rfl⟩,⟨rfl,x.cps[i],?_,rfl⟩,st',fun b hb=>(hf b hb).1⟩⟩;simp [v3]
  rcases P7 with rfl | rfl
  .exact wpAny_pyNext_ascii_item st (c:=x.cps[i]) (by simp [v3]) go
  .exact wpAny_pyNext_wide_item st (c:=x.cps[i]) (by simp [v3]) go
 done:=by
  intro X hP hw hK hc i pins s Y H E I hf st hg;subst hP hw hK;obtain ⟨f0,f1,f2,f3,f4,f5⟩:=hf it (by simp);have v3:x.cps.size<=i:=hg;have fin:∀ h',Heap.ExtBut it s.heap h'->(none:Option Value)=none/\Inv X pins Y H { s with heap:=h' }:=fun h' eb=>⟨rfl,I.turned (t':=s.toks) (fun b o hb e=>eb b o hb e) f0 f1 f3 f4 f5⟩
  rcases P7 with rfl | rfl
  .exact wpAny_pyNext_ascii_end (I.ok.hd hc) st (by simp [v3]) fin
  .exact wpAny_pyNext_wide_end (I.ok.hd hc) st (by simp [v3]) fin
 self:=fun A i s Q E st h=>by
  rcases P7 with rfl | rfl
  .exact wpAny_pyIter_striter_ascii st h
  .exact wpAny_pyIter_striter_wide st h
noncomputable def iStr (tl:TE):TI:=fun Y H R=>tl Y H fun x H1=>∃ z,x=.str z/\R (y1 z) H1
variable {tg:Expr}
theorem yK{l:Expr}(hl:PE X l tl):PI X tg l (iStr tl):=by
 intro pins s Y H R I h;refine A4 (hl pins s Y H _ I h) fun v s1 ⟨x,H1,I1,r1,q1⟩=>?_
 obtain ⟨z,rfl,q⟩:=q1;obtain ⟨t,rfl⟩:=r1;have fin:∀ (ty:String) (P7:ty="str_ascii_iterator"\/ty="str_iterator"),eG X pins Y tg R (.ref s1.heap.objs.size) { s1 with heap:=s1.heap.push { cls:=.type ty,data:=.fields #[.str z t,.int 0 0] } }:=fun ty P7=>by
  refine ⟨s1.heap.objs.size,[s1.heap.objs.size],_,_,H1,rfl,I1.kept (t':=s1.toks) fun b o e=>Heap.get?_push_of_some _ e,yJ P7 s1.heap.objs.size z t,⟨_,Heap.get?_push_size _ rfl,rfl,rfl⟩,fun b hb=>?_,q⟩;have e:b=s1.heap.objs.size:=by simpa using hb
  subst e;exact I1.fpOk (B5 _) (I1.hok.fresh (B5 _))
 cases ha:z.cps.all (· < 128)
 .exact wpAny_pyIter_wide ha (fin _ (.inr rfl))
 .exact wpAny_pyIter_ascii ha (fin _ (.inl rfl))
end
end L2
set_option maxRecDepth 100000
namespace L2
open PySem PySem.Spec PyProof.Rows
noncomputable def J1:Expr->Bool
 | .Starred _ _=>true
 | _=>false
noncomputable def M5 (es:List Expr):Bool:=es.all fun e=>!J1 e
theorem P2{e:Expr}{env:Env}(h:J1 e=false):starEach (e::es) env=(false,eval e env)::starEach es env:=by
 cases e <;> first | rfl | cases h
theorem Z4{pos:Pos}{env:Env} : ∀ {es:List Expr},M5 es=true->(backTo pos (starEach es env)).any (·.1)=false
 | [],_=>rfl
 | e::es,h=>by
  have h':(!J1 e&&M5 es)=true:=h;rw [J7] at h';rw [P2 (by simpa using h'.1)];have ih:=Z4 (pos:=pos) (env:=env) h'.2;unfold backTo at ih ⊢
  rw [E5,Y9,ih];rfl
theorem mM{pos:Pos}{env:Env} : ∀ {es:List Expr},M5 es=true->(backTo pos (starEach es env)).all (fun x=>!x.1)=true
 | [],_=>rfl
 | e::es,h=>by
  have h':(!J1 e&&M5 es)=true:=h;rw [J7] at h';rw [P2 (by simpa using h'.1)];have ih:=mM (pos:=pos) (env:=env) h'.2;unfold backTo at ih ⊢
  rw [E5,List.all_cons,ih];rfl
section
variable {X:Cx} {e:Expr} {es:List Expr} {te:TE} {t:TA} {x:Str} {p pos:Pos} {id T:String} {r:List V->Hp->VK->Prop}
theorem pa_c(ha:PE X e te)(hr:PA X es t)(h:J1 e=false:=by rfl):PA X (e::es) (tCons te t):=vS ha hr (P2 h)
theorem pe_cB(hc:CallR X (.builtin id) r)(hg:Gl X x)(hm:X.mg x=none)(hv:bootBuiltins x=some (.builtin id))(ha:PA X (e::es) t)(h1:J1 e=false:=by rfl)(h2:M5 es=true:=by rfl)(hn:x≠"__name__":=by decide)(C6:(x==("__debug__" : Str))=false:=by decide) :
  PE X (.Call (.Name x p) (e::es) [] pos) (e9 r t):=wA hc hg hm hv ha hn C6 (P2 h1) (Z4 h2)
theorem pe_cT(hc:CallR X (.type T) r)(hg:Gl X x)(hm:X.mg x=none)(hv:bootBuiltins x=some (.type T))(ha:PA X (e::es) t)(h1:J1 e=false:=by rfl)(h2:M5 es=true:=by rfl)(hn:x≠"__name__":=by decide)(C6:(x==("__debug__" : Str))=false:=by decide) :
  PE X (.Call (.Name x p) (e::es) [] pos) (e9 r t):=wB hc hg hm hv ha hn C6 (P2 h1) (Z4 h2)
variable {o:Expr} {to:TE} {name:Str} {apos cpos:Pos} {rm:V->List V->Hp->VK->Prop}
theorem pe_mB(pa:PlainAttrs T)(slot:Slot T name id)(P7:typeOf (.builtin id)=pure (.type "method_descriptor"))(hm:eS X id rm)(ho:PE X o to)(ha:PA X (e::es) t)(h1:J1 e=false:=by rfl)(h2:M5 es=true:=by rfl)(h3:decide ((e::es).length<30)=true:=by rfl)(E4:attributeBase o name X.env (eval o X.env)=eval o X.env:=by rfl)(M6:(apos.endLine==cpos.line)=true:=by rfl):PE X (.Call (.Attribute o name apos) (e::es) [] cpos) (cA X.K T rm to t):=
 pe_bm pa slot P7 hm ho ha E4 (by
  rw [mM (show M5 (e::es)=true by show (!J1 e&&M5 es)=true;rw [h1,h2];rfl)];have h3':(e::es).length<30:=of_decide_eq_true h3;simp only [List.isEmpty_nil,if_true,U4,Nat.add_zero,Bool.true_and];rw [decide_eq_true h3'];rfl) M6 (P2 h1) (Z4 h2)
variable {tg a b:Expr} {ta:TA}
theorem pi_r1(hg:Gl X "range")(hm:X.mg "range"=none)(ha:PA X [a] ta)(h1:J1 a=false:=by rfl):PI X tg (.Call (.Name "range" p) [a] [] pos) (iRng1 ta):=uM hg hm ha (by rw [P2 h1];rfl)
end
noncomputable def FO (P:Program) (w:World) (K:PySem.W.Frag) (mg:Str->Option Value) (base:Heap) (k:Nat) (x:Str) (ps:List Str) (dvs:List V) (sp:Sp):Prop:=
 ∃ f fd,FnOk P w K mg base C8 k f fd ps sp/\mg x=some (.ref f)/\G9 K (.ref f)=true/\∃ ds,Binds K fd ps ds/\Vals dvs ds
structure FunD(K:PySem.W.Frag)(x qual:Str)(st:Stmt)(f:Addr)(fd:FuncData):Prop where
 ex:∃ (oc:Value) (od:Option Addr) (dV kV doc pm:Value) (an:Option Addr) (cdv ct:Value) (osl:Array (Option Value)),
  fd=J5 x qual (M4 st) (J9 st) (B4 st) dV kV doc pm an cdv ct/\K.lookup f=some ⟨oc,od,.func fd,osl⟩/\M8 K cdv qual=true
section
variable {P:Program} {w:World} {K:PySem.W.Frag} {mg:Str->Option Value} {base:Heap}
theorem FunD.ok{k:Nat}(F:FunD K x qual st f fd)(S:FnScope N ps (B4 st))(len:∀ vs H Q E,sp vs H Q E->vs.length=ps.length)(C9:∀ (cdv:Value) (A:Around) (outer:List Env) (s:Shared) (H:Hp) (vs:List V) (Q:VK) (E:XK),Room k (A.deeper (envOfC qual (B4 st) s.heap.objs.size f cdv))->sp vs H Q E->
   ∃ t,M3 (cxOf C8 P w K mg base N qual (B4 st) f cdv A outer s H E).nox (J9 st) t/\t { nx:=fun _ H'=>Q .non H',rt:=Q } (start N vs) H):FnOk P w K mg base C8 (k+1) f fd ps sp:=by
 obtain ⟨oc,od,dV,kV,doc,pm,an,cdv,ct,osl,rfl,lk,G5⟩:=F.ex;refine fn_of lk G5 S len fun A outer s H vs Q E hr F6=>?_
 obtain ⟨t,h,q⟩:=C9 cdv A outer s H vs Q E hr F6;exact ⟨t,h.nox,q⟩
theorem V2{kV:Value}(l:K.lookup f=some ⟨oc,od,.func (J5 x qual (M4 st) (J9 st) (B4 st) dV kV doc pm an cdv ct),osl⟩)(c:M8 K cdv qual=true):FunD K x qual st f (J5 x qual (M4 st) (J9 st) (B4 st) dV kV doc pm an cdv ct):=⟨oc,od,dV,kV,doc,pm,an,cdv,ct,osl,rfl,l,c⟩
end
section
variable {X:Cx} {k:Nat} {ps:List Str} {sp:Sp} {dvs:List V} {x:Str} {p pos:Pos} {e:Expr} {es:List Expr} {t:TA}
theorem yL(G:FO X.prog X.w X.K X.mg X.base k x ps dvs sp)(hr:Room k X.A)(ha:PA X (e::es) t)(hg:Gl X x:=by rfl)(h1:J1 e=false:=by rfl)(h2:M5 es=true:=by rfl)(C6:(x==("__debug__" : Str))=false:=by decide):PE X (.Call (.Name x p) (e::es) [] pos) (tCall sp dvs E0 t):=by
 obtain ⟨f,fd,F,hm,hk,ds,hb,hd⟩:=G;exact vV F hr hg hm hk hb hd pass0 ha C6 (P2 h1) (Z4 h2)
theorem yM{i:Int}(h:∃ t,X.mg x=some (.int i t))(hg:Gl X x:=by rfl)(hd:(x==("__debug__" : Str))=false:=by decide):PE X (.Name x p) (tC (.int i)):=by
 obtain ⟨t,h⟩:=h;exact kQ hg h ⟨t,rfl⟩ hd
theorem yN(h:X.mg x=some (.ref a))(hg:Gl X x:=by rfl)(hd:(x==("__debug__" : Str))=false:=by decide):PE X (.Name x p) (tC (.ref a)):=kQ hg h rfl hd
end
section
variable {Y:St} {H:Hp} {Q:VK} {B:Bool->Hp->Prop} {ta tb tc te:TE} {t u:TS} {tt uu:TT} {D:Ends} {i:Nat} {v:V} {r r':R2} {K:PySem.W.Frag} {taa:TA} {R:List V->Hp->Prop} {g:TG}
theorem mO:tVar i Y H Q=∃ v,(Y[i]?).join=some v/\Q v H:=by
 unfold tVar;refine propext ⟨fun ⟨v,h,q⟩=>⟨v,by rw [h];rfl,q⟩,fun ⟨v,h,q⟩=>⟨v,?_,q⟩⟩;cases e:Y[i]? with
 | none=>rw [e] at h;cases h
 | some o=>rw [e] at h;exact congrArg some h
theorem ap_c:tC v Y H Q=Q v H:=rfl
theorem ap_op:X4 r ta tb Y H Q=ta Y H fun x H1=>tb Y H1 fun y H2=>r x y H2 Q:=rfl
theorem ap_un{ru:V->Hp->VK->Prop} : uR ru ta Y H Q=ta Y H fun x H1=>ru x H1 Q:=rfl
theorem ap_rU{f:Int->V}{x:V} : rU f x H Q=∃ i,x=.int i/\Q (f i) H:=rfl
theorem yO:tTest ta Y H B=ta Y H fun x H'=>∃ k,x=.bl k/\B k H':=rfl
theorem ap_tB:tB ta Y H B=ta Y H fun x H'=>∃ k,x=.bl k/\B k H':=rfl
theorem yP:tTru K ta Y H B=ta Y H fun x H'=>∃ k,TruV K x H' k/\B k H':=rfl
theorem yQ:tNotT K ta Y H Q=ta Y H fun x H'=>∃ k,TruV K x H' k/\Q (.bl (!k)) H':=rfl
theorem yR:eJ r r' ta tb tc Y H Q=ta Y H fun x H1=>tb Y H1 fun y H2=>r x y H2 fun z H3=>∃ k,z=.bl k/\(if k=true then tc Y H3 fun w' H4=>r' y w' H4 Q else Q (.bl false) H3):=rfl
theorem yS:tAnd tt uu Y H B=tt Y H fun c H1=>if c=true then uu Y H1 B else B false H1:=rfl
theorem ap_or:eE tt uu Y H B=tt Y H fun c H1=>if c=true then B true H1 else uu Y H1 B:=rfl
theorem yT:tNot tt Y H B=tt Y H fun c H1=>B (!c) H1:=rfl
theorem yU:tAndV ta tb Y H Q=ta Y H fun x H1=>∃ c,x=.bl c/\if c=true then tb Y H1 Q else Q (.bl false) H1:=rfl
theorem yV:tOrV ta tb Y H Q=ta Y H fun x H1=>∃ c,x=.bl c/\if c=true then Q (.bl true) H1 else tb Y H1 Q:=rfl
theorem yW:tNotV ta Y H Q=ta Y H fun x H1=>∃ c,x=.bl c/\Q (.bl (!c)) H1:=rfl
theorem ap_if:tU tt ta tb Y H Q=tt Y H fun c H1=>if c=true then ta Y H1 Q else tb Y H1 Q:=rfl
theorem yX:tNext D Y H=D.nx Y H:=rfl
theorem yY:tSeq t u D Y H=t { D with nx:=u D } Y H:=rfl
theorem yZ:tY D Y H=D.bk Y H:=rfl
theorem zA:tCont D Y H=D.ct Y H:=rfl
theorem zB:tDrop te D Y H=te Y H fun _ H1=>D.nx Y H1:=rfl
theorem zC:tRet te D Y H=te Y H D.rt:=rfl
theorem zD:tRetN D Y H=D.rt .non H:=rfl
theorem zE:tIfS tt t u D Y H=tt Y H fun b H1=>if b=true then t D Y H1 else u D Y H1:=rfl
theorem zF:uB D Y H=False:=rfl
theorem zG{Z:St->Hp->Prop} : gName i v Y H Z=Z (Y.set i (some v)) H:=rfl
theorem zH{Z:St->Hp->Prop} : gNil vs Y H Z=(vs=[]/\Z Y H):=rfl
theorem zI{us:Q4}{Z:St->Hp->Prop} : gCons g us vs Y H Z=∃ v r,vs=v::r/\g v Y H fun σ' H'=>us r σ' H' Z:=rfl
theorem zJ{us:Q4}{Z:St->Hp->Prop} : gTup K n us v Y H Z=∃ a xs,v=.ref a/\D2 K H a xs/\xs.length=n/\us xs Y H Z:=rfl
theorem zK{ts:TSet}{Z:St->Hp->Prop} : gSub ta tb ts v Y H Z=ta Y H fun o H1=>tb Y H1 fun i H2=>ts o i v H2 fun H3=>Z Y H3:=rfl
theorem zL:tAsg te g D Y H=te Y H fun x H1=>g x Y H1 D.nx:=rfl
theorem zM{ti:eF} : tAug i te ti D Y H=∃ x,(Y[i]?).join=some x/\te Y H fun y H1=>ti x y H1 fun z H2=>D.nx (Y.set i (some z)) H2:=mO (Q:=fun x H=>te Y H fun y H1=>ti x y H1 fun z H2=>D.nx (Y.set i (some z)) H2)
theorem zN{f:Int->Int->Int}{x:V} : uH f x y H Q=∃ i j,x=.int i/\y=.int j/\Q (.int (f i j)) H:=rfl
theorem zO:tCons te taa Y H R=te Y H fun x H1=>taa Y H1 fun xs H2=>R (x::xs) H2:=rfl
theorem zP:tNil Y H R=R [] H:=rfl
theorem zQ{E:XK} : tCall sp dvs E taa Y H Q=taa Y H fun vs H1=>sp (vs++dvs) H1 Q E:=rfl
theorem ap_cb{rc:List V->Hp->VK->Prop} : e9 rc taa Y H Q=taa Y H fun vs H1=>rc vs H1 Q:=rfl
theorem zR:tTup taa Y H Q=taa Y H fun xs H1=>xs.length<=sizeLine/\∀ p,H1 p=none->Q (.ref p) (A0 H1 p (.tup xs)):=rfl
theorem zS:tLst taa Y H Q=taa Y H fun xs H1=>xs.length<=sizeLine/\∀ p,H1 p=none->Q (.ref p) (A0 H1 p (.lst xs)):=rfl
theorem ap_sl{rs:V->Option Int->Option Int->Hp->VK->Prop}{tl th:TO} : eQ rs te tl th Y H Q=te Y H fun x H1=>tl Y H1 fun l H2=>th Y H2 fun u H3=>rs x l u H3 Q:=rfl
theorem zT{O:Option Int->Hp->Prop} : eP Y H O=O none H:=rfl
theorem zU{O:Option Int->Hp->Prop} : tPart te Y H O=te Y H fun x H1=>∃ i,x=.int i/\O (some i) H1:=rfl
theorem ap_bm{T:String}{rm:V->List V->Hp->VK->Prop} : cA K T rm te taa Y H Q=te Y H fun x H1=>Z3 K T x H1/\taa Y H1 fun xs H2=>rm x xs H2 Q:=rfl
theorem zV{T:String}{rm:V->List V->Hp->VK->Prop} : tBM0 K T rm te Y H Q=te Y H fun x H1=>Z3 K T x H1/\rm x [] H1 Q:=rfl
theorem zW:tYes Y H B=B true H:=rfl
theorem zX:eV Y H Q=∀ p,H p=none->Q (.ref p) (A0 H p (.dK [])):=rfl
theorem zY:tDGet ta tb Y H Q=ta Y H fun x H1=>tb Y H1 fun y H2=>∃ a v,x=.ref a/\DGet H2 a y (some v)/\Q v H2:=rfl
theorem zZ:sDPut ta tb tc D Y H=tc Y H fun v H1=>ta Y H1 fun x H2=>tb Y H2 fun y H3=>∃ a H4,x=.ref a/\DPut H3 a y v H4/\D.nx Y H4:=rfl
theorem ai9{rd:V->V->Hp->VK->Prop} : sDAug ta tb tc rd D Y H=ta Y H fun x H1=>tb Y H1 fun y H2=>∃ a v,x=.ref a/\DGet H2 a y (some v)/\tc Y H2 fun y2 H3=>rd v y2 H3 fun z H4=>∃ H5,DPut H4 a y z H5/\D.nx Y H5:=rfl
theorem aja{x:V} : R7 (fun i j=>V.int (i-j)) x y H Q=∃ i j,x=.int i/\y=.int j/\Q (.int (i-j)) H:=rfl
theorem ahh{x:V} : rI CDiv (fun i j=>V.int (i / j)) x y H Q=∃ i j,x=.int i/\y=.int j/\(0<j/\j<1073741824)/\Q (.int (i / j)) H:=rfl
theorem ajb{x:V} : rI (fun _ j=>0<j) (fun i j=>V.int (i % j)) x y H Q=∃ i j,x=.int i/\y=.int j/\0<j/\Q (.int (i % j)) H:=rfl
theorem ajc : Z3 K "str" (.str z) H=True:=by simp [Z3]
noncomputable def ForIt (J:It) (g:TG) (tb:TS) (D:Ends) (Y:St) (H1:Hp):Prop:=∃ W:Nat->Nat->St->Hp->Prop,(∃ m,W 0 m Y H1)/\∀ i m Y H,W i m Y H->
 (J.stop i H/\D.nx Y H)\/(J.go i H/\∃ N:St->Hp->Prop,(∀ σ' H',N σ' H'->∃ m',m'<m/\W (i+1) m' σ' H')/\∀ x H',J.yld i H x H'->g x Y H' fun σ2 H2=>tb { D with nx:=N,ct:=N,bk:=D.nx } σ2 H2)
theorem ak6{wi:TI}{tbs:TS} : tFor wi g tbs D Y H=wi Y H fun J H1=>ForIt J g tbs D Y H1:=rfl
theorem ahi{Z:It->Hp->Prop} : iList K te Y H Z=te Y H fun x H1=>∃ a,x=.ref a/\(∃ xs,C1 K H1 a xs)/\Z (Z1 K a) H1:=rfl
theorem ajd{Z:It->Hp->Prop} : iTup K te Y H Z=te Y H fun x H1=>∃ a,x=.ref a/\(∃ xs,D2 K H1 a xs)/\Z (kS K a) H1:=rfl
theorem aje{Z:It->Hp->Prop} : iStr te Y H Z=te Y H fun x H1=>∃ z,x=.str z/\Z (y1 z) H1:=rfl
theorem ahj{Z:It->Hp->Prop} : iRng1 taa Y H Z=taa Y H fun vs H1=>∃ j:Int,vs=[.int j]/\-(2 ^ 62)<=j/\j<2 ^ 62/\Z (V0 0 j.toNat) H1:=rfl
theorem ahk{Z:It->Hp->Prop} : iRng2 taa Y H Z=taa Y H fun vs H1=>∃ i j:Int,vs=[.int i,.int j]/\(-(2 ^ 62)<=i/\i<2 ^ 62/\-(2 ^ 62)<=j/\j<2 ^ 62)/\Z (V0 i (j-i).toNat) H1:=rfl
noncomputable def eZ (J:It) (k:Nat) (ixs:List Nat) (g:TG) (c:TT) (te:TE) (Y:St) (Q:VK) (H1:Hp):Prop:=∀ D,H1 D=none->
 ∃ (n:Nat) (W:Nat->List V->St->Hp->Prop),W 0 [] (compStart k ixs Y) (A0 H1 D (.lst []))/\∀ i ys σ2 H2,W i ys σ2 H2->H2 D=some (.lst ys)->
  (J.stop i H2/\Q (.ref D) H2)\/
  (i<n/\J.go i H2/\∀ x H',J.yld i H2 x H'->g x σ2 H' fun σ3 H3=>c σ3 H3 fun b H4=>
   if b=true then te σ3 H4 fun y H5=>H5 D=some (.lst ys)/\ys.length<sizeLine/\W (i+1) (ys++[y]) σ3 (A0 H5 D (.lst (ys++[y])))
   else H4 D=some (.lst ys)/\W (i+1) ys σ3 H4)
theorem ajf{wi:TI}{k:Nat} : tComp wi k ixs g tt te Y H Q=wi Y H fun J H1=>eZ J k ixs g tt te Y Q H1:=rfl
end
theorem ajg{b k:Bool} : TruV K (.bl b) H k=(k=b):=rfl
theorem ahl{i:Int}{k:Bool} : TruV K (.int i) H k=(k=(i != 0)):=rfl
theorem ahm{k:Bool} : TruV K (.str z) H k=(z.length<=sizeLine/\k=((z.length:Int) != 0)):=rfl
theorem ahn{k:Bool} : TruV K .non H k=(k=false):=rfl
theorem aho : start N vs=vs.map some++K7 (N.length-vs.length) none:=rfl
theorem adB{k:Nat} : compStart k ixs Y=K7 k none++ixs.map fun i=>(Y[i]?).join:=rfl
theorem ajh{i:Int} : p9 K (.str z) (.int i) H Q=∃ c,z.length<=sizeLine/\J8 z.cps.toList i=some c/\Q (.str ⟨#[c]⟩) H:=by
 simp only [p9,rIxL,rIxT,rIxS];refine propext ⟨fun h=>?_,fun ⟨c,h⟩=>.inr (.inr ⟨z,i,c,rfl,rfl,h⟩)⟩
 rcases h with ⟨p,xs,j,v,e,_⟩ | ⟨p,xs,j,v,e,_⟩ | ⟨z',i',c,e1,e2,h⟩
 .cases e
 .cases e
 .cases e1;cases e2;exact ⟨c,h⟩
theorem aji{i:Int} : p9 K (.ref p) (.int i) H Q=∃ xs v,(C1 K H p xs\/D2 K H p xs)/\J8 xs i=some v/\Q v H:=by
 simp only [p9,rIxL,rIxT,rIxS];refine propext ⟨fun h=>?_,fun ⟨xs,v,h,r⟩=>?_⟩
 .rcases h with ⟨p',xs,j,v,e1,e2,h1,h2⟩ | ⟨p',xs,j,v,e1,e2,h1,h2⟩ | ⟨z',i',c,e1,e2,h⟩
  .cases e1;cases e2;exact ⟨xs,v,.inl h1,h2⟩
  .cases e1;cases e2;exact ⟨xs,v,.inr h1,h2⟩
  .cases e1
 .rcases h with h | h
  .exact .inl ⟨p,xs,i,v,rfl,rfl,h,r⟩
  .exact .inr (.inl ⟨p,xs,i,v,rfl,rfl,h,r⟩)
theorem f7{α:Type}{xs:List α}{i:Int}(h0:0<=i)(h1:i<xs.length):∃ v,J8 xs i=some v/\v∈xs:=by
 have D5:i.toNat<xs.length:=by lia
 refine ⟨xs[i.toNat],?_,List.getElem_mem D5⟩;unfold J8 R9;rw [if_pos h0,if_pos h1];simp [D5]
theorem Q5:bootBuiltins "len"=some (.builtin "len"):=by decide +kernel
theorem g0:bootBuiltins "isinstance"=some (.builtin "isinstance"):=by decide +kernel
theorem fA:bootBuiltins "all"=some (.builtin "all"):=by decide +kernel
theorem ak7:bootBuiltins "ord"=some (.builtin "ord"):=by decide +kernel
theorem ajj:bootBuiltins "list"=some (.type "list"):=by decide +kernel
theorem mP:bootBuiltins "tuple"=some (.type "tuple"):=by decide +kernel
theorem mQ:bootBuiltins "str"=some (.type "str"):=by decide +kernel
theorem ajk:bootBuiltins "bool"=some (.type "bool"):=by decide +kernel
section
variable {K:PySem.W.Frag} {H:Hp} {Q:VK} {i j:Int} {x y:Str} {u v:V} {b c:Bool} {p q:Addr} {lo hi:Option Int} {cm:Bool}
theorem ad_ii:rAddU K (.int i) (.int j) H Q=Q (.int (i+j)) H:=rfl
theorem ad_ss:rAddU K (.str x) (.str y) H Q=(x.length+y.length<=sizeLine/\Q (.str (x++y)) H):=rfl
theorem ad_rr:rAddU K (.ref p) (.ref q) H Q=rAddR K p q H Q:=rfl
theorem mu_ii:rMulU (.int i) (.int j) H Q=(CMul i j/\Q (.int (i*j)) H):=rfl
theorem mu_ri:rMulU (.ref p) (.int j) H Q=rRep (.ref p) (.int j) H Q:=rfl
theorem eq_ii:rEqU K (.int i) (.int j) H Q=Q (.bl (decide (i=j))) H:=rfl
theorem eq_ss:rEqU K (.str x) (.str y) H Q=Q (.bl (decide (x=y))) H:=rfl
theorem eq_bb:rEqU K (.bl b) (.bl c) H Q=Q (.bl (decide (b=c))) H:=rfl
theorem eq_rx:rEqU K (.ref p) v H Q=∃ d e,Dn K H (.ref p) d/\Dn K H v e/\min d.depth e.depth<=60/\Q (.bl (Q3 d e)) H:=by cases v <;> rfl
theorem eq_xr:rEqU K v (.ref p) H Q=∃ d e,Dn K H v d/\Dn K H (.ref p) e/\min d.depth e.depth<=60/\Q (.bl (Q3 d e)) H:=by cases v <;> rfl
theorem ne_ii:rNeU K (.int i) (.int j) H Q=Q (.bl (!decide (i=j))) H:=rfl
theorem ne_ss:rNeU K (.str x) (.str y) H Q=Q (.bl (!decide (x=y))) H:=rfl
theorem ne_bb:rNeU K (.bl b) (.bl c) H Q=Q (.bl (!decide (b=c))) H:=rfl
theorem ne_rx:rNeU K (.ref p) v H Q=∃ d e,Dn K H (.ref p) d/\Dn K H v e/\min d.depth e.depth<=60/\Q (.bl (!PyData.eqv d e)) H:=by cases v <;> rfl
theorem ne_xr:rNeU K v (.ref p) H Q=∃ d e,Dn K H v d/\Dn K H (.ref p) e/\min d.depth e.depth<=60/\Q (.bl (!PyData.eqv d e)) H:=by cases v <;> rfl
theorem lt_ii:rLtU (.int i) (.int j) H Q=Q (.bl (decide (i<j))) H:=rfl
theorem lt_ss:rLtU (.str x) (.str y) H Q=Q (.bl (decide (x.cps.toList<y.cps.toList))) H:=rfl
theorem le_ii:rLeU (.int i) (.int j) H Q=Q (.bl (decide (i<=j))) H:=rfl
theorem le_ss:rLeU (.str x) (.str y) H Q=Q (.bl (!decide (y.cps.toList<x.cps.toList))) H:=rfl
theorem gt_ii:rGtU (.int i) (.int j) H Q=Q (.bl (decide (j<i))) H:=rfl
theorem gt_ss:rGtU (.str x) (.str y) H Q=Q (.bl (decide (y.cps.toList<x.cps.toList))) H:=rfl
theorem ge_ii:rGeU (.int i) (.int j) H Q=Q (.bl (decide (j<=i))) H:=rfl
theorem ge_ss:rGeU (.str x) (.str y) H Q=Q (.bl (!decide (x.cps.toList<y.cps.toList))) H:=rfl
theorem in_xs:rInU K b u (.str x) H Q=∃ i,u=.str i/\Q (.bl (b.xor (!(Builtin.Str.occurrences x i 0 x.length 1).isEmpty))) H:=rfl
theorem in_xr:rInU K b u (.ref p) H Q=rInR K b u p H Q:=rfl
theorem sl_s:rSlU K (.str x) lo hi H Q=(x.length<=sizeLine/\Q (.str (cutS x lo hi)) H):=rfl
theorem sl_r:rSlU K (.ref p) lo hi H Q=rSlR K p lo hi H Q:=rfl
theorem len_s:rLenU K [.str x] H Q=(x.length<=sizeLine/\Q (.int x.length) H):=rfl
theorem len_r:rLenU K [.ref p] H Q=∃ n:Nat,LenR K H p n/\Q (.int n) H:=rfl
theorem ak8:eY K cm [.ref p] H Q=rListR K cm p H Q:=rfl
theorem all_r:rAllB cm [.ref p] H Q=∃ bs:List Bool,cm=true/\H p=some (.lst (bs.map V.bl))/\Q (.bl (bs.all id)) H:=rfl
theorem isi_t{n:String} : rIsi [u,.ty n] H Q=∃ T,V1 H u=some T/\isTys.contains n=true/\Q (.bl (y0 T n)) H:=rfl
theorem ord_s:rOrd [.str x] H Q=(x.length=1/\Q (.int (x.cps.getD 0 0:Nat)) H):=rfl
end
theorem forL(Pv:Nat->St->Hp->Prop)(h0:Pv 0 Y H)(hl:∀ i Y H,i<=xs.length->Pv i Y H->C1 K H a xs)(hs:∀ i x Y H,xs[i]?=some x->Pv i Y H->g x Y H fun σ2 H2=>tb { D with nx:=Pv (i+1),ct:=Pv (i+1),bk:=D.nx } σ2 H2)(hd:∀ Y H,Pv xs.length Y H->D.nx Y H):ForIt (Z1 K a) g tb D Y H:=uP Pv h0 hl hs hd
theorem forR{lo:Int}(Pv:Nat->St->Hp->Prop)(h0:Pv 0 Y H)(hs:∀ i Y H,i<n->Pv i Y H->g (.int (lo+i)) Y H fun σ2 H2=>tb { D with nx:=Pv (i+1),ct:=Pv (i+1),bk:=D.nx } σ2 H2)(hd:∀ Y H,Pv n Y H->D.nx Y H):ForIt (V0 lo n) g tb D Y H:=uQ Pv h0 hs hd
noncomputable def CW (n:Nat) (fr:St) (Pv:Nat->List V->Hp->Prop) (i:Nat) (ys:List V) (σ2:St) (H2:Hp):Prop:=i<=n/\ys.length<=i/\(∃ v,σ2=v::fr)/\Pv i ys H2
theorem CW.put{fr:St}{Pv:Nat->List V->Hp->Prop}{o:Option V}(hi:i<n)(hy:ys.length<=i)(p:Pv (i+1) (ys++[y]) H):CW n fr Pv (i+1) (ys++[y]) (o::fr) H:=
 ⟨hi,by rw [K3,Y8];lia,⟨_,rfl⟩,p⟩
theorem compL{c:TT}(fr:St)(E1:compStart 1 ixs Y=none::fr)(Pv:Addr->Nat->List V->Hp->Prop)(h0:∀ D,H1 D=none->Pv D 0 [] (A0 H1 D (.lst [])))(hl:∀ D i ys H,H1 D=none->i<=xs.length->Pv D i ys H->C1 K H a xs)(hs:∀ D i x ys H,H1 D=none->i<xs.length->xs[i]?=some x->Pv D i ys H->H D=some (.lst ys)->ys.length<=i->c (some x::fr) H fun b H4=>
   if b=true then te (some x::fr) H4 fun y H5=>H5 D=some (.lst ys)/\ys.length<sizeLine/\CW xs.length fr (Pv D) (i+1) (ys++[y]) (some x::fr) (A0 H5 D (.lst (ys++[y])))
   else H4 D=some (.lst ys)/\CW xs.length fr (Pv D) (i+1) ys (some x::fr) H4)(hd:∀ D ys H,H1 D=none->Pv D xs.length ys H->H D=some (.lst ys)->ys.length<=xs.length->Q (.ref D) H):eZ (Z1 K a) 1 ixs (gName 0) c te Y Q H1:=by
 intro D hD;refine ⟨xs.length,CW xs.length fr (Pv D),⟨O2 _,O2 _,⟨none,E1⟩,h0 D hD⟩,?_⟩;rintro i ys σ2 H2 ⟨hi,hy,⟨v,rfl⟩,p⟩ hDy;have q:=hl D i ys H2 hD hi p
 by_cases D5:i<xs.length
 .refine .inr ⟨D5,⟨xs,xs[i],q,by simp [D5]⟩,fun x H' y=>?_⟩;obtain ⟨e,y⟩:=y;subst e;exact hs D i x ys _ hD D5 (y xs q) p hDy hy
 .have e:i=xs.length:=by lia
  subst e;exact .inl ⟨⟨xs,q,B5 _⟩,hd D ys H2 hD p hDy hy⟩
theorem compS{c:TT}(fr:St)(E1:compStart 1 ixs Y=none::fr)(Pv:Addr->Nat->List V->Hp->Prop)(h0:∀ D,H1 D=none->Pv D 0 [] (A0 H1 D (.lst [])))(hs:∀ D i x ys H,H1 D=none->i<z.cps.size->z.cps.toList[i]?=some x->Pv D i ys H->H D=some (.lst ys)->ys.length<=i->c (some (.str ⟨#[x]⟩)::fr) H fun b H4=>
   if b=true then te (some (.str ⟨#[x]⟩)::fr) H4 fun y H5=>H5 D=some (.lst ys)/\ys.length<sizeLine/\CW z.cps.size fr (Pv D) (i+1) (ys++[y]) (some (.str ⟨#[x]⟩)::fr) (A0 H5 D (.lst (ys++[y])))
   else H4 D=some (.lst ys)/\CW z.cps.size fr (Pv D) (i+1) ys (some (.str ⟨#[x]⟩)::fr) H4)(hd:∀ D ys H,H1 D=none->Pv D z.cps.size ys H->H D=some (.lst ys)->ys.length<=z.cps.size->Q (.ref D) H):eZ (y1 z) 1 ixs (gName 0) c te Y Q H1:=by
 intro D hD;refine ⟨z.cps.size,CW z.cps.size fr (Pv D),⟨O2 _,O2 _,⟨none,E1⟩,h0 D hD⟩,?_⟩;rintro i ys σ2 H2 ⟨hi,hy,⟨v,rfl⟩,p⟩ hDy
 by_cases D5:i<z.cps.size
 .refine .inr ⟨D5,D5,fun x H' y=>?_⟩;obtain ⟨e,c,hc,rfl⟩:=y;subst e;exact hs D i c ys _ hD D5 hc p hDy hy
 .have e:i=z.cps.size:=by lia
  subst e;exact .inl ⟨B5 _,hd D ys H2 hD p hDy hy⟩
theorem B8{q:Addr}{o u:HO}(h:H p=some o)(n:H q=none):A0 H q u p=some o:=by rw [A7 (F4 h n)];exact h
theorem Same.new{q:Addr}{u:HO}(n:H q=none):Same H (A0 H q u):=fun _ _ h=>B8 h n
theorem Same.put{q:Addr}{u:HO}(s:Same H0 H)(n:H0 q=none):Same H0 (A0 H q u):=fun b o h=>by rw [A7 (F4 h n)];exact s b o h
end L2
set_option maxRecDepth 100000
namespace L2
open PySem PySem.Spec PyProof.Rows
theorem cxK{CX:N4}{P:Program}{base:Heap}{q:Str}{sc:Scope}{o:List Env}{E:XK} : (cxOf CX P w K mg base N q sc f cd A o s H E).K=K:=rfl
theorem cxKn : X.nox.K=X.K:=rfl
theorem cxKb{sc:Scope} : (G1 X sc N' C zt zr fp pins).K=X.K:=rfl
theorem cxC{CX:N4}{P:Program}{base:Heap}{q:Str}{sc:Scope}{o:List Env}{E:XK} : (cxOf CX P w K mg base N q sc f cd A o s H E).calm=true:=rfl
theorem cxCn : X.nox.calm=X.calm:=rfl
theorem cxCb{sc:Scope} : (G1 X sc N' C zt zr fp pins).calm=X.calm:=rfl
theorem iteD{c A B:Prop}[Decidable c](h1:c->A)(h2:¬ c->B):if decide c=true then A else B:=by
 by_cases h:c
 .rw [decide_eq_true h,if_pos rfl];exact h1 h
 .rw [decide_eq_false h,if_neg F3];exact h2 h
theorem iteN{c A B:Prop}[Decidable c](h1:¬ c->A)(h2:c->B):if (!decide c)=true then A else B:=by
 by_cases h:c
 .rw [decide_eq_true h];exact iteF (h2 h)
 .rw [decide_eq_false h];exact iteT (h1 h)
theorem P3(h:H p=some (.lst xs)):Z3 K "list" (.ref p) H:=.inl ⟨rfl,_,C1.of h⟩
theorem appOk{l:Addr}(h:H l=some (.lst xs))(hz:xs.length<sizeLine)(q:Q .non (A0 H l (.lst (xs++[y])))):cB (.ref l) [y] H Q:=⟨l,xs,y,rfl,rfl,h,hz,q⟩
theorem N6(h:n<=1000000):n<sizeLine:=Nat.lt_of_le_of_lt h (by decide)
theorem N7(h:n<=1000000):n<=sizeLine:=Nat.le_of_lt (N6 h)
noncomputable def signB (c:Nat):Bool:=decide (33<=c)&&decide (c<=126)&&decide (c≠37)
noncomputable def D3 (z:Str):Bool:=decide (1<=z.length)&&decide (z.length<=2)&&z.cps.toList.all signB
theorem mR(h:D3 z=true):E2 z=true/\1<=z.length/\z.length<=2:=by
 unfold D3 at h;simp only [J7,decide_eq_true_eq] at h;refine ⟨?_,h.1.1,h.1.2⟩;unfold E2;rw [bR];intro c hc
 have:=N2.mp h.2 c (p0.mpr hc)
 unfold signB at this;simp only [J7,decide_eq_true_eq] at this;simp only [decide_eq_true_eq];lia
theorem mS(h:signB c=true):D3 ⟨#[c]⟩=true:=by
 unfold D3;simp [Str.length,h]
theorem mT(x y:Str):(x++y).cps.toList=x.cps.toList++y.cps.toList:=by
 show (x.cps++y.cps).toList=_
 simp
theorem fB(x:Str):x.length=x.cps.toList.length:=by simp [Str.length]
theorem ad9(x y:Str):(x++y).length=x.length+y.length:=by rw [fB,mT,K3,fB,fB]
theorem mU{d:Nat}(h:signB c=true)(h':signB d=true):D3 ((⟨#[c]⟩:Str)++⟨#[d]⟩)=true:=by
 unfold D3;rw [ad9,mT];simp [Str.length,h,h']
noncomputable def SG:List Nat:=[33,34,35,36]++(R4 89).map (· + 38)
theorem ajl:∀ c∈SG,signB c=true:=by decide +kernel
theorem ak9:SG.length=93:=by decide +kernel
structure IsRows(H:Hp)(a:Addr)(rs:List Addr)(zss:List (List Str)):Prop where
 top:H a=some (.lst (rs.map V.ref))
 row:Paired (fun r (zs:List Str)=>H r=some (.lst (zs.map V.str))) rs zss
theorem Paired.at{α β:Type}{F:α->β->Prop} : ∀ {zx:List α} {zw:List β} {i:Nat} {a:α},Paired F zx zw->zx[i]?=some a->∃ b,zw[i]?=some b/\F a b
 | _,_,_,_,.nil,h=>by simp at h
 | _,_,0,_,.cons h t,e=>by simp at e;subst e;exact ⟨_,rfl,h⟩
 | _,_,i+1,_,.cons h t,e=>by
  obtain ⟨b,h1,h2⟩:=Paired.at (i:=i) t (by simpa using e);exact ⟨b,by simpa using h1,h2⟩
theorem cI:∀ zs:List Str,U6 (zs.map X2)=0
 | []=>rfl
 | z::zs=>by rw [E5,U6,cI zs,P1];rfl
theorem mV(xs ys:List Str):Q3 (.list (xs.map .str)) (.list (ys.map .str))=decide (xs=ys):=by rw [Q3,mK]
noncomputable def dd (acc:List Str) (z:Str):List Str:=if z∈acc then acc else acc++[z]
noncomputable def mW (acc zs:List Str):List Str:=zs.foldl dd acc
noncomputable def toldL (zss:List (List Str)):List Str:=zss.foldl mW []
theorem fC(z:Str):∀ acc:List Str,q5 (.str z) (acc.map V.str)=decide (z∈acc)
 | []=>by simp [q5]
 | y::acc=>by
  have ih:=fC z acc;unfold q5 at ih ⊢
  rw [E5,Y9,ih];show ((y==z) || decide (z∈acc))=_
  by_cases e:y=z
  .subst e
   simp
  .have e1:(y==z)=false:=by simpa using e
   rw [e1,Bool.false_or]
   by_cases h:z∈acc
   .rw [decide_eq_true h,decide_eq_true (J0 _ h)]
   .rw [decide_eq_false h,decide_eq_false];intro q
    rcases C0.mp q with q | q
    .exact e q.symm
    .exact h q
theorem mX:∀ acc:List Str,(acc.map V.str).all flatV=true
 | []=>rfl
 | _::acc=>by rw [E5,List.all_cons,mX acc];rfl
theorem fD{α β:Type}{f:α->β}{l:List α}{y:β}(h:(l.map f)[i]?=some y):∃ x,l[i]?=some x/\y=f x:=by
 rw [Q2] at h;cases e:l[i]? with
 | none=>rw [e] at h;cases h
 | some x=>rw [e] at h;exact ⟨x,rfl,(Option.some.inj h).symm⟩
noncomputable def SS:Str:=Str.ofString "!\"#$&'()*+,-./0123456789:;<=>?@ABCDEFGHIJKLMNOPQRSTUVWXYZ[\\]^_`"++Str.ofString "abcdefghijklmnopqrstuvwxyz{|}~"
theorem SS_eq:SS.cps.toList=SG:=by decide +kernel
theorem t5:SS.length<=sizeLine:=by decide +kernel
theorem ajm:(Str.ofString "!\"#$&'()*+,-./0123456789:;<=>?@ABCDEFGHIJKLMNOPQRSTUVWXYZ[\\]^_`").length+(Str.ofString "abcdefghijklmnopqrstuvwxyz{|}~").length<=sizeLine:=by decide +kernel
theorem SS_at{i:Int}(h0:0<=i)(h1:i<93):∃ c,J8 SS.cps.toList i=some c/\signB c=true:=by
 rw [SS_eq];obtain ⟨c,h2,h3⟩:=f7 (xs:=SG) h0 (by rw [ak9];exact h1);exact ⟨c,h2,ajl c h3⟩
theorem drawn{i:Int}(hx:∀ x∈xs,∃ n,x=V.int n)(h0:0<=i)(h1:i<xs.length):∃ n,J8 xs i=some (V.int n):=by
 obtain ⟨v,h2,h3⟩:=f7 h0 h1;obtain ⟨n,rfl⟩:=hx v h3;exact ⟨n,h2⟩
structure RowsAt(H0 H:Hp)(a:Addr)(rs:List Addr)(zss:List (List Str)):Prop where
 rows:IsRows H a rs zss
 nd:(a::rs).Nodup
 new:∀ r∈a::rs,H0 r=none
 same:Same H0 H
theorem ajn(h:H p=some (.lst xs)):V1 H (.ref p)=some "list":=by unfold V1;simp only [h]
end L2
set_option maxRecDepth 100000
namespace L2
open PySem PySem.Spec PyProof.Rows
structure QE(X:Cx)(e:Expr)(t:TE):Prop where
 out:PE X e t
structure QT(X:Cx)(e:Expr)(t:TT):Prop where
 out:PT X e t
structure QW(X:Cx)(e:Expr)(t:TT):Prop where
 out:PW X e t
structure QA(X:Cx)(es:List Expr)(t:TA):Prop where
 out:PA X es t
structure QS(X:Cx)(st:Stmt)(t:TS):Prop where
 out:PS X st t
structure QSs(X:Cx)(st:List Stmt)(t:TS):Prop where
 out:M3 X st t
structure QG(X:Cx)(tg:Expr)(t:TG):Prop where
 out:PG X tg t
structure QGs(X:Cx)(tg:List Expr)(t:Q4):Prop where
 out:x5 X tg t
structure QI(X:Cx)(tg iter:Expr)(wi:TI):Prop where
 out:PI X tg iter wi
structure QO(X:Cx)(e:Option Expr)(t:TO):Prop where
 out:PO X e t
structure QIfs(X:Cx)(ifs:List Expr)(t:TT):Prop where
 out:PIfs X ifs t
structure QOp(X:Cx)(f:Value->Value->Sem Value)(r:R2):Prop where
 out:C5 X f r
structure QCall(X:Cx)(f:Value)(r:List V->Hp->VK->Prop):Prop where
 out:CallR X f r
structure QMt(X:Cx)(id:String)(r:V->List V->Hp->VK->Prop):Prop where
 out:eS X id r
structure QIn(X:Cx)(op:Operator)(t:V->V->Hp->VK->Prop):Prop where
 out:InOp X op t
section
variable {X:Cx} {a b c e o i value:Expr} {es:List Expr} {ta tb tc te to ti tv:TE} {tA tB':TT} {t u:TS} {tl:TA} {pos p pos' tpos:Pos} {rest:List Expr} {r r':R2} {x:Str}
theorem A1{i j} : QE X (.Constant (.int i) j pos) (tC (.int i)):=⟨tK⟩
theorem qe_bl{b j} : QE X (.Constant (.bool b) j pos) (tC (.bl b)):=⟨pe_bl⟩
theorem fE{j} : QE X (.Constant .none j pos) (tC .non):=⟨tL⟩
theorem A5{x j} : QE X (.Constant (.str x) j pos) (tC (.str x)):=⟨tM⟩
theorem qe_v(hN:X.N[n]?=some x)(hv:bV X.env.scope x)(hd:(x==("__debug__" : Str))=false)(G5:(x==("__classdict__" : Str))=false):QE X (.Name x pos) (tVar n):=⟨kP hN hv hd G5⟩
theorem qv(n:Nat)(hN:X.N[n]?=some x:=by rfl)(hv:bV X.env.scope x:=by first | exact Or.inl rfl | exact Or.inr (Or.inl rfl) | exact Or.inr (Or.inr rfl))(hd:(x==("__debug__" : Str))=false:=by decide)(G5:(x==("__classdict__" : Str))=false:=by decide):QE X (.Name x pos) (tVar n):=⟨kP hN hv hd G5⟩
theorem ahp{i:Int}(h:∃ t,X.mg x=some (.int i t))(hg:Gl X x:=by rfl)(hd:(x==("__debug__" : Str))=false:=by decide):QE X (.Name x p) (tC (.int i)):=⟨yM h hg hd⟩
theorem O4{a:Addr}(h:X.mg x=some (.ref a))(hg:Gl X x:=by rfl)(hd:(x==("__debug__" : Str))=false:=by decide):QE X (.Name x p) (tC (.ref a)):=⟨yN h hg hd⟩
theorem qe_ty{n:String}(hm:X.mg x=none)(hv:bootBuiltins x=some (.type n))(hg:Gl X x:=by rfl)(hn:x≠"__name__":=by decide)(hd:(x==("__debug__" : Str))=false:=by decide):QE X (.Name x p) (tC (.ty n)):=⟨tN hg hm hv rfl hn hd⟩
theorem qe_op{op:Operator}(ho:QOp X (binaryOp op) r)(ha:QE X a ta)(hb:QE X b tb):QE X (.BinOp a op b pos) (X4 r ta tb):=⟨pe_op ho.out ha.out hb.out⟩
theorem ajo(ha:QE X a ta)(hK:X.K=K:=by rfl):QE X (.UnaryOp .Not a pos) (tNotT K ta):=by subst hK;exact ⟨xX ha.out⟩
theorem y3{op}(ha:QE X a ta):QE X (.BoolOp op [a] pos) ta:=⟨tS ha.out⟩
theorem g6(ha:QE X a ta)(hb:QE X (.BoolOp .And (b::rest) pos) tb):QE X (.BoolOp .And (a::b::rest) pos) (tAndV ta tb):=⟨tT ha.out hb.out⟩
theorem X7{op:CmpOp}(ho:QOp X (compareOp op) r)(ha:QE X a ta)(hb:QE X b tb)(hm:behindInMarks op b=false:=by first | exact lA _ | rfl):QE X (.Compare a [op] [b] pos) (X4 r ta tb):=⟨vA ho.out ha.out hb.out hm⟩
theorem cJ{op op':CmpOp}(ho:QOp X (compareOp op) r)(T7:QOp X (compareOp op') r')(ha:QE X a ta)(hb:QE X b tb)(hc:QE X c tc)(hm:lastMarks [op,op'] [b,c]=false:=by with_unfolding_all rfl):QE X (.Compare a [op,op'] [b,c] pos) (eJ r r' ta tb tc):=⟨vC ho.out T7.out ha.out hb.out hc.out hm⟩
theorem A2:QA X [] tNil:=⟨vR⟩
theorem qa_c(ha:QE X e te)(hr:QA X es tl)(h:J1 e=false:=by rfl):QA X (e::es) (tCons te tl):=⟨pa_c ha.out hr.out h⟩
theorem M0(h:QA X es tl):QE X (.List es pos) (tLst tl):=⟨vU h.out⟩
theorem M1{x1}(h:QA X es tl):QE X (.Tuple es x1 pos) (tTup tl):=⟨vT h.out⟩
theorem mY:QE X (.Dict [] [] pos) eV:=⟨xL⟩
theorem fF:QO X none eP:=⟨wF⟩
theorem y4(h:QE X e te):QO X (some e) (tPart te):=⟨wG h.out⟩
theorem cK{lo hi:Option Expr}{tlo thi:TO}{p2:Pos}(he:QE X e te)(hl:QO X lo tlo)(hu:QO X hi thi)(hK:X.K=K:=by rfl):QE X (.Subscript e (.Slice lo hi none p2) pos) (eQ (rSlU K) te tlo thi):=by subst hK;exact ⟨wH p_sl he.out hl.out hu.out⟩
theorem ajp(hu:X.A.units+1<cLine)(ho:QE X o to)(hi:QE X i ti)(hs:NoSl i:=by exact fun _ _=>rfl):QE X (.Subscript o i pos) (tDGet to ti):=⟨xI hu ho.out hi.out hs⟩
theorem qe_ix(ha:QE X a ta)(hb:QE X b tb)(hs:lU b:=by exact fun _ _=>rfl)(hK:X.K=K:=by rfl):QE X (.Subscript a b pos) (X4 (p9 K) ta tb):=by subst hK;exact ⟨pe_ix wM ha.out hb.out hs⟩
theorem qe_cB{id:String}{rc:List V->Hp->VK->Prop}(hc:QCall X (.builtin id) rc)(hm:X.mg x=none)(hv:bootBuiltins x=some (.builtin id))(ha:QA X (e::es) tl)(hg:Gl X x:=by rfl)(h1:J1 e=false:=by rfl)(h2:M5 es=true:=by rfl)(hn:x≠"__name__":=by decide)(C6:(x==("__debug__" : Str))=false:=by decide) :
  QE X (.Call (.Name x p) (e::es) [] pos) (e9 rc tl):=⟨pe_cB hc.out hg hm hv ha.out h1 h2 hn C6⟩
theorem qe_cT{T:String}{rc:List V->Hp->VK->Prop}(hc:QCall X (.type T) rc)(hm:X.mg x=none)(hv:bootBuiltins x=some (.type T))(ha:QA X (e::es) tl)(hg:Gl X x:=by rfl)(h1:J1 e=false:=by rfl)(h2:M5 es=true:=by rfl)(hn:x≠"__name__":=by decide)(C6:(x==("__debug__" : Str))=false:=by decide) :
  QE X (.Call (.Name x p) (e::es) [] pos) (e9 rc tl):=⟨pe_cT hc.out hg hm hv ha.out h1 h2 hn C6⟩
theorem qe_mB{T id:String}{apos cpos:Pos}{rm:V->List V->Hp->VK->Prop}(pa:PlainAttrs T)(slot:Slot T name id)(P7:typeOf (.builtin id)=pure (.type "method_descriptor"))(hm:QMt X id rm)(ho:QE X o to)(ha:QA X (e::es) tl)(h1:J1 e=false:=by rfl)(h2:M5 es=true:=by rfl)(h3:decide ((e::es).length<30)=true:=by rfl)(E4:attributeBase o name X.env (eval o X.env)=eval o X.env:=by rfl)(M6:(apos.endLine==cpos.line)=true:=by rfl)(hK:X.K=K:=by rfl):QE X (.Call (.Attribute o name apos) (e::es) [] cpos) (cA K T rm to tl):=by subst hK;exact ⟨pe_mB pa slot P7 hm.out ho.out ha.out h1 h2 h3 E4 M6⟩
theorem G6{k:Nat}(G:FO X.prog X.w X.K X.mg X.base k x ps dvs sp)(hr:Room k X.A)(ha:QA X (e::es) tl)(hg:Gl X x:=by rfl)(h1:J1 e=false:=by rfl)(h2:M5 es=true:=by rfl)(C6:(x==("__debug__" : Str))=false:=by decide) :
  QE X (.Call (.Name x p) (e::es) [] pos) (tCall sp dvs E0 tl):=⟨yL G hr ha.out hg h1 h2 C6⟩
theorem D6{op:CmpOp}(ho:QOp X (compareOp op) r)(ha:QE X a ta)(hb:QE X b tb)(hm:behindInMarks op b=false:=by first | exact lA _ | rfl):QT X (.Compare a [op] [b] pos) (tTest (X4 r ta tb)):=⟨vB ho.out ha.out hb.out hm⟩
theorem fG(ha:QT X a tA):QT X (.UnaryOp .Not a pos) (tNot tA):=⟨tR ha.out⟩
theorem y9(ha:QT X a tA):QW X (.BoolOp .And [a] pos) tA:=⟨tO ha.out⟩
theorem cL(ha:QT X a tA):QW X (.BoolOp .Or [a] pos) tA:=⟨tP ha.out⟩
theorem z4(ha:QT X a tA)(hb:QW X (.BoolOp .And (b::rest) pos) tB'):QW X (.BoolOp .And (a::b::rest) pos) (tAnd tA tB'):=⟨tQ ha.out hb.out⟩
theorem qw_or(ha:QT X a tA)(hb:QW X (.BoolOp .Or (b::rest) pos) tB'):QW X (.BoolOp .Or (a::b::rest) pos) (eE tA tB'):=⟨pw_or ha.out hb.out⟩
theorem QW.pt(h:QW X a tA):QT X a tA:=⟨h.out.pt⟩
theorem t6(ha:QE X a ta)(he:∀ whole,isTrue a X.env whole=(do let v <- whole;standAt a.pos;holding [v] (truthy v)):=by intro _;rfl)(hK:X.K=K:=by rfl):QT X a (tTru K ta):=by subst hK;exact ⟨xW ha.out he⟩
variable {st:Stmt} {sts:List Stmt}
theorem K0:QSs X [] tNext:=⟨tV⟩
theorem B1(h:QS X st t):QSs X [st] t:=⟨tX h.out⟩
theorem A6(h:QS X st t)(h2:QSs X sts u):QSs X (st::sts) (tSeq t u):=⟨tW h.out h2.out⟩
theorem D9(he:QE X e te):QS X (.Return (some e) pos) (tRet te):=⟨uA he.out⟩
theorem B6(hN:X.N.Nodup)(hi:X.N[n]?=some x)(hx:X3 X.env.scope x)(he:QE X e te)(hs:swapsWith e (some (.Name x pos')) pos.line X.env=pure false:=by rfl)(hf:X.fn x=true:=by rfl):QS X (.Assign [.Name x pos'] e pos) (tAsg te (gName n)):=⟨uG hN hi hx he.out hs (.inl hf)⟩
theorem z5{f:Str}(ho:QE X o to)(hv:QE X value tv)(hs:swapsWith value (some (.Attribute o f pos')) pos.line X.env=pure false:=by rfl)(hK:X.K=K:=by rfl):QS X (.Assign [.Attribute o f pos'] value pos) (sFld K to tv f):=by subst hK;exact ⟨vL ho.out hv.out hs⟩
theorem X8{f:Str}(ho:QE X o to)(hb:attributeBase o f X.env (eval o X.env)=eval o X.env:=by rfl)(hK:X.K=K:=by rfl):QE X (.Attribute o f pos) (tFld K to f):=by subst hK;exact ⟨vK ho.out hb⟩
theorem mZ(hu:X.A.units+1<cLine)(ho:QE X o to)(hi:QE X i ti)(hv:QE X value tv)(hs:swapsWith value (some (.Subscript o i pos')) pos.line X.env=pure false:=by rfl):QS X (.Assign [.Subscript o i pos'] value pos) (sDPut to ti tv):=⟨xJ hu ho.out hi.out hv.out hs⟩
theorem K9(he:QE X e te)(hs:swapsWith e none pos.line X.env=pure false:=by rfl):QS X (.Expr e pos) (tDrop te):=⟨tZ he.out hs⟩
theorem qs_if{sa sb:List Stmt}(hc:QT X c tA)(ha:QSs X sa t)(hb:QSs X sb u):QS X (.If c sa sb pos) (tIfS tA t u):=⟨ps_if hc.out ha.out hb.out⟩
theorem Z5{body:List Stmt}{wi:TI}(hp:PassesOwn (model X.prog X.w) X.A X.env X.xe)(hi:QI X tg iter wi)(hg:QG X tg g)(hb:QSs X body t)(hc:X.calm=true:=by rfl)(hs:∀ x,foldedSetIterable iter X.env x=pure x:=by intro _;rfl):QS X (.For tg iter body [] pos) (tFor wi g t):=⟨uO hp hc hi.out hg.out hb.out hs⟩
theorem P4(hN:X.N.Nodup)(hi:X.N[n]?=some x)(hx:X3 X.env.scope x)(hf:X.fn x=true\/X.env.scope.names.lookup x=some .local:=by first | exact .inl rfl | exact .inr rfl | assumption):QG X (.Name x pos) (gName n):=⟨uC hN hi hx hf⟩
theorem ajq:QGs X [] gNil:=⟨uD⟩
theorem fH{gs:Q4}(h1:QG X e g)(h2:QGs X es gs)(hs:(assignEach (e::es) X.env).map (·.2)=assign e X.env::(assignEach es X.env).map (·.2):=by rfl):QGs X (e::es) (gCons g gs):=⟨uE h1.out h2.out hs⟩
theorem ala{k:Nat}{gs:Q4}(h:QGs X es gs)(hc:X.calm=true:=by rfl)(hn:(assignEach es X.env).length=n:=by rfl)(j5:(assignEach es X.env).findIdx? (·.1)=none:=by rfl)(hK:X.K=K:=by rfl):QG X (.Tuple es k pos) (gTup K n gs):=by subst hK;exact ⟨uF hc h.out hn j5⟩
variable {tg:Expr}
theorem cM(h:QE X e te)(hK:X.K=K:=by rfl):QI X tg e (iList K te):=by subst hK;exact ⟨uK h.out⟩
theorem nA(h:QE X e te):QI X tg e (iStr te):=⟨yK h.out⟩
theorem qi_r1(hm:X.mg "range"=none)(ha:QA X [a] tl)(hg:Gl X "range":=by rfl)(h1:J1 a=false:=by rfl):QI X tg (.Call (.Name "range" p) [a] [] pos) (iRng1 tl):=⟨pi_r1 hg hm ha.out h1⟩
theorem fI:QIfs X [] tYes:=⟨xT⟩
variable {sc:Scope} {N':List Str} {k:Nat} {ixs:List Nat} {ifs:List Expr} {wi:TI} {g:TG} {elt:Expr}
theorem fJ(C:CompOk X.N X.env.scope.names sc N' k ixs)(hi:QI X tg e wi)(hg:∀ C zt zr fp pins,QG (G1 X sc N' C zt zr fp pins) tg g)(hc:∀ C zt zr fp pins,QIfs (G1 X sc N' C zt zr fp pins) ifs tA)(he:∀ C zt zr fp pins,QE (G1 X sc N' C zt zr fp pins) elt te)(K6:X.calm=true:=by rfl)(hs:∀ x,foldedSetIterable e X.env x=pure x:=by intro _;rfl):QE X (.ListComp elt [⟨tg,e,ifs,0⟩] sc pos) (tComp wi k ixs g tA te):=
 ⟨xV C K6 hi.out (fun _ _ _ _ _=>(hg _ _ _ _ _).out) (fun _ _ _ _ _=>(hc _ _ _ _ _).out) (fun _ _ _ _ _=>(he _ _ _ _ _).out) hs⟩
theorem q_add(hK:X.K=K:=by rfl):QOp X (binaryOp .Add) (rAddU K):=by subst hK;exact ⟨p_add⟩
theorem q_sub:QOp X (binaryOp .Sub) (R7 fun i j=>.int (i-j)):=⟨p_sub⟩
theorem q_mul:QOp X (binaryOp .Mult) rMulU:=⟨p_mul⟩
theorem L5:QOp X (binaryOp .FloorDiv) (rI CDiv fun i j=>.int (i / j)):=⟨xZ⟩
theorem q_mod:QOp X (binaryOp .Mod) (rI (fun _ j=>0<j) fun i j=>.int (i % j)):=⟨p_mod⟩
theorem q_eq(hu:X.A.units+64<cLine)(hK:X.K=K:=by rfl):QOp X (compareOp .Eq) (rEqU K):=by subst hK;exact ⟨p_eq hu⟩
theorem q_ne(hu:X.A.units+64<cLine)(hK:X.K=K:=by rfl):QOp X (compareOp .NotEq) (rNeU K):=by subst hK;exact ⟨p_ne hu⟩
theorem q_lt:QOp X (compareOp .Lt) rLtU:=⟨p_lt⟩
theorem q_le:QOp X (compareOp .LtE) rLeU:=⟨p_le⟩
theorem q_gt:QOp X (compareOp .Gt) rGtU:=⟨p_gt⟩
theorem q_ge:QOp X (compareOp .GtE) rGeU:=⟨p_ge⟩
theorem q_in(hu:X.A.units+64<cLine)(hK:X.K=K:=by rfl):QOp X (compareOp .In) (rInU K false):=by subst hK;exact ⟨p_in hu⟩
theorem q_isN:QOp X (compareOp .Is) (fun x y H Q=>y=.non/\Q (.bl (decide (x=.non))) H):=⟨uZ⟩
theorem q_len(hK:X.K=K:=by rfl):QCall X (.builtin "len") (rLenU K):=by subst hK;exact ⟨p_len⟩
theorem q_isi:QCall X (.builtin "isinstance") rIsi:=⟨yI⟩
theorem q_all(jM:X.calm=calm:=by rfl):QCall X (.builtin "all") (rAllB calm):=by subst jM;exact ⟨p_all⟩
theorem q_ord:QCall X (.builtin "ord") rOrd:=⟨p_ord⟩
theorem alb(hK:X.K=K:=by rfl)(jM:X.calm=calm:=by rfl):QCall X (.type "list") (eY K calm):=by subst hK;subst jM;exact ⟨yF⟩
theorem P5:QMt X "list.append" cB:=⟨fun pins s Y H x xs v us Q I rx rv h=>lY pins s Y H x xs v us Q I rx rv h⟩
theorem alc:QIn X .Add rAdd:=⟨vN⟩
end
end L2
set_option maxRecDepth 100000
namespace L2
open PySem PySem.Spec PyProof.Rows
noncomputable def ModD (P:Program) (w:World) (K:PySem.W.Frag) (a:Addr) (kvs:List (A9×V)):Prop:=(a==sysModules)=false/\∀ h:Heap,K.In h->∃ vs,KV kvs vs/\h.DictOf (K8 P w) a vs
noncomputable abbrev ModE (w:World):List DictEntry->List (A9×V)->Prop:=Paired fun e kv=>keyIs kv.1 e.key=true/\e.hash=keyH w kv.1/\RelV kv.2 e.val
theorem ModE.pairs{P:Program} : ∀ {es:List DictEntry} {kvs:List (A9×V)},ModE w es kvs->∃ vs:List (A9×Value),KV kvs vs/\Pairs (K8 P w) es vs/\(∀ e∈es,∃ k,(K8 P w).is k e.key=true/\e.hash=(K8 P w).hash k)/\vs.map (·.1)=kvs.map (·.1)
 | _,_,.nil=>⟨[],.nil,.nil,fun e h=>(nomatch h),rfl⟩
 | e::es,kv::kvs,.cons ⟨h1,h2,h3⟩ t=>by
  obtain ⟨vs,a1,a2,a3,a4⟩:=ModE.pairs (P:=P) t;refine ⟨(kv.1,e.val)::vs,.cons ⟨rfl,h3⟩ a1,.cons h1 rfl a2,fun e' he=>?_,by rw [E5,E5,a4]⟩
  rcases C0.mp he with z | z
  .rw [z];exact ⟨kv.1,h1,h2⟩
  .exact a3 e' z
theorem ajr{P:Program}{es:Array DictEntry}{ep:Nat}(l:K.lookup a=some { cls:=.type "dict",dict:=none,data:=.dict es ep,slots:=#[] })(hs:(a==sysModules)=false)(he:ModE w es.toList kvs)(hn:(kvs.map (·.1)).Nodup):ModD P w K a kvs:=by
 refine ⟨hs,fun h X=>?_⟩;obtain ⟨vs,a1,a2,a3,a4⟩:=he.pairs (P:=P);exact ⟨vs,a1,_,es,ep,X a _ l,⟨rfl,rfl,rfl⟩,rfl,fun e h=>a3 e (p0.mpr h),a2,by rw [a4];exact hn⟩
noncomputable def rInM (neg:Bool) (a:Addr) (kvs:List (A9×V)):R2:=fun x y H Q=>y=.ref a/\∃ k,x=kV k/\Q (.bl (neg.xor (valV kvs k).isSome)) H
noncomputable def nB (a:Addr) (kvs:List (A9×V)) (to ti:TE):TE:=fun Y H Q=>to Y H fun x H1=>ti Y H1 fun y H2=>x=.ref a/\∃ k v,y=kV k/\valV kvs k=some v/\Q v H2
section
variable {X:Cx} {a:Addr} {kvs:List (A9×V)} {o i:Expr} {to ti:TE} {pos:Pos}
theorem ahq(M:ModD X.prog X.w X.K a kvs):QOp X (compareOp .NotIn) (rInM true a kvs):=⟨by
 intro pins s Y H x y v u Q I rx ry h;obtain ⟨rfl,k,rfl,q⟩:=h;obtain rfl:u=Value.ref a:=ry;obtain ⟨hd,M⟩:=M;obtain ⟨vs,rel,dd⟩:=M s.heap I.kIn;refine wpAny_notIn_of (kV_is rx) hd dd.mapOf ?_;rw [<- (rel.val k).isSome_eq];exact ⟨.bl _,H,I.tok _,rfl,by simpa using q⟩⟩
theorem ahr(M:ModD X.prog X.w X.K a kvs)(ho:QE X o to)(hi:QE X i ti)(hs:NoSl i:=by exact fun _ _=>rfl):QE X (.Subscript o i pos) (nB a kvs to ti):=⟨by
 intro pins s Y H Q I h;refine mG PySem.F.slot_dict_getitem.lookup hs (A4 (ho.out pins s Y H _ I h) fun u s1 ⟨x,H1,I1,rx,q1⟩=>A4 (hi.out pins s1 Y H1 _ I1 q1) fun iv s2 ⟨y,H2,I2,ry,ex,k,v,ey,l,q2⟩=>?_);subst ex ey;obtain rfl:u=Value.ref a:=rx;obtain ⟨hd,M⟩:=M;obtain ⟨vs,rel,dd⟩:=M s2.heap I2.kIn;obtain ⟨w',hw,rw'⟩:=x9 (v:=v) (o:=valueAt vs k) (by rw [<- l];exact rel.val k);exact ⟨dd.typeIs,wpAny_getItem_of (kV_is ry) dd.mapOf hw ⟨v,H2,I2.tok _,rw',q2⟩⟩⟩
end
theorem kV_str{k:A9} : (V.str z=kV k)=(k=Sum.inr z):=by
 cases k with
 | inl i=>exact propext ⟨fun h=>(by cases h),fun h=>(by cases h)⟩
 | inr x=>exact propext ⟨fun h=>(by cases h;rfl),fun h=>(by cases h;rfl)⟩
theorem ald : rInM neg a kvs (.str z) (.ref b) H Q=(V.ref b=V.ref a/\Q (.bl (neg.xor (valV kvs (Sum.inr z)).isSome)) H):=by
 unfold rInM;simp only [kV_str,exists_eq_left]
theorem ahs{to ti:TE} : nB a kvs to ti Y H Q=to Y H fun x H1=>ti Y H1 fun y H2=>x=.ref a/\∃ k v,y=kV k/\valV kvs k=some v/\Q v H2:=rfl
noncomputable def ajs (c:TT) (tb:TS) (D:Ends) (Y:St) (H:Hp):Prop:=kR c tb D Y H
theorem aht{c:TT} : kR c tb D Y H=ajs c tb D Y H:=rfl
noncomputable def rTupR (K:PySem.W.Frag) (p:Addr) (H:Hp) (Q:VK):Prop:=∃ ys,(C1 K H p ys/\∀ l,H l=none->Q (.ref l) (A0 H l (.tup ys)))\/(D2 K H p ys/\Q (.ref p) H)
theorem rTupR.l(h1:C1 K H p ys)(h:∀ l,H l=none->Q (.ref l) (A0 H l (.tup ys))):rTupR K p H Q:=⟨ys,.inl ⟨h1,h⟩⟩
noncomputable def rTupU (K:PySem.W.Frag):List V->Hp->VK->Prop
 | [.ref p],H,Q=>rTupR K p H Q
 | _,_,_=>False
theorem tup_r : rTupU K [.ref p] H Q=rTupR K p H Q:=rfl
theorem nC(hK:X.K=K:=by rfl):QCall X (.type "tuple") (rTupU K):=by
 subst hK;refine ⟨fun pins s Y H xs us Q I r h=>?_⟩
 match xs,h with
 | [.ref p],⟨ys,h⟩=>exact wT pins s Y H _ us Q I r ⟨p,ys,rfl,h⟩
noncomputable def rMin:List V->Hp->VK->Prop:=fun xs H Q=>∃ i j,xs=[.int i,.int j]/\Q (.int (if j<i then j else i)) H
noncomputable def rMax:List V->Hp->VK->Prop:=fun xs H Q=>∃ i j,xs=[.int i,.int j]/\Q (.int (if j > i then j else i)) H
theorem ale{i j:Int} : rMin [.int i,.int j] H Q=Q (.int (if j<i then j else i)) H:=propext ⟨fun ⟨_,_,e,q⟩=>(by cases e;exact q),fun q=>⟨_,_,rfl,q⟩⟩
theorem alf{i j:Int} : rMax [.int i,.int j] H Q=Q (.int (if j > i then j else i)) H:=propext ⟨fun ⟨_,_,e,q⟩=>(by cases e;exact q),fun q=>⟨_,_,rfl,q⟩⟩
noncomputable def rCalm (calm:Bool) (r:List V->Hp->VK->Prop):List V->Hp->VK->Prop:=fun xs H Q=>calm=true/\r xs H Q
theorem ajt{r:List V->Hp->VK->Prop} : rCalm true r xs H Q=r xs H Q:=propext ⟨fun h=>h.2,fun h=>⟨rfl,h⟩⟩
end L2
set_option maxRecDepth 100000
namespace L2
open PySem PySem.Spec PyProof.Rows
open PySem.Builtin PySem.Builtin.Str PySem.StrLaws
noncomputable def tSeqM (t u:TS):TS:=fun D Y H=>∃ M:St->Hp->Prop,t { D with nx:=M } Y H/\∀ σ' H',M σ' H'->u D σ' H'
theorem g7{rest:List Stmt}{t u:TS}(h1:QS X st t)(h2:QSs X rest u):QSs X (st::rest) (tSeqM t u):=⟨by
 intro pins s Y H D I h;obtain ⟨M,h,hm⟩:=h;refine wpAny_execs_cons (A4 (h1.out pins s Y H { D with nx:=M } I h) fun f s1 q=>?_)
 cases f with
 | next=>
  obtain ⟨σ',H',I',q⟩:=q;exact h2.out pins s1 σ' H' D I' (hm _ _ q)
 | ret v=>exact q
 | brk=>exact q
 | cont=>exact q⟩
theorem g8{t u:TS}(M:St->Hp->Prop)(h:t { D with nx:=M } Y H)(h2:∀ σ' H',M σ' H'->u D σ' H'):tSeqM t u D Y H:=⟨M,h,h2⟩
theorem nE(xs:List V)(k:Nat):cutV xs (some (k:Int)) none=xs.drop k:=by
 unfold cutV;have e1:HT.sIx xs.length 0 (some (k:Int))=min k xs.length:=by unfold HT.sIx;simp;lia
 have e2:HT.sIx xs.length xs.length none=xs.length:=rfl;rw [e1,e2,X0 (by rw [d8];exact B5 _)]
 by_cases h:k<=xs.length
 .rw [n9 h]
 .rw [Nat.min_eq_right (by lia),bQ (B5 _),bQ (by lia)]
theorem aju(xs:List V)(k:Nat):cutV xs none (some (k:Int))=xs.take k:=by
 unfold cutV;have e1:HT.sIx xs.length xs.length (some (k:Int))=min k xs.length:=by unfold HT.sIx;simp;lia
 have e2:HT.sIx xs.length 0 none=0:=rfl;rw [e1,e2,List.drop_zero,Nat.sub_zero]
 by_cases h:k<=xs.length
 .rw [n9 h]
 .rw [Nat.min_eq_right (by lia),X0 (B5 _),X0 (by lia)]
theorem afY(x:V)(xs:List V):cutV (x::xs) (some 1) none=xs:=nE (x::xs) 1
theorem Q6{α:Type}(x:α)(xs:List α):J8 (x::xs) 0=some x:=by
 have e:R9 (x::xs).length 0=some 0:=by unfold R9;rw [if_pos (Int.le_refl 0),if_pos (by rw [E8];lia)];rfl
 unfold J8;rw [e];rfl
theorem ajv{trs:List (TE×TE)} : tDisp trs Y H Q=∀ p,H p=none->q9 trs Y (A0 H p (.dK [])) fun ps H2=>H2 p=some (.dK [])/\∃ kvs:List (A9×V),ps=kvs.map (fun kv=>(kV kv.1,kv.2))/\kvs.length<=15/\Q (.ref p) (A0 H2 p (.dK (mH [] kvs))):=rfl
theorem ajw{Q:List (V×V)->Hp->Prop} : q9 [] Y H Q=Q [] H:=rfl
theorem ahu{tk tv:TE}{r:List (TE×TE)}{Q:List (V×V)->Hp->Prop} : q9 ((tk,tv)::r) Y H Q=tk Y H fun x H1=>tv Y H1 fun y H2=>q9 r Y H2 fun ps H3=>Q ((x,y)::ps) H3:=rfl
theorem ahv{td ty tx:TE} : xN td ty tx Y H Q=td Y H fun x H1=>∃ a,x=.ref a/\s0 H1 a/\ty Y H1 fun y H2=>tx Y H2 fun z H3=>∃ o,DGet H3 a y o/\Q (o.getD z) H3:=rfl
theorem fK:∀ {zs:List Str} {us:List Value},Vals (zs.map V.str) us->StrsAre us zs
 | [],_,.nil=>.nil
 | z::zs,_::_,.cons ⟨t,h⟩ r=>by subst h;exact .cons _ _ (fK r)
theorem nF:∀ l:List (Str×Tok),Vals ((l.map (·.1)).map V.str) (strValues l)
 | []=>.nil
 | (z,t)::r=>.cons ⟨t,rfl⟩ (nF r)
noncomputable def rJoin (K:PySem.W.Frag):V->List V->Hp->VK->Prop:=fun x vs H Q=>∃ (z:Str) (b:Addr) (zs:List Str),x=.str z/\vs=[.ref b]/\(C1 K H b (zs.map V.str)\/D2 K H b (zs.map V.str))/\z.length<=16/\(zs.map (·.length)).sum+zs.length<=1048576/\Q (.str (Str.join z zs)) H
theorem fL(hK:X.K=K:=by rfl):QMt X "str.join" (rJoin K):=⟨by
 subst hK;intro pins s Y H x vs v us Q I rx rv h;obtain ⟨z,b,zs,rfl,rfl,hb,h1,h2,q⟩:=h;obtain ⟨t,rfl⟩:=rx;obtain ⟨u,rfl,ru⟩:=vals1 rv
 cases ru
 have e:Txt.join z zs=Str.join z zs:=glued_eq_join z zs
 rcases hb with hb | hb
 .obtain ⟨its,r',pl,hz⟩:=I.list hb;exact join_listW pl.isList (by simpa using fK r') h1 h2 fun t' k=>⟨.str (Str.join z zs),H,I.tok k,⟨t',by rw [e]⟩,q⟩
 .obtain ⟨its,r',pl,hz⟩:=I.tuple hb;exact join_tupleW pl (by simpa using fK r') h1 h2 fun t' k=>⟨.str (Str.join z zs),H,I.tok k,⟨t',by rw [e]⟩,q⟩⟩
theorem ae6{y:Str}{t u:Tok}{Q:Value->Shared->Prop}(hy:(y.length==0)=false)(hsz:x.length<=sizeLine)(jN:(Txt.split x y).length<=sizeLine)(hq:∀ (l:List (Str×Tok)) (k:Nat),l.map (·.1)=Txt.split x y->Q (.ref s.heap.objs.size) { s with heap:=s.heap.push { cls:=.type "list",data:=.seq (strValues l).toArray },toks:=k }) :
  wpAny (model prog w) A (call (.builtin "str.split") [.str x t,.str y u]) Q E s:=by
 cases h1:(decide (x.length<y.length) || decide (strKind x<strKind y))
 .cases hf:(occurrences x y 0 x.length (x.length+1)).isEmpty
  .have e:Txt.split x y=partsBetween x (occurrences x y 0 x.length (x.length+1)) y.length:=(if_neg (ne_true_of_eq_false h1)).trans (if_neg (ne_true_of_eq_false hf));refine call_meets F.slot_str_split (typeIs_str _ _ _) F.entry_str_split (F.args_str_split_2 _ _) (meets_str_split_sep x y t u h1 hy hf hsz (by rw [<- e];exact jN)) ?_;show wants Q E _ { s with toks:=_,heap:=s.heap.push { cls:=.type "list",data:=.seq (strsFrom s.toks (partsBetween x (occurrences x y 0 x.length (x.length+1)) y.length)).toArray } };rw [strsFrom_eq];exact hq (numbered s.toks _) _ ((numbered_texts _ _).trans e.symm)
  .exact call_meets F.slot_str_split (typeIs_str _ _ _) F.entry_str_split (F.args_str_split_2 _ _) (meets_str_split_not_found x y t u h1 hy hf)
    (hq [(x,t)] s.toks ((if_neg (ne_true_of_eq_false h1)).trans (if_pos hf)).symm)
 .exact call_meets F.slot_str_split (typeIs_str _ _ _) F.entry_str_split (F.args_str_split_2 _ _) (meets_str_split_cannot_occur x y t u h1)
   (hq [(x,t)] s.toks (if_pos h1).symm)
noncomputable def alg:V->List V->Hp->VK->Prop:=fun x vs H Q=>∃ (z y:Str),x=.str z/\vs=[.str y]/\(y.length==0)=false/\z.length<=sizeLine/\(Txt.split z y).length<=sizeLine/\∀ p,H p=none->Q (.ref p) (A0 H p (.lst ((Txt.split z y).map V.str)))
theorem fM : QMt X "str.split" alg:=⟨by
 intro pins s Y H x vs v us Q I rx rv h;obtain ⟨z,y,rfl,rfl,h0,h1,h2,q⟩:=h;obtain ⟨t,rfl⟩:=rx;obtain ⟨u,rfl,ru⟩:=vals1 rv;obtain ⟨t2,rfl⟩:=ru;refine ae6 h0 h1 h2 fun l k e=>⟨.ref _,_,I.lnew (ys:=(Txt.split z y).map V.str) (t':=k) (by rw [<- e];exact nF l) (by rw [B9];exact h2),rfl,q _ I.fresh⟩⟩
theorem fO{s sub:Str}{hi limit:Nat}(h1:sub.length=1):∀ (n a:Nat) (st:Array Nat×Nat),st.snd<=a->st.fst.size+n<=limit->
  (forIn (X1 a n) st (occBody s sub hi limit)).run.fst.toList=st.fst.toList++(X1 a n).filter (fun i=>decide (i+1<=hi)&&subAt s sub i)
 | 0,a,st,_,_=>by simp
 | n+1,a,st,h2,h3=>by
  rw [List.range'_succ,List.forIn_cons];unfold occBody
  by_cases hc:a+1<=hi/\subAt s sub a=true
  .rw [if_pos ⟨⟨⟨by lia,h2⟩,by lia⟩,hc.2⟩]
   have:=fO (s:=s) (hi:=hi) (limit:=limit) h1 n (a+1) (st.fst.push a,a+sub.length) (by simp only;lia) (by rw [Array.size_push];lia)
   refine this.trans ?_;rw [List.filter_cons_of_pos (by rw [decide_eq_true hc.1,hc.2];rfl),Array.toList_push,List.append_assoc];rfl
  .rw [if_neg (fun h=>hc ⟨by lia,h.2⟩)]
   have:=fO (s:=s) (hi:=hi) (limit:=limit) h1 n (a+1) (st.fst,st.snd) (by simp only;lia) (by simp only;lia)
   refine this.trans ?_;rw [List.filter_cons_of_neg];intro h;simp at h;exact hc h
theorem fP : subAt x ⟨#[c]⟩ i=(x.cps.toList[i]? == some c):=by
 rw [subAt_eq];show ((x.cps.toList.drop i).take 1==[c])=_;rw [o0,take1_drop,beq_iff_eq]
noncomputable def joinN (c:Nat):List Str->List Nat
 | []=>[]
 | [z]=>z.cps.toList
 | z::r=>z.cps.toList++c::joinN c r
theorem z6(c:Nat):∀ zs:List Str,(Str.join ⟨#[c]⟩ zs).cps.toList=joinN c zs
 | []=>rfl
 | [z]=>rfl
 | z::y::r=>by
  show (z++⟨#[c]⟩++Str.join ⟨#[c]⟩ (y::r)).cps.toList=z.cps.toList++c::joinN c (y::r);rw [<- z6 c (y::r)];simp only [Str.cps_append,Array.toList_append]
  simp
theorem nG{x:Str}{c:Nat} : ∀ (zs:List Str) (pre:List Nat),zs≠[]->(∀ z∈zs,c∉z.cps.toList)->x.cps.toList=pre++joinN c zs->
  partsFrom x 1 pre.length ((X1 pre.length (x.length+1-pre.length)).filter (fun i=>decide (i+1<=x.length)&&subAt x ⟨#[c]⟩ i))=zs
 | [],_,h,_,_=>absurd rfl h
 | [z],pre,_,h,e=>by
  have hx:x.length=pre.length+z.length:=by
   have:=congrArg List.length e
   simpa [joinN,Str.length] using this
  have e0:(X1 pre.length (x.length+1-pre.length)).filter (fun i=>decide (i+1<=x.length)&&subAt x ⟨#[c]⟩ i)=[]:=by
   rw [List.filter_eq_nil_iff];intro i hi hc;simp only [List.mem_range'_1] at hi;rw [fP,e,n5 (by lia)] at hc;simp only [J7,beq_iff_eq] at hc;exact h z (Q1.mpr rfl) (Q0 hc.2)
  rw [e0];show [strSub x pre.length x.length]=[z]
  congr 1
  apply Str.ext'
  apply Array.toList_inj.mp
  rw [strSub_toList,e,List.drop_left];exact X0 (by show z.cps.toList.length<=_;simp [Str.length] at hx ⊢;lia)
 | z::y::r,pre,_,h,e=>by
  have e':x.cps.toList=pre++(z.cps.toList++c::joinN c (y::r)):=e;have hx:x.length=pre.length+z.length+1+(joinN c (y::r)).length:=by
   have:=congrArg List.length e'
   simp [Str.length] at this ⊢
   lia
  have hz:z.cps.toList.length=z.length:=by simp [Str.length]
  have ih:=nG (x:=x) (c:=c) (y::r) (pre++z.cps.toList++[c]) (by simp) (fun w hw=>h w (J0 _ hw)) (by rw [e'];simp);have hl:(pre++z.cps.toList++[c]).length=pre.length+z.length+1:=by simp [Str.length];lia
  rw [hl] at ih;have e1:X1 pre.length (x.length+1-pre.length)=X1 pre.length z.length++(pre.length+z.length)::X1 (pre.length+z.length+1) (x.length+1-(pre.length+z.length+1)):=by
   rw [<- List.range'_succ,List.range'_append_1]
   congr 1
   lia
  have e0:(X1 pre.length z.length).filter (fun i=>decide (i+1<=x.length)&&subAt x ⟨#[c]⟩ i)=[]:=by
   rw [List.filter_eq_nil_iff];intro i hi hc;simp only [List.mem_range'_1] at hi;rw [fP,e',n5 (by lia),List.getElem?_append_left (by lia)] at hc;simp only [J7,beq_iff_eq] at hc;exact h z M9 (Q0 hc.2)
  rw [e1,List.filter_append,e0,List.nil_append,List.filter_cons_of_pos]
  .show strSub x pre.length (pre.length+z.length)::partsFrom x 1 (pre.length+z.length+1) _=_;rw [ih]
   congr 1
   apply Str.ext'
   apply Array.toList_inj.mp
   rw [strSub_toList,e',List.drop_left,<- hz];rw [show pre.length+z.cps.toList.length-pre.length=z.cps.toList.length by lia,List.take_left]
  .rw [fP,e',n5 (by lia),n5 (by lia)];rw [show pre.length+z.length-pre.length-z.cps.toList.length=0 by lia,decide_eq_true (by lia)]
   simp
theorem fQ(hc:c<256)(h0:zs≠[])(h:∀ z∈zs,c∉z.cps.toList):Txt.split (Str.join ⟨#[c]⟩ zs) ⟨#[c]⟩=zs:=by
 have h1:occurrences (Str.join ⟨#[c]⟩ zs) ⟨#[c]⟩ 0 (Str.join ⟨#[c]⟩ zs).length ((Str.join ⟨#[c]⟩ zs).length+1)=(X1 0 ((Str.join ⟨#[c]⟩ zs).length+1-0)).filter (fun i=>decide (i+1<=(Str.join ⟨#[c]⟩ zs).length)&&subAt (Str.join ⟨#[c]⟩ zs) ⟨#[c]⟩ i):=by
  rw [occ_eq,fO rfl _ _ _ (B5 0) (by show 0+_<=_;lia)];rfl
 have h2:=nG (x:=Str.join ⟨#[c]⟩ zs) (c:=c) zs [] h0 h (by rw [z6];rfl);rw [U4,<- h1] at h2;have h3:partsBetween (Str.join ⟨#[c]⟩ zs) (occurrences (Str.join ⟨#[c]⟩ zs) ⟨#[c]⟩ 0 (Str.join ⟨#[c]⟩ zs).length ((Str.join ⟨#[c]⟩ zs).length+1)) 1=zs:=by rw [partsBetween_eq];exact h2
 have key:∀ x:Str,(occurrences x ⟨#[c]⟩ 0 x.length (x.length+1)).isEmpty=true->partsBetween x (occurrences x ⟨#[c]⟩ 0 x.length (x.length+1)) 1=[x]:=fun x hx=>by
  rw [List.isEmpty_iff.mp hx];show [strSub x 0 x.length]=[x];rw [sub_whole]
 unfold Txt.split
 split
 .rename_i hk
  have hk2:(Str.join ⟨#[c]⟩ zs).length=0:=by
   have e1:PySem.Builtin.Str.strKind (⟨#[c]⟩:Str)=1:=by unfold PySem.Builtin.Str.strKind;simp [hc]
   have e2:1<=PySem.Builtin.Str.strKind (Str.join ⟨#[c]⟩ zs):=by unfold PySem.Builtin.Str.strKind;split <;> (try split) <;> lia
   rw [e1] at hk;simp at hk
   have:(⟨#[c]⟩:Str).length=1:=rfl
   lia
  have hn:occurrences (Str.join ⟨#[c]⟩ zs) ⟨#[c]⟩ 0 (Str.join ⟨#[c]⟩ zs).length ((Str.join ⟨#[c]⟩ zs).length+1)=[]:=by
   rw [h1,hk2,List.filter_eq_nil_iff];intro i _ h;simp at h
  rw [<- key _ (by rw [hn];rfl)];exact h3
 .split
  .rename_i h5
   rw [<- key _ h5];exact h3
  .exact h3
end L2
set_option maxRecDepth 100000
namespace L2
open PySem PySem.Spec PyProof.Rows
section
variable {prog:Program} {w:World} {A:Around} {R:Result->Shared->Prop} {I:Addr} {fp wr:List Addr} {G:Array GenState->Array GenState->Prop} {n:Nat} {P:Nat->Value->Prop} {St:Nat->Shared->Prop}
variable {K:Type} [DecidableEq K] {knd:KeyKind prog w K}
end
section
variable {prog:Program} {w:World} {A:Around} {E:Value->Shared->Prop} {s:Shared} {K:Type} [DecidableEq K] {knd:KeyKind prog w K}
end
end L2
set_option maxRecDepth 100000
namespace L2
open PySem PySem.Spec PyProof.Rows
section
variable {X:Cx} {pins:List (Addr×Obj)} {Y:St} {H:Hp} {s:Shared} {h':Heap}
end
noncomputable def nH (l1 l2 : Addr) : It :=
  ⟨fun i H => ∃ xs ys x y, H l1 = some (.lst xs) /\ H l2 = some (.lst ys) /\ xs[i]? = some x /\ ys[i]? = some y,
   fun i H v H' => ∃ t xs ys x y, H l1 = some (.lst xs) /\ H l2 = some (.lst ys) /\ xs[i]? = some x /\ ys[i]? = some y /\ H t = none /\ v = .ref t /\ H' = A0 H t (.tup [x, y]),
   fun i H => ∃ xs ys, H l1 = some (.lst xs) /\ H l2 = some (.lst ys) /\ (xs.length <= i \/ ys.length <= i)⟩
section
variable {X:Cx}
noncomputable def iZip (ta:TA):TI:=fun Y H R=>ta Y H fun vs H1=>∃ (l1 l2:Addr) (xs ys:List V),vs=[.ref l1,.ref l2]/\H1 l1=some (.lst xs)/\H1 l2=some (.lst ys)/\R (nH l1 l2) H1
end
theorem ajx{R:It->Hp->Prop} : iZip ta Y H R=ta Y H fun vs H1=>∃ (l1 l2:Addr) (xs ys:List V),vs=[.ref l1,.ref l2]/\H1 l1=some (.lst xs)/\H1 l2=some (.lst ys)/\R (nH l1 l2) H1:=rfl
noncomputable def Itr3 (lo st:Int) (n:Nat):It:=⟨fun i _=>i<n,fun i H x H'=>H'=H/\x=.int (lo+i*st),fun i _=>n<=i⟩
noncomputable def alh (td ty tx:TE):TE:=fun Y H Q=>td Y H fun x H1=>∃ a,x=.ref a/\s0 H1 a/\ty Y H1 fun y H2=>tx Y H2 fun z H3=>∃ kvs k,H3 a=some (.dK kvs)/\kvs.length<sizeLine/\y=kV k/\
 (∀ v,valV kvs k=some v->Q v H3)/\(valV kvs k=none->Q z (A0 H3 a (.dK (putK kvs k z))))
section
variable {X:Cx} {o e f:Expr} {apos cpos:Pos} {td ty tx:TE} {pins:List (Addr×Obj)} {Y:St} {H:Hp} {s:Shared} {a:Addr} {A:Around} {E:Value->Shared->Prop}
theorem ahw:alh td ty tx Y H Q=td Y H fun x H1=>∃ a,x=.ref a/\s0 H1 a/\ty Y H1 fun y H2=>tx Y H2 fun z H3=>∃ kvs k,H3 a=some (.dK kvs)/\kvs.length<sizeLine/\y=kV k/\
 (∀ v,valV kvs k=some v->Q v H3)/\(valV kvs k=none->Q z (A0 H3 a (.dK (putK kvs k z)))):=rfl
end
section
variable {X:Cx} {tg:Expr}
noncomputable def nI (i j k:Int):Nat:=(if i<j then (j-i-1) / k+1 else 0).toNat
noncomputable def iRng3 (ta:TA):TI:=fun Y H R=>ta Y H fun vs H1=>∃ i j k:Int,vs=[.int i,.int j,.int k]/\(-(2 ^ 60)<=i/\i<2 ^ 60/\-(2 ^ 60)<=j/\j<2 ^ 60/\0<k/\k<1000000)/\R (Itr3 i k (nI i j k)) H1
end
theorem ahx{R:It->Hp->Prop} : iRng3 ta Y H R=ta Y H fun vs H1=>∃ i j k:Int,vs=[.int i,.int j,.int k]/\(-(2 ^ 60)<=i/\i<2 ^ 60/\-(2 ^ 60)<=j/\j<2 ^ 60/\0<k/\k<1000000)/\R (Itr3 i k (nI i j k)) H1:=rfl
section
variable {X:Cx} {pins:List (Addr×Obj)} {Y:St} {H:Hp} {s:Shared} {a:Addr}
end
noncomputable def nJ (a:Addr) (o:Obj) (kvs:List (A9×V)):It:=
 ⟨fun i H=>H a=some (.frz o (.dK kvs))/\i<kvs.length,fun i H x H'=>H'=H/\∃ k v,kvs[i]?=some (k,v)/\x=kV k,fun i H=>H a=some (.frz o (.dK kvs))/\kvs.length<=i⟩
end L2
set_option maxRecDepth 100000
namespace L2
open PySem PySem.Spec PyProof.Rows
noncomputable def ali (row:List Str):List (Str×Str):=row.zip row.tail
noncomputable def edges (rows:List (List Str)):List (Str×Str):=rows.flatMap ali
noncomputable def cnt (E:List (Str×Str)) (line:List Str) (q:Str):Nat:=E.countP fun e=>decide (e.2=q) && !decide (e.1∈line)
noncomputable def nextP (E:List (Str×Str)) (ts pre:List Str):Option Str:=(ts.filter fun p=>!decide (p∈pre)).find? fun p=>decide (cnt E pre p=0)
noncomputable def Run (E:List (Str×Str)) (ts line:List Str):Prop:=∀ pre q post,line=pre++q::post->nextP E ts pre=some q
noncomputable def D7 (ts:List Str) (f:Str->V):List (A9×V):=ts.map fun t=>(Sum.inr t,f t)
theorem nK(f:Str->V)(z:Str):∀ ts:List Str,((D7 ts f).any fun kv=>decide (kv.1=(Sum.inr z:A9)))=decide (z∈ts)
 | []=>by simp [D7]
 | y::ts=>by
  have ih:=nK f z ts;unfold D7 at ih ⊢
  rw [E5,Y9,ih]
  by_cases e:y=z
  .subst e
   simp
  .have e1:decide ((Sum.inr y:A9)=Sum.inr z)=false:=decide_eq_false fun q=>e (Sum.inr.inj q)
   rw [e1,Bool.false_or]
   by_cases h:z∈ts
   .rw [decide_eq_true h,decide_eq_true (J0 _ h)]
   .rw [decide_eq_false h,decide_eq_false];intro q
    rcases C0.mp q with q | q
    .exact e q.symm
    .exact h q
theorem fR(f:Str->V)(z:Str):∀ ts:List Str,valV (D7 ts f) (Sum.inr z)=if z∈ts then some (f z) else none
 | []=>rfl
 | y::ts=>by
  have ih:=fR f z ts;unfold D7 at ih ⊢
  rw [E5]
  by_cases e:y=z
  .subst e;rw [cC rfl,if_pos M9]
  .rw [cD (fun q=>e (Sum.inr.inj q)),ih]
   by_cases h:z∈ts
   .rw [if_pos h,if_pos (J0 _ h)]
   .rw [if_neg h,if_neg];intro q
    rcases C0.mp q with q | q
    .exact e q.symm
    .exact h q
theorem nL{f:Str->V}(v:V)(h:z∉ts):putK (D7 ts f) (Sum.inr z:A9) v=D7 (ts++[z]) fun t=>if t=z then v else f t:=by
 unfold putK;rw [nK,decide_eq_false h,if_neg F3];unfold D7;rw [M2]
 congr 1
 .refine List.map_congr_left fun y hy=>?_
  show _=((Sum.inr y:A9),if y=z then v else f y);rw [if_neg (fun e:y=z=>h (by rw [<- e];exact hy))]
 .simp
theorem fS{f g:Str->V}(h:∀ t∈ts,f t=g t):D7 ts f=D7 ts g:=by
 unfold D7;exact List.map_congr_left fun t ht=>by rw [h t ht]
theorem nM(f:Str->V)(ts:List Str):(D7 ts f).length=ts.length:=by unfold D7;rw [B9]
theorem ahy(f:Str->V)(ts:List Str):((D7 ts f).map fun kv=>kV kv.1)=ts.map V.str:=by
 unfold D7;rw [List.map_map];rfl
structure DL(H0 H:Hp)(ts:List Str)(ad:Str->Addr)(F:Str->List Str):Prop where
 row:∀ t∈ts,H (ad t)=some (.lst ((F t).map V.str))
 inj:∀ t∈ts,∀ u∈ts,ad t=ad u->t=u
 new:∀ t∈ts,H0 (ad t)=none
theorem nN{α:Type}{ts:List α}{z:α}(h:ts[i]?=some z):ts.take (i+1)=ts.take i++[z]:=by rw [List.take_add_one,h];rfl
noncomputable def SameBut (d:Addr) (H H':Hp):Prop:=∀ b o,b≠d->H b=some o->H' b=some o
noncomputable def orNon:Option Str->V
 | some z=>.str z
 | none=>.non
noncomputable def one (c:Nat):Str:=⟨#[c]⟩
end L2
set_option maxRecDepth 100000
namespace L2
open PySem PySem.Spec PyProof.Rows
section
variable {X:Cx}
noncomputable def rAnyB (calm:Bool):List V->Hp->VK->Prop
 | [.ref p],H,Q=>∃ bs:List Bool,calm=true/\H p=some (.lst (bs.map V.bl))/\Q (.bl (bs.any id)) H
 | _,_,_=>False
theorem any_r{cm:Bool} : rAnyB cm [.ref p] H Q=∃ bs:List Bool,cm=true/\H p=some (.lst (bs.map V.bl))/\Q (.bl (bs.any id)) H:=rfl
end
noncomputable def nO (l : Addr) : It :=
  ⟨fun i H => ∃ xs x, H l = some (.lst xs) /\ xs[i]? = some x,
   fun i H v H' => ∃ t xs x, H l = some (.lst xs) /\ xs[i]? = some x /\ H t = none /\ v = .ref t /\ H' = A0 H t (.tup [.int i, x]),
   fun i H => ∃ xs, H l = some (.lst xs) /\ xs.length <= i⟩
section
variable {X:Cx}
noncomputable def iEnum (ta:TA):TI:=fun Y H R=>ta Y H fun vs H1=>∃ (l:Addr) (xs:List V),vs=[.ref l]/\H1 l=some (.lst xs)/\R (nO l) H1
end
theorem ahz{R:It->Hp->Prop} : iEnum ta Y H R=ta Y H fun vs H1=>∃ (l:Addr) (xs:List V),vs=[.ref l]/\H1 l=some (.lst xs)/\R (nO l) H1:=rfl
noncomputable def MO (P:Program) (w:World) (K:PySem.W.Frag) (mg:Str->Option Value) (base:Heap) (k:Nat) (C:Addr) (m:Str) (ps:List Str) (sp:Sp):Prop:=
 ∃ f fd,FnOk P w K mg base C8 k f fd ps sp/\Cls K C/\Meth K C m f/\Binds K fd ps []
section
variable {X:Cx} {k:Nat} {C:Addr} {ps:List Str} {sp:Sp} {x m:Str} {p pos apos:Pos} {e o:Expr} {es:List Expr} {ta:TE} {t:TA}
theorem ahA(ho:QE X o ta)(G:MO X.prog X.w X.K X.mg X.base k C m ps sp)(hr:Room k X.A){pl:Sem Bool}(ht:eval (.Call (.Attribute o m apos) [] [] pos) X.env=(do
   let ov <- eval o X.env
   standAt apos.atName
   let (f,first) <- holding [ov] (getMethod ov m pl)
   callWith pos f first (backTo pos (starEach [] X.env)) (backToKw pos (keywordEach [] X.env))):=by rfl) :
  QE X (.Call (.Attribute o m apos) [] [] pos) (tMeth C m sp [] E0 ta tNil):=by
 obtain ⟨f,fd,F,c,hm,hb⟩:=G;exact ⟨vX ho.out c hm F hr hb .nil pass0 ht⟩
end
section
variable {C:Addr} {m f:Str} {sp:Sp} {K:PySem.W.Frag} {ta tv:TE} {t:TA} {Y:St} {H:Hp} {Q:VK} {D:Ends}
theorem ajz:tMake C sp [] E0 t Y H Q=t Y H fun vs H1=>∀ x dx,H1 x=none->H1 dx=none->dx≠x->sp (.ref x::(vs++[])) (A0 (A0 H1 dx (.own x)) x (.ins C dx [])) (fun v H2=>v=.non/\Q (.ref x) H2) E0:=rfl
theorem ajA:tMeth C m sp [] E0 ta t Y H Q=ta Y H fun x H1=>∃ a dx fs,x=.ref a/\H1 a=some (.ins C dx fs)/\fs.lookup m=none/\t Y H1 fun vs H2=>sp (x::(vs++[])) H2 Q E0:=rfl
theorem alj:tFld K ta f Y H Q=ta Y H fun x H1=>∃ a C dx fs v,x=.ref a/\H1 a=some (.ins C dx fs)/\Cls K C/\NoAttr K C f/\fs.lookup f=some v/\Q v H1:=rfl
theorem ajB:sFld K ta tv f D Y H=tv Y H fun y H1=>ta Y H1 fun x H2=>∃ a C dx fs,x=.ref a/\H2 a=some (.ins C dx fs)/\Cls K C/\NoAttr K C f/\fs.length<1000/\D.nx Y (A0 H2 a (.ins C dx (putF f y fs))):=rfl
end
section
variable {X:Cx} {o e:Expr} {apos cpos:Pos} {td ty:TE}
theorem ahB : xM td ty Y H Q=td Y H fun x H1=>∃ a,x=.ref a/\s0 H1 a/\ty Y H1 fun y H2=>∃ o,DGet H2 a y o/\Q (o.getD .non) H2:=rfl
end
noncomputable def rIntB:List V->Hp->VK->Prop
 | [.bl b],H,Q=>Q (.int (if b then 1 else 0)) H
 | _,_,_=>False
theorem int_b{b:Bool} : rIntB [.bl b] H Q=Q (.int (if b then 1 else 0)) H:=rfl
end L2
set_option maxRecDepth 100000
namespace L2
open PySem PySem.Spec PyProof.Rows
noncomputable abbrev Rl:=Str×List Str
noncomputable def tupR (z:Rl):HO:=.tup ((z.1::z.2).map V.str)
structure IsRules(H:Hp)(a:Addr)(rs:List Addr)(R:List Rl):Prop where
 top:H a=some (.lst (rs.map V.ref))
 row:Paired (fun r z=>H r=some (tupR z)) rs R
theorem IsRules.same{R:List Rl}(h:IsRules H a rs R)(s:Same H H'):IsRules H' a rs R:=⟨s _ _ h.top,U8 h.row fun _ _ e=>s _ _ e⟩
noncomputable def alk (z:Rl):List Str:=if z.1=("great" : Str) then z.2.drop 1 else if z.1=("as" : Str) then z.2.take 1 else if z.1=("row" : Str)\/z.1=("marks" : Str)\/z.1=("over" : Str) then z.2 else []
noncomputable def jobD (w:Str):Str:=if w=("row" : Str) then "letter" else if w=("marks" : Str) then "mark" else w
noncomputable def alm (R:List Rl):List (Str×Str):=R.flatMap fun z=>(alk z).map fun p=>(p,jobD z.1)
noncomputable def hasW (R:List Rl) (w:Str):Bool:=R.any fun z=>decide (z.1=w)
noncomputable def keysP (PL:List (Str×Str)):List Str:=mW [] (PL.map (·.1))
noncomputable def rowsW (R:List Rl) (w:Str):List (List Str):=(R.filter fun z=>decide (z.1=w)).map (·.2)
theorem fU{d:Nat} : (([c]:List Nat)<[d])↔c<d:=by
 constructor
 .intro h;cases h with
  | rel h=>exact h
  | cons h=>cases h
 .intro h;exact List.Lex.rel h
noncomputable def ajC (R:List Rl):List Str:=if hasW R "blanks"=true then [" "] else []
noncomputable def jobG (g:Str->Str):Str->V:=fun t=>if t=(" " : Str) then .str "over" else .str (g t)
noncomputable def ordF (f b:Bool) (j ll ml md:Addr):List (Str×V):=putF "made" (.ref md) (putF "mark_line" (.ref ml) (putF "letter_line" (.ref ll) (putF "jobs" (.ref j) (putF "behind" (.bl b) (putF "figures" (.bl f) [])))))
noncomputable def nP (R:List Rl) (w:Str) (L:List Str):Prop:=Run (edges (rowsW R w)) (toldL (rowsW R w)) L/\∀ p∈toldL (rowsW R w),p∈L
structure IsOrder(C:Addr)(H:Hp)(x:Addr)(g:Str->Str)(R:List Rl)(L M:List Str):Prop where
 ob:∃ dx j ll ml md,H x=some (.ins C dx (ordF (hasW R "figures") (hasW R "behind") j ll ml md))/\H j=some (.dK (D7 (keysP (alm R)++ajC R) (jobG g)))/\H ll=some (.lst (L.map V.str))/\H ml=some (.lst (M.map V.str))
 l1:nP R "row" L
 l2:nP R "marks" M
end L2
variable {R:List L2.Rl}
set_option maxRecDepth 100000
namespace L2
open PySem PySem.Spec PyProof.Rows
open AutoSeq1 (wpAny_loadPart' idx_int)
noncomputable abbrev bareL (ys:Array Value) (k:Nat):Obj:=⟨.type "list",none,.seq ys k,#[]⟩
section
variable {X:Cx}
noncomputable def rMulS:V->V->Hp->VK->Prop:=fun x y H Q=>∃ z n,x=.str z/\y=.int n/\MulOk z n/\Q (.str (Txt.mul z n)) H
theorem aln:C5 X (binaryOp .Mult) rMulS:=by
 intro pins s Y H x y v u Q I rx ry h;obtain ⟨z,n,rfl,rfl,h1,q⟩:=h;obtain ⟨t,rfl⟩:=rx;obtain ⟨t2,rfl⟩:=ry;exact SB.mul h1 fun t' k=>⟨.str _,H,I.tok k,⟨_,rfl⟩,q⟩
theorem fV:QOp X (binaryOp .Mult) rMulS:=⟨aln⟩
end
noncomputable def nQ (l : Addr) (n : Nat) : It :=
  ⟨fun i H => ∃ xs x, H l = some (.lst xs) /\ i<n /\ xs[n-1-i]? = some x,
   fun i H v H' => H' = H /\ ∀ xs, H l = some (.lst xs) -> xs[n-1-i]? = some v,
   fun i H => ∃ xs, H l = some (.lst xs) /\ n <= i⟩
section
variable {X:Cx}
noncomputable def iRev (ta:TA):TI:=fun Y H R=>ta Y H fun vs H1=>∃ (l:Addr) (xs:List V),vs=[.ref l]/\H1 l=some (.lst xs)/\R (nQ l xs.length) H1
end
theorem ajD{R:It->Hp->Prop} : iRev ta Y H R=ta Y H fun vs H1=>∃ (l:Addr) (xs:List V),vs=[.ref l]/\H1 l=some (.lst xs)/\R (nQ l xs.length) H1:=rfl
section
variable {prog:Program} {w:World} {A:Around} {E:Value->Shared->Prop} {s:Shared}
end
noncomputable def Ite1 (l : Addr) : It :=
  ⟨fun i H => ∃ xs x, H l = some (.lst xs) /\ xs[i]? = some x,
   fun i H v H' => ∃ t xs x, H l = some (.lst xs) /\ xs[i]? = some x /\ H t = none /\ v = .ref t /\ H' = A0 H t (.tup [.int (i+1 : Nat), x]),
   fun i H => ∃ xs, H l = some (.lst xs) /\ xs.length <= i⟩
section
variable {X:Cx}
noncomputable def alo (ta:TA):TI:=fun Y H R=>ta Y H fun vs H1=>∃ (l:Addr) (xs:List V),vs=[.ref l]/\H1 l=some (.lst xs)/\R (Ite1 l) H1
end
theorem af5{R:It->Hp->Prop} : alo ta Y H R=ta Y H fun vs H1=>∃ (l:Addr) (xs:List V),vs=[.ref l]/\H1 l=some (.lst xs)/\R (Ite1 l) H1:=rfl
end L2
set_option maxRecDepth 100000
namespace L2
open PySem PySem.Spec PyProof.Rows
end L2
set_option maxRecDepth 100000
namespace L2
open PySem PySem.Spec PyProof.Rows
section
variable {X:Cx} {o e:Expr} {apos cpos:Pos} {td ty:TE}
end
end L2
set_option maxRecDepth 100000
namespace L2
open PySem PySem.Spec PyProof.Rows
section
variable {X:Cx} {o value:Expr} {to tv:TE} {pos tpos:Pos} {st:Stmt} {t:TS} {h₀:ExceptHandler} {hs:List ExceptHandler}
theorem af6{f:Str}{op:Operator}{rd:V->V->Hp->VK->Prop}(ho:QE X o to)(hv:QE X value tv)(jA:QIn X op rd)(hK:X.K=K:=by rfl):QS X (.AugAssign (.Attribute o f tpos) op value pos) (eO K to tv rd f):=by
 subst hK;exact ⟨vM ho.out hv.out jA.out⟩
theorem af7{rd:V->V->Hp->VK->Prop}{f:Str} : eO K to tv rd f D Y H=to Y H fun x H1=>∃ a C dx fs v,x=.ref a/\H1 a=some (.ins C dx fs)/\Cls K C/\NoAttr K C f/\fs.lookup f=some v/\
 tv Y H1 fun y H2=>rd v y H2 fun z H3=>∃ dx' fs',H3 a=some (.ins C dx' fs')/\fs'.length<1000/\D.nx Y (A0 H3 a (.ins C dx' (putF f z fs'))):=rfl
end
end L2
set_option maxRecDepth 100000
namespace L2
open PySem PySem.Spec PyProof.Rows
noncomputable def rRngN:List V->Hp->VK->Prop:=fun xs H Q=>∃ n:Int,xs=[.int n]/\∀ r,H r=none->Q (.ref r) (A0 H r (.rng 0 n))
theorem rng_r{n:Int} : rRngN [.int n] H Q=∀ r,H r=none->Q (.ref r) (A0 H r (.rng 0 n)):=propext ⟨fun ⟨_,e,h⟩=>(by cases e;exact h),fun h=>⟨n,rfl,h⟩⟩
noncomputable def alp (calm:Bool):List V->Hp->VK->Prop:=fun xs H Q=>∃ (r:Addr) (n:Int),xs=[.ref r]/\calm=true/\H r=some (.rng 0 n)/\0<=n/\n<=1000/\∀ l,H l=none->Q (.ref l) (A0 H l (.lst ((R4 n.toNat).map fun k=>V.int (k:Nat))))
theorem ajE : alp true [.ref r] H Q=∃ n:Int,H r=some (.rng 0 n)/\0<=n/\n<=1000/\∀ l,H l=none->Q (.ref l) (A0 H l (.lst ((R4 n.toNat).map fun k=>V.int (k:Nat)))):=
 propext ⟨fun ⟨_,n,e,_,h⟩=>(by cases e;exact ⟨n,h⟩),fun ⟨n,h⟩=>⟨r,n,rfl,rfl,h⟩⟩
theorem alq{k:Int}{v:V}{Q:Hp->Prop} : rSetL (.ref p) (.int k) v H Q=∃ xs j,H p=some (.lst xs)/\R9 xs.length k=some j/\Q (A0 H p (.lst (xs.set j v))):=
 propext ⟨fun ⟨_,xs,_,j,e1,e2,h⟩=>(by cases e1;cases e2;exact ⟨xs,j,h⟩),fun ⟨xs,j,h⟩=>⟨p,xs,k,j,rfl,rfl,h⟩⟩
end L2
set_option maxRecDepth 100000
namespace L2
open PySem PySem.Spec PyProof.Rows
section
variable {prog:Program} {w:World} {K:Type} [DecidableEq K] {knd:KeyKind prog w K}
end
section
variable {prog:Program} {w:World} {A:Around} {R:Result->Shared->Prop} {I:Addr} {fp wr:List Addr} {G:Array GenState->Array GenState->Prop} {n:Nat} {P:Nat->Value->Prop} {St:Nat->Shared->Prop}
variable {K:Type} [DecidableEq K] {knd:KeyKind prog w K}
end
section
variable {prog:Program} {w:World} {A:Around} {E:Value->Shared->Prop} {s:Shared} {K:Type} [DecidableEq K] {knd:KeyKind prog w K}
end
section
variable {prog:Program} {w:World} {A:Around} {E:Value->Shared->Prop} {s:Shared} {K:Type} [DecidableEq K] {knd:KeyKind prog w K}
end
section
variable {prog:Program} {w:World} {A:Around} {E:Value->Shared->Prop} {s:Shared} {K:Type} [DecidableEq K] {knd:KeyKind prog w K}
end
end L2
set_option maxRecDepth 100000
namespace L2
open PySem PySem.Spec PyProof.Rows
section
variable {X:Cx} {P:Program} {w:World} {K:PySem.W.Frag} {calm:Bool}
end
end L2
set_option maxRecDepth 100000
namespace L2
open PySem PySem.Spec PyProof.Rows
section
variable {prog:Program} {w:World} {A:Around} {E:Value->Shared->Prop} {h:Heap} {g:Array GenState} {d:Drawn} {t:Nat} {os:OsState}
variable {nm q:Str} {C N:Addr} {bs bm bmB:List Value} {E9:Bool} {sn:List Str} {sub:List Value} {ab:Bool} {col:Option Bool} {dd:Option Addr} {k0 k1 k2 k3 k5:Option Value} {B Bn newId nid initId inN:String} {bmN:List Value}
theorem nR(Fn:ExcBaseFacts Bn newId inN bmN)(hBn:bmB.contains (.type Bn)=true)(F:ExcBaseFacts B nid initId bmB)(T:OwnTail h bmB bm){mN:Str->Option Value}{rest:List Value}{of:Obj}{Q:Value->Shared->Prop}(hC:h.get? C=some (excClassObj nm q C N bs bm E9 sn sub ab col dd k0 k1 k2 k3 k5 newId))(hn:h.Ns N mN)(aV:mN "__init__"=some (.ref f))(aW:h.get? f=some of)(aX:of.cls=.type "function")(b7:rest.length<=sizeLine)(hq:codeAny (model prog w) (A.under (.builtin "type.__call__" ⟨.ref C::rest,[]⟩)) (.call (.ref f) ⟨.ref (h.objs.size+1)::rest,[]⟩) (fun r s'=>match r with | .ok (.ret v)=>v=.none/\Q (.ref (h.objs.size+1)) s' | .ok _=>False | .error e=>E e s')
   ⟨(h.push { cls:=.type "tuple",data:=.seq rest.toArray }).push { cls:=.ref C,data:=.fields #[.ref h.objs.size,.none,.none,.none,.bool false,.none] },g,d,t,os⟩) :
  wpAny (model prog w) A (call (.ref C) rest) Q E ⟨h,g,d,t,os⟩:=by
 have f1:=tc_lookup;have f2:=tc_bind (.ref C);have hT:(⟨h,g,d,t,os⟩:Shared).TypeIs (.ref C) "type":=⟨_,hC,rfl⟩
 refine wpAny_call (codeAny_of_tree ?_);show wpAny _ _ (callAny (.ref C) _) _ _ _
 repeat (any_goals (first | assumption | with_reducible refine wpAny_loadPart_at hC ?_ | wp_step))
 refine ⟨rfl,?_⟩;refine codeAny_call_builtin_at (Code.quiet_builtin _ (by decide +kernel)) entry_typeCall (wpAny_check_type_call_sub hC ?_)
 repeat (first | with_reducible refine wpAny_loadPart_at hC ?_ | with_reducible refine wpAny_madeBy_exc hC ?_ | wp_step)
 refine codeAny_call_builtin_code (Code.quiet_builtin _ Fn.quiet) (wpAny_check_new_subU Fn hBn T hC ?_);refine codeAny_exc_new_subU Fn hBn F T hC ?_ b7;show wpAny _ _ _ _ _ ⟨(h.push { cls:=.type "tuple",data:=.seq rest.toArray }).push { cls:=.ref C,data:=.fields #[.ref h.objs.size,.none,.none,.none,.bool false,.none] },g,d,t,os⟩;generalize rX:((h.push { cls:=.type "tuple",data:=.seq rest.toArray }).push { cls:=.ref C,data:=.fields #[.ref h.objs.size,.none,.none,.none,.bool false,.none] })=h1 at hq ⊢
 have keep:∀ b o,h.get? b=some o->h1.get? b=some o:=fun b o e=>by rw [<- rX];exact Heap.get?_push_of_some _ (Heap.get?_push_of_some _ e)
 have hC1:=keep _ _ hC;have rY:h1.Ns N mN:=let ⟨o,es,ep,e,r⟩:=hn;⟨o,es,ep,keep _ _ e,r⟩
 have jO:h1.get? (h.objs.size+1)=some { cls:=.ref C,data:=.fields #[.ref h.objs.size,.none,.none,.none,.bool false,.none] }:=by rw [<- rX];heap_get
 have hcC:(Value.ref C::bm).contains (.ref C)=true:=by simp
 have T1:=T.keeps (h':=h1) keep;unfold isInstance
 repeat (first | with_reducible refine wpAny_loadPart_at jO ?_ | (with_reducible refine wpAny_isSubtype_exc hC1 ?_;rw [hcC]) | wp_step)
 show wpAny _ _ (typeLookup (.ref C) _) _ _ _;refine wpAny_typeLookup_tail hC1 rY T1 F.mroIs F.init.lookup ?_;rw [aV];show wpAny _ _ (holding _ _) _ _ _;refine wpAny_holding (wpAny_bind (wpAny_bindSpecial_def (keep _ _ aW) aX ?_));refine wpAny_bind (wpAny_call (codeAny_mono hq fun r s' hr=>?_))
 match r,hr with
 | .error e,z=>exact z
 | .ok (.ret v),⟨e1,z⟩=>
  subst e1;refine wpAny_pure ?_;show wpAny _ _ (ret _) _ _ _;exact wpAny_pure z
end
end L2
set_option maxRecDepth 100000
namespace L2
open PySem PySem.Spec PyProof.Rows
section
variable {prog:Program} {w:World} {A:Around} {E:Value->Shared->Prop} {h:Heap} {g:Array GenState} {d:Drawn} {t:Nat} {os:OsState}
variable {nm q:Str} {C N:Addr} {bs bm bmB:List Value} {E9:Bool} {sn:List Str} {sub:List Value} {ab:Bool} {col:Option Bool} {dd:Option Addr} {k0 k1 k2 k3 k5:Option Value} {B newId nid initId:String}
noncomputable abbrev J2 (C t0:Addr) (od:Option Addr):Obj:={ cls:=.ref C,dict:=od,data:=.fields #[.ref t0,.none,.none,.none,.bool false,.none] }
theorem ac3(F:ExcBaseFacts B nid initId bmB)(T:OwnTail h bmB bm){a0:Addr}{Q:Value->Shared->Prop}(hC:h.get? C=some (excClassObj nm q C N bs bm E9 sn sub ab col dd k0 k1 k2 k3 k5 newId))(he:h.get? e=some (J2 C a0 od))(hq:∀ h' a1,(∀ b o,b≠e->h.get? b=some o->h'.get? b=some o)->h'.get? e=some (J2 C a1 od)->Q .none ⟨h',g,d,t,os⟩) :
  wpAny (model prog w) A (call (.builtin initId) [.ref e,v]) Q E ⟨h,g,d,t,os⟩:=by
 refine wpAny_call (codeAny_call_builtin F.init.plain F.initEntry (wpAny_check_init_subU F T hC he rfl ?_))
 wp_walk
 refine hq _ h.objs.size (fun b o hb b8=>?_) ?_
 .rw [Heap.get?_update_other _ _ (Ne.symm hb)];exact Heap.get?_push_of_some _ b8
 .rw [Heap.get?_update_self _ (Heap.get?_push_of_some _ he) rfl];rfl
end
end L2
set_option maxRecDepth 100000
namespace L2
open PySem PySem.Spec PyProof.Rows
section
variable {M:Model} {A:Around} {E:Value->Shared->Prop} {env:Env}
theorem af8{x:Sem Value}{Q:Flow->Shared->Prop}(hh:A.handled=none)(h:wpAny M A x (fun v zv=>∃ (e C t N:Addr) (od:Option Addr) (nm q:Str) (bs bm:List Value) (E9:Bool) (sn:List Str) (sub:List Value) (ab:Bool) (col:Option Bool) (dd:Option Addr) (k0 k1 k2 k3 k5:Option Value) (newId:String),v=.ref e/\
   zv.heap.get? C=some (excClassObj nm q C N bs bm E9 sn sub ab col dd k0 k1 k2 k3 k5 newId)/\bm.contains (.type "BaseException")=true/\zv.heap.get? e=some (J2 C t od)/\E (.ref e) zv) E s) :
  wpAny M A (raiseStmt env (some x) none) Q E s:=by
 unfold raiseStmt;refine wpAny_bind (wpAny_mono h (fun v zv z=>?_) fun _ _ y=>y);obtain ⟨e,C,t,N,od,nm,q,bs,bm,E9,sn,sub,ab,col,dd,k0,k1,k2,k3,k5,newId,rfl,hC,E4,he,hE⟩:=z;have hcB:(Value.ref C::bm).contains (.type "BaseException")=true:=by rw [List.contains_cons,E4,Bool.or_true]
 obtain ⟨hp,g,d,tk,os⟩:=zv
 repeat (first | with_reducible refine wpAny_loadPart_at he ?_ | with_reducible refine wpAny_loadPart_at hC ?_ | (with_reducible refine wpAny_isSubtype_exc hC ?_;rw [hcB]) | wp_step)
 exact wpAny_raiseNew_none hh hE
end
end L2
set_option maxRecDepth 100000
namespace L2
open PySem PySem.Spec PyProof.Rows PySem.W PySem.Builtin PySem.Builtin.ObjectAttr
noncomputable def V3 (bmB:List Value):List Value->Bool
 | []=>bmB==[]
 | v::r=>(v::r)==bmB || match v with
  | .ref _=>V3 bmB r
  | _=>false
theorem nS{B:String}(SF:StoreFacts B bmB "object.__setattr__" "object")(self:Value):∀ {l:List Value},V3 bmB l=true->refuseLoop self "__setattr__" l=pure ()
 | [],e=>by rw [<- SF.passes self,<- beq_iff_eq.mp e]
 | v::r,e=>by
  unfold V3 at e
  rcases Bool.or_eq_true_iff.mp e with z | z
  .rw [beq_iff_eq.mp z];exact SF.passes self
  .cases v with
   | ref c=>rw [refuseLoop_ref];exact nS SF self z
   | _=>cases z
theorem nU{B:String}(SF:StoreFacts B bmB "object.__setattr__" "object"):∀ {l:List Value},V3 bmB l=true->l.contains (.type "object")=true
 | [],e=>by have:=SF.hasOwner;rw [beq_iff_eq.mp e] at this;exact this
 | v::r,e=>by
  unfold V3 at e
  rcases Bool.or_eq_true_iff.mp e with z | z
  .rw [beq_iff_eq.mp z];exact SF.hasOwner
  .cases v with
   | ref c=>rw [List.contains_cons,nU SF z,Bool.or_true]
   | _=>cases z
section
variable {prog:Program} {w:World} {A:Around} {E:Value->Shared->Prop} {h:Heap} {g:Array GenState} {d:Drawn} {t:Nat} {os:OsState} {K:Frag} {C e t0:Addr} {cd:ClassData} {B:String} {bmB:List Value} {name:Str} {v:Value}
theorem af9{Q:Unit->Shared->Prop}(SF:StoreFacts B bmB "object.__setattr__" "object")(X:K.In h)(he:h.get? e=some (J2 C t0 none))(hc:clsIn K C=some cd)(hd:cd.hasDict=true)(ho:V3 bmB cd.mro=true)(hs:findIn K (.ref C) "__setattr__"=some (some (.builtin "object.__setattr__")))(ht:findIn K (.ref C) name=some none)(hq:∀ h' dx tk,h.objs.size<=dx->dx≠e->h'.get? e=some (J2 C t0 (some dx))->h'.Ns1 dx (fun y=>if y=name then some v else none)->(∀ b o,b≠e->h.get? b=some o->h'.get? b=some o)->Q () ⟨h',g,d,tk,os⟩) :
  wpAny (model prog w) A (setAttr (.ref e) name v) Q E ⟨h,g,d,t,os⟩:=by
 have I:InstAt h e (J2 C t0 none) C none:=⟨he,rfl,rfl,trivial⟩
 refine set_plain (s:=⟨h,g,d,t,os⟩) X I hs ?_;have ne:cd.mro.isEmpty=false:=by
  cases q:cd.mro with
  | nil=>
   rw [q] at ho
   have:=SF.hasOwner
   rw [beq_iff_eq.mp ho] at this
   cases this
  | cons _ _=>rfl
 have sb:Looks (model prog w) h (isInstance (.ref e) (.type "object")) true:=I.type.andThen (looks_mroIn X (by unfold mroIn;rw [hc,Option.bind_some,if_neg (by rw [ne];decide),nU SF ho]));refine codeAny_call_builtin SF.slot.plain SF.entry (@check_slot (model prog w) _ _ ⟨h,g,d,t+1,os⟩ "object.__setattr__" "object" "__setattr__" (.ref e) [.str name t,v] [] _ SF.kind SF.split sb (SF.args (.ref e) (.str name t) v) ?_);have hm:Looks (model prog w) h (mroOf (.ref C)) cd.mro:=(looks_clsIn X hc).andThen .now;rw [osa_eq,refuse_eq];refine wpAny_bind (wpAny_bind (I.type.here (s:=⟨h,g,d,t+1,os⟩) (wpAny_bind (hm.here (s:=⟨h,g,d,t+1,os⟩) ?_))));rw [nS SF _ ho];refine wpAny_pure (wpAny_bind (I.type.here (s:=⟨h,g,d,t+1,os⟩) (wpAny_bind ((looks_findIn X ht).here (s:=⟨h,g,d,t+1,os⟩) (wpAny_bind (m:=storeTaker? none) (wpAny_pure ?_))))));show wpAny _ _ (ownStreamTells (.ref e) (.ref C) >>= _) _ _ _;refine wpAny_bind (m:=ownStreamTells (.ref e) (.ref C)) (wpAny_pure ?_);show wpAny _ _ (ownDictForStores (.ref e) >>= _) _ _ _;refine wpAny_bind ?_;show wpAny _ _ (instanceDict e true) _ _ _;unfold instanceDict;refine wpAny_bind (wpAny_loadPart (s:=⟨h,g,d,t+1,os⟩) he ?_)
 dsimp only
 refine wpAny_bind ((looks_clsIn X hc).here (s:=⟨h,g,d,t+1,os⟩) ?_);rw [hd,if_neg (by decide),if_neg (by simp [typeHasDict])];have zh:(h.push { cls:=.type "dict",data:=.dict #[] }).get? e=some (J2 C t0 none):=Heap.get?_push_of_some _ he;have jP:e≠h.objs.size:=J6 (Heap.lt_size he);refine wpAny_bind (wpAny_alloc' (wpAny_bind (wpAny_update' zh (wpAny_pure ?_))));have aY:((h.push { cls:=.type "dict",data:=.dict #[] }).update e fun o=>{ cls:=o.cls,dict:=some h.objs.size,data:=o.data,slots:=o.slots }).get? h.objs.size=some { cls:=.type "dict",data:=.dict #[] }:=(Heap.get?_update_ne _ _ _ _ jP.symm).trans (Heap.get?_push_at rfl rfl);have rZ:((h.push { cls:=.type "dict",data:=.dict #[] }).update e fun o=>{ cls:=o.cls,dict:=some h.objs.size,data:=o.data,slots:=o.slots }).get? e=some (J2 C t0 (some h.objs.size)):=Heap.get?_update_self _ zh rfl;have sA:∀ b o,b≠e->h.get? b=some o->((h.push { cls:=.type "dict",data:=.dict #[] }).update e fun o=>{ cls:=o.cls,dict:=some h.objs.size,data:=o.data,slots:=o.slots }).get? b=some o:=fun b o hb z=>(Heap.get?_update_ne _ _ _ _ hb).trans (Heap.get?_push_of_some _ z)
 generalize ((h.push { cls:=.type "dict",data:=.dict #[] }).update e fun o=>{ cls:=o.cls,dict:=some h.objs.size,data:=o.data,slots:=o.slots })=h2 at aY rZ sA ⊢
 have sB:h2.Ns h.objs.size (fun _=>none):=⟨_,#[],_,aY,rfl,fun e he=>absurd he (by simp),fun _=>rfl⟩
 show wpAny _ _ (storeInDict h.objs.size (.str name t) name v) _ _ _;unfold storeInDict newKeyGuard;refine wpAny_bind (wpAny_pure (wpAny_bind (wpAny_nsSet1 (Heap.Ns1.of_empty sB) fun h' u9 sC=>?_)));obtain ⟨oD,esD,epD,hoD,hdD,hcD⟩:=u9.count (Within.cons name v Within.nil);refine wpAny_bind (wpAny_lookBehind hoD (by rw [hdD];exact pastItsLine_dict (C3 hcD (by rw [E8,U4,sizeLine_eq];lia))) (wpAny_pure ?_));exact hq h' h.objs.size _ (B5 _) jP.symm ((sC.2 e jP).trans rZ) u9 fun b o hb z=>(sC.2 b (J6 (Heap.lt_size z))).trans (sA b o hb z)
end
end L2
set_option maxRecDepth 100000
namespace L2
open PySem PySem.Spec PyProof.Rows PySem.W
section
variable {M:Model} {A:Around} {E:Value->Shared->Prop} {s:Shared} {K:Frag} {C D e:Addr} {oe:Obj} {b:Bool}
theorem nV{Q:Bool->Shared->Prop}(X:K.In s.heap)(he:s.heap.get? e=some oe)(hc:oe.cls=.ref C){cd:ClassData}(hD:clsIn K D=some cd)(hT:typeIn K (.ref D)=some (.type "type"))(hB:mroIn K D (.type "BaseException")=some true)(hm:mroIn K C (.ref D)=some b)(h:Q b s) :
  wpAny M A (excMatches (.ref e) (.ref D)) Q E s:=by
 have t1:Looks M s.heap (isInstance (.ref D) (.type "tuple")) false:=(looks_typeIn X hT).andThen (Looks.of_pure tc_notTuple);have t2:Looks M s.heap (isExcClass (.ref D)) true:=by
  unfold isExcClass;refine Looks.andThen (a:=true) ?_ (by rw [if_pos rfl];exact looks_mroIn X hB);show Looks M s.heap (isType (.ref D)) true;unfold clsIn at hD
  split at hD
  .rename_i ho
   exact (Looks.ld (part:=none) (X _ _ ho)).andThen .now
  .cases hD
 have t3:Looks M s.heap (typeOf (.ref e)) (.ref C):=hc ▸ (Looks.ld he).andThen .now;unfold excMatches;refine wpAny_bind (t1.here ?_);rw [if_neg (by decide)];refine wpAny_bind (wpAny_pure (wpAny_bind ?_));rw [List.forIn_cons];refine wpAny_bind (wpAny_bind (t2.here (wpAny_pure ?_)));refine wpAny_pure (wpAny_bind (t3.here (wpAny_bind ?_)));rw [List.forIn_cons];refine wpAny_bind (wpAny_bind ((looks_mroIn X hm).here ?_))
 cases b with
 | true=>exact wpAny_pure (wpAny_pure (wpAny_pure h))
 | false=>exact wpAny_pure (wpAny_pure (wpAny_pure h))
end
end L2
set_option maxRecDepth 100000
namespace L2
open PySem PySem.Spec PyProof.Rows PySem.W PySem.Builtin PySem.Builtin.ObjectAttr
section
variable {prog:Program} {w:World} {A:Around} {E:Value->Shared->Prop} {K:Frag} {h:Heap} {g:Array GenState} {d:Drawn} {t:Nat} {os:OsState} {C e dx:Addr} {ox od:Obj} {name:Str} {v:Value} {expr:Bool} {Q:Value->Shared->Prop}
theorem ajF(X:K.In h)(I:InstAt h e ox C (some od))(aZ:findIn K (.ref C) "__getattribute__"=some (some (.builtin "BaseException.__getattribute__")))(bA:findIn K (.ref C) "__getattr__"=some none)(hB:mroIn K C (.type "BaseException")=some true)(hf:findObj K C (some od) name=some (.value v))(hh:handedIn v=true)(hq:Q v ⟨h,g,d,t+1,os⟩):wpAny (model prog w) A (getAttr (.ref e) name expr) Q E ⟨h,g,d,t,os⟩:=by
 have L0:=I.type (M:=model prog w);have L1:=looks_findIn (M:=model prog w) X aZ;have L2:=looks_findIn (M:=model prog w) X bA;have L3:=looks_find (M:=model prog w) X I hf;have jQ:(Value.builtin "BaseException.__getattribute__" == Value.builtin "object.__getattribute__")=false:=by decide +kernel
 have jR:(onTheHeap (Value.ref C)&&Value.builtin "BaseException.__getattribute__" == Value.builtin "object.__getattribute__")=false:=by rw [jQ];rfl
 have sD:(expr&&onTheHeap (Value.builtin "BaseException.__getattribute__"))=false:=by cases expr <;> rfl
 unfold getAttr getAttrBy;refine wpAny_bind (wpAny_mkText (wpAny_holding (wpAny_bind (L0.at (wpAny_bind (L1.at ?_))))))
 dsimp only
 rw [jR,if_neg (by decide)];show wpAny _ _ (getAttrByItsOwn _ _ _ _ _ _) _ _ _;unfold getAttrByItsOwn;refine wpAny_bind ?_;show wpAny _ _ (typeLookup (.ref C) "__getattr__") _ _ _;refine L2.at (wpAny_bind (wpAny_attempt (wpAny_holding ?_)));unfold callGetattribute;rw [sD,if_neg (by decide)];unfold boundAndCalled;have FA:ExcAttrFacts "ValueError":=F.attr_ValueError;rw [FA.ga.bind (.ref e)];refine wpAny_bind (wpAny_pure (wpAny_call ?_));have sb:Looks (model prog w) h (isInstance (.ref e) (.type "BaseException")) true:=L0.andThen (looks_mroIn X hB);refine codeAny_call_builtin FA.ga.plain F.entry_bexc_ga (@check_slot (model prog w) _ _ ⟨h,g,d,t+1,os⟩ "BaseException.__getattribute__" "BaseException" "__getattribute__" (.ref e) [.str name t] [] _ (by decide +kernel) (by decide +kernel) sb (F.args_bexc_ga _ _) ?_);unfold Builtin.«object.__getattribute__»;have e0:slotArgs "__getattribute__" 1 ⟨[Value.ref e]++[Value.str name t],[]⟩=pure (.ref e,[.str name t]):=rfl;rw [e0];refine wpAny_bind (wpAny_pure ?_);show wpAny _ _ (attrName (.str name t) >>= _) _ _ _;refine wpAny_bind (m:=attrName (.str name t)) (wpAny_pure ?_);refine wpAny_bind (L0.at (wpAny_bind (L3.at (wpAny_pure ?_))));show wpAny _ _ (handedOut v) _ _ _;rw [handedOut_of hh];exact wpAny_pure hq
end
end L2
set_option maxRecDepth 100000
namespace L2
open PySem PySem.Spec PyProof.Rows PySem.W PySem.Builtin PySem.Builtin.ObjectAttr
section
variable {prog:Program} {w:World} {A:Around} {E:Value->Shared->Prop} {K:Frag} {h:Heap} {g:Array GenState} {d:Drawn} {t:Nat} {os:OsState} {C e dx:Addr} {ox od:Obj} {Q:Option Value->Shared->Prop}
theorem aga(X:K.In h)(I:InstAt h e ox C (some od))(aZ:findIn K (.ref C) "__getattribute__"=some (some (.builtin "BaseException.__getattribute__")))(bA:findIn K (.ref C) "__getattr__"=some none)(hB:mroIn K C (.type "BaseException")=some true)(hf:findObj K C (some od) "__class__"=some (.bind (.builtin "getset_descriptor.__get__") (.builtin "object.__class__")))(hO:mroIn K C (.type "object")=some true)(hq:Q (some (.ref C)) ⟨h,g,d,t+1,os⟩):wpAny (model prog w) A (getAttr? (.ref e) "__class__") Q E ⟨h,g,d,t,os⟩:=by
 have L0:=I.type (M:=model prog w);have L1:=looks_findIn (M:=model prog w) X aZ;have L2:=looks_findIn (M:=model prog w) X bA;have L3:=looks_find (M:=model prog w) X I hf;have jQ:(Value.builtin "BaseException.__getattribute__" == Value.builtin "object.__getattribute__")=false:=by decide +kernel
 have jR:(onTheHeap (Value.ref C)&&Value.builtin "BaseException.__getattribute__" == Value.builtin "object.__getattribute__")=false:=by rw [jQ];rfl
 unfold getAttr? getAttrBy? getAttrBy;refine wpAny_bind (wpAny_mkText (wpAny_bind (wpAny_attempt (wpAny_holding (wpAny_bind (L0.at (wpAny_bind (L1.at ?_))))))))
 dsimp only
 rw [jR,if_neg (by decide)];show wpAny _ _ (getAttrByItsOwn _ _ _ _ _ _) _ _ _;unfold getAttrByItsOwn;refine wpAny_bind ?_;show wpAny _ _ (typeLookup (.ref C) "__getattr__") _ _ _;refine L2.at (wpAny_bind (wpAny_attempt (wpAny_holding ?_)));unfold callGetattribute;rw [if_neg (by simp)];unfold boundAndCalled;have FA:ExcAttrFacts "ValueError":=F.attr_ValueError;rw [FA.ga.bind (.ref e)];refine wpAny_bind (wpAny_pure (wpAny_call ?_));have sb:Looks (model prog w) h (isInstance (.ref e) (.type "BaseException")) true:=L0.andThen (looks_mroIn X hB);refine codeAny_call_builtin FA.ga.plain F.entry_bexc_ga (@check_slot (model prog w) _ _ ⟨h,g,d,t+1,os⟩ "BaseException.__getattribute__" "BaseException" "__getattribute__" (.ref e) [.str "__class__" t] [] _ (by decide +kernel) (by decide +kernel) sb (F.args_bexc_ga _ _) ?_);unfold Builtin.«object.__getattribute__»;have e0:slotArgs "__getattribute__" 1 ⟨[Value.ref e]++[Value.str "__class__" t],[]⟩=pure (.ref e,[.str "__class__" t]):=rfl;rw [e0];refine wpAny_bind (wpAny_pure ?_);show wpAny _ _ (attrName (.str "__class__" t) >>= _) _ _ _;refine wpAny_bind (m:=attrName (.str "__class__" t)) (wpAny_pure ?_);refine wpAny_bind (L0.at (wpAny_bind (L3.at ?_)));show wpAny _ _ (bindTo (.builtin "getset_descriptor.__get__") (.builtin "object.__class__") (.ref e) (.ref C)) _ _ _;unfold bindTo;refine wpAny_bind (wpAny_holding (wpAny_call (class_get (s:=⟨h,g,d,t+1,os⟩) (ox:=ox) (od:=some od) X I hO ?_)));refine wpAny_pure ?_;show wpAny _ _ (handedOut (.ref C)) _ _ _;rw [handedOut_of rfl];exact wpAny_pure (wpAny_pure hq)
theorem nW(E9:hasDictIn K C=true)(aZ:findIn K (.ref C) "__getattribute__"=some (some (.builtin "BaseException.__getattribute__")))(bA:findIn K (.ref C) "__getattr__"=some none)(hB:mroIn K C (.type "BaseException")=some true)(ha:findIn K (.ref C) "__class__"=some (some (.builtin "object.__class__")))(hn:specialIn K (.builtin "object.__class__") "__get__"=some (some (.builtin "getset_descriptor.__get__")))(j6:takesIn K (.builtin "object.__class__")=some true)(hO:mroIn K C (.type "object")=some true) :
  KitX K (.ref e) (.ref C) (fun h=>InstAt h e ox C (some od)) where
 ty:=fun _ _ _ I=>I.type
 it:=fun _ _ X _=>by
  obtain ⟨cdD,hcD,_⟩:=any_some E9;unfold clsIn at hcD
  split at hcD
  .rename_i ho
   exact (Looks.ld (part:=none) (X _ _ ho)).andThen .now
  .cases hcD
 ne:=fun h tp dd its n sl X jS=>by
  obtain ⟨cdD,hcD,_⟩:=any_some E9;refine Bool.eq_false_iff.mpr fun q=>?_
  have e1:C=tp:=Value.ref.inj (beq_iff_eq.mp q);subst e1;unfold clsIn at hcD
  split at hcD
  .rename_i ho
   cases (X _ _ ho).symm.trans jS
  .cases hcD
 ca:=fun {_ _ _ _ _ s} X I k=>by
  obtain ⟨h,g,d,t,os⟩:=s;exact aga X I aZ bA hB (findObj_data (by obtain ⟨cd,hc,_⟩:=any_some E9;rw [hc];rfl) ha hn j6) hO k
end
end L2
set_option maxRecDepth 100000
namespace L2
open PySem PySem.Spec PyProof.Rows PySem.W
noncomputable def Flies (h:Heap) (x C dx T:Addr):Prop:=∃ (vs:Array Value) (oT:Obj) (ts:Array Value),h.get? x=some { cls:=.ref C,dict:=some dx,data:=.fields vs }/\vs[1]?=some (.ref T)/\T≠x/\h.get? T=some oT/\oT.data=.fields ts/\ts[3]?=some .none
section
variable {M:Model} {A:Around} {E:Value->Shared->Prop} {s:Shared} {base:Heap} {env:Env} {outer:List Env} {L x C dx:Addr} {Q:Unit->Shared->Prop}
theorem z7{vs:Array Value}{l:List Env}(hl:s.heap.FunFrames base l)(he:s.heap.get? x=some o)(hd:o.data=.fields vs):x∉l.filterMap (·.frame):=fun hm=>by
 obtain ⟨_,o',ho,hn⟩:=hl.mem hm;rw [he] at ho;cases ho;exact hn vs hd
theorem nX{oe:Obj}{vs:Array Value}(E1:A.frames=some (env::outer))(hl:s.heap.FunFrames base (env::outer))(hf:env.frame=some L)(he:s.heap.get? x=some { cls:=.ref C,dict:=some dx,data:=.fields vs })(hsz:1<vs.size)(h:∀ h' T,s.heap.objs.size<=T->Flies h' x C dx T->(∀ b o,b≠x->b∉(env::outer).filterMap (·.frame)->s.heap.get? b=some o->h'.get? b=some o)->(∀ b o,b≠x->s.heap.get? b=some o->∃ sl,h'.get? b=some { o with slots:=sl })->Q () { s with heap:=h' }) :
  wpAny M A (do let a <- frameOf env;let pl <- entryPlaceOf L hadNext;let b <- EntryCells.newEntry head a .none (rawInt L) .none pl;setField (.ref x) 1 b) (fun _ s'=>wpAny M A (setFlight (.ref x) none) Q E s') E s:=by
 have bB:=z7 hl he rfl;refine wpAny_bind (wpAny_frameOf_fun E1 hl hf fun zq zg=>wpAny_bind (wpAny_entryPlaceOf fun pl C7=>?_));unfold EntryCells.newEntry newFields;refine wpAny_bind (wpAny_newObj_type ?_ (C7.sizeOk5 _ _ _ _ _));have zf:zq.get? x=some { cls:=.ref C,dict:=some dx,data:=.fields vs }:=(zg.2.1 x bB).trans he;generalize hoT:({ cls:=.type "traceback",dict:=none,data:=.fields ([head,.ref L,.none,rawInt L,.none]++(if pl.isEmpty then K7 6 Value.none else pl)).toArray } : Obj)=oT;have hTd:∃ ts:Array Value,oT.data=.fields ts/\3<ts.size:=⟨_,by rw [<- hoT],by simp only [E7,K3,E8,U4] <;> lia⟩
 obtain ⟨ts,hTd,hT3⟩:=hTd;have hTf:oT.isFreed=false:=by rw [<- hoT];rfl
 have hTe:zq.objs.size≠x:=R5 (Heap.lt_size zf);have ze:=Heap.get?_push_of_some (h:=zq) oT zf;have zd:(zq.push oT).get? zq.objs.size=some oT:=Heap.get?_push_size zq hTf;refine wpAny_setField ze rfl hsz ?_;have zc:=Obj.data_mapFields (o:={ cls:=.ref C,dict:=some dx,data:=.fields vs }) rfl (·.setIfInBounds 1 (Value.ref zq.objs.size));have zb:=Heap.get?_update_self (Obj.mapFields (·.setIfInBounds 1 (Value.ref zq.objs.size))) ze (Obj.isFreed_of_fields zc);have za:=(Heap.get?_update_other (zq.push oT) (Obj.mapFields (·.setIfInBounds 1 (Value.ref zq.objs.size))) (Ne.symm hTe)).trans zd;unfold setFlight;refine wpAny_bind (wpAny_field zb zc (x:=.ref zq.objs.size) (by simp [hsz]) ?_);rw [if_pos (show (Value.ref zq.objs.size != Value.none)=true from by simp)];refine wpAny_setField za hTd hT3 (h _ zq.objs.size ?_ ?_ (fun b o hb U0 z=>?_) fun b o hb z=>?_)
 .rw [zg.1];exact B5 _
 .refine ⟨_,_,_,(by rw [Heap.get?_update_other _ _ hTe];exact zb),?_,hTe,Heap.get?_update_self _ za (Obj.isFreed_of_fields (Obj.data_mapFields hTd _)),Obj.data_mapFields hTd _,?_⟩
  .simp [hsz]
  .simp [hT3]
 .have hbT:zq.objs.size≠b:=R5 (by rw [zg.1];exact Heap.lt_size z);rw [Heap.get?_update_other _ _ hbT,Heap.get?_update_other _ _ (Ne.symm hb)];exact Heap.get?_push_of_some _ ((zg.2.1 b U0).trans z)
 .have hbT:zq.objs.size≠b:=R5 (by rw [zg.1];exact Heap.lt_size z);obtain ⟨sl,z'⟩:=zg.2.2 b o z;refine ⟨sl,?_⟩;rw [Heap.get?_update_other _ _ hbT,Heap.get?_update_other _ _ (Ne.symm hb)];exact Heap.get?_push_of_some _ z'
theorem agb(E1:A.frames=some (env::outer))(hl:s.heap.FunFrames base (env::outer))(hf:env.frame=some L)(he:s.heap.get? x=some (J2 C t0 (some dx)))(h:∀ h' T,s.heap.objs.size<=T->Flies h' x C dx T->(∀ b o,b≠x->b∉(env::outer).filterMap (·.frame)->s.heap.get? b=some o->h'.get? b=some o)->(∀ b o,b≠x->s.heap.get? b=some o->∃ sl,h'.get? b=some { o with slots:=sl })->Q () { s with heap:=h' }) :
  wpAny M A (noteFrame (.ref x) env) (fun _ s'=>wpAny M A (setFlight (.ref x) none) Q E s') E s:=by
 unfold noteFrame;simp only [hf];refine wpAny_bind (wpAny_field he rfl (x:=.none) rfl ?_);rw [if_neg (by decide)];exact nX (oe:=J2 C t0 (some dx)) E1 hl hf he (by simp) h
theorem nY(E1:A.frames=some (env::outer))(hl:s.heap.FunFrames base (env::outer))(hf:env.frame=some L)(fl:Flies s.heap x C dx T)(h:∀ h' T',s.heap.objs.size<=T'->Flies h' x C dx T'->(∀ b o,b≠x->b≠T->b∉(env::outer).filterMap (·.frame)->s.heap.get? b=some o->h'.get? b=some o)->(∀ b o,b≠x->b≠T->s.heap.get? b=some o->∃ sl,h'.get? b=some { o with slots:=sl })->Q () { s with heap:=h' }) :
  wpAny M A (noteFrame (.ref x) env) (fun _ s'=>wpAny M A (setFlight (.ref x) none) Q E s') E s:=by
 obtain ⟨vs,oT,ts,he,h1,hTx,hT,hTd,h3⟩:=fl;unfold noteFrame;simp only [hf];refine wpAny_bind (wpAny_field he rfl h1 ?_);rw [if_pos (show (Value.ref T != Value.none)=true from by simp)];refine wpAny_bind (wpAny_field hT hTd h3 ?_);rw [if_neg (show ¬ ((Value.none==rawInt L)=true) from by simp [rawInt])];refine wpAny_bind (wpAny_setField hT hTd (o9.mp h3).1 ?_);have oth:∀ b,b≠T->(s.heap.update T (Obj.mapFields (·.setIfInBounds 3 Value.none))).get? b=s.heap.get? b:=fun b hb=>Heap.get?_update_other _ _ (Ne.symm hb)
 have hTf:T∉(env::outer).filterMap (·.frame):=z7 hl hT hTd;have hTn:∀ b o,s.heap.get? b=some o->(∀ vs,o.data≠.fields vs)->b≠T:=fun b o hb hn q=>by rw [q,hT] at hb;cases hb;exact hn ts hTd
 refine nX (oe:=oT) E1 (hl.of_keeps fun b o hb hn=>⟨o,(oth b (hTn b o hb hn)).trans hb,rfl⟩) hf ((oth x (Ne.symm hTx)).trans he) (o9.mp h1).1 fun h' T' n' fl' k1 k2=>h h' T' ?_ fl' (fun b o hb hbT U0 z=>k1 b o hb U0 ((oth b hbT).trans z)) fun b o hb hbT z=>k2 b o hb ((oth b hbT).trans z)
 exact C3 (Nat.le_of_eq (Heap.size_update ..).symm) n'
theorem nZ(fl:Flies s.heap x C dx T)(h:∀ h',Flies h' x C dx T->(∀ b o,b≠T->s.heap.get? b=some o->h'.get? b=some o)->Q () { s with heap:=h' }):wpAny M A (setFlight (.ref x) none) Q E s:=by
 obtain ⟨vs,oT,ts,he,h1,hTx,hT,hTd,h3⟩:=fl;have h3s:3<ts.size:=(o9.mp h3).1;unfold setFlight;refine wpAny_bind (wpAny_field he rfl h1 ?_);rw [if_pos (show (Value.ref T != Value.none)=true from by simp)];refine wpAny_setField hT hTd h3s (h _ ⟨vs,_,_,(Heap.get?_update_other _ _ hTx).trans he,h1,hTx,Heap.get?_update_self _ hT (Obj.isFreed_of_fields (Obj.data_mapFields hTd _)),Obj.data_mapFields hTd _,?_⟩ fun b o hb z=>(Heap.get?_update_other _ _ (Ne.symm hb)).trans z);simp [h3s]
end
end L2
set_option maxRecDepth 100000
namespace L2
open PySem PySem.Spec PyProof.Rows PySem.W
noncomputable abbrev fW (C t0 h:Addr) (od:Option Addr):Obj:={ cls:=.ref C,dict:=od,data:=.fields #[.ref t0,.none,.ref h,.none,.bool true,.none] }
theorem ac4:entryFor table "proto.unchain"=some Builtin.«proto.unchain»:=entryFor_of_tree (by kernel_rfl)
section
variable {prog:Program} {w:World} {A:Around} {E:Value->Shared->Prop} {s:Shared} {env:Env}
theorem adO{h:Addr}{vs:Array Value}{Q:Value->Shared->Prop}(ho:s.heap.get? h=some oh)(hd:oh.data=.fields vs)(h2:vs[2]?=some .none)(hq:Q .none s) :
  wpAny (model prog w) A (runValue (.builtin "proto.unchain" ⟨[.ref e,.ref h,.ref h,.bool false],[]⟩)) Q E s:=by
 refine runValue_entry ac4 ?_;unfold Builtin.«proto.unchain»;refine wpAny_bind (wpAny_field ho hd h2 ?_);rw [if_pos (by decide)];exact wpAny_pure ⟨_,rfl,hq⟩
theorem ac5{α:Type}{h:Addr}{vs ve:Array Value}{Q:α->Shared->Prop}(hh:A.handled=some (.ref h))(ne:e≠h)(ho:s.heap.get? h=some oh)(hd:oh.data=.fields vs)(h2:vs[2]?=some .none)(he:s.heap.get? e=some oe)(hde:oe.data=.fields ve)(hsz:2<ve.size)(hE:E (.ref e) { s with heap:=s.heap.update e (Obj.mapFields (·.setIfInBounds 2 (.ref h))) }):wpAny (model prog w) A (raiseNew (.ref e):Sem α) Q E s:=by
 unfold raiseNew;refine wpAny_bind (wpAny_handled ?_);rw [hh];have L7:((Value.ref h) != (Value.ref e))=true:=by
  rw [bne_iff_ne];intro q
  cases q
  exact ne rfl
 dsimp only
 rw [if_pos L7];refine wpAny_bind (wpAny_holding (adO ho hd h2 ?_));simp only [updateField];refine wpAny_bind (wpAny_bind (wpAny_load he ?_));rw [hde]
 dsimp only
 rw [if_pos hsz];exact wpAny_update he (wpAny_throw hE)
theorem ae7{x c:Sem Value}{h:Addr}{Q:Flow->Shared->Prop}(hh:A.handled=some (.ref h))(hx:wpAny (model prog w) A x (fun v s₀=>wpAny (model prog w) A c (fun u zv=>u=.none/\∃ (e C t N:Addr) (od:Option Addr) (nm q:Str) (bs bm:List Value) (E9:Bool) (sn:List Str) (sub:List Value) (ab:Bool) (col:Option Bool) (dd:Option Addr) (k0 k1 k2 k3 k5:Option Value) (newId:String),v=.ref e/\
   zv.heap.get? C=some (excClassObj nm q C N bs bm E9 sn sub ab col dd k0 k1 k2 k3 k5 newId)/\bm.contains (.type "BaseException")=true/\zv.heap.get? e=some (J2 C t od)/\e≠h/\e≠C/\(∃ oh vs,zv.heap.get? h=some oh/\oh.data=.fields vs/\vs[2]?=some .none)/\
   ∀ h',h'.get? e=some (fW C t h od)->(∀ b,b≠e->h'.get? b=zv.heap.get? b)->h'.objs.size=zv.heap.objs.size->E (.ref e) { zv with heap:=h' }) E s₀) E s) :
  wpAny (model prog w) A (raiseStmt env (some x) (some c)) Q E s:=by
 unfold raiseStmt;refine wpAny_bind (wpAny_mono hx (fun v s₀ z0=>?_) fun _ _ y=>y);refine wpAny_bind (wpAny_holding (wpAny_mono z0 (fun u zv z=>?_) fun _ _ y=>y));obtain ⟨rfl,e,C,t,N,od,nm,q,bs,bm,E9,sn,sub,ab,col,dd,k0,k1,k2,k3,k5,newId,rfl,hC,E4,he,neh,neC,⟨oh,vs,ho,hd,h2⟩,hE⟩:=z;have hcB:(Value.ref C::bm).contains (.type "BaseException")=true:=by rw [List.contains_cons,E4,Bool.or_true]
 obtain ⟨hp,g,d,tk,os⟩:=zv
 repeat (first | with_reducible refine wpAny_loadPart_at he ?_ | with_reducible refine wpAny_loadPart_at hC ?_ | (with_reducible refine wpAny_isSubtype_exc hC ?_;rw [hcB]) | wp_step)
 have up:∀ (hp:Heap) (i:Nat) (v:Value) (vs:Array Value),hp.get? e=some { cls:=.ref C,dict:=od,data:=.fields vs }->(hp.update e (Obj.mapFields (·.setIfInBounds i v))).get? e=some { cls:=.ref C,dict:=od,data:=.fields (vs.setIfInBounds i v) }:=fun hp i v vs h=>by
  exact Heap.get?_update_self _ h rfl
 have e1:=up hp 3 .none _ he;have e2:=up _ 4 (.bool true) _ e1;have ne:∀ (hp:Heap) f b,b≠e->(hp.update e f).get? b=hp.get? b:=fun hp f b hb=>Heap.get?_update_ne _ _ _ _ hb
 refine ac5 hh neh (by rw [ne _ _ _ (Ne.symm neh),ne _ _ _ (Ne.symm neh)];exact ho) hd h2 e2 rfl (by simp) (hE _ ?_ (fun b hb=>?_) ?_)
 .exact up _ 2 (.ref h) _ e2
 .rw [ne _ _ _ hb,ne _ _ _ hb,ne _ _ _ hb]
 .rw [Heap.size_update,Heap.size_update,Heap.size_update]
end
section
variable {M:Model} {A A':Around} {E E':Value->Shared->Prop} {s:Shared} {base:Heap} {env:Env} {outer:List Env} {L x C dx:Addr} {Q:Unit->Shared->Prop}
theorem agc{vs:Array Value}{XE:Value->Shared->Prop}(hXE:∀ s2,wpAny M A (leaving env (.ref x)) Q E s2->XE (.ref x) s2)(E1:A'.frames=some (env::outer))(hl:s.heap.FunFrames base (env::outer))(hf:env.frame=some L)(he:s.heap.get? x=some { cls:=.ref C,dict:=some dx,data:=.fields vs })(h1:vs[1]?=some .none)(h:∀ h' T,s.heap.objs.size<=T->Flies h' x C dx T->(∀ b o,b≠x->b∉(env::outer).filterMap (·.frame)->s.heap.get? b=some o->h'.get? b=some o)->(∀ b o,b≠x->s.heap.get? b=some o->∃ sl,h'.get? b=some { o with slots:=sl })->Q () { s with heap:=h' }) :
  wpAny M A' (noteFrame (.ref x) env) (fun _ s1=>cameBackBy M A env XE (.ref x) s1) E' s:=by
 have hsz:1<vs.size:=(o9.mp h1).1;unfold noteFrame;simp only [hf];refine wpAny_bind (wpAny_field he rfl h1 ?_);rw [if_neg (by decide)];have bB:=z7 hl he rfl;refine wpAny_bind (wpAny_frameOf_fun E1 hl hf fun zq zg=>wpAny_bind (wpAny_entryPlaceOf fun pl C7=>?_));unfold EntryCells.newEntry newFields;refine wpAny_bind (wpAny_newObj_type ?_ (C7.sizeOk5 _ _ _ _ _));have zf:zq.get? x=some { cls:=.ref C,dict:=some dx,data:=.fields vs }:=(zg.2.1 x bB).trans he;generalize hoT:({ cls:=.type "traceback",dict:=none,data:=.fields ([Value.none,.ref L,.none,rawInt L,.none]++(if pl.isEmpty then K7 6 Value.none else pl)).toArray } : Obj)=oT;have hTd:∃ ts:Array Value,oT.data=.fields ts/\3<ts.size:=⟨_,by rw [<- hoT],by simp only [E7,K3,E8,U4] <;> lia⟩
 obtain ⟨ts,hTd,hT3⟩:=hTd;have hTf:oT.isFreed=false:=by rw [<- hoT];rfl
 have hTe:zq.objs.size≠x:=R5 (Heap.lt_size zf);have ze:=Heap.get?_push_of_some (h:=zq) oT zf;have zd:(zq.push oT).get? zq.objs.size=some oT:=Heap.get?_push_size zq hTf;refine wpAny_setField ze rfl hsz ?_;have zc:=Obj.data_mapFields (o:={ cls:=.ref C,dict:=some dx,data:=.fields vs }) rfl (·.setIfInBounds 1 (Value.ref zq.objs.size));have zb:=Heap.get?_update_self (Obj.mapFields (·.setIfInBounds 1 (Value.ref zq.objs.size))) ze (Obj.isFreed_of_fields zc);have za:=(Heap.get?_update_other (zq.push oT) (Obj.mapFields (·.setIfInBounds 1 (Value.ref zq.objs.size))) (Ne.symm hTe)).trans zd;have h1':(vs.setIfInBounds 1 (Value.ref zq.objs.size))[1]?=some (.ref zq.objs.size):=by simp [hsz]
 generalize hH3:(zq.push oT).update x (Obj.mapFields (·.setIfInBounds 1 (Value.ref zq.objs.size)))=H3 at zb za;unfold cameBackBy;refine wpAny_bind (wpAny_field zb zc h1' ?_);rw [if_neg (by simp)];unfold setFlight;refine wpAny_bind (wpAny_field zb zc h1' ?_);rw [if_pos (show (Value.ref zq.objs.size != Value.none)=true from by simp)];refine wpAny_setField za hTd hT3 ?_;have yz:=Obj.data_mapFields hTd (·.setIfInBounds 3 (env.frame.elim Value.none fun f=>rawInt f));have yy:=Heap.get?_update_self (Obj.mapFields (·.setIfInBounds 3 (env.frame.elim Value.none fun f=>rawInt f))) za (Obj.isFreed_of_fields yz);have yx:=(Heap.get?_update_other H3 (Obj.mapFields (·.setIfInBounds 3 (env.frame.elim Value.none fun f=>rawInt f))) hTe).trans zb;have yw:(ts.setIfInBounds 3 (env.frame.elim Value.none fun f=>rawInt f))[3]?=some (rawInt L):=by rw [hf];simp [hT3]
 have k4:∀ b,b≠zq.objs.size->(H3.update zq.objs.size (Obj.mapFields (·.setIfInBounds 3 (env.frame.elim Value.none fun f=>rawInt f)))).get? b=H3.get? b:=fun b hb=>Heap.get?_update_other _ _ (Ne.symm hb)
 generalize H3.update zq.objs.size (Obj.mapFields (·.setIfInBounds 3 (env.frame.elim Value.none fun f=>rawInt f)))=H4 at yy yx k4;refine hXE _ ?_;unfold leaving noteFrame;simp only [hf];refine wpAny_bind (wpAny_bind (wpAny_field yx zc h1' ?_));rw [if_pos (show (Value.ref zq.objs.size != Value.none)=true from by simp)];refine wpAny_bind (wpAny_field yy yz yw ?_);rw [if_pos (by simp)];refine wpAny_pure ?_;unfold setFlight;refine wpAny_bind (wpAny_field yx zc h1' ?_);rw [if_pos (show (Value.ref zq.objs.size != Value.none)=true from by simp)];have hs4:3<(ts.setIfInBounds 3 (env.frame.elim Value.none fun f=>rawInt f)).size:=by simpa using hT3
 refine wpAny_setField yy yz hs4 (h _ zq.objs.size ?_ ?_ (fun b o hb U0 z=>?_) fun b o hb z=>?_)
 .rw [zg.1];exact B5 _
 .refine ⟨_,_,_,(by rw [Heap.get?_update_other _ _ hTe];exact yx),h1',hTe,Heap.get?_update_self _ yy (Obj.isFreed_of_fields (Obj.data_mapFields yz _)),Obj.data_mapFields yz _,?_⟩;simp [hT3]
 .have hbT:zq.objs.size≠b:=R5 (by rw [zg.1];exact Heap.lt_size z);rw [Heap.get?_update_other _ _ hbT,k4 _ (Ne.symm hbT),<- hH3,Heap.get?_update_other _ _ (Ne.symm hb)];exact Heap.get?_push_of_some _ ((zg.2.1 b U0).trans z)
 .have hbT:zq.objs.size≠b:=R5 (by rw [zg.1];exact Heap.lt_size z);obtain ⟨sl,z'⟩:=zg.2.2 b o z;refine ⟨sl,?_⟩;rw [Heap.get?_update_other _ _ hbT,k4 _ (Ne.symm hbT),<- hH3,Heap.get?_update_other _ _ (Ne.symm hb)];exact Heap.get?_push_of_some _ z'
end
end L2
set_option maxRecDepth 100000
namespace L2
open PySem PySem.Spec PyProof.Rows PySem.W
noncomputable def NoCx (h:Heap) (x:Addr):Prop:=∃ (o:Obj) (vs:Array Value),h.get? x=some o/\o.data=.fields vs/\vs[2]?=some .none
section
variable {M:Model} {A:Around} {E:Value->Shared->Prop} {s:Shared} {base:Heap} {env:Env} {outer:List Env} {L x C dx:Addr} {Q:Unit->Shared->Prop}
theorem oA{oe:Obj}{vs:Array Value}(E1:A.frames=some (env::outer))(hl:s.heap.FunFrames base (env::outer))(hf:env.frame=some L)(he:s.heap.get? x=some { cls:=.ref C,dict:=some dx,data:=.fields vs })(hsz:1<vs.size)(h:∀ h' T,s.heap.objs.size<=T->Flies h' x C dx T->(∀ b o,b≠x->b∉(env::outer).filterMap (·.frame)->s.heap.get? b=some o->h'.get? b=some o)->(∀ b o,b≠x->s.heap.get? b=some o->∃ sl,h'.get? b=some { o with slots:=sl })->(vs[2]?=some .none->NoCx h' x)->Q () { s with heap:=h' }) :
  wpAny M A (do let a <- frameOf env;let pl <- entryPlaceOf L hadNext;let b <- EntryCells.newEntry head a .none (rawInt L) .none pl;setField (.ref x) 1 b) (fun _ s'=>wpAny M A (setFlight (.ref x) none) Q E s') E s:=by
 have bB:=z7 hl he rfl;refine wpAny_bind (wpAny_frameOf_fun E1 hl hf fun zq zg=>wpAny_bind (wpAny_entryPlaceOf fun pl C7=>?_));unfold EntryCells.newEntry newFields;refine wpAny_bind (wpAny_newObj_type ?_ (C7.sizeOk5 _ _ _ _ _));have zf:zq.get? x=some { cls:=.ref C,dict:=some dx,data:=.fields vs }:=(zg.2.1 x bB).trans he;generalize hoT:({ cls:=.type "traceback",dict:=none,data:=.fields ([head,.ref L,.none,rawInt L,.none]++(if pl.isEmpty then K7 6 Value.none else pl)).toArray } : Obj)=oT;have hTd:∃ ts:Array Value,oT.data=.fields ts/\3<ts.size:=⟨_,by rw [<- hoT],by simp only [E7,K3,E8,U4] <;> lia⟩
 obtain ⟨ts,hTd,hT3⟩:=hTd;have hTf:oT.isFreed=false:=by rw [<- hoT];rfl
 have hTe:zq.objs.size≠x:=R5 (Heap.lt_size zf);have ze:=Heap.get?_push_of_some (h:=zq) oT zf;have zd:(zq.push oT).get? zq.objs.size=some oT:=Heap.get?_push_size zq hTf;refine wpAny_setField ze rfl hsz ?_;have zc:=Obj.data_mapFields (o:={ cls:=.ref C,dict:=some dx,data:=.fields vs }) rfl (·.setIfInBounds 1 (Value.ref zq.objs.size));have zb:=Heap.get?_update_self (Obj.mapFields (·.setIfInBounds 1 (Value.ref zq.objs.size))) ze (Obj.isFreed_of_fields zc);have za:=(Heap.get?_update_other (zq.push oT) (Obj.mapFields (·.setIfInBounds 1 (Value.ref zq.objs.size))) (Ne.symm hTe)).trans zd;unfold setFlight;refine wpAny_bind (wpAny_field zb zc (x:=.ref zq.objs.size) (by simp [hsz]) ?_);rw [if_pos (show (Value.ref zq.objs.size != Value.none)=true from by simp)];refine wpAny_setField za hTd hT3 (h _ zq.objs.size ?_ ?_ (fun b o hb U0 z=>?_) (fun b o hb z=>?_) fun hc=>⟨_,_,(by rw [Heap.get?_update_other _ _ hTe];exact zb),zc,by rw [Array.getElem?_setIfInBounds_ne (by decide)];exact hc⟩)
 .rw [zg.1];exact B5 _
 .refine ⟨_,_,_,(by rw [Heap.get?_update_other _ _ hTe];exact zb),?_,hTe,Heap.get?_update_self _ za (Obj.isFreed_of_fields (Obj.data_mapFields hTd _)),Obj.data_mapFields hTd _,?_⟩
  .simp [hsz]
  .simp [hT3]
 .have hbT:zq.objs.size≠b:=R5 (by rw [zg.1];exact Heap.lt_size z);rw [Heap.get?_update_other _ _ hbT,Heap.get?_update_other _ _ (Ne.symm hb)];exact Heap.get?_push_of_some _ ((zg.2.1 b U0).trans z)
 .have hbT:zq.objs.size≠b:=R5 (by rw [zg.1];exact Heap.lt_size z);obtain ⟨sl,z'⟩:=zg.2.2 b o z;refine ⟨sl,?_⟩;rw [Heap.get?_update_other _ _ hbT,Heap.get?_update_other _ _ (Ne.symm hb)];exact Heap.get?_push_of_some _ z'
theorem ae8(E1:A.frames=some (env::outer))(hl:s.heap.FunFrames base (env::outer))(hf:env.frame=some L)(he:s.heap.get? x=some (J2 C t0 (some dx)))(h:∀ h' T,s.heap.objs.size<=T->Flies h' x C dx T->(∀ b o,b≠x->b∉(env::outer).filterMap (·.frame)->s.heap.get? b=some o->h'.get? b=some o)->(∀ b o,b≠x->s.heap.get? b=some o->∃ sl,h'.get? b=some { o with slots:=sl })->NoCx h' x->Q () { s with heap:=h' }) :
  wpAny M A (noteFrame (.ref x) env) (fun _ s'=>wpAny M A (setFlight (.ref x) none) Q E s') E s:=by
 unfold noteFrame;simp only [hf];refine wpAny_bind (wpAny_field he rfl (x:=.none) rfl ?_);rw [if_neg (by decide)];exact oA (oe:=J2 C t0 (some dx)) E1 hl hf he (by simp) fun h' T n fl k1 k2 k3=>h h' T n fl k1 k2 (k3 rfl)
theorem ae9(E1:A.frames=some (env::outer))(hl:s.heap.FunFrames base (env::outer))(hf:env.frame=some L)(fl:Flies s.heap x C dx T)(hc:NoCx s.heap x)(h:∀ h' T',s.heap.objs.size<=T'->Flies h' x C dx T'->(∀ b o,b≠x->b≠T->b∉(env::outer).filterMap (·.frame)->s.heap.get? b=some o->h'.get? b=some o)->(∀ b o,b≠x->b≠T->s.heap.get? b=some o->∃ sl,h'.get? b=some { o with slots:=sl })->NoCx h' x->Q () { s with heap:=h' }) :
  wpAny M A (noteFrame (.ref x) env) (fun _ s'=>wpAny M A (setFlight (.ref x) none) Q E s') E s:=by
 obtain ⟨vs,oT,ts,he,h1,hTx,hT,hTd,h3⟩:=fl;unfold noteFrame;simp only [hf];refine wpAny_bind (wpAny_field he rfl h1 ?_);rw [if_pos (show (Value.ref T != Value.none)=true from by simp)];refine wpAny_bind (wpAny_field hT hTd h3 ?_);rw [if_neg (show ¬ ((Value.none==rawInt L)=true) from by simp [rawInt])];refine wpAny_bind (wpAny_setField hT hTd (o9.mp h3).1 ?_);have oth:∀ b,b≠T->(s.heap.update T (Obj.mapFields (·.setIfInBounds 3 Value.none))).get? b=s.heap.get? b:=fun b hb=>Heap.get?_update_other _ _ (Ne.symm hb)
 have hTf:T∉(env::outer).filterMap (·.frame):=z7 hl hT hTd;have hTn:∀ b o,s.heap.get? b=some o->(∀ vs,o.data≠.fields vs)->b≠T:=fun b o hb hn q=>by rw [q,hT] at hb;cases hb;exact hn ts hTd
 have b6:vs[2]?=some .none:=by
  obtain ⟨o',vs',Q9,j3,h2'⟩:=hc;rw [he] at Q9;cases Q9;cases j3;exact h2'
 refine oA (oe:=oT) E1 (hl.of_keeps fun b o hb hn=>⟨o,(oth b (hTn b o hb hn)).trans hb,rfl⟩) hf ((oth x (Ne.symm hTx)).trans he) (o9.mp h1).1 fun h' T' n' fl' k1 k2 k3=>h h' T' ?_ fl' (fun b o hb hbT U0 z=>k1 b o hb U0 ((oth b hbT).trans z)) (fun b o hb hbT z=>k2 b o hb ((oth b hbT).trans z)) (k3 b6)
 exact C3 (Nat.le_of_eq (Heap.size_update ..).symm) n'
end
end L2
set_option maxRecDepth 100000
namespace L2
open PySem PySem.Spec PyProof.Rows
noncomputable def xm (m:Nat) (x C:Addr):HO:=.ext fun h=>m<=x/\∃ t0,h.get? x=some (J2 C t0 none)
noncomputable def xo (m:Nat) (x C dx:Addr):HO:=.ext fun h=>m<=x/\∃ t0,h.get? x=some (J2 C t0 (some dx))
noncomputable def xc (x C dx:Addr):HO:=.ext fun h=>∃ o,h.get? x=some o/\o.cls=.ref C/\o.dict=some dx/\PySem.W.notCls o=true
theorem xm_ok{P:Program}{x:Addr}(hm:m<=x)(e:h.get? x=some (J2 C t0 none)):ObjOk P w H h x (xm m x C):=⟨⟨hm,t0,e⟩,⟨_,e⟩,fun _ _ z k=>⟨z.1,z.2.elim fun t a=>⟨t,k _ a⟩⟩⟩
theorem xo_ok{P:Program}{x:Addr}(hm:m<=x)(e:h.get? x=some (J2 C t0 (some dx))):ObjOk P w H h x (xo m x C dx):=⟨⟨hm,t0,e⟩,⟨_,e⟩,fun _ _ z k=>⟨z.1,z.2.elim fun t a=>⟨t,k _ a⟩⟩⟩
theorem xc_ok{P:Program}{x:Addr}(e:h.get? x=some o)(h1:o.cls=.ref C)(h2:o.dict=some dx)(h3:PySem.W.notCls o=true):ObjOk P w H h x (xc x C dx):=
 ⟨⟨o,e,h1,h2,h3⟩,⟨_,e⟩,fun _ _ z k=>z.elim fun t a=>⟨t,k _ a.1,a.2⟩⟩
theorem fX{P:Program}{o:HO}(x:D1 P w H h)(hn:H a=none)(new:ObjOk P w (A0 H a o) h a o):D1 P w (A0 H a o) h:=fun b u e=>by
 by_cases hb:b=a
 .subst hb;rw [A3] at e;cases e;exact new
 .rw [A7 hb] at e;exact (x b u e).stay (fun c v _ q=>q) (fun c q=>by rw [A7 (F4 q hn)];exact q) fun c xs q=>by rw [A7 (F4 q hn)];exact q
theorem oB{N:Addr}{m:Str->Option Value}{n:Str}(X:K.In h)(G:h.Ns N m)(e:C4 K N n=some (some v)):m n=some v:=by
 obtain ⟨o,es,ep,ho,hd,_,hf⟩:=G;unfold C4 at e
 split at e
 .rename_i es' n' q
  rw [X _ _ q] at ho;cases ho;cases hd
  split at e
  .rename_i y hy
   cases e;rw [<- hf];unfold nsFind findBy;rw [<- Array.find?_toList,hy];rfl
  .exfalso
   split at e <;> cases e
 .cases e
noncomputable abbrev g9:List Value:=[.type "ValueError",.type "Exception",.type "BaseException",.type "object"]
structure ErrC(K:PySem.W.Frag)(C f:Addr):Prop where
 ex:∃ (nm q:Str) (N:Addr) (bs bm:List Value) (sn:List Str) (sub:List Value) (ab:Bool) (col:Option Bool) (dd:Option Addr) (k0 k1 k2 k3 k5:Option Value),
  K.lookup C=some (excClassObj nm q C N bs bm true sn sub ab col dd k0 k1 k2 k3 k5 "ValueError.__new__")/\d5 K g9 bm=true/\V3 g9 (.ref C::bm)=true/\m8 K N=true/\C4 K N "__init__"=some (some (.ref f))
 fn:R1 K (.ref f)=true
 sa:D0 K (.ref C) "__setattr__"=some (some (.builtin "object.__setattr__"))
 ga:D0 K (.ref C) "__getattribute__"=some (some (.builtin "BaseException.__getattribute__"))
 gt:D0 K (.ref C) "__getattr__"=some none
 cl:D0 K (.ref C) "__class__"=some (some (.builtin "object.__class__"))
 bx:E6 K C (.type "BaseException")=some true
 ob:E6 K C (.type "object")=some true
 kp:G9 K (.ref C)=true
theorem ErrC.cls(M:ErrC K C f):∃ cd,m9 K C=some cd/\cd.hasDict=true/\V3 g9 cd.mro=true:=by
 obtain ⟨nm,q,N,bs,bm,sn,sub,ab,col,dd,k0,k1,k2,k3,k5,l,_,o,_,_⟩:=M.ex;exact ⟨_,by unfold m9;rw [l],rfl,o⟩
section
variable {X:Cx} {k:Nat} {f C:Addr} {fd:FuncData} {ps:List Str} {sp:Sp} {x:Str} {p pos:Pos} {e:Expr} {es:List Expr} {t:TA}
noncomputable def tErr (m:Nat) (C:Addr) (sp:Sp) (t:TA):TE:=fun Y H Q=>t Y H fun vs H1=>vs.length<=1000/\∀ x,H1 x=none->sp (.ref x::vs) (A0 H1 x (xm m x C)) (fun v H2=>v=.non/\Q (.ref x) H2) E0
theorem ajG(M:ErrC X.K C f)(F:FnOk X.prog X.w X.K X.mg X.base C8 k f fd ps sp)(hr:Room (k+1) X.A)(hb:Binds X.K fd ps [])(I:Inv X pins Y H s)(r:Vals vs us)(A8:vs.length<=1000)(h:∀ x,H x=none->sp (.ref x::vs) (A0 H x (xm X.s₀.heap.objs.size x C)) (fun v H2=>v=.non/\Q (.ref x) H2) E0) :
  wpAny (model X.prog X.w) X.A (call (.ref C) us) (EP X pins Y Q) X.xe s:=by
 have hq:=h (s.heap.objs.size+1) (I.hok.fresh (Nat.le_succ _));obtain ⟨nm,q,N,bs,bm,sn,sub,ab,col,dd,k0,k1,k2,k3,k5,l,ht,ho,hok,hi⟩:=M.ex;have hC:=I.kIn _ _ l;have hN:s.heap.Ns N (s.heap.nsMap N):=.of_isNs (PySem.W.isNs_of_in I.kIn hok);have aV:=oB I.kIn hN hi;have hf:∃ o,s.heap.get? f=some o/\o.cls=.type "function":=by
  obtain ⟨o,ho,hc⟩:=Option.map_eq_some_iff.mp (beq_iff_eq.mp M.fn);exact ⟨o,I.kIn _ _ ho,hc⟩
 obtain ⟨of,aW,aX⟩:=hf;have aR:=r.length;have r2:Vals (V.ref (s.heap.objs.size+1)::vs) (Value.ref (s.heap.objs.size+1)::us):=.cons rfl r;have hl:(Value.ref (s.heap.objs.size+1)::us++[]).length=ps.length:=by
  have e:=r2.length;rw [F.len _ _ _ _ hq] at e;rw [d9];exact e.symm
 obtain ⟨h0,g,d,tk,os⟩:=s;refine nR w8 (by decide) w8 (w5 I.kIn ht) hC hN aV aW aX (by rw [<- aR];exact C3 A8 (by decide)) ?_;have I2:Inv X pins Y (A0 H (h0.objs.size+1) (xm X.s₀.heap.objs.size (h0.objs.size+1) C)) ⟨(h0.push { cls:=.type "tuple",data:=.seq us.toArray }).push (J2 C h0.objs.size none),g,d,tk,os⟩:=
  I.laid (t':=tk) (fun b u z=>Heap.get?_push_of_some _ (Heap.get?_push_of_some _ z)) (Nat.le_succ _) (xm_ok (t0:=h0.objs.size) (Nat.le_succ_of_le I.sz) (by
   have:=Heap.get?_push_size (h0.push { cls:=.type "tuple",data:=.seq us.toArray }) (o:=J2 C h0.objs.size none) rfl
   rwa [Heap.size_push] at this))
 refine codeAny_mono (F.run _ X.stack _ _ ⟨Value.ref (h0.objs.size+1)::us,[]⟩ (Value.ref (h0.objs.size+1)::us) _ _ E0 (hr.make C us []) (I2.env0.make C us []) (by have:=hb _ (Value.ref (h0.objs.size+1)::us) I2.kIn hl;rwa [d9] at this) r2 hq) fun r s' G7=>?_
 cases r with
 | error e=>exact G7.elim
 | ok fl=>
  cases fl with
  | ret u=>
   obtain ⟨v,H',I3,rv,ev,q3⟩:=I2.after G7;subst ev;exact ⟨rv,⟨V.ref (h0.objs.size+1),H',I3,rfl,q3⟩⟩
  | next=>exact False.elim G7
  | brk=>exact False.elim G7
  | cont=>exact False.elim G7
theorem alr(M:ErrC X.K C f)(F:FnOk X.prog X.w X.K X.mg X.base C8 k f fd ps sp)(hr:Room (k+1) X.A)(hg:Gl X x)(hm:X.mg x=some (.ref C))(hb:Binds X.K fd ps [])(ha:PA X (e::es) t)(C6:(x==("__debug__" : Str))=false:=by decide)(he:starEach (e::es) X.env=(false,eval e X.env)::starEach es X.env:=by rfl)(C7:(backTo pos (starEach es X.env)).any (·.1)=false:=by rfl) :
  PE X (.Call (.Name x p) (e::es) [] pos) (tErr X.s₀.heap.objs.size C sp t):=by
 intro pins s Y H Q I h;refine wpAny_Call_Name_kw (U9 I hg hm ?_ C6);refine c6 (h₀:=X.base) I.ok.mod.kin M.kp (A4 (ha pos pins s Y H _ I h) fun us s1 ⟨vs,H1,I1,r,q0,q⟩=>⟨I1.kIn,ajG M F hr hb I1 r q0 q⟩) he C7
end
theorem ahC{o:HO}(h:H a=some o):A0 H a o=H:=by
 funext b;unfold A0;split
 .rename_i e;rw [e,h]
 .rfl
structure LoreC(K:PySem.W.Frag)(L:Addr):Prop where
 sp:W7 K (.ref L) "__getattribute__"=some (some (.builtin "type.__getattribute__"))
 rd:PySem.W.readsIn K L (.type "type")=true
 fc:PySem.W.findCls K (.ref L) (.type "type") "__init__"=some (.val (.builtin "ValueError.__init__"))
noncomputable def tInit (K:PySem.W.Frag) (ta tb:TE):TE:=fun Y H Q=>ta Y H fun x H1=>tb Y H1 fun _ H2=>∃ a m C f,x=.ref a/\H2 a=some (xm m a C)/\ErrC K C f/\Q .non H2
section
variable {X:Cx} {L:Addr} {x:Str} {np ap cp:Pos} {a b:Expr} {ta tb:TE} {pl:Sem Bool}
theorem ajH(N:LoreC X.K L)(hg:Gl X x)(hm:X.mg x=some (.ref L))(ha:PE X a ta)(hb:PE X b tb)(C6:(x==("__debug__" : Str))=false:=by decide)(jT:backTo cp (starEach [a,b] X.env)=[(false,eval a X.env),(false,eval b X.env)]:=by rfl)(ht:eval (.Call (.Attribute (.Name x np) "__init__" ap) [a,b] [] cp) X.env=(do
   let ov <- eval (.Name x np) X.env
   standAt ap.atName
   let (f,first) <- holding [ov] (getMethod ov "__init__" pl)
   callWith cp f first (backTo cp (starEach [a,b] X.env)) (backToKw cp (keywordEach [] X.env))):=by rfl) :
  PE X (.Call (.Attribute (.Name x np) "__init__" ap) [a,b] [] cp) (tInit X.K ta tb):=by
 intro pins s Y H Q I h;refine bP (pl:=pl) (U9 I hg hm ?_ C6) ht;refine PySem.W.method_cls I.kIn N.sp (PySem.W.cls_value I.kIn N.rd N.fc rfl ?_);rw [jT];have I0:=I.tok (s.toks+1);refine Calls.callWith_builtin rfl (Calls.evalArgs_plain (Calls.spliced_cons (A4 (ha pins _ Y H _ I0 h) fun u s1 ⟨v,H1,I1,rv,q1⟩=>Calls.spliced_cons (A4 (hb pins s1 Y H1 _ I1 q1) fun z s2 ⟨y,H2,I2,ry,e,m,C,f,ex,he,M,q2⟩=>Calls.spliced_nil ?_))));subst ex;obtain rfl:u=Value.ref e:=rv;obtain ⟨nm,q,N',bs,bm,sn,sub,ab,col,dd,k0,k1,k2,k3,k5,l,bC,ho,hok,hi⟩:=M.ex;obtain ⟨jU,t0,hx⟩:=(I2.hok _ _ he).1;obtain ⟨h2,g,d,tk,os⟩:=s2;refine ac3 w8 (w5 I2.kIn bC) (I2.kIn _ _ l) hx fun h' t1 keep Q9=>?_
 have I3:=I2.write (x:=e) (e:=e) (t':=tk) (by rw [he];exact True.intro) (.inl rfl) (fun b u hb z=>keep b u hb z) ⟨_,Q9⟩ (xm_ok jU Q9);rw [ahC he] at I3;exact ⟨.non,H2,I3,rfl,q2⟩
end
end L2
set_option maxRecDepth 100000
namespace L2
open PySem PySem.Spec PyProof.Rows
noncomputable def tFmtI (te:TE):TE:=fun Y H Q=>te Y H fun v H1=>∃ i:Int,v=.int i/\i.natAbs<10 ^ 9/\∀ z:Str,z.length<=100->Q (.str z) H1
noncomputable def Z6:List TE->TE
 | [],_,H,Q=>∀ z:Str,Q (.str z) H
 | t::ts,Y,H,Q=>t Y H fun v H1=>∃ y:Str,v=.str y/\y.length<=100000/\Z6 ts Y H1 Q
section
variable {X:Cx} {e:Expr} {te:TE} {pos:Pos}
theorem ajI(he:PE X e te):PE X (.FormattedValue e (-1) none pos) (tFmtI te):=by
 intro pins s Y H Q I h;refine wpAny_FormattedValue_plain (A4 (he pins s Y H _ I h) fun u s1 ⟨v,H1,I1,rv,i,ev,hi,q⟩=>?_);subst ev;obtain ⟨t,rfl⟩:=rv;have hl:i.natAbs.log2<1920:=by
  by_cases z:i.natAbs=0
  .rw [z];decide
  .exact Nat.lt_trans ((Nat.log2_lt z).mpr (Nat.lt_trans hi (by decide:10 ^ 9<2 ^ 30))) (by decide)
 refine wpAny_formatField_int hl ⟨.str _,H1,(I1.tok _),⟨_,rfl⟩,q _ ?_⟩
 have:=int_text_length_le10 (k:=9) (by decide) hi
 show (Str.ofString (toString i)).length<=100;rw [PySem.ofString_length];lia
inductive PFs (X:Cx):List Expr->List TE->Prop
 | nil:PFs X [] []
 | cons {e:Expr} {te:TE} {es:List Expr} {ts:List TE} : PE X e te->PFs X es ts->PFs X (e::es) (te::ts)
theorem oC : ∀ {es:List Expr} {ts:List TE} (acc:Str) (n:Nat) (s:Shared) (H:Hp),PFs X es ts->Inv X pins Y H s->acc.length+100000*es.length<=sizeLine->Z6 ts Y H Q->
  Joins (model X.prog X.w) X.A X.xe (evalEach es X.env) acc (fun out zv=>out.length<=sizeLine/\EP X pins Y Q (.str out zv.toks) { zv with toks:=zv.toks+1 }) s
 | [],_,acc,n,s,H,.nil,I,hl,h=>⟨by simpa using hl,.str acc,H,I.tok _,⟨_,rfl⟩,h acc⟩
 | e::es,_,acc,n,s,H,.cons he hr,I,hl,h=>A4 (he pins s Y H _ I h) fun u s1 ⟨v,H1,I1,rv,y,ev,hy,q⟩=>by
  subst ev;obtain ⟨t,rfl⟩:=rv;rw [E8] at hl;have e1:(acc++y).length=acc.length+y.length:=strLen_append ..;exact ⟨y,t,rfl,by lia,oC (acc++y) n s1 H1 hr I1 (by lia) q⟩
theorem oE{e1 e2:Expr}{ts:List TE}(h:PFs X (e1::e2::es) ts)(hn:es.length<=2):PE X (.JoinedStr (e1::e2::es) pos) (Z6 ts):=by
 intro pins s Y H Q I hq;refine wpAny_JoinedStr (oC Str.empty 0 s H h I ?_ hq)
 have:Str.empty.length=0:=rfl
 rw [this,E8,E8,sizeLine_eq];lia
end
noncomputable def sXFld (K:PySem.W.Frag) (ta tv:TE) (f:Str):TS:=fun D Y H=>tv Y H fun y H1=>ta Y H1 fun x H2=>∃ a m C g,x=.ref a/\H2 a=some (xm m a C)/\ErrC K C g/\NoAttr K C f/\∀ dx,H2 dx=none->dx≠a->D.nx Y (A0 (A0 H2 a (xo m a C dx)) dx (.xd [(f,y)]))
section
variable {X:Cx} {o value:Expr} {ta tv:TE} {f:Str} {ap pos:Pos}
theorem Inv.xstore(I:Inv X pins Y H s)(e:H a=some (xm m a C))(hd:s.heap.objs.size<=dx)(ne:dx≠a)(hx:h'.get? a=some (J2 C t0 (some dx)))(hn:h'.Ns1 dx (fun z=>if z=f then some u else none))(k:∀ b o,b≠a->s.heap.get? b=some o->h'.get? b=some o)(ry:RelV y u) :
  Inv X pins Y (A0 (A0 H a (xo m a C dx)) dx (.xd [(f,y)])) { s with heap:=h',toks:=t' }:=by
 have hdn:H dx=none:=I.hok.fresh hd;have jU:m<=a:=(I.hok _ _ e).1.1;have mu:p7 (H a):=by rw [e];exact True.intro
 have Y5:A0 H a (xo m a C dx) dx=none:=by rw [A7 ne];exact hdn
 have w1:Un X.fs [] H (A0 H a (xo m a C dx)) s.heap h':=Un.write mu (.inl rfl) k ⟨_,hx⟩;have old:∀ b o,s.heap.get? b=some o->b≠dx:=fun b o z q=>by rw [q] at z;exact absurd (Heap.lt_size z) (R6.mpr hd)
 refine I.un ⟨w1.keep,w1.slot,fun b o z n hb=>?_,w1.there,fun b xs z=>?_,fun b o v z=>?_,fun b ps z=>?_⟩ (fX (I.hok.write mu (.inl rfl) k ⟨_,hx⟩ (xo_ok jU hx)) Y5 ⟨_,hn,fun g=>?_⟩)
 .rw [A7 (old b o z)];exact w1.free b o z n hb
 .rw [A7 (F4 (w1.tups b xs z) Y5)];exact w1.tups b xs z
 .rw [A7 (F4 (w1.frzs b o v z) Y5)];exact w1.frzs b o v z
 .obtain ⟨more,q⟩:=w1.tbls b ps z;exact ⟨more,by rw [A7 (F4 q Y5)];exact q⟩
 .show RelO ([(f,y)].lookup g) (if g=f then some u else none)
  by_cases q:g=f
  .rw [if_pos q,q,List.lookup_cons_self];exact ry
  .rw [if_neg q,List.lookup_cons,show (g==f)=false from beq_eq_false_iff_ne.mpr q];exact True.intro
theorem ajJ(ha:PE X o ta)(hv:PE X value tv)(hs:swapsWith value (some (.Attribute o f ap)) pos.line X.env=pure false):PS X (.Assign [.Attribute o f ap] value pos) (sXFld X.K ta tv f):=by
 intro pins s Y H D I h;refine plainObj_wpAny_Assign_Attribute (A4 (hv pins s Y H _ I h) fun u s1 ⟨y,H1,I1,ry,q⟩=>A4 (ha pins s1 Y H1 _ I1 q) fun ov s2 ⟨x,H2,I2,rx,a,m,C,g,ex,he,M,n,q2⟩=>?_) hs;subst ex;obtain rfl:ov=Value.ref a:=rx;obtain ⟨cd,hc,hd,ho⟩:=M.cls;obtain ⟨_,t0,hx⟩:=(I2.hok _ _ he).1;obtain ⟨h2,gg,d,tk,os⟩:=s2;refine af9 PySem.F.store_ValueError I2.kIn hx hc hd ho M.sa n fun h' dx tk' n1 n2 Q9 hn keep=>?_
 have I3:=I2.xstore (t':=tk') he n1 n2 Q9 hn keep ry;exact ⟨Y,_,I3,q2 dx (I2.hok.fresh n1) n2⟩
end
end L2
set_option maxRecDepth 100000
namespace L2
open PySem PySem.Spec PyProof.Rows
noncomputable def K1 (H:Hp) (x:Addr):Hp:=fun b=>if b=x then none else H b
theorem cN{x:Addr} : K1 H x x=none:=by unfold K1;rw [if_pos rfl]
theorem G2{x:Addr}(h:b≠x):K1 H x b=H b:=by unfold K1;rw [if_neg h]
theorem fY{x:Addr}{o:HO}(h:K1 H x b=some o):b≠x/\H b=some o:=by
 by_cases e:b=x
 .rw [e,cN] at h;cases h
 .rw [G2 e] at h;exact ⟨e,h⟩
noncomputable def J3 (P:Program) (w:World):N4:=fun outer H s E e s'=>∃ (x C dx T:Addr) (H':Hp),e=.ref x/\s'.os=s.os/\AllBare s'.gens/\Un (E3 outer) [] H H' s.heap s'.heap/\D1 P w H' s'.heap/\s.heap.objs.size<=x/\s.heap.objs.size<=T/\H' x=none/\H' T=none/\Flies s'.heap x C dx T/\E (.ref C) (some dx) H'
section
variable {P:Program} {w:World} {K:PySem.W.Frag} {mg:Str->Option Value} {base:Heap} {N:List Str} {qual:Str} {scope:Scope} {f:Addr} {cd:Value} {A:Around} {outer:List Env} {s s1:Shared} {H H1:Hp} {E:XK} {pins:List (Addr×Obj)} {Y:St} {x C dx:Addr}
theorem oF(I:Inv (cxOf (J3 P w) P w K mg base N qual scope f cd A outer s H E) pins Y H1 s1)(e:H1 x=some (xo s.heap.objs.size x C dx))(hE:E (.ref C) (some dx) (K1 H1 x)) :
  (cxOf (J3 P w) P w K mg base N qual scope f cd A outer s H E).xe (.ref x) s1:=by
 obtain ⟨hm,t0,hx⟩:=(I.hok _ _ e).1;have B:Un (E3 outer) [] H H1 s.heap s1.heap:=I.base;have old:∀ b o,s.heap.get? b=some o->b≠x:=fun b o z q=>by rw [q] at z;exact absurd (Heap.lt_size z) (R6.mpr hm)
 have E1:∀ b o,s.heap.get? b=some o->b∉E3 outer->b∉E3 ((envOfC qual scope s.heap.objs.size f cd)::outer):=fun b o z n q=>by
  have z1:b∈(envOfC qual scope s.heap.objs.size f cd).locals::E3 outer:=I.stkSub b q
  rcases C0.mp z1 with r | r
  .have:b<(envOfC qual scope s.heap.objs.size f cd).locals:=K4 (Heap.lt_size z) I.ok.above
   rw [r] at this;exact absurd this (O1 _)
  .exact n r
 show wpAny _ _ (leaving _ _) _ _ _;unfold leaving;refine wpAny_bind (agb (s:=s1) I.ok.frames I.stack (L:=s.heap.objs.size) rfl hx fun h' T nT fl k1 k2=>?_);have szl:s.heap.objs.size<=s1.heap.objs.size:=I.sz;refine ⟨x,C,dx,T,K1 H1 x,rfl,I.os,I.bare,⟨fun b o z n hb D8=>?_,fun b o z n hb D8=>?_,fun b o z n D8=>?_,fun b o z D8=>?_,fun b xs z=>?_,fun b o v z=>?_,fun b ps z=>?_⟩,fun b u q=>?_,hm,C3 szl nT,cN,?_,fl,hE⟩
 .exact k1 b o (old b o z) (E1 b o z hb) (B.keep b o z n hb D8)
 .obtain ⟨sl,q⟩:=B.slot b o z n hb D8;obtain ⟨sl',q'⟩:=k2 b _ (old b o z) q;exact ⟨sl',q'⟩
 .rw [G2 (old b o z)];exact B.free b o z n D8
 .obtain ⟨o',q⟩:=B.there b o z D8;obtain ⟨sl',q'⟩:=k2 b o' (old b o z) q;exact ⟨_,q'⟩
 .have q:=B.tups b xs z;rw [G2 (fun r=>by rw [r,e] at q;cases q)];exact q
 .have q:=B.frzs b o v z;rw [G2 (fun r=>by rw [r,e] at q;cases q)];exact q
 .obtain ⟨more,q⟩:=B.tbls b ps z;exact ⟨more,by rw [G2 (fun r=>by rw [r,e] at q;cases q)];exact q⟩
 .obtain ⟨n1,q1⟩:=fY q;refine (I.hok b u q1).stay (fun c v hc z=>?_) (fun c z=>by rw [G2 (fun r=>by rw [r,e] at z;cases z)];exact z) fun c xs z=>by rw [G2 (fun r=>by rw [r,e] at z;cases z)];exact z
  have hcH:∃ o,H1 c=some o:=by
   rcases hc with r | r
   .rw [r];exact ⟨_,q1⟩
   .exact ⟨_,r⟩
  obtain ⟨oc,hcH⟩:=hcH;refine k1 c v (fun r=>?_) (fun r=>?_) z
  .rcases hc with r' | r'
   .exact n1 (r'.symm.trans r)
   .rw [r,e] at r';cases r'
  .have:=I.stkFree c r
   rw [hcH] at this;cases this
 .rw [G2 (fun r=>by
   have D5:=Heap.lt_size hx;rw [<- r] at D5;exact absurd D5 (R6.mpr nT))]
  exact I.hok.fresh nT
end
noncomputable def fZ (K:PySem.W.Frag) (m:Nat) (E:XK) (te:TE):TS:=fun _ Y H=>te Y H fun v H1=>∃ x C dx f,v=.ref x/\H1 x=some (xo m x C dx)/\ErrC K C f/\E (.ref C) (some dx) (K1 H1 x)
section
variable {X:Cx} {m:Nat} {E:XK} {e:Expr} {te:TE} {pos:Pos}
theorem ahD(hx:∀ (pins:List (Addr×Obj)) (Y:St) (H:Hp) (s:Shared) (x C dx:Addr),Inv X pins Y H s->H x=some (xo m x C dx)->E (.ref C) (some dx) (K1 H x)->X.xe (.ref x) s)(hc:X.calm=true)(he:PE X e te):PS X (.Raise (some e) none pos) (fZ X.K m E te):=by
 intro pins s Y H D I h;rw [arm_exec_Raise];refine wpAny_bind (wpAny_standAt (af8 (I.ok.hd hc) (wpAny_bind (A4 (he pins s Y H _ I h) fun u s1 z=>wpAny_bind (wpAny_standAt (wpAny_pure ?_))))));obtain ⟨v,H1,I1,rv,x,C,dx,f,ev,ex,M,hE⟩:=z;subst ev;obtain rfl:u=Value.ref x:=rv;obtain ⟨nm,q,N,bs,bm,sn,sub,ab,col,dd,k0,k1,k2,k3,k5,l,bC,ho,hok,hi⟩:=M.ex;obtain ⟨_,t0,Q9⟩:=(I1.hok _ _ ex).1;exact ⟨x,C,t0,N,some dx,nm,q,bs,bm,true,sn,sub,ab,col,dd,k0,k1,k2,k3,k5,_,rfl,I1.kIn _ _ l,(w5 I1.kIn bC).hasType (by decide),Q9,hx pins Y H1 s1 x C dx I1 ex hE⟩
end
section
variable {P:Program} {w:World} {K:PySem.W.Frag} {mg:Str->Option Value} {base:Heap}
theorem FunD.okX{k:Nat}(F:FunD K x qual st f fd)(S:FnScope N ps (B4 st))(len:∀ vs H Q E,sp vs H Q E->vs.length=ps.length)(C9:∀ (cdv:Value) (A:Around) (outer:List Env) (s:Shared) (H:Hp) (vs:List V) (Q:VK) (E:XK),Room k (A.deeper (envOfC qual (B4 st) s.heap.objs.size f cdv))->sp vs H Q E->
   ∃ t,M3 (cxOf (J3 P w) P w K mg base N qual (B4 st) f cdv A outer s H E) (J9 st) t/\t { nx:=fun _ H'=>Q .non H',rt:=Q } (start N vs) H):FnOk P w K mg base (J3 P w) (k+1) f fd ps sp:=by
 obtain ⟨oc,od,dV,kV,doc,pm,an,cdv,ct,osl,rfl,lk,G5⟩:=F.ex;exact fn_of lk G5 S len fun A outer s H vs Q E hr F6=>C9 cdv A outer s H vs Q E hr F6
end
section
variable {P:Program} {w:World} {K:PySem.W.Frag} {mg:Str->Option Value} {base:Heap} {N:List Str} {qual:Str} {scope:Scope} {f:Addr} {cd:Value} {A:Around} {outer:List Env} {s s1:Shared} {H H1:Hp} {E:XK} {pins:List (Addr×Obj)} {Y:St}
theorem gA:R8 (J3 P w) (cxOf (J3 P w) P w K mg base N qual scope f cd A outer s H E) E:=by
 intro pins Y H1 s1 e s' I ⟨x,C,dx,T,H',ee,os',bare',un,hok,nx,nT,hx,hT,fl,hE⟩;subst ee;have I':=I.call' (ch:=[]) os' un hok bare' (fun b z=>absurd z (by simp));have B:Un (E3 outer) [] H H' s.heap s'.heap:=I'.base;have szl:s.heap.objs.size<=s1.heap.objs.size:=I.sz;have old:∀ (y:Addr),s1.heap.objs.size<=y->∀ b o,s.heap.get? b=some o->b≠y:=fun y hy b o z q=>by rw [q] at z;exact absurd (Heap.lt_size z) (R6.mpr (C3 szl hy))
 have E1:∀ b o,s.heap.get? b=some o->b∉E3 outer->b∉E3 ((envOfC qual scope s.heap.objs.size f cd)::outer):=fun b o z n q=>by
  have z1:b∈(envOfC qual scope s.heap.objs.size f cd).locals::E3 outer:=I.stkSub b q
  rcases C0.mp z1 with r | r
  .have:b<(envOfC qual scope s.heap.objs.size f cd).locals:=K4 (Heap.lt_size z) I.ok.above
   rw [r] at this;exact absurd this (O1 _)
  .exact n r
 show wpAny _ _ (leaving _ _) _ _ _;unfold leaving;refine wpAny_bind (nY (s:=s') I'.ok.frames I'.stack (L:=s.heap.objs.size) rfl fl fun h' T' nT' fl' k1 k2=>?_);refine ⟨x,C,dx,T',H',rfl,I'.os,I'.bare,⟨fun b o z n hb D8=>?_,fun b o z n hb D8=>?_,fun b o z n D8=>B.free b o z n D8,fun b o z D8=>?_,B.tups,B.frzs,B.tbls⟩,fun b u q=>?_,C3 szl nx,?_,hx,I'.hok.fresh nT',fl',hE⟩
 .exact k1 b o (old x nx b o z) (old T nT b o z) (E1 b o z hb) (B.keep b o z n hb D8)
 .obtain ⟨sl,q⟩:=B.slot b o z n hb D8;obtain ⟨sl',q'⟩:=k2 b _ (old x nx b o z) (old T nT b o z) q;exact ⟨sl',q'⟩
 .obtain ⟨o',q⟩:=B.there b o z D8;obtain ⟨sl',q'⟩:=k2 b o' (old x nx b o z) (old T nT b o z) q;exact ⟨_,q'⟩
 .refine (I'.hok b u q).stay (fun c v hc z=>?_) (fun c z=>z) fun c xs z=>z
  have hcH:∃ o,H' c=some o:=by
   rcases hc with r | r
   .rw [r];exact ⟨_,q⟩
   .exact ⟨_,r⟩
  obtain ⟨oc,hcH⟩:=hcH;refine k1 c v (fun r=>?_) (fun r=>?_) (fun r=>?_) z
  .rw [r,hx] at hcH;cases hcH
  .rw [r,hT] at hcH;cases hcH
  .have:=I'.stkFree c r
   rw [hcH] at this;cases this
 .exact C3 I'.sz nT'
end
end L2
set_option maxRecDepth 100000
namespace L2
open PySem PySem.Spec PyProof.Rows
noncomputable abbrev Cx.inExc (X:Cx) (x:Addr) (xe:Value->Shared->Prop):Cx:={ X with A:=X.A.mark (some (.ref x)),calm:=false,xe:=xe }
section
variable {X:Cx} {pins:List (Addr×Obj)} {Y:St} {H:Hp} {s:Shared}
theorem Inv.inExc(I:Inv X pins Y H s)(x:Addr)(xe:Value->Shared->Prop):Inv (X.inExc x xe) pins Y H s:=
 ⟨⟨I.ok.mod,I.ok.kind,I.ok.glob,I.ok.blt,I.ok.above,I.ok.inj,I.ok.has,I.ok.cab,(fun z=>by cases z),I.ok.frames,I.ok.stk,I.ok.exf,I.ok.bs,I.ok.bsz,I.ok.noex,I.ok.exfs,I.ok.funs,I.ok.frf⟩,I.os,I.bare,I.base,I.loc,I.cell,I.free,I.freeC,I.pin,I.hok,I.len⟩
theorem Inv.outExc{x:Addr}(hd:X.calm=true->X.A.handled=none)(I:Inv (X.inExc x xe) pins Y H s):Inv X pins Y H s:=
 ⟨⟨I.ok.mod,I.ok.kind,I.ok.glob,I.ok.blt,I.ok.above,I.ok.inj,I.ok.has,I.ok.cab,hd,I.ok.frames,I.ok.stk,I.ok.exf,I.ok.bs,I.ok.bsz,I.ok.noex,I.ok.exfs,I.ok.funs,I.ok.frf⟩,I.os,I.bare,I.base,I.loc,I.cell,I.free,I.freeC,I.pin,I.hok,I.len⟩
theorem Inv.beyond{s':Shared}(I:Inv X pins Y H s)(h:s.heap.objs.size<=b):(b∈X.ex\/X.s₀.heap.objs.size<=b)/\b≠X.env.locals/\(∀ x c,X.env.cells.lookup x=some c->c≠b)/\∀ p∈X.pn++pins,p.1≠b:=by
 refine ⟨.inr (C3 I.sz h),fun e=>?_,fun x c z e=>?_,fun p hp e=>?_⟩
 .have:=I.lt
  rw [<- e] at this;exact absurd this (R6.mpr h)
 .obtain ⟨v,o,ho,_⟩:=I.cell x c z
  have:=Heap.lt_size ho
  rw [e] at this;exact absurd this (R6.mpr h)
 .have:=Heap.lt_size (I.pin p hp).1
  rw [e] at this;exact absurd this (R6.mpr h)
theorem age{M:Model}{n:Str}{pos:Pos}{Q:Unit->Shared->Prop}(I:Inv X pins Y H s)(hN:X.N.Nodup)(hi:X.N[i]?=some n)(hk:X.env.kindOf n=some .local)(h:∀ s',Inv X pins (Y.set i none) H s'->Q () s'):wpAny M A (do bindName X.env n .none;unbindBehindTheSuite X.env n pos) Q E s:=by
 obtain ⟨m,hn,hl⟩:=I.loc;have j4:(X.env.scope.kind == .class || (X.env.scope.kind == .module&&X.env.locals != X.env.globals))=false:=by rw [I.ok.kind];rfl
 refine wpAny_nameGoes_keeps hk hn j4 fun h' v u9 hs=>h _ ?_
 have cne:=I.cne;have k:∀ b o,b≠X.env.locals->s.heap.get? b=some o->h'.get? b=some o:=fun b o hb z=>(hs.2 b hb).trans z
 have neL:∀ b o,X.s₀.heap.get? b=some o->b≠X.env.locals:=fun b o e=>J6 (K4 (Heap.lt_size e) I.ok.above)
 have B:=I.base;refine ⟨I.ok,I.os,I.bare,⟨fun b o z n hb hx=>k b o (neL b o z) (B.keep b o z n hb hx),fun b o z n hb hx=>?_,B.free,fun b o z hx=>?_,B.tups,B.frzs,B.tbls⟩,⟨_,u9,fun j y u h1 h2 h3=>?_⟩,fun y c z=>?_,I.free,I.freeC,fun p hp=>?_,fun b u e=>?_,?_⟩
 .obtain ⟨sl,q⟩:=B.slot b o z n hb hx;exact ⟨sl,k b _ (neL b o z) q⟩
 .obtain ⟨o',q⟩:=B.there b o z hx;exact ⟨o',k b o' (neL b o z) q⟩
 .have bD:i≠j:=fun e=>by
   subst e;rw [List.getElem?_set_self (by rw [I.len];exact (W9.mp hi).1)] at h2;cases h2
  rw [List.getElem?_set_ne bD] at h2;obtain ⟨u',r,lk⟩:=hl j y u h1 h2 h3;have hyn:y≠n:=fun e=>bD (eD hN (by rw [hi,<- e]) h1)
  refine ⟨u',r,?_⟩
  rcases lk with ⟨a,b⟩ | ⟨a,c,b,d⟩
  .exact .inl ⟨a,by show (if y=n then v else m y)=_;rw [if_neg hyn];exact b⟩
  .obtain ⟨o,ho,hd⟩:=d;exact .inr ⟨a,c,b,o,k c o (cne y c b) ho,hd⟩
 .obtain ⟨v',o,ho,hd⟩:=I.cell y c z;exact ⟨v',o,k c o (cne y c z) ho,hd⟩
 .obtain ⟨a,b,c,d,e⟩:=I.pin p hp;exact ⟨k _ _ c a,b,c,d,e⟩
 .refine (I.hok b u e).stay (fun c v' hc z=>k c v' (fun r=>?_) z) (fun _ z=>z) fun _ _ z=>z
  have:=I.free
  rcases hc with r' | r'
  .rw [<- r,r',e] at this;cases this
  .rw [<- r,r'] at this;cases this
 .rw [List.length_set];exact I.len
end
end L2
set_option maxRecDepth 100000
namespace L2
open PySem PySem.Spec PyProof.Rows
section
variable {X:Cx} {pins:List (Addr×Obj)} {Y:St} {H:Hp} {s s':Shared} {E:XK} {e:Value} {Dn n:Str} {dp hp:Pos} {i:Nat} {yu:Stmt} {suite:List Stmt} {ts:TS} {D:Ends} {DC:Addr} {cd:ClassData}
theorem Inv.held{x:Addr}(I1:Inv X pins Y H' s')(bE:(x∈X.ex\/X.s₀.heap.objs.size<=x)/\x≠X.env.locals/\(∀ y c,X.env.cells.lookup y=some c->c≠x)/\∀ p∈X.pn++pins,p.1≠x)(hbT:(T∈X.ex\/X.s₀.heap.objs.size<=T)/\T≠X.env.locals/\(∀ y c,X.env.cells.lookup y=some c->c≠T)/\∀ p∈X.pn++pins,p.1≠T)(hx:H' x=none)(hT:H' T=none)(R0:Flies h2 x C dx T2)(k1:∀ b o,b≠x->b≠T->b∉X.stack.filterMap (·.frame)->s'.heap.get? b=some o->h2.get? b=some o)(k2:∀ b o,b≠x->b≠T->s'.heap.get? b=some o->∃ sl,h2.get? b=some { o with slots:=sl }) :
  Inv X pins Y (A0 H' x (xc x C dx)) { s' with heap:=h2 }:=by
 obtain ⟨vs,oT,tsl,he,h1,hTx,hT2,hTd,h3⟩:=R0;have fr:∀ b,b≠X.env.locals->b∉X.fs->b∉X.stack.filterMap (·.frame):=fun b hL hf q=>by
  rcases C0.mp (I1.stkSub b q) with r | r
  .exact hL r
  .exact hf r
 refine I1.step (g':=s'.gens) (d':=s'.drawn) (t':=s'.toks) (ch:=[x,T]) (fun b hb=>?_) (fun b o hL hf hc z _=>k1 b o (fun r=>hc (by simp [r])) (fun r=>hc (by simp [r])) (fr b hL hf) z) (fun b o hL hf hc z _=>k2 b o (fun r=>hc (by simp [r])) (fun r=>hc (by simp [r])) z) (fun b o hc z n=>?_) (fun b o hc z=>?_) (fun b xs z=>?_) (fun b o u z=>?_) (fun b ps z=>?_) (fun m hm=>?_) (fX (fun b u q=>?_) hx (xc_ok he rfl rfl rfl)) I1.bare
 .rcases C0.mp hb with r | r
  .rw [r];exact bE
  .rw [Q1.mp r];exact hbT
 .rw [A7 (fun r=>hc (by simp [r]))];exact n
 .obtain ⟨sl,q⟩:=k2 b o (fun r=>hc (by simp [r])) (fun r=>hc (by simp [r])) z;exact ⟨_,q⟩
 .rw [A7 (F4 z hx)];exact z
 .rw [A7 (F4 z hx)];exact z
 .exact ⟨#[],by rw [A7 (F4 z hx),z];simp⟩
 .obtain ⟨o,es,ep,ho,r⟩:=hm;obtain ⟨sl,q⟩:=k2 _ o (Ne.symm bE.2.1) (Ne.symm hbT.2.1) ho;exact ⟨_,es,ep,q,r⟩
 .refine (I1.hok b u q).stay (fun c v hc z=>?_) (fun c z=>z) fun c xs z=>z
  have hcH:∃ o,H' c=some o:=by
   rcases hc with r | r
   .rw [r];exact ⟨_,q⟩
   .exact ⟨_,r⟩
  obtain ⟨oc,hcH⟩:=hcH;refine k1 c v (F4 hcH hx) (F4 hcH hT) (fun r=>?_) z
  have:=I1.stkFree c r
  rw [hcH] at this;cases this
theorem Inv.other(I:Inv X pins Y H s)(hb:(T∈X.ex\/X.s₀.heap.objs.size<=T)/\T≠X.env.locals/\(∀ y c,X.env.cells.lookup y=some c->c≠T)/\∀ p∈X.pn++pins,p.1≠T)(hT:H T=none)(k:∀ b o,b≠T->s.heap.get? b=some o->h2.get? b=some o):Inv X pins Y H { s with heap:=h2 }:=
 I.turned (t':=s.toks) k hT hb.2.1 hb.1 hb.2.2.1 hb.2.2.2
end
end L2
set_option maxRecDepth 100000
namespace L2
open PySem PySem.Spec PyProof.Rows
section
variable {X:Cx} {pins:List (Addr×Obj)} {Y:St} {H:Hp} {s:Shared} {E:XK} {k:Nat} {f:Addr} {fd:FuncData} {ps:List Str} {sp:Sp} {g:Str} {gp cp:Pos} {e:Expr} {es:List Expr} {t:TA} {Q:VK} {XE:Value->Shared->Prop} {dvs:List V} {ds:List Value}
end
noncomputable def Z7 (K:PySem.W.Frag) (DC:Addr) (i:Nat) (ts:TS) (D:Ends) (Y:St):XK:=fun cls dx H'=>∃ C d,cls=.ref C/\dx=some d/\E6 K C (.ref DC)=some true/\∀ x,H' x=none->ts { nx:=fun σ' H''=>D.nx (σ'.set i none) H'',rt:=fun _ _=>False } (Y.set i (some (.ref x))) (A0 H' x (xc x C d))
noncomputable def tTryE (K:PySem.W.Frag) (sp:Sp) (dvs:List V) (t:TA) (DC:Addr) (i:Nat) (ts:TS):TS:=fun D Y H=>t Y H fun vs H1=>sp (vs++dvs) H1 (fun _ H2=>D.nx Y H2) (Z7 K DC i ts D Y)
noncomputable def tTryA (K:PySem.W.Frag) (sp:Sp) (dvs:List V) (t:TA) (j:Nat) (DC:Addr) (i:Nat) (ts:TS):TS:=fun D Y H=>t Y H fun vs H1=>sp (vs++dvs) H1 (fun v H2=>D.nx (Y.set j (some v)) H2) (Z7 K DC i ts D Y)
structure CatchC(K:PySem.W.Frag)(DC:Addr):Prop where
 cl:∃ cd,m9 K DC=some cd
 ty:PySem.W.typeIn K (.ref DC)=some (.type "type")
 bx:E6 K DC (.type "BaseException")=some true
section
variable {X:Cx} {k:Nat} {f DC:Addr} {fd:FuncData} {ps:List Str} {sp:Sp} {g Dn n y:Str} {gp cp ep dp hp pos yp:Pos} {e:Expr} {es:List Expr} {t:TA} {i j:Nat} {yu:Stmt} {suite:List Stmt} {ts:TS} {dvs:List V} {ds:List Value}
end
noncomputable def tXGet (K:PySem.W.Frag) (ta:TE) (f:Str):TE:=fun Y H Q=>ta Y H fun x H1=>∃ a C dx g fs v,x=.ref a/\H1 a=some (xc a C dx)/\H1 dx=some (.xd fs)/\ErrC K C g/\NoAttr K C f/\fs.lookup f=some v/\Q v H1
noncomputable def clsV:V->Option Value
 | .ref a=>some (.ref a)
 | .ty t=>some (.type t)
 | _=>none
noncomputable def rIsX (K:PySem.W.Frag):List V->Hp->VK->Prop:=fun xs H Q=>∃ a C dx g fs c cv b,xs=[.ref a,c]/\H a=some (xc a C dx)/\H dx=some (.xd fs)/\ErrC K C g/\clsV c=some cv/\B7 K (.ref C) cv=some b/\Q (.bl b) H
section
variable {X:Cx} {e:Expr} {te:TE} {f:Str} {pos:Pos}
theorem gC{fs:List (Str×V)}(I:Inv X pins Y H s)(h1:H a=some (xc a C dx))(h2:H dx=some (.xd fs)) :
  ∃ (ox od:Obj) (mA:Str->Option Value),PySem.W.InstAt s.heap a ox C (some od)/\(∀ name,PySem.W.lookIn name od=some (mA name))/\∀ g,RelO (fs.lookup g) (mA g):=by
 obtain ⟨o,ho,hc,hd,hn⟩:=(I.hok _ _ h1).1;obtain ⟨mA,ns,rel⟩:=I.hok _ _ h2;obtain ⟨od,hod,hl⟩:=lD ns;refine ⟨o,od,mA,⟨ho,hc,hn,?_⟩,hl,rel⟩;rw [hd];exact hod
theorem ajK(he:PE X e te)(hb:attributeBase e f X.env (eval e X.env)=eval e X.env):PE X (.Attribute e f pos) (tXGet X.K te f):=by
 intro pins s Y H Q I h;refine lL hb (A4 (he pins s Y H _ I h) fun u s1 z=>?_);obtain ⟨x,H1,I1,rx,a,C,dx,g,fs,v,ex,h1,h2,M,n,l,q⟩:=z;subst ex;obtain rfl:u=Value.ref a:=rx;obtain ⟨ox,od,mA,J,hl,rel⟩:=gC I1 h1 h2;obtain ⟨u,hu,ru⟩:=x9 (v:=v) (o:=mA f) (by rw [<- l];exact rel f);obtain ⟨cd,hc,hd,_⟩:=M.cls;obtain ⟨hh,g',d,tk,os⟩:=s1;refine ajF I1.kIn J M.ga M.gt M.bx (PySem.W.findObj_own (by unfold c7;rw [hc];exact hd) n rfl (by rw [hl,hu])) (lH ru) ?_;exact ⟨v,H1,I1.tok _,ru,q⟩
theorem ahE(hn:W7 X.K (.builtin "object.__class__") "__get__"=some (some (.builtin "getset_descriptor.__get__")))(ht:d0 X.K (.builtin "object.__class__")=some true):CallR X (.builtin "isinstance") (rIsX X.K):=by
 intro pins s Y H xs us Q I r h;obtain ⟨a,C,dx,g,fs,c,cv,b,rfl,h1,h2,M,bF,hk,q⟩:=h;obtain ⟨u1,u2,rfl,r1,r2⟩:=vals2 r
 cases r1
 have e2:u2=cv:=by
  cases c with
  | ref D=>cases bF;exact r2
  | ty t=>cases bF;exact r2
  | _=>cases bF
 subst e2;obtain ⟨ox,od,mA,J,hl,rel⟩:=gC I h1 h2;obtain ⟨cd,hc,hd,_⟩:=M.cls;exact P9 (nW (ox:=ox) (od:=od) (by unfold c7;rw [hc];exact hd) M.ga M.gt M.bx M.cl hn ht M.ob) I.kIn J hk (by intro z;cases z) fun tk=>⟨.bl b,H,I.tok _,rfl,q⟩
end
end L2
set_option maxRecDepth 100000
namespace L2
open PySem PySem.Spec PyProof.Rows
noncomputable def EO (P:Program) (w:World) (K:PySem.W.Frag) (mg:Str->Option Value) (base:Heap) (k:Nat) (C:Addr) (x:Str) (ps:List Str) (sp:Sp):Prop:=
 ∃ f fd,FnOk P w K mg base C8 k f fd ps sp/\mg x=some (.ref C)/\ErrC K C f/\Binds K fd ps []
noncomputable def Z8 (K:PySem.W.Frag) (C:Addr) (fld:Str):Sp:=fun vs H Q _=>∃ m x i f,vs=[.ref x,.int i]/\H x=some (xm m x C)/\ErrC K C f/\NoAttr K C fld/\i.natAbs<10 ^ 9/\∀ dx,H dx=none->dx≠x->Q .non (A0 (A0 H x (xo m x C dx)) dx (.xd [(fld,.int i)]))
section
variable {X:Cx} {K:PySem.W.Frag} {k:Nat} {C:Addr} {ps:List Str} {sp:Sp} {x:Str} {p pos np ap cp ep dp hp yp gp:Pos} {e a b:Expr} {es:List Expr} {t:TA} {te ta tb tv:TE} {m:Nat} {E:XK}
theorem cO(G:EO X.prog X.w X.K X.mg X.base k C x ps sp)(hr:Room (k+1) X.A)(ha:QA X (e::es) t)(hg:Gl X x:=by rfl)(hm:X.s₀.heap.objs.size=m:=by rfl)(C6:(x==("__debug__" : Str))=false:=by decide)(he:starEach (e::es) X.env=(false,eval e X.env)::starEach es X.env:=by rfl)(C7:(backTo pos (starEach es X.env)).any (·.1)=false:=by rfl):QE X (.Call (.Name x p) (e::es) [] pos) (tErr m C sp t):=by
 subst hm;obtain ⟨f,fd,F,Y4,M,hb⟩:=G;exact ⟨alr M F hr hg Y4 hb ha.out C6 he C7⟩
theorem gD{L:Addr}{pl:Sem Bool}(N:LoreC X.K L)(hm:X.mg x=some (.ref L))(ha:QE X a ta)(hb:QE X b tb)(hK:X.K=K:=by rfl)(hg:Gl X x:=by rfl)(C6:(x==("__debug__" : Str))=false:=by decide)(jT:backTo cp (starEach [a,b] X.env)=[(false,eval a X.env),(false,eval b X.env)]:=by rfl)(ht:eval (.Call (.Attribute (.Name x np) "__init__" ap) [a,b] [] cp) X.env=(do
   let ov <- eval (.Name x np) X.env
   standAt ap.atName
   let (f,first) <- holding [ov] (getMethod ov "__init__" pl)
   callWith cp f first (backTo cp (starEach [a,b] X.env)) (backToKw cp (keywordEach [] X.env))):=by rfl):QE X (.Call (.Attribute (.Name x np) "__init__" ap) [a,b] [] cp) (tInit K ta tb):=by
 subst hK;exact ⟨ajH N hg hm ha.out hb.out C6 jT ht⟩
theorem oG(he:QE X e te):QE X (.FormattedValue e (-1) none pos) (tFmtI te):=⟨ajI he.out⟩
theorem afa(h1:QE X a t1)(h2:QE X b t2):QE X (.JoinedStr [a,b] pos) (Z6 [t1,t2]):=⟨oE (.cons h1.out (.cons h2.out .nil)) (by decide)⟩
theorem oH{c:Expr}{t3:TE}(h1:QE X a t1)(h2:QE X b t2)(h3:QE X c t3):QE X (.JoinedStr [a,b,c] pos) (Z6 [t1,t2,t3]):=⟨oE (.cons h1.out (.cons h2.out (.cons h3.out .nil))) (by simp)⟩
theorem gE{f:Str}(ha:QE X a ta)(hv:QE X b tv)(hK:X.K=K:=by rfl)(hs:swapsWith b (some (.Attribute a f ap)) pos.line X.env=pure false:=by rfl):QS X (.Assign [.Attribute a f ap] b pos) (sXFld K ta tv f):=by
 subst hK;exact ⟨ajJ ha.out hv.out hs⟩
theorem cP(hx:∀ (pins:List (Addr×Obj)) (Y:St) (H:Hp) (s:Shared) (x C dx:Addr),Inv X pins Y H s->H x=some (xo m x C dx)->E (.ref C) (some dx) (K1 H x)->X.xe (.ref x) s)(he:QE X e te)(hK:X.K=K:=by rfl)(hc:X.calm=true:=by rfl):QS X (.Raise (some e) none pos) (fZ K m E te):=by
 subst hK;exact ⟨ahD hx hc he.out⟩
theorem agh{P:Program} : R8 (J3 P w) X E0:=fun _ _ _ _ _ _ _ h=>by
 obtain ⟨_,_,_,_,_,_,_,_,_,_,_,_,_,_,_,z⟩:=h;exact z.elim
theorem oI{f:Str}(he:QE X e te)(hK:X.K=K:=by rfl)(hb:attributeBase e f X.env (eval e X.env)=eval e X.env:=by rfl):QE X (.Attribute e f pos) (tXGet K te f):=by
 subst hK;exact ⟨ajK he.out hb⟩
theorem q_isX(hn:W7 X.K (.builtin "object.__class__") "__get__"=some (some (.builtin "getset_descriptor.__get__")))(ht:d0 X.K (.builtin "object.__class__")=some true)(hK:X.K=K:=by rfl):QCall X (.builtin "isinstance") (rIsX K):=by
 subst hK;exact ⟨ahE hn ht⟩
variable {DC:Addr} {Dn n y:Str} {i j:Nat} {yu:Stmt} {suite:List Stmt} {ts:TS} {dvs:List V} {N:List Str} {S:Scope}
end
section
variable {Y:St} {H:Hp} {Q:VK} {D:Ends} {m:Nat} {C DC:Addr} {sp:Sp} {t:TA} {te ta tb tv:TE} {K:PySem.W.Frag} {E:XK} {f:Str} {i j:Nat} {ts:TS} {dvs:List V} {tl:List TE}
theorem als:tErr m C sp t Y H Q=t Y H fun vs H1=>vs.length<=1000/\∀ x,H1 x=none->sp (.ref x::vs) (A0 H1 x (xm m x C)) (fun v H2=>v=.non/\Q (.ref x) H2) E0:=rfl
theorem ahF:fZ K m E te D Y H=te Y H fun v H1=>∃ x C dx f,v=.ref x/\H1 x=some (xo m x C dx)/\ErrC K C f/\E (.ref C) (some dx) (K1 H1 x):=rfl
theorem ajL:tInit K ta tb Y H Q=ta Y H fun x H1=>tb Y H1 fun _ H2=>∃ a m C f,x=.ref a/\H2 a=some (xm m a C)/\ErrC K C f/\Q .non H2:=rfl
theorem ajM:tFmtI te Y H Q=te Y H fun v H1=>∃ i:Int,v=.int i/\i.natAbs<10 ^ 9/\∀ z:Str,z.length<=100->Q (.str z) H1:=rfl
theorem agj:Z6 [] Y H Q=∀ z:Str,Q (.str z) H:=rfl
theorem ahG:Z6 (te::tl) Y H Q=te Y H fun v H1=>∃ y:Str,v=.str y/\y.length<=100000/\Z6 tl Y H1 Q:=rfl
theorem ajN:sXFld K ta tv f D Y H=tv Y H fun y H1=>ta Y H1 fun x H2=>∃ a m C g,x=.ref a/\H2 a=some (xm m a C)/\ErrC K C g/\NoAttr K C f/\∀ dx,H2 dx=none->dx≠a->D.nx Y (A0 (A0 H2 a (xo m a C dx)) dx (.xd [(f,y)])):=rfl
theorem ajO:tXGet K ta f Y H Q=ta Y H fun x H1=>∃ a C dx g fs v,x=.ref a/\H1 a=some (xc a C dx)/\H1 dx=some (.xd fs)/\ErrC K C g/\NoAttr K C f/\fs.lookup f=some v/\Q v H1:=rfl
theorem ajP:tTryE K sp dvs t DC i ts D Y H=t Y H fun vs H1=>sp (vs++dvs) H1 (fun _ H2=>D.nx Y H2) (Z7 K DC i ts D Y):=rfl
theorem ajQ:tTryA K sp dvs t j DC i ts D Y H=t Y H fun vs H1=>sp (vs++dvs) H1 (fun v H2=>D.nx (Y.set j (some v)) H2) (Z7 K DC i ts D Y):=rfl
end
theorem ac7:bootBuiltins "ValueError"=some (.type "ValueError"):=by decide +kernel
theorem nsOk_of{N:Addr}{c:Value}{d:Option Addr}{es:Array DictEntry}{sl:Array (Option Value)}(h:K.lookup N=some ⟨c,d,.dict es n,sl⟩)(ha:(es.toList.all fun e=>match e.key with | .str _ _=>true | _=>false)=true):m8 K N=true:=by
 unfold m8;rw [h];show (es.all _)=true;rw [<- Array.all_toList];exact ha
theorem tail_one{A:Addr}{c:Value}{d:Option Addr}{cd:ClassData}{sl:Array (Option Value)}(h:K.lookup A=some ⟨c,d,.cls cd,sl⟩)(h1:m8 K cd.ns=true)(h2:C4 K cd.ns "__init__"=some none):d5 K bmB (.ref A::bmB)=true:=by
 unfold d5
 dsimp only
 rw [h];have h3:d5 K bmB bmB=true:=by
  cases bmB with
  | nil=>rfl
  | cons v r=>
   unfold d5;rw [beq_self_eq_true];rfl
 simp only [h1,h2,h3,beq_self_eq_true,Bool.and_self,Bool.or_true]
end L2
set_option maxRecDepth 100000
namespace L2
open PySem PySem.Spec PyProof.Rows
open PySem.Builtin PySem.Builtin.Str PySem.StrLaws
end L2
set_option maxRecDepth 100000
namespace L2
open PySem PySem.Spec PyProof.Rows
open PySem.Builtin PySem.Builtin.Str PySem.StrLaws
theorem gF{t:Value} : ∀ {cs:List Value},(∀ c∈cs,B7 K t c=some false)->PySem.W.kitAny K t cs=some false
 | [],_=>rfl
 | c::r,h=>by
  unfold PySem.W.kitAny;rw [h c M9];exact gF fun d hd=>h d (J0 _ hd)
noncomputable def clsA:List V->Option (List Value)
 | []=>some []
 | c::r=>(clsV c).bind fun v=>(clsA r).map (v :: ·)
theorem oJ:∀ {cs:List V} {us vs:List Value},Vals cs us->clsA cs=some vs->us=vs
 | [],_,_,.nil,h=>by cases h;rfl
 | c::r,_,vs,.cons (b:=u) r1 r2,h=>by
  unfold clsA at h;cases e:clsV c with
  | none=>rw [e] at h;cases h
  | some v=>
   rw [e] at h;cases e2:clsA r with
   | none=>rw [e2] at h;cases h
   | some ws=>
    rw [e2] at h;cases h;rw [oJ r2 e2]
    have:u=v:=by
     cases c with
     | ref D=>cases e;exact r1
     | ty t=>cases e;exact r1
     | _=>cases e
    rw [this]
noncomputable def rIsXT (K:PySem.W.Frag):List V->Hp->VK->Prop:=fun xs H Q=>∃ a C dx g fs t cs cvs b,xs=[.ref a,.ref t]/\H a=some (xc a C dx)/\H dx=some (.xd fs)/\ErrC K C g/\D2 K H t cs/\clsA cs=some cvs/\PySem.W.kitAny K (.ref C) cvs=some b/\Q (.bl b) H
theorem agk(hn:W7 X.K (.builtin "object.__class__") "__get__"=some (some (.builtin "getset_descriptor.__get__")))(ht:d0 X.K (.builtin "object.__class__")=some true):CallR X (.builtin "isinstance") (rIsXT X.K):=by
 intro pins s Y H xs us Q I r h;obtain ⟨a,C,dx,g,fs,t,cs,cvs,b,rfl,h1,h2,M,h3,bF,hk,q⟩:=h;obtain ⟨u1,u2,rfl,r1,r2⟩:=vals2 r
 cases r1
 cases r2
 obtain ⟨its,rv,⟨o,e,ec,n,ed⟩,_⟩:=I.tuple h3;have jV:=oJ rv bF;subst jV;obtain ⟨ox,od,mA,J,hl,rel⟩:=gC I h1 h2;obtain ⟨cd,hc,hd,_⟩:=M.cls;refine PySem.W.kia_tup (dd:=o.dict) (n:=n) (sl:=o.slots) (nW (ox:=ox) (od:=od) (by unfold c7;rw [hc];exact hd) M.ga M.gt M.bx M.cl hn ht M.ob) I.kIn J ?_ hk (by intro z;cases z) fun tk=>⟨.bl b,H,I.tok _,rfl,q⟩
 rw [e];obtain ⟨oc,odt,oda,osl⟩:=o;cases ec;cases ed;rfl
theorem alt(hn:W7 X.K (.builtin "object.__class__") "__get__"=some (some (.builtin "getset_descriptor.__get__")))(ht:d0 X.K (.builtin "object.__class__")=some true)(hK:X.K=K:=by rfl):QCall X (.builtin "isinstance") (rIsXT K):=by
 subst hK;exact ⟨agk hn ht⟩
end L2
set_option maxRecDepth 100000
namespace L2
open PySem PySem.Spec PyProof.Rows
open PySem.Builtin PySem.Builtin.Str PySem.StrLaws
noncomputable def tFmtR (te:TE):TE:=fun Y H Q=>te Y H fun v H1=>∃ y:Str,v=.str y/\y.length<=1000/\E2 y=true/\∀ z:Str,z.length<=20000->Q (.str z) H1
theorem ajR : tFmtR te Y H Q=te Y H fun v H1=>∃ y:Str,v=.str y/\y.length<=1000/\E2 y=true/\∀ z:Str,z.length<=20000->Q (.str z) H1:=rfl
theorem ajS{e:Expr}{pos:Pos}(he:PE X e te):PE X (.FormattedValue e 114 none pos) (tFmtR te):=by
 intro pins s Y H Q I h;refine wpAny_FormattedValue_repr (A4 (he pins s Y H _ I h) fun u s1 ⟨v,H1,I1,rv,y,ev,hy,ho,q⟩=>?_);subst ev;obtain ⟨t,rfl⟩:=rv;have hc:∀ c∈y.cps.toList,c<16 ^ 8:=fun c hc=>by
  unfold E2 at ho;rw [<- Array.all_toList,N2] at ho
  have:=ho c hc
  simp only [decide_eq_true_eq] at this;exact Nat.lt_trans this (by decide)
 have hl:(reprText y).length<=20000:=C3 (reprText_len y hc) (by lia);have hz:(reprText y).length<=sizeLine:=C3 hl (by decide);exact wpAny_pyReprObj_str (wpAny_formatField_str ⟨.str _,H1,I1.tok _,⟨_,rfl⟩,q _ hl⟩ ⟨.str _,H1,I1.tok _,⟨_,rfl⟩,q _ hl⟩ hz) hz
theorem ajT{e:Expr}{pos:Pos}(he:QE X e te):QE X (.FormattedValue e 114 none pos) (tFmtR te):=⟨ajS he.out⟩
end L2
set_option maxRecDepth 100000
namespace L2
open PySem PySem.Spec PyProof.Rows
open PySem.Builtin PySem.Builtin.Str PySem.StrLaws
noncomputable def alu (z:Str):Prop:=z.length<=10/\E2 z=true
end L2
set_option maxRecDepth 100000
namespace L2
open PySem PySem.Spec PyProof.Rows
section
variable {X:Cx} {K:PySem.W.Frag} {hh:ExceptHandler} {bs sa sb:List Stmt} {t u:TS} {pos:Pos} {c:Expr} {tA:TT}
end
section
variable {X:Cx} {K:PySem.W.Frag} {k:Nat} {DC:Addr} {ps:List Str} {sp:Sp} {x Dn n:Str} {gp cp ep dp hp:Pos} {e:Expr} {es:List Expr} {t:TA} {i:Nat} {yu:Stmt} {suite:List Stmt} {ts:TS} {dvs:List V}
end
end L2
set_option maxRecDepth 100000
namespace L2
open PySem PySem.Spec PyProof.Rows
noncomputable def z8 (P:Program) (w:World) (K:PySem.W.Frag) (mg:Str->Option Value) (base:Heap) (k:Nat) (C:Addr) (x:Str) (ps:List Str) (sp:Sp):Prop:=
 ∃ f fd,FnOk P w K mg base (J3 P w) k f fd ps sp/\Mk K C f/\mg x=some (.ref C)/\Binds K fd ps []
structure QEx(X:Cx)(e:Expr)(t:XK->TE):Prop where
 out:∀ (XE:Value->Shared->Prop) (E:XK) (pins:List (Addr×Obj)) (s:Shared) (Y:St) (H:Hp) (Q:VK),(∀ H1 s1 e' s',Inv X pins Y H1 s1->J3 X.prog X.w X.stack H1 s1 E e' s'->XE e' s')->Inv X pins Y H s->t E Y H Q->wpAny (model X.prog X.w) X.A (eval e X.env) (EP X pins Y Q) XE s
section
variable {X:Cx} {k:Nat} {f C:Addr} {fd:FuncData} {ps:List Str} {sp:Sp} {x m:Str} {p pos apos:Pos} {e o:Expr} {es:List Expr} {ta:XK->TE} {t:TA} {E:XK} {XE:Value->Shared->Prop}
theorem agl(M:Mk X.K C f)(F:FnOk X.prog X.w X.K X.mg X.base (J3 X.prog X.w) k f fd ps sp)(hr:Room (k+1) X.A){ds:List Value}(hb:Binds X.K fd ps ds)(hd:Vals dvs ds)(hx:∀ H1 s1 e' s',Inv X pins Y H1 s1->J3 X.prog X.w X.stack H1 s1 E e' s'->XE e' s')(I:Inv X pins Y H s)(r:Vals vs us)(h:∀ x dx,H x=none->H dx=none->dx≠x->sp (.ref x::(vs++dvs)) (A0 (A0 H dx (.own x)) x (.ins C dx [])) (fun v H2=>v=.non/\Q (.ref x) H2) E) :
  wpAny (model X.prog X.w) X.A (call (.ref C) us) (EP X pins Y Q) XE s:=by
 have hq:=h (s.heap.objs.size+1) s.heap.objs.size (I.hok.fresh (Nat.le_succ _)) (I.hok.fresh (B5 _)) (J6 (Nat.lt_succ_self _));have I2:=lK (C:=C) I;have r2:Vals (V.ref (s.heap.objs.size+1)::(vs++dvs)) (Value.ref (s.heap.objs.size+1)::(us++ds)):=.cons rfl (r.append hd);have hl:(Value.ref (s.heap.objs.size+1)::us++ds).length=ps.length:=by
  have e:=r2.length;rw [F.len _ _ _ _ hq] at e;exact e.symm
 refine wpAny_call (lE (f:=f) I.kIn M.makes M.init (beq_iff_eq.mp M.fn) (codeAny_mono (F.run _ X.stack _ _ ⟨Value.ref (s.heap.objs.size+1)::us,[]⟩ (Value.ref (s.heap.objs.size+1)::(us++ds)) _ _ E (hr.make C us [])
  (I2.env0.make C us []) (hb _ (Value.ref (s.heap.objs.size+1)::us) I2.kIn hl) r2 hq) fun r s' G7=>?_))
 cases r with
 | error e=>exact hx _ _ e s' I2 G7
 | ok fl=>
  cases fl with
  | ret u=>
   obtain ⟨v,H',I3,rv,ev,q3⟩:=I2.after G7;subst ev;exact ⟨rv,⟨V.ref (s.heap.objs.size+1),H',I3,rfl,q3⟩⟩
  | next=>exact False.elim G7
  | brk=>exact False.elim G7
  | cont=>exact False.elim G7
theorem oK(G:z8 X.prog X.w X.K X.mg X.base k C x ps sp)(hr:Room (k+1) X.A)(ha:∀ XE,QA (X.wish XE) (e::es) t)(hg:Gl X x:=by rfl)(h1:J1 e=false:=by rfl)(h2:M5 es=true:=by rfl)(C6:(x==("__debug__" : Str))=false:=by decide) :
  QEx X (.Call (.Name x p) (e::es) [] pos) (fun E=>tMake C sp [] E t):=by
 obtain ⟨f,fd,F,M,hm,hb⟩:=G;refine ⟨fun XE E pins s Y H Q hx I h=>?_⟩;refine wpAny_Call_Name_kw (U9 I hg hm ?_ C6);refine c6 (h₀:=X.base) I.ok.mod.kin M.kp (A4 ((ha XE).out pos pins s Y H _ (I.wish XE) h) fun us s1 z=>?_) (P2 h1) (Z4 h2);obtain ⟨vs,H1,I1,r,q⟩:=z;have I1:=I1.unwish;exact ⟨I1.kIn,agl M F hr hb .nil hx I1 r q⟩
theorem ahH(G:z8 X.prog X.w X.K X.mg X.base k C x ps sp)(hr:Room (k+1) X.A)(hx:R8 (J3 X.prog X.w) X E)(ha:QA X (e::es) t)(hg:Gl X x:=by rfl)(h1:J1 e=false:=by rfl)(h2:M5 es=true:=by rfl)(C6:(x==("__debug__" : Str))=false:=by decide) :
  QE X (.Call (.Name x p) (e::es) [] pos) (tMake C sp [] E t):=by
 obtain ⟨f,fd,F,M,hm,hb⟩:=G;exact ⟨vZ M F hr hg hm hb .nil hx ha.out C6 (P2 h1) (Z4 h2)⟩
theorem ahI(ho:QEx X o ta)(G:MO X.prog X.w X.K X.mg X.base k C m ps sp)(hr:Room k X.A){pl:Sem Bool}(ht:eval (.Call (.Attribute o m apos) [] [] pos) X.env=(do
   let ov <- eval o X.env
   standAt apos.atName
   let (f,first) <- holding [ov] (getMethod ov m pl)
   callWith pos f first (backTo pos (starEach [] X.env)) (backToKw pos (keywordEach [] X.env))):=by rfl) :
  QEx X (.Call (.Attribute o m apos) [] [] pos) (fun E=>tMeth C m sp [] E0 (ta E) tNil):=by
 obtain ⟨f,fd,F,c,hm,hb⟩:=G;refine ⟨fun XE E pins s Y H Q hx I h=>?_⟩;refine bP (pl:=pl) (A4 (ho.out XE E pins s Y H _ hx I h) fun u s1 z=>?_) ht;obtain ⟨x,H1,I1,rx,a,dx,fs,ex,ea,l,q⟩:=z;subst ex;obtain rfl:u=Value.ref a:=rx;refine eN I1 ea c hm l ?_;exact wpAny_mono (PySem.W.callWith_K0 (first:=[.ref a]) I1.kIn hm.kp (bZ (X:=X.wish XE) (us:=[.ref a]) (vs:=[.ref a]) F hr hb .nil pass0 (I1.wish XE) (.cons rfl .nil) q)) (fun v s2 z=>by
  obtain ⟨x,H2,I2,r,q⟩:=z;exact ⟨x,H2,I2.unwish,r,q⟩) fun _ _ z=>z
end
noncomputable def tTryX (K:PySem.W.Frag) (te:XK->TE) (j:Nat) (DC:Addr) (i:Nat) (ts:TS):TS:=fun D Y H=>te (Z7 K DC i ts D Y) Y H fun v H2=>D.nx (Y.set j (some v)) H2
noncomputable def alv (K:PySem.W.Frag) (te:XK->TE) (DC:Addr) (i:Nat) (ts:TS):TS:=fun D Y H=>te (Z7 K DC i ts D Y) Y H fun _ H2=>D.nx Y H2
section
variable {X:Cx} {K:PySem.W.Frag} {DC:Addr} {Dn n y:Str} {ep dp hp yp:Pos} {e:Expr} {te:XK->TE} {i j:Nat} {yu:Stmt} {suite:List Stmt} {ts:TS}
end
section
variable {K:PySem.W.Frag} {te:XK->TE} {DC C:Addr} {i j:Nat} {ts:TS} {D:Ends} {Y:St} {H:Hp} {sp:Sp} {E:XK} {t:TA} {Q:VK}
theorem ajU:tTryX K te j DC i ts D Y H=te (Z7 K DC i ts D Y) Y H fun v H2=>D.nx (Y.set j (some v)) H2:=rfl
theorem ahJ:alv K te DC i ts D Y H=te (Z7 K DC i ts D Y) Y H fun _ H2=>D.nx Y H2:=rfl
theorem ahK:tMake C sp [] E t Y H Q=t Y H fun vs H1=>∀ x dx,H1 x=none->H1 dx=none->dx≠x->sp (.ref x::(vs++[])) (A0 (A0 H1 dx (.own x)) x (.ins C dx [])) (fun v H2=>v=.non/\Q (.ref x) H2) E:=rfl
end
end L2
set_option maxRecDepth 100000
namespace L2
open PySem PySem.Spec PyProof.Rows
noncomputable abbrev TC:=Ends->St->Addr->Addr->Hp->Prop
structure QHs(X:Cx)(hs:List ExceptHandler)(tc:TC):Prop where
 out:∀ (pins:List (Addr×Obj)) (s:Shared) (Y:St) (H:Hp) (D:Ends) (x C dx T:Addr),Inv X pins Y (A0 H x (xc x C dx)) s->H x=none->((T∈X.ex\/X.s₀.heap.objs.size<=T)/\T≠X.env.locals/\(∀ y c,X.env.cells.lookup y=some c->c≠T)/\∀ p∈X.pn++pins,p.1≠T)->A0 H x (xc x C dx) T=none->Flies s.heap x C dx T->tc D Y C dx H->
  wpAny (model X.prog X.w) X.A (handleBy (.ref x) X.env hs) (SP X pins D) X.xe s
noncomputable def tcNil:TC:=fun _ _ _ _ _=>False
noncomputable def tcAs (K:PySem.W.Frag) (DC:Addr) (i:Nat) (ts:TS) (r:TC):TC:=fun D Y C dx H=>∃ b,E6 K C (.ref DC)=some b/\if b=true then ∀ x,H x=none->ts { nx:=fun σ' H''=>D.nx (σ'.set i none) H'',rt:=fun _ _=>False } (Y.set i (some (.ref x))) (A0 H x (xc x C dx)) else r D Y C dx H
noncomputable def T0 (tc:TC) (D:Ends) (Y:St):XK:=fun cls dx H=>∃ C d,cls=.ref C/\dx=some d/\tc D Y C d H
section
variable {X:Cx} {K:PySem.W.Frag} {DC:Addr} {Dn n:Str} {dp hp:Pos} {i:Nat} {yu:Stmt} {suite:List Stmt} {ts:TS} {hs:List ExceptHandler} {r:TC}
theorem oM:QHs X [] tcNil:=⟨fun _ _ _ _ _ _ _ _ _ _ _ _ _ _ z=>z.elim⟩
theorem qh_as(hmD:X.mg Dn=some (.ref DC))(CC:CatchC X.K DC)(hN:X.N.Nodup)(hi:X.N[i]?=some n)(hk:X.env.kindOf n=some .local)(h:∀ x xe,QSs (X.inExc x xe) (yu::suite) ts)(hr:QHs X hs r)(hK:X.K=K:=by rfl)(hg:Gl X Dn:=by rfl)(C6:(Dn==("__debug__" : Str))=false:=by decide):QHs X (.ExceptHandler (some (.Name Dn dp)) (some n) (yu::suite) hp::hs) (tcAs K DC i ts r):=by
 subst hK;obtain ⟨cd,G5⟩:=CC.cl;refine ⟨fun pins s Y H D x C dx T I hx bT hT fl z=>?_⟩;obtain ⟨b,k7,z⟩:=z;refine wpAny_handleBy_cons (codeAny_handlers_test ?_) (by intro q;cases q);have I3:=I.inExc x X.xe;refine U9 I3 hg hmD ?_ C6;obtain ⟨vs,oT,tsl,jW,r2⟩:=id fl;refine nV (s:=s) I.kIn jW rfl G5 CC.ty CC.bx k7 ?_
 cases b with
 | false=>exact hr.out pins s Y H D x C dx T I hx bT hT fl z
 | true=>
  refine codeAny_handlers_suite_as (nZ (s:=s) fl fun h3 fl3 k3=>?_);have I4:=I.other bT hT k3;refine x4 I4 hN hi (.inl hk) (v:=.ref x) rfl (fun s5 I5=>?_) (.inr hk);refine wpAny_mono ((h x _).out pins s5 _ _ _ (I5.inExc x _) (z x hx)) (fun f s6 q=>?_) fun _ _ z=>z
  cases f with
  | next=>
   obtain ⟨σ6,H6,I6,q6⟩:=q;exact age (I6.outExc I.ok.hd) hN hi hk fun s7 I7=>⟨_,H6,I7,q6⟩
  | ret u=>obtain ⟨_,_,_,_,_,z⟩:=q;exact z.elim
  | brk=>obtain ⟨_,_,_,z⟩:=q;exact z.elim
  | cont=>obtain ⟨_,_,_,z⟩:=q;exact z.elim
end
noncomputable def oN (X:Cx) (pins:List (Addr×Obj)) (D:Ends) (hs:List ExceptHandler):Value->Shared->Prop:=fun e s'=>wpAny (model X.prog X.w) X.A (noteFrame e X.env) (fun _ zu=>wpAny (model X.prog X.w) X.A (setFlight e none) (fun _ zt=>wpAny (model X.prog X.w) X.A (handleBy e X.env hs) (SP X pins D) X.xe zt) X.xe zu) X.xe s'
theorem oO{e:Value}{hs:List ExceptHandler}{tc:TC}(hh:QHs X hs tc)(G8:X.stack=X.env::X.outer)(l6:X.env.frame=some X.env.locals)(I:Inv X pins Y H s)(c:J3 X.prog X.w X.stack H s (T0 tc D Y) e s'):oN X pins D hs e s':=by
 obtain ⟨x,C,dx,T,H',ee,os',bare',un,hok,nx,nT,hx,hT,fl,hE'⟩:=c;subst ee;obtain ⟨C',d',e1,e2,h1⟩:=hE';cases e1;cases e2;have I1:=I.call' (ch:=[]) os' un hok bare' (fun b z=>absurd z (by simp));have bx:=I.beyond (s':=s) nx;have bT:=I.beyond (s':=s) nT;have E1:X.A.frames=some (X.env::X.outer):=by rw [<- G8];exact I.ok.frames
 have jX:s'.heap.FunFrames X.base (X.env::X.outer):=by rw [<- G8];exact I1.stack
 refine nY (s:=s') E1 jX l6 fl fun h2 T2 nT2 R0 k1 k2=>?_
 rw [<- G8] at k1;have I2:=I1.held bx bT hx hT R0 k1 k2;have bT2:=I1.beyond (s':=s) nT2;have hT2:A0 H' x (xc x C dx) T2=none:=by
  obtain ⟨_,_,_,_,_,hTx,_⟩:=R0;rw [A7 hTx];exact I1.hok.fresh nT2
 exact hh.out pins { s' with heap:=h2 } Y H' D x C dx T2 I2 hx bT2 hT2 R0 h1
structure QTN(X:Cx)(hs:List ExceptHandler)(bs:List Stmt)(t:TS):Prop where
 out:∀ (pins:List (Addr×Obj)) (s:Shared) (Y:St) (H:Hp) (D:Ends),Inv X pins Y H s->t D Y H->wpAny (model X.prog X.w) X.A (execs bs X.env) (SP X pins D) (oN X pins D hs) s
noncomputable def tTnE (sp:Sp) (dvs:List V) (t:TA) (tc:TC):TS:=fun D Y H=>t Y H fun vs H1=>sp (vs++dvs) H1 (fun _ H2=>D.nx Y H2) (T0 tc D Y)
noncomputable def tTnA (sp:Sp) (dvs:List V) (t:TA) (j:Nat) (tc:TC):TS:=fun D Y H=>t Y H fun vs H1=>sp (vs++dvs) H1 (fun v H2=>D.nx (Y.set j (some v)) H2) (T0 tc D Y)
noncomputable def tTnX (te:XK->TE) (j:Nat) (tc:TC):TS:=fun D Y H=>te (T0 tc D Y) Y H fun v H2=>D.nx (Y.set j (some v)) H2
noncomputable def tTnXE (te:XK->TE) (tc:TC):TS:=fun D Y H=>te (T0 tc D Y) Y H fun _ H2=>D.nx Y H2
section
variable {X:Cx} {h0:ExceptHandler} {hs:List ExceptHandler} {bs sa sb:List Stmt} {t u:TS} {pos:Pos} {c:Expr} {tA:TT}
theorem oP(h:QTN X (h0::hs) bs t):QS X (.Try bs (h0::hs) [] [] pos) t:=
 ⟨fun pins s Y H D I z=>wpAny_Try_except (wpAny_mono (h.out pins s Y H D I z) (fun f s1 z=>by cases f <;> first | exact wpAny_execs_nil z | exact z) fun _ _ z=>z)⟩
end
section
variable {X:Cx} {k:Nat} {ps:List Str} {sp:Sp} {x y:Str} {gp cp ep yp:Pos} {e:Expr} {es:List Expr} {t:TA} {j:Nat} {dvs:List V} {hs:List ExceptHandler} {tc:TC} {te:XK->TE}
theorem ahL(hh:QHs X hs tc)(he:QEx X e te)(hN:X.N.Nodup)(hj:X.N[j]?=some y)(hy:X3 X.env.scope y)(G8:X.stack=X.env::X.outer:=by rfl)(l6:X.env.frame=some X.env.locals:=by rfl)(bG:swapsWith e (some (.Name y yp)) ep.line X.env=pure false:=by rfl)(hf:X.fn y=true\/X.env.scope.names.lookup y=some .local:=by first | exact .inl rfl | exact .inr rfl | assumption) :
  QTN X hs [.Assign [.Name y yp] e ep] (tTnX te j tc):=by
 refine ⟨fun pins s Y H D I h=>?_⟩;refine wpAny_execs_cons (wpAny_Assign_Name (wpAny_mono (he.out _ (T0 tc D Y) pins s Y H _ (fun H1 s1 e' s' I1 c=>oO hh G8 l6 I1 c) I h) (fun u s1 z=>?_) fun _ _ z=>z) bG);obtain ⟨v,H1,I1,rv,q⟩:=z;exact x4 I1 hN hj hy rv (fun s2 I2=>wpAny_execs_nil ⟨_,H1,I2,q⟩) hf
theorem ago(hh:QHs X hs tc)(he:QEx X e te)(G8:X.stack=X.env::X.outer:=by rfl)(l6:X.env.frame=some X.env.locals:=by rfl)(bG:swapsWith e none ep.line X.env=pure false:=by rfl):QTN X hs [.Expr e ep] (tTnXE te tc):=by
 refine ⟨fun pins s Y H D I h=>?_⟩;refine wpAny_execs_cons (wpAny_Expr_any (wpAny_mono (he.out _ (T0 tc D Y) pins s Y H _ (fun H1 s1 e' s' I1 c=>oO hh G8 l6 I1 c) I h) (fun u s1 z=>?_) fun _ _ z=>z) I.quiet bG);obtain ⟨v,H1,I1,rv,q⟩:=z;exact wpAny_execs_nil ⟨Y,H1,I1,q⟩
end
section
variable {K:PySem.W.Frag} {te:XK->TE} {DC C dx:Addr} {i j:Nat} {ts:TS} {D:Ends} {Y:St} {H:Hp} {sp:Sp} {t:TA} {tc r:TC} {dvs:List V}
theorem alw:tTnE sp dvs t tc D Y H=t Y H fun vs H1=>sp (vs++dvs) H1 (fun _ H2=>D.nx Y H2) (T0 tc D Y):=rfl
theorem alx:tTnA sp dvs t j tc D Y H=t Y H fun vs H1=>sp (vs++dvs) H1 (fun v H2=>D.nx (Y.set j (some v)) H2) (T0 tc D Y):=rfl
theorem aly:tTnX te j tc D Y H=te (T0 tc D Y) Y H fun v H2=>D.nx (Y.set j (some v)) H2:=rfl
theorem ajV:tTnXE te tc D Y H=te (T0 tc D Y) Y H fun _ H2=>D.nx Y H2:=rfl
end
end L2
set_option maxRecDepth 100000
namespace L2
open PySem PySem.Spec PyProof.Rows
noncomputable def i3 (P:Program) (w:World) (K:PySem.W.Frag) (mg:Str->Option Value) (base:Heap) (k:Nat) (C:Addr) (m:Str) (ps:List Str) (sp:Sp):Prop:=
 ∃ f fd,FnOk P w K mg base (J3 P w) k f fd ps sp/\Cls K C/\Meth K C m f/\Binds K fd ps []
section
variable {X:Cx} {k:Nat} {C:Addr} {ps:List Str} {sp:Sp} {m:Str} {pos apos:Pos} {e o:Expr} {es:List Expr} {ta:TE} {t:TA} {E:XK}
theorem gG(ho:QE X o ta)(G:i3 X.prog X.w X.K X.mg X.base k C m ps sp)(hr:Room k X.A)(hx:R8 (J3 X.prog X.w) X E)(ha:QA X (e::es) t)(h1:J1 e=false:=by rfl)(h2:M5 es=true:=by rfl){pl:Sem Bool}(ht:eval (.Call (.Attribute o m apos) (e::es) [] pos) X.env=(do
   let ov <- eval o X.env
   standAt apos.atName
   let (f,first) <- holding [ov] (getMethod ov m pl)
   callWith pos f first (backTo pos (starEach (e::es) X.env)) (backToKw pos (keywordEach [] X.env))):=by rfl) :
  QE X (.Call (.Attribute o m apos) (e::es) [] pos) (tMeth C m sp [] E ta t):=by
 obtain ⟨f,fd,F,c,hm,hb⟩:=G;exact ⟨vW ho.out c hm F hr hb .nil hx ha.out (P2 h1) (Z4 h2) ht⟩
theorem ajW{a:Expr}{t2:XK->TE}{x1}(ha:∀ XE,QE (X.wish XE) a t1)(he:QEx X e t2)(h1:J1 a=false:=by rfl)(h2:J1 e=false:=by rfl):QEx X (.Tuple [a,e] x1 pos) (fun E=>tTup (tCons t1 (tCons (t2 E) tNil))):=by
 refine ⟨fun XE E pins s Y H Q hx I h=>?_⟩;refine wpAny_Tuple_spliced ?_;rw [P2 h1,P2 h2];show wpAny _ _ (spliced ((false,eval a X.env)::(false,eval e X.env)::backTo pos (starEach [] X.env))) _ _ s;refine Calls.spliced_cons (A4 ((ha XE).out pins s Y H _ (I.wish XE) h) fun u s1 z=>?_);obtain ⟨v,H1,I1,rv,q1⟩:=z;have I1:=I1.unwish;refine Calls.spliced_cons (A4 (he.out XE E pins s1 Y H1 _ hx I1 q1) fun u2 s2 z=>?_);obtain ⟨v2,H2,I2,rv2,q2⟩:=z;refine Calls.spliced_nil ?_;obtain ⟨z,q3⟩:=q2;have hf:H2 s2.heap.objs.size=none:=I2.hok.fresh (B5 _);refine ⟨z,.ref s2.heap.objs.size,A0 H2 s2.heap.objs.size (.tup [v,v2]),I2.laid (t':=s2.toks) (fun b u e=>Heap.get?_push_of_some _ e) (B5 _) ?_,rfl,q3 _ hf⟩;exact ⟨z,[u,u2],.cons rv (.cons rv2 .nil),⟨_,Heap.get?_push_size _ rfl,rfl,_,rfl⟩⟩
end
section
variable {C:Addr} {m:Str} {sp:Sp} {ta:TE} {t:TA} {Y:St} {H:Hp} {Q:VK} {E:XK}
theorem ahM:tMeth C m sp [] E ta t Y H Q=ta Y H fun x H1=>∃ a dx fs,x=.ref a/\H1 a=some (.ins C dx fs)/\fs.lookup m=none/\t Y H1 fun vs H2=>sp (x::(vs++[])) H2 Q E:=rfl
end
end L2
set_option maxRecDepth 100000
namespace L2
open PySem PySem.Spec PyProof.Rows
noncomputable def Z9 (P:Program) (w:World):N4:=fun outer H s E e s'=>∃ (x C dx T:Addr) (H':Hp),e=.ref x/\s'.os=s.os/\AllBare s'.gens/\Un (E3 outer) [] H H' s.heap s'.heap/\D1 P w H' s'.heap/\s.heap.objs.size<=x/\s.heap.objs.size<=T/\H' x=none/\H' T=none/\Flies s'.heap x C dx T/\NoCx s'.heap x/\E (.ref C) (some dx) H'
section
variable {P:Program} {w:World} {K:PySem.W.Frag} {mg:Str->Option Value} {base:Heap} {N:List Str} {qual:Str} {scope:Scope} {f:Addr} {cd:Value} {A:Around} {outer:List Env} {s s1:Shared} {H H1:Hp} {E:XK} {pins:List (Addr×Obj)} {Y:St} {x C dx:Addr}
theorem oQ(I:Inv (cxOf (Z9 P w) P w K mg base N qual scope f cd A outer s H E) pins Y H1 s1)(e:H1 x=some (xo s.heap.objs.size x C dx))(hE:E (.ref C) (some dx) (K1 H1 x)) :
  (cxOf (Z9 P w) P w K mg base N qual scope f cd A outer s H E).xe (.ref x) s1:=by
 obtain ⟨hm,t0,hx⟩:=(I.hok _ _ e).1;have B:Un (E3 outer) [] H H1 s.heap s1.heap:=I.base;have old:∀ b o,s.heap.get? b=some o->b≠x:=fun b o z q=>by rw [q] at z;exact absurd (Heap.lt_size z) (R6.mpr hm)
 have E1:∀ b o,s.heap.get? b=some o->b∉E3 outer->b∉E3 ((envOfC qual scope s.heap.objs.size f cd)::outer):=fun b o z n q=>by
  have z1:b∈(envOfC qual scope s.heap.objs.size f cd).locals::E3 outer:=I.stkSub b q
  rcases C0.mp z1 with r | r
  .have:b<(envOfC qual scope s.heap.objs.size f cd).locals:=K4 (Heap.lt_size z) I.ok.above
   rw [r] at this;exact absurd this (O1 _)
  .exact n r
 show wpAny _ _ (leaving _ _) _ _ _;unfold leaving;refine wpAny_bind (ae8 (s:=s1) I.ok.frames I.stack (L:=s.heap.objs.size) rfl hx fun h' T nT fl k1 k2 k3=>?_);have szl:s.heap.objs.size<=s1.heap.objs.size:=I.sz;refine ⟨x,C,dx,T,K1 H1 x,rfl,I.os,I.bare,⟨fun b o z n hb D8=>?_,fun b o z n hb D8=>?_,fun b o z n D8=>?_,fun b o z D8=>?_,fun b xs z=>?_,fun b o v z=>?_,fun b ps z=>?_⟩,fun b u q=>?_,hm,C3 szl nT,cN,?_,fl,k3,hE⟩
 .exact k1 b o (old b o z) (E1 b o z hb) (B.keep b o z n hb D8)
 .obtain ⟨sl,q⟩:=B.slot b o z n hb D8;obtain ⟨sl',q'⟩:=k2 b _ (old b o z) q;exact ⟨sl',q'⟩
 .rw [G2 (old b o z)];exact B.free b o z n D8
 .obtain ⟨o',q⟩:=B.there b o z D8;obtain ⟨sl',q'⟩:=k2 b o' (old b o z) q;exact ⟨_,q'⟩
 .have q:=B.tups b xs z;rw [G2 (fun r=>by rw [r,e] at q;cases q)];exact q
 .have q:=B.frzs b o v z;rw [G2 (fun r=>by rw [r,e] at q;cases q)];exact q
 .obtain ⟨more,q⟩:=B.tbls b ps z;exact ⟨more,by rw [G2 (fun r=>by rw [r,e] at q;cases q)];exact q⟩
 .obtain ⟨n1,q1⟩:=fY q;refine (I.hok b u q1).stay (fun c v hc z=>?_) (fun c z=>by rw [G2 (fun r=>by rw [r,e] at z;cases z)];exact z) fun c xs z=>by rw [G2 (fun r=>by rw [r,e] at z;cases z)];exact z
  have hcH:∃ o,H1 c=some o:=by
   rcases hc with r | r
   .rw [r];exact ⟨_,q1⟩
   .exact ⟨_,r⟩
  obtain ⟨oc,hcH⟩:=hcH;refine k1 c v (fun r=>?_) (fun r=>?_) z
  .rcases hc with r' | r'
   .exact n1 (r'.symm.trans r)
   .rw [r,e] at r';cases r'
  .have:=I.stkFree c r
   rw [hcH] at this;cases this
 .rw [G2 (fun r=>by
   have D5:=Heap.lt_size hx;rw [<- r] at D5;exact absurd D5 (R6.mpr nT))]
  exact I.hok.fresh nT
end
section
variable {P:Program} {w:World} {K:PySem.W.Frag} {mg:Str->Option Value} {base:Heap}
theorem FunD.okX2{k:Nat}(F:FunD K x qual st f fd)(S:FnScope N ps (B4 st))(len:∀ vs H Q E,sp vs H Q E->vs.length=ps.length)(C9:∀ (cdv:Value) (A:Around) (outer:List Env) (s:Shared) (H:Hp) (vs:List V) (Q:VK) (E:XK),Room k (A.deeper (envOfC qual (B4 st) s.heap.objs.size f cdv))->sp vs H Q E->
   ∃ t,M3 (cxOf (Z9 P w) P w K mg base N qual (B4 st) f cdv A outer s H E) (J9 st) t/\t { nx:=fun _ H'=>Q .non H',rt:=Q } (start N vs) H):FnOk P w K mg base (Z9 P w) (k+1) f fd ps sp:=by
 obtain ⟨oc,od,dV,kV,doc,pm,an,cdv,ct,osl,rfl,lk,G5⟩:=F.ex;exact fn_of lk G5 S len fun A outer s H vs Q E hr F6=>C9 cdv A outer s H vs Q E hr F6
end
section
variable {P:Program} {w:World} {K:PySem.W.Frag} {mg:Str->Option Value} {base:Heap} {N:List Str} {qual:Str} {scope:Scope} {f:Addr} {cd:Value} {A:Around} {outer:List Env} {s s1:Shared} {H H1:Hp} {E:XK} {pins:List (Addr×Obj)} {Y:St} {x C dx:Addr}
theorem ajX{A':Around}{E':Value->Shared->Prop}{hc:Addr}(I:Inv (cxOf (J3 P w) P w K mg base N qual scope f cd A outer s H E) pins Y H1 s1)(e:H1 x=some (xo s.heap.objs.size x C dx))(hE:E (.ref C) (some dx) (K1 H1 x))(hfA:A'.frames=some ((envOfC qual scope s.heap.objs.size f cd)::outer))(hy:h'.get? x=some (fW C t0 hc (some dx)))(hk:∀ b,b≠x->h'.get? b=s1.heap.get? b)(hz:h'.objs.size=s1.heap.objs.size) :
  wpAny (model P w) A' (noteFrame (.ref x) (envOfC qual scope s.heap.objs.size f cd)) (fun _ s2=>cameBackBy (model P w) (cxOf (J3 P w) P w K mg base N qual scope f cd A outer s H E).A (envOfC qual scope s.heap.objs.size f cd) (cxOf (J3 P w) P w K mg base N qual scope f cd A outer s H E).xe (.ref x) s2) E' { s1 with heap:=h' }:=by
 obtain ⟨hm,t1,hx⟩:=(I.hok _ _ e).1;have B:Un (E3 outer) [] H H1 s.heap s1.heap:=I.base;have old:∀ b o,s.heap.get? b=some o->b≠x:=fun b o z q=>by rw [q] at z;exact absurd (Heap.lt_size z) (R6.mpr hm)
 have E1:∀ b o,s.heap.get? b=some o->b∉E3 outer->b∉E3 ((envOfC qual scope s.heap.objs.size f cd)::outer):=fun b o z n q=>by
  have z1:b∈(envOfC qual scope s.heap.objs.size f cd).locals::E3 outer:=I.stkSub b q
  rcases C0.mp z1 with r | r
  .have:b<(envOfC qual scope s.heap.objs.size f cd).locals:=K4 (Heap.lt_size z) I.ok.above
   rw [r] at this;exact absurd this (O1 _)
  .exact n r
 have hlF:(h':Heap).FunFrames base ((envOfC qual scope s.heap.objs.size f cd)::outer):=I.stack.of_keeps fun b o hb hn=>⟨o,(hk b (fun q=>by rw [q,hx] at hb;cases hb;exact hn _ rfl)).trans hb,rfl⟩
 refine agc (s:={ s1 with heap:=h' }) (fun s2 z=>show wpAny _ _ (leaving _ _) _ _ _ from z) (L:=s.heap.objs.size) hfA hlF rfl hy rfl fun h2 T nT fl k1' k2'=>?_
 have k1:∀ b o,b≠x->b∉((envOfC qual scope s.heap.objs.size f cd)::outer).filterMap (·.frame)->s1.heap.get? b=some o->h2.get? b=some o:=fun b o hb U0 z=>k1' b o hb U0 ((hk b hb).trans z)
 have k2:∀ b o,b≠x->s1.heap.get? b=some o->∃ sl,h2.get? b=some { o with slots:=sl }:=fun b o hb z=>k2' b o hb ((hk b hb).trans z)
 have nT:s1.heap.objs.size<=T:=C3 (Nat.le_of_eq hz.symm) nT;have szl:s.heap.objs.size<=s1.heap.objs.size:=I.sz;refine ⟨x,C,dx,T,K1 H1 x,rfl,I.os,I.bare,⟨fun b o z n hb D8=>?_,fun b o z n hb D8=>?_,fun b o z n D8=>?_,fun b o z D8=>?_,fun b xs z=>?_,fun b o v z=>?_,fun b ps z=>?_⟩,fun b u q=>?_,hm,C3 szl nT,cN,?_,fl,hE⟩
 .exact k1 b o (old b o z) (E1 b o z hb) (B.keep b o z n hb D8)
 .obtain ⟨sl,q⟩:=B.slot b o z n hb D8;obtain ⟨sl',q'⟩:=k2 b _ (old b o z) q;exact ⟨sl',q'⟩
 .rw [G2 (old b o z)];exact B.free b o z n D8
 .obtain ⟨o',q⟩:=B.there b o z D8;obtain ⟨sl',q'⟩:=k2 b o' (old b o z) q;exact ⟨_,q'⟩
 .have q:=B.tups b xs z;rw [G2 (fun r=>by rw [r,e] at q;cases q)];exact q
 .have q:=B.frzs b o v z;rw [G2 (fun r=>by rw [r,e] at q;cases q)];exact q
 .obtain ⟨more,q⟩:=B.tbls b ps z;exact ⟨more,by rw [G2 (fun r=>by rw [r,e] at q;cases q)];exact q⟩
 .obtain ⟨n1,q1⟩:=fY q;refine (I.hok b u q1).stay (fun c v hc z=>?_) (fun c z=>by rw [G2 (fun r=>by rw [r,e] at z;cases z)];exact z) fun c xs z=>by rw [G2 (fun r=>by rw [r,e] at z;cases z)];exact z
  have hcH:∃ o,H1 c=some o:=by
   rcases hc with r | r
   .rw [r];exact ⟨_,q1⟩
   .exact ⟨_,r⟩
  obtain ⟨oc,hcH⟩:=hcH;refine k1 c v (fun r=>?_) (fun r=>?_) z
  .rcases hc with r' | r'
   .exact n1 (r'.symm.trans r)
   .rw [r,e] at r';cases r'
  .have:=I.stkFree c r
   rw [hcH] at this;cases this
 .rw [G2 (fun r=>by
   have D5:=Heap.lt_size hx;rw [<- r] at D5;exact absurd D5 (R6.mpr nT))]
  exact I.hok.fresh nT
end
noncomputable def xk (x C dx:Addr):HO:=.ext fun h=>∃ o,h.get? x=some o/\o.cls=.ref C/\o.dict=some dx/\PySem.W.notCls o=true/\∃ vs:Array Value,o.data=.fields vs/\vs[2]?=some .none
theorem xk_ok{P:Program}{x:Addr}(e:h.get? x=some o)(h1:o.cls=.ref C)(h2:o.dict=some dx)(h3:PySem.W.notCls o=true)(h4:∃ vs:Array Value,o.data=.fields vs/\vs[2]?=some .none):ObjOk P w H h x (xk x C dx):=
 ⟨⟨o,e,h1,h2,h3,h4⟩,⟨_,e⟩,fun _ _ z k=>z.elim fun t a=>⟨t,k _ a.1,a.2⟩⟩
section
variable {X:Cx} {pins:List (Addr×Obj)} {Y:St} {H:Hp} {s s':Shared} {E:XK} {e:Value} {Dn n:Str} {dp hp:Pos} {i:Nat} {yu:Stmt} {suite:List Stmt} {ts:TS} {D:Ends} {DC:Addr} {cd:ClassData}
theorem Inv.heldK{x:Addr}(I1:Inv X pins Y H' s')(bE:(x∈X.ex\/X.s₀.heap.objs.size<=x)/\x≠X.env.locals/\(∀ y c,X.env.cells.lookup y=some c->c≠x)/\∀ p∈X.pn++pins,p.1≠x)(hbT:(T∈X.ex\/X.s₀.heap.objs.size<=T)/\T≠X.env.locals/\(∀ y c,X.env.cells.lookup y=some c->c≠T)/\∀ p∈X.pn++pins,p.1≠T)(hx:H' x=none)(hT:H' T=none)(R0:Flies h2 x C dx T2)(hcx:NoCx h2 x)(k1:∀ b o,b≠x->b≠T->b∉X.stack.filterMap (·.frame)->s'.heap.get? b=some o->h2.get? b=some o)(k2:∀ b o,b≠x->b≠T->s'.heap.get? b=some o->∃ sl,h2.get? b=some { o with slots:=sl }) :
  Inv X pins Y (A0 H' x (xk x C dx)) { s' with heap:=h2 }:=by
 obtain ⟨vs,oT,tsl,he,h1,hTx,hT2,hTd,h3⟩:=R0;have jY:∃ vs':Array Value,({ cls:=.ref C,dict:=some dx,data:=.fields vs } : Obj).data=.fields vs'/\vs'[2]?=some .none:=by
  obtain ⟨o',vs',Q9,j3,h2'⟩:=hcx;rw [he] at Q9;cases Q9;exact ⟨vs',j3,h2'⟩
 have fr:∀ b,b≠X.env.locals->b∉X.fs->b∉X.stack.filterMap (·.frame):=fun b hL hf q=>by
  rcases C0.mp (I1.stkSub b q) with r | r
  .exact hL r
  .exact hf r
 refine I1.step (g':=s'.gens) (d':=s'.drawn) (t':=s'.toks) (ch:=[x,T]) (fun b hb=>?_) (fun b o hL hf hc z _=>k1 b o (fun r=>hc (by simp [r])) (fun r=>hc (by simp [r])) (fr b hL hf) z) (fun b o hL hf hc z _=>k2 b o (fun r=>hc (by simp [r])) (fun r=>hc (by simp [r])) z) (fun b o hc z n=>?_) (fun b o hc z=>?_) (fun b xs z=>?_) (fun b o u z=>?_) (fun b ps z=>?_) (fun m hm=>?_) (fX (fun b u q=>?_) hx (xk_ok he rfl rfl rfl jY)) I1.bare
 .rcases C0.mp hb with r | r
  .rw [r];exact bE
  .rw [Q1.mp r];exact hbT
 .rw [A7 (fun r=>hc (by simp [r]))];exact n
 .obtain ⟨sl,q⟩:=k2 b o (fun r=>hc (by simp [r])) (fun r=>hc (by simp [r])) z;exact ⟨_,q⟩
 .rw [A7 (F4 z hx)];exact z
 .rw [A7 (F4 z hx)];exact z
 .exact ⟨#[],by rw [A7 (F4 z hx),z];simp⟩
 .obtain ⟨o,es,ep,ho,r⟩:=hm;obtain ⟨sl,q⟩:=k2 _ o (Ne.symm bE.2.1) (Ne.symm hbT.2.1) ho;exact ⟨_,es,ep,q,r⟩
 .refine (I1.hok b u q).stay (fun c v hc z=>?_) (fun c z=>z) fun c xs z=>z
  have hcH:∃ o,H' c=some o:=by
   rcases hc with r | r
   .rw [r];exact ⟨_,q⟩
   .exact ⟨_,r⟩
  obtain ⟨oc,hcH⟩:=hcH;refine k1 c v (F4 hcH hx) (F4 hcH hT) (fun r=>?_) z
  have:=I1.stkFree c r
  rw [hcH] at this;cases this
end
section
variable {X:Cx} {pins:List (Addr×Obj)} {Y:St} {H:Hp} {s:Shared} {E:XK} {k:Nat} {f:Addr} {fd:FuncData} {ps:List Str} {sp:Sp} {g:Str} {gp cp:Pos} {e:Expr} {es:List Expr} {t:TA} {Q:VK} {XE:Value->Shared->Prop} {dvs:List V} {ds:List Value}
theorem ahN(F:FnOk X.prog X.w X.K X.mg X.base (Z9 X.prog X.w) k f fd ps sp)(hr:Room k X.A)(hg:Gl X g)(hm:X.mg g=some (.ref f))(hk:G9 X.K (.ref f)=true)(hb:Binds X.K fd ps ds)(hd:Vals dvs ds)(ha:PA (X.wish XE) (e::es) t)(I:Inv X pins Y H s)(h:t Y H fun vs H1=>sp (vs++dvs) H1 Q E)(hx:∀ H1 s1 e' s',Inv X pins Y H1 s1->Z9 X.prog X.w X.stack H1 s1 E e' s'->XE e' s')(C6:(g==("__debug__" : Str))=false:=by decide)(he:starEach (e::es) X.env=(false,eval e X.env)::starEach es X.env:=by rfl)(C7:(backTo cp (starEach es X.env)).any (·.1)=false:=by rfl) :
  wpAny (model X.prog X.w) X.A (eval (.Call (.Name g gp) (e::es) [] cp) X.env) (EP X pins Y Q) XE s:=by
 refine wpAny_Call_Name_kw (U9 I hg hm ?_ C6);refine c6 (h₀:=X.base) I.ok.mod.kin hk (A4 (ha cp pins s Y H _ (I.wish XE) h) fun us s1 z=>?_) he C7;obtain ⟨vs,H1,I1,r,q⟩:=z;have I1:=I1.unwish;refine ⟨I1.kIn,?_⟩;have r2:Vals (vs++dvs) (us++ds):=r.append hd;have hl:(us++ds).length=ps.length:=by rw [<- r2.length];exact F.len _ _ _ _ q
 refine wpAny_call (codeAny_mono (F.run X.A X.stack s1 H1 ⟨us,[]⟩ (us++ds) (vs++dvs) Q E hr I1.env0 (hb s1 us I1.kIn hl) r2 q) fun r s' hq=>?_)
 cases r with
 | error e'=>exact hx H1 s1 e' s' I1 hq
 | ok fl=>
  cases fl with
  | ret u=>exact I1.after hq
  | next=>exact False.elim hq
  | brk=>exact False.elim hq
  | cont=>exact False.elim hq
end
noncomputable def tTryF (K:PySem.W.Frag) (sp:Sp) (dvs:List V) (t:TA) (j:Nat) (DC:Addr) (m:Nat) (E:XK) (te:TE):TS:=fun D Y H=>t Y H fun vs H1=>sp (vs++dvs) H1 (fun v H2=>D.nx (Y.set j (some v)) H2) fun cls dx H'=>∃ C d,cls=.ref C/\dx=some d/\E6 K C (.ref DC)=some true/\∀ x,H' x=none->te Y (A0 H' x (xk x C d)) fun v H2=>∃ y C2 d2 f2,v=.ref y/\H2 y=some (xo m y C2 d2)/\y≠x/\H2 x=some (xk x C d)/\ErrC K C2 f2/\E (.ref C2) (some d2) (K1 H2 y)
noncomputable def FOX2 (P:Program) (w:World) (K:PySem.W.Frag) (mg:Str->Option Value) (base:Heap) (k:Nat) (x:Str) (ps:List Str) (dvs:List V) (sp:Sp):Prop:=
 ∃ f fd,FnOk P w K mg base (Z9 P w) k f fd ps sp/\mg x=some (.ref f)/\G9 K (.ref f)=true/\∃ ds,Binds K fd ps ds/\Vals dvs ds
section
variable {X:Cx} {K:PySem.W.Frag} {k m:Nat} {ps:List Str} {sp:Sp} {x y Dn:Str} {gp cp ep dp hp pos yp rp:Pos} {e e2 ec:Expr} {es:List Expr} {t:TA} {te:TE} {j:Nat} {DC:Addr} {dvs:List V} {E:XK}
theorem ajY(G:FOX2 X.prog X.w X.K X.mg X.base k x ps dvs sp)(hr:Room k X.A)(ha:∀ XE,QA (X.wish XE) (e::es) t)(hmD:X.mg Dn=some (.ref DC))(CC:CatchC X.K DC)(hN:X.N.Nodup)(hj:X.N[j]?=some y)(hy:X3 X.env.scope y)(jW:∀ z xe,QE (X.inExc z xe) e2 te)(hth:∀ (pins:List (Addr×Obj)) (Y:St) (H1:Hp) (s1:Shared) (z C dx:Addr) (A':Around) (E':Value->Shared->Prop) (h':Heap) (t0 hc:Addr),Inv X pins Y H1 s1->H1 z=some (xo m z C dx)->E (.ref C) (some dx) (K1 H1 z)->A'.frames=some (X.env::X.outer)->h'.get? z=some (fW C t0 hc (some dx))->(∀ b,b≠z->h'.get? b=s1.heap.get? b)->h'.objs.size=s1.heap.objs.size->
   wpAny (model X.prog X.w) A' (noteFrame (.ref z) X.env) (fun _ s2=>cameBackBy (model X.prog X.w) X.A X.env X.xe (.ref z) s2) E' { s1 with heap:=h' })(hec:eval ec X.env=pure .none:=by rfl)(hK:X.K=K:=by rfl)(G8:X.stack=X.env::X.outer:=by rfl)(l6:X.env.frame=some X.env.locals:=by rfl)(hg:Gl X x:=by rfl)(hgD:Gl X Dn:=by rfl)(C6:(x==("__debug__" : Str))=false:=by decide)(hdD:(Dn==("__debug__" : Str))=false:=by decide)(he:starEach (e::es) X.env=(false,eval e X.env)::starEach es X.env:=by rfl)(C7:(backTo cp (starEach es X.env)).any (·.1)=false:=by rfl)(bG:swapsWith (.Call (.Name x gp) (e::es) [] cp) (some (.Name y yp)) ep.line X.env=pure false:=by rfl)(hf:X.fn y=true\/X.env.scope.names.lookup y=some .local:=by first | exact .inl rfl | exact .inr rfl | assumption) :
  QS X (.Try [.Assign [.Name y yp] (.Call (.Name x gp) (e::es) [] cp) ep] [.ExceptHandler (some (.Name Dn dp)) none [.Raise (some e2) (some ec) rp] hp] [] [] pos) (tTryF K sp dvs t j DC m E te):=by
 subst hK;obtain ⟨f,fd,F,hm,hk,ds,hb,hd⟩:=G;obtain ⟨cd,G5⟩:=CC.cl;refine ⟨fun pins s Y H D I h=>?_⟩;refine wpAny_Try_except (wpAny_execs_cons (wpAny_Assign_Name (wpAny_mono (ahN F hr hg hm hk hb hd (ha _).out I h (fun H1 s1 e' s' I1 c=>?_) C6 he C7) (fun u s1 z=>?_) fun _ _ z=>z) bG))
 .obtain ⟨z,C,dx,T,H',ee,os',bare',un,hok,nx,nT,hx,hT,fl,ncx,C',d',q1,q2,k7,bH⟩:=c;subst ee
  cases q1;cases q2
  have I2':=I1.call' (ch:=[]) os' un hok bare' (fun b z=>absurd z (by simp));have bx:=I1.beyond (s':=s1) nx;have bT:=I1.beyond (s':=s1) nT;have E1:X.A.frames=some (X.env::X.outer):=by rw [<- G8];exact I1.ok.frames
  have jX:s'.heap.FunFrames X.base (X.env::X.outer):=by rw [<- G8];exact I2'.stack
  refine ae9 (s:=s') E1 jX l6 fl ncx fun h2 T2 nT2 R0 k1 k2 nc2=>?_
  rw [<- G8] at k1;have I2:=I2'.heldK bx bT hx hT R0 nc2 k1 k2;have bT2:=I2'.beyond (s':=s1) nT2;have hT2:A0 H' z (xk z C dx) T2=none:=by
   obtain ⟨_,_,_,_,_,hTx,_⟩:=R0;rw [A7 hTx];exact I2'.hok.fresh nT2
  refine wpAny_handleBy_cons (codeAny_handlers_test ?_) (by intro q;cases q);have I3:=I2.inExc z X.xe;refine U9 I3 hgD hmD ?_ hdD;obtain ⟨vs,oT,tsl,jZ,r2⟩:=id R0;refine nV (s:={ s' with heap:=h2 }) I2.kIn jZ rfl G5 CC.ty CC.bx k7 ?_;refine codeAny_handlers_suite (nZ (s:={ s' with heap:=h2 }) R0 fun h3 fl3 k3=>?_);have I4:=I2.other bT2 hT2 k3;refine wpAny_execs_cons ?_;rw [arm_exec_Raise];refine wpAny_bind (wpAny_standAt (ae7 (h:=z) rfl ?_));refine wpAny_bind (A4 ((jW z _).out pins _ Y _ _ (I4.inExc z _) (bH z hx)) fun u s5 q=>wpAny_bind (wpAny_standAt (wpAny_pure ?_)));obtain ⟨v,H5,I5,rv,y',C2,d2,f2,ev,sE,L7,hz',M,hE⟩:=q;subst ev;obtain rfl:u=Value.ref y':=rv;show wpAny _ _ (do let v <- eval ec X.env;standAt rp;pure v) _ _ _;rw [hec];refine wpAny_bind (wpAny_pure (wpAny_bind (wpAny_standAt (wpAny_pure ⟨rfl,?_⟩))));have I5':=I5.outExc I.ok.hd;obtain ⟨nm,qn,N',bs,bm,sn,sub,ab,col,dd,k0,k1',k2',k3',k5,l,bC,ho,hok2,hi⟩:=M.ex;obtain ⟨hmy,t0,kA⟩:=(I5.hok _ _ sE).1;obtain ⟨oz,hzo,_,_,_,vz,hzd,hz2⟩:=(I5.hok _ _ hz').1;have hCo:=I5.kIn _ _ l;refine ⟨y',C2,t0,N',some d2,nm,qn,bs,bm,true,sn,sub,ab,col,dd,k0,k1',k2',k3',k5,_,rfl,hCo,(w5 I5.kIn bC).hasType (by decide),kA,L7,fun q=>?_,⟨oz,vz,hzo,hzd,hz2⟩,fun h' g1 g2 g3=>?_⟩
  .rw [q,hCo] at kA
   have:=congrArg Obj.data (Option.some.inj kA)
   cases this
  .exact hth pins Y H5 s5 y' C2 d2 _ _ h' t0 z I5' sE hE E1 g1 g2 g3
 .obtain ⟨v,H1,I1,rv,q⟩:=z;exact x4 I1 hN hj hy rv (fun s2 I2=>wpAny_execs_nil (wpAny_execs_nil ⟨_,H1,I2,q⟩)) hf
end
theorem ajZ{t:TA}{DC:Addr}{E:XK} : tTryF K sp dvs t j DC m E te D Y H=t Y H fun vs H1=>sp (vs++dvs) H1 (fun v H2=>D.nx (Y.set j (some v)) H2) fun cls dx H'=>∃ C d,cls=.ref C/\dx=some d/\E6 K C (.ref DC)=some true/\∀ x,H' x=none->te Y (A0 H' x (xk x C d)) fun v H2=>∃ y C2 d2 f2,v=.ref y/\H2 y=some (xo m y C2 d2)/\y≠x/\H2 x=some (xk x C d)/\ErrC K C2 f2/\E (.ref C2) (some d2) (K1 H2 y):=rfl
end L2
set_option maxRecDepth 100000
namespace L2
open PySem PySem.Spec PyProof.Rows
structure FnOkH(P:Program)(w:World)(K:PySem.W.Frag)(mg:Str->Option Value)(base:Heap)(k:Nat)(f:Addr)(fd:FuncData)(ps:List Str)(sp:Sp):Prop where
 len:∀ vs H Q E,sp vs H Q E->vs.length=ps.length
 run:∀ (A:Around) (z:Addr) (outer:List Env) (s:Shared) (H:Hp) (args:Args) (us:List Value) (vs:List V) (Q:VK) (E:XK),Room k A->Env0 P w K mg base A outer s H->BindsTo s fd args (ps.zip us)->Vals vs us->sp vs H Q E->
  codeAny (model P w) (A.mark (some (.ref z))) (.call (.ref f) args) (CR C8 outer P w H s Q E) s
theorem alz{P:Program}{base:Heap}{k:Nat}{params:Arguments}{body:List Stmt}{scope:Scope}{kV:Value}(lk:K.lookup f=some ⟨oc,od,.func (J5 name qual params body scope dV kV doc pm an cdv ct),osl⟩)(G5:M8 K cdv qual=true)(S:FnScope N ps scope)(len:∀ vs H Q E,sp vs H Q E->vs.length=ps.length)(C9:∀ (A:Around) (outer:List Env) (s:Shared) (H:Hp) (vs:List V) (Q:VK) (E:XK) (z:Addr),Room k (A.deeper (envOfC qual scope s.heap.objs.size f cdv))->sp vs H Q E->
   ∃ t,M3 ((cxOf C8 P w K mg base N qual scope f cdv A outer s H E).inExc z (cxOf C8 P w K mg base N qual scope f cdv (A.mark (some (.ref z))) outer s H E).xe) body t/\t { nx:=fun _ H'=>Q .non H',rt:=Q } (start N vs) H) :
  FnOkH P w K mg base (k+1) f (J5 name qual params body scope dV kV doc pm an cdv ct) ps sp:=by
 refine ⟨len,fun A z outer s H args us vs Q E hr e0 hb r F6=>?_⟩;have hl:=len _ _ _ _ F6;have KX:K.In s.heap:=e0.mod.kin.keeps fun b o e=>(e0.bs b o e).1
 have lim:s.heap.NoLimit:=e0.mod.nolimit.keeps fun b o e=>(e0.bs b o e).1
 have T8:∀ y∈ps.zip us,scope.names.lookup y.1=some .local\/(scope.names.lookup y.1=some .cell/\((cellsFrom (s.heap.objs.size+1) scope.names []).lookup y.1).isSome=true):=fun ⟨n,v⟩ hy=>by
  rcases S.par n (List.of_mem_zip hy).1 with q | q
  .exact .inl q
  .exact .inr ⟨q,PySem.W.cellsFrom_some _ _ _ (.inl q)⟩
 refine codeAny_call_function hr.depth (KX _ _ lk) rfl S.co S.gen rfl (PySem.W.codeRec_of KX G5) (hb _ _ _ _ ?_);refine wpAny_newFunctionEnv_cells S.kind T8 fun env he s1 x=>?_
 subst he;refine ⟨lim.keeps x.toInCall.keep,codeAny_func ?_⟩;obtain ⟨t,ht,hq⟩:=C9 A outer s H vs Q E z (hr.deeper _) F6;have I:Inv (cxOf C8 P w K mg base N qual scope f cdv A outer s H E) [] (start N vs) H s1:=lR S hr.hd e0 hl r x;refine wpAny_mono (ht [] s1 (start N vs) H _ (I.inExc z _) hq) (fun fl s' hs=>?_) fun e s' hs=>hs
 have fin:∀ {σ':St} {H':Hp} {v:V} {u:Value},Inv ((cxOf C8 P w K mg base N qual scope f cdv A outer s H E).inExc z (cxOf C8 P w K mg base N qual scope f cdv (A.mark (some (.ref z))) outer s H E).xe) [] σ' H' s'->RelV v u->Q v H'->CE outer P w H s Q u s':=
  fun {σ' H' v u} J rv q=>⟨v,H',J.os,J.bare,J.base,J.hok,rv,q⟩
 cases fl with
 | ret u=>
  obtain ⟨v,σ',H',J,rv,q⟩:=hs;exact fin J rv q
 | next=>
  obtain ⟨σ',H',J,q⟩:=hs;exact fin (v:=V.non) (u:=Value.none) J rfl q
 | brk=>
  obtain ⟨_,_,_,q⟩:=hs;exact False.elim q
 | cont=>
  obtain ⟨_,_,_,q⟩:=hs;exact False.elim q
theorem uaf{P:Program}{base:Heap}{z:Addr}{outer:List Env}(e:Env0 P w K mg base (A.mark (some (.ref z))) outer s H):Env0 P w K mg base A outer s H:=⟨e.frames,e.mod,e.bs,e.bsz,e.funs,e.frf,e.hok,e.bare⟩
section
variable {X:Cx} {k:Nat} {f C z:Addr} {xe:Value->Shared->Prop} {fd:FuncData} {ps:List Str} {sp:Sp} {x:Str} {p pos:Pos} {e:Expr} {es:List Expr} {t:TA}
theorem ahO(M:ErrC X.K C f)(F:FnOkH X.prog X.w X.K X.mg X.base k f fd ps sp)(hr:Room (k+1) X.A)(hb:Binds X.K fd ps [])(I:Inv (X.inExc z xe) pins Y H s)(r:Vals vs us)(A8:vs.length<=1000)(h:∀ x,H x=none->sp (.ref x::vs) (A0 H x (xm X.s₀.heap.objs.size x C)) (fun v H2=>v=.non/\Q (.ref x) H2) E0) :
  wpAny (model X.prog X.w) (X.A.mark (some (.ref z))) (call (.ref C) us) (EP (X.inExc z xe) pins Y Q) xe s:=by
 have hq:=h (s.heap.objs.size+1) (I.hok.fresh (Nat.le_succ _));obtain ⟨nm,q,N,bs,bm,sn,sub,ab,col,dd,k0,k1,k2,k3,k5,l,ht,ho,hok,hi⟩:=M.ex;have hC:=I.kIn _ _ l;have hN:s.heap.Ns N (s.heap.nsMap N):=.of_isNs (PySem.W.isNs_of_in I.kIn hok);have aV:=oB I.kIn hN hi;have hf:∃ o,s.heap.get? f=some o/\o.cls=.type "function":=by
  obtain ⟨o,ho,hc⟩:=Option.map_eq_some_iff.mp (beq_iff_eq.mp M.fn);exact ⟨o,I.kIn _ _ ho,hc⟩
 obtain ⟨of,aW,aX⟩:=hf;have aR:=r.length;have r2:Vals (V.ref (s.heap.objs.size+1)::vs) (Value.ref (s.heap.objs.size+1)::us):=.cons rfl r;have hl:(Value.ref (s.heap.objs.size+1)::us++[]).length=ps.length:=by
  have e:=r2.length;rw [F.len _ _ _ _ hq] at e;rw [d9];exact e.symm
 obtain ⟨h0,g,d,tk,os⟩:=s;refine nR w8 (by decide) w8 (w5 I.kIn ht) hC hN aV aW aX (by rw [<- aR];exact C3 A8 (by decide)) ?_;have I2:Inv (X.inExc z xe) pins Y (A0 H (h0.objs.size+1) (xm X.s₀.heap.objs.size (h0.objs.size+1) C)) ⟨(h0.push { cls:=.type "tuple",data:=.seq us.toArray }).push (J2 C h0.objs.size none),g,d,tk,os⟩:=
  I.laid (t':=tk) (fun b u z=>Heap.get?_push_of_some _ (Heap.get?_push_of_some _ z)) (Nat.le_succ _) (xm_ok (t0:=h0.objs.size) (Nat.le_succ_of_le I.sz) (by
   have:=Heap.get?_push_size (h0.push { cls:=.type "tuple",data:=.seq us.toArray }) (o:=J2 C h0.objs.size none) rfl
   rwa [Heap.size_push] at this))
 refine codeAny_mono (F.run (X.A.under (.builtin "type.__call__" ⟨.ref C::us,[]⟩)) z X.stack _ _ ⟨Value.ref (h0.objs.size+1)::us,[]⟩ (Value.ref (h0.objs.size+1)::us) _ _ E0 (hr.make C us []) (uaf (z:=z) I2.env0 |>.make C us []) (by have:=hb _ (Value.ref (h0.objs.size+1)::us) I2.kIn hl;rwa [d9] at this) r2 hq) fun r s' G7=>?_
 cases r with
 | error e=>exact G7.elim
 | ok fl=>
  cases fl with
  | ret u=>
   obtain ⟨v,H',I3,rv,ev,q3⟩:=I2.after G7;subst ev;exact ⟨rv,⟨V.ref (h0.objs.size+1),H',I3,rfl,q3⟩⟩
  | next=>exact False.elim G7
  | brk=>exact False.elim G7
  | cont=>exact False.elim G7
theorem aj0(M:ErrC X.K C f)(F:FnOkH X.prog X.w X.K X.mg X.base k f fd ps sp)(hr:Room (k+1) X.A)(hg:Gl (X.inExc z xe) x)(hm:X.mg x=some (.ref C))(hb:Binds X.K fd ps [])(ha:PA (X.inExc z xe) (e::es) t)(C6:(x==("__debug__" : Str))=false:=by decide)(he:starEach (e::es) X.env=(false,eval e X.env)::starEach es X.env:=by rfl)(C7:(backTo pos (starEach es X.env)).any (·.1)=false:=by rfl) :
  PE (X.inExc z xe) (.Call (.Name x p) (e::es) [] pos) (tErr X.s₀.heap.objs.size C sp t):=by
 intro pins s Y H Q I h;refine wpAny_Call_Name_kw (U9 I hg hm ?_ C6);refine c6 (h₀:=X.base) I.ok.mod.kin M.kp (A4 (ha pos pins s Y H _ I h) fun us s1 ⟨vs,H1,I1,r,q0,q⟩=>⟨I1.kIn,ahO (X:=X) (z:=z) (xe:=xe) M F hr hb I1 r q0 q⟩) he C7
end
noncomputable def gH (P:Program) (w:World) (K:PySem.W.Frag) (mg:Str->Option Value) (base:Heap) (k:Nat) (C:Addr) (x:Str) (ps:List Str) (sp:Sp):Prop:=
 ∃ f fd,FnOkH P w K mg base k f fd ps sp/\mg x=some (.ref C)/\ErrC K C f/\Binds K fd ps []
theorem aj1{k:Nat}{z:Addr}{p pos:Pos}{e:Expr}{t:TA}(G:gH X.prog X.w X.K X.mg X.base k C x ps sp)(hr:Room (k+1) X.A)(ha:QA (X.inExc z xe) (e::es) t)(hm:X.s₀.heap.objs.size=m)(hg:Gl (X.inExc z xe) x:=by rfl)(C6:(x==("__debug__" : Str))=false:=by decide)(he:starEach (e::es) X.env=(false,eval e X.env)::starEach es X.env:=by rfl)(C7:(backTo pos (starEach es X.env)).any (·.1)=false:=by rfl):QE (X.inExc z xe) (.Call (.Name x p) (e::es) [] pos) (tErr m C sp t):=by
 subst hm;obtain ⟨f,fd,F,Y4,M,hb⟩:=G;exact ⟨aj0 M F hr hg Y4 hb ha.out C6 he C7⟩
theorem FunD.okH{P:Program}{base:Heap}{k:Nat}(F:FunD K x qual st f fd)(S:FnScope N ps (B4 st))(len:∀ vs H Q E,sp vs H Q E->vs.length=ps.length)(C9:∀ (cdv:Value) (A:Around) (outer:List Env) (s:Shared) (H:Hp) (vs:List V) (Q:VK) (E:XK) (z:Addr),Room k (A.deeper (envOfC qual (B4 st) s.heap.objs.size f cdv))->sp vs H Q E->
   ∃ t,M3 ((cxOf C8 P w K mg base N qual (B4 st) f cdv A outer s H E).inExc z (cxOf C8 P w K mg base N qual (B4 st) f cdv (A.mark (some (.ref z))) outer s H E).xe) (J9 st) t/\t { nx:=fun _ H'=>Q .non H',rt:=Q } (start N vs) H):FnOkH P w K mg base (k+1) f fd ps sp:=by
 obtain ⟨oc,od,dV,kV,doc,pm,an,cdv,ct,osl,rfl,lk,G5⟩:=F.ex;exact alz lk G5 S len fun A outer s H vs Q E z hr F6=>C9 cdv A outer s H vs Q E z hr F6
end L2
open L2 in
local macro_rules | `(tactic| walk_at "rd")=>`(tactic| simp only [↓mO,↓ap_c,↓yX,↓yY,↓yZ,↓zA,↓zB,↓zC,↓zD,↓zE,↓zL,↓zG,↓ap_op,↓yO,↓ap_tB,↓yT,↓yS,↓ap_or,↓yU,↓yV,↓yW,↓yQ,↓ap_if,↓yR,↓ap_cb,↓zO,↓zP,↓zQ,↓zR,↓zS,↓ap_sl,↓zT,↓zU,↓ak6,↓ajf,↓ahi,↓ajd,↓aje,↓ahj,↓ahk,↓ap_bm,↓zV,↓zM,↓zJ,↓zH,↓zI,↓zK,↓ap_un,↓ap_rU,↓zN,↓zW,↓zX,↓zY,↓zZ,↓ai9,↓zF,↓aja,↓ahh,↓ajb,↓yP,ajc,ajg,ahl,ahm,ahn,↓ad_ii,↓ad_ss,↓ad_rr,↓mu_ii,↓mu_ri,↓eq_ii,↓eq_ss,↓eq_bb,↓eq_rx,↓eq_xr,↓ne_ii,↓ne_ss,↓ne_bb,↓ne_rx,↓ne_xr,↓L2.lt_ii,↓L2.lt_ss,↓le_ii,↓le_ss,↓gt_ii,↓gt_ss,↓ge_ii,↓ge_ss,↓in_xs,↓in_xr,↓sl_s,↓sl_r,↓len_s,↓len_r,↓ak8,↓all_r,↓isi_t,↓ord_s,↓ald,↓ahs,kV_str,↓aht,↓tup_r,↓ajt,↓ale,↓alf,↓ajv,↓ajw,↓ahu,↓ahv,↓ajh,↓aji,↓als,↓ahF,↓ajL,↓ajM,↓ajR,↓agj,↓ahG,↓ajN,↓ajO,↓ajP,↓ajQ,↓alw,↓alx,↓aly,↓ajV,↓ajU,↓ahJ,↓ajZ,↓ahK,↓ahM,↓rng_r,↓ajE,↓alq,↓af7,↓ajD,↓af5,↓int_b,↓any_r,↓ahz,↓ajz,↓ajA,↓alj,↓ajB,↓ahB,↓ajx,↓ahx,↓ahw,aho,adB,cxK,cxKn,cxKb,cxC,cxCn,cxCb,E5,List.map_nil,E8,U4,Nat.sub_self,Nat.reduceAdd,Nat.reduceSub,Nat.zero_add,Nat.add_one_sub_one,List.replicate_zero,n6,d9,List.nil_append,List.cons_append,List.getElem?_cons_zero,List.getElem?_cons_succ,List.set_cons_zero,List.set_cons_succ,Option.some.injEq,Option.join_some,Option.join_none,exists_eq_left',exists_eq_left,exists_eq',exists_eq,reduceCtorEq,false_and,and_false,exists_false,exists_const,false_or,or_false,true_and,and_true,V.str.injEq,V.int.injEq,V.bl.injEq,V.ref.injEq,V.ty.injEq,List.cons.injEq,exists_and_left,exists_and_right,and_assoc,if_true,if_false,Bool.false_eq_true,Bool.not_true,Bool.not_false,ite_true,ite_false,Int.reduceLT,Int.reduceLE,O2])
namespace K85
open PySem PySem.Spec PyProof.Rows L2
set_option maxRecDepth 100000
set_option maxHeartbeats 4000000
noncomputable def top (i:Nat):Stmt:=PySem.Challenge.pw_sortlore_k85_a_book_refused.main.body.getD i (.Pass ⟨0,0,0,0⟩)
noncomputable abbrev X9:Stmt:=f6 (top 5) 0
noncomputable abbrev a6:Stmt:=f6 (top 8) 0
noncomputable abbrev cQ:Stmt:=top 16
noncomputable abbrev z9:Stmt:=top 17
noncomputable abbrev i4:Stmt:=top 21
noncomputable abbrev Y0:Stmt:=top 22
noncomputable abbrev aA:Stmt:=top 24
noncomputable abbrev cR:Stmt:=top 25
noncomputable abbrev V4:Stmt:=f6 (top 26) 2
noncomputable abbrev V5:Stmt:=f6 (top 26) 3
noncomputable abbrev V6:Stmt:=f6 (top 26) 1
noncomputable abbrev V7:Stmt:=f6 (top 26) 0
noncomputable abbrev i5:Stmt:=f6 (top 26) 4
noncomputable abbrev aB:Stmt:=top 28
noncomputable abbrev K2:Stmt:=top 29
noncomputable abbrev J4:Stmt:=top 30
noncomputable abbrev N0:Stmt:=top 31
noncomputable abbrev t7:Stmt:=top 32
noncomputable abbrev O5:Stmt:=top 33
noncomputable abbrev N1:Stmt:=top 34
noncomputable abbrev a7:Stmt:=top 35
noncomputable abbrev Q7:Stmt:=top 36
noncomputable abbrev b0:Stmt:=top 37
noncomputable abbrev s_law:Stmt:=top 38
noncomputable def visB (S:Scope) (x:Str):Bool:=decide (S.names.lookup x=some .local) || decide (S.names.lookup x=some .cell) || decide (S.names.lookup x=some .free)
theorem qvd{pos:Pos}{S:Scope}(hN:X.N=N)(hs:X.env.scope=S)(h:(decide (N[n]?=some x)&&visB S x && !(x==("__debug__" : Str)) && !(x==("__classdict__" : Str)))=true):QE X (.Name x pos) (tVar n):=by
 subst hN hs;simp only [visB,J7,Bool.or_eq_true,decide_eq_true_eq,Bool.not_eq_true'] at h;exact qe_v h.1.1.1 (h.1.1.2.elim (fun z=>z.elim .inl fun z=>.inr (.inl z)) fun z=>.inr (.inr z)) h.1.2 h.2
theorem len1{α:Type}{F:List α->Prop}(h:∀ a,F [a]):∀ us:List α,us.length=1->F us
 | [a],_=>h a
theorem len2{α:Type}{F:List α->Prop}(h:∀ a b,F [a,b]):∀ us:List α,us.length=2->F us
 | [a,b],_=>h a b
theorem len3{α:Type}{F:List α->Prop}(h:∀ a b c,F [a,b,c]):∀ us:List α,us.length=3->F us
 | [a,b,c],_=>h a b c
theorem len4{α:Type}{F:List α->Prop}(h:∀ a b c d,F [a,b,c,d]):∀ us:List α,us.length=4->F us
 | [a,b,c,d],_=>h a b c d
theorem len5{α:Type}{F:List α->Prop}(h:∀ a b c d e,F [a,b,c,d,e]):∀ us:List α,us.length=5->F us
 | [a,b,c,d,e],_=>h a b c d e
theorem G3{Q:List Str}{sc:Scope}(h1:sc.kind=.function:=by rfl)(h2:sc.isCoroutine=false:=by rfl)(h3:sc.isGenerator=false:=by rfl)(h4:N.Nodup:=by decide +kernel)(h5:N.take Q.length=Q:=by rfl)(h6:∀ x∈Q,sc.names.lookup x=some .local\/sc.names.lookup x=some .cell:=by decide +kernel)(h7:∀ y∈sc.names,y.2≠.free:=by decide +kernel):FnScope N Q sc:=⟨h1,h2,h3,h4,h5,h6,h7⟩
theorem gI{kn:List (Str×NameKind)}{sc:Scope}{k:Nat}(h1:sc.kind=.function:=by rfl)(h2:∀ x∈sc.names,x.2≠.cell:=by decide +kernel)(h3:∀ x∈sc.names,x.2=.local->sc.names.lookup x.1=some .local:=by decide +kernel)(h4:∀ x∈sc.names,x.2=.free->kn.lookup x.1=some .cell\/kn.lookup x.1=some .free:=by decide +kernel)(h5:∀ x∈sc.names,x.2=.free->sc.names.lookup x.1=some .free:=by decide +kernel)(h6:N'.length=k+ixs.length:=by rfl)(h7:ixs.map (fun i=>N[i]?)=(N'.drop k).map some:=by decide +kernel)(h8:∀ x∈N'.drop k,(x,NameKind.free)∈sc.names:=by decide +kernel):CompOk N kn sc N' k ixs:=⟨h1,h2,h3,h4,h5,h6,h7,h8⟩
theorem hm{k:Nat}(r:Room k A)(h:j<=k:=by decide):Room j A:=r.mono h
structure DF(K:PySem.W.Frag)(n:Str)(s:Stmt):Prop where
 ex:∃ (f:Addr) (oc:Value) (od:Option Addr) (kV dc pm:Value) (an:Option Addr) (cd ct:Value) (sl:Array (Option Value)),C4 K mainGlobals n=some (some (.ref f))/\K.lookup f=some ⟨oc,od,.func (J5 n n (M4 s) (J9 s) (B4 s) .none kV dc pm an cd ct),sl⟩/\M8 K cd n=true/\G9 K (.ref f)=true
theorem df_mk{n:Str}{s:Stmt}{kV dc:Value}{sl:Array (Option Value)}(a:C4 K mainGlobals n=some (some (.ref f)))(l:K.lookup f=some ⟨oc,od,.func (J5 n n (M4 s) (J9 s) (B4 s) .none kV dc pm an cd ct),sl⟩)(c:M8 K cd n=true)(k:G9 K (.ref f)=true):DF K n s:=⟨f,oc,od,kV,dc,pm,an,cd,ct,sl,a,l,c,k⟩
theorem DF.go{P:Program}{base:Heap}{n:Str}{s:Stmt}{k:Nat}(d:DF K n s)(X:K.In h)(G:h.Ns mainGlobals mg)(_:K.In base)(ok:∀ {f fd},FunD K n n s f fd->FnOk P w K mg base C8 k f fd ps sp)(hl:∀ (kV dc pm:Value) (an:Option Addr) (cd ct:Value) (us:List Value),us.length=ps.length->bindArgs (J5 n n (M4 s) (J9 s) (B4 s) .none kV dc pm an cd ct) ⟨us,[]⟩=pure (ps.zip us):=by first | exact fun _ _ _ _ _ _=>len1 fun _=>rfl | exact fun _ _ _ _ _ _=>len2 fun _ _=>rfl | exact fun _ _ _ _ _ _=>len3 fun _ _ _=>rfl | exact fun _ _ _ _ _ _=>len4 fun _ _ _ _=>rfl | exact fun _ _ _ _ _ _=>len5 fun _ _ _ _ _=>rfl):FO P w K mg base k n ps [] sp:=by
 obtain ⟨f,oc,od,kV,dc,pm,an,cd,ct,sl,a,l,c,kp⟩:=d.ex;exact ⟨_,_,ok (V2 (st:=s) l c),F7 X G a,kp,[],.all (hl kV dc pm an cd ct),.nil⟩
structure Txt(P:Program)(w:World)(K:PySem.W.Frag)(mg:Str->Option Value)(C:Addr)(C_NoRule:Addr)(C_Twice:Addr):Prop where
 cl:Cls K C
 na_own:NoAttr K C "own"
 na_elders:NoAttr K C "elders"
 na_newest:NoAttr K C "newest"
 na_length:NoAttr K C "length"
 lore:∃ L,mg "LoreError"=some (.ref L)/\LoreC K L
 na_NoRule:NoAttr K C_NoRule "at"
 er_NoRule:∃ f,ErrC K C_NoRule f
 na_Twice:NoAttr K C_Twice "name"
 er_Twice:∃ f,ErrC K C_Twice f
 cn:W7 K (.builtin "object.__class__") "__get__"=some (some (.builtin "getset_descriptor.__get__"))
 ct:d0 K (.builtin "object.__class__")=some true
 c_LoreError:∃ a,mg "LoreError"=some (.ref a)/\CatchC K a/\E6 K C_NoRule (.ref a)=some true/\E6 K C_Twice (.ref a)=some true
 c_NoRule:∃ a,mg "NoRule"=some (.ref a)/\CatchC K a/\E6 K C_NoRule (.ref a)=some true/\E6 K C_Twice (.ref a)=some false
 c_Twice:∃ a,mg "Twice"=some (.ref a)/\CatchC K a/\E6 K C_NoRule (.ref a)=some false/\E6 K C_Twice (.ref a)=some true
 x_Clash:∃ a,mg "Clash"=some (.ref a)/\B7 K (.ref C_NoRule) (.ref a)=some false/\B7 K (.ref C_Twice) (.ref a)=some false
 x_NoDeed:∃ a,mg "NoDeed"=some (.ref a)/\B7 K (.ref C_NoRule) (.ref a)=some false/\B7 K (.ref C_Twice) (.ref a)=some false
 x_NoLetter:∃ a,mg "NoLetter"=some (.ref a)/\B7 K (.ref C_NoRule) (.ref a)=some false/\B7 K (.ref C_Twice) (.ref a)=some false
 x_NoName:∃ a,mg "NoName"=some (.ref a)/\B7 K (.ref C_NoRule) (.ref a)=some false/\B7 K (.ref C_Twice) (.ref a)=some false
 x_NoSign:∃ a,mg "NoSign"=some (.ref a)/\B7 K (.ref C_NoRule) (.ref a)=some false/\B7 K (.ref C_Twice) (.ref a)=some false
 x_NotPlain:∃ a,mg "NotPlain"=some (.ref a)/\B7 K (.ref C_NoRule) (.ref a)=some false/\B7 K (.ref C_Twice) (.ref a)=some false
 x_NoText:∃ a,mg "NoText"=some (.ref a)/\B7 K (.ref C_NoRule) (.ref a)=some false/\B7 K (.ref C_Twice) (.ref a)=some false
 x_Ring:∃ a,mg "Ring"=some (.ref a)/\B7 K (.ref C_NoRule) (.ref a)=some false/\B7 K (.ref C_Twice) (.ref a)=some false
 x_Round:∃ a,mg "Round"=some (.ref a)/\B7 K (.ref C_NoRule) (.ref a)=some false/\B7 K (.ref C_Twice) (.ref a)=some false
 x_NoRule:∃ a,mg "NoRule"=some (.ref a)/\B7 K (.ref C_NoRule) (.ref a)=some true/\B7 K (.ref C_Twice) (.ref a)=some false
 x_Twice:∃ a,mg "Twice"=some (.ref a)/\B7 K (.ref C_NoRule) (.ref a)=some false/\B7 K (.ref C_Twice) (.ref a)=some true
 y_ValueError:B7 K (.ref C_NoRule) (.type "ValueError")=some true
 y_ValueError_Twice:B7 K (.ref C_Twice) (.type "ValueError")=some true
 b_ValueError:mg "ValueError"=none
 b_all:mg "all"=none
 b_bool:mg "bool"=none
 b_isinstance:mg "isinstance"=none
 b_len:mg "len"=none
 b_list:mg "list"=none
 b_ord:mg "ord"=none
 b_range:mg "range"=none
 b_str:mg "str"=none
 b_tuple:mg "tuple"=none
 g_PER_CENT:∃ t,mg "PER_CENT"=some (.int 37 t)
 x_FEWEST:∃ a,mg "FEWEST"=some (.ref a)/\ModD P w K a [((Sum.inr ("row" : Str):A9),V.int 1),((Sum.inr ("marks" : Str):A9),V.int 1),((Sum.inr ("great" : Str):A9),V.int 2),((Sum.inr ("as" : Str):A9),V.int 2),((Sum.inr ("over" : Str):A9),V.int 1),((Sum.inr ("forget" : Str):A9),V.int 1)]
 x_BARE:∃ a,mg "BARE"=some (.ref a)/\∀ H:Hp,D2 K H a [V.str "figures",V.str "blanks",V.str "behind"]
noncomputable def i6:V->Bool
 | .str z=>D3 z
 | _=>false
noncomputable def oR:Sp:=fun vs H Q _=>∃ c,vs=[.str ⟨#[c]⟩]/\Q (.bl (signB c)) H
noncomputable def oS:Sp:=fun vs H Q _=>∃ x T,vs=[x]/\V1 H x=some T/\(∀ z,x=.str z->z.length<=1000)/\∀ H',Same H H'->Q (.bl (i6 x)) H'
noncomputable def spLaw (K:PySem.W.Frag):Sp:=fun vs H Q _=>∃ (a:Addr) (ns:List Int),vs=[.ref a]/\C1 K H a (ns.map V.int)/\ns.length<=63/\∀ H',Q (.bl true) H'
theorem oU{x:V}{T:String}(h:V1 H x=some T)(n:∀ z,x≠.str z):y0 T "str"=false:=by
 cases x with
 | non=>cases h;rfl
 | bl b=>cases h;rfl
 | int i=>cases h;rfl
 | str z=>exact absurd rfl (n z)
 | ref a=>
  unfold V1 at h
  dsimp only at h
  cases e:H a with
  | none=>rw [e] at h;cases h
  | some o=>
   rw [e] at h
   cases o with
   | lst xs=>cases h;rfl
   | tup xs=>cases h;rfl
   | dK kvs=>cases h;rfl
   | frz ob u=>
    cases u with
    | lst xs=>cases h;rfl
    | _=>cases h
   | _=>cases h
 | _=>cases h
theorem agq{x:V}(n:∀ z,x≠.str z):i6 x=false:=by
 cases x with
 | str z=>exact absurd rfl (n z)
 | _=>rfl
theorem fU{d:Nat} : (([c]:List Nat)<[d])↔c<d:=by
 constructor
 .intro h;cases h with
  | rel h=>exact h
  | cons h=>cases h
 .intro h;exact List.Lex.rel h
noncomputable def Good (w:Str) (ps:List Str):Prop:=ps.length<=1000/\(∀ z∈ps,D3 z=true)/\((w∈(["figures", "blanks", "behind"]:List Str)/\ps=[])\/∃ n:Int,(w,n)∈([("row",1),("marks",1),("great",2),("as",2),("over",1),("forget",1)]:List (Str×Int))/\n<=ps.length)
noncomputable def gJ (K:PySem.W.Frag):Sp:=fun vs H Q _=>∃ (a:Addr) (ns:List Int) (k:Int),vs=[.ref a,.int k]/\C1 K H a (ns.map V.int)/\0<=k/\∀ n:Int,Q (.int n) H
theorem aj2{i:Int}(h0:0<=i)(h1:i<9):∃ w:Str,J8 [V.str "row",V.str "marks",V.str "great",V.str "as",V.str "over",V.str "forget",V.str "figures",V.str "blanks",V.str "behind"] i=some (V.str w)/\
  ((6<=i/\w∈(["figures", "blanks", "behind"]:List Str))\/(i<6/\∃ n:Int,(w,n)∈([("row",1),("marks",1),("great",2),("as",2),("over",1),("forget",1)]:List (Str×Int))/\(n<=1\/(n<=2/\(i=2\/i=3))))):=by
 have h:i=0\/i=1\/i=2\/i=3\/i=4\/i=5\/i=6\/i=7\/i=8:=by lia
 rcases h with rfl | rfl | rfl | rfl | rfl | rfl | rfl | rfl | rfl
 .exact ⟨"row",rfl,.inr ⟨by decide,1,by simp,.inl (by decide)⟩⟩
 .exact ⟨"marks",rfl,.inr ⟨by decide,1,by simp,.inl (by decide)⟩⟩
 .exact ⟨"great",rfl,.inr ⟨by decide,2,by simp,.inr ⟨by decide,.inl rfl⟩⟩⟩
 .exact ⟨"as",rfl,.inr ⟨by decide,2,by simp,.inr ⟨by decide,.inr rfl⟩⟩⟩
 .exact ⟨"over",rfl,.inr ⟨by decide,1,by simp,.inl (by decide)⟩⟩
 .exact ⟨"forget",rfl,.inr ⟨by decide,1,by simp,.inl (by decide)⟩⟩
 .exact ⟨"figures",rfl,.inl ⟨by decide,by simp⟩⟩
 .exact ⟨"blanks",rfl,.inl ⟨by decide,by simp⟩⟩
 .exact ⟨"behind",rfl,.inl ⟨by decide,by simp⟩⟩
theorem ahP(h:D3 z=true):32∉z.cps.toList:=by
 intro hm;unfold D3 at h;simp only [J7,N2] at h;exact absurd (h.2 32 hm) (by decide)
theorem Good.word{w:Str}(h:Good w ps):32∉w.cps.toList/\w.length<=7/\E2 w=true:=by
 rcases h.2.2 with ⟨hw,_⟩ | ⟨n,hw,_⟩
 .simp only [C0,L8,or_false] at hw
  rcases hw with rfl | rfl | rfl <;> decide +kernel
 .simp only [C0,L8,or_false,Prod.mk.injEq] at hw
  rcases hw with ⟨rfl,_⟩ | ⟨rfl,_⟩ | ⟨rfl,_⟩ | ⟨rfl,_⟩ | ⟨rfl,_⟩ | ⟨rfl,_⟩ <;> decide +kernel
theorem oV:∀ {ps:List Str},(∀ z∈ps,D3 z=true)->(ps.map (·.length)).sum<=2*ps.length
 | [],_=>B5 _
 | z::ps,h=>by
  have h1:=oV (ps:=ps) fun y hy=>h y (J0 _ hy)
  have h2:=(mR (h z M9)).2.2;rw [E5,List.sum_cons,E8];lia
theorem Good.sum{w:Str}(h:Good w ps):((w::ps).map (·.length)).sum<=7+2*ps.length:=by
 have h1:=oV h.2.1;have h2:=h.word.2.1;rw [E5,List.sum_cons];lia
theorem uao{w:Str}(h:Good w ps):(Str.join " " (w::ps)).length<=4000:=by
 have h1:=PySem.StrLaws.join_length_le " " (w::ps);have h2:=h.sum;have h3:=h.1;rw [show (" " : Str).length=1 from rfl,E8] at h1;lia
theorem Q8{x:Addr}{fld:Str}{v:V}(nx:H x=none)(nd:A0 H x (xm m x C) dx=none)(ne:dx≠x) :
  A0 (A0 (A0 H x (xm m x C)) x (xo m x C dx)) dx (.xd [(fld,v)]) x=some (xo m x C dx)/\Same H (K1 (A0 (A0 (A0 H x (xm m x C)) x (xo m x C dx)) dx (.xd [(fld,v)])) x)/\K1 (A0 (A0 (A0 H x (xm m x C)) x (xo m x C dx)) dx (.xd [(fld,v)])) x dx=some (.xd [(fld,v)]):=by
 rw [A7 ne] at nd;refine ⟨by rw [A7 ne.symm,A3],fun b o h=>?_,by rw [G2 ne,A3]⟩;have h1:b≠x:=F4 h nx;rw [G2 h1,A7 (F4 h nd),A7 h1,A7 h1];exact h
noncomputable def one (c:Nat):Str:=⟨#[c]⟩
noncomputable def bareL:List Str:=["figures", "blanks", "behind"]
noncomputable def fewL:List (Str×Int):=[("row",1),("marks",1),("great",2),("as",2),("over",1),("forget",1)]
noncomputable def ruleB (w:Str) (ps:List Str):Bool:=if w∈bareL then ps.isEmpty else match fewL.lookup w with
 | none=>false
 | some n=>decide (n<=ps.length)&&ps.all D3
noncomputable def oW (K:PySem.W.Frag):Sp:=fun vs H Q _=>∃ (a:Addr) (w:Str) (ps:List Str),vs=[.ref a]/\C1 K H a ((w::ps).map V.str)/\ps.length<=1000/\(∀ z∈ps,z.length<=1000)/\∀ H',Same H H'->Q (.bl (ruleB w ps)) H'
noncomputable def Reads (z w:Str) (ps:List Str):Prop:=z.length<=100000/\Txt.split z " "=w::ps/\ps.length<=1000/\∀ y∈ps,y.length<=1000
noncomputable def gK (CN:Addr):Sp:=fun vs H Q E=>∃ (x:V) (T:String),vs=[x]/\V1 H x=some T/\
 (∀ z,x=.str z->∃ w ps,Reads z w ps/\(ruleB w ps=true->∀ p H',Same H H'->H' p=some (.tup ((w::ps).map V.str))->Q (.ref p) H')/\(ruleB w ps=false->∀ dx H',Same H H'->H' dx=some (.xd [("at",.int 0)])->E (.ref CN) (some dx) H'))/\
 ((∀ z,x≠.str z)->∀ dx H',Same H H'->H' dx=some (.xd [("at",.int 0)])->E (.ref CN) (some dx) H')
noncomputable abbrev Rl:=Str×List Str
noncomputable def tupR (z:Rl):HO:=.tup ((z.1::z.2).map V.str)
structure IsRules(H:Hp)(a:Addr)(rs:List Addr)(R:List Rl):Prop where
 top:H a=some (.lst (rs.map V.ref))
 row:Paired (fun r z=>H r=some (tupR z)) rs R
theorem IsRules.same(h:IsRules H a rs R)(s:Same H H'):IsRules H' a rs R:=⟨s _ _ h.top,U8 h.row fun _ _ e=>s _ _ e⟩
noncomputable def Fine (z:Rl):Prop:=Good z.1 z.2
noncomputable def stay (w:Str):Option Nat:=if w=("row" : Str)\/w=("marks" : Str)\/w=("over" : Str) then some 0 else if w=("great" : Str) then some 1 else none
theorem Paired.append{α β:Type}{F:α->β->Prop} : ∀ {zx yt:List α} {zw yr:List β},Paired F zx zw->Paired F yt yr->Paired F (zx++yt) (zw++yr)
 | _,_,_,_,.nil,h=>h
 | _,_,_,_,.cons h t,h'=>.cons h (Paired.append t h')
theorem gL{w:Str}{n:Int} : ∀ {l:List (Str×Int)},l.lookup w=some n->(w,n)∈l
 | [],h=>by cases h
 | (a,b)::r,h=>by
  rw [List.lookup_cons] at h;cases e:w==a with
  | true=>
   rw [e] at h;cases h;rw [beq_iff_eq.mp e];exact M9
  | false=>
   rw [e] at h;exact J0 _ (gL h)
theorem oX(w:Str):valV [((Sum.inr ("row" : Str):A9),V.int 1),(Sum.inr ("marks" : Str),V.int 1),(Sum.inr ("great" : Str),V.int 2),(Sum.inr ("as" : Str),V.int 2),(Sum.inr ("over" : Str),V.int 1),(Sum.inr ("forget" : Str),V.int 1)] (Sum.inr w)=(fewL.lookup w).map V.int:=by
 by_cases h1:w="row"
 .subst h1;rfl
 by_cases h2:w="marks"
 .subst h2;rfl
 by_cases h3:w="great"
 .subst h3;rfl
 by_cases h4:w="as"
 .subst h4;rfl
 by_cases h5:w="over"
 .subst h5;rfl
 by_cases h6:w="forget"
 .subst h6;rfl
 have e:fewL.lookup w=none:=by
  cases e:fewL.lookup w with
  | none=>rfl
  | some n=>
   have:=gL e
   simp [fewL,h1,h2,h3,h4,h5,h6] at this
 rw [e];unfold valV;simp [List.find?,Ne.symm h1,Ne.symm h2,Ne.symm h3,Ne.symm h4,Ne.symm h5,Ne.symm h6]
noncomputable def nameB (z:Str):Bool:=decide (1<=z.length)&&decide (z.length<=8)&&z.cps.toList.all fun c=>decide (97<=c)&&decide (c<=122)
theorem cS(h:nameB z=true):1<=z.length/\z.length<=8/\∀ c∈z.cps.toList,97<=c/\c<=122:=by
 unfold nameB at h;simp only [J7,decide_eq_true_eq,N2] at h;exact ⟨h.1.1,h.1.2,h.2⟩
inductive Ln where
 | beg (n:Str) (e:Option Str)
 | rule (z:Rl)
noncomputable def Ln.words:Ln->List Str
 | .beg n none=>["order",n]
 | .beg n (some e)=>["order",n, "of",e]
 | .rule z=>z.1::z.2
noncomputable def Ln.text (l:Ln):Str:=Str.join " " l.words
structure Bk where
 names:List Str
 rl:Str->List Rl
 el:Str->Option Str
 nw:Option Str
noncomputable def Bk.nil:Bk:=⟨[],fun _=>[],fun _=>none,none⟩
noncomputable def Bk.step (B:Bk):Ln->Bk
 | .beg n e=>⟨B.names++[n],fun t=>if t=n then [] else B.rl t,fun t=>if t=n then e else B.el t,some n⟩
 | .rule z=>⟨B.names,fun t=>if B.nw=some t then B.rl t++[z] else B.rl t,B.el,B.nw⟩
noncomputable def Bk.Fit (B:Bk):Ln->Prop
 | .beg n e=>n∉B.names/\nameB n=true/\∀ x,e=some x->nameB x=true
 | .rule z=>B.nw≠none/\Fine z
structure Bk.Good(B:Bk)(n:Nat):Prop where
 nd:B.names.Nodup
 nw:∀ t,B.nw=some t->t∈B.names
 nm:∀ t∈B.names,nameB t=true
 fine:∀ t∈B.names,∀ z∈B.rl t,Fine z
 len:∀ t∈B.names,(B.rl t).length<=n
 cnt:B.names.length<=n
theorem Bk.Good.start:Bk.Good Bk.nil 0:=⟨by simp [Bk.nil],fun t h=>by simp [Bk.nil] at h,fun t h=>by simp [Bk.nil] at h,fun t h=>by simp [Bk.nil] at h,fun t h=>by simp [Bk.nil] at h,by simp [Bk.nil]⟩
theorem Bk.Good.step{B:Bk}(g:B.Good n){l:Ln}(h:B.Fit l):(B.step l).Good (n+1):=by
 cases l with
 | beg m e=>
  obtain ⟨h1,h2,h3⟩:=h;have hm:∀ t,t∈B.names++[m]->t∈B.names/\t≠m\/t=m:=fun t ht=>by
   rcases N3.mp ht with h | h
   .exact .inl ⟨h,fun e=>h1 (by rw [<- e];exact h)⟩
   .exact .inr (Q1.mp h)
  refine ⟨?_,fun t ht=>?_,fun t ht=>?_,fun t ht=>?_,fun t ht=>?_,?_⟩
  .show (B.names++[m]).Nodup;rw [List.nodup_append];refine ⟨g.nd,by simp,fun a ha b hb e=>h1 ?_⟩;rw [<- Q1.mp hb,<- e];exact ha
  .have:m=t:=by simpa [Bk.step] using ht
   subst this;show m∈B.names++[m]
   simp
  .rcases hm t ht with ⟨h4,_⟩ | rfl
   .exact g.nm t h4
   .exact h2
  .show ∀ z∈(if t=m then [] else B.rl t),Fine z
   rcases hm t ht with ⟨h4,h5⟩ | rfl
   .rw [if_neg h5];exact g.fine t h4
   .rw [if_pos rfl];simp
  .show (if t=m then [] else B.rl t).length<=n+1
   rcases hm t ht with ⟨h4,h5⟩ | rfl
   .rw [if_neg h5];have:=g.len t h4;lia
   .rw [if_pos rfl];simp
  .show (B.names++[m]).length<=n+1;rw [K3,Y8]
   have:=g.cnt
   lia
 | rule z=>
  obtain ⟨h1,h2⟩:=h;refine ⟨g.nd,g.nw,g.nm,fun t ht=>?_,fun t ht=>?_,Nat.le_succ_of_le g.cnt⟩
  .show ∀ y∈(if B.nw=some t then B.rl t++[z] else B.rl t),Fine y
   split
   .intro y hy
    rcases N3.mp hy with h | h
    .exact g.fine t ht y h
    .rw [Q1.mp h];exact h2
   .exact g.fine t ht
  .show (if B.nw=some t then B.rl t++[z] else B.rl t).length<=n+1
   have:=g.len t ht
   split
   .rw [K3,Y8];lia
   .lia
structure DR(H0 H:Hp)(ts:List Str)(ad:Str->Addr)(as:Str->List Addr)(F:Str->List Rl):Prop where
 row:∀ t∈ts,IsRules H (ad t) (as t) (F t)
 inj:∀ t∈ts,∀ u∈ts,ad t=ad u->t=u
 new:∀ t∈ts,H0 (ad t)=none
theorem DR.same{ad:Str->Addr}{as:Str->List Addr}{F:Str->List Rl}(x:DR H0 H ts ad as F)(s:Same H H'):DR H0 H' ts ad as F:=⟨fun t h=>(x.row t h).same s,x.inj,x.new⟩
theorem DR.nil(H0 H:Hp)(ad:Str->Addr)(as:Str->List Addr)(F:Str->List Rl):DR H0 H [] ad as F:=⟨fun t h=>(by cases h),fun t h=>(by cases h),fun t h=>(by cases h)⟩
theorem oY{v:HO}(h:IsRules H a rs R)(v1:a≠b)(hb:∀ z:Rl,H b≠some (tupR z)):IsRules (A0 H b v) a rs R:=by
 refine ⟨by rw [A7 v1];exact h.top,U8 h.row fun r z e=>?_⟩;rw [A7 (fun q=>hb z (by rw [<- q];exact e))];exact e
theorem DR.put{ad:Str->Addr}{as:Str->List Addr}{F:Str->List Rl}(x:DR H0 H ts ad as F){v:HO}(hn:∀ t∈ts,ad t≠b)(hb:∀ z:Rl,H b≠some (tupR z)):DR H0 (A0 H b v) ts ad as F:=
 ⟨fun t h=>oY (x.row t h) (hn t h) hb,x.inj,x.new⟩
theorem DR.congr{ad:Str->Addr}{as:Str->List Addr}{F G:Str->List Rl}(x:DR H0 H ts ad as F)(h:∀ t∈ts,F t=G t):DR H0 H ts ad as G:=⟨fun t ht=>by rw [<- h t ht];exact x.row t ht,x.inj,x.new⟩
theorem DR.base{ad:Str->Addr}{as:Str->List Addr}{F:Str->List Rl}(x:DR H0 H ts ad as F)(s:Same H1 H0):DR H1 H ts ad as F:=⟨x.row,x.inj,fun t ht=>s.free (x.new t ht)⟩
theorem DR.app{ad:Str->Addr}{as:Str->List Addr}{F:Str->List Rl}(x:DR H0 H ts ad as F)(hz:z∈ts){ru:Rl}(hr:H r=some (tupR ru)) :
  DR H0 (A0 H (ad z) (.lst ((as z).map V.ref++[.ref r]))) ts ad (fun t=>if t=z then as z++[r] else as t) fun t=>if t=z then F z++[ru] else F t:=by
 have hl:∀ y:Rl,H (ad z)≠some (tupR y):=fun y e=>by rw [(x.row z hz).top] at e;cases e
 refine ⟨fun t ht=>?_,x.inj,x.new⟩;show IsRules _ (ad t) (if t=z then as z++[r] else as t) (if t=z then F z++[ru] else F t)
 by_cases e:t=z
 .subst e;rw [if_pos rfl,if_pos rfl];refine ⟨by rw [A3,M2];rfl,Paired.append (U8 (x.row t ht).row fun q y e=>?_) (.cons ?_ .nil)⟩
  .rw [A7 (fun w=>hl y (by rw [<- w];exact e))];exact e
  .rw [A7 (fun w=>hl ru (by rw [<- w];exact hr))];exact hr
 .rw [if_neg e,if_neg e];exact oY (x.row t ht) (fun w=>e (x.inj t ht z hz w)) hl
theorem DR.more{ad:Str->Addr}{as:Str->List Addr}{F:Str->List Rl}(x:DR H0 H ts ad as F)(hz:z∉ts)(np:H p=none)(n0:H0 p=none) :
  DR H0 (A0 H p (.lst [])) (ts++[z]) (fun t=>if t=z then p else ad t) (fun t=>if t=z then [] else as t) fun t=>if t=z then [] else F t:=by
 have ne:∀ t∈ts,t≠z:=fun t ht e=>hz (by rw [<- e];exact ht)
 have nad:∀ t∈ts,ad t≠p:=fun t ht e=>by have:=(x.row t ht).top;rw [e,np] at this;cases this
 have cases':∀ t,t∈ts++[z]->(t∈ts/\t≠z)\/t=z:=fun t ht=>by
  rcases N3.mp ht with h | h
  .exact .inl ⟨h,ne t h⟩
  .exact .inr (Q1.mp h)
 refine ⟨fun t ht=>?_,fun t ht u hu e=>?_,fun t ht=>?_⟩
 .show IsRules _ (if t=z then p else ad t) (if t=z then [] else as t) (if t=z then [] else F t)
  rcases cases' t ht with ⟨h1,h2⟩ | rfl
  .rw [if_neg h2,if_neg h2,if_neg h2];exact (x.row t h1).same (Same.new np)
  .rw [if_pos rfl,if_pos rfl,if_pos rfl];exact ⟨by rw [A3];rfl,.nil⟩
 .have e:(if t=z then p else ad t)=(if u=z then p else ad u):=e
  rcases cases' t ht with ⟨h1,h2⟩ | rfl <;> rcases cases' u hu with ⟨h3,h4⟩ | rfl
  .rw [if_neg h2,if_neg h4] at e;exact x.inj t h1 u h3 e
  .rw [if_neg h2,if_pos rfl] at e;exact absurd e (nad t h1)
  .rw [if_pos rfl,if_neg h4] at e;exact absurd e.symm (nad u h3)
  .rfl
 .show H0 (if t=z then p else ad t)=none
  rcases cases' t ht with ⟨h1,h2⟩ | rfl
  .rw [if_neg h2];exact x.new t h1
  .rw [if_pos rfl];exact n0
noncomputable def flds (o e:Addr) (nw:V) (n:Int):List (Str×V):=[("own",.ref o),("elders",.ref e),("newest",nw),("length",.int n)]
structure BookAt(C:Addr)(H0 H:Hp)(b dx o e:Addr)(B:Bk)(ad:Str->Addr)(as:Str->List Addr)(n:Int):Prop where
 obj:H b=some (.ins C dx (flds o e (orNon B.nw) n))
 own:H o=some (.dK (D7 B.names fun t=>.ref (ad t)))
 eld:H e=some (.dK (D7 (B.names.filter fun t=>(B.el t).isSome) fun t=>.str ((B.el t).getD "")))
 dr:DR H0 H B.names ad as B.rl
 nb:H0 b=none
 no:H0 o=none
 ne:H0 e=none
 oe:o≠e
 same:Same H0 H
theorem BookAt.keep{o:Addr}{B:Bk}{ad:Str->Addr}{as:Str->List Addr}{n:Int}(x:BookAt C H0 H b dx o e B ad as n)(s:Same H H'):BookAt C H0 H' b dx o e B ad as n:=
 ⟨s _ _ x.obj,s _ _ x.own,s _ _ x.eld,x.dr.same s,x.nb,x.no,x.ne,x.oe,x.same.trans s⟩
theorem BookAt.base{o:Addr}{B:Bk}{ad:Str->Addr}{as:Str->List Addr}{n:Int}(x:BookAt C H0 H b dx o e B ad as n)(s:Same H1 H0):BookAt C H1 H b dx o e B ad as n:=
 ⟨x.obj,x.own,x.eld,x.dr.base s,s.free x.nb,s.free x.no,s.free x.ne,x.oe,s.trans x.same⟩
noncomputable def LnOk:Ln->Prop
 | .beg n e=>nameB n=true/\∀ x,e=some x->nameB x=true
 | .rule z=>Fine z
noncomputable def oZ:Sp:=fun vs H Q _=>∃ z:Str,vs=[.str z]/\z.length<=100000/\∀ H',Same H H'->Q (.bl (nameB z)) H'
noncomputable def gM (C:Addr):Sp:=fun vs H Q _=>∃ (b dx o e:Addr) (H0:Hp) (B:Bk) (ad:Str->Addr) (as:Str->List Addr) (k:Int),vs=[.ref b]/\BookAt C H0 H b dx o e B ad as k/\B.Good 1000/\
 ∀ l H',H l=none->Same H H'->H' l=some (.lst (B.names.map V.str))->Q (.ref l) H'
theorem gN{x:Nat} : ∀ {zs:List Str},x∈joinN c zs->x=c\/∃ z∈zs,x∈z.cps.toList
 | [],h=>by cases h
 | [z],h=>.inr ⟨z,M9,h⟩
 | z::y::r,h=>by
  have h:x∈z.cps.toList++c::joinN c (y::r):=h
  rcases N3.mp h with h | h
  .exact .inr ⟨z,M9,h⟩
  .rcases C0.mp h with h | h
   .exact .inl h
   .rcases gN (zs:=y::r) h with h | ⟨w,h1,h2⟩
    .exact .inl h
    .exact .inr ⟨w,J0 _ h1,h2⟩
theorem gO:(" " : Str)=⟨#[32]⟩:=by decide +kernel
theorem pA:("\n" : Str)=⟨#[10]⟩:=by decide +kernel
theorem cT{l:Ln}(h:LnOk l):∀ z∈l.words,0<z.length/\z.length<=10/\∀ c∈z.cps.toList,33<=c:=by
 have nm:∀ {z:Str},nameB z=true->0<z.length/\z.length<=10/\∀ c∈z.cps.toList,33<=c:=fun hz=>by
  obtain ⟨h1,h2,h3⟩:=cS hz;exact ⟨h1,by lia,fun c hc=>by have:=h3 c hc;lia⟩
 have od:0<("order" : Str).length/\("order" : Str).length<=10/\∀ c∈("order" : Str).cps.toList,33<=c:=by decide +kernel
 have of':0<("of" : Str).length/\("of" : Str).length<=10/\∀ c∈("of" : Str).cps.toList,33<=c:=by decide +kernel
 cases l with
 | beg n e=>
  cases e with
  | none=>
   intro z hz;simp only [Ln.words,C0,L8,or_false] at hz
   rcases hz with rfl | rfl
   .exact od
   .exact nm h.1
  | some x=>
   intro z hz;simp only [Ln.words,C0,L8,or_false] at hz
   rcases hz with rfl | rfl | rfl | rfl
   .exact od
   .exact nm h.1
   .exact of'
   .exact nm (h.2 _ rfl)
 | rule r=>
  have h:Fine r:=h;intro z hz
  rcases C0.mp hz with rfl | hz
  .rcases h.2.2 with ⟨hw,_⟩ | ⟨n,hw,_⟩
   .simp only [C0,L8,or_false] at hw
    rcases hw with hw | hw | hw <;> rw [hw] <;> decide +kernel
   .simp only [C0,L8,or_false,Prod.mk.injEq] at hw
    rcases hw with ⟨hw,_⟩ | ⟨hw,_⟩ | ⟨hw,_⟩ | ⟨hw,_⟩ | ⟨hw,_⟩ | ⟨hw,_⟩ <;> rw [hw] <;> decide +kernel
  .have hp:=h.2.1 z hz;have h2:=mR hp;unfold D3 at hp;simp only [J7,N2,decide_eq_true_eq] at hp;refine ⟨by lia,by lia,fun c hc=>?_⟩
   have:=hp.2 c hc
   unfold signB at this;simp only [J7,decide_eq_true_eq] at this;lia
theorem Ln.words_ne(l:Ln):∃ w ws,l.words=w::ws:=by
 cases l with
 | beg n e=>cases e <;> exact ⟨_,_,rfl⟩
 | rule z=>exact ⟨_,_,rfl⟩
theorem Ln.split{l:Ln}(h:LnOk l):Txt.split l.text " "=l.words:=by
 unfold Ln.text;rw [gO];refine fQ (by decide) ?_ fun z hz hm=>?_
 .obtain ⟨w,ws,e⟩:=l.words_ne;rw [e];simp
 .have:=(cT h z hz).2.2 32 hm
  lia
theorem uae{l:Ln}(h:LnOk l):l.words.length<=1001:=by
 cases l with
 | beg n e=>cases e <;> simp [Ln.words]
 | rule z=>
  have h:Fine z:=h;show (z.1::z.2).length<=1001;rw [E8];exact Nat.succ_le_succ h.1
theorem Ln.len{l:Ln}(h:LnOk l):l.text.length<=4000:=by
 cases l with
 | beg n e=>
  have hs:=cT h;have h1:=PySem.StrLaws.join_length_le " " (Ln.beg n e).words;rw [show (" " : Str).length=1 from rfl] at h1;have h2:((Ln.beg n e).words.map (·.length)).sum<=40:=by
   cases e with
   | none=>
    have a1:=(hs "order" (by simp [Ln.words])).2.1;have a2:=(hs n (by simp [Ln.words])).2.1;simp [Ln.words] at a1 ⊢
    lia
   | some x=>
    have a1:=(hs "order" (by simp [Ln.words])).2.1;have a2:=(hs n (by simp [Ln.words])).2.1;have a3:=(hs "of" (by simp [Ln.words])).2.1;have a4:=(hs x (by simp [Ln.words])).2.1;simp [Ln.words] at a1 a3 ⊢
    lia
  have h3:(Ln.beg n e).words.length<=4:=by cases e <;> simp [Ln.words]
  unfold Ln.text;lia
 | rule z=>
  have h:Fine z:=h;exact uao h
theorem pB{l:Ln}(h:LnOk l):10∉l.text.cps.toList:=fun hm=>by
 unfold Ln.text at hm;rw [gO,z6] at hm
 rcases gN hm with h1 | ⟨z,h1,h2⟩
 .lia
 .have:=(cT h z h1).2.2 10 h2
  lia
theorem cU(o e:Addr)(nw:V)(n:Int):(flds o e nw n).lookup (Str.ofString "own")=some (.ref o):=by rfl
theorem alA(o e:Addr)(nw:V)(n:Int):(flds o e nw n).lookup (Str.ofString "elders")=some (.ref e):=by rfl
theorem pC(o e:Addr)(nw:V)(n:Int):(flds o e nw n).lookup (Str.ofString "newest")=some nw:=by rfl
theorem gP(o e:Addr)(nw:V)(n:Int):(flds o e nw n).lookup (Str.ofString "length")=some (.int n):=by rfl
theorem alB(o e:Addr)(nw y:V)(n:Int):putF (Str.ofString "newest") y (flds o e nw n)=flds o e y n:=by rfl
theorem alC(o e:Addr)(nw:V)(n m:Int):putF (Str.ofString "length") (.int m) (flds o e nw n)=flds o e nw m:=by rfl
theorem BookAt.tick{o:Addr}{B:Bk}{ad:Str->Addr}{as:Str->List Addr}{n:Int}(x:BookAt C H0 H b dx o e B ad as n)(m:Int):BookAt C H0 (A0 H b (.ins C dx (flds o e (orNon B.nw) m))) b dx o e B ad as m:=by
 have hb:=x.obj;refine ⟨A3,?_,?_,x.dr.put (fun t ht z=>?_) (fun z w=>by rw [hb] at w;cases w),x.nb,x.no,x.ne,x.oe,x.same.put x.nb⟩
 .rw [A7 (fun z=>by rw [<- z,x.own] at hb;cases hb)];exact x.own
 .rw [A7 (fun z=>by rw [<- z,x.eld] at hb;cases hb)];exact x.eld
 .have:=(x.dr.row t ht).top
  rw [z,hb] at this
  cases this
theorem Bk.Good.mono{B:Bk}(g:B.Good n)(h:n<=m):B.Good m:=⟨g.nd,g.nw,g.nm,g.fine,fun t ht=>C3 (g.len t ht) h,C3 g.cnt h⟩
theorem ahQ{el:Str->Option Str}{n:Str}(h:n∉ns):((ns++[n]).filter fun t=>(if t=n then none else el t).isSome)=ns.filter fun t=>(el t).isSome:=by
 rw [List.filter_append];have e1:([n].filter fun t=>(if t=n then none else el t).isSome)=[]:=by simp
 rw [e1,d9];exact List.filter_congr fun t ht=>by rw [if_neg (fun e=>h (by rw [<- e];exact ht))]
theorem ahR{el:Str->Option Str}{n:Str}(h:n∉ns):((ns++[n]).filter fun t=>(if t=n then some x else el t).isSome)=(ns.filter fun t=>(el t).isSome)++[n]:=by
 rw [List.filter_append];have e1:([n].filter fun t=>(if t=n then some x else el t).isSome)=[n]:=by simp
 rw [e1]
 congr 1
 exact List.filter_congr fun t ht=>by rw [if_neg (fun e=>h (by rw [<- e];exact ht))]
noncomputable def LT:Str:=Str.ofString "abcdefghijklmnopqrstuvwxyz"
theorem LT_eq:LT.cps.toList=(R4 26).map (97 + ·):=by decide +kernel
theorem cV:LT.length<=sizeLine:=by decide +kernel
theorem LT_at{i:Int}(h0:0<=i)(h1:i<26):J8 LT.cps.toList i=some (97+i.toNat):=by
 rw [LT_eq,show i=((i.toNat:Nat):Int) by lia];refine N5 ?_;rw [Q2,List.getElem?_range (by lia)];rfl
theorem pD{n:Int}(h0:0<=n)(h1:n<=3):MulOk ⟨#[c]⟩ n/\(Txt.mul ⟨#[c]⟩ n).length<=3/\∀ x∈(Txt.mul ⟨#[c]⟩ n).cps.toList,x=c:=by
 have h:n=0\/n=1\/n=2\/n=3:=by lia
 have l1:(⟨#[c]⟩:Str).length=1:=rfl
 rcases h with rfl | rfl | rfl | rfl
 .exact ⟨⟨by decide,fun h=>absurd (by decide) h,fun h=>absurd (by decide) h⟩,by show 0<=3;decide,fun x hx=>by simp [Txt.mul,Str.empty] at hx⟩
 .exact ⟨⟨by decide,fun _ h=>by simp at h,fun _ h=>by simp at h⟩,by show 1<=3;decide,fun x hx=>by simpa [Txt.mul] using hx⟩
 .refine ⟨⟨by decide,fun _ _=>by rw [l1];decide,fun _ _=>by rw [l1];decide⟩,by show 2<=3;decide,fun x hx=>?_⟩
  have:x∈[c,c]:=hx
  simpa using this
 .refine ⟨⟨by decide,fun _ _=>by rw [l1];decide,fun _ _=>by rw [l1];decide⟩,by show 3<=3;decide,fun x hx=>?_⟩
  have:x∈[c,c,c]:=hx
  simpa using this
theorem ahS{n:Int}{k:Nat}(hj:j<60)(hk:k<60)(e3:97+((n+7*j) % 676 / 26).toNat=97+((n+7*k) % 676 / 26).toNat/\97+((n+7*j) % 676 % 26).toNat=97+((n+7*k) % 676 % 26).toNat):j=k:=by
 have h1:(n+7*j) % 676=(n+7*k) % 676:=by
  generalize hx:(n+7*j) % 676=x at e3;generalize hy:(n+7*k) % 676=y at e3;have sD:0<=x:=by rw [<- hx];exact Z0 _ (by decide)
  have hy0:0<=y:=by rw [<- hy];exact Z0 _ (by decide)
  clear hx hy;have a1:x / 26=y / 26:=by lia
  have a2:x % 26=y % 26:=by lia
  have b1:=bS x 26;have b2:=bS y 26;lia
 have c1:=bS (n+7*j) 676;have c2:=bS (n+7*k) 676;rw [h1] at c1;generalize (n+7*(j:Int)) / 676=u at c1;generalize (n+7*(k:Int)) / 676=v at c2;generalize (n+7*(k:Int)) % 676=w at c1 c2;lia
theorem aj3{x:Int}(h0:0<=x)(h1:x<676):97<=97+(x / 26).toNat/\97+(x / 26).toNat<=122/\97<=97+(x % 26).toNat/\97+(x % 26).toNat<=122:=by lia
noncomputable def T5 (A Z:Str) (n:Int) (k:Nat):Str:=A++(⟨#[97+((n+7*k) % 676 / 26).toNat]⟩++⟨#[97+((n+7*k) % 676 % 26).toNat]⟩)++Z
theorem gQ(A Z:Str)(n:Int)(k:Nat):(T5 A Z n k).cps.toList=A.cps.toList++([97+((n+7*k) % 676 / 26).toNat,97+((n+7*k) % 676 % 26).toNat]++Z.cps.toList):=by
 unfold T5;simp only [Str.cps_append,Array.toList_append,List.append_assoc];rfl
theorem aj4{A:Str}{n:Int}{k:Nat}(hj:j<60)(hk:k<60)(h:T5 A Z n j=T5 A Z n k):j=k:=by
 have e:=congrArg (fun z:Str=>z.cps.toList) h;simp only [gQ] at e;have e2:=List.append_cancel_left e;have e3:=List.append_cancel_right e2;simp only [List.cons.injEq,and_true] at e3;exact ahS hj hk e3
theorem ahT{A:Str}(hA:A.length<=3)(hZ:Z.length<=3)(hA2:∀ x∈A.cps.toList,97<=x/\x<=122)(hZ2:∀ x∈Z.cps.toList,97<=x/\x<=122)(n:Int)(k:Nat):nameB (T5 A Z n k)=true:=by
 have hl:(T5 A Z n k).length=A.length+2+Z.length:=by
  have e:(T5 A Z n k).length=(T5 A Z n k).cps.toList.length:=by simp [Str.length]
  rw [e,gQ];simp [Str.length];lia
 unfold nameB;rw [decide_eq_true (by lia),decide_eq_true (by lia),gQ,Bool.true_and,Bool.true_and,N2];intro x hx;have key:97<=x/\x<=122:=by
  rcases N3.mp hx with h | h
  .exact hA2 x h
  .rcases N3.mp h with h | h
   .simp only [C0,L8,or_false] at h;have az:=aj3 (x:=(n+7*k) % 676) (Z0 _ (by decide)) (x3 _ (by decide))
    rcases h with rfl | rfl
    .exact ⟨az.1,az.2.1⟩
    .exact ⟨az.2.2.1,az.2.2.2⟩
   .exact hZ2 x h
 rw [decide_eq_true key.1,decide_eq_true key.2];rfl
theorem agu(A Z:Str)(n:Int):((R4 60).map (T5 A Z n)).Nodup:=by
 rw [List.nodup_iff_pairwise_ne,List.pairwise_map];refine List.Pairwise.imp_of_mem (fun {x y} hx hy L7 e=>?_) (List.nodup_iff_pairwise_ne.mp List.nodup_range);rw [List.mem_range] at hx hy;exact L7 (aj4 hx hy e)
theorem pickG{c1 c2:Prop}[Decidable c1][Decidable c2]{X zy Z G:Prop}(g:G) :
  if decide c1=true then (if decide False=true then X else if decide c2=true then (if decide False=true then zy else G) else G) else if decide c2=true then (if decide False=true then Z else G) else G:=
 iteD (fun _=>iteD (fun h=>h.elim) fun _=>iteD (fun _=>iteD (fun h=>h.elim) fun _=>g) fun _=>g) fun _=>iteD (fun _=>iteD (fun h=>h.elim) fun _=>g) fun _=>g
theorem ahU(n:Str):Str.ofString "order "++n=(Ln.beg n none).text:=by
 show _=Str.ofString "order"++Str.ofString " "++n;rw [show Str.ofString "order"++Str.ofString " "=Str.ofString "order " by decide +kernel]
theorem agv(n x:Str):Str.ofString "order "++n++Str.ofString " of "++x=(Ln.beg n (some x)).text:=by
 show _=Str.ofString "order"++Str.ofString " "++(n++Str.ofString " "++(Str.ofString "of"++Str.ofString " "++x));rw [show Str.ofString "order"++Str.ofString " "=Str.ofString "order " by decide +kernel,show Str.ofString " of "=Str.ofString " "++(Str.ofString "of"++Str.ofString " ") by decide +kernel];simp only [Str.append_assoc]
noncomputable def gR (K:PySem.W.Frag) (C:Addr) (fld:Str):Sp:=fun vs H Q _=>∃ m x z f,vs=[.ref x,.str z]/\H x=some (xm m x C)/\ErrC K C f/\NoAttr K C fld/\z.length<=1000/\E2 z=true/\∀ dx,H dx=none->dx≠x->Q .non (A0 (A0 H x (xo m x C dx)) dx (.xd [(fld,.str z)]))
theorem ael(h:nameB z=true):alu z:=by
 unfold nameB at h;simp only [J7,decide_eq_true_eq] at h;refine ⟨by lia,?_⟩;unfold E2;rw [bR];intro c hc
 have:=N2.mp h.2 c (p0.mpr hc)
 simp only [J7,decide_eq_true_eq] at this;simp only [decide_eq_true_eq];lia
noncomputable def gS (C CN:Addr):Sp:=fun vs H Q E=>∃ (b dx o e:Addr) (z w:Str) (ps:List Str) (H0:Hp) (B:Bk) (ad:Str->Addr) (as:Str->List Addr) (k:Nat),vs=[.ref b,.str z]/\BookAt C H0 H b dx o e B ad as k/\Reads z w ps/\B.Good 1000/\k<1000/\
 (B.nw≠none->ruleB w ps=true->∀ ad' as' H',BookAt C H0 H' b dx o e (B.step (.rule (w,ps))) ad' as' k->Q .non H')/\
 (B.nw=none\/ruleB w ps=false->∀ dx' H',Same H H'->H' dx'=some (.xd [("at",.int k)])->E (.ref CN) (some dx') H')
noncomputable def begB (w:Str):List Str->Option (Str×Option Str)
 | [n]=>if w="order"/\nameB n=true then some (n,none) else none
 | [n,f,e]=>if w="order"/\nameB n=true/\f="of"/\nameB e=true then some (n,some e) else none
 | _=>none
theorem gT(w n:Str):begB w [n]=if w="order"/\nameB n=true then some (n,none) else none:=rfl
theorem gU(w n f e:Str):begB w [n,f,e]=if w="order"/\nameB n=true/\f="of"/\nameB e=true then some (n,some e) else none:=rfl
theorem gW{w:Str}{n:Str}{x:Option Str}(h:begB w ps=some (n,x)):w::ps=(Ln.beg n x).words/\LnOk (.beg n x):=by
 rcases ps with _ | ⟨n',_ | ⟨f,_ | ⟨e,_ | ⟨g,r⟩⟩⟩⟩
 .cases h
 .rw [gT] at h
  by_cases hc:w="order"/\nameB n'=true
  .rw [if_pos hc] at h;obtain ⟨rfl,rfl⟩:=Prod.mk.inj (Option.some.inj h);rw [hc.1];exact ⟨rfl,hc.2,fun x hx=>by cases hx⟩
  .rw [if_neg hc] at h;cases h
 .cases h
 .rw [gU] at h
  by_cases hc:w="order"/\nameB n'=true/\f="of"/\nameB e=true
  .rw [if_pos hc] at h;obtain ⟨rfl,rfl⟩:=Prod.mk.inj (Option.some.inj h);rw [hc.1,hc.2.2.1];exact ⟨rfl,hc.2.1,fun x hx=>by cases hx;exact hc.2.2.2⟩
  .rw [if_neg hc] at h;cases h
 .cases h
theorem pE{w:Str}(h:w≠"order"):begB w ps=none:=by
 cases e:begB w ps with
 | none=>rfl
 | some p=>
  obtain ⟨n,x⟩:=p
  have:=(gW e).1
  cases x <;> exact absurd (List.cons.inj this).1 h
noncomputable def pF (K:PySem.W.Frag):Sp:=fun vs H Q _=>∃ (a:Addr) (w:Str) (ps:List Str),vs=[.ref a]/\H a=some (.lst ((w::ps).map V.str))/\ps.length<=1000/\(∀ z∈ps,z.length<=1000)/\∀ H',Same H H'->Q (.bl (begB w ps).isSome) H'
noncomputable def gX (C CT:Addr):Sp:=fun vs H Q E=>∃ (b w dx o e:Addr) (n:Str) (x:Option Str) (H0:Hp) (B:Bk) (ad:Str->Addr) (as:Str->List Addr) (k:Int),vs=[.ref b,.ref w]/\H w=some (.lst ((Ln.beg n x).words.map V.str))/\BookAt C H0 H b dx o e B ad as k/\LnOk (.beg n x)/\B.Good 1000/\
 (n∉B.names->∀ ad' as' H',BookAt C H0 H' b dx o e (B.step (.beg n x)) ad' as' k->Q .non H')/\(n∈B.names->∀ dx' H',Same H H'->H' dx'=some (.xd [("name",.str n)])->E (.ref CT) (some dx') H')
noncomputable def N8 (B:Bk) (w:Str) (ps:List Str):Option Bk:=match begB w ps with
 | some nx=>if nx.1∈B.names then none else some (B.step (.beg nx.1 nx.2))
 | none=>if B.nw=none\/ruleB w ps=false then none else some (B.step (.rule (w,ps)))
noncomputable def gY (C CN CT:Addr):Sp:=fun vs H Q E=>∃ (b dx o e:Addr) (z w:Str) (ps:List Str) (H0:Hp) (B:Bk) (ad:Str->Addr) (as:Str->List Addr) (k:Nat),vs=[.ref b,.str z]/\BookAt C H0 H b dx o e B ad as k/\Reads z w ps/\B.Good 1000/\k<1000/\
 (∀ B',N8 B w ps=some B'->∀ ad' as' H',BookAt C H0 H' b dx o e B' ad' as' ((k:Int)+1)->Q .non H')/\
 (∀ nx,begB w ps=some nx->nx.1∈B.names->∀ dx' H',Same H H'->H' dx'=some (.xd [("name",.str nx.1)])->E (.ref CT) (some dx') H')/\
 (begB w ps=none->(B.nw=none\/ruleB w ps=false)->∀ dx' H',Same H H'->H' dx'=some (.xd [("at",.int k)])->E (.ref CN) (some dx') H')
noncomputable def G4 (W:Str->Str×List Str) (zs:List Str):Nat->Option Bk
 | 0=>some Bk.nil
 | i+1=>match G4 W zs i,zs[i]? with
  | some B,some z=>N8 B (W z).1 (W z).2
  | _,_=>none
theorem agA{w:Str}(hl:ps.length<=1000)(h:ruleB w ps=true):Fine (w,ps):=by
 unfold ruleB at h
 by_cases hw:w∈bareL
 .rw [if_pos hw] at h
  have:ps=[]:=by simpa using h
  subst this;exact ⟨by simp,by simp,.inl ⟨hw,rfl⟩⟩
 .rw [if_neg hw] at h;cases e:fewL.lookup w with
  | none=>rw [e] at h;cases h
  | some n=>
   rw [e] at h;have h:(decide (n<=(ps.length:Int))&&ps.all D3)=true:=h;rw [J7,decide_eq_true_eq,N2] at h;exact ⟨hl,h.2,.inr ⟨n,gL e,h.1⟩⟩
theorem pG{B B':Bk}{w:Str}(g:B.Good n)(hr:Reads z w ps)(h:N8 B w ps=some B'):B'.Good (n+1):=by
 unfold N8 at h;cases hb:begB w ps with
 | some nx=>
  rw [hb] at h;have h:(if nx.1∈B.names then none else some (B.step (.beg nx.1 nx.2)))=some B':=h
  by_cases M7:nx.1∈B.names
  .rw [if_pos M7] at h;cases h
  .rw [if_neg M7] at h;obtain rfl:=Option.some.inj h;exact g.step ⟨M7,(gW (n:=nx.1) (x:=nx.2) hb).2⟩
 | none=>
  rw [hb] at h;have h:(if B.nw=none\/ruleB w ps=false then none else some (B.step (.rule (w,ps))))=some B':=h
  by_cases hc:B.nw=none\/ruleB w ps=false
  .rw [if_pos hc] at h;cases h
  .rw [if_neg hc] at h;obtain rfl:=Option.some.inj h;exact g.step ⟨fun q=>hc (.inl q),agA hr.2.2.1 (by cases e:ruleB w ps with | true=>rfl | false=>exact absurd (.inr e) hc)⟩
noncomputable def spBIX (C CN CT:Addr):Sp:=fun vs H Q E=>∃ (b dx:Addr) (T:Str) (zs:List Str) (W:Str->Str×List Str) (H0:Hp),vs=[.ref b,.str T]/\H=A0 (A0 H0 dx (.own b)) b (.ins C dx [])/\H0 b=none/\H0 dx=none/\dx≠b/\
 (T.length=0\/(0<T.length/\T.length<=900000/\zs.length<=200/\zs≠[]/\T=Str.join "\n" zs/\∀ z∈zs,Reads z (W z).1 (W z).2/\10∉z.cps.toList))/\
 (T.length=0->∀ o e ad as H',BookAt C H0 H' b dx o e Bk.nil ad as 0->Q .non H')/\(∀ B,G4 W zs zs.length=some B->∀ o e ad as H',BookAt C H0 H' b dx o e B ad as zs.length->Q .non H')/\
 (∀ i z B nx,zs[i]?=some z->G4 W zs i=some B->begB (W z).1 (W z).2=some nx->nx.1∈B.names->∀ dx' H',Same H0 H'->H' dx'=some (.xd [("name",.str nx.1)])->E (.ref CT) (some dx') H')/\
 (∀ i z B,zs[i]?=some z->G4 W zs i=some B->begB (W z).1 (W z).2=none->(B.nw=none\/ruleB (W z).1 (W z).2=false)->∀ dx' H',Same H0 H'->H' dx'=some (.xd [("at",.int i)])->E (.ref CN) (some dx') H')
noncomputable def pH:Sp:=fun vs H Q _=>∃ c m:Int,vs=[.int c,.int m]/\0<=m/\m<=1000/\
 ∀ l (ps:List Str) H',H l=none->Same H H'->H' l=some (.lst (ps.map V.str))->ps.length=m.toNat->(∀ z∈ps,D3 z=true)->Q (.ref l) H'
noncomputable def gZ:Sp:=fun vs H Q _=>∃ (c:Int) (b:Addr) (ps:List Str),vs=[.int c,.ref b]/\H b=some (.lst (ps.map V.str))/\ps≠[]/\ps.length<=1000/\(∀ z∈ps,D3 z=true)/\
 ∀ r z H',Same H H'->H' r=some (tupR z)->Fine z->Q (.ref r) H'
noncomputable def pI:Sp:=fun vs H Q _=>∃ n:Int,vs=[.int n,.int 60]/\0<=n/\n<2147483648/\∀ l (nms:List Str) H',H l=none->Same H H'->H' l=some (.lst (nms.map V.str))->nms.length=60->nms.Nodup->(∀ z∈nms,nameB z=true)->Q (.ref l) H'
noncomputable def BADS:List Str:=["", "order", "order A", "order a b", "order  a", "order abcdefghi", "order a of", "order a of B", "order a of b c", "order a of b ", " row a", "row", "row a  b", "figures a", "rows a b", "order a1", "order a  of b", "Order a", "order ", "order a in b", "order a of abcdefghi", "great a", "row abc", " "]
noncomputable def wdsOf (z:Str):Str×List Str:=((Txt.split z " ").headD "",(Txt.split z " ").tail)
theorem ahV:(BADS.all fun z=>decide (z.length<=30)&&(begB (wdsOf z).1 (wdsOf z).2).isNone && !(ruleB (wdsOf z).1 (wdsOf z).2) && !(decide (10∈z.cps.toList))&&decide ((wdsOf z).2.length<=30) && !((Txt.split z " ").isEmpty)&&(wdsOf z).2.all fun y=>decide (y.length<=30))=true:=by decide +kernel
noncomputable def pJ:Sp:=fun vs H Q _=>∃ n:Int,vs=[.int n]/\∀ z H',z∈BADS->Same H H'->Q (.str z) H'
theorem uaa{l:Ln}(h:LnOk l):∀ z∈l.words,∀ c∈z.cps.toList,c<=126:=by
 have od:∀ c∈("order" : Str).cps.toList,c<=126:=by decide +kernel
 have of':∀ c∈("of" : Str).cps.toList,c<=126:=by decide +kernel
 have nm:∀ {z:Str},nameB z=true->∀ c∈z.cps.toList,c<=126:=fun hz c hc=>by have:=(cS hz).2.2 c hc;lia
 cases l with
 | beg n e=>
  cases e with
  | none=>
   intro z hz;simp only [Ln.words,C0,L8,or_false] at hz
   rcases hz with rfl | rfl
   .exact od
   .exact nm h.1
  | some x=>
   intro z hz;simp only [Ln.words,C0,L8,or_false] at hz
   rcases hz with rfl | rfl | rfl | rfl
   .exact od
   .exact nm h.1
   .exact of'
   .exact nm (h.2 _ rfl)
 | rule r=>
  have h:Fine r:=h;intro z hz
  rcases C0.mp hz with rfl | hz
  .rcases h.2.2 with ⟨hw,_⟩ | ⟨n,hw,_⟩
   .simp only [C0,L8,or_false] at hw
    rcases hw with hw | hw | hw <;> rw [hw] <;> decide +kernel
   .simp only [C0,L8,or_false,Prod.mk.injEq] at hw
    rcases hw with ⟨hw,_⟩ | ⟨hw,_⟩ | ⟨hw,_⟩ | ⟨hw,_⟩ | ⟨hw,_⟩ | ⟨hw,_⟩ <;> rw [hw] <;> decide +kernel
  .have hp:=h.2.1 z hz;unfold D3 at hp;simp only [J7,N2,decide_eq_true_eq] at hp;intro c hc
   have:=hp.2 c hc
   unfold signB at this;simp only [J7,decide_eq_true_eq] at this;lia
theorem uac{l:Ln}(h:LnOk l):E2 l.text=true:=by
 unfold E2;rw [bR];intro c hc;have b6:c∈l.text.cps.toList:=p0.mpr hc;unfold Ln.text at b6;rw [gO,z6] at b6
 rcases gN b6 with h1 | ⟨z,h1,h2⟩
 .subst h1;decide
 .have:=uaa h z h1 c h2
  exact decide_eq_true (by lia)
theorem ahW(xs:List V)(h:i<=j):cutV xs (some (i:Int)) (some (j:Int))=(xs.drop i).take (j-i):=by
 unfold cutV;rw [HT.sIx_nat,HT.sIx_nat]
 by_cases hi:i<=xs.length
 .rw [n9 hi]
  by_cases hj:j<=xs.length
  .rw [n9 hj]
  .rw [Nat.min_eq_right (by lia),X0 (by rw [d8];exact B5 _),X0 (by rw [d8];lia)]
 .rw [Nat.min_eq_right (by lia:xs.length<=i),bQ (B5 _),bQ (by lia),List.take_nil,List.take_nil]
noncomputable abbrev T3:=Str×Str×Str
noncomputable def t3 (l:T3):HO:=.tup [.str l.1,.str l.2.1,.str l.2.2]
noncomputable def t8:Option Str->Str
 | none=>""
 | some e=>Str.ofString " of "++e
noncomputable def txt3 (l:T3):Str:=if l.1=Str.ofString "order" then Str.ofString "order "++l.2.1++l.2.2 else l.2.1
noncomputable def O6 (l:T3):Prop:=(∃ n x,LnOk (.beg n x)/\l=(Str.ofString "order",n,t8 x))\/(∃ z:Rl,Fine z/\l=(Str.ofString "rule",Str.join " " (z.1::z.2),Str.ofString ""))\/∃ z∈BADS,l=(Str.ofString "bad",z,Str.ofString "")
theorem agD(z:Str):z++Str.ofString ""=z:=by
 cases z
 show Str.mk (_++(Str.ofString "").cps)=_;rw [show (Str.ofString "").cps=#[] by decide +kernel,Array.append_empty]
theorem pK(n:Str)(x:Option Str):txt3 (Str.ofString "order",n,t8 x)=(Ln.beg n x).text:=by
 unfold txt3;rw [if_pos rfl]
 cases x with
 | none=>rw [<- ahU];exact agD _
 | some e=>rw [<- agv];show _++(_++_)=_;rw [Str.append_assoc,Str.append_assoc,Str.append_assoc]
theorem alD{w:Str}(h:Txt.split z " "=w::ps):wdsOf z=(w,ps):=by unfold wdsOf;rw [h];rfl
theorem cW{l:Ln}(h:LnOk l):Reads l.text (wdsOf l.text).1 (wdsOf l.text).2/\(wdsOf l.text).1::(wdsOf l.text).2=l.words:=by
 obtain ⟨w,ws,e⟩:=l.words_ne;have hs:=Ln.split h;rw [e] at hs;rw [alD hs,e];have hl:=uae h;rw [e,E8] at hl;exact ⟨⟨C3 (Ln.len h) (by decide),hs,by show ws.length<=1000;lia,fun y hy=>C3 (cT h y (by rw [e];exact J0 _ hy)).2.1 (by decide)⟩,rfl⟩
theorem hG(h:z∈BADS):Reads z (wdsOf z).1 (wdsOf z).2/\begB (wdsOf z).1 (wdsOf z).2=none/\ruleB (wdsOf z).1 (wdsOf z).2=false/\10∉z.cps.toList/\z.length<=30:=by
 have:=N2.mp ahV z h
 simp only [J7,decide_eq_true_eq,Bool.not_eq_true',N2,decide_eq_false_iff_not,Option.isNone_iff_eq_none] at this;obtain ⟨⟨⟨⟨⟨⟨h1,h2⟩,h3⟩,h4⟩,h5⟩,h6⟩,h7⟩:=this;refine ⟨⟨by lia,?_,by lia,fun y hy=>C3 (h7 y hy) (by decide)⟩,h2,h3,h4,h1⟩;unfold wdsOf;cases e:Txt.split z " " with
 | nil=>rw [e] at h6;cases h6
 | cons w ws=>rfl
theorem cX{w:Str}(h:w≠Str.ofString "order"):txt3 (w,z,Str.ofString "")=z:=if_neg h
theorem O6.reads{l:T3}(h:O6 l):Reads (txt3 l) (wdsOf (txt3 l)).1 (wdsOf (txt3 l)).2/\10∉(txt3 l).cps.toList/\(txt3 l).length<=4000:=by
 rcases h with ⟨n,x,h,rfl⟩ | ⟨z,h,rfl⟩ | ⟨z,h,rfl⟩
 .rw [pK];exact ⟨(cW h).1,pB h,Ln.len h⟩
 .have h:LnOk (.rule z):=h;rw [cX (by decide +kernel)];exact ⟨(cW h).1,pB h,Ln.len h⟩
 .rw [cX (by decide +kernel)];obtain ⟨h1,h2,h3,h4,h5⟩:=hG h;exact ⟨h1,h4,by lia⟩
theorem aj5{n:Str}{x:Option Str}(h:LnOk (.beg n x)){w:Str}(e:w::ps=(Ln.beg n x).words):begB w ps=some (n,x):=by
 cases x with
 | none=>
  obtain ⟨rfl,rfl⟩:=List.cons.inj e;rw [gT,if_pos ⟨rfl,h.1⟩]
 | some y=>
  obtain ⟨rfl,rfl⟩:=List.cons.inj e;rw [gU,if_pos ⟨rfl,h.1,rfl,h.2 _ rfl⟩]
theorem pL{z:Rl}(h:Fine z):ruleB z.1 z.2=true/\z.1≠Str.ofString "order":=by
 refine ⟨?_,?_⟩
 .rcases h.2.2 with ⟨hw,he⟩ | ⟨n,hw,hn⟩
  .unfold ruleB;rw [if_pos (show z.1∈bareL from hw),he];rfl
  .unfold ruleB;have hw2:=hw;simp only [C0,L8,or_false,Prod.mk.injEq] at hw;have hp:z.2.all D3=true:=N2.mpr h.2.1
   rcases hw with ⟨hw,rfl⟩ | ⟨hw,rfl⟩ | ⟨hw,rfl⟩ | ⟨hw,rfl⟩ | ⟨hw,rfl⟩ | ⟨hw,rfl⟩ <;> rw [hw,if_neg (by decide +kernel)]
   .show (decide ((1:Int)<=_)&&_)=true;rw [hp,decide_eq_true hn];rfl
   .show (decide ((1:Int)<=_)&&_)=true;rw [hp,decide_eq_true hn];rfl
   .show (decide ((2:Int)<=_)&&_)=true;rw [hp,decide_eq_true hn];rfl
   .show (decide ((2:Int)<=_)&&_)=true;rw [hp,decide_eq_true hn];rfl
   .show (decide ((1:Int)<=_)&&_)=true;rw [hp,decide_eq_true hn];rfl
   .show (decide ((1:Int)<=_)&&_)=true;rw [hp,decide_eq_true hn];rfl
 .rcases h.2.2 with ⟨hw,he⟩ | ⟨n,hw,hn⟩
  .simp only [C0,L8,or_false] at hw
   rcases hw with hw | hw | hw <;> rw [hw] <;> decide +kernel
  .simp only [C0,L8,or_false,Prod.mk.injEq] at hw
   rcases hw with ⟨hw,_⟩ | ⟨hw,_⟩ | ⟨hw,_⟩ | ⟨hw,_⟩ | ⟨hw,_⟩ | ⟨hw,_⟩ <;> rw [hw] <;> decide +kernel
theorem O6.kind{l:T3}(h:O6 l):(l.1=Str.ofString "order"/\∃ x,begB (wdsOf (txt3 l)).1 (wdsOf (txt3 l)).2=some (l.2.1,x))\/(l.1=Str.ofString "rule"/\begB (wdsOf (txt3 l)).1 (wdsOf (txt3 l)).2=none/\ruleB (wdsOf (txt3 l)).1 (wdsOf (txt3 l)).2=true)\/l.1=Str.ofString "bad"/\begB (wdsOf (txt3 l)).1 (wdsOf (txt3 l)).2=none/\ruleB (wdsOf (txt3 l)).1 (wdsOf (txt3 l)).2=false:=by
 rcases h with ⟨n,x,h,rfl⟩ | ⟨z,h,rfl⟩ | ⟨z,h,rfl⟩
 .refine .inl ⟨rfl,x,?_⟩;rw [pK];exact aj5 h (cW h).2
 .refine .inr (.inl ⟨rfl,?_⟩);have h':LnOk (.rule z):=h;have e:=(cW h').2;rw [cX (by decide +kernel)];have e2:(wdsOf (Str.join " " (z.1::z.2))).1::(wdsOf (Str.join " " (z.1::z.2))).2=z.1::z.2:=e;obtain ⟨e3,e4⟩:=List.cons.inj e2;rw [e3,e4];exact ⟨pE (pL h).2,(pL h).1⟩
 .refine .inr (.inr ⟨rfl,?_⟩);rw [cX (by decide +kernel)];exact ⟨(hG h).2.1,(hG h).2.2.1⟩
theorem aD:E2 (Str.ofString "order")=true/\E2 (Str.ofString "rule")=true/\E2 (Str.ofString "bad")=true/\E2 (Str.ofString "")=true:=by decide +kernel
theorem aj6:(BADS.all fun z=>E2 z)=true:=by decide +kernel
theorem aE(h:nameB z=true):E2 z=true:=by
 unfold E2;rw [bR];intro c hc
 have:=(cS h).2.2 c (p0.mpr hc)
 exact decide_eq_true (by lia)
theorem alE{x:Option Str}(h:∀ y,x=some y->nameB y=true):E2 (t8 x)=true:=by
 cases x with
 | none=>decide +kernel
 | some y=>
  have h1:=aE (h y rfl);unfold E2 at h1 ⊢
  show Array.all ((Str.ofString " of ").cps++y.cps) _=true;rw [Array.all_append,h1,Bool.and_true];decide +kernel
theorem O6.strs{l:T3}(h:O6 l):E2 l.1=true/\E2 l.2.1=true/\E2 l.2.2=true:=by
 rcases h with ⟨n,x,h,rfl⟩ | ⟨z,h,rfl⟩ | ⟨z,h,rfl⟩
 .exact ⟨aD.1,aE h.1,alE h.2⟩
 .exact ⟨aD.2.1,uac (l:=.rule z) h,aD.2.2.2⟩
 .exact ⟨aD.2.2.1,N2.mp aj6 z h,aD.2.2.2⟩
noncomputable def d3 (l:T3):PyData:=.tuple ([l.1,l.2.1,l.2.2].map .str)
theorem pM:∀ R:List T3,U6 (R.map d3)<=1
 | []=>O2 _
 | z::R=>by
  rw [E5,U6];have h1:(d3 z).depth<=1:=by
   unfold d3;rw [P1,cI];decide
  have h2:=pM R;lia
theorem orIf{a b:Prop}[Decidable a][Decidable b]{X zy:Prop}(h1:a\/b->X)(h2:¬a->¬b->zy):if decide a=true then X else if decide b=true then X else zy:=by
 by_cases ha:a
 .rw [if_pos (decide_eq_true ha)];exact h1 (.inl ha)
 .rw [if_neg (by simpa using ha)]
  by_cases hb:b
  .rw [if_pos (decide_eq_true hb)];exact h1 (.inr hb)
  .rw [if_neg (by simpa using hb)];exact h2 ha hb
structure L3I(H0 H:Hp)(p:Addr)(rs:List Addr)(ls:List T3):Prop where
 top:H p=some (.lst (rs.map V.ref))
 row:Paired (fun r l=>H r=some (t3 l)) rs ls
 new:H0 p=none
 same:Same H0 H
 ok:∀ l∈ls,O6 l
theorem L3I.keep{ls:List T3}(h:L3I H0 H p rs ls)(S:Same H H'):L3I H0 H' p rs ls:=⟨S _ _ h.top,U8 h.row fun _ _ e=>S _ _ e,h.new,h.same.trans S,h.ok⟩
theorem L3I.len{ls:List T3}(h:L3I H0 H p rs ls):rs.length=ls.length:=Paired.length h.row
theorem L3I.app{ls:List T3}{l:T3}(h:L3I H0 H p rs ls)(hr:H r=some (t3 l))(ho:O6 l):L3I H0 (A0 H p (.lst (rs.map V.ref++[V.ref r]))) p (rs++[r]) (ls++[l]):=by
 have L7:∀ {q:Addr} {y:T3},H q=some (t3 y)->q≠p:=fun e e2=>by rw [e2,h.top] at e;cases e
 refine ⟨by rw [A3,M2];rfl,Paired.snoc (U8 h.row fun _ _ e=>by rw [A7 (L7 e)];exact e) (by rw [A7 (L7 hr)];exact hr),h.new,h.same.put h.new,fun y hy=>?_⟩
 rcases N3.mp hy with hy | hy
 .exact h.ok y hy
 .rw [Q1.mp hy];exact ho
theorem L3I.dn{ls:List T3}(h:L3I H0 H p rs ls):Dn K H (.ref p) (.list (ls.map d3)):=by
 refine .lst (.of h.top) ?_;have go:∀ {rs:List Addr} {ls:List T3},Paired (fun r l=>H r=some (t3 l)) rs ls->(∀ l∈ls,O6 l)->DnAll K H (rs.map V.ref) (ls.map d3):=by
  intro rs ls hp
  induction hp with
  | nil=>intro _;exact .nil
  | cons e t ih=>
   intro ho;obtain ⟨o1,o2,o3⟩:=(ho _ M9).strs;exact .cons (.tup (.of e) (.cons (.str _ o1) (.cons (.str _ o2) (.cons (.str _ o3) .nil)))) (ih fun l hl=>ho l (J0 _ hl))
 exact go h.row h.ok
theorem afb(ls:List T3):Q3 (.list (ls.map d3)) (.list (([]:List Str).map X2))=decide (ls=[]):=by
 cases ls with
 | nil=>rfl
 | cons l ls=>rfl
noncomputable def pN (K:PySem.W.Frag):Sp:=fun vs H Q _=>∃ (a b c:Addr) (ns:List Int) (nms ps:List Str),vs=[.ref a,.ref b,.ref c]/\C1 K H a (ns.map V.int)/\ns.length<=63/\H b=some (.lst (nms.map V.str))/\H c=some (.lst (ps.map V.str))/\nms.length=60/\(∀ z∈nms,nameB z=true)/\ps≠[]/\ps.length<=1000/\(∀ z∈ps,D3 z=true)/\
 ∀ (l:Addr) (rs:List Addr) (ls:List T3) (H':Hp),L3I H H' l rs ls->ls.length<=63->Q (.ref l) H'
noncomputable def pO (K:PySem.W.Frag):Sp:=fun vs H Q _=>∃ (a b c l:Addr) (ns:List Int) (nms ps:List Str) (rs:List Addr) (ls:List T3) (H0:Hp),vs=[.ref a,.ref b,.ref c,.ref l]/\C1 K H a (ns.map V.int)/\H b=some (.lst (nms.map V.str))/\H c=some (.lst (ps.map V.str))/\nms.length=60/\(∀ z∈nms,nameB z=true)/\ps≠[]/\ps.length<=1000/\(∀ z∈ps,D3 z=true)/\L3I H0 H l rs ls/\ls.length<=63/\
 ∀ (l':Addr) (rs':List Addr) (ls':List T3) (H':Hp),Same H H'->L3I H0 H' l' rs' ls'->ls'.length<=65->Q (.ref l') H'
theorem pP{α β:Type}{F:α->β->Prop}{yq:List α}{yo:List β}(h':Paired F yq yo):∀ {yn:List α} {ym:List β},Paired F yn ym->Paired F (yn++yq) (ym++yo)
 | _,_,.nil=>h'
 | _,_,.cons h t=>.cons h (pP h' t)
theorem hJ{α β:Type}{F:α->β->Prop} : ∀ {as:List α} {bs:List β} (_:Paired F as bs) (n:Nat),Paired F (as.take n) (bs.take n)/\Paired F (as.drop n) (bs.drop n)
 | _,_,.nil,n=>by rw [List.take_nil,List.take_nil,List.drop_nil,List.drop_nil];exact ⟨.nil,.nil⟩
 | _,_,.cons h t,0=>⟨.nil,.cons h t⟩
 | _,_,.cons h t,n+1=>⟨.cons h (hJ t n).1,(hJ t n).2⟩
theorem hR:∀ {ls:List T3},(∀ l∈ls,O6 l)->((ls.map txt3).map (·.length)).sum<=4000*ls.length
 | [],_=>by simp
 | l::ls,h=>by
  have:=hR (ls:=ls) fun y hy=>h y (J0 _ hy)
  have h3:=(h l M9).reads.2.2;rw [E5,E5,List.sum_cons,E8];lia
inductive Od where
 | nm (ns:List Str)
 | at (i:Nat)
 | tw (n:Str)
noncomputable def Stop (zs:List Str) (i:Nat) (z:Str) (B:Bk):Prop:=zs[i]?=some z/\G4 wdsOf zs i=some B/\N8 B (wdsOf z).1 (wdsOf z).2=none
noncomputable def IsOut (zs:List Str):Od->Prop
 | .nm ns=>∃ B,G4 wdsOf zs zs.length=some B/\B.names=ns
 | .at i=>∃ z B,zs[i]?=some z/\G4 wdsOf zs i=some B/\begB (wdsOf z).1 (wdsOf z).2=none/\(B.nw=none\/ruleB (wdsOf z).1 (wdsOf z).2=false)
 | .tw n=>∃ i z B nx,zs[i]?=some z/\G4 wdsOf zs i=some B/\begB (wdsOf z).1 (wdsOf z).2=some nx/\nx.1∈B.names/\nx.1=n
theorem hU{W:Str->Str×List Str}{B':Bk}(h:G4 W zs (i+1)=some B'):∃ B z,G4 W zs i=some B/\zs[i]?=some z/\N8 B (W z).1 (W z).2=some B':=by
 unfold G4 at h;cases e1:G4 W zs i with
 | none=>rw [e1] at h;cases h
 | some B=>
  cases e2:zs[i]? with
  | none=>rw [e1,e2] at h;cases h
  | some z=>rw [e1,e2] at h;exact ⟨B,z,rfl,rfl,h⟩
theorem pQ{W:Str->Str×List Str} : ∀ {j:Nat} {B:Bk},G4 W zs j=some B->i<=j->∃ B',G4 W zs i=some B'
 | 0,B,h,bD=>by rw [Nat.le_zero.mp bD];exact ⟨B,h⟩
 | j+1,B,h,bD=>by
  by_cases e:i=j+1
  .rw [e];exact ⟨B,h⟩
  .obtain ⟨B',z,h',_⟩:=hU h;exact pQ h' (by lia)
theorem Stop.none{B B':Bk}(h:Stop zs i z B)(h':G4 wdsOf zs j=some B'):j<=i:=by
 rcases Nat.lt_or_ge i j with hl | hl
 .obtain ⟨B2,h2⟩:=pQ h' (Nat.succ_le_of_lt hl);obtain ⟨B3,z3,h3,h4,h5⟩:=hU h2;rw [h.2.1] at h3;rw [h.1] at h4;cases h3;cases h4;rw [h.2.2] at h5;cases h5
 .exact hl
theorem Stop.uniq{z':Str}{B B':Bk}(h:Stop zs i z B)(h':Stop zs j z' B'):i=j/\z=z'/\B=B':=by
 have h1:=h.none h'.2.1;have h2:=h'.none h.2.1;have e:i=j:=Nat.le_antisymm h2 h1;subst e;refine ⟨rfl,Option.some.inj (h.1.symm.trans h'.1),Option.some.inj (h.2.1.symm.trans h'.2.1)⟩
theorem t9{B:Bk}(h1:zs[i]?=some z)(h2:G4 wdsOf zs i=some B)(h3:begB (wdsOf z).1 (wdsOf z).2=none)(h4:B.nw=none\/ruleB (wdsOf z).1 (wdsOf z).2=false):Stop zs i z B:=⟨h1,h2,by unfold N8;rw [h3];exact if_pos h4⟩
theorem u0{B:Bk}{nx:Str×Option Str}(h1:zs[i]?=some z)(h2:G4 wdsOf zs i=some B)(h3:begB (wdsOf z).1 (wdsOf z).2=some nx)(h4:nx.1∈B.names):Stop zs i z B:=⟨h1,h2,by unfold N8;rw [h3];exact if_pos h4⟩
theorem Stop.lt{B:Bk}(h:Stop zs i z B):i<zs.length:=(W9.mp h.1).1
theorem IsOut.uniq : ∀ {o p:Od},IsOut zs o->IsOut zs p->o=p
 | .nm a,.nm b,⟨B,h1,h2⟩,⟨B',h3,h4⟩=>by rw [h1] at h3;cases h3;rw [<- h2,<- h4]
 | .nm a,.at i,⟨B,h1,h2⟩,⟨z,B',g1,g2,g3,g4⟩=>by have g:=t9 g1 g2 g3 g4;have:=g.none h1;have:=g.lt;lia
 | .nm a,.tw n,⟨B,h1,h2⟩,⟨i,z,B',nx,g1,g2,g3,g4,g5⟩=>by have g:=u0 g1 g2 g3 g4;have:=g.none h1;have:=g.lt;lia
 | .at i,.nm a,⟨z,B',g1,g2,g3,g4⟩,⟨B,h1,h2⟩=>by have g:=t9 g1 g2 g3 g4;have:=g.none h1;have:=g.lt;lia
 | .tw n,.nm a,⟨i,z,B',nx,g1,g2,g3,g4,g5⟩,⟨B,h1,h2⟩=>by have g:=u0 g1 g2 g3 g4;have:=g.none h1;have:=g.lt;lia
 | .at i,.at j,⟨z,B,h1,h2,h3,h4⟩,⟨z',B',g1,g2,g3,g4⟩=>by rw [((t9 h1 h2 h3 h4).uniq (t9 g1 g2 g3 g4)).1]
 | .at i,.tw n,⟨z,B,h1,h2,h3,h4⟩,⟨j,z',B',nx,g1,g2,g3,g4,g5⟩=>by
  obtain ⟨_,rfl,_⟩:=(t9 h1 h2 h3 h4).uniq (u0 g1 g2 g3 g4);rw [h3] at g3;cases g3
 | .tw n,.at i,⟨j,z',B',nx,g1,g2,g3,g4,g5⟩,⟨z,B,h1,h2,h3,h4⟩=>by
  obtain ⟨_,rfl,_⟩:=(t9 h1 h2 h3 h4).uniq (u0 g1 g2 g3 g4);rw [h3] at g3;cases g3
 | .tw n,.tw m,⟨i,z,B,nx,h1,h2,h3,h4,h5⟩,⟨j,z',B',ny,g1,g2,g3,g4,g5⟩=>by
  obtain ⟨_,rfl,_⟩:=(u0 h1 h2 h3 h4).uniq (u0 g1 g2 g3 g4);rw [h3] at g3;cases g3;rw [<- h5,<- g5]
noncomputable def OutT (H:Hp) (t:Addr):Od->Prop
 | .nm ns=>∃ l,H t=some (.tup [.str (Str.ofString "names"),.ref l])/\H l=some (.lst (ns.map V.str))
 | .at i=>H t=some (.tup [.str (Str.ofString "at"),.int i])
 | .tw n=>H t=some (.tup [.str (Str.ofString "twice"),.str n])
theorem OutT.same(S:Same H H'):∀ {o:Od},OutT H t o->OutT H' t o
 | .nm _,⟨l,h1,h2⟩=>⟨l,S _ _ h1,S _ _ h2⟩
 | .at _,h=>S _ _ h
 | .tw _,h=>S _ _ h
theorem hV(hz:∀ z∈zs,Reads z (wdsOf z).1 (wdsOf z).2):∀ {i:Nat} {B:Bk},G4 wdsOf zs i=some B->B.Good i
 | 0,B,h=>by cases h;exact Bk.Good.start
 | i+1,B,h=>by
  obtain ⟨B',z,h1,h2,h3⟩:=hU h;exact pG (hV hz h1) (hz z (Q0 h2)) h3
noncomputable def pR:Sp:=fun vs H Q _=>∃ (l:Addr) (rs:List Addr) (ls:List T3) (H0:Hp),vs=[.ref l]/\L3I H0 H l rs ls/\ls.length<=65/\∀ t o H',Same H H'->IsOut (ls.map txt3) o->OutT H' t o->Q (.ref t) H'
noncomputable def pS:Sp:=fun vs H Q _=>∃ (l:Addr) (rs:List Addr) (ls:List T3) (H0:Hp),vs=[.ref l]/\L3I H0 H l rs ls/\ls.length<=65/\∀ H',Same H H'->Q (.str (Str.join "\n" (ls.map txt3))) H'
noncomputable def kbO:Od->List Bool
 | .nm _=>[false,false,false,false]
 | .at _=>[true,false,true,false]
 | .tw _=>[false,true,true,false]
structure Tx(zs:List Str)(T:Str):Prop where
 eq:T=Str.join "\n" zs
 len:zs.length<=200
 rd:∀ z∈zs,Reads z (wdsOf z).1 (wdsOf z).2/\10∉z.cps.toList
 big:T.length<=900000
 pos:0<T.length\/(zs=[]/\T.length=0)
theorem Tx.cond{T:Str}(h:Tx zs T):T.length=0\/(0<T.length/\T.length<=900000/\zs.length<=200/\zs≠[]/\T=Str.join "\n" zs/\∀ z∈zs,Reads z (wdsOf z).1 (wdsOf z).2/\10∉z.cps.toList):=by
 rcases h.pos with hp | ⟨_,h0⟩
 .refine .inr ⟨hp,h.big,h.len,fun e=>?_,h.eq,h.rd⟩
  have:=h.eq
  rw [e] at this;rw [this] at hp;exact absurd hp (by decide +kernel)
 .exact .inl h0
theorem Tx.zero{T:Str}(h:Tx zs T)(h0:T.length=0):zs=[]:=by
 rcases h.pos with hp | ⟨h1,_⟩
 .lia
 .exact h1
theorem Tx.good{T:Str}(h:Tx zs T){B:Bk}(hB:G4 wdsOf zs i=some B):B.Good i:=hV (fun z hz=>(h.rd z hz).1) hB
theorem i7 : ∀ {l:List Bool},DnAll K H (l.map V.bl) (l.map .bool)
 | []=>.nil
 | b::_=>.cons (.bl b) i7
theorem ahX(h:z.length=0):z=Str.ofString "":=by
 cases z with
 | mk a=>
  have h:a.size=0:=h;rw [Array.eq_empty_of_size_eq_zero h];decide +kernel
theorem agG{y:Str}{r:List Str} : 0<(Str.join "\n" (z::y::r)).length:=by
 have e:(Str.join "\n" (z::y::r)).length=(Str.join "\n" (z::y::r)).cps.toList.length:=by simp [Str.length]
 rw [e,pA,z6];show 0<(z.cps.toList++10::joinN 10 (y::r)).length;rw [K3,E8];lia
noncomputable def pT:Sp:=fun vs H Q _=>∃ (T:Str) (zs:List Str) (o:Od),vs=[.str T]/\Tx zs T/\IsOut zs o/\∀ t H',Same H H'->H' t=some (.tup ((kbO o).map V.bl))->Q (.ref t) H'
noncomputable def outD:Od->PyData
 | .nm ns=>.tuple [.str (Str.ofString "names"),.list (ns.map .str)]
 | .at i=>.tuple [.str (Str.ofString "at"),.int i]
 | .tw n=>.tuple [.str (Str.ofString "twice"),.str n]
theorem hW:E2 (Str.ofString "names")=true/\E2 (Str.ofString "at")=true/\E2 (Str.ofString "twice")=true:=by decide +kernel
theorem OutT.dn{T:Str}(x:Tx zs T) : ∀ {o:Od},IsOut zs o->OutT H t o->Dn K H (.ref t) (outD o)/\Q3 (outD o) (outD o)=true/\min (outD o).depth (outD o).depth<=60
 | .nm ns,⟨B,h1,h2⟩,⟨l,g1,g2⟩=>by
  have hn:∀ z∈ns,E2 z=true:=fun z hz=>aE ((x.good h1).nm z (by rw [h2];exact hz))
  refine ⟨.tup (.of g1) (.cons (.str _ hW.1) (.cons (.lst (.of g2) (DnAll.strs hn)) .nil)),?_,?_⟩
  .show (O3 [_,_] [_,_])=true;rw [O3,O3,mV,decide_eq_true rfl];rfl
  .refine C3 (Nat.min_le_left _ _) ?_;unfold outD;rw [P1,U6,U6,P1,P1,cI];decide
 | .at i,_,g=>⟨.tup (.of g) (.cons (.str _ hW.2.1) (.cons (.int _) .nil)),by
   show (O3 [_,_] [_,_])=true;rw [O3,O3];show (Q3 (.str _) (.str _)&&(decide ((i:Int)=i)&&true))=true;rw [decide_eq_true rfl];rfl,by
   refine C3 (Nat.min_le_left _ _) ?_;unfold outD;rw [P1,U6,U6,P1,P1];decide⟩
 | .tw n,⟨i,z,B,nx,h1,h2,h3,h4,h5⟩,g=>⟨.tup (.of g) (.cons (.str _ hW.2.2) (.cons (.str _ (aE ((x.good h2).nm n (by rw [<- h5];exact h4)))) .nil)),by
   show (O3 [_,_] [_,_])=true;rw [O3,O3];show (Q3 (.str _) (.str _)&&(decide (n=n)&&true))=true;rw [decide_eq_true rfl];rfl,by
   refine C3 (Nat.min_le_left _ _) ?_;unfold outD;rw [P1,U6,U6,P1,P1];decide⟩
section
variable {P:Program} {w:World} {K:PySem.W.Frag} {mg:Str->Option Value} {base:Heap} {C:Addr} {C_NoRule:Addr} {C_Twice:Addr}
theorem pU:FnScope ["self", "at"] ["self", "at"] (B4 X9):=G3
abbrev VS(N:List Str)(s:Stmt)(x:Str)(n:Nat):Prop:=∀ {X:Cx} {pos:Pos},X.N=N->X.env.scope=B4 s->QE X (.Name x pos) (tVar n)
theorem vq{s:Stmt}(h:(decide (N[n]?=some x)&&visB (B4 s) x && !(x==("__debug__" : Str)) && !(x==("__classdict__" : Str)))=true:=by decide +kernel):VS N s x n:=fun hN hs=>qvd hN hs h
theorem vi{s:Stmt}{pos:Pos}(h:VS N s x n)(h1:X.N=N:=by rfl)(h2:X.env.scope=B4 s:=by rfl):QE X (.Name x pos) (tVar n):=h h1 h2
abbrev LS(s:Stmt)(x:Str):Prop:=X3 (B4 s) x
theorem lq{s:Stmt}(h:(B4 s).names.lookup x=some .local\/(B4 s).names.lookup x=some .cell:=by decide +kernel):LS s x:=h
abbrev pV:List Str:=["self", "at"]
theorem cY:VS pV X9 "self" 0:=vq
theorem cZ:VS pV X9 "at" 1:=vq
theorem abJ(F:FunD K "__init__" "NoRule.__init__" X9 f fd)(T:Txt P w K mg C C_NoRule C_Twice):FnOk P w K mg base C8 1 f fd ["self", "at"] (Z8 K C_NoRule "at"):=by
 refine F.ok pU ?_ ?_
 .rintro _ _ _ _ ⟨m,x,i,f,rfl,_⟩;rfl
 .intro cdv A outer s H vs Q E hr h;have F2:=hu_of hr;have hu:=hr.units;obtain ⟨aL,mL,NL⟩:=T.lore;refine ⟨_,QSs.out (A6 (K9 (gD NL mL (vi cY) (oH A5 (oG (vi cZ)) A5) (K:=K)))
   (B1 (gE (vi cY) (vi cZ) (K:=K)))),?_⟩
  obtain ⟨m,x,i,f,rfl,hx,M,n,hi,q⟩:=h;walk_at "rd";exact ⟨by decide,hi,fun z hz=>⟨by lia,by decide,fun z2=>⟨m,C_NoRule,hx,⟨f,M⟩,m,C_NoRule,hx,⟨f,M⟩,n,q⟩⟩⟩
theorem abD(F:FunD K "__init__" "NoRule.__init__" X9 f fd)(T:Txt P w K mg C C_NoRule C_Twice):FnOkH P w K mg base 1 f fd ["self", "at"] (Z8 K C_NoRule "at"):=by
 refine F.okH pU ?_ ?_
 .rintro _ _ _ _ ⟨m,x,i,f,rfl,_⟩;rfl
 .intro cdv A outer s H vs Q E zz hr h;have F2:=hu_of hr;have hu:=hr.units;obtain ⟨aL,mL,NL⟩:=T.lore;refine ⟨_,QSs.out (A6 (K9 (gD NL mL (vi cY) (oH A5 (oG (vi cZ)) A5) (K:=K)))
   (B1 (gE (vi cY) (vi cZ) (K:=K)))),?_⟩
  obtain ⟨m,x,i,f,rfl,hx,M,n,hi,q⟩:=h;walk_at "rd";exact ⟨by decide,hi,fun z hz=>⟨by lia,by decide,fun z2=>⟨m,C_NoRule,hx,⟨f,M⟩,m,C_NoRule,hx,⟨f,M⟩,n,q⟩⟩⟩
theorem abV:FnScope ["self", "name"] ["self", "name"] (B4 a6):=G3
abbrev pW:List Str:=["self", "name"]
theorem pX:VS pW a6 "self" 0:=vq
theorem pY:VS pW a6 "name" 1:=vq
theorem abW(F:FunD K "__init__" "Twice.__init__" a6 f fd)(T:Txt P w K mg C C_NoRule C_Twice):FnOk P w K mg base C8 1 f fd ["self", "name"] (gR K C_Twice "name"):=by
 refine F.ok abV ?_ ?_
 .rintro _ _ _ _ ⟨m,x,z,f,rfl,_⟩;rfl
 .intro cdv A outer s H vs Q E hr h;have F2:=hu_of hr;have hu:=hr.units;obtain ⟨aL,mL,NL⟩:=T.lore;refine ⟨_,QSs.out (A6 (K9 (gD NL mL (vi pX) (afa (ajT (vi pY)) A5) (K:=K)))
   (B1 (gE (vi pX) (vi pY) (K:=K)))),?_⟩
  obtain ⟨m,x,z,f,rfl,hx,M,n,hz,hok,q⟩:=h;walk_at "rd";exact ⟨hz,hok,fun z1 h1=>⟨by lia,by decide +kernel,fun z2=>⟨m,C_Twice,hx,⟨f,M⟩,m,C_Twice,hx,⟨f,M⟩,n,q⟩⟩⟩
theorem afc:FnScope ["sign"] ["sign"] (B4 cQ):=G3
abbrev agI:List Str:=["sign"]
theorem pZ:VS agI cQ "sign" 0:=vq
theorem afd(F:FunD K "is_sign" "is_sign" cQ f fd)(T:Txt P w K mg C C_NoRule C_Twice):FnOk P w K mg base C8 1 f fd ["sign"] oR:=by
 refine F.ok afc ?_ ?_
 .rintro _ _ _ _ ⟨c,rfl,_⟩;rfl
 .intro cdv A outer s H vs Q E hr h;have F2:=hu_of hr;have hu:=hr.units;refine ⟨_,QSs.out (B1 (D9 (g6 (cJ q_le q_le A5 (vi pZ) A5) (y3 (X7 (q_ne (K:=K) hu) (qe_cB q_ord T.b_ord ak7 (qa_c (vi pZ) A2)) (ahp T.g_PER_CENT)))))),?_⟩;obtain ⟨c,rfl,q⟩:=h;walk_at "rd";have e1:(Str.ofString "!").cps.toList=[33]:=by decide +kernel
  have e2:(Str.ofString "~").cps.toList=[126]:=by decide +kernel
  rw [e1,e2];simp only [fU];refine iteN (fun h1=>iteN (fun h2=>⟨rfl,?_⟩) fun h2=>?_) fun h1=>?_
  .have e:signB c=!decide ((c:Int)=37):=by
    unfold signB;rw [decide_eq_true (by lia:33<=c),decide_eq_true (by lia:c<=126)]
    by_cases h3:c=37
    .subst h3;rfl
    .rw [decide_eq_true h3,decide_eq_false (by lia:¬ (c:Int)=37)];rfl
   rw [e] at q;exact q
  .have e:signB c=false:=by unfold signB;rw [decide_eq_false (by lia:¬ c<=126)];simp
   rw [e] at q;exact q
  .have e:signB c=false:=by unfold signB;rw [decide_eq_false (by lia:¬ 33<=c)];rfl
   rw [e] at q;exact q
theorem aen:FnScope ["thing"] ["thing"] (B4 z9):=G3
abbrev afe:List Str:=["thing"]
theorem hX:VS afe z9 "thing" 0:=vq
theorem aeo(F:FunD K "is_piece" "is_piece" z9 f fd)(T:Txt P w K mg C C_NoRule C_Twice)(G_is_sign:FO P w K mg base 1 "is_sign" ["sign"] [] oR):FnOk P w K mg base C8 2 f fd ["thing"] oS:=by
 refine F.ok aen ?_ ?_
 .rintro _ _ _ _ ⟨x,T,rfl,_⟩;rfl
 .intro cdv A outer s H vs Q E hr h;have F2:=hu_of hr;have hu:=hr.units;refine ⟨_,QSs.out (A6 (qs_if (fG (t6 (K:=K) (qe_cB q_isi T.b_isinstance g0 (qa_c (vi hX) (qa_c (qe_ty T.b_str mQ) A2))))) (B1 (D9 qe_bl)) K0)
   (B1 (D9 (g6 (cJ q_le q_le A1 (qe_cB (q_len (K:=K)) T.b_len Q5 (qa_c (vi hX) A2)) A1) (y3 (qe_cB (q_all (calm:=true)) T.b_all fA (qa_c (fJ  (gI:CompOk ["thing"] (B4 z9).names _ ["sign"] 1 []) (nA (vi hX)) (fun _ _ _ _ _=>P4 (n:=0) (show List.Nodup (["sign"]:List Str) by decide +kernel) rfl (Or.inl rfl)) (fun _ _ _ _ _=>fI) (fun _ _ _ _ _=>(G6 G_is_sign (hm hr) (qa_c (qv 0) A2)))) A2))))))),?_⟩
  obtain ⟨x,T',rfl,ht,hz,q⟩:=h
  by_cases hx:∃ z,x=.str z
  .obtain ⟨z,rfl⟩:=hx;have hz:=hz z rfl;have len:z.length=z.cps.toList.length:=by simp [Str.length]
   walk_at "rd";refine ⟨"str",rfl,rfl,?_⟩;rw [show (!y0 "str" "str")=false from rfl];refine iteF ⟨N7 (by lia),iteD (fun h1=>iteD (fun h2=>?_) fun h2=>?_) fun h1=>?_⟩
   .refine compS [] rfl (fun D i ys H4=>ys=((z.cps.toList.take i).map signB).map V.bl/\Same H H4) (fun D nD=>⟨rfl,Same.new nD⟩) ?_ ?_
    .rintro D i x ys H4 nD hi hx ⟨rfl,S⟩ hD hy;walk_at "rd";refine ⟨x,rfl,hD,?_,CW.put hi hy ⟨?_,S.put nD⟩⟩
     .rw [B9,B9,U3];exact N6 (by lia)
     .rw [List.take_add_one,hx]
      simp
    .rintro D ys H4 nD ⟨rfl,S⟩ hD hy;refine ⟨_,rfl,hD,?_⟩;have e:i6 (.str z)=((z.cps.toList.take z.cps.size).map signB).all id:=by
      show D3 z=_;unfold D3;rw [decide_eq_true (by lia:1<=z.length),decide_eq_true (by lia:z.length<=2),X0 (by simp)]
      simp
     rw [e] at q;exact q H4 S
   .have e:i6 (.str z)=false:=by
     show D3 z=_;unfold D3;rw [decide_eq_false (by lia:¬ z.length<=2)]
     simp
    rw [e] at q;exact q H (G0 H)
   .have e:i6 (.str z)=false:=by
     show D3 z=_;unfold D3;rw [decide_eq_false (by lia:¬ 1<=z.length)]
     simp
    rw [e] at q;exact q H (G0 H)
  .walk_at "rd";refine ⟨T',ht,rfl,?_⟩;rw [oU ht fun z e=>hx ⟨z,e⟩];rw [show i6 x=false from agq fun z e=>hx ⟨z,e⟩] at q;exact iteT (q H (G0 H))
theorem sc_is_rule:FnScope ["words", "pieces"] ["words"] (B4 i4):=G3
abbrev qA:List Str:=["words", "pieces"]
theorem dA:VS qA i4 "words" 0:=vq
theorem iA:VS qA i4 "pieces" 1:=vq
theorem vai:LS i4 "pieces":=lq
theorem aff(F:FunD K "is_rule" "is_rule" i4 f fd)(T:Txt P w K mg C C_NoRule C_Twice)(G_is_piece:FO P w K mg base 2 "is_piece" ["thing"] [] oS):FnOk P w K mg base C8 3 f fd ["words"] (oW K):=by
 refine F.ok sc_is_rule ?_ ?_
 .rintro _ _ _ _ ⟨a,w,ps,rfl,_⟩;rfl
 .intro cdv A outer s H vs Q E hr h;have F2:=hu_of hr;have hu:=hr.units;obtain ⟨a_BARE,m_BARE,M_BARE⟩:=T.x_BARE;obtain ⟨a_FEWEST,m_FEWEST,M_FEWEST⟩:=T.x_FEWEST;refine ⟨_,QSs.out (A6 (B6 (n:=1) sc_is_rule.nd rfl vai (cK (K:=K) (vi dA) (y4 A1) fF))
   (A6 (qs_if (D6 (q_in (K:=K) hu) (qe_ix (K:=K) (vi dA) A1) (O4 m_BARE)) (B1 (D9 (ajo (K:=K) (vi iA)))) K0)
   (A6 (qs_if (D6 (ahq M_FEWEST) (qe_ix (K:=K) (vi dA) A1) (O4 m_FEWEST)) (B1 (D9 qe_bl)) K0)
   (B1 (D9 (g6 (X7 q_ge (qe_cB (q_len (K:=K)) T.b_len Q5 (qa_c (vi iA) A2)) (ahr M_FEWEST (O4 m_FEWEST) (qe_ix (K:=K) (vi dA) A1))) (y3 (qe_cB (q_all (calm:=true)) T.b_all fA (qa_c (fJ  (gI:CompOk ["words", "pieces"] (B4 i4).names _ ["piece"] 1 []) (cM (K:=K) (vi iA)) (fun _ _ _ _ _=>P4 (n:=0) (show List.Nodup (["piece"]:List Str) by decide +kernel) rfl (Or.inl rfl)) (fun _ _ _ _ _=>fI) (fun _ _ _ _ _=>(G6 G_is_piece (hm hr) (qa_c (qv 0) A2)))) A2))))))))),?_⟩
  obtain ⟨a,w,ps,rfl,hS,bI,j8,q⟩:=h;walk_at "rd";refine rSlR.l hS fun p np=>?_
  have ecut:cutV ((w::ps).map V.str) (some 1) none=ps.map V.str:=by
   rw [E5];exact afY _ _
  rw [ecut];have S1:Same H (A0 H p (.lst (ps.map V.str))):=Same.new np;have hp:A0 H p (.lst (ps.map V.str)) p=some (.lst (ps.map V.str)):=A3;generalize A0 H p (.lst (ps.map V.str))=H1 at S1 hp;refine ⟨_,.inl (S1.seq hS),V.str w,Q6 _ _,rInR.l (.inr (M_BARE _)) rfl rfl ⟨_,rfl,?_⟩⟩;rw [show [V.str "figures",V.str "blanks",V.str "behind"]=bareL.map V.str from rfl,fC,Bool.false_xor];unfold ruleB at q;refine iteD (fun hw=>?_) fun hw=>?_
  .rw [if_pos hw] at q;exact ⟨!(ps.map V.str).isEmpty,.inl ⟨_,.of hp,rfl⟩,by rw [Bool.not_not,List.isEmpty_map];exact q _ S1⟩
  rw [if_neg hw] at q;refine ⟨_,.inl (S1.seq hS),V.str w,Q6 _ _,?_⟩;walk_at "rd";rw [oX];cases e:fewL.lookup w with
  | none=>
   rw [e] at q;exact iteT (q _ S1)
  | some n=>
   rw [e] at q
   dsimp only at q
   refine iteF ⟨ps.length,.inl ⟨_,.of hp,by rw [B9]⟩,_,.inl (S1.seq hS),V.str w,Q6 _ _,_,kV_str.mpr rfl,_,by rw [oX,e];rfl,?_⟩;walk_at "rd";refine iteD (fun hn=>⟨⟨_,.of hp⟩,compL (xs:=ps.map V.str) [] rfl (fun D i ys H4=>ys=((ps.take i).map D3).map V.bl/\Same H1 H4) (fun D nD=>⟨rfl,Same.new nD⟩) (by rintro D i ys H4 nD _ ⟨_,S⟩;exact .of (S _ _ hp)) ?_ ?_⟩) fun hn=>?_
   .rintro D i x ys H4 nD hi hx ⟨rfl,S⟩ hD hy;obtain ⟨z,hz,rfl⟩:=fD hx;have hzp:=j8 z (Q0 hz);walk_at "rd";refine ⟨V.str z, "str",rfl,rfl,fun z' e'=>?_,fun H5 S5=>?_⟩
    .cases e';exact hzp
    .rw [B9] at hi;refine ⟨S5 _ _ hD,by rw [B9,B9,U3];exact N6 (by lia),CW.put (by rw [B9];exact hi) hy ⟨?_,(S.trans S5).put nD⟩⟩;rw [List.take_add_one,hz];simp [i6]
   .rintro D ys H4 nD ⟨rfl,S⟩ hD hy;walk_at "rd";rw [B9,List.take_length] at hD;refine ⟨ps.map D3,hD,?_⟩;rw [decide_eq_true hn,Bool.true_and] at q;rw [show (ps.map D3).all id=ps.all D3 by rw [List.all_map];rfl];exact q _ (S1.trans S)
   .rw [decide_eq_false hn,Bool.false_and] at q;exact q _ S1
theorem sc_read_rule:FnScope ["line", "words"] ["line"] (B4 Y0):=G3
abbrev qB:List Str:=["line", "words"]
theorem qC:VS qB Y0 "line" 0:=vq
theorem qD:VS qB Y0 "words" 1:=vq
theorem vam:LS Y0 "words":=lq
theorem adW(F:FunD K "read_rule" "read_rule" Y0 f fd)(T:Txt P w K mg C C_NoRule C_Twice)(G_NoRule___init__:EO P w K mg base 1 C_NoRule "NoRule" ["self", "at"] (Z8 K C_NoRule "at"))(G_is_rule:FO P w K mg base 3 "is_rule" ["words"] [] (oW K)):FnOk P w K mg base (Z9 P w) 4 f fd ["line"] (gK C_NoRule):=by
 refine F.okX2 sc_read_rule ?_ ?_
 .rintro _ _ _ _ ⟨x,T',rfl,_⟩;rfl
 .intro cdv A outer s H vs Q E hr h;have F2:=hu_of hr;have hu:=hr.units;refine ⟨_,QSs.out (A6 (qs_if (fG (t6 (K:=K) (qe_cB q_isi T.b_isinstance g0 (qa_c (vi qC) (qa_c (qe_ty T.b_str mQ) A2))))) (B1 (cP (fun _ _ _ _ _ _ _ I h1 h2=>oQ I h1 h2) (cO G_NoRule___init__ (hm hr) (qa_c A1 A2)) (K:=K))) K0)
   (A6 (B6 (n:=1) sc_read_rule.nd rfl vam (qe_mB (K:=K) o6 PySem.F.slot_str_split PySem.F.type_str_split fM (vi qC) (qa_c A5 A2)))
   (A6 (qs_if (fG (t6 (K:=K) (G6 G_is_rule (hm hr) (qa_c (vi qD) A2)))) (B1 (cP (fun _ _ _ _ _ _ _ I h1 h2=>oQ I h1 h2) (cO G_NoRule___init__ (hm hr) (qa_c A1 A2)) (K:=K))) K0)
   (B1 (D9 (qe_cT (nC (K:=K)) T.b_tuple mP (qa_c (vi qD) A2))))))),?_⟩
  obtain ⟨x,T',rfl,ht,q1,q2⟩:=h;obtain ⟨fN,MN⟩:=T.er_NoRule;walk_at "rd";have fin:∀ (H2:Hp),Same H H2->(∀ dx H',Same H H'->H' dx=some (.xd [("at",.int 0)])->E (.ref C_NoRule) (some dx) H')->∀ (x:Addr),H2 x=none->Z8 K C_NoRule "at" [V.ref x,V.int 0] (A0 H2 x (xm s.heap.objs.size x C_NoRule)) (fun v H3=>v=V.non/\∃ x_1 x_2,H3 x=some (xo s.heap.objs.size x x_1 x_2)/\(∃ x,ErrC K x_1 x)/\E (Value.ref x_1) (some x_2) (K1 H3 x)) E0:=fun H2 S2 hE x nx=>
   ⟨s.heap.objs.size,x,0,fN,rfl,A3,MN,T.na_NoRule,by decide,fun dx nd ne=>⟨rfl,C_NoRule,dx,(Q8 nx nd ne).1,⟨fN,MN⟩,hE dx _ (S2.trans (Q8 nx nd ne).2.1) (Q8 nx nd ne).2.2⟩⟩
  by_cases hx:∃ z,x=.str z
  .obtain ⟨z,rfl⟩:=hx;obtain ⟨w',ps,⟨v4,F6,bI,W3⟩,qt,qf⟩:=q1 z rfl;have hl:(w'::ps).length<=1001:=by rw [E8];exact Nat.succ_le_succ bI
   refine ⟨"str",rfl,rfl,iteF ?_⟩;walk_at "rd";refine ⟨z, " ",rfl,rfl,by decide,N7 (by lia),by rw [F6];exact N7 (by lia),fun p np=>?_⟩;rw [F6];have S1:Same H (A0 H p (.lst ((w'::ps).map V.str))):=Same.new np;have hp:A0 H p (.lst ((w'::ps).map V.str)) p=some (.lst ((w'::ps).map V.str)):=A3;refine ⟨p,w',ps,rfl,.of hp,bI,W3,fun H2 S2=>?_⟩;cases e:ruleB w' ps with
   | true=>
    refine ⟨true,rfl,iteF ?_⟩;walk_at "rd";exact rTupR.l (.of (S2 _ _ hp)) fun l nl=>qt e l _ (fun b o h=>B8 (S2 b o (S1 b o h)) nl) A3
   | false=>exact ⟨false,rfl,iteT ⟨by decide,fin H2 (S1.trans S2) (qf e)⟩⟩
  .refine ⟨T',ht,rfl,?_⟩;rw [oU ht fun z e=>hx ⟨z,e⟩];exact iteT ⟨by decide,fin H (fun _ _ h=>h) (q2 fun z e=>hx ⟨z,e⟩)⟩
theorem afg:FnScope ["word"] ["word"] (B4 aA):=G3
abbrev agJ:List Str:=["word"]
theorem qE:VS agJ aA "word" 0:=vq
theorem afh(F:FunD K "is_name" "is_name" aA f fd)(T:Txt P w K mg C C_NoRule C_Twice):FnOk P w K mg base C8 1 f fd ["word"] oZ:=by
 refine F.ok afg ?_ ?_
 .rintro _ _ _ _ ⟨z,rfl,_⟩;rfl
 .intro cdv A outer s H vs Q E hr h;have F2:=hu_of hr;have hu:=hr.units;refine ⟨_,QSs.out (B1 (D9 (g6 (cJ q_le q_le A1 (qe_cB (q_len (K:=K)) T.b_len Q5 (qa_c (vi qE) A2)) A1) (y3 (qe_cB (q_all (calm:=true)) T.b_all fA (qa_c (fJ  (gI:CompOk ["word"] (B4 aA).names _ ["sign"] 1 []) (nA (vi qE)) (fun _ _ _ _ _=>P4 (n:=0) (show List.Nodup (["sign"]:List Str) by decide +kernel) rfl (Or.inl rfl)) (fun _ _ _ _ _=>fI) (fun _ _ _ _ _=>(cJ q_le q_le A5 (qv 0) A5))) A2)))))),?_⟩;obtain ⟨z,rfl,hz,q⟩:=h;have len:z.length=z.cps.toList.length:=by simp [Str.length]
  have e1:(Str.ofString "a").cps.toList=[97]:=by decide +kernel
  have e2:(Str.ofString "z").cps.toList=[122]:=by decide +kernel
  walk_at "rd";refine ⟨N7 (by lia),iteD (fun h1=>iteD (fun h2=>?_) fun h2=>?_) fun h1=>?_⟩
  .refine compS [] rfl (fun D i ys H4=>ys=((z.cps.toList.take i).map fun c=>decide (97<=c)&&decide (c<=122)).map V.bl/\Same H H4) (fun D nD=>⟨rfl,Same.new nD⟩) ?_ ?_
   .rintro D i x ys H4 nD hi hx ⟨rfl,S⟩ hD hy;have l7:((((z.cps.toList.take i).map fun c=>decide (97<=c)&&decide (c<=122)).map V.bl)).length<sizeLine:=by
     rw [B9,B9,U3];exact N6 (by lia)
    walk_at "rd";rw [e1,e2];simp only [fU];refine iteN (fun h3=>⟨hD,l7,CW.put hi hy ⟨?_,S.put nD⟩⟩) fun h3=>⟨hD,l7,CW.put hi hy ⟨?_,S.put nD⟩⟩
    .have e:(decide (97<=x)&&decide (x<=122))=!decide (122<x):=by
      rw [decide_eq_true (by lia:97<=x),Bool.true_and]
      by_cases h4:x<=122
      .rw [decide_eq_true h4,decide_eq_false (by lia)];rfl
      .rw [decide_eq_false h4,decide_eq_true (by lia)];rfl
     rw [nN hx,M2,M2];show _=_++[V.bl (decide (97<=x)&&decide (x<=122))];rw [e]
    .have e:(decide (97<=x)&&decide (x<=122))=false:=by rw [decide_eq_false (by lia:¬ 97<=x)];rfl
     rw [nN hx,M2,M2];show _=_++[V.bl (decide (97<=x)&&decide (x<=122))];rw [e]
   .rintro D ys H4 nD ⟨rfl,S⟩ hD hy;refine ⟨_,rfl,hD,?_⟩;have e:nameB z=((z.cps.toList.take z.cps.size).map fun c=>decide (97<=c)&&decide (c<=122)).all id:=by
     unfold nameB;rw [decide_eq_true (by lia:1<=z.length),decide_eq_true (by lia:z.length<=8),X0 (by simp)]
     simp
    rw [e] at q;exact q H4 S
  .have e:nameB z=false:=by
    unfold nameB;rw [decide_eq_false (by lia:¬ z.length<=8)]
    simp
   rw [e] at q;exact q H (G0 H)
  .have e:nameB z=false:=by
    unfold nameB;rw [decide_eq_false (by lia:¬ 1<=z.length)]
    simp
   rw [e] at q;exact q H (G0 H)
theorem acx:FnScope ["words"] ["words"] (B4 cR):=G3
abbrev acD:List Str:=["words"]
theorem j0:VS acD cR "words" 0:=vq
theorem acy(F:FunD K "is_beginning" "is_beginning" cR f fd)(T:Txt P w K mg C C_NoRule C_Twice)(G_is_name:FO P w K mg base 1 "is_name" ["word"] [] oZ):FnOk P w K mg base C8 2 f fd ["words"] (pF K):=by
 refine F.ok acx ?_ ?_
 .rintro _ _ _ _ ⟨a,w,ps,rfl,_⟩;rfl
 .intro cdv A outer s H vs Q E hr h;have F2:=hu_of hr;have hu:=hr.units;refine ⟨_,QSs.out (A6 (qs_if (D6 (q_ne (K:=K) hu) (qe_ix (K:=K) (vi j0) A1) A5) (B1 (D9 qe_bl)) K0)
   (A6 (qs_if (D6 (q_eq (K:=K) hu) (qe_cB (q_len (K:=K)) T.b_len Q5 (qa_c (vi j0) A2)) A1) (B1 (D9 (G6 G_is_name (hm hr) (qa_c (qe_ix (K:=K) (vi j0) A1) A2)))) K0)
   (B1 (D9 (g6 (X7 (q_eq (K:=K) hu) (qe_cB (q_len (K:=K)) T.b_len Q5 (qa_c (vi j0) A2)) A1) (g6 (G6 G_is_name (hm hr) (qa_c (qe_ix (K:=K) (vi j0) A1) A2)) (g6 (X7 (q_eq (K:=K) hu) (qe_ix (K:=K) (vi j0) A1) A5) (y3 (G6 G_is_name (hm hr) (qa_c (qe_ix (K:=K) (vi j0) A1) A2)))))))))),?_⟩
  obtain ⟨a,w',ps,rfl,ha,hl,hz,q⟩:=h;have fin:∀ {b:Bool} {H':Hp},Same H H'->(begB w' ps).isSome=b->Q (.bl b) H':=fun S e=>by rw [<- e];exact q _ S
  walk_at "rd";refine ⟨_,.inl (.of ha),V.str w',Q6 _ _,?_⟩;walk_at "rd"
  by_cases hw:w'=Str.ofString "order"
  .rw [if_neg (by rw [decide_eq_true hw];decide)]
   rcases ps with _ | ⟨n,_ | ⟨f,_ | ⟨e,_ | ⟨g,r⟩⟩⟩⟩
   .exact ⟨1,.inl ⟨_,.of ha,rfl⟩,iteF ⟨1,.inl ⟨_,.of ha,rfl⟩,iteF (fin (G0 _) rfl)⟩⟩
   .refine ⟨2,.inl ⟨_,.of ha,rfl⟩,iteT ⟨_,.inl (.of ha),V.str n,N5 (j:=1) rfl,n,rfl,C3 (hz n (by simp)) (by decide),fun H1 S1=>fin S1 ?_⟩⟩;rw [gT]
    by_cases hn:nameB n=true
    .rw [if_pos ⟨hw,hn⟩,hn];rfl
    .rw [if_neg (fun h=>hn h.2)];rw [Bool.not_eq_true] at hn;rw [hn];rfl
   .exact ⟨3,.inl ⟨_,.of ha,rfl⟩,iteF ⟨3,.inl ⟨_,.of ha,rfl⟩,iteF (fin (G0 _) rfl)⟩⟩
   .refine ⟨4,.inl ⟨_,.of ha,rfl⟩,iteF ⟨4,.inl ⟨_,.of ha,rfl⟩,iteT ⟨_,.inl (.of ha),V.str n,N5 (j:=1) rfl,n,rfl,C3 (hz n (by simp)) (by decide),fun H1 S1=>⟨_,rfl,?_⟩⟩⟩⟩;rw [gU] at fin
    by_cases hn:nameB n=true
    .rw [if_pos hn];refine ⟨_,.inl (.of (S1 _ _ ha)),V.str f,N5 (j:=2) rfl,?_⟩;walk_at "rd";refine iteD (fun hf=>?_) fun hf=>fin S1 (by rw [if_neg (fun h=>hf h.2.2.1)];rfl)
     refine ⟨_,.inl (.of (S1 _ _ ha)),V.str e,N5 (j:=3) rfl,e,rfl,C3 (hz e (by simp)) (by decide),fun H2 S2=>fin (S1.trans S2) ?_⟩
     by_cases he:nameB e=true
     .rw [if_pos ⟨hw,hn,hf,he⟩,he];rfl
     .rw [if_neg (fun h=>he h.2.2.2)];rw [Bool.not_eq_true] at he;rw [he];rfl
    .rw [if_neg hn];exact fin S1 (by rw [if_neg (fun h=>hn h.2.1)];rfl)
   .refine ⟨r.length+5,.inl ⟨_,.of ha,by simp⟩,?_⟩;rw [if_neg (by rw [decide_eq_true_iff];lia)];refine ⟨r.length+5,.inl ⟨_,.of ha,by simp⟩,?_⟩;rw [if_neg (by rw [decide_eq_true_iff];lia)];exact fin (G0 _) rfl
  .rw [if_pos (by rw [decide_eq_false hw];rfl)];exact fin (G0 _) (by rw [pE hw];rfl)
theorem sc_Book_begin:FnScope ["self", "words", "name"] ["self", "words"] (B4 V4):=G3
abbrev iB:List Str:=["self", "words", "name"]
theorem dB:VS iB V4 "self" 0:=vq
theorem iC:VS iB V4 "words" 1:=vq
theorem aF:VS iB V4 "name" 2:=vq
theorem vas:LS V4 "name":=lq
theorem adi(F:FunD K "begin" "Book.begin" V4 f fd)(T:Txt P w K mg C C_NoRule C_Twice)(G_Twice___init__:EO P w K mg base 1 C_Twice "Twice" ["self", "name"] (gR K C_Twice "name")):FnOk P w K mg base (J3 P w) 3 f fd ["self", "words"] (gX C C_Twice):=by
 refine F.okX sc_Book_begin ?_ ?_
 .rintro _ _ _ _ ⟨b,w,dx,o,e,n,x,H0,B,ad,as,k,rfl,_⟩;rfl
 .intro cdv A outer s H vs Q E hr h;have F2:=hu_of hr;have hu:=hr.units;refine ⟨_,QSs.out (A6 (B6 (n:=2) sc_Book_begin.nd rfl vas (qe_ix (K:=K) (vi iC) A1))
   (A6 (qs_if (D6 (q_in (K:=K) hu) (vi aF) (X8 (K:=K) (vi dB))) (B1 (cP (fun _ _ _ _ _ _ _ I h1 h2=>oF I h1 h2) (cO G_Twice___init__ (hm hr) (qa_c (vi aF) A2)) (K:=K))) K0)
   (A6 (mZ F2 (X8 (K:=K) (vi dB)) (vi aF) (M0 A2))
   (g7 (qs_if (D6 q_gt (qe_cB (q_len (K:=K)) T.b_len Q5 (qa_c (vi iC) A2)) A1) (B1 (mZ F2 (X8 (K:=K) (vi dB)) (vi aF) (qe_ix (K:=K) (vi iC) A1))) K0)
   (B1 (z5 (K:=K) (vi dB) (vi aF))))))),?_⟩
  obtain ⟨b,w,dx,o,e,n,x,H0,B,ad,as,k,rfl,hw,bk,hok,gd,q,q2⟩:=h;obtain ⟨fT,MT⟩:=T.er_Twice;have k6:=ael hok.1;have hw1:J8 ((Ln.beg n x).words.map V.str) 1=some (V.str n):=by cases x <;> exact N5 (j:=1) rfl
  walk_at "rd";refine ⟨_,.inl (.of hw),V.str n,hw1,C,dx,_,bk.obj,T.cl,T.na_own,V.ref o,cU _ _ _ _,?_⟩;walk_at "rd";refine rInR.d (DGet.k (k:=Sum.inr n) bk.own) ⟨_,rfl,?_⟩;rw [fR]
  by_cases M7:n∈B.names
  .rw [if_pos M7,Option.isSome_some,Bool.false_xor];exact iteT ⟨by decide,fun y ny=>⟨s.heap.objs.size,y,n,fT,rfl,A3,MT,T.na_Twice,C3 k6.1 (by decide),k6.2,fun bJ nd ne=>⟨rfl,C_Twice,bJ,(Q8 ny nd ne).1,⟨fT,MT⟩,q2 M7 bJ _ (Q8 ny nd ne).2.1 (Q8 ny nd ne).2.2⟩⟩⟩
  have ft:B.Fit (.beg n x):=⟨M7,hok⟩
  have q:=q M7;rw [if_neg M7,Option.isSome_none,Bool.false_xor];refine iteF fun p np=>⟨C,dx,_,B8 bk.obj np,T.cl,T.na_own,V.ref o,cU _ _ _ _,o,rfl,_,mE (k:=Sum.inr n) (B8 bk.own np) (by rw [nM];have:=gd.cnt;exact N6 (by lia)),?_⟩
  have b8:b≠o:=fun z=>by have:=bk.obj;rw [z,bk.own] at this;cases this
  have P6:b≠e:=fun z=>by have:=bk.obj;rw [z,bk.eld] at this;cases this
  have hwo:w≠o:=fun z=>by rw [z,bk.own] at hw;cases hw
  have hwe:w≠e:=fun z=>by rw [z,bk.eld] at hw;cases hw
  have npH0:H0 p=none:=bk.same.free np;have dr1:=bk.dr.more ft.1 np npH0;have noT:∀ {H:Hp} {q:Addr} {kvs:List (A9×V)},H q=some (.dK kvs)->∀ z:Rl,H q≠some (tupR z):=fun h z e=>by rw [h] at e;cases e
  have nad:∀ {q:Addr} {kvs:List (A9×V)},H q=some (.dK kvs)->∀ t∈B.names++[n],(if t=n then p else ad t)≠q:=fun {q kvs} h t ht=>by
   by_cases z:t=n
   .rw [if_pos z];exact fun z2=>by rw [<- z2,np] at h;cases h
   .rw [if_neg z];intro z2;have ht2:t∈B.names:=by
     rcases N3.mp ht with h | h
     .exact h
     .exact absurd (Q1.mp h) z
    have:=(bk.dr.row t ht2).top
    rw [z2,h] at this
    cases this
  have h2o:A0 (A0 H p (.lst [])) o (.dK (putK (D7 B.names fun t=>V.ref (ad t)) (Sum.inr n) (V.ref p))) o=some (.dK (D7 (B.names++[n]) fun t=>V.ref (if t=n then p else ad t))):=by
   rw [A3,nL _ ft.1];refine congrArg (fun x=>some (HO.dK x)) (fS fun t _=>?_)
   by_cases z:t=n
   .rw [if_pos z,if_pos z]
   .rw [if_neg z,if_neg z]
  have h2b:A0 (A0 H p (.lst [])) o (.dK (putK (D7 B.names fun t=>V.ref (ad t)) (Sum.inr n) (V.ref p))) b=some (.ins C dx (flds o e (orNon B.nw) k)):=by rw [A7 b8];exact B8 bk.obj np
  have h2e:A0 (A0 H p (.lst [])) o (.dK (putK (D7 B.names fun t=>V.ref (ad t)) (Sum.inr n) (V.ref p))) e=some (.dK (D7 (B.names.filter fun t=>(B.el t).isSome) fun t=>.str ((B.el t).getD ""))):=by rw [A7 bk.oe.symm];exact B8 bk.eld np
  have h2w:A0 (A0 H p (.lst [])) o (.dK (putK (D7 B.names fun t=>V.ref (ad t)) (Sum.inr n) (V.ref p))) w=some (.lst ((Ln.beg n x).words.map V.str)):=by rw [A7 hwo];exact B8 hw np
  have S2:Same H0 (A0 (A0 H p (.lst [])) o (.dK (putK (D7 B.names fun t=>V.ref (ad t)) (Sum.inr n) (V.ref p)))):=(bk.same.trans (Same.new np)).put bk.no;have kB:=dr1.put (b:=o) (v:=.dK (putK (D7 B.names fun t=>V.ref (ad t)) (Sum.inr n) (V.ref p))) (nad bk.own) (noT (B8 bk.own np));generalize A0 (A0 H p (.lst [])) o (.dK (putK (D7 B.names fun t=>V.ref (ad t)) (Sum.inr n) (V.ref p)))=H2 at h2o h2b h2e h2w S2 kB ⊢
  refine g8 (fun Y H3=>Y=[some (.ref b),some (.ref w),some (.str n)]/\H3 b=some (.ins C dx (flds o e (orNon B.nw) k))/\H3 o=some (.dK (D7 (B.names++[n]) fun t=>V.ref (if t=n then p else ad t)))/\
    H3 e=some (.dK (D7 ((B.names++[n]).filter fun t=>(if t=n then x else B.el t).isSome) fun t=>.str ((if t=n then x else B.el t).getD "")))/\Same H0 H3/\DR H0 H3 (B.names++[n]) (fun t=>if t=n then p else ad t) (fun t=>if t=n then [] else as t) (fun t=>if t=n then [] else B.rl t)) ?_ ?_
  .walk_at "rd";have oldE:(D7 (B.names.filter fun t=>(B.el t).isSome) fun t=>V.str ((B.el t).getD ""))=D7 (B.names.filter fun t=>(B.el t).isSome) fun t=>V.str ((if t=n then x else B.el t).getD ""):=fS fun t ht=>by rw [if_neg (fun z=>ft.1 (by rw [<- z];exact (List.mem_filter.mp ht).1))]
   cases x with
   | none=>
    refine ⟨2,.inl ⟨_,.of h2w,rfl⟩,iteF ⟨h2b,h2o,?_,S2,kB⟩⟩;rw [h2e,ahQ ft.1,oldE]
   | some y=>
    refine ⟨4,.inl ⟨_,.of h2w,rfl⟩,iteT ⟨_,.inl (.of h2w),V.str y,N5 (j:=3) rfl,C,dx,_,h2b,T.cl,T.na_elders,V.ref e,alA _ _ _ _,e,rfl,_,mE (k:=Sum.inr n) h2e (by rw [nM];have:=gd.cnt;have h3:=List.length_filter_le (fun t=>(B.el t).isSome) B.names;exact N6 (by lia)),?_,?_,?_,S2.put bk.ne,kB.put (nad bk.eld) (noT h2e)⟩⟩
    .rw [A7 P6];exact h2b
    .rw [A7 bk.oe];exact h2o
    .rw [A3,ahR ft.1,nL _ (fun z=>ft.1 (List.mem_filter.mp z).1)];refine congrArg (fun x=>some (HO.dK x)) (fS fun t _=>?_)
     by_cases z:t=n
     .rw [if_pos z,if_pos z];rfl
     .rw [if_neg z,if_neg z]
  rintro Y H3 ⟨rfl,h3b,h3o,h3e,S3,sF⟩;walk_at "rd";refine ⟨C,dx,_,h3b,T.cl,T.na_newest,(by show 4<1000;decide),?_⟩;rw [alB];have noI:∀ z:Rl,H3 b≠some (tupR z):=fun z e=>by rw [h3b] at e;cases e
  refine q _ _ _ ⟨A3,?_,?_,sF.put (fun t ht z=>?_) noI,bk.nb,bk.no,bk.ne,bk.oe,S3.put bk.nb⟩
  .rw [A7 b8.symm];exact h3o
  .rw [A7 P6.symm];exact h3e
  .have:=(sF.row t ht).top
   rw [z,h3b] at this
   cases this
theorem sc_Book_add_rule:FnScope ["self", "line", "rule"] ["self", "line"] (B4 V5):=G3
abbrev iD:List Str:=["self", "line", "rule"]
theorem aG:VS iD V5 "self" 0:=vq
theorem vau:VS iD V5 "line" 1:=vq
theorem vav:VS iD V5 "rule" 2:=vq
theorem vaw:LS V5 "rule":=lq
theorem ab2(F:FunD K "add_rule" "Book.add_rule" V5 f fd)(T:Txt P w K mg C C_NoRule C_Twice)(G_NoRule___init__:EO P w K mg base 1 C_NoRule "NoRule" ["self", "at"] (Z8 K C_NoRule "at"))(GH_NoRule___init__:gH P w K mg base 1 C_NoRule "NoRule" ["self", "at"] (Z8 K C_NoRule "at"))(G_read_rule:FOX2 P w K mg base 4 "read_rule" ["line"] [] (gK C_NoRule)):FnOk P w K mg base (J3 P w) 5 f fd ["self", "line"] (gS C C_NoRule):=by
 refine F.okX sc_Book_add_rule ?_ ?_
 .rintro _ _ _ _ ⟨b,dx,o,e,z,w,ps,H0,B,ad,as,k,rfl,_⟩;rfl
 .intro cdv A outer s H vs Q E hr h;have F2:=hu_of hr;have hu:=hr.units;obtain ⟨d_NoRule,md_NoRule,CC_NoRule,mr_NoRule⟩:=T.c_NoRule;refine ⟨_,QSs.out (A6 (qs_if (D6 q_isN (X8 (K:=K) (vi aG)) fE) (B1 (cP (fun _ _ _ _ _ _ _ I h1 h2=>oF I h1 h2) (cO G_NoRule___init__ (hm hr) (qa_c (X8 (K:=K) (vi aG)) A2)) (K:=K))) K0)
   (A6 (ajY G_read_rule (hm hr) (fun _=>(qa_c (vi vau) A2)) md_NoRule CC_NoRule sc_Book_add_rule.nd (j:=2) rfl vaw (fun _ _=>(aj1 GH_NoRule___init__ (hm hr) (qa_c (X8 (K:=K) (vi aG)) A2) rfl)) (fun _ _ _ _ _ _ _ _ _ _ _ _ I h1 h2 h3 h4 h5 h6=>ajX I h1 h2 h3 h4 h5 h6) (K:=K))
   (B1 (K9 (qe_mB (K:=K) P0 O9 O8 P5 (ajp F2 (X8 (K:=K) (vi aG)) (X8 (K:=K) (vi aG))) (qa_c (vi vav) A2)))))),?_⟩
  obtain ⟨b,dx,o,e,z,w',ps,H0,B,ad,as,k,rfl,bk,W2,gd,hk,q1,q2⟩:=h;obtain ⟨fN,MN⟩:=T.er_NoRule;walk_at "rd";refine ⟨C,dx,_,bk.obj,T.cl,T.na_newest,orNon B.nw,pC _ _ _ _,?_⟩;have sG:((k:Int)).natAbs<10 ^ 9:=by lia
  cases W4:B.nw with
  | none=>
   refine iteT ⟨C,dx,_,bk.obj,T.cl,T.na_length,.int k,gP _ _ _ _,by decide,fun x nx=>?_⟩;exact ⟨s.heap.objs.size,x,k,fN,rfl,A3,MN,T.na_NoRule,sG,fun dx' nd ne=>⟨rfl,C_NoRule,dx',(Q8 nx nd ne).1,⟨fN,MN⟩,q2 (.inl W4) dx' _ (Q8 nx nd ne).2.1 (Q8 nx nd ne).2.2⟩⟩
  | some t=>
   have ht:=gd.nw t W4;refine iteF ⟨.str z, "str",rfl,rfl,fun z' ez=>?_,fun h=>absurd rfl (h z)⟩;cases ez;refine ⟨w',ps,W2,fun hb p H1 S1 hp=>?_,fun hb dx' H1 S1 hd=>⟨C_NoRule,rfl,dx',rfl,mr_NoRule.1,fun y ny=>?_⟩⟩
   rotate_left
   .have bk2:=(bk.keep S1).keep (Same.new (u:=xk y C_NoRule dx') ny);refine ⟨C,dx,_,bk2.obj,T.cl,T.na_length,.int k,gP _ _ _ _,by decide,fun x nx=>?_⟩;have nxy:x≠y:=fun q=>by rw [q,A3] at nx;cases nx
    exact ⟨s.heap.objs.size,x,k,fN,rfl,A3,MN,T.na_NoRule,sG,fun bJ nd ne=>⟨rfl,C_NoRule,bJ,(Q8 nx nd ne).1,nxy,by
     rw [A7 (fun q=>by rw [<- q] at nd;rw [A7 (Ne.symm nxy),A3] at nd;cases nd),A7 (Ne.symm nxy),A7 (Ne.symm nxy),A3],⟨fN,MN⟩,q2 (.inr hb) bJ _ ((S1.trans (Same.new ny)).trans (Q8 nx nd ne).2.1) (Q8 nx nd ne).2.2⟩⟩
   have b1:=bk.keep S1;refine ⟨C,dx,_,b1.obj,T.cl,T.na_own,V.ref o,cU _ _ _ _,C,dx,_,b1.obj,T.cl,T.na_newest,orNon B.nw,pC _ _ _ _,o,rfl,V.ref (ad t),.inl ⟨_,Sum.inr t,.inl b1.own,by rw [W4];rfl,by rw [fR,if_pos ht]⟩,P3 (b1.dr.row t ht).top,appOk (b1.dr.row t ht).top ?_ ?_⟩
   .rw [B9,show (as t).length=(B.rl t).length from Paired.length (b1.dr.row t ht).row]
    have:=gd.len t ht
    exact N6 (by lia)
   have jI:H1 p=some (tupR (w',ps)):=hp;have N9:H1 (ad t)=some (.lst ((as t).map V.ref)):=(b1.dr.row t ht).top;refine q1 (by rw [W4];simp) hb _ _ _ ⟨?_,?_,?_,(b1.dr.app ht jI).congr fun u hu=>?_,bk.nb,bk.no,bk.ne,bk.oe,b1.same.put (bk.dr.new t ht)⟩
   .rw [A7 (fun zz=>by rw [<- zz,b1.obj] at N9;cases N9)];exact b1.obj
   .rw [A7 (fun zz=>by rw [<- zz,b1.own] at N9;cases N9)];exact b1.own
   .rw [A7 (fun zz=>by rw [<- zz,b1.eld] at N9;cases N9)];exact b1.eld
   .show (if u=t then B.rl t++[(w',ps)] else B.rl u)=if B.nw=some u then B.rl u++[(w',ps)] else B.rl u
    rw [W4]
    by_cases h:u=t
    .rw [if_pos h,h,if_pos rfl]
    .rw [if_neg h,if_neg (fun zz=>h (Option.some.inj zz).symm)]
theorem sc_Book_tell:FnScope ["self", "line", "words"] ["self", "line"] (B4 V6):=G3
abbrev iE:List Str:=["self", "line", "words"]
theorem iF:VS iE V6 "self" 0:=vq
theorem qF:VS iE V6 "line" 1:=vq
theorem qG:VS iE V6 "words" 2:=vq
theorem vaA:LS V6 "words":=lq
theorem adX(F:FunD K "tell" "Book.tell" V6 f fd)(T:Txt P w K mg C C_NoRule C_Twice)(G_is_beginning:FO P w K mg base 2 "is_beginning" ["words"] [] (pF K))(G_Book_begin:i3 P w K mg base 3 C "begin" ["self", "words"] (gX C C_Twice))(G_Book_add_rule:i3 P w K mg base 5 C "add_rule" ["self", "line"] (gS C C_NoRule)):FnOk P w K mg base (J3 P w) 6 f fd ["self", "line"] (gY C C_NoRule C_Twice):=by
 refine F.okX sc_Book_tell ?_ ?_
 .rintro _ _ _ _ ⟨b,dx,o,e,z,w,ps,H0,B,ad,as,k,rfl,_⟩;rfl
 .intro cdv A outer s H vs Q E hr h;have F2:=hu_of hr;have hu:=hr.units;refine ⟨_,QSs.out (A6 (B6 (n:=2) sc_Book_tell.nd rfl vaA (qe_mB (K:=K) o6 PySem.F.slot_str_split PySem.F.type_str_split fM (vi qF) (qa_c A5 A2)))
   (g7 (qs_if (t6 (K:=K) (G6 G_is_beginning (hm hr) (qa_c (vi qG) A2))) (B1 (K9 (gG (vi iF) G_Book_begin (hm hr) gA (qa_c (vi qG) A2)))) (B1 (K9 (gG (vi iF) G_Book_add_rule (hm hr) gA (qa_c (vi qF) A2)))))
   (B1 (af6 (K:=K) (vi iF) A1 alc)))),?_⟩
  obtain ⟨b,dx,o,e,z,w',ps,H0,B,ad,as,k,rfl,bk,W2,gd,hk,q,qt,qn⟩:=h;obtain ⟨v4,F6,bI,W3⟩:=id W2;walk_at "rd";refine ⟨z, " ",rfl,rfl,by decide,N7 (by lia),by rw [F6,E8];exact N7 (by lia),fun p np=>?_⟩;rw [F6];have S1:Same H (A0 H p (.lst ((w'::ps).map V.str))):=Same.new np;have b1:=bk.keep S1;have W5:A0 H p (.lst ((w'::ps).map V.str)) p=some (.lst ((w'::ps).map V.str)):=A3;generalize A0 H p (.lst ((w'::ps).map V.str))=H1 at S1 b1 W5 ⊢
  refine g8 (fun Y H3=>Y=[some (.ref b),some (.str z),some (.ref p)]/\∃ B' ad' as',N8 B w' ps=some B'/\BookAt C H0 H3 b dx o e B' ad' as' k) ?_ ?_
  .walk_at "rd";refine ⟨p,w',ps,rfl,W5,bI,W3,fun H2 S2=>?_⟩;have b2:=b1.keep S2;have bK:=S1.trans S2;cases hb:begB w' ps with
   | some nx=>
    have hw:=gW (n:=nx.1) (x:=nx.2) hb;exact ⟨true,rfl,iteT ⟨dx,_,b2.obj,rfl,b,p,dx,o,e,nx.1,nx.2,H0,B,ad,as,k,rfl,by rw [<- hw.1];exact S2 _ _ W5,b2,hw.2,gd,fun M7 ad' as' H3 b3=>⟨_,by unfold N8;rw [hb];exact if_neg M7,ad',as',b3⟩,fun M7 dx' H' S' hd=>qt nx hb M7 dx' H' (bK.trans S') hd⟩⟩
   | none=>
    exact ⟨false,rfl,iteF ⟨dx,_,b2.obj,rfl,b,dx,o,e,z,w',ps,H0,B,ad,as,k,rfl,b2,W2,gd,hk,fun h1 h2 ad' as' H3 b3=>⟨_,by unfold N8;rw [hb];exact if_neg (fun h=>h.elim h1 fun h3=>by rw [h2] at h3;cases h3),ad',as',b3⟩,fun h1 dx' H' S' hd=>qn hb h1 dx' H' (bK.trans S') hd⟩⟩
  rintro Y H3 ⟨rfl,B',ad',as',hB,b3⟩;walk_at "rd";refine ⟨C,dx,_,b3.obj,T.cl,T.na_length,.int k,gP _ _ _ _,k,1,rfl,rfl,dx,_,b3.obj,(by show 4<1000;decide),?_⟩;rw [alC];exact q B' hB ad' as' _ (b3.tick ((k:Int)+1))
theorem sc_Book___init__:FnScope ["self", "text", "line"] ["self", "text"] (B4 V7):=G3
abbrev iG:List Str:=["self", "text", "line"]
theorem aH:VS iG V7 "self" 0:=vq
theorem qH:VS iG V7 "text" 1:=vq
theorem vaD:VS iG V7 "line" 2:=vq
theorem vaE:LS V7 "line":=lq
theorem ab3(F:FunD K "__init__" "Book.__init__" V7 f fd)(T:Txt P w K mg C C_NoRule C_Twice)(G_Book_tell:i3 P w K mg base 6 C "tell" ["self", "line"] (gY C C_NoRule C_Twice)):FnOk P w K mg base (J3 P w) 7 f fd ["self", "text"] (spBIX C C_NoRule C_Twice):=by
 refine F.okX sc_Book___init__ ?_ ?_
 .rintro _ _ _ _ ⟨b,dx,T,zs,W,H0,rfl,_⟩;rfl
 .intro cdv A outer s H vs Q E hr h;have F2:=hu_of hr;have hu:=hr.units;refine ⟨_,QSs.out (A6 (z5 (K:=K) (vi aH) mY)
   (A6 (z5 (K:=K) (vi aH) mY)
   (A6 (z5 (K:=K) (vi aH) fE)
   (A6 (z5 (K:=K) (vi aH) A1)
   (B1 (qs_if (t6 (K:=K) (vi qH)) (B1 (Z5 PassesOwn.leaving (cM (K:=K) (qe_mB (K:=K) o6 PySem.F.slot_str_split PySem.F.type_str_split fM (vi qH) (qa_c A5 A2))) (P4 (n:=2) sc_Book___init__.nd rfl vaE (.inl rfl)) (B1 (K9 (gG (vi aH) G_Book_tell (hm hr) gA (qa_c (vi vaD) A2)))))) K0)))))),?_⟩
  obtain ⟨b,dx,T',zs,W,H0,rfl,rfl,nb,ndx,L7,hT,q0,q1,qt,qn⟩:=h;walk_at "rd";intro o no;have S0:Same H0 (A0 (A0 H0 dx (.own b)) b (.ins C dx [])):=fun c u h=>by rw [A7 (F4 h nb),A7 (F4 h ndx)];exact h
  have kC:A0 (A0 H0 dx (.own b)) b (.ins C dx []) b=some (.ins C dx []):=A3;generalize A0 (A0 H0 dx (.own b)) b (.ins C dx [])=Ha at S0 kC no ⊢
  have noH:=S0.free no;have b8:b≠o:=fun z=>by rw [<- z,kC] at no;cases no
  refine ⟨C,dx,[],B8 kC no,T.cl,T.na_own,by decide,fun e ne=>?_⟩;rw [show putF (Str.ofString "own") (V.ref o) []=[(Str.ofString "own",V.ref o)] from rfl] at ne ⊢
  have h1b:A0 (A0 Ha o (.dK [])) b (.ins C dx [(Str.ofString "own",V.ref o)]) b=some (.ins C dx [(Str.ofString "own",V.ref o)]):=A3;have h1o:A0 (A0 Ha o (.dK [])) b (.ins C dx [(Str.ofString "own",V.ref o)]) o=some (.dK []):=by rw [A7 b8.symm,A3]
  have S1:Same H0 (A0 (A0 Ha o (.dK [])) b (.ins C dx [(Str.ofString "own",V.ref o)])):=(S0.trans (Same.new no)).put nb;generalize A0 (A0 Ha o (.dK [])) b (.ins C dx [(Str.ofString "own",V.ref o)])=Hb at h1b h1o S1 ne ⊢
  have neH:=S1.free ne;have P6:b≠e:=fun z=>by rw [<- z,h1b] at ne;cases ne
  have sH:o≠e:=fun z=>by rw [<- z,h1o] at ne;cases ne
  refine ⟨C,dx,_,B8 h1b ne,T.cl,T.na_elders,(by show 1<1000;decide),?_⟩;rw [show putF (Str.ofString "elders") (V.ref e) [(Str.ofString "own",V.ref o)]=[(Str.ofString "own",V.ref o),(Str.ofString "elders",V.ref e)] from rfl];have h2b:A0 (A0 Hb e (.dK [])) b (.ins C dx [(Str.ofString "own",V.ref o),(Str.ofString "elders",V.ref e)]) b=some (.ins C dx [(Str.ofString "own",V.ref o),(Str.ofString "elders",V.ref e)]):=A3;have h2o:A0 (A0 Hb e (.dK [])) b (.ins C dx [(Str.ofString "own",V.ref o),(Str.ofString "elders",V.ref e)]) o=some (.dK []):=by rw [A7 b8.symm];exact B8 h1o ne
  have h2e:A0 (A0 Hb e (.dK [])) b (.ins C dx [(Str.ofString "own",V.ref o),(Str.ofString "elders",V.ref e)]) e=some (.dK []):=by rw [A7 P6.symm,A3]
  have S2:Same H0 (A0 (A0 Hb e (.dK [])) b (.ins C dx [(Str.ofString "own",V.ref o),(Str.ofString "elders",V.ref e)])):=(S1.trans (Same.new ne)).put nb;generalize A0 (A0 Hb e (.dK [])) b (.ins C dx [(Str.ofString "own",V.ref o),(Str.ofString "elders",V.ref e)])=Hc at h2b h2o h2e S2 ⊢
  refine ⟨C,dx,_,h2b,T.cl,T.na_newest,(by show 2<1000;decide),C,dx,_,A3,T.cl,T.na_length,(by show 3<1000;decide),?_⟩;rw [tD,show putF (Str.ofString "length") (V.int 0) (putF (Str.ofString "newest") V.non [(Str.ofString "own",V.ref o),(Str.ofString "elders",V.ref e)])=flds o e V.non 0 from rfl];have bk:BookAt C H0 (A0 Hc b (.ins C dx (flds o e V.non 0))) b dx o e Bk.nil (fun _=>0) (fun _=>[]) 0:=⟨A3,by rw [A7 b8.symm];exact h2o,by rw [A7 P6.symm];exact h2e,DR.nil _ _ _ _ _,nb,noH,neH,sH,S2.put nb⟩
  generalize A0 Hc b (.ins C dx (flds o e V.non 0))=Hd at bk ⊢
  rcases hT with hT | ⟨kD,A8,v4,sI,rfl,kE⟩
  .refine ⟨by rw [hT];decide,?_⟩;rw [show ((T'.length:Int) != 0)=false by rw [hT];rfl];exact iteF (q0 hT o e _ _ Hd bk)
  refine ⟨N7 (by lia),?_⟩;have F6:Txt.split (Str.join "\n" zs) "\n"=zs:=by
   rw [pA];exact fQ (by decide) sI fun z hz hm=>(kE z hz).2 hm
  rw [show (((Str.join "\n" zs).length:Int) != 0)=true by simp;lia];refine iteT ⟨_, "\n",rfl,rfl,by decide,N7 (by lia),by rw [F6];exact N7 (by lia),fun p np=>?_⟩;rw [F6];have npH0:H0 p=none:=bk.same.free np;have bp:∀ {c:Addr} {u:HO},Hd c=some u->c≠p:=fun h z=>by rw [z,np] at h;cases h
  have bs:BookAt C (A0 H0 p (.lst (zs.map V.str))) (A0 Hd p (.lst (zs.map V.str))) b dx o e Bk.nil (fun _=>0) (fun _=>[]) 0:=by
   refine ⟨B8 bk.obj np,B8 bk.own np,B8 bk.eld np,DR.nil _ _ _ _ _,?_,?_,?_,sH,fun c u h=>?_⟩
   .rw [A7 (bp bk.obj)];exact nb
   .rw [A7 (bp bk.own)];exact noH
   .rw [A7 (bp bk.eld)];exact neH
   .by_cases z:c=p
    .rw [z,A3] at h ⊢;exact h
    .rw [A7 z] at h ⊢;exact bk.same c u h
  refine ⟨p,rfl,⟨_,.of A3⟩,forL (xs:=zs.map V.str) (fun i Y H2=>∃ (u:Option V) (B:Bk) (ad:Str->Addr) (as:Str->List Addr),Y=[some (.ref b),some (.str (Str.join "\n" zs)),u]/\G4 W zs i=some B/\B.Good i/\BookAt C (A0 H0 p (.lst (zs.map V.str))) H2 b dx o e B ad as (i:Nat)) ⟨none,_,_,_,rfl,rfl,Bk.Good.start,bs⟩ (by rintro i Y H2 _ ⟨_,_,_,_,_,_,_,x⟩;exact .of (x.same _ _ A3)) ?_ ?_⟩
  .rintro i x Y H2 hx ⟨u,B,ad,as,rfl,hB,gB,bi⟩;obtain ⟨z,hz,rfl⟩:=fD hx;have hi:i<zs.length:=(W9.mp hz).1;have hS:Same H0 H2:=(Same.new npH0).trans bi.same;walk_at "rd";refine ⟨dx,_,bi.obj,rfl,b,dx,o,e,z,(W z).1,(W z).2,_,B,ad,as,i,rfl,bi,(kE z (Q0 hz)).1,gB.mono (by lia),by lia,fun B' hB' ad' as' H3 b3=>?_,fun nx h1 h2 dx' H' S' hd=>qt i z B nx hz hB h1 h2 dx' H' (hS.trans S') hd,fun h1 h2 dx' H' S' hd=>qn i z B hz hB h1 h2 dx' H' (hS.trans S') hd⟩;exact ⟨B',by unfold G4;rw [hB,hz];exact hB',pG gB (kE z (Q0 hz)).1 hB',ad',as',b3⟩
  .rintro Y H2 ⟨u,B,ad,as,rfl,hB,gB,bi⟩;rw [B9] at hB bi;exact q1 B hB o e ad as H2 (bi.base (Same.new npH0))
theorem adj:FnScope ["self"] ["self"] (B4 i5):=G3
abbrev adY:List Str:=["self"]
theorem vaF:VS adY i5 "self" 0:=vq
theorem adk(F:FunD K "names" "Book.names" i5 f fd)(T:Txt P w K mg C C_NoRule C_Twice):FnOk P w K mg base C8 1 f fd ["self"] (gM C):=by
 refine F.ok adj ?_ ?_
 .rintro _ _ _ _ ⟨b,dx,o,e,H0,B,ad,as,k,rfl,_⟩;rfl
 .intro cdv A outer s H vs Q E hr h;have F2:=hu_of hr;have hu:=hr.units;refine ⟨_,QSs.out (B1 (D9 (qe_cT (alb (K:=K) (calm:=true)) T.b_list ajj (qa_c (X8 (K:=K) (vi vaF)) A2)))),?_⟩;obtain ⟨b,dx,o,e,H0,B,ad,as,k,rfl,bk,gd,q⟩:=h;walk_at "rd";refine ⟨C,dx,_,bk.obj,T.cl,T.na_own,V.ref o,cU _ _ _ _,?_⟩;walk_at "rd";refine rListR.d (.of bk.own) fun l nl=>?_
  rw [ahy];exact q l _ nl (Same.new nl) A3
theorem adZ:FnScope ["_law_script", "_law_k"] ["_law_script", "_law_k"] (B4 aB):=G3
abbrev qI:List Str:=["_law_script", "_law_k"]
theorem qJ:VS qI aB "_law_script" 0:=vq
theorem qK:VS qI aB "_law_k" 1:=vq
theorem ad0(F:FunD K "_law_cell_at" "_law_cell_at" aB f fd)(T:Txt P w K mg C C_NoRule C_Twice):FnOk P w K mg base C8 1 f fd ["_law_script", "_law_k"] (gJ K):=by
 refine F.ok adZ ?_ ?_
 .rintro _ _ _ _ ⟨a,ns,k,rfl,_⟩;rfl
 .intro cdv A outer s H vs Q E hr h;have F2:=hu_of hr;have hu:=hr.units;refine ⟨_,QSs.out (A6 (qs_if (D6 q_lt (vi qK) (qe_cB (q_len (K:=K)) T.b_len Q5 (qa_c (vi qJ) A2))) (B1 (D9 (qe_ix (K:=K) (vi qJ) (vi qK)))) K0)
   (B1 (D9 A1))),?_⟩
  obtain ⟨a,ns,k,rfl,hS,hk,q⟩:=h;walk_at "rd";refine ⟨ns.length,.inl ⟨_,hS,by rw [B9]⟩,iteD (fun D5=>?_) fun _=>q 0⟩;have h1:k<((ns.map V.int).length:Int):=by rw [B9];exact D5
  obtain ⟨v,h2,h3⟩:=f7 hk h1;obtain ⟨n,_,rfl⟩:=U5.mp h3;exact ⟨_,.inl hS,_,h2,q n⟩
theorem sc_l_pieces:FnScope ["_law_cell", "_law_many", "_law_signs", "_law_number", "_law_step", "_law_begin", "_law_shape", "_law_found", "_law_k", "_law_place"] ["_law_cell", "_law_many"] (B4 K2):=G3
abbrev V8:List Str:=["_law_cell", "_law_many", "_law_signs", "_law_number", "_law_step", "_law_begin", "_law_shape", "_law_found", "_law_k", "_law_place"]
theorem vaI:VS V8 K2 "_law_cell" 0:=vq
theorem vaJ:VS V8 K2 "_law_many" 1:=vq
theorem dC:VS V8 K2 "_law_signs" 2:=vq
theorem iH:VS V8 K2 "_law_number" 3:=vq
theorem vaM:VS V8 K2 "_law_step" 4:=vq
theorem vaN:VS V8 K2 "_law_begin" 5:=vq
theorem qL:VS V8 K2 "_law_shape" 6:=vq
theorem iI:VS V8 K2 "_law_found" 7:=vq
theorem qM:VS V8 K2 "_law_k" 8:=vq
theorem iJ:VS V8 K2 "_law_place" 9:=vq
theorem qN:LS K2 "_law_signs":=lq
theorem vaT:LS K2 "_law_number":=lq
theorem vaU:LS K2 "_law_step":=lq
theorem vaV:LS K2 "_law_begin":=lq
theorem vaW:LS K2 "_law_shape":=lq
theorem vaX:LS K2 "_law_found":=lq
theorem vaY:LS K2 "_law_k":=lq
theorem vaZ:LS K2 "_law_place":=lq
theorem aep(F:FunD K "_law_pieces" "_law_pieces" K2 f fd)(T:Txt P w K mg C C_NoRule C_Twice):FnOk P w K mg base C8 1 f fd ["_law_cell", "_law_many"] pH:=by
 refine F.ok sc_l_pieces ?_ ?_
 .rintro _ _ _ _ ⟨c,m,rfl,_⟩;rfl
 .intro cdv A outer s H vs Q E hr h;have F2:=hu_of hr;have hu:=hr.units;refine ⟨_,QSs.out (A6 (B6 (n:=2) sc_l_pieces.nd rfl qN A5)
   (A6 (B6 (n:=2) sc_l_pieces.nd rfl qN (qe_op (q_add (K:=K)) (vi dC) A5))
   (A6 (B6 (n:=3) sc_l_pieces.nd rfl vaT (qe_op q_mod (qe_op q_mul (vi vaI) A1) A1))
   (A6 (B6 (n:=4) sc_l_pieces.nd rfl vaU (qe_ix (K:=K) (M0 (qa_c A1 (qa_c A1 (qa_c A1 (qa_c A1 (qa_c A1 (qa_c A1 (qa_c A1 (qa_c A1 A2))))))))) (qe_op q_mod (vi iH) A1)))
   (A6 (B6 (n:=5) sc_l_pieces.nd rfl vaV (qe_op q_mod (qe_op L5 (vi iH) A1) A1))
   (A6 (B6 (n:=6) sc_l_pieces.nd rfl vaW (qe_op q_mod (qe_op L5 (vi iH) A1) A1))
   (A6 (B6 (n:=7) sc_l_pieces.nd rfl vaX (M0 A2))
   (A6 (Z5 PassesOwn.never (qi_r1 T.b_range (qa_c (vi vaJ) A2)) (P4 (n:=8) sc_l_pieces.nd rfl vaY (.inl rfl)) (A6 (B6 (n:=9) sc_l_pieces.nd rfl vaZ (qe_op q_mod (qe_op (q_add (K:=K)) (vi vaN) (qe_op q_mul (vi qM) (vi vaM))) A1))
   (B1 (qs_if (QW.pt (qw_or (D6 (q_eq (K:=K) hu) (vi qL) A1) (cL (QW.pt (z4 (D6 (q_eq (K:=K) hu) (vi qL) A1) (y9 (D6 (q_eq (K:=K) hu) (qe_op q_mod (vi qM) A1) A1))))))) (B1 (K9 (qe_mB (K:=K) P0 O9 O8 P5 (vi iI) (qa_c (qe_ix (K:=K) (vi dC) (qe_op q_mod (vi iJ) A1)) A2)))) (B1 (K9 (qe_mB (K:=K) P0 O9 O8 P5 (vi iI) (qa_c (qe_op (q_add (K:=K)) (qe_ix (K:=K) (vi dC) (qe_op L5 (vi iJ) A1)) (qe_ix (K:=K) (vi dC) (qe_op q_mod (vi iJ) A1))) A2))))))))
   (B1 (D9 (vi iI))))))))))),?_⟩
  obtain ⟨c,m,rfl,sJ,hm,q⟩:=h;walk_at "rd";refine ⟨ajm,.inr ⟨by decide,by decide⟩,by decide,fun p hp=>?_⟩;obtain ⟨st,j5⟩:=drawn (xs:=[V.int 1,V.int 2,V.int 5,V.int 94,V.int 187,V.int 1000,V.int 4001,V.int 8648]) (i:=c*48271 % 2147483647 % 8) (by simp) (by lia) (by simp only [E8,U4];lia);refine ⟨_,.inl (.of A3),_,j5,fun p1 W5=>⟨by lia,by lia,?_⟩⟩;have n0:H p1=none:=(Same.new hp).free W5;refine forR (fun i Y H2=>∃ (u v:Option V) (ps:List Str),Y=[some (.int c),some (.int m),some (.str SS),some (.int (c*48271 % 2147483647)),some (.int st),some (.int (c*48271 % 2147483647 / 8 % 8649)),some (.int (c*48271 % 2147483647 / 69192 % 3)),some (.ref p1),u,v]/\
    Same H H2/\H2 p1=some (.lst (ps.map V.str))/\ps.length=i/\∀ z∈ps,D3 z=true)
   ⟨none,none,[],rfl,(Same.new hp).trans (Same.new W5),A3,rfl,fun _ h=>by cases h⟩ ?_ ?_
  .rintro i Y H2 hi ⟨u,v,ps,rfl,S,hl,C7,W3⟩;have l7:(ps.map V.str).length<sizeLine:=by rw [B9,C7];exact N6 (by lia)
   walk_at "rd";generalize hP:(c*48271 % 2147483647 / 8 % 8649+(0+(i:Int))*st) % 8649=P;have hP0:0<=P:=by rw [<- hP];exact Z0 _ (by decide)
   have hP1:P<8649:=by rw [<- hP];exact x3 _ (by decide)
   obtain ⟨c1,a2,a3⟩:=SS_at (i:=P % 93) (by lia) (by lia);obtain ⟨c2,b2,b3⟩:=SS_at (i:=P / 93) (by lia) (by lia);have fin:∀ z,D3 z=true->cB (V.ref p1) [V.str z] H2 fun x H1=>Same H H1/\∃ x:List Str,H1 p1=some (HO.lst (List.map V.str x))/\x.length=i+1/\∀ z∈x,D3 z=true:=fun z hz=>
    appOk hl l7 ⟨S.put n0,ps++[z],by rw [A3,M2];rfl,by rw [K3,C7];rfl,fun y hy=>by
     rcases N3.mp hy with h | h
     .exact W3 y h
     .rw [Q1.mp h];exact hz⟩
   have l2:∀ x y:Nat,(⟨#[x]⟩:Str).length+(⟨#[y]⟩:Str).length<=sizeLine:=fun _ _=>by show 1+1<=sizeLine;decide
   exact ⟨.inl ⟨by lia,by lia⟩,iteD (fun _=>⟨P3 hl,t5,c1,a2,fin _ (mS a3)⟩) fun _=>iteD (fun _=>iteD (fun _=>⟨P3 hl,t5,c1,a2,fin _ (mS a3)⟩)
    fun _=>⟨P3 hl,t5,c2,b2,t5,c1,a2,l2 _ _,fin _ (mU b3 a3)⟩) fun _=>⟨P3 hl,t5,c2,b2,t5,c1,a2,l2 _ _,fin _ (mU b3 a3)⟩⟩
  .rintro Y H2 ⟨u,v,ps,rfl,S,hl,C7,W3⟩;walk_at "rd";exact q p1 ps H2 n0 S hl C7 W3
theorem sc_l_names:FnScope ["_law_number", "_law_many", "_law_letters", "_law_shape", "_law_names_here", "_law_k", "_law_code", "_law_ahead", "_law_behind", "_law_tell"] ["_law_number", "_law_many"] (B4 J4):=G3
abbrev V9:List Str:=["_law_number", "_law_many", "_law_letters", "_law_shape", "_law_names_here", "_law_k", "_law_code", "_law_ahead", "_law_behind", "_law_tell"]
theorem Y1:VS V9 J4 "_law_number" 0:=vq
theorem iK:VS V9 J4 "_law_many" 1:=vq
theorem u3:VS V9 J4 "_law_letters" 2:=vq
theorem qO:VS V9 J4 "_law_shape" 3:=vq
theorem dD:VS V9 J4 "_law_names_here" 4:=vq
theorem iL:VS V9 J4 "_law_k" 5:=vq
theorem qP:VS V9 J4 "_law_code" 6:=vq
theorem va7:VS V9 J4 "_law_ahead" 7:=vq
theorem va8:VS V9 J4 "_law_behind" 8:=vq
theorem va9:VS V9 J4 "_law_tell" 9:=vq
theorem vba:LS J4 "_law_number":=lq
theorem vbb:LS J4 "_law_letters":=lq
theorem vbc:LS J4 "_law_shape":=lq
theorem vbd:LS J4 "_law_names_here":=lq
theorem vbe:LS J4 "_law_k":=lq
theorem vbf:LS J4 "_law_code":=lq
theorem vbg:LS J4 "_law_ahead":=lq
theorem vbh:LS J4 "_law_behind":=lq
theorem vbi:LS J4 "_law_tell":=lq
theorem afi(F:FunD K "_law_names" "_law_names" J4 f fd)(T:Txt P w K mg C C_NoRule C_Twice):FnOk P w K mg base C8 1 f fd ["_law_number", "_law_many"] pI:=by
 refine F.ok sc_l_names ?_ ?_
 .rintro _ _ _ _ ⟨n,rfl,_⟩;rfl
 .intro cdv A outer s H vs Q E hr h;have F2:=hu_of hr;have hu:=hr.units;refine ⟨_,QSs.out (A6 (B6 (n:=2) sc_l_names.nd rfl vbb A5)
   (A6 (B6 (n:=3) sc_l_names.nd rfl vbc (qe_op q_mod (vi Y1) A1))
   (A6 (B6 (n:=0) sc_l_names.nd rfl vba (qe_op L5 (vi Y1) A1))
   (A6 (B6 (n:=4) sc_l_names.nd rfl vbd (M0 A2))
   (A6 (Z5 PassesOwn.never (qi_r1 T.b_range (qa_c (vi iK) A2)) (P4 (n:=5) sc_l_names.nd rfl vbe (.inl rfl)) (A6 (B6 (n:=6) sc_l_names.nd rfl vbf (qe_op q_mod (qe_op (q_add (K:=K)) (vi Y1) (qe_op q_mul A1 (vi iL))) A1))
   (B1 (qs_if (QW.pt (z4 (D6 (q_eq (K:=K) hu) (vi qO) A1) (y9 (D6 q_le (vi iK) A1)))) (B1 (K9 (qe_mB (K:=K) P0 O9 O8 P5 (vi dD) (qa_c (qe_op fV (qe_ix (K:=K) (vi u3) (qe_op q_mod (vi Y1) A1)) (qe_op (q_add (K:=K)) (vi iL) A1)) A2)))) (B1 (qs_if (QW.pt (z4 (D6 (q_eq (K:=K) hu) (vi qO) A1) (y9 (D6 q_le (vi iK) A1)))) (B1 (K9 (qe_mB (K:=K) P0 O9 O8 P5 (vi dD) (qa_c (qe_ix (K:=K) (vi u3) (qe_op q_mod (qe_op (q_add (K:=K)) (vi Y1) (qe_op q_mul A1 (vi iL))) A1)) A2)))) (A6 (B6 (n:=7) sc_l_names.nd rfl vbg (qe_op fV (qe_ix (K:=K) (vi u3) (qe_op q_mod (qe_op L5 (vi Y1) A1) A1)) (qe_op q_mod (qe_op L5 (vi Y1) A1) A1)))
   (A6 (B6 (n:=8) sc_l_names.nd rfl vbh (qe_op fV (qe_ix (K:=K) (vi u3) (qe_op q_mod (qe_op L5 (vi Y1) A1) A1)) (qe_op q_mod (qe_op L5 (vi Y1) A1) A1)))
   (A6 (B6 (n:=9) sc_l_names.nd rfl vbi (qe_op (q_add (K:=K)) (qe_ix (K:=K) (vi u3) (qe_op L5 (vi qP) A1)) (qe_ix (K:=K) (vi u3) (qe_op q_mod (vi qP) A1))))
   (B1 (K9 (qe_mB (K:=K) P0 O9 O8 P5 (vi dD) (qa_c (qe_op (q_add (K:=K)) (qe_op (q_add (K:=K)) (vi va7) (vi va9)) (vi va8)) A2)))))))))))))
   (B1 (D9 (vi dD)))))))),?_⟩
  obtain ⟨n,rfl,dU,rY,q⟩:=h;walk_at "rd";intro p np;refine ⟨by decide,by decide,?_⟩;generalize hN:n / 4=N;have hN0:0<=N:=by lia
  obtain ⟨m1,m2,m3⟩:=pD (c:=97+(N / 676 % 26).toNat) (n:=N / 17576 % 4) (by lia) (by lia);obtain ⟨k1,k2,k3⟩:=pD (c:=97+(N / 70304 % 26).toNat) (n:=N / 1827904 % 4) (by lia) (by lia);generalize hA:Txt.mul ⟨#[97+(N / 676 % 26).toNat]⟩ (N / 17576 % 4)=A at m1 m2 m3;generalize hZ:Txt.mul ⟨#[97+(N / 70304 % 26).toNat]⟩ (N / 1827904 % 4)=Z at k1 k2 k3;refine forR (fun i Y H2=>∃ (u v w x y:Option V),Y=[some (.int N),some (.int 60),some (.str LT),some (.int (n % 4)),some (.ref p),u,v,w,x,y]/\Same H H2/\H2 p=some (.lst (((R4 i).map (T5 A Z N)).map V.str)))
   ⟨none,none,none,none,none,rfl,Same.new np,A3⟩ ?_ ?_
  .rintro i Y H2 hi ⟨u,v,w,x,y,rfl,S,hl⟩;have l7:(((R4 i).map (T5 A Z N)).map V.str).length<sizeLine:=by rw [B9,B9,List.length_range];exact N6 (by lia)
   have l2:∀ x y:Nat,(⟨#[x]⟩:Str).length+(⟨#[y]⟩:Str).length<=sizeLine:=fun _ _=>by show 1+1<=sizeLine;decide
   have l22:∀ x y:Nat,((⟨#[x]⟩:Str)++(⟨#[y]⟩:Str)).length=2:=fun _ _=>rfl
   walk_at "rd";rw [Int.zero_add];have r0:0<=(N+7*(i:Int)) % 676:=Z0 _ (by decide);have r1:(N+7*(i:Int)) % 676<676:=x3 _ (by decide);have a1:=LT_at (i:=(N+7*(i:Int)) % 676 / 26) (by lia) (by lia);have a2:=LT_at (i:=(N+7*(i:Int)) % 676 % 26) (by lia) (by lia);have a3:=LT_at (i:=N / 676 % 26) (by lia) (by lia);have a4:=LT_at (i:=N / 70304 % 26) (by lia) (by lia);refine ⟨.inl ⟨by decide,by decide⟩,pickG ⟨cV,_,a3,_,_,rfl,rfl,m1,cV,_,a4,_,_,rfl,rfl,k1,cV,_,a1,cV,_,a2,l2 _ _,P3 hl,?_⟩⟩;rw [hA,hZ];walk_at "rd";refine ⟨N7 (by rw [l22];lia),N7 (by rw [Str.length_append,l22];lia),appOk hl l7 ⟨S.put np,?_⟩⟩;rw [A3,List.range_succ,M2,M2];rfl
  .rintro Y H2 ⟨u,v,w,x,y,rfl,S,hl⟩;walk_at "rd";exact q p _ H2 np S hl (by simp) (agu A Z N) fun z hz=>by
    obtain ⟨k,_,rfl⟩:=U5.mp hz;exact ahT m2 k2 (fun x hx=>by have:=m3 x hx;lia) (fun x hx=>by have:=k3 x hx;lia) N k
theorem sc_l_rule:FnScope ["_law_cell", "_law_some", "_law_words", "_law_number", "_law_place", "_law_many", "_law_pieces_here", "_law_k"] ["_law_cell", "_law_some"] (B4 N0):=G3
abbrev j1:List Str:=["_law_cell", "_law_some", "_law_words", "_law_number", "_law_place", "_law_many", "_law_pieces_here", "_law_k"]
theorem vbj:VS j1 N0 "_law_cell" 0:=vq
theorem iM:VS j1 N0 "_law_some" 1:=vq
theorem qQ:VS j1 N0 "_law_words" 2:=vq
theorem u4:VS j1 N0 "_law_number" 3:=vq
theorem aI:VS j1 N0 "_law_place" 4:=vq
theorem qR:VS j1 N0 "_law_many" 5:=vq
theorem qS:VS j1 N0 "_law_pieces_here" 6:=vq
theorem vbq:LS N0 "_law_words":=lq
theorem dE:LS N0 "_law_number":=lq
theorem vbs:LS N0 "_law_place":=lq
theorem qT:LS N0 "_law_many":=lq
theorem vbu:LS N0 "_law_pieces_here":=lq
theorem vbv:LS N0 "_law_k":=lq
theorem agK(F:FunD K "_law_rule" "_law_rule" N0 f fd)(T:Txt P w K mg C C_NoRule C_Twice):FnOk P w K mg base C8 1 f fd ["_law_cell", "_law_some"] gZ:=by
 refine F.ok sc_l_rule ?_ ?_
 .rintro _ _ _ _ ⟨c,b,ps,rfl,_⟩;rfl
 .intro cdv A outer s H vs Q E hr h;have F2:=hu_of hr;have hu:=hr.units;refine ⟨_,QSs.out (A6 (B6 (n:=2) sc_l_rule.nd rfl vbq (M0 (qa_c A5 (qa_c A5 (qa_c A5 (qa_c A5 (qa_c A5 (qa_c A5 (qa_c A5 (qa_c A5 (qa_c A5 A2)))))))))))
   (A6 (B6 (n:=3) sc_l_rule.nd rfl dE (qe_op q_mod (qe_op q_mul (vi vbj) A1) A1))
   (A6 (B6 (n:=4) sc_l_rule.nd rfl vbs (qe_op q_mod (vi u4) A1))
   (A6 (qs_if (D6 q_gt (vi aI) A1) (B1 (D9 (M1 (qa_c (qe_ix (K:=K) (vi qQ) (vi aI)) A2)))) K0)
   (A6 (B6 (n:=3) sc_l_rule.nd rfl dE (qe_op L5 (vi u4) A1))
   (A6 (B6 (n:=5) sc_l_rule.nd rfl qT (qe_op (q_add (K:=K)) A1 (qe_op q_mod (vi u4) A1)))
   (g7 (qs_if (QW.pt (z4 (D6 (q_ne (K:=K) hu) (vi aI) A1) (y9 (D6 (q_ne (K:=K) hu) (vi aI) A1)))) (B1 (B6 (n:=5) sc_l_rule.nd rfl qT (qe_op q_sub (vi qR) A1))) K0)
   (A6 (B6 (n:=3) sc_l_rule.nd rfl dE (qe_op L5 (vi u4) A1))
   (A6 (B6 (n:=6) sc_l_rule.nd rfl vbu (M0 A2))
   (A6 (Z5 PassesOwn.never (qi_r1 T.b_range (qa_c (vi qR) A2)) (P4 (n:=7) sc_l_rule.nd rfl vbv (.inl rfl)) (A6 (K9 (qe_mB (K:=K) P0 O9 O8 P5 (vi qS) (qa_c (qe_ix (K:=K) (vi iM) (qe_op q_mod (vi u4) (qe_cB (q_len (K:=K)) T.b_len Q5 (qa_c (vi iM) A2)))) A2)))
   (B1 (B6 (n:=3) sc_l_rule.nd rfl dE (qe_op L5 (vi u4) (qe_cB (q_len (K:=K)) T.b_len Q5 (qa_c (vi iM) A2)))))))
   (B1 (D9 (qe_op (q_add (K:=K)) (M1 (qa_c (qe_ix (K:=K) (vi qQ) (vi aI)) A2)) (qe_cT (nC (K:=K)) T.b_tuple mP (qa_c (vi qS) A2))))))))))))))),?_⟩
  obtain ⟨c,b,ps,rfl,hb,h0,hl,hp,q⟩:=h;have kD:0<ps.length:=List.length_pos_iff.mpr h0;walk_at "rd";refine ⟨by decide,fun p np=>⟨.inr ⟨by decide,by decide⟩,?_⟩⟩;have hN0:0<=c*16807 % 2147483629:=by lia
  generalize c*16807 % 2147483629=N at hN0 ⊢
  obtain ⟨w,hw,sK⟩:=aj2 (i:=N % 9) (by lia) (by lia);have S1:Same H (A0 H p (HO.lst [V.str "row",V.str "marks",V.str "great",V.str "as",V.str "over",V.str "forget",V.str "figures",V.str "blanks",V.str "behind"])):=Same.new np;have W5:A0 H p (HO.lst [V.str "row",V.str "marks",V.str "great",V.str "as",V.str "over",V.str "forget",V.str "figures",V.str "blanks",V.str "behind"]) p=some (HO.lst [V.str "row",V.str "marks",V.str "great",V.str "as",V.str "over",V.str "forget",V.str "figures",V.str "blanks",V.str "behind"]):=A3;generalize A0 H p (HO.lst [V.str "row",V.str "marks",V.str "great",V.str "as",V.str "over",V.str "forget",V.str "figures",V.str "blanks",V.str "behind"])=H1 at S1 W5;refine iteD (fun h=>⟨_,.inl (.of W5),_,hw,by decide,fun p1 P8=>q p1 (w,[]) _ (fun b o h=>B8 (S1 b o h) P8) A3 ⟨O2 _,by simp,?_⟩⟩) fun h=>g8 (fun Y H2=>∃ m:Int,Y=[some (.int c),some (.ref b),some (.ref p),some (.int (N / 9)),some (.int (N % 9)),some (.int m),none,none]/\H2=H1/\1<=m/\m<=4/\(N % 9=2\/N % 9=3->2<=m)) ?_ ?_
  .rcases sK with h' | h'
   .exact .inl ⟨h'.2,rfl⟩
   .exact absurd h'.1 (by lia)
  .walk_at "rd";exact iteN (fun e1=>iteN (fun e2=>⟨by lia,by lia,by lia⟩) fun e2=>⟨by lia,by lia,by lia⟩) fun e1=>⟨by lia,by lia,by lia⟩
  rintro Y H2 ⟨m,rfl,rfl,sL,hm4,hm2⟩;walk_at "rd";refine fun p1 P8=>⟨by lia,by lia,?_⟩
  have n1:H p1=none:=S1.free P8;refine forR (fun i Y H3=>∃ (n:Int) (u:Option V) (zs:List Str),Y=[some (.int c),some (.ref b),some (.ref p),some (.int n),some (.int (N % 9)),some (.int m),some (.ref p1),u]/\Same H2 H3/\H3 p1=some (.lst (zs.map V.str))/\zs.length=i/\∀ z∈zs,D3 z=true)
   ⟨_,none,[],rfl,Same.new P8,A3,rfl,by simp⟩ ?_ ?_
  .rintro i Y H3 hi ⟨n,u,zs,rfl,S3,h3,v4,hz⟩;obtain ⟨y,m4,b9⟩:=f7 (xs:=ps.map V.str) (i:=n % (ps.length:Int)) (Z0 _ (by lia)) (by rw [B9];exact x3 _ (by lia));obtain ⟨z,v5,rfl⟩:=U5.mp b9;have v6:=S3 _ _ (S1 _ _ hb);walk_at "rd";refine ⟨P3 h3,ps.length,.inl ⟨_,.of v6,by rw [B9]⟩,by lia,_,.inl (.of v6),_,m4,appOk h3 (by rw [B9];exact N6 (by lia)) ⟨ps.length,?_,by lia,by lia,S3.put P8,zs++[z],by rw [A3,M2];rfl,by rw [K3,v4];rfl,fun y hy=>?_⟩⟩
   .exact .inl ⟨_,.of (S3.put P8 _ _ (S1 _ _ hb)),by rw [B9]⟩
   .rcases N3.mp hy with h | h
    .exact hz y h
    .rw [Q1.mp h];exact hp z v5
  .rintro Y H3 ⟨n,u,zs,rfl,S3,h3,v4,hz⟩;have bL:zs.length=m.toNat:=v4;walk_at "rd";refine ⟨_,.inl (.of (S3 _ _ W5)),_,hw,by decide,fun p2 n2=>rTupR.l (.of (B8 h3 n2)) fun p3 n3=>?_⟩;walk_at "rd";refine xY (.of (B8 A3 n3)) (.of A3) (by simp) (by rw [B9,Y8];exact N7 (by lia)) (fun e=>?_) fun _ p4 n4=>q p4 (w,zs) _ (fun b o h=>B8 (B8 (B8 (S3 b o (S1 b o h)) n2) n3) n4) A3 ⟨by show zs.length<=1000;lia,hz,?_⟩
   .rw [List.map_eq_nil_iff] at e;rw [e] at bL;simp at bL;lia
   .rcases sK with h' | ⟨_,n0,h1,h2⟩
    .exact absurd h'.1 (by lia)
    .refine .inr ⟨n0,h1,?_⟩;show n0<=(zs.length:Int);lia
theorem sc_l_bad:FnScope ["_law_number", "_law_some"] ["_law_number"] (B4 t7):=G3
abbrev qU:List Str:=["_law_number", "_law_some"]
theorem vbw:VS qU t7 "_law_number" 0:=vq
theorem dF:VS qU t7 "_law_some" 1:=vq
theorem dG:LS t7 "_law_some":=lq
theorem ahY(F:FunD K "_law_bad" "_law_bad" t7 f fd)(T:Txt P w K mg C C_NoRule C_Twice):FnOk P w K mg base C8 1 f fd ["_law_number"] pJ:=by
 refine F.ok sc_l_bad ?_ ?_
 .rintro _ _ _ _ ⟨n,rfl,_⟩;rfl
 .intro cdv A outer s H vs Q E hr h;have F2:=hu_of hr;have hu:=hr.units;refine ⟨_,QSs.out (A6 (B6 (n:=1) sc_l_bad.nd rfl dG (M0 (qa_c A5 (qa_c A5 (qa_c A5 (qa_c A5 (qa_c A5 (qa_c A5 (qa_c A5 (qa_c A5 A2))))))))))
   (A6 (B6 (n:=1) sc_l_bad.nd rfl dG (qe_op (q_add (K:=K)) (vi dF) (M0 (qa_c A5 (qa_c A5 (qa_c A5 (qa_c A5 (qa_c A5 (qa_c A5 (qa_c A5 A2))))))))))
   (A6 (B6 (n:=1) sc_l_bad.nd rfl dG (qe_op (q_add (K:=K)) (vi dF) (M0 (qa_c A5 (qa_c A5 (qa_c A5 (qa_c A5 (qa_c A5 (qa_c A5 A2)))))))))
   (A6 (B6 (n:=1) sc_l_bad.nd rfl dG (qe_op (q_add (K:=K)) (vi dF) (M0 (qa_c A5 (qa_c A5 (qa_c A5 A2))))))
   (B1 (D9 (qe_ix (K:=K) (vi dF) (qe_op q_mod (vi vbw) A1)))))))),?_⟩
  obtain ⟨n,rfl,q⟩:=h;walk_at "rd";refine ⟨by decide,fun p np=>⟨by decide,fun p1 P8=>?_⟩⟩;refine rAddR.l (B8 A3 P8) A3 (by decide) fun p2 v7=>⟨by decide,fun p3 v8=>?_⟩
  try walk_at "rd"
  refine rAddR.l (B8 A3 v8) A3 (by decide) fun p4 kF=>⟨by decide,fun p5 v9=>?_⟩
  try walk_at "rd"
  refine rAddR.l (B8 A3 v9) A3 (by decide) fun p6 dX=>?_
  obtain ⟨k,hk,sM⟩:∃ k:Nat,n % 24=k/\k<24:=⟨(n % 24).toNat,by lia,by lia⟩
  have hz:BADS[k]?=some (BADS[k]'(show k<24 from sM)):=List.getElem?_eq_getElem _
  try walk_at "rd"
  rw [hk];refine ⟨BADS.map V.str,.inl (.of A3),V.str (BADS[k]'(show k<24 from sM)),N5 (by rw [Q2,hz];rfl),q _ _ (List.getElem_mem _) ?_⟩;exact (((Same.new np).trans (Same.new P8)).trans ((Same.new v7).trans (Same.new v8))).trans (((Same.new kF).trans (Same.new v9)).trans (Same.new dX))
theorem sc_l_lines:FnScope ["_law_script", "_law_names_here", "_law_some", "_law_lines_here", "_law_many", "_law_cell", "_law_number"] ["_law_script", "_law_names_here", "_law_some"] (B4 O5):=G3
abbrev j2:List Str:=["_law_script", "_law_names_here", "_law_some", "_law_lines_here", "_law_many", "_law_cell", "_law_number"]
theorem vbz:VS j2 O5 "_law_script" 0:=vq
theorem iN:VS j2 O5 "_law_names_here" 1:=vq
theorem vbB:VS j2 O5 "_law_some" 2:=vq
theorem aJ:VS j2 O5 "_law_lines_here" 3:=vq
theorem iO:VS j2 O5 "_law_many" 4:=vq
theorem qV:VS j2 O5 "_law_cell" 5:=vq
theorem iP:VS j2 O5 "_law_number" 6:=vq
theorem vbG:LS O5 "_law_lines_here":=lq
theorem qW:LS O5 "_law_many":=lq
theorem vbI:LS O5 "_law_cell":=lq
theorem vbJ:LS O5 "_law_number":=lq
theorem afj(F:FunD K "_law_lines" "_law_lines" O5 f fd)(T:Txt P w K mg C C_NoRule C_Twice)(G_l_rule:FO P w K mg base 1 "_law_rule" ["_law_cell", "_law_some"] [] gZ):FnOk P w K mg base C8 2 f fd ["_law_script", "_law_names_here", "_law_some"] (pN K):=by
 refine F.ok sc_l_lines ?_ ?_
 .rintro _ _ _ _ ⟨a,b,c,ns,nms,ps,rfl,_⟩;rfl
 .intro cdv A outer s H vs Q E hr h;have F2:=hu_of hr;have hu:=hr.units;refine ⟨_,QSs.out (A6 (B6 (n:=3) sc_l_lines.nd rfl vbG (M0 A2))
   (A6 (B6 (n:=4) sc_l_lines.nd rfl qW A1)
   (A6 (Z5 PassesOwn.never (cM (K:=K) (cK (K:=K) (vi vbz) (y4 A1) (y4 A1))) (P4 (n:=5) sc_l_lines.nd rfl vbI (.inl rfl)) (A6 (B6 (n:=6) sc_l_lines.nd rfl vbJ (qe_op q_mod (qe_op q_mul (vi qV) A1) A1))
   (B1 (qs_if (QW.pt (qw_or (D6 (q_eq (K:=K) hu) (vi aJ) (M0 A2)) (cL (D6 (q_eq (K:=K) hu) (qe_op q_mod (vi iP) A1) A1)))) (A6 (qs_if (D6 (q_eq (K:=K) hu) (qe_op q_mod (qe_op L5 (vi iP) A1) A1) A1) (B1 (K9 (qe_mB (K:=K) P0 O9 O8 P5 (vi aJ) (qa_c (M1 (qa_c A5 (qa_c (qe_ix (K:=K) (vi iN) (vi iO)) (qa_c (qe_op (q_add (K:=K)) A5 (qe_ix (K:=K) (vi iN) (qe_op q_mod (qe_op L5 (vi iP) A1) A1))) A2)))) A2)))) (B1 (K9 (qe_mB (K:=K) P0 O9 O8 P5 (vi aJ) (qa_c (M1 (qa_c A5 (qa_c (qe_ix (K:=K) (vi iN) (vi iO)) (qa_c A5 A2)))) A2)))))
   (B1 (B6 (n:=4) sc_l_lines.nd rfl qW (qe_op (q_add (K:=K)) (vi iO) A1)))) (B1 (K9 (qe_mB (K:=K) P0 O9 O8 P5 (vi aJ) (qa_c (M1 (qa_c A5 (qa_c (qe_mB (K:=K) o6 PySem.F.slot_str_join PySem.F.type_str_join (fL (K:=K)) A5 (qa_c (G6 G_l_rule (hm hr) (qa_c (qe_op L5 (vi qV) A1) (qa_c (vi vbB) A2))) A2)) (qa_c A5 A2)))) A2))))))))
   (B1 (D9 (vi aJ)))))),?_⟩
  obtain ⟨a,b,c,ns,nms,ps,rfl,hS,hn,hb,hc,dY,c3,W6,C7,hp,q⟩:=h;walk_at "rd";intro p np;have S1:Same H (A0 H p (.lst [])):=Same.new np;have L1:L3I H (A0 H p (.lst [])) p [] []:=⟨A3,.nil,np,S1,fun l hl=>by cases hl⟩
  generalize A0 H p (.lst [])=H1 at S1 L1 ⊢
  refine rSlR.l (S1.seq hS) fun t nt=>⟨t,rfl,⟨_,.of A3⟩,?_⟩
  have Y6:(cutV (ns.map V.int) (some 4) (some 62)).length<=58:=by
   rw [show (some (4:Int))=some ((4:Nat):Int) from rfl,show (some (62:Int))=some ((62:Nat):Int) from rfl,ahW _ (by decide),U3];lia
  have hint:∀ x∈cutV (ns.map V.int) (some 4) (some 62),∃ n,x=V.int n:=fun x hx=>by
   unfold cutV at hx;obtain ⟨n,_,rfl⟩:=U5.mp (List.mem_of_mem_drop (List.mem_of_mem_take hx));exact ⟨n,rfl⟩
  generalize cutV (ns.map V.int) (some 4) (some 62)=xs at Y6 hint;refine forL (xs:=xs) (fun i Y H2=>∃ (u v:Option V) (rs:List Addr) (ls:List T3) (k:Nat),Y=[some (.ref a),some (.ref b),some (.ref c),some (.ref p),some (.int k),u,v]/\L3I H H2 p rs ls/\H2 t=some (.lst xs)/\ls.length=i/\k<=i)
   ⟨none,none,[],[],0,rfl,L1.keep (Same.new nt),A3,rfl,B5 _⟩ (by rintro i Y H2 _ ⟨_,_,_,_,_,_,_,h,_⟩;exact .of h) ?_ ?_
  .rintro i x0 Y H2 hx ⟨u,v,rs,ls,k,rfl,L,h2t,kG,hki⟩;obtain ⟨n,rfl⟩:=hint x0 (Q0 hx);have hi:i<58:=by
    have:=(W9.mp hx).1
    lia
   have jS:t≠p:=fun e=>by rw [e,L1.top] at nt;cases nt
   walk_at "rd";refine ⟨.inr ⟨by decide,by decide⟩,fun p2 v7=>⟨_,(L.keep (Same.new v7)).dn,.list (([]:List Str).map X2),.lst (.of A3) .nil,?_,?_⟩⟩
   .have:=pM ls
    rw [P1];lia
   rw [afb];have SS3:Same H2 (A0 H2 p2 (.lst [])):=Same.new v7;have L3:=L.keep SS3;have h3t:=SS3 _ _ h2t;generalize A0 H2 p2 (.lst [])=H3 at SS3 L3 h3t ⊢
   generalize hN:n*48271 % 2147483647=N;have hN0:0<=N:=by lia
   have v6:=L3.same _ _ hb;have A8:(rs.map V.ref).length=i:=by rw [B9,L3.len,kG]
   have ends:∀ {H4:Hp} {r:Addr} {l:T3},Same H3 H4->H4 r=some (t3 l)->O6 l->H4 p=some (.lst (rs.map V.ref))/\L3I H (A0 H4 p (.lst (rs.map V.ref++[V.ref r]))) p (rs++[r]) (ls++[l])/\A0 H4 p (.lst (rs.map V.ref++[V.ref r])) t=some (.lst xs)/\(ls++[l]).length=i+1:=fun S4 hr ho=>⟨(L3.keep S4).top,(L3.keep S4).app hr ho,by rw [A7 jS];exact S4 _ _ h3t,by rw [K3,kG];rfl⟩
   have hsz:(rs.map V.ref).length+1<=sizeLine:=by rw [A8];exact N6 (by lia)
   refine orIf (fun _=>?_) fun _ _=>?_
   .have dZ:nms[k]?=some (nms[k]'(by lia)):=List.getElem?_eq_getElem _;generalize nms[k]'(by lia)=n0 at dZ;have dU:nameB n0=true:=c3 n0 (Q0 dZ);refine iteD (fun _=>⟨P3 L3.top,_,.inl (.of v6),V.str n0,N5 (by rw [Q2,dZ];rfl),?_⟩) fun _=>⟨P3 L3.top,_,.inl (.of v6),V.str n0,N5 (by rw [Q2,dZ];rfl),by decide,fun r nr=>?_⟩
    .obtain ⟨y,m4,b9⟩:=f7 (xs:=nms.map V.str) (i:=N / 20 % 60) (by lia) (by rw [B9];lia);obtain ⟨z,v5,rfl⟩:=U5.mp b9;obtain ⟨sI,l7,_⟩:=cS (c3 z v5);have o4:(Str.ofString " of ").length=4:=by decide +kernel
     refine ⟨_,.inl (.of v6),V.str z,m4,?_⟩;walk_at "rd";refine ⟨N7 (by lia),by decide,fun r nr=>?_⟩;obtain ⟨e1,e2,e3,e4⟩:=ends (Same.new nr) (l:=(Str.ofString "order",n0,t8 (some z))) A3 (.inl ⟨n0,some z,⟨dU,fun y h=>by cases h;exact c3 z v5⟩,rfl⟩);exact appOk e1 hsz ⟨_,_,_,_,k+1,rfl,rfl,rfl,e2,e3,e4,by lia⟩
    .obtain ⟨e1,e2,e3,e4⟩:=ends (Same.new nr) (l:=(Str.ofString "order",n0,t8 none)) A3 (.inl ⟨n0,none,⟨dU,fun y h=>by cases h⟩,rfl⟩);exact appOk e1 hsz ⟨_,_,_,_,k+1,rfl,rfl,rfl,e2,e3,e4,by lia⟩
   .refine ⟨P3 L3.top,n / 5,c,ps,rfl,L3.same _ _ hc,W6,C7,hp,fun r z H4 S4 hr hz=>?_⟩;have kH:=Good.sum hz;have m5:=hz.1;refine ⟨" ",r,z.1::z.2,rfl,rfl,.inr (.of hr),by decide,by rw [E8];lia,by decide,fun r2 kI=>?_⟩;obtain ⟨e1,e2,e3,e4⟩:=ends (S4.trans (Same.new kI)) (l:=(Str.ofString "rule",Str.join " " (z.1::z.2),Str.ofString "")) A3 (.inr (.inl ⟨z,hz,rfl⟩));exact appOk e1 hsz ⟨_,_,_,_,k,rfl,rfl,rfl,e2,e3,e4,by lia⟩
  rintro Y H2 ⟨u,v,rs,ls,k,rfl,L,h2t,kG,hki⟩;walk_at "rd";exact q p rs ls H2 L (by lia)
theorem sc_l_more:FnScope ["_law_script", "_law_names_here", "_law_some", "_law_lines_here", "_law_k", "_law_number", "_law_line", "_law_at"] ["_law_script", "_law_names_here", "_law_some", "_law_lines_here"] (B4 N1):=G3
abbrev b4:List Str:=["_law_script", "_law_names_here", "_law_some", "_law_lines_here", "_law_k", "_law_number", "_law_line", "_law_at"]
theorem qX:VS b4 N1 "_law_script" 0:=vq
theorem vbL:VS b4 N1 "_law_names_here" 1:=vq
theorem vbM:VS b4 N1 "_law_some" 2:=vq
theorem dH:VS b4 N1 "_law_lines_here" 3:=vq
theorem qY:VS b4 N1 "_law_k" 4:=vq
theorem u5:VS b4 N1 "_law_number" 5:=vq
theorem vbQ:VS b4 N1 "_law_line" 6:=vq
theorem qZ:VS b4 N1 "_law_at" 7:=vq
theorem vbS:LS N1 "_law_lines_here":=lq
theorem vbT:LS N1 "_law_k":=lq
theorem vbU:LS N1 "_law_number":=lq
theorem iQ:LS N1 "_law_line":=lq
theorem vbW:LS N1 "_law_at":=lq
theorem agM(F:FunD K "_law_more" "_law_more" N1 f fd)(T:Txt P w K mg C C_NoRule C_Twice)(G_l_cell_at:FO P w K mg base 1 "_law_cell_at" ["_law_script", "_law_k"] [] (gJ K))(G_l_rule:FO P w K mg base 1 "_law_rule" ["_law_cell", "_law_some"] [] gZ)(G_l_bad:FO P w K mg base 1 "_law_bad" ["_law_number"] [] pJ):FnOk P w K mg base C8 2 f fd ["_law_script", "_law_names_here", "_law_some", "_law_lines_here"] (pO K):=by
 refine F.ok sc_l_more ?_ ?_
 .rintro _ _ _ _ ⟨a,b,c,l,ns,nms,ps,rs,ls,H0,rfl,_⟩;rfl
 .intro cdv A outer s H vs Q E hr h;have F2:=hu_of hr;have hu:=hr.units;refine ⟨_,QSs.out (A6 (Z5 PassesOwn.never (qi_r1 T.b_range (qa_c (qe_op q_mod (G6 G_l_cell_at (hm hr) (qa_c (vi qX) (qa_c A1 A2))) A1) A2)) (P4 (n:=4) sc_l_more.nd rfl vbT (.inl rfl)) (A6 (B6 (n:=5) sc_l_more.nd rfl vbU (qe_op q_mod (qe_op q_mul (G6 G_l_cell_at (hm hr) (qa_c (vi qX) (qa_c (qe_op (q_add (K:=K)) A1 (vi qY)) A2))) (qe_ix (K:=K) (M0 (qa_c A1 (qa_c A1 A2))) (vi qY))) A1))
   (A6 (B6 (n:=6) sc_l_more.nd rfl iQ (M1 (qa_c A5 (qa_c (G6 G_l_bad (hm hr) (qa_c (qe_op L5 (vi u5) A1) A2)) (qa_c A5 A2)))))
   (g7 (qs_if (D6 (q_eq (K:=K) hu) (qe_op q_mod (vi u5) A1) A1) (B1 (B6 (n:=6) sc_l_more.nd rfl iQ (M1 (qa_c A5 (qa_c (qe_ix (K:=K) (vi vbL) (qe_op q_mod (qe_op L5 (vi u5) A1) A1)) (qa_c A5 A2)))))) K0)
   (g7 (qs_if (D6 (q_eq (K:=K) hu) (qe_op q_mod (vi u5) A1) A1) (B1 (B6 (n:=6) sc_l_more.nd rfl iQ (M1 (qa_c A5 (qa_c (qe_mB (K:=K) o6 PySem.F.slot_str_join PySem.F.type_str_join (fL (K:=K)) A5 (qa_c (G6 G_l_rule (hm hr) (qa_c (qe_op L5 (vi u5) A1) (qa_c (vi vbM) A2))) A2)) (qa_c A5 A2)))))) K0)
   (A6 (B6 (n:=7) sc_l_more.nd rfl vbW (qe_op q_mod (qe_op L5 (vi u5) A1) (qe_op (q_add (K:=K)) (qe_cB (q_len (K:=K)) T.b_len Q5 (qa_c (vi dH) A2)) A1)))
   (B1 (B6 (n:=3) sc_l_more.nd rfl vbS (qe_op (q_add (K:=K)) (qe_op (q_add (K:=K)) (cK (K:=K) (vi dH) fF (y4 (vi qZ))) (M0 (qa_c (vi vbQ) A2))) (cK (K:=K) (vi dH) (y4 (vi qZ)) fF))))))))))
   (B1 (D9 (vi dH)))),?_⟩
  obtain ⟨a,b,c,l,ns,nms,ps,rs,ls,H0,rfl,hS,hb,hc,dY,c3,W6,C7,hp,L,bM,q⟩:=h;walk_at "rd";refine ⟨a,ns,2,rfl,hS,by decide,fun c0=>?_⟩
  try walk_at "rd"
  refine ⟨by lia,by lia,?_⟩;have hc3:(c0 % 3).toNat<=2:=by lia
  refine forR (fun i Y H2=>∃ (u v w x:Option V) (l':Addr) (rs':List Addr) (ls':List T3),Y=[some (.ref a),some (.ref b),some (.ref c),some (.ref l'),u,v,w,x]/\Same H H2/\L3I H0 H2 l' rs' ls'/\ls'.length<=63+i) ⟨none,none,none,none,l,rs,ls,rfl,G0 _,L,bM⟩ ?_ ?_
  .rintro i Y H2 hi ⟨u,v,w,x,l',rs',ls',rfl,S2,L2,Y2⟩;have hi2:i<2:=by lia
   walk_at "rd";refine ⟨a,ns,2+(0+(i:Int)),rfl,S2.seq hS,by lia,fun c1=>?_⟩
   try walk_at "rd"
   refine ⟨by decide,fun p1 P8=>?_⟩;obtain ⟨y,m4,b9⟩:=f7 (xs:=[V.int 69621,V.int 39373]) (i:=0+(i:Int)) (by lia) (by simp only [E8,U4];lia);obtain ⟨m,rfl,sJ,sL⟩:∃ m,y=V.int m/\-(2 ^ 64)<m/\m<2 ^ 64:=by
    simp only [C0,L8,or_false] at b9
    rcases b9 with rfl | rfl <;> exact ⟨_,rfl,by decide,by decide⟩
   refine ⟨_,.inl (.of A3),V.int m,m4,.inr ⟨sJ,sL⟩,?_⟩
   try walk_at "rd"
   have S3:=S2.trans (Same.new (u:=HO.lst [V.int 69621,V.int 39373]) P8);have L3:=L2.keep (Same.new (u:=HO.lst [V.int 69621,V.int 39373]) P8);generalize A0 H2 p1 (HO.lst [V.int 69621,V.int 39373])=H3 at S3 L3 ⊢
   have hN0:0<=c1*m % 2147483587:=Z0 _ (by decide);generalize c1*m % 2147483587=N at hN0;refine ⟨N / 6,rfl,fun z H4 hz S4=>⟨by decide,fun r nr=>?_⟩⟩;have S5:=S4.trans (Same.new (u:=t3 (Str.ofString "bad",z,Str.ofString "")) nr);have h5:A0 H4 r (t3 (Str.ofString "bad",z,Str.ofString "")) r=some (t3 (Str.ofString "bad",z,Str.ofString "")):=A3;have e5:A0 H4 r (HO.tup [V.str (Str.ofString "bad"),V.str z,V.str (Str.ofString "")])=A0 H4 r (t3 (Str.ofString "bad",z,Str.ofString "")):=rfl;rw [e5];generalize A0 H4 r (t3 (Str.ofString "bad",z,Str.ofString ""))=H5 at S5 h5 ⊢
   clear e5 nr S4;have o5:O6 (Str.ofString "bad",z,Str.ofString ""):=.inr (.inr ⟨z,hz,rfl⟩);generalize (Str.ofString "bad",z,Str.ofString "")=y5 at h5 o5;have S6:=S3.trans S5;have L6:=L3.keep S5;clear S3 L3 S5 P8;refine g8 (fun Y H7=>∃ (r:Addr) (y:T3),Y=[some (.ref a),some (.ref b),some (.ref c),some (.ref l'),some (.int (0+(i:Int))),some (.int N),some (.ref r),x]/\Same H5 H7/\H7 r=some (t3 y)/\O6 y) ?_ ?_
   .walk_at "rd";refine iteD (fun _=>?_) fun _=>⟨G0 _,y5,h5,o5⟩
    obtain ⟨y,m4,b9⟩:=f7 (xs:=nms.map V.str) (i:=N / 6 % 4) (by lia) (by rw [B9];lia);obtain ⟨z,v5,rfl⟩:=U5.mp b9;exact ⟨_,.inl (.of (S6 _ _ hb)),V.str z,m4,by decide,fun r nr=>⟨Same.new nr,(Str.ofString "order",z,t8 none),A3,.inl ⟨z,none,⟨c3 z v5,fun y h=>by cases h⟩,rfl⟩⟩⟩
   rintro Y H7 ⟨r7,y7,rfl,S7,h7,o7⟩;refine g8 (fun Y H8=>∃ (r:Addr) (y:T3),Y=[some (.ref a),some (.ref b),some (.ref c),some (.ref l'),some (.int (0+(i:Int))),some (.int N),some (.ref r),x]/\Same H5 H8/\H8 r=some (t3 y)/\O6 y) ?_ ?_
   .walk_at "rd";refine iteD (fun _=>?_) fun _=>⟨S7,y7,h7,o7⟩
    refine ⟨N / 6,c,ps,rfl,(S6.trans S7) _ _ hc,W6,C7,hp,fun r z H4 S4 hr hz=>?_⟩;have kH:=Good.sum hz;have m5:=hz.1;exact ⟨" ",r,z.1::z.2,rfl,rfl,.inr (.of hr),by decide,by rw [E8];lia,by decide,fun r2 kI=>⟨S7.trans (S4.trans (Same.new kI)),(Str.ofString "rule",Str.join " " (z.1::z.2),Str.ofString ""),A3,.inr (.inl ⟨z,hz,rfl⟩)⟩⟩
   rintro Y H8 ⟨r8,y8,rfl,S8,h8,o8⟩;have S9:=S6.trans S8;have L9:=L6.keep S8;have eA:=L9.len;walk_at "rd";refine ⟨rs'.length,.inl ⟨_,.of L9.top,by rw [B9]⟩,?_⟩
   try walk_at "rd"
   refine ⟨by lia,?_⟩;obtain ⟨j,hj⟩:∃ j:Nat,N / 144 % ((rs'.length:Int)+1)=j:=⟨(N / 144 % ((rs'.length:Int)+1)).toNat,by rw [Int.toNat_of_nonneg (Z0 _ (by lia))]⟩
   rw [hj];have hj2:j<=rs'.length:=by
    have:=x3 (N / 144) (show (0:Int)<(rs'.length:Int)+1 by lia)
    lia
   refine rSlR.l (.of L9.top) fun p2 v7=>⟨by decide,fun p3 v8=>?_⟩
   rw [aju,<- List.map_take] at v8 ⊢
   have D5:(rs'.take j).length<=66:=by rw [U3];lia
   try walk_at "rd"
   refine rAddR.l (B8 A3 v8) A3 (by rw [B9,Y8];exact N6 (by lia)) fun p4 kF=>?_
   have T4:=((Same.new v7).trans (Same.new v8)).trans (Same.new (u:=HO.lst ((rs'.take j).map V.ref++[V.ref r8])) kF);have h4:A0 (A0 (A0 H8 p2 (HO.lst ((rs'.take j).map V.ref))) p3 (HO.lst [V.ref r8])) p4 (HO.lst ((rs'.take j).map V.ref++[V.ref r8])) p4=some (HO.lst ((rs'.take j).map V.ref++[V.ref r8])):=A3;generalize A0 (A0 (A0 H8 p2 (HO.lst ((rs'.take j).map V.ref))) p3 (HO.lst [V.ref r8])) p4 (HO.lst ((rs'.take j).map V.ref++[V.ref r8]))=HA at T4 h4 ⊢
   try walk_at "rd"
   refine rSlR.l (.of (T4 _ _ L9.top)) fun p5 v9=>?_
   rw [nE,<- List.map_drop]
   try walk_at "rd"
   have hsz:((rs'.take j).map V.ref++[V.ref r8]).length+((rs'.drop j).map V.ref).length<=1000:=by
    rw [K3,B9,B9,d8,Y8];lia
   refine rAddR.l (B8 h4 v9) A3 (C3 hsz (by decide)) fun p6 dX=>?_
   have T6:=T4.trans ((Same.new (u:=HO.lst ((rs'.drop j).map V.ref)) v9).trans (Same.new (u:=HO.lst ((rs'.take j).map V.ref++[V.ref r8]++(rs'.drop j).map V.ref)) dX));refine ⟨_,_,_,_,p6,rfl,rfl,rfl,rfl,rfl,S9.trans T6,rs'.take j++[r8]++rs'.drop j,ls'.take j++[y8]++ls'.drop j,⟨by rw [A3,M2,M2];rfl,?_,(L9.same.trans (T4.trans (Same.new v9))).free dX,L9.same.trans T6,?_⟩,?_⟩
   .have Y6:=hJ (U8 L9.row fun _ _ e=>T6 _ _ e) j;exact pP Y6.2 (Paired.snoc Y6.1 (T6 _ _ h8))
   .intro y hy
    rcases N3.mp hy with hy | hy
    .rcases N3.mp hy with hy | hy
     .exact L9.ok y (List.mem_of_mem_take hy)
     .rw [Q1.mp hy];exact o8
    .exact L9.ok y (List.mem_of_mem_drop hy)
   .rw [K3,K3,U3,d8,Y8];lia
  rintro Y H2 ⟨u,v,w,x,l',rs',ls',rfl,S2,L2,Y2⟩;walk_at "rd";exact q l' rs' ls' H2 S2 L2 (by lia)
theorem sc_l_due:FnScope ["_law_lines_here", "_law_names_here", "_law_k"] ["_law_lines_here"] (B4 a7):=G3
abbrev iR:List Str:=["_law_lines_here", "_law_names_here", "_law_k"]
theorem u6:VS iR a7 "_law_lines_here" 0:=vq
theorem dI:VS iR a7 "_law_names_here" 1:=vq
theorem u7:VS iR a7 "_law_k" 2:=vq
theorem vb0:LS a7 "_law_names_here":=lq
theorem vb1:LS a7 "_law_k":=lq
theorem ahZ(F:FunD K "_law_due" "_law_due" a7 f fd)(T:Txt P w K mg C C_NoRule C_Twice):FnOk P w K mg base C8 1 f fd ["_law_lines_here"] pR:=by
 refine F.ok sc_l_due ?_ ?_
 .rintro _ _ _ _ ⟨l,rs,ls,H0,rfl,_⟩;rfl
 .intro cdv A outer s H vs Q E hr h;have F2:=hu_of hr;have hu:=hr.units;refine ⟨_,QSs.out (A6 (B6 (n:=1) sc_l_due.nd rfl vb0 (M0 A2))
   (A6 (Z5 PassesOwn.never (qi_r1 T.b_range (qa_c (qe_cB (q_len (K:=K)) T.b_len Q5 (qa_c (vi u6) A2)) A2)) (P4 (n:=2) sc_l_due.nd rfl vb1 (.inl rfl)) (B1 (qs_if (D6 (q_eq (K:=K) hu) (qe_ix (K:=K) (qe_ix (K:=K) (vi u6) (vi u7)) A1) A5) (A6 (qs_if (D6 (q_in (K:=K) hu) (qe_ix (K:=K) (qe_ix (K:=K) (vi u6) (vi u7)) A1) (vi dI)) (B1 (D9 (M1 (qa_c A5 (qa_c (qe_ix (K:=K) (qe_ix (K:=K) (vi u6) (vi u7)) A1) A2))))) K0)
   (B1 (K9 (qe_mB (K:=K) P0 O9 O8 P5 (vi dI) (qa_c (qe_ix (K:=K) (qe_ix (K:=K) (vi u6) (vi u7)) A1) A2))))) (B1 (qs_if (QW.pt (qw_or (D6 (q_eq (K:=K) hu) (qe_ix (K:=K) (qe_ix (K:=K) (vi u6) (vi u7)) A1) A5) (cL (D6 (q_eq (K:=K) hu) (vi dI) (M0 A2))))) (B1 (D9 (M1 (qa_c A5 (qa_c (vi u7) A2))))) K0)))))
   (B1 (D9 (M1 (qa_c A5 (qa_c (vi dI) A2))))))),?_⟩
  obtain ⟨l,rs,ls,H0,rfl,L,bM,q⟩:=h;walk_at "rd";intro p np;have S1:Same H (A0 H p (.lst [])):=Same.new np;have h1p:A0 H p (.lst []) p=some (.lst (([]:List Str).map V.str)):=A3;generalize A0 H p (.lst [])=H1 at S1 h1p ⊢
  have eA:=L.len;refine ⟨rs.length,.inl ⟨_,.of (S1 _ _ L.top),by rw [B9]⟩,by lia,by lia,?_⟩;rw [show ((rs.length:Int)).toNat=ls.length by rw [Int.toNat_natCast,eA]];have W2:∀ z∈ls.map txt3,Reads z (wdsOf z).1 (wdsOf z).2:=fun z hz=>by
   obtain ⟨l,hl,rfl⟩:=U5.mp hz;exact (L.ok l hl).reads.1
  refine forR (fun i Y H2=>∃ (u:Option V) (B:Bk),Y=[some (.ref l),some (.ref p),u]/\Same H H2/\H2 p=some (.lst (B.names.map V.str))/\G4 wdsOf (ls.map txt3) i=some B/\(B.nw=none↔B.names=[])) ⟨none,Bk.nil,rfl,S1,h1p,rfl,by simp [Bk.nil]⟩ ?_ ?_
  .rintro i Y H2 hi ⟨u,B,rfl,S2,h2,hB,W4⟩;have L2:=L.keep S2;obtain ⟨r,hr⟩:∃ r,rs[i]?=some r:=⟨_,List.getElem?_eq_getElem (by lia)⟩
   obtain ⟨y,hy,kJ⟩:=Paired.at L2.row hr;have N9:J8 (rs.map V.ref) (0+(i:Int))=some (V.ref r):=by
    rw [Int.zero_add];exact N5 (by rw [Q2,hr];rfl)
   have hz:(ls.map txt3)[i]?=some (txt3 y):=by rw [Q2,hy];rfl
   have ho:=L.ok y (Q0 hy);have aY:=hV W2 hB;have i0:∀ {H3:Hp},Same H2 H3->D2 K H3 r [V.str y.1,V.str y.2.1,V.str y.2.2]:=fun S=>.of (S _ _ kJ)
   have il:∀ {H3:Hp},Same H2 H3->C1 K H3 l (rs.map V.ref):=fun S=>.of (S _ _ L2.top)
   have a0:J8 [V.str y.1,V.str y.2.1,V.str y.2.2] 0=some (V.str y.1):=Q6 _ _;have a1:J8 [V.str y.1,V.str y.2.1,V.str y.2.2] 1=some (V.str y.2.1):=N5 (j:=1) rfl;walk_at "rd";refine ⟨_,.inl (il (G0 _)),_,N9,?_⟩;walk_at "rd";refine ⟨_,.inr (i0 (G0 _)),_,a0,?_⟩;walk_at "rd"
   rcases ho.kind with ⟨k1,x,k2⟩ | ⟨k1,k2,k3⟩ | ⟨k1,k2,k3⟩
   .rw [if_pos (decide_eq_true k1)];refine ⟨_,.inl (il (G0 _)),_,N9,?_⟩;walk_at "rd";refine ⟨_,.inr (i0 (G0 _)),_,a1,rInR.l (.inl (.of h2)) rfl (mX _) ⟨_,rfl,?_⟩⟩;rw [fC,Bool.false_xor];refine iteD (fun M7=>?_) fun M7=>⟨P3 h2,_,.inl (il (G0 _)),_,N9,?_⟩
    .refine ⟨_,.inl (il (G0 _)),_,N9,?_⟩;walk_at "rd";exact ⟨_,.inr (i0 (G0 _)),_,a1,by decide,fun t nt=>q t (.tw y.2.1) _ (S2.trans (Same.new nt)) ⟨i,_,B,_,hz,hB,k2,M7,rfl⟩ A3⟩
    .walk_at "rd";refine ⟨_,.inr (i0 (G0 _)),_,a1,appOk h2 (by rw [B9];have:=aY.cnt;exact N6 (by lia)) ⟨S2.put np,B.step (.beg y.2.1 x),by rw [A3];show _=some (HO.lst ((B.names++[y.2.1]).map V.str));rw [M2];rfl,?_,?_⟩⟩
     .unfold G4;rw [hB,hz];show N8 B _ _=_;unfold N8;rw [k2];exact if_neg M7
     .refine ⟨fun h=>(by cases h),fun h=>?_⟩;have h:B.names++[y.2.1]=[]:=h;simp at h
   .rw [if_neg (by rw [k1];decide +kernel)];refine ⟨_,.inl (il (G0 _)),_,N9,?_⟩;walk_at "rd";refine ⟨_,.inr (i0 (G0 _)),_,a0,?_⟩;walk_at "rd";rw [if_neg (by rw [k1];decide +kernel)];refine fun t nt=>⟨_,.lst (.of (B8 h2 nt)) (DnAll.strs fun z hz=>aE (aY.nm z hz)),.list (([]:List Str).map X2),.lst (.of A3) .nil,by rw [P1,cI];exact C3 (Nat.min_le_left _ _) (by decide),?_⟩
    rw [mV];refine iteD (fun he=>⟨by decide,fun t2 bN=>?_⟩) fun he=>⟨S2.trans (Same.new nt),B.step (.rule (wdsOf (txt3 y))),B8 h2 nt,?_,W4⟩
    .rw [Int.zero_add];exact q t2 (.at i) _ (S2.trans ((Same.new nt).trans (Same.new bN))) ⟨_,B,hz,hB,k2,.inl (W4.mpr he)⟩ A3
    .unfold G4;rw [hB,hz];show N8 B _ _=_;unfold N8;rw [k2];exact if_neg (fun h=>h.elim (fun h=>he (W4.mp h)) fun h=>by rw [k3] at h;cases h)
   .rw [if_neg (by rw [k1];decide +kernel)];refine ⟨_,.inl (il (G0 _)),_,N9,?_⟩;walk_at "rd";refine ⟨_,.inr (i0 (G0 _)),_,a0,?_⟩;walk_at "rd";rw [if_pos (by rw [k1];decide +kernel)];refine ⟨by decide,fun t nt=>?_⟩;rw [Int.zero_add];exact q t (.at i) _ (S2.trans (Same.new nt)) ⟨_,B,hz,hB,k2,.inr k3⟩ A3
  rintro Y H2 ⟨u,B,rfl,S2,h2,hB,W4⟩;walk_at "rd";exact ⟨by decide,fun t nt=>q t (.nm B.names) _ (S2.trans (Same.new nt)) ⟨B,by rw [B9];exact hB,rfl⟩ ⟨p,A3,B8 h2 nt⟩⟩
theorem sc_l_text:FnScope ["_law_lines_here", "_law_rows", "_law_word", "_law_behind", "_law_more_here"] ["_law_lines_here"] (B4 Q7):=G3
abbrev aK:List Str:=["_law_lines_here", "_law_rows", "_law_word", "_law_behind", "_law_more_here"]
theorem vb2:VS aK Q7 "_law_lines_here" 0:=vq
theorem iS:VS aK Q7 "_law_rows" 1:=vq
theorem vb4:VS aK Q7 "_law_word" 2:=vq
theorem rA:VS aK Q7 "_law_behind" 3:=vq
theorem vb6:VS aK Q7 "_law_more_here" 4:=vq
theorem vb7:LS Q7 "_law_rows":=lq
theorem vb8:LS Q7 "_law_word":=lq
theorem vb9:LS Q7 "_law_behind":=lq
theorem vca:LS Q7 "_law_more_here":=lq
theorem agN(F:FunD K "_law_text" "_law_text" Q7 f fd)(T:Txt P w K mg C C_NoRule C_Twice):FnOk P w K mg base C8 1 f fd ["_law_lines_here"] pS:=by
 refine F.ok sc_l_text ?_ ?_
 .rintro _ _ _ _ ⟨l,rs,ls,H0,rfl,_⟩;rfl
 .intro cdv A outer s H vs Q E hr h;have F2:=hu_of hr;have hu:=hr.units;refine ⟨_,QSs.out (A6 (B6 (n:=1) sc_l_text.nd rfl vb7 (M0 A2))
   (A6 (Z5 PassesOwn.never (cM (K:=K) (vi vb2)) (ala (K:=K) (n:=3) (fH ((P4 (n:=2) sc_l_text.nd rfl vb8 (.inl rfl))) (fH ((P4 (n:=3) sc_l_text.nd rfl vb9 (.inl rfl))) (fH ((P4 (n:=4) sc_l_text.nd rfl vca (.inl rfl))) ajq)))) (B1 (qs_if (D6 (q_eq (K:=K) hu) (vi vb4) A5) (B1 (K9 (qe_mB (K:=K) P0 O9 O8 P5 (vi iS) (qa_c (qe_op (q_add (K:=K)) (qe_op (q_add (K:=K)) A5 (vi rA)) (vi vb6)) A2)))) (B1 (K9 (qe_mB (K:=K) P0 O9 O8 P5 (vi iS) (qa_c (vi rA) A2)))))))
   (B1 (D9 (qe_mB (K:=K) o6 PySem.F.slot_str_join PySem.F.type_str_join (fL (K:=K)) A5 (qa_c (vi iS) A2)))))),?_⟩
  obtain ⟨l,rs,ls,H0,rfl,L,bM,q⟩:=h;walk_at "rd";intro p np;have S1:Same H (A0 H p (.lst [])):=Same.new np;have h1p:A0 H p (.lst []) p=some (.lst (([]:List Str).map V.str)):=A3;generalize A0 H p (.lst [])=H1 at S1 h1p ⊢
  have eA:=L.len;refine ⟨⟨_,.of (S1 _ _ L.top)⟩,forL (xs:=rs.map V.ref) (fun i Y H2=>∃ (u v w:Option V),Y=[some (.ref l),some (.ref p),u,v,w]/\Same H H2/\H2 p=some (.lst (((ls.take i).map txt3).map V.str))) ⟨none,none,none,rfl,S1,h1p⟩ (by rintro i Y H2 _ ⟨_,_,_,_,S,_⟩;exact .of (S _ _ L.top)) ?_ ?_⟩
  .rintro i x0 Y H2 hx ⟨u,v,w,rfl,S2,h2⟩;obtain ⟨r,hr,rfl⟩:=fD hx;have L2:=L.keep S2;obtain ⟨y,hy,kJ⟩:=Paired.at L2.row hr;have hi:i<ls.length:=(W9.mp hy).1;have ho:=(L.ok y (Q0 hy)).reads.2.2;have j6:(ls.take (i+1)).map txt3=(ls.take i).map txt3++[txt3 y]:=by rw [List.take_add_one,hy,M2];rfl
   have A8:(((ls.take i).map txt3).map V.str).length<=65:=by rw [B9,B9,U3];lia
   walk_at "rd";refine ⟨_,.of kJ,rfl,_,_,rfl,_,_,rfl,_,_,rfl,rfl,?_⟩;walk_at "rd";refine iteD (fun h=>?_) fun h=>⟨P3 h2,appOk h2 (N6 (by lia)) ⟨S2.put np,by rw [A3,j6,M2];unfold txt3;rw [if_neg h];rfl⟩⟩
   have e:txt3 y=Str.ofString "order "++y.2.1++y.2.2:=by unfold txt3;rw [if_pos h]
   have hl:=ho;rw [e] at hl;have Y2:=hl;rw [Str.length_append,Str.length_append] at Y2;exact ⟨P3 h2,N7 (by lia),N7 (by rw [Str.length_append];lia),appOk h2 (N6 (by lia)) ⟨S2.put np,by rw [A3,j6,M2,e];rfl⟩⟩
  rintro Y H2 ⟨u,v,w,rfl,S2,h2⟩;rw [B9,eA,List.take_length] at h2;walk_at "rd";exact ⟨"\n",p,ls.map txt3,rfl,rfl,.inl (.of h2),by decide,by
   have:=hR L.ok
   rw [B9];lia,q H2 S2⟩
theorem sc_l_kinds:FnScope ["_law_text_here", "_law_kinds_here", "e"] ["_law_text_here"] (B4 b0):=G3
abbrev iT:List Str:=["_law_text_here", "_law_kinds_here", "e"]
theorem vcb:VS iT b0 "_law_text_here" 0:=vq
theorem vcc:VS iT b0 "_law_kinds_here" 1:=vq
theorem dJ:VS iT b0 "e" 2:=vq
theorem rB:LS b0 "_law_kinds_here":=lq
theorem aer:(B4 b0).names.lookup ("e" : Str)=some .local:=by decide +kernel
theorem afk(F:FunD K "_law_kinds" "_law_kinds" b0 f fd)(T:Txt P w K mg C C_NoRule C_Twice)(G_Book___init__:z8 P w K mg base 7 C "Book" ["self", "text"] (spBIX C C_NoRule C_Twice)):FnOk P w K mg base C8 9 f fd ["_law_text_here"] pT:=by
 refine F.ok sc_l_kinds ?_ ?_
 .rintro _ _ _ _ ⟨T,zs,o,rfl,_⟩;rfl
 .intro cdv A outer s H vs Q E hr h;have F2:=hu_of hr;have hu:=hr.units;obtain ⟨a_Clash,m_Clash,M_Clash⟩:=T.x_Clash;obtain ⟨a_NoDeed,m_NoDeed,M_NoDeed⟩:=T.x_NoDeed;obtain ⟨a_NoLetter,m_NoLetter,M_NoLetter⟩:=T.x_NoLetter;obtain ⟨a_NoName,m_NoName,M_NoName⟩:=T.x_NoName;obtain ⟨a_NoRule,m_NoRule,M_NoRule⟩:=T.x_NoRule;obtain ⟨a_NoSign,m_NoSign,M_NoSign⟩:=T.x_NoSign;obtain ⟨a_NoText,m_NoText,M_NoText⟩:=T.x_NoText;obtain ⟨a_NotPlain,m_NotPlain,M_NotPlain⟩:=T.x_NotPlain;obtain ⟨a_Ring,m_Ring,M_Ring⟩:=T.x_Ring;obtain ⟨a_Round,m_Round,M_Round⟩:=T.x_Round;obtain ⟨a_Twice,m_Twice,M_Twice⟩:=T.x_Twice;obtain ⟨d_LoreError,md_LoreError,CC_LoreError,mr_LoreError⟩:=T.c_LoreError;refine ⟨_,QSs.out (A6 (B6 (n:=1) sc_l_kinds.nd rfl rB (M1 (qa_c qe_bl (qa_c qe_bl (qa_c qe_bl (qa_c qe_bl A2))))))
   (A6 (oP (ago (qh_as md_LoreError CC_LoreError sc_l_kinds.nd (i:=2) rfl aer (fun _ _=>(B1 (B6 (n:=1) sc_l_kinds.nd rfl rB (M1 (qa_c (qe_cB (q_isX T.cn T.ct (K:=K)) T.b_isinstance g0 (qa_c (vi dJ) (qa_c (O4 m_NoRule) A2))) (qa_c (qe_cB (q_isX T.cn T.ct (K:=K)) T.b_isinstance g0 (qa_c (vi dJ) (qa_c (O4 m_Twice) A2))) (qa_c (qe_cB (q_isX T.cn T.ct (K:=K)) T.b_isinstance g0 (qa_c (vi dJ) (qa_c (qe_ty T.b_ValueError ac7) A2))) (qa_c (qe_cB (alt T.cn T.ct (K:=K)) T.b_isinstance g0 (qa_c (vi dJ) (qa_c (M1 (qa_c (O4 m_Clash) (qa_c (O4 m_NoDeed) (qa_c (O4 m_NoLetter) (qa_c (O4 m_NoName) (qa_c (O4 m_NoSign) (qa_c (O4 m_NotPlain) (qa_c (O4 m_NoText) (qa_c (O4 m_Ring) (qa_c (O4 m_Round) A2)))))))))) A2))) A2)))))))) oM (K:=K)) (oK G_Book___init__ (hm hr) (fun _=>(qa_c (vi vcb) A2)))))
   (B1 (D9 (vi vcc))))),?_⟩
  obtain ⟨T',zs,o,rfl,x,ho,q⟩:=h;obtain ⟨fN,MN⟩:=T.er_NoRule;obtain ⟨fT,MT⟩:=T.er_Twice;obtain ⟨ml1,ml2⟩:=mr_LoreError;walk_at "rd";refine ⟨by decide,fun p np=>?_⟩;have S0:Same H (A0 H p (HO.tup [V.bl false,V.bl false,V.bl false,V.bl false])):=Same.new np;have W6:A0 H p (HO.tup [V.bl false,V.bl false,V.bl false,V.bl false]) p=some (.tup ([false,false,false,false].map V.bl)):=A3;generalize A0 H p (HO.tup [V.bl false,V.bl false,V.bl false,V.bl false])=H1 at S0 W6;refine fun b dx nb ndx L7=>⟨b,dx,T',zs,wdsOf,H1,rfl,rfl,nb,ndx,L7,x.cond,fun h0 o1 e1 ad as H' bk=>⟨rfl,?_⟩,fun B hB o1 e1 ad as H' bk=>⟨rfl,?_⟩,fun i z B nx h1 h2 h3 h4 dx' H' S hd=>⟨C_Twice,dx',rfl,rfl,true,ml2,?_⟩,fun i z B h1 h2 h3 h4 dx' H' S hd=>⟨C_NoRule,dx',rfl,rfl,true,ml1,?_⟩⟩
  .obtain rfl:=IsOut.uniq ho (show IsOut zs (.nm Bk.nil.names) from ⟨Bk.nil,by rw [x.zero h0];rfl,rfl⟩);exact q p H' (S0.trans bk.same) (bk.same _ _ W6)
  .obtain rfl:=IsOut.uniq ho (show IsOut zs (.nm B.names) from ⟨B,hB,rfl⟩);exact q p H' (S0.trans bk.same) (bk.same _ _ W6)
  .obtain rfl:=IsOut.uniq ho (show IsOut zs (.tw nx.1) from ⟨i,z,B,nx,h1,h2,h3,h4,rfl⟩);rw [if_pos rfl];intro y ny;walk_at "rd";refine ⟨y,C_Twice,dx',fT,_,.ref _,.ref _,false,rfl,A3,B8 hd ny,MT,rfl,M_NoRule.2,y,C_Twice,dx',fT,_,.ref _,.ref _,true,rfl,A3,B8 hd ny,MT,rfl,M_Twice.2,y,C_Twice,dx',fT,_,.ty "ValueError",.type "ValueError",true,rfl,A3,B8 hd ny,MT,rfl,T.y_ValueError_Twice,by decide,fun t nt=>?_⟩;refine ⟨y,C_Twice,dx',fT,_,t,_,_,false,rfl,B8 A3 nt,B8 (B8 hd ny) nt,MT,.of A3,rfl,gF ?_,by decide,fun t2 bN=>q t2 _ (S0.trans (S.trans ((Same.new ny).trans ((Same.new nt).trans (Same.new bN))))) A3⟩;intro c hc;simp only [C0,L8,or_false] at hc
   rcases hc with rfl | rfl | rfl | rfl | rfl | rfl | rfl | rfl | rfl
   .exact M_Clash.2
   .exact M_NoDeed.2
   .exact M_NoLetter.2
   .exact M_NoName.2
   .exact M_NoSign.2
   .exact M_NotPlain.2
   .exact M_NoText.2
   .exact M_Ring.2
   .exact M_Round.2
  .obtain rfl:=IsOut.uniq ho (show IsOut zs (.at i) from ⟨z,B,h1,h2,h3,h4⟩);rw [if_pos rfl];intro y ny;walk_at "rd";refine ⟨y,C_NoRule,dx',fN,_,.ref _,.ref _,true,rfl,A3,B8 hd ny,MN,rfl,M_NoRule.1,y,C_NoRule,dx',fN,_,.ref _,.ref _,false,rfl,A3,B8 hd ny,MN,rfl,M_Twice.1,y,C_NoRule,dx',fN,_,.ty "ValueError",.type "ValueError",true,rfl,A3,B8 hd ny,MN,rfl,T.y_ValueError,by decide,fun t nt=>?_⟩;refine ⟨y,C_NoRule,dx',fN,_,t,_,_,false,rfl,B8 A3 nt,B8 (B8 hd ny) nt,MN,.of A3,rfl,gF ?_,by decide,fun t2 bN=>q t2 _ (S0.trans (S.trans ((Same.new ny).trans ((Same.new nt).trans (Same.new bN))))) A3⟩;intro c hc;simp only [C0,L8,or_false] at hc
   rcases hc with rfl | rfl | rfl | rfl | rfl | rfl | rfl | rfl | rfl
   .exact M_Clash.1
   .exact M_NoDeed.1
   .exact M_NoLetter.1
   .exact M_NoName.1
   .exact M_NoSign.1
   .exact M_NotPlain.1
   .exact M_NoText.1
   .exact M_Ring.1
   .exact M_Round.1
theorem sc_law:FnScope ["_law_script", "_law_cell", "_law_some", "_law_names_here", "_law_lines_here", "_law_text_here", "_law_due_here", "_law_got", "e"] ["_law_script"] (B4 s_law):=G3
abbrev n_law:List Str:=["_law_script", "_law_cell", "_law_some", "_law_names_here", "_law_lines_here", "_law_text_here", "_law_due_here", "_law_got", "e"]
theorem dL:VS n_law s_law "_law_script" 0:=vq
theorem rC:VS n_law s_law "_law_cell" 1:=vq
theorem rD:VS n_law s_law "_law_some" 2:=vq
theorem rE:VS n_law s_law "_law_names_here" 3:=vq
theorem dM:VS n_law s_law "_law_lines_here" 4:=vq
theorem iU:VS n_law s_law "_law_text_here" 5:=vq
theorem dN:VS n_law s_law "_law_due_here" 6:=vq
theorem rF:VS n_law s_law "_law_got" 7:=vq
theorem rG:VS n_law s_law "e" 8:=vq
theorem vco:LS s_law "_law_cell":=lq
theorem vcp:LS s_law "_law_some":=lq
theorem vcq:LS s_law "_law_names_here":=lq
theorem vcr:LS s_law "_law_lines_here":=lq
theorem vcs:LS s_law "_law_text_here":=lq
theorem vct:LS s_law "_law_due_here":=lq
theorem dO:LS s_law "_law_got":=lq
theorem rH:(B4 s_law).names.lookup ("e" : Str)=some .local:=by decide +kernel
theorem alF(F:FunD K "law" "law" s_law f fd)(T:Txt P w K mg C C_NoRule C_Twice)(G_Book___init__:z8 P w K mg base 7 C "Book" ["self", "text"] (spBIX C C_NoRule C_Twice))(G_Book_names:MO P w K mg base 1 C "names" ["self"] (gM C))(G_l_cell_at:FO P w K mg base 1 "_law_cell_at" ["_law_script", "_law_k"] [] (gJ K))(G_l_pieces:FO P w K mg base 1 "_law_pieces" ["_law_cell", "_law_many"] [] pH)(G_l_names:FO P w K mg base 1 "_law_names" ["_law_number", "_law_many"] [] pI)(G_l_lines:FO P w K mg base 2 "_law_lines" ["_law_script", "_law_names_here", "_law_some"] [] (pN K))(G_l_more:FO P w K mg base 2 "_law_more" ["_law_script", "_law_names_here", "_law_some", "_law_lines_here"] [] (pO K))(G_l_due:FO P w K mg base 1 "_law_due" ["_law_lines_here"] [] pR)(G_l_text:FO P w K mg base 1 "_law_text" ["_law_lines_here"] [] pS)(G_l_kinds:FO P w K mg base 9 "_law_kinds" ["_law_text_here"] [] pT):FnOk P w K mg base C8 10 f fd ["_law_script"] (spLaw K):=by
 refine F.ok sc_law ?_ ?_
 .rintro _ _ _ _ ⟨a,ns,rfl,_⟩;rfl
 .intro cdv A outer s H vs Q E hr h;have F2:=hu_of hr;have hu:=hr.units;obtain ⟨d_NoRule,md_NoRule,CC_NoRule,mr_NoRule⟩:=T.c_NoRule;obtain ⟨d_Twice,md_Twice,CC_Twice,mr_Twice⟩:=T.c_Twice;refine ⟨_,QSs.out (A6 (B6 (n:=1) sc_law.nd rfl vco (G6 G_l_cell_at (hm hr) (qa_c (vi dL) (qa_c A1 A2))))
   (A6 (B6 (n:=2) sc_law.nd rfl vcp (G6 G_l_pieces (hm hr) (qa_c (vi rC) (qa_c (qe_op (q_add (K:=K)) A1 (qe_op q_mod (vi rC) A1)) A2))))
   (A6 (B6 (n:=3) sc_law.nd rfl vcq (G6 G_l_names (hm hr) (qa_c (qe_op q_mod (qe_op q_mul (G6 G_l_cell_at (hm hr) (qa_c (vi dL) (qa_c A1 A2))) A1) A1) (qa_c A1 A2))))
   (A6 (B6 (n:=4) sc_law.nd rfl vcr (G6 G_l_more (hm hr) (qa_c (vi dL) (qa_c (vi rE) (qa_c (vi rD) (qa_c (G6 G_l_lines (hm hr) (qa_c (vi dL) (qa_c (vi rE) (qa_c (vi rD) A2)))) A2))))))
   (g7 (qs_if (QW.pt (z4 (D6 (q_eq (K:=K) hu) (qe_cB (q_len (K:=K)) T.b_len Q5 (qa_c (vi dM) A2)) A1) (y9 (D6 (q_eq (K:=K) hu) (G6 G_l_text (hm hr) (qa_c (vi dM) A2)) A5)))) (B1 (D9 (X7 (q_eq (K:=K) hu) (ahA (ahH G_Book___init__ (hm hr) agh (qa_c A5 A2)) G_Book_names (hm hr)) (M0 A2)))) K0)
   (A6 (B6 (n:=5) sc_law.nd rfl vcs (G6 G_l_text (hm hr) (qa_c (vi dM) A2)))
   (A6 (B6 (n:=6) sc_law.nd rfl vct (G6 G_l_due (hm hr) (qa_c (vi dM) A2)))
   (A6 (B6 (n:=7) sc_law.nd rfl dO fE)
   (g7 (oP (ahL (qh_as md_NoRule CC_NoRule sc_law.nd (i:=8) rfl rH (fun _ _=>(B1 (B6 (n:=7) sc_law.nd rfl dO (M1 (qa_c A5 (qa_c (oI (vi rG) (K:=K)) A2)))))) (qh_as md_Twice CC_Twice sc_law.nd (i:=8) rfl rH (fun _ _=>(B1 (B6 (n:=7) sc_law.nd rfl dO (M1 (qa_c A5 (qa_c (oI (vi rG) (K:=K)) A2)))))) oM (K:=K)) (K:=K)) (ajW (fun _=>A5) (ahI (oK G_Book___init__ (hm hr) (fun _=>(qa_c (vi iU) A2))) G_Book_names (hm hr))) sc_law.nd (j:=7) rfl dO))
   (A6 (qs_if (QW.pt (qw_or (D6 (q_ne (K:=K) hu) (vi rF) (vi dN)) (cL (t6 (K:=K) (qe_cB q_isi T.b_isinstance g0 (qa_c (qe_ix (K:=K) (vi rF) A1) (qa_c (qe_ty T.b_bool ajk) A2))))))) (B1 (D9 qe_bl)) K0)
   (A6 (qs_if (D6 (q_eq (K:=K) hu) (qe_ix (K:=K) (vi dN) A1) A5) (B1 (D9 (X7 (q_eq (K:=K) hu) (G6 G_l_kinds (hm hr) (qa_c (vi iU) A2)) (M1 (qa_c qe_bl (qa_c qe_bl (qa_c qe_bl (qa_c qe_bl A2)))))))) K0)
   (B1 (D9 (X7 (q_eq (K:=K) hu) (G6 G_l_kinds (hm hr) (qa_c (vi iU) A2)) (M1 (qa_c (X7 (q_eq (K:=K) hu) (qe_ix (K:=K) (vi dN) A1) A5) (qa_c (X7 (q_eq (K:=K) hu) (qe_ix (K:=K) (vi dN) A1) A5) (qa_c qe_bl (qa_c qe_bl A2))))))))))))))))))),?_⟩
  obtain ⟨a,ns,rfl,hS,A8,q⟩:=h;obtain ⟨fN,MN⟩:=T.er_NoRule;obtain ⟨fT,MT⟩:=T.er_Twice;walk_at "rd";refine ⟨a,ns,0,rfl,hS,by decide,fun c=>⟨c,rfl,c,2+c % 11,rfl,by lia,by lia,fun l1 ps H1 nl1 S1 sN C7 W3=>⟨a,ns,1,rfl,S1.seq hS,by decide,fun c1=>?_⟩⟩⟩
  try walk_at "rd"
  refine ⟨.inr ⟨by decide,by decide⟩,c1*16807 % 2147483647,rfl,by lia,by lia,fun l2 nms H2 nl2 S2 Y2 dY sB c3=>?_⟩;have bK:=S1.trans S2;have W6:ps≠[]:=fun e=>by rw [e] at C7;simp at C7;lia
  refine ⟨a,l2,l1,ns,nms,ps,rfl,bK.seq hS,A8,Y2,S2 _ _ sN,dY,c3,W6,by lia,W3,fun l3 rs ls H3 L3 bM=>?_⟩;refine ⟨a,l2,l1,l3,ns,nms,ps,rs,ls,_,rfl,L3.same.seq (bK.seq hS),L3.same _ _ Y2,L3.same _ _ (S2 _ _ sN),dY,c3,W6,by lia,W3,L3,bM,fun l4 eB O0 H4 S4 L4 kK=>?_⟩;have bO:(Str.join "\n" (O0.map txt3)).length<=900000:=by
   have h1:=PySem.StrLaws.join_length_le "\n" (O0.map txt3);rw [show ("\n" : Str).length=1 from rfl,B9] at h1
   have:=hR L4.ok
   lia
  have W2:∀ z∈O0.map txt3,Reads z (wdsOf z).1 (wdsOf z).2/\10∉z.cps.toList:=fun z hz=>by
   obtain ⟨l,hl,rfl⟩:=U5.mp hz;exact ⟨(L4.ok l hl).reads.1,(L4.ok l hl).reads.2.1⟩
  have kL:=L4.len;have mkTx:¬(O0.length=1/\Str.join "\n" (O0.map txt3)=Str.ofString "")->Tx (O0.map txt3) (Str.join "\n" (O0.map txt3)):=fun hn=>by
   refine ⟨rfl,by rw [B9];lia,W2,bO,?_⟩
   rcases O0 with _ | ⟨y,_ | ⟨y2,r⟩⟩
   .exact .inr ⟨rfl,by decide +kernel⟩
   .refine .inl (Nat.pos_of_ne_zero fun e=>hn ⟨rfl,?_⟩);exact ahX e
   .exact .inl agG
  refine g8 (fun Y H5=>Y=[some (.ref a),some (.int c),some (.ref l1),some (.ref l2),some (.ref l4),none,none,none,none]/\Same H4 H5/\Tx (O0.map txt3) (Str.join "\n" (O0.map txt3))) ?_ ?_
  .walk_at "rd";refine ⟨eB.length,.inl ⟨_,.of L4.top,by rw [B9]⟩,?_⟩;refine iteD (fun h1=>?_) fun h1=>⟨G0 _,mkTx fun h=>h1 (by rw [kL,h.1];rfl)⟩
   refine ⟨l4,eB,O0,_,rfl,L4,kK,fun H5 S5=>?_⟩;walk_at "rd";refine iteD (fun h2=>?_) fun h2=>⟨S5,mkTx fun h=>h2 h.2⟩
   refine fun b dx nb ndx L7=>⟨b,dx,_,[],wdsOf,H5,rfl,rfl,nb,ndx,L7,.inl (by decide +kernel),fun _ o e ad as H6 bk=>⟨rfl,dx,_,bk.obj,rfl,?_⟩,fun B hB o e ad as H6 bk=>⟨rfl,dx,_,bk.obj,rfl,?_⟩,fun i z B nx h1=>(by simp at h1),fun i z B h1=>by simp at h1⟩
   .refine ⟨b,dx,o,e,H5,Bk.nil,ad,as,_,rfl,bk,Bk.Good.start.mono (by decide),fun fi H7 nfi S7 U1 p np=>?_⟩;have U1:H7 fi=some (.lst (([]:List Str).map V.str)):=U1;exact ⟨_,.lst (.of (B8 U1 np)) .nil,.list (([]:List Str).map X2),.lst (.of A3) .nil,by decide,q _⟩
   .obtain rfl:=Option.some.inj (show some Bk.nil=some B from hB);refine ⟨b,dx,o,e,H5,Bk.nil,ad,as,_,rfl,bk,Bk.Good.start.mono (by decide),fun fi H7 nfi S7 U1 p np=>?_⟩;have U1:H7 fi=some (.lst (([]:List Str).map V.str)):=U1;exact ⟨_,.lst (.of (B8 U1 np)) .nil,.list (([]:List Str).map X2),.lst (.of A3) .nil,by decide,q _⟩
  rintro Y H5 ⟨rfl,S5,x⟩;walk_at "rd";refine ⟨l4,eB,O0,_,rfl,L4.keep S5,kK,fun H6 S6=>⟨l4,eB,O0,_,rfl,(L4.keep S5).keep S6,kK,fun t o H7 S7 ho hot=>?_⟩⟩;generalize Str.join "\n" (O0.map txt3)=T' at x;generalize O0.map txt3=zs at x ho;clear mkTx W2 bO;refine g8 (fun Y H8=>∃ g,Y=[some (.ref a),some (.int c),some (.ref l1),some (.ref l2),some (.ref l4),some (.str T'),some (.ref t),some (.ref g),none]/\Same H7 H8/\OutT H8 g o) ?_ ?_
  .obtain ⟨mn1,mn2⟩:=mr_NoRule;obtain ⟨mt1,mt2⟩:=mr_Twice;walk_at "rd";refine fun b dx nb ndx L7=>⟨b,dx,T',zs,wdsOf,H7,rfl,rfl,nb,ndx,L7,x.cond,fun h0 o1 e1 ad as H' bk=>⟨rfl,dx,_,bk.obj,rfl,?_⟩,fun B hB o1 e1 ad as H' bk=>⟨rfl,dx,_,bk.obj,rfl,?_⟩,fun i z B nx h1 h2 h3 h4 dx' H' S hd=>⟨C_Twice,dx',rfl,rfl,false,mn2,?_⟩,fun i z B h1 h2 h3 h4 dx' H' S hd=>⟨C_NoRule,dx',rfl,rfl,true,mn1,?_⟩⟩
   .obtain rfl:=IsOut.uniq ho (show IsOut zs (.nm Bk.nil.names) from ⟨Bk.nil,by rw [x.zero h0];rfl,rfl⟩);exact ⟨b,dx,o1,e1,H7,Bk.nil,ad,as,_,rfl,bk,Bk.Good.start.mono (by decide),fun fi H9 nfi S9 U1=>⟨by decide,fun p np=>⟨bk.same.trans (S9.trans (Same.new np)),fi,A3,B8 U1 np⟩⟩⟩
   .obtain rfl:=IsOut.uniq ho (show IsOut zs (.nm B.names) from ⟨B,hB,rfl⟩);exact ⟨b,dx,o1,e1,H7,B,ad,as,_,rfl,bk,(x.good hB).mono (C3 x.len (by decide)),fun fi H9 nfi S9 U1=>⟨by decide,fun p np=>⟨bk.same.trans (S9.trans (Same.new np)),fi,A3,B8 U1 np⟩⟩⟩
   .obtain rfl:=IsOut.uniq ho (show IsOut zs (.tw nx.1) from ⟨i,z,B,nx,h1,h2,h3,h4,rfl⟩);rw [if_neg F3];refine ⟨true,mt2,?_⟩;rw [if_pos rfl];intro y ny;walk_at "rd";exact ⟨C_Twice,dx',A3,fT,_,B8 hd ny,MT,T.na_Twice,_,rfl,by decide,fun p np=>⟨S.trans ((Same.new ny).trans (Same.new np)),A3⟩⟩
   .obtain rfl:=IsOut.uniq ho (show IsOut zs (.at i) from ⟨z,B,h1,h2,h3,h4⟩);rw [if_pos rfl];intro y ny;walk_at "rd";exact ⟨C_NoRule,dx',A3,fN,_,B8 hd ny,MN,T.na_NoRule,_,rfl,by decide,fun p np=>⟨S.trans ((Same.new ny).trans (Same.new np)),A3⟩⟩
  rintro Y H8 ⟨g,rfl,S8,eC⟩;walk_at "rd";have c4:=hot.same S8;obtain ⟨d1,d2,d3'⟩:=OutT.dn (K:=K) x ho eC;obtain ⟨d4,_,_⟩:=OutT.dn (K:=K) x ho c4;refine ⟨_,d1,_,d4,d3',?_⟩;rw [d2]
  cases o with
  | nm nms'=>
   obtain ⟨l,g1,g2⟩:=id eC;obtain ⟨l',g3,g4⟩:=id c4;refine iteF ⟨_,.inr (.of g1),V.ref l,N5 (j:=1) rfl, "list",ajn g2,rfl,iteF ⟨_,.inr (.of g3),_,Q6 _ _,?_⟩⟩;walk_at "rd";refine iteT ⟨T',zs,_,rfl,x,ho,fun t2 H9 S9 h9=>⟨by decide,fun p np=>⟨_,.tup (.of (B8 h9 np)) i7,_,.tup (.of A3) (i7 (l:=[false,false,false,false])),(by decide:min (PyData.tuple ([false,false,false,false].map PyData.bool)).depth (PyData.tuple ([false,false,false,false].map PyData.bool)).depth<=60),q _⟩⟩⟩
  | «at» i=>
   refine iteF ⟨_,.inr (.of eC),V.int i,N5 (j:=1) rfl, "int",rfl,rfl,iteF ⟨_,.inr (.of c4),_,Q6 _ _,?_⟩⟩;walk_at "rd";refine iteF ⟨T',zs,_,rfl,x,ho,fun t2 H9 S9 h9=>⟨_,.inr (.of (S9 _ _ c4)),_,Q6 _ _,?_⟩⟩;walk_at "rd";refine ⟨_,.inr (.of (S9 _ _ c4)),_,Q6 _ _,?_⟩;walk_at "rd";rw [show decide (Str.ofString "at"=Str.ofString "twice")=false by decide +kernel];exact ⟨by decide,fun p np=>⟨_,.tup (.of (B8 h9 np)) (i7 (l:=[true,false,true,false])),_,.tup (.of A3) (i7 (l:=[true,false,true,false])),(by decide:min (PyData.tuple ([true,false,true,false].map PyData.bool)).depth (PyData.tuple ([true,false,true,false].map PyData.bool)).depth<=60),q _⟩⟩
  | tw n=>
   refine iteF ⟨_,.inr (.of eC),V.str n,N5 (j:=1) rfl, "str",rfl,rfl,iteF ⟨_,.inr (.of c4),_,Q6 _ _,?_⟩⟩;walk_at "rd";refine iteF ⟨T',zs,_,rfl,x,ho,fun t2 H9 S9 h9=>⟨_,.inr (.of (S9 _ _ c4)),_,Q6 _ _,?_⟩⟩;walk_at "rd";refine ⟨_,.inr (.of (S9 _ _ c4)),_,Q6 _ _,?_⟩;walk_at "rd";rw [show decide (Str.ofString "twice"=Str.ofString "at")=false by decide +kernel];exact ⟨by decide,fun p np=>⟨_,.tup (.of (B8 h9 np)) (i7 (l:=[false,true,true,false])),_,.tup (.of A3) (i7 (l:=[false,true,true,false])),(by decide:min (PyData.tuple ([false,true,true,false].map PyData.bool)).depth (PyData.tuple ([false,true,true,false].map PyData.bool)).depth<=60),q _⟩⟩
end
theorem all_mk{l:PySem.W.OpenLaw}{C_NoRule C_Twice:Addr}(X:K.In h)(G:h.Ns mainGlobals mg)(hfa:mg "law"=some (.ref fa)){f0:Addr}{od0 an0:Option Addr}{sl0:Array (Option Value)}{oc0 kV0 dc0 pm0 sO ct0:Value}(i0:R1 K (.ref f0)=true)(l0:K.lookup f0=some ⟨oc0,od0,.func (J5 "__init__" "NoRule.__init__" (M4 X9) (J9 X9) (B4 X9) .none kV0 dc0 pm0 an0 sO ct0),sl0⟩)(c0:M8 K sO "NoRule.__init__"=true)(k0:G9 K (.ref f0)=true){f1:Addr}{od1 an1:Option Addr}{sl1:Array (Option Value)}{oc1 kV1 dc1 pm1 sP ct1:Value}(i1:R1 K (.ref f1)=true)(l1:K.lookup f1=some ⟨oc1,od1,.func (J5 "__init__" "Twice.__init__" (M4 a6) (J9 a6) (B4 a6) .none kV1 dc1 pm1 an1 sP ct1),sl1⟩)(c1:M8 K sP "Twice.__init__"=true)(k1:G9 K (.ref f1)=true)(d2:DF K "is_sign" cQ)(d3:DF K "is_piece" z9)(d4:DF K "is_rule" i4){f5:Addr}{od5 an5:Option Addr}{sl5:Array (Option Value)}{oc5 kV5 dc5 pm5 sQ ct5:Value}(a5:C4 K mainGlobals "read_rule"=some (some (.ref f5)))(l5:K.lookup f5=some ⟨oc5,od5,.func (J5 "read_rule" "read_rule" (M4 Y0) (J9 Y0) (B4 Y0) .none kV5 dc5 pm5 an5 sQ ct5),sl5⟩)(c5:M8 K sQ "read_rule"=true)(k5:G9 K (.ref f5)=true)(d6:DF K "is_name" aA)(d7:DF K "is_beginning" cR){f8:Addr}{od8 an8:Option Addr}{sl8:Array (Option Value)}{oc8 kV8 dc8 pm8 sR ct8:Value}(a8:D0 K (.ref C) "begin"=some (some (.ref f8)))(i8:R1 K (.ref f8)=true)(l8:K.lookup f8=some ⟨oc8,od8,.func (J5 "begin" "Book.begin" (M4 V4) (J9 V4) (B4 V4) .none kV8 dc8 pm8 an8 sR ct8),sl8⟩)(c8:M8 K sR "Book.begin"=true)(k8:G9 K (.ref f8)=true){f9:Addr}{od9 an9:Option Addr}{sl9:Array (Option Value)}{oc9 kV9 dc9 pm9 sS ct9:Value}(a9:D0 K (.ref C) "add_rule"=some (some (.ref f9)))(i9:R1 K (.ref f9)=true)(l9:K.lookup f9=some ⟨oc9,od9,.func (J5 "add_rule" "Book.add_rule" (M4 V5) (J9 V5) (B4 V5) .none kV9 dc9 pm9 an9 sS ct9),sl9⟩)(c9:M8 K sS "Book.add_rule"=true)(k9:G9 K (.ref f9)=true){f10:Addr}{od10 an10:Option Addr}{sl10:Array (Option Value)}{oc10 kV10 dc10 pm10 cd10 ct10:Value}(a10:D0 K (.ref C) "tell"=some (some (.ref f10)))(i10:R1 K (.ref f10)=true)(l10:K.lookup f10=some ⟨oc10,od10,.func (J5 "tell" "Book.tell" (M4 V6) (J9 V6) (B4 V6) .none kV10 dc10 pm10 an10 cd10 ct10),sl10⟩)(c10:M8 K cd10 "Book.tell"=true)(k10:G9 K (.ref f10)=true){f11:Addr}{od11 an11:Option Addr}{sl11:Array (Option Value)}{oc11 kV11 dc11 pm11 cd11 ct11:Value}(a11:D0 K (.ref C) "__init__"=some (some (.ref f11)))(i11:R1 K (.ref f11)=true)(l11:K.lookup f11=some ⟨oc11,od11,.func (J5 "__init__" "Book.__init__" (M4 V7) (J9 V7) (B4 V7) .none kV11 dc11 pm11 an11 cd11 ct11),sl11⟩)(c11:M8 K cd11 "Book.__init__"=true)(k11:G9 K (.ref f11)=true){f12:Addr}{od12 an12:Option Addr}{sl12:Array (Option Value)}{oc12 kV12 dc12 pm12 cd12 ct12:Value}(a12:D0 K (.ref C) "names"=some (some (.ref f12)))(i12:R1 K (.ref f12)=true)(l12:K.lookup f12=some ⟨oc12,od12,.func (J5 "names" "Book.names" (M4 i5) (J9 i5) (B4 i5) .none kV12 dc12 pm12 an12 cd12 ct12),sl12⟩)(c12:M8 K cd12 "Book.names"=true)(k12:G9 K (.ref f12)=true)(d13:DF K "_law_cell_at" aB)(d14:DF K "_law_pieces" K2)(d15:DF K "_law_names" J4)(d16:DF K "_law_rule" N0)(d17:DF K "_law_bad" t7)(d18:DF K "_law_lines" O5)(d19:DF K "_law_more" N1)(d20:DF K "_law_due" a7)(d21:DF K "_law_text" Q7)(d22:DF K "_law_kinds" b0){f23:Addr}{od23 an23:Option Addr}{sl23:Array (Option Value)}{oc23 kV23 dc23 pm23 cd23 ct23:Value}(a23:C4 K mainGlobals "law"=some (some (.ref f23)))(l23:K.lookup f23=some ⟨oc23,od23,.func (J5 "law" "law" (M4 s_law) (J9 s_law) (B4 s_law) .none kV23 dc23 pm23 an23 cd23 ct23),sl23⟩)(c23:M8 K cd23 "law"=true)(k23:G9 K (.ref f23)=true){N_NoRule:Addr}{nm_NoRule q_NoRule:Str}{bs_NoRule bm_NoRule sub_NoRule:List Value}{sn_NoRule:List Str}{ab_NoRule:Bool}{col_NoRule:Option Bool}{dd_NoRule:Option Addr}{k0_NoRule k1_NoRule k2_NoRule k3_NoRule k5_NoRule:Option Value}(aE_NoRule:C4 K mainGlobals "NoRule"=some (some (.ref C_NoRule)))(lE_NoRule:K.lookup C_NoRule=some (excClassObj nm_NoRule q_NoRule C_NoRule N_NoRule bs_NoRule bm_NoRule true sn_NoRule sub_NoRule ab_NoRule col_NoRule dd_NoRule k0_NoRule k1_NoRule k2_NoRule k3_NoRule k5_NoRule "ValueError.__new__"))(t1_NoRule:d5 K g9 bm_NoRule=true)(t2_NoRule:V3 g9 (.ref C_NoRule::bm_NoRule)=true)(t3_NoRule:m8 K N_NoRule=true)(t4_NoRule:C4 K N_NoRule "__init__"=some (some (.ref f0)))(sa_NoRule:D0 K (.ref C_NoRule) "__setattr__"=some (some (.builtin "object.__setattr__")))(ga_NoRule:D0 K (.ref C_NoRule) "__getattribute__"=some (some (.builtin "BaseException.__getattribute__")))(gt_NoRule:D0 K (.ref C_NoRule) "__getattr__"=some (none))(cl_NoRule:D0 K (.ref C_NoRule) "__class__"=some (some (.builtin "object.__class__")))(bx_NoRule:E6 K C_NoRule (.type "BaseException")=some true)(ob_NoRule:E6 K C_NoRule (.type "object")=some true)(kp_NoRule:G9 K (.ref C_NoRule)=true)(nE_NoRule:D0 K (.ref C_NoRule) "at"=some none){N_Twice:Addr}{nm_Twice q_Twice:Str}{bs_Twice bm_Twice sub_Twice:List Value}{sn_Twice:List Str}{ab_Twice:Bool}{col_Twice:Option Bool}{dd_Twice:Option Addr}{k0_Twice k1_Twice k2_Twice k3_Twice k5_Twice:Option Value}(aE_Twice:C4 K mainGlobals "Twice"=some (some (.ref C_Twice)))(lE_Twice:K.lookup C_Twice=some (excClassObj nm_Twice q_Twice C_Twice N_Twice bs_Twice bm_Twice true sn_Twice sub_Twice ab_Twice col_Twice dd_Twice k0_Twice k1_Twice k2_Twice k3_Twice k5_Twice "ValueError.__new__"))(t1_Twice:d5 K g9 bm_Twice=true)(t2_Twice:V3 g9 (.ref C_Twice::bm_Twice)=true)(t3_Twice:m8 K N_Twice=true)(t4_Twice:C4 K N_Twice "__init__"=some (some (.ref f1)))(sa_Twice:D0 K (.ref C_Twice) "__setattr__"=some (some (.builtin "object.__setattr__")))(ga_Twice:D0 K (.ref C_Twice) "__getattribute__"=some (some (.builtin "BaseException.__getattribute__")))(gt_Twice:D0 K (.ref C_Twice) "__getattr__"=some (none))(cl_Twice:D0 K (.ref C_Twice) "__class__"=some (some (.builtin "object.__class__")))(bx_Twice:E6 K C_Twice (.type "BaseException")=some true)(ob_Twice:E6 K C_Twice (.type "object")=some true)(kp_Twice:G9 K (.ref C_Twice)=true)(nE_Twice:D0 K (.ref C_Twice) "name"=some none){aL:Addr}(eL:C4 K mainGlobals "LoreError"=some (some (.ref aL)))(eL1:W7 K (.ref aL) "__getattribute__"=some (some (.builtin "type.__getattribute__")))(eL2:PySem.W.readsIn K aL (.type "type")=true)(eL3:PySem.W.findCls K (.ref aL) (.type "type") "__init__"=some (.val (.builtin "ValueError.__init__")))(ecn:W7 K (.builtin "object.__class__") "__get__"=some (some (.builtin "getset_descriptor.__get__")))(ect:d0 K (.builtin "object.__class__")=some true){d_LoreError:Addr}{cd_LoreError:ClassData}(aD_LoreError:C4 K mainGlobals "LoreError"=some (some (.ref d_LoreError)))(D1_LoreError:m9 K d_LoreError=some cd_LoreError)(D2_LoreError:PySem.W.typeIn K (.ref d_LoreError)=some (.type "type"))(D3_LoreError:E6 K d_LoreError (.type "BaseException")=some true)(D4NoRule_LoreError:E6 K C_NoRule (.ref d_LoreError)=some true)(D4Twice_LoreError:E6 K C_Twice (.ref d_LoreError)=some true){d_NoRule:Addr}{cd_NoRule:ClassData}(aD_NoRule:C4 K mainGlobals "NoRule"=some (some (.ref d_NoRule)))(D1_NoRule:m9 K d_NoRule=some cd_NoRule)(D2_NoRule:PySem.W.typeIn K (.ref d_NoRule)=some (.type "type"))(D3_NoRule:E6 K d_NoRule (.type "BaseException")=some true)(D4NoRule_NoRule:E6 K C_NoRule (.ref d_NoRule)=some true)(D4Twice_NoRule:E6 K C_Twice (.ref d_NoRule)=some false){d_Twice:Addr}{cd_Twice:ClassData}(aD_Twice:C4 K mainGlobals "Twice"=some (some (.ref d_Twice)))(D1_Twice:m9 K d_Twice=some cd_Twice)(D2_Twice:PySem.W.typeIn K (.ref d_Twice)=some (.type "type"))(D3_Twice:E6 K d_Twice (.type "BaseException")=some true)(D4NoRule_Twice:E6 K C_NoRule (.ref d_Twice)=some false)(D4Twice_Twice:E6 K C_Twice (.ref d_Twice)=some true){x_Clash:Addr}(aX_Clash:C4 K mainGlobals "Clash"=some (some (.ref x_Clash)))(X1NoRule_Clash:B7 K (.ref C_NoRule) (.ref x_Clash)=some false)(X1Twice_Clash:B7 K (.ref C_Twice) (.ref x_Clash)=some false){x_NoDeed:Addr}(aX_NoDeed:C4 K mainGlobals "NoDeed"=some (some (.ref x_NoDeed)))(X1NoRule_NoDeed:B7 K (.ref C_NoRule) (.ref x_NoDeed)=some false)(X1Twice_NoDeed:B7 K (.ref C_Twice) (.ref x_NoDeed)=some false){x_NoLetter:Addr}(aX_NoLetter:C4 K mainGlobals "NoLetter"=some (some (.ref x_NoLetter)))(X1NoRule_NoLetter:B7 K (.ref C_NoRule) (.ref x_NoLetter)=some false)(X1Twice_NoLetter:B7 K (.ref C_Twice) (.ref x_NoLetter)=some false){x_NoName:Addr}(aX_NoName:C4 K mainGlobals "NoName"=some (some (.ref x_NoName)))(X1NoRule_NoName:B7 K (.ref C_NoRule) (.ref x_NoName)=some false)(X1Twice_NoName:B7 K (.ref C_Twice) (.ref x_NoName)=some false){x_NoSign:Addr}(aX_NoSign:C4 K mainGlobals "NoSign"=some (some (.ref x_NoSign)))(X1NoRule_NoSign:B7 K (.ref C_NoRule) (.ref x_NoSign)=some false)(X1Twice_NoSign:B7 K (.ref C_Twice) (.ref x_NoSign)=some false){x_NotPlain:Addr}(aX_NotPlain:C4 K mainGlobals "NotPlain"=some (some (.ref x_NotPlain)))(X1NoRule_NotPlain:B7 K (.ref C_NoRule) (.ref x_NotPlain)=some false)(X1Twice_NotPlain:B7 K (.ref C_Twice) (.ref x_NotPlain)=some false){x_NoText:Addr}(aX_NoText:C4 K mainGlobals "NoText"=some (some (.ref x_NoText)))(X1NoRule_NoText:B7 K (.ref C_NoRule) (.ref x_NoText)=some false)(X1Twice_NoText:B7 K (.ref C_Twice) (.ref x_NoText)=some false){x_Ring:Addr}(aX_Ring:C4 K mainGlobals "Ring"=some (some (.ref x_Ring)))(X1NoRule_Ring:B7 K (.ref C_NoRule) (.ref x_Ring)=some false)(X1Twice_Ring:B7 K (.ref C_Twice) (.ref x_Ring)=some false){x_Round:Addr}(aX_Round:C4 K mainGlobals "Round"=some (some (.ref x_Round)))(X1NoRule_Round:B7 K (.ref C_NoRule) (.ref x_Round)=some false)(X1Twice_Round:B7 K (.ref C_Twice) (.ref x_Round)=some false){x_NoRule:Addr}(aX_NoRule:C4 K mainGlobals "NoRule"=some (some (.ref x_NoRule)))(X1NoRule_NoRule:B7 K (.ref C_NoRule) (.ref x_NoRule)=some true)(X1Twice_NoRule:B7 K (.ref C_Twice) (.ref x_NoRule)=some false){x_Twice:Addr}(aX_Twice:C4 K mainGlobals "Twice"=some (some (.ref x_Twice)))(X1NoRule_Twice:B7 K (.ref C_NoRule) (.ref x_Twice)=some false)(X1Twice_Twice:B7 K (.ref C_Twice) (.ref x_Twice)=some true)(Y1_ValueError:B7 K (.ref C_NoRule) (.type "ValueError")=some true)(Y1_ValueError_Twice:B7 K (.ref C_Twice) (.type "ValueError")=some true)(aC:C4 K mainGlobals "Book"=some (some (.ref C)))(pgC:w6 K C Str.empty=true)(hdC:c7 K C=true)(poC:PySem.W.plainOver K C=true)(saC:D0 K (.ref C) "__setattr__"=some (some (.builtin "object.__setattr__")))(mkC:PySem.W.makesIn K C=true)(kcC:G9 K (.ref C)=true)(nC_own:D0 K (.ref C) "own"=some none)(nC_elders:D0 K (.ref C) "elders"=some none)(nC_newest:D0 K (.ref C) "newest"=some none)(nC_length:D0 K (.ref C) "length"=some none)(z_ValueError:C4 K mainGlobals "ValueError"=some none)(z_all:C4 K mainGlobals "all"=some none)(z_bool:C4 K mainGlobals "bool"=some none)(z_isinstance:C4 K mainGlobals "isinstance"=some none)(z_len:C4 K mainGlobals "len"=some none)(z_list:C4 K mainGlobals "list"=some none)(z_ord:C4 K mainGlobals "ord"=some none)(z_range:C4 K mainGlobals "range"=some none)(z_str:C4 K mainGlobals "str"=some none)(z_tuple:C4 K mainGlobals "tuple"=some none){a_FEWEST:Addr}{ep_FEWEST:Nat}{h_FEWEST_0:Int}{t_FEWEST_0 u_FEWEST_0:Tok}{h_FEWEST_1:Int}{t_FEWEST_1 u_FEWEST_1:Tok}{h_FEWEST_2:Int}{t_FEWEST_2 u_FEWEST_2:Tok}{h_FEWEST_3:Int}{t_FEWEST_3 u_FEWEST_3:Tok}{h_FEWEST_4:Int}{t_FEWEST_4 u_FEWEST_4:Tok}{h_FEWEST_5:Int}{t_FEWEST_5 u_FEWEST_5:Tok}(y_FEWEST:C4 K mainGlobals "FEWEST"=some (some (.ref a_FEWEST)))(d_FEWEST:K.lookup a_FEWEST=some { cls:=.type "dict",dict:=none,data:=.dict #[⟨h_FEWEST_0,.str "row" t_FEWEST_0,.int 1 u_FEWEST_0⟩,⟨h_FEWEST_1,.str "marks" t_FEWEST_1,.int 1 u_FEWEST_1⟩,⟨h_FEWEST_2,.str "great" t_FEWEST_2,.int 2 u_FEWEST_2⟩,⟨h_FEWEST_3,.str "as" t_FEWEST_3,.int 2 u_FEWEST_3⟩,⟨h_FEWEST_4,.str "over" t_FEWEST_4,.int 1 u_FEWEST_4⟩,⟨h_FEWEST_5,.str "forget" t_FEWEST_5,.int 1 u_FEWEST_5⟩] ep_FEWEST,slots:=#[] })(s_FEWEST:(a_FEWEST==sysModules)=false)(e_FEWEST_0:h_FEWEST_0=keyH w (Sum.inr ("row" : Str)))(e_FEWEST_1:h_FEWEST_1=keyH w (Sum.inr ("marks" : Str)))(e_FEWEST_2:h_FEWEST_2=keyH w (Sum.inr ("great" : Str)))(e_FEWEST_3:h_FEWEST_3=keyH w (Sum.inr ("as" : Str)))(e_FEWEST_4:h_FEWEST_4=keyH w (Sum.inr ("over" : Str)))(e_FEWEST_5:h_FEWEST_5=keyH w (Sum.inr ("forget" : Str))){a_BARE:Addr}{n_BARE:Nat}{od_BARE:Option Addr}{sl_BARE:Array (Option Value)}{t_BARE_0:Tok}{t_BARE_1:Tok}{t_BARE_2:Tok}(y_BARE:C4 K mainGlobals "BARE"=some (some (.ref a_BARE)))(d_BARE:K.lookup a_BARE=some ⟨.type "tuple",od_BARE,.seq #[.str "figures" t_BARE_0,.str "blanks" t_BARE_1,.str "behind" t_BARE_2] n_BARE,sl_BARE⟩){tPER:Tok}(y_PER:C4 K mainGlobals "PER_CENT"=some (some (.int 37 tPER)))
  : ∃ fd:FuncData,(∀ (s:Shared) (v:Value),BindsTo s fd ⟨[v],[]⟩ [("_law_script",v)])/\∀ base:Heap,K.In base->base.Ns mainGlobals mg->FnOk l.prog w K mg base C8 10 fa fd ["_law_script"] (spLaw K):=by
 have e:=hfa.symm.trans (F7 X G a23);cases e;have M_NoRule:ErrC K C_NoRule f0:=⟨⟨_,_,_,_,_,_,_,_,_,_,_,_,_,_,_,lE_NoRule,t1_NoRule,t2_NoRule,t3_NoRule,t4_NoRule⟩,i0,sa_NoRule,ga_NoRule,gt_NoRule,cl_NoRule,bx_NoRule,ob_NoRule,kp_NoRule⟩
 have M_Twice:ErrC K C_Twice f1:=⟨⟨_,_,_,_,_,_,_,_,_,_,_,_,_,_,_,lE_Twice,t1_Twice,t2_Twice,t3_Twice,t4_Twice⟩,i1,sa_Twice,ga_Twice,gt_Twice,cl_Twice,bx_Twice,ob_Twice,kp_Twice⟩
 have T:Txt l.prog w K mg C C_NoRule C_Twice:=⟨⟨pgC,hdC,poC,saC⟩,nC_own,nC_elders,nC_newest,nC_length,⟨aL,F7 X G eL,⟨eL1,eL2,eL3⟩⟩,nE_NoRule,⟨_,M_NoRule⟩,nE_Twice,⟨_,M_Twice⟩,ecn,ect,⟨d_LoreError,F7 X G aD_LoreError,⟨⟨_,D1_LoreError⟩,D2_LoreError,D3_LoreError⟩,D4NoRule_LoreError,D4Twice_LoreError⟩,⟨d_NoRule,F7 X G aD_NoRule,⟨⟨_,D1_NoRule⟩,D2_NoRule,D3_NoRule⟩,D4NoRule_NoRule,D4Twice_NoRule⟩,⟨d_Twice,F7 X G aD_Twice,⟨⟨_,D1_Twice⟩,D2_Twice,D3_Twice⟩,D4NoRule_Twice,D4Twice_Twice⟩,⟨x_Clash,F7 X G aX_Clash,X1NoRule_Clash,X1Twice_Clash⟩,⟨x_NoDeed,F7 X G aX_NoDeed,X1NoRule_NoDeed,X1Twice_NoDeed⟩,⟨x_NoLetter,F7 X G aX_NoLetter,X1NoRule_NoLetter,X1Twice_NoLetter⟩,⟨x_NoName,F7 X G aX_NoName,X1NoRule_NoName,X1Twice_NoName⟩,⟨x_NoSign,F7 X G aX_NoSign,X1NoRule_NoSign,X1Twice_NoSign⟩,⟨x_NotPlain,F7 X G aX_NotPlain,X1NoRule_NotPlain,X1Twice_NotPlain⟩,⟨x_NoText,F7 X G aX_NoText,X1NoRule_NoText,X1Twice_NoText⟩,⟨x_Ring,F7 X G aX_Ring,X1NoRule_Ring,X1Twice_Ring⟩,⟨x_Round,F7 X G aX_Round,X1NoRule_Round,X1Twice_Round⟩,⟨x_NoRule,F7 X G aX_NoRule,X1NoRule_NoRule,X1Twice_NoRule⟩,⟨x_Twice,F7 X G aX_Twice,X1NoRule_Twice,X1Twice_Twice⟩,Y1_ValueError,Y1_ValueError_Twice,U2 X G z_ValueError,U2 X G z_all,U2 X G z_bool,U2 X G z_isinstance,U2 X G z_len,U2 X G z_list,U2 X G z_ord,U2 X G z_range,U2 X G z_str,U2 X G z_tuple,⟨_,F7 X G y_PER⟩,⟨_,F7 X G y_FEWEST,ajr d_FEWEST s_FEWEST (.cons ⟨e8 _ _,e_FEWEST_0,⟨_,rfl⟩⟩ ( .cons ⟨e8 _ _,e_FEWEST_1,⟨_,rfl⟩⟩ ( .cons ⟨e8 _ _,e_FEWEST_2,⟨_,rfl⟩⟩ ( .cons ⟨e8 _ _,e_FEWEST_3,⟨_,rfl⟩⟩ ( .cons ⟨e8 _ _,e_FEWEST_4,⟨_,rfl⟩⟩ ( .cons ⟨e8 _ _,e_FEWEST_5,⟨_,rfl⟩⟩ ( .nil))))))) (by decide +kernel)⟩,⟨_,F7 X G y_BARE,fun H=>.inr ⟨_,_,_,d_BARE,rfl,rfl,(by show 3<=sizeLine;decide),.cons ⟨_,rfl⟩ ( .cons ⟨_,rfl⟩ ( .cons ⟨_,rfl⟩ ( .nil)))⟩⟩⟩
 have F0:=V2 (st:=X9) l0 c0;have F1:=V2 (st:=a6) l1 c1;have F5:=V2 (st:=Y0) l5 c5;have F8:=V2 (st:=V4) l8 c8;have F9:=V2 (st:=V5) l9 c9;have F10:=V2 (st:=V6) l10 c10;have F11:=V2 (st:=V7) l11 c11;have F12:=V2 (st:=i5) l12 c12;have F23:=V2 (st:=s_law) l23 c23;refine ⟨J5 "law" "law" (M4 s_law) (J9 s_law) (B4 s_law) .none kV23 dc23 pm23 an23 cd23 ct23,fun s v=>.of_eq rfl,fun base hb hn=>?_⟩;have G_NoRule___init__:EO l.prog w K mg base 1 C_NoRule "NoRule" ["self", "at"] (Z8 K C_NoRule "at"):=⟨_,_,abJ F0 T,F7 X G aE_NoRule,M_NoRule,.all (len2 fun _ _=>rfl)⟩
 have GH_NoRule___init__:gH l.prog w K mg base 1 C_NoRule "NoRule" ["self", "at"] (Z8 K C_NoRule "at"):=⟨_,_,abD F0 T,F7 X G aE_NoRule,M_NoRule,.all (len2 fun _ _=>rfl)⟩
 have G_Twice___init__:EO l.prog w K mg base 1 C_Twice "Twice" ["self", "name"] (gR K C_Twice "name"):=⟨_,_,abW F1 T,F7 X G aE_Twice,M_Twice,.all (len2 fun _ _=>rfl)⟩
 have G_is_sign:=d2.go X G hb fun F=>afd F T
 have G_is_piece:=d3.go X G hb fun F=>aeo F T G_is_sign
 have G_is_rule:=d4.go X G hb fun F=>aff F T G_is_piece
 have G_read_rule:FOX2 l.prog w K mg base 4 "read_rule" ["line"] [] (gK C_NoRule):=⟨_,_,adW F5 T G_NoRule___init__ G_is_rule,F7 X G a5,k5,[],.all (len1 fun _=>rfl),.nil⟩
 have G_is_name:=d6.go X G hb fun F=>afh F T
 have G_is_beginning:=d7.go X G hb fun F=>acy F T G_is_name
 have G_Book_begin:i3 l.prog w K mg base 3 C "begin" ["self", "words"] (gX C C_Twice):=⟨_,_,adi F8 T G_Twice___init__,T.cl,⟨a8,i8,k8⟩,.all (len2 fun _ _=>rfl)⟩
 have G_Book_add_rule:i3 l.prog w K mg base 5 C "add_rule" ["self", "line"] (gS C C_NoRule):=⟨_,_,ab2 F9 T G_NoRule___init__ GH_NoRule___init__ G_read_rule,T.cl,⟨a9,i9,k9⟩,.all (len2 fun _ _=>rfl)⟩
 have G_Book_tell:i3 l.prog w K mg base 6 C "tell" ["self", "line"] (gY C C_NoRule C_Twice):=⟨_,_,adX F10 T G_is_beginning G_Book_begin G_Book_add_rule,T.cl,⟨a10,i10,k10⟩,.all (len2 fun _ _=>rfl)⟩
 have G_Book___init__:z8 l.prog w K mg base 7 C "Book" ["self", "text"] (spBIX C C_NoRule C_Twice):=⟨_,_,ab3 F11 T G_Book_tell,⟨mkC,a11,i11,kcC⟩,F7 X G aC,.all (len2 fun _ _=>rfl)⟩
 have G_Book_names:MO l.prog w K mg base 1 C "names" ["self"] (gM C):=⟨_,_,adk F12 T,T.cl,⟨a12,i12,k12⟩,.all (len1 fun _=>rfl)⟩
 have G_l_cell_at:=d13.go X G hb fun F=>ad0 F T
 have G_l_pieces:=d14.go X G hb fun F=>aep F T
 have G_l_names:=d15.go X G hb fun F=>afi F T
 have G_l_rule:=d16.go X G hb fun F=>agK F T
 have G_l_bad:=d17.go X G hb fun F=>ahY F T
 have G_l_lines:=d18.go X G hb fun F=>afj F T G_l_rule
 have G_l_more:=d19.go X G hb fun F=>agM F T G_l_cell_at G_l_rule G_l_bad
 have G_l_due:=d20.go X G hb fun F=>ahZ F T
 have G_l_text:=d21.go X G hb fun F=>agN F T
 have G_l_kinds:=d22.go X G hb fun F=>afk F T G_Book___init__
 exact alF F23 T G_Book___init__ G_Book_names G_l_cell_at G_l_pieces G_l_names G_l_lines G_l_more G_l_due G_l_text G_l_kinds
theorem walk{l:PySem.W.OpenLaw}{XP:(Str->Option Value)->Heap->Prop}{YP:World->Heap->Prop}{d:DefRec}{K:Params->PySem.W.Frag}(hn:l.most=some 63)(aP:d.params.defaults=[])(hY:∀ (w:World) (h:Heap),YP w h->(K w.params).In h)(F:∀ (w:World) (mg:Str->Option Value) (fa:Addr) (h:Heap),(K w.params).In h->h.Ns mainGlobals mg->mg d.name=some (.ref fa)->
   ∃ fd:FuncData,(∀ (s:Shared) (u:Value),BindsTo s fd ⟨[u],[]⟩ [("_law_script",u)])/\∀ base:Heap,(K w.params).In base->base.Ns mainGlobals mg->FnOk l.prog w (K w.params) mg base C8 10 fa fd ["_law_script"] (spLaw (K w.params))) :
  PySem.W.WalkO q loose XP YP l.row.toRowW d [] (fun f vs=>PySem.call f vs):=
 L2.walk_of (n:=63) (k:=10) (x:="_law_script") (CX:=fun _=>C8) (sp:=fun w=>spLaw (K w.params)) hn (by decide) aP ⟨rfl,by decide,by decide,rfl⟩ hY F (fun _ _ a ns hl _ hS=>⟨a,ns,rfl,hS,hl,fun _=>rfl⟩) fun _ _ _ _ _ z=>z
end K85
open PySem PySem.W PyProof.Rows
set_option maxRecDepth 100000 in
set_option maxHeartbeats 0 in
theorem PySem.Challenge.cw_sortlore_k85_a_book_refused_holds : PySem.Challenge.rw_sortlore_k85_a_book_refused.Holds := by
 w_on;o_law;k_head;(case hw=>w_witness2)
 k_fill
 refine K85.walk (l:=PySem.Challenge.rw_sortlore_k85_a_book_refused) rfl rfl (fun w h zy=>PySem.W.kIn_of zy) ?F
 case F=>
  intro w mg fa h KX G Y4
  refine' K85.all_mk KX G Y4 ?i0 ?l0 ?c0 ?k0 ?i1 ?l1 ?c1 ?k1 ?d2 ?d3 ?d4 ?a5 ?l5 ?c5 ?k5 ?d6 ?d7 ?a8 ?i8 ?l8 ?c8 ?k8 ?a9 ?i9 ?l9 ?c9 ?k9 ?a10 ?i10 ?l10 ?c10 ?k10 ?a11 ?i11 ?l11 ?c11 ?k11 ?a12 ?i12 ?l12 ?c12 ?k12 ?d13 ?d14 ?d15 ?d16 ?d17 ?d18 ?d19 ?d20 ?d21 ?d22 ?a23 ?l23 ?c23 ?k23 ?aE_NoRule ?lE_NoRule ?t1_NoRule ?t2_NoRule ?t3_NoRule ?t4_NoRule ?sa_NoRule ?ga_NoRule ?gt_NoRule ?cl_NoRule ?bx_NoRule ?ob_NoRule ?kp_NoRule ?nE_NoRule ?aE_Twice ?lE_Twice ?t1_Twice ?t2_Twice ?t3_Twice ?t4_Twice ?sa_Twice ?ga_Twice ?gt_Twice ?cl_Twice ?bx_Twice ?ob_Twice ?kp_Twice ?nE_Twice ?eL ?eL1 ?eL2 ?eL3 ?ecn ?ect ?aD_LoreError ?D1_LoreError ?D2_LoreError ?D3_LoreError ?D4NoRule_LoreError ?D4Twice_LoreError ?aD_NoRule ?D1_NoRule ?D2_NoRule ?D3_NoRule ?D4NoRule_NoRule ?D4Twice_NoRule ?aD_Twice ?D1_Twice ?D2_Twice ?D3_Twice ?D4NoRule_Twice ?D4Twice_Twice ?aX_Clash ?X1NoRule_Clash ?X1Twice_Clash ?aX_NoDeed ?X1NoRule_NoDeed ?X1Twice_NoDeed ?aX_NoLetter ?X1NoRule_NoLetter ?X1Twice_NoLetter ?aX_NoName ?X1NoRule_NoName ?X1Twice_NoName ?aX_NoSign ?X1NoRule_NoSign ?X1Twice_NoSign ?aX_NotPlain ?X1NoRule_NotPlain ?X1Twice_NotPlain ?aX_NoText ?X1NoRule_NoText ?X1Twice_NoText ?aX_Ring ?X1NoRule_Ring ?X1Twice_Ring ?aX_Round ?X1NoRule_Round ?X1Twice_Round ?aX_NoRule ?X1NoRule_NoRule ?X1Twice_NoRule ?aX_Twice ?X1NoRule_Twice ?X1Twice_Twice ?Y1_ValueError ?Y1_ValueError_Twice ?aC ?pgC ?hdC ?poC ?saC ?mkC ?kcC ?nC_own ?nC_elders ?nC_newest ?nC_length ?z_ValueError ?z_all ?z_bool ?z_isinstance ?z_len ?z_list ?z_ord ?z_range ?z_str ?z_tuple ?y_FEWEST ?d_FEWEST ?s_FEWEST ?e_FEWEST_0 ?e_FEWEST_1 ?e_FEWEST_2 ?e_FEWEST_3 ?e_FEWEST_4 ?e_FEWEST_5 ?y_BARE ?d_BARE ?y_PER
  any_goals (refine' K85.df_mk ?da ?dl ?dc ?dk;(case da=>k_is);(case dl=>k_is);(case dc=>k_is);(case dk=>k_is))
  (case aE_NoRule=>k_is)
  (case lE_NoRule=>k_is)
  (case t4_NoRule=>k_is)
  (case aE_Twice=>k_is)
  (case lE_Twice=>k_is)
  (case t4_Twice=>k_is)
  (case aC=>k_is)
  (case i0=>k_is)
  (case l0=>k_is)
  (case c0=>k_is)
  (case k0=>k_is)
  (case i1=>k_is)
  (case l1=>k_is)
  (case c1=>k_is)
  (case k1=>k_is)
  (case a5=>k_is)
  (case l5=>k_is)
  (case c5=>k_is)
  (case k5=>k_is)
  (case a8=>k_is)
  (case i8=>k_is)
  (case l8=>k_is)
  (case c8=>k_is)
  (case k8=>k_is)
  (case a9=>k_is)
  (case i9=>k_is)
  (case l9=>k_is)
  (case c9=>k_is)
  (case k9=>k_is)
  (case a10=>k_is)
  (case i10=>k_is)
  (case l10=>k_is)
  (case c10=>k_is)
  (case k10=>k_is)
  (case a11=>k_is)
  (case i11=>k_is)
  (case l11=>k_is)
  (case c11=>k_is)
  (case k11=>k_is)
  (case a12=>k_is)
  (case i12=>k_is)
  (case l12=>k_is)
  (case c12=>k_is)
  (case k12=>k_is)
  (case a23=>k_is)
  (case l23=>k_is)
  (case c23=>k_is)
  (case k23=>k_is)
  (case t1_NoRule=>refine' L2.tail_one ?kM ?kN ?kO;(case kM=>k_is);(case kO=>k_is);(case kN=>refine' L2.nsOk_of ?m6 ?m7;(case m6=>k_is);(case m7=>rfl)))
  (case t2_NoRule=>rfl)
  (case t3_NoRule=>refine' L2.nsOk_of ?m6 ?m7;(case m6=>k_is);(case m7=>rfl))
  (case sa_NoRule=>k_is)
  (case ga_NoRule=>k_is)
  (case gt_NoRule=>k_is)
  (case cl_NoRule=>k_is)
  (case bx_NoRule=>k_is)
  (case ob_NoRule=>k_is)
  (case kp_NoRule=>k_is)
  (case nE_NoRule=>k_is)
  (case t1_Twice=>refine' L2.tail_one ?kM ?kN ?kO;(case kM=>k_is);(case kO=>k_is);(case kN=>refine' L2.nsOk_of ?m6 ?m7;(case m6=>k_is);(case m7=>rfl)))
  (case t2_Twice=>rfl)
  (case t3_Twice=>refine' L2.nsOk_of ?m6 ?m7;(case m6=>k_is);(case m7=>rfl))
  (case sa_Twice=>k_is)
  (case ga_Twice=>k_is)
  (case gt_Twice=>k_is)
  (case cl_Twice=>k_is)
  (case bx_Twice=>k_is)
  (case ob_Twice=>k_is)
  (case kp_Twice=>k_is)
  (case nE_Twice=>k_is)
  (case eL=>k_is)
  (case eL1=>k_is)
  (case eL2=>k_is)
  (case eL3=>k_is)
  (case ecn=>k_is)
  (case ect=>k_is)
  (case aD_LoreError=>k_is)
  (case D1_LoreError=>k_is)
  (case D2_LoreError=>k_is)
  (case D3_LoreError=>k_is)
  (case D4NoRule_LoreError=>k_is)
  (case D4Twice_LoreError=>k_is)
  (case aD_NoRule=>k_is)
  (case D1_NoRule=>k_is)
  (case D2_NoRule=>k_is)
  (case D3_NoRule=>k_is)
  (case D4NoRule_NoRule=>k_is)
  (case D4Twice_NoRule=>k_is)
  (case aD_Twice=>k_is)
  (case D1_Twice=>k_is)
  (case D2_Twice=>k_is)
  (case D3_Twice=>k_is)
  (case D4NoRule_Twice=>k_is)
  (case D4Twice_Twice=>k_is)
  (case aX_Clash=>k_is)
  (case X1NoRule_Clash=>kit_is)
  (case X1Twice_Clash=>kit_is)
  (case aX_NoDeed=>k_is)
  (case X1NoRule_NoDeed=>kit_is)
  (case X1Twice_NoDeed=>kit_is)
  (case aX_NoLetter=>k_is)
  (case X1NoRule_NoLetter=>kit_is)
  (case X1Twice_NoLetter=>kit_is)
  (case aX_NoName=>k_is)
  (case X1NoRule_NoName=>kit_is)
  (case X1Twice_NoName=>kit_is)
  (case aX_NoSign=>k_is)
  (case X1NoRule_NoSign=>kit_is)
  (case X1Twice_NoSign=>kit_is)
  (case aX_NotPlain=>k_is)
  (case X1NoRule_NotPlain=>kit_is)
  (case X1Twice_NotPlain=>kit_is)
  (case aX_NoText=>k_is)
  (case X1NoRule_NoText=>kit_is)
  (case X1Twice_NoText=>kit_is)
  (case aX_Ring=>k_is)
  (case X1NoRule_Ring=>kit_is)
  (case X1Twice_Ring=>kit_is)
  (case aX_Round=>k_is)
  (case X1NoRule_Round=>kit_is)
  (case X1Twice_Round=>kit_is)
  (case aX_NoRule=>k_is)
  (case X1NoRule_NoRule=>kit_is)
  (case X1Twice_NoRule=>kit_is)
  (case aX_Twice=>k_is)
  (case X1NoRule_Twice=>kit_is)
  (case X1Twice_Twice=>kit_is)
  (case Y1_ValueError=>kit_is)
  (case Y1_ValueError_Twice=>kit_is)
  (case pgC=>k_is)
  (case hdC=>k_is)
  (case poC=>k_is)
  (case saC=>k_is)
  (case mkC=>k_is)
  (case kcC=>k_is)
  (case nC_own=>k_is)
  (case nC_elders=>k_is)
  (case nC_newest=>k_is)
  (case nC_length=>k_is)
  (case z_ValueError=>k_is)
  (case z_all=>k_is)
  (case z_bool=>k_is)
  (case z_isinstance=>k_is)
  (case z_len=>k_is)
  (case z_list=>k_is)
  (case z_ord=>k_is)
  (case z_range=>k_is)
  (case z_str=>k_is)
  (case z_tuple=>k_is)
  (case y_FEWEST=>k_is)
  (case d_FEWEST=>k_is)
  (case s_FEWEST=>rfl)
  (case e_FEWEST_0=>rfl)
  (case e_FEWEST_1=>rfl)
  (case e_FEWEST_2=>rfl)
  (case e_FEWEST_3=>rfl)
  (case e_FEWEST_4=>rfl)
  (case e_FEWEST_5=>rfl)
  (case y_BARE=>k_is)
  (case d_BARE=>k_is)
  (case y_PER=>k_is)
