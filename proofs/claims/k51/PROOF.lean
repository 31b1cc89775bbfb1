import PyProof.Rows.All
import Wide.All
import OpenK.AllK
import Wide.FinOn
import Lean
import PyProof.EqAt
import PyProof.EqKinds
import PyProof.TupleCall
import KE.KLam
import KE.KNestM
import KE.KRevIter
import KE.KRevSl
import KE.KSortTup
import PySem.Challenge.RW_sortlore_k51_sorted
set_option compiler.extract_closed false
open List renaming length_map → A4, getElem?_eq_some_iff → E9, length_append → C8, getElem?_eq_getElem → F8, mem_singleton → D1, mem_append → D3, size_toArray → F6, map_append → D9, mem_cons_self → J9, length_take → G6, mem_cons_of_mem → L6, mem_append_right → M6, mem_cons → E5, getD_eq_getElem?_getD → P0, mem_of_getElem? → M7, mem_map → E2, take_length → K7, length_cons → K9, getElem?_map → L7, mem_append_left → N7, map_cons → K0, append_nil → N0, length_singleton → T4, append_assoc → Q5, flatMap_cons → Q9, mem_iff_getElem → W8, cons_lt_cons_iff → Y3, flatMap_append → Y4, nodup_iff_pairwise_ne → s0, mem_filter → T5, take_append_drop → g3, nodup_cons → U5, take_of_length_le → t7, nodup_append → Z7, replicate → V7, take_add_one → g4, range → P6, pairwise_iff_getElem → bI, mem_range → W9, not_mem_nil → g6, mem_flatMap → g7, length_eq_zero_iff → bJ, filter_cons_of_neg → bK, map_map → V8, drop_eq_getElem_cons → dL, cons_append → k7, length_nil → k8, find?_cons → k9, length_drop → t8, foldl_append → y8, nil_append → t9, filter_cons_of_pos → fX, zipWith → g8, length_range → bL, filterMap_cons → dM, getElem?_append_right → jJ, countP_cons → bM, filter_append → dN, any_cons → u8, mem_take_iff_getElem → jK, length → g9, replicate_succ → fY, map_congr_left → fZ, take_zero → bN, drop_of_length_le → jL, drop_eq_nil_of_le → jM, mem_filterMap → gB, reverse_cons → gC, flatten_cons → gE, getElem?_append_left → nN, filter_eq_self → jN, idxOf_lt_length_iff → nO, pairwise_cons → jO, not_lt_nil → gF, map_take → dO, cons → l6, filter_eq_nil_iff → nQ, lookup → bO, flatMap_nil → jP, mem_of_mem_take → nR
open Nat renaming le_refl → A8, lt_of_lt_of_le → O2, zero_le → G3, ne_of_lt → K3, le_trans → L4, lt_or_ge → U6, lt_irrefl → l7, ne_of_gt → i0, le_add_right → bP, lt_trichotomy → dP, min_eq_left → dQ, le_of_lt → dR
open PySem.F renaming plainAttrs_list → N8, type_list_append → T6, slot_list_append → T7, slot_dict_get → gG, type_list_extend → jQ, slot_list_extend → jR, entry_dict_get → nS
open Bool renaming false_ne_true → L5, and_eq_true → X0, false_xor → dS, false_eq_true → jS, eq_iff_iff → gH, not_eq_true → jT
open PySem.W renaming nsIn → O3, findIn → R0, mg_none_of → Z8, keepIn → V9, fnOf → R6, codeIn → X1, mg_of → W0, kia_one → l8, emptyDict → y9, instObj → bQ, binds_K → bR, plainGet → jU
open Array renaming length_toList → u9, getD_eq_getD_getElem? → dU, getElem?_toList → jV
open PySem.PyData renaming eqvAll → X2, eqv → U7, depthAll → bS, depth → z0, strOk → bT, int → z8
open PySem.NumText renaming digitsVal → jW
open Int renaming natCast_nonneg → dW, lt_irrefl → z9, emod_lt_of_pos → jX, le_refl → bU
open Option renaming map_eq_some_iff → jY
set_option Elab.async false
set_option linter.all false
set_option maxRecDepth 100000
noncomputable section
set_option genInjectivity false in
set_option genSizeOf false in
structure PySem.W.Fast where (tw9923260094944574323 tw15455260120171192420 tw8006443489776919455 tw4178398404881078968 tw16694304325036485180 tw5429720901071158054 tw14622635385911463088 tw5472525179577091709 tw14477753477450404236 tw42443309369976763 tw7228429647171326416 tw12014549254653861791 tw11029869616661724309 tw15023365100626885944 tw9182985738200494821 tw3517979683302820747 tw14828245501256644600 tw13483826364571677850 tw8622221299516726482 tw10501554323294563771 tw18428471441362095849 tw4933895449654616317 tw16717834342287934700 tw12783724954915501838 tw6906919891113768446 tw1899637405926531476 tw11088126854551806285 tw3365028562533590447 tw8011863794757149946 tw6275261518490801333 tw14430055406036519995 tw2951729290451850321 tw2114473683671796166 tw965240195297483832 tw1240010582181917499 tw8631862376433159076 tw13792540162477434473 tw5089710794399915883 tw13853018252389971142
tw15144575706127796048 tw14599049161627906385 tw9629257031725510988 tw5321546736232613237 tw6304482074005280269 tw17506210420363672571 tw16981649193538130404 tw2916273246725716132 tw5007019811087318550 tw5305430525242360428 tw16177771714106171941 tw1815336815398623867 tw15262443333319900537 tw4736555441544848661 tw776732150825824620 tw10520940418789062600 tw2415331691004153985 tw3524228458013486670 tw17927579398722183812 tw1184787754025657299 tw2420477448695819658 tw10130272065396479227 tw9912407801069024232 tw4994198463397547828 tw2427847287293995117 tw4636877534791959679 tw14107520442675902676 tw3976459264389890134 tw4306824278089302115 tw12083912883807478028 tw7359061195724581468 tw14172831200158890888 tw15919966964001677151 tw8184822986498675566 tw8254579054074838992 tw8569902612980875077 tw14019480006878549668 tw6924946197331448557 tw2077149803661239861 tw9939778321712743979
tw12757513758751119701 tw11909434728632765920 tw1581383250509052219 tw6483168802432374629 tw15350568024536066970 tw5382352796937417334 tw6092600150760141101 tw2218534317632784175 tw15841562279768133736 tw1175513078510043790 tw2096367557783260709 tw9759341523506771208 tw2810240058670244013 tw15923913250747091190 tw16678428949377687306 tw12470684658208158874 tw3789435028442427013 tw17691149507176292647 tw414781538567705872 tw18393992127683460871 tw4893883222816088799 tw7277180607680277384 tw14495455474137262768 tw2953581816820156640 tw13956853337534387988 tw15801997529108850176 tw5670354015891515821 tw11696373207406245021 tw9472312170916902912 tw8736085367572005605 tw4357177430435725050 tw7799168778318422710 tw18431033670643142389 tw16913264778669577977 tw13378661853673420646 tw18060934768300844597 tw14617274351498128944 tw3027884949750307236 tw14015744268208716651 tw13774055126390450726
tw6449102015659535929 tw12504801037149050674 tw10543021050072521693 tw13476490756590015203 tw11682149331358916265 tw4789183195806387967 tw6692801479019133578 tw8847810411914083659 tw4250720259743177870 tw14120820655394742739 tw5381571040974062439 tw10945443408779585115 tw15768588184123337489 tw3910778696297831816 tw17805919532547670003 tw7318104802847564353 tw16597917935810124490 tw14869362946998967118 tw3585939100394531498 tw3856514995746587633 tw11099852856846828577 tw8918541980082626996 tw4400137058270285602 tw1410753104656655457 tw14020859730716534532 tw14820870629152931819 tw14870711483754923383 tw12690981298368345078 tw17715115741408588918 tw17139085563828057059 tw2392940483312888920 tw55620279057020743 tw2631310649073557611 tw4639087285691935552 tw8771390419369669075 tw13190686291385812592 tw1912467705962464897 tw3182216341916162133 tw16980077197379323265 tw8218416768838650327
tw1957508801745631439 tw17334366594839930006 tw13789845789821594318 tw15568491652417678678 tw15158168820236417795 tw12539719666300135740 tw10866544618196217605 tw538248434151796568 tw17427539289224397865 tw6863834495787300975 tw3370682136943051563 tw13540885725514226794 tw9278839555155762722 tw15311660155449767203 tw17264333552189567709 tw14941358533476053579 tw14344614200950319423 tw6780458278246313906 tw5363396896872022405 tw9990021688409795730 tw12077015439546394604 tw2670012322276384770 tw4554045022232440929 tw1071701370621525351 tw11736019668140669247 tw16556547993548528680 tw4644287509090867080 tw7306727721426170518 tw16325349965376838716 tw14154804074445681511 tw16581815130884040686 tw13897241715752282119 tw11819715755080902710 tw9392052284447850413 tw17952666357159523210 tw244397549728203060 tw14245048000793502655 tw4959991690589606223 tw14987704246364923692 tw12636560138563503316
tw8454322787357154372 tw8507527418314676426 tw9630065155257567565 tw9084622005727432050 tw2700729270000028126 tw14146835529753443636 tw738323959564377150 tw13760388996031298678 tw16574713562209496240 tw10029597390988604141 tw17397905703814858587 tw11226444820502131777 tw9380120005541312589 tw13119315198358835482 tw4132390523504597750 tw6218722523245996653 tw6062663920642094750 tw9060149859186827010 tw15828043308403873618 tw17325247540978477005 tw11950285719594068814 tw18258575786590463199 tw3897529959151642130 tw4749849902514265172 tw4056533336447696172 tw2524994468014997720 tw10249391326234698146 tw5914091288787590468 tw15363266853517253823 tw18271638778933582212 tw6456549479004894511 tw13470804478040937965 tw15985094072270812631 tw119108930063154395 tw3334314613382896868 tw5309096922843793640 tw17000290981079074273 tw6788435263027379067 tw9861388177297205116 tw142856897880882651
tw10926227275370139599 tw9000720784604915617 tw1078290825212306188 tw17851938785282955160 tw27551333472914950 tw3566542435531732713 tw115552874923025235 tw17178299717665502308 tw9027914469681541549 tw12009748949627643383 tw10708220720693170419 tw7254468447370698442 tw16917829573757548706 tw6450522830795836380 tw2896052008647406706 tw4275800363443762567 tw8870015596923244872 tw1216405689235516257 tw17255303448373549486 tw12357378861357831206 tw12397917943895474240 tw17137021277853419316 tw5820088377905955173 tw704109213676271437 tw14360786715513275469 tw1378199160565568487 tw17118440410584710803 tw4383759111949164883 tw2729962766815708589 tw3909401874175979177 tw4267608148160926595 tw3886115555666964728 tw16447344835615890902 tw14398770517590094516 tw10521685572730027052 tw9511305657192481932 tw789428463443264315 tw9409138849244636 tw14258443166798976507 tw17077984704299297431
tw8454661409823059996 tw10081578338474461578 tw3447763422984308981 tw13388259396677405886 tw14570613986980343080 tw10372040695143868513 tw13170468070395171791 tw4263289259565610732 tw9345115492102555190 tw4257178964843103841 tw11311026328004022703 tw8564572111390857289 tw4965585974414595192 tw4553864903166788152 tw7960622596524740093 tw3922412677455773876 tw476527370813378911 tw1187491902332761254 tw6500004514690805115 tw11564056317083474788 tw12567845459432041596 tw18145026636805804513 tw7658311742594736191 tw7485295594518832636 tw7243463899503392060 tw9908328397136452795 tw7587430950550119854 tw9764456107862893639 tw13037668350894710735 tw10541369258518159525 tw16030576501086896797 tw5032966667743204388 tw9068320575199231085 tw15255324277792391166 tw12415080390757927612 tw6821007725531701457 tw15312859428971503763 tw17136018060978812140 tw3356653461070453232 tw15486122258581087262
tw7799330936627699659 tw18263116862623352637 tw18290193771396579350 tw9368076708398095413 tw16728293927373369843 tw9176748372079430900 tw3774164406409969204 tw10318529804677462533 tw1454317351509063820 tw6334450419705007762 tw15285006783219996737 tw71257986708319583 tw13741323630469250994 tw16317903884257859732 tw17311543867157192137 tw12554738055416314935 tw14277836163005260947 tw14570929399142210384 tw8005473280567974944 tw9174247682958691741 tw10411369598590350897 tw3951230252475089865 tw9080375871330531019 tw11555405594619829942 tw3464904499940427451 tw3389746497020642784 tw4905092663587145241 tw590193469098943858 tw1365515553824459244 tw14189267410866029025 tw4551203325304729667 tw12686082626636429691 tw605446252201872633 tw13296263669403066012 tw330020312729485688 tw17190176130676746538 tw18110493792994173274 tw5035600396266028575 tw18097014409548622293 tw15805650976753671563
tw7298600248652249601 tw7218291284306610712 tw11606098901444214037 tw5180706095981445517 tw293884019611586322 tw10451275903217415094 tw177313427599504583 tw16717096119662986906 tw9798105655436419413 tw4097774961115870515 tw1480537090717988237 tw3607793778176516821 tw16522570782973920792 tw8372610522924084100 tw14457033454278646352 tw13342458093443931597 tw13280137052746150485 tw5549849353014043717 tw14078280915863928125 tw18073494033709688074 tw1796276436748231966 tw12771774099595548045 tw11064589189420032304 tw6808210244853315983 tw6193394698128271160 tw9437691393665808128 tw15733459750632637722 tw2201624062712449274 tw13015217026735503354 tw10203635457118795387 tw14168626192338029645 tw11256524664206165841 tw12664918985226420153 tw448924221091997645 tw17751399979505430105 tw15713894026400577311 tw18412785295661543576 tw14193571593500106974 tw7247716965567923038 tw1529096372045362090
tw17690099551982380700 tw4688992063168912316 tw8651873666202873754 tw7826754659760307723 tw5613556092501680701 tw11328888292128352410 tw13700802112117770438 tw8007314007653097650 tw13360965355289266454 tw769485328999278177 tw17984241591552762200 tw13254902074904335130 tw12755365905279468605 tw5362830658023887364 tw5705223169402125337 tw4993103506183878419 tw17116890272228606528 tw8554677820115414333 tw476881706098852118 tw6291445078422711979 tw13011668959823623470 tw6462625910067195203 tw13260392624702630839 tw5366317235087841256 tw3009657044218659176 tw11396295005446738568 tw10607654514933201152 tw8497966574173308704 tw6347468617763241373 tw12786244990009620660 tw11192270935220784247 tw15049111290212399309 tw2480086091963118277 tw8436284203621142534 tw6474943729970495449 tw467532515127958083 tw4651932027159191698 tw14240839215729367048 tw15201368296762355954 tw12468937847422701037
tw17142948837349567491 tw13690830620390385062 tw926260968940696404 tw1082866906785585957 tw12211399042622922319 tw7676318965385648792 tw2560055378696476828 tw16600194275807801368 tw1348782948485423288 tw2434152926364249984 tw18013909656714071166 tw8116663160692372162 tw15390292033302048183 tw11523475143877574753 tw4893028045657957535 tw8785427762333115435 tw496211643493283909 tw15803424305675853742 tw14488757345201193226 tw6577363659378664005 tw15168739147769222294 tw12392912529807237696 tw8861695260935430049 tw3607316735715203400 tw4984583114904392604 tw11066934176893006629 tw9303226709145576568 tw15399035350354925393 tw66969058180277090 tw317774924407614880 tw8717060087403852354 tw4226047572424509635 tw16427706266258104622 tw368369955764400285 tw11755451878389397996 tw12195092546955841144:Nat)
set_option maxRecDepth 100000
namespace L2
open PySem PySem.Spec PyProof.Rows
noncomputable abbrev C1:=Sum Int Str
noncomputable def keyIs:C1->Value->Bool
 | .inl k,v=>Value.isInt k v
 | .inr x,v=>Value.isStrOf x v
noncomputable def keyH (w:World):C1->Int
 | .inl k=>hashInt k
 | .inr x=>hashStr w x
theorem i3:∀ {k:C1} {v:Value},keyIs k v=true->(∃ i t,k=Sum.inl i/\v=Value.int i t)\/(∃ x t,k=Sum.inr x/\v=Value.str x t)
 | .inl i,v,h=>by
  obtain ⟨t,e⟩:=Value.isInt_shape (k:=i) (v:=v) h;exact .inl ⟨i,t,rfl,e⟩
 | .inr x,v,h=>by
  obtain ⟨t,e⟩:=Value.isStrOf_shape (x:=x) (v:=v) h;exact .inr ⟨x,t,rfl,e⟩
theorem aiN(i:Int)(t:Tok):keyIs (.inl i) (.int i t)=true:=by simp [keyIs,Value.isInt]
theorem gI(x:Str)(t:Tok):keyIs (.inr x) (.str x t)=true:=by simp [keyIs,Value.isStrOf]
theorem aop(a b:Int):decide ((Sum.inl a:C1)=Sum.inl b)=(a==b):=by
 by_cases e:a=b
 .subst e;simp
 .have h:¬ (Sum.inl a:C1)=Sum.inl b:=fun q=>e (Sum.inl.inj q)
  rw [decide_eq_false h];exact (beq_eq_false_iff_ne.mpr e).symm
theorem aoq(a b:Str):decide ((Sum.inr a:C1)=Sum.inr b)=decide (a=b):=by
 by_cases e:a=b
 .subst e;simp
 .have h:¬ (Sum.inr a:C1)=Sum.inr b:=fun q=>e (Sum.inr.inj q)
  rw [decide_eq_false h,decide_eq_false e]
theorem aor(a:Int)(b:Str):decide ((Sum.inl a:C1)=Sum.inr b)=false:=decide_eq_false (fun q=>nomatch q)
theorem aos(a:Str)(b:Int):decide ((Sum.inr a:C1)=Sum.inl b)=false:=decide_eq_false (fun q=>nomatch q)
noncomputable def N9 (prog:Program) (w:World):PySem.KeyKind prog w C1 where
 is:=keyIs
 hash:=keyH w
 inj:=fun v a b ha hb=>by
  rcases i3 ha with ⟨i,t,rfl,rfl⟩ | ⟨x,t,rfl,rfl⟩
  .rcases i3 hb with ⟨j,u,rfl,e⟩ | ⟨y,u,rfl,e⟩
   .injection e with e1 _;rw [e1]
   .exact nomatch e
  .rcases i3 hb with ⟨j,u,rfl,e⟩ | ⟨y,u,rfl,e⟩
   .exact nomatch e
   .injection e with e1 _;rw [e1]
 byValue:=fun k v h=>by
  rcases i3 h with ⟨i,t,rfl,rfl⟩ | ⟨x,t,rfl,rfl⟩ <;> rfl
 pyHash:=fun hv h=>by
  rcases i3 hv with ⟨i,t,rfl,rfl⟩ | ⟨x,t,rfl,rfl⟩
  .exact wpAny_pyHash_int h
  .exact wpAny_pyHash_str h
 eqBool:=fun hu hv h=>by
  rcases i3 hu with ⟨i,t,rfl,rfl⟩ | ⟨x,t,rfl,rfl⟩
  .rcases i3 hv with ⟨j,u,rfl,rfl⟩ | ⟨y,u,rfl,rfl⟩
   .rw [aop] at h;exact wpAny_eqBool_int h
   .rw [aor] at h;exact SeqAt.EqAt.int_str i t y u _ _ _ _ h
  .rcases i3 hv with ⟨j,u,rfl,rfl⟩ | ⟨y,u,rfl,rfl⟩
   .rw [aos] at h;exact SeqAt.EqAt.str_int x t j u _ _ _ _ h
   .rw [aoq] at h;exact wpAny_eqBool_str h
 «strs»:=fun k x t v h=>by
  rcases i3 h with ⟨i,u,rfl,e⟩ | ⟨y,u,rfl,e⟩
  .exact nomatch e
  .injection e with e1 _
   subst e1
   cases v <;> rfl
theorem agB(prog:Program)(w:World)(i:Int)(t:Tok):(N9 prog w).is (.inl i) (.int i t)=true:=aiN i t
theorem agC(prog:Program)(w:World)(x:Str)(t:Tok):(N9 prog w).is (.inr x) (.str x t)=true:=gI x t
end L2
namespace L2
open PySem PySem.Spec PyProof.Rows
inductive V where
 | non | bl (b:Bool) | int (i:Int) | str (x:Str) | byt (b:Array UInt8) | flt (b:UInt64) | ref (a:Addr) | ty (n:String)
 deriving DecidableEq
noncomputable def RelV:V->Value->Prop
 | .non,u=>u=Value.none
 | .bl b,u=>u=Value.bool b
 | .int i,u=>∃ t,u=Value.int i t
 | .str x,u=>∃ t,u=Value.str x t
 | .byt b,u=>∃ t,u=Value.bytes b t
 | .flt b,u=>∃ t,u=Value.float b t
 | .ref a,u=>u=Value.ref a
 | .ty n,u=>u=Value.type n
noncomputable abbrev Vals:List V->List Value->Prop:=Paired RelV
theorem Vals.length{xs:List V}{us:List Value}(r:Vals xs us):xs.length=us.length:=Paired.length r
theorem Vals.get:∀ {xs:List V} {us:List Value} {i:Nat} {x:V},Vals xs us->xs[i]?=some x->∃ u,us[i]?=some u/\RelV x u
 | _,_,_,_,.nil,e=>by simp at e
 | _,_,0,_,.cons r _,e=>by simp at e;subst e;exact ⟨_,rfl,r⟩
 | _,_,i+1,x,.cons _ t,e=>by
  obtain ⟨u,h1,h2⟩:=Vals.get (i:=i) (x:=x) t (by simpa using e);exact ⟨u,by simpa using h1,h2⟩
theorem Vals.set{x:V}{u:Value}(r:RelV x u):∀ {xs:List V} {us:List Value} (i:Nat),Vals xs us->Vals (xs.set i x) (us.set i u)
 | _,_,_,.nil=>.nil
 | _,_,0,.cons _ t=>.cons r t
 | _,_,i+1,.cons q t=>.cons q (Vals.set r i t)
theorem Vals.append:∀ {xs ys:List V} {us ws:List Value},Vals xs us->Vals ys ws->Vals (xs++ys) (us++ws)
 | _,_,_,_,.nil,s=>s
 | _,_,_,_,.cons r t,s=>.cons r (Vals.append t s)
theorem Vals.take:∀ {xs:List V} {us:List Value} (n:Nat),Vals xs us->Vals (xs.take n) (us.take n)
 | _,_,0,_=>.nil
 | _,_,_+1,.nil=>.nil
 | _,_,n+1,.cons r t=>.cons r (Vals.take n t)
theorem Vals.drop:∀ {xs:List V} {us:List Value} (n:Nat),Vals xs us->Vals (xs.drop n) (us.drop n)
 | _,_,0,r=>r
 | _,_,_+1,.nil=>.nil
 | _,_,n+1,.cons _ t=>Vals.drop n t
theorem Vals.none_of:∀ {xs:List V} {us:List Value} {i:Nat},Vals xs us->xs[i]?=none->us[i]?=none:=fun {xs us i} r e=>by
 have h1:=r.length;have h2:xs.length<=i:=List.getElem?_eq_none_iff.mp e;exact List.getElem?_eq_none_iff.mpr (by lia)
noncomputable def RelO:Option V->Option Value->Prop
 | some v,some u=>RelV v u
 | none,none=>True
 | _,_=>False
noncomputable def KV {κ:Type} : List (κ×V)->List (κ×Value)->Prop:=Paired fun (p:κ×V) (q:κ×Value)=>p.1=q.1/\RelV p.2 q.2
noncomputable def kV:C1->V
 | .inl i=>.int i
 | .inr x=>.str x
inductive HO where
 | lst (xs:List V)
 | tup (xs:List V)
 | dK (kvs:List (C1×V)) | dT (kvs:List (List C1×V))
 | set (S:Int->Bool) (n:Nat)
 | ins (C dx:Addr) (fs:List (Str×V))
 | own (x:Addr)
 | xd (fs:List (Str×V))
 | met (f x:Addr)
 | rng (lo hi:Int)
 | frz (o:Obj) (u:HO)
 | tbl (ps:Array Value)
 | ext (φ:Heap->Prop)
noncomputable abbrev Hp:=Addr->Option HO
noncomputable def A0 (H:Hp) (a:Addr) (o:HO):Hp:=fun b=>if b=a then some o else H b
theorem A2{H:Hp}{a:Addr}{o:HO} : A0 H a o a=some o:=by unfold A0;rw [if_pos rfl]
theorem A3{H:Hp}{a b:Addr}{o:HO}(h:b≠a):A0 H a o b=H b:=by unfold A0;rw [if_neg h]
theorem ne_of{H:Hp}{a b:Addr}{o u:HO}(h:H a=some o)(h':H b=some u)(d:o≠u):a≠b:=by
 intro e;subst e;rw [h] at h';exact d (Option.some.inj h')
theorem aA{H:Hp}{a b:Addr}{o:HO}(h:H a=some o)(h':H b=none):a≠b:=by
 intro e;subst e;rw [h] at h';cases h'
section
variable (P:Program) (w:World)
noncomputable def ObjOk (H:Hp) (h:Heap) (a:Addr):HO->Prop
 | .lst xs=>xs.length<=sizeLine/\∃ (its:List Value) (n:Nat),Vals xs its/\h.get? a=some { cls:=.type "list",data:=.seq its.toArray n }
 | .tup xs=>xs.length<=sizeLine/\∃ its:List Value,Vals xs its/\IsTup h a its.toArray
 | .dK kvs=>kvs.length<=sizeLine/\(a==sysModules)=false/\∃ vs,KV kvs vs/\h.DictOf (N9 P w) a vs
 | .dT kvs=>kvs.length<=sizeLine/\(a==sysModules)=false/\∃ xs:List (List C1×Addr×Value),
   Paired (fun (p:List C1×V) (q:List C1×Addr×Value)=>p.1=q.1/\H q.2.1=some (.tup (p.1.map kV))/\RelV p.2 q.2.2) kvs xs/\
   ∃ o es ep,h.get? a=some o/\o.ExactDict/\o.data=.dict es ep/\es.toList=xs.map (entryOfKey (tupleKind (N9 P w)))/\(xs.map (·.1)).Nodup
 | .set S n=>h.SetOf (intKind P w) a S n
 | .ins C dx fs=>H dx=some (.own a)/\fs.length<=1000/\dx≠a/\h.get? a=some (bQ C dx)/\
   ∃ mA,h.Ns1 dx mA/\(∀ f,RelO (fs.lookup f) (mA f))/\PySem.Within mA (fs.map (·.1))
 | .own _=>∃ o,h.get? a=some o
 | .xd fs=>∃ mA,h.Ns1 a mA/\∀ f,RelO (fs.lookup f) (mA f)
 | .rng lo hi=>∃ t u v,h.get? a=some { cls:=.type "range",data:=.fields #[.int lo t,.int hi u,.int 1 v] }
 | .frz o u=>h.get? a=some o/\ObjOk H h a u
 | .tbl ps=>h.get? a=some { cls:=.none,data:=.fields ps }
 | .met f x=>h.get? a=some (PySem.W.methodObj (.ref f) (.ref x))
 | .ext φ=>φ h/\(∃ o,h.get? a=some o)/\∀ h1 h2:Heap,φ h1->(∀ o,h1.get? a=some o->h2.get? a=some o)->φ h2
noncomputable def L8 (H:Hp) (h:Heap):Prop:=∀ a o,H a=some o->ObjOk P w H h a o
end
section
variable {P:Program} {w:World} {H H':Hp} {h h':Heap} {a:Addr} {o:HO}
theorem ObjOk.lt(x:ObjOk P w H h a o):a<h.objs.size:=by
 cases o with
 | lst xs=>obtain ⟨_,_,_,_,e⟩:=x;exact Heap.lt_size e
 | tup xs=>obtain ⟨_,_,_,p⟩:=x;exact p.lt
 | dK kvs=>obtain ⟨_,_,_,_,o,_,_,e,_⟩:=x;exact Heap.lt_size e
 | dT kvs=>obtain ⟨_,_,_,_,o,_,_,e,_⟩:=x;exact Heap.lt_size e
 | set S n=>obtain ⟨o,_,_,_,e,_⟩:=x;exact Heap.lt_size e
 | ins C dx fs=>obtain ⟨_,_,_,e,_⟩:=x;exact Heap.lt_size e
 | own y=>obtain ⟨_,e⟩:=x;exact Heap.lt_size e
 | xd fs=>obtain ⟨_,⟨_,_,_,e,_⟩,_⟩:=x;exact Heap.lt_size e
 | rng lo hi=>obtain ⟨_,_,_,e⟩:=x;exact Heap.lt_size e
 | frz ob u=>obtain ⟨e,_⟩:=x;exact Heap.lt_size e
 | tbl ps=>exact Heap.lt_size (show h.get? a=some _ from x)
 | met f y=>exact Heap.lt_size (show h.get? a=some _ from x)
 | ext φ=>obtain ⟨_,⟨_,e⟩,_⟩:=x;exact Heap.lt_size e
theorem O4{α β:Type}{F G:α->β->Prop} : ∀ {l₁:List α} {l₂:List β},Paired F l₁ l₂->(∀ a b,F a b->G a b)->Paired G l₁ l₂
 | _,_,.nil,_=>.nil
 | _,_,.cons r t,f=>.cons (f _ _ r) (O4 t f)
theorem ObjOk.stay(x:ObjOk P w H h a o)(k:∀ b u,(b=a\/H b=some (.own a))->h.get? b=some u->h'.get? b=some u)(ho:∀ b,H b=some (.own a)->H' b=some (.own a))(ht:∀ b xs,H b=some (.tup xs)->H' b=some (.tup xs)):ObjOk P w H' h' a o:=by
 induction o with
 | lst xs=>obtain ⟨z,its,n,r,e⟩:=x;exact ⟨z,its,n,r,k _ _ (.inl rfl) e⟩
 | tup xs=>obtain ⟨z,its,r,ob,e,c⟩:=x;exact ⟨z,its,r,ob,k _ _ (.inl rfl) e,c⟩
 | dK kvs=>obtain ⟨z,y,vs,r,ob,es,ep,e,c⟩:=x;exact ⟨z,y,vs,r,ob,es,ep,k _ _ (.inl rfl) e,c⟩
 | dT kvs=>
  obtain ⟨z,y,xs,r,ob,es,ep,e,c⟩:=x;exact ⟨z,y,xs,O4 r fun p q z=>⟨z.1,ht _ _ z.2.1,z.2.2⟩,ob,es,ep,k _ _ (.inl rfl) e,c⟩
 | set S n=>obtain ⟨ob,es,ep,t,e,c⟩:=x;exact ⟨ob,es,ep,t,k _ _ (.inl rfl) e,c⟩
 | ins C dx fs=>
  obtain ⟨d,z,ne,e,mA,⟨od,es,ep,e2,c⟩,r⟩:=x;exact ⟨ho _ d,z,ne,k _ _ (.inl rfl) e,mA,⟨od,es,ep,k _ _ (.inr d) e2,c⟩,r⟩
 | own y=>obtain ⟨ob,e⟩:=x;exact ⟨ob,k _ _ (.inl rfl) e⟩
 | xd fs=>obtain ⟨mA,⟨od,es,ep,e,c⟩,r⟩:=x;exact ⟨mA,⟨od,es,ep,k _ _ (.inl rfl) e,c⟩,r⟩
 | rng lo hi=>obtain ⟨t,u,v,e⟩:=x;exact ⟨t,u,v,k _ _ (.inl rfl) e⟩
 | frz ob u ih=>obtain ⟨e,q⟩:=x;exact ⟨k _ _ (.inl rfl) e,ih q⟩
 | tbl ps=>
  have e:h.get? a=some { cls:=.none,data:=.fields ps }:=x;show h'.get? a=some { cls:=.none,data:=.fields ps };exact k a _ (.inl rfl) e
 | met f y=>
  have e:h.get? a=some (PySem.W.methodObj (.ref f) (.ref y)):=x;show h'.get? a=some (PySem.W.methodObj (.ref f) (.ref y));exact k a _ (.inl rfl) e
 | ext φ=>obtain ⟨p,⟨o,e⟩,st⟩:=x;exact ⟨st _ _ p fun o q=>k _ _ (.inl rfl) q,⟨o,k _ _ (.inl rfl) e⟩,st⟩
theorem L8.lt(x:L8 P w H h)(e:H a=some o):a<h.objs.size:=(x a o e).lt
theorem L8.fresh(x:L8 P w H h)(e:h.objs.size<=a):H a=none:=by
 cases q:H a with
 | none=>rfl
 | some u=>exact absurd (O2 (x.lt q) e) (l7 _)
theorem L8.kept(x:L8 P w H h)(k:∀ b u,h.get? b=some u->h'.get? b=some u):L8 P w H h':=fun a o e=>
 (x a o e).stay (fun b u _ q=>k b u q) (fun _ q=>q) fun _ _ q=>q
theorem L8.laid(x:L8 P w H h)(k:∀ b u,h.get? b=some u->h'.get? b=some u)(hp:h.objs.size<=a)(new:ObjOk P w (A0 H a o) h' a o):L8 P w (A0 H a o) h':=fun b u e=>by
 have hn:=x.fresh hp
 by_cases hb:b=a
 .subst hb;rw [A2] at e;cases e;exact new
 .rw [A3 hb] at e;exact (x b u e).stay (fun c v _ q=>k c v q) (fun c q=>by rw [A3 (aA q hn)];exact q) fun c xs q=>by rw [A3 (aA q hn)];exact q
end
noncomputable def Rd (H:Hp) (a:Addr) (u:HO):Prop:=H a=some u\/∃ o,H a=some (.frz o u)
theorem Rd.of{H:Hp}{a:Addr}{u:HO}(h:H a=some u):Rd H a u:=.inl h
theorem Rd.ok{P:Program}{w:World}{H:Hp}{h:Heap}{a:Addr}{u:HO}(r:Rd H a u)(x:L8 P w H h):ObjOk P w H h a u:=by
 rcases r with r | ⟨o,r⟩
 .exact x a u r
 .obtain ⟨_,q⟩:=x a _ r;exact q
noncomputable def jZ:Option HO->Prop
 | some (.lst _)=>True
 | some (.dK _)=>True
 | some (.dT _)=>True
 | some (.set _ _)=>True
 | some (.ins _ _ _)=>True
 | some (.ext _)=>True
 | _=>False
section
variable {P:Program} {w:World} {H:Hp} {h h':Heap} {x e:Addr} {o':HO}
theorem L8.write(ok:L8 P w H h)(mu:jZ (H x))(he:e=x\/H e=some (.own x))(k:∀ b u,b≠e->h.get? b=some u->h'.get? b=some u)(iM:∃ u,h'.get? e=some u)(new:ObjOk P w (A0 H x o') h' x o'):L8 P w (A0 H x o') h':=fun b u q=>by
 have nown:∀ c y,H c=some (.own y)->c≠x:=fun c y r z=>by subst z;rw [r] at mu;exact mu
 have ntup:∀ c xs,H c=some (.tup xs)->c≠x:=fun c xs r z=>by subst z;rw [r] at mu;exact mu
 by_cases hb:b=x
 .subst hb;rw [A2] at q;cases q;exact new
 .rw [A3 hb] at q
  by_cases eV:b=e
  .have q':H b=some (.own x):=by
    rcases he with z | z
    .exact absurd (eV.trans z) hb
    .rw [eV];exact z
   rw [q] at q';cases q';obtain ⟨v,hv⟩:=iM;exact ⟨v,by rw [eV];exact hv⟩
  .refine (ok b u q).stay (fun c v hc r=>k c v ?_ r) (fun c r=>by rw [A3 (nown c b r)];exact r) fun c xs r=>by rw [A3 (ntup c xs r)];exact r
   rcases hc with rfl | hc
   .exact eV
   .rintro rfl
    rcases he with z | z
    .exact nown c b hc z
    .rw [hc] at z;cases z;exact hb rfl
end
structure Un(fs ex:List Addr)(H H':Hp)(h h':Heap):Prop where
 keep:∀ b o,h.get? b=some o->H b=none->b∉fs->b∉ex->h'.get? b=some o
 slot:∀ b o,h.get? b=some o->H b=none->b∈fs->b∉ex->∃ sl,h'.get? b=some { o with slots:=sl }
 free:∀ b o,h.get? b=some o->H b=none->b∉ex->H' b=none
 there:∀ b o,h.get? b=some o->b∉ex->∃ o',h'.get? b=some o'
 tups:∀ b xs,H b=some (.tup xs)->H' b=some (.tup xs)
 frzs:∀ b o u,H b=some (.frz o u)->H' b=some (.frz o u)
 tbls:∀ b ps,H b=some (.tbl ps)->∃ more,H' b=some (.tbl (ps++more))
section
variable {fs fs' ex ex':List Addr} {H H1 H2:Hp} {h h1 h2 h':Heap} {a x e:Addr} {o:HO}
theorem Un.any(u:Un fs ex H H1 h h1){b:Addr}{ob:Obj}(q:h.get? b=some ob)(n:H b=none)(hx:b∉ex):∃ sl,h1.get? b=some { ob with slots:=sl }:=by
 by_cases hb:b∈fs
 .exact u.slot b ob q n hb hx
 .exact ⟨ob.slots,u.keep b ob q n hb hx⟩
theorem Un.kept(k:∀ b u,h.get? b=some u->h'.get? b=some u):Un fs ex H H h h':=
 ⟨fun b ob q _ _ _=>k b ob q,fun b ob q _ _ _=>⟨ob.slots,k b ob q⟩,fun _ _ _ n _=>n,fun b ob q _=>⟨ob,k b ob q⟩,fun _ _ q=>q,fun _ _ _ q=>q,fun _ ps q=>⟨#[],by rw [q];simp⟩⟩
theorem Un.refl:Un fs ex H H h h:=Un.kept fun _ _ q=>q
theorem Un.laid(k:∀ b u,h.get? b=some u->h'.get? b=some u)(hp:h.objs.size<=a)(hn:H a=none):Un fs ex H (A0 H a o) h h' where
 keep:=fun b u q _ _ _=>k b u q
 slot:=fun b u q _ _ _=>⟨u.slots,k b u q⟩
 free:=fun b u q n _=>by rw [A3 (K3 (O2 (Heap.lt_size q) hp))];exact n
 there:=fun b u q _=>⟨u,k b u q⟩
 tups:=fun b xs q=>by rw [A3 (aA q hn)];exact q
 frzs:=fun b u xs q=>by rw [A3 (aA q hn)];exact q
 tbls:=fun b ps q=>⟨#[],by rw [A3 (aA q hn),q];simp⟩
theorem Un.write(mu:jZ (H x))(he:e=x\/H e=some (.own x))(k:∀ b u,b≠e->h.get? b=some u->h'.get? b=some u)(iM:∃ u,h'.get? e=some u):Un fs ex H (A0 H x o) h h':=by
 have hx:∀ b,H b=none->b≠x:=fun b n z=>by subst z;rw [n] at mu;exact mu
 have hb:∀ b,H b=none->b≠e:=fun b n z=>by
  subst z
  rcases he with r | r
  .exact hx b n r
  .rw [n] at r;cases r
 have hm:∀ b u,H b=some u->¬ jZ (some u)->b≠x:=fun b u q nm z=>by subst z;rw [q] at mu;exact nm mu
 refine ⟨fun b u q n _ _=>k b u (hb b n) q,fun b u q n _ _=>⟨u.slots,k b u (hb b n) q⟩,fun b u q n _=>by rw [A3 (hx b n)];exact n,fun b u q _=>?_,
  fun b xs q=>by rw [A3 (hm b _ q fun z=>z)];exact q,fun b u xs q=>by rw [A3 (hm b _ q fun z=>z)];exact q,fun b ps q=>⟨#[],by rw [A3 (hm b _ q fun z=>z),q];simp⟩⟩
 by_cases eV:b=e
 .subst eV;exact iM
 .exact ⟨u,k b u eV q⟩
end
noncomputable def nU (h:Heap) (H:Hp):List Addr:=(P6 h.objs.size).filter fun a=>(H a).isSome
noncomputable def hidT (h:Heap) (H:Hp):Heap:=PySem.W.hideAll h (nU h H)
theorem aiO(h:Heap)(H:Hp):(hidT h H).objs.size=h.objs.size:=PySem.W.hideAll_size _ _
theorem akD{h:Heap}{H:Hp}{b:Addr}{o:Obj}(e:h.get? b=some o)(n:H b=none):(hidT h H).get? b=some o:=
 PySem.W.hideAll_get _ e fun hm=>by
  have q:(H b).isSome=true:=(T5.mp hm).2;rw [n] at q;simp at q
theorem zP{h:Heap}{H:Hp}{b:Addr}{o:Obj}(e:(hidT h H).get? b=some o):h.get? b=some o/\H b=none:=by
 have e':h.get? b=some o:=PySem.W.of_hideAll (nU h H) e;refine ⟨e',?_⟩
 cases q:H b with
 | none=>rfl
 | some x=>
  have hm:b∈nU h H:=T5.mpr ⟨W9.mpr (Heap.lt_size e'),by simp [q]⟩;have z:(hidT h H).get? b=none:=PySem.W.hideAll_none (nU h H) hm;rw [z] at e;cases e
noncomputable def amF (g h:Heap) (L:Addr):List (Addr×Obj):=(P6 h.objs.size).filterMap fun a=>if a=L\/(g.get? a).isSome=true then none else (h.get? a).map fun o=>(a,o)
noncomputable def rest (g h:Heap) (L d:Addr):List (Addr×Obj):=(amF g h L).filter fun p=>decide (p.1≠d)
end L2
namespace L2
open PySem PySem.Spec PyProof.Rows
structure Mod(K:PySem.W.Frag)(mg:Str->Option Value)(base:Heap):Prop where
 kin:K.In base
 glob:base.Ns mainGlobals mg
 blt:∃ mb,base.Ns builtinsNs mb/\∀ x:Str,x≠"__name__"->mb x=bootBuiltins x
 nolimit:base.NoLimit
structure Cx where
 prog:Program
 w:World
 K:PySem.W.Frag
 mg:Str->Option Value
 base:Heap
 A:Around
 N:List Str
 s₀:Shared
 H₀:Hp
 env:Env
 outer:List Env
 stack:List Env
 ex:List Addr
 fn:Str->Bool
 calm:Bool
 pn:List (Addr×Obj)
 xe:Value->Shared->Prop
noncomputable def l9 (l:List Env):List Addr:=l.filterMap (·.frame)
noncomputable abbrev Cx.fs (X:Cx):List Addr:=l9 X.outer
noncomputable def kA (sc:Scope) (x:Str):Prop:=sc.names.lookup x=some .local\/sc.names.lookup x=some .cell\/sc.names.lookup x=some .free
noncomputable def m3 (sc:Scope) (x:Str):Prop:=sc.names.lookup x=some .local\/sc.names.lookup x=some .cell
noncomputable def Look (env:Env) (h:Heap) (m:Str->Option Value) (x:Str) (u:Value):Prop:=
 (env.kindOf x=some .local/\m x=some u)\/((env.kindOf x=some .cell\/env.kindOf x=some .free)/\∃ c,env.cells.lookup x=some c/\h.IsCell c (some u))
structure Cx.Ok(X:Cx):Prop where
 mod:Mod X.K X.mg X.base
 kind:X.env.scope.kind=.function
 glob:X.env.globals=mainGlobals
 blt:X.env.builtins=builtinsNs
 above:X.s₀.heap.objs.size<=X.env.locals
 inj:∀ x y c,X.env.cells.lookup x=some c->X.env.cells.lookup y=some c->x=y
 has:∀ x,(X.env.kindOf x=some .cell\/X.env.kindOf x=some .free)->∃ c,X.env.cells.lookup x=some c
 cab:∀ x c,X.fn x=true->X.env.cells.lookup x=some c->X.s₀.heap.objs.size<=c
 hd:X.calm=true->X.A.handled=none
 frames:X.A.frames=some X.stack
 stk:X.stack=X.outer\/(X.stack=X.env::X.outer/\X.env.frame=some X.env.locals)
 exf:∀ b∈X.ex,b≠X.env.locals/\∀ x c,X.env.cells.lookup x=some c->c≠b
 bs:∀ b o,X.base.get? b=some o->X.s₀.heap.get? b=some o/\X.H₀ b=none
 bsz:X.base.objs.size<=X.s₀.heap.objs.size
 noex:∀ b o,X.base.get? b=some o->b∉X.ex
 exfs:∀ b∈X.ex,b∉X.fs
 funs:X.s₀.heap.FunFrames X.base X.outer
 frf:∀ b∈X.fs,X.H₀ b=none
structure Inv(X:Cx)(pins:List (Addr×Obj))(Y:List (Option V))(H:Hp)(s:Shared):Prop where
 ok:X.Ok
 os:s.os=X.s₀.os
 bare:AllBare s.gens
 base:Un X.fs X.ex X.H₀ H X.s₀.heap s.heap
 loc:∃ m,s.heap.Ns X.env.locals m/\∀ (i:Nat) (x:Str) (v:V),X.N[i]?=some x->Y[i]?=some (some v)->kA X.env.scope x->∃ u,RelV v u/\Look X.env s.heap m x u
 cell:∀ x c,X.env.cells.lookup x=some c->∃ v,s.heap.IsCell c v
 free:H X.env.locals=none
 freeC:∀ x c,X.env.cells.lookup x=some c->H c=none
 pin:∀ p∈X.pn++pins,s.heap.get? p.1=some p.2/\H p.1=none/\p.1≠X.env.locals/\p.1∉X.fs/\∀ v,p.2.data≠.cell v
 hok:L8 X.prog X.w H s.heap
 len:Y.length=X.N.length
section
variable {X:Cx} {pins:List (Addr×Obj)} {Y:List (Option V)} {H H':Hp} {s:Shared} {h':Heap}
theorem Cx.Ok.nofr(ok:X.Ok){b:Addr}{o:Obj}(e:X.base.get? b=some o):b∉X.fs:=fun hb=>by
 have:=(ok.funs.mem hb).1
 rw [e] at this;cases this
theorem Inv.bs(I:Inv X pins Y H s):∀ b o,X.base.get? b=some o->s.heap.get? b=some o/\H b=none:=fun b o e=>
 ⟨I.base.keep b o (I.ok.bs b o e).1 (I.ok.bs b o e).2 (I.ok.nofr e) (I.ok.noex b o e),I.base.free b o (I.ok.bs b o e).1 (I.ok.bs b o e).2 (I.ok.noex b o e)⟩
theorem Inv.bk(I:Inv X pins Y H s):∀ b o,X.base.get? b=some o->s.heap.get? b=some o:=fun b o e=>(I.bs b o e).1
theorem Inv.mod(I:Inv X pins Y H s):Mod X.K X.mg X.base:=I.ok.mod
theorem Inv.kIn(I:Inv X pins Y H s):X.K.In s.heap:=I.ok.mod.kin.keeps I.bk
theorem Inv.nolimit(I:Inv X pins Y H s):s.heap.NoLimit:=I.ok.mod.nolimit.keeps I.bk
theorem Inv.lt(I:Inv X pins Y H s):X.env.locals<s.heap.objs.size:=let ⟨_,hn,_⟩:=I.loc;hn.lt
theorem Inv.sz(I:Inv X pins Y H s):X.s₀.heap.objs.size<=s.heap.objs.size:=L4 I.ok.above (dR I.lt)
theorem Inv.nofs(I:Inv X pins Y H s){a:Addr}(h:s.heap.objs.size<=a):a∉X.fs:=fun hb=>by
 obtain ⟨_,o,ho,_⟩:=I.ok.funs.mem hb;exact absurd (O2 (Heap.lt_size ho) (L4 I.sz h)) (l7 _)
theorem Inv.cne(I:Inv X pins Y H s):∀ x c,X.env.cells.lookup x=some c->c≠X.env.locals:=fun x c e z=>by
 obtain ⟨v,o,ho,hd⟩:=I.cell x c e;obtain ⟨m,⟨o',es,ep,o3,eW,_⟩,_⟩:=I.loc;rw [z,o3] at ho;cases ho;rw [eW] at hd;cases hd
theorem Inv.funs(I:Inv X pins Y H s):s.heap.FunFrames X.base X.outer:=by
 have all:∀ (l:List Env),(∀ b∈l9 l,b∈X.fs)->X.s₀.heap.FunFrames X.base l->s.heap.FunFrames X.base l:=by
  intro l
  induction l with
  | nil=>intro _ _;trivial
  | cons env r ih=>
   intro hs hl;obtain ⟨hk,⟨L,o,hf,hn,ho,hd⟩,hr⟩:=hl;have hL:L∈X.fs:=hs L (by unfold l9;rw [dM,hf];exact J9);obtain ⟨sl,e⟩:=I.base.slot L o ho (I.ok.frf L hL) hL fun z=>I.ok.exfs L z hL
   exact ⟨hk,⟨L,_,hf,hn,e,hd⟩,ih (fun b hb=>hs b (by unfold l9;rw [dM,hf];exact L6 _ hb)) hr⟩
 exact all X.outer (fun _ hb=>hb) I.ok.funs
theorem Inv.stack(I:Inv X pins Y H s):s.heap.FunFrames X.base X.stack:=by
 rcases I.ok.stk with e | ⟨e,hf⟩
 .rw [e];exact I.funs
 .rw [e];obtain ⟨m,hn,_⟩:=I.loc;refine .cons (by rw [I.ok.kind];decide) hf hn ?_ I.funs;exact Heap.get?_none_of_le (L4 I.ok.bsz I.ok.above)
theorem Inv.stkSub(I:Inv X pins Y H s):∀ b∈l9 X.stack,b∈X.env.locals::X.fs:=fun b hb=>by
 rcases I.ok.stk with e | ⟨e,hf⟩
 .rw [e] at hb;exact L6 _ hb
 .rw [e] at hb;unfold l9 at hb;rw [dM,hf] at hb;exact hb
theorem Inv.stkFree(I:Inv X pins Y H s):∀ b∈l9 X.stack,H b=none:=fun b hb=>by
 rcases E5.mp (I.stkSub b hb) with e | hb
 .rw [e];exact I.free
 .obtain ⟨_,o,ho,_⟩:=I.ok.funs.mem hb;exact I.base.free b o ho (I.ok.frf b hb) fun z=>I.ok.exfs b z hb
theorem Inv.step{g':Array GenState}{t':Nat}{d':Drawn}{ch:List Addr}(I:Inv X pins Y H s)(x6:∀ b∈ch,(b∈X.ex\/X.s₀.heap.objs.size<=b)/\b≠X.env.locals/\(∀ x c,X.env.cells.lookup x=some c->c≠b)/\∀ p∈X.pn++pins,p.1≠b)(keep:∀ b o,b≠X.env.locals->b∉X.fs->b∉ch->s.heap.get? b=some o->H b=none->h'.get? b=some o)(slot:∀ b o,b≠X.env.locals->b∈X.fs->b∉ch->s.heap.get? b=some o->H b=none->∃ sl,h'.get? b=some { o with slots:=sl })(free:∀ b o,b∉ch->s.heap.get? b=some o->H b=none->H' b=none)(there:∀ b o,b∉ch->s.heap.get? b=some o->∃ o',h'.get? b=some o')(tups:∀ b xs,H b=some (.tup xs)->H' b=some (.tup xs))(frzs:∀ b o u,H b=some (.frz o u)->H' b=some (.frz o u))(tbls:∀ b ps,H b=some (.tbl ps)->∃ more,H' b=some (.tbl (ps++more)))(ns:∀ m,s.heap.Ns X.env.locals m->h'.Ns X.env.locals m)(hok:L8 X.prog X.w H' h')(hg:AllBare g') :
  Inv X pins Y H' { s with heap:=h',gens:=g',drawn:=d',toks:=t' }:=by
 have neL:∀ b o,X.s₀.heap.get? b=some o->b≠X.env.locals:=fun b o e=>K3 (O2 (Heap.lt_size e) I.ok.above)
 have neC:∀ b o,X.s₀.heap.get? b=some o->b∉X.ex->b∉ch:=fun b o e hx hb=>by
  rcases (x6 b hb).1 with z | z
  .exact hx z
  .exact absurd (O2 (Heap.lt_size e) z) (l7 _)
 have cellK:∀ x c,X.env.cells.lookup x=some c->∀ v,s.heap.IsCell c v->h'.IsCell c v:=fun x c e v ⟨o,ho,hd⟩=>by
  have nch:c∉ch:=fun z=>(x6 c z).2.2.1 x c e rfl
  by_cases hc:c∈X.fs
  .obtain ⟨sl,q⟩:=slot c o (I.cne x c e) hc nch ho (I.freeC x c e);exact ⟨_,q,hd⟩
  .exact ⟨o,keep c o (I.cne x c e) hc nch ho (I.freeC x c e),hd⟩
 refine ⟨I.ok,I.os,hg,⟨fun b o e n hb hx=>?_,fun b o e n hb hx=>?_,fun b o e n hx=>?_,fun b o e hx=>?_,fun b xs e=>tups b xs (I.base.tups b xs e),fun b o xs e=>frzs b o xs (I.base.frzs b o xs e),fun b ps e=>?_⟩,?_,fun x c e=>?_,?_,fun x c e=>?_,fun p hp=>?_,hok,I.len⟩
 .exact keep b o (neL b o e) hb (neC b o e hx) (I.base.keep b o e n hb hx) (I.base.free b o e n hx)
 .obtain ⟨sl,e1⟩:=I.base.slot b o e n hb hx;obtain ⟨sl',e2⟩:=slot b _ (neL b o e) hb (neC b o e hx) e1 (I.base.free b o e n hx);exact ⟨sl',e2⟩
 .obtain ⟨o',e1⟩:=I.base.there b o e hx;exact free b o' (neC b o e hx) e1 (I.base.free b o e n hx)
 .obtain ⟨o',e1⟩:=I.base.there b o e hx;exact there b o' (neC b o e hx) e1
 .obtain ⟨m1,e1⟩:=I.base.tbls b ps e;obtain ⟨m2,e2⟩:=tbls b _ e1;exact ⟨m1++m2,by rw [e2,Array.append_assoc]⟩
 .obtain ⟨m,hn,hl⟩:=I.loc;refine ⟨m,ns m hn,fun i x v e1 e2 e3=>?_⟩;obtain ⟨u,r,l⟩:=hl i x v e1 e2 e3;refine ⟨u,r,?_⟩
  rcases l with l | ⟨k,c,e,z⟩
  .exact .inl l
  .exact .inr ⟨k,c,e,cellK x c e _ z⟩
 .obtain ⟨v,z⟩:=I.cell x c e;exact ⟨v,cellK x c e v z⟩
 .obtain ⟨m,⟨o,_,_,ho,_⟩,_⟩:=I.loc;exact free _ o (fun z=>(x6 _ z).2.1 rfl) ho I.free
 .obtain ⟨v,o,ho,hd⟩:=I.cell x c e;exact free c o (fun z=>(x6 c z).2.2.1 x c e rfl) ho (I.freeC x c e)
 .obtain ⟨e,n,ne,nf,d⟩:=I.pin p hp;have nch:p.1∉ch:=fun z=>(x6 p.1 z).2.2.2 p hp rfl
  exact ⟨keep p.1 p.2 ne nf nch e n,free p.1 p.2 nch e n,ne,nf,d⟩
theorem Inv.un{t':Nat}(I:Inv X pins Y H s)(u:Un X.fs [] H H' s.heap h')(hok:L8 X.prog X.w H' h'):Inv X pins Y H' { s with heap:=h',toks:=t' }:=by
 obtain ⟨m,⟨o,es,ep,ho,r⟩,_⟩:=id I.loc;obtain ⟨sl,hL⟩:=u.any ho I.free (by simp);exact I.step (g':=s.gens) (d':=s.drawn) (ch:=[]) (fun _ z=>nomatch z) (fun b o _ hb _ e n=>u.keep b o e n hb (by simp)) (fun b o _ hb _ e n=>u.slot b o e n hb (by simp)) (fun b o _ e n=>u.free b o e n (by simp)) (fun b o _ e=>u.there b o e (by simp)) u.tups u.frzs u.tbls (fun m' hm=>by
  obtain ⟨o',es',ep',o3,r'⟩:=hm;rw [ho] at o3;cases o3;exact ⟨_,es',ep',hL,r'⟩) hok I.bare
theorem Inv.call{g':Array GenState}{t':Nat}{d':Drawn}{ch:List Addr}(I:Inv X pins Y H s)(u:Un (l9 X.stack) ch H H' s.heap h')(hok:L8 X.prog X.w H' h')(hg:AllBare g')(x6:∀ b∈ch,(b∈X.ex\/X.s₀.heap.objs.size<=b)/\b≠X.env.locals/\(∀ x c,X.env.cells.lookup x=some c->c≠b)/\∀ p∈X.pn++pins,p.1≠b) :
  Inv X pins Y H' { s with heap:=h',gens:=g',drawn:=d',toks:=t' }:=by
 obtain ⟨m,⟨o,es,ep,ho,r⟩,_⟩:=id I.loc;obtain ⟨sl,hL⟩:=u.any ho I.free fun z=>(x6 _ z).2.1 rfl
 exact I.step (ch:=ch) x6 (fun b o hL hb hc e n=>u.keep b o e n (fun z=>(E5.mp (I.stkSub b z)).elim hL hb) hc) (fun b o _ _ hc e n=>u.any e n hc) (fun b o hc e n=>u.free b o e n hc) (fun b o hc e=>u.there b o e hc) u.tups u.frzs u.tbls (fun m' hm=>by
  obtain ⟨o',es',ep',o3,r'⟩:=hm;rw [ho] at o3;cases o3;exact ⟨_,es',ep',hL,r'⟩) hok hg
theorem Inv.turned{t':Nat}{it:Addr}(I:Inv X pins Y H s)(k:∀ b o,b≠it->s.heap.get? b=some o->h'.get? b=some o)(hn:H it=none)(hL:it≠X.env.locals)(h1:it∈X.ex\/X.s₀.heap.objs.size<=it)(h2:∀ x c,X.env.cells.lookup x=some c->c≠it)(h3:∀ p∈X.pn++pins,p.1≠it):Inv X pins Y H { s with heap:=h',toks:=t' }:=by
 have nit:∀ b u,H b=some u->b≠it:=fun b u e z=>by rw [z,hn] at e;cases e
 refine I.step (g':=s.gens) (d':=s.drawn) (ch:=[it]) (fun b hb=>?_) (fun b o _ _ hc e _=>k b o (fun z=>hc (by simp [z])) e) (fun b o _ _ hc e _=>⟨o.slots,k b o (fun z=>hc (by simp [z])) e⟩) (fun _ _ _ _ n=>n)
  (fun b o hc e=>⟨o,k b o (fun z=>hc (by simp [z])) e⟩) (fun _ _ e=>e) (fun _ _ _ e=>e) (fun b ps e=>⟨#[],by rw [e];simp⟩) (fun m hm=>?_) (fun b u e=>?_) I.bare
 .have e:b=it:=by simpa using hb
  subst e;exact ⟨h1,hL,h2,h3⟩
 .obtain ⟨o,es,ep,ho,r⟩:=hm;exact ⟨o,es,ep,k _ o (Ne.symm hL) ho,r⟩
 .refine (I.hok b u e).stay (fun c v hc q=>k c v ?_ q) (fun _ q=>q) fun _ _ q=>q
  rcases hc with z | z
  .rw [z];exact nit b u e
  .exact nit c _ z
theorem Inv.tok(I:Inv X pins Y H s)(t:Nat):Inv X pins Y H { s with toks:=t }:=I.un (h':=s.heap) (t':=t) Un.refl I.hok
theorem Inv.kept{t':Nat}(I:Inv X pins Y H s)(k:∀ b u,s.heap.get? b=some u->h'.get? b=some u):Inv X pins Y H { s with heap:=h',toks:=t' }:=I.un (Un.kept k) (I.hok.kept k)
theorem Inv.laid{a:Addr}{o:HO}{t':Nat}(I:Inv X pins Y H s)(k:∀ b u,s.heap.get? b=some u->h'.get? b=some u)(hp:s.heap.objs.size<=a)(new:ObjOk X.prog X.w (A0 H a o) h' a o) :
  Inv X pins Y (A0 H a o) { s with heap:=h',toks:=t' }:=I.un (Un.laid k hp (I.hok.fresh hp)) (I.hok.laid k hp new)
theorem Inv.write{x e:Addr}{o:HO}{t':Nat}(I:Inv X pins Y H s)(mu:jZ (H x))(he:e=x\/H e=some (.own x))(k:∀ b u,b≠e->s.heap.get? b=some u->h'.get? b=some u)(iM:∃ u,h'.get? e=some u)(new:ObjOk X.prog X.w (A0 H x o) h' x o):Inv X pins Y (A0 H x o) { s with heap:=h',toks:=t' }:=I.un (Un.write mu he k iM) (I.hok.write mu he k iM new)
theorem Inv.pins_of{pins':List (Addr×Obj)}(I:Inv X pins Y H s)(h:∀ p∈pins',s.heap.get? p.1=some p.2/\H p.1=none/\p.1≠X.env.locals/\p.1∉X.fs/\∀ v,p.2.data≠.cell v):Inv X pins' Y H s:=
 ⟨I.ok,I.os,I.bare,I.base,I.loc,I.cell,I.free,I.freeC,fun p hp=>(D3.mp hp).elim (fun z=>I.pin p (N7 _ z)) (h p),I.hok,I.len⟩
theorem zQ{N:List Str}(hN:N.Nodup){i j:Nat}{x:Str}(a:N[i]?=some x)(b:N[j]?=some x):i=j:=by
 obtain ⟨h1,e1⟩:=E9.mp a;obtain ⟨h2,e2⟩:=E9.mp b;exact (List.getElem_inj hN).mp (e1.trans e2.symm)
theorem aiQ{M:Model}{A:Around}{E:Value->Shared->Prop}{i:Nat}{x:Str}{v:V}{u:Value}{Q:Unit->Shared->Prop}(I:Inv X pins Y H s)(hN:X.N.Nodup)(hi:X.N[i]?=some x)(hx:m3 X.env.scope x)(r:RelV v u)(h:∀ s',Inv X pins (Y.set i (some v)) H s'->(∃ a,Heap.SameBut a s.heap s'.heap/\(a=X.env.locals\/X.env.cells.lookup x=some a))->Q () s')(hf:X.fn x=true\/X.env.scope.names.lookup x=some .local:=by first | exact .inl rfl | exact .inr rfl | assumption):wpAny M A (storeName X.env x u) Q E s:=by
 obtain ⟨m,hn,hl⟩:=id I.loc;have wQ:(X.env.scope.kind == .class || (X.env.scope.kind == .module&&X.env.locals != X.env.globals))=false:=by rw [I.ok.kind];rfl
 have hiσ:i<Y.length:=by rw [I.len];exact (E9.mp hi).1
 have cne:=I.cne;have tracked:∀ {a:Addr} {h':Heap},(∃ o,s.heap.get? a=some o/\H a=none)->Heap.SameBut a s.heap h'->L8 X.prog X.w H h':=fun {a h'} ha hs b ob e=>by
  obtain ⟨_,_,cS⟩:=ha;refine (I.hok b ob e).stay (fun c w' hc q=>(hs.2 c ?_).trans q) (fun _ q=>q) fun _ _ q=>q
  rintro rfl
  rcases hc with rfl | hc
  .rw [cS] at e;cases e
  .rw [cS] at hc;cases hc
 rcases hx with hk | hk
 .refine wpAny_storeName_local hk hn (fun h' hn' hs=>?_) wQ;obtain ⟨oL,_,_,hoL,_⟩:=id hn;refine h _ ⟨I.ok,I.os,I.bare,⟨fun b o e n hb hx=>?_,fun b o e n hb hx=>?_,I.base.free,fun b o e hx=>?_,I.base.tups,I.base.frzs,I.base.tbls⟩,⟨_,hn',fun j y v' e1 e2 e3=>?_⟩,fun y c e=>?_,I.free,I.freeC,fun p hp=>?_,tracked ⟨oL,hoL,I.free⟩ hs,by simpa using I.len⟩ ⟨_,hs,.inl rfl⟩
  .exact (hs.2 b (K3 (O2 (Heap.lt_size e) I.ok.above))).trans (I.base.keep b o e n hb hx)
  .obtain ⟨sl,e1⟩:=I.base.slot b o e n hb hx;exact ⟨sl,(hs.2 b (K3 (O2 (Heap.lt_size e) I.ok.above))).trans e1⟩
  .obtain ⟨o',e1⟩:=I.base.there b o e hx;exact ⟨o',(hs.2 b (K3 (O2 (Heap.lt_size e) I.ok.above))).trans e1⟩
  .by_cases hj:j=i
   .subst hj;rw [hi] at e1;cases e1;rw [List.getElem?_set_self hiσ] at e2;cases e2;exact ⟨u,r,.inl ⟨hk,by simp⟩⟩
   .rw [List.getElem?_set_ne (Ne.symm hj)] at e2;obtain ⟨u',r',q⟩:=hl j y v' e1 e2 e3;refine ⟨u',r',?_⟩
    rcases q with ⟨k,e⟩ | ⟨k,c,e,z⟩
    .refine .inl ⟨k,?_⟩
     have:y≠x:=fun e=>hj (zQ hN e1 (e ▸ hi))
     simp [this,e]
    .exact .inr ⟨k,c,e,z.sameBut hs (cne y c e)⟩
  .obtain ⟨w',z⟩:=I.cell y c e;exact ⟨w',z.sameBut hs (cne y c e)⟩
  .obtain ⟨e,n,ne,nf,d⟩:=I.pin p hp;exact ⟨(hs.2 p.1 ne).trans e,n,ne,nf,d⟩
 .have wR:X.fn x=true:=by
   rcases hf with z | z
   .exact z
   .rw [z] at hk;cases hk
  obtain ⟨c,hc⟩:=I.ok.has x (.inl hk);obtain ⟨w',z⟩:=I.cell x c hc;refine wpAny_storeName_cell I.ok.kind hk hc z (fun h' P3 hs=>?_);obtain ⟨oc,wS,wT⟩:=id z;refine h { s with heap:=h' } ⟨I.ok,I.os,I.bare,⟨fun b o e n hb hx=>?_,fun b o e n hb hx=>?_,I.base.free,fun b o e hx=>?_,I.base.tups,I.base.frzs,I.base.tbls⟩,⟨m,hn.sameBut hs (Ne.symm (cne x c hc)),fun j y v' e1 e2 e3=>?_⟩,fun y c' e=>?_,I.free,I.freeC,fun p hp=>?_,tracked ⟨oc,wS,I.freeC x c hc⟩ hs,by simpa using I.len⟩ ⟨c,hs,.inr hc⟩
  .exact (hs.2 b (K3 (O2 (Heap.lt_size e) (I.ok.cab x c wR hc)))).trans (I.base.keep b o e n hb hx)
  .obtain ⟨sl,e1⟩:=I.base.slot b o e n hb hx;exact ⟨sl,(hs.2 b (K3 (O2 (Heap.lt_size e) (I.ok.cab x c wR hc)))).trans e1⟩
  .obtain ⟨o',e1⟩:=I.base.there b o e hx;exact ⟨o',(hs.2 b (K3 (O2 (Heap.lt_size e) (I.ok.cab x c wR hc)))).trans e1⟩
  .by_cases hj:j=i
   .subst hj;rw [hi] at e1;cases e1;rw [List.getElem?_set_self hiσ] at e2;cases e2;exact ⟨u,r,.inr ⟨.inl hk,c,hc,P3⟩⟩
   .rw [List.getElem?_set_ne (Ne.symm hj)] at e2;obtain ⟨u',r',q⟩:=hl j y v' e1 e2 e3;refine ⟨u',r',?_⟩
    rcases q with q | ⟨k,c',e,z'⟩
    .exact .inl q
    .refine .inr ⟨k,c',e,z'.sameBut hs ?_⟩;rintro rfl;exact hj (zQ hN e1 (I.ok.inj _ _ _ e hc ▸ hi))
  .by_cases hcc:c'=c
   .subst hcc;exact ⟨_,P3⟩
   .obtain ⟨w2,z2⟩:=I.cell y c' e;exact ⟨w2,z2.sameBut hs hcc⟩
  .obtain ⟨e,n,ne,nf,d⟩:=I.pin p hp;refine ⟨(hs.2 p.1 ?_).trans e,n,ne,nf,d⟩;intro q;rw [q,wS] at e;have q':oc=p.2:=Option.some.inj e;exact d w' (by rw [<- q'];exact wT)
theorem nV{M:Model}{A:Around}{E:Value->Shared->Prop}{i:Nat}{x:Str}{v:V}{u:Value}{Q:Unit->Shared->Prop}(I:Inv X pins Y H s)(hN:X.N.Nodup)(hi:X.N[i]?=some x)(hx:m3 X.env.scope x)(r:RelV v u)(h:∀ s',Inv X pins (Y.set i (some v)) H s'->Q () s')(hf:X.fn x=true\/X.env.scope.names.lookup x=some .local:=by first | exact .inl rfl | exact .inr rfl | assumption):wpAny M A (storeName X.env x u) Q E s:=
 aiQ I hN hi hx r (fun s' I' _=>h s' I') hf
theorem Inv.call'{s':Shared}{ch:List Addr}(I:Inv X pins Y H s)(ho:s'.os=s.os)(u:Un (l9 X.stack) ch H H' s.heap s'.heap)(hok:L8 X.prog X.w H' s'.heap)(hg:AllBare s'.gens)(x6:∀ b∈ch,(b∈X.ex\/X.s₀.heap.objs.size<=b)/\b≠X.env.locals/\(∀ x c,X.env.cells.lookup x=some c->c≠b)/\∀ p∈X.pn++pins,p.1≠b):Inv X pins Y H' s':=by
 obtain ⟨h',g',d',t',o'⟩:=s';have e:o'=s.os:=ho;subst e;exact I.call (g':=g') (t':=t') (d':=d') u hok hg x6
end
noncomputable abbrev XK:=Value->Option Addr->Hp->Prop
noncomputable abbrev St:=List (Option V)
noncomputable abbrev VK:=V->Hp->Prop
noncomputable abbrev TE:=St->Hp->VK->Prop
noncomputable abbrev TT:=St->Hp->(Bool->Hp->Prop)->Prop
noncomputable abbrev TA:=St->Hp->(List V->Hp->Prop)->Prop
structure Ends where
 nx:St->Hp->Prop
 rt:VK
 bk:St->Hp->Prop:=fun _ _=>False
 ct:St->Hp->Prop:=fun _ _=>False
noncomputable abbrev TS:=Ends->St->Hp->Prop
noncomputable def EP (X:Cx) (pins:List (Addr×Obj)) (Y:St) (Q:VK) (u:Value) (s':Shared):Prop:=∃ v H',Inv X pins Y H' s'/\RelV v u/\Q v H'
noncomputable def TP (X:Cx) (pins:List (Addr×Obj)) (Y:St) (Q:Bool->Hp->Prop) (b:Bool) (s':Shared):Prop:=∃ H',Inv X pins Y H' s'/\Q b H'
noncomputable def AP (X:Cx) (pins:List (Addr×Obj)) (Y:St) (Q:List V->Hp->Prop) (us:List Value) (s':Shared):Prop:=∃ vs H',Inv X pins Y H' s'/\Vals vs us/\Q vs H'
noncomputable def SP (X:Cx) (pins:List (Addr×Obj)) (D:Ends) (f:Flow) (s':Shared):Prop:=
 match f with
 | .next=>∃ σ' H',Inv X pins σ' H' s'/\D.nx σ' H'
 | .brk=>∃ σ' H',Inv X pins σ' H' s'/\D.bk σ' H'
 | .cont=>∃ σ' H',Inv X pins σ' H' s'/\D.ct σ' H'
 | .ret u=>∃ v σ' H',Inv X pins σ' H' s'/\RelV v u/\D.rt v H'
noncomputable def PE (X:Cx) (e:Expr) (t:TE):Prop:=
 ∀ (pins:List (Addr×Obj)) (s:Shared) (Y:St) (H:Hp) (Q:VK),Inv X pins Y H s->t Y H Q->wpAny (model X.prog X.w) X.A (eval e X.env) (EP X pins Y Q) X.xe s
noncomputable def PT (X:Cx) (e:Expr) (t:TT):Prop:=
 ∀ (pins:List (Addr×Obj)) (s:Shared) (Y:St) (H:Hp) (Q:Bool->Hp->Prop),Inv X pins Y H s->t Y H Q->wpAny (model X.prog X.w) X.A (isTrue e X.env (eval e X.env)) (TP X pins Y Q) X.xe s
noncomputable def PW (X:Cx) (e:Expr) (t:TT):Prop:=
 ∀ (whole:Sem Value) (pins:List (Addr×Obj)) (s:Shared) (Y:St) (H:Hp) (Q:Bool->Hp->Prop),Inv X pins Y H s->t Y H Q->wpAny (model X.prog X.w) X.A (isTrue e X.env whole) (TP X pins Y Q) X.xe s
theorem PW.pt{X:Cx}{e:Expr}{t:TT}(h:PW X e t):PT X e t:=h _
noncomputable def PA (X:Cx) (es:List Expr) (t:TA):Prop:=
 ∀ (pos:Pos) (pins:List (Addr×Obj)) (s:Shared) (Y:St) (H:Hp) (Q:List V->Hp->Prop),Inv X pins Y H s->t Y H Q->wpAny (model X.prog X.w) X.A (spliced (backTo pos (starEach es X.env))) (AP X pins Y Q) X.xe s
noncomputable def PS (X:Cx) (st:Stmt) (t:TS):Prop:=
 ∀ (pins:List (Addr×Obj)) (s:Shared) (Y:St) (H:Hp) (D:Ends),Inv X pins Y H s->t D Y H->wpAny (model X.prog X.w) X.A (exec st X.env) (SP X pins D) X.xe s
noncomputable def W1 (X:Cx) (st:List Stmt) (t:TS):Prop:=
 ∀ (pins:List (Addr×Obj)) (s:Shared) (Y:St) (H:Hp) (D:Ends),Inv X pins Y H s->t D Y H->wpAny (model X.prog X.w) X.A (execs st X.env) (SP X pins D) X.xe s
theorem A9{α:Type}{t:Sem α}{Q Q':α->Shared->Prop}{M:Model}{A:Around}{E:Value->Shared->Prop}{s:Shared}(h:wpAny M A t Q E s)(hQ:∀ a s,Q a s->Q' a s):wpAny M A t Q' E s:=wpAny_mono h hQ fun _ _ x=>x
end L2
namespace L2
open PySem PySem.Spec PyProof.Rows
section
variable {X:Cx}
noncomputable def tVar (i:Nat):TE:=fun Y H Q=>∃ v,Y[i]?=some (some v)/\Q v H
noncomputable def tC (v:V):TE:=fun _ H Q=>Q v H
theorem zR{i:Nat}{x:Str}{pos:Pos}(hN:X.N[i]?=some x)(hv:kA X.env.scope x)(hd:(x==("__debug__" : Str))=false:=by decide)(P9:(x==("__classdict__" : Str))=false:=by decide):PE X (.Name x pos) (tVar i):=by
 intro pins s Y H Q I h;obtain ⟨v,e,h⟩:=h;obtain ⟨m,hn,hl⟩:=I.loc;obtain ⟨u,r,l⟩:=hl i x v hN e hv;have fin:EP X pins Y Q u s:=⟨v,H,I,r,h⟩
 rcases l with ⟨hk,hm⟩ | ⟨hk,c,hc,K5⟩
 .exact wpAny_Name (wpAny_loadName_local I.ok.kind hk hn hm fin) hd
 .rcases hk with hk | hk
  .exact wpAny_Name (wpAny_loadName_cell I.ok.kind hk hc K5 fin) hd
  .exact wpAny_Name (wpAny_loadName_free I.ok.kind hk hc K5 fin P9) hd
theorem zS{i j pos} : PE X (.Constant (.int i) j pos) (tC (.int i)):=fun _ _ _ H _ I h=>wpAny_Constant_int ⟨.int i,H,I.tok _,⟨_,rfl⟩,h⟩
theorem pe_bl{b j pos} : PE X (.Constant (.bool b) j pos) (tC (.bl b)):=fun _ _ _ H _ I h=>Constant_bool ⟨.bl b,H,I,rfl,h⟩
theorem aot{j pos} : PE X (.Constant .none j pos) (tC .non):=fun _ _ _ H _ I h=>Constant_none ⟨.non,H,I,rfl,h⟩
theorem aou{x j pos} : PE X (.Constant (.str x) j pos) (tC (.str x)):=fun _ _ _ H _ I h=>Calls.Constant_str ⟨.str x,H,I.tok _,⟨_,rfl⟩,h⟩
noncomputable def Gl (X:Cx) (x:Str):Prop:=X.env.kindOf x=some .globalImplicit
theorem rK{E:Value->Shared->Prop}{pins:List (Addr×Obj)}{s:Shared}{Y:St}{H:Hp}{x:Str}{u:Value}{pos:Pos}{Q:Value->Shared->Prop}(I:Inv X pins Y H s)(hg:Gl X x)(hm:X.mg x=some u)(h:Q u s)(hd:(x==("__debug__" : Str))=false:=by decide):wpAny (model X.prog X.w) X.A (eval (.Name x pos) X.env) Q E s:=
 Calls.Name_function_global I.ok.kind hg (Calls.loadGlobal_global (by rw [I.ok.glob];exact I.mod.glob.keeps I.bk) hm h) hd
theorem aB{E:Value->Shared->Prop}{pins:List (Addr×Obj)}{s:Shared}{Y:St}{H:Hp}{x:Str}{u:Value}{pos:Pos}{Q:Value->Shared->Prop}(I:Inv X pins Y H s)(hg:Gl X x)(hm:X.mg x=none)(hv:bootBuiltins x=some u)(h:Q u s)(hn:x≠"__name__":=by decide)(hd:(x==("__debug__" : Str))=false:=by decide):wpAny (model X.prog X.w) X.A (eval (.Name x pos) X.env) Q E s:=by
 obtain ⟨mb,h1,h2⟩:=I.mod.blt;exact Calls.Name_function_global I.ok.kind hg (Calls.loadGlobal_builtin (by rw [I.ok.glob];exact I.mod.glob.keeps I.bk) hm (by rw [I.ok.blt];exact h1.keeps I.bk) ((h2 x hn).trans hv) h) hd
theorem zT{x:Str}{v:V}{u:Value}{pos:Pos}(hg:Gl X x)(hm:X.mg x=some u)(r:RelV v u)(hd:(x==("__debug__" : Str))=false:=by decide):PE X (.Name x pos) (tC v):=
 fun _ _ _ H _ I h=>rK I hg hm ⟨v,H,I,r,h⟩ hd
theorem amG{x:Str}{v:V}{u:Value}{pos:Pos}(hg:Gl X x)(hm:X.mg x=none)(hv:bootBuiltins x=some u)(r:RelV v u)(hn:x≠"__name__":=by decide)(hd:(x==("__debug__" : Str))=false:=by decide):PE X (.Name x pos) (tC v):=
 fun _ _ _ H _ I h=>aB I hg hm hv ⟨v,H,I,r,h⟩ hn hd
variable {a b:Expr} {ta tb:TE} {pos:Pos}
noncomputable def tB (t:TE):TT:=fun Y H Q=>t Y H fun x H1=>∃ c,x=.bl c/\Q c H1
variable {tA tB':TT} {rest:List Expr}
noncomputable def tAnd (t u:TT):TT:=fun Y H Q=>t Y H fun c H1=>if c=true then u Y H1 Q else Q false H1
noncomputable def rL (t u:TT):TT:=fun Y H Q=>t Y H fun c H1=>if c=true then Q true H1 else u Y H1 Q
noncomputable def tNot (t:TT):TT:=fun Y H Q=>t Y H fun c H1=>Q (!c) H1
theorem amH(ha:PT X a tA):PW X (.BoolOp .And [a] pos) tA:=by
 intro wh pins s Y H Q I h;refine isTrue_and (A9 (ha pins s Y H Q I h) fun c s1 e=>?_)
 cases c with
 | true=>exact isTrue_and_nil e
 | false=>exact e
theorem aov(ha:PT X a tA):PW X (.BoolOp .Or [a] pos) tA:=by
 intro wh pins s Y H Q I h;refine isTrue_or (A9 (ha pins s Y H Q I h) fun c s1 e=>?_)
 cases c with
 | false=>exact isTrue_or_nil e
 | true=>exact e
theorem aow(ha:PT X a tA)(hb:PW X (.BoolOp .And (b::rest) pos) tB'):PW X (.BoolOp .And (a::b::rest) pos) (tAnd tA tB'):=by
 intro wh pins s Y H Q I h;refine isTrue_and (A9 (ha pins s Y H _ I h) fun c s1 ⟨H1,I1,q1⟩=>?_)
 cases c with
 | true=>exact hb wh pins s1 Y H1 Q I1 q1
 | false=>exact ⟨H1,I1,q1⟩
theorem pw_or(ha:PT X a tA)(hb:PW X (.BoolOp .Or (b::rest) pos) tB'):PW X (.BoolOp .Or (a::b::rest) pos) (rL tA tB'):=by
 intro wh pins s Y H Q I h;refine isTrue_or (A9 (ha pins s Y H _ I h) fun c s1 ⟨H1,I1,q1⟩=>?_)
 cases c with
 | true=>exact ⟨H1,I1,q1⟩
 | false=>exact hb wh pins s1 Y H1 Q I1 q1
theorem aox(ha:PT X a tA):PT X (.UnaryOp .Not a pos) (tNot tA):=by
 intro pins s Y H Q I h;exact isTrue_not (ha pins s Y H (fun c H1=>Q (!c) H1) I h)
noncomputable def tAndV (ta tb:TE):TE:=fun Y H Q=>ta Y H fun x H1=>∃ c,x=.bl c/\if c=true then tb Y H1 Q else Q (.bl false) H1
noncomputable def tOrV (ta tb:TE):TE:=fun Y H Q=>ta Y H fun x H1=>∃ c,x=.bl c/\if c=true then Q (.bl true) H1 else tb Y H1 Q
noncomputable def tNotV (ta:TE):TE:=fun Y H Q=>ta Y H fun x H1=>∃ c,x=.bl c/\Q (.bl (!c)) H1
theorem aoy{op}{t:TE}(h:PE X a t):PE X (.BoolOp op [a] pos) t:=fun pins s Y H Q I hw=>BoolOp_one (h pins s Y H Q I hw)
theorem aoz(ha:PE X a ta)(hb:PE X (.BoolOp .And (b::rest) pos) tb):PE X (.BoolOp .And (a::b::rest) pos) (tAndV ta tb):=by
 intro pins s Y H Q I h;refine BoolOp_and (A9 (ha pins s Y H _ I h) fun v s1 ⟨x,H1,I1,r1,q1⟩=>?_);obtain ⟨c,rfl,q1⟩:=q1
 cases r1
 refine wpAny_truthy_bool ?_
 cases c with
 | true=>exact hb pins s1 Y H1 Q I1 q1
 | false=>exact ⟨.bl false,H1,I1,rfl,q1⟩
noncomputable def rM (t:TT) (ta tb:TE):TE:=fun Y H Q=>t Y H fun c H1=>if c=true then ta Y H1 Q else tb Y H1 Q
theorem akE{c:Expr}(hc:PT X c tA)(ha:PE X a ta)(hb:PE X b tb):PE X (.IfExp c a b pos) (rM tA ta tb):=by
 intro pins s Y H Q I h;refine wpAny_IfExp (A9 (hc pins s Y H _ I h) fun d s1 ⟨H1,I1,q1⟩=>?_)
 cases d with
 | true=>exact ha pins s1 Y H1 Q I1 q1
 | false=>exact hb pins s1 Y H1 Q I1 q1
end
end L2
namespace L2
open PySem PySem.Spec PyProof.Rows
noncomputable def C7 (K:PySem.W.Frag) (H:Hp) (a:Addr) (xs:List V):Prop:=
 Rd H a (.lst xs)\/
  ∃ (o:Obj) (its:Array Value) (n:Nat),K.lookup a=some o/\o.cls=.type "list"/\o.dict=none/\o.data=.seq its n/\its.size<=sizeLine/\Vals xs its.toList
noncomputable def C6 (K:PySem.W.Frag) (H:Hp) (a:Addr) (xs:List V):Prop:=
 Rd H a (.tup xs)\/
  ∃ (o:Obj) (its:Array Value) (n:Nat),K.lookup a=some o/\o.cls=.type "tuple"/\o.data=.seq its n/\its.size<=sizeLine/\Vals xs its.toList
noncomputable def absV:Value->Option V
 | .none=>some .non
 | .bool b=>some (.bl b)
 | .int i _=>some (.int i)
 | .str x _=>some (.str x)
 | .bytes b _=>some (.byt b)
 | .float b _=>some (.flt b)
 | .ref a=>some (.ref a)
 | .type n=>some (.ty n)
 | _=>none
theorem RelV.abs{x:V}{u:Value}(r:RelV x u):absV u=some x:=by
 cases x with
 | non=>cases r;rfl
 | bl _=>cases r;rfl
 | int _=>obtain ⟨t,rfl⟩:=r;rfl
 | str _=>obtain ⟨t,rfl⟩:=r;rfl
 | byt _=>obtain ⟨t,rfl⟩:=r;rfl
 | flt _=>obtain ⟨t,rfl⟩:=r;rfl
 | ref _=>cases r;rfl
 | ty _=>cases r;rfl
theorem RelV.inj{x y:V}{u:Value}(r:RelV x u)(q:RelV y u):x=y:=Option.some.inj (r.abs.symm.trans q.abs)
theorem Vals.inj:∀ {xs ys:List V} {us:List Value},Vals xs us->Vals ys us->xs=ys
 | _,_,_,.nil,.nil=>rfl
 | _,_,_,.cons r t,.cons r' t'=>by rw [r.inj r',Vals.inj t t']
section
variable {X:Cx} {pins:List (Addr×Obj)} {Y:St} {H:Hp} {s:Shared} {a:Addr} {xs ys:List V}
theorem C7.of{K:PySem.W.Frag}(h:H a=some (.lst xs)):C7 K H a xs:=.inl (.inl h)
theorem C6.of{K:PySem.W.Frag}(h:H a=some (.tup xs)):C6 K H a xs:=.inl (.inl h)
theorem Inv.list(I:Inv X pins Y H s)(h:C7 X.K H a xs):∃ its:List Value,Vals xs its/\PlainL s.heap a its.toArray/\xs.length<=sizeLine:=by
 rcases h with h | ⟨o,its,n,hk,hc,hd,hs,hz,r⟩
 .obtain ⟨z,its,n,r,e⟩:=h.ok I.hok;exact ⟨its,r,⟨_,n,e,rfl,rfl,rfl⟩,z⟩
 .refine ⟨its.toList,r,⟨o,n,I.kIn a o hk,hc,hd,by simpa using hs⟩,?_⟩;have e:=r.length;simp only [u9] at e;lia
theorem Inv.tuple(I:Inv X pins Y H s)(h:C6 X.K H a xs):∃ its:List Value,Vals xs its/\IsTup s.heap a its.toArray/\xs.length<=sizeLine:=by
 rcases h with h | ⟨o,its,n,hk,hc,hs,hz,r⟩
 .obtain ⟨z,its,r,p⟩:=h.ok I.hok;exact ⟨its,r,p,z⟩
 .refine ⟨its.toList,r,⟨o,I.kIn a o hk,hc,n,by simpa using hs⟩,?_⟩;have e:=r.length;simp only [u9] at e;lia
theorem Inv.list_inj(I:Inv X pins Y H s)(h:C7 X.K H a xs)(h':C7 X.K H a ys):xs=ys:=by
 obtain ⟨its,r,⟨o,n,e,_,_,d⟩,_⟩:=I.list h;obtain ⟨its',r',⟨o',n',e',_,_,d'⟩,_⟩:=I.list h';rw [e] at e';cases e';rw [d] at d'
 injection d' with d1 _
 have:its=its':=by simpa using congrArg Array.toList d1
 subst this;exact r.inj r'
theorem Inv.tuple_inj(I:Inv X pins Y H s)(h:C6 X.K H a xs)(h':C6 X.K H a ys):xs=ys:=by
 obtain ⟨its,r,⟨o,e,_,n,d⟩,_⟩:=I.tuple h;obtain ⟨its',r',⟨o',e',_,n',d'⟩,_⟩:=I.tuple h';rw [e] at e';cases e';rw [d] at d'
 injection d' with d1 _
 have:its=its':=by simpa using congrArg Array.toList d1
 subst this;exact r.inj r'
end
noncomputable abbrev Cx.wish (X:Cx) (E:Value->Shared->Prop):Cx:={ X with xe:=E }
noncomputable abbrev Cx.nox (X:Cx):Cx:=X.wish fun _ _=>False
theorem Cx.Ok.wish{X:Cx}(ok:X.Ok)(E:Value->Shared->Prop):(X.wish E).Ok:=
 ⟨ok.mod,ok.kind,ok.glob,ok.blt,ok.above,ok.inj,ok.has,ok.cab,ok.hd,ok.frames,ok.stk,ok.exf,ok.bs,ok.bsz,ok.noex,ok.exfs,ok.funs,ok.frf⟩
theorem Cx.Ok.unwish{X:Cx}{E:Value->Shared->Prop}(ok:(X.wish E).Ok):X.Ok:=
 ⟨ok.mod,ok.kind,ok.glob,ok.blt,ok.above,ok.inj,ok.has,ok.cab,ok.hd,ok.frames,ok.stk,ok.exf,ok.bs,ok.bsz,ok.noex,ok.exfs,ok.funs,ok.frf⟩
section
variable {X:Cx} {pins:List (Addr×Obj)} {Y:St} {H:Hp} {s:Shared} {E:Value->Shared->Prop}
theorem Inv.wish(I:Inv X pins Y H s)(E:Value->Shared->Prop):Inv (X.wish E) pins Y H s:=⟨I.ok.wish E,I.os,I.bare,I.base,I.loc,I.cell,I.free,I.freeC,I.pin,I.hok,I.len⟩
theorem Inv.unwish(I:Inv (X.wish E) pins Y H s):Inv X pins Y H s:=⟨I.ok.unwish,I.os,I.bare,I.base,I.loc,I.cell,I.free,I.freeC,I.pin,I.hok,I.len⟩
theorem SP.unwish{D:Ends}{f:Flow}{s':Shared}(h:SP (X.wish E) pins D f s'):SP X pins D f s':=by
 cases f with
 | next=>obtain ⟨σ',H',I,q⟩:=h;exact ⟨σ',H',I.unwish,q⟩
 | brk=>obtain ⟨σ',H',I,q⟩:=h;exact ⟨σ',H',I.unwish,q⟩
 | cont=>obtain ⟨σ',H',I,q⟩:=h;exact ⟨σ',H',I.unwish,q⟩
 | ret u=>obtain ⟨v,σ',H',I,r,q⟩:=h;exact ⟨v,σ',H',I.unwish,r,q⟩
theorem W1.nox{st:List Stmt}{t:TS}(h:W1 X.nox st t):W1 X st t:=fun pins s Y H D I hw=>
 wpAny_mono (h pins s Y H D (I.wish _) hw) (fun _ _ q=>q.unwish) fun _ _ z=>False.elim z
end
section
variable {X:Cx} {st:Stmt} {rest:List Stmt} {t u:TS} {e:Expr} {te:TE} {pos:Pos}
noncomputable def tNext:TS:=fun D Y H=>D.nx Y H
noncomputable def tSeq (t u:TS):TS:=fun D Y H=>t { D with nx:=u D } Y H
theorem amI:W1 X [] tNext:=fun _ _ Y H _ I h=>wpAny_execs_nil ⟨Y,H,I,h⟩
theorem akF(h1:PS X st t)(h2:W1 X rest u):W1 X (st::rest) (tSeq t u):=by
 intro pins s Y H D I h;refine wpAny_execs_cons (A9 (h1 pins s Y H { D with nx:=u D } I h) fun f s1 q=>?_)
 cases f with
 | next=>
  obtain ⟨σ',H',I',q⟩:=q;exact h2 pins s1 σ' H' D I' q
 | ret v=>exact q
 | brk=>exact q
 | cont=>exact q
theorem amJ(h1:PS X st t):W1 X [st] t:=by
 intro pins s Y H D I h;refine wpAny_execs_cons (A9 (h1 pins s Y H D I h) fun f s1 q=>?_)
 cases f with
 | next=>exact wpAny_execs_nil q
 | ret v=>exact q
 | brk=>exact q
 | cont=>exact q
noncomputable def aoA:TS:=fun D Y H=>D.bk Y H
noncomputable def tCont:TS:=fun D Y H=>D.ct Y H
theorem Inv.quiet{pins:List (Addr×Obj)}{Y:St}{H:Hp}{s:Shared}(I:Inv X pins Y H s):interactive X.env=false:=by simp [interactive,I.ok.kind]
noncomputable def tDrop (te:TE):TS:=fun D Y H=>te Y H fun _ H1=>D.nx Y H1
theorem amK(he:PE X e te)(hs:swapsWith e none pos.line X.env=pure false:=by rfl):PS X (.Expr e pos) (tDrop te):=by
 intro pins s Y H D I h;exact wpAny_Expr_any (A9 (he pins s Y H _ I h) fun v s1 ⟨x,H1,I1,r1,q1⟩=>⟨Y,H1,I1,q1⟩) I.quiet hs
noncomputable def tRet (te:TE):TS:=fun D Y H=>te Y H D.rt
theorem aoB(he:PE X e te):PS X (.Return (some e) pos) (tRet te):=by
 intro pins s Y H D I h;exact wpAny_Return_some (A9 (he pins s Y H _ I h) fun v s1 ⟨x,H1,I1,r1,q1⟩=>⟨x,Y,H1,I1,r1,q1⟩)
noncomputable def tRetN:TS:=fun D _ H=>D.rt .non H
noncomputable def tIfS (c:TT) (t u:TS):TS:=fun D Y H=>c Y H fun b H1=>if b=true then t D Y H1 else u D Y H1
theorem ps_if{c:Expr}{a b:List Stmt}{tc:TT}(hc:PT X c tc)(ha:W1 X a t)(hb:W1 X b u):PS X (.If c a b pos) (tIfS tc t u):=by
 intro pins s Y H D I h;refine wpAny_If (A9 (hc pins s Y H _ I h) fun d s1 ⟨H1,I1,q1⟩=>?_)
 cases d with
 | true=>exact ha pins s1 Y H1 D I1 q1
 | false=>exact hb pins s1 Y H1 D I1 q1
noncomputable def rN:TS:=fun _ _ _=>False
theorem akG:PS X st rN:=fun _ _ _ _ _ _ h=>h.elim
end
noncomputable abbrev TG:=V->St->Hp->(St->Hp->Prop)->Prop
noncomputable abbrev i4:=List V->St->Hp->(St->Hp->Prop)->Prop
noncomputable def PG (X:Cx) (target:Expr) (t:TG):Prop:=
 ∀ (pins:List (Addr×Obj)) (s:Shared) (Y:St) (H:Hp) (v:V) (u:Value) (Q:St->Hp->Prop),Inv X pins Y H s->RelV v u->t v Y H Q->
  wpAny (model X.prog X.w) X.A (assign target X.env u) (fun _ s'=>∃ σ' H',Inv X pins σ' H' s'/\Q σ' H') X.xe s
noncomputable def kB (X:Cx) (ts:List Expr) (t:i4):Prop:=
 ∀ (pins:List (Addr×Obj)) (s:Shared) (Y:St) (H:Hp) (vs:List V) (us:List Value) (Q:St->Hp->Prop),Inv X pins Y H s->Vals vs us->t vs Y H Q->
  wpAny (model X.prog X.w) X.A (assignInOrder ((assignEach ts X.env).map (·.2)) us) (fun _ s'=>∃ σ' H',Inv X pins σ' H' s'/\Q σ' H') X.xe s
noncomputable abbrev TSet:=V->V->V->Hp->(Hp->Prop)->Prop
noncomputable def PSet (X:Cx) (t:TSet):Prop:=
 ∀ (pins:List (Addr×Obj)) (s:Shared) (Y:St) (H:Hp) (o i v:V) (ov iv u:Value) (Q:Hp->Prop),Inv X pins Y H s->RelV o ov->RelV i iv->RelV v u->t o i v H Q->
  wpAny (model X.prog X.w) X.A (setItem ov iv u) (fun _ s'=>∃ H',Inv X pins Y H' s'/\Q H') X.xe s
noncomputable abbrev dX:=V->V->Hp->VK->Prop
noncomputable def rO (X:Cx) (op:Operator) (t:dX):Prop:=
 ∀ (pins:List (Addr×Obj)) (s:Shared) (Y:St) (H:Hp) (x y:V) (v u:Value) (Q:VK),Inv X pins Y H s->RelV x v->RelV y u->t x y H Q->
  wpAny (model X.prog X.w) X.A (inplaceOp op v u) (EP X pins Y Q) X.xe s
section
variable {X:Cx} {pos:Pos}
noncomputable def gName (i:Nat):TG:=fun v Y H Q=>Q (Y.set i (some v)) H
theorem amL{i:Nat}{x:Str}(hN:X.N.Nodup)(hi:X.N[i]?=some x)(hx:m3 X.env.scope x)(hf:X.fn x=true\/X.env.scope.names.lookup x=some .local:=by first | exact .inl rfl | exact .inr rfl | assumption):PG X (.Name x pos) (gName i):=by
 intro pins s Y H v u Q I r h;exact wpAny_assign_Name (nV I hN hi hx r (fun s' I'=>⟨_,H,I',h⟩) hf)
noncomputable def gNil:i4:=fun vs Y H Q=>vs=[]/\Q Y H
noncomputable def gCons (t:TG) (u:i4):i4:=fun vs Y H Q=>∃ v r,vs=v::r/\t v Y H fun σ' H'=>u r σ' H' Q
theorem amM:kB X [] gNil:=by
 intro pins s Y H vs us Q I r h;obtain ⟨e,h⟩:=h;subst e
 cases r
 exact assignInOrder_nil ⟨Y,H,I,h⟩
theorem akH{e:Expr}{es:List Expr}{t:TG}{u:i4}(h1:PG X e t)(h2:kB X es u)(hs:(assignEach (e::es) X.env).map (·.2)=assign e X.env::(assignEach es X.env).map (·.2):=by rfl):kB X (e::es) (gCons t u):=by
 intro pins s Y H vs us Q I r h;obtain ⟨v,vr,e1,h⟩:=h;subst e1
 cases r with
 | cons r rr=>
  rw [hs];refine assignInOrder_cons (A9 (h1 pins s Y H _ _ _ I r h) fun _ s1 ⟨σ1,H1,I1,q1⟩=>?_);exact h2 pins s1 σ1 H1 _ _ Q I1 rr q1
noncomputable def gTup (K:PySem.W.Frag) (n:Nat) (t:i4):TG:=fun v Y H Q=>∃ a xs,v=.ref a/\C6 K H a xs/\xs.length=n/\t xs Y H Q
theorem aoC{es:List Expr}{k:Nat}{t:i4}{n:Nat}(hc:X.calm=true)(h:kB X es t)(hn:(assignEach es X.env).length=n:=by rfl)(X6:(assignEach es X.env).findIdx? (·.1)=none:=by rfl):PG X (.Tuple es k pos) (gTup X.K n t):=by
 intro pins s Y H v u Q I r hw;obtain ⟨a,xs,e1,hq,hl,hw⟩:=hw;subst e1
 cases r
 obtain ⟨its,rv,ht,hz⟩:=I.tuple hq;refine assign_Tuple_tuple (I.ok.hd hc) ht (by simp [hn,<- hl,rv.length]) X6 fun h' hx=>?_
 have I1:Inv X pins Y H { s with heap:=h' }:=I.kept (t':=s.toks) fun b o e=>hx b o (K3 (Heap.lt_size e)) e
 exact h pins _ Y H xs _ Q I1 (by simpa using rv) hw
noncomputable def gSub (to ti:TE) (t:TSet):TG:=fun v Y H Q=>to Y H fun o H1=>ti Y H1 fun i H2=>t o i v H2 fun H3=>Q Y H3
theorem aoD{o i:Expr}{to ti:TE}{t:TSet}(ho:PE X o to)(hi:PE X i ti)(hs:PSet X t)(ha:∀ v,assign (.Subscript o i pos) X.env v=(do
   let ov <- holding [v] (eval o X.env)
   let iv <- holding [v,ov] (eval i X.env)
   standAt pos
   holding [v,ov,iv] (setItem ov iv v)
   release [v,ov,iv] []):=by intro _;rfl):PG X (.Subscript o i pos) (gSub to ti t):=by
 intro pins s Y H v u Q I r h;rw [ha];refine wpAny_bind (wpAny_holding (A9 (ho pins s Y H _ I h) fun ov s1 ⟨x,H1,I1,r1,q1⟩=>?_));refine wpAny_bind (wpAny_holding (A9 (hi pins s1 Y H1 _ I1 q1) fun iv s2 ⟨y,H2,I2,r2,q2⟩=>?_));refine wpAny_bind (wpAny_standAt (wpAny_bind (wpAny_holding (A9 (hs pins s2 Y H2 x y v ov iv u _ I2 r1 r2 r q2) fun _ s3 ⟨H3,I3,q3⟩=>?_))));exact wpAny_release ⟨Y,H3,I3,q3⟩
noncomputable def tAsg (te:TE) (g:TG):TS:=fun D Y H=>te Y H fun x H1=>g x Y H1 D.nx
theorem aoE{tg e:Expr}{te:TE}{g:TG}(he:PE X e te)(hg:PG X tg g)(hs:swapsWithSole [tg] e pos.line X.env=pure false:=by rfl)(hw:swappedStores [tg] e X.env=pure none:=by rfl)(h1:(assignEach [tg] X.env).map (·.2)=[assign tg X.env]:=by rfl):PS X (.Assign [tg] e pos) (tAsg te g):=by
 intro pins s Y H D I h;refine wpAny_Assign_stores (A9 (he pins s Y H _ I h) fun v s1 ⟨x,H1,I1,r1,q1⟩=>?_) hs hw;rw [h1];exact A9 (hg pins s1 Y H1 x v _ I1 r1 q1) fun _ s2 q=>q
theorem aoF{i:Nat}{x:Str}{e:Expr}{te:TE}{pos':Pos}(hN:X.N.Nodup)(hi:X.N[i]?=some x)(hx:m3 X.env.scope x)(he:PE X e te)(hs:swapsWith e (some (.Name x pos')) pos.line X.env=pure false:=by rfl)(hf:X.fn x=true\/X.env.scope.names.lookup x=some .local:=by first | exact .inl rfl | exact .inr rfl | assumption) :
  PS X (.Assign [.Name x pos'] e pos) (tAsg te (gName i)):=by
 intro pins s Y H D I h;refine wpAny_Assign_Name (A9 (he pins s Y H _ I h) fun v s1 ⟨y,H1,I1,r1,q1⟩=>?_) hs;exact nV I1 hN hi hx r1 (fun s2 I2=>⟨_,H1,I2,q1⟩) hf
noncomputable def tAug (i:Nat) (te:TE) (ti:dX):TS:=fun D Y H=>∃ x,Y[i]?=some (some x)/\te Y H fun y H1=>ti x y H1 fun z H2=>D.nx (Y.set i (some z)) H2
theorem aoG{i:Nat}{x:Str}{e:Expr}{te:TE}{op:Operator}{ti:dX}{pos':Pos}(hN:X.N.Nodup)(hi:X.N[i]?=some x)(hx:m3 X.env.scope x)(he:PE X e te)(ho:rO X op ti)(hf:X.fn x=true\/X.env.scope.names.lookup x=some .local:=by first | exact .inl rfl | exact .inr rfl | assumption) :
  PS X (.AugAssign (.Name x pos') op e pos) (tAug i te ti):=by
 intro pins s Y H D I h;obtain ⟨v,e1,h⟩:=h;obtain ⟨m,hn,hl⟩:=I.loc;have vis:kA X.env.scope x:=by rcases hx with k | k;exact .inl k;exact .inr (.inl k)
 obtain ⟨u,r,l⟩:=hl i x v hi e1 vis;refine wpAny_AugAssign_Name ?_;have go:wpAny (model X.prog X.w) X.A (eval e X.env) (fun w zx=>wpAny (model X.prog X.w) X.A (inplaceOp op u w) (fun r zw=>wpAny (model X.prog X.w) X.A (storeName X.env x r) (fun _=>SP X pins D .next) X.xe zw) X.xe zx) X.xe s:=by
  refine A9 (he pins s Y H _ I h) fun w s1 ⟨y,H1,I1,r1,q1⟩=>?_
  refine A9 (ho pins s1 Y H1 v y u w _ I1 r r1 q1) fun z s2 ⟨zv,H2,I2,r2,q2⟩=>?_
  exact nV I2 hN hi hx r2 (fun s3 I3=>⟨_,H2,I3,q2⟩) hf
 rcases l with ⟨hk,hm⟩ | ⟨hk,c,hc,K5⟩
 .exact wpAny_loadName_local I.ok.kind hk hn hm go
 .rcases hk with hk | hk
  .exact wpAny_loadName_cell I.ok.kind hk hc K5 go
  .rcases hx with k | k
   .have:X.env.scope.names.lookup x=some .free:=hk
    rw [k] at this;cases this
   .have:X.env.scope.names.lookup x=some .free:=hk
    rw [k] at this;cases this
noncomputable def rP (f:Int->Int->Int):dX:=fun x y H Q=>∃ i j,x=.int i/\y=.int j/\Q (.int (f i j)) H
theorem aoH:rO X .Add (rP fun i j=>i+j):=by
 intro pins s Y H x y v u Q I r1 r2 h;obtain ⟨i,j,e1,e2,q⟩:=h;subst e1;subst e2;obtain ⟨t,rfl⟩:=r1;obtain ⟨t',rfl⟩:=r2;exact iadd_int ⟨.int _,H,I.tok _,⟨_,rfl⟩,q⟩
end
section
variable {X:Cx} {pos:Pos}
noncomputable def nW (c:TT) (tb:TS):TS:=fun D Y H=>∃ W:Nat->St->Hp->Prop,(∃ m,W m Y H)/\∀ m Y H,W m Y H->
 c Y H fun b H1=>if b=true then ∃ N:St->Hp->Prop,(∀ σ' H',N σ' H'->∃ m',m'<m/\W m' σ' H')/\tb { D with nx:=N,ct:=N,bk:=D.nx } Y H1 else D.nx Y H1
theorem akI{c:Expr}{body:List Stmt}{tc:TT}{tb:TS}(hp:PassesOwn (model X.prog X.w) X.A X.env X.xe)(hc:PT X c tc)(hb:W1 X body tb):PS X (.While c body [] pos) (nW tc tb):=by
 intro pins s Y H D I h;obtain ⟨W,⟨m0,w0⟩,turn⟩:=h;refine wpAny_While (codeAny_whileLoop (fun n s'=>∃ σ' H',Inv X pins σ' H' s'/\W n σ' H') ?_ m0 ⟨Y,H,I,w0⟩);rintro n s1 ⟨σ1,H1,I1,w1⟩;refine wpAny_passesOwn hp (A9 (hc pins s1 σ1 H1 _ I1 (turn n σ1 H1 w1)) fun b s2 ⟨H2,I2,q2⟩=>?_)
 cases b with
 | true=>
  obtain ⟨N,hN,q2⟩:=q2;rw [if_pos rfl];refine wpAny_passesOwn hp (A9 (hb pins s2 σ1 H2 _ I2 q2) fun f s3 q3=>?_)
  cases f with
  | next=>
   obtain ⟨σ3,H3,I3,n3⟩:=q3;obtain ⟨m',hm,w3⟩:=hN σ3 H3 n3;exact ⟨m',hm,σ3,H3,I3,w3⟩
  | cont=>
   obtain ⟨σ3,H3,I3,n3⟩:=q3;obtain ⟨m',hm,w3⟩:=hN σ3 H3 n3;exact ⟨m',hm,σ3,H3,I3,w3⟩
  | brk=>exact q3
  | ret v=>exact q3
 | false=>
  rw [if_neg L5];exact wpAny_execs_nil ⟨σ1,H2,I2,q2⟩
end
structure It where
 go:Nat->Hp->Prop
 yld:Nat->Hp->V->Hp->Prop
 stop:Nat->Hp->Prop
noncomputable def FpOk (X:Cx) (pins:List (Addr×Obj)) (H:Hp) (b:Addr):Prop:=
 H b=none/\b≠X.env.locals/\b∉X.fs/\(b∈X.ex\/X.s₀.heap.objs.size<=b)/\(∀ x c,X.env.cells.lookup x=some c->c≠b)/\∀ p∈X.pn++pins,p.1≠b
theorem Inv.fpOk{X:Cx}{pins:List (Addr×Obj)}{Y:St}{H H':Hp}{s:Shared}{b:Addr}(I:Inv X pins Y H s)(hb:s.heap.objs.size<=b)(hn:H' b=none):FpOk X pins H' b:=by
 refine ⟨hn,i0 (O2 I.lt hb),I.nofs hb,.inr (L4 I.sz hb),fun x c e z=>?_,fun p hp z=>?_⟩
 .obtain ⟨v,q⟩:=I.cell x c e;exact absurd (O2 q.lt (by rw [z];exact hb)) (l7 _)
 .exact absurd (O2 (Heap.lt_size (I.pin p hp).1) (by rw [z];exact hb)) (l7 _)
structure Turn(P:Program)(w:World)(K:PySem.W.Frag)(tg:Expr)(J:It)(fp:List Addr)(it:Addr)(tn:Nat->Heap->Prop):Prop where
 mem:it∈fp
 obj:∀ i h,tn i h->∀ b∈fp,∃ o,h.get? b=some o/\∀ v,o.data≠.cell v
 keep:∀ i h h',tn i h->(∀ b∈fp,∀ o,h.get? b=some o->h'.get? b=some o)->tn i h'
 item:∀ (X:Cx),X.prog=P->X.w=w->X.K=K->X.calm=true->∀ (i:Nat) (pins:List (Addr×Obj)) (s:Shared) (Y:St) (H:Hp) (E:Value->Shared->Prop),Inv X pins Y H s->(∀ b∈fp,FpOk X pins H b)->tn i s.heap->J.go i H->
  wpAny (model P w) X.A (pyNext (.ref it)) (fun r s1=>∃ u,r=some u/\
   wpAny (model P w) X.A (letOwnedTupleGo tg (.ref it) u) (fun _ s2=>∃ x H',Inv X pins Y H' s2/\RelV x u/\J.yld i H x H'/\tn (i+1) s2.heap/\∀ b∈fp,H' b=none) E s1) E s
 done:∀ (X:Cx),X.prog=P->X.w=w->X.K=K->X.calm=true->∀ (i:Nat) (pins:List (Addr×Obj)) (s:Shared) (Y:St) (H:Hp) (E:Value->Shared->Prop),Inv X pins Y H s->(∀ b∈fp,FpOk X pins H b)->tn i s.heap->J.stop i H->
  wpAny (model P w) X.A (pyNext (.ref it)) (fun r s1=>r=none/\Inv X pins Y H s1) E s
 self:∀ (A:Around) (i:Nat) (s:Shared) (Q:Value->Shared->Prop) (E:Value->Shared->Prop),tn i s.heap->Q (.ref it) s->wpAny (model P w) A (pyIter (.ref it)) Q E s
noncomputable abbrev TI:=St->Hp->(It->Hp->Prop)->Prop
noncomputable def rQ (X:Cx) (pins:List (Addr×Obj)) (Y:St) (tg:Expr) (R:It->Hp->Prop) (itv:Value) (s2:Shared):Prop:=
 ∃ (it:Addr) (fp:List Addr) (tn:Nat->Heap->Prop) (J:It) (H':Hp),itv=.ref it/\Inv X pins Y H' s2/\Turn X.prog X.w X.K tg J fp it tn/\tn 0 s2.heap/\(∀ b∈fp,FpOk X pins H' b)/\R J H'
noncomputable def PI (X:Cx) (tg iter:Expr) (wi:TI):Prop:=
 ∀ (pins:List (Addr×Obj)) (s:Shared) (Y:St) (H:Hp) (R:It->Hp->Prop),Inv X pins Y H s->wi Y H R->
  wpAny (model X.prog X.w) X.A (eval iter X.env) (fun v s1=>wpAny (model X.prog X.w) X.A (pyIter v) (rQ X pins Y tg R) X.xe s1) X.xe s
theorem go_of{M : Model}{A : Around}{E : Value -> Shared -> Prop}{s : Shared}{tg : Expr}{it : Addr}{u : Value}{o : Obj}{n : String}{vs : Array Value}{Q : Unit -> Shared -> Prop}(ho : s.heap.get? it = some o)(hc : o.cls = .type n)(hd : o.data = .fields vs)(hn : ["enumerate", "zip", "dict_itemiterator", "dict_reverseitemiterator", "odict_iterator", "itertools.zip_longest", "itertools.pairwise"].contains n = false)(hQ : Q () s) : wpAny M A (letOwnedTupleGo tg (.ref it) u) Q E s := by
  unfold letOwnedTupleGo
  cases tg <;> first
    | exact wpAny_pure hQ
    | (cases u <;> first
        | exact wpAny_pure hQ
        | (refine wpAny_bind (wpAny_load ho ?_)
           rw [hc, hd];show wpAny M A (if (["enumerate", "zip", "dict_itemiterator", "dict_reverseitemiterator", "odict_iterator", "itertools.zip_longest", "itertools.pairwise"].contains n&&vs[0]? == some (rawInt _)) = true then _ else _) Q E s;rw [if_neg (by intro h; rw [hn, Bool.false_and] at h; cases h)];exact wpAny_pure hQ))
noncomputable def v4 (K:PySem.W.Frag) (a:Addr):It:=
 ⟨fun i H=>∃ xs x,C7 K H a xs/\xs[i]?=some x,fun i H x H'=>H'=H/\∀ xs,C7 K H a xs->xs[i]?=some x,fun i H=>∃ xs,C7 K H a xs/\xs.length<=i⟩
noncomputable def bV (K:PySem.W.Frag) (a:Addr):It:=
 ⟨fun i H=>∃ xs x,C6 K H a xs/\xs[i]?=some x,fun i H x H'=>H'=H/\∀ xs,C6 K H a xs->xs[i]?=some x,fun i H=>∃ xs,C6 K H a xs/\xs.length<=i⟩
noncomputable def i5 (lo:Int) (n:Nat):It:=⟨fun i _=>i<n,fun i H x H'=>H'=H/\x=.int (lo+i),fun i _=>n<=i⟩
theorem aiT{P:Program}{w:World}{K:PySem.W.Frag}{tg:Expr}(a it:Addr):Turn P w K tg (v4 K a) [it] it (fun i h=>h.IsListIter it a i) where
 mem:=by simp
 obj:=fun i h st b hb=>by
  have e:b=it:=by simpa using hb
  subst e;obtain ⟨o,e,c,d⟩:=st;exact ⟨o,e,fun v z=>by rw [d] at z;cases z⟩
 keep:=fun i h h' st k=>st.at fun o e=>k it (by simp) o e
 item:=by
  intro X hP hw hK hc i pins s Y H E I hf st hg;subst hP hw hK;obtain ⟨xs,x,hq,hx⟩:=hg;obtain ⟨its,rv,p,hz⟩:=I.list hq;obtain ⟨u,hu,ru⟩:=rv.get hx;obtain ⟨f0,f1,f2,f3,f4,f5⟩:=hf it (by simp);refine wpAny_pyNext_list_item st p.isList (x:=u) (by simpa using hu) fun h' st' sb=>?_
  have I1:Inv X pins Y H { s with heap:=h' }:=I.turned (t':=s.toks) (fun b o hb e=>(sb.2 b hb).trans e) f0 f1 f3 f4 f5;obtain ⟨o,e,c,d⟩:=id st';exact ⟨u,rfl,go_of (s:={ s with heap:=h' }) e c d (by decide) ⟨x,H,I1,ru,⟨rfl,fun ys hy=>by rw [I.list_inj hy hq];exact hx⟩,st',fun b hb=>(hf b hb).1⟩⟩
 done:=by
  intro X hP hw hK hc i pins s Y H E I hf st hg;subst hP hw hK;obtain ⟨xs,hq,hx⟩:=hg;obtain ⟨its,rv,p,hz⟩:=I.list hq;obtain ⟨f0,f1,f2,f3,f4,f5⟩:=hf it (by simp);have hl:=rv.length;exact wpAny_pyNext_list_end (I.ok.hd hc) st p.isList (by simp;lia) fun h' eb=>⟨rfl,I.turned (t':=s.toks) (fun b o hb e=>eb b o hb e) f0 f1 f3 f4 f5⟩
 self:=fun _ _ _ _ _ st h=>wpAny_pyIter_listiter st h
theorem ah7{P:Program}{w:World}{K:PySem.W.Frag}{tg:Expr}(a it:Addr):Turn P w K tg (bV K a) [it] it (fun i h=>h.IsTupleIter it a i) where
 mem:=by simp
 obj:=fun i h st b hb=>by
  have e:b=it:=by simpa using hb
  subst e;obtain ⟨o,e,c,d⟩:=st;exact ⟨o,e,fun v z=>by rw [d] at z;cases z⟩
 keep:=fun i h h' st k=>st.at fun o e=>k it (by simp) o e
 item:=by
  intro X hP hw hK hc i pins s Y H E I hf st hg;subst hP hw hK;obtain ⟨xs,x,hq,hx⟩:=hg;obtain ⟨its,rv,p,hz⟩:=I.tuple hq;obtain ⟨u,hu,ru⟩:=rv.get hx;obtain ⟨f0,f1,f2,f3,f4,f5⟩:=hf it (by simp);refine wpAny_pyNext_tuple_item st (show s.heap.IsTuple a its.toArray from p) (x:=u) (by simpa using hu) fun h' st' sb=>?_
  have I1:Inv X pins Y H { s with heap:=h' }:=I.turned (t':=s.toks) (fun b o hb e=>(sb.2 b hb).trans e) f0 f1 f3 f4 f5;obtain ⟨o,e,c,d⟩:=id st';exact ⟨u,rfl,go_of (s:={ s with heap:=h' }) e c d (by decide) ⟨x,H,I1,ru,⟨rfl,fun ys hy=>by rw [I.tuple_inj hy hq];exact hx⟩,st',fun b hb=>(hf b hb).1⟩⟩
 done:=by
  intro X hP hw hK hc i pins s Y H E I hf st hg;subst hP hw hK;obtain ⟨xs,hq,hx⟩:=hg;obtain ⟨its,rv,p,hz⟩:=I.tuple hq;obtain ⟨f0,f1,f2,f3,f4,f5⟩:=hf it (by simp);have hl:=rv.length;exact wpAny_pyNext_tuple_end (I.ok.hd hc) st (show s.heap.IsTuple a its.toArray from p) (by simp;lia) fun h' eb=>⟨rfl,I.turned (t':=s.toks) (fun b o hb e=>eb b o hb e) f0 f1 f3 f4 f5⟩
 self:=fun _ _ _ _ _ st h=>wpAny_pyIter_tupleiter st h
theorem ah8{P:Program}{w:World}{K:PySem.W.Frag}{tg:Expr}(it:Addr)(lo:Int)(n:Nat):Turn P w K tg (i5 lo n) [it] it (fun i h=>IsRangeIter h it (lo+(i:Nat)*1) ((n:Int)-(i:Nat)) 1) where
 mem:=by simp
 obj:=fun i h st b hb=>by
  have e:b=it:=by simpa using hb
  subst e;exact ⟨_,st,fun v z=>by
   have z':Data.fields _=Data.cell v:=z
   cases z'⟩
 keep:=fun i h h' st k=>k it (by simp) _ st
 item:=by
  intro X hP hw hK hc i pins s Y H E I hf st hg;subst hP hw hK;obtain ⟨f0,f1,f2,f3,f4,f5⟩:=hf it (by simp);have W:=Walks.range (prog:=X.prog) (w:=X.w) (I.ok.hd hc) it lo 1 n;refine W.item i s _ _ hg st fun v h' tk hv st' kk=>?_
  obtain ⟨t,rfl⟩:=hv;have I1:Inv X pins Y H { s with heap:=h',toks:=tk }:=I.turned (fun b o hb e=>kk b o (by simpa using hb) e) f0 f1 f3 f4 f5;refine ⟨_,rfl,go_of (s:={ s with heap:=h',toks:=tk }) (n:="range_iterator") st' rfl rfl (by decide) ⟨.int (lo+i),H,I1,⟨t,?_⟩,⟨rfl,rfl⟩,st',fun b hb=>(hf b hb).1⟩⟩;rw [Int.mul_one]
 done:=by
  intro X hP hw hK hc i pins s Y H E I hf st hg;subst hP hw hK;obtain ⟨f0,f1,f2,f3,f4,f5⟩:=hf it (by simp);exact wpAny_pyNext_range_end (I.ok.hd hc) st (by have:n<=i:=hg;lia) fun h' eb=>⟨rfl,I.turned (t':=s.toks) (fun b o hb e=>eb b o hb e) f0 f1 f3 f4 f5⟩
 self:=fun _ _ _ _ _ st h=>wpAny_pyIter_rangeiter st h
end L2
namespace L2
open PySem PySem.Spec PyProof.Rows
section
variable {X:Cx} {tg:Expr}
noncomputable def iList (K:PySem.W.Frag) (tl:TE):TI:=fun Y H R=>tl Y H fun x H1=>∃ a,x=.ref a/\(∃ xs,C7 K H1 a xs)/\R (v4 K a) H1
noncomputable def iTup (K:PySem.W.Frag) (tl:TE):TI:=fun Y H R=>tl Y H fun x H1=>∃ a,x=.ref a/\(∃ xs,C6 K H1 a xs)/\R (bV K a) H1
theorem amN{l:Expr}{tl:TE}(hl:PE X l tl):PI X tg l (iList X.K tl):=by
 intro pins s Y H R I h;refine A9 (hl pins s Y H _ I h) fun v s1 ⟨x,H1,I1,r1,q1⟩=>?_
 obtain ⟨a,e,⟨xs,hq⟩,q⟩:=q1;subst e
 cases r1
 obtain ⟨its,rv,p,hz⟩:=I1.list hq;refine wpAny_pyIter_list p.isList ?_;refine ⟨s1.heap.objs.size,[s1.heap.objs.size],_,_,H1,rfl,I1.kept (t':=s1.toks) fun b o e=>Heap.get?_push_of_some _ e,aiT a _,⟨_,Heap.get?_push_size _ rfl,rfl,rfl⟩,fun b hb=>?_,q⟩;have e:b=s1.heap.objs.size:=by simpa using hb
 subst e;exact I1.fpOk (A8 _) (I1.hok.fresh (A8 _))
theorem aoI{l:Expr}{tl:TE}(hl:PE X l tl):PI X tg l (iTup X.K tl):=by
 intro pins s Y H R I h;refine A9 (hl pins s Y H _ I h) fun v s1 ⟨x,H1,I1,r1,q1⟩=>?_
 obtain ⟨a,e,⟨xs,hq⟩,q⟩:=q1;subst e
 cases r1
 obtain ⟨its,rv,p,hz⟩:=I1.tuple hq;refine wpAny_pyIter_tuple (show s1.heap.IsTuple a its.toArray from p) ?_;refine ⟨s1.heap.objs.size,[s1.heap.objs.size],_,_,H1,rfl,I1.kept (t':=s1.toks) fun b o e=>Heap.get?_push_of_some _ e,ah7 a _,⟨_,Heap.get?_push_size _ rfl,rfl,rfl⟩,fun b hb=>?_,q⟩;have e:b=s1.heap.objs.size:=by simpa using hb
 subst e;exact I1.fpOk (A8 _) (I1.hok.fresh (A8 _))
theorem zW{pins:List (Addr×Obj)}{Y:St}{H:Hp}{s:Shared}{R:It->Hp->Prop}{E:Value->Shared->Prop}{lo hi:Int}{t u v:Tok}{tk:Nat}(I:Inv X pins Y H s)(h1:-(2 ^ 62)<=lo)(h2:lo<2 ^ 62)(h3:-(2 ^ 62)<=hi)(h4:hi<2 ^ 62)(q:R (i5 lo (hi-lo).toNat) H):wpAny (model X.prog X.w) X.A (pyIter (.ref s.heap.objs.size)) (rQ X pins Y tg R) E { s with heap:=s.heap.push { cls:=.type "range",data:=.fields #[.int lo t,.int hi u,.int 1 v] },toks:=tk }:=by
 refine wpAny_pyIter_range (IsRange.new ..) (small_one h1 h2 h3 h4) ?_;have I1:Inv X pins Y H { s with heap:=s.heap.push { cls:=.type "range",data:=.fields #[.int lo t,.int hi u,.int 1 v] },toks:=tk }:=I.kept fun b o e=>Heap.get?_push_of_some _ e
 refine ⟨(s.heap.push { cls:=.type "range",data:=.fields #[.int lo t,.int hi u,.int 1 v] }).objs.size,[(s.heap.push { cls:=.type "range",data:=.fields #[.int lo t,.int hi u,.int 1 v] }).objs.size],_,_,H,rfl,
  I1.kept (t':=tk) fun b o e=>Heap.get?_push_of_some _ e,ah8 _ lo (hi-lo).toNat,?_,fun b hb=>?_,q⟩
 .have e1:lo+((0:Nat):Int)*1=lo:=by simp
  have e2:(((hi-lo).toNat:Nat):Int)-((0:Nat):Int)=Builtin.Range.rangeSize lo hi 1:=by rw [rangeSize_one];split <;> lia
  show IsRangeIter _ _ (lo+((0:Nat):Int)*1) ((((hi-lo).toNat:Nat):Int)-((0:Nat):Int)) 1;rw [e1,e2];exact Heap.get?_push_size _ rfl
 .have e:b=(s.heap.push { cls:=.type "range",data:=.fields #[.int lo t,.int hi u,.int 1 v] }).objs.size:=by simpa using hb
  subst e;exact I1.fpOk (A8 _) (I1.hok.fresh (A8 _))
noncomputable def iRng1 (ta:TA):TI:=fun Y H R=>ta Y H fun vs H1=>∃ j:Int,vs=[.int j]/\-(2 ^ 62)<=j/\j<2 ^ 62/\R (i5 0 j.toNat) H1
noncomputable def iRng2 (ta:TA):TI:=fun Y H R=>ta Y H fun vs H1=>∃ i j:Int,vs=[.int i,.int j]/\(-(2 ^ 62)<=i/\i<2 ^ 62/\-(2 ^ 62)<=j/\j<2 ^ 62)/\R (i5 i (j-i).toNat) H1
theorem aiU{a:Expr}{ta:TA}{p pos:Pos}(hg:Gl X "range")(hm:X.mg "range"=none)(ha:PA X [a] ta)(hs:starEach [a] X.env=[(false,eval a X.env)]:=by rfl):PI X tg (.Call (.Name "range" p) [a] [] pos) (iRng1 ta):=by
 intro pins s Y H R I h;refine Call_ (aB I hg hm boot_range (PyProof.Rows.callWith_type1 (A9 (ha pos pins s Y H _ I h) fun us s1 ⟨vs,H1,I1,r1,q1⟩=>?_) hs rfl));obtain ⟨j,e,q1,q2,q⟩:=q1;subst e
 cases r1 with
 | cons r rr=>
  cases rr
  obtain ⟨t,rfl⟩:=r;exact call_range_1 (zW I1 (by lia) (by lia) q1 q2 (by simpa using q))
theorem aiV{a b:Expr}{ta:TA}{p pos:Pos}(hg:Gl X "range")(hm:X.mg "range"=none)(ha:PA X [a,b] ta)(hs:starEach [a,b] X.env=[(false,eval a X.env),(false,eval b X.env)]:=by rfl)(aS:starEach [b] X.env=[(false,eval b X.env)]:=by rfl) :
  PI X tg (.Call (.Name "range" p) [a,b] [] pos) (iRng2 ta):=by
 intro pins s Y H R I h;refine Call_ (aB I hg hm boot_range (PyProof.Rows.callWith_type1 (A9 (ha pos pins s Y H _ I h) fun us s1 ⟨vs,H1,I1,r1,q1⟩=>?_) (by rw [hs,aS]) (by rw [aS];rfl)));obtain ⟨i,j,e,⟨q1,q2,q3,q4⟩,q⟩:=q1;subst e
 cases r1 with
 | cons r rr=>
  cases rr with
  | cons r' rr=>
   cases rr
   obtain ⟨t,rfl⟩:=r;obtain ⟨t',rfl⟩:=r';exact call_range_2 (zW I1 q1 q2 q3 q4 q)
noncomputable def tFor (wi:TI) (g:TG) (tb:TS):TS:=fun D Y H=>wi Y H fun J H1=>∃ W:Nat->Nat->St->Hp->Prop,(∃ m,W 0 m Y H1)/\∀ i m Y H,W i m Y H->
 (J.stop i H/\D.nx Y H)\/(J.go i H/\∃ N:St->Hp->Prop,(∀ σ' H',N σ' H'->∃ m',m'<m/\W (i+1) m' σ' H')/\∀ x H',J.yld i H x H'->g x Y H' fun σ2 H2=>tb { D with nx:=N,ct:=N,bk:=D.nx } σ2 H2)
noncomputable def gJ (fp:List Addr) (h:Heap):List (Addr×Obj):=fp.filterMap fun b=>(h.get? b).map fun o=>(b,o)
theorem gL{fp:List Addr}{h:Heap}{b:Addr}{o:Obj}(hb:b∈fp)(e:h.get? b=some o):(b,o)∈gJ fp h:=gB.mpr ⟨b,hb,by rw [e];rfl⟩
theorem aiW{fp:List Addr}{h:Heap}{p:Addr×Obj}(hp:p∈gJ fp h):p.1∈fp/\h.get? p.1=some p.2:=by
 obtain ⟨b,hb,e⟩:=gB.mp hp
 cases q:h.get? b with
 | none=>rw [q] at e;cases e
 | some o=>
  rw [q] at e;have e':(b,o)=p:=Option.some.inj e;subst e';exact ⟨hb,q⟩
theorem Inv.pinned{pins:List (Addr×Obj)}{Y:St}{H:Hp}{s:Shared}{fp:List Addr}(I:Inv X pins Y H s)(hf:∀ b∈fp,FpOk X pins H b)(ho:∀ b∈fp,∃ o,s.heap.get? b=some o/\∀ v,o.data≠.cell v):Inv X (pins++gJ fp s.heap) Y H s:=
 I.pins_of fun p hp=>(D3.mp hp).elim (fun z=>I.pin p (M6 _ z)) fun z=>by
  obtain ⟨hb,e⟩:=aiW z;obtain ⟨f0,f1,f2,_⟩:=hf p.1 hb;obtain ⟨o,e',d⟩:=ho p.1 hb;rw [e] at e';cases e';exact ⟨e,f0,f1,f2,d⟩
theorem Inv.unpinned{pins pl:List (Addr×Obj)}{Y:St}{H:Hp}{s:Shared}(I:Inv X (pins++pl) Y H s):Inv X pins Y H s:=I.pins_of fun p hp=>I.pin p (M6 _ (N7 _ hp))
theorem aoJ{iter:Expr}{body:List Stmt}{wi:TI}{g:TG}{tb:TS}{pos:Pos}(hp:PassesOwn (model X.prog X.w) X.A X.env X.xe)(hc:X.calm=true)(hi:PI X tg iter wi)(hg:PG X tg g)(hb:W1 X body tb)(hs:∀ x,foldedSetIterable iter X.env x=pure x:=by intro _;rfl):PS X (.For tg iter body [] pos) (tFor wi g tb):=by
 intro pins s Y H D I h;refine wpAny_For (A9 (hi pins s Y H _ I h) fun v s1 h1=>A9 h1 fun itv s2 h2=>?_) hs;obtain ⟨it,fp,tn,J,H2,e,I2,T,lV,f2,W,⟨m0,w0⟩,turn⟩:=h2;subst e;have stat:∀ {H':Hp},(∀ b∈fp,H' b=none)->∀ b∈fp,FpOk X pins H' b:=fun hn b hb=>⟨hn b hb,(f2 b hb).2⟩
 refine codeAny_forLoop_any (fun n s'=>∃ i σ' H',Inv X pins σ' H' s'/\tn i s'.heap/\(∀ b∈fp,H' b=none)/\W i n σ' H') ?_ m0 ⟨0,Y,H2,I2,lV,fun b hb=>(f2 b hb).1,w0⟩;rintro n s3 ⟨i,σ3,H3,I3,cT,lW,w3⟩
 rcases turn i n σ3 H3 w3 with ⟨stop,qn⟩ | ⟨go,N,hN,step⟩
 .refine wpAny_passesOwn hp (A9 (T.done X rfl rfl rfl hc i pins s3 σ3 H3 X.xe I3 (stat lW) cT stop) fun r s4 ⟨hr,I4⟩=>?_);subst hr;exact wpAny_execs_nil ⟨σ3,H3,I4,qn⟩
 .refine wpAny_passesOwn hp (A9 (T.item X rfl rfl rfl hc i pins s3 σ3 H3 X.xe I3 (stat lW) cT go) fun r s4 ⟨u,hr,h4⟩=>?_);subst hr;refine wpAny_passesOwn hp (A9 h4 fun _ s5 ⟨x,H5,I5,r5,y5,eX,wU⟩=>?_);have I5':=I5.pinned (stat wU) (T.obj _ _ eX);refine wpAny_passesOwn hp (A9 (hg _ s5 σ3 H5 x u _ I5' r5 (step x H5 y5)) fun _ s6 ⟨σ6,H6,I6,q6⟩=>?_);refine wpAny_passesOwn hp (A9 (hb _ s6 σ6 H6 _ I6 q6) fun f s7 q7=>?_);have again:∀ {σ7:St} {H7:Hp},Inv X (pins++gJ fp s5.heap) σ7 H7 s7->N σ7 H7->∃ m,m<n/\∃ i σ' H',Inv X pins σ' H' s7/\tn i s7.heap/\(∀ b∈fp,H' b=none)/\W i m σ' H':=fun {σ7 H7} I7 n7=>by
   obtain ⟨m',hm,w7⟩:=hN σ7 H7 n7;refine ⟨m',hm,i+1,σ7,H7,I7.unpinned,T.keep _ _ _ eX fun b hb o e=>(I7.pin (b,o) (M6 _ (M6 _ (gL hb e)))).1,fun b hb=>?_,w7⟩;obtain ⟨o,e,d⟩:=T.obj _ _ eX b hb;exact (I7.pin (b,o) (M6 _ (M6 _ (gL hb e)))).2.1
  cases f with
  | next=>obtain ⟨σ7,H7,I7,n7⟩:=q7;exact again I7 n7
  | cont=>obtain ⟨σ7,H7,I7,n7⟩:=q7;exact again I7 n7
  | brk=>obtain ⟨σ7,H7,I7,q7⟩:=q7;exact ⟨σ7,H7,I7.unpinned,q7⟩
  | ret v=>obtain ⟨x7,σ7,H7,I7,r7,q7⟩:=q7;exact ⟨x7,σ7,H7,I7.unpinned,r7,q7⟩
end
theorem akJ{K:PySem.W.Frag}{a:Addr}{xs:List V}{g:TG}{tb:TS}{D:Ends}{Y:St}{H:Hp}(Pv:Nat->St->Hp->Prop)(h0:Pv 0 Y H)(hl:∀ i Y H,i<=xs.length->Pv i Y H->C7 K H a xs)(hs:∀ i x Y H,xs[i]?=some x->Pv i Y H->g x Y H fun σ2 H2=>tb { D with nx:=Pv (i+1),ct:=Pv (i+1),bk:=D.nx } σ2 H2)(hd:∀ Y H,Pv xs.length Y H->D.nx Y H) :
  ∃ W:Nat->Nat->St->Hp->Prop,(∃ m,W 0 m Y H)/\∀ i m Y H,W i m Y H->
   ((v4 K a).stop i H/\D.nx Y H)\/((v4 K a).go i H/\∃ N:St->Hp->Prop,(∀ σ' H',N σ' H'->∃ m',m'<m/\W (i+1) m' σ' H')/\∀ x H',(v4 K a).yld i H x H'->g x Y H' fun σ2 H2=>tb { D with nx:=N,ct:=N,bk:=D.nx } σ2 H2):=by
 refine ⟨fun i m Y H=>m=xs.length-i/\i<=xs.length/\Pv i Y H,⟨xs.length,by simp,G3 _,h0⟩,?_⟩;rintro i m Y H ⟨rfl,hi,p⟩;have q:=hl i Y H hi p
 by_cases C4:i<xs.length
 .refine .inr ⟨⟨xs,xs[i],q,by simp [C4]⟩,Pv (i+1),fun σ' H' p'=>⟨xs.length-(i+1),by lia,rfl,C4,p'⟩,fun x H' y=>?_⟩;obtain ⟨e,y⟩:=y;subst e;exact hs i x Y _ (y xs q) p
 .have e:i=xs.length:=by lia
  subst e;exact .inl ⟨⟨xs,q,A8 _⟩,hd Y H p⟩
theorem amO{K:PySem.W.Frag}{a:Addr}{xs:List V}{g:TG}{tb:TS}{D:Ends}{Y:St}{H:Hp}(Pv:Nat->St->Hp->Prop)(h0:Pv 0 Y H)(hl:∀ i Y H,i<=xs.length->Pv i Y H->C6 K H a xs)(hs:∀ i x Y H,xs[i]?=some x->Pv i Y H->g x Y H fun σ2 H2=>tb { D with nx:=Pv (i+1),ct:=Pv (i+1),bk:=D.nx } σ2 H2)(hd:∀ Y H,Pv xs.length Y H->D.nx Y H) :
  ∃ W:Nat->Nat->St->Hp->Prop,(∃ m,W 0 m Y H)/\∀ i m Y H,W i m Y H->
   ((bV K a).stop i H/\D.nx Y H)\/((bV K a).go i H/\∃ N:St->Hp->Prop,(∀ σ' H',N σ' H'->∃ m',m'<m/\W (i+1) m' σ' H')/\∀ x H',(bV K a).yld i H x H'->g x Y H' fun σ2 H2=>tb { D with nx:=N,ct:=N,bk:=D.nx } σ2 H2):=by
 refine ⟨fun i m Y H=>m=xs.length-i/\i<=xs.length/\Pv i Y H,⟨xs.length,by simp,G3 _,h0⟩,?_⟩;rintro i m Y H ⟨rfl,hi,p⟩;have q:=hl i Y H hi p
 by_cases C4:i<xs.length
 .refine .inr ⟨⟨xs,xs[i],q,by simp [C4]⟩,Pv (i+1),fun σ' H' p'=>⟨xs.length-(i+1),by lia,rfl,C4,p'⟩,fun x H' y=>?_⟩;obtain ⟨e,y⟩:=y;subst e;exact hs i x Y _ (y xs q) p
 .have e:i=xs.length:=by lia
  subst e;exact .inl ⟨⟨xs,q,A8 _⟩,hd Y H p⟩
theorem aiX{lo:Int}{n:Nat}{g:TG}{tb:TS}{D:Ends}{Y:St}{H:Hp}(Pv:Nat->St->Hp->Prop)(h0:Pv 0 Y H)(hs:∀ i Y H,i<n->Pv i Y H->g (.int (lo+i)) Y H fun σ2 H2=>tb { D with nx:=Pv (i+1),ct:=Pv (i+1),bk:=D.nx } σ2 H2)(hd:∀ Y H,Pv n Y H->D.nx Y H) :
  ∃ W:Nat->Nat->St->Hp->Prop,(∃ m,W 0 m Y H)/\∀ i m Y H,W i m Y H->
   ((i5 lo n).stop i H/\D.nx Y H)\/((i5 lo n).go i H/\∃ N:St->Hp->Prop,(∀ σ' H',N σ' H'->∃ m',m'<m/\W (i+1) m' σ' H')/\∀ x H',(i5 lo n).yld i H x H'->g x Y H' fun σ2 H2=>tb { D with nx:=N,ct:=N,bk:=D.nx } σ2 H2):=by
 refine ⟨fun i m Y H=>m=n-i/\i<=n/\Pv i Y H,⟨n,by simp,G3 _,h0⟩,?_⟩;rintro i m Y H ⟨rfl,hi,p⟩
 by_cases C4:i<n
 .refine .inr ⟨C4,Pv (i+1),fun σ' H' p'=>⟨n-(i+1),by lia,rfl,C4,p'⟩,fun x H' y=>?_⟩;obtain ⟨e,y⟩:=y;subst e y;exact hs i Y _ C4 p
 .have e:i=n:=by lia
  subst e;exact .inl ⟨A8 _,hd Y H p⟩
end L2
namespace L2
open PySem PySem.Spec PyProof.Rows
noncomputable abbrev R2:=V->V->Hp->VK->Prop
noncomputable def G8 (X:Cx) (f:Value->Value->Sem Value) (r:R2):Prop:=
 ∀ (pins:List (Addr×Obj)) (s:Shared) (Y:St) (H:Hp) (x y:V) (v u:Value) (Q:VK),Inv X pins Y H s->RelV x v->RelV y u->r x y H Q->
  wpAny (model X.prog X.w) X.A (f v u) (EP X pins Y Q) X.xe s
noncomputable def nX (X:Cx) (f:Value->Sem Value) (r:V->Hp->VK->Prop):Prop:=
 ∀ (pins:List (Addr×Obj)) (s:Shared) (Y:St) (H:Hp) (x:V) (v:Value) (Q:VK),Inv X pins Y H s->RelV x v->r x H Q->
  wpAny (model X.prog X.w) X.A (f v) (EP X pins Y Q) X.xe s
noncomputable def CallR (X:Cx) (f:Value) (r:List V->Hp->VK->Prop):Prop:=
 ∀ (pins:List (Addr×Obj)) (s:Shared) (Y:St) (H:Hp) (xs:List V) (us:List Value) (Q:VK),Inv X pins Y H s->Vals xs us->r xs H Q->
  wpAny (model X.prog X.w) X.A (call f us) (EP X pins Y Q) X.xe s
noncomputable def TruR (X:Cx) (r:V->Hp->(Bool->Hp->Prop)->Prop):Prop:=
 ∀ (pins:List (Addr×Obj)) (s:Shared) (Y:St) (H:Hp) (x:V) (v:Value) (Q:Bool->Hp->Prop),Inv X pins Y H s->RelV x v->r x H Q->
  wpAny (model X.prog X.w) X.A (truthy v) (TP X pins Y Q) X.xe s
noncomputable def m4 (r:R2) (ta tb:TE):TE:=fun Y H Q=>ta Y H fun x H1=>tb Y H1 fun y H2=>r x y H2 Q
noncomputable def rR (r:V->Hp->VK->Prop) (ta:TE):TE:=fun Y H Q=>ta Y H fun x H1=>r x H1 Q
noncomputable def rI (C:Int->Int->Prop) (g:Int->Int->V):R2:=fun x y H Q=>∃ i j,x=.int i/\y=.int j/\C i j/\Q (g i j) H
noncomputable def v6 (g:Int->Int->V):R2:=fun x y H Q=>∃ i j,x=.int i/\y=.int j/\Q (g i j) H
noncomputable def rU (g:Int->V):V->Hp->VK->Prop:=fun x H Q=>∃ i,x=.int i/\Q (g i) H
section
variable {X:Cx} {a b c:Expr} {ta tb tc:TE} {pos:Pos}
theorem binT(ha:PE X a ta)(hb:PE X b tb){pins:List (Addr×Obj)}{s:Shared}{Y:St}{H:Hp}{R:V->V->Hp->Prop}(I:Inv X pins Y H s)(h:ta Y H fun x H1=>tb Y H1 fun y H2=>R x y H2){Q:Value->Shared->Prop}{f:Value->Value->Sem Value}(hf:∀ v u s2 x y H2,Inv X pins Y H2 s2->RelV x v->RelV y u->R x y H2->wpAny (model X.prog X.w) X.A (f v u) Q X.xe s2) :
  wpAny (model X.prog X.w) X.A (eval a X.env) (fun v zu=>wpAny (model X.prog X.w) X.A (eval b X.env) (fun u zx=>wpAny (model X.prog X.w) X.A (f v u) Q X.xe zx) X.xe zu) X.xe s:=by
 refine A9 (ha pins s Y H _ I h) fun v s1 ⟨x,H1,I1,r1,q1⟩=>?_
 refine A9 (hb pins s1 Y H1 _ I1 q1) fun u s2 ⟨y,H2,I2,r2,q2⟩=>?_
 exact hf v u s2 x y H2 I2 r1 r2 q2
theorem pe_op{op:Operator}{r:R2}(ho:G8 X (binaryOp op) r)(ha:PE X a ta)(hb:PE X b tb):PE X (.BinOp a op b pos) (m4 r ta tb):=by
 intro pins s Y H Q I h;exact wpAny_BinOp (binT ha hb I h fun v u s2 x y H2 I2 rx ry q=>ho pins s2 Y H2 x y v u Q I2 rx ry q)
theorem pe_un{op:UnaryOp}{r:V->Hp->VK->Prop}(ho:nX X (unaryOp op) r)(ha:PE X a ta):PE X (.UnaryOp op a pos) (rR r ta):=by
 intro pins s Y H Q I h;exact UnaryOp_ (A9 (ha pins s Y H _ I h) fun v s1 ⟨x,H1,I1,r1,q1⟩=>ho pins s1 Y H1 x v Q I1 r1 q1)
theorem rS{f:Value->Value->Sem Value}{C:Int->Int->Prop}{g:Int->Int->Int}(rule:∀ (i j:Int) (t u:Tok) (s:Shared) (Q:Value->Shared->Prop) (E:Value->Shared->Prop),C i j->Q (.int (g i j) s.toks) { s with toks:=s.toks+1 }->wpAny (model X.prog X.w) X.A (f (.int i t) (.int j u)) Q E s) :
  G8 X f (rI C fun i j=>.int (g i j)):=by
 intro pins s Y H x y v u Q I rx ry h;obtain ⟨i,j,rfl,rfl,hc,q⟩:=h;obtain ⟨t,rfl⟩:=rx;obtain ⟨t',rfl⟩:=ry;exact rule i j t t' s _ _ hc ⟨.int (g i j),H,I.tok _,⟨_,rfl⟩,q⟩
theorem opI0{f:Value->Value->Sem Value}{g:Int->Int->Int}(rule:∀ (i j:Int) (t u:Tok) (s:Shared) (Q:Value->Shared->Prop) (E:Value->Shared->Prop),Q (.int (g i j) s.toks) { s with toks:=s.toks+1 }->wpAny (model X.prog X.w) X.A (f (.int i t) (.int j u)) Q E s) :
  G8 X f (v6 fun i j=>.int (g i j)):=by
 intro pins s Y H x y v u Q I rx ry h;obtain ⟨i,j,rfl,rfl,q⟩:=h;obtain ⟨t,rfl⟩:=rx;obtain ⟨t',rfl⟩:=ry;exact rule i j t t' s _ _ ⟨.int (g i j),H,I.tok _,⟨_,rfl⟩,q⟩
theorem opB0{f:Value->Value->Sem Value}{g:Int->Int->Bool}(rule:∀ (i j:Int) (t u:Tok) (s:Shared) (Q:Value->Shared->Prop) (E:Value->Shared->Prop),Q (.bool (g i j)) s->wpAny (model X.prog X.w) X.A (f (.int i t) (.int j u)) Q E s) :
  G8 X f (v6 fun i j=>.bl (g i j)):=by
 intro pins s Y H x y v u Q I rx ry h;obtain ⟨i,j,rfl,rfl,q⟩:=h;obtain ⟨t,rfl⟩:=rx;obtain ⟨t',rfl⟩:=ry;exact rule i j t t' s _ _ ⟨.bl (g i j),H,I,rfl,q⟩
noncomputable def CDiv (i j:Int):Prop:=0<j/\j<1073741824
noncomputable def CMul (i j:Int):Prop:=(-(2 ^ 64)<i/\i<2 ^ 64)\/(-(2 ^ 64)<j/\j<2 ^ 64)
theorem CMul.ok{i j:Int}(h:CMul i j):IntMulOk i j:=by
 rcases h with ⟨h1,h2⟩ | ⟨h1,h2⟩
 .exact .of_left (intBits_le_64 h1 h2)
 .exact .of_right (intBits_le_64 h1 h2)
theorem aoK:G8 X (binaryOp .Add) (v6 fun i j=>.int (i+j)):=opI0 fun _ _ _ _ _ _ _ q=>add_int q
theorem aoL:G8 X (binaryOp .Sub) (v6 fun i j=>.int (i-j)):=opI0 fun _ _ _ _ _ _ _ q=>sub_int q
theorem aoM:G8 X (binaryOp .Mult) (rI CMul fun i j=>.int (i*j)):=rS fun _ _ _ _ _ _ _ hc q=>mul_int q hc.ok
theorem amP:G8 X (binaryOp .FloorDiv) (rI CDiv fun i j=>.int (i / j)):=rS fun i j _ _ _ _ _ hc q=>by
 have h1:(0:Int)<j:=hc.1;have h2:j<1073741824:=hc.2;exact floordiv_int (by lia) (by rw [Int.fdiv_eq_ediv_of_nonneg i (by lia)];exact q) (.inl (PyProof.noPylong_small (by lia)))
theorem aoN:G8 X (binaryOp .Mod) (rI (fun _ j=>0<j) fun i j=>.int (i % j)):=rS fun i j _ _ _ _ _ hc q=>by
 have h1:(0:Int)<j:=hc;exact mod_int' (by lia) (by rw [Int.fmod_eq_emod_of_nonneg i (by lia)];exact q)
theorem unI{f:Value->Sem Value}{g:Int->Int}(rule:∀ (i:Int) (t:Tok) (s:Shared) (Q:Value->Shared->Prop) (E:Value->Shared->Prop),Q (.int (g i) s.toks) { s with toks:=s.toks+1 }->wpAny (model X.prog X.w) X.A (f (.int i t)) Q E s) :
  nX X f (rU fun i=>.int (g i)):=by
 intro pins s Y H x v Q I rx h;obtain ⟨i,rfl,q⟩:=h;obtain ⟨t,rfl⟩:=rx;exact rule i t s _ _ ⟨.int (g i),H,I.tok _,⟨_,rfl⟩,q⟩
theorem aoO:nX X (unaryOp .USub) (rU fun i=>.int (-i)):=unI fun _ _ _ _ _ q=>neg_int q
end
noncomputable def scal:V->V->Bool
 | .non,.non=>true | .non,.int _=>true | .int _,.non=>true | .non,.bl _=>true | .bl _,.non=>true | .non,.str _=>true | .str _,.non=>true
 | .int _,.int _=>true | .bl _,.bl _=>true | .str _,.str _=>true | .byt _,.byt _=>true
 | .int _,.str _=>true | .str _,.int _=>true | .bl _,.str _=>true | .str _,.bl _=>true
 | _,_=>false
noncomputable def zX:R2:=fun x y H Q=>scal x y=true/\Q (.bl (decide (x=y))) H
noncomputable def zY:R2:=fun x y H Q=>scal x y=true/\Q (.bl (!decide (x=y))) H
theorem zZ{i j:Int} : decide (V.int i=V.int j)=(i==j):=by
 rw [gH]
 simp
theorem ama{i j:Bool} : decide (V.bl i=V.bl j)=(i==j):=by
 rw [gH]
 simp
theorem aiZ{i j:Str} : decide (V.str i=V.str j)=(i==j):=by
 rw [gH]
 simp
theorem ai0{i j:Array UInt8} : decide (V.byt i=V.byt j)=(i.toList==j.toList):=by
 rw [gH]
 cases i
 cases j
 simp
section
variable {X:Cx} {a b c:Expr} {ta tb tc:TE} {pos:Pos}
theorem L9{pins:List (Addr×Obj)}{Y:St}{H:Hp}{s:Shared}{Q:VK}{k k':Bool}(I:Inv X pins Y H s)(q:Q (.bl k) H)(e:k=k'):EP X pins Y Q (.bool k') s:=by
 subst e;exact ⟨.bl k,H,I,rfl,q⟩
theorem op_eq:G8 X (compareOp .Eq) zX:=by
 intro pins s Y H x y v u Q I rx ry h;obtain ⟨hs,q⟩:=h
 cases x with
 | non=>
  cases rx
  cases y with
  | non=>cases ry;exact PySem.EqNone.eq_none_none (L9 I q (by simp))
  | bl j=>cases ry;exact PySem.EqNone.eq_none_bool (L9 I q (by simp))
  | int j=>obtain ⟨t',rfl⟩:=ry;exact PySem.EqNone.eq_none_int (L9 I q (by simp))
  | str j=>obtain ⟨t',rfl⟩:=ry;exact PySem.EqNone.eq_none_str (L9 I q (by simp))
  | _=>exact absurd (show false=true from hs) L5
 | bl i=>
  cases rx
  cases y with
  | non=>cases ry;exact PySem.EqNone.eq_bool_none (L9 I q (by simp))
  | bl j=>cases ry;exact eq_bool (L9 I q ama)
  | str j=>obtain ⟨t',rfl⟩:=ry;exact PySem.EqMixed.eq_bool_str (L9 I q (by simp))
  | _=>exact absurd (show false=true from hs) L5
 | int i=>
  obtain ⟨t,rfl⟩:=rx
  cases y with
  | non=>cases ry;exact PySem.EqNone.eq_int_none (L9 I q (by simp))
  | int j=>obtain ⟨t',rfl⟩:=ry;exact eq_int (L9 I q zZ)
  | str j=>obtain ⟨t',rfl⟩:=ry;exact PySem.EqMixed.eq_int_str (L9 I q (by simp))
  | _=>exact absurd (show false=true from hs) L5
 | str i=>
  obtain ⟨t,rfl⟩:=rx
  cases y with
  | non=>cases ry;exact PySem.EqNone.eq_str_none (L9 I q (by simp))
  | bl j=>cases ry;exact PySem.EqMixed.eq_str_bool (L9 I q (by simp))
  | int j=>obtain ⟨t',rfl⟩:=ry;exact PySem.EqMixed.eq_str_int (L9 I q (by simp))
  | str j=>obtain ⟨t',rfl⟩:=ry;exact eq_str (L9 I q aiZ)
  | _=>exact absurd (show false=true from hs) L5
 | byt i=>
  obtain ⟨t,rfl⟩:=rx
  cases y with
  | byt j=>obtain ⟨t',rfl⟩:=ry;exact PySem.W.eq_bytes (L9 I q ai0)
  | _=>exact absurd (show false=true from hs) L5
 | _=>cases y <;> exact absurd (show false=true from hs) L5
theorem op_ne:G8 X (compareOp .NotEq) zY:=by
 intro pins s Y H x y v u Q I rx ry h;obtain ⟨hs,q⟩:=h
 cases x with
 | non=>
  cases rx
  cases y with
  | non=>cases ry;exact PySem.EqNone.ne_none_none (L9 I q (by simp))
  | bl j=>cases ry;exact PySem.EqNone.ne_none_bool (L9 I q (by simp))
  | int j=>obtain ⟨t',rfl⟩:=ry;exact PySem.EqNone.ne_none_int (L9 I q (by simp))
  | str j=>obtain ⟨t',rfl⟩:=ry;exact PySem.EqNone.ne_none_str (L9 I q (by simp))
  | _=>exact absurd (show false=true from hs) L5
 | bl i=>
  cases rx
  cases y with
  | non=>cases ry;exact PySem.EqNone.ne_bool_none (L9 I q (by simp))
  | bl j=>cases ry;exact ne_bool (L9 I q (congrArg not ama))
  | str j=>obtain ⟨t',rfl⟩:=ry;exact PySem.EqMixed.ne_bool_str (L9 I q (by simp))
  | _=>exact absurd (show false=true from hs) L5
 | int i=>
  obtain ⟨t,rfl⟩:=rx
  cases y with
  | non=>cases ry;exact PySem.EqNone.ne_int_none (L9 I q (by simp))
  | int j=>obtain ⟨t',rfl⟩:=ry;exact ne_int (L9 I q (congrArg not zZ))
  | str j=>obtain ⟨t',rfl⟩:=ry;exact PySem.EqMixed.ne_int_str (L9 I q (by simp))
  | _=>exact absurd (show false=true from hs) L5
 | str i=>
  obtain ⟨t,rfl⟩:=rx
  cases y with
  | non=>cases ry;exact PySem.EqNone.ne_str_none (L9 I q (by simp))
  | bl j=>cases ry;exact PySem.EqMixed.ne_str_bool (L9 I q (by simp))
  | int j=>obtain ⟨t',rfl⟩:=ry;exact PySem.EqMixed.ne_str_int (L9 I q (by simp))
  | str j=>obtain ⟨t',rfl⟩:=ry;exact ne_str (L9 I q (congrArg not aiZ))
  | _=>exact absurd (show false=true from hs) L5
 | byt i=>
  obtain ⟨t,rfl⟩:=rx
  cases y with
  | byt j=>obtain ⟨t',rfl⟩:=ry;exact PySem.W.ne_bytes (L9 I q (congrArg not ai0))
  | _=>exact absurd (show false=true from hs) L5
 | _=>cases y <;> exact absurd (show false=true from hs) L5
theorem op_lt:G8 X (compareOp .Lt) (v6 fun i j=>.bl (decide (i<j))):=opB0 fun _ _ _ _ _ _ _ q=>lt_int q
theorem op_le:G8 X (compareOp .LtE) (v6 fun i j=>.bl (decide (i<=j))):=opB0 fun _ _ _ _ _ _ _ q=>le_int q
theorem op_gt:G8 X (compareOp .Gt) (v6 fun i j=>.bl (decide (j<i))):=opB0 fun _ _ _ _ _ _ _ q=>gt_int q
theorem afG:G8 X (compareOp .Lt) (fun x y H Q=>∃ i j,x=.str i/\y=.str j/\Q (.bl (decide (i.cps.toList<j.cps.toList))) H):=by
 intro pins s Y H x y v u Q I rx ry h;obtain ⟨i,j,rfl,rfl,q⟩:=h;obtain ⟨t,rfl⟩:=rx;obtain ⟨t',rfl⟩:=ry;exact lt_str (L9 I q rfl)
theorem ai1:G8 X (compareOp .In) (fun x y H Q=>∃ i j,x=.str i/\y=.str j/\Q (.bl (!(Builtin.Str.occurrences j i 0 j.length 1).isEmpty)) H):=by
 intro pins s Y H x y v u Q I rx ry h;obtain ⟨i,j,rfl,rfl,q⟩:=h;obtain ⟨t,rfl⟩:=rx;obtain ⟨t',rfl⟩:=ry;exact in_str (L9 I q rfl)
theorem aoP:G8 X (compareOp .Is) (fun x y H Q=>y=.non/\Q (.bl (decide (x=.non))) H):=by
 intro pins s Y H x y v u Q I rx ry h;obtain ⟨rfl,q⟩:=h
 cases ry
 refine is_none_gen (L9 I q ?_)
 cases x <;> first
  | (cases rx;rfl)
  | (obtain ⟨t,rfl⟩:=rx;rfl)
theorem amb(b:Expr){op:CmpOp}(h:op≠.In:=by decide)(h2:op≠.NotIn:=by decide):behindInMarks op b=false:=by
 have e1:(op==CmpOp.In)=false:=by cases op <;> first | rfl | exact absurd rfl h
 have e2:(op==CmpOp.NotIn)=false:=by cases op <;> first | rfl | exact absurd rfl h2
 cases b <;> simp [behindInMarks,e1,e2]
theorem amQ{op:CmpOp}{r:R2}(ho:G8 X (compareOp op) r)(ha:PE X a ta)(hb:PE X b tb)(hm:behindInMarks op b=false):PE X (.Compare a [op] [b] pos) (m4 r ta tb):=by
 intro pins s Y H Q I h;exact wpAny_Compare1 (binT ha hb I h fun v u s2 x y H2 I2 rx ry q=>ho pins s2 Y H2 x y v u Q I2 rx ry q) hm
noncomputable def tTest (t:TE):TT:=fun Y H Q=>t Y H fun x H'=>∃ k,x=.bl k/\Q k H'
theorem amR{op:CmpOp}{r:R2}(ho:G8 X (compareOp op) r)(ha:PE X a ta)(hb:PE X b tb)(hm:behindInMarks op b=false):PT X (.Compare a [op] [b] pos) (tTest (m4 r ta tb)):=by
 intro pins s Y H Q I h;refine wpAny_isTrue_Compare1 (A9 (ha pins s Y H _ I h) fun v s1 ⟨x,H1,I1,r1,q1⟩=>A9 (hb pins s1 Y H1 _ I1 q1) fun u s2 ⟨y,H2,I2,r2,q2⟩=>
  A9 (ho pins s2 Y H2 x y v u _ I2 r1 r2 q2) fun c s3 ⟨z,H3,I3,r3,k,e,q3⟩=>?_) hm
 subst e
 cases r3
 exact wpAny_truthy_bool ⟨H3,I3,q3⟩
noncomputable def rT (r r':R2) (ta tb tc:TE):TE:=fun Y H Q=>ta Y H fun x H1=>tb Y H1 fun y H2=>r x y H2 fun z H3=>∃ k,z=.bl k/\
 (if k=true then tc Y H3 fun w' H4=>r' y w' H4 Q else Q (.bl false) H3)
theorem akK{op op':CmpOp}{r r':R2}(ho:G8 X (compareOp op) r)(o3:G8 X (compareOp op') r')(ha:PE X a ta)(hb:PE X b tb)(hc:PE X c tc)(hm:lastMarks [op,op'] [b,c]=false:=by with_unfolding_all rfl):PE X (.Compare a [op,op'] [b,c] pos) (rT r r' ta tb tc):=by
 intro pins s Y H Q I h;refine Compare_chain (A9 (ha pins s Y H _ I h) fun v s1 ⟨x,H1,I1,r1,q1⟩=>chain_link (A9 (hb pins s1 Y H1 _ I1 q1) fun u s2 ⟨y,H2,I2,r2,q2⟩=>
  A9 (ho pins s2 Y H2 x y v u _ I2 r1 r2 q2) fun d s3 ⟨z,H3,I3,r3,k,e,q3⟩=>?_)) hm
 subst e
 cases r3
 refine wpAny_truthy_bool ?_
 cases k with
 | false=>exact ite_ff ⟨.bl false,H3,I3,rfl,q3⟩
 | true=>exact ite_tt (chain_last (A9 (hc pins s3 Y H3 _ I3 q3) fun w' s4 ⟨z',H4,I4,r4,q4⟩=>o3 pins s4 Y H4 y z' u w' Q I4 r2 r4 q4))
noncomputable def TruV (K:PySem.W.Frag) (x:V) (H:Hp) (k:Bool):Prop:=
 match x with
 | .non=>k=false
 | .bl b=>k=b
 | .int i=>k=(i != 0)
 | .str y=>y.length<=sizeLine/\k=((y.length:Int) != 0)
 | .byt y=>y.size<=sizeLine/\k=((y.size:Int) != 0)
 | .ref p=>(∃ xs,C7 K H p xs/\k=!xs.isEmpty)\/(∃ xs,C6 K H p xs/\k=!xs.isEmpty)\/∃ kvs,H p=some (.dK kvs)/\k=!kvs.isEmpty
 | _=>False
theorem ah9{κ:Type}{kvs:List (κ×V)}{vs:List (κ×Value)}(r:KV kvs vs):(!vs.isEmpty)=!kvs.isEmpty:=by
 cases r <;> rfl
theorem aeB{xs:List V}{its:List Value}(r:Vals xs its):(!its.toArray.isEmpty)=!xs.isEmpty:=by
 cases r <;> simp
theorem gM:(sizeLine:Nat)<2 ^ 63:=by rw [sizeLine_eq];decide
theorem aoQ:TruR X (fun x H Q=>∃ k,TruV X.K x H k/\Q k H):=by
 intro pins s Y H x v Q I rx h;obtain ⟨k,e,q⟩:=h;have hl:=gM;have hs:sizeLine=16777216:=sizeLine_eq
 cases x with
 | non=>
  cases rx
  have e':k=false:=e;subst e';exact truthy_none ⟨H,I,q⟩
 | bl b=>
  cases rx
  have e':k=b:=e;subst e';exact wpAny_truthy_bool ⟨H,I,q⟩
 | int i=>
  obtain ⟨t,rfl⟩:=rx;have e':k=(i != 0):=e;subst e';exact PySem.P.truthy_int ⟨H,I,q⟩
 | str y=>
  obtain ⟨t,rfl⟩:=rx;obtain ⟨hy,e'⟩:y.length<=sizeLine/\k=((y.length:Int) != 0):=e;subst e';exact PySem.P.truthy_str (by lia) ⟨H,I.tok _,q⟩
 | byt y=>
  obtain ⟨t,rfl⟩:=rx;obtain ⟨hy,e'⟩:y.size<=sizeLine/\k=((y.size:Int) != 0):=e;subst e';exact PySem.W.truthy_bytes (by lia) ⟨H,I.tok _,q⟩
 | ref p=>
  cases rx
  have e':(∃ xs,C7 X.K H p xs/\k=!xs.isEmpty)\/(∃ xs,C6 X.K H p xs/\k=!xs.isEmpty)\/∃ kvs,H p=some (.dK kvs)/\k=!kvs.isEmpty:=e
  rcases e' with ⟨xs,hx,e'⟩ | ⟨xs,hx,e'⟩ | ⟨kvs,hx,e'⟩
  .subst e';obtain ⟨its,r,pl,hz⟩:=I.list hx;have A7:=r.length;exact wpAny_truthy_list pl.isList (by simp only [F6];lia) ⟨H,I.tok _,by rw [aeB r];exact q⟩
  .subst e';obtain ⟨its,r,pl,hz⟩:=I.tuple hx;have A7:=r.length;exact truthy_tuple pl (by simp only [F6];lia) ⟨H,I.tok _,by rw [aeB r];exact q⟩
  .subst e';obtain ⟨hz,hS,vs,r,m⟩:kvs.length<=sizeLine/\(p==sysModules)=false/\∃ vs,KV kvs vs/\s.heap.DictOf (N9 X.prog X.w) p vs:=I.hok p _ hx;have A7:kvs.length=vs.length:=Paired.length r;exact wpAny_truthy_dict hS m (by lia) ⟨H,I.tok _,by rw [ah9 r];exact q⟩
 | _=>exact (show False from e).elim
theorem akL(ha:PE X a ta)(he:∀ whole,isTrue a X.env whole=(do let v <- whole;standAt a.pos;holding [v] (truthy v))) :
  PT X a (fun Y H Q=>ta Y H fun x H'=>∃ k,TruV X.K x H' k/\Q k H'):=by
 intro pins s Y H Q I h;exact isTrue_plain (A9 (ha pins s Y H _ I h) fun v s1 ⟨x,H1,I1,r1,q1⟩=>aoQ pins s1 Y H1 x v Q I1 r1 q1) (he _)
theorem aia:G8 X (binaryOp .Add) (fun x y H Q=>∃ i j,x=.str i/\y=.str j/\i.length+j.length<=sizeLine/\Q (.str (i++j)) H):=by
 intro pins s Y H x y v u Q I rx ry h;obtain ⟨i,j,rfl,rfl,hz,q⟩:=h;obtain ⟨t,rfl⟩:=rx;obtain ⟨t',rfl⟩:=ry;exact add_str (fun t' tk=>⟨.str (i++j),H,I.tok _,⟨_,rfl⟩,q⟩) hz
theorem vals1{x:V}{us:List Value}(r:Vals [x] us):∃ u,us=[u]/\RelV x u:=by
 cases r with
 | cons r1 r2=>cases r2;exact ⟨_,rfl,r1⟩
theorem vals2{x y:V}{us:List Value}(r:Vals [x,y] us):∃ u w',us=[u,w']/\RelV x u/\RelV y w':=by
 cases r with
 | cons r1 r2=>
  cases r2 with
  | cons r3 r4=>cases r4;exact ⟨_,_,rfl,r1,r3⟩
theorem ai3(hc:X.calm=true):CallR X (.builtin "min") (fun xs H Q=>∃ i j,xs=[.int i,.int j]/\Q (.int (if j<i then j else i)) H):=by
 intro pins s Y H xs us Q I r h;obtain ⟨i,j,rfl,q⟩:=h;obtain ⟨u,w',rfl,⟨t,rfl⟩,⟨t',rfl⟩⟩:=vals2 r;refine min_two_ints (I.ok.hd hc) fun h' tk k=>⟨_,H,I.kept k,?_,q⟩
 by_cases hj:j<i
 .rw [if_pos hj,if_pos hj];exact ⟨_,rfl⟩
 .rw [if_neg hj,if_neg hj];exact ⟨_,rfl⟩
theorem ai4:CallR X (.type "int") (fun xs H Q=>(∃ i,xs=[.int i]/\Q (.int i) H)\/∃ k,xs=[.bl k]/\Q (.int (if k then 1 else 0)) H):=by
 intro pins s Y H xs us Q I r h
 rcases h with ⟨i,rfl,q⟩ | ⟨k,rfl,q⟩
 .obtain ⟨u,rfl,t,rfl⟩:=vals1 r;exact call_int_int ⟨.int i,H,I,⟨_,rfl⟩,q⟩
 .obtain ⟨u,rfl,r1⟩:=vals1 r
  cases r1
  exact call_int_bool ⟨.int (if k then 1 else 0),H,I.tok _,⟨_,rfl⟩,q⟩
theorem akM:CallR X (.builtin "ord") (fun xs H Q=>∃ x,xs=[.str x]/\x.length=1/\Q (.int (x.cps.getD 0 0:Nat)) H):=by
 intro pins s Y H xs us Q I r h;obtain ⟨x,rfl,hz,q⟩:=h;obtain ⟨u,rfl,t,rfl⟩:=vals1 r;exact ord_of_one hz ⟨.int _,H,I.tok _,⟨_,rfl⟩,q⟩
noncomputable def LenV (K:PySem.W.Frag) (x:V) (H:Hp) (n:Nat):Prop:=
 match x with
 | .str y=>y.length<=sizeLine/\n=y.length
 | .byt y=>y.size<=sizeLine/\n=y.size
 | .ref p=>(∃ xs,C7 K H p xs/\n=xs.length)\/∃ xs,C6 K H p xs/\n=xs.length
 | _=>False
theorem rV:CallR X (.builtin "len") (fun xs H Q=>∃ x n,xs=[x]/\LenV X.K x H n/\Q (.int n) H):=by
 intro pins s Y H xs us Q I r h;obtain ⟨x,n,rfl,e,q⟩:=h;obtain ⟨u,rfl,rx⟩:=vals1 r;have hl:=gM;have hs:sizeLine=16777216:=sizeLine_eq
 cases x with
 | str y=>
  obtain ⟨t,rfl⟩:=rx;obtain ⟨hy,e'⟩:y.length<=sizeLine/\n=y.length:=e;subst e';exact len_str (by lia) ⟨.int _,H,I.tok _,⟨_,rfl⟩,q⟩
 | byt y=>
  obtain ⟨t,rfl⟩:=rx;obtain ⟨hy,e'⟩:y.size<=sizeLine/\n=y.size:=e;subst e';exact PySem.W.len_bytes (by lia) ⟨.int _,H,I.tok _,⟨_,rfl⟩,q⟩
 | ref p=>
  cases rx
  have e':(∃ xs,C7 X.K H p xs/\n=xs.length)\/∃ xs,C6 X.K H p xs/\n=xs.length:=e
  rcases e' with ⟨xs,hx,e'⟩ | ⟨xs,hx,e'⟩
  .subst e';obtain ⟨its,r',pl,hz⟩:=I.list hx;have A7:=r'.length;exact Calls.call_len_list pl.isList (by simp only [F6];lia) ⟨.int xs.length,H,I.tok _,⟨_,by simp only [F6];rw [A7]⟩,q⟩
  .subst e';obtain ⟨its,r',pl,hz⟩:=I.tuple hx;have A7:=r'.length;exact len_tuple pl (by simp only [F6];lia) ⟨.int xs.length,H,I.tok _,⟨_,by simp only [F6];rw [A7]⟩,q⟩
 | _=>exact (show False from e).elim
end
end L2
namespace L2
open PySem PySem.Spec PyProof.Rows
structure ObjM(h:Heap)(x dx C:Addr)(mA:Str->Option Value):Prop where
 obj:h.get? x=some (bQ C dx)
 ns:h.Ns1 dx mA
 ne:dx≠x
theorem ai5{h:Heap}{dx:Addr}{mA:Str->Option Value}(n:h.Ns1 dx mA):∃ od,h.get? dx=some od/\∀ name,PySem.W.lookIn name od=some (mA name):=by
 obtain ⟨o,es,ep,ho,hd,hk,_,hm⟩:=n;refine ⟨o,ho,fun name=>?_⟩;have e:=hm name;unfold nsFind findBy at e;rw [<- Array.find?_toList] at e;unfold PySem.W.lookIn;rw [hd]
 dsimp only
 split
 .rename_i y q
  rw [q] at e;exact congrArg some e
 .rename_i q
  rw [q] at e;have a:es.toList.any (·.refKey)=false:=by
   rw [List.any_eq_false];intro y hy;obtain ⟨z,t,Q6⟩:=hk y (Array.mem_toList_iff.mp hy);simp [DictEntry.refKey,Q6]
  have a':¬ es.toList.any (·.refKey)=true:=by rw [a];exact L5
  rw [if_neg a'];exact congrArg some e
theorem ObjM.look{h:Heap}{x dx C:Addr}{mA:Str->Option Value}(I:ObjM h x dx C mA):∃ od,PySem.W.InstAt h x (bQ C dx) C (some od)/\∀ name,PySem.W.lookIn name od=some (mA name):=
 let ⟨od,ho,hl⟩:=ai5 I.ns
 ⟨od,⟨I.obj,rfl,rfl,ho⟩,hl⟩
section
variable {prog:Program} {w:World} {A:Around} {E:Value->Shared->Prop} {s:Shared} {K:PySem.W.Frag} {x dx C f:Addr} {mA:Str->Option Value} {name:Str} {v:Value}
theorem amS{expr:Bool}{Q:Value->Shared->Prop}(X:K.In s.heap)(I:ObjM s.heap x dx C mA)(hg:jU K C name=true)(hh:PySem.W.hasDictIn K C=true)(ha:R0 K (.ref C) name=some none)(hv:mA name=some v)(qF:PySem.W.handedIn v=true)(h:Q v { s with toks:=s.toks+1 }) :
  wpAny (model prog w) A (getAttr (.ref x) name expr) Q E s:=by
 obtain ⟨od,J,hl⟩:=I.look;exact PySem.W.get_value X J (PySem.W.plainGet_of hg).1 (PySem.W.findObj_own hh ha rfl (by rw [hl,hv])) qF h
theorem akN{pl:Sem Bool}{Q:Value×List Value->Shared->Prop}(X:K.In s.heap)(I:ObjM s.heap x dx C mA)(hg:jU K C name=true)(hf:R0 K (.ref C) name=some (some (.ref f)))(ht:PySem.W.isFn K (.ref f)=true)(hv:mA name=none)(h:Q (.ref f,[.ref x]) s) :
  wpAny (model prog w) A (getMethod (.ref x) name pl) Q E s:=by
 obtain ⟨od,J,hl⟩:=I.look;exact PySem.W.method_fn X J (PySem.W.plainGet_of hg).1 (PySem.W.plainGet_of hg).2 hf (beq_iff_eq.mp ht) (by show (PySem.W.lookIn name od).map (·.isSome)=some false;rw [hl,hv];rfl) h
theorem amT{ns:List Str}{Q:Unit->Shared->Prop}(X:K.In s.heap)(I:ObjM s.heap x dx C mA)(hs:R0 K (.ref C) "__setattr__"=some (some (.builtin "object.__setattr__")))(hp:PySem.W.plainOver K C=true)(ht:PySem.W.takerIn K C name=some none)(hh:PySem.W.hasDictIn K C=true)(hw:PySem.Within mA ns)(hsz:ns.length<=sizeLine)(h:∀ h',ObjM h' x dx C (fun y=>if y=name then some v else mA y)->Heap.SameBut dx s.heap h'->Q () { s with heap:=h',toks:=s.toks+2 }) :
  wpAny (model prog w) A (setAttr (.ref x) name v) Q E s:=by
 obtain ⟨od,J,hl⟩:=I.look;refine PySem.W.set_plain X J hs (PySem.W.osa_open (s:={ s with toks:=s.toks+1 }) (r:=none) X J hp ht fun b=>?_);obtain ⟨cd,hc,eW⟩:=PySem.W.any_some hh;have hx:s.heap.get? x=some ⟨.ref C,some dx,.plain,#[]⟩:=I.obj;refine wpAny_bind (wpAny_pure (wpAny_bind (wpAny_bind (wpAny_loadPart hx (wpAny_bind (PySem.W.Looks.here (s:={ s with toks:=s.toks+1 }) (PySem.W.looks_clsIn X hc) ?_))))));rw [eW];refine wpAny_pure (a:=some dx) (wpAny_bind (wpAny_pure (wpAny_bind ?_)));refine wpAny_nsSet1 (s:={ s with toks:=s.toks+1 }) I.ns fun h' qG aS=>?_
 obtain ⟨oD,esD,epD,hoD,hdD,hcD⟩:=qG.count (PySem.Within.cons name v hw);refine wpAny_bind (wpAny_lookBehind hoD (by rw [hdD];exact pastItsLine_dict (L4 hcD (by rw [K9];lia))) ?_);exact wpAny_pure (h _ ⟨(aS.2 _ (Ne.symm I.ne)).trans I.obj,qG,I.ne⟩ aS)
theorem akO{R:Result->Shared->Prop}{vs:List Value}{kw:List (Str×Value)}(X:K.In s.heap)(hm:PySem.W.makesIn K C=true)(hi:R0 K (.ref C) "__init__"=some (some (.ref f)))(hf:PySem.W.typeIn K (.ref f)=some (.type "function"))(h:codeAny (model prog w) (A.under (.builtin "type.__call__" ⟨.ref C::vs,kw⟩)) (.call (.ref f) ⟨.ref (s.heap.objs.size+1)::vs,kw⟩) (PySem.W.InitBack (s.heap.objs.size+1) R)
   { s with heap:=(s.heap.push y9).push (bQ C s.heap.objs.size) }) :
  codeAny (model prog w) A (.call (.ref C) ⟨vs,kw⟩) R s:=by
 obtain ⟨hh,g,d,t,os⟩:=s;exact PySem.W.make_core (PySem.W.makes_of X hm) (PySem.W.looks_findIn X hi) (fun self=>PySem.W.bind_fn X self hf) (.inl rfl) h
end
noncomputable def putF (f:Str) (v:V):List (Str×V)->List (Str×V)
 | []=>[(f,v)]
 | (g,x)::r=>if g=f then (g,v)::r else (g,x)::putF f v r
theorem N5(f g:Str)(v:V):∀ fs:List (Str×V),(putF f v fs).lookup g=if g=f then some v else fs.lookup g
 | []=>by
  show bO g [(f,v)]=_
  by_cases h:g=f
  .have hb:(g==f)=true:=beq_iff_eq.mpr h;simp only [bO,hb,if_pos h]
  .have hb:(g==f)=false:=beq_eq_false_iff_ne.mpr h;simp only [bO,hb,if_neg h]
 | (k,x)::r=>by
  have ih:=N5 f g v r;rw [show putF f v ((k,x)::r)=(if k=f then (k,v)::r else (k,x)::putF f v r) from rfl]
  by_cases hk:k=f
  .rw [if_pos hk]
   by_cases h:g=k
   .have hb:(g==k)=true:=beq_iff_eq.mpr h;simp only [bO,hb,if_pos (h.trans hk)]
   .have hb:(g==k)=false:=beq_eq_false_iff_ne.mpr h;simp only [bO,hb,if_neg (fun e:g=f=>h (e.trans hk.symm))]
  .rw [if_neg hk]
   by_cases h:g=k
   .have hb:(g==k)=true:=beq_iff_eq.mpr h;simp only [bO,hb,if_neg (fun e:g=f=>hk (h.symm.trans e))]
   .have hb:(g==k)=false:=beq_eq_false_iff_ne.mpr h;simp only [bO,hb];exact ih
theorem rW(f:Str)(v:V):∀ fs:List (Str×V),f∈(putF f v fs).map (·.1)/\∀ g,g∈fs.map (·.1)->g∈(putF f v fs).map (·.1)
 | []=>⟨by simp [putF],fun g h=>by simp at h⟩
 | (k,x)::r=>by
  obtain ⟨i1,i2⟩:=rW f v r;rw [show putF f v ((k,x)::r)=(if k=f then (k,v)::r else (k,x)::putF f v r) from rfl]
  by_cases hk:k=f
  .rw [if_pos hk];subst hk;exact ⟨by simp,fun g h=>by simpa using h⟩
  .rw [if_neg hk];refine ⟨?_,fun g h=>?_⟩
   .rw [K0];exact L6 _ i1
   .rw [K0] at h ⊢
    rcases E5.mp h with e | e
    .exact E5.mpr (.inl e)
    .exact L6 _ (i2 g e)
theorem rX(f:Str)(v:V):∀ fs:List (Str×V),(putF f v fs).length<=fs.length+1
 | []=>by simp [putF]
 | (k,x)::r=>by
  have ih:=rX f v r;rw [show putF f v ((k,x)::r)=(if k=f then (k,v)::r else (k,x)::putF f v r) from rfl]
  by_cases hk:k=f
  .rw [if_pos hk,K9,K9];lia
  .rw [if_neg hk,K9,K9];lia
theorem nY{v:V}{o:Option Value}(r:RelO (some v) o):∃ u,o=some u/\RelV v u:=by
 cases o with
 | none=>exact (show False from r).elim
 | some u=>exact ⟨u,rfl,r⟩
theorem RelO.none_of{o:Option Value}(r:RelO none o):o=none:=by
 cases o with
 | none=>rfl
 | some u=>exact (show False from r).elim
theorem ai6{v:V}{u:Value}(r:RelV v u):PySem.W.handedIn u=true:=by
 cases v with
 | non=>cases (show u=Value.none from r);rfl
 | bl b=>cases (show u=Value.bool b from r);rfl
 | int i=>obtain ⟨t,e⟩:=(show ∃ t,u=Value.int i t from r);cases e;rfl
 | str x=>obtain ⟨t,e⟩:=(show ∃ t,u=Value.str x t from r);cases e;rfl
 | byt b=>obtain ⟨t,e⟩:=(show ∃ t,u=Value.bytes b t from r);cases e;rfl
 | flt b=>obtain ⟨t,e⟩:=(show ∃ t,u=Value.float b t from r);cases e;rfl
 | ref a=>cases (show u=Value.ref a from r);rfl
 | ty n=>cases (show u=Value.type n from r);rfl
section
variable {P:Program} {w:World} {H H':Hp} {h h':Heap} {a C dx:Addr} {fs fs':List (Str×V)}
theorem nZ(hok:L8 P w H h)(e:H a=some (.ins C dx fs)):∃ mA,ObjM h a dx C mA/\(∀ f,RelO (fs.lookup f) (mA f))/\PySem.Within mA (fs.map (·.1))/\fs.length<=1000/\H dx=some (.own a):=by
 obtain ⟨d,z,ne,ob,mA,n,r,q⟩:=(show ObjOk P w H h a (.ins C dx fs) from hok a _ e)
 exact ⟨mA,⟨ob,n,ne⟩,r,q,z,d⟩
end
structure Cls(K:PySem.W.Frag)(C:Addr):Prop where
 pg:jU K C Str.empty=true
 hd:PySem.W.hasDictIn K C=true
 po:PySem.W.plainOver K C=true
 sa:R0 K (.ref C) "__setattr__"=some (some (.builtin "object.__setattr__"))
theorem Cls.get{K:PySem.W.Frag}{C:Addr}(c:Cls K C)(f:Str):jU K C f=true:=c.pg
noncomputable def NoAttr (K:PySem.W.Frag) (C:Addr) (f:Str):Prop:=R0 K (.ref C) f=some none
theorem NoAttr.taker{K:PySem.W.Frag}{C:Addr}{f:Str}(n:NoAttr K C f):PySem.W.takerIn K C f=some none:=by
 unfold PySem.W.takerIn;rw [show R0 K (.ref C) f=some none from n];rfl
structure Meth(K:PySem.W.Frag)(C:Addr)(m:Str)(f:Addr):Prop where
 at_:R0 K (.ref C) m=some (some (.ref f))
 fn:PySem.W.isFn K (.ref f)=true
 kp:V9 K (.ref f)=true
section
variable {X:Cx} {pins:List (Addr×Obj)} {Y:St} {H:Hp} {s:Shared} {a C dx:Addr} {fs:List (Str×V)} {f:Str} {v:V} {A:Around} {E:Value->Shared->Prop}
theorem aib{b:Bool}{Q:Value->Shared->Prop}(I:Inv X pins Y H s)(e:H a=some (.ins C dx fs))(c:Cls X.K C)(n:NoAttr X.K C f)(l:fs.lookup f=some v)(h:∀ u s',Inv X pins Y H s'->RelV v u->Q u s'):wpAny (model X.prog X.w) A (getAttr (.ref a) f b) Q E s:=by
 obtain ⟨mA,O,r,_,_,_⟩:=nZ I.hok e;obtain ⟨u,hu,ru⟩:=nY (v:=v) (o:=mA f) (by rw [<- l];exact r f);exact amS I.kIn O (c.get f) c.hd n hu (ai6 ru) (h u _ (I.tok _) ru)
theorem aeD{m:Str}{g:Addr}{pl:Sem Bool}{Q:Value×List Value->Shared->Prop}(I:Inv X pins Y H s)(e:H a=some (.ins C dx fs))(c:Cls X.K C)(k:Meth X.K C m g)(l:fs.lookup m=none)(h:Q (.ref g,[.ref a]) s):wpAny (model X.prog X.w) A (getMethod (.ref a) m pl) Q E s:=by
 obtain ⟨mA,O,r,_,_,_⟩:=nZ I.hok e;have hn:mA m=none:=RelO.none_of (by rw [<- l];exact r m);exact akN I.kIn O (c.get m) k.at_ k.fn hn h
theorem aic{y:V}{u:Value}{Q:Unit->Shared->Prop}(I:Inv X pins Y H s)(e:H a=some (.ins C dx fs))(c:Cls X.K C)(n:NoAttr X.K C f)(hl:fs.length<1000)(ry:RelV y u)(h:∀ s',Inv X pins Y (A0 H a (.ins C dx (putF f y fs))) s'->Q () s'):wpAny (model X.prog X.w) A (setAttr (.ref a) f u) Q E s:=by
 obtain ⟨mA,O,r,wi,_,ho⟩:=nZ I.hok e;have hz:(fs.map (·.1)).length<=sizeLine:=by rw [A4,sizeLine_eq];lia
 refine amT I.kIn O c.sa c.po n.taker c.hd wi hz fun h' O' sb=>h _ ?_
 have hd:∃ o,h'.get? dx=some o:=let ⟨o,_,_,e',_⟩:=O'.ns;⟨o,e'⟩
 refine I.write (x:=a) (e:=dx) (by rw [e];exact True.intro) (.inr ho) (fun b q hb z=>(sb.2 b hb).trans z) hd ?_;refine ⟨by rw [A3 O.ne];exact ho,?_,O.ne,O'.obj,_,O'.ns,fun g=>?_,fun g hg=>?_⟩
 .have:=rX f y fs;lia
 .show RelO ((putF f y fs).lookup g) (if g=f then some u else mA g);rw [N5]
  by_cases q:g=f
  .rw [if_pos q,if_pos q];exact ry
  .rw [if_neg q,if_neg q];exact r g
 .by_cases q:g=f
  .rw [q];exact (rW f y fs).1
  .refine (rW f y fs).2 g (wi g fun z=>hg ?_);show (if g=f then some u else mA g)=none;rw [if_neg q];exact z
theorem Inv.made(I:Inv X pins Y H s):Inv X pins Y (A0 (A0 H s.heap.objs.size (.own (s.heap.objs.size+1))) (s.heap.objs.size+1) (.ins C s.heap.objs.size []))
  { s with heap:=(s.heap.push y9).push (bQ C s.heap.objs.size) }:=by
 have e1:(s.heap.push y9).get? s.heap.objs.size=some y9:=Heap.get?_push_size s.heap rfl;have e2:((s.heap.push y9).push (bQ C s.heap.objs.size)).get? (s.heap.objs.size+1)=some (bQ C s.heap.objs.size):=by
  have:=Heap.get?_push_size (s.heap.push y9) (o:=bQ C s.heap.objs.size) rfl
  rwa [Heap.size_push] at this
 have e3:(s.heap.push y9).Ns s.heap.objs.size (fun _=>none):=⟨y9,#[],_,e1,rfl,(fun e he=>absurd he (by simp)),fun _=>rfl⟩
 have I1:=I.laid (a:=s.heap.objs.size) (o:=.own (s.heap.objs.size+1)) (h':=s.heap.push y9) (t':=s.toks) (fun b u q=>Heap.get?_push_of_some _ q) (A8 _) ⟨_,e1⟩;refine I1.laid (a:=s.heap.objs.size+1) (o:=.ins C s.heap.objs.size []) (t':=s.toks) (fun b u q=>Heap.get?_push_of_some _ q) (Nat.le_of_eq (Heap.size_push _ _)) ?_;have ne:s.heap.objs.size≠s.heap.objs.size+1:=K3 (Nat.lt_succ_self _);refine ⟨by rw [A3 ne,A2],G3 _,ne,e2,fun _=>none,(Heap.Ns1.of_empty e3).at fun o q=>Heap.get?_push_of_some _ q,fun _=>True.intro,fun y hy=>absurd rfl hy⟩
theorem amU{prog:Program}{w:World}{env:Env}{e:Expr}{f:Str}{pos:Pos}{s:Shared}{Q:Value->Shared->Prop}(hb:attributeBase e f env (eval e env)=eval e env)(h:wpAny (model prog w) A (eval e env) (fun o zu=>wpAny (model prog w) A (getAttr o f true) Q E zu) E s):wpAny (model prog w) A (eval (.Attribute e f pos) env) Q E s:=
 Attribute_any_ h (by rw [arm_eval_Attribute,hb])
end
noncomputable def tFld (K:PySem.W.Frag) (ta:TE) (f:Str):TE:=fun Y H Q=>ta Y H fun x H1=>∃ a C dx fs v,x=.ref a/\H1 a=some (.ins C dx fs)/\Cls K C/\NoAttr K C f/\fs.lookup f=some v/\Q v H1
noncomputable def sFld (K:PySem.W.Frag) (ta tv:TE) (f:Str):TS:=fun D Y H=>tv Y H fun y H1=>ta Y H1 fun x H2=>∃ a C dx fs,x=.ref a/\H2 a=some (.ins C dx fs)/\Cls K C/\NoAttr K C f/\fs.length<1000/\
 D.nx Y (A0 H2 a (.ins C dx (putF f y fs)))
noncomputable def InOp (X:Cx) (op:Operator) (rd:V->V->Hp->VK->Prop):Prop:=
 ∀ (pins:List (Addr×Obj)) (s:Shared) (Y:St) (H:Hp) (x y:V) (u v:Value) (Q:VK),Inv X pins Y H s->RelV x u->RelV y v->rd x y H Q->wpAny (model X.prog X.w) X.A (inplaceOp op u v) (EP X pins Y Q) X.xe s
section
variable {X:Cx} {o e value:Expr} {f:Str} {pos pos' tpos:Pos} {ta tv:TE}
theorem aoR(he:PE X e ta)(hb:attributeBase e f X.env (eval e X.env)=eval e X.env):PE X (.Attribute e f pos) (tFld X.K ta f):=by
 intro pins s Y H Q I h;refine amU hb (A9 (he pins s Y H _ I h) fun u s1 ⟨x,H1,I1,rx,a,C,dx,fs,v,ex,ea,c,n,l,q⟩=>?_);subst ex;obtain rfl:u=Value.ref a:=rx;exact aib I1 ea c n l fun u' s2 I2 ru=>⟨v,H1,I2,ru,q⟩
theorem aoS(ha:PE X o ta)(hv:PE X value tv)(hs:swapsWith value (some (.Attribute o f pos')) pos.line X.env=pure false):PS X (.Assign [.Attribute o f pos'] value pos) (sFld X.K ta tv f):=by
 intro pins s Y H D I h;refine plainObj_wpAny_Assign_Attribute (A9 (hv pins s Y H _ I h) fun u s1 ⟨y,H1,I1,ry,q⟩=>A9 (ha pins s1 Y H1 _ I1 q) fun ov s2 ⟨x,H2,I2,rx,a,C,dx,fs,ex,ea,c,n,l,q2⟩=>?_) hs;subst ex;obtain rfl:ov=Value.ref a:=rx;exact aic I2 ea c n l ry fun s3 I3=>⟨Y,_,I3,q2⟩
noncomputable def rAdd:V->V->Hp->VK->Prop:=fun x y H Q=>∃ i j,x=.int i/\y=.int j/\Q (.int (i+j)) H
noncomputable def rSub:V->V->Hp->VK->Prop:=fun x y H Q=>∃ i j,x=.int i/\y=.int j/\Q (.int (i-j)) H
theorem aoT:InOp X .Add rAdd:=by
 rintro pins s Y H x y u v Q I rx ry ⟨i,j,rfl,rfl,q⟩;obtain ⟨t,rfl⟩:=(show ∃ t,u=Value.int i t from rx)
 obtain ⟨t',rfl⟩:=(show ∃ t',v=Value.int j t' from ry)
 exact PyProof.Rows.iadd_int ⟨.int (i+j),H,I.tok _,⟨_,rfl⟩,q⟩
theorem aoU:InOp X .Sub rSub:=by
 rintro pins s Y H x y u v Q I rx ry ⟨i,j,rfl,rfl,q⟩;obtain ⟨t,rfl⟩:=(show ∃ t,u=Value.int i t from rx)
 obtain ⟨t',rfl⟩:=(show ∃ t',v=Value.int j t' from ry)
 exact PyProof.Rows.isub_int ⟨.int (i-j),H,I.tok _,⟨_,rfl⟩,q⟩
end
section
variable {X:Cx} {pins:List (Addr×Obj)} {Y:St} {H:Hp} {s:Shared} {A:Around} {E:Value->Shared->Prop} {Q:Value->Shared->Prop} {c:Value} {b:Bool}
inductive TyOf (K:PySem.W.Frag) (H:Hp):V->Value->Prop where
 | non:TyOf K H .non (.type "NoneType")
 | bl (x:Bool):TyOf K H (.bl x) (.type "bool")
 | int (i:Int):TyOf K H (.int i) (.type "int")
 | str (x:Str):TyOf K H (.str x) (.type "str")
 | flt (x:UInt64):TyOf K H (.flt x) (.type "float")
 | lst {a:Addr} {xs:List V} (e:H a=some (.lst xs)):TyOf K H (.ref a) (.type "list")
 | frz {a:Addr} {o:Obj} {xs:List V} (e:H a=some (.frz o (.lst xs))):TyOf K H (.ref a) (.type "list")
 | tup {a:Addr} {xs:List V} (e:H a=some (.tup xs)):TyOf K H (.ref a) (.type "tuple")
 | dK {a:Addr} {kvs:List (C1×V)} (e:H a=some (.dK kvs)):TyOf K H (.ref a) (.type "dict")
 | dT {a:Addr} {kvs:List (List C1×V)} (e:H a=some (.dT kvs)):TyOf K H (.ref a) (.type "dict")
 | ins {a C dx:Addr} {fs:List (Str×V)} (e:H a=some (.ins C dx fs)) (cl:Cls K C) (ha:R0 K (.ref C) "__class__"=some (some (.builtin "object.__class__")))
   (hn:PySem.W.specialIn K (.builtin "object.__class__") "__get__"=some (some (.builtin "getset_descriptor.__get__"))) (eY:PySem.W.takesIn K (.builtin "object.__class__")=some true)
   (hm:PySem.W.mroIn K C (.type "object")=some true):TyOf K H (.ref a) (.ref C)
theorem ai7{x:V}{u t:Value}(I:Inv X pins Y H s)(rx:RelV x u)(ty:TyOf X.K H x t)(e:PySem.W.kitOne X.K t c=some b)(h:∀ tk,Q (.bool b) { s with toks:=tk }) :
  wpAny (model X.prog X.w) A (call (.builtin "isinstance") [u,c]) Q E s:=by
 cases ty with
 | non=>cases (show u=Value.none from rx);exact l8 PySem.W.kitx_none I.kIn True.intro e (fun z=>nomatch z) h
 | bl y=>cases (show u=Value.bool y from rx);exact l8 PySem.W.kitx_bool I.kIn True.intro e (fun z=>nomatch z) h
 | int i=>obtain ⟨t,q⟩:=(show ∃ t,u=Value.int i t from rx);cases q;exact l8 PySem.W.kitx_int I.kIn True.intro e (fun z=>nomatch z) h
 | str y=>obtain ⟨t,q⟩:=(show ∃ t,u=Value.str y t from rx);cases q;exact l8 PySem.W.kitx_str I.kIn True.intro e (fun z=>nomatch z) h
 | flt y=>obtain ⟨t,q⟩:=(show ∃ t,u=Value.float y t from rx);cases q;exact l8 PySem.W.kitx_float I.kIn True.intro e (fun z=>nomatch z) h
 | @lst a xs ea=>
  cases (show u=Value.ref a from rx)
  obtain ⟨_,_,n,_,h1⟩:=(show ObjOk X.prog X.w H s.heap a (.lst xs) from I.hok a _ ea)
  exact l8 PySem.W.kitx_list I.kIn ⟨_,h1,rfl⟩ e (fun z=>nomatch z) h
 | @frz a ob xs ea=>
  cases (show u=Value.ref a from rx)
  obtain ⟨_,_,_,n,_,h1⟩:=(show ObjOk X.prog X.w H s.heap a (.frz ob (.lst xs)) from I.hok a _ ea)
  exact l8 PySem.W.kitx_list I.kIn ⟨_,h1,rfl⟩ e (fun z=>nomatch z) h
 | @tup a xs ea=>
  cases (show u=Value.ref a from rx)
  obtain ⟨_,_,_,p⟩:=(show ObjOk X.prog X.w H s.heap a (.tup xs) from I.hok a _ ea)
  obtain ⟨o,h1,h2,_⟩:=p;exact l8 PySem.W.kitx_tuple I.kIn ⟨o,h1,h2⟩ e (fun z=>nomatch z) h
 | @dK a kvs ea=>
  cases (show u=Value.ref a from rx)
  obtain ⟨_,_,vs,_,p⟩:=(show ObjOk X.prog X.w H s.heap a (.dK kvs) from I.hok a _ ea)
  obtain ⟨o,es,ep,h1,h2,_⟩:=p;exact l8 PySem.W.kitx_dict I.kIn ⟨o,h1,h2.1⟩ e (fun z=>nomatch z) h
 | @dT a kvs ea=>
  cases (show u=Value.ref a from rx)
  obtain ⟨_,_,xs,_,o,es,ep,h1,h2,_⟩:=(show ObjOk X.prog X.w H s.heap a (.dT kvs) from I.hok a _ ea)
  exact l8 PySem.W.kitx_dict I.kIn ⟨o,h1,h2.1⟩ e (fun z=>nomatch z) h
 | @ins a C dx fs ea cl ha hn eY hm=>
  cases (show u=Value.ref a from rx)
  obtain ⟨mA,O,_⟩:=nZ I.hok ea;obtain ⟨od,J,_⟩:=O.look;exact l8 (PySem.W.kitx_own (cl.get _) cl.hd ha hn eY hm) I.kIn J e (fun z=>nomatch z) h
end
end L2
namespace L2
open PySem PySem.Spec PyProof.Rows
structure Room(k:Nat)(A:Around):Prop where
 hd:A.handled=none
 dp:A.depth+3*k+5<recursionLimit
 un:A.units+16*k+200<cLine
 gd:A.guards=some []
theorem Room.mono{j k:Nat}{A:Around}(r:Room k A)(h:j<=k):Room j A:=⟨r.hd,by have:=r.dp;lia,by have:=r.un;lia,r.gd⟩
theorem Room.deeper{k:Nat}{A:Around}(r:Room (k+1) A)(env:Env):Room k (A.deeper env):=
 ⟨r.hd,by have:=r.dp;show A.depth+1+3*k+5<_;lia,by have:=r.un;show A.units+3+16*k+200<_;lia,r.gd⟩
theorem Room.in1{k:Nat}{A:Around}(r:Room (k+1) A):Room k A.in1:=
 ⟨r.hd,by have:=r.dp;show A.depth+3*k+5<_;lia,by have:=r.un;show A.units+1+16*k+200<_;lia,r.gd⟩
theorem aid{A:Around}{C:Addr}{us:List Value}{kw:List (Str×Value)} : (A.under (.builtin "type.__call__" ⟨.ref C::us,kw⟩)).depth=A.depth+1:=by
 first | rfl | simp [Around.under,Code.weight,Code.isCreation,Code.isGuard,Code.isCaller,Code.frames,Code.isFrame,guardIds]
theorem aie{A:Around}{C:Addr}{us:List Value}{kw:List (Str×Value)} : (A.under (.builtin "type.__call__" ⟨.ref C::us,kw⟩)).units=A.units+1:=by
 first | rfl | simp [Around.under,Code.cUnits,Code.frames,Code.isFrame]
theorem Room.make{k:Nat}{A:Around}(r:Room (k+1) A)(C:Addr)(us:List Value)(kw:List (Str×Value)):Room k (A.under (.builtin "type.__call__" ⟨.ref C::us,kw⟩)):=
 ⟨r.hd,by have:=r.dp;rw [aid];lia,by have:=r.un;rw [aie];lia,r.gd⟩
theorem Room.depth{k:Nat}{A:Around}(r:Room k A):A.depth<recursionLimit:=by have:=r.dp;lia
theorem Room.units{k:Nat}{A:Around}(r:Room k A):A.units+64<cLine:=by have:=r.un;lia
noncomputable def tNil:TA:=fun _ H Q=>Q [] H
noncomputable def tCons (ta:TE) (tr:TA):TA:=fun Y H Q=>ta Y H fun x H1=>tr Y H1 fun xs H2=>Q (x::xs) H2
section
variable {X:Cx} {e:Expr} {es:List Expr} {te:TE} {t:TA} {pos:Pos}
theorem aoV:PA X [] tNil:=fun _ _ _ _ H Q I h=>Calls.spliced_nil ⟨[],H,I,.nil,h⟩
theorem amV(ha:PE X e te)(hr:PA X es t)(hs:starEach (e::es) X.env=(false,eval e X.env)::starEach es X.env:=by rfl):PA X (e::es) (tCons te t):=by
 intro pos pins s Y H Q I h;rw [hs];show wpAny _ _ (spliced ((false,eval e X.env)::backTo pos (starEach es X.env))) _ _ s;refine Calls.spliced_cons (A9 (ha pins s Y H _ I h) fun u s1 ⟨x,H1,I1,r1,q1⟩=>?_);exact A9 (hr pos pins s1 Y H1 _ I1 q1) fun us s2 ⟨xs,H2,I2,r2,q2⟩=>⟨x::xs,H2,I2,.cons r1 r2,q2⟩
noncomputable def tTup (t:TA):TE:=fun Y H Q=>t Y H fun xs H1=>xs.length<=sizeLine/\∀ p,H1 p=none->Q (.ref p) (A0 H1 p (.tup xs))
noncomputable def tLst (t:TA):TE:=fun Y H Q=>t Y H fun xs H1=>xs.length<=sizeLine/\∀ p,H1 p=none->Q (.ref p) (A0 H1 p (.lst xs))
theorem aoW{x1}(h:PA X es t):PE X (.Tuple es x1 pos) (tTup t):=by
 intro pins s Y H Q I hq;refine wpAny_Tuple_spliced (A9 (h pos pins s Y H _ I hq) fun us s1 ⟨xs,H1,I1,r,z,q⟩=>⟨by rw [<- r.length];exact z,?_⟩);have hf:H1 s1.heap.objs.size=none:=I1.hok.fresh (A8 _);refine ⟨.ref s1.heap.objs.size,A0 H1 s1.heap.objs.size (.tup xs),I1.laid (t':=s1.toks) (fun b u e=>Heap.get?_push_of_some _ e) (A8 _) ?_,rfl,q _ hf⟩;exact ⟨z,us,r,⟨_,Heap.get?_push_size _ rfl,rfl,_,rfl⟩⟩
theorem aoX(h:PA X es t):PE X (.List es pos) (tLst t):=by
 intro pins s Y H Q I hq;refine wpAny_List_spliced (A9 (h pos pins s Y H _ I hq) fun us s1 ⟨xs,H1,I1,r,z,q⟩=>⟨by rw [<- r.length];exact z,?_⟩);have hf:H1 s1.heap.objs.size=none:=I1.hok.fresh (A8 _);refine ⟨.ref s1.heap.objs.size,A0 H1 s1.heap.objs.size (.lst xs),I1.laid (t':=s1.toks) (fun b u e=>Heap.get?_push_of_some _ e) (A8 _) ?_,rfl,q _ hf⟩;exact ⟨z,us,0,r,Heap.get?_push_size _ rfl⟩
end
noncomputable abbrev Sp:=List V->Hp->VK->XK->Prop
noncomputable abbrev Z9:=List Env->Hp->Shared->XK->Value->Shared->Prop
structure Env0(P:Program)(w:World)(K:PySem.W.Frag)(mg:Str->Option Value)(base:Heap)(A:Around)(outer:List Env)(s:Shared)(H:Hp):Prop where
 frames:A.frames=some outer
 mod:Mod K mg base
 bs:∀ b o,base.get? b=some o->s.heap.get? b=some o/\H b=none
 bsz:base.objs.size<=s.heap.objs.size
 funs:s.heap.FunFrames base outer
 frf:∀ b∈l9 outer,H b=none
 hok:L8 P w H s.heap
 bare:AllBare s.gens
noncomputable def CE (outer:List Env) (P:Program) (w:World) (H:Hp) (s:Shared) (Q:VK) (u:Value) (s':Shared):Prop:=
 ∃ v H',s'.os=s.os/\AllBare s'.gens/\Un (l9 outer) [] H H' s.heap s'.heap/\L8 P w H' s'.heap/\RelV v u/\Q v H'
noncomputable def CR (CX:Z9) (outer:List Env) (P:Program) (w:World) (H:Hp) (s:Shared) (Q:VK) (E:XK) (r:Result) (s':Shared):Prop:=
 match r with
 | .ok (.ret u)=>CE outer P w H s Q u s'
 | .ok _=>False
 | .error e=>CX outer H s E e s'
structure FnOk(P:Program)(w:World)(K:PySem.W.Frag)(mg:Str->Option Value)(base:Heap)(CX:Z9)(k:Nat)(f:Addr)(fd:FuncData)(ps:List Str)(sp:Sp):Prop where
 len:∀ vs H Q E,sp vs H Q E->vs.length=ps.length
 run:∀ (A:Around) (outer:List Env) (s:Shared) (H:Hp) (args:Args) (us:List Value) (vs:List V) (Q:VK) (E:XK),Room k A->Env0 P w K mg base A outer s H->BindsTo s fd args (ps.zip us)->Vals vs us->sp vs H Q E->
  codeAny (model P w) A (.call (.ref f) args) (CR CX outer P w H s Q E) s
theorem Env0.make{P:Program}{w:World}{K:PySem.W.Frag}{mg:Str->Option Value}{base:Heap}{A:Around}{outer:List Env}{s:Shared}{H:Hp}(e:Env0 P w K mg base A outer s H)(C:Addr)(us:List Value)(kw:List (Str×Value)) :
  Env0 P w K mg base (A.under (.builtin "type.__call__" ⟨.ref C::us,kw⟩)) outer s H:=⟨by first | exact e.frames | (simpa [Around.under,Code.envs,Code.isFrame,pushEnvs] using e.frames),e.mod,e.bs,e.bsz,e.funs,e.frf,e.hok,e.bare⟩
section
variable {X:Cx} {pins:List (Addr×Obj)} {Y:St} {H:Hp} {s s':Shared}
theorem Inv.env0(I:Inv X pins Y H s):Env0 X.prog X.w X.K X.mg X.base X.A X.stack s H:=
 ⟨I.ok.frames,I.ok.mod,I.bs,L4 I.ok.bsz I.sz,I.stack,I.stkFree,I.hok,I.bare⟩
theorem Inv.after{Q:VK}{u:Value}(I:Inv X pins Y H s)(h:CE X.stack X.prog X.w H s Q u s'):EP X pins Y Q u s':=by
 obtain ⟨v,H',os,bare,un,hok,r,q⟩:=h;obtain ⟨hh,g,d,t,os'⟩:=s';obtain rfl:os'=s.os:=os;exact ⟨v,H',I.call (h':=hh) (g':=g) (d':=d) (t':=t) (ch:=[]) un hok bare (fun b z=>absurd z (by simp)),r,q⟩
end
noncomputable def tCall (sp:Sp) (dvs:List V) (E:XK) (t:TA):TE:=fun Y H Q=>t Y H fun vs H1=>sp (vs++dvs) H1 Q E
noncomputable def tMeth (C:Addr) (m:Str) (sp:Sp) (dvs:List V) (E:XK) (ta:TE) (t:TA):TE:=fun Y H Q=>ta Y H fun x H1=>∃ a dx fs,x=.ref a/\H1 a=some (.ins C dx fs)/\fs.lookup m=none/\
 t Y H1 fun vs H2=>sp (x::(vs++dvs)) H2 Q E
noncomputable def tMake (C:Addr) (sp:Sp) (dvs:List V) (E:XK) (t:TA):TE:=fun Y H Q=>t Y H fun vs H1=>∀ x dx,H1 x=none->H1 dx=none->dx≠x->
 sp (.ref x::(vs++dvs)) (A0 (A0 H1 dx (.own x)) x (.ins C dx [])) (fun v H2=>v=.non/\Q (.ref x) H2) E
noncomputable def Binds (K:PySem.W.Frag) (fd:FuncData) (ps:List Str) (ds:List Value):Prop:=
 ∀ (s:Shared) (us:List Value),K.In s.heap->(us++ds).length=ps.length->BindsTo s fd ⟨us,[]⟩ (ps.zip (us++ds))
theorem Binds.all{K:PySem.W.Frag}{fd:FuncData}{ps:List Str}(h:∀ us:List Value,us.length=ps.length->bindArgs fd ⟨us,[]⟩=pure (ps.zip us)):Binds K fd ps []:=fun s us _ hl=>by
 rw [N0] at hl ⊢
 exact .of_eq (h us hl)
noncomputable def dY (CX:Z9) (X:Cx) (E:XK):Prop:=∀ (pins:List (Addr×Obj)) (Y:St) (H:Hp) (s:Shared) (e:Value) (s':Shared),Inv X pins Y H s->CX X.stack H s E e s'->X.xe e s'
section
variable {X:Cx} {CX:Z9} {k:Nat} {f C:Addr} {fd:FuncData} {ps:List Str} {sp:Sp} {dvs:List V} {ds:List Value} {E:XK} {x m:Str} {p pos apos:Pos} {e o:Expr} {es:List Expr} {ta:TE} {t:TA}
theorem rY{pins:List (Addr×Obj)}{Y:St}{H:Hp}{s:Shared}{Q:VK}{us:List Value}{vs:List V}(F:FnOk X.prog X.w X.K X.mg X.base CX k f fd ps sp)(hr:Room k X.A)(hb:Binds X.K fd ps ds)(hd:Vals dvs ds)(hx:dY CX X E)(I:Inv X pins Y H s)(r:Vals vs us)(h:sp (vs++dvs) H Q E):wpAny (model X.prog X.w) X.A (call (.ref f) us) (EP X pins Y Q) X.xe s:=by
 have r2:Vals (vs++dvs) (us++ds):=r.append hd;have hl:(us++ds).length=ps.length:=by rw [<- r2.length];exact F.len _ _ _ _ h
 refine wpAny_call (codeAny_mono (F.run X.A X.stack s H ⟨us,[]⟩ (us++ds) (vs++dvs) Q E hr I.env0 (hb s us I.kIn hl) r2 h) fun r s' hq=>?_)
 cases r with
 | error e=>exact hx pins Y H s e s' I hq
 | ok fl=>
  cases fl with
  | ret u=>exact I.after hq
  | next=>exact False.elim hq
  | brk=>exact False.elim hq
  | cont=>exact False.elim hq
theorem amW(F:FnOk X.prog X.w X.K X.mg X.base CX k f fd ps sp)(hr:Room k X.A)(hg:Gl X x)(hm:X.mg x=some (.ref f))(hk:V9 X.K (.ref f)=true)(hb:Binds X.K fd ps ds)(hd:Vals dvs ds)(hx:dY CX X E)(ha:PA X (e::es) t)(Q7:(x==("__debug__" : Str))=false:=by decide)(he:starEach (e::es) X.env=(false,eval e X.env)::starEach es X.env:=by rfl)(R4:(backTo pos (starEach es X.env)).any (·.1)=false:=by rfl) :
  PE X (.Call (.Name x p) (e::es) [] pos) (tCall sp dvs E t):=by
 intro pins s Y H Q I h;refine wpAny_Call_Name_kw (rK I hg hm ?_ Q7);refine PySem.W.callWith_K (h₀:=X.base) I.ok.mod.kin hk (A9 (ha pos pins s Y H _ I h) fun us s1 ⟨vs,H1,I1,r,q⟩=>⟨I1.kIn,?_⟩) he R4;exact rY F hr hb hd hx I1 r q
theorem amX{pl:Sem Bool}(he:PE X o ta)(c:Cls X.K C)(hm:Meth X.K C m f)(F:FnOk X.prog X.w X.K X.mg X.base CX k f fd ps sp)(hr:Room k X.A)(hb:Binds X.K fd ps ds)(hd:Vals dvs ds)(hx:dY CX X E)(ha:PA X (e::es) t)(X6:starEach (e::es) X.env=(false,eval e X.env)::starEach es X.env:=by rfl)(R4:(backTo pos (starEach es X.env)).any (·.1)=false:=by rfl)(ht:eval (.Call (.Attribute o m apos) (e::es) [] pos) X.env=(do
   let ov <- eval o X.env
   standAt apos.atName
   let (f,first) <- holding [ov] (getMethod ov m pl)
   callWith pos f first (backTo pos (starEach (e::es) X.env)) (backToKw pos (keywordEach [] X.env))):=by rfl) :
  PE X (.Call (.Attribute o m apos) (e::es) [] pos) (tMeth C m sp dvs E ta t):=by
 intro pins s Y H Q I h;refine PySem.W.methodCall_KW (pl:=pl) (A9 (he pins s Y H _ I h) fun u s1 ⟨x,H1,I1,rx,a,dx,fs,ex,ea,l,q⟩=>?_) ht;subst ex;obtain rfl:u=Value.ref a:=rx;refine aeD I1 ea c hm l ?_;refine PySem.W.callWith_K (first:=[.ref a]) (h₀:=X.base) I.ok.mod.kin hm.kp (A9 (ha pos pins s1 Y H1 _ I1 q) fun us s2 ⟨vs,H2,I2,r,q2⟩=>⟨I2.kIn,?_⟩) X6 R4;exact rY (us:=.ref a::us) (vs:=.ref a::vs) F hr hb hd hx I2 (.cons rfl r) q2
theorem akP{pl:Sem Bool}(he:PE X o ta)(c:Cls X.K C)(hm:Meth X.K C m f)(F:FnOk X.prog X.w X.K X.mg X.base CX k f fd ps sp)(hr:Room k X.A)(hb:Binds X.K fd ps ds)(hd:Vals dvs ds)(hx:dY CX X E)(ht:eval (.Call (.Attribute o m apos) [] [] pos) X.env=(do
   let ov <- eval o X.env
   standAt apos.atName
   let (f,first) <- holding [ov] (getMethod ov m pl)
   callWith pos f first (backTo pos (starEach [] X.env)) (backToKw pos (keywordEach [] X.env))):=by rfl) :
  PE X (.Call (.Attribute o m apos) [] [] pos) (tMeth C m sp dvs E ta tNil):=by
 intro pins s Y H Q I h;refine PySem.W.methodCall_KW (pl:=pl) (A9 (he pins s Y H _ I h) fun u s1 ⟨x,H1,I1,rx,a,dx,fs,ex,ea,l,q⟩=>?_) ht;subst ex;obtain rfl:u=Value.ref a:=rx;refine aeD I1 ea c hm l ?_;exact PySem.W.callWith_K0 (first:=[.ref a]) I1.kIn hm.kp (rY (us:=[.ref a]) (vs:=[.ref a]) F hr hb hd hx I1 (.cons rfl .nil) q)
structure Mk(K:PySem.W.Frag)(C f:Addr):Prop where
 makes:PySem.W.makesIn K C=true
 init:R0 K (.ref C) "__init__"=some (some (.ref f))
 fn:PySem.W.isFn K (.ref f)=true
 kp:V9 K (.ref C)=true
theorem akQ{pins:List (Addr×Obj)}{Y:St}{H:Hp}{s:Shared}{Q:VK}{us:List Value}{vs:List V}(M:Mk X.K C f)(F:FnOk X.prog X.w X.K X.mg X.base CX k f fd ps sp)(hr:Room (k+1) X.A)(hb:Binds X.K fd ps ds)(hd:Vals dvs ds)(hx:dY CX X E)(I:Inv X pins Y H s)(r:Vals vs us)(h:∀ x dx,H x=none->H dx=none->dx≠x->sp (.ref x::(vs++dvs)) (A0 (A0 H dx (.own x)) x (.ins C dx [])) (fun v H2=>v=.non/\Q (.ref x) H2) E) :
  wpAny (model X.prog X.w) X.A (call (.ref C) us) (EP X pins Y Q) X.xe s:=by
 have hq:=h (s.heap.objs.size+1) s.heap.objs.size (I.hok.fresh (Nat.le_succ _)) (I.hok.fresh (A8 _)) (K3 (Nat.lt_succ_self _));have I2:=Inv.made (C:=C) I;have r2:Vals (V.ref (s.heap.objs.size+1)::(vs++dvs)) (Value.ref (s.heap.objs.size+1)::(us++ds)):=.cons rfl (r.append hd);have hl:(Value.ref (s.heap.objs.size+1)::us++ds).length=ps.length:=by
  have e:=r2.length;rw [F.len _ _ _ _ hq] at e;exact e.symm
 refine wpAny_call (akO (f:=f) I.kIn M.makes M.init (beq_iff_eq.mp M.fn) (codeAny_mono (F.run _ X.stack _ _ ⟨Value.ref (s.heap.objs.size+1)::us,[]⟩ (Value.ref (s.heap.objs.size+1)::(us++ds)) _ _ E (hr.make C us [])
  (I2.env0.make C us []) (hb _ (Value.ref (s.heap.objs.size+1)::us) I2.kIn hl) r2 hq) fun r s' aT=>?_))
 cases r with
 | error e=>exact hx pins Y _ _ e s' I2 aT
 | ok fl=>
  cases fl with
  | ret u=>
   obtain ⟨v,H',I3,rv,ev,q3⟩:=I2.after aT;subst ev;exact ⟨rv,⟨V.ref (s.heap.objs.size+1),H',I3,rfl,q3⟩⟩
  | next=>exact False.elim aT
  | brk=>exact False.elim aT
  | cont=>exact False.elim aT
theorem amY(M:Mk X.K C f)(F:FnOk X.prog X.w X.K X.mg X.base CX k f fd ps sp)(hr:Room (k+1) X.A)(hg:Gl X x)(hm:X.mg x=some (.ref C))(hb:Binds X.K fd ps ds)(hd:Vals dvs ds)(hx:dY CX X E)(ha:PA X (e::es) t)(Q7:(x==("__debug__" : Str))=false:=by decide)(he:starEach (e::es) X.env=(false,eval e X.env)::starEach es X.env:=by rfl)(R4:(backTo pos (starEach es X.env)).any (·.1)=false:=by rfl) :
  PE X (.Call (.Name x p) (e::es) [] pos) (tMake C sp dvs E t):=by
 intro pins s Y H Q I h;refine wpAny_Call_Name_kw (rK I hg hm ?_ Q7);refine PySem.W.callWith_K (h₀:=X.base) I.ok.mod.kin M.kp (A9 (ha pos pins s Y H _ I h) fun us s1 ⟨vs,H1,I1,r,q⟩=>⟨I1.kIn,?_⟩) he R4;exact akQ M F hr hb hd hx I1 r q
end
noncomputable def PK (X:Cx) (kws:List Keyword) (t:TA):Prop:=
 ∀ (pos:Pos) (pins:List (Addr×Obj)) (s:Shared) (Y:St) (H:Hp) (Q:List V->Hp->Prop),Inv X pins Y H s->t Y H Q->wpAny (model X.prog X.w) X.A (evalAll ((backToKw pos (keywordEach kws X.env)).map (·.2))) (AP X pins Y Q) X.xe s
section
variable {X:Cx} {CX:Z9} {k:Nat} {f C:Addr} {fd:FuncData} {ps ks:List Str} {sp:Sp} {E:XK} {x m:Str} {p pos apos kpos:Pos} {e o:Expr} {es:List Expr} {kws:List Keyword} {te ta:TE} {t tk:TA} {nm:Option Str}
theorem aoY:PK X [] tNil:=fun _ _ _ _ H Q I h=>wpAny_evalAll_nil ⟨[],H,I,.nil,h⟩
theorem amZ(ha:PE X e te)(hr:PK X kws t):PK X (⟨nm,e,kpos⟩::kws) (tCons te t):=by
 intro pos pins s Y H Q I h;show wpAny _ _ (evalAll ((do let v <- eval e X.env;standAt pos;pure v)::(backToKw pos (keywordEach kws X.env)).map (·.2))) _ _ s;refine wpAny_evalAll_cons (wpAny_bind (A9 (ha pins s Y H _ I h) fun u s1 ⟨x,H1,I1,r1,q1⟩=>wpAny_bind (wpAny_standAt (wpAny_pure ?_))));exact A9 (hr pos pins s1 Y H1 _ I1 q1) fun us s2 ⟨xs,H2,I2,r2,q2⟩=>⟨x::xs,H2,I2,.cons r1 r2,q2⟩
variable {g:List Value->List Value->List Value} {gV:List V->List V->List V}
end
structure FnScope(N P:List Str)(sc:Scope):Prop where
 kind:sc.kind=.function
 co:sc.isCoroutine=false
 gen:sc.isGenerator=false
 nd:N.Nodup
 pre:N.take P.length=P
 par:∀ x∈P,sc.names.lookup x=some .local\/sc.names.lookup x=some .cell
 nofree:∀ y∈sc.names,y.2≠.free
theorem afH{kindOf:Str->Option NameKind}{x:Str} : ∀ {binds:List (Str×Value)} {m:Str->Option Value},(∀ v,(x,v)∉binds)->bindL kindOf binds m x=m x
 | [],_,_=>rfl
 | (n,v)::r,m,h=>by
  unfold bindL;rw [afH fun w hw=>h w (L6 _ hw)]
  split
  .have:x≠n:=by rintro rfl;exact h v J9
   simp [this]
  .rfl
theorem afI{kindOf:Str->Option NameKind}{x:Str} : ∀ {binds:List (Str×Value)} {m:Str->Option Value},(∀ v,(x,v)∉binds)->bindC kindOf binds m x=m x
 | [],_,_=>rfl
 | (n,v)::r,m,h=>by
  unfold bindC;rw [afI fun w hw=>h w (L6 _ hw)]
  split
  .rfl
  .have:x≠n:=by rintro rfl;exact h v J9
   simp [this]
theorem afJ{kindOf:Str->Option NameKind}{x:Str}{v:Value} : ∀ {P:List Str} {vs:List Value} {i:Nat} {m:Str->Option Value},P.Nodup->P[i]?=some x->vs[i]?=some v->kindOf x=some .local->
  bindL kindOf (P.zip vs) m x=some v
 | [],_,_,_,_,h,_,_=>by simp at h
 | _::_,[],_,_,_,_,h,_=>by simp at h
 | p::P,w::vs,0,m,nd,h1,h2,hk=>by
  simp at h1 h2;subst h1;subst h2;show bindL kindOf ((p,w)::P.zip vs) m p=_;unfold bindL;rw [afH fun v hv=>(U5.mp nd).1 (List.of_mem_zip hv).1,if_pos hk]
  simp
 | p::P,w::vs,i+1,m,nd,h1,h2,hk=>by
  show bindL kindOf ((p,w)::P.zip vs) m x=_;unfold bindL;exact afJ (i:=i) (U5.mp nd).2 (by simpa using h1) (by simpa using h2) hk
theorem afK{kindOf:Str->Option NameKind}{x:Str}{v:Value} : ∀ {P:List Str} {vs:List Value} {i:Nat} {m:Str->Option Value},P.Nodup->P[i]?=some x->vs[i]?=some v->kindOf x≠some .local->
  bindC kindOf (P.zip vs) m x=some v
 | [],_,_,_,_,h,_,_=>by simp at h
 | _::_,[],_,_,_,_,h,_=>by simp at h
 | p::P,w::vs,0,m,nd,h1,h2,hk=>by
  simp at h1 h2;subst h1;subst h2;show bindC kindOf ((p,w)::P.zip vs) m p=_;unfold bindC;rw [afI fun v hv=>(U5.mp nd).1 (List.of_mem_zip hv).1,if_neg hk]
  simp
 | p::P,w::vs,i+1,m,nd,h1,h2,hk=>by
  show bindC kindOf ((p,w)::P.zip vs) m x=_;unfold bindC;exact afK (i:=i) (U5.mp nd).2 (by simpa using h1) (by simpa using h2) hk
noncomputable def start (N:List Str) (vs:List V):St:=vs.map some++V7 (N.length-vs.length) none
noncomputable def cxOf (CX:Z9) (P:Program) (w:World) (K:PySem.W.Frag) (mg:Str->Option Value) (base:Heap) (N:List Str) (qual:Str) (scope:Scope) (f:Addr) (cd:Value) (A:Around) (outer:List Env) (s:Shared) (H:Hp) (E:XK):Cx where
 prog:=P
 w:=w
 K:=K
 mg:=mg
 base:=base
 A:=A.deeper (envOfC qual scope s.heap.objs.size f cd)
 N:=N
 s₀:=s
 H₀:=H
 env:=envOfC qual scope s.heap.objs.size f cd
 outer:=outer
 stack:=envOfC qual scope s.heap.objs.size f cd::outer
 ex:=[]
 calm:=true
 fn:=fun _=>true
 pn:=[]
 xe:=fun e s'=>wpAny (model P w) (A.deeper (envOfC qual scope s.heap.objs.size f cd)) (leaving (envOfC qual scope s.heap.objs.size f cd) e) (fun _ s''=>CX outer H s E e s'') (fun e' s''=>CX outer H s E e' s'') s'
theorem ahx{sc:Scope}{n:Nat}{x:Str}(h:sc.names.lookup x=some .cell):∃ c,(cellsFrom n sc.names []).lookup x=some c:=by
 have q:=PySem.W.cellsFrom_some sc.names n [] (.inl h);exact Option.isSome_iff_exists.mp q
theorem ai9{CX:Z9}{P:Program}{w:World}{K:PySem.W.Frag}{mg:Str->Option Value}{base:Heap}{N ps:List Str}{qual:Str}{scope:Scope}{f:Addr}{cd:Value}{A:Around}{outer:List Env}{s s1:Shared}{H:Hp}{E:XK}{us:List Value}{vs:List V}(S:FnScope N ps scope)(hd:A.handled=none)(e0:Env0 P w K mg base A outer s H)(hl:vs.length=ps.length)(r:Vals vs us)(x:InCallC s s.heap.objs.size (bindL (envOfC qual scope s.heap.objs.size f cd).kindOf (ps.zip us) fun _=>none) (cellsFrom (s.heap.objs.size+1) scope.names []) (bindC (envOfC qual scope s.heap.objs.size f cd).kindOf (ps.zip us) fun _=>none) s1) :
  Inv (cxOf CX P w K mg base N qual scope f cd A outer s H E) [] (start N vs) H s1:=by
 have R4:ps.length<=N.length:=by have:=congrArg g9 S.pre;rw [G6] at this;lia
 obtain ⟨h1,tk,rfl,hk⟩:=x.done;have noA:∀ b:Addr,b∉(cxOf CX P w K mg base N qual scope f cd A outer s H E).ex:=fun b z=>absurd (show b∈([]:List Addr) from z) (by simp)
 refine ⟨⟨e0.mod,S.kind,rfl,rfl,A8 _,fun y z c h1 h2=>?_,fun y hy=>?_,fun y c _ h=>?_,fun _=>hd,Around.frames_deeper e0.frames,.inr ⟨rfl,rfl⟩,fun b z=>absurd z (noA b),e0.bs,e0.bsz,fun b _ _=>noA b,fun b z=>absurd z (noA b),e0.funs,e0.frf⟩,
  rfl,e0.bare,Un.kept hk,⟨_,x.toInCall.ns,fun i y v h1 h2 h3=>?_⟩,fun y c h=>⟨_,x.cell y c h⟩,e0.hok.fresh (A8 _),fun y c h=>?_,fun p hp=>absurd (show p∈([]:List (Addr×Obj)) from hp) (by simp),e0.hok.kept hk,?_⟩
 .exact name_of_addr x.apart (PySem.mem_of_lookup h1) (PySem.mem_of_lookup h2)
 .have hy:scope.names.lookup y=some .cell\/scope.names.lookup y=some .free:=hy
  rcases hy with hy | hy
  .exact ahx hy
  .exact absurd rfl (S.nofree _ (PySem.mem_of_lookup hy))
 .exact dR (x.above y c (PySem.mem_of_lookup h))
 .have hi:i<vs.length:=by
   unfold start at h2
   by_cases hi:i<vs.length
   .exact hi
   .rw [jJ (by simpa using hi)] at h2;rw [List.getElem?_replicate] at h2
    split at h2 <;> cases h2
  have ha:vs[i]?=some v:=by
   unfold start at h2;rw [nN (by simpa using hi),L7] at h2;cases e:vs[i]? with
   | none=>rw [e] at h2;cases h2
   | some a=>rw [e] at h2;cases h2;rfl
  obtain ⟨u,hu,rv⟩:=r.get ha;have hp:ps[i]?=some y:=by
   rw [<- S.pre,List.getElem?_take_of_lt (by lia)];exact h1
  have ndP:ps.Nodup:=by rw [<- S.pre];exact S.nd.sublist (List.take_sublist _ _)
  refine ⟨u,rv,?_⟩
  rcases S.par y (M7 hp) with k | k
  .exact .inl ⟨k,afJ ndP hp hu k⟩
  .obtain ⟨c,e⟩:=ahx (n:=s.heap.objs.size+1) k;refine .inr ⟨.inl k,c,e,?_⟩;have q:=x.cell y c e;rw [afK ndP hp hu (by show scope.names.lookup y≠_;rw [k];decide)] at q;exact q
 .exact e0.hok.fresh (dR (x.above y c (PySem.mem_of_lookup h)))
 .unfold start;show _=N.length;rw [C8,A4,List.length_replicate];lia
theorem fn_of{CX:Z9}{P:Program}{w:World}{K:PySem.W.Frag}{mg:Str->Option Value}{base:Heap}{k:Nat}{f:Addr}{name qual:Str}{params:Arguments}{body:List Stmt}{scope:Scope}{dV kV doc pm cdv ct oc:Value}{an od:Option Addr}{osl:Array (Option Value)}{N ps:List Str}{sp:Sp}(lk:K.lookup f=some ⟨oc,od,.func (R6 name qual params body scope dV kV doc pm an cdv ct),osl⟩)(P9:X1 K cdv qual=true)(S:FnScope N ps scope)(len:∀ vs H Q E,sp vs H Q E->vs.length=ps.length)(V0:∀ (A:Around) (outer:List Env) (s:Shared) (H:Hp) (vs:List V) (Q:VK) (E:XK),Room k (A.deeper (envOfC qual scope s.heap.objs.size f cdv))->sp vs H Q E->
   ∃ t,W1 (cxOf CX P w K mg base N qual scope f cdv A outer s H E) body t/\t { nx:=fun _ H'=>Q .non H',rt:=Q } (start N vs) H) :
  FnOk P w K mg base CX (k+1) f (R6 name qual params body scope dV kV doc pm an cdv ct) ps sp:=by
 refine ⟨len,fun A outer s H args us vs Q E hr e0 hb r x8=>?_⟩;have hl:=len _ _ _ _ x8;have KX:K.In s.heap:=e0.mod.kin.keeps fun b o e=>(e0.bs b o e).1
 have lim:s.heap.NoLimit:=e0.mod.nolimit.keeps fun b o e=>(e0.bs b o e).1
 have lX:∀ y∈ps.zip us,scope.names.lookup y.1=some .local\/(scope.names.lookup y.1=some .cell/\((cellsFrom (s.heap.objs.size+1) scope.names []).lookup y.1).isSome=true):=fun ⟨n,v⟩ hy=>by
  rcases S.par n (List.of_mem_zip hy).1 with q | q
  .exact .inl q
  .exact .inr ⟨q,PySem.W.cellsFrom_some _ _ _ (.inl q)⟩
 refine codeAny_call_function hr.depth (KX _ _ lk) rfl S.co S.gen rfl (PySem.W.codeRec_of KX P9) (hb _ _ _ _ ?_);refine wpAny_newFunctionEnv_cells S.kind lX fun env he s1 x=>?_
 subst he;refine ⟨lim.keeps x.toInCall.keep,codeAny_func ?_⟩;obtain ⟨t,ht,hq⟩:=V0 A outer s H vs Q E (hr.deeper _) x8;have I:Inv (cxOf CX P w K mg base N qual scope f cdv A outer s H E) [] (start N vs) H s1:=ai9 S hr.hd e0 hl r x;refine wpAny_mono (ht [] s1 (start N vs) H _ I hq) (fun fl s' hs=>?_) fun e s' hs=>hs
 have fin:∀ {σ':St} {H':Hp} {v:V} {u:Value},Inv (cxOf CX P w K mg base N qual scope f cdv A outer s H E) [] σ' H' s'->RelV v u->Q v H'->CE outer P w H s Q u s':=
  fun {σ' H' v u} J rv q=>⟨v,H',J.os,J.bare,J.base,J.hok,rv,q⟩
 cases fl with
 | ret u=>
  obtain ⟨v,σ',H',J,rv,q⟩:=hs;exact fin J rv q
 | next=>
  obtain ⟨σ',H',J,q⟩:=hs;exact fin (v:=V.non) (u:=Value.none) J rfl q
 | brk=>
  obtain ⟨_,_,_,q⟩:=hs;exact False.elim q
 | cont=>
  obtain ⟨_,_,_,q⟩:=hs;exact False.elim q
end L2
section
variable {C a b cl_sorted_texts f fa it kS p pt_sorted_texts r sl:PySem.Addr}{dvs vs xs ys:List L2.V}{Q:L2.VK}{cd ct ctv oc pm u v vl vu:PySem.Value}{ck e1 i j k m n n' t' x1:Nat}{items items2:Array PySem.Value}{fr ns:List Int}{its its' its2 us:List PySem.Value}{pins:List (PySem.Addr×PySem.Obj)}{Y:L2.St}{H H' H0 H1 H2 H3 zt:L2.Hp}{s zw:PySem.Shared}{A:PySem.Around}{name o q qn qual x y z z':PySem.Str}{h h':PySem.Heap}{L M N N' acc bad g' ks line loose ls ms ps ts zs:List PySem.Str}{X:L2.Cx}{K:PySem.W.Frag}{kvs:List (L2.C1×L2.V)}{prog:PySem.Program}{E:PySem.Value->PySem.Shared->Prop}{ixs pre:List Nat}{c:L2.TT}{body e elt iter target tg:PySem.Expr}{elts ifs:List PySem.Expr}{g:L2.TG}{td te ti tl to tx ty:L2.TE}{fp rs:List PySem.Addr}{apos cpos kpos lpos p2 spos tpos:PySem.Pos}{b1 b2 b3 calm fg neg:Bool}{st:PySem.Stmt}{fd:PySem.FuncData}{sp:L2.Sp}{an od:Option PySem.Addr}{tb:L2.TS}{D:L2.Ends}{lo:Int}{mg:PySem.Str->Option PySem.Value}{ta:L2.TA}{ss:Array (Option PySem.Value)}{ob:PySem.Obj}{v':L2.V}
namespace L2
open PySem PySem.Spec PyProof.Rows
section
variable {X:Cx} {x:Str} {p pos:Pos} {e:Expr} {es:List Expr} {t:TA} {id T:String} {r:List V->Hp->VK->Prop}
noncomputable def dZ (r:List V->Hp->VK->Prop) (t:TA):TE:=fun Y H Q=>t Y H fun vs H1=>r vs H1 Q
theorem akR(hc:CallR X (.builtin id) r)(hg:Gl X x)(hm:X.mg x=none)(hv:bootBuiltins x=some (.builtin id))(ha:PA X (e::es) t)(hn:x≠"__name__":=by decide)(Q7:(x==("__debug__" : Str))=false:=by decide)(he:starEach (e::es) X.env=(false,eval e X.env)::starEach es X.env:=by rfl)(R4:(backTo pos (starEach es X.env)).any (·.1)=false:=by rfl):PE X (.Call (.Name x p) (e::es) [] pos) (dZ r t):=by
 intro pins s Y H Q I h;refine wpAny_Call_Name_kw (aB I hg hm hv ?_ hn Q7);exact PyProof.Rows.callWith_builtin1 (A9 (ha pos pins s Y H _ I h) fun us s1 ⟨vs,H1,I1,r1,q1⟩=>hc pins s1 Y H1 vs us Q I1 r1 q1) he R4
theorem aja(hc:CallR X (.type T) r)(hg:Gl X x)(hm:X.mg x=none)(hv:bootBuiltins x=some (.type T))(ha:PA X (e::es) t)(hn:x≠"__name__":=by decide)(Q7:(x==("__debug__" : Str))=false:=by decide)(he:starEach (e::es) X.env=(false,eval e X.env)::starEach es X.env:=by rfl)(R4:(backTo pos (starEach es X.env)).any (·.1)=false:=by rfl):PE X (.Call (.Name x p) (e::es) [] pos) (dZ r t):=by
 intro pins s Y H Q I h;refine wpAny_Call_Name_kw (aB I hg hm hv ?_ hn Q7);exact PyProof.Rows.callWith_type1 (A9 (ha pos pins s Y H _ I h) fun us s1 ⟨vs,H1,I1,r1,q1⟩=>hc pins s1 Y H1 vs us Q I1 r1 q1) he R4
end
end L2
namespace HT
open PySem PyProof.Rows
section
open PySem.SeqAt
open PySem.AutoSeq1 (wpAny_loadPart')
open PySem.MeetsSeq PySem.MeetsSeq2 PySem.MeetsSeq3
end
section
variable {prog:Program} {w:World} {A:Around} {E:Value->Shared->Prop} {s:Shared}
theorem cat_tup{t:Addr}{vs ws:List Value}{Q:Value->Shared->Prop}(ht:IsTup s.heap t vs.toArray)(hb:IsTup s.heap b ws.toArray)(hv:vs≠[])(h1:ws=[]->Q (.ref t) s)(h2:ws≠[]->Q (.ref s.heap.objs.size) { s with heap:=s.heap.push { cls:=.type "tuple",data:=.seq (vs++ws).toArray } })(hsz:vs.length+ws.length<=sizeLine):wpAny (model prog w) A (binaryOp .Add (.ref t) (.ref b)) Q E s:=by
 obtain ⟨⟨cls,dd,data,sl⟩,ho,hc,n,hd⟩:=id ht;obtain ⟨⟨cls2,X7,data2,W2⟩,j9,Q0,n2,Q4⟩:=id hb;simp only at hc hd Q0 Q4;subst hc hd Q0 Q4;have e:vs.toArray++ws.toArray=(vs++ws).toArray:=by simp
 by_cases hw:ws=[]
 .exact concat_meets ⟨_,ho,rfl⟩ ⟨_,j9,rfl⟩ noFill_tuple_add seq_tuple_add PySem.F.slot_tuple_add PySem.F.entry_tuple_add (PySem.F.args_tuple_add_2 _ _)
   (tuple_addW1 t b vs.toArray ws.toArray n n2 dd X7 sl W2 (by simpa using hv) (by simp [hw])) ⟨ho,j9,h1 hw⟩
 .refine concat_meets ⟨_,ho,rfl⟩ ⟨_,j9,rfl⟩ noFill_tuple_add seq_tuple_add PySem.F.slot_tuple_add PySem.F.entry_tuple_add (PySem.F.args_tuple_add_2 _ _)
   (tuple_addW2 t b vs.toArray ws.toArray n n2 dd X7 sl W2 (by simpa using hv) (by simpa using hw) (by rw [F6,F6];exact hsz)) ⟨ho,j9,?_⟩
  rw [e];exact h2 hw
noncomputable def sIx (n d:Nat):Option Int->Nat
 | none=>d
 | some v=>if v<0 then (v+(n:Int)).toNat else min v.toNat n
theorem sIx_nat(n d k:Nat):sIx n d (some (k:Int))=min k n:=by
 show (if (k:Int)<0 then ((k:Int)+(n:Int)).toNat else min (k:Int).toNat n)=min k n;rw [if_neg (by lia),Int.toNat_natCast]
theorem sIx_le(n d:Nat)(hd:d<=n)(o:Option Int):sIx n d o<=n:=by
 cases o with
 | none=>exact hd
 | some v=>
  show (if v<0 then (v+(n:Int)).toNat else min v.toNat n)<=n
  by_cases hv:v<0
  .rw [if_pos hv];lia
  .rw [if_neg hv];exact Nat.min_le_right _ _
theorem clip_eq(v:Int)(n d:Nat):(if v<0 then max (v+(n:Int)) 0 else min v (n:Int))=((sIx n d (some v):Nat):Int):=by
 show (if v<0 then max (v+(n:Int)) 0 else min v (n:Int))=(((if v<0 then (v+(n:Int)).toNat else min v.toNat n):Nat):Int)
 by_cases hv:v<0
 .simp only [if_pos hv];lia
 .simp only [if_neg hv];lia
theorem aif(lo hi:Option Int)(n:Nat):Builtin.Slice.sliceAdjust lo hi 1 (n:Int)=(((sIx n 0 lo:Nat):Int),((sIx n n hi:Nat):Int)):=by
 have h1:¬ ((1:Int)<0):=by lia
 unfold Builtin.Slice.sliceAdjust;simp only [h1,if_false];refine Prod.ext ?_ ?_
 .cases lo with
  | none=>rfl
  | some v=>exact clip_eq v n 0
 .cases hi with
  | none=>rfl
  | some v=>exact clip_eq v n n
theorem aig(i j:Nat):Builtin.Slice.slicePlaces (i:Int) (j:Int) 1=j-i:=by
 unfold Builtin.Slice.slicePlaces;have h1:(1:Int) > 0:=by lia
 simp only [h1,if_true,Int.ediv_one]
 split <;> lia
theorem aeE{o:Option Int}{Q:Option Int->Shared->Prop}(p:IsPart v o)(h:Q o s):wpAny (model prog w) A (Builtin.Slice.slicePartIndex v) Q E s:=by
 cases p with
 | none=>exact slicePart_none h
 | int i t=>exact slicePart_int h
theorem sliceApplied_gen{lo hi:Option Int}{Q:Int×Int×Nat->Shared->Prop}(hs:s.heap.IsSliceOf sl vl vu .none)(pl:IsPart vl lo)(pu:IsPart vu hi)(h:Q (((sIx n 0 lo:Nat):Int),1,sIx n n hi-sIx n 0 lo) s):wpAny (model prog w) A (Builtin.Slice.sliceApplied (.ref sl) (pure (n:Int))) Q E s:=by
 obtain ⟨os,eZ,qH,lY⟩:=id hs;unfold Builtin.Slice.sliceApplied Builtin.Slice.sliceFields;refine wpAny_bind (wpAny_bind (wpAny_field eZ lY (x:=vl) rfl (wpAny_bind (wpAny_field eZ lY (x:=vu) rfl (wpAny_bind (wpAny_field eZ lY (x:=.none) rfl (wpAny_pure ?_)))))));refine wpAny_bind (slicePart_none ?_);show wpAny _ _ (if ((1:Int)==0)=true then _ else _) _ _ s;rw [if_neg (by decide)];refine wpAny_bind (aeE pl (wpAny_bind (aeE pu (wpAny_bind (wpAny_pure ?_)))));show wpAny _ _ (match Builtin.Slice.sliceAdjust lo hi 1 (n:Int) with | (lo,hi)=>pure (lo,(1:Int),Builtin.Slice.slicePlaces lo hi 1)) _ _ s;rw [aif lo hi n];show wpAny _ _ (pure (((sIx n 0 lo:Nat):Int),(1:Int),Builtin.Slice.slicePlaces ((sIx n 0 lo:Nat):Int) ((sIx n n hi:Nat):Int) 1)) _ _ s;rw [aig];exact wpAny_pure h
theorem akS(xs:Array Value)(i k:Nat):((P6 k).filterMap fun (m:Nat)=>xs[((i:Int)+(m:Int)*1).toNat]?).toArray=((xs.toList.drop i).take k).toArray:=by
 have e:(fun (m:Nat)=>xs[((i:Int)+(m:Int)*1).toNat]?)=fun m=>xs[i+m]?:=by
  funext m
  have:((i:Int)+(m:Int)*1).toNat=i+m:=by lia
  rw [this]
 rw [e]
 have:=pick_run xs i k
 rw [List.filterMap_map] at this;have e2:((fun x=>xs[x]?)∘fun x=>i+x)=fun m=>xs[i+m]?:=rfl
 rw [e2] at this;rw [this]
theorem getItem_tuple_cut{t:Addr}{lo hi:Option Int}{Q:Value->Shared->Prop}(ht:IsTup s.heap t items)(hs:s.heap.IsSliceOf sl vl vu .none)(pl:IsPart vl lo)(pu:IsPart vu hi)(hw:¬ (sIx items.size 0 lo=0/\sIx items.size items.size hi=items.size))(h:Q (.ref s.heap.objs.size) { s with heap:=s.heap.push { cls:=.type "tuple",data:=.seq ((items.toList.drop (sIx items.size 0 lo)).take (sIx items.size items.size hi-sIx items.size 0 lo)).toArray } })(hsz:items.size<=sizeLine):wpAny (model prog w) A (getItem (.ref t) (.ref sl)) Q E s:=by
 have Z0:sizeOk (.seq ((items.toList.drop (sIx items.size 0 lo)).take (sIx items.size items.size hi-sIx items.size 0 lo)).toArray):=by
  show ((items.toList.drop (sIx items.size 0 lo)).take (sIx items.size items.size hi-sIx items.size 0 lo)).toArray.size<=sizeLine;rw [F6,G6,t8,u9];lia
 have hj:sIx items.size items.size hi<=items.size:=sIx_le _ _ (A8 _) hi;obtain ⟨os,eZ,qH,lY⟩:=id hs;have hTs:s.TypeIs (.ref sl) "slice":=⟨os,eZ,qH⟩
 unfold getItem
 try with_reducible refine wpAny_holding ?_
 first | refine wpAny_bind (wpAny_pure ?_) | skip
 refine wpAny_bind (wpAny_sequenceKey ht.typeIs (by decide) ?_);refine wpAny_bind (wpAny_callSpecial?_slot (name:=Str.ofString "__getitem__") ht.typeIs PyProof.Rows.slot_tuple_getitem
  (wpAny_call_entry PyProof.Rows.slot_tuple_getitem ht.typeIs entry_tuple_getitem ?_ (args_tuple_getitem _ _)))
 show wpAny _ _ (Builtin.Tuple.tupleItemsOf (.ref t) >>= _) _ _ s;refine wpAny_bind (tupleItemsOf_ ht ?_);refine wpAny_bind (wpAny_typeOf hTs ?_);rw [if_pos (by decide)];refine wpAny_bind (sliceApplied_gen hs pl pu ?_);have lZ:¬ ((((sIx items.size 0 lo:Nat):Int)==0&&(1:Int)==1&&(sIx items.size items.size hi-sIx items.size 0 lo)==items.size)=true):=by
  intro q;rw [X0,X0] at q;have q1:((sIx items.size 0 lo:Nat):Int)=0:=eq_of_beq q.1.1;have q2:sIx items.size items.size hi-sIx items.size 0 lo=items.size:=eq_of_beq q.2;exact hw ⟨by lia,by lia⟩
 show wpAny _ _ (if (((sIx items.size 0 lo:Nat):Int)==0&&(1:Int)==1&&(sIx items.size items.size hi-sIx items.size 0 lo)==items.size)=true then _ else _) _ _ s;rw [if_neg lZ,akS]
 first
  | exact wpAny_bind (m:=Builtin.Tuple.tupleExact _) (wpAny_newObj_type (wpAny_pure ⟨_,rfl,wpAny_pure h⟩) Z0)
  | exact wpAny_bind (m:=Builtin.Tuple.tupleExact _) (wpAny_newObj_type (wpAny_bind (wpAny_pure (wpAny_pure ⟨_,rfl,wpAny_pure h⟩))) Z0)
  | exact wpAny_bind (wpAny_bind (m:=Builtin.Tuple.tupleExact _) (wpAny_newObj_type (wpAny_pure (wpAny_pure ⟨_,rfl,wpAny_pure h⟩)) Z0))
  | exact wpAny_bind (wpAny_bind (m:=Builtin.Tuple.tupleExact _) (wpAny_newObj_type (wpAny_pure ⟨_,rfl,wpAny_pure h⟩) Z0))
end
end HT
namespace L2
open PySem PySem.Spec PyProof.Rows
noncomputable abbrev TO:=St->Hp->(Option Int->Hp->Prop)->Prop
noncomputable def PO (X:Cx) (e:Option Expr) (t:TO):Prop:=
 ∀ (pins:List (Addr×Obj)) (s:Shared) (Y:St) (H:Hp) (Q:Option Int->Hp->Prop),Inv X pins Y H s->t Y H Q->
  wpAny (model X.prog X.w) X.A (evalPart e X.env) (fun u s'=>∃ o H',Inv X pins Y H' s'/\IsPart u o/\Q o H') X.xe s
noncomputable def rZ:TO:=fun _ H Q=>Q none H
noncomputable def tPart (t:TE):TO:=fun Y H Q=>t Y H fun x H1=>∃ i,x=.int i/\Q (some i) H1
theorem oA : ∀ {us:List Value},Vals (ns.map V.int) us->IntsAre us ns:=by
 induction ns with
 | nil=>intro us r;rw [List.map_nil] at r;cases r;exact .nil
 | cons n ns ih=>
  intro us r;rw [K0] at r
  cases r with
  | cons r1 r2=>
   obtain ⟨t,e⟩:=r1;subst e;exact .cons n t (ih r2)
section
variable {X:Cx} {e:Expr} {te:TE} {lo hi:Option Expr} {tl th:TO} {pos p2:Pos}
theorem am0:PO X none rZ:=by
 intro pins s Y H Q I h;rw [evalPart_none];exact wpAny_pure ⟨none,H,I,.none,h⟩
theorem am1(h:PE X e te):PO X (some e) (tPart te):=by
 intro pins s Y H Q I hw;rw [evalPart_some];refine A9 (h pins s Y H _ I hw) fun u s1 ⟨x,H1,I1,r1,q1⟩=>?_
 obtain ⟨i,rfl,q⟩:=q1;obtain ⟨t,rfl⟩:=r1;exact ⟨some i,H1,I1,.int i t,q⟩
noncomputable def gN (X:Cx) (r:V->Option Int->Option Int->Hp->VK->Prop):Prop:=
 ∀ (pins:List (Addr×Obj)) (s:Shared) (Y:St) (H:Hp) (x:V) (v vl vu:Value) (lo hi:Option Int) (sl:Addr) (Q:VK),Inv X pins Y H s->RelV x v->s.heap.IsSliceOf sl vl vu .none->IsPart vl lo->IsPart vu hi->r x lo hi H Q->
  ∃ T id,typeLookup (.type T) "__getitem__"=pure (some (.builtin id))/\s.TypeIs v T/\wpAny (model X.prog X.w) X.A (getItem v (.ref sl)) (EP X pins Y Q) X.xe s
noncomputable def sA (r:V->Option Int->Option Int->Hp->VK->Prop) (te:TE) (tl th:TO):TE:=fun Y H Q=>te Y H fun x H1=>tl Y H1 fun l H2=>th Y H2 fun u H3=>r x l u H3 Q
theorem akT{r:V->Option Int->Option Int->Hp->VK->Prop}(hr:gN X r)(he:PE X e te)(hl:PO X lo tl)(hu:PO X hi th):PE X (.Subscript e (.Slice lo hi none p2) pos) (sA r te tl th):=by
 intro pins s Y H Q I h;refine Subscript_ (A9 (he pins s Y H _ I h) fun v s1 ⟨x,H1,I1,r1,q1⟩=>?_);refine wpAny_Slice (A9 (hl pins s1 Y H1 _ I1 q1) fun vl s2 ⟨l,H2,I2,pl,q2⟩=>A9 (hu pins s2 Y H2 _ I2 q2) fun vu s3 ⟨u,H3,I3,pu,q3⟩=>?_);rw [evalPart_none];refine wpAny_pure ?_;have I4:Inv X pins Y H3 { s3 with heap:=s3.heap.push { cls:=.type "slice",data:=.fields #[vl,vu,.none] } }:=I3.kept (t':=s3.toks) fun b ob q=>Heap.get?_push_of_some _ q
 obtain ⟨T,id,hT,ht,hg⟩:=hr pins { s3 with heap:=s3.heap.push { cls:=.type "slice",data:=.fields #[vl,vu,.none] } } Y H3 x v vl vu l u s3.heap.objs.size Q I4 r1 (Heap.IsSliceOf.new ..) pl pu q3;show wpAny (model X.prog X.w) X.A (subscriptTail e (.Slice lo hi none p2) v (.ref s3.heap.objs.size)) (EP X pins Y Q) X.xe { s3 with heap:=s3.heap.push { cls:=.type "slice",data:=.fields #[vl,vu,.none] } };exact tail_any (ops:=[.ref s3.heap.objs.size,v]) ht hT hg (by with_unfolding_all rfl)
noncomputable def cutV (xs:List V) (lo hi:Option Int):List V:=(xs.drop (HT.sIx xs.length 0 lo)).take (HT.sIx xs.length xs.length hi-HT.sIx xs.length 0 lo)
theorem adS(xs:List V)(lo hi:Option Int):(cutV xs lo hi).length<=xs.length:=by
 unfold cutV;rw [G6,t8];lia
noncomputable def rSlT (K:PySem.W.Frag):V->Option Int->Option Int->Hp->VK->Prop:=fun x lo hi H Q=>∃ a xs,x=.ref a/\C6 K H a xs/\
 ¬ (HT.sIx xs.length 0 lo=0/\HT.sIx xs.length xs.length hi=xs.length)/\∀ p,H p=none->Q (.ref p) (A0 H p (.tup (cutV xs lo hi)))
theorem aoZ:gN X (rSlT X.K):=by
 intro pins s Y H x v vl vu lo hi sl Q I rx hs pl pu h;obtain ⟨a,xs,rfl,hx,hw,q⟩:=h
 cases rx
 obtain ⟨its,r,ht,hz⟩:=I.tuple hx;have A7:its.toArray.size=xs.length:=by rw [F6];exact r.length.symm
 refine ⟨"tuple",_,PyProof.Rows.slot_tuple_getitem.lookup,ht.typeIs,?_⟩;refine HT.getItem_tuple_cut ht hs pl pu (by rw [A7];exact hw) ?_ (by rw [A7];exact hz);rw [A7];refine ⟨.ref s.heap.objs.size,_,I.laid (t':=s.toks) (o:=.tup (cutV xs lo hi)) (fun b ob q=>Heap.get?_push_of_some _ q) (A8 _) ?_,rfl,q _ (I.hok.fresh (A8 _))⟩;exact ⟨L4 (adS xs lo hi) hz,_,(r.drop (HT.sIx xs.length 0 lo)).take (HT.sIx xs.length xs.length hi-HT.sIx xs.length 0 lo),IsTup.new _ _⟩
noncomputable def rCatT (K:PySem.W.Frag):R2:=fun x y H Q=>∃ a b xs ys,x=.ref a/\y=.ref b/\C6 K H a xs/\C6 K H b ys/\xs≠[]/\xs.length+ys.length<=sizeLine/\
 (ys=[]->Q (.ref a) H)/\(ys≠[]->∀ p,H p=none->Q (.ref p) (A0 H p (.tup (xs++ys))))
theorem Vals.nil_iff(r:Vals xs us):us=[]↔xs=[]:=by
 cases r with
 | nil=>simp
 | cons _ _=>simp
theorem am2:G8 X (binaryOp .Add) (rCatT X.K):=by
 intro pins s Y H x y v u Q I rx ry h;obtain ⟨a,b,xs,ys,rfl,rfl,ha,hb,hx,hz,q1,q2⟩:=h
 cases rx
 cases ry
 obtain ⟨its,r1,p1,_⟩:=I.tuple ha;obtain ⟨its2,r2,p2,_⟩:=I.tuple hb;refine HT.cat_tup p1 p2 (fun z=>hx (r1.nil_iff.mp z)) (fun z=>⟨.ref a,H,I,rfl,q1 (r2.nil_iff.mp z)⟩) (fun z=>?_) (by rw [<- r1.length,<- r2.length];exact hz);refine ⟨.ref s.heap.objs.size,_,I.laid (t':=s.toks) (o:=.tup (xs++ys)) (fun b ob q=>Heap.get?_push_of_some _ q) (A8 _) ?_,rfl,q2 (fun w=>z (r2.nil_iff.mpr w)) _ (I.hok.fresh (A8 _))⟩;exact ⟨by rw [C8];exact hz,_,r1.append r2,IsTup.new _ _⟩
end
end L2
namespace L2
open PySem PySem.Spec PyProof.Rows
noncomputable def X3 (n:Nat) (i:Int):Option Nat:=if 0<=i then (if i<n then some i.toNat else none) else if -(n:Int)<=i then some (i+n).toNat else none
noncomputable def L0 {α:Type} (xs:List α) (i:Int):Option α:=(X3 xs.length i).bind fun j=>xs[j]?
theorem ajb{i:Int}(h:X3 n i=some j):seqIndex? i n=some j/\j<n/\-(n:Int)<=i/\i<n:=by
 unfold X3 at h
 by_cases h0:0<=i
 .rw [if_pos h0] at h
  by_cases h1:i<n
  .rw [if_pos h1] at h;have e:i.toNat=j:=Option.some.inj h;exact ⟨by rw [seqIndex_of h0 h1,e],by lia,by lia,h1⟩
  .rw [if_neg h1] at h;cases h
 .rw [if_neg h0] at h
  by_cases h1:-(n:Int)<=i
  .rw [if_pos h1] at h;have e:(i+n).toNat=j:=Option.some.inj h;exact ⟨by rw [seqIndex_neg (by lia) h1,e],by lia,h1,by lia⟩
  .rw [if_neg h1] at h;cases h
theorem sB{α:Type}{xs:List α}{i:Int}{v:α}(h:L0 xs i=some v):∃ j,seqIndex? i xs.length=some j/\xs[j]?=some v/\j<xs.length/\-(xs.length:Int)<=i/\i<xs.length:=by
 unfold L0 at h;cases e:X3 xs.length i with
 | none=>rw [e] at h;cases h
 | some j=>
  rw [e] at h;obtain ⟨h1,h2,h3,h4⟩:=ajb e;exact ⟨j,h1,h,h2,h3,h4⟩
theorem E7{α:Type}{xs:List α}{v:α}(h:xs[j]?=some v):L0 xs (j:Int)=some v:=by
 have hj:j<xs.length:=(E9.mp h).1;have e:X3 xs.length (j:Int)=some j:=by
  unfold X3;rw [if_pos (by lia),if_pos (by lia)];simp
 unfold L0;rw [e];exact h
theorem akU{α:Type}(xs:List α)(v:α):L0 (xs++[v]) (-1)=some v:=by
 have hl:(xs++[v]).length=xs.length+1:=by simp
 have e:X3 (xs++[v]).length (-1)=some xs.length:=by
  unfold X3;rw [hl,if_neg (by decide),if_pos (by lia)]
  congr 1
  lia
 unfold L0;rw [e];show (xs++[v])[xs.length]?=some v
 simp
noncomputable def ajc (b:Expr):Prop:=∀ o i,subscripted b false o i=operate [o,i] (getItem o i)
noncomputable def aD (X:Cx) (r:R2):Prop:=
 ∀ (value slice:Expr) (pins:List (Addr×Obj)) (s:Shared) (Y:St) (H:Hp) (x y:V) (v u:Value) (Q:VK),Inv X pins Y H s->RelV x v->RelV y u->r x y H Q->
  subscripted slice false v u=operate [v,u] (getItem v u)->wpAny (model X.prog X.w) X.A (subscriptTail value slice v u) (EP X pins Y Q) X.xe s
noncomputable def oB (X:Cx) (id:String) (r:V->List V->Hp->VK->Prop):Prop:=
 ∀ (pins:List (Addr×Obj)) (s:Shared) (Y:St) (H:Hp) (x:V) (xs:List V) (v:Value) (us:List Value) (Q:VK),Inv X pins Y H s->RelV x v->Vals xs us->r x xs H Q->
  wpAny (model X.prog X.w) X.A (call (.builtin id) (v::us)) (EP X pins Y Q) X.xe s
section
variable {X:Cx} {a b:Expr} {ta tb:TE} {pos:Pos}
theorem aD.or{r r':R2}(h:aD X r)(h':aD X r'):aD X (fun x y H Q=>r x y H Q\/r' x y H Q):=by
 intro value slice pins s Y H x y v u Q I rx ry q hs
 rcases q with q | q
 .exact h value slice pins s Y H x y v u Q I rx ry q hs
 .exact h' value slice pins s Y H x y v u Q I rx ry q hs
theorem pe_ix{r:R2}(hr:aD X r)(ha:PE X a ta)(hb:PE X b tb)(hs:ajc b):PE X (.Subscript a b pos) (m4 r ta tb):=by
 intro pins s Y H Q I h;exact Subscript_ (binT ha hb I h fun v u s2 x y H2 I2 rx ry q=>hr a b pins s2 Y H2 x y v u Q I2 rx ry q (hs _ _))
noncomputable def rIxL (K:PySem.W.Frag):R2:=fun x y H Q=>∃ p xs i v,x=.ref p/\y=.int i/\C7 K H p xs/\L0 xs i=some v/\Q v H
noncomputable def rIxT (K:PySem.W.Frag):R2:=fun x y H Q=>∃ p xs i v,x=.ref p/\y=.int i/\C6 K H p xs/\L0 xs i=some v/\Q v H
noncomputable def rIxS:R2:=fun x y H Q=>∃ z i c,x=.str z/\y=.int i/\z.length<=sizeLine/\L0 z.cps.toList i=some c/\Q (.str ⟨#[c]⟩) H
theorem ix_list:aD X (rIxL X.K):=by
 intro value slice pins s Y H x y v u Q I rx ry h hs;obtain ⟨p,xs,i,z,rfl,rfl,hq,he,q⟩:=h
 cases rx
 obtain ⟨t,rfl⟩:=ry;obtain ⟨its,r,pl,hz⟩:=I.list hq;obtain ⟨j,h1,h2,h3,h4,h5⟩:=sB he;obtain ⟨w,ew,rw'⟩:=r.get h2;have hl:=r.length;have hn:=gM;have fin:EP X pins Y Q w s:=⟨z,H,I,rw',q⟩
 by_cases h0:0<=i
 .have hj:i.toNat=j:=by
   rw [seqIndex_of h0 h5] at h1;exact Option.some.inj h1
  exact item_listR pl.isList h0 (by lia) (by rw [hj];simpa using ew) fin hs
 .have hj:(i+(its.toArray.size:Int)).toNat=j:=by
   rw [seqIndex_neg (by lia) h4] at h1;rw [F6,<- hl];exact Option.some.inj h1
  exact subscriptTail_builtinR (x:=w) pl.isList.typeIs slot_list_getitem.lookup
   (wpAny_getItem_list_neg (Q:=fun r s'=>r=w/\EP X pins Y Q r s') pl.isList (by lia) (by rw [F6] <;> lia) (by lia) (by rw [hj];simpa using ew) ⟨rfl,fin⟩) hs
theorem ix_tup:aD X (rIxT X.K):=by
 intro value slice pins s Y H x y v u Q I rx ry h hs;obtain ⟨p,xs,i,z,rfl,rfl,hq,he,q⟩:=h
 cases rx
 obtain ⟨t,rfl⟩:=ry;obtain ⟨its,r,pl,hz⟩:=I.tuple hq;obtain ⟨j,h1,h2,h3,h4,h5⟩:=sB he;obtain ⟨w,ew,rw'⟩:=r.get h2;have hl:=r.length;have hn:=gM;have fin:EP X pins Y Q w s:=⟨z,H,I,rw',q⟩
 exact subscriptTail_builtinR (x:=w) pl.typeIs slot_tuple_getitem.lookup
  (getItem_tuple (j:=j) (Q:=fun r s'=>r=w/\EP X pins Y Q r s') pl (by lia) (by lia) (by rw [F6,<- hl];exact h1) (by simpa using ew) ⟨rfl,fin⟩) hs
theorem ao0:aD X rIxS:=by
 intro value slice pins s Y H x y v u Q I rx ry h hs;obtain ⟨z,i,c,rfl,rfl,hz,he,q⟩:=h;obtain ⟨t,rfl⟩:=rx;obtain ⟨t',rfl⟩:=ry;obtain ⟨j,h1,h2,h3,h4,h5⟩:=sB he;have hl:z.cps.toList.length=z.length:=by simp [Str.length]
 rw [hl] at h1 h4 h5;have hn:=gM;exact tail_any (typeIs_str s z t) slot_str_getitem.lookup (getItem_str (c:=c) (by
  have e1:decide (i < -(2 ^ 63:Int))=false:=decide_eq_false (by lia);have e2:decide (i≥2 ^ 63)=false:=decide_eq_false (by lia);rw [e1,e2,Bool.or_false]) (by rw [h1];simpa using h2) ⟨.str ⟨#[c]⟩,H,I.tok _,⟨_,rfl⟩,q⟩) hs
noncomputable def eA (K:PySem.W.Frag):R2:=fun x y H Q=>rIxL K x y H Q\/rIxT K x y H Q\/rIxS x y H Q
theorem ao1:aD X (eA X.K):=ix_list.or (ix_tup.or ao0)
theorem aih(its:List Value)(n j:Nat)(u:Value):Obj.mapSeq (·.setIfInBounds j u) { cls:=.type "list",data:=.seq its.toArray n }={ cls:=.type "list",data:=.seq (its.set j u).toArray n }:=by
 simp [Obj.mapSeq]
theorem Inv.lst(I:Inv X pins Y H s)(h:H p=some (.lst xs)) :
  ∃ (its:List Value) (n:Nat),Vals xs its/\s.heap.get? p=some { cls:=.type "list",data:=.seq its.toArray n }/\xs.length<=sizeLine:=by
 obtain ⟨z,its,n,r,e⟩:=I.hok p _ h;exact ⟨its,n,r,e,z⟩
theorem Inv.lstUpd{f:Obj->Obj}(I:Inv X pins Y H s)(h:H p=some (.lst xs))(ho:s.heap.get? p=some { cls:=.type "list",data:=.seq its.toArray n })(hf:f { cls:=.type "list",data:=.seq its.toArray n }={ cls:=.type "list",data:=.seq its'.toArray n' })(r:Vals ys its')(hz:ys.length<=sizeLine)(t:Nat) :
  Inv X pins Y (A0 H p (.lst ys)) { s with heap:=s.heap.update p f,toks:=t }:=by
 have e:(s.heap.update p f).get? p=some { cls:=.type "list",data:=.seq its'.toArray n' }:=by
  rw [Heap.get?_update_self f ho (by rw [hf] <;> rfl),hf]
 refine I.write (x:=p) (e:=p) (by rw [h];trivial) (.inl rfl) (fun b u hb q=>(Heap.get?_update_other _ _ (Ne.symm hb)).trans q) ⟨_,e⟩ ?_;exact ⟨hz,its',n',r,e⟩
noncomputable def rSetL:V->V->V->Hp->(Hp->Prop)->Prop:=fun o i v H Q=>∃ p xs k j,o=.ref p/\i=.int k/\H p=some (.lst xs)/\X3 xs.length k=some j/\Q (A0 H p (.lst (xs.set j v)))
theorem akV:PSet X rSetL:=by
 intro pins s Y H o i v ov iv u Q I ro ri rv h;obtain ⟨p,xs,k,j,rfl,rfl,hp,hj,q⟩:=h
 cases ro
 obtain ⟨t,rfl⟩:=ri;obtain ⟨its,n,r,ho,hz⟩:=I.lst hp;obtain ⟨h1,h2,h3,h4⟩:=ajb hj;have hl:=r.length;have hn:=gM;have I':Inv X pins Y (A0 H p (.lst (xs.set j v))) { s with heap:=s.heap.update p (Obj.mapSeq (·.setIfInBounds j u)) }:=
  I.lstUpd hp ho (aih its n j u) (r.set rv j) (by rw [List.length_set];exact hz) s.toks
 by_cases h0:0<=k
 .have hk:k.toNat=j:=by
   rw [seqIndex_of h0 h4] at h1;exact Option.some.inj h1
  exact PySem.W.ki_setAt ho h0 (by lia) (by rw [F6,<- hl];exact h4) (by rw [hk];exact ⟨_,I',q⟩)
 .have hk:(k+(its.toArray.size:Int)).toNat=j:=by
   rw [seqIndex_neg (by lia) h3] at h1;rw [F6,<- hl];exact Option.some.inj h1
  exact PySem.W.ki_setBack ho (by lia) (by rw [F6,<- hl];exact h3) (by lia) (by rw [hk];exact ⟨_,I',q⟩)
theorem afL(lo hi:Option Int)(n:Nat):(sliceBounds lo hi none n).1=((HT.sIx n 0 lo:Nat):Int)/\(sliceBounds lo hi none n).2.1=((HT.sIx n n hi:Nat):Int)/\(sliceBounds lo hi none n).2.2=1:=by
 refine ⟨?_,?_,rfl⟩
 .cases lo with
  | none=>simp [sliceBounds,HT.sIx]
  | some i=>
   simp only [sliceBounds,HT.sIx,Option.getD_none,show (1:Int) > 0 by decide,if_true]
   by_cases h:i<0
   .simp only [h,if_true] <;> lia
   .simp only [h,if_false] <;> lia
 .cases hi with
  | none=>simp [sliceBounds,HT.sIx]
  | some i=>
   simp only [sliceBounds,HT.sIx,Option.getD_none,show (1:Int) > 0 by decide,if_true]
   by_cases h:i<0
   .simp only [h,if_true] <;> lia
   .simp only [h,if_false] <;> lia
theorem ae6(its:List Value)(lo hi:Option Int):slicePick its.toArray lo hi none=((its.drop (HT.sIx its.length 0 lo)).take (HT.sIx its.length its.length hi-HT.sIx its.length 0 lo)).toArray:=by
 obtain ⟨h1,h2,h3⟩:=afL lo hi its.toArray.size;unfold slicePick;rw [h1,h2,h3];simp only [sliceRange_one,pick_run,F6] <;> rfl
noncomputable def rSlL (K:PySem.W.Frag):V->Option Int->Option Int->Hp->VK->Prop:=fun x lo hi H Q=>∃ a xs,x=.ref a/\C7 K H a xs/\∀ p,H p=none->Q (.ref p) (A0 H p (.lst (cutV xs lo hi)))
theorem am3:gN X (rSlL X.K):=by
 intro pins s Y H x v vl vu lo hi sl Q I rx hs pl pu h;obtain ⟨a,xs,rfl,hx,q⟩:=h
 cases rx
 obtain ⟨its,r,ht,hz⟩:=I.list hx;have A7:=r.length;refine ⟨"list",_,slot_list_getitem.lookup,ht.isList.typeIs,?_⟩;refine wpAny_getItem_list_slice ht.isList hs pl pu .none (by simp) ?_ (by rw [F6] <;> lia);rw [ae6,<- A7];refine ⟨.ref s.heap.objs.size,_,I.laid (t':=s.toks) (o:=.lst (cutV xs lo hi)) (fun b ob q=>Heap.get?_push_of_some _ q) (A8 _) ?_,rfl,q _ (I.hok.fresh (A8 _))⟩;exact ⟨L4 (adS xs lo hi) hz,_,0,(r.drop (HT.sIx xs.length 0 lo)).take (HT.sIx xs.length xs.length hi-HT.sIx xs.length 0 lo),Heap.get?_push_size _ rfl⟩
noncomputable def flatV:V->Bool
 | .non=>true
 | .bl _=>true
 | .int _=>true
 | .str _=>true
 | _=>false
noncomputable def bW:V->V->Bool
 | .non,.non=>true
 | .bl a,.bl b=>a==b
 | .bl a,.int b=>(if a then 1 else 0)==b
 | .int a,.bl b=>a==(if b then 1 else 0)
 | .int a,.int b=>a==b
 | .str a,.str b=>a==b
 | _,_=>false
theorem ao2{y x:V}(ry:RelV y u)(rx:RelV x v)(fy:flatV y=true)(fx:flatV x=true):SeqAt.EqAt A s u v (bW y x):=by
 cases y with
 | non=>
  cases ry
  cases x with
  | non=>cases rx;exact SeqAt.EqAt.same _
  | bl b=>cases rx;exact SeqAt.EqAt.none_bool b
  | int b=>obtain ⟨t,rfl⟩:=rx;exact SeqAt.EqAt.none_int b t
  | str b=>obtain ⟨t,rfl⟩:=rx;exact SeqAt.EqAt.none_str b t
  | _=>exact absurd (show false=true from fx) L5
 | bl a=>
  cases ry
  cases x with
  | non=>cases rx;exact SeqAt.EqAt.bool_none a
  | bl b=>cases rx;exact SeqAt.EqAt.bool_bool a b
  | int b=>obtain ⟨t,rfl⟩:=rx;exact SeqAt.EqAt.bool_int a b t
  | str b=>obtain ⟨t,rfl⟩:=rx;exact SeqAt.EqAt.bool_str a b t
  | _=>exact absurd (show false=true from fx) L5
 | int a=>
  obtain ⟨t',rfl⟩:=ry
  cases x with
  | non=>cases rx;exact SeqAt.EqAt.int_none a t'
  | bl b=>cases rx;exact SeqAt.EqAt.int_bool a t' b
  | int b=>obtain ⟨t,rfl⟩:=rx;exact SeqAt.EqAt.int_int a t' b t
  | str b=>obtain ⟨t,rfl⟩:=rx;exact SeqAt.EqAt.int_str a t' b t
  | _=>exact absurd (show false=true from fx) L5
 | str a=>
  obtain ⟨t',rfl⟩:=ry
  cases x with
  | non=>cases rx;exact SeqAt.EqAt.str_none a t'
  | bl b=>cases rx;exact SeqAt.EqAt.str_bool a t' b
  | int b=>obtain ⟨t,rfl⟩:=rx;exact SeqAt.EqAt.str_int a t' b t
  | str b=>obtain ⟨t,rfl⟩:=rx;exact SeqAt.EqAt.str_str a t' b t
  | _=>exact absurd (show false=true from fx) L5
 | _=>exact absurd (show false=true from fy) L5
noncomputable def X4 (x:V) (u:Value):Bool:=match u with
 | .none=>bW .non x
 | .bool b=>bW (.bl b) x
 | .int i _=>bW (.int i) x
 | .str z _=>bW (.str z) x
 | _=>false
theorem amc{x y:V}(r:RelV y u)(f:flatV y=true):X4 x u=bW y x:=by
 cases y with
 | non=>cases r;rfl
 | bl b=>cases r;rfl
 | int i=>obtain ⟨t,rfl⟩:=r;rfl
 | str z=>obtain ⟨t,rfl⟩:=r;rfl
 | _=>exact absurd (show false=true from f) L5
theorem kC{x:V} : ∀ {xs:List V} {us:List Value},Vals xs us->xs.all flatV=true->us.any (X4 x)=xs.any fun y=>bW y x
 | _,_,.nil,_=>rfl
 | y::xs,u::us,.cons r t,f=>by
  rw [List.all_cons,X0] at f;rw [u8,u8,amc r f.1,kC t f.2]
theorem kD{x:V}(rx:RelV x v)(fx:flatV x=true):∀ {xs:List V} {us:List Value},Vals xs us->xs.all flatV=true->∀ u∈us,SeqAt.EqAt A s u v (X4 x u)
 | _,_,.nil,_=>fun u hu=>by cases hu
 | y::xs,u::us,.cons r t,f=>fun u' hu=>by
  rw [List.all_cons,X0] at f
  rcases E5.mp hu with rfl | hu
  .rw [amc r f.1];exact ao2 r rx f.1 fx
  .exact kD rx fx t f.2 u' hu
noncomputable def bX (x:V) (xs:List V):Bool:=xs.any fun y=>bW y x
noncomputable def sC (K:PySem.W.Frag) (neg:Bool):R2:=fun x y H Q=>∃ p xs,y=.ref p/\(C7 K H p xs\/C6 K H p xs)/\flatV x=true/\xs.all flatV=true/\Q (.bl (if neg then !bX x xs else bX x xs)) H
theorem ajd:G8 X (compareOp .In) (sC X.K false):=by
 intro pins s Y H x y v u Q I rx ry h;obtain ⟨p,xs,rfl,hq,fx,fs,q⟩:=h
 cases ry
 rcases hq with hq | hq
 .obtain ⟨its,r,pl,hz⟩:=I.list hq;refine SeqAt.in_listAt (X4 x) pl.isList (fun w hw=>kD rx fx r fs w (by simpa using hw)) ⟨.bl _,H,I,rfl,?_⟩;rw [show its.toArray.any (X4 x)=its.any (X4 x) by simp,kC r fs];exact q
 .obtain ⟨its,r,pl,hz⟩:=I.tuple hq;refine SeqAt.in_tupleAt (X4 x) pl (fun w hw=>kD rx fx r fs w (by simpa using hw)) ⟨.bl _,H,I,rfl,?_⟩;rw [show its.toArray.any (X4 x)=its.any (X4 x) by simp,kC r fs];exact q
theorem afM:G8 X (compareOp .NotIn) (sC X.K true):=by
 intro pins s Y H x y v u Q I rx ry h;obtain ⟨p,xs,rfl,hq,fx,fs,q⟩:=h
 cases ry
 rcases hq with hq | hq
 .obtain ⟨its,r,pl,hz⟩:=I.list hq;refine SeqAt.notIn_listAt (X4 x) pl.isList (fun w hw=>kD rx fx r fs w (by simpa using hw)) ⟨.bl _,H,I,rfl,?_⟩;rw [show its.toArray.any (X4 x)=its.any (X4 x) by simp,kC r fs];exact q
 .obtain ⟨its,r,pl,hz⟩:=I.tuple hq;refine SeqAt.notIn_tupleAt (X4 x) pl (fun w hw=>kD rx fx r fs w (by simpa using hw)) ⟨.bl _,H,I,rfl,?_⟩;rw [show its.toArray.any (X4 x)=its.any (X4 x) by simp,kC r fs];exact q
theorem afN:G8 X (compareOp .NotIn) (fun x y H Q=>∃ i j,x=.str i/\y=.str j/\Q (.bl (!(!(Builtin.Str.occurrences j i 0 j.length 1).isEmpty))) H):=by
 intro pins s Y H x y v u Q I rx ry h;obtain ⟨i,j,rfl,rfl,q⟩:=h;obtain ⟨t,rfl⟩:=rx;obtain ⟨t',rfl⟩:=ry;exact notIn_str ⟨.bl _,H,I,rfl,q⟩
theorem afO:CallR X (.type "list") (fun xs H Q=>∃ p ys,xs=[.ref p]/\(C7 X.K H p ys\/C6 X.K H p ys)/\∀ l,H l=none->Q (.ref l) (A0 H l (.lst ys))):=by
 intro pins s Y H xs us Q I r h;obtain ⟨p,ys,rfl,hq,q⟩:=h;obtain ⟨u,rfl,rx⟩:=vals1 r
 cases rx
 have fin:∀ (its:List Value),Vals ys its->ys.length<=sizeLine->∀ (h':Heap) (c':Nat),(∀ b o',s.heap.get? b=some o'->h'.get? b=some o')->
   h'.get? s.heap.objs.size=some { cls:=.type "list",dict:=none,data:=.seq its.toArray c',slots:=#[] }->EP X pins Y Q (.ref s.heap.objs.size) { s with heap:=h' }:=fun its r' hz h' c' kp e=>
  ⟨.ref s.heap.objs.size,_,I.laid (t':=s.toks) kp (A8 _) (show ObjOk X.prog X.w _ h' _ (.lst ys) from ⟨hz,its,c',r',e⟩),rfl,q _ (I.hok.fresh (A8 _))⟩
 rcases hq with hq | hq
 .obtain ⟨its,r',pl,hz⟩:=I.list hq;have A7:=r'.length;obtain ⟨o,ho,hc,n,hd⟩:=pl.isList;exact call_list_seq p (.inl rfl) ho hc hd (fun h' c' kp e=>fin its r' hz h' c' kp e) (by simp only [F6] <;> lia)
 .obtain ⟨its,r',pl,hz⟩:=I.tuple hq;have A7:=r'.length;obtain ⟨o,ho,hc,n,hd⟩:=pl;exact call_list_seq p (.inr rfl) ho hc hd (fun h' c' kp e=>fin its r' hz h' c' kp e) (by simp only [F6] <;> lia)
theorem ae7:CallR X (.type "tuple") (fun xs H Q=>∃ p ys,xs=[.ref p]/\((C7 X.K H p ys/\∀ l,H l=none->Q (.ref l) (A0 H l (.tup ys)))\/(C6 X.K H p ys/\Q (.ref p) H))):=by
 intro pins s Y H xs us Q I r h;obtain ⟨p,ys,rfl,h⟩:=h;obtain ⟨u,rfl,rx⟩:=vals1 r
 cases rx
 rcases h with ⟨hq,q⟩ | ⟨hq,q⟩
 .obtain ⟨its,r',pl,hz⟩:=I.list hq;have A7:=r'.length;refine call_tuple_list pl.isList (fun h' kp=>?_) (by simp only [F6] <;> lia);have I1:Inv X pins Y H { s with heap:=h' }:=I.kept (t':=s.toks) kp;have I2:Inv X pins Y (A0 H h'.objs.size (.tup ys)) { s with heap:=h'.push { cls:=.type "tuple",data:=.seq its.toArray } }:=
   I1.laid (t':=s.toks) (fun b o e=>Heap.get?_push_of_some _ e) (A8 _) (show ObjOk X.prog X.w _ _ _ (.tup ys) from ⟨hz,its,r',IsTup.new _ _⟩)
  exact ⟨.ref h'.objs.size,_,I2,rfl,q _ (I1.hok.fresh (A8 _))⟩
 .obtain ⟨its,r',pl,hz⟩:=I.tuple hq;exact call_tuple_same pl ⟨.ref p,H,I,rfl,q⟩
noncomputable def bY (K:PySem.W.Frag) (T:String) (x:V) (H:Hp):Prop:=match x with
 | .str _=>T="str"
 | .int _=>T="int"
 | .ref p=>(T="list"/\∃ xs,C7 K H p xs)\/(T="tuple"/\∃ o,K.lookup p=some o/\o.cls=.type "tuple"/\o.dict=none)\/
   (T="dict"/\((∃ kvs,H p=some (.dK kvs))\/∃ kvs,H p=some (.dT kvs)))\/(T="set"/\∃ S n,H p=some (.set S n))
 | _=>False
theorem amd{T:String}{x:V}(I:Inv X pins Y H s)(r:RelV x v)(ty:bY X.K T x H) :
  s.TypeIs v T/\∀ a,v=.ref a->∃ ob,s.heap.get? a=some ob/\ob.dict=none:=by
 cases x with
 | str z=>
  obtain ⟨t,rfl⟩:=r
  cases (show T="str" from ty)
  exact ⟨typeIs_str s z t,fun _ e=>nomatch e⟩
 | int i=>
  obtain ⟨t,rfl⟩:=r
  cases (show T="int" from ty)
  exact ⟨typeIs_int s i t,fun _ e=>nomatch e⟩
 | ref p=>
  cases r
  rcases ty with ⟨rfl,xs,hq⟩ | ⟨rfl,o,hk,hc,hd⟩ | ⟨rfl,hk⟩ | ⟨rfl,S,n,hk⟩
  .obtain ⟨its,_,pl,_⟩:=I.list hq;refine ⟨pl.isList.typeIs,fun a e=>?_⟩;cases e;obtain ⟨o,n,e,c,hd,_⟩:=pl;exact ⟨o,e,hd⟩
  .refine ⟨⟨o,I.kIn p o hk,hc⟩,fun a e=>?_⟩;cases e;exact ⟨o,I.kIn _ o hk,hd⟩
  .have z:∃ o,s.heap.get? p=some o/\o.ExactDict:=by
    rcases hk with ⟨kvs,hk⟩ | ⟨kvs,hk⟩
    .obtain ⟨_,_,_,_,o,_,_,e,ex,_⟩:=I.hok p _ hk;exact ⟨o,e,ex⟩
    .obtain ⟨_,_,_,_,o,_,_,e,ex,_⟩:=I.hok p _ hk;exact ⟨o,e,ex⟩
   obtain ⟨o,e,ex⟩:=z;refine ⟨⟨o,e,ex.1⟩,fun a e2=>?_⟩;cases e2;exact ⟨o,e,ex.2.1⟩
  .obtain ⟨o,_,_,_,e,ex,_⟩:=I.hok p _ hk;refine ⟨⟨o,e,ex.1⟩,fun a e2=>?_⟩;cases e2;exact ⟨o,e,ex.2.1⟩
 | _=>exact False.elim ty
noncomputable def tBM0 (K:PySem.W.Frag) (T:String) (r:V->List V->Hp->VK->Prop) (to:TE):TE:=fun Y H Q=>to Y H fun x H1=>bY K T x H1/\r x [] H1 Q
noncomputable def gO (K:PySem.W.Frag) (T:String) (r:V->List V->Hp->VK->Prop) (to:TE) (t:TA):TE:=fun Y H Q=>to Y H fun x H1=>bY K T x H1/\t Y H1 fun xs H2=>r x xs H2 Q
variable {o e:Expr} {es:List Expr} {to:TE} {t:TA} {name:Str} {apos cpos:Pos} {T id:String} {r:V->List V->Hp->VK->Prop}
theorem ao3(pa:PlainAttrs T)(slot:Slot T name id)(V1:typeOf (.builtin id)=pure (.type "method_descriptor"))(hm:oB X id r)(ho:PE X o to)(G0:attributeBase o name X.env (eval o X.env)=eval o X.env:=by rfl)(G1:(apos.endLine==cpos.line)=true:=by rfl):PE X (.Call (.Attribute o name apos) [] [] cpos) (tBM0 X.K T r to):=by
 intro pins s Y H Q I h;refine wpAny_Call_method0_late G0 G1 (A9 (ho pins s Y H _ I h) fun v s1 ⟨x,H1,I1,r1,ty,q1⟩=>?_);obtain ⟨h1,h2⟩:=amd I1 r1 ty;exact ⟨T,id,pa,slot,V1,h1,h2,Calls.callWith_builtin rfl (PySem.evalArgs_none (hm pins s1 Y H1 x [] v [] Q I1 r1 .nil q1))⟩
theorem pe_bm(pa:PlainAttrs T)(slot:Slot T name id)(V1:typeOf (.builtin id)=pure (.type "method_descriptor"))(hm:oB X id r)(ho:PE X o to)(ha:PA X (e::es) t)(G0:attributeBase o name X.env (eval o X.env)=eval o X.env:=by rfl)(wV:((backTo cpos (starEach (e::es) X.env)).all (fun x=>!x.1)&&(backToKw cpos (keywordEach [] X.env)).all (fun x=>x.1.isSome)
   && decide ((e::es).length+([]:List Keyword).length+(if ([]:List Keyword).isEmpty then 0 else 1)<30))=true:=by rfl)(G1:(apos.endLine==cpos.line)=true:=by rfl)(hs:starEach (e::es) X.env=(false,eval e X.env)::starEach es X.env:=by rfl)(hplain:(backTo cpos (starEach es X.env)).any (·.1)=false:=by rfl) :
  PE X (.Call (.Attribute o name apos) (e::es) [] cpos) (gO X.K T r to t):=by
 intro pins s Y H Q I h;refine wpAny_Call_method_late G0 wV G1 rfl (A9 (ho pins s Y H _ I h) fun v s1 ⟨x,H1,I1,r1,ty,q1⟩=>?_);obtain ⟨h1,h2⟩:=amd I1 r1 ty;refine ⟨T,id,pa,slot,V1,h1,h2,?_⟩;have hA:=ha cpos pins s1 Y H1 _ I1 q1;rw [hs] at hA ⊢
 refine Calls.callWith_builtin (by show (false || (backTo cpos (starEach es X.env)).any (·.1))=false;rw [hplain] <;> rfl) (Calls.evalArgs_plain ?_);exact A9 hA fun us s2 ⟨vs,H2,I2,r2,q2⟩=>hm pins s2 Y H2 x vs v us Q I2 r1 r2 q2
end
end L2
namespace L2
open PySem PySem.Spec PyProof.Rows
noncomputable def eB (X:Cx) (id:String) (r:V->List V->Hp->VK->Prop):Prop:=
 ∀ (pins:List (Addr×Obj)) (s:Shared) (Y:St) (H:Hp) (x:V) (xs:List V) (v:Value) (us:List Value) (Q:VK),Inv X pins Y H s->RelV x v->Vals xs us->r x xs H Q->
  wpAny (model X.prog X.w) X.A (call (.builtin id) (v::us)) (EP X pins Y Q) X.xe s
theorem Vals.one:∀ {x:V} {us:List Value},Vals [x] us->∃ u,us=[u]/\RelV x u
 | _,_,.cons r .nil=>⟨_,rfl,r⟩
theorem Vals.zero:∀ {us:List Value},Vals [] us->us=[]
 | _,.nil=>rfl
theorem Vals.eraseIdx:∀ {xs:List V} {us:List Value} (i:Nat),Vals xs us->Vals (xs.eraseIdx i) (us.eraseIdx i)
 | _,_,_,.nil=>.nil
 | _,_,0,.cons _ t=>t
 | _,_,i+1,.cons r t=>.cons r (Vals.eraseIdx i t)
theorem Vals.reverse(h:Vals xs us):Vals xs.reverse us.reverse:=by
 induction h with
 | nil=>exact .nil
 | cons r t ih=>rw [gC,gC];exact Vals.append ih (.cons r .nil)
theorem Vals.rep(h:Vals xs us):∀ k:Nat,Vals (V7 k xs).flatten (V7 k us).flatten
 | 0=>.nil
 | k+1=>by
  rw [fY,fY,gE,gE];exact Vals.append h (Vals.rep h k)
theorem afP{α:Type} : ∀ (l:List α) (i:Nat),(l.eraseIdx i).length<=l.length
 | [],_=>A8 _
 | _::_,0=>Nat.le_succ _
 | _::r,i+1=>Nat.succ_le_succ (afP r i)
theorem afQ(its:List Value):∀ (k:Nat) (acc:List Value),
  List.foldl (fun x1 x2=>x1++x2) acc.toArray (V7 k its.toArray)=(acc++(V7 k its).flatten).toArray
 | 0,acc=>by simp
 | k+1,acc=>by
  have e:acc.toArray++its.toArray=(acc++its).toArray:=by simp
  have e2:(acc++its)++(V7 k its).flatten=acc++(V7 (k+1) its).flatten:=by
   rw [fY,gE,Q5]
  rw [<- e2,<- afQ its k (acc++its),<- e,fY,List.foldl_cons]
section
variable {X:Cx} {pins:List (Addr×Obj)} {Y:St} {H:Hp} {s:Shared} {l b:Addr} {xs ys zs:List V}
theorem Inv.lset{f:Array Value->Array Value}(I:Inv X pins Y H s)(hH:H l=some (.lst xs))(e:s.heap.get? l=some { cls:=.type "list",data:=.seq its.toArray n })(hf:f its.toArray=its'.toArray)(hv:Vals ys its')(hz:ys.length<=sizeLine) :
  Inv X pins Y (A0 H l (.lst ys)) { s with heap:=s.heap.update l (Obj.mapSeq f),toks:=t' }:=by
 have q:=PySem.IsL.update e f;rw [hf] at q;refine I.write (x:=l) (e:=l) (by rw [hH];exact trivial) (.inl rfl) (fun b' u hb hu=>(Heap.get?_update_other s.heap (Obj.mapSeq f) (Ne.symm hb)).trans hu) ⟨_,q⟩ ?_;exact ⟨hz,its',_,hv,q⟩
theorem Inv.lnew(I:Inv X pins Y H s)(hv:Vals ys its)(hz:ys.length<=sizeLine) :
  Inv X pins Y (A0 H s.heap.objs.size (.lst ys)) { s with heap:=s.heap.push { cls:=.type "list",data:=.seq its.toArray },toks:=t' }:=
 I.laid (fun _ _ q=>Heap.get?_push_of_some _ q) (A8 _) ⟨hz,its,0,hv,Heap.get?_push_size _ rfl⟩
theorem Inv.fresh(I:Inv X pins Y H s):H s.heap.objs.size=none:=I.hok.fresh (A8 _)
theorem Inv.lstM(I:Inv X pins Y H s)(hH:H l=some (.lst xs)):xs.length<=sizeLine/\∃ (its:List Value) (n:Nat),Vals xs its/\xs.length=its.length/\s.heap.get? l=some { cls:=.type "list",data:=.seq its.toArray n }:=by
 obtain ⟨z,its,n,r,e⟩:=I.hok l _ hH;exact ⟨z,its,n,r,r.length,e⟩
theorem sE(h:n<=sizeLine):Builtin.List.listTooLong n=false:=by
 unfold Builtin.List.listTooLong;exact decide_eq_false (by lia)
end
section
variable {X:Cx}
noncomputable def oC:V->List V->Hp->VK->Prop:=fun x vs H Q=>∃ l xs y,x=.ref l/\vs=[y]/\H l=some (.lst xs)/\xs.length<sizeLine/\Q .non (A0 H l (.lst (xs++[y])))
theorem afR:eB X "list.append" oC:=by
 intro pins s Y H x vs v us Q I rx rv h;obtain ⟨l,xs,y,rfl,rfl,hH,hz,q⟩:=h
 cases rx
 obtain ⟨u,rfl,ru⟩:=rv.one;obtain ⟨z,its,n,r,hl,e⟩:=I.lstM hH;refine call_meets F.slot_list_append ⟨_,e,rfl⟩ F.entry_list_append (F.args_list_append_2 _ _) (PySem.list_append l its.toArray n u (by rw [F6];lia)) ⟨e,?_⟩;refine ⟨.non,_,I.lset (its':=its++[u]) hH e (by simp) (r.append (.cons ru .nil)) ?_,rfl,q⟩;rw [C8,T4];lia
noncomputable def sF:V->List V->Hp->VK->Prop:=fun x vs H Q=>∃ l b xs zs,x=.ref l/\vs=[.ref b]/\H l=some (.lst xs)/\H b=some (.lst zs)/\xs.length+zs.length<=sizeLine/\Q .non (A0 H l (.lst (xs++zs)))
theorem aje:eB X "list.extend" sF:=by
 intro pins s Y H x vs v us Q I rx rv h;obtain ⟨l,b,xs,zs,rfl,rfl,hH,hB,hz,q⟩:=h
 cases rx
 obtain ⟨u,rfl,ru⟩:=rv.one
 cases ru
 obtain ⟨z,its,n,r,hl,e⟩:=I.lstM hH;obtain ⟨z2,its2,n2,r2,f7,e2⟩:=I.lstM hB;have hsz:its.toArray.size+its2.toArray.size<=sizeLine:=by rw [F6,F6];lia
 have V2:¬ (!its.toArray.isEmpty&&Builtin.List.listTooLong (its.toArray.size+its2.toArray.size))=true:=by
  rw [sE hsz,Bool.and_false];exact L5
 refine call_meets F.slot_list_extend ⟨_,e,rfl⟩ F.entry_list_extend (F.args_list_extend_2 _ _)
  (AutoSeq1.list_extend_list_list_0 l its.toArray n b its2.toArray n2 V2 (by rw [F6];lia) (by lia)) ⟨e,e2,?_⟩
 refine ⟨.non,_,I.lset (its':=its++its2) hH e (by simp) (r.append r2) ?_,rfl,q⟩;rw [C8];lia
noncomputable def ao4:V->List V->Hp->VK->Prop:=fun x vs H Q=>∃ l xs i k y,x=.ref l/\vs=[.int i]/\H l=some (.lst xs)/\-(2 ^ 63)<=i/\i<2 ^ 63/\seqIndex? i xs.length=some k/\xs[k]?=some y/\Q y (A0 H l (.lst (xs.eraseIdx k)))
theorem akW:eB X "list.pop" ao4:=by
 intro pins s Y H x vs v us Q I rx rv h;obtain ⟨l,xs,i,k,y,rfl,rfl,hH,h1,h2,hk,hy,q⟩:=h
 cases rx
 obtain ⟨u,rfl,ru⟩:=rv.one;obtain ⟨t,rfl⟩:=ru;obtain ⟨z,its,n,r,hl,e⟩:=I.lstM hH;obtain ⟨w,hw,rw'⟩:=r.get hy;refine call_meets F.slot_list_pop ⟨_,e,rfl⟩ F.entry_list_pop (F.args_list_pop_2 _ _)
  (MeetsSeq.list_pop_at l its.toArray n i t k w (fitsIndex_both h1 h2) (by rw [F6,<- hl];exact hk) (by rw [<- jV];exact hw) (by rw [F6];lia)) ⟨e,?_⟩
 refine ⟨y,_,I.lset (its':=its.eraseIdx k) hH e ?_ (r.eraseIdx k) ?_,rw',q⟩
 .show its.toArray.eraseIdxIfInBounds k=(its.eraseIdx k).toArray;rw [List.eraseIdxIfInBounds_toArray]
 .have:=afP xs k
  lia
noncomputable def ahy:V->List V->Hp->VK->Prop:=fun x vs H Q=>∃ l xs,x=.ref l/\vs=[]/\H l=some (.lst xs)/\Q .non (A0 H l (.lst xs.reverse))
theorem aii:eB X "list.reverse" ahy:=by
 intro pins s Y H x vs v us Q I rx rv h;obtain ⟨l,xs,rfl,rfl,hH,q⟩:=h
 cases rx
 have wW:=rv.zero;subst wW;obtain ⟨z,its,n,r,hl,e⟩:=I.lstM hH;refine call_meets F.slot_list_reverse ⟨_,e,rfl⟩ F.entry_list_reverse (F.args_list_reverse_1 _) (AutoSeq1.list_reverse_list_0 l its.toArray n (by rw [F6];lia)) ⟨e,?_⟩;refine ⟨.non,_,I.lset (its':=its.reverse) hH e (by simp) r.reverse ?_,rfl,q⟩;rw [List.length_reverse];lia
noncomputable def sG:V->List V->Hp->VK->Prop:=fun x vs H Q=>∃ l xs,x=.ref l/\vs=[]/\H l=some (.lst xs)/\Q .non (A0 H l (.lst []))
theorem akX:eB X "list.clear" sG:=by
 intro pins s Y H x vs v us Q I rx rv h;obtain ⟨l,xs,rfl,rfl,hH,q⟩:=h
 cases rx
 have wW:=rv.zero;subst wW;obtain ⟨z,its,n,r,hl,e⟩:=I.lstM hH;refine call_meets F.slot_list_clear ⟨_,e,rfl⟩ F.entry_list_clear (F.args_list_clear_1 _) (AutoSeq1.list_clear_list_0 l its.toArray n (by rw [F6];lia)) ⟨e,?_⟩;exact ⟨.non,_,I.lset (its':=[]) (ys:=[]) hH e rfl .nil (G3 _),rfl,q⟩
noncomputable def rCat:R2:=fun x y H Q=>∃ l b xs zs,x=.ref l/\y=.ref b/\H l=some (.lst xs)/\H b=some (.lst zs)/\xs.length+zs.length<=sizeLine/\∀ p,H p=none->Q (.ref p) (A0 H p (.lst (xs++zs)))
theorem ao5:G8 X (binaryOp .Add) rCat:=by
 intro pins s Y H x y v u Q I rx ry h;obtain ⟨l,b,xs,zs,rfl,rfl,hH,hB,hz,q⟩:=h
 cases rx
 cases ry
 obtain ⟨z,its,n,r,hl,e⟩:=I.lstM hH;obtain ⟨z2,its2,n2,r2,f7,e2⟩:=I.lstM hB;refine PySem.P.add_list e e2 ?_ (by rw [F6,F6];lia);have ea:its.toArray++its2.toArray=(its++its2).toArray:=by simp
 rw [ea];exact ⟨.ref _,_,I.lnew (t':=s.toks) (r.append r2) (by rw [C8];lia),rfl,q _ I.fresh⟩
noncomputable def rRep:R2:=fun x y H Q=>∃ l k xs,x=.ref l/\y=.int k/\H l=some (.lst xs)/\-(2 ^ 63)<=k/\k<2 ^ 63/\xs.length*k.toNat<=sizeLine/\
 ∀ p,H p=none->Q (.ref p) (A0 H p (.lst (V7 k.toNat xs).flatten))
theorem am4{α:Type}(xs:List α)(k:Nat):(V7 k xs).flatten.length=k*xs.length:=by
 induction k with
 | zero=>simp
 | succ k ih=>rw [fY,gE,C8,ih,Nat.succ_mul,Nat.add_comm]
theorem ao6:G8 X (binaryOp .Mult) rRep:=by
 intro pins s Y H x y v u Q I rx ry h;obtain ⟨l,k,xs,rfl,rfl,hH,h1,h2,hz,q⟩:=h
 cases rx
 obtain ⟨t,rfl⟩:=ry;obtain ⟨z,its,n,r,hl,e⟩:=I.lstM hH;have A7:its.toArray.size*k.toNat<=sizeLine:=by rw [F6,<- hl];exact hz
 have wX:¬ its.toArray.size*k.toNat > (2 ^ 63-1) / 8:=by
  have:(sizeLine:Nat)<=(2 ^ 63-1) / 8:=by decide
  lia
 have wY:¬ (!Builtin.List.listFitsIndex k)=true:=by
  rw [fitsIndex_both h1 h2];exact L5
 have V2:¬ Builtin.List.listTooLong (its.toArray.size*k.toNat)=true:=by
  rw [sE A7];exact L5
 have Q8:List.foldl (fun x1 x2=>x1++x2) #[] (V7 (if its.toArray.isEmpty=true then 0 else k.toNat) its.toArray)=(V7 k.toNat its).flatten.toArray:=by
  have f0:∀ m:Nat,List.foldl (fun x1 x2=>x1++x2) #[] (V7 m its.toArray)=(V7 m its).flatten.toArray:=fun m=>by
   have:=afQ its m []
   rw [t9] at this;exact this
  rw [f0]
  cases its with
  | nil=>simp
  | cons a r'=>rw [if_neg (by simp)]
 refine wpAny_binaryOp_repeat_ref (T:="list") (U:="int") (by decide) ⟨_,e,rfl⟩ (fun s'=>typeIs_int s' k t) noFill_list_mul F.fills_int_mul F.slot_int_rmul repeat_list F.slot_int_index.lookup
  (call_meets F.slot_int_rmul (typeIs_int s k t) F.entry_int_rmul (F.args_int_rmul_2 _ _) (int___rmul___int_list k t l its.toArray n)
   ⟨e,rfl,⟨_,e,rfl⟩,call_meets F.slot_list_mul ⟨_,e,rfl⟩ F.entry_list_mul (F.args_list_mul_2 _ _) (AutoListH.list___mul___list_int_3 l its.toArray n k t wY wX V2) ⟨e,?_⟩⟩)
 rw [Q8];exact ⟨.ref _,_,I.lnew (t':=s.toks) (r.rep k.toNat) (by rw [am4,Nat.mul_comm];exact hz),rfl,q _ I.fresh⟩
end
section
variable {prog:Program} {w:World} {A:Around} {E:Value->Shared->Prop} {s:Shared}
end
section
variable {X:Cx}
end
end L2
namespace Att
open PySem PySem.W PySem.Calls PyProof.Rows
theorem adU{P:Params} : ∀ (ns:List Int) (vs:List Value),WellAll P h vs (ns.map WData.int)->IntsAre vs ns:=by
 intro ns
 induction ns with
 | nil=>
  intro vs w;rw [List.map_nil] at w
  cases w
  exact .nil
 | cons n ns ih=>
  intro vs w;rw [K0] at w
  cases w with
  | cons a b=>
   cases a
   exact .cons _ _ (ih _ b)
theorem ajg{l:OpenLaw}(hn:l.most=some n){P:Params}{args:List WData}{vals:List Value}(aU:l.row.toRowW.claim.pre args=true)(wZ:WellAll P h vals args) :
  ∃ a vs ns,vals=[Value.ref a]/\args=[WData.list (ns.map WData.int)]/\h.get? a=some { cls:=.type "list",data:=.seq vs.toArray }/\IntsAre vs ns/\ns.length<=n:=by
 have hsh:WShape.hasAll [] args [.list .int]=true:=(pre_splitW aU).1;have hc:l.pre.holds [] { args:=args }=true:=(pre_splitW aU).2;obtain ⟨d,r,rfl,h1,h2⟩:=hasAllW_cons hsh;obtain rfl:=hasAllW_nil h2;obtain ⟨xs,rfl,h3⟩:=hasW_list h1;obtain ⟨ns,rfl⟩:=items_int h3;have A7:ns.length<=n:=by
  unfold OpenLaw.pre at hc;have h4:(WTm.not (.lt (.lit (.int (n:Int))) (.len (.arg 0)))).holds [] { args:=[.list (ns.map .int)] }=true:=by
   have h4:=(holds_andW hc).1;rw [hn] at h4;exact h4
  have h5:=condW_of h4 (w_not (w_lt w_lit (w_len_list (w_arg rfl))));rw [A4] at h5;refine Nat.le_of_not_lt fun q=>?_
  have q':(n:Int)<((ns.length:Nat):Int):=by lia
  first
   | (rw [decide_eq_true q'] at h5;exact absurd h5 (by decide))
   | (simp at h5;lia)
 cases wZ with
 | cons w1 w2=>
  cases w2
  cases w1 with
  | list ho aV=>exact ⟨_,_,ns,rfl,rfl,ho,adU ns _ aV,A7⟩
theorem ajh(l:OpenLaw)(args:List WData):l.row.toRowW.claim.post args (.bool true) args=true:=
 postW_of (r:=l.row.toRowW) (X:=(true==true))
  (show WShape.has [] (.bool true) .bool=true by first | rfl | decide | simp [WShape.has,WShape.arms,WShape.armsAll])
  (show (WTm.eq .res (.lit (.bool true))).value [] { args:=args,res:=some (.bool true),after:=args }=some (.bool (true==true)) from w_eq_bool (w_res rfl) w_lit) rfl
theorem attach_call{l:OpenLaw}{q:Program}{XP:(Str->Option Value)->Heap->Prop}{YP:World->Heap->Prop}{d:DefRec}(hn:l.most=some n)(x9:d.params.defaults=[])(call:∀ (w:World) (s₀ zu:Shared) (mg mb:Str->Option Value) (fa:Addr) (o:Obj) (pm cd doc:Value) (a:Addr) (vs:List Value) (ns:List Int),
   Ground q loose [] XP w s₀ mg mb zu.heap->YP w zu.heap->
   zu.heap.get? fa=some o->o.data=.func (docDef d.name d.params d.body d.scope pm cd doc)->zu.heap.CodeRec cd d.name->mg d.name=some (.ref fa)->
   zu.heap.get? a=some { cls:=.type "list",data:=.seq vs.toArray }->IntsAre vs ns->ns.length<=n->zu.gens=#[]->
   codeAny (model l.prog w) callerA (.call (.ref fa) ⟨[.ref a],[]⟩) (fun r s'=>r=.ok (.ret (.bool true))/\OldK zu.heap s'.heap/\s'.os=zu.os/\AllBare s'.gens) zu) :
  WalkO q loose XP YP l.row.toRowW d [] (fun f vs=>PySem.call f vs):=by
 intro w s₀ zu mg mb G zy fa o pm cd doc dV kV ho hd P9 hD mB hg args vals as aU hlay hrd wZ hlo;obtain rfl:dV=.none:=Dflts.none hD x9;obtain rfl:kV=.none:=Dflts.noKw hD;obtain ⟨a,vs,ns,rfl,rfl,fA,o4,A7⟩:=ajg hn aU wZ;refine enter_call (codeAny_mono (call w s₀ zu mg mb fa o pm cd doc a vs ns G zy ho (fd_plain hd) P9 mB fA o4 A7 hg) fun r s' hq=>?_);obtain ⟨rfl,h2,h3,h4⟩:=hq;exact ⟨.inl ⟨.bool true,.bool true,[],rfl,fun _=>rfl,.bool true,ajh l _,fun _=>⟨List.Pairwise.nil,fun _ hm=>(nomatch hm)⟩⟩,h2,h3,h4⟩
section
variable {prog:Program} {w:World} {A:Around} {E:Value->Shared->Prop} {s:Shared} {K:Frag}
end
end Att
namespace L2
open PySem PySem.Spec PyProof.Rows
theorem afS:∀ {vs:List Value} {ns:List Int},IntsAre vs ns->Vals (ns.map V.int) vs
 | _,_,.nil=>.nil
 | _,_,.cons n t h=>.cons ⟨t,rfl⟩ (afS h)
end L2
namespace L2
open PySem PySem.Spec PyProof.Rows
end L2
namespace L2
open PySem PySem.Spec PyProof.Rows
noncomputable def sH (s:Stmt) (j:Nat):Stmt:=match s with
 | .ClassDef _ _ _ body _ _ _ _ _ _ _=>body.getD j (.Pass ⟨0,0,0,0⟩)
 | _=>.Pass ⟨0,0,0,0⟩
noncomputable def U8 (s:Stmt):Arguments:=match s with
 | .FunctionDef _ a _ _ _ _ _ _ _ _=>a
 | _=>{ posonlyargs:=[],args:=[],vararg:=none,kwonlyargs:=[],kw_defaults:=[],kwarg:=none,defaults:=[] }
noncomputable def R7 (s:Stmt):List Stmt:=match s with
 | .FunctionDef _ _ b _ _ _ _ _ _ _=>b
 | _=>[]
noncomputable def C3 (s:Stmt):Scope:=match s with
 | .FunctionDef _ _ _ _ _ _ sc _ _ _=>sc
 | _=>{ kind:=.function,names:=[],isGenerator:=false,isCoroutine:=false }
noncomputable abbrev E8:Z9:=fun _ _ _ _ _ _=>False
noncomputable abbrev E0:XK:=fun _ _ _=>False
theorem pass0 : dY E8 X E0:=fun _ _ _ _ _ _ _ h=>h.elim
structure Fun(K:PySem.W.Frag)(x qual:Str)(st:Stmt)(f:Addr)(fd:FuncData):Prop where
 ex:∃ (oc:Value) (od:Option Addr) (kV doc pm:Value) (an:Option Addr) (cdv ct:Value) (osl:Array (Option Value)),
  fd=R6 x qual (U8 st) (R7 st) (C3 st) .none kV doc pm an cdv ct/\K.lookup f=some ⟨oc,od,.func fd,osl⟩/\X1 K cdv qual=true
 kp:V9 K (.ref f)=true
section
variable {P:Program} {w:World} {K:PySem.W.Frag} {mg:Str->Option Value} {base:Heap}
end
theorem hu_of(hr:Room k A):A.units+1<cLine:=Nat.lt_of_le_of_lt (Nat.add_le_add_left (by decide:1<=64) _) hr.units
section
variable {X:Cx}
end
theorem iteF{A B:Prop}(h:B):if false=true then A else B:=by
 rw [if_neg L5];exact h
theorem iteT{A B:Prop}(h:A):if true=true then A else B:=by
 rw [if_pos rfl];exact h
noncomputable def Same (H H':Hp):Prop:=∀ b o,H b=some o->H' b=some o
theorem Same.refl(H:Hp):Same H H:=fun _ _ h=>h
theorem Same.trans(a:Same H H1)(b:Same H1 H2):Same H H2:=fun c o h=>b c o (a c o h)
theorem Same.free(e:Same H H'){l:Addr}(h:H' l=Option.none):H l=Option.none:=by
 cases q:H l with
 | none=>rfl
 | some o=>
  rw [e l o q] at h;cases h
theorem Same.seq(e:Same H H')(h:C7 K H a xs):C7 K H' a xs:=by
 rcases h with (h | ⟨o,h⟩) | h
 .exact .inl (.inl (e _ _ h))
 .exact .inl (.inr ⟨o,e _ _ h⟩)
 .exact .inr h
end L2
set_option maxRecDepth 100000
namespace L2
open PySem PySem.Spec PyProof.Rows
section
variable {κ:Type} [DecidableEq κ]
noncomputable def valV (kvs:List (κ×V)) (k:κ):Option V:=(kvs.find? fun kv=>decide (kv.1=k)).map (·.2)
noncomputable def putK (kvs:List (κ×V)) (k:κ) (v:V):List (κ×V):=
 if (kvs.any fun kv=>decide (kv.1=k))=true then kvs.map (fun kv=>if kv.1=k then (kv.1,v) else kv) else kvs++[(k,v)]
noncomputable def dropK (kvs:List (κ×V)) (k:κ):List (κ×V):=kvs.filter fun kv=>decide (kv.1≠k)
theorem oE{p:κ×V}{r:List (κ×V)}{k:κ}(e:p.1=k):valV (p::r) k=some p.2:=by simp [valV,k9,e]
theorem aE{p:κ×V}{r:List (κ×V)}{k:κ}(e:¬ p.1=k):valV (p::r) k=valV r k:=by simp [valV,k9,e]
theorem sI(k:κ):∀ kvs:List (κ×V),(kvs.any fun kv=>decide (kv.1=k))=(valV kvs k).isSome
 | []=>rfl
 | p::r=>by
  rw [u8]
  by_cases e:p.1=k
  .simp only [oE e,decide_eq_true e,Bool.true_or,Option.isSome_some]
  .rw [aE e,decide_eq_false e,Bool.false_or];exact sI k r
theorem sJ(kvs:List (κ×V))(k:κ)(v:V):(putK kvs k v).length<=kvs.length+1:=by
 unfold putK
 split
 .rw [A4];lia
 .rw [C8,K9,k8];lia
theorem akY{kvs:List (κ×V)}{k:κ}(v:V)(h:valV kvs k=none):putK kvs k v=kvs++[(k,v)]:=by
 unfold putK;rw [sI,h];exact if_neg (by decide)
theorem RelO.isSome_eq{o:Option V}{u:Option Value}(r:RelO o u):o.isSome=u.isSome:=by
 cases o with
 | none=>cases u with
  | none=>rfl
  | some _=>exact (show False from r).elim
 | some _=>cases u with
  | none=>exact (show False from r).elim
  | some _=>rfl
theorem RelO.getD{o:Option V}{u:Option Value}{d:V}{d':Value}(r:RelO o u)(rd:RelV d d'):RelV (o.getD d) (u.getD d'):=by
 cases o with
 | none=>cases u with
  | none=>exact rd
  | some _=>exact (show False from r).elim
 | some _=>cases u with
  | none=>exact (show False from r).elim
  | some _=>exact r
theorem KV.val{kvs:List (κ×V)}{vs:List (κ×Value)}(r:KV kvs vs)(k:κ):RelO (valV kvs k) (valueAt vs k):=by
 unfold KV at r
 induction r with
 | nil=>exact True.intro
 | @cons p q ps qs h t ih=>
  obtain ⟨h1,h2⟩:=h
  by_cases e:p.1=k
  .have e':q.1=k:=h1.symm.trans e;have b:valueAt (q::qs) k=some q.2:=by simp [valueAt,k9,e']
   rw [oE e,b];exact h2
  .have e':¬ q.1=k:=fun z=>e (h1.trans z)
   have b:valueAt (q::qs) k=valueAt qs k:=by simp [valueAt,k9,e']
   rw [aE e,b];exact ih
theorem KV.any{kvs:List (κ×V)}{vs:List (κ×Value)}(r:KV kvs vs)(k:κ):(kvs.any fun kv=>decide (kv.1=k))=vs.any fun kv=>decide (kv.1=k):=by
 unfold KV at r
 induction r with
 | nil=>rfl
 | cons h t ih=>rw [u8,u8,ih,h.1]
theorem KV.repl{kvs:List (κ×V)}{vs:List (κ×Value)}(r:KV kvs vs)(k:κ){y:V}(ry:RelV y u) :
  KV (kvs.map fun kv=>if kv.1=k then (kv.1,y) else kv) (vs.map fun kv=>if kv.1=k then (kv.1,u) else kv):=by
 unfold KV at r ⊢
 induction r with
 | nil=>exact .nil
 | @cons p q ps qs h t ih=>
  rw [K0,K0];refine .cons ?_ ih;obtain ⟨h1,h2⟩:=h
  by_cases e:p.1=k
  .rw [if_pos e,if_pos (h1.symm.trans e)];exact ⟨h1,ry⟩
  .rw [if_neg e,if_neg (fun z=>e (h1.trans z))];exact ⟨h1,h2⟩
theorem KV.put{kvs:List (κ×V)}{vs:List (κ×Value)}(r:KV kvs vs)(k:κ){y:V}(ry:RelV y u):KV (putK kvs k y) (stored vs k u):=by
 unfold putK stored;rw [r.any k]
 by_cases e:(vs.any fun kv=>decide (kv.1=k))=true
 .rw [if_pos e,if_pos e];exact r.repl k ry
 .rw [if_neg e,if_neg e];exact Paired.snoc r ⟨rfl,ry⟩
theorem KV.keys{kvs:List (κ×V)}{vs:List (κ×Value)}(r:KV kvs vs):kvs.map (·.1)=vs.map (·.1):=by
 unfold KV at r
 induction r with
 | nil=>rfl
 | cons h t ih=>rw [K0,K0,ih,h.1]
theorem KV.length{kvs:List (κ×V)}{vs:List (κ×Value)}(r:KV kvs vs):kvs.length=vs.length:=Paired.length r
end
theorem kV_is{P:Program}{w:World}{k:C1}(r:RelV (kV k) u):(N9 P w).is k u=true:=by
 cases k with
 | inl i=>obtain ⟨t,e⟩:=(show ∃ t,u=Value.int i t from r);subst e;exact agB P w i t
 | inr x=>obtain ⟨t,e⟩:=(show ∃ t,u=Value.str x t from r);subst e;exact agC P w x t
theorem afT{P:Program}{w:World} : ∀ {ks:List C1} {us:List Value},Vals (ks.map kV) us->ItemsAre (N9 P w) ks us
 | [],_,r=>by rw [List.map_nil] at r;cases r;exact .nil
 | k::ks,_,r=>by
  rw [K0] at r
  cases r with
  | cons h t=>exact .cons (kV_is h) (afT t)
noncomputable abbrev KT (H:Hp):List (List C1×V)->List (List C1×Addr×Value)->Prop:=Paired fun p q=>p.1=q.1/\H q.2.1=some (.tup (p.1.map kV))/\RelV p.2 q.2.2
theorem KT.val{kvs:List (List C1×V)}{xs:List (List C1×Addr×Value)}(r:KT H kvs xs)(k:List C1):RelO (valV kvs k) ((atKey xs k).map (·.2)):=by
 induction r with
 | nil=>exact True.intro
 | @cons p q ps qs h t ih=>
  obtain ⟨h1,_,h2⟩:=h
  by_cases e:p.1=k
  .have e':q.1=k:=h1.symm.trans e;have b:atKey (q::qs) k=some q.2:=by simp [atKey,k9,e']
   rw [oE e,b];exact h2
  .have e':¬ q.1=k:=fun z=>e (h1.trans z)
   have b:atKey (q::qs) k=atKey qs k:=by simp [atKey,k9,e']
   rw [aE e,b];exact ih
theorem KT.repl{kvs:List (List C1×V)}{xs:List (List C1×Addr×Value)}(r:KT H kvs xs)(k:List C1){y:V}(ry:RelV y u) :
  KT H (kvs.map fun kv=>if kv.1=k then (kv.1,y) else kv) (xs.map (putAt k u)):=by
 induction r with
 | nil=>exact .nil
 | @cons p q ps qs h t ih=>
  rw [K0,K0];refine .cons ?_ ih;obtain ⟨h1,h2,h3⟩:=h;unfold putAt
  by_cases e:p.1=k
  .rw [if_pos e,if_pos (h1.symm.trans e)];exact ⟨h1,h2,ry⟩
  .rw [if_neg e,if_neg (fun z=>e (h1.trans z))];exact ⟨h1,h2,h3⟩
theorem KT.put{kvs:List (List C1×V)}{xs:List (List C1×Addr×Value)}(r:KT H kvs xs)(k:List C1){y:V}(hb:H b=some (.tup (k.map kV)))(ry:RelV y u) :
  KT H (putK kvs k y) (storedH xs k b u):=by
 have e:(kvs.any fun kv=>decide (kv.1=k))=(atKey xs k).isSome:=by
  rw [sI,(r.val k).isSome_eq,Option.isSome_map]
 unfold putK storedH;rw [e]
 by_cases q:(atKey xs k).isSome=true
 .rw [if_pos q,if_pos q];exact r.repl k ry
 .rw [if_neg q,if_neg q];exact Paired.snoc r ⟨rfl,hb,ry⟩
theorem KT.keeps{kvs:List (List C1×V)}{xs:List (List C1×Addr×Value)}(r:KT H kvs xs)(ht:∀ b ys,H b=some (.tup ys)->H' b=some (.tup ys)):KT H' kvs xs:=
 O4 r fun _ _ z=>⟨z.1,ht _ _ z.2.1,z.2.2⟩
section
variable {P:Program} {w:World} {H:Hp} {h:Heap} {a:Addr}
theorem rd_of{u:HO}(ok:L8 P w H h)(e:Rd H a u):ObjOk P w H h a u:=e.ok ok
theorem dk_rd(ok:L8 P w H h)(e:Rd H a (.dK kvs)):kvs.length<=sizeLine/\(a==sysModules)=false/\∃ vs,KV kvs vs/\h.DictOf (N9 P w) a vs:=
 show ObjOk P w H h a (.dK kvs) from rd_of ok e
theorem dk_of(ok:L8 P w H h)(e:H a=some (.dK kvs)):kvs.length<=sizeLine/\(a==sysModules)=false/\∃ vs,KV kvs vs/\h.DictOf (N9 P w) a vs:=dk_rd ok (.inl e)
theorem eC{ks:List C1}(ok:L8 P w H h)(e:H a=some (.tup (ks.map kV))):(tupleKind (N9 P w)).is h ks a:=by
 obtain ⟨_,its,r,o,h1,h2,n,h3⟩:=(show ObjOk P w H h a (.tup (ks.map kV)) from ok a _ e)
 exact ⟨o,its.toArray,n,h1,h2,h3,by simpa using afT r⟩
theorem dt_rd{kvs:List (List C1×V)}(ok:L8 P w H h)(e:Rd H a (.dT kvs)):kvs.length<=sizeLine/\(a==sysModules)=false/\
  ∃ xs,KT H kvs xs/\h.DictOfH (tupleKind (N9 P w)) a xs:=by
 obtain ⟨z,y,xs,r,o,es,ep,h1,h2,h3,h4,h5⟩:=(show ObjOk P w H h a (.dT kvs) from rd_of ok e)
 refine ⟨z,y,xs,r,o,es,ep,h1,h2,h3,h4,fun x hx=>?_,h5⟩;have all:∀ {l:List (List C1×V)} {m:List (List C1×Addr×Value)},KT H l m->∀ x∈m,(tupleKind (N9 P w)).is h x.1 x.2.1:=by
  intro l m q
  induction q with
  | nil=>intro x hx;exact nomatch hx
  | @cons p q ps qs hq t ih=>
   intro x hx
   rcases E5.mp hx with e | hx
   .subst e;exact eC ok (by rw [<- hq.1];exact hq.2.1)
   .exact ih x hx
 exact all r x hx
theorem dt_of{kvs:List (List C1×V)}(ok:L8 P w H h)(e:H a=some (.dT kvs)):kvs.length<=sizeLine/\(a==sysModules)=false/\
  ∃ xs,KT H kvs xs/\h.DictOfH (tupleKind (N9 P w)) a xs:=dt_rd ok (.inl e)
end
noncomputable def DGet (H:Hp) (a:Addr) (y:V) (r:Option V):Prop:=
 (∃ kvs k,Rd H a (.dK kvs)/\y=kV k/\r=valV kvs k)\/∃ kvs k b,Rd H a (.dT kvs)/\y=.ref b/\H b=some (.tup (k.map kV))/\r=valV kvs k
noncomputable def DPut (H:Hp) (a:Addr) (y v:V) (H':Hp):Prop:=
 (∃ kvs k,H a=some (.dK kvs)/\y=kV k/\kvs.length<sizeLine/\H'=A0 H a (.dK (putK kvs k v)))\/
 ∃ kvs k b,H a=some (.dT kvs)/\y=.ref b/\H b=some (.tup (k.map kV))/\kvs.length<sizeLine/\H'=A0 H a (.dT (putK kvs k v))
theorem b0{k:C1}(e:H a=some (.dK kvs)):DGet H a (kV k) (valV kvs k):=.inl ⟨kvs,k,.inl e,rfl,rfl⟩
theorem bZ{k:C1}{v:V}(e:H a=some (.dK kvs))(hl:kvs.length<sizeLine):DPut H a (kV k) v (A0 H a (.dK (putK kvs k v))):=.inl ⟨kvs,k,e,rfl,hl,rfl⟩
section
variable {X:Cx} {pins:List (Addr×Obj)} {Y:St} {H:Hp} {s:Shared} {a:Addr} {y v:V} {u r:Value} {o:Option V} {A:Around} {E:Value->Shared->Prop}
theorem Inv.big(I:Inv X pins Y H s):sysModules<s.heap.objs.size:=by
 have h:mainGlobals<s.heap.objs.size:=(I.mod.glob.keeps I.bk).lt;exact Nat.lt_trans (by decide) h
theorem afU{Q:Value->Shared->Prop}(hu:A.units+1<cLine)(I:Inv X pins Y H s)(g:DGet H a y (some v))(ry:RelV y u)(h:∀ w' s',Inv X pins Y H s'->RelV v w'->Q w' s') :
  wpAny (model X.prog X.w) A (getItem (.ref a) u) Q E s:=by
 rcases g with ⟨kvs,k,e,ey,l⟩ | ⟨kvs,k,b,e,ey,eb,l⟩
 .subst ey;obtain ⟨z,hd,vs,rel,dd⟩:=dk_rd I.hok e;obtain ⟨w',hw,rw'⟩:=nY (v:=v) (o:=valueAt vs k) (by rw [l];exact rel.val k);exact wpAny_getItem_of (kV_is ry) dd.mapOf hw (h w' _ (I.tok _) rw')
 .subst ey
  cases (show u=Value.ref b from ry)
  obtain ⟨z,hd,xs,rel,dd⟩:=dt_rd I.hok e;obtain ⟨w',hw,rw'⟩:=nY (v:=v) (o:=(atKey xs k).map (·.2)) (by rw [l];exact rel.val k);obtain ⟨p,hp,V3⟩:=jY.mp hw;refine wpAny_getItem_heap (tupleKind_room_in1 hu) (eC I.hok eb) dd hp ?_;rw [V3];exact h w' _ (I.tok _) rw'
theorem d_in{Q:Value->Shared->Prop}(hu:A.units+1<cLine)(I:Inv X pins Y H s)(g:DGet H a y o)(ry:RelV y u)(h:∀ s',Inv X pins Y H s'->Q (.bool o.isSome) s') :
  wpAny (model X.prog X.w) A (compareOp .In u (.ref a)) Q E s:=by
 rcases g with ⟨kvs,k,e,ey,l⟩ | ⟨kvs,k,b,e,ey,eb,l⟩
 .subst ey;obtain ⟨z,hd,vs,rel,dd⟩:=dk_rd I.hok e;refine wpAny_in_of (kV_is ry) hd dd.mapOf ?_;rw [<- (rel.val k).isSome_eq,<- l];exact h _ (I.tok _)
 .subst ey
  cases (show u=Value.ref b from ry)
  obtain ⟨z,hd,xs,rel,dd⟩:=dt_rd I.hok e;refine wpAny_in_heap (tupleKind_room_in1 hu) (eC I.hok eb) hd dd ?_;have q:=(rel.val k).isSome_eq;rw [Option.isSome_map] at q;rw [<- q,<- l];exact h _ (I.tok _)
theorem am5{Q:Value->Shared->Prop}(hu:A.units+1<cLine)(I:Inv X pins Y H s)(g:DGet H a y o)(ry:RelV y u)(h:∀ s',Inv X pins Y H s'->Q (.bool (!o.isSome)) s') :
  wpAny (model X.prog X.w) A (compareOp .NotIn u (.ref a)) Q E s:=by
 rcases g with ⟨kvs,k,e,ey,l⟩ | ⟨kvs,k,b,e,ey,eb,l⟩
 .subst ey;obtain ⟨z,hd,vs,rel,dd⟩:=dk_rd I.hok e;refine wpAny_notIn_of (kV_is ry) hd dd.mapOf ?_;rw [<- (rel.val k).isSome_eq,<- l];exact h _ (I.tok _)
 .subst ey
  cases (show u=Value.ref b from ry)
  obtain ⟨z,hd,xs,rel,dd⟩:=dt_rd I.hok e;refine wpAny_notIn_heap (tupleKind_room_in1 hu) (eC I.hok eb) hd dd ?_;have q:=(rel.val k).isSome_eq;rw [Option.isSome_map] at q;rw [<- q,<- l];exact h _ (I.tok _)
theorem sK{ob:HO}(I:Inv X pins Y H s)(mu:jZ (H a))(hs:Heap.SameBut a s.heap h')(he:∃ q,h'.get? a=some q)(new:ObjOk X.prog X.w (A0 H a ob) h' a ob) :
  Inv X pins Y (A0 H a ob) { s with heap:=h',toks:=t' }:=
 I.write (x:=a) (e:=a) mu (.inl rfl) (fun b q hb z=>(hs.2 b hb).trans z) he new
theorem sL{P:Program}{w:World}{vs:List (C1×Value)}(z:kvs.length<=sizeLine)(hd:(a==sysModules)=false)(rel:KV kvs vs)(dd:h'.DictOf (N9 P w) a vs) :
  ObjOk P w H' h' a (.dK kvs):=⟨z,hd,vs,rel,dd⟩
theorem afV{Q:Unit->Shared->Prop}(hu:A.units+1<cLine)(I:Inv X pins Y H s)(g:DPut H a y v H')(ry:RelV y u)(rv:RelV v r)(h:∀ s',Inv X pins Y H' s'->Q () s') :
  wpAny (model X.prog X.w) A (setItem (.ref a) u r) Q E s:=by
 rcases g with ⟨kvs,k,e,ey,l,eH⟩ | ⟨kvs,k,b,e,ey,eb,l,eH⟩
 .subst ey eH;obtain ⟨z,hd,vs,rel,dd⟩:=dk_of I.hok e;have hz:vs.length<=sizeLine:=by rw [<- rel.length];exact z
  have hl:(putK kvs k v).length<=sizeLine:=by have:=sJ kvs k v;lia
  refine wpAny_setItem_pairs (hsz:=hz) (kV_is ry) dd fun h' dd' hs=>h _ ?_
  have he:∃ q,h'.get? a=some q:=let ⟨q,_,_,hq,_⟩:=dd';⟨q,hq⟩
  exact sK I (by rw [e];exact True.intro) hs he (sL hl hd (rel.put k rv) dd')
 .subst ey eH
  cases (show u=Value.ref b from ry)
  obtain ⟨z,hd,xs,rel,dd⟩:=dt_of I.hok e;have hz:xs.length<=sizeLine:=by rw [<- Paired.length rel];exact z
  have hl:(putK kvs k v).length<=sizeLine:=by have:=sJ kvs k v;lia
  refine wpAny_setItem_heap (hsz:=hz) (tupleKind_room_in1 hu) (eC I.hok eb) dd fun h' dd' hs=>h _ ?_
  obtain ⟨q,es,ep,hq,h2,h3,h4,_,h5⟩:=dd';refine sK I (by rw [e];exact True.intro) hs ⟨q,hq⟩ ⟨hl,hd,_,(rel.put k eb rv).keeps fun c ys ec=>?_,q,es,ep,hq,h2,h3,h4,h5⟩;rw [A3 (ne_of ec e (fun z=>nomatch z))];exact ec
end
section
variable {X:Cx} {pins:List (Addr×Obj)} {Y:St} {H:Hp} {s:Shared} {a:Addr} {kvs:List (C1×V)} {k:C1} {u:Value} {A:Around} {E:Value->Shared->Prop}
theorem d_len{Q:Value->Shared->Prop}(I:Inv X pins Y H s)(e:Rd H a (.dK kvs))(h:∀ t s',Inv X pins Y H s'->Q (.int kvs.length t) s'):wpAny (model X.prog X.w) A (call (.builtin "len") [.ref a]) Q E s:=by
 obtain ⟨z,hd,vs,rel,dd⟩:=dk_rd I.hok e;refine call_len_dict hd dd (by rw [<- rel.length];rw [sizeLine_eq] at z;lia) ?_;rw [<- rel.length];exact h _ _ (I.tok _)
end
noncomputable def NoSl (i:Expr):Prop:=∀ ov iv,subscripted i false ov iv=operate [ov,iv] (getItem ov iv)
theorem ajj{w:World}{env:Env}{value slice:Expr}{pos:Pos}{T id:String}{Q:Value->Shared->Prop}(hl:typeLookup (.type T) "__getitem__"=pure (some (.builtin id)))(hs:NoSl slice)(h:wpAny (model prog w) A (eval value env) (fun o zu=>wpAny (model prog w) A (eval slice env) (fun i zx=>zx.TypeIs o T/\wpAny (model prog w) A (getItem o i) Q E zx) E zu) E s) :
  wpAny (model prog w) A (eval (.Subscript value slice pos) env) Q E s:=by
 refine Subscript_ (wpAny_mono h (fun o zu zr=>wpAny_mono zr (fun i zx zq=>?_) fun _ _ x=>x) fun _ _ x=>x);obtain ⟨hT,zq⟩:=zq;unfold subscriptTail;refine wpAny_bind ?_;rw [getitemInPython_of_ne hT.not_modules];refine wpAny_bind (wpAny_specialOf hT hl ?_);have fin:wpAny (model prog w) A (subscripted slice false o i) (fun r zw=>wpAny (model prog w) A (letTemporaryGo value o r >>= fun _=>pure r) Q E zw) E zx:=by
  rw [hs o i];exact wpAny_operating (wpAny_mono zq (fun r zw zp=>wpAny_bind (wpAny_letTemporaryGo (wpAny_pure zp))) fun _ _ x=>x)
 first
  | exact wpAny_pure (wpAny_bind fin)
  | exact wpAny_bind (wpAny_pure (wpAny_bind fin))
  | exact wpAny_bind fin
theorem agJ{y:V}{o:Option V}(I:Inv X pins Y H s)(g:DGet H a y o):s.TypeIs (.ref a) "dict":=by
 rcases g with ⟨kvs,k,e,_,_⟩ | ⟨kvs,k,b,e,_,_,_⟩
 .obtain ⟨_,_,vs,_,dd⟩:=dk_rd I.hok e;exact dd.typeIs
 .obtain ⟨_,_,xs,_,dd⟩:=dt_rd I.hok e;exact dd.typeIs
noncomputable def tDGet (td ty:TE):TE:=fun Y H Q=>td Y H fun x H1=>ty Y H1 fun y H2=>∃ a v,x=.ref a/\DGet H2 a y (some v)/\Q v H2
noncomputable def sDPut (td ty tv:TE):TS:=fun D Y H=>tv Y H fun v H1=>td Y H1 fun x H2=>ty Y H2 fun y H3=>∃ a H4,x=.ref a/\DPut H3 a y v H4/\D.nx Y H4
noncomputable def sDAug (td ty tv:TE) (rd:V->V->Hp->VK->Prop):TS:=fun D Y H=>td Y H fun x H1=>ty Y H1 fun y H2=>∃ a v,x=.ref a/\DGet H2 a y (some v)/\
 tv Y H2 fun y2 H3=>rd v y2 H3 fun z H4=>∃ H5,DPut H4 a y z H5/\D.nx Y H5
section
variable {X:Cx} {o i e value:Expr} {pos pos' tpos:Pos} {td ty tv:TE}
theorem am6(hu:X.A.units+1<cLine)(ho:PE X o td)(hi:PE X i ty)(hs:NoSl i):PE X (.Subscript o i pos) (tDGet td ty):=by
 intro pins s Y H Q I h;refine ajj PySem.F.slot_dict_getitem.lookup hs (A9 (ho pins s Y H _ I h) fun u s1 ⟨x,H1,I1,rx,q1⟩=>A9 (hi pins s1 Y H1 _ I1 q1) fun iv s2 ⟨y,H2,I2,ry,a,v,ex,g,q2⟩=>?_);subst ex;obtain rfl:u=Value.ref a:=rx;exact ⟨agJ I2 g,afU hu I2 g ry fun w' s3 I3 rw'=>⟨v,H2,I3,rw',q2⟩⟩
theorem am7(hu:X.A.units+1<cLine)(ho:PE X o td)(hi:PE X i ty)(hv:PE X value tv)(hs:swapsWith value (some (.Subscript o i pos')) pos.line X.env=pure false) :
  PS X (.Assign [.Subscript o i pos'] value pos) (sDPut td ty tv):=by
 intro pins s Y H D I h;refine wpAny_Assign_Subscript (A9 (hv pins s Y H _ I h) fun r s1 ⟨v,H1,I1,rv,q1⟩=>A9 (ho pins s1 Y H1 _ I1 q1) fun u s2 ⟨x,H2,I2,rx,q2⟩=>A9 (hi pins s2 Y H2 _ I2 q2) fun iv s3 ⟨y,H3,I3,ry,a,H4,ex,g,q3⟩=>?_) hs;subst ex;obtain rfl:u=Value.ref a:=rx;exact afV hu I3 g ry rv fun s4 I4=>⟨Y,H4,I4,q3⟩
theorem am8{op:Operator}{rd:V->V->Hp->VK->Prop}(hu:X.A.units+1<cLine)(ho:PE X o td)(hi:PE X i ty)(hv:PE X value tv)(xA:InOp X op rd)(ha:∀ ov iv new,augStore i ov iv new=(do holding [new,ov,iv] (setItem ov iv new);release [new,ov,iv] [];pure .next)):PS X (.AugAssign (.Subscript o i tpos) op value pos) (sDAug td ty tv rd):=by
 intro pins s Y H D I h;refine wpAny_AugAssign_SubscriptAny (A9 (ho pins s Y H _ I h) fun u s1 ⟨x,H1,I1,rx,q1⟩=>A9 (hi pins s1 Y H1 _ I1 q1) fun iv s2 ⟨y,H2,I2,ry,a,v,ex,g,q2⟩=>?_) ha;subst ex;obtain rfl:u=Value.ref a:=rx;refine afU hu I2 g ry fun w' s3 I3 rw'=>A9 (hv pins s3 Y H2 _ I3 q2) fun w2 s4 ⟨y2,H3,I4,ry2,q3⟩=>A9 (xA pins s4 Y H3 v y2 w' w2 _ I4 rw' ry2 q3) fun w3 s5 ⟨z,H4,I5,rz,H5,g5,q4⟩=>?_
 exact afV hu I5 g5 ry rz fun s6 I6=>⟨Y,H5,I6,q4⟩
end
theorem akZ{P:Program}{w:World}(h:Heap)(hb:sysModules<h.objs.size):ObjOk P w H (h.push { cls:=.type "dict",data:=.dict #[] }) h.objs.size (.dK []):=
 ⟨G3 _,beq_eq_false_iff_ne.mpr (Ne.symm (K3 hb)),[],.nil,Heap.DictOf.new h⟩
noncomputable def sM:TE:=fun _ H Q=>∀ p,H p=none->Q (.ref p) (A0 H p (.dK []))
section
variable {X:Cx} {pos:Pos}
theorem ak0:PE X (.Dict [] [] pos) sM:=fun pins s Y H Q I h=>
 wpAny_Dict_empty ⟨.ref s.heap.objs.size,_,I.laid (a:=s.heap.objs.size) (o:=.dK []) (t':=s.toks) (fun _ _ q=>Heap.get?_push_of_some _ q) (A8 _) (akZ s.heap I.big),rfl,h _ (I.hok.fresh (A8 _))⟩
end
noncomputable def gP:List (TE×TE)->St->Hp->(List (V×V)->Hp->Prop)->Prop
 | [],_,H,Q=>Q [] H
 | (tk,tv)::r,Y,H,Q=>tk Y H fun x H1=>tv Y H1 fun y H2=>gP r Y H2 fun ps H3=>Q ((x,y)::ps) H3
noncomputable def W3 (kvs more:List (C1×V)):List (C1×V):=more.foldl (fun acc kv=>putK acc kv.1 kv.2) kvs
theorem ac7:∀ (more kvs:List (C1×V)),(W3 kvs more).length<=kvs.length+more.length
 | [],kvs=>by show kvs.length<=kvs.length+0;lia
 | p::r,kvs=>by
  have h1:=ac7 r (putK kvs p.1 p.2);have h2:=sJ kvs p.1 p.2;show (W3 (putK kvs p.1 p.2) r).length<=_;rw [K9];lia
noncomputable def tDisp (trs:List (TE×TE)):TE:=fun Y H Q=>∀ p,H p=none->gP trs Y (A0 H p (.dK [])) fun ps H2=>H2 p=some (.dK [])/\∃ kvs:List (C1×V),ps=kvs.map (fun kv=>(kV kv.1,kv.2))/\kvs.length<=15/\Q (.ref p) (A0 H2 p (.dK (W3 [] kvs)))
structure M1(X:Cx)(o:Expr)(m:Str)(apos:Pos)(e:Expr)(cpos:Pos):Prop where
 base:attributeBase o m X.env (eval o X.env)=eval o X.env
 few:((backTo cpos (starEach [e] X.env)).all (fun x=>!x.1)&&(backToKw cpos (keywordEach [] X.env)).all (fun x=>x.1.isSome)
  && decide (([e]:List Expr).length+([]:List Keyword).length+(if ([]:List Keyword).isEmpty then 0 else 1)<30))=true
 line:(apos.endLine==cpos.line)=true
 trees:backTo cpos (starEach [e] X.env)=[(false,eval e X.env)]
structure M2(X:Cx)(o:Expr)(m:Str)(apos:Pos)(e f:Expr)(cpos:Pos):Prop where
 base:attributeBase o m X.env (eval o X.env)=eval o X.env
 few:((backTo cpos (starEach [e,f] X.env)).all (fun x=>!x.1)&&(backToKw cpos (keywordEach [] X.env)).all (fun x=>x.1.isSome)
  && decide (([e,f]:List Expr).length+([]:List Keyword).length+(if ([]:List Keyword).isEmpty then 0 else 1)<30))=true
 line:(apos.endLine==cpos.line)=true
 trees:backTo cpos (starEach [e,f] X.env)=[(false,eval e X.env),(false,eval f X.env)]
noncomputable def aF (H:Hp) (a:Addr):Prop:=(∃ kvs,Rd H a (.dK kvs))\/∃ kvs,Rd H a (.dT kvs)
theorem sN(I:Inv X pins Y H s)(d:aF H a) :
  s.TypeIs (.ref a) "dict"/\(∀ b,Value.ref a=.ref b->∃ ob,s.heap.get? b=some ob/\ob.dict=none)/\(a==sysModules)=false:=by
 rcases d with ⟨kvs,e⟩ | ⟨kvs,e⟩
 .obtain ⟨_,hd,vs,_,dd⟩:=dk_rd I.hok e;refine ⟨dd.typeIs,fun b q=>?_,hd⟩
  cases q
  obtain ⟨ob,_,_,h1,h2,_⟩:=dd;exact ⟨ob,h1,h2.2.1⟩
 .obtain ⟨_,hd,xs,_,dd⟩:=dt_rd I.hok e;refine ⟨dd.typeIs,fun b q=>?_,hd⟩
  cases q
  obtain ⟨ob,_,_,h1,h2,_⟩:=dd;exact ⟨ob,h1,h2.2.1⟩
section
variable {X:Cx} {pins:List (Addr×Obj)} {Y:St} {H:Hp} {s:Shared} {a:Addr} {y d:V} {u r:Value} {o:Option V} {A:Around} {E:Value->Shared->Prop}
theorem ao7{Q:Value->Shared->Prop}(hu:A.units+1<cLine)(I:Inv X pins Y H s)(g:DGet H a y o)(ry:RelV y u)(h:∀ w' s',Inv X pins Y H s'->RelV (o.getD .non) w'->Q w' s') :
  wpAny (model X.prog X.w) A (call (.builtin "dict.get") [.ref a,u]) Q E s:=by
 rcases g with ⟨kvs,k,e,ey,l⟩ | ⟨kvs,k,b,e,ey,eb,l⟩
 .subst ey;obtain ⟨z,hd,vs,rel,dd⟩:=dk_rd I.hok e;refine call_meetsIn gG dd.typeIs nS (PySem.F.args_dict_get_2 _ _) (meets_dict_get (N9 X.prog X.w) a (kV_is ry) hd) ⟨_,dd.mapOf,h _ _ (I.tok _) ?_⟩;rw [l];exact (rel.val k).getD rfl
 .subst ey
  cases (show u=Value.ref b from ry)
  obtain ⟨z,hd,xs,rel,dd⟩:=dt_rd I.hok e;refine call_meetsIn gG dd.typeIs nS (PySem.F.args_dict_get_2 _ _) (meetsH_dict_get (tupleKind (N9 X.prog X.w)) a b hd) ⟨tupleKind_room_in1 hu,k,xs,eC I.hok eb,dd,h _ _ (I.tok _) ?_⟩;rw [l];exact (rel.val k).getD rfl
theorem ao8{Q:Value->Shared->Prop}(hu:A.units+1<cLine)(I:Inv X pins Y H s)(g:DGet H a y o)(ry:RelV y u)(rd:RelV d r)(h:∀ w' s',Inv X pins Y H s'->RelV (o.getD d) w'->Q w' s') :
  wpAny (model X.prog X.w) A (call (.builtin "dict.get") [.ref a,u,r]) Q E s:=by
 rcases g with ⟨kvs,k,e,ey,l⟩ | ⟨kvs,k,b,e,ey,eb,l⟩
 .subst ey;obtain ⟨z,hd,vs,rel,dd⟩:=dk_rd I.hok e;refine call_meetsIn gG dd.typeIs nS (PySem.F.args_dict_get_3 _ _ _) (meets_dict_get_default (N9 X.prog X.w) a (kV_is ry) hd r) ⟨_,dd.mapOf,h _ _ (I.tok _) ?_⟩;rw [l];exact (rel.val k).getD rd
 .subst ey
  cases (show u=Value.ref b from ry)
  obtain ⟨z,hd,xs,rel,dd⟩:=dt_rd I.hok e;refine call_meetsIn gG dd.typeIs nS (PySem.F.args_dict_get_3 _ _ _) (meetsH_dict_get_default (tupleKind (N9 X.prog X.w)) a b hd r) ⟨tupleKind_room_in1 hu,k,xs,eC I.hok eb,dd,h _ _ (I.tok _) ?_⟩;rw [l];exact (rel.val k).getD rd
end
noncomputable def sO (td ty:TE):TE:=fun Y H Q=>td Y H fun x H1=>∃ a,x=.ref a/\aF H1 a/\ty Y H1 fun y H2=>∃ o,DGet H2 a y o/\Q (o.getD .non) H2
noncomputable def sP (td ty tx:TE):TE:=fun Y H Q=>td Y H fun x H1=>∃ a,x=.ref a/\aF H1 a/\ty Y H1 fun y H2=>tx Y H2 fun z H3=>∃ o,DGet H3 a y o/\Q (o.getD z) H3
noncomputable def ao9 (td ty:TE):TE:=fun Y H Q=>td Y H fun x H1=>∃ a,x=.ref a/\aF H1 a/\ty Y H1 fun y H2=>∃ kvs k v,H2 a=some (.dK kvs)/\y=kV k/\valV kvs k=some v/\Q v (A0 H2 a (.dK (dropK kvs k)))
section
variable {X:Cx} {o e f:Expr} {apos cpos:Pos} {td ty tx:TE}
theorem ak1(hu:X.A.units+1<cLine)(ho:PE X o td)(he:PE X e ty)(m:M1 X o "get" apos e cpos):PE X (.Call (.Attribute o "get" apos) [e] [] cpos) (sO td ty):=by
 intro pins s Y H Q I h;refine wpAny_Call_method m.base m.few m.line PySem.F.plainAttrs_dict gG PySem.F.type_dict_get (A9 (ho pins s Y H _ I h) fun u s1 ⟨x,H1,I1,rx,a,ex,d,q1⟩=>?_);subst ex;obtain rfl:u=Value.ref a:=rx;obtain ⟨t1,t2,_⟩:=sN I1 d;refine ⟨t1,t2,?_⟩;rw [m.trees];refine Calls.callWith_builtin rfl (Calls.evalArgs_plain (Calls.spliced_cons (A9 (he pins s1 Y H1 _ I1 q1) fun iv s2 ⟨y,H2,I2,ry,ov,g,q2⟩=>Calls.spliced_nil ?_)));exact ao7 hu I2 g ry fun w' s3 I3 rw'=>⟨_,H2,I3,rw',q2⟩
theorem ak2(hu:X.A.units+1<cLine)(ho:PE X o td)(he:PE X e ty)(hf:PE X f tx)(m:M2 X o "get" apos e f cpos):PE X (.Call (.Attribute o "get" apos) [e,f] [] cpos) (sP td ty tx):=by
 intro pins s Y H Q I h;refine wpAny_Call_method m.base m.few m.line PySem.F.plainAttrs_dict gG PySem.F.type_dict_get (A9 (ho pins s Y H _ I h) fun u s1 ⟨x,H1,I1,rx,a,ex,d,q1⟩=>?_);subst ex;obtain rfl:u=Value.ref a:=rx;obtain ⟨t1,t2,_⟩:=sN I1 d;refine ⟨t1,t2,?_⟩;rw [m.trees];refine Calls.callWith_builtin rfl (Calls.evalArgs_plain (Calls.spliced_cons (A9 (he pins s1 Y H1 _ I1 q1) fun iv s2 ⟨y,H2,I2,ry,q2⟩=>
  Calls.spliced_cons (A9 (hf pins s2 Y H2 _ I2 q2) fun fv s3 ⟨z,H3,I3,rz,ov,g,q3⟩=>Calls.spliced_nil ?_))))
 exact ao8 hu I3 g ry rz fun w' s4 I4 rw'=>⟨_,H3,I4,rw',q3⟩
end
section
variable {X:Cx} {pins:List (Addr×Obj)} {Y:St} {H:Hp} {s:Shared} {a:Addr} {kvs:List (C1×V)} {A:Around} {E:Value->Shared->Prop}
end
section
variable {X:Cx} {pins:List (Addr×Obj)} {Y:St} {H:Hp} {s:Shared} {a:Addr} {y:V} {u:Value} {A:Around} {E:Value->Shared->Prop}
end
end L2
namespace L2
open PySem PySem.Spec PyProof.Rows
section
variable {X:Cx}
end
section
variable {κ:Type} [DecidableEq κ]
theorem oF:∀ {l:List κ} {k:κ},l.Nodup->¬ k∈l->(l++[k]).Nodup
 | [],k,_,_=>by simp
 | a::r,k,h,hk=>by
  obtain ⟨h1,h2⟩:=U5.mp h;show (a::(r++[k])).Nodup;refine U5.mpr ⟨fun m=>?_,oF h2 fun m=>hk (E5.mpr (Or.inr m))⟩
  rcases D3.mp m with q | q
  .exact h1 q
  .exact hk (E5.mpr (Or.inl (D1.mp q).symm))
end
end L2
set_option maxRecDepth 100000
namespace L2
open PySem PySem.Spec PyProof.Rows
noncomputable def cloOf (cells:List (Str×Addr)):List (Str×NameKind)->List (Str×Addr)->List (Str×Addr)
 | [],acc=>acc
 | (n,k)::r,acc=>if k=.free then cloOf cells r ((n,(cells.lookup n).getD 0)::acc) else cloOf cells r acc
theorem sQ{env:Env} : ∀ (names:List (Str×NameKind)) (acc:List (Str×Addr)),(∀ x∈names,x.2=.free->∃ c,env.cells.lookup x.1=some c)->
  (forIn names acc fun (x:Str×NameKind) (cs:List (Str×Addr))=>(if (x.2==NameKind.free)=true then do
   let c <- cellOf env x.1
   pure (ForInStep.yield ((x.1,c)::cs)) else pure (ForInStep.yield cs):Sem (ForInStep (List (Str×Addr)))))=(pure (cloOf env.cells names acc):Sem (List (Str×Addr)))
 | [],acc,_=>rfl
 | (n,k)::r,acc,h=>by
  rw [List.forIn_cons];have hr:∀ x∈r,x.2=.free->∃ c,env.cells.lookup x.1=some c:=fun x hx=>h x (L6 _ hx)
  by_cases hk:k=.free
  .subst hk;obtain ⟨c,hc⟩:=h (n,.free) J9 rfl;have e1:cellOf env n=pure c:=by unfold cellOf;rw [show env.cells.lookup n=some c from hc]
   simp only [beq_self_eq_true,if_true];rw [e1];show (forIn r ((n,c)::acc) _:Sem _)=_;rw [sQ r _ hr];show _=pure (if NameKind.free=.free then cloOf env.cells r ((n,(env.cells.lookup n).getD 0)::acc) else _);rw [if_pos rfl,show env.cells.lookup n=some c from hc];rfl
  .have hb:(k==NameKind.free)=false:=by simpa using hk
   simp only [hb,jS,if_false];show (forIn r acc _:Sem _)=_;rw [sQ r _ hr];show _=pure (if k=.free then _ else cloOf env.cells r acc);rw [if_neg hk]
theorem sR{scope:Scope}{env:Env}(h:∀ x∈scope.names,x.2=.free->∃ c,env.cells.lookup x.1=some c):closureFor scope env=pure (cloOf env.cells scope.names []):=by
 simp only [closureFor];have e:=sQ (env:=env) scope.names [] h;rw [e];rfl
theorem oG{cells:List (Str×Addr)} : ∀ (names:List (Str×NameKind)) (acc:List (Str×Addr)),
  (cloOf cells names acc).lookup x=if (x,NameKind.free)∈names then some ((cells.lookup x).getD 0) else acc.lookup x
 | [],acc=>by simp [cloOf]
 | (n,k)::r,acc=>by
  show (if k=.free then cloOf cells r ((n,(cells.lookup n).getD 0)::acc) else cloOf cells r acc).lookup x=_
  by_cases hk:k=.free
  .subst hk;rw [if_pos rfl,oG r]
   by_cases hm:(x,NameKind.free)∈r
   .rw [if_pos hm,if_pos (L6 _ hm)]
   .rw [if_neg hm,List.lookup_cons]
    by_cases hx:x=n
    .subst hx;rw [if_pos J9]
     simp
    .have e:(x==n)=false:=by simpa using hx
     rw [e,if_neg];intro z
     rcases E5.mp z with z | z
     .exact hx (Prod.mk.inj z).1
     .exact hm z
  .rw [if_neg hk,oG r]
   by_cases hm:(x,NameKind.free)∈r
   .rw [if_pos hm,if_pos (L6 _ hm)]
   .rw [if_neg hm,if_neg];intro z
    rcases E5.mp z with z | z
    .exact hk (Prod.mk.inj z).2.symm
    .exact hm z
theorem kE{α:Type} : ∀ {l:List (Str×α)} {k:α},l.lookup x=some k->(x,k)∈l
 | [],_,h=>by simp at h
 | (n,a)::r,k,h=>by
  rw [List.lookup_cons] at h
  by_cases hx:x=n
  .subst hx;simp at h;subst h;exact J9
  .have e:(x==n)=false:=by simpa using hx
   rw [e] at h;exact L6 _ (kE h)
theorem ady{sc:Scope}{env:Env}{k:NameKind}(hc:∀ y∈sc.names,y.2≠.cell)(h:(relabel sc env).names.lookup x=some k)(hk:k=.cell\/k=.free):(x,NameKind.free)∈sc.names:=by
 have m:=kE h;unfold relabel at m;obtain ⟨⟨n,k'⟩,hm,e⟩:=E2.mp m;have J7:=hc _ hm
 by_cases hf:k'=.free
 .subst hf
  have:n=x:=by
   dsimp only at e
   split at e
   .exact (Prod.mk.inj e).1
   .exact (Prod.mk.inj e).1
  subst this;exact hm
 .have hb:(k'==NameKind.free)=false:=by simpa using hf
  simp only [hb,Bool.false_and,jS,if_false] at e;obtain ⟨e1,e2⟩:=Prod.mk.inj e;subst e1 e2
  rcases hk with z | z
  .exact absurd z J7
  .subst z;exact absurd rfl hf
structure CompOk(N:List Str)(kn:List (Str×NameKind))(sc:Scope)(N':List Str)(k:Nat)(ixs:List Nat):Prop where
 kind:sc.kind=.function
 cell:∀ x∈sc.names,x.2≠.cell
 names:∀ x∈sc.names,x.2=.local->sc.names.lookup x.1=some .local
 free:∀ x∈sc.names,x.2=.free->kn.lookup x.1=some .cell\/kn.lookup x.1=some .free
 clean:∀ x∈sc.names,x.2=.free->sc.names.lookup x.1=some .free
 len:N'.length=k+ixs.length
 at_:ixs.map (fun i=>N[i]?)=(N'.drop k).map some
 fr:∀ x∈N'.drop k,(x,NameKind.free)∈sc.names
noncomputable def M8 (X:Cx) (sc:Scope) (N':List Str) (C:Addr) (zw:Shared) (zt:Hp) (fp:List Addr) (pins:List (Addr×Obj)):Cx:=
 {prog:=X.prog,w:=X.w,K:=X.K,mg:=X.mg,base:=X.base,A:=X.A,N:=N',s₀:=zw,H₀:=zt,
  env:=compEnvC sc (cloOf X.env.cells sc.names []) C X.env,outer:=X.stack,stack:=X.stack,ex:=fp,fn:=fun _=>false,calm:=X.calm,
  pn:=X.pn++pins,xe:=fun _ _=>False }
noncomputable def compStart (k:Nat) (ixs:List Nat) (Y:St):St:=V7 k none++ixs.map fun i=>(Y[i]?).join
theorem afc : (compStart k ixs Y).length=k+ixs.length:=by simp [compStart]
section
variable {X:Cx} {sc:Scope} {N':List Str} {k:Nat} {ixs:List Nat} {pins:List (Addr×Obj)} {Y:St} {H:Hp} {s:Shared} {fp:List Addr}
theorem v7(C:CompOk X.N X.env.scope.names sc N' k ixs)(I:Inv X pins Y H s){c:Addr}(e:(cloOf X.env.cells sc.names []).lookup x=some c):X.env.cells.lookup x=some c/\(x,NameKind.free)∈sc.names:=by
 rw [oG] at e
 by_cases hm:(x,NameKind.free)∈sc.names
 .rw [if_pos hm] at e;obtain ⟨c',P3⟩:=I.ok.has x (C.free _ hm rfl);rw [P3] at e;exact ⟨P3.trans e,hm⟩
 .rw [if_neg hm] at e;cases e
theorem oH(C:CompOk X.N X.env.scope.names sc N' k ixs)(I:Inv X pins Y H s)(hm:(x,NameKind.free)∈sc.names):∃ c,(cloOf X.env.cells sc.names []).lookup x=some c/\X.env.cells.lookup x=some c:=by
 obtain ⟨c',P3⟩:=I.ok.has x (C.free _ hm rfl);refine ⟨c',?_,P3⟩;rw [oG,if_pos hm,P3];rfl
theorem aqa(C:CompOk X.N X.env.scope.names sc N' k ixs)(I:Inv X pins Y H s)(hf:∀ b∈fp,FpOk X pins H b)(ho:∀ b∈fp,∃ o,s.heap.get? b=some o):(M8 X sc N' s.heap.objs.size s H fp pins).Ok where
 mod:=I.ok.mod
 kind:=C.kind
 glob:=I.ok.glob
 blt:=I.ok.blt
 above:=A8 _
 inj:=fun x y c e1 e2=>I.ok.inj x y c (v7 C I e1).1 (v7 C I e2).1
 has:=fun x hx=>by
  have hm:(x,NameKind.free)∈sc.names:=by
   rcases hx with z | z
   .exact ady C.cell z (.inl rfl)
   .exact ady C.cell z (.inr rfl)
  obtain ⟨c,h1,_⟩:=oH C I hm;exact ⟨c,h1⟩
 cab:=fun x c h _=>by cases h
 hd:=I.ok.hd
 frames:=I.ok.frames
 stk:=.inl rfl
 exf:=fun b hb=>by
  obtain ⟨o,e⟩:=ho b hb;exact ⟨K3 (Heap.lt_size e),fun x c e1=>(hf b hb).2.2.2.2.1 x c (v7 C I e1).1⟩
 bs:=I.bs
 bsz:=L4 I.ok.bsz I.sz
 noex:=fun b o e hb=>by
  rcases (hf b hb).2.2.2.1 with z | z
  .exact I.ok.noex b o e z
  .exact absurd (O2 (Heap.lt_size e) (L4 I.ok.bsz z)) (l7 _)
 exfs:=fun b hb hm=>by
  rcases E5.mp (I.stkSub b hm) with z | z
  .exact (hf b hb).2.1 z
  .exact (hf b hb).2.2.1 z
 funs:=I.stack
 frf:=I.stkFree
theorem am9(C:CompOk X.N X.env.scope.names sc N' k ixs)(I:Inv X pins Y H s)(hf:∀ b∈fp,FpOk X pins H b)(ho:∀ b∈fp,∃ o,s.heap.get? b=some o){m:Str->Option Value}(hn:h'.Ns s.heap.objs.size m)(hk:∀ b o,s.heap.get? b=some o->h'.get? b=some o):Inv (M8 X sc N' s.heap.objs.size s H fp pins) [] (compStart k ixs Y) H { s with heap:=h',toks:=t' } where
 ok:=aqa C I hf ho
 os:=rfl
 bare:=I.bare
 base:=Un.kept hk
 loc:=by
  refine ⟨m,hn,fun i x v e1 e2 e3=>?_⟩;unfold compStart at e2
  by_cases hi:i<k
  .rw [nN (by simpa using hi)] at e2;rw [List.getElem?_replicate_of_lt hi] at e2;cases e2
  .rw [jJ (by simpa using hi),List.length_replicate] at e2;rw [L7] at e2;cases e4:ixs[i-k]? with
   | none=>rw [e4] at e2;cases e2
   | some j=>
    rw [e4] at e2;have e5:(Y[j]?).join=some v:=Option.some.inj e2;have e6:Y[j]?=some (some v):=by
     cases e7:Y[j]? with
     | none=>rw [e7] at e5;cases e5
     | some o=>rw [e7] at e5;exact congrArg some e5
    have e1':N'[i]?=some x:=e1;have ed:(N'.drop k)[i-k]?=some x:=by rw [List.getElem?_drop,show k+(i-k)=i by lia];exact e1'
    have n3:(x,NameKind.free)∈sc.names:=C.fr x (M7 ed);have n2:X.N[j]?=some x:=by
     have q:=congrArg (fun l=>l[i-k]?) C.at_;simp only [L7,e4,ed,Option.map_some] at q;exact Option.some.inj q
    obtain ⟨m0,hn0,fB⟩:=I.loc;have o5:X.env.scope.names.lookup x=some .cell\/X.env.scope.names.lookup x=some .free:=C.free _ n3 rfl;obtain ⟨u,r,l⟩:=fB j x v n2 e6 (.inr o5);refine ⟨u,r,.inr ?_⟩
    rcases l with ⟨l,_⟩ | ⟨_,c,hc,K5⟩
    .have l':X.env.scope.names.lookup x=some .local:=l
     rcases o5 with z | z
     .rw [l'] at z;cases z
     .rw [l'] at z;cases z
    .obtain ⟨c',h1,h2⟩:=oH C I n3;rw [hc] at h2;cases h2;refine ⟨?_,c,h1,?_⟩
     .have e3':(relabel sc X.env).names.lookup x=some .local\/(relabel sc X.env).names.lookup x=some .cell\/(relabel sc X.env).names.lookup x=some .free:=e3
      rcases e3' with z | z
      .exfalso
       have mm:=kE z;unfold relabel at mm;obtain ⟨⟨n,k'⟩,hm,e⟩:=E2.mp mm;have W7:k'=.local/\n=x:=by
        dsimp only at e
        split at e
        .obtain ⟨_,q⟩:=Prod.mk.inj e
         cases q
        .exact ⟨(Prod.mk.inj e).2,(Prod.mk.inj e).1⟩
       obtain ⟨z1,z2⟩:=W7;subst z1 z2;have q1:=C.names _ hm rfl;rw [C.clean _ n3 rfl] at q1
       cases q1
      .exact z
     .exact K5.keeps hk
 cell:=fun x c e=>by
  obtain ⟨v,z⟩:=I.cell x c (v7 C I e).1;exact ⟨v,z.keeps hk⟩
 free:=I.hok.fresh (A8 _)
 freeC:=fun x c e=>I.freeC x c (v7 C I e).1
 pin:=fun p hp=>by
  have hp':p∈X.pn++pins:=by simpa [M8] using hp
  obtain ⟨e,n,ne,nf,d⟩:=I.pin p hp';refine ⟨hk _ _ e,n,K3 (Heap.lt_size e),fun hm=>?_,d⟩
  rcases E5.mp (I.stkSub _ hm) with z | z
  .exact ne z
  .exact nf z
 hok:=I.hok.kept hk
 len:=by rw [afc];exact C.len.symm
end
section
variable {prog:Program} {w:World} {A:Around} {R:Result->Shared->Prop} {s:Shared}
theorem afW{scope:Scope}{pos:Pos}{it acc:Value}{env:Env}(I:Nat->Shared->Prop)(turn:∀ n s,I n s->wpAny (model prog w) A (pyNext it) (fun r zu=>match r with
   | none=>R (.ok .next) zu
   | some v=>wpAny (model prog w) A (letOwnedTupleGo target it v) (fun _ zu=>wpAny (model prog w) A (assign target env v) (fun _ zx=>
     wpAny (model prog w) A (forIn ifs true fun c r=>if r=true then do let ok <- isTrue c env (eval c env);pure (ForInStep.yield ok) else pure (ForInStep.yield r)) (fun ok zw=>
      if ok=true then wpAny (model prog w) A (eval elt env) (fun x zo=>
       wpAny (model prog w) A (call (.builtin "list.append") [acc,x]) (fun _ zn=>∃ m,m<n/\I m zn) (notedBy (model prog w) A env fun e s'=>R (.error e) s') zo) (notedBy (model prog w) A env fun e s'=>R (.error e) s') zw
      else ∃ m,m<n/\I m zw) (notedBy (model prog w) A env fun e s'=>R (.error e) s') zx) (notedBy (model prog w) A env fun e s'=>R (.error e) s') zu) (notedBy (model prog w) A env fun e s'=>R (.error e) s') zu) (notedBy (model prog w) A env fun e s'=>R (.error e) s') s)(n:Nat)(h:I n s) :
  codeAny (model prog w) A (.compLoop (.ListComp elt [⟨target,iter,ifs,0⟩] scope pos) 0 it acc env) R s:=by
 refine codeAny_loop rfl I (fun n s hI=>?_) n h;show wpAny _ A ((compTurn (.ListComp elt [⟨target,iter,ifs,0⟩] scope pos) 0 it acc env).onRaise (fun x=>do noteFrame x env;theTreesLotGoes x)) _ _ s;refine wpAny_noted ?_;rw [compTurn_list];refine wpAny_bind (wpAny_standAt (wpAny_bind (wpAny_mono (turn n s hI) (fun r zu zr=>?_) fun _ _ h'=>h')))
 cases r with
 | none=>exact wpAny_pure zr
 | some v=>
  refine wpAny_bind (wpAny_mono zr (fun _ zu zr=>?_) fun _ _ h'=>h');refine wpAny_bind (wpAny_mono zr (fun _ zx zq=>wpAny_bind (wpAny_mono zq (fun ok zw zp=>?_) fun _ _ h'=>h')) fun _ _ h'=>h')
  cases ok with
  | false=>exact wpAny_pure ⟨rfl,zp⟩
  | true=>
   exact wpAny_bind (wpAny_bind (wpAny_mono zp (fun x zo zm=>wpAny_bind (wpAny_mono zm (fun _ zn zk=>wpAny_pure (wpAny_pure ⟨rfl,zk⟩)) fun _ _ h'=>h')) fun _ _ h'=>h'))
end
noncomputable def PIfs (X:Cx) (ifs:List Expr) (t:TT):Prop:=
 ∀ (pins:List (Addr×Obj)) (s:Shared) (Y:St) (H:Hp) (Q:Bool->Hp->Prop),Inv X pins Y H s->t Y H Q->
  wpAny (model X.prog X.w) X.A (forIn ifs true fun c r=>if r=true then do let ok <- isTrue c X.env (eval c X.env);pure (ForInStep.yield ok) else pure (ForInStep.yield r)) (TP X pins Y Q) X.xe s
noncomputable def tYes:TT:=fun _ H Q=>Q true H
theorem ak3 : PIfs X [] tYes:=fun _ _ _ H _ I h=>wpAny_tests_nil ⟨H,I,h⟩
theorem ak4{c:Expr}{t:TT}(hc:PT X c t):PIfs X [c] t:=fun pins s Y H Q I h=>wpAny_tests_one (hc pins s Y H Q I h)
noncomputable def tComp (wi:TI) (k:Nat) (ixs:List Nat) (g:TG) (c:TT) (te:TE):TE:=fun Y H Q=>wi Y H fun J H1=>∀ D,H1 D=none->
 ∃ (n:Nat) (W:Nat->List V->St->Hp->Prop),W 0 [] (compStart k ixs Y) (A0 H1 D (.lst []))/\∀ i ys σ2 H2,W i ys σ2 H2->H2 D=some (.lst ys)->
  (J.stop i H2/\Q (.ref D) H2)\/
  (i<n/\J.go i H2/\∀ x H',J.yld i H2 x H'->g x σ2 H' fun σ3 H3=>c σ3 H3 fun b H4=>
   if b=true then te σ3 H4 fun y H5=>H5 D=some (.lst ys)/\ys.length<sizeLine/\W (i+1) (ys++[y]) σ3 (A0 H5 D (.lst (ys++[y])))
   else H4 D=some (.lst ys)/\W (i+1) ys σ3 H4)
section
variable {X:Cx} {sc:Scope} {N':List Str} {k:Nat} {ixs:List Nat}
theorem aeG{pos:Pos}{J:It}(C:CompOk X.N X.env.scope.names sc N' k ixs)(M5:X.calm=true)(hg:∀ C zw zt fp pins,PG (M8 X sc N' C zw zt fp pins) target g)(hc:∀ C zw zt fp pins,PIfs (M8 X sc N' C zw zt fp pins) ifs c)(he:∀ C zw zt fp pins,PE (M8 X sc N' C zw zt fp pins) elt te){tn:Nat->Heap->Prop}(I:Inv X pins Y H s)(T:Turn X.prog X.w X.K target J fp it tn)(st:tn 0 s.heap)(hf:∀ b∈fp,FpOk X pins H b)(h:∀ D,H D=none->∃ (n:Nat) (W:Nat->List V->St->Hp->Prop),W 0 [] (compStart k ixs Y) (A0 H D (.lst []))/\∀ i ys σ2 H2,W i ys σ2 H2->H2 D=some (.lst ys)->
   (J.stop i H2/\Q (.ref D) H2)\/
   (i<n/\J.go i H2/\∀ x H',J.yld i H2 x H'->g x σ2 H' fun σ3 H3=>c σ3 H3 fun b H4=>
    if b=true then te σ3 H4 fun y H5=>H5 D=some (.lst ys)/\ys.length<sizeLine/\W (i+1) (ys++[y]) σ3 (A0 H5 D (.lst (ys++[y])))
    else H4 D=some (.lst ys)/\W (i+1) ys σ3 H4)){RR:Value->Addr->Result->Shared->Prop}(hRR:∀ D Cc (H':Hp) (s':Shared) (o:Obj) m,Inv X pins Y H' s'->Inv X (pins++[(Cc,o)]) Y H' s'->s'.heap.get? Cc=some o->s'.heap.Ns Cc m->H' Cc=none->Cc≠X.env.locals->X.s₀.heap.objs.size<=Cc->
   (∀ x c,X.env.cells.lookup x=some c->c≠Cc)->(∀ p∈X.pn++pins,p.1≠Cc)->Q (.ref D) H'->RR (.ref D) Cc (.ok .next) s') :
  wpAny (model X.prog X.w) X.A (newList []) (fun acc zw=>wpAny (model X.prog X.w) X.A (newFunctionEnv sc X.env.globals (cloOf X.env.cells sc.names []) [] X.env.qual none .none (some X.env)) (fun cenv zo=>
   codeAny (model X.prog X.w) X.A (.compStart (.ListComp elt [⟨target,iter,ifs,0⟩] sc pos) 0 (.ref it) acc { cenv with scope:=relabel sc X.env }) (RR acc cenv.locals) zo) E zw) E s:=by
 have fresh:=I.hok.fresh (A8 s.heap.objs.size);obtain ⟨n,W,w0,turn⟩:=h s.heap.objs.size fresh;have hfD:∀ b∈fp,b≠s.heap.objs.size:=fun b hb z=>by
  obtain ⟨o,e,_⟩:=T.obj _ _ st b hb;rw [z] at e;exact absurd (Heap.lt_size e) (l7 _)
 have hf3:∀ b∈fp,FpOk X pins (A0 H s.heap.objs.size (.lst [])) b:=fun b hb=>⟨by rw [A3 (hfD b hb)];exact (hf b hb).1,(hf b hb).2⟩
 have main:∀ (s3:Shared) (zr:Heap) (t1:Nat),Inv X pins Y (A0 H s.heap.objs.size (.lst [])) s3->(∀ b o,s.heap.get? b=some o->s3.heap.get? b=some o)->zr.Ns s3.heap.objs.size (fun x=>([]:List (Str×Value)).reverse.lookup x)->
   (∀ b o,s3.heap.get? b=some o->zr.get? b=some o)->
   tn 0 zr/\codeAny (model X.prog X.w) X.A (.compLoop (.ListComp elt [⟨target,iter,ifs,0⟩] sc pos) 0 (.ref it) (.ref s.heap.objs.size) (M8 X sc N' s3.heap.objs.size s3 (A0 H s.heap.objs.size (.lst [])) fp pins).env) (RR (.ref s.heap.objs.size) s3.heap.objs.size) { s3 with heap:=zr,toks:=t1 }:=by
  intro s3 zr t1 I3 k3 o6 keep3;have cT:tn 0 s3.heap:=T.keep _ _ _ st fun b hb o e=>k3 b o e
  have ho3:∀ b∈fp,∃ o,s3.heap.get? b=some o:=fun b hb=>let ⟨o,e,_⟩:=T.obj _ _ cT b hb;⟨o,e⟩
  have qI:tn 0 zr:=T.keep _ _ _ cT fun b hb o e=>keep3 b o e
  have B0:Inv (M8 X sc N' s3.heap.objs.size s3 (A0 H s.heap.objs.size (.lst [])) fp pins) [] (compStart k ixs Y) (A0 H s.heap.objs.size (.lst [])) { s3 with heap:=zr,toks:=t1 }:=am9 C I3 hf3 ho3 o6 keep3;refine ⟨qI,?_⟩;have fpX:∀ {H':Hp},(∀ b∈fp,H' b=none)->∀ b∈fp,FpOk (M8 X sc N' s3.heap.objs.size s3 (A0 H s.heap.objs.size (.lst [])) fp pins) [] H' b:=fun {H'} hn b hb=>by
   obtain ⟨o,eo⟩:=ho3 b hb;refine ⟨hn b hb,K3 (Heap.lt_size eo),?_,.inl hb,?_,?_⟩
   .intro hm
    rcases E5.mp (I3.stkSub b hm) with z | z
    .exact (hf b hb).2.1 z
    .exact (hf b hb).2.2.1 z
   .intro x cc ec;exact (hf b hb).2.2.2.2.1 x cc (v7 C I3 ec).1
   .intro p hp;exact (hf b hb).2.2.2.2.2 p (by simpa [M8] using hp)
  refine afW (fun m s'=>∃ i ys σ' H',m=n-i/\Inv (M8 X sc N' s3.heap.objs.size s3 (A0 H s.heap.objs.size (.lst [])) fp pins) [] σ' H' s'/\tn i s'.heap/\(∀ b∈fp,H' b=none)/\H' s.heap.objs.size=some (.lst ys)/\W i ys σ' H') ?_ n ⟨0,[],_,_,rfl,B0,qI,fun b hb=>(hf3 b hb).1,A2,w0⟩;rintro m s4 ⟨i,ys,σ4,H4,rfl,I4,st4,fr4,hD4,w4⟩;have again:∀ {i':Nat} {ys':List V} {σ7:St} {H7:Hp} {s6 s7:Shared},i<n->i'=i+1->tn i' s6.heap->Inv (M8 X sc N' s3.heap.objs.size s3 (A0 H s.heap.objs.size (.lst [])) fp pins) ([]++gJ fp s6.heap) σ7 H7 s7->H7 s.heap.objs.size=some (.lst ys')->W i' ys' σ7 H7->
    ∃ m,m<n-i/\∃ i ys σ' H',m=n-i/\Inv (M8 X sc N' s3.heap.objs.size s3 (A0 H s.heap.objs.size (.lst [])) fp pins) [] σ' H' s7/\tn i s7.heap/\(∀ b∈fp,H' b=none)/\H' s.heap.objs.size=some (.lst ys)/\W i ys σ' H':=fun {i' ys' σ7 H7 s6 s7} C4 ei iN I7 hD w=>by
   subst ei;refine ⟨n-(i+1),by lia,i+1,ys',σ7,H7,rfl,I7.unpinned,T.keep _ _ _ iN fun b hb o e=>(I7.pin (b,o) (M6 _ (M6 _ (gL hb e)))).1,fun b hb=>?_,hD,w⟩;obtain ⟨o,e,_⟩:=T.obj _ _ iN b hb;exact (I7.pin (b,o) (M6 _ (M6 _ (gL hb e)))).2.1
  rcases turn i ys σ4 H4 w4 hD4 with ⟨stop,q⟩ | ⟨C4,go,step⟩
  .refine A9 (T.done (M8 X sc N' s3.heap.objs.size s3 (A0 H s.heap.objs.size (.lst [])) fp pins) rfl rfl rfl M5 i [] s4 σ4 H4 _ I4 (fpX fr4) st4 stop) fun r s5 iO=>?_
   obtain ⟨hr,I5⟩:=iO;subst hr;have back:Inv X pins Y H4 s5:=I3.call' (ch:=fp) I5.os I5.base I5.hok I5.bare fun b hb=>⟨(hf b hb).2.2.2.1,(hf b hb).2.1,(hf b hb).2.2.2.2.1,(hf b hb).2.2.2.2.2⟩
   obtain ⟨mm,iP,_⟩:=I5.loc;obtain ⟨o,es,ep,ho,hd,Z1⟩:=id iP;have hC:s3.heap.objs.size≠X.env.locals:=i0 I3.lt;refine hRR s.heap.objs.size s3.heap.objs.size H4 s5 o mm back ?_ ho iP I5.free hC I3.sz ?_ ?_ q
   .refine back.pins_of fun p hp=>?_
    rcases D3.mp hp with z | z
    .exact back.pin p (M6 _ z)
    .have e:p=(s3.heap.objs.size,o):=by simpa using z
     subst e;exact ⟨ho,I5.free,hC,I3.nofs (A8 _),fun v z=>by rw [hd] at z;cases z⟩
   .intro x c e z;obtain ⟨v,q⟩:=I3.cell x c e
    have:=q.lt
    rw [z] at this;exact l7 _ this
   .intro p hp z
    have:=Heap.lt_size (I3.pin p hp).1
    rw [z] at this;exact l7 _ this
  .refine A9 (T.item (M8 X sc N' s3.heap.objs.size s3 (A0 H s.heap.objs.size (.lst [])) fp pins) rfl rfl rfl M5 i [] s4 σ4 H4 _ I4 (fpX fr4) st4 go) fun r s5 iO=>?_
   obtain ⟨u,hr,h5⟩:=iO;subst hr;refine A9 h5 fun _ s6 h6=>?_
   obtain ⟨x,H6,I6,r6,y6,iN,fr6⟩:=h6;have I6':=I6.pinned (fpX fr6) (T.obj _ _ iN);refine wpAny_mono (hg _ _ _ _ _ _ s6 σ4 H6 x u _ I6' r6 (step x H6 y6)) (fun _ s7 h7=>?_) fun _ _ z=>False.elim z
   obtain ⟨σ7,H7,I7,q7⟩:=h7;refine wpAny_mono (hc _ _ _ _ _ _ s7 σ7 H7 _ I7 q7) (fun ok s8 h8=>?_) fun _ _ z=>False.elim z
   obtain ⟨H8,I8,q8⟩:=h8
   cases ok with
   | false=>
    rw [if_neg L5] at q8 ⊢
    exact again C4 rfl iN I8 q8.1 q8.2
   | true=>
    rw [if_pos rfl] at q8 ⊢
    refine wpAny_mono (he _ _ _ _ _ _ s8 σ7 H8 _ I8 q8) (fun y s9 h9=>?_) fun _ _ z=>False.elim z
    obtain ⟨yv,H9,I9,r9,hD9,hz9,w9⟩:=h9;refine wpAny_mono (afR (X:=(M8 X sc N' s3.heap.objs.size s3 (A0 H s.heap.objs.size (.lst [])) fp pins)) _ s9 σ7 H9 (.ref s.heap.objs.size) [yv] (.ref s.heap.objs.size) [y] (fun _ H'=>H'=A0 H9 s.heap.objs.size (.lst (ys++[yv]))) I9 rfl (.cons r9 .nil) ⟨_,ys,yv,rfl,rfl,hD9,hz9,rfl⟩) (fun _ s10 h10=>?_) fun _ _ z=>False.elim z
    obtain ⟨_,U4,I10,_,e10⟩:=h10;subst e10;exact again C4 rfl iN I10 A2 w9
 have I3:=I.lnew (ys:=[]) (its:=[]) (t':=s.toks) .nil (G3 _);refine wpAny_newObj_type (wpAny_newFunctionEnv C.cell (by intro y hy;simp at hy) (fun zr zj zi=>?_) C.kind);obtain ⟨qI,loop⟩:=main _ zr (s.toks+([]:List (Str×Value)).length) I3 (fun b o e=>Heap.get?_push_of_some _ e) zj fun b o e=>zi.extBut b o (K3 (Heap.lt_size e)) (Heap.get?_push_of_some _ e)
 exact codeAny_compStart_list loop (T.self X.A 0 _ _ _ qI loop)
theorem ana{pos:Pos}{wi:TI}(C:CompOk X.N X.env.scope.names sc N' k ixs)(M5:X.calm=true)(hi:PI X target iter wi)(hg:∀ C zw zt fp pins,PG (M8 X sc N' C zw zt fp pins) target g)(hc:∀ C zw zt fp pins,PIfs (M8 X sc N' C zw zt fp pins) ifs c)(he:∀ C zw zt fp pins,PE (M8 X sc N' C zw zt fp pins) elt te)(hs:∀ x,foldedSetIterable iter X.env x=pure x:=by intro _;rfl):PE X (.ListComp elt [⟨target,iter,ifs,0⟩] sc pos) (tComp wi k ixs g c te):=by
 intro pins s Y H Q I h;rw [eval_ListComp];refine wpAny_comprehension_free (use:=none) rfl hs (sR fun x hx hf=>I.ok.has x.1 (C.free x hx hf)) C.kind C.names (A9 (hi pins s Y H _ I h) fun v s1 h1=>A9 h1 fun itv s2 h2=>?_);obtain ⟨it,fp,tn,J,H2,e,I2,T,lV,f2,q2⟩:=h2;subst e;refine aeG (RR:=fun acc C=>compPost (model X.prog X.w) X.A X.xe none (EP X pins Y Q) acc C) C M5 hg hc he I2 T lV f2 q2 ?_;intro D Cc H' s' o m I' _ ho hn hC hL y0 K5 fC q;exact ⟨m,hn,fun h'' hs''=>⟨.ref D,H',I'.turned (t':=s'.toks) (fun b o hb e=>hs''.extBut b o hb e) hC hL (.inr y0) K5 fC,rfl,q⟩⟩
theorem aij{pos py:Pos}{wi:TI}(hN:X.N.Nodup)(hiN:X.N[i]?=some y)(hx:m3 X.env.scope y)(C:CompOk X.N X.env.scope.names sc N' k ixs)(M5:X.calm=true)(hi:PI X target iter wi)(hg:∀ C zw zt fp pins,PG (M8 X sc N' C zw zt fp pins) target g)(hc:∀ C zw zt fp pins,PIfs (M8 X sc N' C zw zt fp pins) ifs c)(he:∀ C zw zt fp pins,PE (M8 X sc N' C zw zt fp pins) elt te)(xB:swapsWith (.ListComp elt [⟨target,iter,ifs,0⟩] sc pos) (some (.Name y py)) spos.line X.env=pure true:=by rfl)(hf:X.fn y=true\/X.env.scope.names.lookup y=some .local:=by first | exact .inl rfl | exact .inr rfl | assumption)(hs:∀ x,foldedSetIterable iter X.env x=pure x:=by intro _;rfl):PS X (.Assign [.Name y py] (.ListComp elt [⟨target,iter,ifs,0⟩] sc pos) spos) (tAsg (tComp wi k ixs g c te) (gName i)):=by
 intro pins s Y H D I h;rw [exec_Assign_Name_used _ _ _ _ xB];refine wpAny_bind (wpAny_standAt (wpAny_bind ?_));show wpAny _ X.A (do let _ <- comprehension (.ListComp elt [⟨target,iter,ifs,0⟩] sc pos) sc X.env _ (newList []) false (eval iter X.env) (some (assign (.Name y py) X.env))) _ _ s;refine wpAny_bind (wpAny_mono (wpAny_comprehension_free (use:=some (assign (.Name y py) X.env)) (Q:=fun _ s'=>SP X pins D .next s') rfl hs (sR fun x hx hf=>I.ok.has x.1 (C.free x hx hf)) C.kind C.names
  (A9 (hi pins s Y H _ I h) fun v s1 h1=>A9 h1 fun itv s2 h2=>?_)) (fun _ s' hq=>wpAny_pure (wpAny_pure hq)) fun _ _ e=>e)
 obtain ⟨it,fp,tn,J,H2,e,I2,T,lV,f2,q2⟩:=h2;subst e;refine aeG (Q:=fun x H1=>gName i x Y H1 D.nx) (RR:=fun acc C=>compPost (model X.prog X.w) X.A X.xe (some (assign (.Name y py) X.env)) (fun _ s'=>SP X pins D .next s') acc C) C M5 hg hc he I2 T lV f2 q2 ?_;intro Da Cc H' s' o m _ Ip ho hn hC hL y0 K5 fC q;show wpAny _ X.A (assign (.Name y py) X.env (.ref Da)) _ _ _;refine wpAny_assign_Name (nV (v:=.ref Da) Ip hN hiN hx rfl (fun s'' I''=>?_) hf);have hC2:=(I''.pin (Cc,o) (M6 _ (M6 _ (D1.mpr rfl)))).1;refine ⟨m,hn.at' fun o' e'=>?_,fun h'' hs''=>?_⟩
 .rw [ho] at e';cases e';exact hC2
 .have I3:Inv X pins (Y.set i (some (.ref Da))) H' s'':=I''.unpinned;exact ⟨_,H',I3.turned (t':=s''.toks) (fun b o hb e=>hs''.extBut b o hb e) hC hL (.inr y0) K5 fC,q⟩
end
end L2
end
set_option maxRecDepth 100000
namespace L2
open PySem PySem.Spec PyProof.Rows
section
variable {X:Cx} {a b:Expr} {ta tb:TE} {pos:Pos} {rest:List Expr}
noncomputable def tTru (K:PySem.W.Frag) (te:TE):TT:=fun Y H Q=>te Y H fun x H1=>∃ k,TruV K x H1 k/\Q k H1
theorem aqb(ha:PE X a ta)(he:∀ whole,isTrue a X.env whole=(do let v <- whole;standAt a.pos;holding [v] (truthy v)):=by intro _;rfl):PT X a (tTru X.K ta):=akL ha he
noncomputable def tNotT (K:PySem.W.Frag) (te:TE):TE:=fun Y H Q=>te Y H fun x H1=>∃ k,TruV K x H1 k/\Q (.bl (!k)) H1
end
mutual
inductive Dn (K:PySem.W.Frag) (H:Hp):V->PyData->Prop
 | non:Dn K H .non .none
 | bl (b):Dn K H (.bl b) (.bool b)
 | int (i):Dn K H (.int i) (.int i)
 | str (x):bT x=true->Dn K H (.str x) (.str x)
 | lst {a xs ds} : C7 K H a xs->DnAll K H xs ds->Dn K H (.ref a) (.list ds)
 | tup {a xs ds} : C6 K H a xs->DnAll K H xs ds->Dn K H (.ref a) (.tuple ds)
inductive DnAll (K:PySem.W.Frag) (H:Hp):List V->List PyData->Prop
 | nil:DnAll K H [] []
 | cons {x xs d ds} : Dn K H x d->DnAll K H xs ds->DnAll K H (x::xs) (d::ds)
end
section
variable {X:Cx} {pins:List (Addr×Obj)} {Y:St} {H:Hp} {s:Shared}
mutual
theorem Dn.reads{K:PySem.W.Frag}{x:V}{d:PyData}(I:Inv X pins Y H s)(hK:X.K=K):Dn K H x d->∀ {u:Value},RelV x u->d.canLay0=true/\∃ as,Reads s.heap u d as
 | .non,u,r=>by cases r;exact ⟨rfl,_,.none⟩
 | .bl b,u,r=>by cases r;exact ⟨rfl,_,.bool b⟩
 | .int i,u,r=>by obtain ⟨t,rfl⟩:=r;exact ⟨rfl,_,.int i t⟩
 | .str x hx,u,r=>by obtain ⟨t,rfl⟩:=r;exact ⟨hx,_,.str x t⟩
 | .lst (a:=a) q hs,u,r=>by
  cases r
  subst hK;obtain ⟨its,rv,⟨o,n,e,c,_,dd⟩,_⟩:=I.list q;obtain ⟨h1,as,h2⟩:=DnAll.reads I rfl hs rv;exact ⟨h1,_,.list e c dd (by simpa using h2)⟩
 | .tup (a:=a) q hs,u,r=>by
  cases r
  subst hK;obtain ⟨its,rv,⟨o,e,c,n,dd⟩,_⟩:=I.tuple q;obtain ⟨h1,as,h2⟩:=DnAll.reads I rfl hs rv;exact ⟨h1,_,.tuple e c dd (by simpa using h2)⟩
theorem DnAll.reads{K:PySem.W.Frag}{xs:List V}{ds:List PyData}(I:Inv X pins Y H s)(hK:X.K=K):DnAll K H xs ds->∀ {us:List Value},Vals xs us->PyData.canLayAll0 ds=true/\∃ as,ReadsAll s.heap us ds as
 | .nil,us,r=>by cases r;exact ⟨rfl,_,.nil⟩
 | .cons h t,us,r=>by
  cases r with
  | cons r1 r2=>
   obtain ⟨c1,a1,q1⟩:=Dn.reads I hK h r1;obtain ⟨c2,a2,q2⟩:=DnAll.reads I hK t r2;exact ⟨by simp [PyData.canLayAll0,c1,c2],_,.cons q1 q2⟩
end
end
mutual
theorem Dn.same{K:PySem.W.Frag}{H H':Hp}(hs:Same H H'){x:V}{d:PyData} : Dn K H x d->Dn K H' x d
 | .non=>.non
 | .bl b=>.bl b
 | .int i=>.int i
 | .str x h=>.str x h
 | .lst q h=>.lst (hs.seq q) (DnAll.same hs h)
 | .tup (a:=a) (xs:=xs) q h=>.tup (by
   rcases q with (q | ⟨o,q⟩) | q
   .exact .inl (.inl (hs _ _ q))
   .exact .inl (.inr ⟨o,hs _ _ q⟩)
   .exact .inr q) (DnAll.same hs h)
theorem DnAll.same{K:PySem.W.Frag}{H H':Hp}(hs:Same H H'){xs:List V}{ds:List PyData} : DnAll K H xs ds->DnAll K H' xs ds
 | .nil=>.nil
 | .cons h t=>.cons (Dn.same hs h) (DnAll.same hs t)
end
theorem kF{K:PySem.W.Frag}{H:Hp} : ∀ {zs:List Str},(∀ z∈zs,bT z=true)->DnAll K H (zs.map V.str) (zs.map PyData.str)
 | [],_=>.nil
 | z::zs,h=>.cons (.str z (h z J9)) (kF fun y hy=>h y (L6 _ hy))
theorem cA{K:PySem.W.Frag}{H:Hp} : ∀ {zs:List Int},DnAll K H (zs.map V.int) (zs.map z8)
 | []=>.nil
 | z::zs=>.cons (.int z) cA
theorem adX:∀ (xs ys:List Str),X2 (xs.map PyData.str) (ys.map PyData.str)=decide (xs=ys)
 | [],[]=>by simp [X2]
 | [],_::_=>by simp [X2]
 | _::_,[]=>by simp [X2]
 | x::xs,y::ys=>by
  rw [K0,K0,X2,adX xs ys];rw [show U7 (.str x) (.str y)=(x==y) by simp [U7]]
  by_cases h1:x=y
  .subst h1;simp
  .simp [h1]
theorem kG:∀ (xs ys:List Int),X2 (xs.map z8) (ys.map z8)=decide (xs=ys)
 | [],[]=>by simp [X2]
 | [],_::_=>by simp [X2]
 | _::_,[]=>by simp [X2]
 | x::xs,y::ys=>by
  rw [K0,K0,X2,kG xs ys];rw [show U7 (.int x) (.int y)=(x==y) by simp [U7]]
  by_cases h1:x=y
  .subst h1;simp
  .simp [h1]
noncomputable def rAddR (K:PySem.W.Frag) (a b:Addr) (H:Hp) (Q:VK):Prop:=rCat (.ref a) (.ref b) H Q\/rCatT K (.ref a) (.ref b) H Q
theorem rAddR.l{K:PySem.W.Frag}{a b:Addr}{H:Hp}{Q:VK}{xs ys:List V}(h1:H a=some (.lst xs))(h2:H b=some (.lst ys))(h3:xs.length+ys.length<=sizeLine)(h:∀ p,H p=none->Q (.ref p) (A0 H p (.lst (xs++ys)))):rAddR K a b H Q:=.inl ⟨a,b,xs,ys,rfl,rfl,h1,h2,h3,h⟩
theorem rAddR.t{K:PySem.W.Frag}{a b:Addr}{H:Hp}{Q:VK}{xs ys:List V}(h1:C6 K H a xs)(h2:C6 K H b ys)(h0:xs≠[])(h3:xs.length+ys.length<=sizeLine)(he:ys=[]->Q (.ref a) H)(h:ys≠[]->∀ p,H p=none->Q (.ref p) (A0 H p (.tup (xs++ys)))):rAddR K a b H Q:=.inr ⟨a,b,xs,ys,rfl,rfl,h1,h2,h0,h3,he,h⟩
noncomputable def rAddU (K:PySem.W.Frag):V->V->Hp->VK->Prop
 | .int i,.int j,H,Q=>Q (.int (i+j)) H
 | .str i,.str j,H,Q=>i.length+j.length<=sizeLine/\Q (.str (i++j)) H
 | .ref a,.ref b,H,Q=>rAddR K a b H Q
 | _,_,_,_=>False
noncomputable def rMulU:V->V->Hp->VK->Prop
 | .int i,.int j,H,Q=>CMul i j/\Q (.int (i*j)) H
 | .ref a,.int j,H,Q=>rRep (.ref a) (.int j) H Q
 | _,_,_,_=>False
noncomputable def rEqU (K:PySem.W.Frag):V->V->Hp->VK->Prop
 | .int i,.int j,H,Q=>Q (.bl (decide (i=j))) H
 | .str i,.str j,H,Q=>Q (.bl (decide (i=j))) H
 | .bl i,.bl j,H,Q=>Q (.bl (decide (i=j))) H
 | x,y,H,Q=>∃ d e,Dn K H x d/\Dn K H y e/\min d.depth e.depth<=60/\Q (.bl (U7 d e)) H
noncomputable def rNeU (K:PySem.W.Frag):V->V->Hp->VK->Prop
 | .int i,.int j,H,Q=>Q (.bl (!decide (i=j))) H
 | .str i,.str j,H,Q=>Q (.bl (!decide (i=j))) H
 | .bl i,.bl j,H,Q=>Q (.bl (!decide (i=j))) H
 | x,y,H,Q=>∃ d e,Dn K H x d/\Dn K H y e/\min d.depth e.depth<=60/\Q (.bl (!PyData.eqv d e)) H
noncomputable def rLtU:V->V->Hp->VK->Prop
 | .int i,.int j,H,Q=>Q (.bl (decide (i<j))) H
 | .str i,.str j,H,Q=>Q (.bl (decide (i.cps.toList<j.cps.toList))) H
 | _,_,_,_=>False
noncomputable def rLeU:V->V->Hp->VK->Prop
 | .int i,.int j,H,Q=>Q (.bl (decide (i<=j))) H
 | .str i,.str j,H,Q=>Q (.bl (!decide (j.cps.toList<i.cps.toList))) H
 | _,_,_,_=>False
noncomputable def rGtU:V->V->Hp->VK->Prop
 | .int i,.int j,H,Q=>Q (.bl (decide (j<i))) H
 | .str i,.str j,H,Q=>Q (.bl (decide (j.cps.toList<i.cps.toList))) H
 | _,_,_,_=>False
noncomputable def rGeU:V->V->Hp->VK->Prop
 | .int i,.int j,H,Q=>Q (.bl (decide (j<=i))) H
 | .str i,.str j,H,Q=>Q (.bl (!decide (i.cps.toList<j.cps.toList))) H
 | _,_,_,_=>False
noncomputable def rInR (K:PySem.W.Frag) (neg:Bool) (x:V) (p:Addr) (H:Hp) (Q:VK):Prop:=sC K neg x (.ref p) H Q\/∃ o,DGet H p x o/\Q (.bl (neg.xor o.isSome)) H
theorem rInR.l{K:PySem.W.Frag}{neg:Bool}{x:V}{p:Addr}{H:Hp}{Q:VK}{xs:List V}(h1:C7 K H p xs\/C6 K H p xs)(h2:flatV x=true)(h3:xs.all flatV=true)(h:Q (.bl (neg.xor (bX x xs))) H):rInR K neg x p H Q:=.inl ⟨p,xs,rfl,h1,h2,h3,by cases neg <;> simpa using h⟩
theorem rInR.d{K:PySem.W.Frag}{neg:Bool}{x:V}{p:Addr}{H:Hp}{Q:VK}{o:Option V}(h1:DGet H p x o)(h:Q (.bl (neg.xor o.isSome)) H):rInR K neg x p H Q:=.inr ⟨o,h1,h⟩
noncomputable def rInU (K:PySem.W.Frag) (neg:Bool) (x:V):V->Hp->VK->Prop
 | .str j,H,Q=>∃ i,x=.str i/\Q (.bl (neg.xor (!(Builtin.Str.occurrences j i 0 j.length 1).isEmpty))) H
 | .ref p,H,Q=>rInR K neg x p H Q
 | _,_,_=>False
section
variable {X:Cx} {pins:List (Addr×Obj)} {Y:St} {H:Hp} {s:Shared}
theorem p_add:G8 X (binaryOp .Add) (rAddU X.K):=by
 intro pins s Y H x y v u Q I rx ry h
 cases x <;> cases y <;> try exact h.elim
 .exact aoK pins s Y H _ _ v u Q I rx ry ⟨_,_,rfl,rfl,h⟩
 .exact aia pins s Y H _ _ v u Q I rx ry ⟨_,_,rfl,rfl,h⟩
 .rcases h with h | h
  .exact ao5 pins s Y H _ _ v u Q I rx ry h
  .exact am2 pins s Y H _ _ v u Q I rx ry h
theorem p_sub:G8 X (binaryOp .Sub) (v6 fun i j=>.int (i-j)):=aoL
theorem p_mul:G8 X (binaryOp .Mult) rMulU:=by
 intro pins s Y H x y v u Q I rx ry h
 cases x <;> cases y <;> try exact h.elim
 .exact aoM pins s Y H _ _ v u Q I rx ry ⟨_,_,rfl,rfl,h⟩
 .exact ao6 pins s Y H _ _ v u Q I rx ry h
theorem aqc:G8 X (binaryOp .FloorDiv) (rI CDiv fun i j=>.int (i / j)):=amP
theorem p_mod:G8 X (binaryOp .Mod) (rI (fun _ j=>0<j) fun i j=>.int (i % j)):=aoN
theorem oI(hu:X.A.units+64<cLine){x y:V}{v u:Value}{Q:VK}(I:Inv X pins Y H s)(rx:RelV x v)(ry:RelV y u)(h:∃ d e,Dn X.K H x d/\Dn X.K H y e/\min d.depth e.depth<=60/\Q (.bl (U7 d e)) H):wpAny (model X.prog X.w) X.A (compareOp .Eq v u) (EP X pins Y Q) X.xe s:=by
 obtain ⟨d,e,h1,h2,hd,q⟩:=h;obtain ⟨c1,as,r1⟩:=h1.reads I rfl rx;obtain ⟨c2,bs,r2⟩:=h2.reads I rfl ry;exact SeqAt.compareEq_reads r1 r2 c1 c2 (by lia) ⟨.bl _,H,I,rfl,q⟩
theorem oJ(hu:X.A.units+64<cLine){x y:V}{v u:Value}{Q:VK}(I:Inv X pins Y H s)(rx:RelV x v)(ry:RelV y u)(h:∃ d e,Dn X.K H x d/\Dn X.K H y e/\min d.depth e.depth<=60/\Q (.bl (!PyData.eqv d e)) H):wpAny (model X.prog X.w) X.A (compareOp .NotEq v u) (EP X pins Y Q) X.xe s:=by
 obtain ⟨d,e,h1,h2,hd,q⟩:=h;obtain ⟨c1,as,r1⟩:=h1.reads I rfl rx;obtain ⟨c2,bs,r2⟩:=h2.reads I rfl ry;exact SeqAt.compareNe_reads r1 r2 c1 c2 (by lia) ⟨.bl _,H,I,rfl,q⟩
theorem p_eq(hu:X.A.units+64<cLine):G8 X (compareOp .Eq) (rEqU X.K):=by
 intro pins s Y H x y v u Q I rx ry h;have sc:∀ {x y:V},zX x y H Q->RelV x v->RelV y u->wpAny (model X.prog X.w) X.A (compareOp .Eq v u) (EP X pins Y Q) X.xe s:=fun {x y} h rx ry=>op_eq pins s Y H x y v u Q I rx ry h
 cases x with
 | int i=>cases y with
  | int j=>exact sc (x:=.int i) (y:=.int j) ⟨rfl,by simpa using (show Q (.bl (decide (i=j))) H from h)⟩ rx ry
  | _=>exact oI hu I rx ry h
 | str i=>cases y with
  | str j=>exact sc (x:=.str i) (y:=.str j) ⟨rfl,by simpa using (show Q (.bl (decide (i=j))) H from h)⟩ rx ry
  | _=>exact oI hu I rx ry h
 | bl i=>cases y with
  | bl j=>exact sc (x:=.bl i) (y:=.bl j) ⟨rfl,by simpa using (show Q (.bl (decide (i=j))) H from h)⟩ rx ry
  | _=>exact oI hu I rx ry h
 | _=>cases y <;> exact oI hu I rx ry h
theorem p_ne(hu:X.A.units+64<cLine):G8 X (compareOp .NotEq) (rNeU X.K):=by
 intro pins s Y H x y v u Q I rx ry h;have sc:∀ {x y:V},zY x y H Q->RelV x v->RelV y u->wpAny (model X.prog X.w) X.A (compareOp .NotEq v u) (EP X pins Y Q) X.xe s:=fun {x y} h rx ry=>op_ne pins s Y H x y v u Q I rx ry h
 cases x with
 | int i=>cases y with
  | int j=>exact sc (x:=.int i) (y:=.int j) ⟨rfl,by simpa using (show Q (.bl (!decide (i=j))) H from h)⟩ rx ry
  | _=>exact oJ hu I rx ry h
 | str i=>cases y with
  | str j=>exact sc (x:=.str i) (y:=.str j) ⟨rfl,by simpa using (show Q (.bl (!decide (i=j))) H from h)⟩ rx ry
  | _=>exact oJ hu I rx ry h
 | bl i=>cases y with
  | bl j=>exact sc (x:=.bl i) (y:=.bl j) ⟨rfl,by simpa using (show Q (.bl (!decide (i=j))) H from h)⟩ rx ry
  | _=>exact oJ hu I rx ry h
 | _=>cases y <;> exact oJ hu I rx ry h
theorem p_lt:G8 X (compareOp .Lt) rLtU:=by
 intro pins s Y H x y v u Q I rx ry h
 cases x <;> cases y <;> try exact h.elim
 .exact op_lt pins s Y H _ _ v u Q I rx ry ⟨_,_,rfl,rfl,h⟩
 .exact afG pins s Y H _ _ v u Q I rx ry ⟨_,_,rfl,rfl,h⟩
theorem p_le:G8 X (compareOp .LtE) rLeU:=by
 intro pins s Y H x y v u Q I rx ry h
 cases x <;> cases y <;> try exact h.elim
 .exact op_le pins s Y H _ _ v u Q I rx ry ⟨_,_,rfl,rfl,h⟩
 .obtain ⟨t,rfl⟩:=rx;obtain ⟨t',rfl⟩:=ry;exact PySem.P.le_str ⟨.bl _,H,I,by simp [RelV],h⟩
theorem p_gt:G8 X (compareOp .Gt) rGtU:=by
 intro pins s Y H x y v u Q I rx ry h
 cases x <;> cases y <;> try exact h.elim
 .exact op_gt pins s Y H _ _ v u Q I rx ry ⟨_,_,rfl,rfl,h⟩
 .obtain ⟨t,rfl⟩:=rx;obtain ⟨t',rfl⟩:=ry;exact PySem.P.gt_str ⟨.bl _,H,I,rfl,h⟩
theorem p_in(hu:X.A.units+64<cLine):G8 X (compareOp .In) (rInU X.K false):=by
 intro pins s Y H x y v u Q I rx ry h
 cases y with
 | str j=>
  obtain ⟨i,rfl,q⟩:=h;exact ai1 pins s Y H _ _ v u Q I rx ry ⟨i,j,rfl,rfl,by simpa using q⟩
 | ref p=>
  rcases h with h | ⟨o,g,q⟩
  .exact ajd pins s Y H _ _ v u Q I rx ry h
  .obtain rfl:u=Value.ref p:=ry;exact d_in (by lia) I g rx fun s3 I3=>⟨.bl o.isSome,H,I3,rfl,by simpa using q⟩
 | _=>exact h.elim
theorem anb(hu:X.A.units+64<cLine):G8 X (compareOp .NotIn) (rInU X.K true):=by
 intro pins s Y H x y v u Q I rx ry h
 cases y with
 | str j=>
  obtain ⟨i,rfl,q⟩:=h;exact afN pins s Y H _ _ v u Q I rx ry ⟨i,j,rfl,rfl,by simpa using q⟩
 | ref p=>
  rcases h with h | ⟨o,g,q⟩
  .exact afM pins s Y H _ _ v u Q I rx ry h
  .obtain rfl:u=Value.ref p:=ry;exact am5 (by lia) I g rx fun s3 I3=>⟨.bl (!o.isSome),H,I3,rfl,by simpa using q⟩
 | _=>exact h.elim
noncomputable def cutS (x:Str) (lo hi:Option Int):Str:=⟨((x.cps.toList.drop (HT.sIx x.length 0 lo)).take (HT.sIx x.length x.length hi-HT.sIx x.length 0 lo)).toArray⟩
noncomputable def rSlS:V->Option Int->Option Int->Hp->VK->Prop:=fun x lo hi H Q=>∃ z,x=.str z/\z.length<=sizeLine/\Q (.str (cutS z lo hi)) H
end
end L2
variable {C a b cl_sorted_texts f fa it kS p pt_sorted_texts r sl:PySem.Addr}{dvs vs xs ys:List L2.V}{Q:L2.VK}{cd ct ctv oc pm u v vl vu:PySem.Value}{ck e1 i j k m n n' t' x1:Nat}{items items2:Array PySem.Value}{fr ns:List Int}{its its' its2 us:List PySem.Value}{pins:List (PySem.Addr×PySem.Obj)}{Y:L2.St}{H H' H0 H1 H2 H3 zt:L2.Hp}{s zw:PySem.Shared}{A:PySem.Around}{name o q qn qual x y z z':PySem.Str}{h h':PySem.Heap}{L M N N' acc bad g' ks line loose ls ms ps ts zs:List PySem.Str}{X:L2.Cx}{K:PySem.W.Frag}{kvs:List (L2.C1×L2.V)}{prog:PySem.Program}{E:PySem.Value->PySem.Shared->Prop}{ixs pre:List Nat}{c:L2.TT}{body e elt iter target tg:PySem.Expr}{elts ifs:List PySem.Expr}{g:L2.TG}{td te ti tl to tx ty:L2.TE}{fp rs:List PySem.Addr}{apos cpos kpos lpos p2 spos tpos:PySem.Pos}{b1 b2 b3 calm fg neg:Bool}{st:PySem.Stmt}{fd:PySem.FuncData}{sp:L2.Sp}{an od:Option PySem.Addr}{tb:L2.TS}{D:L2.Ends}{lo:Int}{mg:PySem.Str->Option PySem.Value}{ta:L2.TA}{ss:Array (Option PySem.Value)}{ob:PySem.Obj}{v':L2.V}
set_option maxRecDepth 100000
namespace L2
open PySem PySem.Spec PyProof.Rows
section
variable {X:Cx}
theorem ajo(x:Str)(lo hi:Option Int):Txt.slice x lo hi=cutS x lo hi:=by
 have c1:∀ (o:Option Int) (d:Nat),(match o with | none=>(d:Int) | some i=>if (1:Int) > 0 then max 0 (min (if i<0 then i+(x.length:Int) else i) (x.length:Int)) else max (-1) (min (if i<0 then i+(x.length:Int) else i) ((x.length:Int)-1)))=((HT.sIx x.length d o:Nat):Int):=by
  intro o d
  cases o with
  | none=>rfl
  | some i=>
   rw [<- HT.clip_eq i x.length d];simp only [show ((1:Int) > 0)=True by simp,if_true]
   split <;> lia
 have h2:Builtin.Str.strSliceIndices lo hi 1 x.length=Builtin.Str.strSliceIndices (some ((HT.sIx x.length 0 lo:Nat):Int)) (some ((HT.sIx x.length x.length hi:Nat):Int)) 1 x.length:=by
  have e1:=c1 lo 0;have e2:=c1 hi x.length;have e3:=c1 (some ((HT.sIx x.length 0 lo:Nat):Int)) 0;have e4:=c1 (some ((HT.sIx x.length x.length hi:Nat):Int)) x.length;have l1:=HT.sIx_le x.length 0 (G3 _) lo;have l2:=HT.sIx_le x.length x.length (A8 _) hi;rw [HT.sIx_nat,dQ l1] at e3;rw [HT.sIx_nat,dQ l2] at e4;unfold Builtin.Str.strSliceIndices
  dsimp only at e3 e4 ⊢
  rw [e3,e4];clear e3 e4 l1 l2;refine congr (congr (congrArg sliceRange ?_) ?_) rfl
  .cases lo with
   | none=>exact e1
   | some i=>exact e1
  .cases hi with
   | none=>exact e2
   | some i=>exact e2
 have l1:=HT.sIx_le x.length 0 (G3 _) lo;have l2:=HT.sIx_le x.length x.length (A8 _) hi;unfold Txt.slice cutS;rw [h2];generalize HT.sIx x.length 0 lo=a at *;generalize HT.sIx x.length x.length hi=b at *;have len:x.length=x.cps.toList.length:=by simp [Str.length]
 by_cases y0:a<=b
 .rw [StrLaws.sliced_plain x y0 l2,StrLaws.strSliceIndices_plain y0 l2]
  split
  .rename_i hc
   have P3:b-a=x.length:=by simpa using hc
   have ha:a=0:=by lia
   subst ha;rw [List.drop_zero,t7 (by lia)]
  .rfl
 .have e:Builtin.Str.strSliceIndices (some (a:Int)) (some (b:Int)) 1 x.length=[]:=by
   have h1:¬ ((a:Int)<0):=by lia
   have h2:¬ ((b:Int)<0):=by lia
   have e1:max (0:Int) (min (a:Int) (x.length:Int))=a:=by lia
   have e2:max (0:Int) (min (b:Int) (x.length:Int))=b:=by lia
   simp only [Builtin.Str.strSliceIndices,sliceRange,h1,h2,if_false,e1,e2,show ((1:Int) > 0)=True from by simp,if_true];rw [if_neg (by lia)];rfl
  rw [e,show b-a=0 by lia,bN]
  split
  .rename_i hc
   have P3:0=x.length:=by simpa using hc
   have:x.cps.toList=[]:=List.eq_nil_of_length_eq_zero (by lia)
   obtain ⟨⟨l⟩⟩:=x;simp at this;subst this;rfl
  .rfl
theorem aqd:gN X rSlS:=by
 intro pins s Y H x v vl vu lo hi sl Q I rx hs pl pu h;obtain ⟨z,rfl,hz,q⟩:=h;obtain ⟨t,rfl⟩:=rx;refine ⟨"str",_,F.slot_str_getitem.lookup,typeIs_str _ _ _,?_⟩;rw [<- ajo] at q;have part:∀ {u:Value} {o:Option Int},IsPart u o->∃ l:Option (Int×Tok),u=partValue l/\l.map (·.1)=o:=fun {u o} p=>by
  cases p with
  | none=>exact ⟨none,rfl,rfl⟩
  | int i t=>exact ⟨some (i,t),rfl,rfl⟩
 obtain ⟨l,rfl,el⟩:=part pl;obtain ⟨u,rfl,eu⟩:=part pu;subst el eu;refine wpAny_getItem_str_slice (l:=l) (u:=u) (st:=none) hs rfl ?_;exact post_val_or_str ⟨L4 (Txt.slice_le z _ _) hz,fun t' k=>⟨.str _,H,I.tok _,⟨t',rfl⟩,q⟩⟩
theorem adm{w:World}{t:Addr}{lo hi:Option Int}{Q:Value->Shared->Prop}(ht:IsTup s.heap t items)(hs:s.heap.IsSliceOf sl vl vu .none)(pl:IsPart vl lo)(pu:IsPart vu hi)(hw:HT.sIx items.size 0 lo=0/\HT.sIx items.size items.size hi=items.size)(h:Q (.ref t) s):wpAny (model prog w) A (getItem (.ref t) (.ref sl)) Q E s:=by
 obtain ⟨os,eZ,qH,lY⟩:=id hs;have hTs:s.TypeIs (.ref sl) "slice":=⟨os,eZ,qH⟩
 unfold getItem
 try with_reducible refine wpAny_holding ?_
 first | refine wpAny_bind (wpAny_pure ?_) | skip
 refine wpAny_bind (wpAny_sequenceKey ht.typeIs (by decide) ?_);refine wpAny_bind (wpAny_callSpecial?_slot (name:=Str.ofString "__getitem__") ht.typeIs PyProof.Rows.slot_tuple_getitem
  (wpAny_call_entry PyProof.Rows.slot_tuple_getitem ht.typeIs PyProof.Rows.entry_tuple_getitem ?_ (PyProof.Rows.args_tuple_getitem _ _)))
 show wpAny _ _ (Builtin.Tuple.tupleItemsOf (.ref t) >>= _) _ _ s;refine wpAny_bind (PyProof.Rows.tupleItemsOf_ ht ?_);refine wpAny_bind (wpAny_typeOf hTs ?_);rw [if_pos (by decide)];refine wpAny_bind (HT.sliceApplied_gen hs pl pu ?_);have xC:((((HT.sIx items.size 0 lo:Nat):Int)==0&&(1:Int)==1&&(HT.sIx items.size items.size hi-HT.sIx items.size 0 lo)==items.size)=true):=by
  rw [hw.1,hw.2]
  simp
 show wpAny _ _ (if (((HT.sIx items.size 0 lo:Nat):Int)==0&&(1:Int)==1&&(HT.sIx items.size items.size hi-HT.sIx items.size 0 lo)==items.size)=true then _ else _) _ _ s;rw [if_pos xC];refine wpAny_bind ?_;show wpAny _ _ (typeOf (.ref t) >>= fun v=>pure (v == .type "tuple")) _ _ s;refine wpAny_bind (wpAny_typeOf ht.typeIs (wpAny_pure ?_));rw [if_pos (by decide)];refine wpAny_bind (wpAny_rule ?_);exact wpAny_pure ⟨_,rfl,wpAny_pure h⟩
noncomputable def rSlW (K:PySem.W.Frag):V->Option Int->Option Int->Hp->VK->Prop:=fun x lo hi H Q=>∃ a xs,x=.ref a/\C6 K H a xs/\(HT.sIx xs.length 0 lo=0/\HT.sIx xs.length xs.length hi=xs.length)/\Q (.ref a) H
theorem aqe:gN X (rSlW X.K):=by
 intro pins s Y H x v vl vu lo hi sl Q I rx hs pl pu h;obtain ⟨a,xs,rfl,hx,hw,q⟩:=h
 cases rx
 obtain ⟨its,r,ht,hz⟩:=I.tuple hx;have A7:its.toArray.size=xs.length:=by rw [F6];exact r.length.symm
 refine ⟨"tuple",_,PyProof.Rows.slot_tuple_getitem.lookup,ht.typeIs,?_⟩;exact adm ht hs pl pu (by rw [A7];exact hw) ⟨.ref a,H,I,rfl,q⟩
noncomputable def rSlR (K:PySem.W.Frag) (a:Addr) (lo hi:Option Int) (H:Hp) (Q:VK):Prop:=rSlL K (.ref a) lo hi H Q\/rSlT K (.ref a) lo hi H Q\/rSlW K (.ref a) lo hi H Q
theorem rSlR.l{lo hi:Option Int}(h1:C7 K H a xs)(h:∀ p,H p=none->Q (.ref p) (A0 H p (.lst (cutV xs lo hi)))):rSlR K a lo hi H Q:=.inl ⟨a,xs,rfl,h1,h⟩
theorem rSlR.t{lo hi:Option Int}(h1:C6 K H a xs)(h2:¬ (HT.sIx xs.length 0 lo=0/\HT.sIx xs.length xs.length hi=xs.length))(h:∀ p,H p=none->Q (.ref p) (A0 H p (.tup (cutV xs lo hi)))):rSlR K a lo hi H Q:=.inr (.inl ⟨a,xs,rfl,h1,h2,h⟩)
theorem rSlR.w{lo hi:Option Int}(h1:C6 K H a xs)(h2:HT.sIx xs.length 0 lo=0/\HT.sIx xs.length xs.length hi=xs.length)(h:Q (.ref a) H):rSlR K a lo hi H Q:=.inr (.inr ⟨a,xs,rfl,h1,h2,h⟩)
noncomputable def rSlU (K:PySem.W.Frag):V->Option Int->Option Int->Hp->VK->Prop
 | .str z,lo,hi,H,Q=>z.length<=sizeLine/\Q (.str (cutS z lo hi)) H
 | .ref a,lo,hi,H,Q=>rSlR K a lo hi H Q
 | _,_,_,_,_=>False
theorem p_sl:gN X (rSlU X.K):=by
 intro pins s Y H x v vl vu lo hi sl Q I rx hs pl pu h
 cases x with
 | str z=>exact aqd pins s Y H _ v vl vu lo hi sl Q I rx hs pl pu ⟨z,rfl,h⟩
 | ref a=>
  rcases h with h | h | h
  .exact am3 pins s Y H _ v vl vu lo hi sl Q I rx hs pl pu h
  .exact aoZ pins s Y H _ v vl vu lo hi sl Q I rx hs pl pu h
  .exact aqe pins s Y H _ v vl vu lo hi sl Q I rx hs pl pu h
 | _=>exact h.elim
noncomputable def LenR (K:PySem.W.Frag) (H:Hp) (p:Addr) (n:Nat):Prop:=(∃ xs,C7 K H p xs/\n=xs.length)\/(∃ xs,C6 K H p xs/\n=xs.length)\/∃ kvs,Rd H p (.dK kvs)/\n=kvs.length
noncomputable def rLenU (K:PySem.W.Frag):List V->Hp->VK->Prop
 | [.str z],H,Q=>z.length<=sizeLine/\Q (.int z.length) H
 | [.ref p],H,Q=>∃ n:Nat,LenR K H p n/\Q (.int n) H
 | _,_,_=>False
theorem p_len:CallR X (.builtin "len") (rLenU X.K):=by
 intro pins s Y H xs us Q I r h
 match xs,h with
 | [.str z],h=>exact rV pins s Y H _ us Q I r ⟨.str z,z.length,rfl,⟨h.1,rfl⟩,h.2⟩
 | [.ref p],⟨n,l,q⟩=>
  rcases l with ⟨xs,l,rfl⟩ | ⟨xs,l,rfl⟩ | ⟨kvs,l,rfl⟩
  .exact rV pins s Y H _ us Q I r ⟨.ref p,_,rfl,.inl ⟨xs,l,rfl⟩,q⟩
  .exact rV pins s Y H _ us Q I r ⟨.ref p,_,rfl,.inr ⟨xs,l,rfl⟩,q⟩
  .obtain ⟨u,rfl,ru⟩:=vals1 r
   cases ru
   exact d_len I l fun t s' I'=>⟨.int kvs.length,H,I',⟨t,rfl⟩,q⟩
theorem aem(hc:X.calm=true):CallR X (.type "list") (fun xs H Q=>∃ d kvs,xs=[.ref d]/\Rd H d (.dK kvs)/\∀ l,H l=none->Q (.ref l) (A0 H l (.lst (kvs.map fun kv=>kV kv.1)))):=by
 intro pins s Y H xs us Q I r h;obtain ⟨d,kvs,rfl,e,q⟩:=h;obtain ⟨u,rfl,rx⟩:=vals1 r
 cases rx
 obtain ⟨z,hd,vs,rel,dd⟩:=dk_rd I.hok e;obtain ⟨ep,Q1⟩:=dd.dictAt;have hl:=rel.length;refine PySem.W.kdl_call (PySem.W.kdl_dict (knd:=N9 X.prog X.w) (kvs:=vs) (ep:=ep) hd) (I.ok.hd hc) Q1 (by lia) fun h' tk acc c' kp hD T0=>?_
 have hv:Vals (kvs.map fun kv=>kV kv.1) acc.toList:=by
  have hk:=rel.keys;have A7:acc.toList.length=kvs.length:=by rw [u9,T0.1,hl]
  have key:∀ (ks:List C1) (us:List Value),us.length=ks.length->(∀ (j:Nat) (v:Value),us[j]?=some v->∃ k,ks[j]?=some k/\keyIs k v=true)->Vals (ks.map kV) us:=by
   intro ks
   induction ks with
   | nil=>intro us h1 _;cases us with
    | nil=>exact .nil
    | cons _ _=>simp at h1
   | cons k ks ih=>
    intro us h1 h2
    cases us with
    | nil=>simp at h1
    | cons u us=>
     obtain ⟨k',e1,e2⟩:=h2 0 u rfl;simp at e1;subst e1;refine .cons ?_ (ih us (by simpa using h1) fun j v hj=>by simpa using h2 (j+1) v (by simpa using hj))
     rcases i3 e2 with ⟨i,t,rfl,rfl⟩ | ⟨x,t,rfl,rfl⟩
     .exact ⟨t,rfl⟩
     .exact ⟨t,rfl⟩
  rw [show (kvs.map fun kv=>kV kv.1)=(kvs.map (·.1)).map kV by rw [V8];rfl];refine key _ _ (by rw [A7,A4]) fun j v hj=>?_
  obtain ⟨k,x,hx,fE⟩:=T0.2 j v (by rw [<- jV];exact hj);refine ⟨k,?_,fE⟩;rw [hk,L7,hx];rfl
 refine ⟨.ref s.heap.objs.size,_,I.laid (t':=tk) kp (A8 _) (show ObjOk X.prog X.w _ h' _ (.lst (kvs.map fun kv=>kV kv.1)) from ⟨by rw [A4];exact z,acc.toList,c',hv,by simpa using hD⟩),rfl,q _ (I.hok.fresh (A8 _))⟩
noncomputable def rListR (K:PySem.W.Frag) (calm:Bool) (p:Addr) (H:Hp) (Q:VK):Prop:=(∃ ys,(C7 K H p ys\/C6 K H p ys)/\∀ l,H l=none->Q (.ref l) (A0 H l (.lst ys)))\/(calm=true/\∃ kvs,Rd H p (.dK kvs)/\∀ l,H l=none->Q (.ref l) (A0 H l (.lst (kvs.map fun kv=>kV kv.1))))
theorem rListR.l(h1:C7 K H p ys\/C6 K H p ys)(h:∀ l,H l=none->Q (.ref l) (A0 H l (.lst ys))):rListR K calm p H Q:=.inl ⟨ys,h1,h⟩
theorem rListR.d(h1:Rd H p (.dK kvs))(h:∀ l,H l=none->Q (.ref l) (A0 H l (.lst (kvs.map fun kv=>kV kv.1)))):rListR K true p H Q:=.inr ⟨rfl,kvs,h1,h⟩
noncomputable def sS (K:PySem.W.Frag) (calm:Bool):List V->Hp->VK->Prop
 | [.ref p],H,Q=>rListR K calm p H Q
 | _,_,_=>False
theorem aqf:CallR X (.type "list") (sS X.K X.calm):=by
 intro pins s Y H xs us Q I r h
 match xs,h with
 | [.ref p],h=>
  rcases h with ⟨ys,h1,h2⟩ | ⟨hc,kvs,h1,h2⟩
  .exact afO pins s Y H _ us Q I r ⟨p,ys,rfl,h1,h2⟩
  .exact aem hc pins s Y H _ us Q I r ⟨p,kvs,rfl,h1,h2⟩
noncomputable def rAllB (calm:Bool):List V->Hp->VK->Prop
 | [.ref p],H,Q=>∃ bs:List Bool,calm=true/\H p=some (.lst (bs.map V.bl))/\Q (.bl (bs.all id)) H
 | _,_,_=>False
noncomputable def gQ (H:Hp):V->Option String
 | .non=>some "NoneType"
 | .bl _=>some "bool"
 | .int _=>some "int"
 | .str _=>some "str"
 | .ref a=>match H a with
  | some (.lst _)=>some "list"
  | some (.frz _ (.lst _))=>some "list"
  | some (.tup _)=>some "tuple"
  | some (.dK _)=>some "dict"
  | _=>none
 | _=>none
noncomputable def sT (T n:String):Bool:=T==n || (T == "bool" && n == "int")
noncomputable def isTys:List String:=["str", "int", "bool", "list", "tuple", "dict"]
noncomputable def rIsi:List V->Hp->VK->Prop
 | [x,.ty n],H,Q=>∃ T,gQ H x=some T/\isTys.contains n=true/\Q (.bl (sT T n)) H
 | _,_,_=>False
theorem aqg{x:V}{T:String}(h:gQ H x=some T):TyOf K H x (.type T)/\["NoneType", "bool", "int", "str", "list", "tuple", "dict"].contains T=true:=by
 cases x with
 | non=>cases h;exact ⟨.non,by decide⟩
 | bl b=>cases h;exact ⟨.bl b,by decide⟩
 | int i=>cases h;exact ⟨.int i,by decide⟩
 | str z=>cases h;exact ⟨.str z,by decide⟩
 | ref a=>
  unfold gQ at h
  dsimp only at h
  cases e:H a with
  | none=>rw [e] at h;cases h
  | some o=>
   rw [e] at h
   cases o with
   | lst xs=>cases h;exact ⟨.lst e,by decide⟩
   | tup xs=>cases h;exact ⟨.tup e,by decide⟩
   | dK kvs=>cases h;exact ⟨.dK e,by decide⟩
   | frz ob u=>
    cases u with
    | lst xs=>cases h;exact ⟨.frz e,by decide⟩
    | _=>cases h
   | _=>cases h
 | _=>cases h
theorem anc(K:PySem.W.Frag):∀ T∈["NoneType", "bool", "int", "str", "list", "tuple", "dict"],∀ n∈isTys,PySem.W.kitOne K (.type T) (.type n)=some (sT T n):=by
 intro T hT n hn;simp only [E5,g6,or_false,isTys] at hT hn
 rcases hT with rfl | rfl | rfl | rfl | rfl | rfl | rfl <;> rcases hn with rfl | rfl | rfl | rfl | rfl | rfl <;> rfl
theorem ak5:CallR X (.builtin "isinstance") rIsi:=by
 intro pins s Y H xs us Q I r h
 match xs,h with
 | [x,.ty n],⟨T,h1,h2,q⟩=>
  obtain ⟨u,c,rfl,ru,rc⟩:=vals2 r;obtain rfl:c=Value.type n:=rc;obtain ⟨h3,h4⟩:=aqg (K:=X.K) h1;exact ai7 I ru h3 (anc X.K T (by simpa using h4) n (by simpa using h2)) fun tk=>⟨.bl _,H,I.tok tk,rfl,q⟩
noncomputable def rOrd:List V->Hp->VK->Prop
 | [.str z],H,Q=>z.length=1/\Q (.int (z.cps.getD 0 0:Nat)) H
 | _,_,_=>False
theorem p_ord:CallR X (.builtin "ord") rOrd:=by
 intro pins s Y H xs us Q I r h
 match xs,h with
 | [.str z],h=>exact akM pins s Y H _ us Q I r ⟨z,rfl,h⟩
noncomputable def gR (x:Str):It:=⟨fun i _=>i<x.cps.size,fun i H v H'=>H'=H/\∃ c,x.cps.toList[i]?=some c/\v=.str ⟨#[c]⟩,fun i _=>x.cps.size<=i⟩
theorem ak6{P:Program}{w:World}{ty:String}(V1:ty="str_ascii_iterator"\/ty="str_iterator")(it:Addr)(x:Str)(t:Tok):Turn P w K tg (gR x) [it] it (fun i h=>h.IsStrIter it ty x t i) where
 mem:=by simp
 obj:=fun i h st b hb=>by
  have e:b=it:=by simpa using hb
  subst e;obtain ⟨o,e,c,d⟩:=st;exact ⟨o,e,fun v z=>by rw [d] at z;cases z⟩
 keep:=fun i h h' st k=>let ⟨o,e,r⟩:=st;⟨o,k it (by simp) o e,r⟩
 item:=by
  intro X hP hw hK hc i pins s Y H E I hf st hg;subst hP hw hK;obtain ⟨f0,f1,f2,f3,f4,f5⟩:=hf it (by simp);have iQ:i<x.cps.size:=hg;have go:∀ h',h'.IsStrIter it ty x t (i+1)->Heap.SameBut it s.heap h'->∃ u,some (Value.str ⟨#[x.cps[i]]⟩ s.toks)=some u/\
    wpAny (model X.prog X.w) X.A (letOwnedTupleGo tg (.ref it) u) (fun _ s2=>∃ y H',Inv X pins Y H' s2/\RelV y u/\(gR x).yld i H y H'/\s2.heap.IsStrIter it ty x t (i+1)/\∀ b∈[it],H' b=none) E { s with heap:=h',toks:=s.toks+1 }:=by
   intro h' st' sb;have I1:Inv X pins Y H { s with heap:=h',toks:=s.toks+1 }:=I.turned (t':=s.toks+1) (fun b o hb e=>(sb.2 b hb).trans e) f0 f1 f3 f4 f5;obtain ⟨o,e,c,d⟩:=id st';refine ⟨_,rfl,go_of (s:={ s with heap:=h',toks:=s.toks+1 }) e c d (by rcases V1 with rfl | rfl <;> decide) ⟨.str ⟨#[x.cps[i]]⟩,H,I1,⟨_,rfl⟩,⟨rfl,x.cps[i],?_,rfl⟩,st',fun b hb=>(hf b hb).1⟩⟩;simp [iQ]
  rcases V1 with rfl | rfl
  .exact wpAny_pyNext_ascii_item st (c:=x.cps[i]) (by simp [iQ]) go
  .exact wpAny_pyNext_wide_item st (c:=x.cps[i]) (by simp [iQ]) go
 done:=by
  intro X hP hw hK hc i pins s Y H E I hf st hg;subst hP hw hK;obtain ⟨f0,f1,f2,f3,f4,f5⟩:=hf it (by simp);have iQ:x.cps.size<=i:=hg;have fin:∀ h',Heap.ExtBut it s.heap h'->(none:Option Value)=none/\Inv X pins Y H { s with heap:=h' }:=fun h' eb=>⟨rfl,I.turned (t':=s.toks) (fun b o hb e=>eb b o hb e) f0 f1 f3 f4 f5⟩
  rcases V1 with rfl | rfl
  .exact wpAny_pyNext_ascii_end (I.ok.hd hc) st (by simp [iQ]) fin
  .exact wpAny_pyNext_wide_end (I.ok.hd hc) st (by simp [iQ]) fin
 self:=fun A i s Q E st h=>by
  rcases V1 with rfl | rfl
  .exact wpAny_pyIter_striter_ascii st h
  .exact wpAny_pyIter_striter_wide st h
noncomputable def iStr (tl:TE):TI:=fun Y H R=>tl Y H fun x H1=>∃ z,x=.str z/\R (gR z) H1
variable {tg:Expr}
theorem aqh{l:Expr}(hl:PE X l tl):PI X tg l (iStr tl):=by
 intro pins s Y H R I h;refine A9 (hl pins s Y H _ I h) fun v s1 ⟨x,H1,I1,r1,q1⟩=>?_
 obtain ⟨z,rfl,q⟩:=q1;obtain ⟨t,rfl⟩:=r1;have fin:∀ (ty:String) (V1:ty="str_ascii_iterator"\/ty="str_iterator"),rQ X pins Y tg R (.ref s1.heap.objs.size) { s1 with heap:=s1.heap.push { cls:=.type ty,data:=.fields #[.str z t,.int 0 0] } }:=fun ty V1=>by
  refine ⟨s1.heap.objs.size,[s1.heap.objs.size],_,_,H1,rfl,I1.kept (t':=s1.toks) fun b o e=>Heap.get?_push_of_some _ e,ak6 V1 s1.heap.objs.size z t,⟨_,Heap.get?_push_size _ rfl,rfl,rfl⟩,fun b hb=>?_,q⟩;have e:b=s1.heap.objs.size:=by simpa using hb
  subst e;exact I1.fpOk (A8 _) (I1.hok.fresh (A8 _))
 cases ha:z.cps.all (· < 128)
 .exact wpAny_pyIter_wide ha (fin _ (.inr rfl))
 .exact wpAny_pyIter_ascii ha (fin _ (.inl rfl))
end
end L2
set_option maxRecDepth 100000
namespace L2
open PySem PySem.Spec PyProof.Rows
noncomputable def K4:Expr->Bool
 | .Starred _ _=>true
 | _=>false
noncomputable def W4 (es:List Expr):Bool:=es.all fun e=>!K4 e
theorem M9{es:List Expr}{env:Env}(h:K4 e=false):starEach (e::es) env=(false,eval e env)::starEach es env:=by
 cases e <;> first | rfl | cases h
theorem eD{pos:Pos}{env:Env} : ∀ {es:List Expr},W4 es=true->(backTo pos (starEach es env)).any (·.1)=false
 | [],_=>rfl
 | e::es,h=>by
  have h':(!K4 e&&W4 es)=true:=h;rw [X0] at h';rw [M9 (by simpa using h'.1)];have ih:=eD (pos:=pos) (env:=env) h'.2;unfold backTo at ih ⊢
  rw [K0,u8,ih];rfl
theorem ahB{pos:Pos}{env:Env} : ∀ {es:List Expr},W4 es=true->(backTo pos (starEach es env)).all (fun x=>!x.1)=true
 | [],_=>rfl
 | e::es,h=>by
  have h':(!K4 e&&W4 es)=true:=h;rw [X0] at h';rw [M9 (by simpa using h'.1)];have ih:=ahB (pos:=pos) (env:=env) h'.2;unfold backTo at ih ⊢
  rw [K0,List.all_cons,ih];rfl
section
variable {X:Cx} {e:Expr} {es:List Expr} {te:TE} {t:TA} {x:Str} {p pos:Pos} {id T:String} {r:List V->Hp->VK->Prop}
theorem pa_c(ha:PE X e te)(hr:PA X es t)(h:K4 e=false:=by rfl):PA X (e::es) (tCons te t):=amV ha hr (M9 h)
theorem pe_cB(hc:CallR X (.builtin id) r)(hg:Gl X x)(hm:X.mg x=none)(hv:bootBuiltins x=some (.builtin id))(ha:PA X (e::es) t)(h1:K4 e=false:=by rfl)(h2:W4 es=true:=by rfl)(hn:x≠"__name__":=by decide)(Q7:(x==("__debug__" : Str))=false:=by decide) :
  PE X (.Call (.Name x p) (e::es) [] pos) (dZ r t):=akR hc hg hm hv ha hn Q7 (M9 h1) (eD h2)
theorem pe_cT(hc:CallR X (.type T) r)(hg:Gl X x)(hm:X.mg x=none)(hv:bootBuiltins x=some (.type T))(ha:PA X (e::es) t)(h1:K4 e=false:=by rfl)(h2:W4 es=true:=by rfl)(hn:x≠"__name__":=by decide)(Q7:(x==("__debug__" : Str))=false:=by decide) :
  PE X (.Call (.Name x p) (e::es) [] pos) (dZ r t):=aja hc hg hm hv ha hn Q7 (M9 h1) (eD h2)
variable {o:Expr} {to:TE} {name:Str} {apos cpos:Pos} {rm:V->List V->Hp->VK->Prop}
theorem pe_mB(pa:PlainAttrs T)(slot:Slot T name id)(V1:typeOf (.builtin id)=pure (.type "method_descriptor"))(hm:oB X id rm)(ho:PE X o to)(ha:PA X (e::es) t)(h1:K4 e=false:=by rfl)(h2:W4 es=true:=by rfl)(h3:decide ((e::es).length<30)=true:=by rfl)(G0:attributeBase o name X.env (eval o X.env)=eval o X.env:=by rfl)(G1:(apos.endLine==cpos.line)=true:=by rfl):PE X (.Call (.Attribute o name apos) (e::es) [] cpos) (gO X.K T rm to t):=
 pe_bm pa slot V1 hm ho ha G0 (by
  rw [ahB (show W4 (e::es)=true by show (!K4 e&&W4 es)=true;rw [h1,h2];rfl)];have h3':(e::es).length<30:=of_decide_eq_true h3;simp only [List.isEmpty_nil,if_true,k8,Nat.add_zero,Bool.true_and];rw [decide_eq_true h3'];rfl) G1 (M9 h1) (eD h2)
variable {tg a b:Expr} {ta:TA}
theorem pi_r1(hg:Gl X "range")(hm:X.mg "range"=none)(ha:PA X [a] ta)(h1:K4 a=false:=by rfl):PI X tg (.Call (.Name "range" p) [a] [] pos) (iRng1 ta):=aiU hg hm ha (by rw [M9 h1];rfl)
theorem pi_r2(hg:Gl X "range")(hm:X.mg "range"=none)(ha:PA X [a,b] ta)(h1:K4 a=false:=by rfl)(h2:K4 b=false:=by rfl):PI X tg (.Call (.Name "range" p) [a,b] [] pos) (iRng2 ta):=aiV hg hm ha (by rw [M9 h1,M9 h2];rfl) (by rw [M9 h2];rfl)
end
noncomputable def FO (P:Program) (w:World) (K:PySem.W.Frag) (mg:Str->Option Value) (base:Heap) (k:Nat) (x:Str) (ps:List Str) (dvs:List V) (sp:Sp):Prop:=
 ∃ f fd,FnOk P w K mg base E8 k f fd ps sp/\mg x=some (.ref f)/\V9 K (.ref f)=true/\∃ ds,Binds K fd ps ds/\Vals dvs ds
structure FunD(K:PySem.W.Frag)(x qual:Str)(st:Stmt)(f:Addr)(fd:FuncData):Prop where
 ex:∃ (oc:Value) (od:Option Addr) (dV kV doc pm:Value) (an:Option Addr) (cdv ct:Value) (osl:Array (Option Value)),
  fd=R6 x qual (U8 st) (R7 st) (C3 st) dV kV doc pm an cdv ct/\K.lookup f=some ⟨oc,od,.func fd,osl⟩/\X1 K cdv qual=true
section
variable {P:Program} {w:World} {K:PySem.W.Frag} {mg:Str->Option Value} {base:Heap}
theorem FunD.ok(F:FunD K x qual st f fd)(S:FnScope N ps (C3 st))(len:∀ vs H Q E,sp vs H Q E->vs.length=ps.length)(V0:∀ (cdv:Value) (A:Around) (outer:List Env) (s:Shared) (H:Hp) (vs:List V) (Q:VK) (E:XK),Room k (A.deeper (envOfC qual (C3 st) s.heap.objs.size f cdv))->sp vs H Q E->
   ∃ t,W1 (cxOf E8 P w K mg base N qual (C3 st) f cdv A outer s H E).nox (R7 st) t/\t { nx:=fun _ H'=>Q .non H',rt:=Q } (start N vs) H):FnOk P w K mg base E8 (k+1) f fd ps sp:=by
 obtain ⟨oc,od,dV,kV,doc,pm,an,cdv,ct,osl,rfl,lk,P9⟩:=F.ex;refine fn_of lk P9 S len fun A outer s H vs Q E hr x8=>?_
 obtain ⟨t,h,q⟩:=V0 cdv A outer s H vs Q E hr x8;exact ⟨t,h.nox,q⟩
theorem cB{osl:Array (Option Value)}{dV kV doc cdv:Value}(l:K.lookup f=some ⟨oc,od,.func (R6 x qual (U8 st) (R7 st) (C3 st) dV kV doc pm an cdv ct),osl⟩)(c:X1 K cdv qual=true):FunD K x qual st f (R6 x qual (U8 st) (R7 st) (C3 st) dV kV doc pm an cdv ct):=⟨oc,od,dV,kV,doc,pm,an,cdv,ct,osl,rfl,l,c⟩
end
section
variable {X:Cx} {k:Nat} {ps:List Str} {sp:Sp} {dvs:List V} {x:Str} {p pos:Pos} {e:Expr} {es:List Expr} {t:TA}
theorem ak7(G:FO X.prog X.w X.K X.mg X.base k x ps dvs sp)(hr:Room k X.A)(ha:PA X (e::es) t)(hg:Gl X x:=by rfl)(h1:K4 e=false:=by rfl)(h2:W4 es=true:=by rfl)(Q7:(x==("__debug__" : Str))=false:=by decide):PE X (.Call (.Name x p) (e::es) [] pos) (tCall sp dvs E0 t):=by
 obtain ⟨f,fd,F,hm,hk,ds,hb,hd⟩:=G;exact amW F hr hg hm hk hb hd pass0 ha Q7 (M9 h1) (eD h2)
theorem ak8{i:Int}(h:∃ t,X.mg x=some (.int i t))(hg:Gl X x:=by rfl)(hd:(x==("__debug__" : Str))=false:=by decide):PE X (.Name x p) (tC (.int i)):=by
 obtain ⟨t,h⟩:=h;exact zT hg h ⟨t,rfl⟩ hd
theorem ak9(h:X.mg x=some (.ref a))(hg:Gl X x:=by rfl)(hd:(x==("__debug__" : Str))=false:=by decide):PE X (.Name x p) (tC (.ref a)):=zT hg h rfl hd
end
section
variable {Y:St} {H:Hp} {Q:VK} {B:Bool->Hp->Prop} {ta tb tc te:TE} {t u:TS} {tt uu:TT} {D:Ends} {i:Nat} {v:V} {r r':R2} {K:PySem.W.Frag} {taa:TA} {R:List V->Hp->Prop} {g:TG}
theorem ame:tVar i Y H Q=∃ v,(Y[i]?).join=some v/\Q v H:=by
 unfold tVar;refine propext ⟨fun ⟨v,h,q⟩=>⟨v,by rw [h];rfl,q⟩,fun ⟨v,h,q⟩=>⟨v,?_,q⟩⟩;cases e:Y[i]? with
 | none=>rw [e] at h;cases h
 | some o=>rw [e] at h;exact congrArg some h
theorem ap_c:tC v Y H Q=Q v H:=rfl
theorem ap_op:m4 r ta tb Y H Q=ta Y H fun x H1=>tb Y H1 fun y H2=>r x y H2 Q:=rfl
theorem ap_un{ru:V->Hp->VK->Prop} : rR ru ta Y H Q=ta Y H fun x H1=>ru x H1 Q:=rfl
theorem ap_rU{f:Int->V}{x:V} : rU f x H Q=∃ i,x=.int i/\Q (f i) H:=rfl
theorem ane:tTest ta Y H B=ta Y H fun x H'=>∃ k,x=.bl k/\B k H':=rfl
theorem ap_tB:tB ta Y H B=ta Y H fun x H'=>∃ k,x=.bl k/\B k H':=rfl
theorem anf:tTru K ta Y H B=ta Y H fun x H'=>∃ k,TruV K x H' k/\B k H':=rfl
theorem ang:tNotT K ta Y H Q=ta Y H fun x H'=>∃ k,TruV K x H' k/\Q (.bl (!k)) H':=rfl
theorem ala:rT r r' ta tb tc Y H Q=ta Y H fun x H1=>tb Y H1 fun y H2=>r x y H2 fun z H3=>∃ k,z=.bl k/\(if k=true then tc Y H3 fun w' H4=>r' y w' H4 Q else Q (.bl false) H3):=rfl
theorem aqi:tAnd tt uu Y H B=tt Y H fun c H1=>if c=true then uu Y H1 B else B false H1:=rfl
theorem ap_or:rL tt uu Y H B=tt Y H fun c H1=>if c=true then B true H1 else uu Y H1 B:=rfl
theorem aqj:tNot tt Y H B=tt Y H fun c H1=>B (!c) H1:=rfl
theorem anh:tAndV ta tb Y H Q=ta Y H fun x H1=>∃ c,x=.bl c/\if c=true then tb Y H1 Q else Q (.bl false) H1:=rfl
theorem aqk:tOrV ta tb Y H Q=ta Y H fun x H1=>∃ c,x=.bl c/\if c=true then Q (.bl true) H1 else tb Y H1 Q:=rfl
theorem ani:tNotV ta Y H Q=ta Y H fun x H1=>∃ c,x=.bl c/\Q (.bl (!c)) H1:=rfl
theorem ap_if:rM tt ta tb Y H Q=tt Y H fun c H1=>if c=true then ta Y H1 Q else tb Y H1 Q:=rfl
theorem anj:tNext D Y H=D.nx Y H:=rfl
theorem aql:tSeq t u D Y H=t { D with nx:=u D } Y H:=rfl
theorem alb:aoA D Y H=D.bk Y H:=rfl
theorem ank:tCont D Y H=D.ct Y H:=rfl
theorem anl:tDrop te D Y H=te Y H fun _ H1=>D.nx Y H1:=rfl
theorem aqm:tRet te D Y H=te Y H D.rt:=rfl
theorem anm:tRetN D Y H=D.rt .non H:=rfl
theorem aqn:tIfS tt t u D Y H=tt Y H fun b H1=>if b=true then t D Y H1 else u D Y H1:=rfl
theorem alc:rN D Y H=False:=rfl
theorem ann{Z:St->Hp->Prop} : gName i v Y H Z=Z (Y.set i (some v)) H:=rfl
theorem ano{Z:St->Hp->Prop} : gNil vs Y H Z=(vs=[]/\Z Y H):=rfl
theorem ald{us:i4}{Z:St->Hp->Prop} : gCons g us vs Y H Z=∃ v r,vs=v::r/\g v Y H fun σ' H'=>us r σ' H' Z:=rfl
theorem anp{us:i4}{Z:St->Hp->Prop} : gTup K n us v Y H Z=∃ a xs,v=.ref a/\C6 K H a xs/\xs.length=n/\us xs Y H Z:=rfl
theorem anq{ts:TSet}{Z:St->Hp->Prop} : gSub ta tb ts v Y H Z=ta Y H fun o H1=>tb Y H1 fun i H2=>ts o i v H2 fun H3=>Z Y H3:=rfl
theorem aqo:tAsg te g D Y H=te Y H fun x H1=>g x Y H1 D.nx:=rfl
theorem aqp{ti:dX} : tAug i te ti D Y H=∃ x,(Y[i]?).join=some x/\te Y H fun y H1=>ti x y H1 fun z H2=>D.nx (Y.set i (some z)) H2:=ame (Q:=fun x H=>te Y H fun y H1=>ti x y H1 fun z H2=>D.nx (Y.set i (some z)) H2)
theorem aqq{f:Int->Int->Int}{x y:V} : rP f x y H Q=∃ i j,x=.int i/\y=.int j/\Q (.int (f i j)) H:=rfl
theorem anr:tCons te taa Y H R=te Y H fun x H1=>taa Y H1 fun xs H2=>R (x::xs) H2:=rfl
theorem aqr:tNil Y H R=R [] H:=rfl
theorem ans{E:XK} : tCall sp dvs E taa Y H Q=taa Y H fun vs H1=>sp (vs++dvs) H1 Q E:=rfl
theorem ap_cb{rc:List V->Hp->VK->Prop} : dZ rc taa Y H Q=taa Y H fun vs H1=>rc vs H1 Q:=rfl
theorem aqs:tTup taa Y H Q=taa Y H fun xs H1=>xs.length<=sizeLine/\∀ p,H1 p=none->Q (.ref p) (A0 H1 p (.tup xs)):=rfl
theorem aqt:tLst taa Y H Q=taa Y H fun xs H1=>xs.length<=sizeLine/\∀ p,H1 p=none->Q (.ref p) (A0 H1 p (.lst xs)):=rfl
theorem ap_sl{rs:V->Option Int->Option Int->Hp->VK->Prop}{tl th:TO} : sA rs te tl th Y H Q=te Y H fun x H1=>tl Y H1 fun l H2=>th Y H2 fun u H3=>rs x l u H3 Q:=rfl
theorem ajq{O:Option Int->Hp->Prop} : rZ Y H O=O none H:=rfl
theorem ant{O:Option Int->Hp->Prop} : tPart te Y H O=te Y H fun x H1=>∃ i,x=.int i/\O (some i) H1:=rfl
theorem ap_bm{T:String}{rm:V->List V->Hp->VK->Prop} : gO K T rm te taa Y H Q=te Y H fun x H1=>bY K T x H1/\taa Y H1 fun xs H2=>rm x xs H2 Q:=rfl
theorem aqu{T:String}{rm:V->List V->Hp->VK->Prop} : tBM0 K T rm te Y H Q=te Y H fun x H1=>bY K T x H1/\rm x [] H1 Q:=rfl
theorem aqv:tYes Y H B=B true H:=rfl
theorem anu:sM Y H Q=∀ p,H p=none->Q (.ref p) (A0 H p (.dK [])):=rfl
theorem anv:tDGet ta tb Y H Q=ta Y H fun x H1=>tb Y H1 fun y H2=>∃ a v,x=.ref a/\DGet H2 a y (some v)/\Q v H2:=rfl
theorem anw:sDPut ta tb tc D Y H=tc Y H fun v H1=>ta Y H1 fun x H2=>tb Y H2 fun y H3=>∃ a H4,x=.ref a/\DPut H3 a y v H4/\D.nx Y H4:=rfl
theorem anx{rd:V->V->Hp->VK->Prop} : sDAug ta tb tc rd D Y H=ta Y H fun x H1=>tb Y H1 fun y H2=>∃ a v,x=.ref a/\DGet H2 a y (some v)/\tc Y H2 fun y2 H3=>rd v y2 H3 fun z H4=>∃ H5,DPut H4 a y z H5/\D.nx Y H5:=rfl
theorem anz{x y:V} : v6 (fun i j=>V.int (i-j)) x y H Q=∃ i j,x=.int i/\y=.int j/\Q (.int (i-j)) H:=rfl
theorem ale{x y:V} : rI CDiv (fun i j=>V.int (i / j)) x y H Q=∃ i j,x=.int i/\y=.int j/\(0<j/\j<1073741824)/\Q (.int (i / j)) H:=rfl
theorem anA{x y:V} : rI (fun _ j=>0<j) (fun i j=>V.int (i % j)) x y H Q=∃ i j,x=.int i/\y=.int j/\0<j/\Q (.int (i % j)) H:=rfl
theorem anB : bY K "str" (.str z) H=True:=by simp [bY]
noncomputable def ForIt (J:It) (g:TG) (tb:TS) (D:Ends) (Y:St) (H1:Hp):Prop:=∃ W:Nat->Nat->St->Hp->Prop,(∃ m,W 0 m Y H1)/\∀ i m Y H,W i m Y H->
 (J.stop i H/\D.nx Y H)\/(J.go i H/\∃ N:St->Hp->Prop,(∀ σ' H',N σ' H'->∃ m',m'<m/\W (i+1) m' σ' H')/\∀ x H',J.yld i H x H'->g x Y H' fun σ2 H2=>tb { D with nx:=N,ct:=N,bk:=D.nx } σ2 H2)
theorem aqw{wi:TI}{tbs:TS} : tFor wi g tbs D Y H=wi Y H fun J H1=>ForIt J g tbs D Y H1:=rfl
theorem alf{Z:It->Hp->Prop} : iList K te Y H Z=te Y H fun x H1=>∃ a,x=.ref a/\(∃ xs,C7 K H1 a xs)/\Z (v4 K a) H1:=rfl
theorem anC{Z:It->Hp->Prop} : iTup K te Y H Z=te Y H fun x H1=>∃ a,x=.ref a/\(∃ xs,C6 K H1 a xs)/\Z (bV K a) H1:=rfl
theorem anD{Z:It->Hp->Prop} : iStr te Y H Z=te Y H fun x H1=>∃ z,x=.str z/\Z (gR z) H1:=rfl
theorem alg{Z:It->Hp->Prop} : iRng1 taa Y H Z=taa Y H fun vs H1=>∃ j:Int,vs=[.int j]/\-(2 ^ 62)<=j/\j<2 ^ 62/\Z (i5 0 j.toNat) H1:=rfl
theorem alh{Z:It->Hp->Prop} : iRng2 taa Y H Z=taa Y H fun vs H1=>∃ i j:Int,vs=[.int i,.int j]/\(-(2 ^ 62)<=i/\i<2 ^ 62/\-(2 ^ 62)<=j/\j<2 ^ 62)/\Z (i5 i (j-i).toNat) H1:=rfl
noncomputable def cC (J:It) (k:Nat) (ixs:List Nat) (g:TG) (c:TT) (te:TE) (Y:St) (Q:VK) (H1:Hp):Prop:=∀ D,H1 D=none->
 ∃ (n:Nat) (W:Nat->List V->St->Hp->Prop),W 0 [] (compStart k ixs Y) (A0 H1 D (.lst []))/\∀ i ys σ2 H2,W i ys σ2 H2->H2 D=some (.lst ys)->
  (J.stop i H2/\Q (.ref D) H2)\/
  (i<n/\J.go i H2/\∀ x H',J.yld i H2 x H'->g x σ2 H' fun σ3 H3=>c σ3 H3 fun b H4=>
   if b=true then te σ3 H4 fun y H5=>H5 D=some (.lst ys)/\ys.length<sizeLine/\W (i+1) (ys++[y]) σ3 (A0 H5 D (.lst (ys++[y])))
   else H4 D=some (.lst ys)/\W (i+1) ys σ3 H4)
theorem anE{wi:TI} : tComp wi k ixs g tt te Y H Q=wi Y H fun J H1=>cC J k ixs g tt te Y Q H1:=rfl
end
theorem anF{b k:Bool} : TruV K (.bl b) H k=(k=b):=rfl
theorem ali{i:Int}{k:Bool} : TruV K (.int i) H k=(k=(i != 0)):=rfl
theorem alj{k:Bool} : TruV K (.str z) H k=(z.length<=sizeLine/\k=((z.length:Int) != 0)):=rfl
theorem alk{k:Bool} : TruV K .non H k=(k=false):=rfl
theorem alm : start N vs=vs.map some++V7 (N.length-vs.length) none:=rfl
theorem afX : compStart k ixs Y=V7 k none++ixs.map fun i=>(Y[i]?).join:=rfl
theorem anG{i:Int} : eA K (.str z) (.int i) H Q=∃ c,z.length<=sizeLine/\L0 z.cps.toList i=some c/\Q (.str ⟨#[c]⟩) H:=by
 simp only [eA,rIxL,rIxT,rIxS];refine propext ⟨fun h=>?_,fun ⟨c,h⟩=>.inr (.inr ⟨z,i,c,rfl,rfl,h⟩)⟩
 rcases h with ⟨p,xs,j,v,e,_⟩ | ⟨p,xs,j,v,e,_⟩ | ⟨z',i',c,e1,e2,h⟩
 .cases e
 .cases e
 .cases e1;cases e2;exact ⟨c,h⟩
theorem anH{i:Int} : eA K (.ref p) (.int i) H Q=∃ xs v,(C7 K H p xs\/C6 K H p xs)/\L0 xs i=some v/\Q v H:=by
 simp only [eA,rIxL,rIxT,rIxS];refine propext ⟨fun h=>?_,fun ⟨xs,v,h,r⟩=>?_⟩
 .rcases h with ⟨p',xs,j,v,e1,e2,h1,h2⟩ | ⟨p',xs,j,v,e1,e2,h1,h2⟩ | ⟨z',i',c,e1,e2,h⟩
  .cases e1;cases e2;exact ⟨xs,v,.inl h1,h2⟩
  .cases e1;cases e2;exact ⟨xs,v,.inr h1,h2⟩
  .cases e1
 .rcases h with h | h
  .exact .inl ⟨p,xs,i,v,rfl,rfl,h,r⟩
  .exact .inr (.inl ⟨p,xs,i,v,rfl,rfl,h,r⟩)
theorem sU{α:Type}{xs:List α}{i:Int}(h0:0<=i)(h1:i<xs.length):∃ v,L0 xs i=some v/\v∈xs:=by
 have C4:i.toNat<xs.length:=by lia
 refine ⟨xs[i.toNat],?_,List.getElem_mem C4⟩;unfold L0 X3;rw [if_pos h0,if_pos h1];simp [C4]
theorem i6:bootBuiltins "len"=some (.builtin "len"):=by decide +kernel
theorem afe:bootBuiltins "isinstance"=some (.builtin "isinstance"):=by decide +kernel
theorem amf:bootBuiltins "any"=some (.builtin "any"):=by decide +kernel
theorem aqx:bootBuiltins "ord"=some (.builtin "ord"):=by decide +kernel
theorem amg:bootBuiltins "min"=some (.builtin "min"):=by decide +kernel
theorem eE:bootBuiltins "list"=some (.type "list"):=by decide +kernel
theorem sV:bootBuiltins "tuple"=some (.type "tuple"):=by decide +kernel
theorem ajs:bootBuiltins "dict"=some (.type "dict"):=by decide +kernel
theorem amh:bootBuiltins "int"=some (.type "int"):=by decide +kernel
section
variable {K:PySem.W.Frag} {H:Hp} {Q:VK} {i j:Int} {x y:Str} {u v:V} {b c:Bool} {p q:Addr} {lo hi:Option Int} {cm:Bool}
theorem ad_ii:rAddU K (.int i) (.int j) H Q=Q (.int (i+j)) H:=rfl
theorem ad_ss:rAddU K (.str x) (.str y) H Q=(x.length+y.length<=sizeLine/\Q (.str (x++y)) H):=rfl
theorem ad_rr:rAddU K (.ref p) (.ref q) H Q=rAddR K p q H Q:=rfl
theorem mu_ii:rMulU (.int i) (.int j) H Q=(CMul i j/\Q (.int (i*j)) H):=rfl
theorem mu_ri:rMulU (.ref p) (.int j) H Q=rRep (.ref p) (.int j) H Q:=rfl
theorem eq_ii:rEqU K (.int i) (.int j) H Q=Q (.bl (decide (i=j))) H:=rfl
theorem eq_ss:rEqU K (.str x) (.str y) H Q=Q (.bl (decide (x=y))) H:=rfl
theorem eq_bb:rEqU K (.bl b) (.bl c) H Q=Q (.bl (decide (b=c))) H:=rfl
theorem eq_rx:rEqU K (.ref p) v H Q=∃ d e,Dn K H (.ref p) d/\Dn K H v e/\min d.depth e.depth<=60/\Q (.bl (U7 d e)) H:=by cases v <;> rfl
theorem eq_xr:rEqU K v (.ref p) H Q=∃ d e,Dn K H v d/\Dn K H (.ref p) e/\min d.depth e.depth<=60/\Q (.bl (U7 d e)) H:=by cases v <;> rfl
theorem ne_ii:rNeU K (.int i) (.int j) H Q=Q (.bl (!decide (i=j))) H:=rfl
theorem ne_ss:rNeU K (.str x) (.str y) H Q=Q (.bl (!decide (x=y))) H:=rfl
theorem ne_bb:rNeU K (.bl b) (.bl c) H Q=Q (.bl (!decide (b=c))) H:=rfl
theorem ne_rx:rNeU K (.ref p) v H Q=∃ d e,Dn K H (.ref p) d/\Dn K H v e/\min d.depth e.depth<=60/\Q (.bl (!PyData.eqv d e)) H:=by cases v <;> rfl
theorem ne_xr:rNeU K v (.ref p) H Q=∃ d e,Dn K H v d/\Dn K H (.ref p) e/\min d.depth e.depth<=60/\Q (.bl (!PyData.eqv d e)) H:=by cases v <;> rfl
theorem lt_ii:rLtU (.int i) (.int j) H Q=Q (.bl (decide (i<j))) H:=rfl
theorem lt_ss:rLtU (.str x) (.str y) H Q=Q (.bl (decide (x.cps.toList<y.cps.toList))) H:=rfl
theorem le_ii:rLeU (.int i) (.int j) H Q=Q (.bl (decide (i<=j))) H:=rfl
theorem le_ss:rLeU (.str x) (.str y) H Q=Q (.bl (!decide (y.cps.toList<x.cps.toList))) H:=rfl
theorem gt_ii:rGtU (.int i) (.int j) H Q=Q (.bl (decide (j<i))) H:=rfl
theorem gt_ss:rGtU (.str x) (.str y) H Q=Q (.bl (decide (y.cps.toList<x.cps.toList))) H:=rfl
theorem ge_ii:rGeU (.int i) (.int j) H Q=Q (.bl (decide (j<=i))) H:=rfl
theorem ge_ss:rGeU (.str x) (.str y) H Q=Q (.bl (!decide (x.cps.toList<y.cps.toList))) H:=rfl
theorem in_xs:rInU K b u (.str x) H Q=∃ i,u=.str i/\Q (.bl (b.xor (!(Builtin.Str.occurrences x i 0 x.length 1).isEmpty))) H:=rfl
theorem in_xr:rInU K b u (.ref p) H Q=rInR K b u p H Q:=rfl
theorem sl_s:rSlU K (.str x) lo hi H Q=(x.length<=sizeLine/\Q (.str (cutS x lo hi)) H):=rfl
theorem sl_r:rSlU K (.ref p) lo hi H Q=rSlR K p lo hi H Q:=rfl
theorem len_s:rLenU K [.str x] H Q=(x.length<=sizeLine/\Q (.int x.length) H):=rfl
theorem len_r:rLenU K [.ref p] H Q=∃ n:Nat,LenR K H p n/\Q (.int n) H:=rfl
theorem aqy:sS K cm [.ref p] H Q=rListR K cm p H Q:=rfl
theorem all_r:rAllB cm [.ref p] H Q=∃ bs:List Bool,cm=true/\H p=some (.lst (bs.map V.bl))/\Q (.bl (bs.all id)) H:=rfl
theorem isi_t{n:String} : rIsi [u,.ty n] H Q=∃ T,gQ H u=some T/\isTys.contains n=true/\Q (.bl (sT T n)) H:=rfl
theorem ord_s:rOrd [.str x] H Q=(x.length=1/\Q (.int (x.cps.getD 0 0:Nat)) H):=rfl
end
theorem forL(Pv:Nat->St->Hp->Prop)(h0:Pv 0 Y H)(hl:∀ i Y H,i<=xs.length->Pv i Y H->C7 K H a xs)(hs:∀ i x Y H,xs[i]?=some x->Pv i Y H->g x Y H fun σ2 H2=>tb { D with nx:=Pv (i+1),ct:=Pv (i+1),bk:=D.nx } σ2 H2)(hd:∀ Y H,Pv xs.length Y H->D.nx Y H):ForIt (v4 K a) g tb D Y H:=akJ Pv h0 hl hs hd
theorem forT(Pv:Nat->St->Hp->Prop)(h0:Pv 0 Y H)(hl:∀ i Y H,i<=xs.length->Pv i Y H->C6 K H a xs)(hs:∀ i x Y H,xs[i]?=some x->Pv i Y H->g x Y H fun σ2 H2=>tb { D with nx:=Pv (i+1),ct:=Pv (i+1),bk:=D.nx } σ2 H2)(hd:∀ Y H,Pv xs.length Y H->D.nx Y H):ForIt (bV K a) g tb D Y H:=amO Pv h0 hl hs hd
theorem forR(Pv:Nat->St->Hp->Prop)(h0:Pv 0 Y H)(hs:∀ i Y H,i<n->Pv i Y H->g (.int (lo+i)) Y H fun σ2 H2=>tb { D with nx:=Pv (i+1),ct:=Pv (i+1),bk:=D.nx } σ2 H2)(hd:∀ Y H,Pv n Y H->D.nx Y H):ForIt (i5 lo n) g tb D Y H:=aiX Pv h0 hs hd
noncomputable def CW (n:Nat) (fr:St) (Pv:Nat->List V->Hp->Prop) (i:Nat) (ys:List V) (σ2:St) (H2:Hp):Prop:=i<=n/\ys.length<=i/\(∃ v,σ2=v::fr)/\Pv i ys H2
theorem CW.put{fr:St}{Pv:Nat->List V->Hp->Prop}{y:V}{o:Option V}(hi:i<n)(hy:ys.length<=i)(p:Pv (i+1) (ys++[y]) H):CW n fr Pv (i+1) (ys++[y]) (o::fr) H:=
 ⟨hi,by rw [C8,T4];lia,⟨_,rfl⟩,p⟩
theorem uai{fr:St}{Pv:Nat->List V->Hp->Prop}{o:Option V}(hi:i<n)(hy:ys.length<=i)(p:Pv (i+1) ys H):CW n fr Pv (i+1) ys (o::fr) H:=⟨hi,Nat.le_succ_of_le hy,⟨_,rfl⟩,p⟩
theorem compL(fr:St)(X8:compStart 1 ixs Y=none::fr)(Pv:Addr->Nat->List V->Hp->Prop)(h0:∀ D,H1 D=none->Pv D 0 [] (A0 H1 D (.lst [])))(hl:∀ D i ys H,H1 D=none->i<=xs.length->Pv D i ys H->C7 K H a xs)(hs:∀ D i x ys H,H1 D=none->i<xs.length->xs[i]?=some x->Pv D i ys H->H D=some (.lst ys)->ys.length<=i->c (some x::fr) H fun b H4=>
   if b=true then te (some x::fr) H4 fun y H5=>H5 D=some (.lst ys)/\ys.length<sizeLine/\CW xs.length fr (Pv D) (i+1) (ys++[y]) (some x::fr) (A0 H5 D (.lst (ys++[y])))
   else H4 D=some (.lst ys)/\CW xs.length fr (Pv D) (i+1) ys (some x::fr) H4)(hd:∀ D ys H,H1 D=none->Pv D xs.length ys H->H D=some (.lst ys)->ys.length<=xs.length->Q (.ref D) H):cC (v4 K a) 1 ixs (gName 0) c te Y Q H1:=by
 intro D hD;refine ⟨xs.length,CW xs.length fr (Pv D),⟨G3 _,G3 _,⟨none,X8⟩,h0 D hD⟩,?_⟩;rintro i ys σ2 H2 ⟨hi,hy,⟨v,rfl⟩,p⟩ hDy;have q:=hl D i ys H2 hD hi p
 by_cases C4:i<xs.length
 .refine .inr ⟨C4,⟨xs,xs[i],q,by simp [C4]⟩,fun x H' y=>?_⟩;obtain ⟨e,y⟩:=y;subst e;exact hs D i x ys _ hD C4 (y xs q) p hDy hy
 .have e:i=xs.length:=by lia
  subst e;exact .inl ⟨⟨xs,q,A8 _⟩,hd D ys H2 hD p hDy hy⟩
theorem compT(fr:St)(X8:compStart 1 ixs Y=none::fr)(Pv:Addr->Nat->List V->Hp->Prop)(h0:∀ D,H1 D=none->Pv D 0 [] (A0 H1 D (.lst [])))(hl:∀ D i ys H,H1 D=none->i<=xs.length->Pv D i ys H->C6 K H a xs)(hs:∀ D i x ys H,H1 D=none->i<xs.length->xs[i]?=some x->Pv D i ys H->H D=some (.lst ys)->ys.length<=i->c (some x::fr) H fun b H4=>
   if b=true then te (some x::fr) H4 fun y H5=>H5 D=some (.lst ys)/\ys.length<sizeLine/\CW xs.length fr (Pv D) (i+1) (ys++[y]) (some x::fr) (A0 H5 D (.lst (ys++[y])))
   else H4 D=some (.lst ys)/\CW xs.length fr (Pv D) (i+1) ys (some x::fr) H4)(hd:∀ D ys H,H1 D=none->Pv D xs.length ys H->H D=some (.lst ys)->ys.length<=xs.length->Q (.ref D) H):cC (bV K a) 1 ixs (gName 0) c te Y Q H1:=by
 intro D hD;refine ⟨xs.length,CW xs.length fr (Pv D),⟨G3 _,G3 _,⟨none,X8⟩,h0 D hD⟩,?_⟩;rintro i ys σ2 H2 ⟨hi,hy,⟨v,rfl⟩,p⟩ hDy;have q:=hl D i ys H2 hD hi p
 by_cases C4:i<xs.length
 .refine .inr ⟨C4,⟨xs,xs[i],q,by simp [C4]⟩,fun x H' y=>?_⟩;obtain ⟨e,y⟩:=y;subst e;exact hs D i x ys _ hD C4 (y xs q) p hDy hy
 .have e:i=xs.length:=by lia
  subst e;exact .inl ⟨⟨xs,q,A8 _⟩,hd D ys H2 hD p hDy hy⟩
theorem compS(fr:St)(X8:compStart 1 ixs Y=none::fr)(Pv:Addr->Nat->List V->Hp->Prop)(h0:∀ D,H1 D=none->Pv D 0 [] (A0 H1 D (.lst [])))(hs:∀ D i x ys H,H1 D=none->i<z.cps.size->z.cps.toList[i]?=some x->Pv D i ys H->H D=some (.lst ys)->ys.length<=i->c (some (.str ⟨#[x]⟩)::fr) H fun b H4=>
   if b=true then te (some (.str ⟨#[x]⟩)::fr) H4 fun y H5=>H5 D=some (.lst ys)/\ys.length<sizeLine/\CW z.cps.size fr (Pv D) (i+1) (ys++[y]) (some (.str ⟨#[x]⟩)::fr) (A0 H5 D (.lst (ys++[y])))
   else H4 D=some (.lst ys)/\CW z.cps.size fr (Pv D) (i+1) ys (some (.str ⟨#[x]⟩)::fr) H4)(hd:∀ D ys H,H1 D=none->Pv D z.cps.size ys H->H D=some (.lst ys)->ys.length<=z.cps.size->Q (.ref D) H):cC (gR z) 1 ixs (gName 0) c te Y Q H1:=by
 intro D hD;refine ⟨z.cps.size,CW z.cps.size fr (Pv D),⟨G3 _,G3 _,⟨none,X8⟩,h0 D hD⟩,?_⟩;rintro i ys σ2 H2 ⟨hi,hy,⟨v,rfl⟩,p⟩ hDy
 by_cases C4:i<z.cps.size
 .refine .inr ⟨C4,C4,fun x H' y=>?_⟩;obtain ⟨e,c,hc,rfl⟩:=y;subst e;exact hs D i c ys _ hD C4 hc p hDy hy
 .have e:i=z.cps.size:=by lia
  subst e;exact .inl ⟨A8 _,hd D ys H2 hD p hDy hy⟩
theorem compR(fr:St)(X8:compStart 1 ixs Y=none::fr)(Pv:Addr->Nat->List V->Hp->Prop)(h0:∀ D,H1 D=none->Pv D 0 [] (A0 H1 D (.lst [])))(hs:∀ D i ys H,H1 D=none->i<n->Pv D i ys H->H D=some (.lst ys)->ys.length<=i->c (some (.int (lo+i))::fr) H fun b H4=>
   if b=true then te (some (.int (lo+i))::fr) H4 fun y H5=>H5 D=some (.lst ys)/\ys.length<sizeLine/\CW n fr (Pv D) (i+1) (ys++[y]) (some (.int (lo+i))::fr) (A0 H5 D (.lst (ys++[y])))
   else H4 D=some (.lst ys)/\CW n fr (Pv D) (i+1) ys (some (.int (lo+i))::fr) H4)(hd:∀ D ys H,H1 D=none->Pv D n ys H->H D=some (.lst ys)->ys.length<=n->Q (.ref D) H):cC (i5 lo n) 1 ixs (gName 0) c te Y Q H1:=by
 intro D hD;refine ⟨n,CW n fr (Pv D),⟨G3 _,G3 _,⟨none,X8⟩,h0 D hD⟩,?_⟩;rintro i ys σ2 H2 ⟨hi,hy,⟨v,rfl⟩,p⟩ hDy
 by_cases C4:i<n
 .refine .inr ⟨C4,C4,fun x H' y=>?_⟩;obtain ⟨e,y⟩:=y;subst e y;exact hs D i ys _ hD C4 p hDy hy
 .have e:i=n:=by lia
  subst e;exact .inl ⟨A8 _,hd D ys H2 hD p hDy hy⟩
theorem D0{q:Addr}{o u:HO}(h:H p=some o)(n:H q=none):A0 H q u p=some o:=by rw [A3 (aA h n)];exact h
theorem Same.new{q:Addr}{u:HO}(n:H q=none):Same H (A0 H q u):=fun _ _ h=>D0 h n
theorem Same.put{q:Addr}{u:HO}(s:Same H0 H)(n:H0 q=none):Same H0 (A0 H q u):=fun b o h=>by rw [A3 (aA h n)];exact s b o h
end L2
set_option maxRecDepth 100000
namespace L2
open PySem PySem.Spec PyProof.Rows
theorem cxK{CX:Z9}{P:Program}{w:World}{base:Heap}{sc:Scope}{o:List Env}{E:XK} : (cxOf CX P w K mg base N q sc f cd A o s H E).K=K:=rfl
theorem cxKn : X.nox.K=X.K:=rfl
theorem cxKb{sc:Scope} : (M8 X sc N' C zw zt fp pins).K=X.K:=rfl
theorem cxC{CX:Z9}{P:Program}{w:World}{base:Heap}{sc:Scope}{o:List Env}{E:XK} : (cxOf CX P w K mg base N q sc f cd A o s H E).calm=true:=rfl
theorem cxCn : X.nox.calm=X.calm:=rfl
theorem cxCb{sc:Scope} : (M8 X sc N' C zw zt fp pins).calm=X.calm:=rfl
theorem iteD{c A B:Prop}[Decidable c](h1:c->A)(h2:¬ c->B):if decide c=true then A else B:=by
 by_cases h:c
 .rw [decide_eq_true h,if_pos rfl];exact h1 h
 .rw [decide_eq_false h,if_neg L5];exact h2 h
theorem iteN{c A B:Prop}[Decidable c](h1:¬ c->A)(h2:c->B):if (!decide c)=true then A else B:=by
 by_cases h:c
 .rw [decide_eq_true h];exact iteF (h2 h)
 .rw [decide_eq_false h];exact iteT (h1 h)
theorem N1(h:H p=some (.lst xs)):bY K "list" (.ref p) H:=.inl ⟨rfl,_,C7.of h⟩
theorem appOk{l:Addr}{y:V}(h:H l=some (.lst xs))(hz:xs.length<sizeLine)(q:Q .non (A0 H l (.lst (xs++[y])))):oC (.ref l) [y] H Q:=⟨l,xs,y,rfl,rfl,h,hz,q⟩
theorem clrOk{l:Addr}(h:H l=some (.lst xs))(q:Q .non (A0 H l (.lst []))):sG (.ref l) [] H Q:=⟨l,xs,rfl,rfl,h,q⟩
theorem G9(h:n<=1000000):n<sizeLine:=Nat.lt_of_le_of_lt h (by decide)
theorem i7(h:n<=1000000):n<=sizeLine:=dR (G9 h)
noncomputable def signB (c:Nat):Bool:=decide (33<=c)&&decide (c<=126)&&decide (c≠37)
noncomputable def SG:List Nat:=[33,34,35,36]++(P6 89).map (· + 38)
structure IsRows(H:Hp)(a:Addr)(rs:List Addr)(zss:List (List Str)):Prop where
 top:H a=some (.lst (rs.map V.ref))
 row:Paired (fun r (zs:List Str)=>H r=some (.lst (zs.map V.str))) rs zss
theorem IsRows.same{zss:List (List Str)}(R:IsRows H a rs zss)(s:Same H H'):IsRows H' a rs zss:=⟨s _ _ R.top,O4 R.row fun _ _ h=>s _ _ h⟩
theorem Paired.at{α β:Type}{F:α->β->Prop} : ∀ {l₁:List α} {l₂:List β} {i:Nat} {a:α},Paired F l₁ l₂->l₁[i]?=some a->∃ b,l₂[i]?=some b/\F a b
 | _,_,_,_,.nil,h=>by simp at h
 | _,_,0,_,.cons h t,e=>by simp at e;subst e;exact ⟨_,rfl,h⟩
 | _,_,i+1,_,.cons h t,e=>by
  obtain ⟨b,h1,h2⟩:=Paired.at (i:=i) t (by simpa using e);exact ⟨b,by simpa using h1,h2⟩
theorem sW:∀ zs:List Str,bS (zs.map PyData.str)=0
 | []=>rfl
 | z::zs=>by rw [K0,bS,sW zs,z0];rfl
theorem kH:∀ zs:List Int,bS (zs.map z8)=0
 | []=>rfl
 | z::zs=>by rw [K0,bS,kH zs,z0];rfl
theorem ahC(xs ys:List Str):U7 (.list (xs.map .str)) (.list (ys.map .str))=decide (xs=ys):=by rw [U7,adX]
noncomputable def dd (acc:List Str) (z:Str):List Str:=if z∈acc then acc else acc++[z]
noncomputable def J5 (acc zs:List Str):List Str:=zs.foldl dd acc
noncomputable def toldL (zss:List (List Str)):List Str:=zss.foldl J5 []
theorem kI(zs:List Str):∀ acc:List Str,(J5 acc zs).length<=acc.length+zs.length:=by
 induction zs with
 | nil=>intro acc;exact A8 _
 | cons z zs ih=>
  intro acc;have h1:=ih (dd acc z);have h2:(dd acc z).length<=acc.length+1:=by
   unfold dd
   split
   .lia
   .simp
  show (J5 (dd acc z) zs).length<=_;rw [K9];lia
theorem aln(h:zs[j]?=some z):J5 acc (zs.take (j+1))=dd (J5 acc (zs.take j)) z:=by
 rw [g4,h];simp [J5,y8]
theorem ajt{zss:List (List Str)}(h:zss[i]?=some zs):toldL (zss.take (i+1))=J5 (toldL (zss.take i)) zs:=by
 rw [g4,h];simp [toldL,y8]
theorem oM(zss:List (List Str)):∀ acc,zss.foldl J5 acc=J5 acc zss.flatten:=by
 induction zss with
 | nil=>intro acc;rfl
 | cons zs zss ih=>
  intro acc;rw [List.foldl_cons,ih,gE];unfold J5;rw [y8]
theorem kJ(zss:List (List Str)):(toldL zss).length<=zss.flatten.length:=by
 unfold toldL;rw [oM]
 have:=kI zss.flatten []
 simpa using this
noncomputable def kvOf (zs:List Str):List (C1×V):=zs.map fun z=>(Sum.inr z,V.bl true)
theorem sX(z:Str):∀ acc:List Str,((kvOf acc).any fun kv=>decide (kv.1=(Sum.inr z:C1)))=decide (z∈acc)
 | []=>by simp [kvOf]
 | y::acc=>by
  have ih:=sX z acc;unfold kvOf at ih ⊢
  rw [K0,u8,ih]
  by_cases e:y=z
  .subst e
   simp
  .have e1:decide ((Sum.inr y:C1)=Sum.inr z)=false:=decide_eq_false fun q=>e (Sum.inr.inj q)
   have e2:decide (z∈y::acc)=decide (z∈acc):=by
    by_cases h:z∈acc
    .rw [decide_eq_true h,decide_eq_true (L6 _ h)]
    .rw [decide_eq_false h,decide_eq_false];intro q
     rcases E5.mp q with q | q
     .exact e q.symm
     .exact h q
   rw [e2];simp only [e1,Bool.false_or]
theorem afY(acc:List Str)(z:Str):putK (kvOf acc) (Sum.inr z:C1) (.bl true)=kvOf (dd acc z):=by
 unfold putK dd;rw [sX]
 by_cases h:z∈acc
 .rw [decide_eq_true h,if_pos rfl,if_pos h];unfold kvOf;rw [V8];refine fZ fun y _=>?_
  show (if (Sum.inr y:C1)=Sum.inr z then ((Sum.inr y:C1),V.bl true) else (Sum.inr y,V.bl true))=_
  split <;> rfl
 .rw [decide_eq_false h,if_neg L5,if_neg h];unfold kvOf;rw [D9];rfl
theorem aju(acc:List Str):((kvOf acc).map fun kv=>kV kv.1)=acc.map V.str:=by
 unfold kvOf;rw [V8];rfl
theorem ahD(z:Str):∀ acc:List Str,bX (.str z) (acc.map V.str)=decide (z∈acc)
 | []=>by simp [bX]
 | y::acc=>by
  have ih:=ahD z acc;unfold bX at ih ⊢
  rw [K0,u8,ih];show ((y==z) || decide (z∈acc))=_
  by_cases e:y=z
  .subst e
   simp
  .have e1:(y==z)=false:=by simpa using e
   rw [e1,Bool.false_or]
   by_cases h:z∈acc
   .rw [decide_eq_true h,decide_eq_true (L6 _ h)]
   .rw [decide_eq_false h,decide_eq_false];intro q
    rcases E5.mp q with q | q
    .exact e q.symm
    .exact h q
theorem K1{α β:Type}{f:α->β}{l:List α}{y:β}(h:(l.map f)[i]?=some y):∃ x,l[i]?=some x/\y=f x:=by
 rw [L7] at h;cases e:l[i]? with
 | none=>rw [e] at h;cases h
 | some x=>rw [e] at h;exact ⟨x,rfl,(Option.some.inj h).symm⟩
noncomputable def SS:Str:=Str.ofString "!\"#$&'()*+,-./0123456789:;<=>?@ABCDEFGHIJKLMNOPQRSTUVWXYZ[\\]^_`"++Str.ofString "abcdefghijklmnopqrstuvwxyz{|}~"
theorem drawn{i:Int}(hx:∀ x∈xs,∃ n,x=V.int n)(h0:0<=i)(h1:i<xs.length):∃ n,L0 xs i=some (V.int n):=by
 obtain ⟨v,h2,h3⟩:=sU h0 h1;obtain ⟨n,rfl⟩:=hx v h3;exact ⟨n,h2⟩
theorem sY{α β:Type}{F:α->β->Prop}{a:α}{b:β} : ∀ {l₁:List α} {l₂:List β},Paired F (l₁++[a]) (l₂++[b])->Paired F l₁ l₂/\F a b
 | [],[],.cons h _=>⟨.nil,h⟩
 | [],y::l₂,h=>by
  have:=Paired.length h
  simp at this
 | x::l₁,[],h=>by
  have:=Paired.length h
  simp at this
 | x::l₁,y::l₂,.cons h t=>by
  obtain ⟨h1,h2⟩:=sY (l₁:=l₁) (l₂:=l₂) t;exact ⟨.cons h h1,h2⟩
theorem gS{α β:Type}{F G:α->β->Prop} : ∀ {l₁:List α} {l₂:List β},Paired F l₁ l₂->(∀ a∈l₁,∀ b,F a b->G a b)->Paired G l₁ l₂
 | _,_,.nil,_=>.nil
 | _,_,.cons h t,k=>.cons (k _ J9 _ h) (gS t fun a ha b hb=>k a (L6 _ ha) b hb)
structure RowsAt(H0 H:Hp)(a:Addr)(rs:List Addr)(zss:List (List Str)):Prop where
 rows:IsRows H a rs zss
 nd:(a::rs).Nodup
 new:∀ r∈a::rs,H0 r=none
 same:Same H0 H
theorem RowsAt.live{zss:List (List Str)}(R:RowsAt H0 H a rs zss)(h:r∈a::rs):∃ o,H r=some o:=by
 rcases E5.mp h with h | h
 .subst h;exact ⟨_,R.rows.top⟩
 .obtain ⟨i,hi,rfl⟩:=W8.mp h;obtain ⟨zs,_,h2⟩:=Paired.at R.rows.row (i:=i) (a:=rs[i]) (by simp [hi]);exact ⟨_,h2⟩
theorem afZ(x:Str)(lo hi:Option Int):(cutS x lo hi).cps.toList=(x.cps.toList.drop (HT.sIx x.length 0 lo)).take (HT.sIx x.length x.length hi-HT.sIx x.length 0 lo):=by
 unfold cutS
 simp
theorem anI(h:H p=some (.lst xs)):gQ H (.ref p)=some "list":=by unfold gQ;simp only [h]
end L2
set_option maxRecDepth 100000
namespace L2
open PySem PySem.Spec PyProof.Rows
structure QE(X:Cx)(e:Expr)(t:TE):Prop where
 out:PE X e t
structure QT(X:Cx)(e:Expr)(t:TT):Prop where
 out:PT X e t
structure QW(X:Cx)(e:Expr)(t:TT):Prop where
 out:PW X e t
structure QA(X:Cx)(es:List Expr)(t:TA):Prop where
 out:PA X es t
structure QS(X:Cx)(st:Stmt)(t:TS):Prop where
 out:PS X st t
structure QSs(X:Cx)(st:List Stmt)(t:TS):Prop where
 out:W1 X st t
structure QG(X:Cx)(tg:Expr)(t:TG):Prop where
 out:PG X tg t
structure QGs(X:Cx)(tg:List Expr)(t:i4):Prop where
 out:kB X tg t
structure QI(X:Cx)(tg iter:Expr)(wi:TI):Prop where
 out:PI X tg iter wi
structure QO(X:Cx)(e:Option Expr)(t:TO):Prop where
 out:PO X e t
structure QIfs(X:Cx)(ifs:List Expr)(t:TT):Prop where
 out:PIfs X ifs t
structure QOp(X:Cx)(f:Value->Value->Sem Value)(r:R2):Prop where
 out:G8 X f r
structure QUn(X:Cx)(f:Value->Sem Value)(r:V->Hp->VK->Prop):Prop where
 out:nX X f r
structure QCall(X:Cx)(f:Value)(r:List V->Hp->VK->Prop):Prop where
 out:CallR X f r
structure QMt(X:Cx)(id:String)(r:V->List V->Hp->VK->Prop):Prop where
 out:oB X id r
structure QIp(X:Cx)(op:Operator)(t:dX):Prop where
 out:rO X op t
structure QIn(X:Cx)(op:Operator)(t:V->V->Hp->VK->Prop):Prop where
 out:InOp X op t
section
variable {X:Cx} {a b c e o i value:Expr} {es:List Expr} {ta tb tc te to ti tv:TE} {tA tB':TT} {t u:TS} {tl:TA} {pos p pos' tpos:Pos} {rest:List Expr} {r r':R2} {x:Str}
theorem A5{i j} : QE X (.Constant (.int i) j pos) (tC (.int i)):=⟨zS⟩
theorem qe_bl{b j} : QE X (.Constant (.bool b) j pos) (tC (.bl b)):=⟨pe_bl⟩
theorem ami{j} : QE X (.Constant .none j pos) (tC .non):=⟨aot⟩
theorem L1{x j} : QE X (.Constant (.str x) j pos) (tC (.str x)):=⟨aou⟩
theorem qe_v(hN:X.N[n]?=some x)(hv:kA X.env.scope x)(hd:(x==("__debug__" : Str))=false)(P9:(x==("__classdict__" : Str))=false):QE X (.Name x pos) (tVar n):=⟨zR hN hv hd P9⟩
theorem qv(n:Nat)(hN:X.N[n]?=some x:=by rfl)(hv:kA X.env.scope x:=by first | exact Or.inl rfl | exact Or.inr (Or.inl rfl) | exact Or.inr (Or.inr rfl))(hd:(x==("__debug__" : Str))=false:=by decide)(P9:(x==("__classdict__" : Str))=false:=by decide):QE X (.Name x pos) (tVar n):=⟨zR hN hv hd P9⟩
theorem cD{i:Int}(h:∃ t,X.mg x=some (.int i t))(hg:Gl X x:=by rfl)(hd:(x==("__debug__" : Str))=false:=by decide):QE X (.Name x p) (tC (.int i)):=⟨ak8 h hg hd⟩
theorem oN{a:Addr}(h:X.mg x=some (.ref a))(hg:Gl X x:=by rfl)(hd:(x==("__debug__" : Str))=false:=by decide):QE X (.Name x p) (tC (.ref a)):=⟨ak9 h hg hd⟩
theorem qe_ty{n:String}(hm:X.mg x=none)(hv:bootBuiltins x=some (.type n))(hg:Gl X x:=by rfl)(hn:x≠"__name__":=by decide)(hd:(x==("__debug__" : Str))=false:=by decide):QE X (.Name x p) (tC (.ty n)):=⟨amG hg hm hv rfl hn hd⟩
theorem qe_op{op:Operator}(ho:QOp X (binaryOp op) r)(ha:QE X a ta)(hb:QE X b tb):QE X (.BinOp a op b pos) (m4 r ta tb):=⟨pe_op ho.out ha.out hb.out⟩
theorem qe_un{op:UnaryOp}{r:V->Hp->VK->Prop}(ho:QUn X (unaryOp op) r)(ha:QE X a ta):QE X (.UnaryOp op a pos) (rR r ta):=⟨pe_un ho.out ha.out⟩
theorem aqz{op}(ha:QE X a ta):QE X (.BoolOp op [a] pos) ta:=⟨aoy ha.out⟩
theorem aqA(ha:QE X a ta)(hb:QE X (.BoolOp .And (b::rest) pos) tb):QE X (.BoolOp .And (a::b::rest) pos) (tAndV ta tb):=⟨aoz ha.out hb.out⟩
theorem oO{op:CmpOp}(ho:QOp X (compareOp op) r)(ha:QE X a ta)(hb:QE X b tb)(hm:behindInMarks op b=false:=by first | exact amb _ | rfl):QE X (.Compare a [op] [b] pos) (m4 r ta tb):=⟨amQ ho.out ha.out hb.out hm⟩
theorem alo{op op':CmpOp}(ho:QOp X (compareOp op) r)(o3:QOp X (compareOp op') r')(ha:QE X a ta)(hb:QE X b tb)(hc:QE X c tc)(hm:lastMarks [op,op'] [b,c]=false:=by with_unfolding_all rfl):QE X (.Compare a [op,op'] [b,c] pos) (rT r r' ta tb tc):=⟨akK ho.out o3.out ha.out hb.out hc.out hm⟩
theorem sZ(hc:QT X c tA)(ha:QE X a ta)(hb:QE X b tb):QE X (.IfExp c a b pos) (rM tA ta tb):=⟨akE hc.out ha.out hb.out⟩
theorem A1:QA X [] tNil:=⟨aoV⟩
theorem qa_c(ha:QE X e te)(hr:QA X es tl)(h:K4 e=false:=by rfl):QA X (e::es) (tCons te tl):=⟨pa_c ha.out hr.out h⟩
theorem N2(h:QA X es tl):QE X (.List es pos) (tLst tl):=⟨aoX h.out⟩
theorem O6{x1}(h:QA X es tl):QE X (.Tuple es x1 pos) (tTup tl):=⟨aoW h.out⟩
theorem eF:QE X (.Dict [] [] pos) sM:=⟨ak0⟩
theorem i8:QO X none rZ:=⟨am0⟩
theorem O7(h:QE X e te):QO X (some e) (tPart te):=⟨am1 h.out⟩
theorem T8{lo hi:Option Expr}{tlo thi:TO}(he:QE X e te)(hl:QO X lo tlo)(hu:QO X hi thi)(hK:X.K=K:=by rfl):QE X (.Subscript e (.Slice lo hi none p2) pos) (sA (rSlU K) te tlo thi):=by subst hK;exact ⟨akT p_sl he.out hl.out hu.out⟩
theorem i9(hu:X.A.units+1<cLine)(ho:QE X o to)(hi:QE X i ti)(hs:NoSl i:=by exact fun _ _=>rfl):QE X (.Subscript o i pos) (tDGet to ti):=⟨am6 hu ho.out hi.out hs⟩
theorem qe_ix(ha:QE X a ta)(hb:QE X b tb)(hs:ajc b:=by exact fun _ _=>rfl)(hK:X.K=K:=by rfl):QE X (.Subscript a b pos) (m4 (eA K) ta tb):=by subst hK;exact ⟨pe_ix ao1 ha.out hb.out hs⟩
theorem qe_cB{id:String}{rc:List V->Hp->VK->Prop}(hc:QCall X (.builtin id) rc)(hm:X.mg x=none)(hv:bootBuiltins x=some (.builtin id))(ha:QA X (e::es) tl)(hg:Gl X x:=by rfl)(h1:K4 e=false:=by rfl)(h2:W4 es=true:=by rfl)(hn:x≠"__name__":=by decide)(Q7:(x==("__debug__" : Str))=false:=by decide) :
  QE X (.Call (.Name x p) (e::es) [] pos) (dZ rc tl):=⟨pe_cB hc.out hg hm hv ha.out h1 h2 hn Q7⟩
theorem qe_cT{T:String}{rc:List V->Hp->VK->Prop}(hc:QCall X (.type T) rc)(hm:X.mg x=none)(hv:bootBuiltins x=some (.type T))(ha:QA X (e::es) tl)(hg:Gl X x:=by rfl)(h1:K4 e=false:=by rfl)(h2:W4 es=true:=by rfl)(hn:x≠"__name__":=by decide)(Q7:(x==("__debug__" : Str))=false:=by decide) :
  QE X (.Call (.Name x p) (e::es) [] pos) (dZ rc tl):=⟨pe_cT hc.out hg hm hv ha.out h1 h2 hn Q7⟩
theorem qe_mB{T id:String}{rm:V->List V->Hp->VK->Prop}(pa:PlainAttrs T)(slot:Slot T name id)(V1:typeOf (.builtin id)=pure (.type "method_descriptor"))(hm:QMt X id rm)(ho:QE X o to)(ha:QA X (e::es) tl)(h1:K4 e=false:=by rfl)(h2:W4 es=true:=by rfl)(h3:decide ((e::es).length<30)=true:=by rfl)(G0:attributeBase o name X.env (eval o X.env)=eval o X.env:=by rfl)(G1:(apos.endLine==cpos.line)=true:=by rfl)(hK:X.K=K:=by rfl):QE X (.Call (.Attribute o name apos) (e::es) [] cpos) (gO K T rm to tl):=by subst hK;exact ⟨pe_mB pa slot V1 hm.out ho.out ha.out h1 h2 h3 G0 G1⟩
theorem qe_m0{T id:String}{rm:V->List V->Hp->VK->Prop}(pa:PlainAttrs T)(slot:Slot T name id)(V1:typeOf (.builtin id)=pure (.type "method_descriptor"))(hm:QMt X id rm)(ho:QE X o to)(G0:attributeBase o name X.env (eval o X.env)=eval o X.env:=by rfl)(G1:(apos.endLine==cpos.line)=true:=by rfl)(hK:X.K=K:=by rfl):QE X (.Call (.Attribute o name apos) [] [] cpos) (tBM0 K T rm to):=by subst hK;exact ⟨ao3 pa slot V1 hm.out ho.out G0 G1⟩
theorem F7(G:FO X.prog X.w X.K X.mg X.base k x ps dvs sp)(hr:Room k X.A)(ha:QA X (e::es) tl)(hg:Gl X x:=by rfl)(h1:K4 e=false:=by rfl)(h2:W4 es=true:=by rfl)(Q7:(x==("__debug__" : Str))=false:=by decide) :
  QE X (.Call (.Name x p) (e::es) [] pos) (tCall sp dvs E0 tl):=⟨ak7 G hr ha.out hg h1 h2 Q7⟩
theorem K2{op:CmpOp}(ho:QOp X (compareOp op) r)(ha:QE X a ta)(hb:QE X b tb)(hm:behindInMarks op b=false:=by first | exact amb _ | rfl):QT X (.Compare a [op] [b] pos) (tTest (m4 r ta tb)):=⟨amR ho.out ha.out hb.out hm⟩
theorem tD(ha:QT X a tA):QT X (.UnaryOp .Not a pos) (tNot tA):=⟨aox ha.out⟩
theorem kK(ha:QT X a tA):QW X (.BoolOp .And [a] pos) tA:=⟨amH ha.out⟩
theorem tE(ha:QT X a tA):QW X (.BoolOp .Or [a] pos) tA:=⟨aov ha.out⟩
theorem kL(ha:QT X a tA)(hb:QW X (.BoolOp .And (b::rest) pos) tB'):QW X (.BoolOp .And (a::b::rest) pos) (tAnd tA tB'):=⟨aow ha.out hb.out⟩
theorem qw_or(ha:QT X a tA)(hb:QW X (.BoolOp .Or (b::rest) pos) tB'):QW X (.BoolOp .Or (a::b::rest) pos) (rL tA tB'):=⟨pw_or ha.out hb.out⟩
theorem QW.pt(h:QW X a tA):QT X a tA:=⟨h.out.pt⟩
theorem Y5(ha:QE X a ta)(he:∀ whole,isTrue a X.env whole=(do let v <- whole;standAt a.pos;holding [v] (truthy v)):=by intro _;rfl)(hK:X.K=K:=by rfl):QT X a (tTru K ta):=by subst hK;exact ⟨aqb ha.out he⟩
variable {st:Stmt} {sts:List Stmt}
theorem M0:QSs X [] tNext:=⟨amI⟩
theorem B1(h:QS X st t):QSs X [st] t:=⟨amJ h.out⟩
theorem A6(h:QS X st t)(h2:QSs X sts u):QSs X (st::sts) (tSeq t u):=⟨akF h.out h2.out⟩
theorem E6(he:QE X e te):QS X (.Return (some e) pos) (tRet te):=⟨aoB he.out⟩
theorem oP:QS X st rN:=⟨akG⟩
theorem E1(hN:X.N.Nodup)(hi:X.N[n]?=some x)(hx:m3 X.env.scope x)(he:QE X e te)(hs:swapsWith e (some (.Name x pos')) pos.line X.env=pure false:=by rfl)(hf:X.fn x=true:=by rfl):QS X (.Assign [.Name x pos'] e pos) (tAsg te (gName n)):=⟨aoF hN hi hx he.out hs (.inl hf)⟩
theorem gT{f:Str}(ho:QE X o to)(hv:QE X value tv)(hs:swapsWith value (some (.Attribute o f pos')) pos.line X.env=pure false:=by rfl)(hK:X.K=K:=by rfl):QS X (.Assign [.Attribute o f pos'] value pos) (sFld K to tv f):=by subst hK;exact ⟨aoS ho.out hv.out hs⟩
theorem aG{f:Str}(ho:QE X o to)(hb:attributeBase o f X.env (eval o X.env)=eval o X.env:=by rfl)(hK:X.K=K:=by rfl):QE X (.Attribute o f pos) (tFld K to f):=by subst hK;exact ⟨aoR ho.out hb⟩
theorem aH(hu:X.A.units+1<cLine)(ho:QE X o to)(hi:QE X i ti)(hv:QE X value tv)(hs:swapsWith value (some (.Subscript o i pos')) pos.line X.env=pure false:=by rfl):QS X (.Assign [.Subscript o i pos'] value pos) (sDPut to ti tv):=⟨am7 hu ho.out hi.out hv.out hs⟩
theorem ajx{op:Operator}{rd:V->V->Hp->VK->Prop}(hu:X.A.units+1<cLine)(ho:QE X o to)(hi:QE X i ti)(hv:QE X value tv)(xA:QIn X op rd)(ha:∀ ov iv new,augStore i ov iv new=(do holding [new,ov,iv] (setItem ov iv new);release [new,ov,iv] [];pure .next):=by exact fun _ _ _=>rfl) :
  QS X (.AugAssign (.Subscript o i tpos) op value pos) (sDAug to ti tv rd):=⟨am8 hu ho.out hi.out hv.out xA.out ha⟩
theorem amj(he:QE X e te)(hg:QG X tg g)(hs:swapsWithSole [tg] e pos.line X.env=pure false:=by rfl)(hw:swappedStores [tg] e X.env=pure none:=by rfl)(h1:(assignEach [tg] X.env).map (·.2)=[assign tg X.env]:=by rfl):QS X (.Assign [tg] e pos) (tAsg te g):=⟨aoE he.out hg.out hs hw h1⟩
theorem amk{op:Operator}{tip:dX}(hN:X.N.Nodup)(hi:X.N[n]?=some x)(hx:m3 X.env.scope x)(he:QE X e te)(ho:QIp X op tip)(hf:X.fn x=true:=by rfl):QS X (.AugAssign (.Name x pos') op e pos) (tAug n te tip):=⟨aoG hN hi hx he.out ho.out (.inl hf)⟩
theorem N3(he:QE X e te)(hs:swapsWith e none pos.line X.env=pure false:=by rfl):QS X (.Expr e pos) (tDrop te):=⟨amK he.out hs⟩
theorem qs_if{sa sb:List Stmt}(hc:QT X c tA)(ha:QSs X sa t)(hb:QSs X sb u):QS X (.If c sa sb pos) (tIfS tA t u):=⟨ps_if hc.out ha.out hb.out⟩
theorem tF{body:List Stmt}(hp:PassesOwn (model X.prog X.w) X.A X.env X.xe)(hc:QT X c tA)(hb:QSs X body t):QS X (.While c body [] pos) (nW tA t):=⟨akI hp hc.out hb.out⟩
theorem O0{body:List Stmt}{wi:TI}(hp:PassesOwn (model X.prog X.w) X.A X.env X.xe)(hi:QI X tg iter wi)(hg:QG X tg g)(hb:QSs X body t)(hc:X.calm=true:=by rfl)(hs:∀ x,foldedSetIterable iter X.env x=pure x:=by intro _;rfl):QS X (.For tg iter body [] pos) (tFor wi g t):=⟨aoJ hp hc hi.out hg.out hb.out hs⟩
theorem D7(hN:X.N.Nodup)(hi:X.N[n]?=some x)(hx:m3 X.env.scope x)(hf:X.fn x=true\/X.env.scope.names.lookup x=some .local:=by first | exact .inl rfl | exact .inr rfl | assumption):QG X (.Name x pos) (gName n):=⟨amL hN hi hx hf⟩
theorem cE:QGs X [] gNil:=⟨amM⟩
theorem R8{gs:i4}(h1:QG X e g)(h2:QGs X es gs)(hs:(assignEach (e::es) X.env).map (·.2)=assign e X.env::(assignEach es X.env).map (·.2):=by rfl):QGs X (e::es) (gCons g gs):=⟨akH h1.out h2.out hs⟩
theorem cF{gs:i4}(h:QGs X es gs)(hc:X.calm=true:=by rfl)(hn:(assignEach es X.env).length=n:=by rfl)(X6:(assignEach es X.env).findIdx? (·.1)=none:=by rfl)(hK:X.K=K:=by rfl):QG X (.Tuple es k pos) (gTup K n gs):=by subst hK;exact ⟨aoC hc h.out hn X6⟩
variable {tg:Expr}
theorem O5(h:QE X e te)(hK:X.K=K:=by rfl):QI X tg e (iList K te):=by subst hK;exact ⟨amN h.out⟩
theorem eG(h:QE X e te)(hK:X.K=K:=by rfl):QI X tg e (iTup K te):=by subst hK;exact ⟨aoI h.out⟩
theorem aml(h:QE X e te):QI X tg e (iStr te):=⟨aqh h.out⟩
theorem qi_r1(hm:X.mg "range"=none)(ha:QA X [a] tl)(hg:Gl X "range":=by rfl)(h1:K4 a=false:=by rfl):QI X tg (.Call (.Name "range" p) [a] [] pos) (iRng1 tl):=⟨pi_r1 hg hm ha.out h1⟩
theorem qi_r2(hm:X.mg "range"=none)(ha:QA X [a,b] tl)(hg:Gl X "range":=by rfl)(h1:K4 a=false:=by rfl)(h2:K4 b=false:=by rfl):QI X tg (.Call (.Name "range" p) [a,b] [] pos) (iRng2 tl):=⟨pi_r2 hg hm ha.out h1 h2⟩
theorem b8:QIfs X [] tYes:=⟨ak3⟩
theorem kM(h:QT X c tA):QIfs X [c] tA:=⟨ak4 h.out⟩
variable {sc:Scope} {N':List Str} {k:Nat} {ixs:List Nat} {ifs:List Expr} {wi:TI} {g:TG} {elt:Expr}
theorem Y6(C:CompOk X.N X.env.scope.names sc N' k ixs)(hi:QI X tg e wi)(hg:∀ C zw zt fp pins,QG (M8 X sc N' C zw zt fp pins) tg g)(hc:∀ C zw zt fp pins,QIfs (M8 X sc N' C zw zt fp pins) ifs tA)(he:∀ C zw zt fp pins,QE (M8 X sc N' C zw zt fp pins) elt te)(M5:X.calm=true:=by rfl)(hs:∀ x,foldedSetIterable e X.env x=pure x:=by intro _;rfl):QE X (.ListComp elt [⟨tg,e,ifs,0⟩] sc pos) (tComp wi k ixs g tA te):=
 ⟨ana C M5 hi.out (fun _ _ _ _ _=>(hg _ _ _ _ _).out) (fun _ _ _ _ _=>(hc _ _ _ _ _).out) (fun _ _ _ _ _=>(he _ _ _ _ _).out) hs⟩
theorem oQ(hN:X.N.Nodup)(hiN:X.N[n]?=some x)(hx:m3 X.env.scope x)(C:CompOk X.N X.env.scope.names sc N' k ixs)(hi:QI X tg e wi)(hg:∀ C zw zt fp pins,QG (M8 X sc N' C zw zt fp pins) tg g)(hc:∀ C zw zt fp pins,QIfs (M8 X sc N' C zw zt fp pins) ifs tA)(he:∀ C zw zt fp pins,QE (M8 X sc N' C zw zt fp pins) elt te)(xB:swapsWith (.ListComp elt [⟨tg,e,ifs,0⟩] sc pos) (some (.Name x pos')) spos.line X.env=pure true:=by rfl)(M5:X.calm=true:=by rfl)(hf:X.fn x=true:=by rfl)(hs:∀ x,foldedSetIterable e X.env x=pure x:=by intro _;rfl) :
  QS X (.Assign [.Name x pos'] (.ListComp elt [⟨tg,e,ifs,0⟩] sc pos) spos) (tAsg (tComp wi k ixs g tA te) (gName n)):=
 ⟨aij hN hiN hx C M5 hi.out (fun _ _ _ _ _=>(hg _ _ _ _ _).out) (fun _ _ _ _ _=>(hc _ _ _ _ _).out) (fun _ _ _ _ _=>(he _ _ _ _ _).out) xB (.inl hf) hs⟩
theorem q_add(hK:X.K=K:=by rfl):QOp X (binaryOp .Add) (rAddU K):=by subst hK;exact ⟨p_add⟩
theorem q_sub:QOp X (binaryOp .Sub) (v6 fun i j=>.int (i-j)):=⟨p_sub⟩
theorem q_mul:QOp X (binaryOp .Mult) rMulU:=⟨p_mul⟩
theorem m5:QOp X (binaryOp .FloorDiv) (rI CDiv fun i j=>.int (i / j)):=⟨aqc⟩
theorem q_mod:QOp X (binaryOp .Mod) (rI (fun _ j=>0<j) fun i j=>.int (i % j)):=⟨p_mod⟩
theorem q_eq(hu:X.A.units+64<cLine)(hK:X.K=K:=by rfl):QOp X (compareOp .Eq) (rEqU K):=by subst hK;exact ⟨p_eq hu⟩
theorem q_ne(hu:X.A.units+64<cLine)(hK:X.K=K:=by rfl):QOp X (compareOp .NotEq) (rNeU K):=by subst hK;exact ⟨p_ne hu⟩
theorem q_lt:QOp X (compareOp .Lt) rLtU:=⟨p_lt⟩
theorem q_le:QOp X (compareOp .LtE) rLeU:=⟨p_le⟩
theorem q_gt:QOp X (compareOp .Gt) rGtU:=⟨p_gt⟩
theorem q_in(hu:X.A.units+64<cLine)(hK:X.K=K:=by rfl):QOp X (compareOp .In) (rInU K false):=by subst hK;exact ⟨p_in hu⟩
theorem ajy(hu:X.A.units+64<cLine)(hK:X.K=K:=by rfl):QOp X (compareOp .NotIn) (rInU K true):=by subst hK;exact ⟨anb hu⟩
theorem q_isN:QOp X (compareOp .Is) (fun x y H Q=>y=.non/\Q (.bl (decide (x=.non))) H):=⟨aoP⟩
theorem q_neg:QUn X (unaryOp .USub) (rU fun i=>.int (-i)):=⟨aoO⟩
theorem q_len(hK:X.K=K:=by rfl):QCall X (.builtin "len") (rLenU K):=by subst hK;exact ⟨p_len⟩
theorem q_isi:QCall X (.builtin "isinstance") rIsi:=⟨ak5⟩
theorem q_ord:QCall X (.builtin "ord") rOrd:=⟨p_ord⟩
theorem gU(hK:X.K=K:=by rfl)(mC:X.calm=calm:=by rfl):QCall X (.type "list") (sS K calm):=by subst hK;subst mC;exact ⟨aqf⟩
theorem T9:QMt X "list.append" oC:=⟨fun pins s Y H x xs v us Q I rx rv h=>afR pins s Y H x xs v us Q I rx rv h⟩
theorem anJ:QMt X "list.clear" sG:=⟨fun pins s Y H x xs v us Q I rx rv h=>akX pins s Y H x xs v us Q I rx rv h⟩
theorem ajz:QMt X "list.reverse" ahy:=⟨fun pins s Y H x xs v us Q I rx rv h=>aii pins s Y H x xs v us Q I rx rv h⟩
theorem oR:QMt X "list.extend" sF:=⟨fun pins s Y H x xs v us Q I rx rv h=>aje pins s Y H x xs v us Q I rx rv h⟩
theorem amm:QIp X .Add (rP fun i j=>i+j):=⟨aoH⟩
theorem aqB:QIn X .Add rAdd:=⟨aoT⟩
theorem aqC:QIn X .Sub rSub:=⟨aoU⟩
end
end L2
set_option maxRecDepth 100000
namespace L2
open PySem PySem.Spec PyProof.Rows
noncomputable def ModD (P:Program) (w:World) (K:PySem.W.Frag) (a:Addr) (kvs:List (C1×V)):Prop:=(a==sysModules)=false/\∀ h:Heap,K.In h->∃ vs,KV kvs vs/\h.DictOf (N9 P w) a vs
noncomputable abbrev ModE (w:World):List DictEntry->List (C1×V)->Prop:=Paired fun e kv=>keyIs kv.1 e.key=true/\e.hash=keyH w kv.1/\RelV kv.2 e.val
theorem ModE.pairs{P:Program}{w:World} : ∀ {es:List DictEntry} {kvs:List (C1×V)},ModE w es kvs->∃ vs:List (C1×Value),KV kvs vs/\Pairs (N9 P w) es vs/\(∀ e∈es,∃ k,(N9 P w).is k e.key=true/\e.hash=(N9 P w).hash k)/\vs.map (·.1)=kvs.map (·.1)
 | _,_,.nil=>⟨[],.nil,.nil,fun e h=>(nomatch h),rfl⟩
 | e::es,kv::kvs,.cons ⟨h1,h2,h3⟩ t=>by
  obtain ⟨vs,a1,a2,a3,a4⟩:=ModE.pairs (P:=P) t;refine ⟨(kv.1,e.val)::vs,.cons ⟨rfl,h3⟩ a1,.cons h1 rfl a2,fun e' he=>?_,by rw [K0,K0,a4]⟩
  rcases E5.mp he with z | z
  .rw [z];exact ⟨kv.1,h1,h2⟩
  .exact a3 e' z
theorem anK{P:Program}{w:World}{es:Array DictEntry}{ep:Nat}(l:K.lookup a=some { cls:=.type "dict",dict:=none,data:=.dict es ep,slots:=#[] })(hs:(a==sysModules)=false)(he:ModE w es.toList kvs)(hn:(kvs.map (·.1)).Nodup):ModD P w K a kvs:=by
 refine ⟨hs,fun h X=>?_⟩;obtain ⟨vs,a1,a2,a3,a4⟩:=he.pairs (P:=P);exact ⟨vs,a1,_,es,ep,X a _ l,⟨rfl,rfl,rfl⟩,rfl,fun e h=>a3 e (Array.mem_toList_iff.mpr h),a2,by rw [a4];exact hn⟩
noncomputable def rInM (neg:Bool) (a:Addr) (kvs:List (C1×V)):R2:=fun x y H Q=>y=.ref a/\∃ k,x=kV k/\Q (.bl (neg.xor (valV kvs k).isSome)) H
noncomputable def amn (a:Addr) (kvs:List (C1×V)) (to ti:TE):TE:=fun Y H Q=>to Y H fun x H1=>ti Y H1 fun y H2=>x=.ref a/\∃ k v,y=kV k/\valV kvs k=some v/\Q v H2
section
variable {X:Cx} {a:Addr} {kvs:List (C1×V)} {o i:Expr} {to ti:TE} {pos:Pos}
theorem q_inM(M:ModD X.prog X.w X.K a kvs):QOp X (compareOp .In) (rInM false a kvs):=⟨by
 intro pins s Y H x y v u Q I rx ry h;obtain ⟨rfl,k,rfl,q⟩:=h;obtain rfl:u=Value.ref a:=ry;obtain ⟨hd,M⟩:=M;obtain ⟨vs,rel,dd⟩:=M s.heap I.kIn;refine wpAny_in_of (kV_is rx) hd dd.mapOf ?_;rw [<- (rel.val k).isSome_eq];exact ⟨.bl _,H,I.tok _,rfl,by simpa using q⟩⟩
theorem ahE(M:ModD X.prog X.w X.K a kvs)(ho:QE X o to)(hi:QE X i ti)(hs:NoSl i:=by exact fun _ _=>rfl):QE X (.Subscript o i pos) (amn a kvs to ti):=⟨by
 intro pins s Y H Q I h;refine ajj PySem.F.slot_dict_getitem.lookup hs (A9 (ho.out pins s Y H _ I h) fun u s1 ⟨x,H1,I1,rx,q1⟩=>A9 (hi.out pins s1 Y H1 _ I1 q1) fun iv s2 ⟨y,H2,I2,ry,ex,k,v,ey,l,q2⟩=>?_);subst ex ey;obtain rfl:u=Value.ref a:=rx;obtain ⟨hd,M⟩:=M;obtain ⟨vs,rel,dd⟩:=M s2.heap I2.kIn;obtain ⟨w',hw,rw'⟩:=nY (v:=v) (o:=valueAt vs k) (by rw [<- l];exact rel.val k);exact ⟨dd.typeIs,wpAny_getItem_of (kV_is ry) dd.mapOf hw ⟨v,H2,I2.tok _,rw',q2⟩⟩⟩
end
theorem amo{k:C1} : (V.str z=kV k)=(k=Sum.inr z):=by
 cases k with
 | inl i=>exact propext ⟨fun h=>(by cases h),fun h=>(by cases h)⟩
 | inr x=>exact propext ⟨fun h=>(by cases h;rfl),fun h=>(by cases h;rfl)⟩
theorem aqD : rInM neg a kvs (.str z) (.ref b) H Q=(V.ref b=V.ref a/\Q (.bl (neg.xor (valV kvs (Sum.inr z)).isSome)) H):=by
 unfold rInM;simp only [amo,exists_eq_left]
theorem alp : amn a kvs to ti Y H Q=to Y H fun x H1=>ti Y H1 fun y H2=>x=.ref a/\∃ k v,y=kV k/\valV kvs k=some v/\Q v H2:=rfl
noncomputable def ajA (c:TT) (tb:TS) (D:Ends) (Y:St) (H:Hp):Prop:=nW c tb D Y H
theorem alq : nW c tb D Y H=ajA c tb D Y H:=rfl
theorem tG(Pv:Nat->St->Hp->Prop)(m:Nat)(h0:Pv m Y H)(hs:∀ m Y H,Pv m Y H->c Y H fun b H1=>if b=true then ∃ N:St->Hp->Prop,(∀ σ' H',N σ' H'->∃ m',m'<m/\Pv m' σ' H')/\tb { D with nx:=N,ct:=N,bk:=D.nx } Y H1 else D.nx Y H1):ajA c tb D Y H:=⟨Pv,⟨m,h0⟩,hs⟩
noncomputable def rTupR (K:PySem.W.Frag) (p:Addr) (H:Hp) (Q:VK):Prop:=∃ ys,(C7 K H p ys/\∀ l,H l=none->Q (.ref l) (A0 H l (.tup ys)))\/(C6 K H p ys/\Q (.ref p) H)
theorem rTupR.l(h1:C7 K H p ys)(h:∀ l,H l=none->Q (.ref l) (A0 H l (.tup ys))):rTupR K p H Q:=⟨ys,.inl ⟨h1,h⟩⟩
noncomputable def rTupU (K:PySem.W.Frag):List V->Hp->VK->Prop
 | [.ref p],H,Q=>rTupR K p H Q
 | _,_,_=>False
theorem tup_r : rTupU K [.ref p] H Q=rTupR K p H Q:=rfl
theorem tH(hK:X.K=K:=by rfl):QCall X (.type "tuple") (rTupU K):=by
 subst hK;refine ⟨fun pins s Y H xs us Q I r h=>?_⟩
 match xs,h with
 | [.ref p],⟨ys,h⟩=>exact ae7 pins s Y H _ us Q I r ⟨p,ys,rfl,h⟩
noncomputable def rMin:List V->Hp->VK->Prop:=fun xs H Q=>∃ i j,xs=[.int i,.int j]/\Q (.int (if j<i then j else i)) H
noncomputable def rMax:List V->Hp->VK->Prop:=fun xs H Q=>∃ i j,xs=[.int i,.int j]/\Q (.int (if j > i then j else i)) H
theorem aqE{i j:Int} : rMin [.int i,.int j] H Q=Q (.int (if j<i then j else i)) H:=propext ⟨fun ⟨_,_,e,q⟩=>(by cases e;exact q),fun q=>⟨_,_,rfl,q⟩⟩
theorem aqF{i j:Int} : rMax [.int i,.int j] H Q=Q (.int (if j > i then j else i)) H:=propext ⟨fun ⟨_,_,e,q⟩=>(by cases e;exact q),fun q=>⟨_,_,rfl,q⟩⟩
noncomputable def rCalm (calm:Bool) (r:List V->Hp->VK->Prop):List V->Hp->VK->Prop:=fun xs H Q=>calm=true/\r xs H Q
theorem q_min(hc:X.calm=calm:=by rfl):QCall X (.builtin "min") (rCalm calm rMin):=⟨fun pins s Y H xs us Q I r h=>ai3 (hc.trans h.1) pins s Y H xs us Q I r h.2⟩
theorem anL{r:List V->Hp->VK->Prop} : rCalm true r xs H Q=r xs H Q:=propext ⟨fun h=>h.2,fun h=>⟨rfl,h⟩⟩
end L2
set_option maxRecDepth 100000
namespace L2
open PySem PySem.Spec PyProof.Rows
open PySem.Builtin PySem.Builtin.Str PySem.StrLaws
noncomputable def tSeqM (t u:TS):TS:=fun D Y H=>∃ M:St->Hp->Prop,t { D with nx:=M } Y H/\∀ σ' H',M σ' H'->u D σ' H'
theorem eI{rest:List Stmt}{t u:TS}(h1:QS X st t)(h2:QSs X rest u):QSs X (st::rest) (tSeqM t u):=⟨by
 intro pins s Y H D I h;obtain ⟨M,h,hm⟩:=h;refine wpAny_execs_cons (A9 (h1.out pins s Y H { D with nx:=M } I h) fun f s1 q=>?_)
 cases f with
 | next=>
  obtain ⟨σ',H',I',q⟩:=q;exact h2.out pins s1 σ' H' D I' (hm _ _ q)
 | ret v=>exact q
 | brk=>exact q
 | cont=>exact q⟩
theorem aI{t u:TS}(M:St->Hp->Prop)(h:t { D with nx:=M } Y H)(h2:∀ σ' H',M σ' H'->u D σ' H'):tSeqM t u D Y H:=⟨M,h,h2⟩
theorem tI(h:H p=some (.lst xs)):TruV K (.ref p) H (!xs.isEmpty):=.inl ⟨xs,.of h,rfl⟩
theorem eJ(xs:List V)(k:Nat):cutV xs (some (k:Int)) none=xs.drop k:=by
 unfold cutV;have e1:HT.sIx xs.length 0 (some (k:Int))=min k xs.length:=by unfold HT.sIx;simp;lia
 have e2:HT.sIx xs.length xs.length none=xs.length:=rfl;rw [e1,e2,t7 (by rw [t8];exact A8 _)]
 by_cases h:k<=xs.length
 .rw [dQ h]
 .rw [Nat.min_eq_right (by lia),jL (A8 _),jL (by lia)]
theorem kN(xs:List V)(k:Nat):cutV xs none (some (k:Int))=xs.take k:=by
 unfold cutV;have e1:HT.sIx xs.length xs.length (some (k:Int))=min k xs.length:=by unfold HT.sIx;simp;lia
 have e2:HT.sIx xs.length 0 none=0:=rfl;rw [e1,e2,List.drop_zero,Nat.sub_zero]
 by_cases h:k<=xs.length
 .rw [dQ h]
 .rw [Nat.min_eq_right (by lia),t7 (A8 _),t7 (by lia)]
theorem af1(x:V)(xs:List V):cutV (x::xs) (some 1) none=xs:=eJ (x::xs) 1
theorem Y7{α:Type}(x:α)(xs:List α):L0 (x::xs) 0=some x:=by
 have e:X3 (x::xs).length 0=some 0:=by unfold X3;rw [if_pos (bU 0),if_pos (by rw [K9];lia)];rfl
 unfold L0;rw [e];rfl
theorem ahF{o f:Expr}(hu:X.A.units+1<cLine)(ho:QE X o td)(he:QE X e ty)(hf:QE X f tx)(h1:K4 e=false:=by rfl)(h2:K4 f=false:=by rfl)(G0:attributeBase o "get" X.env (eval o X.env)=eval o X.env:=by rfl)(G1:(apos.endLine==cpos.line)=true:=by rfl):QE X (.Call (.Attribute o "get" apos) [e,f] [] cpos) (sP td ty tx):=
 ⟨ak2 hu ho.out he.out hf.out ⟨G0,by rw [M9 h1,M9 h2];rfl,G1,by rw [M9 h1,M9 h2];rfl⟩⟩
theorem anM{trs:List (TE×TE)} : tDisp trs Y H Q=∀ p,H p=none->gP trs Y (A0 H p (.dK [])) fun ps H2=>H2 p=some (.dK [])/\∃ kvs:List (C1×V),ps=kvs.map (fun kv=>(kV kv.1,kv.2))/\kvs.length<=15/\Q (.ref p) (A0 H2 p (.dK (W3 [] kvs))):=rfl
theorem anN{Q:List (V×V)->Hp->Prop} : gP [] Y H Q=Q [] H:=rfl
theorem alr{tk tv:TE}{r:List (TE×TE)}{Q:List (V×V)->Hp->Prop} : gP ((tk,tv)::r) Y H Q=tk Y H fun x H1=>tv Y H1 fun y H2=>gP r Y H2 fun ps H3=>Q ((x,y)::ps) H3:=rfl
theorem als : sP td ty tx Y H Q=td Y H fun x H1=>∃ a,x=.ref a/\aF H1 a/\ty Y H1 fun y H2=>tx Y H2 fun z H3=>∃ o,DGet H3 a y o/\Q (o.getD z) H3:=rfl
end L2
set_option maxRecDepth 100000
namespace L2
open PySem PySem.Spec PyProof.Rows
theorem acz:entryFor table "dict.update.loop"=some Builtin.«dict.update.loop»:=entryFor_of_tree (by kernel_rfl)
theorem oS:plainId "dict.update.loop"=true:=by decide +kernel
section
variable {prog:Program} {w:World} {A:Around} {R:Result->Shared->Prop} {I:Addr} {fp wr:List Addr} {G:Array GenState->Array GenState->Prop} {n:Nat} {P:Nat->Value->Prop} {St:Nat->Shared->Prop}
variable {K:Type} [DecidableEq K] {knd:KeyKind prog w K}
noncomputable def m6 (ks:Nat->K) (vl:Nat->Value):Nat->List (K×Value)
 | 0=>[]
 | i+1=>stored (m6 ks vl i) (ks i) (vl i)
theorem ad2(ks:Nat->K)(vl:Nat->Value):∀ i,(m6 ks vl i).length<=i
 | 0=>A8 _
 | i+1=>by
  have h1:=ad2 ks vl i;have h2:(stored (m6 ks vl i) (ks i) (vl i)).length<=(m6 ks vl i).length+1:=by
   unfold stored
   split
   .rw [A4];lia
   .rw [C8];exact A8 _
  show (stored (m6 ks vl i) (ks i) (vl i)).length<=i+1;lia
theorem ajC(W:WalksS prog w A.in1 I fp wr G n P St)(d:Addr)(x9:d∉fp)(tp:Nat->Addr)(ky vl:Nat->Value)(ks:Nat->K)(hP:∀ i v,P i v->v=.ref (tp i))(hk:∀ i,i<n->knd.is (ks i) (ky i)=true)(ht:∀ i,i<n->tp i≠d/\tp i∉wr)(hn:n<=sizeLine) :
  ∀ (k i:Nat) (s:Shared) (j:Int) (t:Tok),n-i=k->i<=n->St i s->(∀ i,i<n->IsTup s.heap (tp i) #[ky i,vl i])->s.heap.DictOf knd d (m6 ks vl i)->
   (∀ s',Moved (d::wr) G s s'->s'.heap.DictOf knd d (m6 ks vl n)->R (.ok (.ret .none)) s')->
   codeAny (model prog w) A (.builtin "dict.update.loop" ⟨[.ref d,.ref I,.int j t,.none],[]⟩) R s:=by
 have hdw:d∉wr:=fun h=>x9 (W.sub _ h)
 have o7:∀ b∈wr,b∈d::wr:=fun b hb=>L6 _ hb
 intro k
 induction k with
 | zero=>
  intro i s j t fE hi X6 hT hD hR;have K6:i=n:=by lia
  subst K6;refine codeAny_builtin acz ?_;rw [Around.under_plainId oS _];show wpAny _ A.in1 (pyNext (.ref I) >>= _) _ _ s;refine wpAny_bind (W.done s _ _ X6 fun s' hm=>?_);have e0:Builtin.Dict.addKeywords d []=pure ():=rfl;show wpAny _ A.in1 (Builtin.Dict.addKeywords d [] >>= fun _=>ret Value.none) _ _ s';rw [e0];refine wpAny_bind (wpAny_pure (wpAny_pure (hR s' (hm.mono o7) ?_)));obtain ⟨o,es,ep,ho,rest⟩:=hD;exact ⟨o,es,ep,hm.heap d _ hdw ho,rest⟩
 | succ k ih=>
  intro i s j t fE hi X6 hT hD hR;have C4:i<n:=by lia
  refine codeAny_builtin acz ?_;rw [Around.under_plainId oS _];show wpAny _ A.in1 (pyNext (.ref I) >>= _) _ _ s;refine wpAny_bind (W.item i s _ _ C4 X6 fun v s' hv xD hm=>?_);obtain rfl:=hP i v hv;have hD':s'.heap.DictOf knd d (m6 ks vl i):=by
   obtain ⟨o,es,ep,ho,rest⟩:=hD;exact ⟨o,es,ep,hm.heap d _ hdw ho,rest⟩
  have hT':∀ i,i<n->IsTup s'.heap (tp i) #[ky i,vl i]:=fun i hi=>by
   obtain ⟨o,ho,rest⟩:=hT i hi;exact ⟨o,hm.heap _ _ (ht i hi).2 ho,rest⟩
  have hTi:=hT' i C4;obtain ⟨o,ho,wS,n0,qJ⟩:=id hTi;refine wpAny_bind (wpAny_holding (wpAny_bind (wpAny_tryCatch ?_)));unfold Builtin.Dict.pairItems;refine wpAny_bind (wpAny_typeOf hTi.typeIs ?_);rw [if_pos (by decide)];refine wpAny_bind (wpAny_seqItems ho qJ ?_);refine wpAny_pure ?_;show wpAny _ _ (holding [ky i,vl i] (dictSet d (ky i) (vl i))) _ _ s';have hl:=ad2 ks vl i;refine wpAny_holding (wpAny_dictSet_pairs (hk i C4) hD' (fun h' hD2 iR=>?_) (by lia));refine wpAny_pure ⟨plainId_quiet oS _,ih (i+1) _ (j+1) 0 (by lia) C4 (W.frame _ s' _ _ xD (Nat.le_succ _) fun b hb o e=>?_) (fun i hi=>?_) hD2 fun s'' hm'' hD''=>?_⟩
  .rw [iR.2 b (fun h:b=d=>x9 (by rw [<- h];exact hb))];exact e
  .obtain ⟨o,ho,rest⟩:=hT' i hi;exact ⟨o,(iR.2 _ (ht i hi).1).trans ho,rest⟩
  .refine hR s'' (Moved.trans W.gtrans ((hm.mono o7).then_heap (Nat.le_succ _) fun b o hb e=>?_) hm'') hD'';rw [iR.2 b (fun h:b=d=>hb (by rw [h];exact J9))];exact e
end
theorem aik:typeLookup (.type "list") "__getattribute__"=pure (some (.builtin "list.__getattribute__")):=by rw [typeLookup_type,builtinLookup_eq_fast];kernel_rfl
theorem af2:typeLookup (.type "list") "keys"=pure none:=by rw [typeLookup_type,builtinLookup_eq_fast];kernel_rfl
theorem af3:typeLookup (.type "list") "__getattr__"=pure none:=by rw [typeLookup_type,builtinLookup_eq_fast];kernel_rfl
theorem af4{w:World}{l:Addr}{o:Obj}{xs:Array Value}{Q:Option Value->Shared->Prop}(hx:s.heap.get? l=some o)(hc:o.cls=.type "list")(mD:o.data=.seq xs k)(hd:o.dict=none)(hA:A.handled=none)(h:∀ h' tk,(∀ b o,s.heap.get? b=some o->h'.get? b=some o)->Q none { s with heap:=h',toks:=tk }):wpAny (model prog w) A (getAttr? (.ref l) "keys") Q E s:=by
 obtain ⟨c,dct,dat,sl⟩:=o;simp only at hc mD hd;subst hc mD hd;obtain ⟨hp,g,d,tk,os⟩:=s;have hT:∀ tk',(⟨hp,g,d,tk',os⟩:Shared).TypeIs (.ref l) "list":=fun _=>⟨_,hx,rfl⟩
 have f4:=F.slot_list_getattribute.bind (.ref l);unfold getAttr? getAttrBy? getAttrBy;refine wpAny_bind (wpAny_mkText (wpAny_bind (wpAny_attempt (wpAny_holding (wpAny_bind (wpAny_typeOf (hT _) ?_))))));rw [aik];refine wpAny_bind (wpAny_pure ?_);show wpAny _ _ (getAttrByItsOwn _ _ _ _ _ _) _ _ _;unfold getAttrByItsOwn;refine wpAny_bind (wpAny_pure ?_);refine wpAny_bind (wpAny_attempt (wpAny_holding ?_));show wpAny _ _ (boundAndCalled _ _ _) _ _ _;unfold boundAndCalled;rw [f4];refine wpAny_bind (wpAny_pure ?_);refine call_meets F.slot_list_getattribute (hT _) am_entry_list_getattribute (F.args_list_getattribute_2 _ _) (meets_getattribute_miss_list l xs k sl "keys" _ af2 (by decide +kernel) (by decide +kernel)) ⟨hx,hA,fun h' tk' e new=>?_⟩;obtain ⟨t',u',he⟩:=new.there;have hTe:∀ tk',(⟨h',g,d,tk',os⟩:Shared).TypeIs (.ref e) "AttributeError":=fun _=>⟨_,he,rfl⟩
 show wpAny _ _ (getattributeRaised _ _ _ _ _ _ _) _ _ _;unfold getattributeRaised;refine wpAny_bind (wpAny_isInstance (hTe _) sub_AttributeError ?_);rw [if_pos rfl];show wpAny _ _ (hookBehind _ _ >>= _) _ _ _;unfold hookBehind;rw [if_neg (by decide),af3];refine wpAny_bind (wpAny_pure ?_);unfold hookOrError attributeErrorLeaves;show wpAny _ _ (if (!false)=true then _ else _) _ _ _;rw [if_pos (by decide)];refine wpAny_bind (wpAny_throw ?_);show wpAny _ _ (isInstance _ _ >>= _) _ _ _;refine wpAny_bind (wpAny_isInstance (hTe _) sub_AttributeError ?_);rw [if_pos rfl];exact wpAny_pure (h h' tk' new.keeps)
section
variable {prog:Program} {w:World} {A:Around} {E:Value->Shared->Prop} {s:Shared} {K:Type} [DecidableEq K] {knd:KeyKind prog w K}
theorem ad3{l:Addr}{Q:Value->Shared->Prop}(hl:PlainL s.heap l items)(hA:A.handled=none)(tp:Nat->Addr)(ky vl:Nat->Value)(ks:Nat->K)(hP:∀ (i:Nat) (v:Value),items[i]?=some v->v=Value.ref (tp i))(hk:∀ i,i<items.size->knd.is (ks i) (ky i)=true)(hT:∀ i,i<items.size->IsTup s.heap (tp i) #[ky i,vl i])(hn:items.size<=sizeLine)(h:∀ h' tk,(∀ b o,s.heap.get? b=some o->h'.get? b=some o)->h'.DictOf knd s.heap.objs.size (m6 ks vl items.size)->Q (.ref s.heap.objs.size) { s with heap:=h',toks:=tk }) :
  wpAny (model prog w) A (call (.type "dict") [.ref l]) Q E s:=by
 refine callType_codes (Q₁:=fun obj zu=>obj=.ref s.heap.objs.size/\zu={ s with heap:=s.heap.push { cls:=.type "dict",data:=.dict #[] } }) F.kt_called_dict (F.kt_typeCall_dict_1 _) F.entry_dict_init (kt_code_dict_new _ ⟨rfl,rfl⟩) ?_;rintro obj zu ⟨rfl,rfl⟩;have Q8:(s.heap.push { cls:=.type "dict",data:=.dict #[] }).DictOf knd s.heap.objs.size []:=Heap.DictOf.new s.heap;obtain ⟨ol,nl,hol,xE,hld,cU⟩:=hl;have fF:(s.heap.push { cls:=.type "dict",data:=.dict #[] }).get? l=some ol:=Heap.get?_push_of_some _ hol;have C4:l<s.heap.objs.size:=Heap.lt_size hol;refine ⟨Q8.typeIs,F.args_dict_init_2 _ _,?_⟩;unfold Builtin.«dict.__init__»;refine wpAny_bind ?_;unfold Builtin.Dict.selfAndRest;refine wpAny_bind (wpAny_notOrdered_dict Q8.typeIs ?_);show wpAny _ _ (pure (s.heap.objs.size,[Value.ref l])) _ _ _;refine wpAny_pure ?_;show wpAny _ _ (Builtin.Dict.updateFrom "dict.__init__" s.heap.objs.size (.ref l) [] .none) _ _ _;unfold Builtin.Dict.updateFrom;refine wpAny_bind (wpAny_typeOf (T:="list") ⟨_,fF,xE⟩ ?_);rw [if_pos (by decide)];refine wpAny_bind (af4 fF xE cU hld (by simp [hA]) fun h2 tk2 keep2=>?_);rw [if_pos (show (none:Option Value).isNone=true from rfl)];refine wpAny_bind (wpAny_rule ?_);have f7:h2.IsList l items:=⟨ol,keep2 _ _ fF,xE,nl,cU⟩
 refine wpAny_bind (wpAny_pyIter_list f7 ?_);obtain ⟨od,es,ep,qJ,restd⟩:=Q8;have aW:s.heap.objs.size<h2.objs.size:=Heap.lt_size (keep2 _ _ qJ);have J7:l≠h2.objs.size:=K3 (Nat.lt_trans C4 aW);have hh:A.in1.in1.handled=none:=by simp [hA]
 have x9:s.heap.objs.size∉[h2.objs.size,l]:=by
  simp only [E5,g6,or_false,not_or];exact ⟨K3 aW,i0 C4⟩
 have mE:∀ i,i<items.size->tp i<s.heap.objs.size:=fun i hi=>by
  obtain ⟨o,ho,_⟩:=hT i hi;exact Heap.lt_size ho
 refine wpAny_pure ⟨plainId_quiet oS _,ajC ((Walks.list hh _ l J7 items).toS) s.heap.objs.size x9 tp ky vl ks hP hk (fun i hi=>⟨K3 (mE i hi),?_⟩) hn (items.size-0) 0 _ 0 0 (by lia) (G3 _) ⟨⟨_,Heap.get?_push_size _ rfl,rfl,rfl⟩,f7.push _⟩ (fun i hi=>?_) ?_ fun s' hm hD'=>?_⟩
 .simp only [E5,g6,or_false];exact K3 (Nat.lt_trans (mE i hi) aW)
 .obtain ⟨o,ho,rest⟩:=hT i hi;exact ⟨o,Heap.get?_push_of_some _ (keep2 _ _ (Heap.get?_push_of_some _ ho)),rest⟩
 .exact ⟨od,es,ep,Heap.get?_push_of_some _ (keep2 _ _ qJ),restd⟩
 .obtain ⟨h',g',d',tk',os'⟩:=s';have eg:g'=s.gens:=hm.gens;have ed:d'=s.drawn:=hm.drawn;have eo:os'=s.os:=hm.os;subst eg ed eo;refine ⟨rfl,h h' tk' (fun b o hb=>hm.heap b o ?_ (Heap.get?_push_of_some _ (keep2 _ _ (Heap.get?_push_of_some _ hb)))) hD'⟩;have mF:b<s.heap.objs.size:=Heap.lt_size hb;simp only [E5,g6,or_false,not_or];exact ⟨K3 mF,K3 (Nat.lt_trans mF aW)⟩
end
noncomputable def aqG (K:PySem.W.Frag) (calm:Bool):List V->Hp->VK->Prop:=fun xs H Q=>calm=true/\∃ (p:Addr) (ts:List Addr) (kxs:List (C1×V)),xs=[.ref p]/\C7 K H p (ts.map V.ref)/\Paired (fun t kx=>C6 K H t [kV kx.1,kx.2]) ts kxs/\∀ d,H d=none->Q (.ref d) (A0 H d (.dK (W3 [] kxs)))
theorem ahG(I:Inv X pins Y H s):∀ {ts:List Addr} {kxs:List (C1×V)},Paired (fun t kx=>C6 X.K H t [kV kx.1,kx.2]) ts kxs->
  ∃ ws:List (Value×Value),Paired (fun t w=>IsTup s.heap t #[w.1,w.2]) ts ws/\Paired (fun (kx:C1×V) (w:Value×Value)=>keyIs kx.1 w.1=true/\RelV kx.2 w.2) kxs ws
 | _,_,.nil=>⟨[],.nil,.nil⟩
 | _,_,.cons h t=>by
  obtain ⟨ws,h1,h2⟩:=ahG I t;obtain ⟨its,r,ht,_⟩:=I.tuple h;obtain ⟨u1,u2,rfl,r1,r2⟩:=vals2 r;exact ⟨(u1,u2)::ws,.cons ht h1,.cons ⟨kV_is (P:=X.prog) (w:=X.w) r1,r2⟩ h2⟩
theorem ajD:∀ {ts:List Addr} {us:List Value},Vals (ts.map V.ref) us->us=ts.map Value.ref
 | [],_,.nil=>rfl
 | t::ts,_::_,.cons h r=>by
  rw [K0,<- ajD r];cases h;rfl
theorem ajE(hK:X.K=K:=by rfl)(hc:X.calm=calm:=by rfl):QCall X (.type "dict") (aqG K calm):=⟨by
 subst hK;intro pins s Y H xs us Q I r h;obtain ⟨mC,p,ts,kxs,rfl,hp,hP,q⟩:=h;obtain ⟨u,rfl,rx⟩:=vals1 r
 cases rx
 obtain ⟨its,r',pl,hz⟩:=I.list hp;have mG:=ajD r';obtain ⟨ws,h1,h2⟩:=ahG I hP;have aX:ts.length=ws.length:=Paired.length h1;have f7:kxs.length=ws.length:=Paired.length h2;rw [A4] at hz;have hsz:its.toArray.size=ts.length:=by rw [F6,mG,A4]
 have xF:∀ i,i<=ts.length->KV (W3 [] (kxs.take i)) (m6 (fun i=>(kxs.getD i (Sum.inl 0,.non)).1) (fun i=>(ws.getD i (.none,.none)).2) i):=by
  intro i
  induction i with
  | zero=>intro _;exact .nil
  | succ i ih=>
   intro hi;have aY:i<kxs.length:=by lia
   obtain ⟨w',hw,hr⟩:=Paired.at h2 (F8 aY);have e1:W3 [] (kxs.take (i+1))=putK (W3 [] (kxs.take i)) kxs[i].1 kxs[i].2:=by
    unfold W3;rw [g4,F8 aY,Option.toList_some,y8];rfl
   rw [e1];show KV _ (stored _ (kxs.getD i (Sum.inl 0,.non)).1 (ws.getD i (.none,.none)).2);have e2:(kxs.getD i (Sum.inl 0,.non))=kxs[i]:=by rw [P0,F8 aY];rfl
   have e3:(ws.getD i (.none,.none))=w':=by rw [P0,hw];rfl
   rw [e2,e3];exact (ih (by lia)).put _ hr.2
 refine ad3 (knd:=N9 X.prog X.w) pl (I.ok.hd (hc.trans mC)) (fun i=>ts.getD i 0) (fun i=>(ws.getD i (.none,.none)).1) (fun i=>(ws.getD i (.none,.none)).2) (fun i=>(kxs.getD i (Sum.inl 0,.non)).1) (fun i v hv=>?_) (fun i hi=>?_) (fun i hi=>?_) (by lia) fun h' tk keep hD=>?_
 .rw [<- jV,mG,L7] at hv;rw [P0];cases e:ts[i]? with
  | none=>rw [e] at hv;cases hv
  | some t=>rw [e] at hv;cases hv;rfl
 .obtain ⟨w',hw,hr⟩:=Paired.at h2 (F8 (show i<kxs.length by lia));have e2:(kxs.getD i (Sum.inl 0,.non))=kxs[i]'(by lia):=by rw [P0,F8 (show i<kxs.length by lia)];rfl
  have e3:(ws.getD i (.none,.none))=w':=by rw [P0,hw];rfl
  rw [e2,e3];exact hr.1
 .have mH:i<ts.length:=by lia
  obtain ⟨w',hw,hr⟩:=Paired.at h1 (F8 mH);have e3:(ws.getD i (.none,.none))=w':=by rw [P0,hw];rfl
  have e4:ts.getD i 0=ts[i]:=by rw [P0,F8 mH];rfl
  rw [e3,e4];exact hr
 .have hD2:KV (W3 [] kxs) (m6 (fun i=>(kxs.getD i (Sum.inl 0,.non)).1) (fun i=>(ws.getD i (.none,.none)).2) its.toArray.size):=by
   have:=xF ts.length (A8 _)
   rw [t7 (by lia)] at this;rw [hsz];exact this
  have A7:=ac7 kxs [];rw [k8] at A7;exact ⟨.ref s.heap.objs.size,_,I.laid (t':=tk) keep (A8 _) (sL (by lia) (beq_eq_false_iff_ne.mpr (Ne.symm (K3 I.big))) hD2 hD),rfl,q _ (I.hok.fresh (A8 _))⟩⟩
end L2
set_option maxRecDepth 100000
namespace L2
open PySem PySem.Spec PyProof.Rows
section
variable {X:Cx} {pins:List (Addr×Obj)} {Y:St} {H:Hp} {s:Shared} {h':Heap}
theorem Inv.turnNew{ch:List Addr}{T:Addr}{o:HO}(I:Inv X pins Y H s)(hf:∀ b∈ch,FpOk X pins H b)(k:∀ b u,b∉ch->s.heap.get? b=some u->h'.get? b=some u)(hT:s.heap.objs.size<=T)(new:ObjOk X.prog X.w (A0 H T o) h' T o):Inv X pins Y (A0 H T o) { s with heap:=h',toks:=t' }:=by
 have hn:H T=none:=I.hok.fresh hT;have nch:∀ b u,H b=some u->b∉ch:=fun b u e z=>by rw [(hf b z).1] at e;cases e
 have neT:∀ b u,s.heap.get? b=some u->b≠T:=fun b u e=>K3 (O2 (Heap.lt_size e) hT)
 refine I.step (g':=s.gens) (d':=s.drawn) (ch:=ch) (fun b hb=>?_) (fun b u _ _ hc e _=>k b u hc e) (fun b u _ _ hc e _=>⟨u.slots,k b u hc e⟩) (fun b u _ e n=>by rw [A3 (neT b u e)];exact n)
  (fun b u hc e=>⟨u,k b u hc e⟩) (fun b xs e=>D0 e hn) (fun b ob u e=>D0 e hn) (fun b ps e=>⟨#[],by rw [D0 e hn];simp⟩) (fun m hm=>?_) (fun b u e=>?_) I.bare
 .obtain ⟨f0,f1,f2,f3,f4,f5⟩:=hf b hb;exact ⟨f3,f1,f4,f5⟩
 .obtain ⟨ob,es,ep,ho,r⟩:=hm;exact ⟨ob,es,ep,k _ ob (fun z=>(hf _ z).2.1 rfl) ho,r⟩
 .by_cases hb:b=T
  .subst hb;rw [A2] at e;cases e;exact new
  .rw [A3 hb] at e;refine (I.hok b u e).stay (fun c v hc q=>k c v ?_ q) (fun c q=>D0 q hn) fun c xs q=>D0 q hn
   rcases hc with z | z
   .rw [z];exact nch b u e
   .exact nch c _ z
end
theorem j0{a b:Nat}(h:a<b\/b<a):(show Addr from a)≠(show Addr from b):=fun e=>by
 have e:a=b:=e;lia
noncomputable def oT (l1 l2 : Addr) : It :=
  ⟨fun i H => ∃ xs ys x y, H l1 = some (.lst xs) /\ H l2 = some (.lst ys) /\ xs[i]? = some x /\ ys[i]? = some y,
   fun i H v H' => ∃ t xs ys x y, H l1 = some (.lst xs) /\ H l2 = some (.lst ys) /\ xs[i]? = some x /\ ys[i]? = some y /\ H t = none /\ v = .ref t /\ H' = A0 H t (.tup [x, y]),
   fun i H => ∃ xs ys, H l1 = some (.lst xs) /\ H l2 = some (.lst ys) /\ (xs.length <= i \/ ys.length <= i)⟩
theorem alt{P:Program}{w:World}{pos:Pos}(z TI TO i1 i2 l1 l2:Addr)(a1:TI≠z)(a2:TO≠z)(a3:i1≠z)(a4:i2≠z)(a5:TI≠TO)(a6:TI≠i1)(a7:TI≠i2)(a8:TO≠i1)(a9:TO≠i2)(a10:i1≠i2) :
  Turn P w K (.Tuple elts x1 pos) (oT l1 l2) [z,TO,i1,i2,TI] z (fun i h=>IsZip h z TI TO .none/\IsPair h TI (.ref i1) (.ref i2)/\(∃ a b,IsPair h TO a b)/\h.IsListIter i1 l1 i/\h.IsListIter i2 l2 i) where
 mem:=by simp
 obj:=fun i h ⟨hz,hTI,⟨a,b,hTO⟩,h1,h2⟩ c hc=>by
  have e:c=z\/c=TO\/c=i1\/c=i2\/c=TI:=by simpa using hc
  rcases e with rfl | rfl | rfl | rfl | rfl
  .exact ⟨_,hz,fun v q=>by cases q⟩
  .exact ⟨_,hTO,fun v q=>by cases q⟩
  .obtain ⟨o,e,c,d⟩:=h1;exact ⟨o,e,fun v z=>by rw [d] at z;cases z⟩
  .obtain ⟨o,e,c,d⟩:=h2;exact ⟨o,e,fun v z=>by rw [d] at z;cases z⟩
  .exact ⟨_,hTI,fun v q=>by cases q⟩
 keep:=fun i h h' ⟨hz,hTI,⟨a,b,hTO⟩,h1,h2⟩ k=>⟨k z (by simp) _ hz,k TI (by simp) _ hTI,⟨a,b,k TO (by simp) _ hTO⟩,h1.at fun o e=>k i1 (by simp) o e,h2.at fun o e=>k i2 (by simp) o e⟩
 item:=by
  intro X hP hw hK hc i pins s Y H E I hf ⟨hz,hTI,⟨a,b,hTO⟩,h1,h2⟩ hg;subst hP hw hK;obtain ⟨xs,ys,x,y,e1,e2,hx,hy⟩:=hg;obtain ⟨its1,Z2,p1,_⟩:=I.list (C7.of (K:=X.K) e1);obtain ⟨its2,qK,p2,_⟩:=I.list (C7.of (K:=X.K) e2);obtain ⟨u1,C5,r1⟩:=Z2.get hx;obtain ⟨u2,aZ,r2⟩:=qK.get hy;have nl:∀ c∈[z,TO,i1,i2,TI],l1≠c/\l2≠c:=fun c hc=>⟨fun q=>(by rw [q,(hf c hc).1] at e1;cases e1),fun q=>(by rw [q,(hf c hc).1] at e2;cases e2)⟩
  have D:ZipApart z TI TO i1 i2 l1 l2:=⟨a1,a2,a3,a4,a5,a6,a7,a8,a9,a10,(nl z (by simp)).1,(nl TO (by simp)).1,(nl i1 (by simp)).1,(nl i2 (by simp)).1,(nl z (by simp)).2,(nl TO (by simp)).2,(nl i1 (by simp)).2,(nl i2 (by simp)).2⟩
  refine wpAny_pyNext_zip_item D hz hTI hTO h1 h2 p1.isList p2.isList (x:=u1) (y:=u2) (by simpa using C5) (by simpa using aZ) fun h' b1 b2 b3 b4 b5 b6 b7=>⟨_,rfl,wpAny_letOwnedTupleGo_zip b1 fun h2' c1 c2=>?_⟩
  have P5:z<s.heap.objs.size:=Heap.lt_size hz;have up:∀ c o,c≠z->h'.get? c=some o->h2'.get? c=some o:=fun c o hc e=>(c2.2 c hc).trans e
  have nT:∀ c∈[z,TO,i1,i2,TI],c≠s.heap.objs.size:=fun c hc=>by
   have e:c=z\/c=TO\/c=i1\/c=i2\/c=TI:=by simpa using hc
   refine K3 ?_
   rcases e with rfl | rfl | rfl | rfl | rfl
   .exact Heap.lt_size hz
   .exact Heap.lt_size hTO
   .obtain ⟨o,e,_⟩:=h1;exact Heap.lt_size e
   .obtain ⟨o,e,_⟩:=h2;exact Heap.lt_size e
   .exact Heap.lt_size hTI
  have hT:=up _ _ (i0 P5) b5;refine ⟨.ref s.heap.objs.size,A0 H s.heap.objs.size (.tup [x,y]),I.turnNew (t':=s.toks) (ch:=[z,TO,i1,i2,TI]) hf (fun c u hc e=>?_) (A8 _) ⟨by show 2<=sizeLine;decide,[u1,u2],.cons r1 (.cons r2 .nil),?_⟩,rfl,⟨_,xs,ys,x,y,e1,e2,hx,hy,I.fresh,rfl,rfl⟩,
   ⟨c1,up _ _ a1 (b7 _ _ a1 a5 a6 a7 hTI),⟨_,_,up _ _ a2 b2⟩,b3.at fun o e=>up _ o a3 e,b4.at fun o e=>up _ o a4 e⟩,fun c hc=>by rw [A3 (nT c hc)];exact (hf c hc).1⟩
  .have q:c≠z/\c≠TO/\c≠i1/\c≠i2:=by
    refine ⟨fun q=>hc (by simp [q]),fun q=>hc (by simp [q]),fun q=>hc (by simp [q]),fun q=>hc (by simp [q])⟩
   exact up c u q.1 (b7 c u q.1 q.2.1 q.2.2.1 q.2.2.2 e)
  .exact ⟨_,hT,rfl,_,rfl⟩
 done:=by
  intro X hP hw hK hc i pins s Y H E I hf ⟨hz,hTI,⟨a,b,hTO⟩,h1,h2⟩ hg;subst hP hw hK;obtain ⟨xs,ys,e1,e2,fG⟩:=hg;obtain ⟨its1,Z2,p1,_⟩:=I.list (C7.of (K:=X.K) e1);obtain ⟨its2,qK,p2,_⟩:=I.list (C7.of (K:=X.K) e2);have q1:=Z2.length;have q2:=qK.length;have nl:∀ c∈[z,TO,i1,i2,TI],l1≠c/\l2≠c:=fun c hc=>⟨fun q=>(by rw [q,(hf c hc).1] at e1;cases e1),fun q=>(by rw [q,(hf c hc).1] at e2;cases e2)⟩
  have D:ZipApart z TI TO i1 i2 l1 l2:=⟨a1,a2,a3,a4,a5,a6,a7,a8,a9,a10,(nl z (by simp)).1,(nl TO (by simp)).1,(nl i1 (by simp)).1,(nl i2 (by simp)).1,(nl z (by simp)).2,(nl TO (by simp)).2,(nl i1 (by simp)).2,(nl i2 (by simp)).2⟩
  refine wpAny_pyNext_zip_end (I.ok.hd hc) D hz hTI hTO h1 h2 p1.isList p2.isList (by rcases fG with q | q <;> simp <;> lia) fun h' k=>⟨rfl,?_⟩
  refine I.step (h':=h') (t':=s.toks) (g':=s.gens) (d':=s.drawn) (ch:=[z,TO,i1,i2,TI]) (fun b hb=>?_) (fun b u _ _ hc e _=>?_) (fun b u _ _ hc e _=>⟨u.slots,?_⟩) (fun b u _ e n=>n)
   (fun b u hc e=>⟨u,?_⟩) (fun b xs e=>e) (fun b ob u e=>e) (fun b ps e=>⟨#[],by rw [e];simp⟩) (fun m hm=>?_) (fun b u e=>?_) I.bare
  .obtain ⟨f0,f1,f2,f3,f4,f5⟩:=hf b hb;exact ⟨f3,f1,f4,f5⟩
  .exact k b u (fun q=>hc (by simp [q])) (fun q=>hc (by simp [q])) (fun q=>hc (by simp [q])) (fun q=>hc (by simp [q])) e
  .exact k b u (fun q=>hc (by simp [q])) (fun q=>hc (by simp [q])) (fun q=>hc (by simp [q])) (fun q=>hc (by simp [q])) e
  .exact k b u (fun q=>hc (by simp [q])) (fun q=>hc (by simp [q])) (fun q=>hc (by simp [q])) (fun q=>hc (by simp [q])) e
  .obtain ⟨ob,es,ep,ho,r⟩:=hm;have nL:∀ c∈[z,TO,i1,i2,TI],X.env.locals≠c:=fun c hc q=>(hf c hc).2.1 q.symm
   exact ⟨ob,es,ep,k _ ob (nL z (by simp)) (nL TO (by simp)) (nL i1 (by simp)) (nL i2 (by simp)) ho,r⟩
  .have nch:∀ b u,H b=some u->∀ c∈[z,TO,i1,i2,TI],b≠c:=fun b u e c hc q=>by rw [q,(hf c hc).1] at e;cases e
   refine (I.hok b u e).stay (fun c v hc q=>?_) (fun c q=>q) fun c xs q=>q
   have:∀ d∈[z,TO,i1,i2,TI],c≠d:=by
    rcases hc with z | z
    .rw [z];exact nch b u e
    .exact nch c _ z
   exact k c v (this z (by simp)) (this TO (by simp)) (this i1 (by simp)) (this i2 (by simp)) q
 self:=fun _ _ _ _ _ st h=>wpAny_pyIter_zip st.1 h
section
variable {X:Cx}
noncomputable def iZip (ta:TA):TI:=fun Y H R=>ta Y H fun vs H1=>∃ (l1 l2:Addr) (xs ys:List V),vs=[.ref l1,.ref l2]/\H1 l1=some (.lst xs)/\H1 l2=some (.lst ys)/\R (oT l1 l2) H1
theorem aqH{a b:Expr}{p pos:Pos}(hg:Gl X "zip")(hm:X.mg "zip"=none)(ha:PA X [a,b] ta)(h1:K4 a=false:=by rfl)(h2:K4 b=false:=by rfl) :
  PI X (.Tuple elts x1 tpos) (.Call (.Name "zip" p) [a,b] [] pos) (iZip ta):=by
 intro pins s Y H R I h;refine Call_ (aB I hg hm boot_zip (PyProof.Rows.callWith_type1 (A9 (ha pos pins s Y H _ I h) fun us s1 ⟨vs,H1,I1,r1,q1⟩=>?_) (M9 h1) (by rw [M9 h2];rfl)));obtain ⟨l1,l2,xs,ys,rfl,e1,e2,q⟩:=q1;obtain ⟨u1,u2,rfl,fH,xG⟩:=vals2 r1
 cases fH
 cases xG
 obtain ⟨its1,Z2,p1,_⟩:=I1.list (C7.of (K:=X.K) e1);obtain ⟨its2,qK,p2,_⟩:=I1.list (C7.of (K:=X.K) e2);refine call_zip_2 p1.isList p2.isList fun h' z1 z2 z3 z4 z5 z6 z7=>wpAny_pyIter_zip z1 ?_
 refine ⟨s1.heap.objs.size+4,[s1.heap.objs.size+4,s1.heap.objs.size+3,s1.heap.objs.size,s1.heap.objs.size+1,s1.heap.objs.size+2],_,_,H1,rfl,I1.kept (t':=s1.toks) z7,
  alt _ (s1.heap.objs.size+2) (s1.heap.objs.size+3) s1.heap.objs.size (s1.heap.objs.size+1) l1 l2 (j0 (by lia)) (j0 (by lia)) (j0 (by lia)) (j0 (by lia)) (j0 (by lia)) (j0 (by lia)) (j0 (by lia)) (j0 (by lia)) (j0 (by lia)) (j0 (by lia)),⟨z1,z2,⟨_,_,z3⟩,z4,z5⟩,fun b hb=>?_,q⟩
 have X9:s1.heap.objs.size<=b:=by
  have e:b=s1.heap.objs.size+4\/b=s1.heap.objs.size+3\/b=s1.heap.objs.size\/b=s1.heap.objs.size+1\/b=s1.heap.objs.size+2:=by simpa using hb
  rcases e with rfl | rfl | rfl | rfl | rfl
  .exact bP _ _
  .exact bP _ _
  .exact A8 _
  .exact bP _ _
  .exact bP _ _
 exact I1.fpOk X9 (I1.hok.fresh X9)
theorem aqI{a b:Expr}{p pos:Pos}(hm:X.mg "zip"=none)(ha:QA X [a,b] ta)(hg:Gl X "zip":=by rfl)(h1:K4 a=false:=by rfl)(h2:K4 b=false:=by rfl) :
  QI X (.Tuple elts x1 tpos) (.Call (.Name "zip" p) [a,b] [] pos) (iZip ta):=⟨aqH hg hm ha.out h1 h2⟩
end
theorem anO{R:It->Hp->Prop} : iZip ta Y H R=ta Y H fun vs H1=>∃ (l1 l2:Addr) (xs ys:List V),vs=[.ref l1,.ref l2]/\H1 l1=some (.lst xs)/\H1 l2=some (.lst ys)/\R (oT l1 l2) H1:=rfl
theorem forZ{l1 l2:Addr}(Pv:Nat->St->Hp->Prop)(h0:Pv 0 Y H)(hl:∀ i Y H,Pv i Y H->H l1=some (.lst xs)/\H l2=some (.lst ys))(hs:∀ i x y t Y H,xs[i]?=some x->ys[i]?=some y->Pv i Y H->H t=none->g (.ref t) Y (A0 H t (.tup [x,y])) fun σ2 H2=>tb { D with nx:=Pv (i+1),ct:=Pv (i+1),bk:=D.nx } σ2 H2)(hd:∀ Y H,Pv (min xs.length ys.length) Y H->D.nx Y H):ForIt (oT l1 l2) g tb D Y H:=by
 refine ⟨fun i m Y H=>m=min xs.length ys.length-i/\i<=min xs.length ys.length/\Pv i Y H,⟨min xs.length ys.length,by simp,G3 _,h0⟩,?_⟩;rintro i m Y H ⟨rfl,hi,p⟩;obtain ⟨e1,e2⟩:=hl i Y H p
 by_cases C4:i<min xs.length ys.length
 .refine .inr ⟨⟨xs,ys,xs[i]'(by lia),ys[i]'(by lia),e1,e2,by simp,by simp⟩,Pv (i+1),fun σ' H' p'=>⟨_,by lia,rfl,C4,p'⟩,fun v H' y=>?_⟩;obtain ⟨t,xs',ys',x,y',f1,f2,hx,hy,ht,rfl,rfl⟩:=y;rw [e1] at f1;cases f1;rw [e2] at f2;cases f2;exact hs i x y' t Y H hx hy p ht
 .have e:i=min xs.length ys.length:=by lia
  subst e;exact .inl ⟨⟨xs,ys,e1,e2,by lia⟩,hd Y H p⟩
noncomputable def Itr3 (lo st:Int) (n:Nat):It:=⟨fun i _=>i<n,fun i H x H'=>H'=H/\x=.int (lo+i*st),fun i _=>n<=i⟩
theorem af5{α β:Type}(f:α->β):∀ (l:List α) (i:Nat),(l.eraseIdx i).map f=(l.map f).eraseIdx i
 | [],_=>rfl
 | _::_,0=>rfl
 | x::l,i+1=>by
  show f x::(l.eraseIdx i).map f=f x::(l.map f).eraseIdx i;rw [af5 f l i]
noncomputable def tJ (td ty tx:TE):TE:=fun Y H Q=>td Y H fun x H1=>∃ a,x=.ref a/\aF H1 a/\ty Y H1 fun y H2=>tx Y H2 fun z H3=>∃ kvs k,H3 a=some (.dK kvs)/\kvs.length<sizeLine/\y=kV k/\
 (∀ v,valV kvs k=some v->Q v H3)/\(valV kvs k=none->Q z (A0 H3 a (.dK (putK kvs k z))))
section
variable {X:Cx} {o e f:Expr} {apos cpos:Pos} {td ty tx:TE} {pins:List (Addr×Obj)} {Y:St} {H:Hp} {s:Shared} {a:Addr} {A:Around} {E:Value->Shared->Prop}
theorem aqJ{k:C1}{z:V}{r:Value}{Q:Value->Shared->Prop}(I:Inv X pins Y H s)(e:H a=some (.dK kvs))(hl:kvs.length<sizeLine)(ry:RelV (kV k) u)(rz:RelV z r)(h1:∀ v w' s',valV kvs k=some v->Inv X pins Y H s'->RelV v w'->Q w' s')(h2:∀ s',valV kvs k=none->Inv X pins Y (A0 H a (.dK (putK kvs k z))) s'->Q r s') :
  wpAny (model X.prog X.w) A (call (.builtin "dict.setdefault") [.ref a,u,r]) Q E s:=by
 obtain ⟨hz,hd,vs,rel,dd⟩:=dk_of I.hok e;have A7:=rel.length;refine call_meetsIn PySem.F.slot_dict_setdefault dd.typeIs PySem.F.entry_dict_setdefault (PySem.F.args_dict_setdefault_3 _ _ _) (kt_meets_setdefault (N9 X.prog X.w) a (kV_is ry) hd r) ⟨vs,dd,by lia,fun v hv=>?_,fun hn h' hm hs=>?_⟩
 .have:=rel.val k
  rw [hv] at this;cases fI:valV kvs k with
  | none=>rw [fI] at this;exact this.elim
  | some x=>rw [fI] at this;exact h1 x v _ fI (I.tok _) this
 .have:=rel.val k
  rw [hn] at this;cases fI:valV kvs k with
  | some x=>rw [fI] at this;exact this.elim
  | none=>
   have R4:(putK kvs k z).length<=sizeLine:=by rw [akY z fI,C8,T4];lia
   obtain ⟨ob,_,_,ho,_⟩:=id hm;exact h2 _ fI (sK (t':=s.toks+1) I (by rw [e];exact trivial) hs ⟨ob,ho⟩ (sL R4 hd (rel.put k rz) hm))
theorem alu(ho:PE X o td)(he:PE X e ty)(hf:PE X f tx)(m:M2 X o "setdefault" apos e f cpos):PE X (.Call (.Attribute o "setdefault" apos) [e,f] [] cpos) (tJ td ty tx):=by
 intro pins s Y H Q I h;refine wpAny_Call_method m.base m.few m.line PySem.F.plainAttrs_dict PySem.F.slot_dict_setdefault PySem.F.type_dict_setdefault (A9 (ho pins s Y H _ I h) fun u s1 ⟨x,H1,I1,rx,a,ex,d,q1⟩=>?_);subst ex;obtain rfl:u=Value.ref a:=rx;obtain ⟨t1,t2,_⟩:=sN I1 d;refine ⟨t1,t2,?_⟩;rw [m.trees];refine Calls.callWith_builtin rfl (Calls.evalArgs_plain (Calls.spliced_cons (A9 (he pins s1 Y H1 _ I1 q1) fun iv s2 ⟨y,H2,I2,ry,q2⟩=>
  Calls.spliced_cons (A9 (hf pins s2 Y H2 _ I2 q2) fun fv s3 ⟨z,H3,I3,rz,kvs,k,e3,hl,ey,q3,q4⟩=>Calls.spliced_nil ?_))))
 subst ey;exact aqJ I3 e3 hl ry rz (fun v w' s4 hv I4 rw'=>⟨v,H3,I4,rw',q3 v hv⟩) fun s4 hn I4=>⟨z,_,I4,rz,q4 hn⟩
theorem ahH(ho:QE X o td)(he:QE X e ty)(hf:QE X f tx)(h1:K4 e=false:=by rfl)(h2:K4 f=false:=by rfl)(G0:attributeBase o "setdefault" X.env (eval o X.env)=eval o X.env:=by rfl)(G1:(apos.endLine==cpos.line)=true:=by rfl):QE X (.Call (.Attribute o "setdefault" apos) [e,f] [] cpos) (tJ td ty tx):=
 ⟨alu ho.out he.out hf.out ⟨G0,by rw [M9 h1,M9 h2];rfl,G1,by rw [M9 h1,M9 h2];rfl⟩⟩
theorem alv:tJ td ty tx Y H Q=td Y H fun x H1=>∃ a,x=.ref a/\aF H1 a/\ty Y H1 fun y H2=>tx Y H2 fun z H3=>∃ kvs k,H3 a=some (.dK kvs)/\kvs.length<sizeLine/\y=kV k/\
 (∀ v,valV kvs k=some v->Q v H3)/\(valV kvs k=none->Q z (A0 H3 a (.dK (putK kvs k z)))):=rfl
end
section
variable {X:Cx} {tg:Expr}
noncomputable def rsz (i j k:Int):Nat:=(if i<j then (j-i-1) / k+1 else 0).toNat
noncomputable def iRng3 (ta:TA):TI:=fun Y H R=>ta Y H fun vs H1=>∃ i j k:Int,vs=[.int i,.int j,.int k]/\(-(2 ^ 60)<=i/\i<2 ^ 60/\-(2 ^ 60)<=j/\j<2 ^ 60/\0<k/\k<1000000)/\R (Itr3 i k (rsz i j k)) H1
end
theorem alw{R:It->Hp->Prop} : iRng3 ta Y H R=ta Y H fun vs H1=>∃ i j k:Int,vs=[.int i,.int j,.int k]/\(-(2 ^ 60)<=i/\i<2 ^ 60/\-(2 ^ 60)<=j/\j<2 ^ 60/\0<k/\k<1000000)/\R (Itr3 i k (rsz i j k)) H1:=rfl
section
variable {X:Cx} {pins:List (Addr×Obj)} {Y:St} {H:Hp} {s:Shared} {a:Addr}
theorem Inv.swap{u u':HO}(I:Inv X pins Y H s)(e:H a=some u)(n1:∀ xs,u≠.tup xs)(n2:∀ x,u≠.own x)(n3:∀ ps,u≠.tbl ps)(n4:∀ o v,X.H₀ a≠some (.frz o v))(new:ObjOk X.prog X.w H s.heap a u'):Inv X pins Y (A0 H a u') s:=by
 have ne:∀ b,H b=none->b≠a:=fun b h q=>by rw [q,e] at h;cases h
 have own:∀ c x,H c=some (.own x)->A0 H a u' c=some (.own x):=fun c x q=>by
  rw [A3 (fun z=>by rw [z,e] at q;exact n2 x (Option.some.inj q))];exact q
 have tup:∀ c xs,H c=some (.tup xs)->A0 H a u' c=some (.tup xs):=fun c x q=>by
  rw [A3 (fun z=>by rw [z,e] at q;exact n1 x (Option.some.inj q))];exact q
 refine ⟨I.ok,I.os,I.bare,⟨I.base.keep,I.base.slot,fun b o h1 h2 h3=>?_,I.base.there,fun b xs h=>tup b xs (I.base.tups b xs h),fun b o v h=>?_,fun b ps h=>?_⟩,I.loc,I.cell,?_,fun x c h=>?_,fun p hp=>?_,fun b v h=>?_,I.len⟩
 .have:=I.base.free b o h1 h2 h3
  rw [A3 (ne b this)];exact this
 .rw [A3 (fun z=>n4 o v (by rw [<- z];exact h))];exact I.base.frzs b o v h
 .obtain ⟨m,q⟩:=I.base.tbls b ps h;exact ⟨m,by rw [A3 (fun z=>by rw [z,e] at q;exact n3 _ (Option.some.inj q))];exact q⟩
 .rw [A3 (ne _ I.free)];exact I.free
 .rw [A3 (ne _ (I.freeC x c h))];exact I.freeC x c h
 .obtain ⟨h1,h2,h3⟩:=I.pin p hp;exact ⟨h1,by rw [A3 (ne _ h2)];exact h2,h3⟩
 .by_cases hb:b=a
  .subst hb;rw [A2] at h;cases h;exact new.stay (fun _ _ _ q=>q) (fun c q=>own c _ q) fun c xs q=>tup c xs q
  .rw [A3 hb] at h;exact (I.hok b v h).stay (fun _ _ _ q=>q) (fun c q=>own c _ q) fun c xs q=>tup c xs q
end
noncomputable def eK (a:Addr) (o:Obj) (kvs:List (C1×V)):It:=
 ⟨fun i H=>H a=some (.frz o (.dK kvs))/\i<kvs.length,fun i H x H'=>H'=H/\∃ k v,kvs[i]?=some (k,v)/\x=kV k,fun i H=>H a=some (.frz o (.dK kvs))/\kvs.length<=i⟩
theorem ajG{P:Program}{w:World}(a it:Addr)(o:Obj)(kvs:List (C1×V))(vs:List (C1×Value))(ep:Nat)(Q1:∀ h:Heap,h.get? a=some o->h.DictAt (N9 P w) a vs ep)(rel:KV kvs vs):Turn P w K tg (eK a o kvs) [it] it (fun i h=>h.IsKeyIter it a i vs.length ep) where
 mem:=by simp
 obj:=fun i h st b hb=>by
  have e:b=it:=by simpa using hb
  subst e;obtain ⟨o,e,c,d⟩:=st;exact ⟨o,e,fun v z=>by rw [d] at z;cases z⟩
 keep:=fun i h h' st k=>st.at fun o e=>k it (by simp) o e
 item:=by
  intro X hP hw hK hc i pins s Y H E I hf st hg;subst hP hw hK;obtain ⟨f0,f1,f2,f3,f4,f5⟩:=hf it (by simp);obtain ⟨xH,mI⟩:=hg;have hd:=Q1 s.heap (I.hok a _ xH).1;have hvl:i<vs.length:=by rw [<- rel.length];exact mI
  refine wpAny_pyNext_dict_item st hd (k:=vs[i].1) (v:=vs[i].2) (by rw [F8 hvl]) fun key h' Q6 mJ iS=>?_
  have I1:Inv X pins Y H { s with heap:=h' }:=I.turned (t':=s.toks) (fun b o hb e=>(iS.2 b hb).trans e) f0 f1 f3 f4 f5;obtain ⟨oi,e,c,d⟩:=id mJ;have hk:kvs[i].1=vs[i].1:=by
   have:=congrArg (·[i]?) rel.keys
   simpa [mI,hvl] using this
  have rk:RelV (kV kvs[i].1) key:=by
   rw [hk];have Q6:keyIs vs[i].1 key=true:=Q6;generalize vs[i].1=kk at Q6
   rcases i3 Q6 with ⟨j,t,rfl,rfl⟩ | ⟨x,t,rfl,rfl⟩
   .exact ⟨t,rfl⟩
   .exact ⟨t,rfl⟩
  exact ⟨key,rfl,go_of (s:={ s with heap:=h' }) e c d (by decide) ⟨kV kvs[i].1,H,I1,rk,⟨rfl,kvs[i].1,kvs[i].2,by rw [F8 mI],rfl⟩,mJ,fun b hb=>(hf b hb).1⟩⟩
 done:=by
  intro X hP hw hK hc i pins s Y H E I hf st hg;subst hP hw hK;obtain ⟨f0,f1,f2,f3,f4,f5⟩:=hf it (by simp);obtain ⟨xH,mI⟩:=hg;have hd:=Q1 s.heap (I.hok a _ xH).1;exact wpAny_pyNext_dict_end (I.ok.hd hc) st hd (by rw [List.getElem?_eq_none_iff,<- rel.length];exact mI) fun h' eb=>⟨rfl,I.turned (t':=s.toks) (fun b o hb e=>eb b o hb e) f0 f1 f3 f4 f5⟩
 self:=fun _ _ _ _ _ st h=>wpAny_pyIter_keyiter st h
noncomputable def Ends.thaw (D:Ends) (a:Addr) (kvs:List (C1×V)):Ends where
 nx:=fun Y H=>(∃ o,H a=some (.frz o (.dK kvs)))/\D.nx Y (A0 H a (.dK kvs))
 rt:=fun v H=>(∃ o,H a=some (.frz o (.dK kvs)))/\D.rt v (A0 H a (.dK kvs))
noncomputable def tForD (tl:TE) (g:TG) (tb:TS):TS:=fun D Y H=>tl Y H fun x H1=>∃ a kvs,x=.ref a/\H1 a=some (.dK kvs)/\∀ o,ForIt (eK a o kvs) g tb (D.thaw a kvs) Y (A0 H1 a (.frz o (.dK kvs)))
theorem anP{l:Expr}{body:List Stmt}{pos:Pos}(hp:PassesOwn (model X.prog X.w) X.A X.env X.xe)(hc:X.calm=true)(hl:PE X l tl)(hg:PG X tg g)(hb:W1 X body tb)(hs:∀ x,foldedSetIterable l X.env x=pure x):PS X (.For tg l body [] pos) (tForD tl g tb):=by
 intro pins s Y H D I h;refine wpAny_For (A9 (hl pins s Y H _ I h) fun v s1 ⟨x,H1,I1,r1,q1⟩=>?_) hs;obtain ⟨a,kvs,rfl,e,q⟩:=q1
 cases r1
 obtain ⟨z,hd,vs,rel,dd⟩:=dk_of I1.hok e;obtain ⟨ep,Q1⟩:=dd.dictAt;obtain ⟨o,es,ho,Z1⟩:=id Q1;refine wpAny_pyIter_dict hd Q1 ?_;have NF:∀ o' v',X.H₀ a≠some (.frz o' v'):=fun o' v' z=>by
  have:=I1.base.frzs _ _ _ z
  rw [e] at this;cases this
 have I1':Inv X pins Y H1 { s1 with heap:=s1.heap.push { cls:=.type "dict_keyiterator",data:=.fields #[.ref a,.int 0 0,.int vs.length 0,.int ep 0] } }:=I1.kept (t':=s1.toks) fun b u e=>Heap.get?_push_of_some _ e
 have I2:=I1'.swap (u':=.frz o (.dK kvs)) e (fun _ q=>by cases q) (fun _ q=>by cases q) (fun _ q=>by cases q) NF ⟨Heap.get?_push_of_some _ ho,I1'.hok a _ e⟩;have thaw:∀ {σ':St} {H':Hp} {s':Shared},Inv X pins σ' H' s'->(∃ o,H' a=some (.frz o (.dK kvs)))->Inv X pins σ' (A0 H' a (.dK kvs)) s':=fun {σ' H' s'} I' ⟨o',e'⟩=>
  I'.swap e' (fun _ q=>by cases q) (fun _ q=>by cases q) (fun _ q=>by cases q) NF (I'.hok a _ e').2
 have T:Turn X.prog X.w X.K tg (eK a o kvs) [s1.heap.objs.size] s1.heap.objs.size (fun i h=>h.IsKeyIter s1.heap.objs.size a i vs.length ep):=ajG a _ o kvs vs ep (fun h e=>⟨o,es,e,Z1⟩) rel;have X8:A0 H1 a (.frz o (.dK kvs)) s1.heap.objs.size=none:=by rw [A3 (fun q=>by rw [<- q,I1.fresh] at e;cases e)];exact I1.fresh
 have f2:∀ b∈[s1.heap.objs.size],FpOk X pins (A0 H1 a (.frz o (.dK kvs))) b:=fun b hb=>by
  have e:b=s1.heap.objs.size:=by simpa using hb
  subst e;exact I1.fpOk (A8 _) X8
 obtain ⟨W,⟨m0,w0⟩,turn⟩:=q o;have stat:∀ {H':Hp},(∀ b∈[s1.heap.objs.size],H' b=none)->∀ b∈[s1.heap.objs.size],FpOk X pins H' b:=fun hn b hb=>⟨hn b hb,(f2 b hb).2⟩
 refine codeAny_forLoop_any (fun n s'=>∃ i σ' H',Inv X pins σ' H' s'/\s'.heap.IsKeyIter s1.heap.objs.size a i vs.length ep/\(∀ b∈[s1.heap.objs.size],H' b=none)/\W i n σ' H') ?_ m0 ⟨0,Y,_,I2,⟨_,Heap.get?_push_size _ rfl,rfl,rfl⟩,fun b hb=>(f2 b hb).1,w0⟩;rintro n s3 ⟨i,σ3,H3,I3,cT,lW,w3⟩
 rcases turn i n σ3 H3 w3 with ⟨stop,qn⟩ | ⟨go,N,hN,step⟩
 .refine wpAny_passesOwn hp (A9 (T.done X rfl rfl rfl hc i pins s3 σ3 H3 X.xe I3 (stat lW) cT stop) fun r s4 ⟨hr,I4⟩=>?_);subst hr;exact wpAny_execs_nil ⟨σ3,_,thaw I4 qn.1,qn.2⟩
 .refine wpAny_passesOwn hp (A9 (T.item X rfl rfl rfl hc i pins s3 σ3 H3 X.xe I3 (stat lW) cT go) fun r s4 ⟨u,hr,h4⟩=>?_);subst hr;refine wpAny_passesOwn hp (A9 h4 fun _ s5 ⟨x,H5,I5,r5,y5,eX,wU⟩=>?_);have I5':=I5.pinned (stat wU) (T.obj _ _ eX);refine wpAny_passesOwn hp (A9 (hg _ s5 σ3 H5 x u _ I5' r5 (step x H5 y5)) fun _ s6 ⟨σ6,H6,I6,q6⟩=>?_);refine wpAny_passesOwn hp (A9 (hb _ s6 σ6 H6 _ I6 q6) fun f s7 q7=>?_);have again:∀ {σ7:St} {H7:Hp},Inv X (pins++gJ [s1.heap.objs.size] s5.heap) σ7 H7 s7->N σ7 H7->∃ m,m<n/\∃ i σ' H',Inv X pins σ' H' s7/\s7.heap.IsKeyIter s1.heap.objs.size a i vs.length ep/\(∀ b∈[s1.heap.objs.size],H' b=none)/\W i m σ' H':=fun {σ7 H7} I7 n7=>by
   obtain ⟨m',hm,w7⟩:=hN σ7 H7 n7;refine ⟨m',hm,i+1,σ7,H7,I7.unpinned,T.keep _ _ _ eX fun b hb o e=>(I7.pin (b,o) (M6 _ (M6 _ (gL hb e)))).1,fun b hb=>?_,w7⟩;obtain ⟨o,e,d⟩:=T.obj _ _ eX b hb;exact (I7.pin (b,o) (M6 _ (M6 _ (gL hb e)))).2.1
  cases f with
  | next=>obtain ⟨σ7,H7,I7,n7⟩:=q7;exact again I7 n7
  | cont=>obtain ⟨σ7,H7,I7,n7⟩:=q7;exact again I7 n7
  | brk=>obtain ⟨σ7,H7,I7,q7⟩:=q7;exact ⟨σ7,_,thaw I7.unpinned q7.1,q7.2⟩
  | ret v=>obtain ⟨x7,σ7,H7,I7,r7,q7⟩:=q7;exact ⟨x7,σ7,_,thaw I7.unpinned q7.1,r7,q7.2⟩
theorem tK{l:Expr}{body:List Stmt}{pos:Pos}(hp:PassesOwn (model X.prog X.w) X.A X.env X.xe)(hl:QE X l tl)(hg:QG X tg g)(hb:QSs X body tb)(hc:X.calm=true:=by rfl)(hs:∀ x,foldedSetIterable l X.env x=pure x:=by intro _;rfl):QS X (.For tg l body [] pos) (tForD tl g tb):=⟨anP hp hc hl.out hg.out hb.out hs⟩
theorem anQ : tForD tl g tb D Y H=tl Y H fun x H1=>∃ a kvs,x=.ref a/\H1 a=some (.dK kvs)/\∀ o,ForIt (eK a o kvs) g tb (D.thaw a kvs) Y (A0 H1 a (.frz o (.dK kvs))):=rfl
theorem forD{o:Obj}(Pv:Nat->St->Hp->Prop)(h0:Pv 0 Y H)(hl:∀ i Y H,Pv i Y H->H a=some (.frz o (.dK kvs)))(hs:∀ i k v Y H,kvs[i]?=some (k,v)->Pv i Y H->g (kV k) Y H fun σ2 H2=>tb { D.thaw a kvs with nx:=Pv (i+1),ct:=Pv (i+1),bk:=(D.thaw a kvs).nx } σ2 H2)(hd:∀ Y H,Pv kvs.length Y H->D.nx Y (A0 H a (.dK kvs))):ForIt (eK a o kvs) g tb (D.thaw a kvs) Y H:=by
 refine ⟨fun i m Y H=>m=kvs.length-i/\i<=kvs.length/\Pv i Y H,⟨kvs.length,by simp,G3 _,h0⟩,?_⟩;rintro i m Y H ⟨rfl,hi,p⟩;have e:=hl i Y H p
 by_cases C4:i<kvs.length
 .refine .inr ⟨⟨e,C4⟩,Pv (i+1),fun σ' H' p'=>⟨_,by lia,rfl,C4,p'⟩,fun v H' y=>?_⟩;obtain ⟨rfl,k,v',hk,rfl⟩:=y;exact hs i k v' Y _ hk p
 .have e2:i=kvs.length:=by lia
  subst e2;exact .inl ⟨⟨e,A8 _⟩,⟨o,e⟩,hd Y H p⟩
end L2
set_option maxRecDepth 100000
namespace L2
open PySem PySem.Spec PyProof.Rows
noncomputable def W5 (row:List Str):List (Str×Str):=row.zip row.tail
noncomputable def edges (rows:List (List Str)):List (Str×Str):=rows.flatMap W5
noncomputable def F9 (E:List (Str×Str)) (p:Str):List Str:=(E.filter fun e=>decide (e.1=p)).map (·.2)
noncomputable def G4 (E:List (Str×Str)) (line:List Str) (q:Str):Nat:=E.countP fun e=>decide (e.2=q) && !decide (e.1∈line)
noncomputable def cntIn (E:List (Str×Str)) (S:List Str) (q:Str):Nat:=E.countP fun e=>decide (e.2=q)&&decide (e.1∈S)
theorem alx(E:List (Str×Str))(a b p:Str):F9 (E++[(a,b)]) p=if a=p then F9 E p++[b] else F9 E p:=by
 unfold F9;rw [dN,D9]
 by_cases h:a=p
 .rw [if_pos h,fX (by simpa using h)];rfl
 .rw [if_neg h,bK (by simpa using h)];simp
theorem af6(E:List (Str×Str))(p q:Str):(F9 E p).count q=E.countP fun e=>decide (e.2=q)&&decide (e.1=p):=by
 induction E with
 | nil=>rfl
 | cons e E ih=>
  unfold F9 at ih ⊢
  by_cases h:e.1=p
  .rw [fX (by simpa using h),K0,List.count_cons,ih,bM]
   by_cases h2:e.2=q
   .simp [h,h2]
   .simp [h,h2]
  .rw [bK (by simpa using h),ih,bM];simp [h]
theorem ail{E:List (Str×Str)}{S:List Str}{p:Str}(h:p∉S):cntIn E (S++[p]) q=cntIn E S q+(F9 E p).count q:=by
 rw [af6];unfold cntIn
 induction E with
 | nil=>rfl
 | cons e E ih=>
  rw [bM,bM,bM,ih]
  by_cases h2:e.2=q
  .by_cases h1:e.1=p
   .have:e.1∉S:=by rw [h1];exact h
    simp [h2,h1,h];lia
   .by_cases h3:e.1∈S
    .simp [h2,h1,h3];lia
    .simp [h2,h1,h3]
  .simp [h2]
theorem ahI{E:List (Str×Str)}{p:Str}(h:p∉line):G4 E line q=G4 E (line++[p]) q+(F9 E p).count q:=by
 rw [af6];unfold G4
 induction E with
 | nil=>rfl
 | cons e E ih=>
  rw [bM,bM,bM,ih]
  by_cases h2:e.2=q
  .by_cases h1:e.1=p
   .simp [h2,h1,h];lia
   .by_cases h3:e.1∈line
    .simp [h2,h1,h3]
    .simp [h2,h1,h3];lia
  .simp [h2]
theorem ajH{E:List (Str×Str)}{S:List Str}(h:∀ e∈E,e.1∈S)(q:Str):cntIn E S q=G4 E [] q:=by
 unfold cntIn G4;refine List.countP_congr fun e he=>?_
 simp [h e he]
theorem ajI(E:List (Str×Str))(q:Str):cntIn E [] q=0:=by
 unfold cntIn
 simp
theorem cnt_zero{E:List (Str×Str)} : G4 E line q=0↔∀ e∈E,e.2=q->e.1∈line:=by
 unfold G4;rw [List.countP_eq_zero]
 constructor
 .intro h e he h2
  have:=h e he
  simpa [h2] using this
 .intro h e he
  by_cases h2:e.2=q
  .simp [h2,h e he h2]
  .simp [h2]
noncomputable def nextP (E:List (Str×Str)) (ts pre:List Str):Option Str:=(ts.filter fun p=>!decide (p∈pre)).find? fun p=>decide (G4 E pre p=0)
noncomputable def U9 (E:List (Str×Str)) (ts line:List Str):Prop:=∀ pre q post,line=pre++q::post->nextP E ts pre=some q
theorem U9.nil(E:List (Str×Str))(ts:List Str):U9 E ts []:=fun pre q post h=>by
 have:=congrArg g9 h
 simp at this
theorem U9.snoc{E:List (Str×Str)}{p:Str}(r:U9 E ts line)(h:nextP E ts line=some p):U9 E ts (line++[p]):=fun pre q post e=>by
 rcases List.append_eq_append_iff.mp e with ⟨m,h1,h2⟩ | ⟨m,h1,h2⟩
 .cases m with
  | nil=>
   rw [N0] at h1;rw [t9] at h2
   cases (l6.inj h2).1
   rw [h1];exact h
  | cons a m=>
   have:=congrArg g9 h2
   simp at this
 .cases m with
  | nil=>
   rw [N0] at h1;rw [t9] at h2
   cases (l6.inj h2).1
   rw [<- h1];exact h
  | cons a m=>
   rw [k7] at h2;have h3:=(l6.inj h2).1;exact r pre q m (by rw [h1,h3])
theorem kO{E:List (Str×Str)}{pre:List Str}(h:nextP E ts pre=some q):q∈ts/\q∉pre/\G4 E pre q=0:=by
 have h1:=List.mem_of_find?_eq_some h;have h2:=List.find?_some h;rw [T5] at h1;exact ⟨h1.1,by simpa using h1.2,by simpa using h2⟩
theorem U9.nodup{E:List (Str×Str)} : ∀ {line:List Str},U9 E ts line->line.Nodup:=by
 intro line r;rw [s0,bI];intro i j hi hj O9 e;have e1:line=line.take j++line[j]::line.drop (j+1):=by rw [<- dL hj,g3]
 have:=(kO (r _ _ _ e1)).2.1
 exact this (W8.mpr ⟨i,by rw [G6];lia,by rw [List.getElem_take];exact e⟩)
theorem U9.sub{E:List (Str×Str)}(r:U9 E ts line)(h:q∈line):q∈ts:=by
 obtain ⟨pre,post,e⟩:=List.append_of_mem h;exact (kO (r pre q post e)).1
theorem aly{E:List (Str×Str)}{rank:Str->Nat}(hr:∀ e∈E,rank e.1<rank e.2)(hE:∀ e∈E,e.1∈ts)(hw:∃ p∈ts,p∉line):∃ q,nextP E ts line=some q:=by
 have key:∀ n p,rank p<=n->p∈ts->p∉line->∃ q∈ts,q∉line/\G4 E line q=0:=by
  intro n
  induction n with
  | zero=>
   intro p hp ht hl;refine ⟨p,ht,hl,cnt_zero.mpr fun e he h2=>?_⟩
   have:=hr e he
   rw [h2] at this;lia
  | succ n ih=>
   intro p hp ht hl
   by_cases hc:G4 E line p=0
   .exact ⟨p,ht,hl,hc⟩
   .have:∃ e∈E,e.2=p/\e.1∉line:=by
     refine Classical.byContradiction fun hn=>hc (cnt_zero.mpr fun e he h2=>Classical.byContradiction fun h3=>hn ⟨e,he,h2,h3⟩)
    obtain ⟨e,he,h2,h3⟩:=this;have h4:=hr e he;rw [h2] at h4;exact ih e.1 (by lia) (hE e he) h3
 obtain ⟨p,hp,hl⟩:=hw;obtain ⟨q,h1,h2,h3⟩:=key (rank p) p (A8 _) hp hl;cases h:nextP E ts line with
 | some q=>exact ⟨q,rfl⟩
 | none=>
  have:=List.find?_eq_none.mp h q (T5.mpr ⟨h1,by simpa using h2⟩)
  simp [h3] at this
theorem tL{E:List (Str×Str)}(nd:ts.Nodup)(r:U9 E ts line)(h:∀ p∈ts,p∈line):line.length=ts.length:=
 ((List.perm_ext_iff_of_nodup r.nodup nd).mpr fun a=>⟨r.sub,h a⟩).length_eq
theorem aeJ(E:List (Str×Str))(pre:List Str):∀ ts:List Str,nextP E ts pre=ts.find? fun p=>!decide (p∈pre)&&decide (∀ e∈E,e.2=p->e.1∈pre)
 | []=>rfl
 | t::ts=>by
  have ih:=aeJ E pre ts;unfold nextP at ih ⊢
  by_cases h:t∈pre
  .rw [bK (by simpa using h),k9,ih];simp [h]
  .rw [fX (by simpa using h),k9,k9,ih]
   by_cases h2:G4 E pre t=0
   .have:=cnt_zero.mp h2
    rw [decide_eq_true h2,decide_eq_true this];simp [h]
   .have:¬ ∀ e∈E,e.2=t->e.1∈pre:=fun z=>h2 (cnt_zero.mpr z)
    rw [decide_eq_false h2,decide_eq_false this];simp [h]
theorem aim{row:List Str}{e:Str×Str}(h:e∈W5 row):e.1∈row/\e.2∈row:=by
 unfold W5 at h;exact ⟨(List.of_mem_zip h).1,List.mem_of_mem_tail (List.of_mem_zip h).2⟩
theorem af7{rows:List (List Str)}{e:Str×Str}(h:e∈edges rows):e.1∈rows.flatten/\e.2∈rows.flatten:=by
 unfold edges at h;obtain ⟨row,h1,h2⟩:=g7.mp h
 have:=aim h2
 exact ⟨List.mem_flatten.mpr ⟨row,h1,this.1⟩,List.mem_flatten.mpr ⟨row,h1,this.2⟩⟩
noncomputable def B5 (ts:List Str) (f:Str->V):List (C1×V):=ts.map fun t=>(Sum.inr t,f t)
theorem tM(f:Str->V)(z:Str):∀ ts:List Str,((B5 ts f).any fun kv=>decide (kv.1=(Sum.inr z:C1)))=decide (z∈ts)
 | []=>by simp [B5]
 | y::ts=>by
  have ih:=tM f z ts;unfold B5 at ih ⊢
  rw [K0,u8,ih]
  by_cases e:y=z
  .subst e
   simp
  .have e1:decide ((Sum.inr y:C1)=Sum.inr z)=false:=decide_eq_false fun q=>e (Sum.inr.inj q)
   rw [e1,Bool.false_or]
   by_cases h:z∈ts
   .rw [decide_eq_true h,decide_eq_true (L6 _ h)]
   .rw [decide_eq_false h,decide_eq_false];intro q
    rcases E5.mp q with q | q
    .exact e q.symm
    .exact h q
theorem P1(f:Str->V)(z:Str):∀ ts:List Str,valV (B5 ts f) (Sum.inr z)=if z∈ts then some (f z) else none
 | []=>rfl
 | y::ts=>by
  have ih:=P1 f z ts;unfold B5 at ih ⊢
  rw [K0]
  by_cases e:y=z
  .subst e;rw [oE rfl,if_pos J9]
  .rw [aE (fun q=>e (Sum.inr.inj q)),ih]
   by_cases h:z∈ts
   .rw [if_pos h,if_pos (L6 _ h)]
   .rw [if_neg h,if_neg];intro q
    rcases E5.mp q with q | q
    .exact e q.symm
    .exact h q
theorem oU{f:Str->V}(v:V)(h:z∈ts):putK (B5 ts f) (Sum.inr z:C1) v=B5 ts fun t=>if t=z then v else f t:=by
 unfold putK;rw [tM,decide_eq_true h,if_pos rfl];unfold B5;rw [V8];refine fZ fun y _=>?_
 show (if (Sum.inr y:C1)=Sum.inr z then ((Sum.inr y:C1),v) else (Sum.inr y,f y))=((Sum.inr y:C1),if y=z then v else f y)
 by_cases e:y=z
 .rw [if_pos (by rw [e]),if_pos e]
 .rw [if_neg (fun q=>e (Sum.inr.inj q)),if_neg e]
theorem cG{f:Str->V}(v:V)(h:z∉ts):putK (B5 ts f) (Sum.inr z:C1) v=B5 (ts++[z]) fun t=>if t=z then v else f t:=by
 unfold putK;rw [tM,decide_eq_false h,if_neg L5];unfold B5;rw [D9]
 congr 1
 .refine fZ fun y hy=>?_
  show _=((Sum.inr y:C1),if y=z then v else f y);rw [if_neg (fun e:y=z=>h (by rw [<- e];exact hy))]
 .simp
theorem U0{f g:Str->V}(h:∀ t∈ts,f t=g t):B5 ts f=B5 ts g:=by
 unfold B5;exact fZ fun t ht=>by rw [h t ht]
theorem j3(f:Str->V)(ts:List Str):(B5 ts f).length=ts.length:=by unfold B5;rw [A4]
theorem amp{f:Str->V}{k:C1}{v:V}(h:(B5 ts f)[i]?=some (k,v)):∃ t,ts[i]?=some t/\k=Sum.inr t/\v=f t:=by
 unfold B5 at h;obtain ⟨t,h1,h2⟩:=K1 h;cases h2;exact ⟨t,h1,rfl,rfl⟩
theorem alz(f:Str->V)(ts:List Str):((B5 ts f).map fun kv=>kV kv.1)=ts.map V.str:=by
 unfold B5;rw [V8];rfl
structure DL(H0 H:Hp)(ts:List Str)(ad:Str->Addr)(F:Str->List Str):Prop where
 row:∀ t∈ts,H (ad t)=some (.lst ((F t).map V.str))
 inj:∀ t∈ts,∀ u∈ts,ad t=ad u->t=u
 new:∀ t∈ts,H0 (ad t)=none
theorem DL.same{ad:Str->Addr}{F:Str->List Str}(x:DL H0 H ts ad F)(s:Same H H'):DL H0 H' ts ad F:=⟨fun t h=>s _ _ (x.row t h),x.inj,x.new⟩
theorem DL.app{ad:Str->Addr}{F:Str->List Str}(x:DL H0 H ts ad F)(hz:z∈ts)(ys:List Str):DL H0 (A0 H (ad z) (.lst (ys.map V.str))) ts ad fun t=>if t=z then ys else F t:=by
 refine ⟨fun t ht=>?_,x.inj,x.new⟩;show _=some (HO.lst ((if t=z then ys else F t).map V.str))
 by_cases e:t=z
 .subst e;rw [A2,if_pos rfl]
 .rw [A3 (fun q=>e (x.inj t ht z hz q)),if_neg e];exact x.row t ht
theorem DL.more{ad:Str->Addr}{F:Str->List Str}(x:DL H0 H ts ad F)(hz:z∉ts)(np:H p=none)(n0:H0 p=none):DL H0 (A0 H p (.lst [])) (ts++[z]) (fun t=>if t=z then p else ad t) fun t=>if t=z then [] else F t:=by
 have ne:∀ t∈ts,t≠z:=fun t ht e=>hz (by rw [<- e];exact ht)
 have nad:∀ t∈ts,ad t≠p:=fun t ht e=>by have:=x.row t ht;rw [e,np] at this;cases this
 have cases':∀ t,t∈ts++[z]->(t∈ts/\t≠z)\/t=z:=fun t ht=>by
  rcases D3.mp ht with h | h
  .exact .inl ⟨h,ne t h⟩
  .exact .inr (D1.mp h)
 refine ⟨fun t ht=>?_,fun t ht u hu e=>?_,fun t ht=>?_⟩
 .show A0 H p (.lst []) (if t=z then p else ad t)=some (.lst ((if t=z then [] else F t).map V.str))
  rcases cases' t ht with ⟨h1,h2⟩ | rfl
  .rw [if_neg h2,if_neg h2,A3 (nad t h1)];exact x.row t h1
  .rw [if_pos rfl,if_pos rfl,A2];rfl
 .have e:(if t=z then p else ad t)=(if u=z then p else ad u):=e
  rcases cases' t ht with ⟨h1,h2⟩ | rfl <;> rcases cases' u hu with ⟨h3,h4⟩ | rfl
  .rw [if_neg h2,if_neg h4] at e;exact x.inj t h1 u h3 e
  .rw [if_neg h2,if_pos rfl] at e;exact absurd e (nad t h1)
  .rw [if_pos rfl,if_neg h4] at e;exact absurd e.symm (nad u h3)
  .rfl
 .show H0 (if t=z then p else ad t)=none
  rcases cases' t ht with ⟨h1,h2⟩ | rfl
  .rw [if_neg h2];exact x.new t h1
  .rw [if_pos rfl];exact n0
theorem alA(h:acc.Nodup)(z:Str):(dd acc z).Nodup:=by
 unfold dd
 split
 .exact h
 .rename_i hz
  rw [Z7];refine ⟨h,by simp,fun a ha b hb e=>hz ?_⟩;rw [<- D1.mp hb,<- e];exact ha
theorem tN:∀ {zs acc:List Str},acc.Nodup->(J5 acc zs).Nodup
 | [],_,h=>h
 | z::zs,acc,h=>tN (zs:=zs) (alA h z)
theorem oV(zss:List (List Str)):(toldL zss).Nodup:=by
 unfold toldL;rw [oM];exact tN (by simp)
theorem v8(x:Str):∀ (zs acc:List Str),x∈J5 acc zs↔x∈acc\/x∈zs
 | [],acc=>by simp [J5]
 | z::zs,acc=>by
  show x∈J5 (dd acc z) zs↔_;rw [v8 x zs];unfold dd
  by_cases h:z∈acc
  .rw [if_pos h,E5]
   constructor
   .rintro (h1 | h1)
    .exact .inl h1
    .exact .inr (.inr h1)
   .rintro (h1 | rfl | h1)
    .exact .inl h1
    .exact .inl h
    .exact .inr h1
  .rw [if_neg h,D3,D1,E5,or_assoc]
theorem tO(x:Str)(zss:List (List Str)):x∈toldL zss↔x∈zss.flatten:=by
 unfold toldL;rw [oM,v8]
 simp
theorem ain{zss:List (List Str)}{e:Str×Str}(h:e∈edges zss):e.1∈toldL zss/\e.2∈toldL zss:=⟨(tO _ _).mpr (af7 h).1,(tO _ _).mpr (af7 h).2⟩
theorem aio{zss:List (List Str)}(h:zss[i]?=some zs):edges (zss.take (i+1))=edges (zss.take i)++W5 zs:=by
 rw [g4,h];unfold edges;rw [Y4]
 simp
theorem tP(zs:List Str):(W5 zs).length=min zs.length zs.tail.length:=by unfold W5;rw [List.length_zip]
theorem ajJ(h1:zs[j]?=some x)(h2:zs.tail[j]?=some y):(W5 zs)[j]?=some (x,y):=by
 unfold W5;rw [List.getElem?_zip_eq_some];exact ⟨h1,h2⟩
theorem af8(zss:List (List Str)):(edges zss).length<=zss.flatten.length:=by
 induction zss with
 | nil=>exact A8 _
 | cons zs zss ih=>
  unfold edges at ih ⊢
  rw [Q9,C8,gE,C8,tP];lia
theorem DL.put{ad:Str->Addr}{F:Str->List Str}(x:DL H0 H ts ad F){o u:HO}(hb:H0 b=some u):DL H0 (A0 H b o) ts ad F:=
 ⟨fun t ht=>by rw [A3 (fun e=>by have:=x.new t ht;rw [e,hb] at this;cases this)];exact x.row t ht,x.inj,x.new⟩
theorem DL.congr{ad:Str->Addr}{F G:Str->List Str}(x:DL H0 H ts ad F)(h:∀ t∈ts,F t=G t):DL H0 H ts ad G:=⟨fun t ht=>by rw [<- h t ht];exact x.row t ht,x.inj,x.new⟩
theorem DL.old{H00:Hp}{ad:Str->Addr}{F:Str->List Str}(x:DL H0 H ts ad F)(s:Same H00 H0):DL H00 H ts ad F:=⟨x.row,x.inj,fun t ht=>s.free (x.new t ht)⟩
theorem tQ(nd:ts.Nodup)(h:ts[i]?=some z):z∉ts.take i:=fun hm=>by
 obtain ⟨hi,e⟩:=E9.mp h;obtain ⟨j,hj,e2⟩:=W8.mp hm;rw [G6] at hj;rw [List.getElem_take] at e2
 have:=(s0.mp nd)
 rw [bI] at this;exact this j i (by lia) hi (by lia) (e2.trans e.symm)
theorem K8{α:Type}{ts:List α}{z:α}(h:ts[i]?=some z):ts.take (i+1)=ts.take i++[z]:=by rw [g4,h];rfl
noncomputable def SameBut (d:Addr) (H H':Hp):Prop:=∀ b o,b≠d->H b=some o->H' b=some o
theorem SameBut.put{d q:Addr}{u:HO}(s:SameBut d H0 H)(n:H0 q=none):SameBut d H0 (A0 H q u):=fun b o hb h=>by rw [A3 (aA h n)];exact s b o hb h
theorem SameBut.thaw{d:Addr}{u:HO}(s:SameBut d H0 H)(h:H0 d=some u):Same H0 (A0 H d u):=fun b o hb=>by
 by_cases e:b=d
 .subst e;rw [A2,<- hb,h]
 .rw [A3 e];exact s b o e hb
theorem RowsAt.grow{q:Addr}{zss:List (List Str)}(R:RowsAt H0 H a rs zss)(S:Same H H')(hq:H q=none)(aT:H' q=some (.lst (zs.map V.str))):RowsAt H0 (A0 H' a (.lst (rs.map V.ref++[V.ref q]))) a (rs++[q]) (zss++[zs]):=by
 have nq:∀ r∈a::rs,r≠q:=fun r hr z=>by
  obtain ⟨o,e⟩:=R.live hr;rw [z,hq] at e;cases e
 obtain ⟨na,_⟩:=U5.mp R.nd;refine ⟨⟨by rw [A2,D9];rfl,?_⟩,?_,?_,?_⟩
 .refine Paired.snoc (gS R.rows.row fun r hr zs h=>?_) ?_
  .rw [A3 (fun z:r=a=>na (by rw [<- z];exact hr))];exact S _ _ h
  .rw [A3 (nq a J9).symm];exact aT
 .show (a::(rs++[q])).Nodup;exact oF R.nd fun h=>nq q h rfl
 .intro r hr
  rcases E5.mp hr with h | h
  .exact R.new r (by rw [h];exact J9)
  .rcases D3.mp h with h | h
   .exact R.new r (L6 _ h)
   .rw [D1.mp h];exact R.same.free hq
 .exact (R.same.trans S).put (R.new a J9)
noncomputable def spFol:Sp:=fun vs H Q _=>∃ (a:Addr) (rs:List Addr) (zss:List (List Str)),vs=[.ref a]/\IsRows H a rs zss/\zss.flatten.length<=100000/\
 ∀ (d:Addr) (ad:Str->Addr) (H':Hp),H d=none->Same H H'->H' d=some (.dK (B5 (toldL zss) fun t=>.ref (ad t)))->DL H H' (toldL zss) ad (F9 (edges zss))->Q (.ref d) H'
noncomputable def ajK:Sp:=fun vs H Q _=>∃ (d:Addr) (ts:List Str) (ad:Str->Addr) (E:List (Str×Str)),vs=[.ref d]/\H d=some (.dK (B5 ts fun t=>.ref (ad t)))/\ts.Nodup/\ts.length<=100000/\E.length<=100000/\
 (∀ t∈ts,H (ad t)=some (.lst ((F9 E t).map V.str)))/\(∀ e∈E,e.1∈ts/\e.2∈ts)/\∀ c H',H c=none->Same H H'->H' c=some (.dK (B5 ts fun t=>.int (G4 E [] t:Nat)))->Q (.ref c) H'
theorem af9:∀ {l m:List Str},l.Nodup->(∀ x∈l,x∈m)->l.length<=m.length
 | [],_,_,_=>G3 _
 | x::l,m,nd,h=>by
  obtain ⟨n1,n2⟩:=U5.mp nd;have hx:=h x J9
  have:=af9 (l:=l) (m:=m.erase x) n2 fun y hy=>(List.mem_erase_of_ne (fun e=>n1 (by rw [<- e];exact hy))).mpr (h y (L6 _ hy))
  rw [List.length_erase_of_mem hx] at this;have fJ:=List.length_pos_of_mem hx;rw [K9];lia
noncomputable def ajL:Sp:=fun vs H Q _=>∃ (a:Addr) (rs:List Addr) (zss:List (List Str)) (rank:Str->Nat),vs=[.ref a]/\IsRows H a rs zss/\zss.flatten.length<=100000/\(∀ e∈edges zss,rank e.1<rank e.2)/\
 ∀ (l:Addr) (line:List Str) (H':Hp),H l=none->Same H H'->H' l=some (.lst (line.map V.str))->U9 (edges zss) (toldL zss) line->(∀ p∈toldL zss,p∈line)->Q (.ref l) H'
theorem SameBut.free{d:Addr}(s:SameBut d H0 H)(n:H p=none)(h:p≠d):H0 p=none:=by
 cases e:H0 p with
 | none=>rfl
 | some o=>
  have:=s p o h e
  rw [n] at this;cases this
theorem SameBut.same{d:Addr}(s:SameBut d H1 H2)(S:Same H H1)(n:H d=none):Same H H2:=fun b o h=>s b o (aA h n) (S b o h)
theorem SameBut.refl(d:Addr)(H:Hp):SameBut d H H:=fun _ _ _ h=>h
theorem SameBut.at{d:Addr}{o:HO}(s:SameBut d H H'):SameBut d H (A0 H' d o):=fun b u hb h=>by rw [A3 hb];exact s b u hb h
noncomputable def one (c:Nat):Str:=⟨#[c]⟩
noncomputable def two (c d:Nat):Str:=⟨#[c,d]⟩
end L2
set_option maxRecDepth 100000
namespace L2
open PySem PySem.Spec PyProof.Rows
section
variable {X:Cx}
noncomputable def rAnyB (calm:Bool):List V->Hp->VK->Prop
 | [.ref p],H,Q=>∃ bs:List Bool,calm=true/\H p=some (.lst (bs.map V.bl))/\Q (.bl (bs.any id)) H
 | _,_,_=>False
theorem p_any:CallR X (.builtin "any") (rAnyB X.calm):=by
 intro pins s Y H xs us Q I r h
 match xs,h with
 | [.ref p],⟨bs,hc,hp,q⟩=>
  obtain ⟨u,rfl,rx⟩:=vals1 r
  cases rx
  obtain ⟨z,its,n,rv,hl,e⟩:=I.lstM hp;have pl:s.heap.IsList p its.toArray:=⟨_,e,rfl,n,rfl⟩
  refine call_any_walk (wpAny_pyIter_list pl ?_);have J7:p≠s.heap.objs.size:=K3 (Heap.lt_size e);have hk:∀ b o,s.heap.get? b=some o->(s.heap.push { cls:=.type "list_iterator",data:=.fields #[.ref p,.int 0 0] }).get? b=some o:=fun b o q=>Heap.get?_push_of_some _ q
  refine ⟨_,_,_,_,_,_,fun i=>(bs[i]?).getD false,rfl,Walks.list (show X.A.in1.handled=none from I.ok.hd hc) s.heap.objs.size p J7 its.toArray,⟨⟨_,Heap.get?_push_size _ rfl,rfl,rfl⟩,pl.at fun o q=>hk p o q⟩,?_,?_⟩
  .intro i v s' Q' E' hv hq;have qF:its[i]?=some v:=by simpa using hv
   have hb:∃ b,bs[i]?=some b/\v=.bool b:=by
    cases eb:(bs.map V.bl)[i]? with
    | none=>
     have:=rv.none_of eb
     rw [qF] at this
     cases this
    | some y=>
     obtain ⟨u,h1,h2⟩:=rv.get eb;rw [qF] at h1;cases h1;rw [L7] at eb;cases e3:bs[i]? with
     | none=>rw [e3] at eb;cases eb
     | some b=>
      rw [e3] at eb;cases eb;exact ⟨b,rfl,h2⟩
   obtain ⟨b,e1,rfl⟩:=hb;have hq:Q' ((bs[i]?).getD false) s':=hq;rw [e1] at hq;exact wpAny_truthy_bool hq
  .intro h' tk mK;have e1:(P6 its.toArray.size).any (fun i=>(bs[i]?).getD false)=bs.any id:=by
    have A7:its.toArray.size=bs.length:=by
     rw [F6,<- hl,A4]
    rw [A7,gH,List.any_eq_true,List.any_eq_true]
    constructor
    .rintro ⟨i,hi,hb⟩;rw [W9] at hi;rw [F8 hi,Option.getD_some] at hb;exact ⟨bs[i],List.getElem_mem hi,hb⟩
    .rintro ⟨b,hb,ht⟩;obtain ⟨i,hi,rfl⟩:=W8.mp hb;exact ⟨i,W9.mpr hi,by rw [F8 hi];exact ht⟩
   rw [e1];have I1:Inv X pins Y H { s with heap:=h',toks:=tk }:=I.kept fun b o q=>mK b o (by
    intro hm
    have:b=s.heap.objs.size:=by simpa using hm
    rw [this] at q;exact absurd (Heap.lt_size q) (l7 _)) (hk b o q)
   exact ⟨.bl _,H,I1,rfl,q⟩
theorem q_any(mC:X.calm=calm:=by rfl):QCall X (.builtin "any") (rAnyB calm):=by subst mC;exact ⟨p_any⟩
theorem any_r{cm:Bool} : rAnyB cm [.ref p] H Q=∃ bs:List Bool,cm=true/\H p=some (.lst (bs.map V.bl))/\Q (.bl (bs.any id)) H:=rfl
end
noncomputable def kP (l : Addr) : It :=
  ⟨fun i H => ∃ xs x, H l = some (.lst xs) /\ xs[i]? = some x,
   fun i H v H' => ∃ t xs x, H l = some (.lst xs) /\ xs[i]? = some x /\ H t = none /\ v = .ref t /\ H' = A0 H t (.tup [.int i, x]),
   fun i H => ∃ xs, H l = some (.lst xs) /\ xs.length <= i⟩
theorem ajM{P:Program}{w:World}{pos:Pos}(e it l:Addr)(J7:e≠it) :
  Turn P w K (.Tuple elts x1 pos) (kP l) [e,it] e (fun i h=>(∃ old,IsEnum h e it ((i:Nat):Int) old)/\h.IsListIter it l i) where
 mem:=by simp
 obj:=fun i h ⟨⟨old,he⟩,hi⟩ c hc=>by
  have q:c=e\/c=it:=by simpa using hc
  rcases q with rfl | rfl
  .exact ⟨_,he,fun v q=>by cases q⟩
  .obtain ⟨o,e,c,d⟩:=hi;exact ⟨o,e,fun v z=>by rw [d] at z;cases z⟩
 keep:=fun i h h' ⟨⟨old,he⟩,hi⟩ k=>⟨⟨old,k e (by simp) _ he⟩,hi.at fun o q=>k it (by simp) o q⟩
 item:=by
  intro X hP hw hK hc i pins s Y H E I hf ⟨⟨old,he⟩,hi⟩ hg;subst hP hw hK;obtain ⟨xs,x,e1,hx⟩:=hg;obtain ⟨its1,Z2,p1,_⟩:=I.list (C7.of (K:=X.K) e1);obtain ⟨u1,C5,r1⟩:=Z2.get hx;refine wpAny_pyNext_enum_item he hi p1.isList (x:=u1) (by simpa using C5) J7 fun h' b1 b2 b3 b4 b5=>⟨_,rfl,wpAny_letOwnedTupleGo_enum b1 fun h2' c1 c2=>?_⟩
  have o8:e<s.heap.objs.size:=Heap.lt_size he;have up:∀ c o,c≠e->h'.get? c=some o->h2'.get? c=some o:=fun c o hc q=>(c2.2 c hc).trans q
  have hT:=up _ _ (i0 o8) b3;have nT:∀ c∈[e,it],c≠s.heap.objs.size:=fun c hc=>by
   have q:c=e\/c=it:=by simpa using hc
   refine K3 ?_
   rcases q with rfl | rfl
   .exact o8
   .obtain ⟨o,q,_⟩:=hi;exact Heap.lt_size q
  refine ⟨.ref s.heap.objs.size,A0 H s.heap.objs.size (.tup [.int i,x]),I.turnNew (t':=s.toks+1) (ch:=[e,it]) hf (fun c u hc q=>?_) (A8 _) ⟨by show 2<=sizeLine;decide,[.int i s.toks,u1],.cons ⟨_,rfl⟩ (.cons r1 .nil),?_⟩,rfl,⟨_,xs,x,e1,hx,I.fresh,rfl,rfl⟩,
   ⟨⟨_,c1⟩,b2.at fun o q=>up _ o J7.symm q⟩,fun c hc=>by rw [A3 (nT c hc)];exact (hf c hc).1⟩
  .have q1:c≠e/\c≠it:=⟨fun q=>hc (by simp [q]),fun q=>hc (by simp [q])⟩
   exact up c u q1.1 (b5 c u q1.1 q1.2 q)
  .exact ⟨_,hT,rfl,_,rfl⟩
 done:=by
  intro X hP hw hK hc i pins s Y H E I hf ⟨⟨old,he⟩,hi⟩ hg;subst hP hw hK;obtain ⟨xs,e1,fG⟩:=hg;obtain ⟨its1,Z2,p1,_⟩:=I.list (C7.of (K:=X.K) e1);have q1:=Z2.length;obtain ⟨f0,f1,f2,f3,f4,f5⟩:=hf it (by simp);exact wpAny_pyNext_enum_end (I.ok.hd hc) he hi p1.isList (by simp;lia) fun h' eb=>⟨rfl,I.turned (t':=s.toks) (fun b o hb q=>eb b o hb q) f0 f1 f3 f4 f5⟩
 self:=fun _ _ _ _ _ st h=>by
  obtain ⟨⟨old,he⟩,_⟩:=st;exact wpAny_pyIter_enum he h
section
variable {X:Cx}
noncomputable def iEnum (ta:TA):TI:=fun Y H R=>ta Y H fun vs H1=>∃ (l:Addr) (xs:List V),vs=[.ref l]/\H1 l=some (.lst xs)/\R (kP l) H1
theorem anR{a:Expr}{p pos:Pos}(hg:Gl X "enumerate")(hm:X.mg "enumerate"=none)(ha:PA X [a] ta)(h1:K4 a=false:=by rfl) :
  PI X (.Tuple elts x1 tpos) (.Call (.Name "enumerate" p) [a] [] pos) (iEnum ta):=by
 intro pins s Y H R I h;refine Call_ (aB I hg hm boot_enumerate (PyProof.Rows.callWith_type1 (A9 (ha pos pins s Y H _ I h) fun us s1 ⟨vs,H1,I1,r1,q1⟩=>?_) (M9 h1) rfl));obtain ⟨l,xs,rfl,e1,q⟩:=q1;obtain ⟨u1,rfl,fH⟩:=vals1 r1
 cases fH
 obtain ⟨its1,Z2,p1,_⟩:=I1.list (C7.of (K:=X.K) e1);refine call_enumerate_list p1.isList fun h' z1 z2 z3 z4=>wpAny_pyIter_enum z1 ?_
 refine ⟨s1.heap.objs.size+1,[s1.heap.objs.size+1,s1.heap.objs.size],_,_,H1,rfl,I1.kept (t':=s1.toks) z4,ajM _ s1.heap.objs.size l (j0 (by lia)),⟨⟨_,z1⟩,z2⟩,fun b hb=>?_,q⟩;have X9:s1.heap.objs.size<=b:=by
  have e:b=s1.heap.objs.size+1\/b=s1.heap.objs.size:=by simpa using hb
  rcases e with rfl | rfl
  .exact bP _ _
  .exact A8 _
 exact I1.fpOk X9 (I1.hok.fresh X9)
theorem tR{a:Expr}{p pos:Pos}(hm:X.mg "enumerate"=none)(ha:QA X [a] ta)(hg:Gl X "enumerate":=by rfl)(h1:K4 a=false:=by rfl) :
  QI X (.Tuple elts x1 tpos) (.Call (.Name "enumerate" p) [a] [] pos) (iEnum ta):=⟨anR hg hm ha.out h1⟩
end
theorem alB{R:It->Hp->Prop} : iEnum ta Y H R=ta Y H fun vs H1=>∃ (l:Addr) (xs:List V),vs=[.ref l]/\H1 l=some (.lst xs)/\R (kP l) H1:=rfl
theorem forE{l:Addr}(Pv:Nat->St->Hp->Prop)(h0:Pv 0 Y H)(hl:∀ i Y H,Pv i Y H->H l=some (.lst xs))(hs:∀ i x t Y H,xs[i]?=some x->Pv i Y H->H t=none->g (.ref t) Y (A0 H t (.tup [.int i,x])) fun σ2 H2=>tb { D with nx:=Pv (i+1),ct:=Pv (i+1),bk:=D.nx } σ2 H2)(hd:∀ Y H,Pv xs.length Y H->D.nx Y H):ForIt (kP l) g tb D Y H:=by
 refine ⟨fun i m Y H=>m=xs.length-i/\i<=xs.length/\Pv i Y H,⟨xs.length,by simp,G3 _,h0⟩,?_⟩;rintro i m Y H ⟨rfl,hi,p⟩;have e1:=hl i Y H p
 by_cases C4:i<xs.length
 .refine .inr ⟨⟨xs,xs[i],e1,by simp⟩,Pv (i+1),fun σ' H' p'=>⟨_,by lia,rfl,C4,p'⟩,fun v H' y=>?_⟩;obtain ⟨t,xs',x,f1,hx,ht,rfl,rfl⟩:=y;rw [e1] at f1;cases f1;exact hs i x t Y H hx p ht
 .have e:i=xs.length:=by lia
  subst e;exact .inl ⟨⟨xs,e1,by lia⟩,hd Y H p⟩
noncomputable def MO (P:Program) (w:World) (K:PySem.W.Frag) (mg:Str->Option Value) (base:Heap) (k:Nat) (C:Addr) (m:Str) (ps:List Str) (sp:Sp):Prop:=
 ∃ f fd,FnOk P w K mg base E8 k f fd ps sp/\Cls K C/\Meth K C m f/\Binds K fd ps []
noncomputable def KO (P:Program) (w:World) (K:PySem.W.Frag) (mg:Str->Option Value) (base:Heap) (k:Nat) (C:Addr) (x:Str) (ps:List Str) (sp:Sp):Prop:=
 ∃ f fd,FnOk P w K mg base E8 k f fd ps sp/\Mk K C f/\mg x=some (.ref C)/\Binds K fd ps []
section
variable {X:Cx} {k:Nat} {C:Addr} {ps:List Str} {sp:Sp} {x m:Str} {p pos apos:Pos} {e o:Expr} {es:List Expr} {ta:TE} {t:TA}
theorem anS(G:KO X.prog X.w X.K X.mg X.base k C x ps sp)(hr:Room (k+1) X.A)(ha:QA X (e::es) t)(hg:Gl X x:=by rfl)(h1:K4 e=false:=by rfl)(h2:W4 es=true:=by rfl)(Q7:(x==("__debug__" : Str))=false:=by decide) :
  QE X (.Call (.Name x p) (e::es) [] pos) (tMake C sp [] E0 t):=by
 obtain ⟨f,fd,F,M,hm,hb⟩:=G;exact ⟨amY M F hr hg hm hb .nil pass0 ha.out Q7 (M9 h1) (eD h2)⟩
theorem anT(ho:QE X o ta)(G:MO X.prog X.w X.K X.mg X.base k C m ps sp)(hr:Room k X.A)(ha:QA X (e::es) t)(h1:K4 e=false:=by rfl)(h2:W4 es=true:=by rfl){pl:Sem Bool}(ht:eval (.Call (.Attribute o m apos) (e::es) [] pos) X.env=(do
   let ov <- eval o X.env
   standAt apos.atName
   let (f,first) <- holding [ov] (getMethod ov m pl)
   callWith pos f first (backTo pos (starEach (e::es) X.env)) (backToKw pos (keywordEach [] X.env))):=by rfl) :
  QE X (.Call (.Attribute o m apos) (e::es) [] pos) (tMeth C m sp [] E0 ta t):=by
 obtain ⟨f,fd,F,c,hm,hb⟩:=G;exact ⟨amX ho.out c hm F hr hb .nil pass0 ha.out (M9 h1) (eD h2) ht⟩
theorem alC(ho:QE X o ta)(G:MO X.prog X.w X.K X.mg X.base k C m ps sp)(hr:Room k X.A){pl:Sem Bool}(ht:eval (.Call (.Attribute o m apos) [] [] pos) X.env=(do
   let ov <- eval o X.env
   standAt apos.atName
   let (f,first) <- holding [ov] (getMethod ov m pl)
   callWith pos f first (backTo pos (starEach [] X.env)) (backToKw pos (keywordEach [] X.env))):=by rfl) :
  QE X (.Call (.Attribute o m apos) [] [] pos) (tMeth C m sp [] E0 ta tNil):=by
 obtain ⟨f,fd,F,c,hm,hb⟩:=G;exact ⟨akP ho.out c hm F hr hb .nil pass0 ht⟩
end
section
variable {C:Addr} {m f:Str} {sp:Sp} {K:PySem.W.Frag} {ta tv:TE} {t:TA} {Y:St} {H:Hp} {Q:VK} {D:Ends}
theorem anU:tMake C sp [] E0 t Y H Q=t Y H fun vs H1=>∀ x dx,H1 x=none->H1 dx=none->dx≠x->sp (.ref x::(vs++[])) (A0 (A0 H1 dx (.own x)) x (.ins C dx [])) (fun v H2=>v=.non/\Q (.ref x) H2) E0:=rfl
theorem anV:tMeth C m sp [] E0 ta t Y H Q=ta Y H fun x H1=>∃ a dx fs,x=.ref a/\H1 a=some (.ins C dx fs)/\fs.lookup m=none/\t Y H1 fun vs H2=>sp (x::(vs++[])) H2 Q E0:=rfl
theorem aqK:tFld K ta f Y H Q=ta Y H fun x H1=>∃ a C dx fs v,x=.ref a/\H1 a=some (.ins C dx fs)/\Cls K C/\NoAttr K C f/\fs.lookup f=some v/\Q v H1:=rfl
theorem anW:sFld K ta tv f D Y H=tv Y H fun y H1=>ta Y H1 fun x H2=>∃ a C dx fs,x=.ref a/\H2 a=some (.ins C dx fs)/\Cls K C/\NoAttr K C f/\fs.length<1000/\D.nx Y (A0 H2 a (.ins C dx (putF f y fs))):=rfl
end
section
variable {X:Cx} {o e:Expr} {apos cpos:Pos} {td ty:TE}
theorem tS(hu:X.A.units+1<cLine)(ho:QE X o td)(he:QE X e ty)(h1:K4 e=false:=by rfl)(G0:attributeBase o "get" X.env (eval o X.env)=eval o X.env:=by rfl)(G1:(apos.endLine==cpos.line)=true:=by rfl):QE X (.Call (.Attribute o "get" apos) [e] [] cpos) (sO td ty):=
 ⟨ak1 hu ho.out he.out ⟨G0,by rw [M9 h1];rfl,G1,by rw [M9 h1];rfl⟩⟩
theorem alD : sO td ty Y H Q=td Y H fun x H1=>∃ a,x=.ref a/\aF H1 a/\ty Y H1 fun y H2=>∃ o,DGet H2 a y o/\Q (o.getD .non) H2:=rfl
end
end L2
set_option maxRecDepth 100000
namespace L2
open PySem PySem.Spec PyProof.Rows
noncomputable abbrev Rl:=Str×List Str
noncomputable def tupR (z:Rl):HO:=.tup ((z.1::z.2).map V.str)
structure IsRules(H:Hp)(a:Addr)(rs:List Addr)(R:List Rl):Prop where
 top:H a=some (.lst (rs.map V.ref))
 row:Paired (fun r z=>H r=some (tupR z)) rs R
theorem IsRules.same{R:List Rl}(h:IsRules H a rs R)(s:Same H H'):IsRules H' a rs R:=⟨s _ _ h.top,O4 h.row fun _ _ e=>s _ _ e⟩
theorem IsRules.len{R:List Rl}(h:IsRules H a rs R):rs.length=R.length:=Paired.length h.row
noncomputable def O1 (z:Rl):List Str:=if z.1=("great" : Str) then z.2.drop 1 else if z.1=("as" : Str) then z.2.take 1 else if z.1=("row" : Str)\/z.1=("marks" : Str)\/z.1=("over" : Str) then z.2 else []
noncomputable def jobD (w:Str):Str:=if w=("row" : Str) then "letter" else if w=("marks" : Str) then "mark" else w
noncomputable def C9 (R:List Rl):List (Str×Str):=R.flatMap fun z=>(O1 z).map fun p=>(p,jobD z.1)
noncomputable def hasW (R:List Rl) (w:Str):Bool:=R.any fun z=>decide (z.1=w)
noncomputable def figO (c:Nat):Bool:=decide (48<=c)&&decide (c<=57)
noncomputable def kQ:List Str:=["letter", "mark", "over"]
noncomputable def NC (figs:Bool) (g:Str->Str) (PL:List (Str×Str)):Prop:=∀ i p j,PL[i]?=some (p,j)->j=g p/\(p∈(PL.take i).map (·.1)->j∈kQ)/\(figs=true->∀ c∈p.cps.toList,figO c=false)/\p.length<=1000
noncomputable def keysP (PL:List (Str×Str)):List Str:=J5 [] (PL.map (·.1))
theorem aeK{R:List Rl}{z:Rl}(h:R[i]?=some z):C9 (R.take (i+1))=C9 (R.take i)++(O1 z).map fun p=>(p,jobD z.1):=by
 rw [g4,h];unfold C9;rw [Y4]
 simp
theorem agb(R:List Rl)(i:Nat):∃ more,C9 R=C9 (R.take i)++more:=⟨C9 (R.drop i),by
 unfold C9;rw [<- Y4,g3]⟩
theorem aip(PL:List (Str×Str))(p j:Str):keysP (PL++[(p,j)])=dd (keysP PL) p:=by
 unfold keysP J5;rw [D9,y8];rfl
theorem kR(x:Str)(PL:List (Str×Str)):x∈keysP PL↔x∈PL.map (·.1):=by
 unfold keysP;rw [v8]
 simp
theorem tT(PL:List (Str×Str)):(keysP PL).length<=PL.length:=by
 have:=kI (PL.map (·.1)) []
 rw [A4] at this
 simpa [keysP] using this
noncomputable def rowsW (R:List Rl) (w:Str):List (List Str):=(R.filter fun z=>decide (z.1=w)).map (·.2)
theorem aeL{R:List Rl}{z:Rl}{w:Str}(h:R[i]?=some z):rowsW (R.take (i+1)) w=if z.1=w then rowsW (R.take i) w++[z.2] else rowsW (R.take i) w:=by
 rw [g4,h];unfold rowsW;rw [dN,D9]
 by_cases e:z.1=w
 .rw [if_pos e,Option.toList_some,fX (by simpa using e)];rfl
 .rw [if_neg e,Option.toList_some,bK (by simpa using e)];simp
theorem v9{hi:Option Int}(hk:1<=k)(hn:1<=n):¬ (HT.sIx n 0 (some (k:Int))=0/\HT.sIx n n hi=n):=fun h=>by
 have:=h.1
 rw [HT.sIx_nat] at this;lia
noncomputable abbrev jobsL:List (C1×V):=[((Sum.inr ("row" : Str):C1),V.str "letter"),(Sum.inr ("marks" : Str),V.str "mark"),(Sum.inr ("great" : Str),V.str "great"),(Sum.inr ("as" : Str),V.str "as"),(Sum.inr ("over" : Str),V.str "over")]
noncomputable def eL (w:Str):Prop:=w=("row" : Str)\/w=("marks" : Str)\/w=("great" : Str)\/w=("as" : Str)\/w=("over" : Str)
theorem tU{w:Str}(h:eL w):valV jobsL (Sum.inr w)=some (.str (jobD w)):=by
 rcases h with rfl | rfl | rfl | rfl | rfl <;> decide +kernel
theorem alE{w:Str}(h:¬ eL w):valV jobsL (Sum.inr w)=none:=by
 unfold eL at h;have n:∀ u:Str,w≠u->¬ ((Sum.inr u:C1)=Sum.inr w):=fun u hu e=>hu (Sum.inr.inj e).symm
 rw [aE (n _ (fun e=>h (.inl e))),aE (n _ (fun e=>h (.inr (.inl e)))),aE (n _ (fun e=>h (.inr (.inr (.inl e))))),aE (n _ (fun e=>h (.inr (.inr (.inr (.inl e)))))),aE (n _ (fun e=>h (.inr (.inr (.inr (.inr e))))))];rfl
theorem kT{z:Rl}{p:Str}(h:p∈O1 z):eL z.1:=by
 unfold O1 at h;unfold eL
 split at h
 .rename_i e;exact .inr (.inr (.inl e))
 .split at h
  .rename_i e;exact .inr (.inr (.inr (.inl e)))
  .split at h
   .rename_i e
    rcases e with e | e | e
    .exact .inl e
    .exact .inr (.inl e)
    .exact .inr (.inr (.inr (.inr e)))
   .cases h
theorem aqL{R:List Rl}{z:Rl}{p:Str}(hz:R[i]?=some z)(hp:(O1 z)[j]?=some p) :
  (C9 R)[(C9 (R.take i)).length+j]?=some (p,jobD z.1)/\(C9 R).take ((C9 (R.take i)).length+j)=C9 (R.take i)++((O1 z).take j).map fun p=>(p,jobD z.1):=by
 obtain ⟨more,e⟩:=agb R (i+1);rw [aeK hz,Q5] at e;have hj:j<(O1 z).length:=(E9.mp hp).1;rw [e]
 constructor
 .rw [jJ (bP _ _),Nat.add_sub_cancel_left,nN (by rw [A4];exact hj),L7,hp];rfl
 .rw [List.take_append,t7 (bP _ _),Nat.add_sub_cancel_left,List.take_append_of_le_length (by rw [A4];lia),dO]
theorem aqM{c d:Nat} : (([c]:List Nat)<[d])↔c<d:=by
 constructor
 .intro h;cases h with
  | rel h=>exact h
  | cons h=>cases h
 .intro h;exact List.Lex.rel h
theorem C6.same(e:Same H H')(h:C6 K H a xs):C6 K H' a xs:=by
 rcases h with (h | ⟨o,h⟩) | h
 .exact .inl (.inl (e _ _ h))
 .exact .inl (.inr ⟨o,e _ _ h⟩)
 .exact .inr h
theorem C6.dput{d:Addr}{o:HO}(hd:H d=some (.dK kvs))(h:C6 K H a xs):C6 K (A0 H d o) a xs:=by
 rcases h with (h | ⟨o,h⟩) | h
 .exact .inl (.inl (by rw [A3 (fun e=>by rw [e,hd] at h;cases h)];exact h))
 .exact .inl (.inr ⟨o,by rw [A3 (fun e=>by rw [e,hd] at h;cases h)];exact h⟩)
 .exact .inr h
noncomputable def spHas (K:PySem.W.Frag):Sp:=fun vs H Q _=>∃ (a:Addr) (ts:List Addr) (R:List Rl) (w:Str),vs=[.ref a,.str w]/\IsRules H a ts R/\R.length<=1000/\∀ H',Same H H'->Q (.bl (hasW R w)) H'
noncomputable def ajN (K:PySem.W.Frag):Sp:=fun vs H Q _=>∃ (t:Addr) (z:Rl),vs=[.ref t]/\H t=some (tupR z)/\∀ p H',Same H H'->C6 K H' p ((O1 z).map V.str)->Q (.ref p) H'
noncomputable def ajO:Sp:=fun vs H Q _=>∃ (d:Addr) (p j:Str) (fg:Bool) (ks:List Str) (g:Str->Str),vs=[.ref d,.str p,.str j,.bl fg]/\H d=some (.dK (B5 ks fun t=>.str (g t)))/\p.length<=1000/\(p∈ks->g p=j/\j∈kQ)/\(fg=true->∀ c∈p.cps.toList,figO c=false)/\
 ∀ H',Same H H'->Q (.bl false) H'
noncomputable def Y8 (R:List Rl):List Str:=if hasW R "blanks"=true then [" "] else []
noncomputable def jobG (g:Str->Str):Str->V:=fun t=>if t=(" " : Str) then .str "over" else .str (g t)
noncomputable def amq (K:PySem.W.Frag):Sp:=fun vs H Q _=>∃ (a:Addr) (ts:List Addr) (R:List Rl) (g:Str->Str),vs=[.ref a]/\IsRules H a ts R/\R.length<=1000/\(C9 R).length<=10000/\NC (hasW R "figures") g (C9 R)/\(" " : Str)∉(C9 R).map (·.1)/\
 ∀ d H',H d=none->Same H H'->H' d=some (.dK (B5 (keysP (C9 R)++Y8 R) (jobG g)))->Q (.ref d) H'
noncomputable def ordF (f b:Bool) (j ll ml md:Addr):List (Str×V):=putF "made" (.ref md) (putF "mark_line" (.ref ml) (putF "letter_line" (.ref ll) (putF "jobs" (.ref j) (putF "behind" (.bl b) (putF "figures" (.bl f) [])))))
theorem adB(f b:Bool)(j ll ml md:Addr):(ordF f b j ll ml md).lookup ("figures" : Str)=some (V.bl f):=by
 unfold ordF;rw [N5,if_neg (by decide +kernel),N5,if_neg (by decide +kernel),N5,if_neg (by decide +kernel),N5,if_neg (by decide +kernel),N5,if_neg (by decide +kernel),N5,if_pos rfl]
theorem ad6(f b:Bool)(j ll ml md:Addr):(ordF f b j ll ml md).lookup ("behind" : Str)=some (V.bl b):=by
 unfold ordF;rw [N5,if_neg (by decide +kernel),N5,if_neg (by decide +kernel),N5,if_neg (by decide +kernel),N5,if_neg (by decide +kernel),N5,if_pos rfl]
theorem ajP(f b:Bool)(j ll ml md:Addr):(ordF f b j ll ml md).lookup ("jobs" : Str)=some (V.ref j):=by
 unfold ordF;rw [N5,if_neg (by decide +kernel),N5,if_neg (by decide +kernel),N5,if_neg (by decide +kernel),N5,if_pos rfl]
theorem ajQ(f b:Bool)(j ll ml md:Addr){m:Str}(h:m∉(["made", "mark_line", "letter_line", "jobs", "behind", "figures"]:List Str)):(ordF f b j ll ml md).lookup m=none:=by
 unfold ordF;have n:∀ u∈(["made", "mark_line", "letter_line", "jobs", "behind", "figures"]:List Str),¬ m=u:=fun u hu e=>h (by rw [e];exact hu)
 rw [N5,if_neg (n _ (by simp)),N5,if_neg (n _ (by simp)),N5,if_neg (n _ (by simp)),N5,if_neg (n _ (by simp)),N5,if_neg (n _ (by simp)),N5,if_neg (n _ (by simp))];rfl
theorem IsRules.but{x:Addr}{R:List Rl}(h:IsRules H a rs R)(s:SameBut x H H'){dx:Addr}{fs:List (Str×V)}(hx:H x=some (.ins C dx fs)):IsRules H' a rs R:=
 ⟨s _ _ (fun e=>by have:=h.top;rw [e,hx] at this;cases this) h.top,O4 h.row fun t z e=>s _ _ (fun q=>by rw [q,hx] at e;cases e) e⟩
theorem SameBut.trans{x:Addr}(a:SameBut x H H1)(b:SameBut x H1 H2):SameBut x H H2:=fun c o hc h=>b c o hc (a c o hc h)
theorem Same.but{x:Addr}(a:Same H H1):SameBut x H H1:=fun c o _ h=>a c o h
noncomputable def m7 (R:List Rl) (w:Str) (L:List Str):Prop:=U9 (edges (rowsW R w)) (toldL (rowsW R w)) L/\∀ p∈toldL (rowsW R w),p∈L
structure IsOrder(C:Addr)(H:Hp)(x:Addr)(g:Str->Str)(R:List Rl)(L M:List Str):Prop where
 ob:∃ dx j ll ml md,H x=some (.ins C dx (ordF (hasW R "figures") (hasW R "behind") j ll ml md))/\H j=some (.dK (B5 (keysP (C9 R)++Y8 R) (jobG g)))/\H ll=some (.lst (L.map V.str))/\H ml=some (.lst (M.map V.str))
 l1:m7 R "row" L
 l2:m7 R "marks" M
noncomputable def amr (K:PySem.W.Frag):Sp:=fun vs H Q _=>∃ (a:Addr) (ts:List Addr) (R:List Rl) (w:Str) (rank:Str->Nat),vs=[.ref a,.str w]/\IsRules H a ts R/\R.length<=1000/\(rowsW R w).flatten.length<=100000/\(∀ e∈edges (rowsW R w),rank e.1<rank e.2)/\
 ∀ (l:Addr) (line:List Str) (H':Hp),H l=none->Same H H'->H' l=some (.lst (line.map V.str))->U9 (edges (rowsW R w)) (toldL (rowsW R w)) line->(∀ p∈toldL (rowsW R w),p∈line)->Q (.ref l) H'
noncomputable def cellF (ns:List Int) (k:Int):Int:=if k<(ns.length:Int) then ns.getD k.toNat 0 else 0
noncomputable def SA:Str:=Str.ofString "!\"#$&'()*+,-./:;<=>?@ABCDEFGHIJKLMNOPQRSTUVWXYZ[\\]^_`abcdefghijklmnopqrstuvwxyz{|}~"
noncomputable def LA:List Nat:=SG.filter fun c=>!figO c
noncomputable def LB:List Nat:=LA++[48,49,50,51,52,53,54,55,56,57]
theorem SA_eq:SA.cps.toList=LA:=by decide +kernel
theorem SB_eq:(SA++Str.ofString "0123456789").cps.toList=LB:=by decide +kernel
theorem aqN:LA.length=83:=by decide +kernel
theorem aqO:LB.length=93:=by decide +kernel
theorem LA_nd:LA.Nodup:=by decide +kernel
theorem LB_nd:LB.Nodup:=by decide +kernel
theorem LA_ok:∀ c∈LA,signB c=true/\figO c=false:=by decide +kernel
theorem LB_ok:∀ c∈LB,signB c=true:=by decide +kernel
noncomputable def listF (d:Bool):List Nat:=if d=true then LB else LA
noncomputable def lenF (d:Bool):Int:=if d=true then 93 else 83
theorem tV(d:Bool):((listF d).length:Int)=lenF d:=by
 cases d
 .show ((LA.length:Nat):Int)=83;rw [aqN];rfl
 .show ((LB.length:Nat):Int)=93;rw [aqO];rfl
noncomputable def tW (ns:List Int):Bool:=decide (cellF ns 1 / 12 % 2=0)
noncomputable def stepO:List Int:=[1,2,4,5,7,8,10,11,13,23,44,80]
noncomputable def stO (ns:List Int):Int:=(L0 stepO (cellF ns 1 % 12)).getD 0
noncomputable def gW (ns:List Int) (k:Int):Nat:=(L0 (listF (tW ns)) ((cellF ns 0+k*stO ns) % lenF (tW ns))).getD 33
theorem tX(d:Bool):0<lenF d/\lenF d<=93:=by cases d <;> decide
theorem aqP{l:List Nat}(nd:l.Nodup){i j:Int}(h0:0<=i)(h1:i<l.length)(h2:0<=j)(h3:j<l.length)(h:(L0 l i).getD 33=(L0 l j).getD 33):i=j:=by
 have li:i.toNat<l.length:=by lia
 have lj:j.toNat<l.length:=by lia
 have a1:L0 l i=some l[i.toNat]:=by
  have:=E7 (xs:=l) (j:=i.toNat) (v:=l[i.toNat]) (F8 li)
  rw [show ((i.toNat:Nat):Int)=i by lia] at this;exact this
 have a2:L0 l j=some l[j.toNat]:=by
  have:=E7 (xs:=l) (j:=j.toNat) (v:=l[j.toNat]) (F8 lj)
  rw [show ((j.toNat:Nat):Int)=j by lia] at this;exact this
 rw [a1,a2] at h
 have:=(s0.mp nd)
 rw [bI] at this
 rcases dP i.toNat j.toNat with z | z | z
 .exact absurd h (this _ _ li lj z)
 .lia
 .exact absurd h.symm (this _ _ lj li z)
theorem aiq{m s t b k l:Int}(ht:s*t % m=1)(e:(b+k*s) % m=(b+l*s) % m)(h0:0<=k)(h1:k<m)(h2:0<=l)(h3:l<m):k=l:=by
 have d1:m ∣ (k-l)*s:=by
  have:=Int.dvd_of_emod_eq_zero (Int.emod_eq_emod_iff_emod_sub_eq_zero.mp e)
  rwa [show (b+k*s)-(b+l*s)=(k-l)*s by rw [Int.sub_mul];lia] at this
 have d3:m ∣ (k-l)*(s*t):=by rw [<- Int.mul_assoc];exact Int.dvd_mul_of_dvd_left d1
 have d4:m ∣ s*t-1:=⟨s*t / m,by have:=Int.emod_add_mul_ediv (s*t) m;lia⟩
 have d5:m ∣ (k-l)*(s*t-1):=Int.dvd_mul_of_dvd_right d4;have d6:=Int.dvd_sub d3 d5;rw [show (k-l)*(s*t)-(k-l)*(s*t-1)=k-l by rw [Int.mul_sub,Int.mul_one];lia] at d6;have d7:=Int.emod_eq_emod_iff_emod_sub_eq_zero.mpr (Int.emod_eq_zero_of_dvd d6)
 rwa [Int.emod_eq_of_lt h0 h1,Int.emod_eq_of_lt h2 h3] at d7
end L2
set_option maxRecDepth 100000
namespace L2
open PySem PySem.Spec PyProof.Rows
open AutoSeq1 (wpAny_loadPart' idx_int)
noncomputable abbrev bareL (ys:Array Value) (k:Nat):Obj:=⟨.type "list",none,.seq ys k,#[]⟩
noncomputable abbrev anyT (dd:Option Addr) (ys:Array Value) (k:Nat) (ss:Array (Option Value)):Obj:=⟨.type "tuple",dd,.seq ys k,ss⟩
theorem ad8{l:Addr}{ys zs:Array Value}{k2:Nat}{dd:Option Addr}(short:¬ (!ys.isEmpty&&Builtin.List.listTooLong (ys.size+zs.size))=true)(h1:ys.size<=sizeLine)(h2:ys.size+zs.size<=sizeLine+1) :
  Meets (Builtin.«list.extend» ⟨[.ref l,.ref b],[]⟩) (fun _ R s=>s.heap.get? l=some (bareL ys k)/\s.heap.get? b=some (anyT dd zs k2 ss)/\R (.ok (.ret .none)) { s with heap:=s.heap.update l (Obj.mapSeq (·++zs)),toks:=s.toks }):=by
 refine .of_wp fun _ _ _ R s ⟨gl,gb,fin⟩=>?_
 rcases s with ⟨hp,gens,dr,tk,sys⟩
 have c1:=idx_int;have c2:=AutoSeq1.sub_tuple_tuple;have c3:=AutoSeq1.sub_list_list;have c4:=AutoSeq1.sub_tuple_list;have c5:=AutoSeq1.sub_list_tuple;have room:(ys++zs).size<=sizeLine+1:=Array.size_append ▸ h2
 wp_walk using (wpAny_updateSeq gl rfl (hz:=h1) (_hz':=room)),wpAny_loadPart' gl,wpAny_loadPart' gb
 exact ⟨_,rfl,fin⟩
section
variable {X:Cx}
noncomputable def ahJ (K:PySem.W.Frag):V->List V->Hp->VK->Prop:=fun x vs H Q=>∃ l b xs zs,x=.ref l/\vs=[.ref b]/\H l=some (.lst xs)/\C6 K H b zs/\xs.length+zs.length<=sizeLine/\Q .non (A0 H l (.lst (xs++zs)))
theorem air:eB X "list.extend" (ahJ X.K):=by
 intro pins s Y H x vs v us Q I rx rv h;obtain ⟨l,b,xs,zs,rfl,rfl,hH,hB,hz,q⟩:=h
 cases rx
 obtain ⟨u,rfl,ru⟩:=rv.one
 cases ru
 obtain ⟨z,its,n,r,hl,e⟩:=I.lstM hH;obtain ⟨its2,r2,⟨⟨c,dct,dt,sl⟩,e2,hc,n2,hd⟩,f7⟩:=I.tuple hB
 replace hc:c=.type "tuple":=hc
 replace hd:dt=.seq its2.toArray n2:=hd
 subst hc hd;have q1:=r2.length;have hsz:its.toArray.size+its2.toArray.size<=sizeLine:=by rw [F6,F6];lia
 have V2:¬ (!its.toArray.isEmpty&&Builtin.List.listTooLong (its.toArray.size+its2.toArray.size))=true:=by
  rw [sE hsz,Bool.and_false];exact L5
 refine call_meets F.slot_list_extend ⟨_,e,rfl⟩ F.entry_list_extend (F.args_list_extend_2 _ _)
  (ad8 (k:=n) (k2:=n2) (dd:=dct) (ss:=sl) V2 (by rw [F6];lia) (by lia)) ⟨e,e2,?_⟩
 refine ⟨.non,_,I.lset (its':=its++its2) hH e (by simp) (r.append r2) ?_,rfl,q⟩;rw [C8];lia
theorem ajR(hK:X.K=K:=by rfl):QMt X "list.extend" (ahJ K):=by subst hK;exact ⟨fun pins s Y H x xs v us Q I rx rv h=>air pins s Y H x xs v us Q I rx rv h⟩
noncomputable def rMulS:V->V->Hp->VK->Prop:=fun x y H Q=>∃ z n,x=.str z/\y=.int n/\MulOk z n/\Q (.str (Txt.mul z n)) H
theorem aqQ:G8 X (binaryOp .Mult) rMulS:=by
 intro pins s Y H x y v u Q I rx ry h;obtain ⟨z,n,rfl,rfl,h1,q⟩:=h;obtain ⟨t,rfl⟩:=rx;obtain ⟨t2,rfl⟩:=ry;exact SB.mul h1 fun t' k=>⟨.str _,H,I.tok k,⟨_,rfl⟩,q⟩
theorem aqR:QOp X (binaryOp .Mult) rMulS:=⟨aqQ⟩
end
noncomputable def Itv (l : Addr) (n : Nat) : It :=
  ⟨fun i H => ∃ xs x, H l = some (.lst xs) /\ i<n /\ xs[n-1-i]? = some x,
   fun i H v H' => H' = H /\ ∀ xs, H l = some (.lst xs) -> xs[n-1-i]? = some v,
   fun i H => ∃ xs, H l = some (.lst xs) /\ n <= i⟩
section
variable {X:Cx}
noncomputable def iRev (ta:TA):TI:=fun Y H R=>ta Y H fun vs H1=>∃ (l:Addr) (xs:List V),vs=[.ref l]/\H1 l=some (.lst xs)/\R (Itv l xs.length) H1
end
theorem anX{R:It->Hp->Prop} : iRev ta Y H R=ta Y H fun vs H1=>∃ (l:Addr) (xs:List V),vs=[.ref l]/\H1 l=some (.lst xs)/\R (Itv l xs.length) H1:=rfl
noncomputable abbrev cH (l:Addr):Obj:={ cls:=.type "list_iterator",data:=.fields #[.ref l,.int 0 0] }
noncomputable abbrev gX (it:Addr) (i:Int):Obj:={ cls:=.type "enumerate",data:=.fields #[.none,.bool false,.ref it,rawInt i,.none,.none] }
noncomputable abbrev anyL (dd:Option Addr) (ys:Array Value) (k:Nat) (ss:Array (Option Value)):Obj:=⟨.type "list",dd,.seq ys k,ss⟩
set_option maxHeartbeats 4000000 in
theorem aen{l:Addr}{ys:Array Value}{dd:Option Addr}{i:Int}{t:Tok}(fits:Builtin.SmallTypes.fitsIndex i=true) :
  Meets (Builtin.«enumerate.__new__» ⟨[.type "enumerate",.ref l],[("start",.int i t)]⟩) (fun _ R s=>s.heap.get? l=some (anyL dd ys k ss)/\
   R (.ok (.ret (.ref (s.heap.push (cH l)).objs.size))) { s with heap:=(s.heap.push (cH l)).push (gX s.heap.objs.size i) }):=by
 refine .of_wp fun _ _ _ R s ⟨gl,fin⟩=>?_
 rcases s with ⟨hp,gens,dr,tk,sys⟩
 have c1:=sub_enumerate;have isl:Heap.IsList (Shared.heap ⟨hp,gens,dr,tk,sys⟩) l ys:=⟨_,gl,rfl,k,rfl⟩
 wp_walk using wpAny_loadPart' gl
 refine wpAny_stack_any fun _=>wpAny_pure ?_
 split
 case h_1 c _ _ _ _ _=>
  generalize (c==Value.type "enumerate")=truth
  cases truth <;> (wp_walk using wpAny_loadPart' gl,wpAny_pyIter_list isl;exact ⟨_,rfl,fin⟩)
 case h_2=>(wp_walk using wpAny_loadPart' gl,wpAny_pyIter_list isl;exact ⟨_,rfl,fin⟩)
theorem ais(a b:Value):checkTypeCall "enumerate" ⟨[a],[("start",b)]⟩=pure ():=by kernel_rfl
theorem ajS(a b:Value):checkBuiltinCall "enumerate.__new__" ⟨[.type "enumerate",a],[("start",b)]⟩=pure ():=by kernel_rfl
theorem ait(a b c:Value):argsOk "object.__init__" ⟨[a,b],[("start",c)]⟩:=by
 unfold argsOk;rw [signature?_of (id:="object.__init__") (n:="__init__".toList.reverse) (o:="object".toList.reverse) (by kernel_rfl) F.owner_object]
 kernel_rfl
theorem ajT{self b c:Value} : Meets (Builtin.«object.__init__» ⟨[self,b],[("start",c)]⟩) (fun _ R s=>s.TypeIs self "enumerate"/\R (.ok (.ret .none)) s):=by
 have c1:=F.called_enumerate.init.lookup;have c2:=F.called_enumerate.made;refine .of_wp fun _ _ _ R s ⟨isT,fin⟩=>?_
 repeat (any_goals (first | assumption | wp_step))
 exact ⟨_,rfl,fin⟩
section
variable {prog:Program} {w:World} {A:Around} {E:Value->Shared->Prop} {s:Shared}
theorem ad9{l:Addr}{ys:Array Value}{i:Int}{t:Tok}{Q:Value->Shared->Prop}(isl:s.heap.IsList l ys)(fits:Builtin.SmallTypes.fitsIndex i=true)(fin:∀ h',IsEnum h' (s.heap.objs.size+1) s.heap.objs.size i .none->h'.IsListIter s.heap.objs.size l 0->(∀ b o,s.heap.get? b=some o->h'.get? b=some o)->Q (.ref (s.heap.objs.size+1)) { s with heap:=h' }) :
  wpAny (model prog w) A (call (.type "enumerate") [.ref l] [("start",.int i t)]) Q E s:=by
 obtain ⟨⟨c,dd,dt,ss⟩,gl,hc,k,hd⟩:=isl;obtain rfl:c=.type "list":=hc;obtain rfl:dt=.seq ys k:=hd;obtain ⟨hd0,tl,c1⟩:=F.called_enumerate.mro;have c2:=F.called_enumerate.made;have c3:=F.called_enumerate.sub;have c4:=F.called_enumerate.notType;have c5:=F.called_enumerate.canCreate;have c6:=F.called_enumerate.init.lookup;have c7:=ais (.ref l) (.int i t);refine wpAny_call (codeAny_of_tree (show wpAny _ _ (callAny (.type "enumerate") _) _ _ _ from wpAny_pure ⟨Code.quiet_builtin _ (by decide +kernel),codeAny_builtin F.entry_type_call ?_⟩));rw [Around.under_plain (weight_type_call_type "enumerate" [.ref l] [("start",.int i t)]) (units_type_call_type "enumerate" [.ref l] [("start",.int i t)])]
 repeat (any_goals (first | assumption | wp_step))
 have z:(s.heap.push (cH l)).objs.size=s.heap.objs.size+1:=Heap.size_push ..;have made:IsEnum ((s.heap.push (cH l)).push (gX s.heap.objs.size i)) (s.heap.objs.size+1) s.heap.objs.size i .none:=by
  have g:=Heap.get?_push_size (s.heap.push (cH l)) (o:=gX s.heap.objs.size i) rfl;rw [z] at g;exact g
 have done:=fin _ made ⟨_,Heap.get?_push_of_some _ (Heap.get?_push_size _ rfl),rfl,rfl⟩ fun b o g=>Heap.get?_push_of_some _ (Heap.get?_push_of_some _ g)
 refine codeAny_mono (codeAny_call_builtin F.called_enumerate.plain F.entry_enumerate_new (wpAny_of_eq (ajS _ _) (aen (dd:=dd) (k:=k) (ss:=ss) fits prog w A.in1 (wants (fun v s2=>v=.ref (s.heap.objs.size+1)/\s2={ s with heap:=(s.heap.push (cH l)).push (gX s.heap.objs.size i) }) E) s ⟨gl,?_,?_⟩))) ?_
 .rw [z]
 .rfl
 .intro r s1 hr
  rcases r with e | fl
  .exact hr
  .cases fl with
   | ret v=>
    obtain ⟨rfl,rfl⟩:=hr;have isT:Shared.TypeIs { s with heap:=(s.heap.push (cH l)).push (gX s.heap.objs.size i) } (.ref (s.heap.objs.size+1)) "enumerate":=⟨_,made,rfl⟩
    have c8:=F.called_enumerate.init.bind (.ref (s.heap.objs.size+1))
    repeat (any_goals (first | assumption | wp_step))
    have ran:=ajT (self:=.ref (s.heap.objs.size+1)) (b:=.ref l) (c:=.int i t) prog w A.in1 (wants (fun v s2=>v=.none/\s2={ s with heap:=(s.heap.push (cH l)).push (gX s.heap.objs.size i) }) E) _ ⟨isT,rfl,rfl⟩;refine codeAny_mono (codeAny_call_builtin F.called_enumerate.init.plain F.entry_object_init (F.called_enumerate.init.check _ _ _ _ _ _ _ _ isT (ait _ _ _) ran)) fun r s2 hr=>?_
    rcases r with e | fl
    .exact hr
    .cases fl with
     | ret v=>
      obtain ⟨rfl,rfl⟩:=hr
      repeat (any_goals (first | assumption | wp_step))
     | next=>exact hr.elim
     | brk=>exact hr.elim
     | cont=>exact hr.elim
   | next=>exact hr.elim
   | brk=>exact hr.elim
   | cont=>exact hr.elim
end
theorem aqS{w:World}(calm:A.handled=none){l:Addr}(apart:l≠it)(ys:Array Value) :
  Draws prog w A it [it,l] (ys.size+1) (fun i v=>1<=i/\ys[i-1]?=some v) (fun i h=>1<=i/\h.IsListIter it l (i-1)/\h.IsList l ys):=by
 have D:=Draws.list (prog:=prog) (w:=w) calm it l apart ys;refine ⟨fun i h st=>D.live (i-1) h st.2,fun i h h' st same=>⟨st.1,D.frame (i-1) h h' st.2 same⟩,fun i s Q E hi st fin=>?_,fun s Q E st fin=>D.done s Q E st.2 fin⟩;refine D.item (i-1) s Q E (by have:=st.1;lia) st.2 fun x h' tk px st' sb=>fin x h' tk ⟨st.1,px⟩ ⟨by lia,?_⟩ sb
 rw [show i+1-1=i-1+1 by have:=st.1;lia];exact st'
theorem aqT{w : World}(calm : A.handled = none){l: Addr}{ys : Array Value}(none : ys[i]? = none) :
    Draws prog w A it [it, l] (i+1) (fun _ _ => True) (fun k h => k = i+1 /\ h.IsListIter it l i /\ h.IsList l ys) :=
  ⟨fun _ _ st => let ⟨o, ho, _⟩ := st.2.1; ⟨o, ho⟩, fun _ _ _ st same => ⟨st.1, st.2.1.at fun o g => same it (by simp) o g, st.2.2.at fun o g => same l (by simp) o g⟩,
   fun k s Q E hk st => absurd st.1 (by lia), fun s Q E st fin => wpAny_nextOf_list_end calm st.2.1 st.2.2 none fin⟩
noncomputable def Ite1 (l : Addr) : It :=
  ⟨fun i H => ∃ xs x, H l = some (.lst xs) /\ xs[i]? = some x,
   fun i H v H' => ∃ t xs x, H l = some (.lst xs) /\ xs[i]? = some x /\ H t = none /\ v = .ref t /\ H' = A0 H t (.tup [.int (i+1 : Nat), x]),
   fun i H => ∃ xs, H l = some (.lst xs) /\ xs.length <= i⟩
theorem aiu{P:Program}{w:World}{pos:Pos}(e it l:Addr)(J7:e≠it) :
  Turn P w K (.Tuple elts x1 pos) (Ite1 l) [e,it] e (fun i h=>(∃ old,IsEnum h e it ((i+1:Nat):Int) old)/\h.IsListIter it l i) where
 mem:=by simp
 obj:=fun i h ⟨⟨old,he⟩,hi⟩ c hc=>by
  have q:c=e\/c=it:=by simpa using hc
  rcases q with rfl | rfl
  .exact ⟨_,he,fun v q=>by cases q⟩
  .obtain ⟨o,e,c,d⟩:=hi;exact ⟨o,e,fun v z=>by rw [d] at z;cases z⟩
 keep:=fun i h h' ⟨⟨old,he⟩,hi⟩ k=>⟨⟨old,k e (by simp) _ he⟩,hi.at fun o q=>k it (by simp) o q⟩
 item:=by
  intro X hP hw hK hc i pins s Y H E I hf ⟨⟨old,he⟩,hi⟩ hg;subst hP hw hK;obtain ⟨xs,x,e1,hx⟩:=hg;obtain ⟨its1,Z2,p1,_⟩:=I.list (C7.of (K:=X.K) e1);obtain ⟨u1,C5,r1⟩:=Z2.get hx;have C4:i<its1.length:=(E9.mp C5).1;obtain ⟨ol,gl,cl,_⟩:=p1.isList;have nli:l≠it:=fun q=>by
   obtain ⟨oi,gi,ci,_⟩:=hi;rw [q,gi] at gl
   cases gl
   rw [ci] at cl;exact absurd cl (by decide)
  have nle:e≠l:=fun q=>by
   rw [<- q,he] at gl
   cases gl
   exact absurd (show Value.type "enumerate"=Value.type "list" from cl) (by decide)
  refine wpAny_pyNext_enum_itemD (i:=i+1) (aqS (A:=X.A.in1) (show X.A.in1.handled=none from I.ok.hd hc) nli its1.toArray) he ⟨by lia,by simpa using hi,p1.isList⟩ (by simp;lia) J7 (by simp [J7,nle]) fun y h' tk py b1 b2 b3 b4 b5=>?_
  obtain rfl:u1=y:=by
   have:=py.2
   simp [C5] at this;exact this
  refine ⟨_,rfl,wpAny_letOwnedTupleGo_enum b1 fun h2' c1 c2=>?_⟩;have o8:e<s.heap.objs.size:=Heap.lt_size he;have up:∀ c o,c≠e->h'.get? c=some o->h2'.get? c=some o:=fun c o hc q=>(c2.2 c hc).trans q
  have hT:=up _ _ (i0 o8) b3;have nT:∀ c∈[e,it],c≠s.heap.objs.size:=fun c hc=>by
   have q:c=e\/c=it:=by simpa using hc
   refine K3 ?_
   rcases q with rfl | rfl
   .exact o8
   .obtain ⟨o,q,_⟩:=hi;exact Heap.lt_size q
  refine ⟨.ref s.heap.objs.size,A0 H s.heap.objs.size (.tup [.int (i+1:Nat),x]),I.turnNew (t':=tk+1) (ch:=[e,it]) hf (fun c u hc q=>?_) (A8 _) ⟨by show 2<=sizeLine;decide,[.int (i+1:Nat) tk,u1],.cons ⟨_,rfl⟩ (.cons r1 .nil),?_⟩,rfl,⟨_,xs,x,e1,hx,I.fresh,rfl,rfl⟩,
   ⟨⟨_,c1⟩,(show h'.IsListIter it l (i+1) by simpa using b2.2.1).at fun o q=>up _ o J7.symm q⟩,fun c hc=>by rw [A3 (nT c hc)];exact (hf c hc).1⟩
  .have q1:c≠e/\c≠it:=⟨fun q=>hc (by simp [q]),fun q=>hc (by simp [q])⟩
   exact up c u q1.1 (b5 c u q1.1 q1.2 q)
  .exact ⟨_,hT,rfl,_,rfl⟩
 done:=by
  intro X hP hw hK hc i pins s Y H E I hf ⟨⟨old,he⟩,hi⟩ hg;subst hP hw hK;obtain ⟨xs,e1,fG⟩:=hg;obtain ⟨its1,Z2,p1,_⟩:=I.list (C7.of (K:=X.K) e1);have q1:=Z2.length;obtain ⟨f0,f1,f2,f3,f4,f5⟩:=hf it (by simp);exact wpAny_pyNext_enum_endD (aqT (A:=X.A.in1) (show X.A.in1.handled=none from I.ok.hd hc) (ys:=its1.toArray) (i:=i) (by simp;lia)) he ⟨rfl,hi,p1.isList⟩ fun h' eb=>⟨rfl,I.turned (t':=s.toks) (fun b o hb q=>eb b o hb q) f0 f1 f3 f4 f5⟩
 self:=fun _ _ _ _ _ st h=>by
  obtain ⟨⟨old,he⟩,_⟩:=st;exact wpAny_pyIter_enum he h
theorem ajU:bootBuiltins "enumerate"=some (.type "enumerate"):=by decide +kernel
section
variable {X:Cx}
noncomputable def tY (ta:TA):TI:=fun Y H R=>ta Y H fun vs H1=>∃ (l:Addr) (xs:List V),vs=[.ref l]/\H1 l=some (.lst xs)/\R (Ite1 l) H1
theorem alF{a:Expr}{p pos:Pos}(hg:Gl X "enumerate")(hm:X.mg "enumerate"=none)(ha:PA X [a] ta)(h1:K4 a=false:=by rfl) :
  PI X (.Tuple elts x1 tpos) (.Call (.Name "enumerate" p) [a] [⟨some "start",.Constant (.int 1) ck cpos,kpos⟩] pos) (tY ta):=by
 intro pins s Y H R I h;refine wpAny_Call_Name_kw (aB I hg hm ajU (PySem.W.callWith_of (P:=fun _=>True) ?_ (fun _ _=>⟨_,.inr (.inl rfl),PySem.W.Looks.of_pure rfl⟩) (PyProof.Rows.evalArgs_kw2 rfl (A9 (ha pos pins s Y H _ I h) fun us s1 ⟨vs,H1,I1,r1,q1⟩=>?_) (M9 h1))))
 .rw [M9 h1];rfl
 have kw:PK X [⟨some "start",.Constant (.int 1) ck cpos,kpos⟩] (tCons (tC (.int 1)) tNil):=amZ zS aoY;refine A9 (kw pos pins s1 Y H1 (fun zs H2=>zs=[.int 1]/\H2=H1) I1 ⟨rfl,rfl⟩) fun ws s2 ⟨zs,H2,I2,rz,e1,e2⟩=>⟨trivial,?_⟩
 subst e1 e2;obtain ⟨l,xs,rfl,e1,q⟩:=q1;obtain ⟨u1,rfl,fH⟩:=vals1 r1
 cases fH
 obtain ⟨u2,rfl,xG⟩:=vals1 rz;obtain ⟨t,rfl⟩:=xG;obtain ⟨its1,Z2,p1,_⟩:=I2.list (C7.of (K:=X.K) e1);refine ad9 p1.isList (by decide) fun h' z1 z2 z4=>wpAny_pyIter_enum z1 ?_
 refine ⟨s2.heap.objs.size+1,[s2.heap.objs.size+1,s2.heap.objs.size],_,_,H2,rfl,I2.kept (t':=s2.toks) z4,aiu _ s2.heap.objs.size l (j0 (by lia)),⟨⟨_,z1⟩,z2⟩,fun b hb=>?_,q⟩;have X9:s2.heap.objs.size<=b:=by
  have e:b=s2.heap.objs.size+1\/b=s2.heap.objs.size:=by simpa using hb
  rcases e with rfl | rfl
  .exact bP _ _
  .exact A8 _
 exact I2.fpOk X9 (I2.hok.fresh X9)
theorem alG{a:Expr}{p pos:Pos}(hm:X.mg "enumerate"=none)(ha:QA X [a] ta)(hg:Gl X "enumerate":=by rfl)(h1:K4 a=false:=by rfl) :
  QI X (.Tuple elts x1 tpos) (.Call (.Name "enumerate" p) [a] [⟨some "start",.Constant (.int 1) ck cpos,kpos⟩] pos) (tY ta):=⟨alF hg hm ha.out h1⟩
end
theorem ajW{R:It->Hp->Prop} : tY ta Y H R=ta Y H fun vs H1=>∃ (l:Addr) (xs:List V),vs=[.ref l]/\H1 l=some (.lst xs)/\R (Ite1 l) H1:=rfl
theorem forE1{l:Addr}(Pv:Nat->St->Hp->Prop)(h0:Pv 0 Y H)(hl:∀ i Y H,Pv i Y H->H l=some (.lst xs))(hs:∀ i x t Y H,xs[i]?=some x->Pv i Y H->H t=none->g (.ref t) Y (A0 H t (.tup [.int (i+1:Nat),x])) fun σ2 H2=>tb { D with nx:=Pv (i+1),ct:=Pv (i+1),bk:=D.nx } σ2 H2)(hd:∀ Y H,Pv xs.length Y H->D.nx Y H):ForIt (Ite1 l) g tb D Y H:=by
 refine ⟨fun i m Y H=>m=xs.length-i/\i<=xs.length/\Pv i Y H,⟨xs.length,by simp,G3 _,h0⟩,?_⟩;rintro i m Y H ⟨rfl,hi,p⟩;have e1:=hl i Y H p
 by_cases C4:i<xs.length
 .refine .inr ⟨⟨xs,xs[i],e1,by simp⟩,Pv (i+1),fun σ' H' p'=>⟨_,by lia,rfl,C4,p'⟩,fun v H' y=>?_⟩;obtain ⟨t,xs',x,f1,hx,ht,rfl,rfl⟩:=y;rw [e1] at f1;cases f1;exact hs i x t Y H hx p ht
 .have e:i=xs.length:=by lia
  subst e;exact .inl ⟨⟨xs,e1,by lia⟩,hd Y H p⟩
end L2
set_option maxRecDepth 100000
namespace L2
open PySem PySem.Spec PyProof.Rows
noncomputable def rPopN:V->List V->Hp->VK->Prop:=fun x vs H Q=>∃ (l:Addr) (xs:List V) (i:Int) (y:V),x=.ref l/\vs=[.int i]/\H l=some (.lst xs)/\0<=i/\i<2 ^ 62/\xs[i.toNat]?=some y/\Q y (A0 H l (.lst (xs.eraseIdx i.toNat)))
theorem aqU : QMt X "list.pop" rPopN:=⟨fun pins s Y H x xs v us Q I rx rv h=>by
 obtain ⟨l,ys,i,y,rfl,rfl,hH,h0,h1,h2,q⟩:=h;refine akW pins s Y H _ _ v us Q I rx rv ⟨l,ys,i,i.toNat,y,rfl,rfl,hH,by lia,by lia,?_,h2,q⟩
 have:=(E9.mp h2).1
 unfold seqIndex?;have h3:¬ i<0:=by lia
 have h4:i<(ys.length:Int):=by lia
 simp [h3,h0,h4]⟩
noncomputable def tZ:V->List V->Hp->VK->Prop:=fun x vs H Q=>∃ (l:Addr) (zs:List Int) (z:Int),x=.ref l/\vs=[.int z]/\H l=some (.lst (zs.map V.int))/\z∈zs/\Q .non (A0 H l (.lst ((zs.erase z).map V.int)))
theorem oW:∀ {vs:List Value} {zs:List Int},IntsAre vs zs->∀ {j:Nat} {z:Int},zs[j]?=some z->∃ t,vs[j]?=some (.int z t)
 | _,_,.nil,_,_,h=>by simp at h
 | _,_,.cons _ _ _,0,_,h=>by simp at h;subst h;exact ⟨_,rfl⟩
 | _,_,.cons _ _ r,j+1,z,h=>by
  obtain ⟨t,q⟩:=oW r (j:=j) (z:=z) (by simpa using h);exact ⟨t,by simpa using q⟩
theorem aiv : eB X "list.remove" tZ:=by
 intro pins s Y H x vs v us Q I rx rv h;obtain ⟨l,zs,zz,rfl,rfl,hH,hm,q⟩:=h
 cases rx
 obtain ⟨u,rfl,ru⟩:=rv.one;obtain ⟨t,rfl⟩:=ru;obtain ⟨z,its,n,r,hl,e⟩:=I.lstM hH;have sa:=oA r;have hj:zs.idxOf zz<zs.length:=nO.mpr hm;rw [A4] at hl;have Q1:∀ (j:Nat) (hj:j<its.toArray.size),∃ y t',zs[j]?=some y/\its.toArray[j]=.int y t':=fun j hj'=>by
  have xI:j<zs.length:=by rw [hl];simpa using hj'
  obtain ⟨t',ht⟩:=oW sa (j:=j) (z:=zs[j]) (by simp);refine ⟨zs[j],t',by simp,?_⟩
  have:=(E9.mp ht).2
  simpa using this
 have hsz:zs.idxOf zz<its.toArray.size:=by rw [F6,<- hl];exact hj
 refine call_meets F.slot_list_remove ⟨_,e,rfl⟩ F.entry_list_remove (F.args_list_remove_2 _ _)
  (MeetsSeq.list_remove l its.toArray n (.int zz t) (isInt zz) (fun y hy=>eq_isInt zz t sa y (by simpa using hy)) (zs.idxOf zz) hsz ?_ (fun m o9 C4=>?_) (by rw [F6,<- hl];rw [A4] at z;exact z)) ⟨e,?_⟩
 .obtain ⟨y,t',h1,h2⟩:=Q1 _ hsz;rw [h2]
  have:y=zz:=by
   have:=List.getElem_idxOf hj
   rw [F8 hj,this] at h1;exact (Option.some.inj h1).symm
  subst this;simp [isInt]
 .obtain ⟨y,t',h1,h2⟩:=Q1 _ o9;rw [h2]
  have:y≠zz:=fun q=>by
   obtain ⟨h3,h4⟩:=E9.mp h1
   have:=List.not_of_lt_findIdx (show m<zs.findIdx (· == zz) from C4)
   rw [h4] at this;simp [q] at this
  simp [isInt,this]
 .refine ⟨.non,_,I.lset (its':=its.eraseIdx (zs.idxOf zz)) hH e ?_ ?_ ?_,rfl,q⟩
  .show its.toArray.eraseIdxIfInBounds (zs.idxOf zz)=_;rw [List.eraseIdxIfInBounds_toArray]
  .rw [List.erase_eq_eraseIdx_of_idxOf (l:=zs) (a:=zz) (w:=rfl),af5];exact r.eraseIdx _
  .rw [A4,List.length_erase_of_mem hm];rw [A4] at z;lia
theorem ajX : QMt X "list.remove" tZ:=⟨fun pins s Y H x xs v us Q I rx rv h=>aiv pins s Y H x xs v us Q I rx rv h⟩
theorem aqV{l:Addr}{zs:List Int}{z:Int}(h:H l=some (.lst (zs.map V.int)))(hm:z∈zs)(q:Q .non (A0 H l (.lst ((zs.erase z).map V.int)))):tZ (.ref l) [.int z] H Q:=⟨l,zs,z,rfl,rfl,h,hm,q⟩
noncomputable def rMinL:List V->Hp->VK->Prop:=fun xs H Q=>∃ (p:Addr) (ns:List Int),xs=[.ref p]/\H p=some (.lst (ns.map V.int))/\ns≠[]/\∀ M:Int,M∈ns->(∀ a∈ns,M<=a)->Q (.int M) H
theorem ajY(hc:X.calm=true):CallR X (.builtin "min") rMinL:=by
 intro pins s Y H xs us Q I r h;obtain ⟨p,ns,rfl,hH,J7,q⟩:=h;obtain ⟨u,rfl,ru⟩:=vals1 r
 cases ru
 obtain ⟨z,its,n,rr,hl,e⟩:=I.lstM hH;have hi:=oA rr;have hL:s.heap.IsList p its.toArray:=⟨_,e,rfl,n,rfl⟩
 obtain ⟨ys,e2⟩:=hi.allInts.items;have o6:ns=ys.toList.map (·.1):=by rw [<- hi.numsOf,<- nums_intItems,<- e2]
 have hsz:0<ys.size:=by
  have h3:=List.length_pos_iff.mpr J7;rw [o6,A4,u9] at h3;exact h3
 rw [e2] at hL;refine min_intList (I.ok.hd hc) hL hsz fun v h' tk hv hk=>?_
 obtain ⟨t,rfl⟩:=intItems_at hv;obtain ⟨h1,h2⟩:=argBest_lt (numAt ys) (ys.size-1);refine ⟨.int _,H,I.kept hk,⟨t,rfl⟩,q _ ?_ fun a ha=>?_⟩
 .rw [o6,numAt_eq];exact getD_mem (by rw [A4,u9];lia)
 .rw [o6] at ha;obtain ⟨j,hj,rfl⟩:=mem_getD ha;rw [A4,u9] at hj;rw [<- numAt_eq];exact h2 j (by lia)
theorem aqW(hc:X.calm=calm:=by rfl):QCall X (.builtin "min") (rCalm calm rMinL):=⟨fun pins s Y H xs us Q I r h=>ajY (hc.trans h.1) pins s Y H xs us Q I r h.2⟩
theorem aqX : rMinL [.ref p] H Q=∃ ns:List Int,H p=some (.lst (ns.map V.int))/\ns≠[]/\∀ M:Int,M∈ns->(∀ a∈ns,M<=a)->Q (.int M) H:=
 propext ⟨fun ⟨_,ns,e,h⟩=>(by cases e;exact ⟨ns,h⟩),fun ⟨ns,h⟩=>⟨p,ns,rfl,h⟩⟩
noncomputable def gY (n:Nat) (fr:St) (Pv:Nat->List V->Hp->Prop) (i:Nat) (ys:List V) (σ2:St) (H2:Hp):Prop:=i<=n/\ys.length<=i/\(∃ v w,σ2=v::w::fr)/\Pv i ys H2
theorem gY.put{fr:St}{Pv:Nat->List V->Hp->Prop}{y:V}{o o2:Option V}(hi:i<n)(hy:ys.length<=i)(p:Pv (i+1) (ys++[y]) H):gY n fr Pv (i+1) (ys++[y]) (o::o2::fr) H:=
 ⟨hi,by rw [C8,T4];lia,⟨_,_,rfl⟩,p⟩
theorem compE{l:Addr}(fr:St)(X8:compStart 2 ixs Y=none::none::fr)(Pv:Addr->Nat->List V->Hp->Prop)(h0:∀ D,H1 D=none->Pv D 0 [] (A0 H1 D (.lst [])))(hl:∀ D i ys H,H1 D=none->i<=xs.length->Pv D i ys H->H l=some (.lst xs))(hs:∀ D i x t ys H,H1 D=none->i<xs.length->xs[i]?=some x->Pv D i ys H->H D=some (.lst ys)->ys.length<=i->H t=none->c (some (.int i)::some x::fr) (A0 H t (.tup [.int i,x])) fun b H4=>
   if b=true then te (some (.int i)::some x::fr) H4 fun y H5=>H5 D=some (.lst ys)/\ys.length<sizeLine/\gY xs.length fr (Pv D) (i+1) (ys++[y]) (some (.int i)::some x::fr) (A0 H5 D (.lst (ys++[y])))
   else H4 D=some (.lst ys)/\gY xs.length fr (Pv D) (i+1) ys (some (.int i)::some x::fr) H4)(hd:∀ D ys H,H1 D=none->Pv D xs.length ys H->H D=some (.lst ys)->ys.length<=xs.length->Q (.ref D) H):cC (kP l) 2 ixs (gTup K 2 (gCons (gName 0) (gCons (gName 1) gNil))) c te Y Q H1:=by
 intro D hD;refine ⟨xs.length,gY xs.length fr (Pv D),⟨G3 _,G3 _,⟨none,none,X8⟩,h0 D hD⟩,?_⟩;rintro i ys σ2 H2 ⟨hi,hy,⟨v,w,rfl⟩,p⟩ hDy;have q:=hl D i ys H2 hD hi p
 by_cases C4:i<xs.length
 .refine .inr ⟨C4,⟨xs,xs[i],q,by simp [C4]⟩,fun x H' y=>?_⟩;obtain ⟨t,xs',x',f1,hx,ht,rfl,rfl⟩:=y;rw [q] at f1;cases f1;exact ⟨t,_,rfl,C6.of A2,rfl,_,_,rfl,_,_,rfl,rfl,hs D i x' t ys H2 hD C4 hx p hDy hy ht⟩
 .have e:i=xs.length:=by lia
  subst e;exact .inl ⟨⟨xs,q,A8 _⟩,hd D ys H2 hD p hDy hy⟩
end L2
set_option maxRecDepth 100000
namespace L2
open PySem PySem.Spec PyProof.Rows
section
variable {X:Cx} {o e:Expr} {apos cpos:Pos} {td ty:TE}
theorem alH : ao9 td ty Y H Q=td Y H fun x H1=>∃ a,x=.ref a/\aF H1 a/\ty Y H1 fun y H2=>∃ kvs k v,H2 a=some (.dK kvs)/\y=kV k/\valV kvs k=some v/\Q v (A0 H2 a (.dK (dropK kvs k))):=rfl
end
end L2
set_option maxRecDepth 100000
namespace L2
open PySem PySem.Spec PyProof.Rows
section
variable {X:Cx} {o value:Expr} {to tv:TE} {pos tpos:Pos} {st:Stmt} {t:TS} {h₀:ExceptHandler} {hs:List ExceptHandler}
end
end L2
set_option maxRecDepth 100000
namespace L2
open PySem PySem.Spec PyProof.Rows
theorem anY{o i:Expr}{pos:Pos}(ho:QE X o to)(hi:QE X i ti)(ha:∀ v,assign (.Subscript o i pos) X.env v=(do
   let ov <- holding [v] (eval o X.env)
   let iv <- holding [v,ov] (eval i X.env)
   standAt pos
   holding [v,ov,iv] (setItem ov iv v)
   release [v,ov,iv] []):=by intro _;rfl):QG X (.Subscript o i pos) (gSub to ti rSetL):=⟨aoD ho.out hi.out akV ha⟩
theorem aqY{k:Int}{v:V}{Q:Hp->Prop} : rSetL (.ref p) (.int k) v H Q=∃ xs j,H p=some (.lst xs)/\X3 xs.length k=some j/\Q (A0 H p (.lst (xs.set j v))):=
 propext ⟨fun ⟨_,xs,_,j,e1,e2,h⟩=>(by cases e1;cases e2;exact ⟨xs,j,h⟩),fun ⟨xs,j,h⟩=>⟨p,xs,k,j,rfl,rfl,h⟩⟩
end L2
set_option maxRecDepth 100000
namespace L2
open PySem PySem.Spec PyProof.Rows
noncomputable def FS (ts bad:List Str) (z:Str->Prop) (fr:List Int):Prop:=fr.Nodup/\∀ n:Int,n∈fr↔∃ (m:Nat) (q:Str),n=(m:Int)/\ts[m]?=some q/\q∉bad/\z q
theorem FS.nil(z:Str->Prop):FS [] [] z []:=⟨by simp,fun n=>by simp⟩
theorem FS.snoc{z:Str->Prop}(h:FS ts bad z fr)(hi:i=ts.length)(hb:q∉bad):(z q->FS (ts++[q]) bad z (fr++[(i:Int)]))/\(¬ z q->FS (ts++[q]) bad z fr):=by
 have K6:∀ (m:Nat) (x:Str),(ts++[q])[m]?=some x↔(ts[m]?=some x\/(m=i/\x=q)):=fun m x=>by
  rcases dP m ts.length with hm | hm | hm
  .rw [nN hm]
   constructor
   .exact .inl
   .rintro (h | ⟨h,_⟩)
    .exact h
    .lia
  .subst hm;rw [jJ (A8 _),Nat.sub_self]
   have:ts[ts.length]?=none:=by simp
   rw [this];simp [hi,eq_comm]
  .have h1:ts[m]?=none:=by simp;lia
   have h2:(ts++[q])[m]?=none:=by simp;lia
   rw [h1,h2]
   simp
   lia
 have lZ:(i:Int)∉fr:=fun hm=>by
  obtain ⟨m,x,e,h1,_⟩:=(h.2 _).mp hm
  have:=(E9.mp h1).1
  lia
 refine ⟨fun hz=>⟨?_,fun n=>?_⟩,fun hz=>⟨h.1,fun n=>?_⟩⟩
 .rw [Z7];refine ⟨h.1,by simp,fun x hx y hy e=>lZ ?_⟩;rw [<- D1.mp hy,<- e];exact hx
 .rw [D3,h.2,D1]
  constructor
  .rintro (⟨m,x,e,h1,h2,h3⟩ | rfl)
   .exact ⟨m,x,e,(K6 m x).mpr (.inl h1),h2,h3⟩
   .exact ⟨i,q,rfl,(K6 i q).mpr (.inr ⟨rfl,rfl⟩),hb,hz⟩
  .rintro ⟨m,x,e,h1,h2,h3⟩
   rcases (K6 m x).mp h1 with h1 | ⟨rfl,rfl⟩
   .exact .inl ⟨m,x,e,h1,h2,h3⟩
   .exact .inr e
 .rw [h.2]
  constructor
  .rintro ⟨m,x,e,h1,h2,h3⟩;exact ⟨m,x,e,(K6 m x).mpr (.inl h1),h2,h3⟩
  .rintro ⟨m,x,e,h1,h2,h3⟩
   rcases (K6 m x).mp h1 with h1 | ⟨rfl,rfl⟩
   .exact ⟨m,x,e,h1,h2,h3⟩
   .exact absurd h3 hz
theorem ahK(nd:ts.Nodup)(h1:ts[i]?=some q)(h2:ts[j]?=some q):i=j:=by
 obtain ⟨a1,b1⟩:=E9.mp h1;obtain ⟨a2,b2⟩:=E9.mp h2
 have:=s0.mp nd
 rw [bI] at this
 rcases dP i j with hl | hl | hl
 .exact absurd (b1.trans b2.symm) (this i j a1 a2 hl)
 .exact hl
 .exact absurd (b2.trans b1.symm) (this j i a2 a1 hl)
theorem FS.take{z:Str->Prop}(nd:ts.Nodup)(h:FS ts bad z fr){M:Nat}{p:Str}(hp:ts[M]?=some p):FS ts (bad++[p]) z (fr.erase (M:Int)):=by
 refine ⟨h.1.erase _,fun n=>?_⟩;rw [h.1.mem_erase_iff,h.2]
 constructor
 .rintro ⟨J7,m,x,e,h1,h2,h3⟩;refine ⟨m,x,e,h1,fun hm=>?_,h3⟩
  rcases D3.mp hm with hm | hm
  .exact h2 hm
  .rw [D1.mp hm] at h1;exact J7 (by rw [e,ahK nd h1 hp])
 .rintro ⟨m,x,e,h1,h2,h3⟩;refine ⟨fun e2=>h2 ?_,m,x,e,h1,fun hm=>h2 (N7 _ hm),h3⟩
  have:m=M:=by lia
  subst this;rw [hp] at h1;cases h1
  simp
theorem FS.turn{z z':Str->Prop}(nd:ts.Nodup)(h:FS ts bad z fr)(J7:∀ q,q≠y->(z' q↔z q))(hy:¬ z y)(hm:ts[m]?=some y)(hb:y∉bad):(z' y->FS ts bad z' (fr++[(m:Int)]))/\(¬ z' y->FS ts bad z' fr):=by
 have lZ:(m:Int)∉fr:=fun h1=>by
  obtain ⟨k,x,e,h2,_,h3⟩:=(h.2 _).mp h1
  have:k=m:=by lia
  subst this;rw [hm] at h2;cases h2;exact hy h3
 have Z3:∀ (k:Nat) (x:Str),ts[k]?=some x->x≠y\/(k=m/\x=y):=fun k x hk=>by
  by_cases e:x=y
  .subst e;exact .inr ⟨ahK nd hk hm,rfl⟩
  .exact .inl e
 refine ⟨fun hz=>⟨?_,fun n=>?_⟩,fun hz=>⟨h.1,fun n=>?_⟩⟩
 .rw [Z7];refine ⟨h.1,by simp,fun x hx w hw e=>lZ ?_⟩;rw [<- D1.mp hw,<- e];exact hx
 .rw [D3,h.2,D1]
  constructor
  .rintro (⟨k,x,e,h1,h2,h3⟩ | rfl)
   .rcases Z3 k x h1 with c | ⟨_,rfl⟩
    .exact ⟨k,x,e,h1,h2,(J7 x c).mpr h3⟩
    .exact absurd h3 hy
   .exact ⟨m,y,rfl,hm,hb,hz⟩
  .rintro ⟨k,x,e,h1,h2,h3⟩
   rcases Z3 k x h1 with c | ⟨rfl,rfl⟩
   .exact .inl ⟨k,x,e,h1,h2,(J7 x c).mp h3⟩
   .exact .inr e
 .rw [h.2]
  constructor
  .rintro ⟨k,x,e,h1,h2,h3⟩
   rcases Z3 k x h1 with c | ⟨_,rfl⟩
   .exact ⟨k,x,e,h1,h2,(J7 x c).mpr h3⟩
   .exact absurd h3 hy
  .rintro ⟨k,x,e,h1,h2,h3⟩
   rcases Z3 k x h1 with c | ⟨_,rfl⟩
   .exact ⟨k,x,e,h1,h2,(J7 x c).mp h3⟩
   .exact absurd h3 hz
theorem FS.congr{z z':Str->Prop}(h:FS ts bad z fr)(e:∀ q,z' q↔z q):FS ts bad z' fr:=⟨h.1,fun n=>by rw [h.2];exact ⟨fun ⟨m,x,a,b,c,d⟩=>⟨m,x,a,b,c,(e x).mpr d⟩,fun ⟨m,x,a,b,c,d⟩=>⟨m,x,a,b,c,(e x).mp d⟩⟩⟩
theorem agQ{E:List (Str×Str)}(h:FS ts line (fun q=>G4 E line q=0) fr){M:Int}(hM:M∈fr)(fK:∀ a∈fr,M<=a):∃ (m:Nat) (p:Str),M=(m:Int)/\ts[m]?=some p/\nextP E ts line=some p:=by
 obtain ⟨m,p,e,h1,h2,h3⟩:=(h.2 M).mp hM;refine ⟨m,p,e,h1,?_⟩;rw [aeJ];obtain ⟨hm,rfl⟩:=E9.mp h1;have e1:ts=ts.take m++ts[m]::ts.drop (m+1):=by rw [<- dL hm,g3]
 generalize hP:(fun p=>!decide (p∈line)&&decide (∀ e∈E,e.2=p->e.1∈line))=P;have hp:P ts[m]=true:=by
  rw [<- hP];simp only [X0,Bool.not_eq_true',decide_eq_false_iff_not,decide_eq_true_eq];exact ⟨h2,cnt_zero.mp h3⟩
 have mL:(ts.take m).find? P=none:=by
  rw [List.find?_eq_none];intro x hx hxP;obtain ⟨k,hk,rfl⟩:=W8.mp hx;rw [G6] at hk;rw [List.getElem_take,<- hP] at hxP;simp only [X0,Bool.not_eq_true',decide_eq_false_iff_not,decide_eq_true_eq] at hxP
  have:=fK (k:Int) ((h.2 _).mpr ⟨k,ts[k],rfl,by simp,hxP.1,cnt_zero.mpr hxP.2⟩)
  lia
 conv=>lhs;rw [e1]
 rw [List.find?_append,mL,k9,hp];rfl
theorem alI{E:List (Str×Str)}(r:U9 E ts line)(h:q∈line):G4 E line q=0:=by
 obtain ⟨pre,post,rfl⟩:=List.append_of_mem h
 have:=(kO (r pre q post rfl)).2.2
 rw [cnt_zero] at this ⊢
 intro e he h2;exact N7 _ (this e he h2)
theorem agc{f:Str->V} : ∀ {ts pre:List Str},(pre++ts).Nodup->W3 (B5 pre f) (B5 ts f)=B5 (pre++ts) f
 | [],pre,_=>by rw [N0];rfl
 | t::ts,pre,h=>by
  have ht:t∉pre:=fun hm=>(Z7.mp h).2.2 t hm t J9 rfl
  show W3 (putK (B5 pre f) (Sum.inr t) (f t)) (B5 ts f)=_;rw [cG _ ht,show B5 (pre++[t]) (fun x=>if x=t then f t else f x)=B5 (pre++[t]) f from U0 fun x _=>by
   by_cases e:x=t
   .rw [if_pos e,e]
   .rw [if_neg e]]
  rw [agc (pre:=pre++[t]) (by simpa using h)]
  simp
theorem aeM:∀ {l m:List Int},l.Nodup->(∀ x∈l,x∈m)->l.length<=m.length
 | [],_,_,_=>G3 _
 | x::l,m,nd,h=>by
  obtain ⟨n1,n2⟩:=U5.mp nd;have hx:=h x J9
  have:=aeM (l:=l) (m:=m.erase x) n2 fun y hy=>(List.mem_erase_of_ne (fun e=>n1 (by rw [<- e];exact hy))).mpr (h y (L6 _ hy))
  rw [List.length_erase_of_mem hx] at this;have fJ:=List.length_pos_of_mem hx;rw [K9];lia
theorem ahL{f:Str->V} : ∀ {qs:List Addr} {ts:List Str},Paired (fun q t=>H q=some (.tup [.str t,f t])) qs ts->Paired (fun q (kx:C1×V)=>C6 K H q [kV kx.1,kx.2]) qs (B5 ts f)
 | _,_,.nil=>.nil
 | _,_,.cons h t=>.cons (.of h) (ahL t)
theorem forRs(Pv:Nat->St->Hp->Prop)(h0:Pv 0 Y H)(hs:∀ (P':Nat->St->Hp->Prop) (B':St->Hp->Prop),(∀ i Y H,Pv i Y H->P' i Y H)->∀ i Y H,i<n->Pv i Y H->g (.int (lo+i)) Y H fun σ2 H2=>tb { D with nx:=P' (i+1),ct:=P' (i+1),bk:=B' } σ2 H2)(hd:∀ Y H,Pv n Y H->D.nx Y H):ForIt (i5 lo n) g tb D Y H:=forR Pv h0 (hs Pv _ fun _ _ _ h=>h) hd
noncomputable def ams:Sp:=fun vs H Q _=>∃ (a:Addr) (rs:List Addr) (zss:List (List Str)),vs=[.ref a]/\IsRows H a rs zss/\zss.flatten.length<=100000/\
 ∀ l H',H l=none->Same H H'->H' l=some (.lst ((toldL zss).map V.str))->Q (.ref l) H'
noncomputable def gZ:Sp:=fun vs H Q _=>∃ c,vs=[.str ⟨#[c]⟩]/\Q (.bl (figO c)) H
noncomputable def M3 (R:List Rl):List (Str×List Str):=R.filterMap fun z=>if z.1=("great" : Str) then z.2.head?.map fun y=>(y,z.2.drop 1) else none
noncomputable def E3 (R:List Rl):List Str:=J5 [] ((M3 R).map (·.1))
noncomputable def G2 (R:List Rl) (y:Str):List Str:=((M3 R).filter fun e=>decide (e.1=y)).flatMap (·.2)
theorem oX(A B:List Rl):M3 (A++B)=M3 A++M3 B:=by
 unfold M3;rw [List.filterMap_append]
theorem uA{R:List Rl}{z:Rl}(h:R[i]?=some z):M3 (R.take (i+1))=M3 (R.take i)++M3 [z]:=by
 rw [K8 h,oX]
theorem oY{z:Rl}(h:z.1≠("great" : Str)):M3 [z]=[]:=by
 unfold M3;rw [dM,if_neg h];rfl
theorem uB{fs:List Str} : M3 [(("great" : Str),y::fs)]=[(y,fs)]:=by
 unfold M3;rw [dM,if_pos rfl];rfl
theorem uC{A:List Rl}{fs:List Str}(x:Str):G2 (A++[(("great" : Str),y::fs)]) x=if x=y then G2 A x++fs else G2 A x:=by
 unfold G2;rw [oX,uB,dN,Y4]
 by_cases h:x=y
 .subst h;simp
 .have:¬ (y=x):=fun e=>h e.symm
  simp [this,h]
theorem oZ{A:List Rl}{fs:List Str} : E3 (A++[(("great" : Str),y::fs)])=dd (E3 A) y:=by
 unfold E3 J5;rw [oX,uB,D9,y8];rfl
noncomputable def ahM (K:PySem.W.Frag):Sp:=fun vs H Q _=>∃ (a:Addr) (ts:List Addr) (R:List Rl),vs=[.ref a]/\IsRules H a ts R/\(∀ z∈R,z.1=("great" : Str)->z.2≠[])/\R.length<=1000/\(∀ i y,(G2 (R.take i) y).length<=10000)/\
 ∀ d ad H',H d=none->Same H H'->H' d=some (.dK (B5 (E3 R) fun y=>.ref (ad y)))->DL H H' (E3 R) ad (G2 R)->Q (.ref d) H'
theorem uD(xs:List V)(h:i<=j):cutV xs (some (i:Int)) (some (j:Int))=(xs.drop i).take (j-i):=by
 unfold cutV;rw [HT.sIx_nat,HT.sIx_nat]
 by_cases hi:i<=xs.length
 .rw [dQ hi]
  by_cases hj:j<=xs.length
  .rw [dQ hj]
  .rw [Nat.min_eq_right (by lia),t7 (by rw [t8];exact A8 _),t7 (by rw [t8];lia)]
 .rw [Nat.min_eq_right (by lia:xs.length<=i),jL (A8 _),jL (by lia),List.take_nil,List.take_nil]
structure Used(ks:List Str)(g:Str->V)(z:Rl):Prop where
 gr:z.1=("great" : Str)->∀ p∈z.2.take 1,p∈ks/\g p=.str "letter"
 a1:z.1=("as" : Str)->∀ p∈(z.2.drop 1).take 1,p∈ks/\g p=.str "letter"
 a2:z.1=("as" : Str)->∀ p∈z.2.drop 2,p∈ks/\(g p=.str "letter"\/g p=.str "mark")
noncomputable def amt (K:PySem.W.Frag):Sp:=fun vs H Q _=>∃ (t d:Addr) (z:Rl) (ks:List Str) (g:Str->V),vs=[.ref t,.ref d]/\H t=some (tupR z)/\H d=some (.dK (B5 ks g))/\Used ks g z/\z.2.length<=1000/\∀ p H',H p=none->Same H H'->H' p=some (.lst [])->Q (.ref p) H'
noncomputable def ahN (K:PySem.W.Frag):Sp:=fun vs H Q _=>∃ (a d:Addr) (ts:List Addr) (R:List Rl) (ks:List Str) (g:Str->V),vs=[.ref a,.ref d]/\IsRules H a ts R/\H d=some (.dK (B5 ks g))/\(∀ z∈R,Used ks g z/\z.2.length<=1000)/\∀ H',Same H H'->Q .non H'
noncomputable abbrev Tr:=Int×Int×Int
noncomputable def tupT (s:Tr):HO:=.tup [.int s.1,.int s.2.1,.int s.2.2]
structure StepAt(H:Hp)(r:Addr)(ss:List Tr):Prop where
 ex:∃ ts:List Addr,H r=some (.tup (ts.map V.ref))/\Paired (fun t s=>H t=some (tupT s)) ts ss
theorem StepAt.same{ss:List Tr}(h:StepAt H r ss)(S:Same H H'):StepAt H' r ss:=
 let ⟨ts,h1,h2⟩:=h.ex
 ⟨ts,S _ _ h1,O4 h2 fun _ _ e=>S _ _ e⟩
theorem StepAt.put{d:Addr}{ss:List Tr}{o o':HO}(h:StepAt H r ss)(hd:H d=some o')(hn:∀ xs,o'≠.tup xs):StepAt (A0 H d o) r ss:=by
 obtain ⟨ts,h1,h2⟩:=h.ex;refine ⟨ts,?_,O4 h2 fun t s e=>?_⟩
 .rw [A3 (fun e=>by rw [e,hd] at h1;exact hn _ (Option.some.inj h1))];exact h1
 .rw [A3 (fun q=>by rw [q,hd] at e;exact hn _ (Option.some.inj e))];exact e
theorem StepAt.one{t:Addr}{s:Tr}(h1:H r=some (.tup [.ref t]))(h2:H t=some (tupT s)):StepAt H r [s]:=⟨[t],h1,.cons h2 .nil⟩
noncomputable def IsMade (H:Hp) (d:Addr) (ks:List Str) (F:Str->List Tr):Prop:=∃ ad:Str->Addr,H d=some (.dK (B5 ks fun y=>.ref (ad y)))/\∀ y∈ks,StepAt H (ad y) (F y)
theorem IsMade.same{d:Addr}{F:Str->List Tr}(h:IsMade H d ks F)(S:Same H H'):IsMade H' d ks F:=
 let ⟨ad,h1,h2⟩:=h
 ⟨ad,S _ _ h1,fun y hy=>(h2 y hy).same S⟩
theorem IsMade.put{d:Addr}{F:Str->List Tr}{ad:Str->Addr}(h1:H d=some (.dK (B5 ks fun y=>.ref (ad y))))(h2:∀ y∈ks,StepAt H (ad y) (F y)){l:Str}(hp:StepAt H p (F l)) :
  IsMade (A0 H d (.dK (putK (B5 ks fun y=>.ref (ad y)) (Sum.inr l) (.ref p)))) d (dd ks l) F:=by
 refine ⟨fun y=>if y=l then p else ad y,?_,fun y hy=>?_⟩
 .rw [A2];have e:∀ t,(if t=l then V.ref p else V.ref (ad t))=V.ref (if t=l then p else ad t):=fun t=>by
   by_cases h:t=l
   .rw [if_pos h,if_pos h]
   .rw [if_neg h,if_neg h]
  unfold dd
  by_cases hl:l∈ks
  .rw [if_pos hl,oU _ hl];exact congrArg (fun x=>some (HO.dK x)) (U0 fun t _=>e t)
  .rw [if_neg hl,cG _ hl];exact congrArg (fun x=>some (HO.dK x)) (U0 fun t _=>e t)
 .by_cases h:y=l
  .subst h;show StepAt _ (if y=y then p else ad y) _;rw [if_pos rfl];exact hp.put h1 (by intro xs e;cases e)
  .show StepAt _ (if y=l then p else ad y) _;rw [if_neg h];refine (h2 y ?_).put h1 (by intro xs e;cases e);unfold dd at hy
   by_cases hl:l∈ks
   .rw [if_pos hl] at hy;exact hy
   .rw [if_neg hl] at hy
    rcases D3.mp hy with q | q
    .exact q
    .exact absurd (D1.mp q) h
structure StI(H H2:Hp)(d:Addr)(P:List Str)(F:Str->List Tr):Prop where
 same:Same H H2
 made:IsMade H2 d (J5 [] P) F
theorem alJ(P:List Str)(x:Str):J5 [] (P++[x])=dd (J5 [] P) x:=by
 unfold J5;rw [y8];rfl
theorem StI.putX{d:Addr}{P:List Str}{F:Str->List Tr}(nd:H d=none)(h:StI H H2 d P F)(hP:P.length<100000){l:Str}(hp:StepAt H2 p (F l)) :
  ∃ kvs o,H2 d=some (.dK kvs)/\DPut H2 d (V.str l) (V.ref p) (A0 H2 d o)/\StI H (A0 H2 d o) d (P++[l]) F:=by
 obtain ⟨ad,h1,h2⟩:=h.made;have hl:=kI P [];rw [k8,Nat.zero_add] at hl;refine ⟨_,_,h1,bZ (k:=Sum.inr l) h1 (by rw [j3];exact G9 (by lia)),h.same.put nd,?_⟩;rw [alJ];exact IsMade.put h1 h2 hp
theorem StI.put{d:Addr}{P:List Str}{F:Str->List Tr}(nd:H d=none)(h:StI H H2 d P F)(hP:P.length<100000){l:Str}(hp:StepAt H2 p (F l)) :
  ∃ x,DPut H2 d (V.str l) (V.ref p) x/\StI H x d (P++[l]) F:=
 let ⟨_,_,_,h1,h2⟩:=h.putX nd hP hp
 ⟨_,h1,h2⟩
theorem StI.more{d:Addr}{P:List Str}{F:Str->List Tr}(h:StI H H2 d P F)(S:Same H2 H3):StI H H3 d P F:=⟨h.same.trans S,h.made.same S⟩
theorem StI.frz{d:Addr}{P:List Str}{F:Str->List Tr}{o:HO}(h:StI H H2 d P F)(hf:H2 f=some (.dK kvs))(n:H f=none)(nf:f≠d):StI H (A0 H2 f o) d P F:=
 let ⟨ad,h1,h2⟩:=h.made
 ⟨h.same.put n,ad,by rw [A3 nf.symm];exact h1,fun y hy=>(h2 y hy).put hf (by intro xs e;cases e)⟩
theorem StI.thaw{d:Addr}{P:List Str}{F:Str->List Tr}{q:Obj}{o o':HO}(h:StI H H2 d P F)(hf:H2 f=some (.frz q o'))(n:H f=none)(nf:f≠d):StI H (A0 H2 f o) d P F:=
 let ⟨ad,h1,h2⟩:=h.made
 ⟨h.same.put n,ad,by rw [A3 nf.symm];exact h1,fun y hy=>(h2 y hy).put hf (by intro xs e;cases e)⟩
structure FoI(H H2:Hp)(d f:Addr)(o:Obj)(ts:List Str)(af:Str->Addr)(G:Str->List Str)(P:List Str)(F:Str->List Tr):Prop where
 frz:H2 f=some (.frz o (.dK (B5 ts fun y=>.ref (af y))))
 rows:∀ y∈ts,H2 (af y)=some (.lst ((G y).map V.str))
 st:StI H H2 d P F
theorem FoI.more{d:Addr}{o:Obj}{af:Str->Addr}{G:Str->List Str}{P:List Str}{F:Str->List Tr}(h:FoI H H2 d f o ts af G P F)(S:Same H2 H3):FoI H H3 d f o ts af G P F:=⟨S _ _ h.frz,fun y hy=>S _ _ (h.rows y hy),h.st.more S⟩
theorem FoI.put{d:Addr}{o:Obj}{af:Str->Addr}{G:Str->List Str}{P:List Str}{F:Str->List Tr}(nd:H d=none)(h:FoI H H2 d f o ts af G P F)(hP:P.length<100000){l:Str}(hp:StepAt H2 p (F l)) :
  ∃ x,DPut H2 d (V.str l) (V.ref p) x/\FoI H x d f o ts af G (P++[l]) F:=by
 obtain ⟨kvs,o',h0,h1,h2⟩:=h.st.putX nd hP hp;refine ⟨_,h1,?_,fun y hy=>?_,h2⟩
 .rw [A3 (fun e=>by have:=h.frz;rw [e,h0] at this;cases this)];exact h.frz
 .rw [A3 (fun e=>by have:=h.rows y hy;rw [e,h0] at this;cases this)];exact h.rows y hy
theorem StI.putL{d:Addr}{P:List Str}{F:Str->List Tr}{o:HO}(h:StI H H2 d P F)(hf:H2 f=some (.lst xs))(n:H f=none):StI H (A0 H2 f o) d P F:=
 let ⟨ad,h1,h2⟩:=h.made
 ⟨h.same.put n,ad,by rw [A3 (fun e=>by rw [e,hf] at h1;cases h1)];exact h1,fun y hy=>(h2 y hy).put hf (by intro xs e;cases e)⟩
structure AsI(H H7 H2:Hp)(d:Addr)(P:List Str)(F:Str->List Tr)(ts:List Addr)(ss:List Tr):Prop where
 st:StI H H2 d P F
 pr:Paired (fun t s=>H2 t=some (tupT s)) ts ss
 sm:Same H7 H2
theorem AsI.putL{H7:Hp}{d:Addr}{P:List Str}{F:Str->List Tr}{ts:List Addr}{ss:List Tr}{o:HO}(h:AsI H H7 H2 d P F ts ss)(hf:H2 f=some (.lst xs))(n:H f=none)(n7:H7 f=none):AsI H H7 (A0 H2 f o) d P F ts ss:=
 ⟨h.st.putL hf n,O4 h.pr fun t s e=>by rw [A3 (fun q=>by rw [q,hf] at e;cases e)];exact e,h.sm.put n7⟩
noncomputable def asKs (R:List Rl):List Str:=R.filterMap fun z=>if z.1=("as" : Str) then z.2.head? else none
theorem agd{R:List Rl}{z:Rl}(h:R[i]?=some z):asKs (R.take (i+1))=asKs (R.take i)++asKs [z]:=by
 rw [K8 h];unfold asKs;rw [List.filterMap_append]
theorem ajZ{z:Rl}(h:z.1≠("as" : Str)):asKs [z]=[]:=by
 unfold asKs;rw [dM,if_neg h];rfl
theorem ahO{fs:List Str} : asKs [(("as" : Str),y::fs)]=[y]:=by
 unfold asKs;rw [dM,if_pos rfl];rfl
theorem alK(R:List Rl):(asKs R).length<=R.length:=List.length_filterMap_le _ _
structure Made(R:List Rl)(L M:List Str)(F:Str->List Tr):Prop where
 lt:∀ (i:Nat) y,L[i]?=some y->F y=[(2,(i:Int),0)]
 mr:∀ (i:Nat) y,M[i]?=some y->F y=[(0,(i:Int),0)]
 gl:∀ y∈E3 R,y∈L
 gr:∀ y∈E3 R,∀ (c:Nat) f,(G2 R y)[c]?=some f->F f=[(2,(L.idxOf y:Int),((c+1:Nat):Int))]
 ne:∀ z∈R,z.1=("as" : Str)\/z.1=("great" : Str)->z.2≠[]
 pt:∀ z∈R,z.1=("as" : Str)->∀ q∈z.2.drop 1,q∈L\/q∈M
 as:∀ z∈R,z.1=("as" : Str)->∀ p qs,z.2=p::qs->F p=qs.map fun q=>(F q).headD (0,0,0)
noncomputable def allKs (R:List Rl) (L M:List Str):List Str:=L++M++(E3 R).flatMap (G2 R)++asKs R
theorem Made.base{R:List Rl}{F:Str->List Tr}(m:Made R L M F)(h:q∈L\/q∈M):∃ s,F q=[s]:=by
 rcases h with h | h
 .obtain ⟨i,hi,e⟩:=W8.mp h;exact ⟨_,m.lt i q (by rw [F8 hi,e])⟩
 .obtain ⟨i,hi,e⟩:=W8.mp h;exact ⟨_,m.mr i q (by rw [F8 hi,e])⟩
theorem Made.letter{R:List Rl}{F:Str->List Tr}(m:Made R L M F)(h:q∈L):F q=[(2,(L.idxOf q:Int),0)]:=by
 have hi:=nO.mpr h;exact m.lt (L.idxOf q) q (by rw [F8 hi,List.getElem_idxOf])
noncomputable def ahP (K:PySem.W.Frag):Sp:=fun vs H Q _=>∃ (a b c:Addr) (ts:List Addr) (R:List Rl) (L M:List Str) (F:Str->List Tr),vs=[.ref a,.ref b,.ref c]/\IsRules H a ts R/\Made R L M F/\H b=some (.lst (L.map V.str))/\H c=some (.lst (M.map V.str))/\(∀ z∈R,z.2.length<=1000)/\R.length<=1000/\(∀ i y,(G2 (R.take i) y).length<=10000)/\(allKs R L M).length<=50000/\
 ∀ d H',H d=none->Same H H'->IsMade H' d (J5 [] (allKs R L M)) F->Q (.ref d) H'
noncomputable def baseT (L M:List Str) (q:Str):Tr:=if q∈L then (2,(L.idxOf q:Int),0) else (0,(M.idxOf q:Int),0)
noncomputable def kU (L M:List Str) (R:List Rl):List (Str×List Tr):=R.filterMap fun z=>if z.1=("as" : Str) then z.2.head?.map fun p=>(p,(z.2.drop 1).map (baseT L M)) else none
noncomputable def putsL (R:List Rl) (L M:List Str):List (Str×List Tr):=
 (L.zipIdx.map fun e=>(e.1,[((2:Int),(e.2:Int),(0:Int))]))++(M.zipIdx.map fun e=>(e.1,[((0:Int),(e.2:Int),(0:Int))]))++((E3 R).flatMap fun y=>(G2 R y).zipIdx.map fun e=>(e.1,[((2:Int),(L.idxOf y:Int),((e.2+1:Nat):Int))]))++kU L M R
noncomputable def stepF (R:List Rl) (L M:List Str) (p:Str):List Tr:=((putsL R L M).lookup p).getD []
theorem aj0{p:Str}{s:List Tr} : ∀ {l:List (Str×List Tr)},(l.map (·.1)).Nodup->(p,s)∈l->l.lookup p=some s
 | [],_,h=>by cases h
 | (y,t)::l,nd,h=>by
  rw [K0,U5] at nd;rw [List.lookup_cons]
  rcases E5.mp h with h | h
  .obtain ⟨rfl,rfl⟩:=Prod.mk.inj h
   simp
  .have:p≠y:=fun e=>nd.1 (E2.mpr ⟨_,h,e⟩)
   have e:(p==y)=false:=by simpa using this
   rw [e];exact aj0 nd.2 h
theorem agf(R:List Rl)(L M:List Str):(putsL R L M).map (·.1)=allKs R L M:=by
 have z:∀ (l:List Str) (f:Nat->List Tr),(l.zipIdx.map fun e=>(e.1,f e.2)).map (·.1)=l:=fun l f=>by
  rw [V8];exact List.zipIdx_map_fst 0 l
 have a:(kU L M R).map (·.1)=asKs R:=by
  unfold kU asKs;rw [List.map_filterMap]
  congr 1
  funext z
  by_cases h:z.1=("as" : Str)
  .rw [if_pos h,if_pos h]
   cases z.2 <;> rfl
  .rw [if_neg h,if_neg h];rfl
 unfold putsL allKs;rw [D9,D9,D9,z L fun i=>[(2,(i:Int),0)],z M fun i=>[(0,(i:Int),0)],a,List.map_flatMap]
 congr 2
 congr 1
 funext y
 exact z (G2 R y) fun i=>[(2,(L.idxOf y:Int),((i+1:Nat):Int))]
theorem hJ{R:List Rl}(nd:(allKs R L M).Nodup){p:Str}{s:List Tr}(h:(p,s)∈putsL R L M):stepF R L M p=s:=by
 unfold stepF;rw [aj0 (by rw [agf];exact nd) h];rfl
theorem anZ{R:List Rl}(nd:(allKs R L M).Nodup)(gl:∀ y∈E3 R,y∈L)(ne:∀ z∈R,z.1=("as" : Str)\/z.1=("great" : Str)->z.2≠[])(pt:∀ z∈R,z.1=("as" : Str)->∀ q∈z.2.drop 1,q∈L\/q∈M):Made R L M (stepF R L M):=by
 have m1:∀ (i:Nat) y,L[i]?=some y->(y,[((2:Int),(i:Int),(0:Int))])∈putsL R L M:=fun i y h=>by
  refine N7 _ (N7 _ (N7 _ (E2.mpr ⟨(y,i),?_,rfl⟩)));rw [List.mem_zipIdx_iff_getElem?];exact h
 have m2:∀ (i:Nat) y,M[i]?=some y->(y,[((0:Int),(i:Int),(0:Int))])∈putsL R L M:=fun i y h=>by
  refine N7 _ (N7 _ (M6 _ (E2.mpr ⟨(y,i),?_,rfl⟩)));rw [List.mem_zipIdx_iff_getElem?];exact h
 have hb:∀ q,q∈L\/q∈M->stepF R L M q=[baseT L M q]:=fun q hq=>by
  unfold baseT
  by_cases h:q∈L
  .rw [if_pos h];have hi:=nO.mpr h;exact hJ nd (m1 (L.idxOf q) q (by rw [F8 hi,List.getElem_idxOf]))
  .rw [if_neg h];have hm:=hq.resolve_left h;have hi:=nO.mpr hm;exact hJ nd (m2 (M.idxOf q) q (by rw [F8 hi,List.getElem_idxOf]))
 refine ⟨fun i y h=>hJ nd (m1 i y h),fun i y h=>hJ nd (m2 i y h),gl,fun y hy c f h=>hJ nd ?_,ne,pt,fun z hz e p qs ez=>?_⟩
 .refine N7 _ (M6 _ (g7.mpr ⟨y,hy,E2.mpr ⟨(f,c),?_,rfl⟩⟩));rw [List.mem_zipIdx_iff_getElem?];exact h
 .have:(p,qs.map (baseT L M))∈putsL R L M:=M6 _ (gB.mpr ⟨z,hz,by rw [if_pos e,ez];rfl⟩)
  rw [hJ nd this];refine fZ fun q hq=>?_
  rw [hb q (pt z hz e q (by rw [ez];exact hq))];rfl
theorem an0{g:Str->Str}{PL:List (Str×Str)}(nc:NC fg g PL):PL.Pairwise fun a b=>a.1=b.1->b.2∈kQ:=by
 rw [bI];intro i j hi hj O9 e;refine (nc j PL[j].1 PL[j].2 (by rw [F8 hj])).2.1 ?_;rw [<- e];refine E2.mpr ⟨PL[i],?_,rfl⟩;rw [jK];exact ⟨i,by lia,rfl⟩
theorem kW{g:Str->Str}{PL:List (Str×Str)}(nc:NC fg g PL){p j:Str}(h:(p,j)∈PL):g p=j:=by
 obtain ⟨i,hi,e⟩:=W8.mp h;exact (nc i p j (by rw [F8 hi,e])).1.symm
theorem aj1{g:Str->Str}{PL:List (Str×Str)}(nc:NC fg g PL){j:Str}(hj:j∉kQ):((PL.filter fun e=>decide (e.2=j)).map (·.1)).Nodup:=by
 rw [s0,List.pairwise_map];refine List.Pairwise.imp_of_mem ?_ ((an0 nc).filter _);intro a b _ hb h e
 have:=h e
 have hb2:b.2=j:=by simpa using (T5.mp hb).2
 rw [hb2] at this;exact hj this
theorem pA{w:Str}(h:eL w):(jobD w=("great" : Str)↔w="great")/\(jobD w=("as" : Str)↔w="as")/\(jobD w=("letter" : Str)↔w="row")/\(jobD w=("mark" : Str)↔w="marks")/\(jobD w=("over" : Str)↔w="over"):=by
 rcases h with rfl | rfl | rfl | rfl | rfl <;> decide +kernel
theorem agh{R:List Rl}{p j:Str} : (p,j)∈C9 R↔∃ z∈R,p∈O1 z/\jobD z.1=j:=by
 unfold C9;rw [g7]
 constructor
 .rintro ⟨z,hz,h⟩;obtain ⟨q,hq,e⟩:=E2.mp h;obtain ⟨rfl,rfl⟩:=Prod.mk.inj e;exact ⟨z,hz,hq,rfl⟩
 .rintro ⟨z,hz,hp,rfl⟩;exact ⟨z,hz,E2.mpr ⟨p,hp,rfl⟩⟩
theorem eM(z:Rl)(R:List Rl):C9 (z::R)=((O1 z).map fun p=>(p,jobD z.1))++C9 R:=by
 unfold C9;rw [Q9]
theorem m8{z:Rl} : (z.1=("great" : Str)->O1 z=z.2.drop 1)/\(z.1=("as" : Str)->O1 z=z.2.take 1)/\(z.1=("row" : Str)\/z.1=("marks" : Str)\/z.1=("over" : Str)->O1 z=z.2):=by
 unfold O1;refine ⟨fun h=>by rw [if_pos h],fun h=>?_,fun h=>?_⟩
 .rw [if_neg (by rw [h];decide +kernel),if_pos h]
 .rw [if_neg,if_neg,if_pos h]
  .rcases h with h | h | h <;> rw [h] <;> decide +kernel
  .rcases h with h | h | h <;> rw [h] <;> decide +kernel
theorem kX:∀ R:List Rl,((C9 R).filter fun e=>decide (e.2=("great" : Str))).map (·.1)=(M3 R).flatMap (·.2)
 | []=>rfl
 | z::R=>by
  rw [eM,dN,D9,kX R];have e:M3 (z::R)=M3 [z]++M3 R:=oX [z] R;rw [e,Y4]
  congr 1
  by_cases h:z.1=("great" : Str)
  .obtain ⟨w,ps⟩:=z;obtain rfl:w=("great" : Str):=h;rw [m8.1 rfl,jN.mpr,V8]
   .cases ps with
    | nil=>simp [M3]
    | cons y fs=>
     rw [uB];show List.map _ fs=_;simp [Function.comp_def]
   .intro a ha;obtain ⟨q,_,rfl⟩:=E2.mp ha;exact decide_eq_true (show jobD "great"=("great" : Str) by decide +kernel)
  .rw [oY h,nQ.mpr]
   .rfl
   .intro a ha;obtain ⟨q,hq,rfl⟩:=E2.mp ha
    have:=(pA (kT hq)).1
    simp only [decide_eq_true_eq];exact fun e=>h (this.mp e)
theorem pB:∀ R:List Rl,((C9 R).filter fun e=>decide (e.2=("as" : Str))).map (·.1)=asKs R
 | []=>rfl
 | z::R=>by
  rw [eM,dN,D9,pB R];have e:asKs (z::R)=asKs [z]++asKs R:=by unfold asKs;rw [<- List.filterMap_append];rfl
  rw [e]
  congr 1
  by_cases h:z.1=("as" : Str)
  .obtain ⟨w,ps⟩:=z;obtain rfl:w=("as" : Str):=h;rw [m8.2.1 rfl,jN.mpr,V8]
   .cases ps with
    | nil=>simp [asKs]
    | cons y fs=>
     rw [ahO];rfl
   .intro a ha;obtain ⟨q,_,rfl⟩:=E2.mp ha;exact decide_eq_true (show jobD "as"=("as" : Str) by decide +kernel)
  .rw [ajZ h,nQ.mpr]
   .rfl
   .intro a ha;obtain ⟨q,hq,rfl⟩:=E2.mp ha
    have:=(pA (kT hq)).2.1
    simp only [decide_eq_true_eq];exact fun e=>h (this.mp e)
theorem agi{R:List Rl}{w p:Str} : p∈(rowsW R w).flatten↔∃ z∈R,z.1=w/\p∈z.2:=by
 unfold rowsW;rw [List.mem_flatten]
 constructor
 .rintro ⟨l,hl,hp⟩;obtain ⟨z,hz,rfl⟩:=E2.mp hl;obtain ⟨h1,h2⟩:=T5.mp hz;exact ⟨z,h1,by simpa using h2,hp⟩
 .rintro ⟨z,hz,e,hp⟩;exact ⟨z.2,E2.mpr ⟨z,T5.mpr ⟨hz,by simpa using e⟩,rfl⟩,hp⟩
theorem mem_letter{R:List Rl}{p:Str} : (p,("letter" : Str))∈C9 R↔p∈(rowsW R "row").flatten:=by
 rw [agh,agi]
 constructor
 .rintro ⟨z,hz,hp,e⟩
  have:=(pA (kT hp)).2.2.1.mp e
  exact ⟨z,hz,this,by rw [m8.2.2 (.inl this)] at hp;exact hp⟩
 .rintro ⟨z,hz,e,hp⟩;exact ⟨z,hz,by rw [m8.2.2 (.inl e)];exact hp,by rw [e];decide +kernel⟩
theorem mem_mark{R:List Rl}{p:Str} : (p,("mark" : Str))∈C9 R↔p∈(rowsW R "marks").flatten:=by
 rw [agh,agi]
 constructor
 .rintro ⟨z,hz,hp,e⟩
  have:=(pA (kT hp)).2.2.2.1.mp e
  exact ⟨z,hz,this,by rw [m8.2.2 (.inr (.inl this))] at hp;exact hp⟩
 .rintro ⟨z,hz,e,hp⟩;exact ⟨z,hz,by rw [m8.2.2 (.inr (.inl e))];exact hp,by rw [e];decide +kernel⟩
theorem aj2{zss:List (List Str)}{p:Str} : p∈toldL zss↔p∈zss.flatten:=by
 unfold toldL;rw [oM,v8]
 simp
theorem cI{R:List Rl}{w:Str}(h:m7 R w L){p:Str} : p∈L↔p∈(rowsW R w).flatten:=by
 rw [<- aj2];exact ⟨h.1.sub,h.2 p⟩
structure GoodR(g:Str->Str)(r1 r2:Str->Nat)(R:List Rl):Prop where
 len:R.length<=1000
 plen:(C9 R).length<=10000
 nc:NC (hasW R "figures") g (C9 R)
 nb:(" " : Str)∉(C9 R).map (·.1)
 zl:∀ z∈R,z.2.length<=1000
 ne:∀ z∈R,z.1=("as" : Str)\/z.1=("great" : Str)->z.2≠[]
 gl:∀ z∈R,z.1=("great" : Str)->∀ p∈z.2.take 1,(p,("letter" : Str))∈C9 R
 al:∀ z∈R,z.1=("as" : Str)->∀ p∈(z.2.drop 1).take 1,(p,("letter" : Str))∈C9 R
 am:∀ z∈R,z.1=("as" : Str)->∀ p∈z.2.drop 2,(p,("letter" : Str))∈C9 R\/(p,("mark" : Str))∈C9 R
 f1:(rowsW R "row").flatten.length<=10000
 f2:(rowsW R "marks").flatten.length<=10000
 a1:∀ e∈edges (rowsW R "row"),r1 e.1<r1 e.2
 a2:∀ e∈edges (rowsW R "marks"),r2 e.1<r2 e.2
theorem GoodR.job{g:Str->Str}{r1 r2:Str->Nat}{R:List Rl}(h:GoodR g r1 r2 R){p j:Str}(hp:(p,j)∈C9 R):p∈keysP (C9 R)++Y8 R/\jobG g p=.str j:=by
 have hm:p∈(C9 R).map (·.1):=E2.mpr ⟨_,hp,rfl⟩;refine ⟨N7 _ ((kR _ _).mpr hm),?_⟩;unfold jobG;rw [if_neg (fun e=>h.nb (by rw [<- e];exact hm)),kW h.nc hp]
theorem GoodR.used{g:Str->Str}{r1 r2:Str->Nat}{R:List Rl}(h:GoodR g r1 r2 R){z:Rl}(hz:z∈R):Used (keysP (C9 R)++Y8 R) (jobG g) z:=
 ⟨fun e p hp=>h.job (h.gl z hz e p hp),fun e p hp=>h.job (h.al z hz e p hp),fun e p hp=>(h.am z hz e p hp).elim (fun q=>⟨(h.job q).1,.inl (h.job q).2⟩) fun q=>⟨(h.job q).1,.inr (h.job q).2⟩⟩
theorem forms_mem{R:List Rl}{f:Str} : f∈G2 R y↔∃ e∈M3 R,e.1=y/\f∈e.2:=by
 unfold G2;rw [g7]
 constructor
 .rintro ⟨e,he,hf⟩;obtain ⟨h1,h2⟩:=T5.mp he;exact ⟨e,h1,by simpa using h2,hf⟩
 .rintro ⟨e,he,h,hf⟩;exact ⟨e,T5.mpr ⟨he,by simpa using h⟩,hf⟩
theorem mem_formKs{R:List Rl} : y∈E3 R↔∃ e∈M3 R,e.1=y:=by
 unfold E3;rw [v8,E2]
 simp
theorem amu{g:Str->Str}{r1 r2:Str->Nat}{R:List Rl}(h:GoodR g r1 r2 R)(hL:m7 R "row" L)(hM:m7 R "marks" M):(allKs R L M).Nodup:=by
 have Z:((M3 R).flatMap (·.2)).Nodup:=by rw [<- kX];exact aj1 h.nc (by decide +kernel)
 have jl:∀ p∈L,g p="letter":=fun p hp=>kW h.nc (mem_letter.mpr ((cI hL).mp hp))
 have jm:∀ p∈M,g p="mark":=fun p hp=>kW h.nc (mem_mark.mpr ((cI hM).mp hp))
 have jf:∀ p∈(E3 R).flatMap (G2 R),g p="great":=fun p hp=>by
  obtain ⟨y,_,hp⟩:=g7.mp hp;obtain ⟨e,he,_,hf⟩:=forms_mem.mp hp
  have:p∈(M3 R).flatMap (·.2):=g7.mpr ⟨e,he,hf⟩
  rw [<- kX] at this;obtain ⟨⟨q,j⟩,hq,rfl⟩:=E2.mp this;obtain ⟨h1,h2⟩:=T5.mp hq;have h2:j=("great" : Str):=by simpa using h2
  subst h2;exact kW h.nc h1
 have ja:∀ p∈asKs R,g p="as":=fun p hp=>by
  rw [<- pB] at hp;obtain ⟨⟨q,j⟩,hq,rfl⟩:=E2.mp hp;obtain ⟨h1,h2⟩:=T5.mp hq;have h2:j=("as" : Str):=by simpa using h2
  subst h2;exact kW h.nc h1
 have nf:((E3 R).flatMap (G2 R)).Nodup:=by
  rw [s0,List.pairwise_flatMap] at Z ⊢
  obtain ⟨z1,z2⟩:=Z;refine ⟨fun y _=>?_,?_⟩
  .unfold G2;rw [List.pairwise_flatMap];exact ⟨fun e he=>z1 e (T5.mp he).1,z2.filter _⟩
  .have nk:(E3 R).Nodup:=by unfold E3;exact tN (by simp)
   refine List.Pairwise.imp ?_ (s0.mp nk);intro y y' hyy f hf f' hf' e;subst e;obtain ⟨e1,h1,r1,f1⟩:=forms_mem.mp hf;obtain ⟨e2,h2,r2,f2⟩:=forms_mem.mp hf';obtain ⟨i,hi,q1⟩:=W8.mp h1;obtain ⟨j,hj,q2⟩:=W8.mp h2;rw [bI] at z2
   rcases dP i j with c | c | c
   .exact z2 i j hi hj c f (by rw [q1];exact f1) f (by rw [q2];exact f2) rfl
   .subst c;exact hyy (by rw [<- r1,<- r2,<- q1,<- q2])
   .exact z2 j i hj hi c f (by rw [q2];exact f2) f (by rw [q1];exact f1) rfl
 have na:(asKs R).Nodup:=by rw [<- pB];exact aj1 h.nc (by decide +kernel)
 have n1:("letter" : Str)≠"mark"/\("letter" : Str)≠"great"/\("letter" : Str)≠"as"/\("mark" : Str)≠"great"/\("mark" : Str)≠"as"/\("great" : Str)≠"as":=by decide +kernel
 unfold allKs;rw [Z7,Z7,Z7];refine ⟨⟨⟨hL.1.nodup,hM.1.nodup,fun a ha b hb e=>?_⟩,nf,fun a ha b hb e=>?_⟩,na,fun a ha b hb e=>?_⟩
 .subst e;exact n1.1 ((jl a ha).symm.trans (jm a hb))
 .subst e
  rcases D3.mp ha with ha | ha
  .exact n1.2.1 ((jl a ha).symm.trans (jf a hb))
  .exact n1.2.2.2.1 ((jm a ha).symm.trans (jf a hb))
 .subst e
  rcases D3.mp ha with ha | ha
  .rcases D3.mp ha with ha | ha
   .exact n1.2.2.1 ((jl a ha).symm.trans (ja a hb))
   .exact n1.2.2.2.2.1 ((jm a ha).symm.trans (ja a hb))
  .exact n1.2.2.2.2.2 ((jf a ha).symm.trans (ja a hb))
theorem an1{g:Str->Str}{r1 r2:Str->Nat}{R:List Rl}(h:GoodR g r1 r2 R)(hL:m7 R "row" L)(hM:m7 R "marks" M):Made R L M (stepF R L M):=by
 refine anZ (amu h hL hM) (fun y hy=>?_) h.ne fun z hz e q hq=>?_
 .obtain ⟨e,he,rfl⟩:=mem_formKs.mp hy;unfold M3 at he;obtain ⟨z,hz,hh⟩:=gB.mp he
  by_cases hg:z.1=("great" : Str)
  .rw [if_pos hg] at hh;obtain ⟨w,ps⟩:=z
   cases ps with
   | nil=>cases hh
   | cons y fs=>
    have hh:=Option.some.inj hh;rw [<- hh];exact (cI hL).mpr (mem_letter.mp (h.gl _ hz hg y (by simp)))
  .rw [if_neg hg] at hh;cases hh
 .rw [<- g3 1 (z.2.drop 1)] at hq
  rcases D3.mp hq with hq | hq
  .exact .inl ((cI hL).mpr (mem_letter.mp (h.al z hz e q hq)))
  .rw [List.drop_drop] at hq
   rcases h.am z hz e q hq with h1 | h1
   .exact .inl ((cI hL).mpr (mem_letter.mp h1))
   .exact .inr ((cI hM).mpr (mem_mark.mp h1))
theorem an2{g:Str->Str}{r1 r2:Str->Nat}{R:List Rl}(h:GoodR g r1 r2 R)(hL:m7 R "row" L)(hM:m7 R "marks" M):(allKs R L M).length<=10000:=by
 refine L4 ?_ h.plen
 have:=List.Nodup.length_le_of_subset (l₂:=(C9 R).map (·.1)) (amu h hL hM) fun p hp=>by
  unfold allKs at hp
  rcases D3.mp hp with hp | hp
  .rcases D3.mp hp with hp | hp
   .rcases D3.mp hp with hp | hp
    .exact E2.mpr ⟨_,mem_letter.mpr ((cI hL).mp hp),rfl⟩
    .exact E2.mpr ⟨_,mem_mark.mpr ((cI hM).mp hp),rfl⟩
   .obtain ⟨y,_,hp⟩:=g7.mp hp;obtain ⟨e,he,_,hf⟩:=forms_mem.mp hp
    have:p∈(M3 R).flatMap (·.2):=g7.mpr ⟨e,he,hf⟩
    rw [<- kX] at this;obtain ⟨q,hq,rfl⟩:=E2.mp this;exact E2.mpr ⟨q,(T5.mp hq).1,rfl⟩
  .rw [<- pB] at hp;obtain ⟨q,hq,rfl⟩:=E2.mp hp;exact E2.mpr ⟨q,(T5.mp hq).1,rfl⟩
 rw [A4] at this;exact this
theorem aj3{g:Str->Str}{r1 r2:Str->Nat}{R:List Rl}(h:GoodR g r1 r2 R)(i:Nat)(y:Str):(G2 (R.take i) y).length<=10000:=by
 refine L4 ?_ h.plen;have h1:(G2 (R.take i) y).length<=((M3 (R.take i)).flatMap (·.2)).length:=by
  unfold G2;generalize M3 (R.take i)=E
  induction E with
  | nil=>exact A8 _
  | cons e E ih=>
   rw [List.filter_cons]
   split
   .rw [Q9,Q9,C8,C8];lia
   .rw [Q9,C8];lia
 have h2:((M3 (R.take i)).flatMap (·.2)).length<=(C9 (R.take i)).length:=by
  rw [<- kX,A4];exact List.length_filter_le _ _
 obtain ⟨more,e⟩:=agb R i;rw [e,C8];lia
theorem IsMade.mod{d:Addr}{F:Str->List Tr}{o o':HO}(h:IsMade H d ks F)(ha:H a=some o')(hn:∀ xs,o'≠.tup xs)(nd:d≠a):IsMade (A0 H a o) d ks F:=
 let ⟨ad,h1,h2⟩:=h
 ⟨ad,by rw [A3 nd];exact h1,fun y hy=>(h2 y hy).put ha hn⟩
structure IsOrd(C:Addr)(H:Hp)(x j ll ml md:Addr)(g:Str->Str)(R:List Rl)(L M:List Str):Prop where
 ob:∃ dx,H x=some (.ins C dx (ordF (hasW R "figures") (hasW R "behind") j ll ml md))
 jobs:H j=some (.dK (B5 (keysP (C9 R)++Y8 R) (jobG g)))
 lets:H ll=some (.lst (L.map V.str))
 mrks:H ml=some (.lst (M.map V.str))
 made:IsMade H md (J5 [] (allKs R L M)) (stepF R L M)
 l1:m7 R "row" L
 l2:m7 R "marks" M
theorem IsOrd.same{x j ll ml md:Addr}{g:Str->Str}{R:List Rl}(h:IsOrd C H x j ll ml md g R L M)(s:Same H H'):IsOrd C H' x j ll ml md g R L M:=
 ⟨let ⟨dx,e⟩:=h.ob;⟨dx,s _ _ e⟩,s _ _ h.jobs,s _ _ h.lets,s _ _ h.mrks,h.made.same s,h.l1,h.l2⟩
noncomputable def uE (C:Addr):Sp:=fun vs H Q _=>∃ (x dx a:Addr) (ts:List Addr) (R:List Rl) (g:Str->Str) (r1 r2:Str->Nat),vs=[.ref x,.ref a]/\H x=some (.ins C dx [])/\IsRules H a ts R/\GoodR g r1 r2 R/\
 ∀ j ll ml md L M H',H j=none->H ll=none->H ml=none->H md=none->SameBut x H H'->IsOrd C H' x j ll ml md g R L M->Q .non H'
end L2
set_option maxRecDepth 100000
namespace L2
open PySem PySem.Spec PyProof.Rows
structure RulesAt(H0 H:Hp)(a:Addr)(ts:List Addr)(R:List Rl):Prop where
 rows:IsRules H a ts R
 nd:(a::ts).Nodup
 new:∀ r∈a::ts,H0 r=none
 same:Same H0 H
theorem RulesAt.live{R:List Rl}(h:RulesAt H0 H a rs R)(hr:r∈a::rs):∃ o,H r=some o:=by
 rcases E5.mp hr with h' | h'
 .subst h';exact ⟨_,h.rows.top⟩
 .obtain ⟨i,hi,rfl⟩:=W8.mp h';obtain ⟨zs,_,h2⟩:=Paired.at h.rows.row (i:=i) (a:=rs[i]) (by simp [hi]);exact ⟨_,h2⟩
theorem RulesAt.grow{q:Addr}{R:List Rl}(h:RulesAt H0 H a rs R)(S:Same H H')(hq:H q=none){z:Rl}(aT:H' q=some (tupR z)):RulesAt H0 (A0 H' a (.lst (rs.map V.ref++[V.ref q]))) a (rs++[q]) (R++[z]):=by
 have nq:∀ r∈a::rs,r≠q:=fun r hr e=>by
  obtain ⟨o,e'⟩:=h.live hr;rw [e,hq] at e';cases e'
 obtain ⟨na,_⟩:=U5.mp h.nd;refine ⟨⟨by rw [A2,D9];rfl,?_⟩,?_,?_,?_⟩
 .refine Paired.snoc (gS h.rows.row fun r hr zs h=>?_) ?_
  .rw [A3 (fun e:r=a=>na (by rw [<- e];exact hr))];exact S _ _ h
  .rw [A3 (nq a J9).symm];exact aT
 .show (a::(rs++[q])).Nodup;exact oF h.nd fun e=>nq q e rfl
 .intro r hr
  rcases E5.mp hr with e | e
  .exact h.new r (by rw [e];exact J9)
  .rcases D3.mp e with e | e
   .exact h.new r (L6 _ e)
   .rw [D1.mp e];exact h.same.free hq
 .exact (h.same.trans S).put (h.new a J9)
theorem RulesAt.put{ts:List Addr}{R:List Rl}{o:HO}(h:RulesAt H0 H a ts R)(hr:r∉a::ts)(n:H0 r=none):RulesAt H0 (A0 H r o) a ts R:=
 ⟨⟨by rw [A3 (fun e=>hr (by rw [<- e];exact J9))];exact h.rows.top,gS h.rows.row fun t ht z e=>by rw [A3 (fun q=>hr (by rw [<- q];exact L6 _ ht))];exact e⟩,h.nd,h.new,h.same.put n⟩
noncomputable def uF (ns:List Int) (k:Int) (p:Str):Prop:=∃ rest:List Nat,p.cps.toList=gW ns k::rest/\rest.length<=1/\∀ c∈rest,∃ m:Int,c=gW ns m
noncomputable def PcS (ns:List Int) (S:Int->Prop) (p:Str):Prop:=∃ k,S k/\uF ns k p
structure Dis(ns:List Int)(S:Int->Prop)(ps:List Str):Prop where
 nd:ps.Nodup
 pc:∀ p∈ps,PcS ns S p
 uq:∀ p∈ps,∀ q∈ps,∀ k:Int,20<=k->k<83->uF ns k p->uF ns k q->p=q
noncomputable def LetS (k:Int):Prop:=0<=k/\k<16
structure LetW(ns:List Int)(n:Int)(ps:List Str):Prop where
 n0:2<=n
 n1:n<=16
 all:∀ k:Int,0<=k->k<n->one (gW ns k)∈ps
 each:∀ p∈ps,∃ k:Int,0<=k/\k<n/\(p=one (gW ns k)\/∃ m:Int,0<=m/\m<n/\p=one (gW ns k)++one (gW ns m))
noncomputable def OthZ (ls ms:List Str) (z:Rl):Prop:=(z.1=("great" : Str)/\∃ l fs,z.2=l::fs/\l∈ls/\1<=fs.length/\fs.length<=2)\/(z.1=("as" : Str)/\∃ p q qs,z.2=p::q::qs/\q∈ls/\(∀ r∈qs,r∈ls\/r∈ms)/\qs.length<=2)\/(z.1=("over" : Str)/\z.2.length<=2)
structure OthI(ns:List Int)(ls ms:List Str)(S:Int->Prop)(n:Nat)(R:List Rl):Prop where
 dis:Dis ns S ((C9 R).map (·.1))
 each:∀ z∈R,OthZ ls ms z
 len:R.length<=n
noncomputable def GS (i:Nat) (k:Int):Prop:=(30<=k/\k<30+(i:Int))\/(34<=k/\k<34+(i:Int))
noncomputable def AS (i:Nat) (k:Int):Prop:=GS 3 k\/(40<=k/\k<40+(i:Int))
noncomputable def OS (k:Int):Prop:=AS 3 k\/(50<=k/\k<52)
noncomputable def MarkS (k:Int):Prop:=20<=k/\k<25
noncomputable def flagW (w:Str):Prop:=w=("figures" : Str)\/w=("behind" : Str)\/w=("blanks" : Str)
theorem flagW.no{w:Str}(h:flagW w):w≠"row"/\w≠"marks"/\w≠"great"/\w≠"as"/\w≠"over":=by
 rcases h with rfl | rfl | rfl <;> decide +kernel
theorem aiw{w:Str}(h:flagW w):O1 (w,[])=[]:=by
 obtain ⟨n1,n2,n3,n4,n5⟩:=h.no;unfold O1;rw [if_neg n3,if_neg n4]
 split <;> rfl
structure RulP(ns:List Int)(ls ms:List Str)(b:Bool)(n:Nat)(R:List Rl):Prop where
 dis:Dis ns (fun k=>LetS k\/OS k\/(b=true/\MarkS k)) ((C9 R).map (·.1))
 row:rowsW R "row"=[ls]
 mrk:rowsW R "marks"=if b=true then [ms] else []
 each:∀ z∈R,z=(("row" : Str),ls)\/(z=(("marks" : Str),ms)/\b=true)\/OthZ ls ms z\/(z.2=[]/\flagW z.1)
 len:R.length<=n
 fig:hasW R "figures"=true->tW ns=false
 oi:∀ z∈R,OthZ ls ms z->∀ p∈O1 z,PcS ns OS p
noncomputable def gOf (R:List Rl) (p:Str):Str:=((C9 R).lookup p).getD ""
theorem agj(nd:ps.Nodup){e:Str×Str}(he:e∈W5 ps):ps.idxOf e.1<ps.idxOf e.2:=by
 unfold W5 at he;obtain ⟨i,hi,e1⟩:=W8.mp he;rw [List.getElem_zip] at e1;have V4:i+1<ps.length:=by rw [List.length_zip,List.length_tail] at hi;lia
 have iT:i<ps.tail.length:=by rw [List.length_tail];lia
 have e3:ps.tail[i]'iT=ps[i+1]:=List.getElem_tail iT;have f1:ps[i]=e.1:=congrArg Prod.fst e1;have f2:ps[i+1]=e.2:=e3.symm.trans (congrArg Prod.snd e1);have a1:ps.idxOf ps[i]=i:=List.Nodup.idxOf_getElem nd i (by lia);have a2:ps.idxOf ps[i+1]=i+1:=List.Nodup.idxOf_getElem nd (i+1) V4;rw [<- f1,<- f2,a1,a2];lia
structure RulG(ns:List Int)(ls ms:List Str)(R:List Rl):Prop where
 p:∃ b,RulP ns ls ms b 12 R/\(b=false->ms=[])
 l0:2<=ls.length
 l1:ls.length<=19
 ld:Dis ns LetS ls
 lw:∃ n,LetW ns n ls
 m1:ms.length<=4
 md:Dis ns MarkS ms
theorem RulesAt.more{ts:List Addr}{R:List Rl}(h:RulesAt H0 H a ts R)(S:Same H H'):RulesAt H0 H' a ts R:=⟨h.rows.same S,h.nd,h.new,h.same.trans S⟩
theorem pC(c d:Nat):(two c d).cps.toList=[c,d]:=rfl
theorem an3(c:Nat):(one c).cps.toList=[c]:=rfl
end L2
set_option maxRecDepth 100000
namespace L2
open PySem PySem.Spec PyProof.Rows
noncomputable def rIntU:List V->Hp->VK->Prop
 | [.bl b],H,Q=>Q (.int (if b then 1 else 0)) H
 | [.str x],H,Q=>PySem.NumText.AllDigits x.cps.toList/\1<=x.length/\x.length<=640/\Q (.int ((jW x.cps.toList:Nat):Int)) H
 | _,_,_=>False
theorem amv : QCall X (.type "int") rIntU:=⟨by
 intro pins s Y H xs us Q I r h
 match xs,h with
 | [.bl b],h=>exact ai4 pins s Y H _ us Q I r (.inr ⟨b,rfl,h⟩)
 | [.str x],h=>
  obtain ⟨h1,h2,h3,q⟩:=h;obtain ⟨u,rfl,r1⟩:=vals1 r;obtain ⟨t,rfl⟩:=r1;have J7:x.cps.toList≠[]:=fun e=>by
   have:x.cps.toList.length=x.length:=by simp [Str.length]
   rw [e] at this;simp at this;lia
  exact PySem.W.KIN.call_text (PySem.intText_digits h1 J7 (by lia)) h3 ⟨V.int ((jW x.cps.toList:Nat):Int),H,I.tok _,⟨_,rfl⟩,q⟩⟩
theorem aqZ{b:Bool} : rIntU [.bl b] H Q=Q (.int (if b then 1 else 0)) H:=rfl
theorem aq0 : rIntU [.str x] H Q=(PySem.NumText.AllDigits x.cps.toList/\1<=x.length/\x.length<=640/\Q (.int ((jW x.cps.toList:Nat):Int)) H):=rfl
noncomputable def rInD (K:PySem.W.Frag) (x y:V) (H:Hp) (Q:VK):Prop:=∃ (d:PyData) (ds:List PyData),Dn K H x d/\Dn K H y (.list ds)/\min (bS ds) d.depth<=60/\Q (.bl (ds.any fun e=>U7 e d)) H
theorem aq1{x y:V} : rInD K x y H Q=∃ (d:PyData) (ds:List PyData),Dn K H x d/\Dn K H y (.list ds)/\min (bS ds) d.depth<=60/\Q (.bl (ds.any fun e=>U7 e d)) H:=rfl
end L2
set_option maxRecDepth 100000
namespace L2
open PySem PySem.Spec PyProof.Rows
open PySem.Builtin PySem.Builtin.Str PySem.StrLaws
noncomputable def rTupA (K:PySem.W.Frag):R2:=fun x y H Q=>∃ a b xs ys,x=.ref a/\y=.ref b/\C6 K H a xs/\C6 K H b ys/\ys≠[]/\xs.length+ys.length<=sizeLine/\∀ p H',Same H H'->C6 K H' p (xs++ys)->(H' p=some (.tup (xs++ys))\/xs=[]/\p=b)->Q (.ref p) H'
theorem aq2 : rTupA K (.ref a) (.ref b) H Q=∃ xs ys,C6 K H a xs/\C6 K H b ys/\ys≠[]/\xs.length+ys.length<=sizeLine/\∀ p H',Same H H'->C6 K H' p (xs++ys)->(H' p=some (.tup (xs++ys))\/xs=[]/\p=b)->Q (.ref p) H':=
 propext ⟨fun ⟨_,_,xs,ys,e1,e2,h⟩=>(by cases e1;cases e2;exact ⟨xs,ys,h⟩),fun ⟨xs,ys,h⟩=>⟨a,b,xs,ys,rfl,rfl,h⟩⟩
end L2
set_option maxRecDepth 100000
namespace L2
open PySem PySem.Spec PyProof.Rows
theorem uG{d:Value}(h:(us++[d]).length=3):∃ u1 u2,us=[u1,u2]:=by
 match us,h with
 | [a,b],_=>exact ⟨a,b,rfl⟩
 | [],h=>simp at h
 | [_],h=>simp at h
 | _::_::_::r,h=>simp at h
theorem hW(g:List Str)(z:Str):(valV (kvOf g) (Sum.inr z)).isSome=decide (z∈g):=by
 rw [<- sX];unfold valV;rw [Option.isSome_map,List.isSome_find?]
theorem uH{y rest:List Nat}(h:z.cps.toList=pre++(y++rest)):cutS z (some (pre.length:Int)) (some ((pre.length:Int)+(y.length:Int)))=⟨y.toArray⟩:=by
 have hl:z.length=pre.length+(y.length+rest.length):=by
  have:=congrArg g9 h
  simp [Str.length] at this ⊢
  lia
 apply Str.ext'
 apply Array.toList_inj.mp
 rw [afZ,h];have e1:HT.sIx z.length 0 (some (pre.length:Int))=pre.length:=by rw [HT.sIx_nat];lia
 have e2:HT.sIx z.length z.length (some ((pre.length:Int)+(y.length:Int)))=pre.length+y.length:=by
  rw [show (pre.length:Int)+(y.length:Int)=((pre.length+y.length:Nat):Int) by lia,HT.sIx_nat];lia
 rw [e1,e2,List.drop_left,show pre.length+y.length-pre.length=y.length by lia,List.take_left]
theorem agk{c:Nat}(h:z.cps.toList=pre++[c]):cutS z (some (pre.length:Int)) (some ((pre.length:Int)+2))=one c:=by
 have hl:z.length=pre.length+1:=by
  have:=congrArg g9 h
  simp [Str.length] at this ⊢
  lia
 apply Str.ext'
 apply Array.toList_inj.mp
 rw [afZ,h];have e1:HT.sIx z.length 0 (some (pre.length:Int))=pre.length:=by rw [HT.sIx_nat];lia
 have e2:HT.sIx z.length z.length (some ((pre.length:Int)+2))=pre.length+1:=by
  rw [show (pre.length:Int)+2=((pre.length+2:Nat):Int) by lia,HT.sIx_nat];lia
 rw [e1,e2,List.drop_left,show pre.length+1-pre.length=1 by lia];rfl
theorem aj5{r:List Nat}{c:Nat} : L0 (pre++c::r) (pre.length:Int)=some c:=E7 (by rw [jJ (A8 _),Nat.sub_self];rfl)
theorem aeO:∀ (zs acc:List Str),W3 (kvOf acc) (kvOf zs)=kvOf (J5 acc zs)
 | [],acc=>rfl
 | z::zs,acc=>by
  show W3 (putK (kvOf acc) (Sum.inr z) (.bl true)) (kvOf zs)=kvOf (J5 (dd acc z) zs);rw [afY,aeO zs]
noncomputable def aj6:Sp:=fun vs H Q _=>∃ (z:Str) (pre rest:List Nat),vs=[.str z,.int pre.length]/\z.length<=1000/\z.cps.toList=pre++rest/\Q (.str ⟨(rest.takeWhile figO).toArray⟩) H
theorem uI(h:(us++[]).length=3):∃ u1 u2 u3,us=[u1,u2,u3]:=by
 match us,h with
 | [a,b,c],_=>exact ⟨a,b,c,rfl⟩
 | [],h=>simp at h
 | [_],h=>simp at h
 | [_,_],h=>simp at h
 | _::_::_::_::r,h=>simp at h
theorem lenL(z:Str):z.cps.toList.length=z.length:=by simp [Str.length]
noncomputable def partG (g:List Str):List Nat->Option Str
 | []=>none
 | [c]=>if one c∈g then some (one c) else none
 | c::d::_=>if two c d∈g then some (two c d) else if one c∈g then some (one c) else none
theorem hX(g:List Str)(c:Nat):partG g [c]=if one c∈g then some (one c) else none:=rfl
theorem m9(g:List Str)(c d:Nat)(r:List Nat):partG g (c::d::r)=if two c d∈g then some (two c d) else if one c∈g then some (one c) else none:=rfl
noncomputable def partF (w:Bool) (g:List Str):List Nat->Option Str
 | []=>none
 | c::r=>if (w&&figO c)=true then some ⟨((c::r).takeWhile figO).toArray⟩ else partG g (c::r)
theorem eN(w:Bool)(g:List Str)(c:Nat)(r:List Nat):partF w g (c::r)=if (w&&figO c)=true then some ⟨((c::r).takeWhile figO).toArray⟩ else partG g (c::r):=rfl
theorem aeP{g:List Str} : ∀ {l:List Nat},partG g l=some y->∃ rest,l=y.cps.toList++rest/\1<=y.length
 | [],h=>by cases h
 | [c],h=>by
  rw [hX] at h
  by_cases hc:one c∈g
  .rw [if_pos hc] at h;cases h;exact ⟨[],rfl,by show 1<=1;decide⟩
  .rw [if_neg hc] at h;cases h
 | c::d::r,h=>by
  rw [m9] at h
  by_cases h2:two c d∈g
  .rw [if_pos h2] at h;cases h;exact ⟨r,rfl,by show 1<=2;decide⟩
  .rw [if_neg h2] at h
   by_cases hc:one c∈g
   .rw [if_pos hc] at h;cases h;exact ⟨d::r,rfl,by show 1<=1;decide⟩
   .rw [if_neg hc] at h;cases h
theorem agT{g:List Str}(h:∀ x,x∈g↔x∈g'):∀ l,partG g l=partG g' l
 | []=>rfl
 | [c]=>by
  rw [hX,hX]
  by_cases hc:one c∈g
  .rw [if_pos hc,if_pos ((h _).mp hc)]
  .rw [if_neg hc,if_neg (fun z=>hc ((h _).mpr z))]
 | c::d::r=>by
  rw [m9,m9]
  by_cases h2:two c d∈g
  .rw [if_pos h2,if_pos ((h _).mp h2)]
  .rw [if_neg h2,if_neg (fun z=>h2 ((h _).mpr z))]
   by_cases hc:one c∈g
   .rw [if_pos hc,if_pos ((h _).mp hc)]
   .rw [if_neg hc,if_neg (fun z=>hc ((h _).mpr z))]
theorem agU{w:Bool}{g:List Str}(h:∀ x,x∈g↔x∈g')(l:List Nat):partF w g l=partF w g' l:=by
 cases l with
 | nil=>rfl
 | cons c r=>rw [eN,eN,agT h]
theorem aeQ{w:Bool}{g:List Str}{l:List Nat}(h:partF w g l=some y):∃ rest,l=y.cps.toList++rest/\1<=y.length:=by
 cases l with
 | nil=>cases h
 | cons c r=>
  rw [eN] at h
  by_cases hw:(w&&figO c)=true
  .rw [if_pos hw] at h;cases h;rw [X0] at hw;refine ⟨(c::r).dropWhile figO,(List.takeWhile_append_dropWhile).symm,?_⟩;show 1<=((c::r).takeWhile figO).length;rw [List.takeWhile_cons_of_pos hw.2]
   simp
  .rw [if_neg hw] at h;exact aeP h
noncomputable def cutFn (w:Bool) (g:List Str):Nat->List Nat->Nat×List Str
 | 0,_=>(0,[])
 | n+1,l=>match partF w g l with
  | none=>(0,[])
  | some y=>((cutFn w g n (l.drop y.length)).1+y.length,y::(cutFn w g n (l.drop y.length)).2)
noncomputable def cutF (w:Bool) (g:List Str) (l:List Nat):Nat×List Str:=cutFn w g l.length l
theorem aeR(w:Bool)(g:List Str):∀ (n m:Nat) (l:List Nat),l.length<=n->l.length<=m->cutFn w g n l=cutFn w g m l
 | 0,0,_,_,_=>rfl
 | 0,m+1,l,h,_=>by
  have:l=[]:=bJ.mp (by lia)
  subst this;rfl
 | n+1,0,l,_,h=>by
  have:l=[]:=bJ.mp (by lia)
  subst this;rfl
 | n+1,m+1,l,h1,h2=>by
  cases e:partF w g l with
  | none=>show (match partF w g l with | none=>_ | some y=>_)=(match partF w g l with | none=>_ | some y=>_);rw [e]
  | some y=>
   obtain ⟨rest,e1,e2⟩:=aeQ e;have hd:(l.drop y.length).length=l.length-y.length:=t8
   have:=aeR w g n m (l.drop y.length) (by lia) (by lia)
   show (match partF w g l with | none=>_ | some y=>_)=(match partF w g l with | none=>_ | some y=>_);rw [e]
   dsimp only
   rw [this]
theorem kY{w:Bool}{g:List Str}{l:List Nat}(h:partF w g l=none):cutF w g l=(0,[]):=by
 unfold cutF;cases hl:l.length with
 | zero=>rfl
 | succ n=>
  show (match partF w g l with | none=>_ | some y=>_)=_;rw [h]
theorem kZ(w:Bool)(g:List Str):cutF w g []=(0,[]):=rfl
theorem iA{w:Bool}{g:List Str}{l:List Nat}(h:partF w g l=some y):∃ rest,l=y.cps.toList++rest/\cutF w g l=((cutF w g rest).1+y.length,y::(cutF w g rest).2)/\1<=y.length:=by
 obtain ⟨rest,e1,e2⟩:=aeQ h;refine ⟨rest,e1,?_,e2⟩;have el:l.length=y.length+rest.length:=by rw [e1,C8,lenL]
 have ed:l.drop y.length=rest:=by rw [e1,<- lenL,List.drop_left]
 unfold cutF;cases hl:l.length with
 | zero=>lia
 | succ k=>
  show (match partF w g l with | none=>_ | some y=>_)=_;rw [h]
  dsimp only
  rw [ed,aeR w g k rest.length rest (by lia) (A8 _)]
theorem aix{w:Bool}{g:List Str}(h:∀ x,x∈g↔x∈g')(l:List Nat):cutF w g l=cutF w g' l:=by
 have:∀ n l,cutFn w g n l=cutFn w g' n l:=by
  intro n
  induction n with
  | zero=>intro l;rfl
  | succ n ih=>
   intro l;show (match partF w g l with | none=>_ | some y=>_)=(match partF w g' l with | none=>_ | some y=>_);rw [agU h]
   cases partF w g' l with
   | none=>rfl
   | some y=>dsimp only;rw [ih]
 exact this _ _
theorem pD{w:Bool}{g:List Str} : ∀ (n:Nat) (l:List Nat),l.length<=n->(cutF w g l).1<=l.length/\(cutF w g l).2.length<=l.length/\∀ y∈(cutF w g l).2,∀ c∈y.cps.toList,c∈l
 | 0,l,h=>by
  have:l=[]:=bJ.mp (by lia)
  subst this;rw [kZ];exact ⟨A8 _,A8 _,by simp⟩
 | n+1,l,h=>by
  cases e:partF w g l with
  | none=>rw [kY e];exact ⟨G3 _,G3 _,by simp⟩
  | some y=>
   obtain ⟨rest,e1,e2,e3⟩:=iA e;have hl:l.length=y.length+rest.length:=by rw [e1,C8,lenL]
   obtain ⟨a,b,c⟩:=pD (w:=w) (g:=g) n rest (by lia);rw [e2];refine ⟨by dsimp only;lia,by dsimp only;rw [K9];lia,fun z hz x hx=>?_⟩;rw [e1]
   rcases E5.mp hz with r | r
   .rw [r] at hx;exact D3.mpr (.inl hx)
   .exact D3.mpr (.inr (c z r x hx))
noncomputable def n6 (w:Bool) (g:List Str) (z:Str):Prop:=(cutF w g z.cps.toList).1=z.length
noncomputable def aj7:Sp:=fun vs H Q _=>∃ (d:Addr) (z:Str) (g:List Str) (pre:List Nat) (c:Nat) (r:List Nat) (w:Bool) (y:Str),vs=[.ref d,.str z,.int pre.length,.bl w]/\H d=some (.dK (kvOf g))/\z.length<=1000/\z.cps.toList=pre++c::r/\partF w g (c::r)=some y/\Q (.str y) H
noncomputable def pE (K:PySem.W.Frag):Sp:=fun vs H Q _=>∃ (a:Addr) (z:Str) (ks:List Str) (w:Bool),vs=[.ref a,.str z,.bl w]/\C7 K H a (ks.map V.str)/\ks.length<=1000/\z.length<=1000/\n6 w ks z/\
 ∀ l H',H l=none->Same H H'->H' l=some (.lst ((cutF w ks z.cps.toList).2.map V.str))->Q (.ref l) H'
noncomputable abbrev D6:=Int×Int×List Int×Int
noncomputable def addM (U:List D6) (p:Int):List D6:=match U.getLast? with
 | none=>[(0,0,[p],0)]
 | some u=>U.dropLast++[(u.1,u.2.1,u.2.2.1++[p],u.2.2.2)]
noncomputable def addS (U:List D6) (s:Tr):List D6:=if s.1=0 then addM U s.2.1 else U++[(s.1,s.2.1,[],s.2.2)]
noncomputable def UnAt (H:Hp) (e:Addr×Addr) (u:D6):Prop:=H e.1=some (.tup [.int u.1,.int u.2.1,.ref e.2,.int u.2.2.2])/\H e.2=some (.lst (u.2.2.1.map V.int))
structure UnI(H0 H:Hp)(l:Addr)(es:List (Addr×Addr))(U:List D6):Prop where
 top:H l=some (.lst (es.map fun e=>V.ref e.1))
 row:Paired (UnAt H) es U
 nd:(l::es.map (·.2)).Nodup
 new:∀ a∈l::es.map (·.2),H0 a=none
 same:Same H0 H
theorem UnI.more{l:Addr}{es:List (Addr×Addr)}{U:List D6}(h:UnI H0 H l es U)(S:Same H H'):UnI H0 H' l es U:=⟨S _ _ h.top,O4 h.row fun _ _ e=>⟨S _ _ e.1,S _ _ e.2⟩,h.nd,h.new,h.same.trans S⟩
theorem UnI.live{l:Addr}{es:List (Addr×Addr)}{U:List D6}(h:UnI H0 H l es U)(ha:a∈es.map (·.2)):∃ xs,H a=some (.lst xs):=by
 obtain ⟨e,he,rfl⟩:=E2.mp ha;obtain ⟨i,hi,q⟩:=W8.mp he;obtain ⟨u,_,hu⟩:=Paired.at h.row (i:=i) (a:=e) (by rw [F8 hi,q]);exact ⟨_,hu.2⟩
theorem UnI.push{l m t:Addr}{es:List (Addr×Addr)}{U:List D6}(h:UnI H0 H l es U)(nm:H m=none){k w c:Int}(nt:A0 H m (.lst []) t=none) :
  UnI H0 (A0 (A0 (A0 H m (.lst [])) t (.tup [.int k,.int w,.ref m,.int c])) l (.lst ((es.map fun e=>V.ref e.1)++[V.ref t]))) l (es++[(t,m)]) (U++[(k,w,[],c)]):=by
 have nlm:l≠m:=fun e=>by have:=h.top;rw [e,nm] at this;cases this
 have nmt:m≠t:=fun e=>by rw [<- e,A2] at nt;cases nt
 have S:Same H (A0 (A0 H m (.lst [])) t (.tup [.int k,.int w,.ref m,.int c])):=(Same.new nm).trans (Same.new nt);have hl:=S _ _ h.top;have nlt:l≠t:=fun e=>by rw [<- e,(Same.new nm) _ _ h.top] at nt;cases nt
 have qL:=U5.mp h.nd;refine ⟨by rw [A2,D9];rfl,Paired.snoc (gS h.row fun e he u hu=>⟨?_,?_⟩) ⟨?_,?_⟩,?_,fun a ha=>?_,(h.same.trans S).put (h.new l J9)⟩
 .rw [A3 (fun q=>by have:=S _ _ hu.1;rw [q,hl] at this;cases this)];exact S _ _ hu.1
 .rw [A3 (fun q=>qL.1 (by rw [<- q];exact E2.mpr ⟨e,he,rfl⟩))];exact S _ _ hu.2
 .rw [A3 nlt.symm,A2]
 .rw [A3 nlm.symm,A3 nmt,A2];rfl
 .rw [D9];exact oF h.nd fun q=>by
   rcases E5.mp q with q | q
   .exact nlm q.symm
   .obtain ⟨xs,hx⟩:=h.live q;rw [nm] at hx;cases hx
 .rw [D9] at ha
  rcases E5.mp ha with q | q
  .rw [q];exact h.new l J9
  .rcases D3.mp q with q | q
   .exact h.new a (L6 _ q)
   .rw [D1.mp q];exact h.same.free nm
theorem UnI.mark{l:Addr}{es:List (Addr×Addr)}{e:Addr×Addr}{U:List D6}{u:D6}(h:UnI H0 H l (es++[e]) (U++[u]))(p:Int) :
  UnI H0 (A0 H e.2 (.lst (u.2.2.1.map V.int++[V.int p]))) l (es++[e]) (U++[(u.1,u.2.1,u.2.2.1++[p],u.2.2.2)]):=by
 obtain ⟨hr,he⟩:=sY h.row;have qL:=h.nd;have nl:l≠e.2:=fun q=>(U5.mp qL).1 (by rw [q];simp)
 have nn:∀ x∈es,x.2≠e.2:=fun x hx q=>by
  have:=(U5.mp qL).2
  rw [D9,Z7] at this;exact this.2.2 x.2 (E2.mpr ⟨x,hx,rfl⟩) e.2 (by simp) q
 have nt:∀ {x:Addr×Addr} {v:D6},UnAt H x v->x.1≠e.2:=fun {x v} hx q=>by
  have:=hx.1;rw [q,he.2] at this;cases this
 refine ⟨by rw [A3 nl];exact h.top,Paired.snoc (gS hr fun x hx v hv=>⟨?_,?_⟩) ⟨?_,?_⟩,h.nd,h.new,h.same.put (h.new _ (L6 _ (by simp)))⟩
 .rw [A3 (nt hv)];exact hv.1
 .rw [A3 (nn x hx)];exact hv.2
 .rw [A3 (nt he)];exact he.1
 .rw [A2,D9];rfl
noncomputable def IsUn (H:Hp) (l:Addr) (U:List D6):Prop:=∃ es:List (Addr×Addr),H l=some (.lst (es.map fun e=>V.ref e.1))/\Paired (fun e (u:D6)=>H e.1=some (.tup [.int u.1,.int u.2.1,.ref e.2,.int u.2.2.2])/\H e.2=some (.tup (u.2.2.1.map V.int))) es U
theorem IsUn.same{l:Addr}{U:List D6}(h:IsUn H l U)(S:Same H H'):IsUn H' l U:=
 let ⟨es,h1,h2⟩:=h
 ⟨es,S _ _ h1,O4 h2 fun _ _ e=>⟨S _ _ e.1,S _ _ e.2⟩⟩
noncomputable def E4 (R:List Rl):List Str:=keysP (C9 R)++Y8 R
noncomputable def N6 (S:Str->List Tr) (ps:List Str):List D6:=(ps.flatMap S).foldl addS []
noncomputable def uJ (C:Addr):Sp:=fun vs H Q _=>∃ (x j ll ml md:Addr) (g:Str->Str) (R:List Rl) (L M:List Str),vs=[.ref x]/\IsOrd C H x j ll ml md g R L M/\∀ l,H l=none->Q (.ref l) (A0 H l (.lst ((E4 R).map V.str)))
noncomputable def pG (C:Addr):Sp:=fun vs H Q _=>∃ (x j ll ml md:Addr) (p:Str) (g:Str->Str) (R:List Rl) (L M:List Str),vs=[.ref x,.str p]/\IsOrd C H x j ll ml md g R L M/\∀ r H',Same H H'->StepAt H' r (stepF R L M p)->Q (.ref r) H'
noncomputable def ahR (C:Addr):Sp:=fun vs H Q _=>∃ (x j ll ml md:Addr) (z:Str) (g:Str->Str) (R:List Rl) (L M:List Str),vs=[.ref x,.str z]/\IsOrd C H x j ll ml md g R L M/\(E4 R).length<=1000/\z.length<=1000/\n6 (hasW R "figures") (E4 R) z/\
 ∀ l H',H l=none->Same H H'->H' l=some (.lst ((cutF (hasW R "figures") (E4 R) z.cps.toList).2.map V.str))->Q (.ref l) H'
theorem aiy{R:List Rl}{p:Str}(h:p∉allKs R L M):stepF R L M p=[]:=by
 unfold stepF
 have:(putsL R L M).lookup p=none:=by
  rw [List.lookup_eq_none_iff];intro e he
  have:e.1∈allKs R L M:=by rw [<- agf];exact E2.mpr ⟨e,he,rfl⟩
  have ne:p≠e.1:=fun q=>h (by rw [q];exact this)
  simpa using ne
 rw [this];rfl
noncomputable def stepY (R:List Rl) (L M:List Str) (y:Str):List Tr:=if (hasW R "figures" && figO (y.cps.toList.headD 0))=true then [(1,((jW y.cps.toList:Nat):Int),0)] else stepF R L M y
theorem alL{R:List Rl}(h:hasW R "figures"=false)(L M:List Str):stepY R L M=stepF R L M:=by
 funext y
 unfold stepY;rw [h,Bool.false_and,if_neg L5]
noncomputable def FigR (y:Str):Prop:=figO (y.cps.toList.headD 0)=true->PySem.NumText.AllDigits y.cps.toList
noncomputable def agl (C:Addr):Sp:=fun vs H Q _=>∃ (x j ll ml md:Addr) (c:Nat) (r:List Nat) (y:Str) (g:Str->Str) (R:List Rl) (L M:List Str),vs=[.ref x,.str y]/\y.cps.toList=c::r/\y.length<=640/\IsOrd C H x j ll ml md g R L M/\(hasW R "figures"=true->FigR y)/\∀ r H',Same H H'->StepAt H' r (stepY R L M y)->Q (.ref r) H'
noncomputable def agm (K:PySem.W.Frag):Sp:=fun vs H Q _=>∃ (l:Addr) (p:Int) (H0:Hp) (es:List (Addr×Addr)) (U:List D6),vs=[.ref l,.int p]/\UnI H0 H l es U/\U.length<=10000/\(∀ u∈U,u.2.2.1.length<=10000)/\∀ es' H',UnI H0 H' l es' (addM U p)->Q .non H'
noncomputable def agn (C:Addr):Sp:=fun vs H Q _=>∃ (x l j ll ml md:Addr) (c:Nat) (r:List Nat) (y:Str) (g:Str->Str) (R:List Rl) (L M:List Str) (H0:Hp) (es:List (Addr×Addr)) (U:List D6),vs=[.ref x,.ref l,.str y]/\y.cps.toList=c::r/\y.length<=640/\IsOrd C H0 x j ll ml md g R L M/\(hasW R "figures"=true->FigR y)/\UnI H0 H l es U/\(stepY R L M y).length<=1000/\U.length<=9000/\(∀ u∈U,u.2.2.1.length<=9000)/\
 ∀ es' H',UnI H0 H' l es' ((stepY R L M y).foldl addS U)->Q .non H'
theorem alM{U:List D6}{p:Int} : (addM U p).length<=U.length+1:=by
 unfold addM;cases e:U.getLast? with
 | none=>simp
 | some u=>simp only [C8,List.length_dropLast,T4];lia
theorem aiz{U:List D6}{p:Int}(h:∀ u∈U,u.2.2.1.length<=n):∀ u∈addM U p,u.2.2.1.length<=n+1:=by
 unfold addM;cases e:U.getLast? with
 | none=>intro u hu;rw [D1.mp hu];simp
 | some v=>
  intro u hu
  rcases D3.mp hu with q | q
  .have:=h u ((List.dropLast_sublist U).subset q);lia
  .rw [D1.mp q]
   have:=h v (List.mem_of_getLast? e)
   simp only [C8,T4];lia
theorem alN{U:List D6}{s:Tr} : (addS U s).length<=U.length+1:=by
 unfold addS
 split
 .exact alM
 .simp
theorem aiA{U:List D6}{s:Tr}(h:∀ u∈U,u.2.2.1.length<=n):∀ u∈addS U s,u.2.2.1.length<=n+1:=by
 unfold addS
 split
 .exact aiz h
 .intro u hu
  rcases D3.mp hu with q | q
  .have:=h u q;lia
  .rw [D1.mp q];exact G3 _
theorem uK:∀ (ss:List Tr) (U:List D6),(ss.foldl addS U).length<=U.length+ss.length
 | [],U=>A8 _
 | s::ss,U=>by
  rw [List.foldl_cons,K9];have h1:=uK ss (addS U s);have h2:=alN (U:=U) (s:=s);lia
theorem uL:∀ (ss:List Tr) (U:List D6) (n:Nat),(∀ u∈U,u.2.2.1.length<=n)->∀ u∈ss.foldl addS U,u.2.2.1.length<=n+ss.length
 | [],U,n,h=>h
 | s::ss,U,n,h=>by
  intro u hu
  have:=uL ss (addS U s) (n+1) (aiA h) u hu
  rw [K9];lia
theorem aj8(f b:Bool)(j ll ml md:Addr):(ordF f b j ll ml md).lookup ("made" : Str)=some (V.ref md):=by
 unfold ordF;rw [N5,if_pos rfl]
noncomputable def cutH (H:Hp) (as:List Addr):Hp:=fun a=>if a∈as then none else H a
theorem pH(H:Hp)(as:List Addr):Same (cutH H as) H:=fun a o h=>by
 unfold cutH at h
 by_cases q:a∈as
 .rw [if_pos q] at h;cases h
 .rw [if_neg q] at h;exact h
theorem UnI.base{l:Addr}{es:List (Addr×Addr)}{U:List D6}(S:Same H0 H1)(h:UnI H1 H l es U):UnI H0 H l es U:=⟨h.top,h.row,h.nd,fun a ha=>S.free (h.new a ha),S.trans h.same⟩
theorem UnI.cut{l:Addr}{es:List (Addr×Addr)}{U:List D6}(h:UnI H0 H l es U):∃ H1,Same H0 H1/\UnI H1 H l es U/\∀ a xs,H a=some (.tup xs)->H1 a=some (.tup xs):=by
 refine ⟨cutH H (l::es.map (fun e=>e.2)),fun a o ha=>?_,⟨h.top,h.row,h.nd,fun a ha=>by unfold cutH;exact if_pos ha,pH _ _⟩,fun a xs ha=>?_⟩
 .unfold cutH;rw [if_neg (fun q=>by rw [h.new a q] at ha;cases ha)];exact h.same _ _ ha
 .unfold cutH;rw [if_neg fun q=>?_]
  .exact ha
  .rcases E5.mp q with q | q
   .rw [q,h.top] at ha;cases ha
   .obtain ⟨ys,hy⟩:=h.live q;rw [hy] at ha;cases ha
theorem aiB{α β:Type}{F:α->β->Prop}{m:List β}(h:Paired F [] m):m=[]:=by cases h;rfl
theorem uM{α:Type}{l:List α}(h:l≠[]):∃ l' x,l=l'++[x]:=⟨l.dropLast,l.getLast h,(List.dropLast_concat_getLast h).symm⟩
noncomputable def uN (C:Addr):Sp:=fun vs H Q _=>∃ (x j ll ml md:Addr) (z:Str) (g:Str->Str) (R:List Rl) (L M:List Str),vs=[.ref x,.str z]/\IsOrd C H x j ll ml md g R L M/\(E4 R).length<=1000/\z.length<=500/\n6 (hasW R "figures") (E4 R) z/\(∀ y,(stepY R L M y).length<=15)/\
 ∀ l H',H l=none->Same H H'->IsUn H' l (N6 (stepY R L M) (cutF (hasW R "figures") (E4 R) z.cps.toList).2)->Q (.ref l) H'
noncomputable def uO (n:Nat) (fr:St) (Pv:Nat->List V->Hp->Prop) (i:Nat) (ys:List V) (σ2:St) (H2:Hp):Prop:=i<=n/\ys.length<=i/\(∃ v0 v1 v2 v3,σ2=v0::v1::v2::v3::fr)/\Pv i ys H2
theorem aq3(fr:St)(X8:compStart 4 ixs Y=none::none::none::none::fr)(Pv:Addr->Nat->List V->Hp->Prop)(h0:∀ D,H1 D=none->Pv D 0 [] (A0 H1 D (.lst [])))(hl:∀ D i ys H,H1 D=none->i<=xs.length->Pv D i ys H->C7 K H a xs)(hs:∀ D i x ys H,H1 D=none->i<xs.length->xs[i]?=some x->Pv D i ys H->H D=some (.lst ys)->ys.length<=i->∃ t v0 v1 v2 v3,x=.ref t/\C6 K H t [v0,v1,v2,v3]/\c (some v0::some v1::some v2::some v3::fr) H fun b H4=>
   if b=true then te (some v0::some v1::some v2::some v3::fr) H4 fun y H5=>H5 D=some (.lst ys)/\ys.length<sizeLine/\uO xs.length fr (Pv D) (i+1) (ys++[y]) (some v0::some v1::some v2::some v3::fr) (A0 H5 D (.lst (ys++[y])))
   else H4 D=some (.lst ys)/\uO xs.length fr (Pv D) (i+1) ys (some v0::some v1::some v2::some v3::fr) H4)(hd:∀ D ys H,H1 D=none->Pv D xs.length ys H->H D=some (.lst ys)->ys.length<=xs.length->Q (.ref D) H):cC (v4 K a) 4 ixs (gTup K 4 (gCons (gName 0) (gCons (gName 1) (gCons (gName 2) (gCons (gName 3) gNil))))) c te Y Q H1:=by
 intro D hD;refine ⟨xs.length,uO xs.length fr (Pv D),⟨G3 _,G3 _,⟨none,none,none,none,X8⟩,h0 D hD⟩,?_⟩;rintro i ys σ2 H2 ⟨hi,hy,⟨w0,w1,w2,w3,rfl⟩,p⟩ hDy;have q:=hl D i ys H2 hD hi p
 by_cases C4:i<xs.length
 .refine .inr ⟨C4,⟨xs,xs[i],q,by simp [C4]⟩,fun x H' y=>?_⟩;obtain ⟨e,y⟩:=y;subst e;obtain ⟨t,v0,v1,v2,v3,rfl,ht,z⟩:=hs D i x ys _ hD C4 (y xs q) p hDy hy;exact ⟨t,_,rfl,ht,rfl,_,_,rfl,_,_,rfl,_,_,rfl,_,_,rfl,rfl,z⟩
 .have e:i=xs.length:=by lia
  subst e;exact .inl ⟨⟨xs,q,A8 _⟩,hd D ys H2 hD p hDy hy⟩
theorem aj9{w:Bool}{g:List Str} : ∀ (n:Nat) (l:List Nat),l.length<=n->∀ y∈(cutF w g l).2,1<=y.length
 | 0,l,h,y,hy=>by
  have:l=[]:=bJ.mp (by lia)
  subst this;rw [kZ] at hy;cases hy
 | n+1,l,h,y,hy=>by
  cases e:partF w g l with
  | none=>rw [kY e] at hy;cases hy
  | some x=>
   obtain ⟨rest,e1,e2,e3⟩:=iA e;rw [e2] at hy
   rcases E5.mp hy with q | q
   .rw [q];exact e3
   .refine aj9 n rest ?_ y q
    have:=congrArg g9 e1
    rw [C8,lenL] at this;lia
theorem agX{S:Str->List Tr}(h:ps[i]?=some y):N6 S (ps.take (i+1))=(S y).foldl addS (N6 S (ps.take i)):=by
 unfold N6;rw [K8 h,Y4,y8,Q9,jP,N0]
theorem pI{S:Str->List Tr}(hs:∀ y,(S y).length<=15):∀ (ps:List Str),(N6 S ps).length<=15*ps.length/\∀ u∈N6 S ps,u.2.2.1.length<=15*ps.length:=fun ps=>by
 have h0:(ps.flatMap S).length<=15*ps.length:=by
  induction ps with
  | nil=>exact A8 _
  | cons p ps ih=>
   rw [Q9,C8,K9]
   have:=hs p
   lia
 have h1:=uK (ps.flatMap S) [];have h2:=uL (ps.flatMap S) [] 0 (by simp);unfold N6;rw [k8] at h1;exact ⟨by lia,fun u hu=>by have:=h2 u hu;lia⟩
theorem ago{w:Bool}{g:List Str} : ∀ (n:Nat) (l:List Nat),l.length<=n->∀ y∈(cutF w g l).2,y.length<=l.length
 | 0,l,h,y,hy=>by
  have:l=[]:=bJ.mp (by lia)
  subst this;rw [kZ] at hy;cases hy
 | n+1,l,h,y,hy=>by
  cases e:partF w g l with
  | none=>rw [kY e] at hy;cases hy
  | some x=>
   obtain ⟨rest,e1,e2,e3⟩:=iA e;rw [e2] at hy;have hl:=congrArg g9 e1;rw [C8,lenL] at hl
   rcases E5.mp hy with q | q
   .rw [q];lia
   .have:=ago n rest (by lia) y q
    lia
theorem amw{p:Nat->Bool}{d:Nat} : ∀ {l:List Nat},d∈l.takeWhile p->p d=true
 | [],h=>by cases h
 | c::r,h=>by
  rw [List.takeWhile_cons] at h
  by_cases hc:p c=true
  .rw [if_pos hc] at h
   rcases E5.mp h with q | q
   .rw [q];exact hc
   .exact amw q
  .rw [if_neg hc] at h;cases h
theorem aka{w:Bool}{g:List Str}{l:List Nat}(h:partF w g l=some y):w=true->FigR y:=by
 intro hw hf
 cases l with
 | nil=>cases h
 | cons c r=>
  rw [eN,hw,Bool.true_and] at h
  by_cases hc:figO c=true
  .rw [if_pos hc] at h;obtain rfl:=Option.some.inj h;intro d hd;have hd:d∈(c::r).takeWhile figO:=by simpa using hd
   have:=amw hd
   unfold figO at this;rw [X0,decide_eq_true_eq,decide_eq_true_eq] at this;exact this
  .exfalso
   rw [if_neg hc] at h;obtain ⟨rest,e,hl⟩:=aeP h
   have:y.cps.toList.headD 0=c:=by
    cases hy:y.cps.toList with
    | nil=>rw [<- lenL,hy] at hl;simp at hl
    | cons d t=>rw [hy] at e;exact (l6.inj e).1.symm
   rw [this] at hf;exact hc hf
theorem ahS{w:Bool}{g:List Str} : ∀ (n:Nat) (l:List Nat),l.length<=n->∀ y∈(cutF w g l).2,w=true->FigR y
 | 0,l,h,y,hy=>by
  have:l=[]:=bJ.mp (by lia)
  subst this;rw [kZ] at hy;cases hy
 | n+1,l,h,y,hy=>by
  cases e:partF w g l with
  | none=>rw [kY e] at hy;cases hy
  | some x=>
   obtain ⟨rest,e1,e2,e3⟩:=iA e;rw [e2] at hy;have hl:=congrArg g9 e1;rw [C8,lenL] at hl
   rcases E5.mp hy with q | q
   .rw [q];exact aka e
   .exact ahS n rest (by lia) y q
end L2
variable {S:PySem.Str->List L2.Tr}{R:List L2.Rl}{U:List L2.D6}{tabs:List (PySem.Addr×PySem.Addr)}
set_option maxRecDepth 100000
namespace L2
open PySem PySem.Spec PyProof.Rows
structure StepL(H:Hp)(r:Addr)(ss:List Tr):Prop where
 ex:∃ ts:List Addr,H r=some (.lst (ts.map V.ref))/\Paired (fun t s=>H t=some (tupT s)) ts ss
noncomputable def IsMk (H:Hp) (d:Addr) (ks:List Str) (F:Str->List Tr):Prop:=∃ ad:Str->Addr,H d=some (.dK (B5 ks fun y=>.ref (ad y)))/\∀ y∈ks,StepL H (ad y) (F y)
structure MkI(H H2:Hp)(d:Addr)(P:List Str)(F:Str->List Tr):Prop where
 same:Same H H2
 made:IsMk H2 d (J5 [] P) F
theorem W2{t:Addr}(hT:C6 K H t xs)(q:∀ p H',Same H H'->C6 K H' p (xs.take 2)->Q (.ref p) H'):rSlR K t none (some 2) H Q:=by
 by_cases h:xs.length<=2
 .refine rSlR.w hT ⟨rfl,?_⟩ (q t H (Same.refl H) (by rw [t7 h];exact hT));rw [show ((2:Int))=((2:Nat):Int) from rfl,HT.sIx_nat];lia
 .refine rSlR.t hT (fun e=>?_) fun p np=>q p _ (Same.new np) (.of ?_)
  .have:=e.2
   rw [show ((2:Int))=((2:Nat):Int) from rfl,HT.sIx_nat] at this;lia
  .rw [A2,show cutV xs none (some 2)=_ from kN xs 2]
noncomputable def UnT (H:Hp) (e:Addr×Addr) (u:D6):Prop:=H e.1=some (.tup [.int u.1,.int u.2.1,.ref e.2,.int u.2.2.2])/\H e.2=some (.tup (u.2.2.1.map V.int))
structure UnJ(H0 H:Hp)(l:Addr)(es:List (Addr×Addr))(U:List D6):Prop where
 same:Same H0 H
 new:H0 l=none
 top:H l=some (.lst (es.map fun e=>V.ref e.1))
 row:Paired (UnT H) es U
noncomputable def RunP (p:Str):Prop:=p.cps.toList≠[]/\∀ c∈p.cps.toList,figO c=true
noncomputable def eO (w:Bool) (ks:List Str) (p:Str):Prop:=p∈ks\/w=true/\RunP p
noncomputable def PcL (w:Bool) (ks:List Str) (p:Str):Prop:=p∈ks\/(w=true/\RunP p)/\p.length<=14
noncomputable abbrev flatP (ps:List Str):List Nat:=ps.flatMap fun p=>p.cps.toList
theorem eP(p:Str)(ps:List Str):flatP (p::ps)=p.cps.toList++flatP ps:=rfl
theorem agp{w:Bool}(cV:w=true->∀ p∈ks,∀ c∈p.cps.toList,figO c=false)(h2:∀ p∈ks,(∃ c,p=one c)\/∃ c d,p=two c d)(hw:w=true):∀ ps:List Str,(∀ p∈ps,eO w ks p)->∃ qs:List Str,(∀ p∈qs,eO w ks p)/\(flatP ps).dropWhile figO=flatP qs
 | [],_=>⟨[],by simp,rfl⟩
 | p::ps,h=>by
  rcases h p J9 with hp | ⟨_,hr⟩
  .refine ⟨p::ps,h,?_⟩
   have:=cV hw p hp
   rcases h2 p hp with ⟨c,rfl⟩ | ⟨c,d,rfl⟩
   .show (c::flatP ps).dropWhile figO=_;rw [List.dropWhile_cons_of_neg (by rw [this c (by show c∈[c];simp)];simp)];rfl
   .show (c::d::flatP ps).dropWhile figO=_;rw [List.dropWhile_cons_of_neg (by rw [this c (by rw [pC];simp)];simp)];rfl
  .obtain ⟨qs,h3,h4⟩:=agp cV h2 hw ps fun q hq=>h q (L6 _ hq)
   refine ⟨qs,h3,?_⟩;rw [eP,List.dropWhile_append_of_pos hr.2];exact h4
theorem aeS{w:Bool}(cV:w=true->∀ p∈ks,∀ c∈p.cps.toList,figO c=false)(P:∀ c d e,one c∈ks->two c d∈ks->two d e∈ks->one e∈ks)(h2:∀ p∈ks,(∃ c,p=one c)\/∃ c d,p=two c d):∀ (n:Nat) (ps:List Str),(∀ p∈ps,eO w ks p)->(flatP ps).length<=n->(cutF w ks (flatP ps)).1=(flatP ps).length
 | n,[],_,_=>by rw [show flatP []=[] from rfl,kZ];rfl
 | 0,p::ps,hp,hn=>by
  exfalso
  rw [eP,C8] at hn
  rcases hp p J9 with h | ⟨_,h,_⟩
  .rcases h2 p h with ⟨c,rfl⟩ | ⟨c,d,rfl⟩
   .rw [an3] at hn;simp at hn
   .rw [pC] at hn;simp at hn
  .have:=List.length_pos_iff.mpr h
   lia
 | n+1,p::ps,hp,hn=>by
  have go:∀ (y:Str) (qs:List Str),(∀ q∈qs,eO w ks q)->1<=y.length->flatP (p::ps)=y.cps.toList++flatP qs->partF w ks (flatP (p::ps))=some y->(cutF w ks (flatP (p::ps))).1=(flatP (p::ps)).length:=fun y qs hq L3 el hpf=>by
   obtain ⟨rest,e1,e2,e3⟩:=iA hpf;have er:rest=flatP qs:=List.append_cancel_left (e1.symm.trans el);have ln:=congrArg g9 el;rw [C8,lenL] at ln;have i1:=aeS cV P h2 n qs hq (by lia);rw [e2,er];show (cutF w ks _).1+y.length=_;rw [i1];lia
  have pF:∀ c l,one c∈ks\/(∃ d,two c d∈ks)->partF w ks (c::l)=partG ks (c::l):=fun c l h=>by
   rw [eN,if_neg];intro q;rw [X0] at q
   rcases h with h | ⟨d,h⟩
   .rw [cV q.1 _ h c (by show c∈[c];simp)] at q;exact absurd q.2 (by simp)
   .rw [cV q.1 _ h c (by rw [pC];simp)] at q;exact absurd q.2 (by simp)
  have iU:∀ q∈ps,eO w ks q:=fun q hq=>hp q (L6 _ hq)
  rcases hp p J9 with Z4 | ⟨qM,hr⟩
  .rcases h2 p Z4 with ⟨c,rfl⟩ | ⟨c,d,rfl⟩
   .have ef:flatP (one c::ps)=c::flatP ps:=rfl
    cases ps with
    | nil=>exact go (one c) [] (by simp) (A8 1) rfl (by rw [ef,show flatP []=[] from rfl,pF c [] (.inl Z4),hX,if_pos Z4])
    | cons p2 qs=>
     have hqs:∀ q∈qs,eO w ks q:=fun q hq=>iU q (L6 _ hq)
     rcases iU p2 J9 with V3 | ⟨qM,hr⟩
     .rcases h2 p2 V3 with ⟨d,rfl⟩ | ⟨d,e,rfl⟩
      .have fL:flatP (one c::one d::qs)=c::d::flatP qs:=rfl
       by_cases P9:two c d∈ks
       .exact go (two c d) qs hqs (by show 1<=2;decide) rfl (by rw [fL,pF _ _ (.inl Z4),m9,if_pos P9])
       .exact go (one c) (one d::qs) iU (A8 1) rfl (by rw [fL,pF _ _ (.inl Z4),m9,if_neg P9,if_pos Z4])
      .have fL:flatP (one c::two d e::qs)=c::d::e::flatP qs:=rfl
       by_cases P9:two c d∈ks
       .have he:=P c d e Z4 P9 V3;exact go (two c d) (one e::qs) (fun q hq=>by rcases E5.mp hq with h | h;rw [h];exact .inl he;exact hqs q h) (by show 1<=2;decide) rfl (by rw [fL,pF _ _ (.inl Z4),m9,if_pos P9])
       .exact go (one c) (two d e::qs) iU (A8 1) rfl (by rw [fL,pF _ _ (.inl Z4),m9,if_neg P9,if_pos Z4])
     .obtain ⟨f,rr,hf⟩:∃ f rr,p2.cps.toList=f::rr:=by
       cases e:p2.cps.toList with
       | nil=>exact absurd e hr.1
       | cons f rr=>exact ⟨f,rr,rfl⟩
      have qN:figO f=true:=hr.2 f (by rw [hf];simp);have fL:flatP (one c::p2::qs)=c::f::(rr++flatP qs):=by rw [eP,eP,hf];rfl
      have P9:two c f∉ks:=fun h=>by
       have:=cV qM _ h f (by rw [pC];simp)
       rw [qN] at this;cases this
      exact go (one c) (p2::qs) iU (A8 1) rfl (by rw [fL,pF _ _ (.inl Z4),m9,if_neg P9,if_pos Z4])
   .have ef:flatP (two c d::ps)=c::d::flatP ps:=rfl;exact go (two c d) ps iU (by show 1<=2;decide) rfl (by rw [ef,pF _ _ (.inr ⟨d,Z4⟩),m9,if_pos Z4])
  .obtain ⟨qs,h3,h4⟩:=agp cV h2 qM (p::ps) hp;obtain ⟨f,rr,hf⟩:∃ f rr,p.cps.toList=f::rr:=by
    cases e:p.cps.toList with
    | nil=>exact absurd e hr.1
    | cons f rr=>exact ⟨f,rr,rfl⟩
   have qN:figO f=true:=hr.2 f (by rw [hf];simp);have ef:flatP (p::ps)=f::(rr++flatP ps):=by rw [eP,hf];rfl
   refine go ⟨((flatP (p::ps)).takeWhile figO).toArray⟩ qs h3 ?_ ?_ ?_
   .rw [<- lenL];show 1<=((flatP (p::ps)).takeWhile figO).length;rw [ef,List.takeWhile_cons_of_pos qN]
    simp
   .show flatP (p::ps)=(flatP (p::ps)).takeWhile figO++flatP qs;rw [<- h4,List.takeWhile_append_dropWhile]
   .rw [ef,eN,qM,qN,Bool.and_self,if_pos rfl]
theorem agY{p:Str}(hp:p∈E4 R):p=" "\/p∈(C9 R).map (·.1):=by
 unfold E4 Y8 at hp
 rcases D3.mp hp with h | h
 .exact .inr ((kR _ _).mp h)
 .by_cases hb:hasW R "blanks"=true
  .rw [if_pos hb] at h;exact .inl (D1.mp h)
  .rw [if_neg hb] at h;cases h
theorem alO{p:Str}(hp:p∈(C9 R).map (·.1)):p∈E4 R:=N7 _ ((kR _ _).mpr hp)
theorem uP:(" " : Str)=one 32:=by decide +kernel
end L2
set_option maxRecDepth 100000
namespace L2
open PySem PySem.Spec PyProof.Rows
noncomputable def tRev (K:PySem.W.Frag) (te:TE) (tk:TO):TE:=fun Y H Q=>te Y H fun x H1=>tk Y H1 fun k H2=>k=some (-1)/\∃ a xs,x=.ref a/\C7 K H2 a xs/\∀ p,H2 p=none->Q (.ref p) (A0 H2 p (.lst xs.reverse))
theorem Vals.rev(r:Vals xs us):Vals xs.reverse us.reverse:=by
 induction r with
 | nil=>exact .nil
 | cons h t ih=>
  rw [gC,gC];exact ih.append (.cons h .nil)
theorem aq4{k:Expr}{tk:TO}{pos:Pos}(he:PE X e te)(hk:PO X (some k) tk):PE X (.Subscript e (.Slice none none (some k) p2) pos) (tRev X.K te tk):=by
 intro pins s Y H Q I h;refine Subscript_ (A9 (he pins s Y H _ I h) fun v s1 ⟨x,H1,I1,r1,q1⟩=>?_);refine wpAny_Slice ?_;rw [evalPart_none];refine wpAny_pure ?_;refine wpAny_pure ?_;refine A9 (hk pins s1 Y H1 _ I1 q1) fun vk s3 ⟨kk,H3,I3,pk,q3⟩=>?_
 obtain ⟨rfl,a,xs,rfl,hx,q⟩:=q3;have I4:Inv X pins Y H3 { s3 with heap:=s3.heap.push { cls:=.type "slice",data:=.fields #[.none,.none,vk] } }:=I3.kept (t':=s3.toks) fun b ob q=>Heap.get?_push_of_some _ q
 cases r1
 obtain ⟨its,r,ht,hz⟩:=I4.list hx;have A7:=r.length;show wpAny (model X.prog X.w) X.A (subscriptTail e (.Slice none none (some k) p2) (.ref a) (.ref s3.heap.objs.size)) (EP X pins Y Q) X.xe { s3 with heap:=s3.heap.push { cls:=.type "slice",data:=.fields #[.none,.none,vk] } };refine tail_any (ops:=[.ref a,.ref s3.heap.objs.size]) ht.isList.typeIs slot_list_getitem.lookup ?_ (by with_unfolding_all rfl);refine wpAny_getItem_list_slice ht.isList (Heap.IsSliceOf.new ..) .none .none pk (by simp) ?_ (by rw [F6] <;> lia);rw [PySem.W.krv_pick];refine ⟨.ref _,_,I4.laid (o:=.lst xs.reverse) (fun b ob q=>Heap.get?_push_of_some _ q) (A8 _) ?_,rfl,q _ (I4.hok.fresh (A8 _))⟩;exact ⟨by rw [List.length_reverse];exact hz,_,0,Vals.rev r,Heap.get?_push_size _ rfl⟩
theorem aq5{k:Expr}{tk:TO}{pos:Pos}(he:QE X e te)(hk:QO X (some k) tk)(hK:X.K=K:=by rfl):QE X (.Subscript e (.Slice none none (some k) p2) pos) (tRev K te tk):=by subst hK;exact ⟨aq4 he.out hk.out⟩
theorem an4{tk:TO} : tRev K te tk Y H Q=te Y H fun x H1=>tk Y H1 fun k H2=>k=some (-1)/\∃ a xs,x=.ref a/\C7 K H2 a xs/\∀ p,H2 p=none->Q (.ref p) (A0 H2 p (.lst xs.reverse)):=rfl
end L2
set_option maxRecDepth 100000
namespace PySem
section
variable {prog:Program} {w:World} {A:Around} {E:Value->Shared->Prop} {s:Shared}
end
end PySem
namespace L2
open PySem PySem.Spec PyProof.Rows
noncomputable def tLRev (ta:TA):TE:=fun Y H Q=>ta Y H fun vs H1=>∃ (l:Addr) (xs:List V),vs=[.ref l]/\H1 l=some (.lst xs)/\∀ p,H1 p=none->Q (.ref p) (A0 H1 p (.lst xs.reverse))
theorem an5 : tLRev ta Y H Q=ta Y H fun vs H1=>∃ (l:Addr) (xs:List V),vs=[.ref l]/\H1 l=some (.lst xs)/\∀ p,H1 p=none->Q (.ref p) (A0 H1 p (.lst xs.reverse)):=rfl
end L2
set_option maxRecDepth 100000
namespace L2
open PySem PySem.Spec PyProof.Rows
noncomputable def R1 (k w:Int):List Int:=if k=0 then [1] else if k=1 then [2,w+1] else [w+3]
noncomputable def b9 (U:List D6):List Int:=U.flatMap fun u=>R1 u.1 u.2.1
theorem aeT(k w:Int):(R1 k w).length<=2:=by
 unfold R1
 split
 .simp
 .split <;> simp
theorem uQ:∀ U:List D6,(b9 U).length<=2*U.length
 | []=>A8 _
 | u::U=>by
  have h1:=uQ U;have h2:=aeT u.1 u.2.1;show (R1 u.1 u.2.1++b9 U).length<=_;rw [C8,K9];lia
theorem agZ{u:D6}(h:U[i]?=some u):b9 (U.take (i+1))=b9 (U.take i)++R1 u.1 u.2.1:=by
 unfold b9;rw [K8 h,Y4]
 simp
noncomputable def ahT:Sp:=fun vs H Q _=>∃ (k w:Int),vs=[.int k,.int w]/\∀ l,H l=none->Q (.ref l) (A0 H l (.lst ((R1 k w).map V.int)))
noncomputable def ahU:Sp:=fun vs H Q _=>∃ (a:Addr) (U:List D6),vs=[.ref a]/\IsUn H a U/\U.length<=10000/\∀ l H',H l=none->Same H H'->H' l=some (.lst ((b9 U).map V.int))->Q (.ref l) H'
noncomputable def X5 (U:List D6):List Int:=U.flatMap fun u=>(u.2.2.1.map fun p=>p+2)++[1]
noncomputable def agq:Sp:=fun vs H Q _=>∃ (z:Str),vs=[.str z]/\z.length<=1000/\∀ l H',H l=none->Same H H'->H' l=some (.lst ((z.cps.toList.map fun c:Nat=>(c:Int)).map V.int))->Q (.ref l) H'
noncomputable def P7 (U:List D6):Nat:=(U.map fun u=>u.2.2.1.length).sum
theorem ag0(U:List D6)(s:Tr):P7 (addS U s)<=P7 U+1:=by
 unfold addS
 by_cases h:s.1=0
 .rw [if_pos h]
  by_cases hU:U=[]
  .subst hU;unfold addM P7
   simp
  .obtain ⟨U',u,rfl⟩:=uM hU;unfold addM;rw [List.getLast?_append,List.getLast?_singleton];simp [P7];lia
 .rw [if_neg h];simp [P7]
theorem aeb:∀ (ss:List Tr) (U:List D6),P7 (ss.foldl addS U)<=P7 U+ss.length
 | [],U=>A8 _
 | s::ss,U=>by
  rw [List.foldl_cons,K9];have h1:=aeb ss (addS U s);have h2:=ag0 U s;lia
theorem adC(hs:∀ y,(S y).length<=15)(ps:List Str):P7 (N6 S ps)<=15*ps.length:=by
 have h0:(ps.flatMap S).length<=15*ps.length:=by
  induction ps with
  | nil=>exact A8 _
  | cons p ps ih=>
   rw [Q9,C8,K9]
   have:=hs p
   lia
 have h1:=aeb (ps.flatMap S) [];unfold N6;have h2:P7 []=0:=rfl;lia
theorem aec(U:List D6):(X5 U).length=P7 U+U.length:=by
 unfold X5 P7
 induction U with
 | nil=>rfl
 | cons u U ih=>
  rw [Q9,C8,ih,K0,List.sum_cons,K9]
  simp
  lia
theorem aeU(U:List D6):P7 U.reverse=P7 U:=by
 unfold P7;rw [List.map_reverse,List.sum_reverse]
noncomputable def agr:Sp:=fun vs H Q _=>∃ (a:Addr) (b:Bool) (U:List D6),vs=[.ref a,.bl b]/\IsUn H a U/\U.length<=10000/\(∀ u∈U,u.2.2.1.length<=10000)/\P7 U<=100000/\∀ l H',H l=none->Same H H'->H' l=some (.lst ((X5 (if b=true then U.reverse else U)).map V.int))->Q (.ref l) H'
theorem uR{α β:Type}{F:α->β->Prop} : ∀ {as:List α} {bs:List β},Paired F as bs->Paired F as.reverse bs.reverse
 | _,_,.nil=>.nil
 | _,_,.cons h t=>by
  rw [gC,gC];exact Paired.snoc (uR t) h
theorem uS{α β:Type}{F:α->β->Prop} : ∀ {as:List α} {bs:List β} (h:Paired F as bs) (n:Nat),Paired F (as.take n) (bs.take n)
 | _,_,.nil,n=>by rw [List.take_nil,List.take_nil];exact .nil
 | _,_,.cons h t,0=>.nil
 | _,_,.cons h t,n+1=>.cons h (uS t n)
noncomputable def lA (b:Bool) (U:List D6) (z:Str):List (List Int):=[b9 U,X5 (if b=true then U.reverse else U),U.map fun u=>u.2.2.2+1,z.cps.toList.map fun c:Nat=>(c:Int)]
noncomputable def keyF (n:Nat) (b:Bool) (U:List D6) (z:Str):List Int:=((lA b U z).take n).flatMap fun l=>l++[0]
noncomputable def spKey (C:Addr):Sp:=fun vs H Q _=>∃ (x j ll ml md:Addr) (z:Str) (n:Nat) (g:Str->Str) (R:List Rl) (L M:List Str),vs=[.ref x,.str z,.int n]/\n<=4/\IsOrd C H x j ll ml md g R L M/\(E4 R).length<=1000/\z.length<=500/\n6 (hasW R "figures") (E4 R) z/\(∀ y,(stepY R L M y).length<=15)/\
 ∀ l H',H l=none->Same H H'->H' l=some (.lst ((keyF n (hasW R "behind") (N6 (stepY R L M) (cutF (hasW R "figures") (E4 R) z.cps.toList).2) z).map V.int))->Q (.ref l) H'
noncomputable def ahV:Sp:=fun vs H Q _=>∃ (a:Addr) (U:List D6),vs=[.ref a]/\IsUn H a U/\U.length<=10000/\∀ l H',H l=none->Same H H'->H' l=some (.lst ((U.map fun u=>u.2.2.2+1).map V.int))->Q (.ref l) H'
theorem ag1(hs:∀ y,(S y).length<=15){w:Bool}(hy:y.length<=500) :
  (N6 S (cutF w ks y.cps.toList).2).length<=10000/\(∀ u∈N6 S (cutF w ks y.cps.toList).2,u.2.2.1.length<=10000)/\P7 (N6 S (cutF w ks y.cps.toList).2)<=100000:=by
 have h1:=pI hs (cutF w ks y.cps.toList).2;have h2:=(pD (w:=w) (g:=ks) _ y.cps.toList (A8 _)).2.1;have h3:=adC hs (cutF w ks y.cps.toList).2;rw [lenL] at h2;exact ⟨by lia,fun u hu=>by have:=h1.2 u hu;lia,by lia⟩
noncomputable def StOk (s:Tr):Prop:=(s.1=0\/s.1=1\/s.1=2)/\0<=s.2.1/\0<=s.2.2
noncomputable def EltOk (u:D6):Prop:=(u.1=0\/u.1=1\/u.1=2)/\0<=u.2.1/\(∀ p∈u.2.2.1,0<=p)/\0<=u.2.2.2
theorem alP : ∀ s∈stepF R L M y,StOk s:=by
 unfold stepF;cases e:(putsL R L M).lookup y with
 | none=>intro s hs;cases hs
 | some t=>
  obtain ⟨l1,l2,el,_⟩:=List.lookup_eq_some_iff.mp e;have hm:(y,t)∈putsL R L M:=by rw [el];simp
  show ∀ s∈t,StOk s;have one:∀ {a:Tr},[a]=t->StOk a->∀ s∈t,StOk s:=fun {a} e h s hs=>by
   rw [<- e] at hs;rw [D1.mp hs];exact h
  unfold putsL at hm
  rcases D3.mp hm with hm | hm
  .rcases D3.mp hm with hm | hm
   .rcases D3.mp hm with hm | hm
    .obtain ⟨a,_,q⟩:=E2.mp hm;exact one (Prod.mk.inj q).2 ⟨.inr (.inr rfl),dW _,bU _⟩
    .obtain ⟨a,_,q⟩:=E2.mp hm;exact one (Prod.mk.inj q).2 ⟨.inl rfl,dW _,bU _⟩
   .obtain ⟨_,_,hm⟩:=g7.mp hm;obtain ⟨a,_,q⟩:=E2.mp hm;exact one (Prod.mk.inj q).2 ⟨.inr (.inr rfl),dW _,dW _⟩
  .unfold kU at hm;obtain ⟨z,hz,q⟩:=gB.mp hm
   by_cases hw:z.1=("as" : Str)
   .rw [if_pos hw,jY] at q;obtain ⟨p,_,q⟩:=q;rw [<- (Prod.mk.inj q).2];intro s hs;obtain ⟨b,_,rfl⟩:=E2.mp hs;unfold baseT
    by_cases hb:b∈L
    .rw [if_pos hb];exact ⟨.inr (.inr rfl),dW _,bU _⟩
    .rw [if_neg hb];exact ⟨.inl rfl,dW _,bU _⟩
   .rw [if_neg hw] at q;cases q
theorem ahW(y:Str):∀ s∈stepY R L M y,StOk s:=by
 unfold stepY
 split
 .intro s hs;rw [D1.mp hs];exact ⟨.inr (.inl rfl),dW _,bU _⟩
 .exact alP
theorem an6{s:Tr}(hU:∀ u∈U,EltOk u)(hs:StOk s):∀ u∈addS U s,EltOk u:=by
 unfold addS
 split
 .unfold addM
  split
  .intro u hu;rw [D1.mp hu];exact ⟨.inl rfl,bU _,fun p hp=>by rw [D1.mp hp];exact hs.2.1,bU _⟩
  .rename_i v hv
   have ov:=hU v (List.mem_of_getLast? hv);intro u hu
   rcases D3.mp hu with h | h
   .exact hU u ((List.dropLast_sublist _).subset h)
   .rw [D1.mp h];refine ⟨ov.1,ov.2.1,fun p hp=>?_,ov.2.2.2⟩
    rcases D3.mp hp with h | h
    .exact ov.2.2.1 p h
    .rw [D1.mp h];exact hs.2.1
 .intro u hu
  rcases D3.mp hu with h | h
  .exact hU u h
  .rw [D1.mp h];exact ⟨hs.1,hs.2.1,by simp,hs.2.2⟩
theorem ahX(hS:∀ y,∀ s∈S y,StOk s)(ps:List Str):∀ u∈N6 S ps,EltOk u:=by
 have gen:∀ (ss:List Tr) (U:List D6),(∀ u∈U,EltOk u)->(∀ s∈ss,StOk s)->∀ u∈ss.foldl addS U,EltOk u:=by
  intro ss
  induction ss with
  | nil=>intro U hU _;exact hU
  | cons s ss ih=>intro U hU hs;exact ih _ (an6 hU (hs s J9)) fun t ht=>hs t (L6 _ ht)
 refine gen _ [] (by simp) fun s hs=>?_
 obtain ⟨y,_,h⟩:=g7.mp hs;exact hS y s h
end L2
set_option maxRecDepth 100000
namespace PySem.SeqAt
open AutoSeq1 (wpAny_loadPart')
open MeetsSeq MeetsSeq2 MeetsSeq3 SeqRoads2
noncomputable def RcLt (A:Around) (s:Shared) (y x:Value) (b:Bool):Prop:=
 ∀ (prog:Program) (w:World) (E:Value->Shared->Prop) (Q:Value->Shared->Prop),Q (.bool b) s->wpAny (model prog w) A (richCompare .Lt y x) Q E s
theorem akb{α:Type}[DecidableEq α][LT α][DecidableLT α](p0:∀ a:α,¬ a<a){xs ys:List α}(h1:i<xs.length)(h2:i<ys.length) :
  decide (xs.drop i<ys.drop i)=if decide (xs[i]=ys[i])=true then decide (xs.drop (i+1)<ys.drop (i+1)) else decide (xs[i]<ys[i]):=by
 rw [dL h1,dL h2]
 by_cases e:xs[i]=ys[i]
 .rw [if_pos (decide_eq_true e)];refine decide_eq_decide.mpr ?_;rw [Y3,e];exact ⟨fun h=>h.elim (fun h=>absurd h (p0 _)) (fun h=>h.2),fun h=>.inr ⟨rfl,h⟩⟩
 .rw [if_neg (by simpa using e)];refine decide_eq_decide.mpr ?_;rw [Y3];exact ⟨fun h=>h.elim id fun h=>absurd h.1 e,.inl⟩
theorem amx{α:Type}[LT α][DecidableEq α][DecidableLT α]{ys:List α}{m':Nat}(hx:m=m')(hy:n=ys.length)(hi:i=m):decide ([]<ys.drop i)=decide (m<n):=by
 refine decide_eq_decide.mpr ?_;cases e:ys.drop i with
 | nil=>
  have:=List.drop_eq_nil_iff.mp e
  exact ⟨fun h=>absurd h (gF _),fun h=>by lia⟩
 | cons a r=>
  have:i<ys.length:=by
   rcases U6 i ys.length with h | h
   .exact h
   .rw [jM h] at e;cases e
  exact ⟨fun _=>by lia,fun _=>List.nil_lt_cons _ _⟩
theorem akc{α:Type}[DecidableEq α][LT α][DecidableLT α](p0:∀ a:α,¬ a<a)(l b:Addr)(items items2:Array Value)(n n2:Nat)(dd X7:Option Addr)(sl W2:Array (Option Value))(xs ys:List α)(hx:items.size=xs.length)(hy:items2.size=ys.length)(k:Nat) :
  ∀ i:Nat,items.size-i=k->i<=items.size->i<=items2.size->Meets (Builtin.«list.__eq__.loop» ⟨[.ref l,.ref b,rawInt i,rawInt 0],[]⟩)
   (fun A R s=>s.heap.get? l=some { cls:=.type "list",dict:=dd,data:=.seq items n,slots:=sl }/\s.heap.get? b=some { cls:=.type "list",dict:=X7,data:=.seq items2 n2,slots:=W2 }/\
    (∀ j (h1:j<items.size) (h2:j<items2.size) (g1:j<xs.length) (g2:j<ys.length),EqAt A.in1 s items[j] items2[j] (decide (xs[j]=ys[j]))/\RcLt A.in1 s items[j] items2[j] (decide (xs[j]<ys[j])))/\
    R (.ok (.ret (.bool (decide (xs.drop i<ys.drop i))))) s):=by
 induction k with
 | zero=>
  intro i hk l1 l2 prog w A R s h;obtain ⟨hp,g,d,tk,os⟩:=s;obtain ⟨hl,hb,he,h⟩:=h
  wp_walk using wpAny_loadPart' hl,wpAny_loadPart' hb
  have aY:items[((i:Nat):Int).toNat]?=none:=by simp;lia
  rw [aY]
  wp_walk using wpAny_loadPart' hl,wpAny_loadPart' hb
  show R (.ok (.ret (.bool (decide (items.size<items2.size))))) _;have e:decide (xs.drop i<ys.drop i)=decide (items.size<items2.size):=by
   rw [jM (as:=xs) (by lia)];exact amx hx hy (by lia)
  rw [e] at h;exact h
 | succ k ih=>
  intro i hk l1 l2 prog w A R s h;obtain ⟨hp,g,d,tk,os⟩:=s;obtain ⟨hl,hb,he,h⟩:=h
  wp_walk using wpAny_loadPart' hl,wpAny_loadPart' hb
  have C4:i<items.size:=by lia
  have aY:items[((i:Nat):Int).toNat]?=some items[i]:=by simp [C4]
  by_cases mM:i<items2.size
  .have V4:items2[((i:Nat):Int).toNat]?=some items2[i]:=by simp [mM]
   have hc:((i:Int)+1)=((i+1:Nat):Int):=by push_cast;rfl
   rw [aY,V4];obtain ⟨h1,h2⟩:=he i C4 mM (by lia) (by lia);rw [akb p0 (by lia) (by lia)] at h;refine wpAny_bind (h1 prog w _ _ ?_);cases X9:decide (xs[i]'(by lia)=ys[i]'(by lia)) with
   | true=>
    rw [X9,if_pos rfl] at h
    wp_walk
    rw [hc];exact ⟨plainId_quiet plain_eq_loop _,codeAny_builtin entry_eq_loop (by
     rw [Around.under_plainId plain_eq_loop _];exact ih (i+1) (by lia) (by lia) (by lia) prog w A R _ ⟨hl,hb,he,h⟩)⟩
   | false=>
    rw [X9,if_neg (by decide)] at h
    wp_walk using wpAny_loadPart' hl,wpAny_loadPart' hb
    rw [aY,V4];refine wpAny_bind (h2 prog w _ _ ?_)
    wp_walk
    exact h
  .have V4:items2[((i:Nat):Int).toNat]?=none:=by simp;lia
   rw [aY,V4]
   wp_walk using wpAny_loadPart' hl,wpAny_loadPart' hb
   show R (.ok (.ret (.bool (decide (items.size<items2.size))))) _;have e:decide (xs.drop i<ys.drop i)=decide (items.size<items2.size):=by
    rw [jM (as:=ys) (by lia)];refine decide_eq_decide.mpr ?_;exact ⟨fun h=>absurd h (gF _),fun h=>by lia⟩
   rw [e] at h;exact h
theorem list_ltAt{α:Type}[DecidableEq α][LT α][DecidableLT α](p0:∀ a:α,¬ a<a)(l b:Addr)(items items2:Array Value)(n n2:Nat)(dd X7:Option Addr)(sl W2:Array (Option Value))(xs ys:List α)(hx:items.size=xs.length)(hy:items2.size=ys.length) :
  Meets (Builtin.«list.__lt__» ⟨[.ref l,.ref b],[]⟩)
   (fun A R s=>s.heap.get? l=some { cls:=.type "list",dict:=dd,data:=.seq items n,slots:=sl }/\s.heap.get? b=some { cls:=.type "list",dict:=X7,data:=.seq items2 n2,slots:=W2 }/\
    (∀ j (h1:j<items.size) (h2:j<items2.size) (g1:j<xs.length) (g2:j<ys.length),EqAt A.in1 s items[j] items2[j] (decide (xs[j]=ys[j]))/\RcLt A.in1 s items[j] items2[j] (decide (xs[j]<ys[j])))/\
    R (.ok (.ret (.bool (decide (xs<ys))))) s):=by
 intro prog w A R s h;obtain ⟨hp,g,d,tk,os⟩:=s;obtain ⟨hl,hb,he,h⟩:=h;have f3:=AutoSeq1.sub_list_list
 wp_walk using wpAny_loadPart' hl,wpAny_loadPart' hb
 exact ⟨plainId_quiet plain_eq_loop _,codeAny_builtin entry_eq_loop (by
  rw [Around.under_plainId plain_eq_loop _];exact akc p0 l b items items2 n n2 dd X7 sl W2 xs ys hx hy _ 0 rfl (G3 _) (G3 _) prog w A R _ ⟨hl,hb,he,h⟩)⟩
theorem aiC{α:Type}[DecidableEq α][LT α][DecidableLT α](p0:∀ a:α,¬ a<a)(l b:Addr)(items items2:Array Value)(n n2:Nat)(dd X7:Option Addr)(sl W2:Array (Option Value))(xs ys:List α)(hx:items.size=xs.length)(hy:items2.size=ys.length) :
  Meets (Builtin.«tuple.__lt__» ⟨[.ref l,.ref b],[]⟩)
   (fun A R s=>s.heap.get? l=some { cls:=.type "tuple",dict:=dd,data:=.seq items n,slots:=sl }/\s.heap.get? b=some { cls:=.type "tuple",dict:=X7,data:=.seq items2 n2,slots:=W2 }/\
    (∀ j (h1:j<items.size) (h2:j<items2.size) (g1:j<xs.length) (g2:j<ys.length),EqAt A.in1 s items[j] items2[j] (decide (xs[j]=ys[j]))/\RcLt A.in1 s items[j] items2[j] (decide (xs[j]<ys[j])))/\
    R (.ok (.ret (.bool (decide (xs<ys))))) s):=
 .of_wp fun prog w A R s h=>by
  obtain ⟨hp,g,d,tk,os⟩:=s;obtain ⟨hl,hb,he,h⟩:=h;have f2:=AutoSeq1.sub_tuple_tuple;have hZ:(items.toList.zip items2.toList).length=min items.size items2.size:=by simp
  wp_walk using wpAny_loadPart' hl,wpAny_loadPart' hb,wpAny_forIn_list _ (fun rest b s'=>b.1=none/\s'=⟨hp,g,d,tk,os⟩/\∃ i,rest=(items.toList.zip items2.toList).drop i/\i<=min items.size items2.size/\
   R (.ok (.ret (.bool (decide (xs.drop i<ys.drop i))))) ⟨hp,g,d,tk,os⟩) _
  case turn=>
   rintro ⟨y,x⟩ rest b s' ⟨X9,rfl,i,hz,hi,hR⟩;have C4:i<(items.toList.zip items2.toList).length:=by
    rcases U6 i (items.toList.zip items2.toList).length with h' | h'
    .exact h'
    .rw [jL h'] at hz;cases hz
   have hm:i<min items.size items2.size:=hZ ▸ C4;have h1:i<items.size:=O2 hm (Nat.min_le_left _ _);have h2:i<items2.size:=O2 hm (Nat.min_le_right _ _);rw [dL C4] at hz
   injection hz with hyx Z1
   have iV:y=items[i]:=by have:=congrArg Prod.fst hyx;simpa using this
   have xJ:x=items2[i]:=by have:=congrArg Prod.snd hyx;simpa using this
   subst iV xJ;rw [akb p0 (by lia) (by lia)] at hR;obtain ⟨q1,q2⟩:=he i h1 h2 (by lia) (by lia);refine wpAny_bind (q1 prog w _ _ ?_);cases iV:decide (xs[i]'(by lia)=ys[i]'(by lia)) with
   | true=>
    rw [iV,if_pos rfl] at hR
    wp_walk
    exact ⟨rfl,rfl,i+1,Z1,hm,hR⟩
   | false=>
    rw [iV,if_neg (by decide)] at hR;refine wpAny_ite_split (fun _=>?_) (fun y0=>absurd rfl y0);refine wpAny_bind (wpAny_rule ?_);refine wpAny_bind (q2 prog w _ _ ?_)
    wp_walk
    exact ⟨_,rfl,hR⟩
  case fin=>
   rintro ⟨b1,b2⟩ s' ⟨X9,rfl,i,hz,hi,hR⟩;simp only at X9;subst X9;have cW:min items.size items2.size<=i:=by
    rcases U6 i (items.toList.zip items2.toList).length with h' | h'
    .rw [dL h'] at hz;cases hz
    .exact hZ ▸ h'
   have e:decide (xs.drop i<ys.drop i)=decide (items.size<items2.size):=by
    by_cases hc:items.size<=i
    .rw [jM (as:=xs) (by lia)];exact amx hx hy (by lia)
    .rw [jM (as:=ys) (by lia)];refine decide_eq_decide.mpr ?_;exact ⟨fun h=>absurd h (gF _),fun h=>by lia⟩
   rw [e] at hR
   wp_walk
   exact ⟨_,rfl,by simpa [Builtin.Tuple.tupleCompareSizes] using hR⟩
  case h=>
   exact ⟨rfl,rfl,0,rfl,G3 _,h⟩
section
variable {A:Around} {s:Shared}
theorem RcLt.lists{α:Type}[DecidableEq α][LT α][DecidableLT α](p0:∀ a:α,¬ a<a){l:Addr}{xs ys:List α}(hl:s.heap.IsList l items)(hb:s.heap.IsList b items2)(hx:items.size=xs.length)(hy:items2.size=ys.length)(hu:A.units<cLine)(he:∀ j (h1:j<items.size) (h2:j<items2.size) (g1:j<xs.length) (g2:j<ys.length),EqAt A.in1 s items[j] items2[j] (decide (xs[j]=ys[j]))/\RcLt A.in1 s items[j] items2[j] (decide (xs[j]<ys[j]))):RcLt A s (.ref l) (.ref b) (decide (xs<ys)):=fun prog w E Q h=>by
 obtain ⟨⟨cls,dd,data,sl⟩,ho,hc,n,hd⟩:=id hl;obtain ⟨⟨cls2,X7,data2,W2⟩,j9,Q0,n2,Q4⟩:=id hb;simp only at hc hd Q0 Q4;subst hc hd Q0 Q4;exact richCompare_meets_room (op:=.Lt) ⟨_,ho,rfl⟩ ⟨_,j9,rfl⟩ F.slot_list_lt F.entry_list_lt (F.args_list_lt_2 _ _) (list_ltAt p0 l b items items2 n n2 dd X7 sl W2 xs ys hx hy)
  ⟨ho,j9,he,show Value.bool (decide (xs<ys))≠Value.notImplemented/\Q (.bool (decide (xs<ys))) s from ⟨(fun x=>nomatch x),h⟩⟩ hu
theorem RcLt.tuples{α:Type}[DecidableEq α][LT α][DecidableLT α](p0:∀ a:α,¬ a<a){l:Addr}{xs ys:List α}(hl:s.heap.IsTuple l items)(hb:s.heap.IsTuple b items2)(hx:items.size=xs.length)(hy:items2.size=ys.length)(hu:A.units<cLine)(he:∀ j (h1:j<items.size) (h2:j<items2.size) (g1:j<xs.length) (g2:j<ys.length),EqAt A.in1 s items[j] items2[j] (decide (xs[j]=ys[j]))/\RcLt A.in1 s items[j] items2[j] (decide (xs[j]<ys[j]))):RcLt A s (.ref l) (.ref b) (decide (xs<ys)):=fun prog w E Q h=>by
 obtain ⟨⟨cls,dd,data,sl⟩,ho,hc,n,hd⟩:=id hl;obtain ⟨⟨cls2,X7,data2,W2⟩,j9,Q0,n2,Q4⟩:=id hb;simp only at hc hd Q0 Q4;subst hc hd Q0 Q4;exact richCompare_meets_room (op:=.Lt) ⟨_,ho,rfl⟩ ⟨_,j9,rfl⟩ F.slot_tuple_lt F.entry_tuple_lt (F.args_tuple_lt_2 _ _) (aiC p0 l b items items2 n n2 dd X7 sl W2 xs ys hx hy)
  ⟨ho,j9,he,show Value.bool (decide (xs<ys))≠Value.notImplemented/\Q (.bool (decide (xs<ys))) s from ⟨(fun x=>nomatch x),h⟩⟩ hu
theorem RcLt.int_int(a:Int)(t:Tok)(b:Int)(u:Tok):RcLt A s (.int a t) (.int b u) (decide (a<b)):=fun prog w E Q h=>PySem.P.lt_int h
end
end PySem.SeqAt
namespace L2
open PySem PySem.Spec PyProof.Rows
theorem pJ{xs ys:List Int}(r1:Vals (xs.map V.int) its)(r2:Vals (ys.map V.int) its2) :
  ∀ j (h1:j<its.toArray.size) (h2:j<its2.toArray.size) (g1:j<xs.length) (g2:j<ys.length),SeqAt.EqAt A s its.toArray[j] its2.toArray[j] (decide (xs[j]=ys[j]))/\SeqAt.RcLt A s its.toArray[j] its2.toArray[j] (decide (xs[j]<ys[j])):=by
 intro j h1 h2 g1 g2;obtain ⟨t,e1⟩:=oW (oA r1) (j:=j) (z:=xs[j]) (by simp);obtain ⟨u,e2⟩:=oW (oA r2) (j:=j) (z:=ys[j]) (by simp);have q1:its.toArray[j]=.int xs[j] t:=by have:=(E9.mp e1).2;simpa using this
 have q2:its2.toArray[j]=.int ys[j] u:=by have:=(E9.mp e2).2;simpa using this
 rw [q1,q2];refine ⟨?_,SeqAt.RcLt.int_int _ _ _ _⟩
 have:=SeqAt.EqAt.int_int (A:=A) (s:=s) xs[j] t ys[j] u
 rwa [show (xs[j]==ys[j])=decide (xs[j]=ys[j]) by rw [Bool.beq_eq_decide_eq]] at this
noncomputable def rLtR (K:PySem.W.Frag) (a b:Addr) (H:Hp) (Q:VK):Prop:=
 (∃ xs ys:List Int,C7 K H a (xs.map V.int)/\C7 K H b (ys.map V.int)/\Q (.bl (decide (xs<ys))) H)\/
 (∃ xs ys:List Int,C6 K H a (xs.map V.int)/\C6 K H b (ys.map V.int)/\Q (.bl (decide (xs<ys))) H)\/
 ∃ (as bs:List Addr) (xs ys:List (List Int)),C7 K H a (as.map V.ref)/\C7 K H b (bs.map V.ref)/\Paired (fun c x=>C6 K H c (x.map V.int)) as xs/\Paired (fun c x=>C6 K H c (x.map V.int)) bs ys/\Q (.bl (decide (xs<ys))) H
noncomputable def rLtK (K:PySem.W.Frag):V->V->Hp->VK->Prop
 | .int i,.int j,H,Q=>Q (.bl (decide (i<j))) H
 | .str i,.str j,H,Q=>Q (.bl (decide (i.cps.toList<j.cps.toList))) H
 | .ref a,.ref b,H,Q=>rLtR K a b H Q
 | _,_,_,_=>False
theorem q_ltK(hu:X.A.units+64<cLine)(hK:X.K=K:=by rfl):QOp X (compareOp .Lt) (rLtK K):=⟨by
 subst hK;intro pins s Y H x y v u Q I rx ry h;have u0:X.A.units<cLine:=by lia
 have u1:X.A.in1.units<cLine:=by rw [show X.A.in1.units=X.A.units+1 from rfl];lia
 have u2:X.A.in1.in1.units<cLine:=by rw [show X.A.in1.in1.units=X.A.units+2 from rfl];lia
 cases x <;> cases y <;> try exact h.elim
 .exact op_lt pins s Y H _ _ v u Q I rx ry ⟨_,_,rfl,rfl,h⟩
 .exact afG pins s Y H _ _ v u Q I rx ry ⟨_,_,rfl,rfl,h⟩
 cases rx
 cases ry
 rcases h with ⟨xs,ys,h1,h2,q⟩ | ⟨xs,ys,h1,h2,q⟩ | ⟨as,bs,xs,ys,h1,h2,p1,p2,q⟩
 .obtain ⟨its,r1,l1,_⟩:=I.list h1;obtain ⟨its2,r2,l2,_⟩:=I.list h2;have e1:=r1.length;have e2:=r2.length;rw [A4] at e1 e2;exact SeqAt.RcLt.lists z9 l1.isList l2.isList (by simpa using e1.symm) (by simpa using e2.symm) u0 (pJ r1 r2) _ _ _ _ ⟨.bl _,H,I,rfl,q⟩
 .obtain ⟨its,r1,l1,_⟩:=I.tuple h1;obtain ⟨its2,r2,l2,_⟩:=I.tuple h2;have e1:=r1.length;have e2:=r2.length;rw [A4] at e1 e2;exact SeqAt.RcLt.tuples z9 l1 l2 (by simpa using e1.symm) (by simpa using e2.symm) u0 (pJ r1 r2) _ _ _ _ ⟨.bl _,H,I,rfl,q⟩
 .obtain ⟨its,r1,l1,_⟩:=I.list h1;obtain ⟨its2,r2,l2,_⟩:=I.list h2;have e1:=r1.length;have e2:=r2.length;rw [A4] at e1 e2;have f1:=Paired.length p1;have f2:=Paired.length p2;refine SeqAt.RcLt.lists (xs:=xs) (ys:=ys) (fun a=>List.lt_irrefl a) l1.isList l2.isList (by simp;lia) (by simp;lia) u0 (fun j h1 h2 g1 g2=>?_) _ _ _ _ ⟨.bl _,H,I,rfl,q⟩;have j1:j<as.length:=by lia
  have j2:j<bs.length:=by lia
  obtain ⟨v1,w1,z1⟩:=Vals.get (i:=j) (x:=.ref as[j]) r1 (by simp [j1]);obtain ⟨v2,w2,z2⟩:=Vals.get (i:=j) (x:=.ref bs[j]) r2 (by simp [j2]);have q1:its.toArray[j]=v1:=by have:=(E9.mp w1).2;simpa using this
  have q2:its2.toArray[j]=v2:=by have:=(E9.mp w2).2;simpa using this
  rw [q1,q2];obtain ⟨x1,y1,t1⟩:=Paired.at p1 (i:=j) (a:=as[j]) (by simp [j1]);obtain ⟨x2,y2,t2⟩:=Paired.at p2 (i:=j) (a:=bs[j]) (by simp [j2]);have o1:xs[j]=x1:=(E9.mp y1).2;have o2:ys[j]=x2:=(E9.mp y2).2;rw [o1,o2]
  constructor
  .obtain ⟨c1,us1,d1⟩:=(Dn.tup t1 cA).reads I rfl z1;obtain ⟨c2,us2,d2⟩:=(Dn.tup t2 cA).reads I rfl z2
   have:=SeqAt.eqAt_reads _ _ X.A.in1 s v1 v2 _ _ d1 d2 c1 c2 (by
    have hd:∀ zs:List Int,(PyData.tuple (zs.map z8)).depth=1:=fun zs=>by rw [z0,kH]
    have ui:X.A.in1.units=X.A.units+1:=rfl;rw [hd,hd];lia)
   rwa [U7,kG] at this
  .cases z1
   cases z2
   obtain ⟨i1,s1,m1,_⟩:=I.tuple t1;obtain ⟨i2,s2,m2,_⟩:=I.tuple t2;have k1:=s1.length;have k2:=s2.length;rw [A4] at k1 k2;exact SeqAt.RcLt.tuples z9 m1 m2 (by simpa using k1.symm) (by simpa using k2.symm) u1 (pJ s1 s2)⟩
section
variable {K:PySem.W.Frag} {H:Hp} {Q:VK}
theorem aq6{i j:Int} : rLtK K (.int i) (.int j) H Q=Q (.bl (decide (i<j))) H:=rfl
theorem aq7{i j:Str} : rLtK K (.str i) (.str j) H Q=Q (.bl (decide (i.cps.toList<j.cps.toList))) H:=rfl
theorem aq8 : rLtK K (.ref a) (.ref b) H Q=rLtR K a b H Q:=rfl
end
end L2
set_option maxRecDepth 100000
namespace L2
open PySem PySem.Spec PyProof.Rows
noncomputable def iDict (tl:TE):TI:=fun Y H R=>tl Y H fun x H1=>∃ a kvs,x=.ref a/\H1 a=some (.dK kvs)/\∀ o,R (eK a o kvs) (A0 H1 a (.frz o (.dK kvs)))
theorem alQ{R:It->Hp->Prop} : iDict tl Y H R=tl Y H fun x H1=>∃ a kvs,x=.ref a/\H1 a=some (.dK kvs)/\∀ o,R (eK a o kvs) (A0 H1 a (.frz o (.dK kvs))):=rfl
noncomputable def tThaw (te:TE):TE:=fun Y H Q=>∃ a kvs,H a=some (.dK kvs)/\te Y H fun v H'=>(∃ o,H' a=some (.frz o (.dK kvs)))/\Q v (A0 H' a (.dK kvs))
theorem an7 : tThaw te Y H Q=∃ a kvs,H a=some (.dK kvs)/\te Y H fun v H'=>(∃ o,H' a=some (.frz o (.dK kvs)))/\Q v (A0 H' a (.dK kvs)):=rfl
section
variable {X:Cx} {pos pos':Pos} {tg e elt:Expr} {ifs:List Expr} {wi:TI} {k:Nat} {ixs:List Nat} {sc:Scope} {N':List Str} {g:TG} {tA:TT} {te:TE} {x:Str}
noncomputable def aq9 (ts:TS):TS:=fun D Y H=>∃ a kvs,H a=some (.dK kvs)/\ts (D.thaw a kvs) Y H
theorem alR{ts:TS} : aq9 ts D Y H=∃ a kvs,H a=some (.dK kvs)/\ts (D.thaw a kvs) Y H:=rfl
end
end L2
set_option maxRecDepth 100000
namespace L2
open PySem PySem.W PyProof.Rows
noncomputable def M4 {α:Type} (f:Nat->Nat->Bool) (n:Nat) (P:α->Prop):KasT α->Prop
 | .ret a=>P a
 | .ask i j k=>i<n/\j<n/\M4 f n P (k (f i j))
theorem M4.mono{α:Type}{f:Nat->Nat->Bool}{P P':α->Prop}(h:∀ a,P a->P' a):∀ {t:KasT α},M4 f n P t->M4 f n P' t
 | .ret _,q=>h _ q
 | .ask _ _ _,⟨a,b,q⟩=>⟨a,b,M4.mono h q⟩
theorem M4.bind{α β:Type}{f:Nat->Nat->Bool}{P:β->Prop}{g:α->KasT β} : ∀ {t:KasT α},M4 f n (fun a=>M4 f n P (g a)) t->M4 f n P (t.bind g)
 | .ret _,q=>q
 | .ask _ _ _,⟨a,b,q⟩=>⟨a,b,M4.bind q⟩
theorem uaf{α:Type}{f:Nat->Nat->Bool}{P:α->Prop}{cmp:Nat->Nat->(Bool->Shared->Prop)->Shared->Prop}{I:Shared->Prop}{G:α->Shared->Prop}(hc:∀ i j (C:Bool->Shared->Prop) s,i<n->j<n->I s->(∀ s',I s'->C (f i j) s')->cmp i j C s)(hG:∀ a s,P a->I s->G a s) :
  ∀ {t:KasT α} {s:Shared},M4 f n P t->I s->t.kasWp cmp G s
 | .ret _,s,q,i=>hG _ s q i
 | .ask _ _ _,s,⟨a,b,q⟩,i=>hc _ _ _ s a b i fun s' i'=>uaf hc hG q i'
structure Wk(f:Nat->Nat->Bool):Prop where
 tr:∀ i j k,f j i=false->f k j=false->f k i=false
 as_:∀ i j,f i j=true->f j i=false
theorem Wk.rf{f:Nat->Nat->Bool}(w:Wk f)(i:Nat):f i i=false:=by
 cases h:f i i with
 | false=>rfl
 | true=>have:=w.as_ i i h;rw [h] at this;exact this
theorem Wk.lt_le{f:Nat->Nat->Bool}(w:Wk f)(h1:f i j=true)(h2:f k j=false):f i k=true:=by
 cases h:f i k with
 | true=>rfl
 | false=>have:=w.tr j k i h2 h;rw [h1] at this;cases this
theorem Wk.le_lt{f:Nat->Nat->Bool}(w:Wk f)(h1:f j i=false)(h2:f j k=true):f i k=true:=by
 cases h:f i k with
 | true=>rfl
 | false=>have:=w.tr k i j h h1;rw [h2] at this;cases this
noncomputable def Lx (f:Nat->Nat->Bool) (i j:Nat):Prop:=f j i=false/\(f i j=true\/i<j)
theorem Wk.lx{f:Nat->Nat->Bool}(w:Wk f)(h:f i j=true):Lx f i j:=⟨w.as_ _ _ h,.inl h⟩
noncomputable def Up (f:Nat->Nat->Bool) (q:Nat->Nat) (m:Nat):Prop:=∀ i j,i<j->j<m->Lx f (q i) (q j)
noncomputable def Dw (f:Nat->Nat->Bool) (q:Nat->Nat) (m:Nat):Prop:=∀ i j,i<j->j<m->Lx f (q j) (q i)
noncomputable abbrev gA (p:Array Nat) (i:Nat):Nat:=p.getD i 0
structure Sg(p:Array Nat)(m n:Nat):Prop where
 sz:p.size=n
 pm:p.toList.Perm (P6 n)
 lo:∀ i,i<m->gA p i<m
 id_:∀ i,m<=i->i<n->gA p i=i
theorem Sg.lt{p:Array Nat}(h:Sg p m n)(hm:m<=n)(hi:i<n):gA p i<n:=by
 rcases U6 i m with q | q
 .exact O2 (h.lo i q) hm
 .rw [h.id_ i q hi];exact hi
theorem Sg.succ{p:Array Nat}(h:Sg p m n)(hm:m<n):Sg p (m+1) n:=⟨h.sz,h.pm,fun i hi=>by
 rcases U6 i m with q | q
 .exact Nat.lt_succ_of_lt (h.lo i q)
 .have e:i=m:=by lia
  rw [e,h.id_ m (A8 _) hm];exact Nat.lt_succ_self _,fun i hi hn=>h.id_ i (by lia) hn⟩
theorem j4{p:Array Nat}(hj:j<=p.size)(k:Nat):gA (kas_rev p i j) k=if i<=k/\k<j then gA p (i+j-1-k) else gA p k:=by
 have e:=getElem?_mirror_all (xs:=p) (i:=i) hj k;show (mirror p i j ((j-i) / 2)).getD k 0=_;rw [dU,e]
 split
 .rw [gA,dU]
 .rw [gA,dU]
theorem pK{p:Array Nat}{l:Nat}(hk:k<p.size)(hl:l<=k)(i:Nat):gA (bubble p k (k-l)) i=if i=l then gA p k else if l<i/\i<=k then gA p (i-1) else gA p i:=by
 have e:=getElem?_bubble hk (k-l) (by lia) i;have g:∀ j,gA p j=(p[j]?).getD 0:=fun j=>dU ..
 show (bubble p k (k-l)).getD i 0=_;rw [dU,e,show k-(k-l)=l by lia,g,g,g]
 by_cases q:i=l
 .rw [if_pos q,if_pos q]
 .rw [if_neg q,if_neg q]
  by_cases q2:l<i/\i<=k
  .rw [if_pos q2,if_pos q2]
  .rw [if_neg q2,if_neg q2]
theorem Sg.rev{p:Array Nat}(h:Sg p m n)(hm:m<=n):Sg (kas_rev p i m) m n:=by
 have hz:m<=p.size:=by rw [h.sz];exact hm
 refine ⟨by rw [kas_rev_size,h.sz],?_,fun k hk=>?_,fun k h1 h2=>?_⟩
 .have:(kas_rev p i m).Perm p:=foldl_swaps_perm _ _ _ _
  exact (Array.perm_iff_toList_perm.mp this).trans h.pm
 .rw [j4 hz]
  split
  .exact h.lo _ (by lia)
  .exact h.lo _ hk
 .rw [j4 hz,if_neg (by lia)];exact h.id_ k h1 h2
section
variable {f:Nat->Nat->Bool} (w:Wk f) {n:Nat}
include w
theorem an8{p:Array Nat}(h:Sg p k n)(u:Up f (gA p) k)(h1:1<=k)(hk:k<n)(hf:f (gA p k) (gA p (k-1))=false):Up f (gA p) (k+1):=by
 intro i j O9 hj
 rcases U6 j k with q | q
 .exact u i j O9 q
 .have e:j=k:=by lia
  subst e;refine ⟨?_,.inr ?_⟩
  .rcases U6 i (j-1) with r | r
   .exact w.tr _ _ _ (u i (j-1) r (by lia)).1 hf
   .rw [show i=j-1 by lia];exact hf
  .rw [h.id_ j (A8 _) hk];exact h.lo i O9
theorem uT{p:Array Nat} : ∀ (fu m:Nat),Sg p m n->Up f (gA p) m->1<=m->m+fu=n->M4 f n (fun m'=>m<=m'/\m'<=n/\Sg p m' n/\Up f (gA p) m'/\(m'<n->f (gA p m') (gA p (m'-1))=true)) (kas_asc p fu m)
 | 0,m,h,u,_,hm=>⟨A8 _,by lia,h,u,fun q=>by lia⟩
 | fu+1,m,h,u,h1,hm=>by
  refine ⟨h.lt (by lia) (by lia),h.lt (by lia) (by lia),?_⟩;cases hc:f (gA p m) (gA p (m-1)) with
  | true=>
   show M4 f n _ (if true=true then _ else _);rw [if_pos rfl];exact ⟨A8 _,by lia,h,u,fun _=>hc⟩
  | false=>
   show M4 f n _ (if false=true then _ else _);rw [if_neg (by simp)];exact (uT fu (m+1) (h.succ (by lia)) (an8 w h u h1 (by lia) hc) (by lia) (by lia)).mono fun a ⟨a1,a2⟩=>⟨by lia,a2⟩
structure Gd(f:Nat->Nat->Bool)(q:Nat->Nat)(m c:Nat):Prop where
 le:c+1<=m
 dn:∀ i j,i<j->j<m->i<m-(c+1)->Lx f (q j) (q i)
 gr:∀ i j,m-(c+1)<=i->i<j->j<m->f (q i) (q j)=false/\f (q j) (q i)=false/\q i<q j
 st:∀ i j,i<m-(c+1)->m-(c+1)<=j->j<m->f (q j) (q i)=true
omit w in
theorem Gd.last{q:Nat->Nat}{c:Nat}(w:Wk f)(g:Gd f q m c)(hi:i<m):f (q i) (q (m-1))=false:=by
 have hle:=g.le
 rcases U6 i (m-(c+1)) with r | r
 .exact w.as_ _ _ (g.st i (m-1) r (by lia) (by lia))
 .rcases U6 i (m-1) with s | s
  .exact (g.gr i (m-1) r s (by lia)).1
  .rw [show i=m-1 by lia];exact w.rf _
theorem Gd.turn{p:Array Nat}{c:Nat}(h:Sg p m n)(hm:m<=n)(g:Gd f (gA p) m c):Dw f (gA (kas_rev p (m-(c+1)) m)) m:=by
 have hz:m<=p.size:=by rw [h.sz];exact hm
 have hle:=g.le;intro i j O9 hj;rw [j4 hz,j4 hz]
 by_cases hi:m-(c+1)<=i
 .rw [if_pos ⟨by lia,hj⟩,if_pos ⟨hi,by lia⟩];obtain ⟨a,b,d⟩:=g.gr (m-(c+1)+m-1-j) (m-(c+1)+m-1-i) (by lia) (by lia) (by lia);exact ⟨b,.inr d⟩
 .rw [if_neg (show ¬ (m-(c+1)<=i/\i<m) from fun q=>hi q.1)]
  by_cases xI:m-(c+1)<=j
  .rw [if_pos ⟨xI,hj⟩];exact w.lx (g.st i _ (by lia) (by lia) (by lia))
  .rw [if_neg (fun q=>xI q.1)];exact g.dn i j O9 hj (by lia)
omit w in
theorem Gd.flat{q:Nat->Nat}(g:Gd f q m 0):Dw f q m:=fun i j O9 hj=>g.dn i j O9 hj (by lia)
theorem uU:∀ (fu:Nat) (p:Array Nat) (m c:Nat),Sg p m n->Gd f (gA p) m c->m+fu=n->M4 f n (fun r=>m<=r.2.1/\r.2.1<=n/\Sg r.1 r.2.1 n/\Gd f (gA r.1) r.2.1 r.2.2) (kas_desc fu p m c)
 | 0,p,m,c,h,g,hm=>⟨A8 _,(by lia:m<=n),h,g⟩
 | fu+1,p,m,c,h,g,hm=>by
  have hle:=g.le;refine ⟨h.lt (by lia) (by lia),h.lt (by lia) (by lia),?_⟩;have hmm:gA p m=m:=h.id_ m (A8 _) (by lia);cases hc:f (gA p m) (gA p (m-1)) with
  | true=>
   show M4 f n _ (if true=true then _ else _);rw [if_pos rfl];have less:∀ i,i<m->f (gA p m) (gA p i)=true:=fun i hi=>w.lt_le hc (g.last w hi)
   have next:∀ p':Array Nat,Sg p' m n->Dw f (gA p') m->(∀ i,i<m->∃ i',i'<m/\gA p' i=gA p i')->gA p' m=gA p m->M4 f n (fun r=>m<=r.2.1/\r.2.1<=n/\Sg r.1 r.2.1 n/\Gd f (gA r.1) r.2.1 r.2.2) (kas_desc fu p' (m+1) 0):=fun p' h' d' iS xK=>by
    have less':∀ i,i<m->f (gA p' m) (gA p' i)=true:=fun i hi=>by
     obtain ⟨i',q1,q2⟩:=iS i hi;rw [q2,xK];exact less i' q1
    refine (uU fu p' (m+1) 0 (h'.succ (by lia)) ⟨by lia,fun i j O9 hj hi=>?_,fun i j q1 q2 q3=>by lia,fun i j q1 q2 q3=>?_⟩ (by lia)).mono fun a ⟨a1,a2⟩=>⟨by lia,a2⟩
    .rcases U6 j m with r | r
     .exact d' i j O9 r
     .rw [show j=m by lia];exact w.lx (less' i (by lia))
    .rw [show j=m by lia];exact less' i (by lia)
   by_cases hq:c > 0
   .rw [if_pos hq];have hz:m<=p.size:=by rw [h.sz];lia
    refine next _ (h.rev (by lia)) (g.turn w h (by lia)) (fun i hi=>?_) ?_
    .rw [j4 hz]
     split
     .exact ⟨_,by lia,rfl⟩
     .exact ⟨i,hi,rfl⟩
    .rw [j4 hz,if_neg (by lia)]
   .rw [if_neg hq];obtain rfl:c=0:=by lia
    exact next p h g.flat (fun i hi=>⟨i,hi,rfl⟩) rfl
  | false=>
   show M4 f n _ (if false=true then _ else _);rw [if_neg (by simp)];refine ⟨h.lt (by lia) (by lia),h.lt (by lia) (by lia),?_⟩;show M4 f n _ (if f (gA p (m-1)) (gA p m)=true then _ else _);cases hd:f (gA p (m-1)) (gA p m) with
   | true=>rw [if_pos rfl];exact ⟨A8 _,(by lia:m<=n),h,g⟩
   | false=>
    rw [if_neg (by simp)];refine (uU fu p (m+1) (c+1) (h.succ (by lia)) ⟨by lia,fun i j O9 hj hi=>?_,fun i j q1 q2 q3=>?_,fun i j q1 q2 q3=>?_⟩ (by lia)).mono fun a ⟨a1,a2⟩=>⟨by lia,a2⟩
    .rcases U6 j m with r | r
     .exact g.dn i j O9 r (by lia)
     .rw [show j=m by lia];exact w.lx (w.le_lt hd (g.st i (m-1) (by lia) (by lia) (by lia)))
    .rcases U6 j m with r | r
     .exact g.gr i j (by lia) q2 r
     .rw [show j=m by lia];have hi:i<m:=by lia
      refine ⟨?_,?_,?_⟩
      .have e1:=g.last w hi;exact w.tr _ _ _ hd e1
      .rcases U6 i (m-1) with s | s
       .exact w.tr _ _ _ (g.gr i (m-1) (by lia) s (by lia)).2.1 hc
       .rw [show i=m-1 by lia];exact hc
      .rw [hmm];exact h.lo i hi
    .rcases U6 j m with r | r
     .exact g.st i j (by lia) (by lia) r
     .rw [show j=m by lia];exact w.le_lt hd (g.st i (m-1) (by lia) (by lia) (by lia))
theorem ake{p:Array Nat}(h:Sg p m n)(d:Dw f (gA p) m)(h1:1<=m)(hm:m<=n):M4 f n (fun r=>1<=r.1/\r.1<=n/\Sg r.2 r.1 n/\Up f (gA r.2) r.1) (kas_tail3 m n p):=by
 have hz:m<=p.size:=by rw [h.sz];exact hm
 refine M4.bind ((uT w (n-m) m (h.rev (i:=0) hm) (fun i j O9 hj=>?_) h1 (by lia)).mono fun a ⟨a1,a2,a3,a4,_⟩=>⟨by lia,a2,a3,a4⟩);rw [j4 hz,j4 hz,if_pos ⟨by lia,by lia⟩,if_pos ⟨by lia,by lia⟩];exact d _ _ (by lia) (by lia)
theorem akf{p:Array Nat}(h:Sg p m n)(d:Dw f (gA p) m)(hl:∀ i,i<m->f (gA p m) (gA p i)=true)(hm:m<n):M4 f n (fun r=>1<=r.1/\r.1<=n/\Sg r.2 r.1 n/\Up f (gA r.2) r.1) (kas_descPart m n p):=by
 refine M4.bind ((uU w (n-(m+1)) p (m+1) 0 (h.succ hm) ⟨by lia,fun i j O9 hj hi=>?_,fun i j q1 q2 q3=>by lia,fun i j q1 q2 q3=>?_⟩ (by lia)).mono fun r ⟨a1,a2,a3,a4⟩=>?_)
 .rcases U6 j m with r | r
  .exact d i j O9 r
  .rw [show j=m by lia];exact w.lx (hl i (by lia))
 .rw [show j=m by lia];exact hl i (by lia)
 .by_cases hq:r.2.2 > 0
  .rw [if_pos hq];exact ake w (a3.rev a2) (a4.turn w a3 a2) (by lia) a2
  .rw [if_neg hq];have e:r.2.2=0:=by lia
   rw [e] at a4;exact ake w a3 a4.flat (by lia) a2
theorem alS(h1:1<=n){p:Array Nat}(h:Sg p 1 n):M4 f n (fun r=>1<=r.1/\r.1<=n/\Sg r.2 r.1 n/\Up f (gA r.2) r.1) (kas_count n p):=by
 refine M4.bind ((uT w (n-1) 1 h (fun i j O9 hj=>by lia) (A8 _) (by lia)).mono fun m ⟨a1,a2,a3,a4,a5⟩=>?_)
 by_cases e:(m==n)=true
 .rw [if_pos e];exact ⟨a1,a2,a3,a4⟩
 .rw [if_neg e];have C4:m<n:=by
   have:m≠n:=fun q=>e (by rw [q];exact beq_self_eq_true _)
   lia
  have hz:m<=p.size:=by rw [a3.sz];exact a2
  by_cases e2:m > 1
  .rw [if_pos e2];refine ⟨a3.lt a2 (by lia),a3.lt a2 (by lia),?_⟩;show M4 f n _ (if f (gA p 0) (gA p (m-1))=true then _ else _);cases hc:f (gA p 0) (gA p (m-1)) with
   | true=>rw [if_pos rfl];exact ⟨a1,a2,a3,a4⟩
   | false=>
    rw [if_neg (by simp)];refine akf w (a3.rev a2) (fun i j O9 hj=>?_) (fun i hi=>?_) C4
    .rw [j4 hz,j4 hz,if_pos ⟨by lia,by lia⟩,if_pos ⟨by lia,by lia⟩];exact a4 _ _ (by lia) (by lia)
    .rw [j4 hz,j4 hz,if_neg (by lia),if_pos ⟨by lia,by lia⟩];refine w.lt_le (a5 C4) ?_
     rcases Nat.eq_zero_or_pos (0+m-1-i) with r | r
     .rw [r];exact hc
     .exact w.tr _ _ _ hc (a4 0 _ r (by lia)).1
  .rw [if_neg e2];have e3:m=1:=by lia
   subst e3;exact akf w a3 (fun i j O9 hj=>by lia) (fun i hi=>by rw [show i=1-1 by lia];exact a5 C4) C4
theorem uV{p:Array Nat}(h:Sg p k n)(u:Up f (gA p) k)(hk:k<n):∀ (fu l r:Nat),l<=r->r<=k->r-l<=fu->(∀ i,i<l->f (gA p k) (gA p i)=false)->(∀ i,r<=i->i<k->f (gA p k) (gA p i)=true)->
  M4 f n (fun l'=>l'<=k/\(∀ i,i<l'->f (gA p k) (gA p i)=false)/\∀ i,l'<=i->i<k->f (gA p k) (gA p i)=true) (kas_place p k fu l r)
 | 0,l,r,h1,h2,h3,ha,hb=>⟨by lia,ha,fun i q1 q2=>hb i (by lia) q2⟩
 | fu+1,l,r,h1,h2,h3,ha,hb=>by
  unfold kas_place
  by_cases hl:l≥r
  .rw [if_pos hl];exact ⟨by lia,ha,fun i q1 q2=>hb i (by lia) q2⟩
  .rw [if_neg hl];refine ⟨h.lt (by lia) hk,h.lt (by lia) (by lia),?_⟩;show M4 f n _ (if f (gA p k) (gA p ((l+r) / 2))=true then _ else _);cases hc:f (gA p k) (gA p ((l+r) / 2)) with
   | true=>
    rw [if_pos rfl];refine uV h u hk fu l _ (by lia) (by lia) (by lia) ha fun i q1 q2=>?_
    rcases U6 ((l+r) / 2) i with s | s
    .exact w.lt_le hc (u _ i s q2).1
    .rw [show i=(l+r) / 2 by lia];exact hc
   | false=>
    rw [if_neg (by simp)];refine uV h u hk fu _ r (by lia) h2 (by lia) (fun i q1=>?_) hb
    rcases U6 i ((l+r) / 2) with s | s
    .exact w.tr _ _ _ (u i _ s (by lia)).1 hc
    .rw [show i=(l+r) / 2 by lia];exact hc
theorem amy:∀ (fu:Nat) (p:Array Nat) (k:Nat),Sg p k n->Up f (gA p) k->k+fu=n->M4 f n (fun p'=>Sg p' n n/\Up f (gA p') n) (kas_bin fu p k)
 | 0,p,k,h,u,hk=>by
  obtain rfl:k=n:=by lia
  exact ⟨h,u⟩
 | fu+1,p,k,h,u,hk=>by
  refine M4.bind ((uV w h u (by lia) k 0 k (by lia) (A8 _) (by lia) (fun i q=>by lia) (fun i q1 q2=>by lia)).mono fun l ⟨b1,b2,b3⟩=>?_);have hz:k<p.size:=by rw [h.sz];lia
  have hkk:gA p k=k:=h.id_ k (A8 _) (by lia);refine amy fu _ (k+1) ⟨by rw [bubble_size,h.sz],?_,fun i hi=>?_,fun i q1 q2=>?_⟩ (fun i j O9 hj=>?_) (by lia)
  .exact (Array.perm_iff_toList_perm.mp (bubble_perm p k (k-l))).trans h.pm
  .rw [pK hz b1]
   by_cases q:i=l
   .rw [if_pos q,hkk];lia
   .rw [if_neg q]
    by_cases q2:l<i/\i<=k
    .rw [if_pos q2];exact Nat.lt_succ_of_lt (h.lo _ (by lia))
    .rw [if_neg q2];exact Nat.lt_succ_of_lt (h.lo _ (by lia))
  .rw [pK hz b1,if_neg (by lia),if_neg (by lia)];exact h.id_ i (by lia) q2
  .rw [pK hz b1,pK hz b1]
   rcases dP j l with r | r | r
   .rw [if_neg (by lia),if_neg (by lia),if_neg (by lia),if_neg (by lia)];exact u i j O9 (by lia)
   .rw [if_neg (show ¬ i=l by lia),if_neg (by lia),if_pos r];exact ⟨b2 i (by lia),.inr (by rw [hkk];exact h.lo i (by lia))⟩
   .rw [if_neg (show ¬ j=l by lia),if_pos (show l<j/\j<=k by lia)]
    rcases dP i l with s | s | s
    .rw [if_neg (by lia),if_neg (by lia)];exact u i (j-1) (by lia) (by lia)
    .rw [if_pos s];exact w.lx (b3 (j-1) (by lia) (by lia))
    .rw [if_neg (by lia),if_pos (show l<i/\i<=k by lia)];exact u (i-1) (j-1) (by lia) (by lia)
theorem an9(h1:1<=n):M4 f n (fun p=>p.size=n/\p.toList.Perm (P6 n)/\Up f (gA p) n) (kas_sort n):=by
 have h0:Sg (List.toArray (P6 n)) 1 n:=by
  have e:∀ i,i<n->gA (List.toArray (P6 n)) i=i:=fun i hi=>by
   rw [gA,dU];simp [hi]
  refine ⟨by simp,by simp,fun i hi=>?_,fun i _ hi=>e i hi⟩;rw [show i=0 by lia,e 0 (by lia)];exact Nat.zero_lt_one
 refine M4.bind ((alS w h1 h0).mono fun r ⟨a1,a2,a3,a4⟩=>?_)
 by_cases hq:r.1<n
 .rw [if_pos hq,show max r.1 1=r.1 by lia];exact (amy w (n-r.1) r.2 r.1 a3 a4 (by lia)).mono fun p ⟨b1,b2⟩=>⟨b1.sz,b1.pm,b2⟩
 .rw [if_neg hq];have e:r.1=n:=by lia
  rw [e] at a3 a4;exact ⟨a3.sz,a3.pm,a4⟩
end
end L2
set_option maxRecDepth 100000
namespace L2
open PySem PySem.Spec PyProof.Rows
open PySem.W (CodeHd tabObj envX kla_obj kla_fn)
section
variable {fs ex:List Addr} {Pr:Program} {w:World} {H:Hp} {h h':Heap} {P c:Addr} {ps more:Array Value} {φ:Heap->Prop}
theorem Un.tab(hP:H P=some (.tbl ps))(hl:P<h.objs.size)(hc:h.objs.size<=c)(hn:H c=none)(k:∀ b u,b≠P->h.get? b=some u->h'.get? b=some u)(hP':h'.get? P=some (tabObj (ps++more))) :
  Un fs ex H (A0 (A0 H P (.tbl (ps++more))) c (.ext φ)) h h':=by
 have nP:∀ b,H b=none->b≠P:=fun b n z=>by rw [z,hP] at n;cases n
 have oc:∀ b o,H b=some o->b≠c:=fun b o e z=>by rw [z,hn] at e;cases e
 have hcP:P≠c:=K3 (O2 hl hc);refine ⟨fun b o q n _ _=>k b o (nP b n) q,fun b o q n _ _=>⟨o.slots,k b o (nP b n) q⟩,fun b o q n _=>?_,fun b o q _=>?_,fun b xs q=>?_,fun b o u q=>?_,fun b qs q=>?_⟩
 .rw [A3 (K3 (O2 (Heap.lt_size q) hc)),A3 (nP b n)];exact n
 .by_cases e:b=P
  .rw [e];exact ⟨_,hP'⟩
  .exact ⟨o,k b o e q⟩
 .rw [A3 (oc b _ q),A3 (fun z=>by rw [z,hP] at q;cases q)];exact q
 .rw [A3 (oc b _ q),A3 (fun z=>by rw [z,hP] at q;cases q)];exact q
 .by_cases e:b=P
  .subst e;rw [hP] at q
   cases q
   exact ⟨more,by rw [A3 hcP,A2]⟩
  .exact ⟨#[],by rw [A3 (oc b _ q),A3 e,q];simp⟩
theorem L8.tab(ok:L8 Pr w H h)(hP:H P=some (.tbl ps))(hl:P<h.objs.size)(hc:h.objs.size<=c)(k:∀ b u,b≠P->h.get? b=some u->h'.get? b=some u)(hP':h'.get? P=some (tabObj (ps++more)))(new:ObjOk Pr w (A0 (A0 H P (.tbl (ps++more))) c (.ext φ)) h' c (.ext φ)) :
  L8 Pr w (A0 (A0 H P (.tbl (ps++more))) c (.ext φ)) h':=fun b u q=>by
 have hn:=ok.fresh hc;have oc:∀ b o,H b=some o->b≠c:=fun b o e z=>by rw [z,hn] at e;cases e
 by_cases hb:b=c
 .subst hb;rw [A2] at q;cases q;exact new
 .rw [A3 hb] at q
  by_cases hp:b=P
  .subst hp;rw [A2] at q;cases q;exact hP'
  .rw [A3 hp] at q;refine (ok b u q).stay (fun d v hd r=>k d v ?_ r) (fun d r=>?_) fun d xs r=>?_
   .rcases hd with rfl | hd
    .exact hp
    .intro z;rw [z,hP] at hd;cases hd
   .rw [A3 (oc d _ r),A3 (fun z=>by rw [z,hP] at r;cases r)];exact r
   .rw [A3 (oc d _ r),A3 (fun z=>by rw [z,hP] at r;cases r)];exact r
end
noncomputable def cdIs (c:Addr) (q:Str):Heap->Prop:=fun h=>h.CodeRec (.ref c) q
noncomputable def tabC (pos:Pos) (c:Addr):Array Value:=#[rawInt pos.line,rawInt pos.col,.ref c]
noncomputable def TabOk (H:Hp) (P:Addr) (pos:Pos) (q:Str):Prop:=H P=some (.tbl #[])\/∃ c,H P=some (.tbl (tabC pos c))/\H c=some (.ext (cdIs c q))
noncomputable def TabIn (H:Hp) (P c:Addr) (pos:Pos) (q:Str):Prop:=H P=some (.tbl (tabC pos c))/\H c=some (.ext (cdIs c q))
theorem TabIn.ok{P c:Addr}{pos:Pos}(h:TabIn H P c pos q):TabOk H P pos q:=.inr ⟨c,h⟩
noncomputable def SameP (P:Addr) (H H':Hp):Prop:=∀ b o,b≠P->H b=some o->H' b=some o
theorem SameP.of{P:Addr}(h:Same H H'):SameP P H H':=fun b o _ e=>h b o e
theorem SameP.trans{P:Addr}(a:SameP P H H1)(b:SameP P H1 H2):SameP P H H2:=fun x o n e=>b x o n (a x o n e)
theorem TabOk.same{P:Addr}{pos:Pos}(h:TabOk H P pos q)(S:Same H H'):TabOk H' P pos q:=by
 rcases h with h | ⟨c,h1,h2⟩
 .exact .inl (S _ _ h)
 .exact .inr ⟨c,S _ _ h1,S _ _ h2⟩
structure LamB(X:Cx)(c P:Addr):Prop where
 code:X.env.code=.ref c
 hd:CodeHd X.base c P
 bi:X.base.BuiltinsAt X.mg P
 nb:X.base.get? P=none
noncomputable def lamQ (X:Cx):Str:=X.env.qual++"<lambda>"
noncomputable abbrev lamO (X:Cx) (args:Arguments) (body:Expr) (sc:Scope) (c:Addr) (ctv:Value):Obj:=kla_obj "<lambda>" (lamQ X) args body sc (cloOf X.env.cells sc.names []) ((X.mg "__name__").getD .none) c ctv
structure LamM(X:Cx)(pins:List (Addr×Obj))(Y:St)(P:Addr)(args:Arguments)(body:Expr)(sc:Scope)(pos:Pos)(H:Hp)(f c:Addr)(ctv:Value)(H':Hp)(s':Shared):Prop where
 inv:Inv X (pins++[(f,lamO X args body sc c ctv)]) Y H' s'
 kp:SameP P H H'
 tab:TabIn H' P c pos (lamQ X)
section
variable {X:Cx} {sc:Scope} {N':List Str} {k:Nat} {ixs:List Nat} {pins:List (Addr×Obj)} {Y:St} {H:Hp} {s:Shared} {c P:Addr} {args:Arguments} {body:Expr} {pos:Pos}
theorem alT(I:Inv X pins Y H s)(C:CompOk X.N X.env.scope.names sc N' k ixs)(B:LamB X c P)(T:TabOk H P pos (lamQ X))(p4:defaultsOf args X.env=([],[])){Q:Value->Shared->Prop}(h:∀ f c' ctv H' s',LamM X pins Y P args body sc pos H f c' ctv H' s'->Q (.ref f) s'):wpAny (model X.prog X.w) X.A (eval (.Lambda args body sc pos) X.env) Q E s:=by
 have bA:closureFor sc X.env=pure (cloOf X.env.cells sc.names []):=sR fun x hx hf=>I.ok.has x.1 (C.free x hx hf)
 have hg:s.heap.Ns mainGlobals X.mg:=I.ok.mod.glob.keeps I.bk;have hC:=B.hd.keeps I.bk;have hbi:=B.bi.keeps I.bk;have hHP:∃ ps,H P=some (.tbl ps):=by
  rcases T with T | ⟨c',T,_⟩
  .exact ⟨_,T⟩
  .exact ⟨_,T⟩
 have hgP:mainGlobals≠P:=fun q=>by
  obtain ⟨o,es,ep,e,hd,_⟩:=I.ok.mod.glob;rw [q,B.nb] at e;cases e
 have pinF:∀ {f c':Addr} {ctv:Value} {h':Heap} {tk:Nat} {H':Hp},Inv X pins Y H' { s with heap:=h',toks:=tk }->s.heap.objs.size<=f->H' f=none->h'.get? f=some (lamO X args body sc c' ctv)->Inv X (pins++[(f,lamO X args body sc c' ctv)]) Y H' { s with heap:=h',toks:=tk }:=fun {f c' ctv h' tk H'} J hf hn hg=>J.pins_of fun p hp=>by
  rcases D3.mp hp with hp | hp
  .exact J.pin p (M6 _ hp)
  .rw [D1.mp hp];exact ⟨hg,hn,i0 (O2 I.lt hf),I.nofs hf,fun v z=>by cases z⟩
 refine PySem.W.kla_eval p4 ?_
 rcases T with T | ⟨c',T,Tc⟩
 .have hP:s.heap.get? P=some (tabObj #[]):=I.hok P _ T;have hPl:=Heap.lt_size hP;refine PySem.W.kla_makeFunction (mg:=X.mg) bA I.ok.glob hg B.code hC hP trivial rfl hgP hbi fun c' ctv h' tk hx cW C4 bB htb=>?_
  have hcn:H c'=none:=I.hok.fresh cW;have kx:∀ b u,b≠P->s.heap.get? b=some u->(h'.push (lamO X args body sc c' ctv)).get? b=some u:=fun b u hb e=>Heap.get?_push_of_some _ (hx b u hb e)
  have mN:(h'.push (lamO X args body sc c' ctv)).get? P=some (tabObj (#[]++tabC pos c')):=Heap.get?_push_of_some _ htb;have hec:∃ o,(h'.push (lamO X args body sc c' ctv)).get? c'=some o:=by
   obtain ⟨c2,o,vs,t,e1,e2,_⟩:=bB;cases e1;exact ⟨o,Heap.get?_push_of_some _ e2⟩
  have J:Inv X pins Y (A0 (A0 H P (.tbl (#[]++tabC pos c'))) c' (.ext (cdIs c' (lamQ X)))) { s with heap:=h'.push (lamO X args body sc c' ctv),toks:=tk }:=by
   refine I.un (Un.tab T hPl cW hcn kx mN) (I.hok.tab T hPl cW kx mN ⟨bB.push _,hec,fun h1 h2 p1 kk=>?_⟩);obtain ⟨c2,o,vs,t,e1,e2,e3⟩:=p1;cases e1;exact ⟨_,o,vs,t,rfl,kk o e2,e3⟩
  have hcP:P≠c':=K3 (O2 hPl cW);have fM:s.heap.objs.size<=h'.objs.size:=L4 cW (dR C4);refine h h'.objs.size c' ctv _ _ ⟨pinF J fM ?_ (Heap.get?_push_size _ rfl),fun b o hb e=>?_,?_,?_⟩
  .rw [A3 (i0 C4),A3 (i0 (O2 hPl fM))];exact I.hok.fresh fM
  .rw [A3 (fun z=>by rw [z,hcn] at e;cases e),A3 hb];exact e
  .rw [A3 hcP,A2];simp
  .exact A2
 .have hP:s.heap.get? P=some (tabObj (tabC pos c')):=I.hok P _ T;refine PySem.W.kla_makeFunctionHit (mg:=X.mg) (cv:=.ref c') bA I.ok.glob hg B.code hC hP (by simp [TriplesOk,tabC,rawInt]) (by simp [codeAmong,tabC,rawInt]) hbi fun ctv h' tk hk hsz=>?_
  have kx:∀ b u,s.heap.get? b=some u->(h'.push (lamO X args body sc c' ctv)).get? b=some u:=fun b u e=>Heap.get?_push_of_some _ (hk b u e)
  exact h h'.objs.size c' ctv H _ ⟨pinF (I.kept kx) hsz (I.hok.fresh hsz) (Heap.get?_push_size _ rfl),fun b o _ e=>e,T,Tc⟩
end
noncomputable def pL (X:Cx) (sc:Scope) (L f c:Addr):Env:=envX (lamQ X) sc L f (.ref c) (cloOf X.env.cells sc.names [])
noncomputable def lamCx (X:Cx) (sc:Scope) (N':List Str) (f c:Addr) (A:Around) (s:Shared) (H:Hp):Cx:=
 {prog:=X.prog,w:=X.w,K:=X.K,mg:=X.mg,base:=X.base,A:=A.deeper (pL X sc s.heap.objs.size f c),N:=N',s₀:=s,H₀:=H,
  env:=pL X sc s.heap.objs.size f c,outer:=X.stack,stack:=pL X sc s.heap.objs.size f c::X.stack,ex:=[],fn:=fun _=>false,calm:=true,
  pn:=[],xe:=fun _ _=>False }
noncomputable def aJ (ixs:List Nat) (Y:St) (x:V):St:=some x::ixs.map fun i=>(Y[i]?).join
section
variable {X:Cx} {sc:Scope} {N':List Str} {ixs:List Nat} {pins:List (Addr×Obj)} {Y:St} {H:Hp} {s:Shared} {f c:Addr} {A:Around}
theorem aoa(C:CompOk X.N X.env.scope.names sc N' 1 ixs)(I:Inv X pins Y H s)(hA:A.frames=some X.stack)(hh:A.handled=none)(hy:N'[0]?=some y)(L3:sc.names.lookup y=some .local){x:V}(r:RelV x u)(hn:h'.Ns s.heap.objs.size fun z=>[(y,u)].reverse.lookup z)(hk:∀ b o,s.heap.get? b=some o->h'.get? b=some o):Inv (lamCx X sc N' f c A s H) [] (aJ ixs Y x) H { s with heap:=h',toks:=t' } where
 ok:={
  mod:=I.ok.mod
  kind:=C.kind
  glob:=rfl
  blt:=rfl
  above:=A8 _
  inj:=fun x y c e1 e2=>I.ok.inj x y c (v7 C I e1).1 (v7 C I e2).1
  has:=fun x hx=>by
   have hm:(x,NameKind.free)∈sc.names:=by
    have xJ:sc.names.lookup x=some .cell\/sc.names.lookup x=some .free:=hx
    rcases xJ with z | z
    .exact absurd rfl (C.cell _ (kE z))
    .exact kE z
   obtain ⟨c,h1,_⟩:=oH C I hm;exact ⟨c,h1⟩
  cab:=fun x c h _=>by cases h
  hd:=fun _=>hh
  frames:=Around.frames_deeper hA
  stk:=.inr ⟨rfl,rfl⟩
  exf:=fun b z=>absurd (show b∈([]:List Addr) from z) (by simp)
  bs:=I.bs
  bsz:=L4 I.ok.bsz I.sz
  noex:=fun b o e z=>absurd (show b∈([]:List Addr) from z) (by simp)
  exfs:=fun b z=>absurd (show b∈([]:List Addr) from z) (by simp)
  funs:=I.stack
  frf:=I.stkFree }
 os:=rfl
 bare:=I.bare
 base:=Un.kept hk
 loc:=by
  refine ⟨_,hn,fun i z v e1 e2 e3=>?_⟩;have e1:N'[i]?=some z:=e1;have e2:(aJ ixs Y x)[i]?=some (some v):=e2
  cases i with
  | zero=>
   rw [hy] at e1;cases e1;have e2:some (some x)=some (some v):=e2;cases e2;exact ⟨u,r,.inl ⟨L3,by simp⟩⟩
  | succ i=>
   have e2:(ixs.map fun i=>(Y[i]?).join)[i]?=some (some v):=e2;rw [L7] at e2;cases e4:ixs[i]? with
   | none=>rw [e4] at e2;cases e2
   | some j=>
    rw [e4] at e2;have e5:(Y[j]?).join=some v:=Option.some.inj e2;have e6:Y[j]?=some (some v):=by
     cases e7:Y[j]? with
     | none=>rw [e7] at e5;cases e5
     | some o=>rw [e7] at e5;exact congrArg some e5
    have ed:(N'.drop 1)[i]?=some z:=by rw [List.getElem?_drop,Nat.add_comm];exact e1
    have n3:(z,NameKind.free)∈sc.names:=C.fr z (M7 ed);have n2:X.N[j]?=some z:=by
     have q:=congrArg (fun l=>l[i]?) C.at_;simp only [L7,e4,ed,Option.map_some] at q;exact Option.some.inj q
    obtain ⟨m0,hn0,fB⟩:=I.loc;have o5:X.env.scope.names.lookup z=some .cell\/X.env.scope.names.lookup z=some .free:=C.free _ n3 rfl;obtain ⟨u',r',l⟩:=fB j z v n2 e6 (.inr o5);refine ⟨u',r',.inr ⟨.inr (C.clean _ n3 rfl),?_⟩⟩
    rcases l with ⟨l,_⟩ | ⟨_,c,hc,K5⟩
    .have l':X.env.scope.names.lookup z=some .local:=l
     rcases o5 with q | q
     .rw [l'] at q;cases q
     .rw [l'] at q;cases q
    .obtain ⟨c',h1,h2⟩:=oH C I n3;rw [hc] at h2;cases h2;exact ⟨c,h1,K5.keeps hk⟩
 cell:=fun x c e=>by
  obtain ⟨v,z⟩:=I.cell x c (v7 C I e).1;exact ⟨v,z.keeps hk⟩
 free:=I.hok.fresh (A8 _)
 freeC:=fun x c e=>I.freeC x c (v7 C I e).1
 pin:=fun p hp=>absurd (show p∈([]:List (Addr×Obj)) from hp) (by simp)
 hok:=I.hok.kept hk
 len:=by
  show (aJ ixs Y x).length=N'.length;rw [C.len];simp [aJ,Nat.add_comm]
theorem alU{args:Arguments}{x:V}(C:CompOk X.N X.env.scope.names sc N' 1 ixs)(I:Inv X pins Y H s)(hA:A.frames=some X.stack)(hh:A.handled=none)(mO:A.depth<recursionLimit)(hf:(f,lamO X args body sc c ctv)∈X.pn++pins)(hc:H c=some (.ext (cdIs c (lamQ X))))(hy:N'[0]?=some y)(L3:sc.names.lookup y=some .local)(xL:sc.isCoroutine=false)(fN:sc.isGenerator=false)(V5:∀ (q:Str) (cl:List (Str×Addr)) (pm cd ct u:Value),bindArgs (kla_fn "<lambda>" q args body sc cl pm cd ct) ⟨[u],[]⟩=pure [(y,u)])(xM:PE (lamCx X sc N' f c A s H) body te)(r:RelV x u)(h:te (aJ ixs Y x) H Q) :
  wpAny (model X.prog X.w) A (call (.ref f) [u]) (EP X pins Y Q) E s:=by
 have hfo:=(I.pin _ hf).1;have bB:s.heap.CodeRec (.ref c) (lamQ X):=(I.hok c _ hc).1;refine wpAny_call (codeAny_mono (R:=fun r s'=>match r with | .ok (.ret v)=>CE X.stack X.prog X.w H s Q v s' | _=>False) ?_ fun r s' hq=>?_)
 .refine PySem.W.kla_callFunE mO hfo rfl xL fN rfl bB ?_;rw [V5];refine wpAny_pure (wpAny_newFunctionEnv C.cell (fun z hz=>by rw [D1.mp hz];exact L3) (fun zr o6 iR=>⟨(I.nolimit).fresh _ iR,?_⟩) C.kind);have zh:∀ b o,s.heap.get? b=some o->zr.get? b=some o:=fun b o e=>iR.extBut b o (K3 (Heap.lt_size e)) (Heap.get?_push_of_some _ e)
  have J:=aoa (f:=f) (c:=c) C I hA hh hy L3 (t':=s.toks+1) r o6 zh;show codeAny _ _ (.expr body (pL X sc s.heap.objs.size f c)) _ _;refine PySem.W.kla_codeExpr (wpAny_mono (xM [] _ _ H Q J h) (fun v s' hv=>?_) fun _ _ z=>z.elim);obtain ⟨v',H',J',rv,q⟩:=hv;exact ⟨v',H',J'.os,J'.bare,J'.base,J'.hok,rv,q⟩
 .cases r with
  | error e=>exact hq.elim
  | ok fl=>
   cases fl with
   | ret u=>exact I.after hq
   | next=>exact hq.elim
   | brk=>exact hq.elim
   | cont=>exact hq.elim
end
end L2
set_option maxRecDepth 100000
namespace L2
open PySem PySem.Spec PyProof.Rows
open PySem.W (CodeHd tabObj envX kla_obj kla_fn)
theorem uW:∀ xs ys:List Int,xs=ys\/xs<ys\/ys<xs
 | [],[]=>.inl rfl
 | [],_::_=>.inr (.inl (List.nil_lt_cons _ _))
 | _::_,[]=>.inr (.inr (List.nil_lt_cons _ _))
 | x::xs,y::ys=>by
  rcases Int.lt_trichotomy x y with h | h | h
  .exact .inr (.inl (Y3.mpr (.inl h)))
  .subst h
   rcases uW xs ys with h | h | h
   .exact .inl (by rw [h])
   .exact .inr (.inl (Y3.mpr (.inr ⟨rfl,h⟩)))
   .exact .inr (.inr (Y3.mpr (.inr ⟨rfl,h⟩)))
  .exact .inr (.inr (Y3.mpr (.inl h)))
theorem amz{xs ys zs:List Int}(h1:xs<ys)(h2:ys<zs):xs<zs:=List.lt_trans h1 h2
noncomputable def keyB (kz:List (List Int)) (i j:Nat):Bool:=decide (kz.getD i []<kz.getD j [])
theorem aob(kz:List (List Int)):Wk (keyB kz) where
 tr:=fun i j k h1 h2=>by
  unfold keyB at *;rw [decide_eq_false_iff_not] at *;intro h
  rcases uW (kz.getD j []) (kz.getD i []) with e | e | e
  .exact h2 (by rw [e];exact h)
  .exact h1 e
  .exact h2 (amz h e)
 as_:=fun i j h=>by
  unfold keyB at *;rw [decide_eq_true_iff] at h;rw [decide_eq_false_iff_not];intro h2;exact List.lt_irrefl _ (amz h h2)
structure Srt(kz:List (List Int))(p:List Nat):Prop where
 pm:p.Perm (P6 kz.length)
 up:∀ i j a b:Nat,i<j->p[i]?=some a->p[j]?=some b->Lx (keyB kz) a b
section
variable {prog:Program} {w:World} {A:Around} {E:Value->Shared->Prop} {s:Shared}
theorem aoc{x y:Addr}{xs ys:List Int}{Q:Bool->Shared->Prop}(hu:A.units<cLine)(hx:s.heap.IsList x its.toArray)(hy:s.heap.IsList y its2.toArray)(r1:Vals (xs.map V.int) its)(r2:Vals (ys.map V.int) its2)(h:Q (decide (xs<ys)) s) :
  wpAny (model prog w) A (keyLt' oneType' (.ref x) (.ref y)) Q E s:=by
 rw [keyLt'_oneType,oneLt'_eq];simp only [if_true];refine wpAny_bind (wpAny_cRoomFor hu ?_);obtain ⟨⟨cls,dd,data,sl⟩,ho,hc,n,hd⟩:=id hx;obtain ⟨⟨cls2,X7,data2,W2⟩,j9,Q0,n2,Q4⟩:=id hy;simp only at hc hd Q0 Q4;subst hc hd Q0 Q4;have l1:its.toArray.size=xs.length:=by rw [F6,<- r1.length,A4]
 have l2:its2.toArray.size=ys.length:=by rw [F6,<- r2.length,A4]
 refine wpAny_bind (wpAny_callSpecialIfBound?_slot ⟨_,ho,rfl⟩ F.slot_list_lt (call_meets F.slot_list_lt ⟨_,ho,rfl⟩ F.entry_list_lt (F.args_list_lt_2 _ _) (SeqAt.list_ltAt (fun a=>z9 a) x y its.toArray its2.toArray n n2 dd X7 sl W2 xs ys l1 l2) ⟨ho,j9,pJ r1 r2,?_⟩));exact wpAny_truthy_bool h
theorem ag4{T:String}{d:Addr}{P:Nat->Value->Prop}{OK:Heap->Prop}{Q:List Value->Shared->Prop}(Ks:PySem.W.KdlSrc prog w T r d n P OK)(hh:A.handled=none)(hok:OK s.heap)(hn:n<=sizeLine)(hQ:∀ h' tk (vs:List Value),(∀ b o,s.heap.get? b=some o->h'.get? b=some o)->s.heap.objs.size<=h'.objs.size->vs.length=n->(∀ j v,vs[j]?=some v->P j v)->Q vs { s with heap:=h',toks:=tk }) :
  wpAny (model prog w) A (collect (.ref r)) Q E s:=by
 unfold collect;refine wpAny_bind (wpAny_runValue (codeAny_builtin entry_proto_collect' ?_));show wpAny _ _ (do again (.builtin "list.__iadd__" ⟨[<- newList [],.ref r],[]⟩)) _ _ s;have C4:=Ks.there _ hok;have hS:(s.heap.push (seqObj "list" #[] 0)).get? s.heap.objs.size=some { cls:=.type "list",data:=.seq #[] 0 }:=Heap.get?_push_size _ rfl;refine wpAny_bind (wpAny_newList (wpAny_pure ⟨Code.quiet_builtin _ (by decide +kernel),codeAny_builtin entry_list_iadd' ?_⟩));rw [Around.under_plainId (show plainId "list.__iadd__"=true by decide +kernel) _];show wpAny _ _ (Builtin.List.listExtendWith (.ref s.heap.objs.size) (.ref r) (.ref s.heap.objs.size)) _ _ { s with heap:=s.heap.push (seqObj "list" #[] 0) };refine PySem.W.kdl_extend (R:=fun r s'=>match r with | .ok (.ret v)=>wpAny (model prog w) A (match v with | .ref a=>(do let o <- load a;match o.data with | .seq xs _=>pure xs.toList | _=>unsupported "internal:collect") | _=>unsupported "internal:collect") Q E s' | .ok _=>False | .error e=>E e s') (s:={ s with heap:=s.heap.push (seqObj "list" #[] 0) }) (A:=A) Ks hh (Ks.keep _ _ hok fun b _ o e=>Heap.get?_push_of_some _ e) _ (i0 C4.1) (i0 C4.2) _ 0 hS (fun h' tk acc' c' hk hS' T0=>?_) hn;show wpAny (model prog w) A (do
   let o <- load s.heap.objs.size
   match o.data with
   | .seq xs _=>pure xs.toList
   | _=>unsupported "internal:collect") Q E { s with heap:=h',toks:=tk }
 refine wpAny_bind (wpAny_load hS' ?_);exact wpAny_pure (hQ h' tk acc'.toList (fun b o e=>hk b o (K3 (Heap.lt_size e)) (Heap.get?_push_of_some _ e)) (dR (Heap.lt_size hS')) (by rw [u9];exact T0.1) fun j v e=>T0.2 j v (by rw [<- jV];exact e))
end
section
variable {X:Cx} {pins:List (Addr×Obj)} {Y:St} {H:Hp} {s:Shared}
theorem Inv.track{o:HO}(I:Inv X pins Y H s)(ha:X.s₀.heap.objs.size<=a)(hn:H a=none)(hL:a≠X.env.locals)(hc:∀ x c,X.env.cells.lookup x=some c->c≠a)(hp:∀ p∈X.pn++pins,p.1≠a)(new:ObjOk X.prog X.w (A0 H a o) s.heap a o):Inv X pins Y (A0 H a o) s:=by
 have ne:∀ b u,H b=some u->b≠a:=fun b u e z=>by rw [z,hn] at e;cases e
 refine ⟨I.ok,I.os,I.bare,⟨I.base.keep,I.base.slot,fun b u e n hx=>?_,I.base.there,fun b xs e=>?_,fun b u v e=>?_,fun b ps e=>?_⟩,I.loc,I.cell,by rw [A3 (Ne.symm hL)];exact I.free,fun x c e=>by rw [A3 (hc x c e)];exact I.freeC x c e,fun p mP=>?_,fun b u e=>?_,I.len⟩
 .rw [A3 (K3 (O2 (Heap.lt_size e) ha))];exact I.base.free b u e n hx
 .have:=I.base.tups b xs e
  rw [A3 (ne b _ this)];exact this
 .have:=I.base.frzs b u v e
  rw [A3 (ne b _ this)];exact this
 .obtain ⟨m,q⟩:=I.base.tbls b ps e;exact ⟨m,by rw [A3 (ne b _ q)];exact q⟩
 .obtain ⟨q1,q2,q3⟩:=I.pin p mP;exact ⟨q1,by rw [A3 (hp p mP)];exact q2,q3⟩
 .by_cases z:b=a
  .subst z;rw [A2] at e;cases e;exact new
  .rw [A3 z] at e;exact (I.hok b u e).stay (fun _ _ _ q=>q) (fun c q=>by rw [A3 (ne c _ q)];exact q) fun c xs q=>by rw [A3 (ne c _ q)];exact q
theorem Inv.pinNew(I:Inv X pins Y H s)(ha:s.heap.get? a=some ob)(hn:H a=none)(hL:a≠X.env.locals)(hf:a∉X.fs)(hd:∀ v,ob.data≠.cell v):Inv X (pins++[(a,ob)]) Y H s:=I.pins_of fun p hp=>by
 rcases D3.mp hp with hp | hp
 .exact I.pin p (M6 _ hp)
 .rw [D1.mp hp];exact ⟨ha,hn,hL,hf,hd⟩
end
noncomputable def Items (K:PySem.W.Frag) (calm:Bool) (H:Hp) (v:V) (xs:List V):Prop:=∃ a,v=.ref a/\(C7 K H a xs\/(calm=true/\∃ kvs,Rd H a (.dK kvs)/\xs=kvs.map fun kv=>kV kv.1))
noncomputable def uX (K:PySem.W.Frag) (calm:Bool) (P:Addr) (pos:Pos) (q:Str) (ta:TA) (ixs:List Nat) (te:TE):TE:=fun Y H Q=>ta Y H fun vs H1=>∃ v xs,vs=[v]/\Items K calm H1 v xs/\xs.length<64/\TabOk H1 P pos q/\
 ∀ c H2,SameP P H1 H2->TabIn H2 P c pos q->∃ W:Nat->List V->Hp->Prop,W 0 [] H2/\
  (∀ i ks H3 x,xs[i]?=some x->W i ks H3->H3 c=some (.ext (cdIs c q))/\te (aJ ixs Y x) H3 fun y H4=>W (i+1) (ks++[y]) H4)/\
  ∀ ks H3,W xs.length ks H3->∃ kz:List (List Int),Paired (fun y z=>∃ b,y=V.ref b/\C7 K H3 b (z.map V.int)) ks kz/\kz.length=xs.length/\∀ (D:Addr) (p:List Nat),H3 D=none->Srt kz p->Q (.ref D) (A0 H3 D (.lst (p.map fun i=>xs.getD i .non)))
section
variable {X:Cx} {sc:Scope} {N':List Str} {ixs:List Nat} {pins:List (Addr×Obj)} {Y:St}
theorem alV(r:Vals xs us)(h:us[i]?=some u):∃ x,xs[i]?=some x/\RelV x u:=by
 have hi:=(E9.mp h).1;have hx:xs[i]?=some (xs[i]'(by rw [r.length];exact hi)):=F8 _;obtain ⟨u',e,q⟩:=r.get hx;rw [h] at e;cases e;exact ⟨_,hx,q⟩
theorem C7.sameP{P:Addr}{ps:Array Value}(S:SameP P H H')(hP:H P=some (.tbl ps))(h:C7 K H a xs):C7 K H' a xs:=by
 rcases h with h | h
 .rcases h with h | ⟨o,h⟩
  .exact .inl (.inl (S _ _ (fun z=>by rw [z,hP] at h;cases h) h))
  .exact .inl (.inr ⟨o,S _ _ (fun z=>by rw [z,hP] at h;cases h) h⟩)
 .exact .inr h
theorem Rd.sameP{P:Addr}{ps:Array Value}(S:SameP P H H')(hP:H P=some (.tbl ps))(h:Rd H a (.dK kvs)):Rd H' a (.dK kvs):=by
 rcases h with h | ⟨o,h⟩
 .exact .inl (S _ _ (fun z=>by rw [z,hP] at h;cases h) h)
 .exact .inr ⟨o,S _ _ (fun z=>by rw [z,hP] at h;cases h) h⟩
theorem ag5:bootBuiltins "sorted"=some (.builtin "sorted"):=by decide +kernel
theorem akh(I:Inv X pins Y H s)(hA:X.calm=true->A.handled=none)(h:C7 X.K H a xs\/(X.calm=true/\∃ kvs,Rd H a (.dK kvs)/\xs=kvs.map fun kv=>kV kv.1)){Q:List Value->Shared->Prop}(hQ:∀ h' tk its,(∀ b o,s.heap.get? b=some o->h'.get? b=some o)->s.heap.objs.size<=h'.objs.size->Vals xs its->xs.length<=sizeLine->Q its { s with heap:=h',toks:=tk }):wpAny (model X.prog X.w) A (collect (.ref a)) Q E s:=by
 rcases h with h | ⟨hc,kvs,h,rfl⟩
 .obtain ⟨its,r,pl,hz⟩:=I.list h;refine collect_list pl.isList ?_ (by rw [<- r.length];exact hz);refine hQ _ s.toks its (fun b o e=>?_) (by rw [Heap.size_update,size_push'];exact Nat.le_succ _) r hz;have C4:b<s.heap.objs.size:=Heap.lt_size e;rw [Heap.get?_update_ne _ _ _ _ (K3 C4),Heap.get?_push_ne _ _ _ (K3 C4)];exact e
 .obtain ⟨z,hd,vs,rel,dd⟩:=dk_rd I.hok h;obtain ⟨ep,Q1⟩:=dd.dictAt;have hl:=rel.length;refine ag4 (PySem.W.kdl_dict (knd:=N9 X.prog X.w) (kvs:=vs) (ep:=ep) hd) (hA hc) Q1 (by lia) fun h' tk its kp hsz A7 T0=>hQ h' tk its kp hsz ?_ (by rw [A4];exact z)
  have hk:=rel.keys;have key:∀ (ks:List C1) (us:List Value),us.length=ks.length->(∀ (j:Nat) (v:Value),us[j]?=some v->∃ k,ks[j]?=some k/\keyIs k v=true)->Vals (ks.map kV) us:=by
   intro ks
   induction ks with
   | nil=>intro us h1 _;cases us with
    | nil=>exact .nil
    | cons _ _=>simp at h1
   | cons k ks ih=>
    intro us h1 h2
    cases us with
    | nil=>simp at h1
    | cons u us=>
     obtain ⟨k',e1,e2⟩:=h2 0 u rfl;simp at e1;subst e1;refine .cons ?_ (ih us (by simpa using h1) fun j v hj=>by simpa using h2 (j+1) v (by simpa using hj))
     rcases i3 e2 with ⟨i,t,rfl,rfl⟩ | ⟨x,t,rfl,rfl⟩
     .exact ⟨t,rfl⟩
     .exact ⟨t,rfl⟩
  rw [show (kvs.map fun kv=>kV kv.1)=(kvs.map (·.1)).map kV by rw [V8];rfl];refine key _ _ (by rw [A7,A4];lia) fun j v hj=>?_
  obtain ⟨k,x,hx,fE⟩:=T0 j v hj;refine ⟨k,?_,fE⟩;rw [hk,L7,hx];rfl
theorem Inv.repin{ob':Obj}(I:Inv X (pins++[(a,ob)]) Y H s)(y0:X.s₀.heap.objs.size<=a)(bA:∀ x c,X.env.cells.lookup x=some c->c≠a)(hnp:∀ p∈X.pn++pins,p.1≠a)(k:∀ b o,b≠a->s.heap.get? b=some o->h'.get? b=some o)(hd:∀ v,ob'.data≠.cell v)(hg:h'.get? a=some ob'):Inv X (pins++[(a,ob')]) Y H { s with heap:=h',toks:=t' }:=by
 obtain ⟨q1,q2,q3,q4,q5⟩:=I.pin (a,ob) (by simp);have J:=(I.unpinned).turned (t':=t') k q2 q3 (.inr y0) bA hnp;exact J.pinNew hg q2 q3 q4 hd
end
section
variable {X:Cx} {sc:Scope} {N':List Str} {ixs:List Nat} {pins:List (Addr×Obj)} {Y:St} {A:Around} {E:Value->Shared->Prop}
structure Ours(X:Cx)(pins:List (Addr×Obj))(a:Addr):Prop where
 ab:X.s₀.heap.objs.size<=a
 cl:∀ x c,X.env.cells.lookup x=some c->c≠a
 np:∀ p∈X.pn++pins,p.1≠a
theorem ags{D:Addr}{e:Nat}{kvs out:List Value}{st:SortSt}{P:PySem.Fin->Shared->Prop}(oD:Ours X pins D)(oK:Ours X pins kS)(hDK:D≠kS)(I:Inv X (pins++[(D,seqObj "list" #[] e1)]++[(kS,seqObj "list" kvs.toArray e)]) Y H s)(ho:(arrOf st).map (·.2)=out.toArray)(hz:out.length<=1000)(hkz:kvs.length<=1000)(hf:failedOf st=none)(rv:Vals ys out)(h:∀ h',Inv X pins Y (A0 H D (.lst ys)) { s with heap:=h' }->P (.done (.ret .none)) { s with heap:=h' }):wpAny (model X.prog X.w) A (ksk_tail D false e1 (.ref kS) st) P E s:=by
 obtain ⟨gK,_⟩:=I.pin (kS,seqObj "list" kvs.toArray e) (by simp);obtain ⟨gD,nD,lD,fD,_⟩:=I.pin (D,seqObj "list" #[] e1) (by simp);have gK:s.heap.get? kS=some (seqObj "list" kvs.toArray e):=gK;have gD:s.heap.get? D=some (seqObj "list" #[] e1):=gD;have s1:=Heap.SameBut.update s.heap kS (Obj.mapSeq fun _=>(#[]:Array Value));have gD1:(s.heap.update kS (Obj.mapSeq fun _=>(#[]:Array Value))).get? D=some (seqObj "list" #[] e1):=(s1.2 D hDK).trans gD;have s2:=Heap.SameBut.update (s.heap.update kS (Obj.mapSeq fun _=>(#[]:Array Value))) D (Obj.mapSeq fun _=>out.toArray);obtain ⟨c2,Q0⟩:∃ c2,((s.heap.update kS (Obj.mapSeq fun _=>(#[]:Array Value))).update D (Obj.mapSeq fun _=>out.toArray)).get? D=some (seqObj "list" out.toArray c2):=⟨_,get?_update_seq gD1 fun _=>out.toArray⟩
 have fM:(1000:Nat)<=sizeLine:=by decide
 unfold ksk_tail
 try dsimp only
 rw [ho];refine wpAny_bind (listUpdate_at gK rfl ?_ (by rw [F6];lia) (G3 _));refine wpAny_bind (wpAny_letGo ?_);refine wpAny_bind (seqEpoch_at gD1 rfl ?_);refine wpAny_bind (listUpdate_at gD1 rfl ?_ (G3 _) (by show (if false=true then _ else out.toArray).size<=_;rw [if_neg (by simp),F6];lia));rw [hf];simp only [bne_self_eq_false,jS,if_false];refine wpAny_pure (h _ ?_);have I1:=(I.unpinned).turned (t':=s.toks) (it:=kS) (h':=s.heap.update kS (Obj.mapSeq fun _=>(#[]:Array Value))) (fun b o hb q=>(s1.2 b hb).trans q) (I.pin (kS,seqObj "list" kvs.toArray e) (by simp)).2.1 (I.pin (kS,seqObj "list" kvs.toArray e) (by simp)).2.2.1 (.inr oK.ab) oK.cl (fun p hp=>by
  rcases D3.mp hp with q | q
  .exact oK.np p (N7 _ q)
  .rcases D3.mp q with q | q
   .exact oK.np p (M6 _ q)
   .rw [D1.mp q];exact hDK)
 have I2:=(I1.unpinned).turned (t':=s.toks) (it:=D) (h':=(s.heap.update kS (Obj.mapSeq fun _=>(#[]:Array Value))).update D (Obj.mapSeq fun _=>out.toArray)) (fun b o hb q=>(s2.2 b hb).trans q) nD lD (.inr oD.ab) oD.cl oD.np;exact I2.track oD.ab nD lD oD.cl oD.np ⟨by rw [rv.length];lia,out,c2,rv,Q0⟩
theorem alW{D:Addr}{e:Nat}{kvs:List Value}{ks:List V}{kz:List (List Int)}{P:PySem.Fin->Shared->Prop}(oD:Ours X pins D)(oK:Ours X pins kS)(hDK:D≠kS)(hu:A.units<cLine)(I:Inv X (pins++[(D,seqObj "list" #[] e1)]++[(kS,seqObj "list" kvs.toArray e)]) Y H s)(rx:Vals xs its)(rk:Vals ks kvs)(hl:ks.length=xs.length)(h64:xs.length<64)(hk:Paired (fun y z=>∃ b,y=V.ref b/\C7 X.K H b (z.map V.int)) ks kz)(h:∀ p h',Srt kz p->Inv X pins Y (A0 H D (.lst (p.map fun i=>xs.getD i .non))) { s with heap:=h' }->P (.done (.ret .none)) { s with heap:=h' }):wpAny (model X.prog X.w) A (ksk_end D false its.toArray e1 (.ref kS) kvs.toArray) P E s:=by
 have lx:=rx.length;have lk:=rk.length;have lz:ks.length=kz.length:=Paired.length hk;have outs:∀ (p:List Nat),p.Perm (P6 xs.length)->Vals (p.map fun i=>xs.getD i .non) (p.map fun i=>its.getD i Value.none):=fun p hp=>by
  have hm:∀ i∈p,i<xs.length:=fun i hi=>W9.mp (hp.mem_iff.mp hi)
  clear hp
  induction p with
  | nil=>exact .nil
  | cons i p ih=>
   refine .cons ?_ (ih fun j hj=>hm j (L6 _ hj));have hi:=hm i J9;have e1:xs[i]?=some xs[i]:=F8 hi;obtain ⟨u,hu,q⟩:=rx.get e1;show RelV (xs.getD i .non) (its.getD i Value.none);rw [show xs.getD i .non=xs[i] by rw [P0,e1];rfl,show its.getD i Value.none=u by rw [P0,hu];rfl];exact q
 have hn:∀ {P:Prop} (c:Bool),c=false->(¬ c=true):=fun c h z=>by rw [h] at z;cases z
 unfold ksk_end
 try dsimp only
 rw [if_neg (show ¬ (false=true) by simp)]
 by_cases h2:its.toArray.size<2
 .rw [if_pos h2,if_pos h2];rw [F6] at h2;refine wpAny_bind (wpAny_pure ?_);rw [StateT.run_pure];refine wpAny_bind (wpAny_pure ?_)
  try dsimp only
  have xN:((kvs.toArray.zip its.toArray).map (·.2))=its.toArray:=by
   have:kvs.length=its.length:=by lia
   apply Array.toList_inj.mp
   simp [List.map_snd_zip,this]
  refine ags (ys:=xs) (out:=its) oD oK hDK I xN (by lia) (by lia) rfl rx fun h' J=>?_
  have hr:(P6 xs.length).map (fun i=>xs.getD i .non)=xs:=by
   apply List.ext_getElem?
   intro j;rw [L7]
   by_cases hj:j<xs.length
   .rw [List.getElem?_range hj,F8 hj];simp [hj]
   .rw [List.getElem?_eq_none (by rw [bL];lia),List.getElem?_eq_none (by lia)];rfl
  refine h (P6 xs.length) h' ⟨by rw [<- lz,hl],fun i j a b O9 ha hb=>?_⟩ (by rw [hr];exact J)
  have:=(E9.mp hb).1
  rw [bL] at this;lia
 .rw [if_neg h2,if_neg h2];rw [F6] at h2;have Q6:∀ i,i<kz.length->∃ b its2,kvs.getD i Value.none=.ref b/\s.heap.IsList b (List.toArray its2)/\Vals ((kz.getD i []).map V.int) its2:=fun i hi=>by
   obtain ⟨y,hy⟩:∃ y,ks[i]?=some y:=⟨_,F8 (by lia)⟩
   obtain ⟨z,hz,b,rfl,hs⟩:=Paired.at hk hy;obtain ⟨u,hu,q⟩:=rk.get hy;obtain rfl:u=.ref b:=q;obtain ⟨its2,r2,pl,_⟩:=I.list hs;refine ⟨b,its2,by rw [P0,hu];rfl,pl.isList,?_⟩;rw [P0,hz];exact r2
  refine wpAny_bind (PySem.W.kas_kind (T:=.type "list") (by lia) (fun v hv=>?_) (by decide) (by decide) ?_)
  .obtain ⟨i,hi⟩:=List.mem_iff_getElem?.mp hv;obtain ⟨b,its2,e2,f7,_⟩:=Q6 i (by have:=(E9.mp hi).1;lia);rw [P0,hi] at e2;have e2:v=.ref b:=e2;obtain ⟨o,ho,hc,_⟩:=f7;rw [e2,<- hc];exact (PySem.W.Looks.ld ho).andThen .now
  have xO:(if (false:Bool)=true then (kvs.toArray.zip its.toArray).reverse else kvs.toArray.zip its.toArray)=kvs.toArray.zip its.toArray:=if_neg (by simp);rw [xO];refine wpAny_bind (wpAny_mono (PySem.W.kat_run (Q:=fun st' s'=>s'=s/\∃ p:Array Nat,p.size=kz.length/\p.toList.Perm (P6 kz.length)/\Up (keyB kz) (gA p) kz.length/\arrOf st'=p.map (PySem.W.kas_item (kvs.toArray.zip its.toArray))/\failedOf st'=none) (G:=fun p s'=>s'=s/\p.size=kz.length/\p.toList.Perm (P6 kz.length)/\Up (keyB kz) (gA p) kz.length) (κ:=oneType') (ks:=kvs) (vs:=its) (by lia) (by lia) (by lia) (fun p st' s' a1 a2 a3 a4=>⟨a4.1,p,a4.2.1,a4.2.2.1,a4.2.2.2,a2,a3⟩) ?_) ?_ fun _ _ z=>z)
  .have e3:its.length=kz.length:=by lia
   rw [e3];refine uaf (f:=keyB kz) (n:=kz.length) (I:=fun s'=>s'=s) (fun i j C s' hi hj hs hC=>?_) (fun a s' ha hs=>⟨hs,ha⟩) (an9 (aob kz) (by lia)) rfl;subst hs;obtain ⟨b1,t1,q1,q2,q3⟩:=Q6 i hi;obtain ⟨b2,t2,p1,p2,p3⟩:=Q6 j hj;show wpAny _ _ (keyLt' oneType' (kvs.getD i Value.none) (kvs.getD j Value.none)) _ _ _;rw [q1,p1];exact aoc hu q2 p2 q3 p3 (hC _ rfl)
  .rintro ⟨⟨⟩,st'⟩ s' ⟨rfl,p,f8,V3,p5,har,hf⟩
   try dsimp only
   have R4:p.toList.Perm (P6 xs.length):=by rw [show xs.length=kz.length by lia];exact V3
   refine ags (out:=p.toList.map fun i=>its.getD i Value.none) (ys:=p.toList.map fun i=>xs.getD i .non) oD oK hDK I (PySem.W.kat_snds (by lia) har) (by rw [A4,u9];lia) (by lia) hf (outs _ R4) fun h' J=>h p.toList h' ⟨V3,fun i j a b O9 ha hb=>?_⟩ J
   have hj:=(E9.mp hb).1;rw [u9] at hj;have ga:∀ {i a:Nat},p.toList[i]?=some a->gA p i=a:=fun {i a} q=>by
    rw [gA,dU,<- jV,q];rfl
   have:=p5 i j O9 (by lia)
   rw [ga ha,ga hb] at this;exact this
end
section
variable {X:Cx} {sc:Scope} {N':List Str} {ixs:List Nat} {pins:List (Addr×Obj)} {Y:St} {E:Value->Shared->Prop}
structure LamK(X:Cx)(sc:Scope)(N':List Str)(ixs:List Nat)(args:Arguments)(body:Expr)(te:TE):Prop where
 ok:CompOk X.N X.env.scope.names sc N' 1 ixs
 par:∃ y,N'[0]?=some y/\sc.names.lookup y=some .local/\∀ (q:Str) (cl:List (Str×Addr)) (pm cd ct u:Value),bindArgs (kla_fn "<lambda>" q args body sc cl pm cd ct) ⟨[u],[]⟩=pure [(y,u)]
 co:sc.isCoroutine=false
 gen:sc.isGenerator=false
 run:∀ f c s H,PE (lamCx X sc N' f c X.A.in1.in1 s H) body te
theorem aki{D c:Addr}{args:Arguments}{W:Nat->List V->Hp->Prop}{P:PySem.Fin->Shared->Prop}(L:LamK X sc N' ixs args body te)(oD:Ours X pins D)(oK:Ours X pins kS)(hDK:D≠kS)(X8:X.A.frames=some X.stack)(hh:X.A.handled=none)(hr:X.A.depth<recursionLimit)(hu:X.A.units+10<cLine)(hf:(f,lamO X args body sc c ctv)∈X.pn++pins)(I:Inv X (pins++[(D,seqObj "list" #[] e1)]++[(kS,seqObj "list" #[] 0)]) Y H2 s)(rx:Vals xs its)(h64:xs.length<64)(w0:W 0 [] H2)(step:∀ i ks H3 x,xs[i]?=some x->W i ks H3->H3 c=some (.ext (cdIs c (lamQ X)))/\te (aJ ixs Y x) H3 fun y H4=>W (i+1) (ks++[y]) H4)(fin:∀ ks H3,W xs.length ks H3->∃ kz:List (List Int),Paired (fun y z=>∃ b,y=V.ref b/\C7 X.K H3 b (z.map V.int)) ks kz/\kz.length=xs.length/\∀ p s',Srt kz p->Inv X pins Y (A0 H3 D (.lst (p.map fun i=>xs.getD i .non))) s'->H3 D=none->P (.done (.ret .none)) s') :
  wpAny (model X.prog X.w) X.A.in1.in1 (ksk_rest D (.ref f) false its.toArray e1 (.ref kS)) P E s:=by
 obtain ⟨y,hy,L3,V5⟩:=L.par;have lx:=rx.length;have fM:(1000:Nat)<=sizeLine:=by decide
 unfold ksk_rest;refine wpAny_bind (wpAny_rule ?_)
 first
  | rw [List.forIn_toArray]
  | (rw [<- Array.forIn_toList];simp only [List.toList_toArray])
  | rw [<- Array.forIn_toList]
 refine wpAny_bind (ksk_fold (fun i s'=>∃ (ks:List V) (kvs:List Value) (e:Nat) (H3:Hp),Inv X (pins++[(D,seqObj "list" #[] e1)]++[(kS,seqObj "list" kvs.toArray e)]) Y H3 s'/\Vals ks kvs/\W i ks H3/\ks.length=i) its 0 s ⟨[],[],0,H2,I,.nil,w0,rfl⟩ (fun j x s' hx ⟨ks,kvs,e,H3,I3,rk,hw,hl⟩=>?_) fun s' ⟨ks,kvs,e,H3,I3,rk,hw,hl⟩=>?_)
 .rw [Nat.zero_add] at hw hl;rw [Nat.zero_add];obtain ⟨xv,qO,rxv⟩:=alV rx hx;have hj:=(E9.mp qO).1;obtain ⟨hc3,xP⟩:=step j ks H3 xv qO hw;refine wpAny_bind (wpAny_attempt (wpAny_mono (alU (E:=fun _ _=>False) L.ok I3 X8 hh hr (by
   rcases D3.mp hf with q | q
   .exact N7 _ q
   .exact M6 _ (N7 _ (N7 _ q))) hc3 hy L3 L.co L.gen V5 (L.run f c s' H3) rxv xP) (fun k s'' hk=>?_) fun _ _ z=>z.elim))
  obtain ⟨yv,H4,I4,ry,xQ⟩:=hk
  try dsimp only
  obtain ⟨gK,_⟩:=I4.pin (kS,seqObj "list" kvs.toArray e) (by simp);have gK:s''.heap.get? kS=some (seqObj "list" kvs.toArray e):=gK;have lk:=rk.length;have s1:=Heap.SameBut.update s''.heap kS (Obj.mapSeq (·.push k));have ea:kvs.toArray.push k=(kvs++[k]).toArray:=by simp
  obtain ⟨c2,Q0⟩:∃ c2,(s''.heap.update kS (Obj.mapSeq (·.push k))).get? kS=some (seqObj "list" (kvs++[k]).toArray c2):=⟨_,by rw [<- ea];exact get?_update_seq gK (·.push k)⟩
  refine wpAny_bind (listUpdate_at gK rfl ?_ (by rw [F6];lia) (L4 (Nat.le_of_eq (Array.size_push ..)) (by rw [F6];lia)));refine wpAny_pure ⟨rfl,ks++[yv],kvs++[k],c2,H4,?_,rk.append (.cons ry .nil),xQ,by rw [C8,hl];rfl⟩;exact I4.repin (t':=s''.toks) oK.ab oK.cl (fun p hp=>by
   rcases D3.mp hp with q | q
   .exact oK.np p (N7 _ q)
   .rcases D3.mp q with q | q
    .exact oK.np p (M6 _ q)
    .rw [D1.mp q];exact hDK) (fun b o hb q=>(s1.2 b hb).trans q) (fun v z=>by cases z) Q0
 .rw [Nat.zero_add,<- lx] at hw hl;obtain ⟨gK,_⟩:=I3.pin (kS,seqObj "list" kvs.toArray e) (by simp);have gK:s'.heap.get? kS=some (seqObj "list" kvs.toArray e):=gK
  try dsimp only
  refine wpAny_bind (listItems_at gK rfl ?_);obtain ⟨kz,hkz,W7,hQ⟩:=fin ks H3 hw;have nD:H3 D=none:=(I3.pin (D,seqObj "list" #[] e1) (by simp)).2.1;exact alW oD oK hDK (by show X.A.units+1+1<cLine;lia) I3 rx rk hl h64 hkz fun p h' hp J=>hQ p _ hp J nD
theorem alX{c P:Addr}{a:Expr}{args:Arguments}{p pos:Pos}(hm:X.mg "sorted"=none)(ha:PA X [a] ta)(L:LamK X sc N' ixs args body te)(B:LamB X c P)(hr:Room k X.A)(p4:defaultsOf args X.env=([],[]))(hg:Gl X "sorted":=by rfl)(h1:K4 a=false:=by rfl) :
  PE X (.Call (.Name "sorted" p) [a] [⟨some "key",.Lambda args body sc lpos,kpos⟩] pos) (uX X.K X.calm P lpos (lamQ X) ta ixs te):=by
 intro pins s Y H Q I h;refine wpAny_Call_Name_kw (aB I hg hm ag5 (PySem.W.callWith_of (P:=fun _=>True) ?_ (fun _ _=>⟨_,.inr (.inl rfl),PySem.W.Looks.of_pure rfl⟩) (PyProof.Rows.evalArgs_kw2 rfl (A9 (ha pos pins s Y H _ I h) fun us s1 ⟨vs,H1,I1,r1,q1⟩=>?_) (M9 h1))))
 .rw [M9 h1];rfl
 obtain ⟨v,xs,rfl,⟨a0,rfl,hit⟩,h64,T,cont⟩:=q1;obtain ⟨u1,rfl,fH⟩:=vals1 r1;obtain rfl:u1=.ref a0:=fH;obtain ⟨ps,hPs⟩:∃ ps,H1 P=some (.tbl ps):=by
  rcases T with T | ⟨c',T,_⟩
  .exact ⟨_,T⟩
  .exact ⟨_,T⟩
 refine kwAll_cons (alT I1 L.ok B T p4 fun f c' ctv H2 s2 M=>kwAll_nil ⟨trivial,?_⟩);obtain ⟨W,w0,step,fin⟩:=cont c' H2 M.kp M.tab;have xR:C7 X.K H2 a0 xs\/(X.calm=true/\∃ kvs,Rd H2 a0 (.dK kvs)/\xs=kvs.map fun kv=>kV kv.1):=by
  rcases hit with h | ⟨hc,kvs,h,e⟩
  .exact .inl (h.sameP M.kp hPs)
  .exact .inr ⟨hc,kvs,h.sameP M.kp hPs,e⟩
 show wpAny _ _ (call (.builtin "sorted") [.ref a0] [(Str.ofString "key",.ref f)]) _ _ _;refine call_function_entry_kw kind_sorted plain_sorted entry_sorted (ksk_s1 _ _) ?_;unfold Builtin.«sorted»;refine wpAny_bind (m:=checkCount "sorted" 1 1 _) (wpAny_pure ?_);have fM:(1000:Nat)<=sizeLine:=by decide
 refine wpAny_bind (akh (A:=X.A.in1) M.inv (fun _=>hr.hd) xR fun h3 t3 its k3 hz3 rx hz=>?_);have lx:=rx.length;refine wpAny_bind (wpAny_newList ?_ (by lia));have hoD:(h3.push (seqObj "list" its.toArray 0)).get? h3.objs.size=some (seqObj "list" its.toArray 0):=Heap.get?_push_size _ rfl;refine wpAny_bind (wpAny_holding (wpAny_call_entry_kw slot_list_sort ⟨_,hoD,rfl⟩ entry_list_sort ?body (ksk_l1 _ _)))
 case body=>
  rw [ksk_t1];unfold ksk_tree;have sD:=Heap.SameBut.update (h3.push (seqObj "list" its.toArray 0)) h3.objs.size (Obj.mapSeq fun _=>(#[]:Array Value));obtain ⟨e1,ho1⟩:∃ e1,((h3.push (seqObj "list" its.toArray 0)).update h3.objs.size (Obj.mapSeq fun _=>(#[]:Array Value))).get? h3.objs.size=some (seqObj "list" #[] e1):=⟨_,get?_update_seq hoD fun _=>#[]⟩
  refine wpAny_bind (listItems_at hoD rfl ?_);refine wpAny_bind (listUpdate_at hoD rfl ?_ (by rw [F6];lia) (G3 _));refine wpAny_bind (seqEpoch_at ho1 rfl ?_);refine wpAny_bind (wpAny_newTuple ?_ (by show its.length<=_;lia));refine wpAny_bind (wpAny_newList ?_ (G3 _));refine wpAny_holding ?_;have hb:∀ b,s2.heap.objs.size<=b->H2 b=none/\b≠X.env.locals/\b∉X.fs/\Ours X (pins++[(f,lamO X args body sc c' ctv)]) b:=fun b hb=>⟨M.inv.hok.fresh hb,i0 (O2 M.inv.lt hb),M.inv.nofs hb,L4 M.inv.sz hb,fun x c e z=>by
   obtain ⟨v,q⟩:=M.inv.cell x c e;exact absurd q.lt (by rw [z];exact Nat.not_lt.mpr hb),fun p hp z=>by
   exact absurd (Heap.lt_size (M.inv.pin p hp).1) (by rw [z];exact Nat.not_lt.mpr hb)⟩
  have hkS:(((h3.push (seqObj "list" its.toArray 0)).update h3.objs.size (Obj.mapSeq fun _=>(#[]:Array Value))).push (seqObj "tuple" its.toArray 0)).objs.size=h3.objs.size+2:=by rw [size_push',Heap.size_update,size_push']
  have keep:∀ b o,s2.heap.get? b=some o->((((h3.push (seqObj "list" its.toArray 0)).update h3.objs.size (Obj.mapSeq fun _=>(#[]:Array Value))).push (seqObj "tuple" its.toArray 0)).push (seqObj "list" #[] 0)).get? b=some o:=fun b o e=>by
   have e3:=k3 b o e;have C4:=Heap.lt_size e3;refine Heap.get?_push_of_some _ (Heap.get?_push_of_some _ ?_);exact (sD.2 b (K3 C4)).trans (Heap.get?_push_of_some _ e3)
  obtain ⟨d1,d2,d3,oD⟩:=hb h3.objs.size hz3;obtain ⟨q1,q2,q3,oK⟩:=hb (h3.objs.size+2) (by lia);have I3:=(M.inv.kept (t':=t3) keep).pinNew (ob:=seqObj "list" #[] e1) (Heap.get?_push_of_some _ (Heap.get?_push_of_some _ ho1)) d1 d2 d3 (fun v z=>by cases z);have I4:=I3.pinNew (a:=h3.objs.size+2) (ob:=seqObj "list" #[] 0) (by rw [<- hkS];exact Heap.get?_push_size _ rfl) q1 q2 q3 (fun v z=>by cases z);rw [hkS];refine aki L oD oK (show h3.objs.size≠h3.objs.size+2 from K3 (Nat.lt_add_of_pos_right (by decide))) I.ok.frames hr.hd hr.depth (by have:=hr.units;lia) (M6 _ (M6 _ (D1.mpr rfl))) I4 rx h64 w0 step fun ks H3 hw=>?_
  obtain ⟨kz,a1,a2,a3⟩:=fin ks H3 hw;exact ⟨kz,a1,a2,fun p s' hp J nD=>⟨_,rfl,wpAny_pure ⟨_,rfl,.ref h3.objs.size,_,J.unpinned,rfl,a3 _ p nD hp⟩⟩⟩
end
end L2
set_option maxRecDepth 100000
namespace L2
open PySem PySem.Spec PyProof.Rows
open PySem.W (CodeHd tabObj)
structure BaseT(mg:Str->Option Value)(base:Heap)(tabs:List (Addr×Addr)):Prop where
 nb:∀ q∈tabs,base.get? q.2=none
 hd:∀ q∈tabs,CodeHd base q.1 q.2
 bm:∃ b o,mg "__builtins__"=some (.ref b)/\b≠builtinsNs/\b≠mainGlobals/\base.get? b=some o/\o.cls=.type "module"/\o.dict=some builtinsNs/\o.data=.plain
theorem BaseT.lam(B:BaseT X.mg X.base tabs){c P:Addr}(hm:(c,P)∈tabs)(hc:X.env.code=.ref c):LamB X c P:=by
 obtain ⟨b,o,h1,h2,h3,h4,h5⟩:=B.bm;exact ⟨hc,B.hd _ hm,⟨b,o,h1,h2,h3,(fun z=>by rw [z,B.nb _ hm] at h4;cases h4),h4,h5⟩,B.nb _ hm⟩
noncomputable def OnlyT (tabs:List (Addr×Addr)) (H:Hp):Prop:=(∀ q∈tabs,H q.2=some (.tbl #[]))/\∀ b,H b=none\/(∃ o xs,H b=some (.frz o (.lst xs)))\/∃ q∈tabs,b=q.2
theorem akj{P:Program}{w:World}{mb:Str->Option Value}{CX:Z9}{zu:Shared}{vs:List Value}(KX:K.In zu.heap)(o6:zu.heap.Ns mainGlobals mg)(hb:zu.heap.Ns builtinsNs mb)(hbb:∀ x:Str,x≠"__name__"->mb x=bootBuiltins x)(xS:zu.heap.NoLimit)(hg:zu.gens=#[])(hbm:∃ b o,mg "__builtins__"=some (.ref b)/\b≠builtinsNs/\zu.heap.get? b=some o/\o.cls=.type "module"/\o.dict=some builtinsNs/\o.data=.plain)(hT:PySem.W.TabsAt tabs zu.heap)(hK:PySem.W.noTabs K=true)(ha:zu.heap.get? a=some { cls:=.type "list",data:=.seq vs.toArray })(hi:IntsAre vs ns)(hl:ns.length<=sizeLine)(hr:Room k callerA)(F:∀ base:Heap,K.In base->base.Ns mainGlobals mg->BaseT mg base tabs->FnOk P w K mg base CX k fa fd [x] sp)(V5:∀ (s:Shared) (u:Value),BindsTo s fd ⟨[u],[]⟩ [(x,u)])(x8:∀ H:Hp,OnlyT tabs H->C7 K H a (ns.map V.int)->sp [.ref a] H (fun v _=>v=.bl true) fun _ _ _=>False)(hCX:∀ H e s',CX [] H zu (fun _ _ _=>False) e s'->False) :
  codeAny (model P w) callerA (.call (.ref fa) ⟨[.ref a],[]⟩) (fun r s'=>r=.ok (.ret (.bool true))/\OldK zu.heap s'.heap/\s'.os=zu.os/\AllBare s'.gens) zu:=by
 have rv:=afS hi;have lenV:=hi.length;obtain ⟨Ha,hHa1,hHa2⟩:∃ Ha:Option HO,(Ha=none/\(∃ o,K.lookup a=some o)\/Ha=some (.frz { cls:=.type "list",data:=.seq vs.toArray } (.lst (ns.map V.int))))/\(Ha≠none->K.lookup a=none):=by
  cases hk:K.lookup a with
  | some o=>exact ⟨none,.inl ⟨rfl,o,rfl⟩,fun z=>absurd rfl z⟩
  | none=>exact ⟨some _,.inr rfl,fun _=>rfl⟩
 obtain ⟨H,hH⟩:∃ H:Hp,∀ b,H b=if b∈tabs.map (·.2) then some (.tbl #[]) else if b=a then Ha else none:=⟨_,fun _=>rfl⟩
 have haT:a∉tabs.map (·.2):=fun z=>by
  obtain ⟨q,hq,e⟩:=E2.mp z
  have:=(hT q hq).2
  rw [e,ha] at this
  cases this
 have onT:∀ q∈tabs,H q.2=some (.tbl #[]):=fun q hq=>by rw [hH,if_pos (E2.mpr ⟨q,hq,rfl⟩)]
 have onA:H a=Ha:=by rw [hH,if_neg haT,if_pos rfl]
 have cases_:∀ b,H b=none\/(b=a/\H b=some (.frz { cls:=.type "list",data:=.seq vs.toArray } (.lst (ns.map V.int))))\/∃ q∈tabs,b=q.2:=fun b=>by
  by_cases h1:b∈tabs.map (·.2)
  .obtain ⟨q,hq,e⟩:=E2.mp h1;exact .inr (.inr ⟨q,hq,e.symm⟩)
  .by_cases h2:b=a
   .subst h2
    rcases hHa1 with ⟨e,_⟩ | e
    .exact .inl (by rw [onA,e])
    .exact .inr (.inl ⟨rfl,by rw [onA,e]⟩)
   .exact .inl (by rw [hH,if_neg h1,if_neg h2])
 have hO:OnlyT tabs H:=⟨onT,fun b=>by
  rcases cases_ b with q | ⟨_,q⟩ | q
  .exact .inl q
  .exact .inr (.inl ⟨_,_,q⟩)
  .exact .inr (.inr q)⟩
 have hok:L8 P w H zu.heap:=fun b u e=>by
  rcases cases_ b with q | ⟨rfl,q⟩ | ⟨t,ht,rfl⟩
  .rw [q] at e;cases e
  .rw [q] at e;cases e;exact ⟨ha,by rw [A4];exact hl,vs,_,rv,ha⟩
  .rw [onT t ht] at e;cases e;exact (hT t ht).2
 have hS:C7 K H a (ns.map V.int):=by
  rcases hHa1 with ⟨e,o,hk⟩ | e
  .have e2:=KX a o hk;rw [ha] at e2;cases e2;exact .inr ⟨_,vs.toArray,_,hk,rfl,rfl,rfl,by rw [F6,lenV];exact hl,by simpa using rv⟩
  .exact .inl (.inr ⟨_,by rw [onA,e]⟩)
 have base_of:∀ {b:Addr} {o:Obj},zu.heap.get? b=some o->H b=none->(hidT zu.heap H).get? b=some o:=fun e n=>akD e n
 have free:∀ {b:Addr} {o:Obj},zu.heap.get? b=some o->o.data≠.seq vs.toArray 0->o≠tabObj #[]->H b=none:=fun {b o} e h1 h2=>by
  rcases cases_ b with q | ⟨rfl,q⟩ | ⟨t,ht,rfl⟩
  .exact q
  .rw [ha] at e;cases e;exact absurd rfl h1
  .have:=(hT t ht).2
   rw [e] at this;exact absurd (Option.some.inj this) h2
 have nsK:∀ {b:Addr} {m:Str->Option Value},zu.heap.Ns b m->(hidT zu.heap H).Ns b m:=fun {b m} ⟨o,es,ep,e,d,r⟩=>⟨o,es,ep,base_of e (free e (fun z=>by rw [d] at z;cases z) (fun z=>by rw [z] at d;cases d)),d,r⟩
 have hKb:K.In (hidT zu.heap H):=fun b o e=>base_of (KX b o e) (by
  rcases cases_ b with q | ⟨rfl,q⟩ | ⟨t,ht,rfl⟩
  .exact q
  .have:=hHa2 (by rw [<- onA,q];simp)
   rw [this] at e;cases e
  .have e2:=KX _ o e;rw [(hT t ht).2] at e2;have e3:=Option.some.inj e2;have h2:=List.all_eq_true.mp hK (t.2,o) (PySem.W.mem_of_lookupK e);rw [<- e3] at h2;exact absurd (show false=true from h2) L5)
 have hM:Mod K mg (hidT zu.heap H):=⟨hKb,nsK o6,⟨mb,nsK hb,hbb⟩,let ⟨mc,h1,h2⟩:=xS;⟨mc,nsK h1,h2⟩⟩
 have hB1:∀ q∈tabs,(hidT zu.heap H).get? q.2=none:=fun q hq=>by
  cases e:(hidT zu.heap H).get? q.2 with
  | none=>rfl
  | some o=>
   have:=(zP e).2
   rw [onT q hq] at this
   cases this
 have hB2:∀ q∈tabs,CodeHd (hidT zu.heap H) q.1 q.2:=fun q hq=>by
  obtain ⟨o,us,file,tf,flags,tg,inF,text,tt,e1,r1,r2,r⟩:=(hT q hq).1;exact ⟨o,us,file,tf,flags,tg,inF,text,tt,base_of e1 (free e1 (fun z=>by rw [r2] at z;cases z) (fun z=>by rw [z] at r1;cases r1)),r1,r2,r⟩
 have hB:BaseT mg (hidT zu.heap H) tabs:=by
  obtain ⟨b,o,h1,h2,h3,h4,h5,h6⟩:=hbm;refine ⟨hB1,hB2,b,o,h1,h2,fun z=>?_,base_of h3 (free h3 (fun z=>by rw [h6] at z;cases z) (fun z=>by rw [z] at h4;cases h4)),h4,h5,h6⟩;obtain ⟨o2,es,ep,e2,d2,_⟩:=o6;rw [z,e2] at h3;cases h3;rw [d2] at h6;cases h6
 have e0:Env0 P w K mg (hidT zu.heap H) callerA [] zu H:=⟨rfl,hM,fun b o e=>zP e,Nat.le_of_eq (aiO _ _),trivial,fun b hb=>absurd (show b∈([]:List Addr) from hb) (by simp),hok,.of_eq hg⟩
 refine codeAny_mono ((F _ hKb (nsK o6) hB).run callerA [] zu H ⟨[.ref a],[]⟩ [.ref a] [.ref a] _ _ hr e0 (V5 zu (.ref a)) (.cons rfl .nil) (x8 H hO hS)) fun r s' h=>?_
 cases r with
 | error e=>exact (hCX H e s' h).elim
 | ok fl=>
  cases fl with
  | next=>exact False.elim h
  | brk=>exact False.elim h
  | cont=>exact False.elim h
  | ret u=>
   obtain ⟨v,H',os,bare,un,mQ,r',q⟩:=h;have q':v=.bl true:=q;subst q';obtain rfl:u=Value.bool true:=r';have kept:∀ b o,zu.heap.get? b=some o->(∀ t∈tabs,b≠t.2)->s'.heap.get? b=some o:=fun b o e hb=>by
    rcases cases_ b with q | ⟨rfl,q⟩ | ⟨t,ht,z⟩
    .exact un.keep b o e q (by intro z;exact absurd (show b∈([]:List Addr) from z) (by simp)) (by simp)
    .have z2:=un.frzs b _ _ q;obtain ⟨e2,_⟩:=mQ b _ z2;rw [ha] at e;cases e;exact e2
    .exact absurd z (hb t ht)
   have grown:∀ t∈tabs,∃ more,s'.heap.get? t.2=some (tabObj more):=fun t ht=>by
    obtain ⟨more,e⟩:=un.tbls t.2 #[] (onT t ht);exact ⟨#[]++more,mQ t.2 _ e⟩
   refine ⟨rfl,⟨fun b o e=>?_,fun b o e=>?_⟩,os,bare⟩
   .by_cases hb:∃ t∈tabs,b=t.2
    .obtain ⟨t,ht,rfl⟩:=hb;obtain ⟨more,e2⟩:=grown t ht;have e3:=(hT t ht).2;rw [e] at e3;obtain rfl:=Option.some.inj e3;exact .inr (.inl ⟨((hT t ht).1.tab (hT t ht).2).isCodeTable,rfl,#[],more,rfl,by rw [Array.empty_append];exact e2⟩)
    .exact .inl (kept b o e fun t ht z=>hb ⟨t,ht,z⟩)
   .by_cases hb:∃ t∈tabs,b=t.2
    .obtain ⟨t,ht,rfl⟩:=hb;obtain ⟨more,e2⟩:=grown t ht;exact ⟨_,e2⟩
    .exact ⟨o,kept b o e fun t ht z=>hb ⟨t,ht,z⟩⟩
theorem walk_ofT{l:PySem.W.OpenLaw}{q:Program}{XP:(Str->Option Value)->Heap->Prop}{YP:World->Heap->Prop}{d:DefRec}{K:Params->PySem.W.Frag}{CX:World->Z9}{sp:World->Sp}(hn:l.most=some n)(qG:n<=sizeLine)(x9:d.params.defaults=[])(hr:Room k callerA)(hY:∀ (w:World) (h:Heap),YP w h->(K w.params).In h)(hYT:∀ (w:World) (h:Heap),YP w h->PySem.W.TabsAt tabs h)(hK:∀ P,PySem.W.noTabs (K P)=true)(F:∀ (w:World) (mg:Str->Option Value) (fa:Addr) (h:Heap),(K w.params).In h->h.Ns mainGlobals mg->mg d.name=some (.ref fa)->
   ∃ fd:FuncData,(∀ (s:Shared) (u:Value),BindsTo s fd ⟨[u],[]⟩ [(x,u)])/\
    ∀ base:Heap,(K w.params).In base->base.Ns mainGlobals mg->BaseT mg base tabs->FnOk l.prog w (K w.params) mg base (CX w) k fa fd [x] (sp w))(x8:∀ (w:World) (H:Hp) (a:Addr) (ns:List Int),ns.length<=n->OnlyT tabs H->C7 (K w.params) H a (ns.map V.int)->sp w [.ref a] H (fun v _=>v=.bl true) fun _ _ _=>False)(hCX:∀ (w:World) (H:Hp) (s:Shared) (e:Value) (s':Shared),CX w [] H s (fun _ _ _=>False) e s'->False) :
  PySem.W.WalkO q loose XP YP l.row.toRowW d [] (fun f vs=>PySem.call f vs):=by
 refine Att.attach_call hn x9 fun w s₀ zu mg mb fa o pm cd doc a vs ns G zy ho hd P9 mB fA o4 A7 hg=>?_
 have KX:=hY w _ zy;obtain ⟨fd,hb,hF⟩:=F w mg fa _ KX G.T.g mB;obtain ⟨bm,ob,b1,b2,b3,b4,b5,b6⟩:=G.T.bmain;exact akj KX G.T.g G.T.b G.T.builtins G.T.nolimit hg ⟨bm,ob,b1,b2,b3,b4,b5,b6⟩ (hYT w _ zy) (hK _) fA o4 (L4 A7 qG) hr hF hb (fun H hO hS=>x8 w H a ns A7 hO hS) fun H e s'=>hCX w H zu e s'
end L2
set_option maxRecDepth 100000
namespace L2
open PySem PySem.Spec PyProof.Rows
theorem Room.lam(r:Room (k+3) A)(env:Env):Room k (A.in1.in1.deeper env):=((Room.in1 (k:=k+2) r).in1 (k:=k+1)).deeper env
structure FunDL(K:PySem.W.Frag)(x qual:Str)(st:Stmt)(f:Addr)(fd:FuncData)(c:Addr):Prop where
 ex:∃ (oc:Value) (od:Option Addr) (dV kV doc pm:Value) (an:Option Addr) (ct:Value) (osl:Array (Option Value)),
  fd=R6 x qual (U8 st) (R7 st) (C3 st) dV kV doc pm an (.ref c) ct/\K.lookup f=some ⟨oc,od,.func fd,osl⟩/\X1 K (.ref c) qual=true
theorem FunDL.ok{P:Program}{w:World}{base:Heap}{c:Addr}(F:FunDL K x qual st f fd c)(S:FnScope N ps (C3 st))(len:∀ vs H Q E,sp vs H Q E->vs.length=ps.length)(V0:∀ (A:Around) (outer:List Env) (s:Shared) (H:Hp) (vs:List V) (Q:VK) (E:XK),Room k (A.deeper (envOfC qual (C3 st) s.heap.objs.size f (.ref c)))->sp vs H Q E->
   ∃ t,W1 (cxOf E8 P w K mg base N qual (C3 st) f (.ref c) A outer s H E).nox (R7 st) t/\t { nx:=fun _ H'=>Q .non H',rt:=Q } (start N vs) H):FnOk P w K mg base E8 (k+1) f fd ps sp:=by
 obtain ⟨oc,od,dV,kV,doc,pm,an,ct,osl,rfl,lk,P9⟩:=F.ex;refine fn_of lk P9 S len fun A outer s H vs Q E hr x8=>?_
 obtain ⟨t,h,q⟩:=V0 A outer s H vs Q E hr x8;exact ⟨t,h.nox,q⟩
section
variable {X:Cx} {sc:Scope} {N':List Str} {ixs:List Nat}
theorem alY{c P:Addr}{a:Expr}{args:Arguments}{p pos:Pos}(hm:X.mg "sorted"=none)(hr:Room k X.A)(B:LamB X c P)(ha:QA X [a] ta)(C:CompOk X.N X.env.scope.names sc N' 1 ixs)(run:∀ f c s H,QE (lamCx X sc N' f c X.A.in1.in1 s H) body te)(hy:N'[0]?=some y:=by rfl)(L3:sc.names.lookup y=some .local:=by decide +kernel)(hb:∀ (q:Str) (cl:List (Str×Addr)) (pm cd ct u:Value),bindArgs (PySem.W.kla_fn "<lambda>" q args body sc cl pm cd ct) ⟨[u],[]⟩=pure [(y,u)]:=by exact fun _ _ _ _ _ _=>rfl)(xL:sc.isCoroutine=false:=by rfl)(fN:sc.isGenerator=false:=by rfl)(p4:defaultsOf args X.env=([],[]):=by rfl)(hg:Gl X "sorted":=by rfl)(h1:K4 a=false:=by rfl) :
  QE X (.Call (.Name "sorted" p) [a] [⟨some "key",.Lambda args body sc lpos,kpos⟩] pos) (uX X.K X.calm P lpos (lamQ X) ta ixs te):=
 ⟨alX hm ha.out ⟨C,⟨y,hy,L3,hb⟩,xL,fN,fun f c s H=>(run f c s H).out⟩ B hr p4 hg h1⟩
end
section
variable {Y:St} {H:Hp} {Q:VK}
theorem alZ{P:Addr}{pos:Pos} : uX K calm P pos q ta ixs te Y H Q=ta Y H fun vs H1=>∃ v xs,vs=[v]/\Items K calm H1 v xs/\xs.length<64/\TabOk H1 P pos q/\
 ∀ c H2,SameP P H1 H2->TabIn H2 P c pos q->∃ W:Nat->List V->Hp->Prop,W 0 [] H2/\
  (∀ i ks H3 x,xs[i]?=some x->W i ks H3->H3 c=some (.ext (cdIs c q))/\te (aJ ixs Y x) H3 fun y H4=>W (i+1) (ks++[y]) H4)/\
  ∀ ks H3,W xs.length ks H3->∃ kz:List (List Int),Paired (fun y z=>∃ b,y=V.ref b/\C7 K H3 b (z.map V.int)) ks kz/\kz.length=xs.length/\∀ (D:Addr) (p:List Nat),H3 D=none->Srt kz p->Q (.ref D) (A0 H3 D (.lst (p.map fun i=>xs.getD i .non))):=rfl
theorem akk{c:Addr}(σ0:St)(hσ:(ixs.map fun i=>(Y[i]?).join)=σ0)(κ:V->List Int)(hc:H2 c=some (.ext (cdIs c q)))(xM:∀ (H3:Hp) (x:V) (Z:VK),x∈xs->Same H2 H3->(∀ b H4,Same H3 H4->H4 b=some (.lst ((κ x).map V.int))->Z (.ref b) H4)->te (some x::σ0) H3 Z)(hQ:∀ (D:Addr) (H3:Hp) (p:List Nat),Same H2 H3->H3 D=none->Srt (xs.map κ) p->Q (.ref D) (A0 H3 D (.lst (p.map fun i=>xs.getD i .non)))) :
  ∃ W:Nat->List V->Hp->Prop,W 0 [] H2/\
  (∀ i ks H3 x,xs[i]?=some x->W i ks H3->H3 c=some (.ext (cdIs c q))/\te (aJ ixs Y x) H3 fun y H4=>W (i+1) (ks++[y]) H4)/\
  ∀ ks H3,W xs.length ks H3->∃ kz:List (List Int),Paired (fun y z=>∃ b,y=V.ref b/\C7 K H3 b (z.map V.int)) ks kz/\kz.length=xs.length/\∀ (D:Addr) (p:List Nat),H3 D=none->Srt kz p->Q (.ref D) (A0 H3 D (.lst (p.map fun i=>xs.getD i .non))):=by
 refine ⟨fun i ks H3=>Same H2 H3/\Paired (fun y x=>∃ b,y=V.ref b/\H3 b=some (.lst ((κ x).map V.int))) ks (xs.take i),⟨Same.refl _,.nil⟩,fun i ks H3 x hx ⟨S,hp⟩=>⟨S _ _ hc,?_⟩,fun ks H3 ⟨S,hp⟩=>⟨xs.map κ,?_,by rw [A4],fun D p nD hs=>hQ D H3 p S nD hs⟩⟩
 .show te (some x::(ixs.map fun i=>(Y[i]?).join)) H3 _;rw [hσ];refine xM H3 x _ (M7 hx) S fun b H4 S4 hb=>⟨S.trans S4,?_⟩
  rw [g4,hx];exact Paired.snoc (O4 hp fun y x ⟨b,e,h⟩=>⟨b,e,S4 _ _ h⟩) ⟨b,rfl,hb⟩
 .rw [K7] at hp;have go:∀ {ks xs:List V},Paired (fun y x=>∃ b,y=V.ref b/\H3 b=some (.lst ((κ x).map V.int))) ks xs->Paired (fun y z=>∃ b,y=V.ref b/\C7 K H3 b (z.map V.int)) ks (xs.map κ):=by
   intro ks xs h
   induction h with
   | nil=>exact .nil
   | cons h t ih=>exact .cons (let ⟨b,e,q⟩:=h;⟨b,e,.of q⟩) ih
  exact go hp
end
end L2
set_option maxRecDepth 100000
namespace L2
open PySem PySem.Spec PyProof.Rows
noncomputable def vwIs (p a:Addr) (h:Heap):Prop:=h.IsValuesView p a
noncomputable def rVals:V->List V->Hp->VK->Prop:=fun x vs H Q=>∃ a kvs,x=.ref a/\vs=[]/\H a=some (.dK kvs)/\∀ p,H p=none->Q (.ref p) (A0 H p (.ext (vwIs p a)))
theorem ara : rVals (.ref a) [] H Q=∃ kvs,H a=some (.dK kvs)/\∀ p,H p=none->Q (.ref p) (A0 H p (.ext (vwIs p a))):=
 propext ⟨fun ⟨_,kvs,e,_,h⟩=>by cases e;exact ⟨kvs,h⟩,fun ⟨kvs,h⟩=>⟨a,kvs,rfl,rfl,h⟩⟩
noncomputable def Itvw (a:Addr) (o:Obj) (kvs:List (C1×V)):It:=
 ⟨fun i H=>H a=some (.frz o (.dK kvs))/\i<kvs.length,fun i H x H'=>H'=H/\∃ k,kvs[i]?=some (k,x),fun i H=>H a=some (.frz o (.dK kvs))/\kvs.length<=i⟩
noncomputable def iVals (tl:TE):TI:=fun Y H R=>tl Y H fun x H1=>∃ p a kvs,x=.ref p/\H1 p=some (.ext (vwIs p a))/\H1 a=some (.dK kvs)/\∀ o,R (Itvw a o kvs) (A0 H1 a (.frz o (.dK kvs)))
theorem al0{R:It->Hp->Prop} : iVals tl Y H R=tl Y H fun x H1=>∃ p a kvs,x=.ref p/\H1 p=some (.ext (vwIs p a))/\H1 a=some (.dK kvs)/\∀ o,R (Itvw a o kvs) (A0 H1 a (.frz o (.dK kvs))):=rfl
noncomputable def aod (r r' r'':R2) (ta tb tc td:TE):TE:=fun Y H Q=>ta Y H fun x H1=>tb Y H1 fun y H2=>r x y H2 fun z H3=>∃ k,z=.bl k/\
 (if k=true then tc Y H3 fun w' H4=>r' y w' H4 fun z' H5=>∃ k',z'=.bl k'/\(if k'=true then td Y H5 fun w'' H6=>r'' w' w'' H6 Q else Q (.bl false) H5) else Q (.bl false) H3)
theorem akl{r r' r'':R2}{ta tb tc:TE} : aod r r' r'' ta tb tc td Y H Q=ta Y H fun x H1=>tb Y H1 fun y H2=>r x y H2 fun z H3=>∃ k,z=.bl k/\
 (if k=true then tc Y H3 fun w' H4=>r' y w' H4 fun z' H5=>∃ k',z'=.bl k'/\(if k'=true then td Y H5 fun w'' H6=>r'' w' w'' H6 Q else Q (.bl false) H5) else Q (.bl false) H3):=rfl
end L2
open L2 in
local macro_rules | `(tactic| walk_at "rd")=>`(tactic| simp only [↓ame,↓ap_c,↓anj,↓aql,↓alb,↓ank,↓anl,↓aqm,↓anm,↓aqn,↓aqo,↓ann,↓ap_op,↓ane,↓ap_tB,↓aqj,↓aqi,↓ap_or,↓anh,↓aqk,↓ani,↓ang,↓ap_if,↓ala,↓ap_cb,↓anr,↓aqr,↓ans,↓aqs,↓aqt,↓ap_sl,↓ajq,↓ant,↓aqw,↓anE,↓alf,↓anC,↓anD,↓alg,↓alh,↓ap_bm,↓aqu,↓aqp,↓anp,↓ano,↓ald,↓anq,↓ap_un,↓ap_rU,↓aqq,↓aqv,↓anu,↓anv,↓anw,↓anx,↓alc,↓anz,↓ale,↓anA,↓anf,anB,anF,ali,alj,alk,↓ad_ii,↓ad_ss,↓ad_rr,↓mu_ii,↓mu_ri,↓eq_ii,↓eq_ss,↓eq_bb,↓eq_rx,↓eq_xr,↓ne_ii,↓ne_ss,↓ne_bb,↓ne_rx,↓ne_xr,↓L2.lt_ii,↓L2.lt_ss,↓le_ii,↓le_ss,↓gt_ii,↓gt_ss,↓ge_ii,↓ge_ss,↓in_xs,↓in_xr,↓sl_s,↓sl_r,↓len_s,↓len_r,↓aqy,↓all_r,↓isi_t,↓ord_s,↓aqD,↓alp,amo,↓alq,↓tup_r,↓anL,↓aqE,↓aqF,↓anM,↓anN,↓alr,↓als,↓anG,↓anH,↓alZ,↓al0,↓ara,↓akl,↓alH,↓an4,↓an5,↓an7,↓alR,↓alQ,↓aq6,↓aq7,↓aq8,↓aq2,↓aqY,↓aqX,↓anX,↓ajW,↓aqZ,↓aq0,↓aq1,↓any_r,↓alB,↓anU,↓anV,↓aqK,↓anW,↓alD,↓anO,↓alw,↓anQ,↓alv,alm,afX,cxK,cxKn,cxKb,cxC,cxCn,cxCb,K0,List.map_nil,K9,k8,Nat.sub_self,Nat.reduceAdd,Nat.reduceSub,Nat.zero_add,Nat.add_one_sub_one,List.replicate_zero,fY,N0,t9,k7,List.getElem?_cons_zero,List.getElem?_cons_succ,List.set_cons_zero,List.set_cons_succ,Option.some.injEq,Option.join_some,Option.join_none,exists_eq_left',exists_eq_left,exists_eq',exists_eq,reduceCtorEq,false_and,and_false,exists_false,exists_const,false_or,or_false,true_and,and_true,V.str.injEq,V.int.injEq,V.bl.injEq,V.ref.injEq,V.ty.injEq,l6.injEq,exists_and_left,exists_and_right,and_assoc,if_true,if_false,jS,Bool.not_true,Bool.not_false,ite_true,ite_false,Int.reduceLT,Int.reduceLE,G3])
namespace K51
open PySem PySem.Spec PyProof.Rows L2
set_option maxRecDepth 100000
set_option maxHeartbeats 4000000
noncomputable def top (i:Nat):Stmt:=PySem.Challenge.pw_sortlore_k51_sorted.main.body.getD i (.Pass ⟨0,0,0,0⟩)
noncomputable abbrev w5:Stmt:=top 7
noncomputable abbrev Y9:Stmt:=top 8
noncomputable abbrev w6:Stmt:=top 11
noncomputable abbrev Q3:Stmt:=top 14
noncomputable abbrev pM:Stmt:=top 16
noncomputable abbrev lB:Stmt:=top 26
noncomputable abbrev pN:Stmt:=top 27
noncomputable abbrev cJ:Stmt:=top 28
noncomputable abbrev j5:Stmt:=top 29
noncomputable abbrev aK:Stmt:=top 30
noncomputable abbrev aL:Stmt:=top 31
noncomputable abbrev lC:Stmt:=top 32
noncomputable abbrev cK:Stmt:=top 33
noncomputable abbrev P8:Stmt:=top 34
noncomputable abbrev cL:Stmt:=sH (top 35) 0
noncomputable abbrev eQ:Stmt:=top 17
noncomputable abbrev aM:Stmt:=top 18
noncomputable abbrev s_cut:Stmt:=top 19
noncomputable abbrev eR:Stmt:=sH (top 35) 4
noncomputable abbrev cM:Stmt:=sH (top 35) 5
noncomputable abbrev lE:Stmt:=top 43
noncomputable abbrev lF:Stmt:=top 44
noncomputable abbrev lG:Stmt:=top 45
noncomputable abbrev j6:Stmt:=top 46
noncomputable abbrev w8:Stmt:=top 47
noncomputable abbrev lH:Stmt:=top 37
noncomputable abbrev cN:Stmt:=top 38
noncomputable abbrev x0:Stmt:=top 39
noncomputable abbrev lI:Stmt:=top 40
noncomputable abbrev lJ:Stmt:=top 41
noncomputable abbrev s_key:Stmt:=top 49
noncomputable abbrev j7:Stmt:=top 53
noncomputable abbrev W6:Stmt:=top 54
noncomputable abbrev lK:Stmt:=top 56
noncomputable abbrev x3:Stmt:=top 57
noncomputable abbrev O8:Stmt:=top 58
noncomputable abbrev c9:Stmt:=top 61
noncomputable abbrev cO:Stmt:=top 51
noncomputable abbrev aN:Stmt:=top 59
noncomputable abbrev iB:Stmt:=top 60
noncomputable abbrev s_law:Stmt:=top 62
noncomputable def visB (S:Scope) (x:Str):Bool:=decide (S.names.lookup x=some .local) || decide (S.names.lookup x=some .cell) || decide (S.names.lookup x=some .free)
theorem qvd{pos:Pos}{S:Scope}(hN:X.N=N)(hs:X.env.scope=S)(h:(decide (N[n]?=some x)&&visB S x && !(x==("__debug__" : Str)) && !(x==("__classdict__" : Str)))=true):QE X (.Name x pos) (tVar n):=by
 subst hN hs;simp only [visB,X0,Bool.or_eq_true,decide_eq_true_eq,Bool.not_eq_true'] at h;exact qe_v h.1.1.1 (h.1.1.2.elim (fun z=>z.elim .inl fun z=>.inr (.inl z)) fun z=>.inr (.inr z)) h.1.2 h.2
theorem len1{α:Type}{F:List α->Prop}(h:∀ a,F [a]):∀ us:List α,us.length=1->F us
 | [a],_=>h a
theorem len2{α:Type}{F:List α->Prop}(h:∀ a b,F [a,b]):∀ us:List α,us.length=2->F us
 | [a,b],_=>h a b
theorem len3{α:Type}{F:List α->Prop}(h:∀ a b c,F [a,b,c]):∀ us:List α,us.length=3->F us
 | [a,b,c],_=>h a b c
theorem len4{α:Type}{F:List α->Prop}(h:∀ a b c d,F [a,b,c,d]):∀ us:List α,us.length=4->F us
 | [a,b,c,d],_=>h a b c d
theorem len5{α:Type}{F:List α->Prop}(h:∀ a b c d e,F [a,b,c,d,e]):∀ us:List α,us.length=5->F us
 | [a,b,c,d,e],_=>h a b c d e
theorem J8{Q:List Str}{sc:Scope}(h1:sc.kind=.function:=by rfl)(h2:sc.isCoroutine=false:=by rfl)(h3:sc.isGenerator=false:=by rfl)(h4:N.Nodup:=by decide +kernel)(h5:N.take Q.length=Q:=by rfl)(h6:∀ x∈Q,sc.names.lookup x=some .local\/sc.names.lookup x=some .cell:=by decide +kernel)(h7:∀ y∈sc.names,y.2≠.free:=by decide +kernel):FnScope N Q sc:=⟨h1,h2,h3,h4,h5,h6,h7⟩
theorem R9{kn:List (Str×NameKind)}{sc:Scope}(h1:sc.kind=.function:=by rfl)(h2:∀ x∈sc.names,x.2≠.cell:=by decide +kernel)(h3:∀ x∈sc.names,x.2=.local->sc.names.lookup x.1=some .local:=by decide +kernel)(h4:∀ x∈sc.names,x.2=.free->kn.lookup x.1=some .cell\/kn.lookup x.1=some .free:=by decide +kernel)(h5:∀ x∈sc.names,x.2=.free->sc.names.lookup x.1=some .free:=by decide +kernel)(h6:N'.length=k+ixs.length:=by rfl)(h7:ixs.map (fun i=>N[i]?)=(N'.drop k).map some:=by decide +kernel)(h8:∀ x∈N'.drop k,(x,NameKind.free)∈sc.names:=by decide +kernel):CompOk N kn sc N' k ixs:=⟨h1,h2,h3,h4,h5,h6,h7,h8⟩
theorem hm(r:Room k A)(h:j<=k:=by decide):Room j A:=r.mono h
structure DF(K:PySem.W.Frag)(n:Str)(s:Stmt):Prop where
 ex:∃ (f:Addr) (oc:Value) (od:Option Addr) (kV dc pm:Value) (an:Option Addr) (cd ct:Value) (sl:Array (Option Value)),O3 K mainGlobals n=some (some (.ref f))/\K.lookup f=some ⟨oc,od,.func (R6 n n (U8 s) (R7 s) (C3 s) .none kV dc pm an cd ct),sl⟩/\X1 K cd n=true/\V9 K (.ref f)=true
theorem df_mk{n:Str}{s:Stmt}{kV dc:Value}{sl:Array (Option Value)}(a:O3 K mainGlobals n=some (some (.ref f)))(l:K.lookup f=some ⟨oc,od,.func (R6 n n (U8 s) (R7 s) (C3 s) .none kV dc pm an cd ct),sl⟩)(c:X1 K cd n=true)(k:V9 K (.ref f)=true):DF K n s:=⟨f,oc,od,kV,dc,pm,an,cd,ct,sl,a,l,c,k⟩
theorem DF.go{P:Program}{w:World}{base:Heap}{n:Str}{s:Stmt}(d:DF K n s)(X:K.In h)(G:h.Ns mainGlobals mg)(_:K.In base)(ok:∀ {f fd},FunD K n n s f fd->FnOk P w K mg base E8 k f fd ps sp)(hl:∀ (kV dc pm:Value) (an:Option Addr) (cd ct:Value) (us:List Value),us.length=ps.length->bindArgs (R6 n n (U8 s) (R7 s) (C3 s) .none kV dc pm an cd ct) ⟨us,[]⟩=pure (ps.zip us):=by first | exact fun _ _ _ _ _ _=>len1 fun _=>rfl | exact fun _ _ _ _ _ _=>len2 fun _ _=>rfl | exact fun _ _ _ _ _ _=>len3 fun _ _ _=>rfl | exact fun _ _ _ _ _ _=>len4 fun _ _ _ _=>rfl | exact fun _ _ _ _ _ _=>len5 fun _ _ _ _ _=>rfl):FO P w K mg base k n ps [] sp:=by
 obtain ⟨f,oc,od,kV,dc,pm,an,cd,ct,sl,a,l,c,kp⟩:=d.ex;exact ⟨_,_,ok (cB (st:=s) l c),W0 X G a,kp,[],.all (hl kV dc pm an cd ct),.nil⟩
structure Txt(P:Program)(w:World)(K:PySem.W.Frag)(mg:Str->Option Value)(C:Addr):Prop where
 cl:Cls K C
 na_figures:NoAttr K C "figures"
 na_behind:NoAttr K C "behind"
 na_jobs:NoAttr K C "jobs"
 na_letter_line:NoAttr K C "letter_line"
 na_mark_line:NoAttr K C "mark_line"
 na_made:NoAttr K C "made"
 b_any:mg "any"=none
 b_dict:mg "dict"=none
 b_enumerate:mg "enumerate"=none
 b_int:mg "int"=none
 b_isinstance:mg "isinstance"=none
 b_len:mg "len"=none
 b_list:mg "list"=none
 b_min:mg "min"=none
 b_ord:mg "ord"=none
 b_range:mg "range"=none
 b_sorted:mg "sorted"=none
 b_tuple:mg "tuple"=none
 b_zip:mg "zip"=none
 g_MARK:∃ t,mg "MARK"=some (.int 0 t)
 g_LETTER:∃ t,mg "LETTER"=some (.int 2 t)
 g_FIGURES:∃ t,mg "FIGURES"=some (.int 1 t)
 x_JOBS:∃ a,mg "JOBS"=some (.ref a)/\ModD P w K a [((Sum.inr ("row" : Str):C1),V.str "letter"),((Sum.inr ("marks" : Str):C1),V.str "mark"),((Sum.inr ("great" : Str):C1),V.str "great"),((Sum.inr ("as" : Str):C1),V.str "as"),((Sum.inr ("over" : Str):C1),V.str "over")]
 x_AGAIN:∃ a,mg "AGAIN"=some (.ref a)/\∀ H:Hp,C6 K H a [V.str "letter",V.str "mark",V.str "over"]
theorem ah0{α:Type} : ∀ {l:List (Str×α)} {p:Str} {j:α},(l.map (·.1)).Nodup->(p,j)∈l->l.lookup p=some j
 | [],_,_,_,h=>by cases h
 | (y,t)::l,p,j,nd,h=>by
  rw [K0,U5] at nd;rw [List.lookup_cons]
  rcases E5.mp h with h | h
  .obtain ⟨rfl,rfl⟩:=Prod.mk.inj h
   simp
  .have:p≠y:=fun e=>nd.1 (E2.mpr ⟨_,h,e⟩)
   have e:(p==y)=false:=by simpa using this
   rw [e];exact ah0 nd.2 h
noncomputable def stepS:List Int:=[1,2,4,5,7,8,10,11,13,22,44,80]
noncomputable def e8 (n:Int):Int:=(L0 stepS (n / 93 % 12)).getD 0
noncomputable def x4 (w:Bool) (n k:Int):Nat:=(L0 (listF (!w)) ((n+k*e8 n) % lenF (!w))).getD 33
theorem uY(n:Int):L0 (stepS.map V.int) (n / 93 % 12)=some (.int (e8 n))/\e8 n∈stepS:=by
 obtain ⟨v,h1,h2⟩:=sU (xs:=stepS) (i:=n / 93 % 12) (by lia) (by show _<((12:Nat):Int);lia);have e:e8 n=v:=by unfold e8;rw [h1];rfl
 rw [e];refine ⟨?_,h2⟩;obtain ⟨j,hj⟩:∃ j:Nat,n / 93 % 12=(j:Int):=⟨(n / 93 % 12).toNat,by lia⟩
 rw [hj] at h1 ⊢
 have:=jX (n / 93) (show (0:Int)<12 by decide)
 have hl:j<stepS.length:=by show j<12;lia
 have e2:=E7 (xs:=stepS) (j:=j) (v:=stepS[j]) (F8 hl);rw [e2] at h1;rw [<- Option.some.inj h1];exact E7 (by rw [L7,F8 hl];rfl)
theorem aoe(n:Int):0<e8 n/\e8 n<=80:=(show ∀ s∈stepS,0<s/\s<=80 by decide) _ (uY n).2
theorem amA(w:Bool)(n k:Int):L0 (listF (!w)) ((n+k*e8 n) % lenF (!w))=some (x4 w n k)/\x4 w n k∈listF (!w):=by
 have hp:=tX (!w);obtain ⟨v,h1,h2⟩:=sU (xs:=listF (!w)) (i:=(n+k*e8 n) % lenF (!w)) (Int.emod_nonneg _ (by lia)) (by rw [tV];exact jX _ hp.1);have e:x4 w n k=v:=by unfold x4;rw [h1];rfl
 rw [e];exact ⟨h1,h2⟩
noncomputable def j8 (w:Bool) (c:Nat):Prop:=signB c=true/\(w=true->figO c=false)
theorem arb(w:Bool)(n k:Int):j8 w (x4 w n k):=by
 have h:=(amA w n k).2
 cases w with
 | true=>exact ⟨(LA_ok _ h).1,fun _=>(LA_ok _ h).2⟩
 | false=>exact ⟨LB_ok _ h,fun z=>by cases z⟩
theorem agt:(∀ s∈stepS,∃ t∈(P6 83).map Int.ofNat,s*t % 83=1)/\∀ s∈stepS,∃ t∈(P6 93).map Int.ofNat,s*t % 93=1:=by decide +kernel
theorem aof{w:Bool}{n k l:Int}(h0:0<=k)(h1:k<83)(h2:0<=l)(h3:l<83)(h:x4 w n k=x4 w n l):k=l:=by
 have hp:=tX (!w);have hq:83<=lenF (!w):=by cases w <;> decide
 have nd:(listF (!w)).Nodup:=by
  cases w
  .exact LB_nd
  .exact LA_nd
 have hl:=tV (!w);have e:=aqP nd (i:=(n+k*e8 n) % lenF (!w)) (j:=(n+l*e8 n) % lenF (!w)) (Int.emod_nonneg _ (by lia)) (by rw [hl];exact jX _ hp.1) (Int.emod_nonneg _ (by lia)) (by rw [hl];exact jX _ hp.1) h;obtain ⟨t,ht⟩:∃ t:Int,e8 n*t % lenF (!w)=1:=by
  have:=(uY n).2
  cases w
  .obtain ⟨t,_,ht⟩:=agt.2 _ this;exact ⟨t,ht⟩
  .obtain ⟨t,_,ht⟩:=agt.1 _ this;exact ⟨t,ht⟩
 exact aiq ht e h0 (by lia) h2 (by lia)
noncomputable def numF (ns:List Int) (k:Int):Int:=cellF ns k*48271 % 2147483647
noncomputable def amB (K:PySem.W.Frag):Sp:=fun vs H Q _=>∃ (a:Addr) (ns:List Int) (k:Int),vs=[.ref a,.int k]/\C7 K H a (ns.map V.int)/\0<=k/\Q (.int (numF ns k)) H
noncomputable def akn:Sp:=fun vs H Q _=>∃ (n k:Int) (w:Bool),vs=[.int n,.int k,.bl w]/\0<=k/\∀ H',Same H H'->Q (.str (one (x4 w n k))) H'
noncomputable def x5 (ls ms:List Str) (a f g x q o:Str):List Rl:=[(("row" : Str),ls),(("marks" : Str),ms),(("great" : Str),[a,f,g]),(("as" : Str),[x,a,q]),(("over" : Str),[o])]
noncomputable def U1 (w:Str) (b:Bool):List Rl:=if b=true then [(w,[])] else []
noncomputable def G7 (ls ms:List Str) (a f g x q o:Str) (b1 b2 b3:Bool):List Rl:=x5 ls ms a f g x q o++U1 "figures" b1++U1 "blanks" b2++U1 "behind" b3
structure Sh5(ls ms:List Str)(a f g x q o:Str)(w:Bool):Prop where
 al:a∈ls
 qm:q∈ls++ms
 l1:ls.length=5
 m1:ms.length=2
 nd:(ls++(ms++[f,g,x,o])).Nodup
 on:∀ p∈ls++(ms++[f,g,x,o]),(∃ c,p=one c/\j8 w c)\/∃ c d,p=two c d/\j8 w c/\j8 w d/\one d∈ls
theorem uZ{w:Str}{b:Bool}{z:Rl}(h:z∈U1 w b):b=true/\z=(w,[]):=by
 unfold U1 at h
 split at h
 .exact ⟨by assumption,D1.mp h⟩
 .cases h
theorem iC{a f g:Str}{z:Rl}(h:z∈G7 ls ms a f g x q o b1 b2 b3):z=(("row" : Str),ls)\/z=(("marks" : Str),ms)\/z=(("great" : Str),[a,f,g])\/z=(("as" : Str),[x,a,q])\/z=(("over" : Str),[o])\/z.2=[]/\flagW z.1:=by
 unfold G7 at h
 rcases D3.mp h with h | h
 .rcases D3.mp h with h | h
  .rcases D3.mp h with h | h
   .unfold x5 at h;simp only [E5,g6,or_false] at h
    rcases h with h | h | h | h | h
    .exact .inl h
    .exact .inr (.inl h)
    .exact .inr (.inr (.inl h))
    .exact .inr (.inr (.inr (.inl h)))
    .exact .inr (.inr (.inr (.inr (.inl h))))
   .rw [(uZ h).2];exact .inr (.inr (.inr (.inr (.inr ⟨rfl,.inl rfl⟩))))
  .rw [(uZ h).2];exact .inr (.inr (.inr (.inr (.inr ⟨rfl,.inr (.inr rfl)⟩))))
 .rw [(uZ h).2];exact .inr (.inr (.inr (.inr (.inr ⟨rfl,.inr (.inl rfl)⟩))))
theorem aog(ls ms:List Str)(a f g x q o:Str)(b1 b2 b3:Bool):(G7 ls ms a f g x q o b1 b2 b3).length<=8:=by
 unfold G7 x5 U1
 cases b1 <;> cases b2 <;> cases b3 <;> simp
theorem vA{w:Str}{b:Bool}(hw:flagW w):C9 (U1 w b)=[]:=by
 unfold U1
 split
 .unfold C9;rw [Q9,aiw hw];rfl
 .rfl
theorem lL(ls ms:List Str)(a f g x q o:Str)(b1 b2 b3:Bool):C9 (G7 ls ms a f g x q o b1 b2 b3)=(ls.map fun p=>(p,("letter" : Str)))++((ms.map fun p=>(p,("mark" : Str)))++[(f,("great" : Str)),(g,("great" : Str)),(x,("as" : Str)),(o,("over" : Str))]):=by
 have e:∀ X zy,C9 (X++zy)=C9 X++C9 zy:=fun X zy=>by unfold C9;rw [Y4]
 unfold G7 x5;rw [e,e,e,vA (.inl rfl),vA (.inr (.inr rfl)),vA (.inr (.inl rfl)),N0,N0,N0,eM,m8.2.2 (.inl rfl),eM,m8.2.2 (.inr (.inl rfl)),eM,m8.1 rfl,eM,m8.2.1 rfl,eM,m8.2.2 (.inr (.inr rfl))];rfl
theorem pO(ls ms:List Str)(a f g x q o:Str)(b1 b2 b3:Bool):(C9 (G7 ls ms a f g x q o b1 b2 b3)).map (·.1)=ls++(ms++[f,g,x,o]):=by
 rw [lL];simp [Function.comp_def]
theorem vB(ls ms:List Str)(a f g x q o:Str)(b1 b2 b3:Bool):hasW (G7 ls ms a f g x q o b1 b2 b3) "figures"=b1/\hasW (G7 ls ms a f g x q o b1 b2 b3) "blanks"=b2/\hasW (G7 ls ms a f g x q o b1 b2 b3) "behind"=b3:=by
 have e:∀ X zy w,hasW (X++zy) w=(hasW X w || hasW zy w):=fun X zy w=>by unfold hasW;rw [List.any_append]
 have e1:∀ (u w:Str) b,hasW (U1 u b) w=(b&&decide (u=w)):=fun u w b=>by
  unfold U1 hasW
  cases b <;> simp
 have e0:∀ w:Str,flagW w->hasW (x5 ls ms a f g x q o) w=false:=fun w hw=>by
  obtain ⟨n1,n2,n3,n4,n5⟩:=hw.no;unfold hasW x5;simp only [u8,List.any_nil,Bool.or_false,Bool.or_eq_false_iff,decide_eq_false_iff_not];exact ⟨fun h=>n1 h.symm,fun h=>n2 h.symm,fun h=>n3 h.symm,fun h=>n4 h.symm,fun h=>n5 h.symm⟩
 have d:∀ {u w:Str},u≠w->decide (u=w)=false:=fun h=>decide_eq_false h
 unfold G7;simp only [e,e1];rw [e0 _ (.inl rfl),e0 _ (.inr (.inr rfl)),e0 _ (.inr (.inl rfl)),d (show ("blanks" : Str)≠"figures" by decide +kernel),d (show ("behind" : Str)≠"figures" by decide +kernel),d (show ("figures" : Str)≠"blanks" by decide +kernel),d (show ("behind" : Str)≠"blanks" by decide +kernel),d (show ("figures" : Str)≠"behind" by decide +kernel),d (show ("blanks" : Str)≠"behind" by decide +kernel)]
 simp
theorem pP(ls ms:List Str)(a f g x q o:Str)(b1 b2 b3:Bool):rowsW (G7 ls ms a f g x q o b1 b2 b3) "row"=[ls]/\rowsW (G7 ls ms a f g x q o b1 b2 b3) "marks"=[ms]:=by
 have e:∀ X zy w,rowsW (X++zy) w=rowsW X w++rowsW zy w:=fun X zy w=>by unfold rowsW;rw [dN,D9]
 have e3:∀ {u w:Str} {b:Bool},u≠w->rowsW (U1 u b) w=[]:=fun {u w b} n=>by
  unfold U1 rowsW
  cases b
  .rfl
  .rw [if_pos rfl,bK (by simpa using n)];rfl
 have e1:∀ {w u:Str} {zs:List Str} {R:List Rl},u≠w->rowsW ((u,zs)::R) w=rowsW R w:=fun {w u zs R} n=>by
  unfold rowsW;rw [bK (by simpa using n)]
 have e2:∀ {w:Str} {zs:List Str} {R:List Rl},rowsW ((w,zs)::R) w=zs::rowsW R w:=fun {w zs R}=>by
  unfold rowsW;rw [fX (by simp)];rfl
 unfold G7 x5;rw [e,e,e,e,e,e,e3 (by decide +kernel),e3 (by decide +kernel),e3 (by decide +kernel),e3 (by decide +kernel),e3 (by decide +kernel),e3 (by decide +kernel),e2,e1 (by decide +kernel),e1 (by decide +kernel),e1 (by decide +kernel),e1 (by decide +kernel),e1 (by decide +kernel),e2,e1 (by decide +kernel),e1 (by decide +kernel),e1 (by decide +kernel)];exact ⟨rfl,rfl⟩
theorem Sh5.ndl{a f g:Str}(h:Sh5 ls ms a f g x q o b1):ls.Nodup:=(Z7.mp h.nd).1
theorem Sh5.ndm{a f g:Str}(h:Sh5 ls ms a f g x q o b1):ms.Nodup:=(Z7.mp (Z7.mp h.nd).2.1).1
theorem Sh5.good{a f g:Str}(h:Sh5 ls ms a f g x q o b1):GoodR (gOf (G7 ls ms a f g x q o b1 b2 b3)) (ls.idxOf ·) (ms.idxOf ·) (G7 ls ms a f g x q o b1 b2 b3):=by
 have aX:=h.l1;have cX:=h.m1;have nd:=h.nd;rw [<- pO ls ms a f g x q o b1 b2 b3] at nd;have on:=h.on;rw [<- pO ls ms a f g x q o b1 b2 b3] at on;have hB:=aog ls ms a f g x q o b1 b2 b3;have R4:(C9 (G7 ls ms a f g x q o b1 b2 b3)).length=11:=by rw [lL];simp only [C8,A4,K9,k8];lia
 have lt:∀ p∈ls,(p,("letter" : Str))∈C9 (G7 ls ms a f g x q o b1 b2 b3):=fun p hp=>by rw [lL];exact N7 _ (E2.mpr ⟨p,hp,rfl⟩)
 have mk:∀ p∈ms,(p,("mark" : Str))∈C9 (G7 ls ms a f g x q o b1 b2 b3):=fun p hp=>by rw [lL];exact M6 _ (N7 _ (E2.mpr ⟨p,hp,rfl⟩))
 have no:∀ {z:Rl} {w:Str},z.2=[]/\flagW z.1->z.1=w->¬ (w="row"\/w="marks"\/w="great"\/w="as"\/w="over"):=fun {z w} hz e hw=>by
  obtain ⟨n1,n2,n3,n4,n5⟩:=hz.2.no;rw [e] at n1 n2 n3 n4 n5
  rcases hw with h | h | h | h | h <;> contradiction
 refine ⟨by lia,by lia,?_,?_,fun z hz=>?_,fun z hz hw=>?_,fun z hz hw p hp=>?_,fun z hz hw p hp=>?_,fun z hz hw p hp=>?_,?_,?_,fun e he=>?_,fun e he=>?_⟩
 .intro i p j hi;have hm:=M7 hi;have hpo:=on p (E2.mpr ⟨_,hm,rfl⟩);refine ⟨?_,fun hq=>?_,fun hf c hc=>?_,?_⟩
  .unfold gOf;rw [ah0 nd hm];rfl
  .exfalso
   obtain ⟨⟨p',j'⟩,xK,e0⟩:=E2.mp hq;obtain ⟨m,qP,e⟩:=jK.mp xK;obtain ⟨V4,e2⟩:=E9.mp hi;rw [s0,List.pairwise_map,bI] at nd;refine nd m i (by lia) V4 (by lia) ?_;rw [e,e2];exact e0
  .rw [(vB ls ms a f g x q o b1 b2 b3).1] at hf
   rcases hpo with ⟨c',rfl,P3⟩ | ⟨c',d,rfl,P3,hd,_⟩
   .rw [D1.mp (show c∈[c'] from hc)];exact P3.2 hf
   .rcases E5.mp (show c∈[c',d] from hc) with e | e
    .rw [e];exact P3.2 hf
    .rw [D1.mp e];exact hd.2 hf
  .rcases hpo with ⟨c',rfl,P3⟩ | ⟨c',d,rfl,P3,hd,_⟩
   .show 1<=1000;decide
   .show 2<=1000;decide
 .intro hb
  rcases on _ hb with ⟨c,e,hc⟩ | ⟨c,d,e,_⟩
  .have e1:[32]=[c]:=congrArg (fun z:Str=>z.cps.toList) e;rw [<- List.singleton_inj.mp e1] at hc;exact absurd hc.1 (by decide)
  .have e1:[32]=[c,d]:=congrArg (fun z:Str=>z.cps.toList) e;cases e1
 .rcases iC hz with rfl | rfl | rfl | rfl | rfl | hz
  .show ls.length<=1000;lia
  .show ms.length<=1000;lia
  .show 3<=1000;decide
  .show 3<=1000;decide
  .show 1<=1000;decide
  .rw [hz.1];show 0<=1000;decide
 .rcases iC hz with rfl | rfl | rfl | rfl | rfl | hz
  .intro e;rw [show ls=[] from e] at aX;cases aX
  .intro e;rw [show ms=[] from e] at cX;cases cX
  .exact List.cons_ne_nil _ _
  .exact List.cons_ne_nil _ _
  .exact List.cons_ne_nil _ _
  .rcases hw with hw | hw
   .exact absurd (.inr (.inr (.inr (.inl rfl)))) (no hz hw)
   .exact absurd (.inr (.inr (.inl rfl))) (no hz hw)
 .rcases iC hz with rfl | rfl | rfl | rfl | rfl | hz
  .exact absurd (show Str.ofString "row"=_ from hw) (by decide +kernel)
  .exact absurd (show Str.ofString "marks"=_ from hw) (by decide +kernel)
  .rw [D1.mp (show p∈[a] from hp)];exact lt a h.al
  .exact absurd (show Str.ofString "as"=_ from hw) (by decide +kernel)
  .exact absurd (show Str.ofString "over"=_ from hw) (by decide +kernel)
  .exact absurd (.inr (.inr (.inl rfl))) (no hz hw)
 .rcases iC hz with rfl | rfl | rfl | rfl | rfl | hz
  .exact absurd (show Str.ofString "row"=_ from hw) (by decide +kernel)
  .exact absurd (show Str.ofString "marks"=_ from hw) (by decide +kernel)
  .exact absurd (show Str.ofString "great"=_ from hw) (by decide +kernel)
  .rw [D1.mp (show p∈[a] from hp)];exact lt a h.al
  .exact absurd (show Str.ofString "over"=_ from hw) (by decide +kernel)
  .exact absurd (.inr (.inr (.inr (.inl rfl)))) (no hz hw)
 .rcases iC hz with rfl | rfl | rfl | rfl | rfl | hz
  .exact absurd (show Str.ofString "row"=_ from hw) (by decide +kernel)
  .exact absurd (show Str.ofString "marks"=_ from hw) (by decide +kernel)
  .exact absurd (show Str.ofString "great"=_ from hw) (by decide +kernel)
  .rw [D1.mp (show p∈[q] from hp)];exact (D3.mp h.qm).imp (lt q) (mk q)
  .exact absurd (show Str.ofString "over"=_ from hw) (by decide +kernel)
  .exact absurd (.inr (.inr (.inr (.inl rfl)))) (no hz hw)
 .rw [(pP ls ms a f g x q o b1 b2 b3).1];simp;lia
 .rw [(pP ls ms a f g x q o b1 b2 b3).2];simp;lia
 .rw [(pP ls ms a f g x q o b1 b2 b3).1] at he;exact agj h.ndl (by simpa [edges] using he)
 .rw [(pP ls ms a f g x q o b1 b2 b3).2] at he;exact agj h.ndm (by simpa [edges] using he)
theorem Sh5.known{a f g:Str}(h:Sh5 ls ms a f g x q o b1){p:Str}(hp:p∈E4 (G7 ls ms a f g x q o b1 b2 b3)):p=one 32\/p∈ls++(ms++[f,g,x,o]):=by
 rcases agY hp with e | e
 .exact .inl (e.trans uP)
 .rw [pO] at e;exact .inr e
theorem Sh5.two{a f g:Str}(h:Sh5 ls ms a f g x q o b1){p:Str}(hp:p∈E4 (G7 ls ms a f g x q o b1 b2 b3)):(∃ c,p=one c/\0<c/\(b1=true->figO c=false))\/∃ c d,p=two c d/\j8 b1 c/\j8 b1 d/\one d∈ls:=by
 rcases h.known hp with e | e
 .exact .inl ⟨32,e,by decide,fun _=>by decide⟩
 .rcases h.on p e with ⟨c,e,hc⟩ | e
  .refine .inl ⟨c,e,?_,hc.2⟩
   have:=hc.1
   unfold signB at this;simp only [X0,decide_eq_true_eq] at this;lia
  .exact .inr e
theorem Sh5.kin{a f g:Str}(h:Sh5 ls ms a f g x q o b1){p:Str}(hp:p∈ls++(ms++[f,g,x,o])):p∈E4 (G7 ls ms a f g x q o b1 b2 b3):=alO (by rw [pO];exact hp)
theorem Sh5.whole{a f g:Str}(h:Sh5 ls ms a f g x q o b1)(hz:z.cps.toList=flatP ps)(hp:∀ p∈ps,eO b1 (E4 (G7 ls ms a f g x q o b1 b2 b3)) p):n6 b1 (E4 (G7 ls ms a f g x q o b1 b2 b3)) z:=by
 unfold n6;rw [hz,aeS (ks:=E4 (G7 ls ms a f g x q o b1 b2 b3)) (fun hw p hp c hc=>?_) (fun c d e _ _ h3=>?_) (fun p hp=>(h.two hp).imp (by rintro ⟨c,e,_⟩;exact ⟨c,e⟩) fun ⟨c,d,e,_⟩=>⟨c,d,e⟩) _ ps hp (A8 _),<- hz,lenL]
 .rcases h.two hp with ⟨c',rfl,_,P3⟩ | ⟨c',d,rfl,P3,hd,_⟩
  .rw [D1.mp (show c∈[c'] from hc)];exact P3 hw
  .rcases E5.mp (show c∈[c',d] from hc) with e | e
   .rw [e];exact P3.2 hw
   .rw [D1.mp e];exact hd.2 hw
 .rcases h.two h3 with ⟨c',e',_⟩ | ⟨c',d',e',_,_,hd⟩
  .have e1:[d,e]=[c']:=congrArg (fun z:Str=>z.cps.toList) e';cases e1
  .have e1:[d,e]=[c',d']:=congrArg (fun z:Str=>z.cps.toList) e';rw [(l6.inj (l6.inj e1).2).1];exact h.kin (N7 _ hd)
theorem Sh5.knownL{a f g:Str}(h:Sh5 ls ms a f g x q o b1):(E4 (G7 ls ms a f g x q o b1 b2 b3)).length<=1000:=by
 unfold E4;rw [C8];have h1:=tT (C9 (G7 ls ms a f g x q o b1 b2 b3));have h2:=(h.good (b2:=b2) (b3:=b3)).plen;have h4:(C9 (G7 ls ms a f g x q o b1 b2 b3)).length=11:=by
  have aX:=h.l1;have cX:=h.m1;rw [lL];simp only [C8,A4,K9,k8];lia
 have h3:(Y8 (G7 ls ms a f g x q o b1 b2 b3)).length<=1:=by unfold Y8;split <;> simp
 lia
theorem Sh5.steps{a f g:Str}(h:Sh5 ls ms a f g x q o b1)(L M:List Str)(y:Str):(stepY (G7 ls ms a f g x q o b1 b2 b3) L M y).length<=15:=by
 unfold L2.stepY
 split
 .show 1<=15;decide
 unfold stepF;cases e:(putsL (G7 ls ms a f g x q o b1 b2 b3) L M).lookup y with
 | none=>simp
 | some s=>
  obtain ⟨l1,l2,el,_⟩:=List.lookup_eq_some_iff.mp e;have hp:(y,s)∈putsL (G7 ls ms a f g x q o b1 b2 b3) L M:=by rw [el];simp
  show s.length<=15;unfold putsL at hp
  rcases D3.mp hp with hp | hp
  .rcases D3.mp hp with hp | hp
   .rcases D3.mp hp with hp | hp
    .obtain ⟨e,_,q⟩:=E2.mp hp;rw [<- (Prod.mk.inj q).2];exact Nat.le_add_left 1 14
    .obtain ⟨e,_,q⟩:=E2.mp hp;rw [<- (Prod.mk.inj q).2];exact Nat.le_add_left 1 14
   .obtain ⟨w,_,hp⟩:=g7.mp hp;obtain ⟨e,_,q⟩:=E2.mp hp;rw [<- (Prod.mk.inj q).2];exact Nat.le_add_left 1 14
  .unfold kU at hp;obtain ⟨z,hz,qq⟩:=gB.mp hp
   split at qq
   .obtain ⟨p',_,qq⟩:=jY.mp qq;rw [<- (Prod.mk.inj qq).2,A4];have aX:=h.l1;have cX:=h.m1
    rcases iC hz with rfl | rfl | rfl | rfl | rfl | hz
    .show (ls.drop 1).length<=15;rw [t8];lia
    .show (ms.drop 1).length<=15;rw [t8];lia
    .show 2<=15;decide
    .show 2<=15;decide
    .show 0<=15;decide
    .rw [hz.1];show 0<=15;decide
   .cases qq
noncomputable def cP (c:Nat->Nat) (i:Nat) (pc:Nat->Str):Prop:=∀ k,pc k=one (c k)\/k∈([4,8,9]:List Nat).take i/\∃ t,t<4/\pc k=two (c k) (c t)
noncomputable def e9 (pc:Nat->Str):List V:=(P6 10).map fun k=>V.str (pc k)
theorem iD(pc:Nat->Str)(hk:k<10):(e9 pc)[k]?=some (V.str (pc k)):=by
 unfold e9;rw [L7,List.getElem?_range hk];rfl
theorem aoh(pc:Nat->Str)(hk:k<10)(z:Str):(e9 pc).set k (V.str z)=e9 fun j=>if j=k then z else pc j:=by
 unfold e9
 apply List.ext_getElem?
 intro j;rw [List.getElem?_set,L7,L7,A4,bL]
 by_cases hj:j<10
 .rw [List.getElem?_range hj]
  by_cases e:k=j
  .subst e;rw [if_pos rfl,if_pos hk]
   simp
  .rw [if_neg e];simp [Ne.symm e]
 .rw [List.getElem?_eq_none (by rw [bL];lia),if_neg (by lia)];rfl
noncomputable def R3 (c:Nat->Nat):List Str:=[one (c 0),one (c 1),one (c 2),one (c 3)]
noncomputable def rowS (c:Nat->Nat) (j t:Nat):List Str:=([one (c 0),one (c 1),one (c 2),one (c 3)].take t)++[two (c 0) (c j)]++([one (c 0),one (c 1),one (c 2),one (c 3)].drop t)
theorem rowS_mem{c:Nat->Nat}{t:Nat}{p:Str} : p∈rowS c j t↔p=two (c 0) (c j)\/p∈[one (c 0),one (c 1),one (c 2),one (c 3)]:=by
 unfold rowS;rw [D3,D3,D1]
 constructor
 .rintro ((h | h) | h)
  .exact .inr (nR h)
  .exact .inl h
  .exact .inr (List.mem_of_mem_drop h)
 .rintro (h | h)
  .exact .inl (.inr h)
  .rw [<- g3 t [one (c 0),one (c 1),one (c 2),one (c 3)]] at h
   rcases D3.mp h with h | h
   .exact .inl (.inl h)
   .exact .inr h
theorem pl_hd{c:Nat->Nat}{pc:Nat->Str}(P:cP c i pc)(k:Nat):∃ r,(pc k).cps.toList=c k::r:=by
 rcases P k with e | ⟨_,t,_,e⟩
 .rw [e];exact ⟨[],rfl⟩
 .rw [e];exact ⟨[c t],rfl⟩
theorem arc{c:Nat->Nat}{pc:Nat->Str}(P:cP c i pc)(inj:∀ k<10,∀ l<10,c k=c l->k=l){l:Nat}(hk:k<10)(hl:l<10)(e:pc k=pc l):k=l:=by
 obtain ⟨r,h1⟩:=pl_hd P k;obtain ⟨s,h2⟩:=pl_hd P l;rw [e,h2] at h1;exact inj k hk l hl (l6.inj h1).1.symm
theorem ard{c:Nat->Nat}{w:Bool}{pc:Nat->Str}(ok:∀ k,j8 w (c k))(inj:∀ k<10,∀ l<10,c k=c l->k=l)(P:cP c i pc){t:Nat}(hj:j<4)(ht:t<=4)(hq:q=pc 4\/q=one (c 1)) :
  Sh5 (rowS c j t) [pc 4,pc 5] (one (c 0)) (pc 6) (pc 7) (pc 8) q (pc 9) w:=by
 have low:∀ k,k<4->one (c k)∈rowS c j t:=fun k hk=>by
  rw [rowS_mem]
  right
  have:k=0\/k=1\/k=2\/k=3:=by lia
  rcases this with rfl | rfl | rfl | rfl <;> simp
 have pm:(rowS c j t++([pc 4,pc 5]++[pc 6,pc 7,pc 8,pc 9])).Perm (two (c 0) (c j)::([one (c 0),one (c 1),one (c 2),one (c 3)]++[pc 4,pc 5,pc 6,pc 7,pc 8,pc 9])):=by
  rw [<- k7];refine List.Perm.append ?_ (List.Perm.refl _);unfold rowS;rw [Q5];refine List.Perm.trans List.perm_middle (List.Perm.cons _ ?_);show (List.take t [one (c 0),one (c 1),one (c 2),one (c 3)]++List.drop t [one (c 0),one (c 1),one (c 2),one (c 3)]).Perm _;rw [g3]
 have one_i:∀ {x y:Nat},one x=one y->x=y:=fun {x y} e=>List.singleton_inj.mp (congrArg (fun z:Str=>z.cps.toList) e)
 refine ⟨low 0 (by decide),?_,?_,rfl,?_,fun p hp=>?_⟩
 .rcases hq with rfl | rfl
  .exact M6 _ J9
  .exact N7 _ (low 1 (by decide))
 .unfold rowS;simp only [C8,G6,t8,K9,k8];lia
 .rw [pm.nodup_iff,U5];have e:[one (c 0),one (c 1),one (c 2),one (c 3)]++[pc 4,pc 5,pc 6,pc 7,pc 8,pc 9]=(P6 10).map (fun k=>if k<4 then one (c k) else pc k):=rfl;have P':cP c i (fun k=>if k<4 then one (c k) else pc k):=fun k=>by
   show (if k<4 then one (c k) else pc k)=_\/_/\∃ t,t<4/\(if k<4 then one (c k) else pc k)=two (c k) (c t)
   by_cases hk:k<4
   .rw [if_pos hk];exact .inl rfl
   .rw [if_neg hk]
    rcases P k with e | ⟨h1,t,h2,e⟩
    .exact .inl e
    .exact .inr ⟨h1,t,h2,e⟩
  refine ⟨fun h=>?_,?_⟩
  .rw [e] at h;obtain ⟨k,hk,e1⟩:=E2.mp h;have hk:=W9.mp hk;obtain ⟨r,e2⟩:=pl_hd P' k;have e3:(two (c 0) (c j)).cps.toList=c k::r:=by rw [<- e1];exact e2
   have k0:=inj 0 (by decide) k hk (l6.inj (show [c 0,c j]=c k::r from e3)).1;subst k0;have e4:[c 0]=[c 0,c j]:=congrArg (fun z:Str=>z.cps.toList) e1;cases e4
  .rw [e,s0,List.pairwise_map];refine List.Pairwise.imp_of_mem ?_ (s0.mp List.nodup_range);intro a b ha hb n e;exact n (arc P' inj (W9.mp ha) (W9.mp hb) e)
 .have aI:∀ k,(∃ x,pc k=one x/\j8 w x)\/∃ x d,pc k=two x d/\j8 w x/\j8 w d/\one d∈rowS c j t:=fun k=>by
   rcases P k with e | ⟨_,t,ht,e⟩
   .exact .inl ⟨_,e,ok k⟩
   .exact .inr ⟨_,_,e,ok k,ok t,low t ht⟩
  rcases D3.mp hp with hp | hp
  .rcases rowS_mem.mp hp with rfl | hp
   .exact .inr ⟨_,_,rfl,ok 0,ok j,low j hj⟩
   .simp only [E5,g6,or_false] at hp
    rcases hp with rfl | rfl | rfl | rfl <;> exact .inl ⟨_,rfl,ok _⟩
  .simp only [k7,t9,E5,g6,or_false] at hp
   rcases hp with rfl | rfl | rfl | rfl | rfl | rfl <;> exact aI _
theorem cP.step{c:Nat->Nat}{pc:Nat->Str}(P:cP c i pc)(hk:([4,8,9]:List Nat)[i]?=some k)(b:Bool){t:Nat}(ht:t<4):pc k=one (c k)/\cP c (i+1) fun j=>if j=k then (if b=true then two (c k) (c t) else one (c k)) else pc j:=by
 have hi:=(E9.mp hk).1;have e:([4,8,9]:List Nat).take (i+1)=([4,8,9]:List Nat).take i++[k]:=K8 hk;have y3:pc k=one (c k):=by
  rcases P k with e | ⟨h,_⟩
  .exact e
  .exfalso
   have nd:(([4,8,9]:List Nat).take (i+1)).Nodup:=List.Nodup.sublist (List.take_sublist _ _) (by decide);rw [e,Z7] at nd;exact nd.2.2 k h k (D1.mpr rfl) rfl
 refine ⟨y3,fun j=>?_⟩;rw [e];show (if j=k then (if b=true then two (c k) (c t) else one (c k)) else pc j)=_\/_/\∃ t',t'<4/\(if j=k then (if b=true then two (c k) (c t) else one (c k)) else pc j)=two (c j) (c t')
 by_cases hj:j=k
 .subst hj;rw [if_pos rfl]
  cases b with
  | true=>exact .inr ⟨M6 _ (D1.mpr rfl),t,ht,rfl⟩
  | false=>exact .inl rfl
 .rw [if_neg hj];exact (P j).imp id fun ⟨h,t,ht,e⟩=>⟨N7 _ h,t,ht,e⟩
theorem mulB(c:Nat)(b:Bool):MulOk (one c) (if b=true then 1 else 0)/\Txt.mul (one c) (if b=true then 1 else 0)=if b=true then one c else Str.empty:=by
 cases b with
 | true=>exact ⟨⟨by decide,fun _ h=>(by cases h),fun _ h=>(by cases h)⟩,rfl⟩
 | false=>exact ⟨⟨by decide,fun h=>absurd (by decide) h,fun h=>absurd (by decide) h⟩,rfl⟩
noncomputable def vC (w b:Bool) (tp:List Str) (p:Str):Prop:=p∈tp\/(w=true/\RunP p/\1<=p.length/\p.length<=3)\/b=true/\p=one 32
theorem al1:∀ p∈([Str.ofString "7",Str.ofString "12",Str.ofString "007",Str.ofString "0"]:List Str),RunP p/\1<=p.length/\p.length<=3:=by
 intro p hp;simp only [E5,g6,or_false] at hp
 rcases hp with rfl | rfl | rfl | rfl <;> exact ⟨⟨by decide +kernel,by decide +kernel⟩,by decide +kernel,by decide +kernel⟩
theorem aeW{k:Addr}{ts:List Addr}{o:HO}(h:RulesAt H0 H a ts R)(hk:H k=some (.lst xs))(hka:k≠a)(n:H0 k=none):RulesAt H0 (A0 H k o) a ts R:=by
 refine h.put (fun hm=>?_) n
 rcases E5.mp hm with e | e
 .exact hka e
 .obtain ⟨i,hi,e2⟩:=W8.mp e;obtain ⟨z,_,hz⟩:=Paired.at h.rows.row (i:=i) (a:=k) (by rw [F8 hi,e2]);rw [hk] at hz;cases hz
noncomputable def pQ (w:Bool) (R:List Rl) (ks:List Str):Prop:=ks≠[]/\ks.length<=16/\∀ p∈ks,PcL w (E4 R) p/\p.length<=3/\p≠Str.ofString ""
noncomputable def amC:Sp:=fun vs H Q _=>∃ (n:Int),vs=[.int n]/\∀ (l r k:Addr) (ts:List Addr) (ls ms ks:List Str) (a f g x q o:Str) (b1 b2 b3:Bool) (H':Hp),Same H H'->H r=none->H k=none->H' l=some (.tup [.ref r,.ref k])->IsRules H' r ts (G7 ls ms a f g x q o b1 b2 b3)->Sh5 ls ms a f g x q o b1->
 H' k=some (.lst (ks.map V.str))->pQ b1 (G7 ls ms a f g x q o b1 b2 b3) ks->Q (.ref l) H'
theorem Sh5.pks{a f g:Str}(h:Sh5 ls ms a f g x q o b1)(h0:ks≠[])(h1:ks.length<=16)(hk:∀ p∈ks,vC b1 b2 (ls++(ms++[f,g,x,o])) p):pQ b1 (G7 ls ms a f g x q o b1 b2 b3) ks:=by
 refine ⟨h0,h1,fun p hp=>?_⟩;have ne:∀ {p:Str},1<=p.length->p≠Str.ofString "":=fun h e=>by rw [e] at h;exact absurd h (by decide)
 rcases hk p hp with e | ⟨e1,e2,e3,e4⟩ | ⟨e1,e2⟩
 .have hl:1<=p.length/\p.length<=3:=by
   rcases h.on p e with ⟨c,rfl,_⟩ | ⟨c,d,rfl,_⟩
   .exact ⟨A8 1,(by decide:1<=3)⟩
   .exact ⟨(by decide:1<=2),(by decide:2<=3)⟩
  exact ⟨.inl (h.kin e),hl.2,ne hl.1⟩
 .exact ⟨.inr ⟨⟨e1,e2⟩,by lia⟩,e4,ne e3⟩
 .refine ⟨.inl ?_,by rw [e2];exact (by decide:1<=3),by rw [e2];exact ne (A8 1)⟩;unfold E4 Y8;rw [(vB ls ms a f g x q o b1 b2 b3).2.1,if_pos e1,e2,<- uP];exact M6 _ (D1.mpr rfl)
structure OrdT(C:Addr)(H:Hp)(x:Addr)(R:List Rl)(L M:List Str):Prop where
 ord:∃ j ll ml md g,IsOrd C H x j ll ml md g R L M
 kn:(E4 R).length<=1000
 st:∀ y,(stepY R L M y).length<=15
theorem OrdT.same{x:Addr}(h:OrdT C H x R L M)(S:Same H H'):OrdT C H' x R L M:=
 let ⟨j,ll,ml,md,g,o⟩:=h.ord
 ⟨⟨j,ll,ml,md,g,o.same S⟩,h.kn,h.st⟩
noncomputable def TxtT (R:List Rl) (z:Str):Prop:=z.length<=500/\n6 (hasW R "figures") (E4 R) z
noncomputable def shF (o d:Addr):List (Str×V):=putF "kept" (.ref d) (putF "order" (.ref o) [])
structure IsShf(C2:Addr)(H:Hp)(s ds o d:Addr)(ks:List Str)(κ:Str->List Int)(ad:Str->Addr):Prop where
 ob:H s=some (.ins C2 ds (shF o d))
 kp:H d=some (.dK (B5 ks fun z=>.ref (ad z)))
 kl:∀ z∈ks,H (ad z)=some (.lst ((κ z).map V.int))
 nd:ks.Nodup
theorem are{ad:Str->Addr}(h:z∉ks):putK (B5 ks fun y=>V.ref (ad y)) (Sum.inr z:C1) (V.ref p)=B5 (ks++[z]) fun y=>V.ref (if y=z then p else ad y):=by
 rw [cG _ h];refine U0 fun t _=>?_
 by_cases e:t=z
 .rw [if_pos e,if_pos e]
 .rw [if_neg e,if_neg e]
theorem keepP{P:Addr}{pos:Pos}(S:SameP P H H')(hT:TabOk H P pos qn){o:HO}(hb:H b=some o)(hn:∀ ps,o≠.tbl ps):H' b=some o:=
 S b o (fun e=>by
  rw [e] at hb
  rcases hT with h | ⟨c,h,_⟩
  .rw [hb] at h;exact hn _ (Option.some.inj h)
  .rw [hb] at h;exact hn _ (Option.some.inj h)) hb
noncomputable def Kp (H H':Hp):Prop:=∀ b o,H b=some o->(∀ ps,o≠HO.tbl ps)->H' b=some o
theorem Kp.of(S:Same H H'):Kp H H':=fun b o e _=>S b o e
theorem Kp.tr(a:Kp H H1)(b:Kp H1 H2):Kp H H2:=fun x o e n=>b x o (a x o e n) n
theorem Kp.tab{P:Addr}{pos:Pos}(S:SameP P H H')(hT:TabOk H P pos qn):Kp H H':=fun _ _ e n=>keepP S hT e n
theorem Kp.but{d:Addr}(k:Kp H H1)(B:SameBut d H1 H2)(n:H d=none):Kp H H2:=fun b o e m=>B b o (fun q=>by rw [q,n] at e;cases e) (k b o e m)
theorem ako{d:Addr}{o:HO} : SameBut d H (A0 H d o):=fun b u hb e=>by rw [A3 hb];exact e
theorem OrdT.kp{x:Addr}(h:OrdT C H x R L M)(k:Kp H H'):OrdT C H' x R L M:=by
 obtain ⟨j,ll,ml,md,g,o⟩:=h.ord;obtain ⟨dx,e⟩:=o.ob;obtain ⟨ad,m1,m2⟩:=o.made;refine ⟨⟨j,ll,ml,md,g,⟨dx,k _ _ e (by intro ps q;cases q)⟩,k _ _ o.jobs (by intro ps q;cases q),k _ _ o.lets (by intro ps q;cases q),k _ _ o.mrks (by intro ps q;cases q),⟨ad,k _ _ m1 (by intro ps q;cases q),fun y hy=>?_⟩,o.l1,o.l2⟩,h.kn,h.st⟩;obtain ⟨ts,t1,t2⟩:=(m2 y hy).ex;exact ⟨ts,k _ _ t1 (by intro ps q;cases q),O4 t2 fun _ _ e=>k _ _ e (by intro ps q;cases q)⟩
theorem aoi{P d:Addr}{pos:Pos}{u:HO}(hT:TabOk H P pos qn)(B:SameBut d H H')(hd:H d=some u)(n1:∀ ps,u≠HO.tbl ps)(n2:∀ φ,u≠HO.ext φ):TabOk H' P pos qn:=by
 rcases hT with h | ⟨c,h,h'⟩
 .exact .inl (B _ _ (fun e=>by rw [e,hd] at h;exact n1 _ (Option.some.inj h)) h)
 .exact .inr ⟨c,B _ _ (fun e=>by rw [e,hd] at h;exact n1 _ (Option.some.inj h)) h,B _ _ (fun e=>by rw [e,hd] at h';exact n2 _ (Option.some.inj h')) h'⟩
structure OnS(C2 P:Addr)(pos:Pos)(qn:Str)(H5 H:Hp)(s ds o d th c0:Addr)(cs:List Int)(ks:List Str)(κ:Str->List Int)(ad:Str->Addr)(zs:List Str):Prop where
 kp:Kp H5 H
 tb:TabOk H P pos qn
 sh:IsShf C2 H s ds o d ks κ ad
 tl:H th=some (.lst (ks.map V.str))
 ct:H c0=some (.lst (cs.map V.int))
 nt:∀ y∈ks,ad y≠th
 sub:∀ y∈ks,y∈zs
noncomputable def n8 (ks:List Str) (n:Nat) (z:Str):Prop:=∃ ps:List Str,(∀ p∈ps,p∈ks)/\ps.length<=n/\z.cps.toList=flatP ps
theorem n8.sub{ks':List Str}(h:n8 ks n z)(hs:∀ p∈ks,p∈ks')(hn:n<=n'):n8 ks' n' z:=
 let ⟨ps,h1,h2,h3⟩:=h
 ⟨ps,fun p hp=>hs p (h1 p hp),L4 h2 hn,h3⟩
theorem Sh5.txt{a f g:Str}(h:Sh5 ls ms a f g x q o b1)(hP:pQ b1 (G7 ls ms a f g x q o b1 b2 b3) ks)(hz:n8 ks n z)(hn:n<=100):TxtT (G7 ls ms a f g x q o b1 b2 b3) z:=by
 obtain ⟨ps,h1,h2,h3⟩:=hz;have hl:(flatP ps).length<=3*ps.length:=by
  clear h2 h3
  induction ps with
  | nil=>exact A8 _
  | cons p ps ih=>
   have:=ih fun q hq=>h1 q (L6 _ hq)
   have:=(hP.2.2 p (h1 p J9)).2.1
   rw [eP,C8,lenL,K9];lia
 refine ⟨by rw [<- lenL,h3];lia,?_⟩;rw [(vB ls ms a f g x q o b1 b2 b3).1];exact h.whole h3 fun p hp=>(hP.2.2 p (h1 p hp)).1.imp id And.left
theorem akp{d:Value}(h:(us++[d]).length=4):∃ u1 u2 u3,us=[u1,u2,u3]:=by
 match us,h with
 | [a,b,c],_=>exact ⟨a,b,c,rfl⟩
 | [],h=>simp at h
 | [_],h=>simp at h
 | [_,_],h=>simp at h
 | _::_::_::_::r,h=>simp at h
theorem aoj(h:(us++[]).length=4):∃ u1 u2 u3 u4,us=[u1,u2,u3,u4]:=by
 match us,h with
 | [a,b,c,d],_=>exact ⟨a,b,c,d,rfl⟩
 | [],h=>simp at h
 | [_],h=>simp at h
 | [_,_],h=>simp at h
 | [_,_,_],h=>simp at h
 | _::_::_::_::_::r,h=>simp at h
inductive LvD where
 | tt (xs:List (List Int))
 | ii (xs:List Int)
 | ss (z:Str)
deriving DecidableEq
noncomputable def LvD.kind:LvD->Nat
 | .tt _=>0
 | .ii _=>1
 | .ss _=>2
noncomputable def LvD.lt:LvD->LvD->Bool
 | .tt xs,.tt ys=>decide (xs<ys)
 | .ii xs,.ii ys=>decide (xs<ys)
 | .ss x,.ss y=>decide (x.cps.toList<y.cps.toList)
 | _,_=>false
noncomputable def LvAt (H:Hp) (v:V):LvD->Prop
 | .tt xs=>∃ (a:Addr) (as:List Addr),v=.ref a/\H a=some (.lst (as.map V.ref))/\Paired (fun c (x:List Int)=>H c=some (.tup (x.map V.int))) as xs
 | .ii xs=>∃ a:Addr,v=.ref a/\H a=some (.lst (xs.map V.int))
 | .ss z=>v=.str z
theorem LvAt.same{v:V}{d:LvD}(h:LvAt H v d)(S:Same H H'):LvAt H' v d:=by
 cases d with
 | tt xs=>obtain ⟨a,as,e,h1,h2⟩:=h;exact ⟨a,as,e,S _ _ h1,O4 h2 fun _ _ e=>S _ _ e⟩
 | ii xs=>obtain ⟨a,e,h1⟩:=h;exact ⟨a,e,S _ _ h1⟩
 | ss z=>exact h
theorem vD : ∀ {as:List Addr} {xs:List (List Int)},Paired (fun c (x:List Int)=>H c=some (.tup (x.map V.int))) as xs->DnAll K H (as.map V.ref) (xs.map fun x=>PyData.tuple (x.map z8))
 | _,_,.nil=>.nil
 | _,_,.cons h t=>.cons (.tup (.of h) cA) (vD t)
theorem ah1:∀ xs ys:List (List Int),X2 (xs.map fun x=>PyData.tuple (x.map z8)) (ys.map fun x=>PyData.tuple (x.map z8))=decide (xs=ys)
 | [],[]=>by simp [X2]
 | [],_::_=>by simp [X2]
 | _::_,[]=>by simp [X2]
 | x::xs,y::ys=>by
  rw [K0,K0,X2,U7,kG,ah1 xs ys,gH]
  simp
theorem ah2:∀ xs:List (List Int),bS (xs.map fun x=>PyData.tuple (x.map z8))<=1
 | []=>G3 _
 | x::xs=>by
  rw [K0,bS,z0,kH]
  have:=ah2 xs
  lia
theorem LvAt.ne{v:V}{d d':LvD}(h:LvAt H v d)(h':LvAt H v' d')(hk:d.kind=d'.kind)(q:Q (.bl (!decide (d=d'))) H):rNeU K v v' H Q:=by
 cases d with
 | tt xs=>cases d' with
  | tt ys=>
   obtain ⟨a,as,rfl,h1,h2⟩:=h;obtain ⟨b,bs,rfl,h3,h4⟩:=h';refine ⟨_,_,.lst (.of h1) (vD h2),.lst (.of h3) (vD h4),?_,?_⟩
   .have:=ah2 xs
    rw [z0];lia
   .rw [U7,ah1,show decide (xs=ys)=decide (LvD.tt xs=LvD.tt ys) by simp];exact q
  | _=>cases hk
 | ii xs=>cases d' with
  | ii ys=>
   obtain ⟨a,rfl,h1⟩:=h;obtain ⟨b,rfl,h3⟩:=h';refine ⟨_,_,.lst (.of h1) cA,.lst (.of h3) cA,by rw [z0,kH];lia,?_⟩;rw [U7,kG,show decide (xs=ys)=decide (LvD.ii xs=LvD.ii ys) by simp];exact q
  | _=>cases hk
 | ss x=>cases d' with
  | ss y=>
   cases h;cases h';show Q (.bl (!decide (x=y))) H;rw [show decide (x=y)=decide (LvD.ss x=LvD.ss y) by simp];exact q
  | _=>cases hk
theorem LvAt.lt{v:V}{d d':LvD}(h:LvAt H v d)(h':LvAt H v' d')(hk:d.kind=d'.kind)(q:Q (.bl (d.lt d')) H):rLtK K v v' H Q:=by
 cases d with
 | tt xs=>cases d' with
  | tt ys=>
   obtain ⟨a,as,rfl,h1,h2⟩:=h;obtain ⟨b,bs,rfl,h3,h4⟩:=h';exact .inr (.inr ⟨as,bs,xs,ys,.of h1,.of h3,O4 h2 fun _ _ e=>.of e,O4 h4 fun _ _ e=>.of e,q⟩)
  | _=>cases hk
 | ii xs=>cases d' with
  | ii ys=>
   obtain ⟨a,rfl,h1⟩:=h;obtain ⟨b,rfl,h3⟩:=h';exact .inl ⟨xs,ys,.of h1,.of h3,q⟩
  | _=>cases hk
 | ss x=>cases d' with
  | ss y=>cases h;cases h';exact q
  | _=>cases hk
theorem adD : ∀ {es:List (Addr×Addr)} {U:List D6},Paired (fun e (u:D6)=>H1 e.1=some (.tup [.int u.1,.int u.2.1,.ref e.2,.int u.2.2.2])/\H1 e.2=some (.tup (u.2.2.1.map V.int))) es U->Paired (fun c (x:List Int)=>H1 c=some (.tup (x.map V.int))) (es.map (·.2)) (U.map fun u=>u.2.2.1)
 | _,_,.nil=>.nil
 | _,_,.cons h t=>.cons h.2 (adD t)
noncomputable def aO (b:Bool) (U:List D6) (z:Str):List LvD:=[.tt (U.map fun u=>[u.1,u.2.1]),.tt ((if b=true then U.reverse else U).map fun u=>u.2.2.1),.ii (U.map fun u=>u.2.2.2),.ss z]
noncomputable def IsLooks (H:Hp) (l:Addr) (ds:List LvD):Prop:=∃ vs:List V,H l=some (.lst vs)/\Paired (LvAt H) vs ds
theorem IsLooks.same{l:Addr}{ds:List LvD}(h:IsLooks H l ds)(S:Same H H'):IsLooks H' l ds:=
 let ⟨vs,h1,h2⟩:=h
 ⟨vs,S _ _ h1,O4 h2 fun _ _ e=>e.same S⟩
noncomputable def cmpD (d d':LvD):Int:=if d=d' then 0 else if d.lt d'=true then -1 else 1
noncomputable def cmpF (n:Nat) (ds ds':List LvD):Int:=(((g8 cmpD ds ds').take n).find? fun v=>v≠0).getD 0
noncomputable def akq (C:Addr):Sp:=fun vs H Q _=>∃ (x j ll ml md:Addr) (z:Str) (g:Str->Str) (R:List Rl) (L M:List Str),vs=[.ref x,.str z]/\IsOrd C H x j ll ml md g R L M/\(E4 R).length<=1000/\z.length<=500/\n6 (hasW R "figures") (E4 R) z/\(∀ y,(stepY R L M y).length<=15)/\
 ∀ l H',H l=none->Same H H'->IsLooks H' l (aO (hasW R "behind") (N6 (stepY R L M) (cutF (hasW R "figures") (E4 R) z.cps.toList).2) z)->Q (.ref l) H'
noncomputable def aP (R:List Rl) (L M:List Str) (z:Str):List LvD:=aO (hasW R "behind") (N6 (stepY R L M) (cutF (hasW R "figures") (E4 R) z.cps.toList).2) z
noncomputable def pR (C:Addr):Sp:=fun vs H Q _=>∃ (x j ll ml md:Addr) (z z':Str) (n:Nat) (g:Str->Str) (R:List Rl) (L M:List Str),vs=[.ref x,.str z,.str z',.int n]/\n<=4/\IsOrd C H x j ll ml md g R L M/\(E4 R).length<=1000/\z.length<=500/\z'.length<=500/\n6 (hasW R "figures") (E4 R) z/\n6 (hasW R "figures") (E4 R) z'/\(∀ y,(stepY R L M y).length<=15)/\
 ∀ H',Same H H'->Q (.int (cmpF n (aP R L M z) (aP R L M z'))) H'
theorem aha(b b':Bool)(U U':List D6)(z z':Str)(i:Nat)(d d':LvD)(h:(aO b U z)[i]?=some d)(h':(aO b' U' z')[i]?=some d'):d.kind=d'.kind:=by
 match i with
 | 0=>cases h;cases h';rfl
 | 1=>cases h;cases h';rfl
 | 2=>cases h;cases h';rfl
 | 3=>cases h;cases h';rfl
 | i+4=>simp [aO] at h
theorem al2{ds ds':List LvD}{d d':LvD}(hi:i<n)(h:ds[i]?=some d)(h':ds'[i]?=some d')(cY:∀ k<i,ds[k]?=ds'[k]?)(J7:d≠d'):cmpF n ds ds'=cmpD d d':=by
 have hz:(g8 cmpD ds ds')[i]?=some (cmpD d d'):=by rw [List.getElem?_zipWith,h,h']
 have hc:cmpD d d'≠0:=by
  unfold cmpD;rw [if_neg J7]
  split <;> decide
 have h0:∀ v∈(g8 cmpD ds ds').take i,v=0:=by
  intro v hv;obtain ⟨k,hk,e⟩:=jK.mp hv;have hk1:k<i:=by lia
  have e2:(g8 cmpD ds ds')[k]?=some v:=by rw [F8 (by lia),e]
  rw [List.getElem?_zipWith,cY k hk1] at e2
  cases q:ds'[k]? with
  | none=>rw [q] at e2;cases e2
  | some x=>
   rw [q] at e2
   have:cmpD x x=v:=by simpa using e2
   rw [<- this];exact if_pos rfl
 unfold cmpF;have e3:(g8 cmpD ds ds').take n=(g8 cmpD ds ds').take i++(cmpD d d'::((g8 cmpD ds ds').take n).drop (i+1)):=by
  have hl:i<((g8 cmpD ds ds').take n).length:=by
   have:=(E9.mp hz).1
   rw [G6];lia
  have e4:=g3 i ((g8 cmpD ds ds').take n);rw [List.take_take,dQ (dR hi)] at e4
  conv=>lhs;rw [<- e4]
  rw [dL hl]
  have:((g8 cmpD ds ds').take n)[i]=cmpD d d':=by
   rw [List.getElem_take];exact (E9.mp hz).2
  rw [this]
 rw [e3,List.find?_append,List.find?_eq_none.mpr (fun v hv=>by simp [h0 v hv])];simp [hc]
theorem akr{ds ds':List LvD}(cY:∀ k<n,ds[k]?=ds'[k]?):cmpF n ds ds'=0:=by
 unfold cmpF
 have:((g8 cmpD ds ds').take n).find? (fun v=>v≠0)=none:=List.find?_eq_none.mpr fun v hv=>by
  obtain ⟨k,hk,e⟩:=jK.mp hv;have e2:(g8 cmpD ds ds')[k]?=some v:=by rw [F8 (by lia),e]
  rw [List.getElem?_zipWith,cY k (by lia)] at e2
  cases q:ds'[k]? with
  | none=>rw [q] at e2;cases e2
  | some x=>
   rw [q] at e2
   have:cmpD x x=v:=by simpa using e2
   rw [<- this];simp [cmpD]
 rw [this];rfl
theorem vE{α:Type}[LT α](ir:∀ a:α,¬ a<a):∀ xs:List α,¬ xs<xs
 | []=>gF _
 | x::xs=>fun h=>(Y3.mp h).elim (ir x) fun h=>vE ir xs h.2
noncomputable def cmpL:List LvD->List LvD->Int
 | d::ds,e::es=>if d=e then cmpL ds es else cmpD d e
 | _,_=>0
theorem agu:∀ (n:Nat) (ds es:List LvD),cmpF n ds es=cmpL (ds.take n) (es.take n)
 | 0,_,_=>by simp [cmpF,cmpL]
 | n+1,[],es=>by simp [cmpF,cmpL]
 | n+1,d::ds,[]=>by simp [cmpF,cmpL]
 | n+1,d::ds,e::es=>by
  have ih:=agu n ds es;rw [List.take_succ_cons,List.take_succ_cons,cmpL];unfold cmpF at ih ⊢
  rw [List.zipWith_cons_cons,List.take_succ_cons,k9]
  by_cases h:d=e
  .rw [if_pos h,show cmpD d e=0 from if_pos h];exact ih
  .rw [if_neg h]
   have:cmpD d e≠0:=by
    unfold cmpD;rw [if_neg h]
    split <;> decide
   simp [this]
theorem agv(n:Nat)(z z':Str):Paired (fun d e=>d.kind=e.kind) ((aP R L M z).take n) ((aP R L M z').take n):=by
 have h:Paired (fun d e=>d.kind=e.kind) (aP R L M z) (aP R L M z'):=.cons rfl (.cons rfl (.cons rfl (.cons rfl .nil)));exact uS h n
noncomputable def cQ (P:Prop) (Lt:Prop) (l l':List Int):Prop:=(P->l=l')/\(¬ P->∀ s t:List Int,((l++s<l'++t)↔Lt)/\l++s≠l'++t)
theorem f6{a b:Int}{l l':List Int}(h:a≠b)(s t:List Int):((a::l++s<b::l'++t)↔a<b)/\a::l++s≠b::l'++t:=by
 refine ⟨?_,fun e=>h (l6.inj e).1⟩;rw [k7,k7,Y3];exact ⟨fun q=>q.elim id fun q=>absurd q.1 h,.inl⟩
theorem app_lt{p s t:List Int} : (p++s<p++t)↔s<t:=by
 induction p with
 | nil=>exact Iff.rfl
 | cons a p ih=>
  rw [k7,k7,Y3];exact ⟨fun q=>q.elim (fun q=>absurd q (z9 _)) fun q=>ih.mp q.2,fun q=>.inr ⟨rfl,ih.mpr q⟩⟩
theorem iE{α:Type}[LT α](ir:∀ a:α,¬ a<a)(O:α->Prop)(c:α->List Int)(e:Int)(h0:∀ a,O a->∃ h r,c a=h::r/\e<h)(hc:∀ a b,O a->O b->cQ (a=b) (a<b) (c a) (c b)) :
  ∀ xs ys:List α,(∀ x∈xs,O x)->(∀ y∈ys,O y)->cQ (xs=ys) (xs<ys) (xs.flatMap c++[e]) (ys.flatMap c++[e])
 | [],[],_,_=>⟨fun _=>rfl,fun h=>absurd rfl h⟩
 | [],y::ys,_,oy=>by
  obtain ⟨h,r,e1,e2⟩:=h0 y (oy y J9);refine ⟨fun q=>(nomatch q),fun _ s t=>?_⟩;rw [Q9,e1]
  have:=f6 (l:=[]) (l':=r++ys.flatMap c++[e]) (show e≠h by lia) s t
  refine ⟨⟨fun _=>List.nil_lt_cons _ _,fun _=>?_⟩,?_⟩
  .have:=this.1.mpr e2
   simpa using this
  .have:=this.2
   simpa using this
 | x::xs,[],ox,_=>by
  obtain ⟨h,r,e1,e2⟩:=h0 x (ox x J9);refine ⟨fun q=>(nomatch q),fun _ s t=>?_⟩;rw [Q9,e1]
  have:=f6 (l:=r++xs.flatMap c++[e]) (l':=[]) (show h≠e by lia) s t
  refine ⟨⟨fun q=>?_,fun q=>absurd q (gF _)⟩,?_⟩
  .have:=this.1.mp (by simpa using q)
   lia
  .have:=this.2
   simpa using this
 | x::xs,y::ys,ox,oy=>by
  have k4:=hc x y (ox x J9) (oy y J9);have ih:=iE ir O c e h0 hc xs ys (fun z hz=>ox z (L6 _ hz)) fun z hz=>oy z (L6 _ hz)
  refine ⟨fun q=>by rw [q],fun J7 s t=>?_⟩;rw [Q9,Q9,Y3]
  by_cases q:x=y
  .subst q;have p6:xs≠ys:=fun z=>J7 (by rw [z])
   obtain ⟨i1,i2⟩:=ih.2 p6 s t;rw [Q5,Q5,Q5,Q5];rw [Q5] at i1 i2;rw [Q5] at i1 i2;refine ⟨⟨fun z=>.inr ⟨rfl,i1.mp (app_lt.mp z)⟩,fun z=>app_lt.mpr (i1.mpr (z.elim (fun z=>absurd z (ir _)) (·.2)))⟩,fun z=>i2 (List.append_cancel_left z)⟩
  .obtain ⟨i1,i2⟩:=k4.2 q (xs.flatMap c++[e]++s) (ys.flatMap c++[e]++t);simp only [Q5] at i1 i2 ⊢
   exact ⟨⟨fun z=>.inl (i1.mp z),fun z=>i1.mpr (z.elim id fun z=>absurd z.1 q)⟩,i2⟩
theorem aks{a b:Int}{f:Int->Int}(hf:f=(fun x=>x+1)\/f=(fun x=>x+2)):cQ (a=b) (a<b) [f a] [f b]:=by
 refine ⟨fun e=>by rw [e],fun h s t=>?_⟩
 rcases hf with rfl | rfl
 .have:=f6 (a:=a+1) (b:=b+1) (l:=[]) (l':=[]) (by lia) s t
  exact ⟨this.1.trans ⟨fun z=>by lia,fun z=>by lia⟩,this.2⟩
 .have:=f6 (a:=a+2) (b:=b+2) (l:=[]) (l':=[]) (by lia) s t
  exact ⟨this.1.trans ⟨fun z=>by lia,fun z=>by lia⟩,this.2⟩
theorem pS{α β:Type}(f:α->β):∀ xs:List α,(xs.flatMap fun x=>[f x])=xs.map f
 | []=>rfl
 | x::xs=>by rw [Q9,pS f xs];rfl
noncomputable def lM (p:List Int):Prop:=∃ k w:Int,p=[k,w]/\0<=w/\(k=0/\w=0\/k=1\/k=2)
noncomputable def pairC (p:List Int):List Int:=R1 (p.headD 0) (p.tail.headD 0)
theorem aok{k w k' w':Int} : ([k,w]<[k',w'])↔(k<k'\/k=k'/\w<w'):=by
 rw [Y3,Y3];exact ⟨fun q=>q.imp id fun ⟨e,q⟩=>⟨e,q.elim id fun q=>absurd q.2 (gF _)⟩,fun q=>q.imp id fun ⟨e,q⟩=>⟨e,.inl q⟩⟩
theorem al3{p q:List Int}(hp:lM p)(hq:lM q):cQ (p=q) (p<q) (pairC p) (pairC q):=by
 obtain ⟨k,w,rfl,h0,h1⟩:=hp;obtain ⟨k',w',rfl,h0',h1'⟩:=hq;refine ⟨fun e=>by rw [e],fun J7 s t=>?_⟩;rw [aok];have p6:k≠k'\/w≠w':=by
  by_cases e:k=k'
  .exact .inr fun e2=>J7 (by rw [e,e2])
  .exact .inl e
 show ((R1 k w++s<R1 k' w'++t)↔_)/\R1 k w++s≠R1 k' w'++t;unfold R1
 rcases h1 with ⟨rfl,rfl⟩ | rfl | rfl <;> rcases h1' with ⟨rfl,rfl⟩ | rfl | rfl
 .exact (p6.elim (fun h=>h rfl) fun h=>h rfl).elim
 .have:=f6 (a:=1) (b:=2) (l:=[]) (l':=[w'+1]) (by decide) s t
  exact ⟨⟨fun _=>.inl (by decide),fun _=>this.1.mpr (by decide)⟩,this.2⟩
 .have:=f6 (a:=1) (b:=w'+3) (l:=[]) (l':=[]) (by lia) s t
  exact ⟨⟨fun _=>.inl (by decide),fun _=>this.1.mpr (by lia)⟩,this.2⟩
 .have:=f6 (a:=2) (b:=1) (l:=[w+1]) (l':=[]) (by decide) s t
  exact ⟨⟨fun z=>absurd (this.1.mp z) (by decide),fun z=>absurd z (by lia)⟩,this.2⟩
 .have hw:w≠w':=p6.elim (fun h=>absurd rfl h) id
  have:=f6 (a:=w+1) (b:=w'+1) (l:=[]) (l':=[]) (by lia) s t
  refine ⟨⟨fun z=>.inr ⟨rfl,?_⟩,fun z=>?_⟩,fun z=>this.2 (l6.inj z).2⟩
  .have z2:(2:Int)::([w+1]++s)<2::([w'+1]++t):=z;rw [Y3] at z2
   have:=this.1.mp (z2.elim (fun h=>absurd h (by decide)) (·.2))
   lia
  .show (2:Int)::([w+1]++s)<2::([w'+1]++t);rw [Y3];exact .inr ⟨rfl,this.1.mpr (by lia)⟩
 .have:=f6 (a:=2) (b:=w'+3) (l:=[w+1]) (l':=[]) (by lia) s t
  exact ⟨⟨fun _=>.inl (by decide),fun _=>this.1.mpr (by lia)⟩,this.2⟩
 .have:=f6 (a:=w+3) (b:=1) (l:=[]) (l':=[]) (by lia) s t
  exact ⟨⟨fun z=>absurd (this.1.mp z) (by lia),fun z=>absurd z (by lia)⟩,this.2⟩
 .have:=f6 (a:=w+3) (b:=2) (l:=[]) (l':=[w'+1]) (by lia) s t
  exact ⟨⟨fun z=>absurd (this.1.mp z) (by lia),fun z=>absurd z (by lia)⟩,this.2⟩
 .have hw:w≠w':=p6.elim (fun h=>absurd rfl h) id
  have:=f6 (a:=w+3) (b:=w'+3) (l:=[]) (l':=[]) (by lia) s t
  exact ⟨⟨fun z=>.inr ⟨rfl,by have:=this.1.mp z;lia⟩,fun z=>this.1.mpr (by lia)⟩,this.2⟩
theorem akt{p:List Int}(hp:lM p):∃ h r,pairC p=h::r/\0<h:=by
 obtain ⟨k,w,rfl,h0,h1⟩:=hp;show ∃ h r,R1 k w=h::r/\0<h;unfold R1
 rcases h1 with ⟨rfl,rfl⟩ | rfl | rfl
 .exact ⟨1,[],rfl,by decide⟩
 .exact ⟨2,_,rfl,by decide⟩
 .exact ⟨w+3,[],rfl,by lia⟩
noncomputable def EltZ (u:D6):Prop:=u.1=0->u.2.1=0
theorem arf{s:Tr}(hU:∀ u∈U,EltZ u):∀ u∈addS U s,EltZ u:=by
 unfold addS
 split
 .unfold addM
  split
  .intro u hu;rw [D1.mp hu];exact fun _=>rfl
  .rename_i v hv
   have ov:=hU v (List.mem_of_getLast? hv);intro u hu
   rcases D3.mp hu with h | h
   .exact hU u ((List.dropLast_sublist _).subset h)
   .rw [D1.mp h];exact ov
 .rename_i hs
  intro u hu
  rcases D3.mp hu with h | h
  .exact hU u h
  .rw [D1.mp h];exact fun e=>absurd e hs
theorem aku(S:Str->List Tr)(ps:List Str):∀ u∈N6 S ps,EltZ u:=by
 have gen:∀ (ss:List Tr) (U:List D6),(∀ u∈U,EltZ u)->∀ u∈ss.foldl addS U,EltZ u:=by
  intro ss
  induction ss with
  | nil=>intro U hU;exact hU
  | cons s ss ih=>intro U hU;exact ih _ (arf hU)
 exact gen _ [] (by simp)
noncomputable def putI (xs ys:List Int):Int:=if xs=ys then 0 else if xs<ys then -1 else 1
theorem aeX(U:List D6):b9 U=(U.map fun u=>[u.1,u.2.1]).flatMap pairC:=by
 unfold b9;rw [List.flatMap_map];rfl
noncomputable def markC (m:List Int):List Int:=(m.flatMap fun p=>[p+2])++[1]
theorem aef(U:List D6):X5 U=(U.map fun u=>u.2.2.1).flatMap markC:=by
 unfold X5;rw [List.flatMap_map];refine congrArg (fun f=>List.flatMap f U) (funext fun u=>?_);unfold markC;rw [pS]
theorem al4{m m':List Int}(h:∀ p∈m,0<=p)(h':∀ p∈m',0<=p):cQ (m=m') (m<m') (markC m) (markC m'):=
 iE z9 (fun p=>0<=p) (fun p=>[p+2]) 1 (fun a ha=>⟨a+2,[],rfl,by lia⟩) (fun a b _ _=>aks (f:=fun x=>x+2) (.inr rfl)) m m' h h'
theorem akv{m:List Int}(h:∀ p∈m,0<=p):∃ a r,markC m=a::r/\0<a:=by
 unfold markC
 cases m with
 | nil=>exact ⟨1,[],rfl,by decide⟩
 | cons p m=>exact ⟨p+2,_,rfl,by have:=h p J9;lia⟩
noncomputable def EncD (d d':LvD) (l l':List Int):Prop:=cQ (d=d') (d.lt d'=true) l l'
theorem aiD{b:Bool}{V:List D6}(hU:∀ u∈U,EltOk u)(hV:∀ u∈V,EltOk u)(zU:∀ u∈U,EltZ u)(zV:∀ u∈V,EltZ u)(hc:∀ c∈z.cps.toList,0<c)(P3:∀ c∈z'.cps.toList,0<c) :
  EncD (.tt (U.map fun u=>[u.1,u.2.1])) (.tt (V.map fun u=>[u.1,u.2.1])) (b9 U++[0]) (b9 V++[0])/\
  EncD (.tt ((if b=true then U.reverse else U).map fun u=>u.2.2.1)) (.tt ((if b=true then V.reverse else V).map fun u=>u.2.2.1)) (X5 (if b=true then U.reverse else U)++[0]) (X5 (if b=true then V.reverse else V)++[0])/\
  EncD (.ii (U.map fun u=>u.2.2.2)) (.ii (V.map fun u=>u.2.2.2)) ((U.map fun u=>u.2.2.2+1)++[0]) ((V.map fun u=>u.2.2.2+1)++[0])/\
  EncD (.ss z) (.ss z') ((z.cps.toList.map fun c:Nat=>(c:Int))++[0]) ((z'.cps.toList.map fun c:Nat=>(c:Int))++[0]):=by
 have tr:∀ {P P' L L':Prop} {l l':List Int},cQ P L l l'->(P'↔P)->(L'↔L)->cQ P' L' l l':=fun h e1 e2=>⟨fun p=>h.1 (e1.mp p),fun n s t=>⟨((h.2 fun p=>n (e1.mpr p)) s t).1.trans e2.symm,((h.2 fun p=>n (e1.mpr p)) s t).2⟩⟩
 have pr:∀ {W:List D6},(∀ u∈W,EltOk u)->(∀ u∈W,EltZ u)->∀ p∈W.map (fun u=>[u.1,u.2.1]),lM p:=fun {W} h hz p hp=>by
  obtain ⟨u,hu,rfl⟩:=E2.mp hp;have o:=h u hu;have oz:=hz u hu;refine ⟨u.1,u.2.1,rfl,o.2.1,?_⟩
  rcases o.1 with e | e | e
  .exact .inl ⟨e,oz e⟩
  .exact .inr (.inl e)
  .exact .inr (.inr e)
 have rv:∀ {W:List D6},(∀ u∈W,EltOk u)->∀ m∈(if b=true then W.reverse else W).map (fun u=>u.2.2.1),∀ p∈m,0<=p:=fun {W} h m hm=>by
  obtain ⟨u,hu,rfl⟩:=E2.mp hm;refine (h u ?_).2.2.1
  split at hu
  .exact List.mem_reverse.mp hu
  .exact hu
 refine ⟨?_,?_,?_,?_⟩
 .rw [aeX,aeX];exact tr (iE (vE z9) lM pairC 0 (fun a h=>akt h) (fun a b h1 h2=>al3 h1 h2) _ _ (pr hU zU) (pr hV zV)) (by simp) (by simp [LvD.lt])
 .rw [aef,aef];exact tr (iE (vE z9) (fun m=>∀ p∈m,0<=p) markC 0 (fun a h=>akv h) (fun a b h1 h2=>al4 h1 h2) _ _ (rv hU) (rv hV)) (by simp) (by simp [LvD.lt])
 .have e:∀ W:List D6,(W.map fun u=>u.2.2.2+1)=(W.map fun u=>u.2.2.2).flatMap fun x=>[x+1]:=fun W=>by rw [pS,V8];rfl
  rw [e,e];refine tr (iE z9 (fun p=>0<=p) (fun p=>[p+1]) 0 (fun a ha=>⟨a+1,[],rfl,by lia⟩) (fun a b _ _=>aks (f:=fun x=>x+1) (.inl rfl)) _ _ ?_ ?_) (by simp) (by simp [LvD.lt])
  .intro x hx;obtain ⟨u,hu,rfl⟩:=E2.mp hx;exact (hU u hu).2.2.2
  .intro x hx;obtain ⟨u,hu,rfl⟩:=E2.mp hx;exact (hV u hu).2.2.2
 .have e:∀ w:Str,(w.cps.toList.map fun c:Nat=>(c:Int))=w.cps.toList.flatMap fun c:Nat=>[(c:Int)]:=fun w=>(pS _ _).symm
  rw [e,e];refine tr (iE l7 (fun c=>0<c) (fun c:Nat=>[(c:Int)]) 0 (fun a ha=>⟨(a:Int),[],rfl,by lia⟩) (fun a b _ _=>?_) _ _ hc P3) ?_ (by simp [LvD.lt])
  .refine ⟨fun q=>by rw [q],fun h s t=>?_⟩
   have:=f6 (a:=(a:Int)) (b:=(b:Int)) (l:=[]) (l':=[]) (by lia) s t
   exact ⟨this.1.trans ⟨fun z=>by lia,fun z=>by lia⟩,this.2⟩
  .exact ⟨fun h=>by rw [LvD.ss.inj h],fun h=>by rw [Str.ext' (Array.toList_inj.mp h)]⟩
theorem aeY:∀ {ds es:List LvD} {ls ms:List (List Int)},Paired (fun d (e:LvD)=>d.kind=e.kind) ds es->ds.length=ls.length->es.length=ms.length->(∀ (i:Nat) (d e:LvD) (l m:List Int),ds[i]?=some d->es[i]?=some e->ls[i]?=some l->ms[i]?=some m->EncD d e (l++[0]) (m++[0]))->putI (ls.flatMap fun l=>l++[0]) (ms.flatMap fun l=>l++[0])=cmpL ds es
 | _,_,[],[],.nil,_,_,_=>rfl
 | _,_,[],_::_,.nil,_,h,_=>(nomatch h)
 | _,_,_::_,_,.nil,h,_,_=>(nomatch h)
 | _,_,[],_,.cons _ _,h,_,_=>(nomatch h)
 | _,_,_::_,[],.cons _ _,_,h,_=>(nomatch h)
 | _,_,l::ls,m::ms,.cons (a:=d) (b:=e) (l₁:=ds) (l₂:=es) hk t,h1,h2,hE=>by
  have ih:=aeY (ls:=ls) (ms:=ms) t (by simpa using h1) (by simpa using h2) fun i d e l m a b c f=>hE (i+1) d e l m (by simpa using a) (by simpa using b) (by simpa using c) (by simpa using f)
  have h0:=hE 0 d e l m rfl rfl rfl rfl;rw [Q9,Q9,cmpL]
  by_cases q:d=e
  .rw [if_pos q,<- ih,h0.1 q];unfold putI
   by_cases z:(ls.flatMap fun l=>l++[0])=ms.flatMap fun l=>l++[0]
   .rw [if_pos z,if_pos (by rw [z])]
   .rw [if_neg z,if_neg (fun y=>z (List.append_cancel_left y))]
    by_cases y:(ls.flatMap fun l=>l++[0])<ms.flatMap fun l=>l++[0]
    .rw [if_pos y,if_pos (app_lt.mpr y)]
    .rw [if_neg y,if_neg (fun x=>y (app_lt.mp x))]
  .rw [if_neg q];obtain ⟨i1,i2⟩:=h0.2 q (ls.flatMap fun l=>l++[0]) (ms.flatMap fun l=>l++[0]);unfold putI cmpD;rw [if_neg i2,if_neg q]
   by_cases y:d.lt e=true
   .rw [if_pos (i1.mpr y),if_pos y]
   .rw [if_neg (fun x=>y (i1.mp x)),if_neg y]
noncomputable def keyZ (n:Nat) (R:List Rl) (L M:List Str) (z:Str):List Int:=keyF n (hasW R "behind") (N6 (stepY R L M) (cutF (hasW R "figures") (E4 R) z.cps.toList).2) z
theorem aol(hn:n<=4)(hc:∀ c∈z.cps.toList,0<c)(P3:∀ c∈z'.cps.toList,0<c):putI (keyZ n R L M z) (keyZ n R L M z')=cmpF n (aP R L M z) (aP R L M z'):=by
 rw [agu];unfold keyZ keyF;obtain ⟨e1,e2,e3,e4⟩:=aiD (b:=hasW R "behind") (ahX (ahW (R:=R) (L:=L) (M:=M)) (cutF (hasW R "figures") (E4 R) z.cps.toList).2) (ahX (ahW (R:=R) (L:=L) (M:=M)) (cutF (hasW R "figures") (E4 R) z'.cps.toList).2) (aku _ _) (aku _ _) hc P3;refine aeY (agv n z z') (by rw [G6,G6];rfl) (by rw [G6,G6];rfl) fun i d e l m h1 h2 h3 h4=>?_
 have hi:i<n:=by
  have:=(E9.mp h1).1
  rw [G6] at this;lia
 rw [List.getElem?_take_of_lt hi] at h1 h2 h3 h4
 match i,hi with
 | 0,_=>cases h1;cases h2;cases h3;cases h4;exact e1
 | 1,_=>cases h1;cases h2;cases h3;cases h4;exact e2
 | 2,_=>cases h1;cases h2;cases h3;cases h4;exact e3
 | 3,_=>cases h1;cases h2;cases h3;cases h4;exact e4
 | i+4,hi=>lia
theorem arh(h:ms≠[])(k:Int):0<(ms.length:Int)/\∃ p∈ms,L0 (ms.map V.str) (k % (ms.length:Int))=some (V.str p):=by
 have hl:0<ms.length:=List.length_pos_iff.mpr h;have h0:0<=k % (ms.length:Int):=Int.emod_nonneg _ (by lia);have h1:k % (ms.length:Int)<(ms.length:Int):=jX _ (by lia);have hi:(k % (ms.length:Int)).toNat<ms.length:=by lia
 refine ⟨by lia,ms[(k % (ms.length:Int)).toNat],List.getElem_mem hi,?_⟩
 have:=E7 (xs:=ms.map V.str) (j:=(k % (ms.length:Int)).toNat) (v:=V.str ms[(k % (ms.length:Int)).toNat]) (by rw [L7,F8 hi];rfl)
 rw [show (((k % (ms.length:Int)).toNat:Nat):Int)=k % (ms.length:Int) by lia] at this;exact this
noncomputable def akw:Sp:=fun vs H Q _=>∃ (n:Int) (k:Addr) (ks:List Str),vs=[.int n,.ref k]/\H k=some (.lst (ks.map V.str))/\ks≠[]/\(∀ p∈ks,p.length<=3)/\∀ z,n8 ks 5 z->Q (.str z) H
theorem n8.len(h:n8 ks n z)(h2:∀ p∈ks,p.length<=3):z.length<=3*n:=by
 obtain ⟨ps,h1,h3,h4⟩:=h;have hl:(flatP ps).length<=3*ps.length:=by
  clear h3 h4
  induction ps with
  | nil=>exact A8 _
  | cons p ps ih=>
   have:=ih fun q hq=>h1 q (L6 _ hq)
   have:=h2 p (h1 p J9)
   rw [eP,C8,lenL,K9];lia
 rw [<- lenL,h4];lia
noncomputable def U3 (ts:List Str) (k:Nat) (y:Str):List Nat:=(P6 k).filter fun i=>decide (ts[i]?=some y)
theorem ah3(hz:ts[k]?=some z)(y:Str):U3 ts (k+1) y=if y=z then U3 ts k y++[k] else U3 ts k y:=by
 unfold U3;rw [List.range_succ,dN]
 by_cases e:y=z
 .rw [if_pos e,fX (by rw [hz,e];simp)];rfl
 .rw [if_neg e,bK (by rw [hz];simpa using fun h=>e h.symm)]
  simp
noncomputable def leftN (ts:List Str) (p:List Nat) (i:Nat) (y:Str):List Nat:=(U3 ts ts.length y).filter fun j=>decide (j∉p.take i)
theorem akx(ts:List Str)(p:List Nat)(y:Str):leftN ts p 0 y=U3 ts ts.length y:=by
 unfold leftN;exact jN.mpr fun a _=>by simp
theorem al5:∀ {xs:List Nat} {m:Nat},xs.Pairwise (· < ·)->m∈xs->(∀ j∈xs,j≠m->m<j)->xs=m::xs.filter fun j=>decide (j≠m)
 | [],m,_,h,_=>by cases h
 | x::xs,m,pw,h,hm=>by
  rw [jO] at pw;have hx:x=m:=by
   rcases E5.mp h with e | e
   .exact e.symm
   .have h1:=pw.1 m e;have h2:=hm x J9
    by_cases q:x=m
    .exact q
    .have:=h2 q;lia
  subst hx;rw [bK (by simp),jN.mpr fun j hj=>by have:=pw.1 j hj;rw [decide_eq_true_eq];lia]
theorem ari{kz:List (List Int)}{p:List Nat}(h:Srt kz p):p.Nodup:=h.pm.nodup_iff.mpr List.nodup_range
theorem aky{kz:Str->List Int}{p:List Nat}{t:Str}(hp:Srt (ts.map kz) p)(hi:p[i]?=some m)(ht:ts[m]?=some t):leftN ts p i t=m::leftN ts p (i+1) t/\∀ y,y≠t->leftN ts p (i+1) y=leftN ts p i y:=by
 have nd:=ari hp;have mR:=(E9.mp hi).1;have e1:p.take (i+1)=p.take i++[m]:=K8 hi;have hmn:m∉p.take i:=fun h=>by
  have nd2:(p.take (i+1)).Nodup:=List.Nodup.sublist (List.take_sublist _ _) nd;rw [e1,Z7] at nd2;exact nd2.2.2 m h m (D1.mpr rfl) rfl
 have mS:m<ts.length:=(E9.mp ht).1;have e2:∀ y,leftN ts p (i+1) y=(leftN ts p i y).filter fun j=>decide (j≠m):=fun y=>by
  unfold leftN;rw [List.filter_filter];refine List.filter_congr fun j _=>?_
  rw [e1]
  by_cases h1:j∈p.take i <;> by_cases h2:j=m <;> simp [h1,h2]
 have mem:∀ {y:Str} {j:Nat},j∈leftN ts p i y↔(j<ts.length/\ts[j]?=some y)/\j∉p.take i:=fun {y j}=>by
  unfold leftN U3;rw [T5,T5,W9,decide_eq_true_eq,decide_eq_true_eq]
 refine ⟨?_,fun y hy=>?_⟩
 .rw [e2];refine al5 ?_ (mem.mpr ⟨⟨mS,ht⟩,hmn⟩) fun j hj hjm=>?_
  .unfold leftN U3;exact (List.pairwise_lt_range.filter _).filter _
  .obtain ⟨⟨h1,h2⟩,h3⟩:=mem.mp hj;have hjp:j∈p:=hp.pm.mem_iff.mpr (W9.mpr (by rw [A4];exact h1));obtain ⟨i',mH,e⟩:=W8.mp hjp;have C4:i<i':=by
    rcases dP i i' with q | q | q
    .exact q
    .subst q;rw [F8 mH,e] at hi;exact absurd (Option.some.inj hi) hjm
    .exact absurd (jK.mpr ⟨i',by lia,e⟩) h3
   obtain ⟨_,q⟩:=hp.up i i' m j C4 hi (by rw [F8 mH,e])
   rcases q with q | q
   .unfold keyB at q;rw [decide_eq_true_eq,P0,P0,L7,L7,ht,h2] at q;exact absurd q (List.lt_irrefl _)
   .exact q
 .rw [e2];refine jN.mpr fun j hj=>?_
  obtain ⟨⟨h1,h2⟩,h3⟩:=mem.mp hj;rw [decide_eq_true_eq];intro e;rw [e,ht] at h2;exact hy (Option.some.inj h2).symm
theorem aom{kz:List (List Int)}{p q:List Nat}(h1:Srt kz p)(h2:Srt kz q):p=q:=by
 have go:∀ {xs ys:List Nat},xs.Perm ys->xs.Pairwise (fun a b=>Lx (keyB kz) a b)->ys.Pairwise (fun a b=>Lx (keyB kz) a b)->xs=ys:=by
  intro xs
  induction xs with
  | nil=>intro ys h _ _;rw [List.nil_perm.mp h]
  | cons x xs ih=>
   intro ys h p1 p2
   cases ys with
   | nil=>have:=h.length_eq;simp at this
   | cons y ys=>
    have hx:x=y:=by
     have m1:y∈x::xs:=h.mem_iff.mpr J9;have m2:x∈y::ys:=h.mem_iff.mp J9
     rcases E5.mp m1 with e | e
     .exact e.symm
     rcases E5.mp m2 with e2 | e2
     .exact e2
     obtain ⟨a1,a2⟩:=(jO.mp p1).1 y e;obtain ⟨b1,b2⟩:=(jO.mp p2).1 x e2
     rcases a2 with a2 | a2
     .rw [b1] at a2;cases a2
     .rcases b2 with b2 | b2
      .rw [a1] at b2;cases b2
      .lia
    subst hx;rw [ih (List.Perm.cons_inv h) (jO.mp p1).2 (jO.mp p2).2]
 have pw:∀ {p:List Nat},Srt kz p->p.Pairwise (fun a b=>Lx (keyB kz) a b):=fun {p} h=>by
  rw [bI];exact fun i j hi hj O9=>h.up i j _ _ O9 (F8 hi) (F8 hj)
 exact go (h1.pm.trans h2.pm.symm) (pw h1) (pw h2)
structure FrT(H0 H:Hp)(D:Addr)(ks:List Str)(ad:Str->Addr)(F:Str->List Nat):Prop where
 top:H D=some (.dK (B5 ks fun y=>.ref (ad y)))
 row:∀ y∈ks,H (ad y)=some (.lst ((F y).map fun i:Nat=>V.int (i:Int)))
 inj:∀ y∈ks,∀ y'∈ks,ad y=ad y'->y=y'
 newD:H0 D=none
 new:∀ y∈ks,H0 (ad y)=none
 same:Same H0 H
theorem FrT.more{D:Addr}{ad:Str->Addr}{F:Str->List Nat}(h:FrT H0 H D ks ad F)(S:Same H H'):FrT H0 H' D ks ad F:=⟨S _ _ h.top,fun y hy=>S _ _ (h.row y hy),h.inj,h.newD,h.new,h.same.trans S⟩
theorem FrT.put{D:Addr}{ad:Str->Addr}{F F':Str->List Nat}(h:FrT H0 H D ks ad F)(hz:z∈ks)(hF:∀ y,y≠z->F' y=F y):FrT H0 (A0 H (ad z) (.lst ((F' z).map fun i:Nat=>V.int (i:Int)))) D ks ad F':=by
 have nD:D≠ad z:=fun e=>by have:=h.row z hz;rw [<- e,h.top] at this;cases this
 refine ⟨by rw [A3 nD];exact h.top,fun y hy=>?_,h.inj,h.newD,h.new,h.same.put (h.new z hz)⟩
 by_cases e:y=z
 .rw [e,A2]
 .rw [A3 (fun q=>e (h.inj y hy z hz q)),hF y e];exact h.row y hy
theorem FrT.add{D:Addr}{ad:Str->Addr}{F F':Str->List Nat}(h:FrT H0 H D ks ad F)(hz:z∉ks)(hF:∀ y,y≠z->F' y=F y)(np:∀ y∈ks,ad y≠p)(nD:p≠D)(n0:H0 p=none)(hp:H p=some (.lst ((F' z).map fun i:Nat=>V.int (i:Int)))) :
  FrT H0 (A0 H D (.dK (B5 (ks++[z]) fun y=>.ref (if y=z then p else ad y)))) D (ks++[z]) (fun y=>if y=z then p else ad y) F':=by
 have J7:∀ y∈ks,y≠z:=fun y hy e=>hz (by rw [<- e];exact hy)
 have m:∀ {y:Str},y∈ks++[z]->y=z\/y∈ks:=fun hy=>(D3.mp hy).elim .inr fun q=>.inl (D1.mp q)
 refine ⟨A2,fun y hy=>?_,fun y hy y' iV e=>?_,h.newD,fun y hy=>?_,h.same.put h.newD⟩
 .show A0 H D _ (if y=z then p else ad y)=_
  rcases m hy with e | e
  .rw [if_pos e,A3 nD,e];exact hp
  .rw [if_neg (J7 y e),A3 (fun q=>by have:=h.row y e;rw [q,h.top] at this;cases this),hF y (J7 y e)];exact h.row y e
 .rcases m hy with a | a <;> rcases m iV with b | b
  .rw [a,b]
  .rw [if_pos a,if_neg (J7 y' b)] at e;exact absurd e.symm (np y' b)
  .rw [if_neg (J7 y a),if_pos b] at e;exact absurd e (np y a)
  .rw [if_neg (J7 y a),if_neg (J7 y' b)] at e;exact h.inj y a y' b e
 .show H0 (if y=z then p else ad y)=none
  rcases m hy with e | e
  .rw [if_pos e];exact n0
  .rw [if_neg (J7 y e)];exact h.new y e
theorem FrT.off{D:Addr}{ad:Str->Addr}{F:Str->List Nat}{o:HO}(h:FrT H0 H D ks ad F)(n1:a≠D)(n2:∀ y∈ks,ad y≠a)(n3:H0 a=none):FrT H0 (A0 H a o) D ks ad F:=
 ⟨by rw [A3 n1.symm];exact h.top,fun y hy=>by rw [A3 (n2 y hy)];exact h.row y hy,h.inj,h.newD,h.new,h.same.put n3⟩
noncomputable def lN (C P:Addr) (pos:Pos) (qn:Str):Sp:=fun vs H Q _=>∃ (o a:Addr) (n:Nat) (R:List Rl) (L M ts:List Str),vs=[.ref o,.ref a,.int n]/\n<=4/\OrdT C H o R L M/\H a=some (.lst (ts.map V.str))/\(∀ t∈ts,TxtT R t)/\ts.length<64/\TabOk H P pos qn/\
 ∀ l H' (p:List Nat),H l=none->SameP P H H'->TabOk H' P pos qn->Srt (ts.map (keyZ n R L M)) p->H' l=some (.lst ((p.map fun i=>ts.getD i (Str.ofString "")).map V.str))->Q (.ref l) H'
noncomputable def ah4:Sp:=fun vs H Q _=>∃ (g a:Addr) (ts:List Str) (p:List Nat) (kz:Str->List Int),vs=[.ref g,.ref a]/\H g=some (.lst ((p.map fun i=>ts.getD i (Str.ofString "")).map V.str))/\H a=some (.lst (ts.map V.str))/\Srt (ts.map kz) p/\ts.length<64/\
 ∀ l H',H l=none->Same H H'->H' l=some (.lst (p.map fun i:Nat=>V.int (i:Int)))->Q (.ref l) H'
noncomputable def akz (C P:Addr) (pos:Pos) (qn:Str):Sp:=fun vs H Q _=>∃ (o a:Addr) (n:Nat) (R:List Rl) (L M ts:List Str),vs=[.ref o,.ref a,.int n]/\1<=n/\n<=5/\OrdT C H o R L M/\H a=some (.lst (ts.map V.str))/\(∀ t∈ts,TxtT R t)/\ts.length<64/\TabOk H P pos qn/\
 ∀ l H' (p:List Nat),H l=none->SameP P H H'->TabOk H' P pos qn->Srt (ts.map (keyZ (min n 4) R L M)) p->H' l=some (.lst ((p.map fun i=>ts.getD i (Str.ofString "")).map V.str))->Q (.ref l) H'
theorem Sh5.pos{a f g:Str}(h:Sh5 ls ms a f g x q o b1)(hP:pQ b1 (G7 ls ms a f g x q o b1 b2 b3) ks)(hz:n8 ks n z):∀ c∈z.cps.toList,0<c/\c<127:=by
 obtain ⟨ps,h1,_,h3⟩:=hz;rw [h3];intro c hc;obtain ⟨p,hp,hc⟩:=g7.mp hc;have sg:∀ {w:Bool} {c:Nat},j8 w c->0<c/\c<127:=fun hc=>by
  have:=hc.1
  unfold signB at this;simp only [X0,decide_eq_true_eq] at this;lia
 rcases (hP.2.2 p (h1 p hp)).1 with e | ⟨⟨_,e⟩,_⟩
 .rcases h.known e with rfl | e
  .rw [D1.mp (show c∈[32] from hc)];decide
  .rcases h.on p e with ⟨c',rfl,h0⟩ | ⟨c',d,rfl,h0,h2,_⟩
   .rw [D1.mp (show c∈[c'] from hc)];exact sg h0
   .rcases E5.mp (show c∈[c',d] from hc) with e | e
    .rw [e];exact sg h0
    .rw [D1.mp e];exact sg h2
 .have:=e.2 c hc
  unfold figO at this;simp only [X0,decide_eq_true_eq] at this;lia
theorem aon(h:∀ c∈z.cps.toList,c<127):bT z=true:=by
 unfold bT;rw [Array.all_eq_true_iff_forall_mem];intro c hc
 have:=h c (Array.mem_toList_iff.mpr hc)
 simp only [decide_eq_true_eq];lia
noncomputable def pT (K:PySem.W.Frag) (ts:List Addr):Sp:=fun vs H Q _=>∃ (a:Addr) (ns:List Int),vs=[.ref a]/\C7 K H a (ns.map V.int)/\ns.length<=63/\(∀ t∈ts,H t=some (.tbl #[]))/\∀ H',Q (.bl true) H'
section
variable {P:Program} {w:World} {K:PySem.W.Frag} {mg:Str->Option Value} {base:Heap} {C:Addr}
variable {tabs:List (Addr×Addr)} {cl_sorted_texts pt_sorted_texts:Addr}
theorem sc_told:FnScope ["rows", "seen", "row", "piece"] ["rows"] (C3 w5):=J8
abbrev VS(N:List Str)(s:Stmt)(x:Str)(n:Nat):Prop:=∀ {X:Cx} {pos:Pos},X.N=N->X.env.scope=C3 s->QE X (.Name x pos) (tVar n)
theorem vq{s:Stmt}(h:(decide (N[n]?=some x)&&visB (C3 s) x && !(x==("__debug__" : Str)) && !(x==("__classdict__" : Str)))=true:=by decide +kernel):VS N s x n:=fun hN hs=>qvd hN hs h
theorem vi{s:Stmt}{pos:Pos}(h:VS N s x n)(h1:X.N=N:=by rfl)(h2:X.env.scope=C3 s:=by rfl):QE X (.Name x pos) (tVar n):=h h1 h2
abbrev LS(s:Stmt)(x:Str):Prop:=m3 (C3 s) x
theorem lq{s:Stmt}(h:(C3 s).names.lookup x=some .local\/(C3 s).names.lookup x=some .cell:=by decide +kernel):LS s x:=h
abbrev pU:List Str:=["rows", "seen", "row", "piece"]
theorem vaa:VS pU w5 "rows" 0:=vq
theorem vab:VS pU w5 "seen" 1:=vq
theorem vac:VS pU w5 "row" 2:=vq
theorem vad:VS pU w5 "piece" 3:=vq
theorem vae:LS w5 "seen":=lq
theorem vaf:LS w5 "row":=lq
theorem vag:LS w5 "piece":=lq
theorem aoo(F:FunD K "told" "told" w5 f fd)(T:Txt P w K mg C):FnOk P w K mg base E8 1 f fd ["rows"] ams:=by
 refine F.ok sc_told ?_ ?_
 .rintro _ _ _ _ ⟨a,rs,zss,rfl,_⟩;rfl
 .intro cdv A outer s H vs Q E hr h;have C5:=hu_of hr;have hu:=hr.units;refine ⟨_,QSs.out (A6 (E1 (n:=1) sc_told.nd rfl vae eF)
   (A6 (O0 PassesOwn.never (O5 (K:=K) (vi vaa)) (D7 (n:=2) sc_told.nd rfl vaf (.inl rfl)) (B1 (O0 PassesOwn.never (O5 (K:=K) (vi vac)) (D7 (n:=3) sc_told.nd rfl vag (.inl rfl)) (B1 (aH C5 (vi vab) (vi vad) qe_bl)))))
   (B1 (E6 (qe_cT (gU (K:=K) (calm:=true)) T.b_list eE (qa_c (vi vab) A1)))))),?_⟩
  obtain ⟨a,rs,zss,rfl,hR,hz,q⟩:=h;walk_at "rd";intro d nd;have hlz:∀ n:Nat,n<=100000->n<sizeLine:=fun n h=>G9 (by lia)
  refine ⟨⟨_,.of (D0 hR.top nd)⟩,forL (xs:=rs.map V.ref) (fun i Y H2=>∃ (u v:Option V),Y=[some (.ref a),some (.ref d),u,v]/\Same H H2/\H2 d=some (.dK (kvOf (toldL (zss.take i)))))
   ⟨none,none,rfl,Same.new nd,by rw [A2];rfl⟩ (by rintro i Y H2 _ ⟨_,_,_,S,_⟩;exact .of (S _ _ hR.top)) ?_ ?_⟩
  .rintro i x Y H2 hx ⟨u,v,rfl,S,hd⟩;obtain ⟨r,hr,rfl⟩:=K1 hx;obtain ⟨zs,iW,D8⟩:=Paired.at hR.row hr;have hcount:(toldL (zss.take i)).length+zs.length<=100000:=by
    have h1:zss.take (i+1)=zss.take i++[zs]:=by rw [g4,iW];rfl
    have h2:=kJ (zss.take i);have h3:(zss.take (i+1)).flatten.length<=zss.flatten.length:=by
     conv=>rhs;rw [<- g3 (i+1) zss]
     rw [List.flatten_append,C8];lia
    rw [h1,List.flatten_append,C8] at h3;simp at h3;simp at h2 hz h3 ⊢
    lia
   walk_at "rd";refine ⟨⟨_,.of (S _ _ D8)⟩,forL (xs:=zs.map V.str) (fun j Y H3=>∃ (v:Option V),Y=[some (.ref a),some (.ref d),some (.ref r),v]/\Same H H3/\H3 d=some (.dK (kvOf (J5 (toldL (zss.take i)) (zs.take j)))))
    ⟨v,rfl,S,hd⟩ (by rintro j Y H3 _ ⟨_,_,S3,_⟩;exact .of (S3 _ _ D8)) ?_ ?_⟩
   .rintro j y Y H3 hy ⟨v,rfl,S3,Y0⟩;obtain ⟨z,xT,rfl⟩:=K1 hy;walk_at "rd";refine ⟨_,bZ (k:=Sum.inr z) Y0 ?_,S3.put nd,?_⟩
    .unfold kvOf;rw [A4];refine hlz _ ?_
     have:=kI (zs.take j) (toldL (zss.take i))
     rw [G6] at this;lia
    .rw [A2,afY,aln xT]
   .rintro Y H3 ⟨v,rfl,S3,Y0⟩;walk_at "rd";refine ⟨S3,?_⟩;rw [Y0,ajt iW,A4,K7]
  .rintro Y H2 ⟨u,v,rfl,S,hd⟩;walk_at "rd";refine rListR.d (.of hd) fun l nl=>?_
   refine q l _ (S.free nl) (fun b o h=>D0 (S b o h) nl) ?_;rw [A2,aju,A4];rw [show rs.length=zss.length from Paired.length hR.row,K7]
theorem sc_followers:FnScope ["rows", "after", "piece", "row", "one", "other"] ["rows"] (C3 Y9):=J8
abbrev iF:List Str:=["rows", "after", "piece", "row", "one", "other"]
theorem vah:VS iF Y9 "rows" 0:=vq
theorem vF:VS iF Y9 "after" 1:=vq
theorem vaj:VS iF Y9 "piece" 2:=vq
theorem vak:VS iF Y9 "row" 3:=vq
theorem vam:VS iF Y9 "one" 4:=vq
theorem van:VS iF Y9 "other" 5:=vq
theorem vao:LS Y9 "after":=lq
theorem vap:LS Y9 "piece":=lq
theorem vaq:LS Y9 "row":=lq
theorem var:LS Y9 "one":=lq
theorem vas:LS Y9 "other":=lq
theorem agx(F:FunD K "followers" "followers" Y9 f fd)(T:Txt P w K mg C)(G_told:FO P w K mg base 1 "told" ["rows"] [] ams):FnOk P w K mg base E8 2 f fd ["rows"] spFol:=by
 refine F.ok sc_followers ?_ ?_
 .rintro _ _ _ _ ⟨a,rs,zss,rfl,_⟩;rfl
 .intro cdv A outer s H vs Q E hr h;have C5:=hu_of hr;have hu:=hr.units;refine ⟨_,QSs.out (A6 (E1 (n:=1) sc_followers.nd rfl vao eF)
   (A6 (O0 PassesOwn.never (O5 (K:=K) (F7 G_told (hm hr) (qa_c (vi vah) A1))) (D7 (n:=2) sc_followers.nd rfl vap (.inl rfl)) (B1 (aH C5 (vi vF) (vi vaj) (N2 A1))))
   (A6 (O0 PassesOwn.never (O5 (K:=K) (vi vah)) (D7 (n:=3) sc_followers.nd rfl vaq (.inl rfl)) (B1 (O0 PassesOwn.never (aqI T.b_zip (qa_c (vi vak) (qa_c (T8 (K:=K) (vi vak) (O7 A5) i8) A1))) (cF (K:=K) (n:=2) (R8 ((D7 (n:=4) sc_followers.nd rfl var (.inl rfl))) (R8 ((D7 (n:=5) sc_followers.nd rfl vas (.inl rfl))) cE))) (B1 (N3 (qe_mB (K:=K) N8 T7 T6 T9 (i9 C5 (vi vF) (vi vam)) (qa_c (vi van) A1)))))))
   (B1 (E6 (vi vF)))))),?_⟩
  obtain ⟨a,rs,zss,rfl,hR,hz,q⟩:=h;walk_at "rd";intro d nd;have S0:Same H (A0 H d (.dK [])):=Same.new nd;refine ⟨a,rs,zss,rfl,hR.same S0,hz,fun l H1 nl S1 hl=>?_⟩;have xU:H1 d=some (.dK []):=S1 _ _ A2;have S01:=S0.trans S1;have A7:(toldL zss).length<=100000:=L4 (kJ zss) hz;have tnd:=oV zss;refine ⟨l,rfl,⟨_,.of hl⟩,forL (xs:=(toldL zss).map V.str) (fun i Y H2=>∃ (u v w x:Option V) (ad:Str->Addr),Y=[some (.ref a),some (.ref d),u,v,w,x]/\SameBut d H1 H2/\H2 d=some (.dK (B5 ((toldL zss).take i) fun t=>.ref (ad t)))/\DL H1 H2 ((toldL zss).take i) ad fun _=>[])
   ⟨none,none,none,none,fun _=>0,rfl,SameBut.refl _ _,xU,⟨fun t h=>by simp at h,fun t h=>by simp at h,fun t h=>by simp at h⟩⟩ (fun i Y H2 _ ⟨_,_,_,_,_,_,S,_⟩=>.of (S _ _ (fun e=>by rw [e,xU] at hl;cases hl) hl)) ?_ ?_⟩
  .rintro i x Y H2 hx ⟨u,v,w,y,ad,rfl,S,hd,dl⟩;obtain ⟨z,hk,rfl⟩:=K1 hx;have hi:i<(toldL zss).length:=(E9.mp hk).1;have Q8:=tQ tnd hk;walk_at "rd";refine fun p np=>⟨_,bZ (k:=Sum.inr z) (D0 hd np) (by rw [j3,G6];exact G9 (by lia)),?_⟩
   have n1:H1 p=none:=S.free np (fun e=>by rw [e,hd] at np;cases np);refine ⟨(S.put n1).at,fun t=>if t=z then p else ad t,?_,?_⟩
   .rw [A2,cG _ Q8,K8 hk];have e:(fun t=>if t=z then V.ref p else V.ref (ad t))=fun t=>V.ref (if t=z then p else ad t):=by funext t;split <;> rfl
    rw [e]
   .rw [K8 hk];exact ((dl.more Q8 np n1).congr fun t _=>by split <;> rfl).put xU
  .rintro Y H2 ⟨u,v,w,y,ad,rfl,S,hd,dl⟩;rw [A4,K7] at hd dl;have S2:Same H H2:=S.same S01 nd;walk_at "rd";have dl0:DL H H2 (toldL zss) ad fun _=>[]:=dl.old S01
   refine ⟨⟨_,.of (S2 _ _ hR.top)⟩,forL (xs:=rs.map V.ref) (fun i Y H3=>∃ (v w x:Option V),Y=[some (.ref a),some (.ref d),u,v,w,x]/\Same H H3/\H3 d=some (.dK (B5 (toldL zss) fun t=>.ref (ad t)))/\DL H H3 (toldL zss) ad (F9 (edges (zss.take i))))
    ⟨v,w,y,rfl,S2,hd,dl0⟩ (by rintro i Y H3 _ ⟨_,_,_,_,S,_⟩;exact .of (S _ _ hR.top)) ?_ ?_⟩
   .rintro i x Y H3 hx ⟨v,w,y,rfl,S3,Y0,y4⟩;obtain ⟨r,hr,rfl⟩:=K1 hx;obtain ⟨zs,iW,D8⟩:=Paired.at hR.row hr;have cZ:=S3 _ _ D8;have K6:∀ x∈zs,x∈toldL zss:=fun x hx=>(tO _ _).mpr (List.mem_flatten.mpr ⟨zs,M7 iW,hx⟩)
    walk_at "rd";refine rSlR.l (.of cZ) fun p np=>?_
    have ecut:cutV (zs.map V.str) (some 1) none=zs.tail.map V.str:=by
     have:=eJ (zs.map V.str) 1
     rw [show ((1:Nat):Int)=1 from rfl] at this;rw [this,<- List.map_drop,List.drop_one]
    rw [ecut];have np0:H p=none:=S3.free np;have nad:∀ t∈toldL zss,ad t≠p:=fun t ht e=>by have:=y4.row t ht;rw [e,np] at this;cases this
    have nadr:∀ t∈toldL zss,ad t≠r:=fun t ht e=>by have:=y4.new t ht;rw [e,D8] at this;cases this
    have ndp:d≠p:=fun e=>by rw [<- e,Y0] at np;cases np
    have nadd:∀ t∈toldL zss,ad t≠d:=fun t ht e=>by have:=y4.row t ht;rw [e,Y0] at this;cases this
    refine ⟨p,rfl,⟨_,D0 cZ np⟩,⟨_,A2⟩,forZ (xs:=zs.map V.str) (ys:=zs.tail.map V.str) (fun j Y H4=>∃ (w x:Option V),Y=[some (.ref a),some (.ref d),u,some (.ref r),w,x]/\Same H H4/\H4 p=some (.lst (zs.tail.map V.str))/\H4 d=some (.dK (B5 (toldL zss) fun t=>.ref (ad t)))/\DL H H4 (toldL zss) ad (F9 (edges (zss.take i)++(W5 zs).take j)))
     ⟨w,y,rfl,S3.put np0,A2,D0 Y0 np,?_⟩ (by rintro j Y H4 ⟨_,_,_,S,hp,_⟩;exact ⟨S _ _ D8,hp⟩) ?_ ?_⟩
    .rw [bN,N0];exact y4.same (Same.new np)
    .rintro j xv yv t Y H4 qO hyv ⟨w,v,rfl,S4,k5,Z5,iX⟩ nt;obtain ⟨x,hx,rfl⟩:=K1 qO;obtain ⟨y,hy,rfl⟩:=K1 hyv;have iY:=K6 x (M7 hx);have nt0:H t=none:=S4.free nt;have hlx:=iX.row x iY;have hE:(W5 zs)[j]?=some (x,y):=ajJ hx hy;walk_at "rd";refine ⟨_,.of A2,rfl,_,_,rfl,_,_,rfl,rfl,V.ref (ad x),.inl ⟨_,Sum.inr x,.inl (D0 Z5 nt),rfl,by rw [P1,if_pos iY]⟩,N1 (D0 hlx nt),appOk (D0 hlx nt) ?_ ⟨(S4.put nt0).put (iX.new x iY),?_,?_,?_⟩⟩
     .rw [A4];refine G9 ?_;have h1:(F9 (edges (zss.take i)++(W5 zs).take j) x).length<=(edges (zss.take i)++(W5 zs).take j).length:=by
       unfold F9;rw [A4];exact List.length_filter_le _ _
      have h2:=af8 (zss.take i);have h3:(zss.take i).flatten.length<=zss.flatten.length:=by
       conv=>rhs;rw [<- g3 i zss]
       rw [List.flatten_append,C8];lia
      have h4:zs.length<=zss.flatten.length:=List.Sublist.length_le (List.sublist_flatten_of_mem (M7 iW));rw [C8,G6,tP] at h1;lia
     .rw [A3 (nad x iY).symm];exact D0 k5 nt
     .rw [A3 (nadd x iY).symm];exact D0 Z5 nt
     .have h1:=(iX.same (Same.new (u:=.tup [V.str x,V.str y]) nt)).app iY (F9 (edges (zss.take i)++(W5 zs).take j) x++[y]);rw [D9] at h1;refine h1.congr fun t _=>?_
      rw [K8 hE,<- Q5,alx]
      by_cases e:t=x
      .rw [if_pos e,if_pos e.symm,e]
      .rw [if_neg e,if_neg (fun z=>e z.symm)]
    .rintro Y H4 ⟨w,x,rfl,S4,k5,Z5,iX⟩;walk_at "rd";refine ⟨S4,Z5,?_⟩;rw [aio iW];rw [t7 (l:=W5 zs) (by rw [tP,A4,A4];exact A8 _)] at iX;exact iX
   .rintro Y H3 ⟨v,w,y,rfl,S3,Y0,y4⟩;rw [A4,show rs.length=zss.length from Paired.length hR.row,K7] at y4;walk_at "rd";exact q d ad H3 nd S3 Y0 y4
theorem sc_count_ahead:FnScope ["after", "ahead", "piece", "other"] ["after"] (C3 w6):=J8
abbrev pV:List Str:=["after", "ahead", "piece", "other"]
theorem vG:VS pV w6 "after" 0:=vq
theorem vH:VS pV w6 "ahead" 1:=vq
theorem vav:VS pV w6 "piece" 2:=vq
theorem vaw:VS pV w6 "other" 3:=vq
theorem vax:LS w6 "ahead":=lq
theorem vay:LS w6 "piece":=lq
theorem vaz:LS w6 "other":=lq
theorem aeo(F:FunD K "count_ahead" "count_ahead" w6 f fd)(T:Txt P w K mg C):FnOk P w K mg base E8 1 f fd ["after"] ajK:=by
 refine F.ok sc_count_ahead ?_ ?_
 .rintro _ _ _ _ ⟨d,ts,ad,E,rfl,_⟩;rfl
 .intro cdv A outer s H vs Q E hr h;have C5:=hu_of hr;have hu:=hr.units;refine ⟨_,QSs.out (A6 (E1 (n:=1) sc_count_ahead.nd rfl vax eF)
   (A6 (tK PassesOwn.never (vi vG) (D7 (n:=2) sc_count_ahead.nd rfl vay (.inl rfl)) (B1 (aH C5 (vi vH) (vi vav) A5)))
   (A6 (tK PassesOwn.never (vi vG) (D7 (n:=2) sc_count_ahead.nd rfl vay (.inl rfl)) (B1 (O0 PassesOwn.never (O5 (K:=K) (i9 C5 (vi vG) (vi vav))) (D7 (n:=3) sc_count_ahead.nd rfl vaz (.inl rfl)) (B1 (ajx C5 (vi vH) (vi vaw) A5 aqB)))))
   (B1 (E6 (vi vH)))))),?_⟩
  obtain ⟨d,ts,ad,E,rfl,hd,tnd,A7,hElen,D8,hE,q⟩:=h;walk_at "rd";intro c nc;have ndc:d≠c:=fun e=>by rw [e,nc] at hd;cases hd
  refine ⟨_,D0 hd nc,fun o=>forD (fun i Y H2=>∃ (u v:Option V),Y=[some (.ref d),some (.ref c),u,v]/\H2 d=some (.frz o (.dK (B5 ts fun t=>.ref (ad t))))/\SameBut d H H2/\H2 c=some (.dK (B5 (ts.take i) fun _=>.int 0)))
   ⟨none,none,rfl,A2,(SameBut.put (SameBut.refl _ _) nc).at,by rw [A3 ndc.symm,A2];rfl⟩ (by rintro i Y H2 ⟨_,_,_,h,_⟩;exact h) ?_ ?_⟩
  .rintro i k v Y H2 hk ⟨u,w,rfl,hf,S,hc⟩;obtain ⟨t,ht,rfl,rfl⟩:=amp hk;have hi:i<ts.length:=(E9.mp ht).1;walk_at "rd";refine ⟨_,bZ (k:=Sum.inr t) hc (by rw [j3,G6];exact G9 (by lia)),?_,S.put nc,?_⟩
   .rw [A3 ndc];exact hf
   .rw [A2,cG _ (tQ tnd ht),K8 ht];exact congrArg (fun x=>some (HO.dK x)) (U0 fun t _=>by split <;> rfl)
  .rintro Y H2 ⟨u,w,rfl,hf,S,hc⟩;rw [j3,K7] at hc;have S2:Same H (A0 H2 d (.dK (B5 ts fun t=>.ref (ad t)))):=S.thaw hd;have Q4:A0 H2 d (.dK (B5 ts fun t=>.ref (ad t))) d=some (.dK (B5 ts fun t=>.ref (ad t))):=A2;have Q0:A0 H2 d (.dK (B5 ts fun t=>.ref (ad t))) c=some (.dK (B5 ts fun _=>.int 0)):=by rw [A3 ndc.symm];exact hc
   generalize A0 H2 d (.dK (B5 ts fun t=>.ref (ad t)))=H3 at S2 Q4 Q0;walk_at "rd";refine ⟨_,Q4,fun o=>forD (fun i Y H4=>∃ (u v:Option V),Y=[some (.ref d),some (.ref c),u,v]/\H4 d=some (.frz o (.dK (B5 ts fun t=>.ref (ad t))))/\SameBut d H H4/\H4 c=some (.dK (B5 ts fun t=>.int (cntIn E (ts.take i) t:Nat))))
    ⟨u,w,rfl,A2,fun b o hb h=>by rw [A3 hb];exact S2 b o h,?_⟩ (by rintro i Y H2 ⟨_,_,_,h,_⟩;exact h) ?_ ?_⟩
   .rw [A3 ndc.symm,Q0];exact congrArg (fun x=>some (HO.dK x)) (U0 fun t _=>by rw [bN,ajI];rfl)
   .rintro i k v Y H4 hk ⟨u,w,rfl,hf,S4,iZ⟩;obtain ⟨t,ht,rfl,rfl⟩:=amp hk;have fO:t∈ts:=M7 ht;have xV:H4 (ad t)=some (.lst ((F9 E t).map V.str)):=S4 _ _ (fun e=>by have:=D8 t fO;rw [e,hd] at this;cases this) (D8 t fO);walk_at "rd";refine ⟨V.ref (ad t),.inl ⟨_,Sum.inr t,.inr ⟨o,hf⟩,rfl,by rw [P1,if_pos fO]⟩,ad t,rfl,⟨_,.of xV⟩,forL (xs:=(F9 E t).map V.str) (fun j Y H5=>∃ (v:Option V),Y=[some (.ref d),some (.ref c),some (kV (Sum.inr t)),v]/\H5 d=some (.frz o (.dK (B5 ts fun t=>.ref (ad t))))/\SameBut d H H5/\
     H5 c=some (.dK (B5 ts fun q=>.int (cntIn E (ts.take i) q+((F9 E t).take j).count q:Nat)))) ⟨w,rfl,hf,S4,by rw [iZ];rfl⟩ (fun j Y H5 _ ⟨_,_,_,S5,_⟩=>.of (S5 _ _ (fun e=>by have:=D8 t fO;rw [e,hd] at this;cases this) (D8 t fO))) ?_ ?_⟩
    .rintro j v5 Y H5 xW ⟨v,rfl,xX,S5,T3⟩;obtain ⟨y,qQ,rfl⟩:=K1 xW;have dA:y∈ts:=by
      have:=M7 qQ
      unfold F9 at this;obtain ⟨e,he,rfl⟩:=E2.mp this;exact (hE e (T5.mp he).1).2
     walk_at "rd";refine ⟨V.int (cntIn E (ts.take i) y+((F9 E t).take j).count y:Nat),.inl ⟨_,Sum.inr y,.inl T3,rfl,by rw [P1,if_pos dA]⟩,_,_,rfl,rfl,_,bZ (k:=Sum.inr y) T3 (by rw [j3];exact G9 (by lia)),?_,S5.put nc,?_⟩
     .rw [A3 ndc];exact xX
     .rw [A2,oU _ dA];refine congrArg (fun x=>some (HO.dK x)) (U0 fun q _=>?_);rw [K8 qQ,List.count_append,List.count_singleton]
      by_cases e:q=y
      .rw [if_pos e,e,if_pos (by simp)];exact congrArg V.int (by lia)
      .rw [if_neg e,if_neg (by simpa using fun z:y=q=>e z.symm)];rfl
    .rintro Y H5 ⟨v,rfl,xX,S5,T3⟩;walk_at "rd";refine ⟨xX,S5,?_⟩;rw [A4,K7] at T3;rw [T3];refine congrArg (fun x=>some (HO.dK x)) (U0 fun q _=>?_);rw [K8 ht,ail (tQ tnd ht)]
   .rintro Y H4 ⟨u,w,rfl,hf,S4,iZ⟩;rw [j3,K7] at iZ;walk_at "rd";refine q c _ nc (S4.thaw hd) ?_;rw [A3 ndc.symm,iZ];exact congrArg (fun x=>some (HO.dK x)) (U0 fun t _=>by rw [ajH (fun e he=>(hE e he).1)])
theorem sc_lined_up:FnScope ["rows", "after", "ahead", "pieces", "numbers", "free", "line", "number", "other"] ["rows"] (C3 Q3):=J8
abbrev aQ:List Str:=["rows", "after", "ahead", "pieces", "numbers", "free", "line", "number", "other"]
theorem vaA:VS aQ Q3 "rows" 0:=vq
theorem vI:VS aQ Q3 "after" 1:=vq
theorem vaC:VS aQ Q3 "ahead" 2:=vq
theorem lO:VS aQ Q3 "pieces" 3:=vq
theorem vaE:VS aQ Q3 "numbers" 4:=vq
theorem pW:VS aQ Q3 "free" 5:=vq
theorem vJ:VS aQ Q3 "line" 6:=vq
theorem vK:VS aQ Q3 "number" 7:=vq
theorem vL:VS aQ Q3 "other" 8:=vq
theorem vaJ:LS Q3 "after":=lq
theorem vaK:LS Q3 "ahead":=lq
theorem vaL:LS Q3 "pieces":=lq
theorem vaM:LS Q3 "numbers":=lq
theorem vaN:LS Q3 "free":=lq
theorem vaO:LS Q3 "line":=lq
theorem vaP:LS Q3 "number":=lq
theorem vaQ:LS Q3 "other":=lq
theorem ahc(F:FunD K "lined_up" "lined_up" Q3 f fd)(T:Txt P w K mg C)(G_followers:FO P w K mg base 2 "followers" ["rows"] [] spFol)(G_count_ahead:FO P w K mg base 1 "count_ahead" ["after"] [] ajK):FnOk P w K mg base E8 3 f fd ["rows"] ajL:=by
 refine F.ok sc_lined_up ?_ ?_
 .rintro _ _ _ _ ⟨a,rs,zss,rank,rfl,_⟩;rfl
 .intro cdv A outer s H vs Q E hr h;have C5:=hu_of hr;have hu:=hr.units;refine ⟨_,QSs.out (A6 (E1 (n:=1) sc_lined_up.nd rfl vaJ (F7 G_followers (hm hr) (qa_c (vi vaA) A1)))
   (A6 (E1 (n:=2) sc_lined_up.nd rfl vaK (F7 G_count_ahead (hm hr) (qa_c (vi vI) A1)))
   (A6 (E1 (n:=3) sc_lined_up.nd rfl vaL (qe_cT (gU (K:=K) (calm:=true)) T.b_list eE (qa_c (vi vI) A1)))
   (A6 (E1 (n:=4) sc_lined_up.nd rfl vaM (qe_cT (ajE (K:=K) (calm:=true)) T.b_dict ajs (qa_c (Y6  (R9:CompOk ["rows", "after", "ahead", "pieces", "numbers", "free", "line", "number", "other"] (C3 Q3).names _ ["number", "piece"] 2 []) (tR T.b_enumerate (qa_c (vi lO) A1)) (fun _ _ _ _ _=>(cF (K:=K) (n:=2) (R8 (D7 (n:=0) (show List.Nodup (["number", "piece"]:List Str) by decide +kernel) rfl (Or.inl rfl)) (R8 (D7 (n:=1) (show List.Nodup (["number", "piece"]:List Str) by decide +kernel) rfl (Or.inl rfl)) cE)))) (fun _ _ _ _ _=>b8) (fun _ _ _ _ _=>(O6 (qa_c (qv 1) (qa_c (qv 0) A1))))) A1)))
   (A6 (oQ (n:=5) sc_lined_up.nd rfl vaN (R9:CompOk ["rows", "after", "ahead", "pieces", "numbers", "free", "line", "number", "other"] (C3 Q3).names _ ["piece", "numbers", "ahead"] 1 [4,2]) (O5 (K:=K) (vi lO)) (fun _ _ _ _ _=>D7 (n:=0) (show List.Nodup (["piece", "numbers", "ahead"]:List Str) by decide +kernel) rfl (Or.inl rfl)) (fun _ _ _ _ _=>(kM (K2 (q_eq (K:=K) hu) (i9 C5 (qv 2) (qv 0)) A5))) (fun _ _ _ _ _=>(i9 C5 (qv 1) (qv 0))))
   (A6 (E1 (n:=6) sc_lined_up.nd rfl vaO (N2 A1))
   (A6 (tF PassesOwn.never (Y5 (K:=K) (vi pW)) (A6 (E1 (n:=7) sc_lined_up.nd rfl vaP (qe_cB (aqW (calm:=true)) T.b_min amg (qa_c (vi pW) A1)))
   (A6 (N3 (qe_mB (K:=K) N8 PySem.F.slot_list_remove PySem.F.type_list_remove ajX (vi pW) (qa_c (vi vK) A1)))
   (A6 (N3 (qe_mB (K:=K) N8 T7 T6 T9 (vi vJ) (qa_c (qe_ix (K:=K) (vi lO) (vi vK)) A1)))
   (B1 (O0 PassesOwn.never (O5 (K:=K) (i9 C5 (vi vI) (qe_ix (K:=K) (vi lO) (vi vK)))) (D7 (n:=8) sc_lined_up.nd rfl vaQ (.inl rfl)) (A6 (ajx C5 (vi vaC) (vi vL) A5 aqC)
   (B1 (qs_if (K2 (q_eq (K:=K) hu) (i9 C5 (vi vaC) (vi vL)) A5) (B1 (N3 (qe_mB (K:=K) N8 T7 T6 T9 (vi pW) (qa_c (i9 C5 (vi vaE) (vi vL)) A1)))) M0)))))))))
   (A6 (qs_if (K2 q_lt (qe_cB (q_len (K:=K)) T.b_len i6 (qa_c (vi vJ) A1)) (qe_cB (q_len (K:=K)) T.b_len i6 (qa_c (vi lO) A1))) (B1 oP) M0)
   (B1 (E6 (vi vJ))))))))))),?_⟩
  obtain ⟨a,rs,zss,rank,rfl,hR,hz,p7,q⟩:=h;walk_at "rd";have A7:(toldL zss).length<=100000:=L4 (kJ zss) hz;have hElen:(edges zss).length<=100000:=L4 (af8 zss) hz;have tnd:=oV zss;have etold:∀ e∈edges zss,e.1∈toldL zss/\e.2∈toldL zss:=fun e he=>ain he
  refine ⟨a,rs,zss,rfl,hR,hz,fun d ad H1 nd S1 hd dl=>?_⟩;generalize mT:toldL zss=ts at *;generalize hEE:edges zss=E at *;refine ⟨d,ts,ad,E,rfl,hd,tnd,A7,hElen,dl.row,etold,fun c H2 nc S2 hc=>?_⟩;walk_at "rd";refine rListR.d (.of (S2 _ _ hd)) fun w nw=>?_
  rw [alz];have Y1:=S1.trans S2;have ncH:H c=none:=S1.free nc;have Q4:=S2 _ _ hd;have ncd:c≠d:=fun e=>by rw [e,hd] at nc;cases nc
  have nac:∀ t∈ts,ad t≠c:=fun t ht e=>by have:=dl.row t ht;rw [e,nc] at this;cases this
  have qR:A0 H2 w (.lst (ts.map V.str)) w=some (.lst (ts.map V.str)):=A2;have Sw:Same H2 (A0 H2 w (.lst (ts.map V.str))):=Same.new nw;generalize A0 H2 w (.lst (ts.map V.str))=H3 at qR Sw ⊢
  have idx:∀ {i:Nat} {z:Str},ts[i]?=some z->ts.idxOf z=i:=fun {i z} h=>by
   obtain ⟨hi,rfl⟩:=E9.mp h;exact List.Nodup.idxOf_getElem tnd i hi
  refine ⟨w,rfl,⟨_,qR⟩,compE (xs:=ts.map V.str) [] rfl (fun D i ys H4=>∃ qs:List Addr,ys=qs.map V.ref/\Same H3 H4/\Paired (fun q t=>H4 q=some (.tup [.str t,.int (ts.idxOf t:Nat)])) qs (ts.take i)) (fun D nD=>⟨[],rfl,Same.new nD,.nil⟩) (by rintro D i ys H4 nD _ ⟨_,_,S,_⟩;exact S _ _ qR) ?_ ?_⟩
  .rintro D i x t ys H4 nD hi hx ⟨qs,rfl,S,P4⟩ hD hy nt;obtain ⟨z,hz,rfl⟩:=K1 hx;rw [A4] at hi hy;walk_at "rd";refine ⟨by decide,fun p np=>⟨D0 (D0 hD nt) np,by rw [A4];exact G9 (by lia),gY.put (by rw [A4];exact hi) (by rw [A4];exact hy) ⟨qs++[p],by rw [D9];rfl,((S.trans (Same.new nt)).trans (Same.new np)).put nD,?_⟩⟩⟩;rw [K8 hz];refine Paired.snoc (O4 P4 fun q t' h=>?_) ?_
   .rw [A3 (fun e=>by rw [e,hD] at h;cases h)];exact D0 (D0 h nt) np
   .rw [A3 (fun e=>by rw [e,D0 hD nt] at np;cases np),A2,idx hz]
  rintro D ys H4 nD ⟨qs,rfl,xY,P4⟩ hD hy;rw [A4,K7] at P4;refine ⟨rfl,D,qs,_,rfl,.of hD,ahL (f:=fun t=>.int (ts.idxOf t:Nat)) P4,fun nm nnm=>?_⟩;rw [show W3 [] (B5 ts fun t=>V.int (ts.idxOf t:Nat))=B5 ts fun t=>V.int (ts.idxOf t:Nat) from agc (pre:=[]) (by simpa using tnd)];have S5:Same H2 (A0 H4 nm (.dK (B5 ts fun t=>V.int (ts.idxOf t:Nat)))):=(Sw.trans xY).trans (Same.new nnm);have bC:A0 H4 nm (.dK (B5 ts fun t=>V.int (ts.idxOf t:Nat))) w=some (.lst (ts.map V.str)):=D0 (xY _ _ qR) nnm;have xZ:A0 H4 nm (.dK (B5 ts fun t=>V.int (ts.idxOf t:Nat))) nm=some (.dK (B5 ts fun t=>V.int (ts.idxOf t:Nat))):=A2;have iZ:H4 c=some (.dK (B5 ts fun t=>.int (G4 E [] t:Nat))):=xY _ _ (Sw _ _ hc);have ncn:c≠nm:=fun e=>by rw [<- e,iZ] at nnm;cases nnm
  generalize A0 H4 nm (.dK (B5 ts fun t=>V.int (ts.idxOf t:Nat)))=H5 at S5 bC xZ ⊢
  have T3:=S5 _ _ hc;have hd5:=S5 _ _ Q4;have iO:∀ t∈ts,H5 (ad t)=some (.lst ((F9 E t).map V.str)):=fun t ht=>S5 _ _ (S2 _ _ (dl.row t ht))
  have S05:=Y1.trans S5;have ncw:c≠w:=fun e=>by rw [e,bC] at T3;cases T3
  refine ⟨w,rfl,⟨_,.of bC⟩,compL (xs:=ts.map V.str) [some (.ref nm),some (.ref c)] rfl (fun D i ys H6=>∃ fr:List Int,ys=fr.map V.int/\Same H5 H6/\FS (ts.take i) [] (fun q=>G4 E [] q=0) fr) (fun D nD=>⟨[],rfl,Same.new nD,FS.nil _⟩) (by rintro D i ys H6 nD _ ⟨_,_,S,_⟩;exact .of (S _ _ bC)) ?_ ?_⟩
  .rintro D i x ys H6 nD hi hx ⟨fr,rfl,S,F⟩ hD hy;obtain ⟨z,hz,rfl⟩:=K1 hx;have hzt:z∈ts:=M7 hz;have mR:i<ts.length:=(E9.mp hz).1;rw [A4] at hy;have hs:=F.snoc (i:=i) (q:=z) (by rw [G6];lia) (by simp);rw [<- K8 hz] at hs;walk_at "rd";refine ⟨V.int (G4 E [] z:Nat),.inl ⟨_,Sum.inr z,.inl (S _ _ T3),rfl,by rw [P1,if_pos hzt]⟩,?_⟩
   try walk_at "rd"
   refine iteD (fun h0=>⟨V.int (ts.idxOf z:Nat),.inl ⟨_,Sum.inr z,.inl (S _ _ xZ),rfl,by rw [P1,if_pos hzt]⟩,hD,by rw [A4];exact G9 (by lia),CW.put hi (by rw [A4];exact hy) ⟨fr++[(i:Int)],by rw [D9,idx hz];rfl,S.put nD,hs.1 (by lia)⟩⟩) fun h0=>⟨hD,uai hi (by rw [A4];exact hy) ⟨fr,rfl,S,hs.2 (by lia)⟩⟩
  rintro f ys H6 nf ⟨fr,rfl,yA,F0⟩ yB hy;rw [A4,K7] at F0;intro ln nln;have nln5:H5 ln=none:=yA.free nln;have p8:f≠ln:=fun e=>by rw [e,nln] at yB;cases yB
  have frlen:∀ {line fr z},FS ts line z fr->fr.length<=ts.length:=fun {line fr z} F=>by
   have h1:∀ n∈fr,n∈(P6 ts.length).map fun (n:Nat)=>(n:Int):=fun n hn=>by
    obtain ⟨m,q,e,h2,_⟩:=(F.2 n).mp hn;exact E2.mpr ⟨m,W9.mpr (E9.mp h2).1,e.symm⟩
   have:=aeM F.1 h1
   simpa using this
  refine tG (fun m Y H7=>∃ (u v:Option V) (line:List Str) (fr:List Int),Y=[some (.ref a),some (.ref d),some (.ref c),some (.ref w),some (.ref nm),some (.ref f),some (.ref ln),u,v]/\SameBut c H5 H7/\
    H7 c=some (.dK (B5 ts fun t=>.int (G4 E line t:Nat)))/\H7 f=some (.lst (fr.map V.int))/\FS ts line (fun q=>G4 E line q=0) fr/\H7 ln=some (.lst (line.map V.str))/\U9 E ts line/\m=ts.length-line.length) ts.length
   ⟨none,none,[],fr,rfl,fun b o _ h=>D0 (yA _ _ h) nln,D0 (yA _ _ T3) nln,D0 yB nln,F0,A2,U9.nil _ _,rfl⟩ ?_
  rintro m Y H7 ⟨u,v,line,fr,rfl,B7,hc7,qS,F,yC,run,rfl⟩;have S07:Same H H7:=B7.same S05 ncH;walk_at "rd";refine ⟨_,tI qS,?_⟩
  by_cases bD:fr=[]
  .have aV:∀ p∈ts,p∈line:=fun p hp=>Classical.byContradiction fun hn=>by
    obtain ⟨q',hq⟩:=aly (line:=line) p7 (fun e he=>(etold e he).1) ⟨p,hp,hn⟩;obtain ⟨h1,h2,h3⟩:=kO hq;obtain ⟨k,hk⟩:=List.mem_iff_getElem?.mp h1
    have:=(F.2 (k:Int)).mpr ⟨k,q',rfl,hk,h2,h3⟩
    rw [bD] at this
    cases this
   have fM:=tL tnd run aV;rw [bD];refine iteF ?_
   try walk_at "rd"
   refine ⟨line.length,.inl ⟨_,.of yC,by rw [A4]⟩,ts.length,.inl ⟨_,.of (B7 _ _ ncw.symm bC),by rw [A4]⟩,?_⟩
   try walk_at "rd"
   exact iteD (fun h=>absurd h (by lia)) fun _=>q ln line H7 (S05.free nln5) S07 yC run aV
  rw [show (!(fr.map V.int).isEmpty)=true by cases fr with | nil=>exact absurd rfl bD | cons=>rfl];refine iteT ⟨fun σ' H'=>∃ (u v:Option V) (line':List Str) (fr:List Int),σ'=[some (.ref a),some (.ref d),some (.ref c),some (.ref w),some (.ref nm),some (.ref f),some (.ref ln),u,v]/\SameBut c H5 H'/\
    H' c=some (.dK (B5 ts fun t=>.int (G4 E line' t:Nat)))/\H' f=some (.lst (fr.map V.int))/\FS ts line' (fun q=>G4 E line' q=0) fr/\H' ln=some (.lst (line'.map V.str))/\U9 E ts line'/\ts.length-line'.length<ts.length-line.length,?_,?_⟩
  .rintro σ' H' ⟨u,v,line',fr',rfl,h1,h2,h3,h4,h5,h6,h7⟩;exact ⟨_,h7,⟨_,_,rfl⟩,h1,line',h2,fr',h3,h4,h5,h6,rfl⟩
  try walk_at "rd"
  refine ⟨fr,qS,bD,fun M hM fK=>?_⟩;obtain ⟨mm,p,rfl,mP,Z6⟩:=agQ F hM fK;obtain ⟨f8,V3,p5⟩:=kO Z6;have yD:line.length<ts.length:=by
   have h1:(line++[p]).Nodup:=(run.snoc Z6).nodup;have h3:=af9 h1 fun x hx=>(run.snoc Z6).sub hx
   rw [C8,T4] at h3;lia
  have F1:=F.take tnd mP
  try walk_at "rd"
  refine ⟨N1 qS,aqV qS hM ?_⟩;have hwf:w≠f:=fun e=>by rw [e,nf] at bC;cases bC
  have yE:c≠f:=fun e=>by rw [e,nf] at T3;cases T3
  have bA:c≠ln:=fun e=>by rw [e,nln5] at T3;cases T3
  have B8:SameBut c H5 (A0 H7 f (.lst ((fr.erase (mm:Int)).map V.int))):=B7.put nf;have qT:A0 H7 f (.lst ((fr.erase (mm:Int)).map V.int)) ln=some (.lst (line.map V.str)):=by rw [A3 p8.symm];exact yC
  have hf8:A0 H7 f (.lst ((fr.erase (mm:Int)).map V.int)) f=some (.lst ((fr.erase (mm:Int)).map V.int)):=A2;have hc8:A0 H7 f (.lst ((fr.erase (mm:Int)).map V.int)) c=some (.dK (B5 ts fun t=>.int (G4 E line t:Nat))):=by rw [A3 yE];exact hc7
  generalize A0 H7 f (.lst ((fr.erase (mm:Int)).map V.int))=H8 at B8 qT hf8 hc8 ⊢
  have atp:L0 (ts.map V.str) (mm:Int)=some (V.str p):=E7 (by rw [L7,mP];rfl);refine ⟨N1 qT,_,.inl (.of (B8 _ _ ncw.symm bC)),V.str p,atp,appOk qT (by rw [A4];exact G9 (by lia)) ?_⟩;have B9:SameBut c H5 (A0 H8 ln (.lst (line.map V.str++[V.str p]))):=B8.put nln5;have qU:A0 H8 ln (.lst (line.map V.str++[V.str p])) ln=some (.lst ((line++[p]).map V.str)):=by rw [A2,D9];rfl
  have hf9:A0 H8 ln (.lst (line.map V.str++[V.str p])) f=some (.lst ((fr.erase (mm:Int)).map V.int)):=by rw [A3 p8];exact hf8
  have hc9:A0 H8 ln (.lst (line.map V.str++[V.str p])) c=some (.dK (B5 ts fun t=>.int (G4 E line t:Nat))):=by rw [A3 bA];exact hc8
  generalize A0 H8 ln (.lst (line.map V.str++[V.str p]))=H9 at B9 qU hf9 hc9 ⊢
  refine ⟨_,.inl (.of (B9 _ _ ncw.symm bC)),V.str p,atp,V.ref (ad p),.inl ⟨_,Sum.inr p,.inl (B9 _ _ ncd.symm hd5),rfl,by rw [P1,if_pos f8]⟩,ad p,rfl,⟨_,.of (B9 _ _ (nac p f8) (iO p f8))⟩,
   forL (xs:=(F9 E p).map V.str) (fun j Y H7=>∃ (x:Option V) (fr:List Int),Y=[some (.ref a),some (.ref d),some (.ref c),some (.ref w),some (.ref nm),some (.ref f),some (.ref ln),some (.int (mm:Int)),x]/\SameBut c H5 H7/\
    H7 c=some (.dK (B5 ts fun t=>.int ((G4 E line t:Nat)-(((F9 E p).take j).count t:Nat))))/\H7 f=some (.lst (fr.map V.int))/\FS ts (line++[p]) (fun q=>G4 E line q=((F9 E p).take j).count q) fr/\H7 ln=some (.lst ((line++[p]).map V.str)))
   ⟨v,_,rfl,B9,?_,hf9,F1.congr fun q=>(by simp),qU⟩ (by rintro j Y H7 _ ⟨_,_,_,B,_⟩;exact .of (B _ _ (nac p f8) (iO p f8))) ?_ ?_⟩
  .rw [hc9];exact congrArg (fun x=>some (HO.dK x)) (U0 fun t _=>congrArg V.int (by simp))
  .rintro j v5 Y U4 xW ⟨x,fr,rfl,B,p9,fP,F,fQ⟩;obtain ⟨y,hy,rfl⟩:=K1 xW;have dA:y∈ts:=by
    have:=M7 hy
    unfold F9 at this;obtain ⟨e,he,rfl⟩:=E2.mp this;exact (etold e (T5.mp he).1).2
   have fJ:((F9 E p).take j).count y<G4 E line y:=by
    have h1:=ahI (E:=E) (q:=y) V3;have h2:(F9 E p).count y=((F9 E p).take (j+1)).count y+((F9 E p).drop (j+1)).count y:=by rw [<- List.count_append,g3]
    rw [K8 hy,List.count_append,List.count_singleton,if_pos (by simp)] at h2;lia
   have hyb:y∉line++[p]:=fun hm=>by
    rcases D3.mp hm with hm | hm
    .have:=alI run hm;lia
    .rw [D1.mp hm] at fJ;lia
   obtain ⟨my,hmy⟩:=List.mem_iff_getElem?.mp dA;have mU:∀ q,((F9 E p).take (j+1)).count q=((F9 E p).take j).count q+if y=q then 1 else 0:=fun q=>by
    rw [K8 hy,List.count_append,List.count_singleton]
    by_cases e:y=q
    .rw [if_pos e,if_pos (by simpa using e)]
    .rw [if_neg e,if_neg (by simpa using e)]
   have turn:=F.turn (z':=fun q=>G4 E line q=((F9 E p).take (j+1)).count q) tnd (y:=y) (fun q hq=>by rw [mU,if_neg (fun e=>hq e.symm),Nat.add_zero]) (by lia) hmy hyb;have Q8:B5 ts (fun t=>V.int (if t=y then (G4 E line y:Nat)-(((F9 E p).take j).count y:Nat)-1 else (G4 E line t:Nat)-(((F9 E p).take j).count t:Nat)))=B5 ts (fun t=>V.int ((G4 E line t:Nat)-(((F9 E p).take (j+1)).count t:Nat))):=U0 fun q _=>by
    rw [mU]
    by_cases e:q=y
    .rw [if_pos e,e,if_pos rfl];exact congrArg V.int (by lia)
    .rw [if_neg e,if_neg (fun z=>e z.symm)];exact congrArg V.int (by lia)
   walk_at "rd";refine ⟨_,.inl ⟨_,Sum.inr y,.inl p9,rfl,by rw [P1,if_pos dA]⟩,_,_,rfl,rfl,_,bZ (k:=Sum.inr y) p9 (by rw [j3];exact G9 (by lia)),?_⟩;have bE:A0 U4 c (.dK (putK (B5 ts fun t=>V.int ((G4 E line t:Nat)-(((F9 E p).take j).count t:Nat))) (Sum.inr y) (V.int ((G4 E line y:Nat)-(((F9 E p).take j).count y:Nat)-1)))) c=some (.dK (B5 ts (fun t=>V.int ((G4 E line t:Nat)-(((F9 E p).take (j+1)).count t:Nat))))):=by
    rw [A2,oU _ dA,<- Q8];refine congrArg (fun x=>some (HO.dK x)) (U0 fun q _=>?_)
    by_cases e:q=y
    .rw [if_pos e,if_pos e]
    .rw [if_neg e,if_neg e]
   have B11:SameBut c H5 (A0 U4 c (.dK (putK (B5 ts fun t=>V.int ((G4 E line t:Nat)-(((F9 E p).take j).count t:Nat))) (Sum.inr y) (V.int ((G4 E line y:Nat)-(((F9 E p).take j).count y:Nat)-1))))):=B.at;have bF:A0 U4 c (.dK (putK (B5 ts fun t=>V.int ((G4 E line t:Nat)-(((F9 E p).take j).count t:Nat))) (Sum.inr y) (V.int ((G4 E line y:Nat)-(((F9 E p).take j).count y:Nat)-1)))) f=some (.lst (fr.map V.int)):=by rw [A3 yE.symm];exact fP
   have fR:A0 U4 c (.dK (putK (B5 ts fun t=>V.int ((G4 E line t:Nat)-(((F9 E p).take j).count t:Nat))) (Sum.inr y) (V.int ((G4 E line y:Nat)-(((F9 E p).take j).count y:Nat)-1)))) ln=some (.lst ((line++[p]).map V.str)):=by rw [A3 bA.symm];exact fQ
   generalize A0 U4 c (.dK (putK (B5 ts fun t=>V.int ((G4 E line t:Nat)-(((F9 E p).take j).count t:Nat))) (Sum.inr y) (V.int ((G4 E line y:Nat)-(((F9 E p).take j).count y:Nat)-1))))=dB at bE B11 bF fR ⊢
   refine ⟨V.int ((G4 E line y:Nat)-(((F9 E p).take (j+1)).count y:Nat)),.inl ⟨_,Sum.inr y,.inl bE,rfl,by rw [P1,if_pos dA]⟩,?_⟩
   try walk_at "rd"
   have yF:=frlen F;refine iteD (fun h0=>⟨N1 bF,V.int (ts.idxOf y:Nat),.inl ⟨_,Sum.inr y,.inl (B11 _ _ ncn.symm xZ),rfl,by rw [P1,if_pos dA]⟩,appOk bF (by rw [A4];exact G9 (by lia)) ?_⟩) fun h0=>?_
   .refine ⟨B11.put nf,?_,fr++[(my:Int)],?_,turn.1 (by lia),?_⟩
    .rw [A3 yE];exact bE
    .rw [A2,D9,idx hmy];rfl
    .rw [A3 p8.symm];exact fR
   .exact ⟨B11,bE,fr,bF,turn.2 (by lia),fR⟩
  .rintro Y U4 ⟨x,fr,rfl,B,p9,fP,F,fQ⟩;rw [A4,K7] at p9 F;have dC:∀ q,G4 E line q=G4 E (line++[p]) q+(F9 E p).count q:=fun q=>ahI (E:=E) (q:=q) V3
   refine ⟨⟨_,_,rfl⟩,B,line++[p],?_,fr,fP,F.congr fun q=>?_,fQ,run.snoc Z6,by rw [C8,T4];lia⟩
   .rw [p9];exact congrArg (fun x=>some (HO.dK x)) (U0 fun q _=>congrArg V.int (by have:=dC q;lia))
   .have:=dC q
    lia
theorem agy:FnScope ["sign"] ["sign"] (C3 pM):=J8
abbrev ahd:List Str:=["sign"]
theorem vaR:VS ahd pM "sign" 0:=vq
theorem agz(F:FunD K "is_figure" "is_figure" pM f fd)(T:Txt P w K mg C):FnOk P w K mg base E8 1 f fd ["sign"] gZ:=by
 refine F.ok agy ?_ ?_
 .rintro _ _ _ _ ⟨c,rfl,_⟩;rfl
 .intro cdv A outer s H vs Q E hr h;have C5:=hu_of hr;have hu:=hr.units;refine ⟨_,QSs.out (B1 (E6 (alo q_le q_le L1 (vi vaR) L1))),?_⟩;obtain ⟨c,rfl,q⟩:=h;walk_at "rd";have e1:(Str.ofString "0").cps.toList=[48]:=by decide +kernel
  have e2:(Str.ofString "9").cps.toList=[57]:=by decide +kernel
  rw [e1,e2];simp only [aqM];refine iteN (fun h1=>?_) fun h1=>?_
  .have e:figO c=!decide (57<c):=by
    unfold figO;rw [decide_eq_true (by lia:48<=c)]
    by_cases h2:c<=57
    .rw [decide_eq_true h2,decide_eq_false (by lia:¬ 57<c)];rfl
    .rw [decide_eq_false h2,decide_eq_true (by lia:57<c)];rfl
   rw [e] at q;exact q
  .have e:figO c=false:=by unfold figO;rw [decide_eq_false (by lia:¬ 48<=c)];rfl
   rw [e] at q;exact q
theorem ahe:FnScope ["rules", "word"] ["rules", "word"] (C3 lB):=J8
abbrev aiE:List Str:=["rules", "word"]
theorem vaS:VS aiE lB "rules" 0:=vq
theorem ahf(F:FunD K "has_rule" "has_rule" lB f fd)(T:Txt P w K mg C):FnOk P w K mg base E8 1 f fd ["rules", "word"] (spHas K):=by
 refine F.ok ahe ?_ ?_
 .rintro _ _ _ _ ⟨a,ts,R,w,rfl,_⟩;rfl
 .intro cdv A outer s H vs Q E hr h;have C5:=hu_of hr;have hu:=hr.units;refine ⟨_,QSs.out (B1 (E6 (qe_cB (q_any (calm:=true)) T.b_any amf (qa_c (Y6  (R9:CompOk ["rules", "word"] (C3 lB).names _ ["rule", "word"] 1 [1]) (O5 (K:=K) (vi vaS)) (fun _ _ _ _ _=>D7 (n:=0) (show List.Nodup (["rule", "word"]:List Str) by decide +kernel) rfl (Or.inl rfl)) (fun _ _ _ _ _=>b8) (fun _ _ _ _ _=>(oO (q_eq (K:=K) hu) (qe_ix (K:=K) (qv 0) A5) (qv 1)))) A1)))),?_⟩;obtain ⟨a,ts,R,w,rfl,hR,hl,q⟩:=h;walk_at "rd";refine ⟨⟨_,.of hR.top⟩,compL (xs:=ts.map V.ref) [some (.str w)] rfl (fun D i ys H4=>ys=((R.take i).map fun z=>decide (z.1=w)).map V.bl/\Same H H4) (fun D nD=>⟨rfl,Same.new nD⟩) (by rintro D i ys H4 nD _ ⟨_,S⟩;exact .of (S _ _ hR.top)) ?_ ?_⟩
  .rintro D i x ys H4 nD hi hx ⟨rfl,S⟩ hD hy;obtain ⟨t,ht,rfl⟩:=K1 hx;obtain ⟨z,hz,D8⟩:=Paired.at hR.row ht;have V4:i<R.length:=(E9.mp hz).1;walk_at "rd";refine ⟨_,.inr (.of (S _ _ D8)),V.str z.1,Y7 _ _,?_⟩;walk_at "rd";refine ⟨hD,by rw [A4,A4,G6];exact G9 (by lia),CW.put hi hy ⟨?_,S.put nD⟩⟩;rw [g4,hz]
   simp
  rintro D ys H4 nD ⟨rfl,S⟩ hD hy;rw [A4,hR.len,K7] at hD;refine ⟨_,rfl,hD,?_⟩;have e:((R.map fun z=>decide (z.1=w)).any id)=hasW R w:=by
   unfold hasW;rw [List.any_map];rfl
  rw [e];exact q H4 S
theorem aep:FnScope ["rule"] ["rule"] (C3 pN):=J8
abbrev afz:List Str:=["rule"]
theorem iG:VS afz pN "rule" 0:=vq
theorem aeq(F:FunD K "pieces_told" "pieces_told" pN f fd)(T:Txt P w K mg C):FnOk P w K mg base E8 1 f fd ["rule"] (ajN K):=by
 refine F.ok aep ?_ ?_
 .rintro _ _ _ _ ⟨t,z,rfl,_⟩;rfl
 .intro cdv A outer s H vs Q E hr h;have C5:=hu_of hr;have hu:=hr.units;obtain ⟨a_JOBS,m_JOBS,M_JOBS⟩:=T.x_JOBS;refine ⟨_,QSs.out (A6 (qs_if (K2 (q_eq (K:=K) hu) (qe_ix (K:=K) (vi iG) A5) L1) (B1 (E6 (T8 (K:=K) (vi iG) (O7 A5) i8))) M0)
   (A6 (qs_if (K2 (q_eq (K:=K) hu) (qe_ix (K:=K) (vi iG) A5) L1) (B1 (E6 (T8 (K:=K) (vi iG) (O7 A5) (O7 A5)))) M0)
   (B1 (E6 (sZ (K2 (q_inM M_JOBS) (qe_ix (K:=K) (vi iG) A5) (oN m_JOBS)) (T8 (K:=K) (vi iG) (O7 A5) i8) (O6 A1)))))),?_⟩
  obtain ⟨t,z,rfl,ht,q⟩:=h;have hT:C6 K H t ((z.1::z.2).map V.str):=.of ht;have A7:1<=((z.1::z.2).map V.str).length:=by rw [A4,K9];lia
  walk_at "rd";refine ⟨_,.inr hT,V.str z.1,Y7 _ _,?_⟩;walk_at "rd";refine iteD (fun e=>?_) fun n1=>⟨_,.inr hT,V.str z.1,Y7 _ _,?_⟩
  .refine rSlR.t hT (v9 (k:=2) (by decide) A7) fun p np=>q p _ (Same.new np) (.of ?_)
   rw [A2,show ((2:Int))=((2:Nat):Int) from rfl,eJ,K0,List.drop_succ_cons,<- List.map_drop];unfold O1;rw [if_pos e]
  walk_at "rd";refine iteD (fun e=>?_) fun n2=>⟨_,.inr hT,V.str z.1,Y7 _ _,?_⟩
  .refine rSlR.t hT (v9 (k:=1) (by decide) A7) fun p np=>q p _ (Same.new np) (.of ?_)
   have ecut:cutV ((z.1::z.2).map V.str) (some 1) (some 2)=(z.2.take 1).map V.str:=by
    unfold cutV
    cases z.2 with
    | nil=>rfl
    | cons y r=>
     have e1:HT.sIx ((z.1::y::r).map V.str).length 0 (some 1)=1:=by
      rw [show ((1:Int))=((1:Nat):Int) from rfl,HT.sIx_nat,A4,K9,K9];lia
     have e2:HT.sIx ((z.1::y::r).map V.str).length ((z.1::y::r).map V.str).length (some 2)=2:=by
      rw [show ((2:Int))=((2:Nat):Int) from rfl,HT.sIx_nat,A4,K9,K9];lia
     rw [e1,e2];rfl
   rw [A2,ecut];unfold O1;rw [if_neg n1,if_pos e]
  walk_at "rd"
  by_cases hj:eL z.1
  .rw [tU hj];refine iteT (rSlR.t hT (v9 (k:=1) (by decide) A7) fun p np=>q p _ (Same.new np) (.of ?_));rw [A2,K0,af1];unfold O1;have h3:z.1=("row" : Str)\/z.1=("marks" : Str)\/z.1=("over" : Str):=by
    rcases hj with h | h | h | h | h
    .exact .inl h
    .exact .inr (.inl h)
    .exact absurd h n1
    .exact absurd h n2
    .exact .inr (.inr h)
   rw [if_neg n1,if_neg n2,if_pos h3]
  .rw [alE hj];refine iteF fun p np=>q p _ (Same.new np) (.of ?_)
   rw [A2];unfold O1;rw [if_neg n1,if_neg n2,if_neg (fun h=>hj (by
    rcases h with h | h | h
    .exact .inl h
    .exact .inr (.inl h)
    .exact .inr (.inr (.inr (.inr h)))))]
   rfl
theorem ahg:FnScope ["jobs", "piece", "job", "figures"] ["jobs", "piece", "job", "figures"] (C3 cJ):=J8
abbrev pX:List Str:=["jobs", "piece", "job", "figures"]
theorem vaU:VS pX cJ "jobs" 0:=vq
theorem vM:VS pX cJ "piece" 1:=vq
theorem vaW:VS pX cJ "job" 2:=vq
theorem vaX:VS pX cJ "figures" 3:=vq
theorem ahh(F:FunD K "is_clash" "is_clash" cJ f fd)(T:Txt P w K mg C)(G_is_figure:FO P w K mg base 1 "is_figure" ["sign"] [] gZ):FnOk P w K mg base E8 2 f fd ["jobs", "piece", "job", "figures"] ajO:=by
 refine F.ok ahg ?_ ?_
 .rintro _ _ _ _ ⟨d,p,j,fg,ks,g,rfl,_⟩;rfl
 .intro cdv A outer s H vs Q E hr h;have C5:=hu_of hr;have hu:=hr.units;obtain ⟨a_AGAIN,m_AGAIN,M_AGAIN⟩:=T.x_AGAIN;refine ⟨_,QSs.out (A6 (qs_if (QW.pt (kL (K2 (q_in (K:=K) hu) (vi vM) (vi vaU)) (kK (QW.pt (qw_or (K2 (q_ne (K:=K) hu) (i9 C5 (vi vaU) (vi vM)) (vi vaW)) (tE (K2 (ajy (K:=K) hu) (vi vaW) (oN m_AGAIN)))))))) (B1 (E6 qe_bl)) M0)
   (B1 (E6 (aqA (vi vaX) (aqz (qe_cB (q_any (calm:=true)) T.b_any amf (qa_c (Y6  (R9:CompOk ["jobs", "piece", "job", "figures"] (C3 cJ).names _ ["sign"] 1 []) (aml (vi vM)) (fun _ _ _ _ _=>D7 (n:=0) (show List.Nodup (["sign"]:List Str) by decide +kernel) rfl (Or.inl rfl)) (fun _ _ _ _ _=>b8) (fun _ _ _ _ _=>(F7 G_is_figure (hm hr) (qa_c (qv 0) A1)))) A1))))))),?_⟩
  obtain ⟨d,p,j,fg,ks,g,rfl,hd,hp,h1,h2,q⟩:=h;walk_at "rd";have tail:(if fg=true then cC (gR p) 1 [] (gName 0) tYes (tCall gZ [] E0 (tCons (tVar 0) tNil)) [some (V.ref d),some (V.str p),some (V.str j),some (V.bl fg)] (fun x H1=>rAnyB true [x] H1 Q) H else Q (V.bl false) H):=by
   by_cases hf:fg=true
   .rw [if_pos hf];refine compS [] rfl (fun D i ys H4=>ys=((p.cps.toList.take i).map figO).map V.bl/\Same H H4) (fun D nD=>⟨rfl,Same.new nD⟩) ?_ ?_
    .rintro D i x ys H4 nD hi hx ⟨rfl,S⟩ hD hy;walk_at "rd";refine ⟨x,rfl,hD,?_,CW.put hi hy ⟨?_,S.put nD⟩⟩
     .rw [A4,A4,G6];exact G9 (by have:p.cps.size=p.length:=rfl;lia)
     .rw [g4,hx]
      simp
    .rintro D ys H4 nD ⟨rfl,S⟩ hD hy;walk_at "rd";refine ⟨_,hD,?_⟩;have e:((p.cps.toList.take p.cps.size).map figO).any id=false:=by
      rw [List.any_eq_false];intro b hb;obtain ⟨c,hc,rfl⟩:=E2.mp hb;rw [h2 hf c (nR hc)];decide
     rw [e];exact q H4 S
   .rw [if_neg hf];exact q H (Same.refl H)
  refine rInR.d (b0 (k:=Sum.inr p) hd) ⟨_,rfl,?_⟩;rw [P1,dS]
  by_cases hk:p∈ks
  .obtain ⟨e1,e2⟩:=h1 hk;rw [if_pos hk];refine iteT ⟨V.str (g p),.inl ⟨_,Sum.inr p,.inl hd,rfl,by rw [P1,if_pos hk]⟩,?_⟩;walk_at "rd";rw [decide_eq_true e1];refine iteF (rInR.l (.inr (M_AGAIN _)) rfl rfl ⟨_,rfl,?_⟩);have e3:bX (.str j) [V.str "letter",V.str "mark",V.str "over"]=true:=by
    have:=ahD j kQ
    rw [decide_eq_true e2] at this;exact this
   rw [e3];exact iteF tail
  .rw [if_neg hk];exact iteF tail
theorem sc_jobs_of:FnScope ["rules", "figures", "jobs", "rule", "piece"] ["rules"] (C3 j5):=J8
abbrev lP:List Str:=["rules", "figures", "jobs", "rule", "piece"]
theorem vN:VS lP j5 "rules" 0:=vq
theorem vaZ:VS lP j5 "figures" 1:=vq
theorem pY:VS lP j5 "jobs" 2:=vq
theorem vO:VS lP j5 "rule" 3:=vq
theorem va2:VS lP j5 "piece" 4:=vq
theorem va3:LS j5 "figures":=lq
theorem va4:LS j5 "jobs":=lq
theorem va5:LS j5 "rule":=lq
theorem va6:LS j5 "piece":=lq
theorem aiF(F:FunD K "jobs_of" "jobs_of" j5 f fd)(T:Txt P w K mg C)(G_has_rule:FO P w K mg base 1 "has_rule" ["rules", "word"] [] (spHas K))(G_pieces_told:FO P w K mg base 1 "pieces_told" ["rule"] [] (ajN K))(G_is_clash:FO P w K mg base 2 "is_clash" ["jobs", "piece", "job", "figures"] [] ajO):FnOk P w K mg base E8 3 f fd ["rules"] (amq K):=by
 refine F.ok sc_jobs_of ?_ ?_
 .rintro _ _ _ _ ⟨a,ts,R,g,rfl,_⟩;rfl
 .intro cdv A outer s H vs Q E hr h;have C5:=hu_of hr;have hu:=hr.units;obtain ⟨a_JOBS,m_JOBS,M_JOBS⟩:=T.x_JOBS;refine ⟨_,QSs.out (A6 (E1 (n:=1) sc_jobs_of.nd rfl va3 (F7 G_has_rule (hm hr) (qa_c (vi vN) (qa_c L1 A1))))
   (A6 (E1 (n:=2) sc_jobs_of.nd rfl va4 eF)
   (A6 (O0 PassesOwn.never (O5 (K:=K) (vi vN)) (D7 (n:=3) sc_jobs_of.nd rfl va5 (.inl rfl)) (B1 (O0 PassesOwn.never (eG (K:=K) (F7 G_pieces_told (hm hr) (qa_c (vi vO) A1))) (D7 (n:=4) sc_jobs_of.nd rfl va6 (.inl rfl)) (A6 (qs_if (Y5 (K:=K) (F7 G_is_clash (hm hr) (qa_c (vi pY) (qa_c (vi va2) (qa_c (ahE M_JOBS (oN m_JOBS) (qe_ix (K:=K) (vi vO) A5)) (qa_c (vi vaZ) A1)))))) (B1 oP) M0)
   (B1 (aH C5 (vi pY) (vi va2) (ahE M_JOBS (oN m_JOBS) (qe_ix (K:=K) (vi vO) A5))))))))
   (A6 (qs_if (Y5 (K:=K) (F7 G_has_rule (hm hr) (qa_c (vi vN) (qa_c L1 A1)))) (B1 (aH C5 (vi pY) L1 L1)) M0)
   (B1 (E6 (vi pY))))))),?_⟩
  obtain ⟨a,ts,R,g,rfl,hR,hl,R4,hnc,hbl,q⟩:=h;walk_at "rd";refine ⟨a,ts,R, "figures",rfl,hR,hl,fun H1 S1=>?_⟩;generalize hasW R "figures"=fg at hnc;intro d nd;have qV:H d=none:=S1.free nd;have S2:Same H (A0 H1 d (.dK [])):=fun b o h=>D0 (S1 b o h) nd
  refine ⟨⟨_,.of (S2 _ _ hR.top)⟩,forL (xs:=ts.map V.ref) (fun i Y H2=>∃ (u v:Option V),Y=[some (.ref a),some (.bl fg),some (.ref d),u,v]/\Same H H2/\H2 d=some (.dK (B5 (keysP (C9 (R.take i))) fun t=>.str (g t))))
   ⟨none,none,rfl,S2,by rw [A2];rfl⟩ (by rintro i Y H2 _ ⟨_,_,_,S,_⟩;exact .of (S _ _ hR.top)) ?_ ?_⟩
  .rintro i x Y H2 hx ⟨u,v,rfl,S,hd⟩;obtain ⟨t,ht,rfl⟩:=K1 hx;obtain ⟨z,hz,D8⟩:=Paired.at hR.row ht;walk_at "rd";refine ⟨t,z,rfl,S _ _ D8,fun p H3 S3 hp=>⟨p,rfl,⟨_,hp⟩,forT (xs:=(O1 z).map V.str) (fun j Y H4=>∃ (v:Option V),Y=[some (.ref a),some (.bl fg),some (.ref d),some (.ref t),v]/\C6 K H4 p ((O1 z).map V.str)/\Same H H4/\H4 d=some (.dK (B5 (keysP (C9 (R.take i)++((O1 z).take j).map fun p=>(p,jobD z.1))) fun t=>.str (g t))))
    ⟨v,rfl,hp,S.trans S3,by rw [bN,List.map_nil,N0];exact S3 _ _ hd⟩ (by rintro j Y H4 _ ⟨_,_,h,_⟩;exact h) ?_ ?_⟩⟩
   .rintro j x Y H4 jA ⟨v,rfl,k5,S4,Z5⟩;obtain ⟨pc,yG,rfl⟩:=K1 jA;obtain ⟨e1,e2⟩:=aqL hz yG;obtain ⟨n1,n2,n3,n4⟩:=hnc _ _ _ e1;rw [e2] at n2;have hw:=kT (M7 yG);have V6:C6 K H4 t ((z.1::z.2).map V.str):=.of (S4 _ _ D8);have W7:(keysP (C9 (R.take i)++((O1 z).take j).map fun p=>(p,jobD z.1))).length<=10000:=by
     have h1:=tT (C9 (R.take i)++((O1 z).take j).map fun p=>(p,jobD z.1));have h2:=congrArg g9 e2;rw [G6] at h2;lia
    walk_at "rd";refine ⟨_,.inr V6,V.str z.1,Y7 _ _,Sum.inr z.1,rfl,V.str (jobD z.1),tU hw,d,pc,jobD z.1,fg,_,g,rfl,Z5,n4,fun hk=>⟨n1.symm,n2 ((kR _ _).mp hk)⟩,n3,fun H5 S5=>⟨false,rfl,iteF ⟨_,.inr (V6.same S5),V.str z.1,Y7 _ _,Sum.inr z.1,rfl,V.str (jobD z.1),tU hw,_,bZ (k:=Sum.inr pc) (S5 _ _ Z5) (by rw [j3];exact G9 (by lia)),(k5.same S5).dput (S5 _ _ Z5),(S4.trans S5).put qV,?_⟩⟩⟩;rw [A2,K8 yG,D9,<- Q5];rw [show ([pc].map fun p=>(p,jobD z.1))=[(pc,jobD z.1)] from rfl,aip];unfold dd
    by_cases K6:pc∈keysP (C9 (R.take i)++((O1 z).take j).map fun p=>(p,jobD z.1))
    .rw [if_pos K6,oU _ K6];refine congrArg (fun x=>some (HO.dK x)) (U0 fun t _=>?_)
     by_cases e:t=pc
     .rw [if_pos e,e,n1]
     .rw [if_neg e]
    .rw [if_neg K6,cG _ K6];refine congrArg (fun x=>some (HO.dK x)) (U0 fun t _=>?_)
     by_cases e:t=pc
     .rw [if_pos e,e,n1]
     .rw [if_neg e]
   .rintro Y H4 ⟨v,rfl,k5,S4,Z5⟩;walk_at "rd";refine ⟨S4,?_⟩;rw [aeK hz];rw [A4,K7] at Z5;exact Z5
  .rintro Y H2 ⟨u,v,rfl,S,hd⟩;rw [A4,hR.len,K7] at hd;walk_at "rd";refine ⟨a,ts,R, "blanks",rfl,hR.same S,hl,fun H3 S3=>⟨hasW R "blanks",rfl,?_⟩⟩;have Y0:=S3 _ _ hd;have dD:(" " : Str)∉keysP (C9 R):=fun h=>hbl ((kR _ _).mp h)
   have W7:=tT (C9 R);have hg:∀ t∈keysP (C9 R),V.str (g t)=jobG g t:=fun t ht=>by
    unfold jobG;rw [if_neg (fun e=>dD (by rw [<- e];exact ht))]
   by_cases hb:hasW R "blanks"=true
   .rw [hb];refine iteT ⟨_,bZ (k:=Sum.inr (" " : Str)) Y0 (by rw [j3];exact G9 (by lia)),q d _ qV ((S.trans S3).put qV) ?_⟩;rw [A2,cG _ dD];unfold Y8;rw [if_pos hb];refine congrArg (fun x=>some (HO.dK x)) (U0 fun t ht=>?_);unfold jobG
    by_cases e:t=(" " : Str)
    .simp only [if_pos e]
    .simp only [if_neg e]
   .rw [jT] at hb;rw [hb];refine iteF (q d _ qV (S.trans S3) ?_);unfold Y8;rw [hb,if_neg L5,N0,Y0];exact congrArg (fun x=>some (HO.dK x)) (U0 hg)
theorem sc_misused:FnScope ["rule", "jobs", "first"] ["rule", "jobs"] (C3 aK):=J8
abbrev agA:List Str:=["rule", "jobs", "first"]
theorem lQ:VS agA aK "rule" 0:=vq
theorem va8:VS agA aK "first" 2:=vq
theorem va9:LS aK "first":=lq
theorem aiG(F:FunD K "misused" "misused" aK f fd)(T:Txt P w K mg C):FnOk P w K mg base E8 1 f fd ["rule", "jobs"] (amt K):=by
 refine F.ok sc_misused ?_ ?_
 .rintro _ _ _ _ ⟨t,d,z,ks,g,rfl,_⟩;rfl
 .intro cdv A outer s H vs Q E hr h;have C5:=hu_of hr;have hu:=hr.units;refine ⟨_,QSs.out (A6 (qs_if (K2 (q_eq (K:=K) hu) (qe_ix (K:=K) (vi lQ) A5) L1) (B1 (E6 (Y6  (R9:CompOk ["rule", "jobs", "first"] (C3 aK).names _ ["piece", "jobs"] 1 [1]) (eG (K:=K) (T8 (K:=K) (vi lQ) (O7 A5) (O7 A5))) (fun _ _ _ _ _=>D7 (n:=0) (show List.Nodup (["piece", "jobs"]:List Str) by decide +kernel) rfl (Or.inl rfl)) (fun _ _ _ _ _=>(kM (K2 (q_ne (K:=K) hu) (tS C5 (qv 1) (qv 0)) L1))) (fun _ _ _ _ _=>(qv 0))))) M0)
   (A6 (qs_if (K2 (q_eq (K:=K) hu) (qe_ix (K:=K) (vi lQ) A5) L1) (A6 (oQ (n:=2) sc_misused.nd rfl va9 (R9:CompOk ["rule", "jobs", "first"] (C3 aK).names _ ["piece", "jobs"] 1 [1]) (eG (K:=K) (T8 (K:=K) (vi lQ) (O7 A5) (O7 A5))) (fun _ _ _ _ _=>D7 (n:=0) (show List.Nodup (["piece", "jobs"]:List Str) by decide +kernel) rfl (Or.inl rfl)) (fun _ _ _ _ _=>(kM (K2 (q_ne (K:=K) hu) (tS C5 (qv 1) (qv 0)) L1))) (fun _ _ _ _ _=>(qv 0)))
   (B1 (E6 (qe_op (q_add (K:=K)) (vi va8) (Y6  (R9:CompOk ["rule", "jobs", "first"] (C3 aK).names _ ["piece", "jobs"] 1 [1]) (eG (K:=K) (T8 (K:=K) (vi lQ) (O7 A5) i8)) (fun _ _ _ _ _=>D7 (n:=0) (show List.Nodup (["piece", "jobs"]:List Str) by decide +kernel) rfl (Or.inl rfl)) (fun _ _ _ _ _=>(kM (K2 (ajy (K:=K) hu) (tS C5 (qv 1) (qv 0)) (O6 (qa_c L1 (qa_c L1 A1)))))) (fun _ _ _ _ _=>(qv 0))))))) M0)
   (B1 (E6 (N2 A1))))),?_⟩
  obtain ⟨t,d,z,ks,g,rfl,ht,hd,us,hl,q⟩:=h;have hT:C6 K H t ((z.1::z.2).map V.str):=.of ht;walk_at "rd";refine ⟨_,.inr hT,V.str z.1,Y7 _ _,?_⟩;walk_at "rd"
  by_cases h1:z.1=("great" : Str)
  .rw [decide_eq_true h1];have A7:1<=((z.1::z.2).map V.str).length:=by rw [A4,K9];lia
   refine iteT (rSlR.t hT (v9 (k:=1) (by decide) A7) fun s ns=>?_);have ecut:cutV ((z.1::z.2).map V.str) (some 1) (some 2)=(z.2.take 1).map V.str:=by
    rw [show cutV ((z.1::z.2).map V.str) (some 1) (some 2)=_ from uD ((z.1::z.2).map V.str) (i:=1) (j:=2) (by decide),K0,List.drop_succ_cons,List.drop_zero,<- dO]
   rw [ecut];have S1:Same H (A0 H s (.tup ((z.2.take 1).map V.str))):=Same.new ns;have hs:A0 H s (.tup ((z.2.take 1).map V.str)) s=some (.tup ((z.2.take 1).map V.str)):=A2;generalize A0 H s (.tup ((z.2.take 1).map V.str))=H1 at S1 hs;refine ⟨s,rfl,⟨_,.of hs⟩,compT (xs:=(z.2.take 1).map V.str) [some (.ref d)] rfl (fun D i ys H2=>ys=[]/\Same H1 H2) (fun D nD=>⟨rfl,Same.new nD⟩) (by rintro D i ys H2 nD _ ⟨_,S⟩;exact .of (S _ _ hs)) ?_ ?_⟩
   .rintro D i y ys H2 nD hi hy ⟨rfl,S⟩ hD L3;obtain ⟨p,hp,rfl⟩:=K1 hy;obtain ⟨m1,m2⟩:=us.gr h1 p (M7 hp);have Q4:=S _ _ (S1 _ _ hd);walk_at "rd";refine ⟨.inl ⟨_,.inl Q4⟩,_,b0 (k:=Sum.inr p) Q4,?_⟩;rw [P1,if_pos m1,Option.getD_some,m2];refine ⟨_,rfl,?_⟩;rw [show ∀ v:Str,(!decide (v=v))=false by intro v;simp];exact iteF ⟨hD,hi,G3 _,⟨_,rfl⟩,rfl,S⟩
   .rintro D ys H2 nD ⟨rfl,S⟩ hD L3;exact q D H2 (S1.free nD) (S1.trans S) hD
  rw [decide_eq_false h1];refine iteF ⟨_,.inr hT,V.str z.1,Y7 _ _,?_⟩;walk_at "rd"
  by_cases h2:z.1=("as" : Str)
  .rw [decide_eq_true h2];have A7:1<=((z.1::z.2).map V.str).length:=by rw [A4,K9];lia
   refine iteT (rSlR.t hT (v9 (k:=2) (by decide) A7) fun s ns=>?_);have ecut:cutV ((z.1::z.2).map V.str) (some 2) (some 3)=((z.2.drop 1).take 1).map V.str:=by
    rw [show cutV ((z.1::z.2).map V.str) (some 2) (some 3)=_ from uD ((z.1::z.2).map V.str) (i:=2) (j:=3) (by decide),K0,List.drop_succ_cons,<- List.map_drop,<- dO]
   rw [ecut];have S1:Same H (A0 H s (.tup (((z.2.drop 1).take 1).map V.str))):=Same.new ns;have hs:A0 H s (.tup (((z.2.drop 1).take 1).map V.str)) s=some (.tup (((z.2.drop 1).take 1).map V.str)):=A2;generalize A0 H s (.tup (((z.2.drop 1).take 1).map V.str))=H1 at S1 hs;refine ⟨s,rfl,⟨_,.of hs⟩,compT (xs:=((z.2.drop 1).take 1).map V.str) [some (.ref d)] rfl (fun D i ys H2=>ys=[]/\Same H1 H2) (fun D nD=>⟨rfl,Same.new nD⟩) (by rintro D i ys H2 nD _ ⟨_,S⟩;exact .of (S _ _ hs)) ?_ ?_⟩
   .rintro D i y ys H2 nD hi hy ⟨rfl,S⟩ hD L3;obtain ⟨p,hp,rfl⟩:=K1 hy;obtain ⟨m1,m2⟩:=us.a1 h2 p (M7 hp);have Q4:=S _ _ (S1 _ _ hd);walk_at "rd";refine ⟨.inl ⟨_,.inl Q4⟩,_,b0 (k:=Sum.inr p) Q4,?_⟩;rw [P1,if_pos m1,Option.getD_some,m2];refine ⟨_,rfl,?_⟩;rw [show ∀ v:Str,(!decide (v=v))=false by intro v;simp];exact iteF ⟨hD,hi,G3 _,⟨_,rfl⟩,rfl,S⟩
   rintro D ys H2 nD ⟨rfl,S⟩ hD L3;have S2:=S1.trans S;have hT2:C6 K H2 t ((z.1::z.2).map V.str):=.of (S2 _ _ ht);refine rSlR.t hT2 (v9 (k:=3) (by decide) A7) fun s2 jB=>?_
   have ecut2:cutV ((z.1::z.2).map V.str) (some 3) none=(z.2.drop 2).map V.str:=by
    rw [show cutV ((z.1::z.2).map V.str) (some 3) none=_ from eJ ((z.1::z.2).map V.str) 3,K0,List.drop_succ_cons,<- List.map_drop]
   rw [ecut2];have S3:Same H2 (A0 H2 s2 (.tup ((z.2.drop 2).map V.str))):=Same.new jB;have aS:A0 H2 s2 (.tup ((z.2.drop 2).map V.str)) s2=some (.tup ((z.2.drop 2).map V.str)):=A2;generalize A0 H2 s2 (.tup ((z.2.drop 2).map V.str))=H3 at S3 aS;refine ⟨s2,rfl,⟨_,.of aS⟩,compT (xs:=(z.2.drop 2).map V.str) [some (.ref d)] rfl (fun D i ys H4=>ys=[]/\Same H3 H4) (fun D nD=>⟨rfl,Same.new nD⟩) (by rintro D i ys H4 nD _ ⟨_,S⟩;exact .of (S _ _ aS)) ?_ ?_⟩
   .rintro D2 i y ys H4 nD2 hi hy ⟨rfl,S4⟩ hD2 yH;obtain ⟨p,hp,rfl⟩:=K1 hy;obtain ⟨m1,m2⟩:=us.a2 h2 p (M7 hp);have Z5:=S4 _ _ (S3 _ _ (S2 _ _ hd));walk_at "rd";refine ⟨.inl ⟨_,.inl Z5⟩,_,b0 (k:=Sum.inr p) Z5,?_⟩;rw [P1,if_pos m1,Option.getD_some];refine ⟨by decide,fun v nv=>?_⟩;have fin:bX (g p) [V.str (Str.ofString "letter"),V.str (Str.ofString "mark")]=true/\flatV (g p)=true:=by
     rcases m2 with m2 | m2 <;> rw [m2] <;> exact ⟨by decide +kernel,rfl⟩
    refine rInR.l (.inr (.of A2)) fin.2 rfl ?_;rw [fin.1,Bool.true_xor];exact ⟨_,rfl,iteF ⟨D0 hD2 nv,hi,G3 _,⟨_,rfl⟩,rfl,S4.trans (Same.new nv)⟩⟩
   rintro D2 ys H4 nD2 ⟨rfl,S4⟩ hD2 yH;have hD4:=S4 _ _ (S3 _ _ hD);refine rAddR.l hD4 hD2 (by decide) fun l nl=>?_
   exact q l _ ((S2.trans (S3.trans S4)).free nl) ((S2.trans (S3.trans S4)).trans (Same.new nl)) A2
  rw [decide_eq_false h2];exact iteF fun p np=>q p _ np (Same.new np) A2
theorem sc_check_letters:FnScope ["rules", "jobs", "rule", "wrong"] ["rules", "jobs"] (C3 aL):=J8
abbrev pZ:List Str:=["rules", "jobs", "rule", "wrong"]
theorem vba:VS pZ aL "rules" 0:=vq
theorem vbb:VS pZ aL "jobs" 1:=vq
theorem vbc:VS pZ aL "rule" 2:=vq
theorem vbd:VS pZ aL "wrong" 3:=vq
theorem vbe:LS aL "rule":=lq
theorem vbf:LS aL "wrong":=lq
theorem adE(F:FunD K "check_letters" "check_letters" aL f fd)(T:Txt P w K mg C)(G_misused:FO P w K mg base 1 "misused" ["rule", "jobs"] [] (amt K)):FnOk P w K mg base E8 2 f fd ["rules", "jobs"] (ahN K):=by
 refine F.ok sc_check_letters ?_ ?_
 .rintro _ _ _ _ ⟨a,d,ts,R,ks,g,rfl,_⟩;rfl
 .intro cdv A outer s H vs Q E hr h;have C5:=hu_of hr;have hu:=hr.units;refine ⟨_,QSs.out (B1 (O0 PassesOwn.never (O5 (K:=K) (vi vba)) (D7 (n:=2) sc_check_letters.nd rfl vbe (.inl rfl)) (A6 (E1 (n:=3) sc_check_letters.nd rfl vbf (F7 G_misused (hm hr) (qa_c (vi vbc) (qa_c (vi vbb) A1))))
   (B1 (qs_if (Y5 (K:=K) (vi vbd)) (B1 oP) M0))))),?_⟩
  obtain ⟨a,d,ts,R,ks,g,rfl,hR,hd,hw,q⟩:=h;walk_at "rd";refine ⟨⟨_,.of hR.top⟩,forL (xs:=ts.map V.ref) (fun i Y H2=>∃ (u v:Option V),Y=[some (.ref a),some (.ref d),u,v]/\Same H H2) ⟨none,none,rfl,Same.refl H⟩ (by rintro i Y H2 _ ⟨_,_,_,S⟩;exact .of (S _ _ hR.top)) ?_ ?_⟩
  .rintro i x Y H2 hx ⟨u,v,rfl,S⟩;obtain ⟨t,ht,rfl⟩:=K1 hx;obtain ⟨z,hz,D8⟩:=Paired.at hR.row ht;obtain ⟨n1,n2⟩:=hw z (M7 hz);walk_at "rd";refine ⟨t,d,z,ks,g,rfl,S _ _ D8,S _ _ hd,n1,n2,fun p H3 np S3 hp=>⟨_,tI hp,iteF (S.trans S3)⟩⟩
  .rintro Y H2 ⟨u,v,rfl,S⟩;exact q H2 S
theorem aiH:FnScope ["rules", "word"] ["rules", "word"] (C3 lC):=J8
abbrev akA:List Str:=["rules", "word"]
theorem vbg:VS akA lC "rules" 0:=vq
theorem aiI(F:FunD K "line_of" "line_of" lC f fd)(T:Txt P w K mg C)(G_lined_up:FO P w K mg base 3 "lined_up" ["rows"] [] ajL):FnOk P w K mg base E8 4 f fd ["rules", "word"] (amr K):=by
 refine F.ok aiH ?_ ?_
 .rintro _ _ _ _ ⟨a,ts,R,w,rank,rfl,_⟩;rfl
 .intro cdv A outer s H vs Q E hr h;have C5:=hu_of hr;have hu:=hr.units;refine ⟨_,QSs.out (B1 (E6 (F7 G_lined_up (hm hr) (qa_c (Y6  (R9:CompOk ["rules", "word"] (C3 lC).names _ ["rule", "word"] 1 [1]) (O5 (K:=K) (vi vbg)) (fun _ _ _ _ _=>D7 (n:=0) (show List.Nodup (["rule", "word"]:List Str) by decide +kernel) rfl (Or.inl rfl)) (fun _ _ _ _ _=>(kM (K2 (q_eq (K:=K) hu) (qe_ix (K:=K) (qv 0) A5) (qv 1)))) (fun _ _ _ _ _=>(qe_cT (gU (K:=K) (calm:=true)) T.b_list eE (qa_c (T8 (K:=K) (qv 0) (O7 A5) i8) A1)))) A1)))),?_⟩;obtain ⟨a,ts,R,w,rank,rfl,hR,hl,p8,p7,q⟩:=h;walk_at "rd";refine ⟨⟨_,.of hR.top⟩,compL (xs:=ts.map V.ref) [some (.str w)] rfl (fun D i ys H4=>∃ qs:List Addr,ys=qs.map V.ref/\RowsAt H H4 D qs (rowsW (R.take i) w)) (fun D nD=>⟨[],rfl,⟨⟨A2,.nil⟩,by simp,fun r hr=>by rw [D1.mp hr];exact nD,Same.new nD⟩⟩)
   (by rintro D i ys H4 nD _ ⟨qs,_,RA⟩;exact .of (RA.same _ _ hR.top)) ?_ ?_⟩
  .rintro D i x ys H4 nD hi hx ⟨qs,rfl,RA⟩ hD hy;obtain ⟨t,ht,rfl⟩:=K1 hx;obtain ⟨z,hz,D8⟩:=Paired.at hR.row ht;have V4:i<R.length:=(E9.mp hz).1;have V6:C6 K H4 t ((z.1::z.2).map V.str):=.of (RA.same _ _ D8);have A7:1<=((z.1::z.2).map V.str).length:=by rw [A4,K9];lia
   walk_at "rd";refine ⟨_,.inr V6,V.str z.1,Y7 _ _,?_⟩;walk_at "rd";refine iteD (fun e=>rSlR.t V6 (v9 (k:=1) (by decide) A7) fun p np=>?_) fun e=>⟨hD,uai hi hy ⟨qs,rfl,?_⟩⟩
   .rw [K0,af1];walk_at "rd";refine rListR.l (.inr (.of A2)) fun p2 y7=>⟨D0 (D0 hD np) y7,?_,CW.put hi hy ⟨qs++[p2],by rw [D9];rfl,?_⟩⟩
    .rw [A4] at hy;rw [A4];exact G9 (by lia)
    .rw [aeL hz,if_pos e];have n2:H4 p2=none:=(Same.new np).free y7;exact RA.grow (fun b o h=>D0 (D0 h np) y7) n2 A2
   .rw [aeL hz,if_neg e];exact RA
  rintro D ys H4 nD ⟨qs,rfl,RA⟩ hD hy;rw [A4,hR.len,K7] at RA;refine ⟨D,qs,rowsW R w,rank,rfl,RA.rows,p8,p7,fun l line H5 nl S5 hl5 run cov=>?_⟩;exact q l line H5 (RA.same.free nl) (RA.same.trans S5) hl5 run cov
theorem sc_forms_of:FnScope ["rules", "forms", "rule"] ["rules"] (C3 cK):=J8
abbrev vP:List Str:=["rules", "forms", "rule"]
theorem vbh:VS vP cK "rules" 0:=vq
theorem vbi:VS vP cK "forms" 1:=vq
theorem vQ:VS vP cK "rule" 2:=vq
theorem vbk:LS cK "forms":=lq
theorem vbl:LS cK "rule":=lq
theorem ahi(F:FunD K "forms_of" "forms_of" cK f fd)(T:Txt P w K mg C):FnOk P w K mg base E8 1 f fd ["rules"] (ahM K):=by
 refine F.ok sc_forms_of ?_ ?_
 .rintro _ _ _ _ ⟨a,ts,R,rfl,_⟩;rfl
 .intro cdv A outer s H vs Q E hr h;have C5:=hu_of hr;have hu:=hr.units;refine ⟨_,QSs.out (A6 (E1 (n:=1) sc_forms_of.nd rfl vbk eF)
   (A6 (O0 PassesOwn.never (O5 (K:=K) (vi vbh)) (D7 (n:=2) sc_forms_of.nd rfl vbl (.inl rfl)) (B1 (qs_if (K2 (q_eq (K:=K) hu) (qe_ix (K:=K) (vi vQ) A5) L1) (B1 (N3 (qe_mB (K:=K) N8 jR jQ (ajR (K:=K)) (ahH (vi vbi) (qe_ix (K:=K) (vi vQ) A5) (N2 A1)) (qa_c (T8 (K:=K) (vi vQ) (O7 A5) i8) A1)))) M0)))
   (B1 (E6 (vi vbi))))),?_⟩
  obtain ⟨a,ts,R,rfl,hR,hg,hl,hf,q⟩:=h;walk_at "rd";intro d nd;refine ⟨⟨_,.of (D0 hR.top nd)⟩,forL (xs:=ts.map V.ref) (fun i Y H2=>∃ (u:Option V) (ad:Str->Addr),Y=[some (.ref a),some (.ref d),u]/\Same H H2/\H2 d=some (.dK (B5 (E3 (R.take i)) fun y=>.ref (ad y)))/\DL (A0 H d (.dK [])) H2 (E3 (R.take i)) ad (G2 (R.take i))) ⟨none,fun _=>d,rfl,Same.new nd,A2,⟨by simp [E3,M3,J5],by simp [E3,M3,J5],by simp [E3,M3,J5]⟩⟩ (by rintro i Y H2 _ ⟨_,_,_,S,_⟩;exact .of (S _ _ hR.top)) ?_ ?_⟩
  .rintro i x Y H2 hx ⟨u,ad,rfl,S,hd,dl⟩;obtain ⟨t,ht,rfl⟩:=K1 hx;obtain ⟨z,hz,D8⟩:=Paired.at hR.row ht;have hT:C6 K H2 t ((z.1::z.2).map V.str):=.of (S _ _ D8);walk_at "rd";refine ⟨_,.inr hT,V.str z.1,Y7 _ _,?_⟩;walk_at "rd"
   by_cases jC:z.1=("great" : Str)
   .rw [decide_eq_true jC];refine iteT ?_;obtain ⟨w,ps⟩:=z;obtain rfl:w=("great" : Str):=jC;obtain ⟨y,fs,rfl⟩:∃ y fs,ps=y::fs:=by
     cases ps with
     | nil=>exact absurd rfl (hg _ (M7 hz) rfl)
     | cons y fs=>exact ⟨y,fs,rfl⟩
    have etk:R.take (i+1)=R.take i++[(("great" : Str),y::fs)]:=K8 hz;have p8:(G2 (R.take i) y).length+fs.length<=10000:=by
     have:=hf (i+1) y
     rw [etk,uC,if_pos rfl,C8] at this;exact this
    have W7:(B5 (E3 (R.take i)) fun y=>V.ref (ad y)).length<=1000:=by
     rw [j3];unfold E3;have h1:=kI ((M3 (R.take i)).map (·.1)) [];have h2:(M3 (R.take i)).length<=(R.take i).length:=List.length_filterMap_le _ _;rw [A4,k8] at h1;rw [G6] at h2;lia
    have Q1:L0 (((("great" : Str),y::fs).1::(("great" : Str),y::fs).2).map V.str) 1=some (V.str y):=E7 (j:=1) rfl;have bG:cutV (((("great" : Str),y::fs).1::(("great" : Str),y::fs).2).map V.str) (some 2) none=fs.map V.str:=eJ _ 2;refine ⟨.inl ⟨_,.inl hd⟩,_,.inr hT,V.str y,Q1,fun p np=>⟨_,D0 hd np,Nat.lt_of_le_of_lt W7 (by decide),Sum.inr y,rfl,fun v hv=>?_,fun hn=>?_⟩⟩
    .rw [P1] at hv
     by_cases hy:y∈E3 (R.take i)
     .rw [if_pos hy] at hv;cases hv;have dE:=dl.row y hy;have ndy:ad y≠d:=fun e=>by have:=dl.new y hy;rw [e,A2] at this;cases this
      have nHy:H (ad y)=none:=by have:=dl.new y hy;rw [A3 ndy] at this;exact this
      have T1:Same H2 (A0 H2 p (.lst [])):=Same.new np;generalize A0 H2 p (.lst [])=H3 at T1;refine ⟨N1 (T1 _ _ dE),rSlR.t (hT.same T1) (v9 (k:=2) (by decide) (by simp)) fun s ns=>?_⟩;rw [bG];have T2:Same H3 (A0 H3 s (.tup (fs.map V.str))):=Same.new ns;have hs:A0 H3 s (.tup (fs.map V.str)) s=some (.tup (fs.map V.str)):=A2;generalize A0 H3 s (.tup (fs.map V.str))=H4 at T2 hs;have T:=T1.trans T2;refine ⟨ad y,s,_,_,rfl,rfl,T _ _ dE,.of hs,by rw [A4,A4];exact i7 (by lia),(S.trans T).put nHy,ad,?_,?_⟩
      .rw [A3 ndy.symm,T _ _ hd,etk,oZ];unfold dd;rw [if_pos hy]
      .rw [etk,oZ];unfold dd;rw [if_pos hy,<- D9];refine ((dl.same T).app hy (G2 (R.take i) y++fs)).congr fun x _=>?_
       rw [uC]
       by_cases k4:x=y
       .subst k4;simp
       .simp [k4]
     .rw [if_neg hy] at hv;cases hv
    .have hy:y∉E3 (R.take i):=fun hy=>by rw [P1,if_pos hy] at hn;cases hn
     have ndp:d≠p:=fun e=>by rw [<- e,hd] at np;cases np
     have n0:A0 H d (.dK []) p=none:=by rw [A3 ndp.symm];exact S.free np
     have dl2:=dl.more hy np n0;have y4:=dl2.put (b:=d) (o:=.dK (B5 (E3 (R.take i)++[y]) fun t=>if t=y then V.ref p else V.ref (ad t))) (u:=.dK []) A2;rw [cG (V.ref p) hy];have p5:A0 (A0 H2 p (.lst [])) d (.dK (B5 (E3 (R.take i)++[y]) fun t=>if t=y then V.ref p else V.ref (ad t))) p=some (.lst []):=by rw [A3 ndp.symm,A2]
     have Y0:A0 (A0 H2 p (.lst [])) d (.dK (B5 (E3 (R.take i)++[y]) fun t=>if t=y then V.ref p else V.ref (ad t))) d=some (.dK (B5 (E3 (R.take i)++[y]) fun t=>if t=y then V.ref p else V.ref (ad t))):=A2;have S3:Same H (A0 (A0 H2 p (.lst [])) d (.dK (B5 (E3 (R.take i)++[y]) fun t=>if t=y then V.ref p else V.ref (ad t)))):=(S.trans (Same.new np)).put nd;generalize A0 (A0 H2 p (.lst [])) d (.dK (B5 (E3 (R.take i)++[y]) fun t=>if t=y then V.ref p else V.ref (ad t)))=H3 at y4 p5 Y0 S3;have hT3:C6 K H3 t (((("great" : Str),y::fs).1::(("great" : Str),y::fs).2).map V.str):=.of (S3 _ _ D8);refine ⟨N1 p5,rSlR.t hT3 (v9 (k:=2) (by decide) (by simp)) fun s ns=>?_⟩;rw [bG];have T2:Same H3 (A0 H3 s (.tup (fs.map V.str))):=Same.new ns;have hs:A0 H3 s (.tup (fs.map V.str)) s=some (.tup (fs.map V.str)):=A2;generalize A0 H3 s (.tup (fs.map V.str))=H4 at T2 hs;refine ⟨p,s,_,_,rfl,rfl,T2 _ _ p5,.of hs,by rw [A4];exact i7 (by simp;lia),(S3.trans T2).put (S.free np),fun t=>if t=y then p else ad t,?_,?_⟩
     .rw [A3 ndp,T2 _ _ Y0,etk,oZ];unfold dd;rw [if_neg hy];refine congrArg (fun z=>some (HO.dK z)) (U0 fun x _=>?_);show (if x=y then V.ref p else V.ref (ad x))=V.ref (if x=y then p else ad x)
      by_cases k4:x=y
      .rw [if_pos k4,if_pos k4]
      .rw [if_neg k4,if_neg k4]
     .rw [etk,oZ];unfold dd;rw [if_neg hy,t9]
      have:=((y4.same T2).app (z:=y) (by simp) fs).congr (G:=G2 (R.take i++[(("great" : Str),y::fs)])) fun x _=>by
       rw [uC]
       by_cases k4:x=y
       .subst k4;have e0:G2 (R.take i) x=[]:=by
         unfold G2;rw [nQ.mpr fun e he=>?_]
         .rfl
         .intro h;have h:e.1=x:=by simpa using h
          refine hy ?_;unfold E3;rw [v8];exact .inr (E2.mpr ⟨e,he,h⟩)
        simp [e0]
       .simp [k4]
      rw [if_pos rfl] at this;exact this
   .rw [decide_eq_false jC];refine iteF ⟨S,ad,?_,?_⟩
    .rw [show E3 (R.take (i+1))=E3 (R.take i) by unfold E3;rw [uA hz,oY jC,N0]];exact hd
    .rw [show E3 (R.take (i+1))=E3 (R.take i) by unfold E3;rw [uA hz,oY jC,N0]];refine dl.congr fun x _=>?_
     unfold G2;rw [uA hz,oY jC,N0]
  .rintro Y H2 ⟨u,ad,rfl,S,hd,dl⟩;walk_at "rd";rw [A4,hR.len,K7] at hd dl;exact q d ad H2 nd S hd (dl.old (Same.new nd))
theorem sc_steps_of:FnScope ["rules", "letters", "marks", "steps", "place", "letter", "mark", "forms", "case", "form", "rule"] ["rules", "letters", "marks"] (C3 P8):=J8
abbrev n9:List Str:=["rules", "letters", "marks", "steps", "place", "letter", "mark", "forms", "case", "form", "rule"]
theorem vbm:VS n9 P8 "rules" 0:=vq
theorem vbn:VS n9 P8 "letters" 1:=vq
theorem vbo:VS n9 P8 "marks" 2:=vq
theorem iH:VS n9 P8 "steps" 3:=vq
theorem vbq:VS n9 P8 "place" 4:=vq
theorem vR:VS n9 P8 "letter" 5:=vq
theorem vbs:VS n9 P8 "mark" 6:=vq
theorem vbt:VS n9 P8 "forms" 7:=vq
theorem vbu:VS n9 P8 "case" 8:=vq
theorem vbv:VS n9 P8 "form" 9:=vq
theorem vS:VS n9 P8 "rule" 10:=vq
theorem vbx:LS P8 "steps":=lq
theorem vby:LS P8 "place":=lq
theorem vbz:LS P8 "letter":=lq
theorem vbA:LS P8 "mark":=lq
theorem vbB:LS P8 "forms":=lq
theorem vbC:LS P8 "case":=lq
theorem vbD:LS P8 "form":=lq
theorem vbE:LS P8 "rule":=lq
theorem ahj(F:FunD K "steps_of" "steps_of" P8 f fd)(T:Txt P w K mg C)(G_forms_of:FO P w K mg base 1 "forms_of" ["rules"] [] (ahM K)):FnOk P w K mg base E8 2 f fd ["rules", "letters", "marks"] (ahP K):=by
 refine F.ok sc_steps_of ?_ ?_
 .rintro _ _ _ _ ⟨a,b,c,ts,R,L,M,F,rfl,_⟩;rfl
 .intro cdv A outer s H vs Q E hr h;have C5:=hu_of hr;have hu:=hr.units;refine ⟨_,QSs.out (A6 (E1 (n:=3) sc_steps_of.nd rfl vbx eF)
   (A6 (O0 PassesOwn.never (tR T.b_enumerate (qa_c (vi vbn) A1)) (cF (K:=K) (n:=2) (R8 ((D7 (n:=4) sc_steps_of.nd rfl vby (.inl rfl))) (R8 ((D7 (n:=5) sc_steps_of.nd rfl vbz (.inl rfl))) cE))) (B1 (aH C5 (vi iH) (vi vR) (O6 (qa_c (O6 (qa_c (cD T.g_LETTER) (qa_c (vi vbq) (qa_c A5 A1)))) A1)))))
   (A6 (O0 PassesOwn.never (tR T.b_enumerate (qa_c (vi vbo) A1)) (cF (K:=K) (n:=2) (R8 ((D7 (n:=4) sc_steps_of.nd rfl vby (.inl rfl))) (R8 ((D7 (n:=6) sc_steps_of.nd rfl vbA (.inl rfl))) cE))) (B1 (aH C5 (vi iH) (vi vbs) (O6 (qa_c (O6 (qa_c (cD T.g_MARK) (qa_c (vi vbq) (qa_c A5 A1)))) A1)))))
   (A6 (E1 (n:=7) sc_steps_of.nd rfl vbB (F7 G_forms_of (hm hr) (qa_c (vi vbm) A1)))
   (A6 (tK PassesOwn.never (vi vbt) (D7 (n:=5) sc_steps_of.nd rfl vbz (.inl rfl)) (B1 (O0 PassesOwn.never (alG T.b_enumerate (qa_c (i9 C5 (vi vbt) (vi vR)) A1)) (cF (K:=K) (n:=2) (R8 ((D7 (n:=8) sc_steps_of.nd rfl vbC (.inl rfl))) (R8 ((D7 (n:=9) sc_steps_of.nd rfl vbD (.inl rfl))) cE))) (B1 (aH C5 (vi iH) (vi vbv) (O6 (qa_c (O6 (qa_c (cD T.g_LETTER) (qa_c (qe_ix (K:=K) (qe_ix (K:=K) (i9 C5 (vi iH) (vi vR)) A5) A5) (qa_c (vi vbu) A1)))) A1)))))))
   (A6 (O0 PassesOwn.never (O5 (K:=K) (vi vbm)) (D7 (n:=10) sc_steps_of.nd rfl vbE (.inl rfl)) (B1 (qs_if (K2 (q_eq (K:=K) hu) (qe_ix (K:=K) (vi vS) A5) L1) (B1 (aH C5 (vi iH) (qe_ix (K:=K) (vi vS) A5) (qe_cT (tH (K:=K)) T.b_tuple sV (qa_c (Y6  (R9:CompOk ["rules", "letters", "marks", "steps", "place", "letter", "mark", "forms", "case", "form", "rule"] (C3 P8).names _ ["part", "steps"] 1 [3]) (eG (K:=K) (T8 (K:=K) (vi vS) (O7 A5) i8)) (fun _ _ _ _ _=>D7 (n:=0) (show List.Nodup (["part", "steps"]:List Str) by decide +kernel) rfl (Or.inl rfl)) (fun _ _ _ _ _=>b8) (fun _ _ _ _ _=>(qe_ix (K:=K) (i9 C5 (qv 1) (qv 0)) A5))) A1)))) M0)))
   (B1 (E6 (vi iH))))))))),?_⟩
  obtain ⟨a,b,c,ts,R,L,M,F,rfl,hR,md,hb,hc,P5,hRl,p8,fS,q⟩:=h;have A7:L.length+M.length+((E3 R).flatMap (G2 R)).length+(asKs R).length<=50000:=by
   unfold allKs at fS;simp only [C8] at fS;exact fS
  walk_at "rd";intro d nd;have ndR:∀ {x:Addr} {o:HO},H x=some o->x≠d:=fun h e=>by rw [e,nd] at h;cases h
  refine ⟨⟨_,D0 hb nd⟩,forE (xs:=L.map V.str) (fun i Y H2=>∃ (u v w x y z r:Option V),Y=[some (.ref a),some (.ref b),some (.ref c),some (.ref d),u,v,w,x,y,z,r]/\StI H H2 d (L.take i) F)
   ⟨none,none,none,none,none,none,none,rfl,Same.new nd,fun _=>d,A2,by simp [J5]⟩ (by rintro i Y H2 ⟨_,_,_,_,_,_,_,_,S⟩;exact S.same _ _ hb) ?_ ?_⟩
  .rintro i x t Y H2 hx ⟨u,v,w,x',y,z,r,rfl,S⟩ nt;obtain ⟨l,hl,rfl⟩:=K1 hx;have hi:i<L.length:=(E9.mp hl).1;walk_at "rd";refine ⟨_,.of A2,rfl,_,_,rfl,_,_,rfl,rfl,by decide,fun p np=>⟨by decide,fun p1 G5=>?_⟩⟩;rw [K8 hl];exact StI.put nd (((S.more (Same.new nt)).more (Same.new np)).more (Same.new G5)) (by rw [G6];lia) (by
    rw [md.lt i l hl];exact StepAt.one A2 (D0 A2 G5))
  rintro Y H2 ⟨u,v,w,x',y,z,r,rfl,S⟩;rw [A4,K7] at S;walk_at "rd";refine ⟨⟨_,S.same _ _ hc⟩,forE (xs:=M.map V.str) (fun i Y H2=>∃ (u v w x y z r:Option V),Y=[some (.ref a),some (.ref b),some (.ref c),some (.ref d),u,v,w,x,y,z,r]/\StI H H2 d (L++M.take i) F)
   ⟨u,v,w,x',y,z,r,rfl,by rw [bN,N0];exact S⟩ (by rintro i Y H2 ⟨_,_,_,_,_,_,_,_,S⟩;exact S.same _ _ hc) ?_ ?_⟩
  .clear S;rintro i x t Y H2 hx ⟨u,v,w,x',y,z,r,rfl,S⟩ nt;obtain ⟨l,hl,rfl⟩:=K1 hx;have hi:i<M.length:=(E9.mp hl).1;walk_at "rd";refine ⟨_,.of A2,rfl,_,_,rfl,_,_,rfl,rfl,by decide,fun p np=>⟨by decide,fun p1 G5=>?_⟩⟩;rw [K8 hl,<- Q5];exact StI.put nd (((S.more (Same.new nt)).more (Same.new np)).more (Same.new G5)) (by rw [C8,G6];lia) (by
    rw [md.mr i l hl];exact StepAt.one A2 (D0 A2 G5))
  clear S H2 u v w x' y z r;rintro Y H2 ⟨u,v,w,x',y,z,r,rfl,S⟩;rw [A4,K7] at S;walk_at "rd";refine ⟨a,ts,R,rfl,hR.same S.same,fun z hz e=>md.ne z hz (.inr e),hRl,p8,fun fd af H3 nfd S3 qW dl=>?_⟩;have nf0:H fd=none:=S.same.free nfd;have nf1:fd≠d:=fun e=>by
   obtain ⟨ad,h1,_⟩:=S.made;rw [<- e,nfd] at h1;cases h1
  have S':=S.more S3;have D8:=dl.row;clear S S3 dl nfd H2;refine ⟨fd,rfl,_,qW,fun o=>forD (fun i Y H4=>∃ (u v w y z r:Option V),Y=[some (.ref a),some (.ref b),some (.ref c),some (.ref d),u,v,w,some (.ref fd),y,z,r]/\FoI H H4 d fd o (E3 R) af (G2 R) (L++M++((E3 R).take i).flatMap (G2 R)) F)
   ⟨u,v,w,y,z,r,rfl,⟨A2,fun y hy=>by rw [A3 (fun e=>by have:=D8 y hy;rw [e,qW] at this;cases this)];exact D8 y hy,by rw [bN,jP,N0];exact S'.frz qW nf0 nf1⟩⟩ (by rintro i Y H4 ⟨_,_,_,_,_,_,_,h⟩;exact h.frz) ?_ ?_⟩
  .rintro i k v' Y H4 hk ⟨u,v,w,y,z,r,rfl,J⟩;obtain ⟨l,hl,e⟩:=K1 (f:=fun t=>((Sum.inr t:C1),V.ref (af t))) hk;obtain ⟨rfl,rfl⟩:=Prod.mk.inj e;have mV:l∈E3 R:=M7 hl;have hlL:=md.gl l mV;have yF:(((E3 R).take i).flatMap (G2 R)).length+(G2 R l).length<=((E3 R).flatMap (G2 R)).length:=by
    have e:(E3 R).flatMap (G2 R)=((E3 R).take i).flatMap (G2 R)++G2 R l++((E3 R).drop (i+1)).flatMap (G2 R):=by
     have:=g3 (i+1) (E3 R)
     rw [K8 hl] at this;rw [<- this,Y4,Y4,Q9,jP,N0];rw [this]
    rw [e,C8,C8];lia
   walk_at "rd";refine ⟨V.ref (af l),.inl ⟨_,Sum.inr l,.inr ⟨o,J.frz⟩,rfl,by rw [P1,if_pos mV]⟩,af l,rfl,⟨_,J.rows l mV⟩,forE1 (xs:=(G2 R l).map V.str) (fun j Y H5=>∃ (y z r:Option V),Y=[some (.ref a),some (.ref b),some (.ref c),some (.ref d),u,some (kV (Sum.inr l)),w,some (.ref fd),y,z,r]/\FoI H H5 d fd o (E3 R) af (G2 R) (L++M++((E3 R).take i).flatMap (G2 R)++(G2 R l).take j) F) ⟨y,z,r,rfl,by rw [bN,N0];exact J⟩ (by rintro j Y H5 ⟨_,_,_,_,h⟩;exact h.rows l mV) ?_ ?_⟩
   .clear J y z r;rintro j x t Y H5 hx ⟨y,z,r,rfl,J⟩ nt;obtain ⟨f,hf,rfl⟩:=K1 hx;have hj:j<(G2 R l).length:=(E9.mp hf).1;have T1:Same H5 (A0 H5 t (.tup [.int ((j+1:Nat):Int),.str f])):=Same.new nt;have ht:A0 H5 t (.tup [.int ((j+1:Nat):Int),.str f]) t=some (.tup [.int ((j+1:Nat):Int),.str f]):=A2;generalize A0 H5 t (.tup [.int ((j+1:Nat):Int),.str f])=H6 at T1 ht ⊢
    have J6:=J.more T1;obtain ⟨ad,h1,h2⟩:=J6.st.made;have K6:l∈J5 [] (L++M++((E3 R).take i).flatMap (G2 R)++(G2 R l).take j):=by
     rw [v8];exact .inr (N7 _ (N7 _ (N7 _ hlL)))
    obtain ⟨tt,e1,e2⟩:=(h2 l K6).ex;rw [md.letter hlL] at e2;obtain ⟨t0,rfl,e3⟩:∃ t0,tt=[t0]/\H6 t0=some (tupT (2,(L.idxOf l:Int),0)):=by
     cases e2 with
     | cons h t=>cases t;exact ⟨_,rfl,h⟩
    walk_at "rd";refine ⟨_,.of ht,rfl,_,_,rfl,_,_,rfl,rfl,V.ref (ad l),.inl ⟨_,Sum.inr l,.inl h1,rfl,by rw [P1,if_pos K6]⟩,?_⟩;walk_at "rd";refine ⟨_,.inr (.of e1),V.ref t0,Y7 _ _,?_⟩;walk_at "rd";refine ⟨_,.inr (.of e3),V.int (L.idxOf l:Int),E7 (j:=1) rfl,by decide,fun p np=>⟨by decide,fun p1 G5=>?_⟩⟩;rw [K8 hf,<- Q5];exact FoI.put nd ((J6.more (Same.new np)).more (Same.new G5)) (by simp only [C8,G6];lia) (by
     rw [md.gr l mV j f hf];exact StepAt.one A2 (D0 A2 G5))
   .rintro Y H5 ⟨y,z,r,rfl,J⟩;rw [A4,K7] at J;refine ⟨⟨_,_,_,_,_,_,rfl⟩,?_⟩;rw [K8 hl,Y4,Q9,jP,N0,<- Q5];exact J
  rintro Y H4 ⟨u,v,w,y,z,r,rfl,J⟩;rw [j3,K7] at J;have S5:=J.st.thaw (o:=.dK (B5 (E3 R) fun y=>V.ref (af y))) J.frz nf0 nf1;generalize A0 H4 fd (.dK (B5 (E3 R) fun y=>V.ref (af y)))=H5 at S5 ⊢
  clear J qW D8;walk_at "rd";refine ⟨⟨_,.of (S5.same _ _ hR.top)⟩,forL (xs:=ts.map V.ref) (fun i Y H6=>∃ (r:Option V),Y=[some (.ref a),some (.ref b),some (.ref c),some (.ref d),u,v,w,some (.ref fd),y,z,r]/\StI H H6 d (L++M++(E3 R).flatMap (G2 R)++asKs (R.take i)) F) ⟨r,rfl,by rw [bN];rw [show asKs []=[] from rfl,N0];exact S5⟩ (by rintro i Y H6 _ ⟨_,_,S⟩;exact .of (S.same _ _ hR.top)) ?_ ?_⟩
  .clear S5 r;rintro i x Y H6 hx ⟨r,rfl,S⟩;obtain ⟨t,ht,rfl⟩:=K1 hx;obtain ⟨zz,hz,D8⟩:=Paired.at hR.row ht;have qX:=M7 hz;have hT:C6 K H6 t ((zz.1::zz.2).map V.str):=.of (S.same _ _ D8);walk_at "rd";refine ⟨_,.inr hT,V.str zz.1,Y7 _ _,?_⟩;walk_at "rd"
   by_cases has:zz.1=("as" : Str)
   .rw [decide_eq_true has];refine iteT ?_;obtain ⟨w1,ps⟩:=zz;obtain rfl:w1=("as" : Str):=has;obtain ⟨p,qs,rfl⟩:∃ p qs,ps=p::qs:=by
     cases ps with
     | nil=>exact absurd rfl (md.ne _ qX (.inl rfl))
     | cons p qs=>exact ⟨p,qs,rfl⟩
    have bG:cutV (((("as" : Str),p::qs).1::(("as" : Str),p::qs).2).map V.str) (some 2) none=qs.map V.str:=eJ _ 2;have hql:qs.length<=1000:=by have:=P5 _ qX;simp only [K9] at this;lia
    have yI:=alK (R.take i);rw [G6] at yI;refine rSlR.t hT (v9 (k:=2) (by decide) (by simp)) fun s ns=>?_
    rw [bG];have T1:Same H6 (A0 H6 s (.tup (qs.map V.str))):=Same.new ns;have hs:A0 H6 s (.tup (qs.map V.str)) s=some (.tup (qs.map V.str)):=A2;generalize A0 H6 s (.tup (qs.map V.str))=H7 at T1 hs;have S7:=S.more T1;have hT7:C6 K H7 t (((("as" : Str),p::qs).1::(("as" : Str),p::qs).2).map V.str):=C6.same T1 hT;clear hT S;refine ⟨s,rfl,⟨_,.of hs⟩,compT (xs:=qs.map V.str) [some (.ref d)] rfl (fun D j ys H8=>∃ dF:List Addr,ys=dF.map V.ref/\AsI H H7 H8 d (L++M++(E3 R).flatMap (G2 R)++asKs (R.take i)) F dF ((qs.take j).map fun q=>(F q).headD (0,0,0))) (fun D nD=>⟨[],rfl,S7.more (Same.new nD),.nil,Same.new nD⟩) (by rintro D j ys H8 nD _ ⟨_,_,h⟩;exact .of (h.sm _ _ hs)) ?_ ?_⟩
    .rintro D j yv ys H8 nD hi hy ⟨dF,rfl,J⟩ hD L3;obtain ⟨qq,hq,rfl⟩:=K1 hy;have hqb:=md.pt _ qX rfl qq (M7 hq);obtain ⟨st,X6⟩:=md.base hqb;obtain ⟨ad,h1,h2⟩:=J.st.made;have K6:qq∈J5 [] (L++M++(E3 R).flatMap (G2 R)++asKs (R.take i)):=by
      rw [v8];refine .inr (N7 _ (N7 _ (D3.mpr hqb)))
     obtain ⟨tt,e1,e2⟩:=(h2 qq K6).ex;rw [X6] at e2;obtain ⟨t0,rfl,e3⟩:∃ t0,tt=[t0]/\H8 t0=some (tupT st):=by
      cases e2 with
      | cons h t=>cases t;exact ⟨_,rfl,h⟩
     walk_at "rd";refine ⟨V.ref (ad qq),.inl ⟨_,Sum.inr qq,.inl h1,rfl,by rw [P1,if_pos K6]⟩,?_⟩;walk_at "rd";have qT:dF.length<=1000:=by
      have:=Paired.length J.pr
      rw [A4,G6] at this;lia
     refine ⟨_,.inr (.of e1),V.ref t0,Y7 _ _,hD,by rw [A4];exact G9 (by lia),CW.put hi L3 ⟨dF++[t0],by rw [D9];rfl,?_⟩⟩;refine AsI.putL (f:=D) ⟨J.st,?_,J.sm⟩ hD (S7.same.free nD) nD;rw [K8 hq,D9];refine Paired.snoc J.pr ?_;show H8 t0=some (tupT ((F qq).headD (0,0,0)));rw [X6];exact e3
    rintro D ys H8 nD ⟨dF,rfl,J⟩ hD L3;rw [A4,K7] at J;rw [tup_r];refine rTupR.l (.of hD) fun p1 G5=>?_
    have Q1:L0 (((("as" : Str),p::qs).1::(("as" : Str),p::qs).2).map V.str) 1=some (V.str p):=E7 (j:=1) rfl;have S8:Same H8 (A0 H8 p1 (.tup (dF.map V.ref))):=Same.new G5;refine ⟨_,.inr (C6.same (J.sm.trans S8) hT7),V.str p,Q1,?_⟩;rw [agd hz,ahO,<- Q5];refine StI.put nd (J.st.more S8) (by simp only [C8];lia) ?_;rw [md.as _ qX rfl p qs rfl];exact ⟨dF,A2,O4 J.pr fun t s e=>S8 _ _ e⟩
   .rw [decide_eq_false has];refine iteF ?_;rw [agd hz,ajZ has,N0];exact S
  rintro Y H6 ⟨r,rfl,S⟩;rw [A4,hR.len,K7] at S;walk_at "rd";exact q d H6 nd S.same S.made
theorem adw:FnScope ["self", "rules"] ["self", "rules"] (C3 cL):=J8
abbrev acv:List Str:=["self", "rules"]
theorem aR:VS acv cL "self" 0:=vq
theorem eS:VS acv cL "rules" 1:=vq
theorem adx(F:FunD K "__init__" "Order.__init__" cL f fd)(T:Txt P w K mg C)(G_has_rule:FO P w K mg base 1 "has_rule" ["rules", "word"] [] (spHas K))(G_jobs_of:FO P w K mg base 3 "jobs_of" ["rules"] [] (amq K))(G_check_letters:FO P w K mg base 2 "check_letters" ["rules", "jobs"] [] (ahN K))(G_line_of:FO P w K mg base 4 "line_of" ["rules", "word"] [] (amr K))(G_steps_of:FO P w K mg base 2 "steps_of" ["rules", "letters", "marks"] [] (ahP K)):FnOk P w K mg base E8 5 f fd ["self", "rules"] (uE C):=by
 refine F.ok adw ?_ ?_
 .rintro _ _ _ _ ⟨x,dx,a,ts,R,g,r1,r2,rfl,_⟩;rfl
 .intro cdv A outer s H vs Q E hr h;have C5:=hu_of hr;have hu:=hr.units;refine ⟨_,QSs.out (A6 (gT (K:=K) (vi aR) (F7 G_has_rule (hm hr) (qa_c (vi eS) (qa_c L1 A1))))
   (A6 (gT (K:=K) (vi aR) (F7 G_has_rule (hm hr) (qa_c (vi eS) (qa_c L1 A1))))
   (A6 (gT (K:=K) (vi aR) (F7 G_jobs_of (hm hr) (qa_c (vi eS) A1)))
   (A6 (N3 (F7 G_check_letters (hm hr) (qa_c (vi eS) (qa_c (aG (K:=K) (vi aR)) A1))))
   (A6 (gT (K:=K) (vi aR) (F7 G_line_of (hm hr) (qa_c (vi eS) (qa_c L1 A1))))
   (A6 (gT (K:=K) (vi aR) (F7 G_line_of (hm hr) (qa_c (vi eS) (qa_c L1 A1))))
   (B1 (gT (K:=K) (vi aR) (F7 G_steps_of (hm hr) (qa_c (vi eS) (qa_c (aG (K:=K) (vi aR)) (qa_c (aG (K:=K) (vi aR)) A1)))))))))))),?_⟩
  obtain ⟨x,dx,a,ts,R,g,r1,r2,rfl,hx,hR,pl,q⟩:=h;have lp:∀ (f:Str) (y:V) (fs:List (Str×V)),(putF f y fs).length<=fs.length+1:=rX;walk_at "rd";refine ⟨a,ts,R, "figures",rfl,hR,pl.len,fun H1 S1=>⟨C,dx,[],S1 _ _ hx,T.cl,T.na_figures,by decide,?_⟩⟩;generalize hF1:putF (Str.ofString "figures") (V.bl (hasW R (Str.ofString "figures"))) []=F1;have l1:F1.length<=1:=by rw [<- hF1];exact lp _ _ _
  have B2:SameBut x H (A0 H1 x (.ins C dx F1)):=(Same.but S1).at;have fT:A0 H1 x (.ins C dx F1) x=some (.ins C dx F1):=A2;generalize A0 H1 x (.ins C dx F1)=H2 at B2 fT;have hR2:=hR.but B2 hx;refine ⟨a,ts,R, "behind",rfl,hR2,pl.len,fun H3 S3=>⟨C,dx,F1,S3 _ _ fT,T.cl,T.na_behind,by lia,?_⟩⟩;generalize hF2:putF (Str.ofString "behind") (V.bl (hasW R (Str.ofString "behind"))) F1=F2;have l2:F2.length<=2:=by rw [<- hF2];exact L4 (lp _ _ _) (by lia)
  have B4:SameBut x H2 (A0 H3 x (.ins C dx F2)):=(Same.but S3).at;have jA:A0 H3 x (.ins C dx F2) x=some (.ins C dx F2):=A2;generalize A0 H3 x (.ins C dx F2)=H4 at B4 jA;have hR4:=hR2.but B4 fT;refine ⟨a,ts,R,g,rfl,hR4,pl.len,pl.plen,pl.nc,pl.nb,fun j H5 nj S5 hj=>?_⟩;have njx:j≠x:=fun e=>by rw [e,jA] at nj;cases nj
  generalize hF3:putF (Str.ofString "jobs") (V.ref j) F2=F3;have l3:F3.length<=3:=by rw [<- hF3];exact L4 (lp _ _ _) (by lia)
  have k3:F3.lookup (Str.ofString "jobs")=some (V.ref j):=by rw [<- hF3,N5,if_pos rfl]
  refine ⟨C,dx,F2,S5 _ _ jA,T.cl,T.na_jobs,by lia,?_⟩;rw [hF3];have B6:SameBut x H4 (A0 H5 x (.ins C dx F3)):=(Same.but S5).at;have mW:A0 H5 x (.ins C dx F3) x=some (.ins C dx F3):=A2;have yJ:A0 H5 x (.ins C dx F3) j=some (.dK (B5 (keysP (C9 R)++Y8 R) (jobG g))):=by rw [A3 njx];exact hj
  generalize A0 H5 x (.ins C dx F3)=H6 at B6 mW yJ;have hR6:=hR4.but B6 jA;refine ⟨C,dx,F3,mW,T.cl,T.na_jobs,_,k3,a,j,ts,R,_,_,rfl,hR6,yJ,fun z hz=>⟨pl.used hz,pl.zl z hz⟩,fun H7 S7=>?_⟩;refine ⟨a,ts,R, "row",r1,rfl,hR6.same S7,pl.len,L4 pl.f1 (by decide),pl.a1,fun ll L H8 nll S8 yD run cov=>?_⟩;have hx8:=S8 _ _ (S7 _ _ mW);have nlx:ll≠x:=fun e=>by rw [e,S7 _ _ mW] at nll;cases nll
  have llen:L.length<=10000:=by
   rw [tL (oV _) run cov];exact L4 (kJ _) pl.f1
  generalize hF4:putF (Str.ofString "letter_line") (V.ref ll) F3=F4;have l4:F4.length<=4:=by rw [<- hF4];exact L4 (lp _ _ _) (by lia)
  refine ⟨C,dx,F3,hx8,T.cl,T.na_letter_line,by lia,?_⟩;rw [hF4];have B9:SameBut x H6 (A0 H8 x (.ins C dx F4)):=(Same.but (S7.trans S8)).at;have qY:A0 H8 x (.ins C dx F4) x=some (.ins C dx F4):=A2;have mX:A0 H8 x (.ins C dx F4) ll=some (.lst (L.map V.str)):=by rw [A3 nlx];exact yD
  generalize A0 H8 x (.ins C dx F4)=H9 at B9 qY mX;have hR9:=hR6.but B9 mW;refine ⟨a,ts,R, "marks",r2,rfl,hR9,pl.len,L4 pl.f2 (by decide),pl.a2,fun ml M U4 nml R5 mS run2 cov2=>?_⟩;have nmx:ml≠x:=fun e=>by rw [e,qY] at nml;cases nml
  have mlen:M.length<=10000:=by
   rw [tL (oV _) run2 cov2];exact L4 (kJ _) pl.f2
  generalize hF5:putF (Str.ofString "mark_line") (V.ref ml) F4=F5;have l5:F5.length<=5:=by rw [<- hF5];exact L4 (lp _ _ _) (by lia)
  refine ⟨C,dx,F4,R5 _ _ qY,T.cl,T.na_mark_line,by lia,?_⟩;rw [hF5];have B11:SameBut x H9 (A0 U4 x (.ins C dx F5)):=(Same.but R5).at;have f9:A0 U4 x (.ins C dx F5) x=some (.ins C dx F5):=A2;have q0:A0 U4 x (.ins C dx F5) ml=some (.lst (M.map V.str)):=by rw [A3 nmx];exact mS
  have q9:A0 U4 x (.ins C dx F5) ll=some (.lst (L.map V.str)):=by rw [A3 nlx];exact R5 _ _ mX
  generalize A0 U4 x (.ins C dx F5)=dB at B11 f9 q0 q9;have hR11:=hR9.but B11 qY;have kl:F5.lookup (Str.ofString "letter_line")=some (V.ref ll):=by rw [<- hF5,N5,if_neg (by decide +kernel),<- hF4,N5,if_pos rfl]
  have km:F5.lookup (Str.ofString "mark_line")=some (V.ref ml):=by rw [<- hF5,N5,if_pos rfl]
  refine ⟨C,dx,F5,f9,T.cl,T.na_letter_line,_,kl,C,dx,F5,f9,T.cl,T.na_mark_line,_,km,a,ll,ml,ts,R,L,M,stepF R L M,rfl,hR11,an1 pl ⟨run,cov⟩ ⟨run2,cov2⟩,q9,q0,pl.zl,pl.len,aj3 pl,L4 (an2 pl ⟨run,cov⟩ ⟨run2,cov2⟩) (by decide),fun md jD nmd Y1 hmd=>⟨C,dx,F5,Y1 _ _ f9,T.cl,T.na_made,by lia,?_⟩⟩;have nmdx:md≠x:=fun e=>by rw [e,f9] at nmd;cases nmd
  have B:SameBut x H (A0 jD x (.ins C dx (putF (Str.ofString "made") (V.ref md) F5))):=((B2.trans B4).trans ((B6.trans B9).trans (B11.trans (Same.but Y1)))).at;have fr:∀ {H':Hp} {y:Addr},SameBut x H H'->H' y=none->y≠x->H y=none:=fun {H' y} b n nx=>by
   cases e:H y with
   | none=>rfl
   | some o=>have:=b _ _ nx e;rw [n] at this;cases this
  have B44:=B2.trans B4;refine q j ll ml md L M _ (fr B44 nj njx) (fr ((B44.trans B6).trans (Same.but S7)) nll nlx) (fr ((B44.trans B6).trans B9) nml nmx) (fr (((B44.trans B6).trans B9).trans B11) nmd nmdx) B ⟨⟨dx,?_⟩,?_,?_,?_,hmd.mod (Y1 _ _ f9) (by intro xs e;cases e) nmdx,⟨run,cov⟩,⟨run2,cov2⟩⟩
  .rw [A2,<- hF5,<- hF4,<- hF3,<- hF2,<- hF1];rfl
  .rw [A3 njx];exact Y1 _ _ (B11 _ _ njx (B9 _ _ njx yJ))
  .rw [A3 nlx];exact Y1 _ _ q9
  .rw [A3 nmx];exact Y1 _ _ q0
theorem sc_figures_at:FnScope ["text", "at", "end"] ["text", "at"] (C3 eQ):=J8
abbrev vT:List Str:=["text", "at", "end"]
theorem vU:VS vT eQ "text" 0:=vq
theorem vbI:VS vT eQ "at" 1:=vq
theorem vV:VS vT eQ "end" 2:=vq
theorem vbK:LS eQ "end":=lq
theorem afA(F:FunD K "figures_at" "figures_at" eQ f fd)(T:Txt P w K mg C)(G_is_figure:FO P w K mg base 1 "is_figure" ["sign"] [] gZ):FnOk P w K mg base E8 2 f fd ["text", "at"] aj6:=by
 refine F.ok sc_figures_at ?_ ?_
 .rintro _ _ _ _ ⟨z,pre,rest,rfl,_⟩;rfl
 .intro cdv A outer s H vs Q E hr h;have C5:=hu_of hr;have hu:=hr.units;refine ⟨_,QSs.out (A6 (E1 (n:=2) sc_figures_at.nd rfl vbK (vi vbI))
   (A6 (tF PassesOwn.never (QW.pt (kL (K2 q_lt (vi vV) (qe_cB (q_len (K:=K)) T.b_len i6 (qa_c (vi vU) A1))) (kK (Y5 (K:=K) (F7 G_is_figure (hm hr) (qa_c (qe_ix (K:=K) (vi vU) (vi vV)) A1)))))) (B1 (amk (n:=2) sc_figures_at.nd rfl vbK A5 amm)))
   (B1 (E6 (T8 (K:=K) (vi vU) (O7 (vi vbI)) (O7 (vi vV))))))),?_⟩
  obtain ⟨z,pre,rest,rfl,hz,P5,q⟩:=h;walk_at "rd";have A7:z.length=pre.length+rest.length:=by
   have:=congrArg g9 P5
   simp [Str.length] at this ⊢
   lia
  have hsz:z.length<=sizeLine:=i7 (by lia);refine tG (fun m Y H2=>∃ (run left:List Nat),Y=[some (.str z),some (.int pre.length),some (.int ((pre++run).length:Nat))]/\H2=H/\rest=run++left/\rest.takeWhile figO=run++left.takeWhile figO/\m=left.length) rest.length ⟨[],rest,by simp,rfl,rfl,rfl,rfl⟩ ?_;rintro m Y H2 ⟨run,left,rfl,rfl,hr,yK,rfl⟩;have mY:z.cps.toList=pre++(run++left):=by rw [P5,hr]
  have qZ:rest.length=run.length+left.length:=by rw [hr,C8]
  have ecut:cutS z (some (pre.length:Int)) (some (((pre++run).length:Nat):Int))=⟨run.toArray⟩:=by
   have:=uH (y:=run) (rest:=left) mY
   rw [show (((pre++run).length:Nat):Int)=(pre.length:Int)+(run.length:Int) by rw [C8];lia];exact this
  have hpr:(pre++run).length=pre.length+run.length:=C8;walk_at "rd";refine ⟨hsz,iteD (fun C4=>⟨hsz,?_⟩) fun cW=>⟨hsz,?_⟩⟩
  .cases left with
   | nil=>simp at qZ;lia
   | cons c l2=>
    refine ⟨c,?_,c,rfl,figO c,rfl,?_⟩
    .rw [mY,<- Q5];exact aj5
    by_cases hf:figO c=true
    .rw [hf];refine iteT ⟨_,fun _ _ h=>h,l2.length,by simp,run++[c],by simp;lia,rfl,l2,by rw [hr];simp,?_,rfl⟩;rw [yK,List.takeWhile_cons_of_pos hf]
     simp
    .rw [jT] at hf;rw [hf];refine iteF ⟨hsz,?_⟩;rw [ecut];rw [yK,List.takeWhile_cons_of_neg (by simp [hf]),N0] at q;exact q
  .have fB:left=[]:=bJ.mp (by lia);rw [yK,fB,List.takeWhile_nil,N0] at q;rw [ecut];exact q
theorem sc_part_at:FnScope ["known", "text", "at", "figures", "two"] ["known", "text", "at", "figures"] (C3 aM):=J8
abbrev lR:List Str:=["known", "text", "at", "figures", "two"]
theorem vbL:VS lR aM "known" 0:=vq
theorem lS:VS lR aM "text" 1:=vq
theorem iI:VS lR aM "at" 2:=vq
theorem vbO:VS lR aM "figures" 3:=vq
theorem vbP:VS lR aM "two" 4:=vq
theorem vbQ:LS aM "two":=lq
theorem aiJ(F:FunD K "part_at" "part_at" aM f fd)(T:Txt P w K mg C)(G_is_figure:FO P w K mg base 1 "is_figure" ["sign"] [] gZ)(G_figures_at:FO P w K mg base 2 "figures_at" ["text", "at"] [] aj6):FnOk P w K mg base E8 3 f fd ["known", "text", "at", "figures"] aj7:=by
 refine F.ok sc_part_at ?_ ?_
 .rintro _ _ _ _ ⟨d,z,g,pre,c,r,w,y,rfl,_⟩;rfl
 .intro cdv A outer s H vs Q E hr h;have C5:=hu_of hr;have hu:=hr.units;refine ⟨_,QSs.out (A6 (qs_if (QW.pt (kL (Y5 (K:=K) (vi vbO)) (kK (Y5 (K:=K) (F7 G_is_figure (hm hr) (qa_c (qe_ix (K:=K) (vi lS) (vi iI)) A1)))))) (B1 (E6 (F7 G_figures_at (hm hr) (qa_c (vi lS) (qa_c (vi iI) A1))))) M0)
   (A6 (E1 (n:=4) sc_part_at.nd rfl vbQ (T8 (K:=K) (vi lS) (O7 (vi iI)) (O7 (qe_op (q_add (K:=K)) (vi iI) A5))))
   (A6 (qs_if (K2 (q_in (K:=K) hu) (vi vbP) (vi vbL)) (B1 (E6 (vi vbP))) M0)
   (A6 (qs_if (K2 (q_in (K:=K) hu) (qe_ix (K:=K) (vi lS) (vi iI)) (vi vbL)) (B1 (E6 (qe_ix (K:=K) (vi lS) (vi iI)))) M0)
   (B1 oP))))),?_⟩
  obtain ⟨d,z,g,pre,c,r,w,y,rfl,hd,hz,P5,hp,q⟩:=h;have hsz:z.length<=sizeLine:=i7 (by lia);have ha:L0 z.cps.toList (pre.length:Int)=some c:=by rw [P5];exact aj5
  rw [eN] at hp
  cases w with
  | false=>
   rw [Bool.false_and,if_neg L5] at hp;walk_at "rd"
   cases r with
   | nil=>
    rw [hX] at hp
    by_cases h1:one c∈g
    .rw [if_pos h1] at hp;obtain rfl:=Option.some.inj hp;rw [agk P5];refine ⟨hsz,rInR.d (b0 (k:=Sum.inr (one c)) hd) ⟨_,rfl,?_⟩⟩;rw [hW,dS,decide_eq_true h1];exact iteT q
    .rw [if_neg h1] at hp;cases hp
   | cons e r=>
    rw [m9] at hp;have ec:cutS z (some (pre.length:Int)) (some ((pre.length:Int)+2))=two c e:=uH (y:=[c,e]) (rest:=r) P5;rw [ec];refine ⟨hsz,rInR.d (b0 (k:=Sum.inr (two c e)) hd) ⟨_,rfl,?_⟩⟩;rw [hW,dS];refine iteD (fun h=>?_) fun h=>⟨hsz,c,ha,rInR.d (b0 (k:=Sum.inr (one c)) hd) ⟨_,rfl,?_⟩⟩
    .rw [if_pos h] at hp;obtain rfl:=Option.some.inj hp;exact q
    .rw [if_neg h] at hp
     by_cases h1:one c∈g
     .rw [if_pos h1] at hp;obtain rfl:=Option.some.inj hp;rw [hW,dS,decide_eq_true h1];exact iteT ⟨hsz,c,ha,q⟩
     .rw [if_neg h1] at hp;cases hp
  | true=>
   rw [Bool.true_and] at hp;walk_at "rd";refine ⟨hsz,c,ha,c,rfl,figO c,rfl,?_⟩
   by_cases hf:figO c=true
   .rw [hf];rw [if_pos hf] at hp;obtain rfl:=Option.some.inj hp;exact iteT ⟨z,pre,c::r,rfl,hz,P5,q⟩
   rw [if_neg hf] at hp;rw [jT] at hf;rw [hf];refine iteF ?_
   cases r with
   | nil=>
    rw [hX] at hp
    by_cases h1:one c∈g
    .rw [if_pos h1] at hp;obtain rfl:=Option.some.inj hp;rw [agk P5];refine ⟨hsz,rInR.d (b0 (k:=Sum.inr (one c)) hd) ⟨_,rfl,?_⟩⟩;rw [hW,dS,decide_eq_true h1];exact iteT q
    .rw [if_neg h1] at hp;cases hp
   | cons e r=>
    rw [m9] at hp;have ec:cutS z (some (pre.length:Int)) (some ((pre.length:Int)+2))=two c e:=uH (y:=[c,e]) (rest:=r) P5;rw [ec];refine ⟨hsz,rInR.d (b0 (k:=Sum.inr (two c e)) hd) ⟨_,rfl,?_⟩⟩;rw [hW,dS];refine iteD (fun h=>?_) fun h=>⟨hsz,c,ha,rInR.d (b0 (k:=Sum.inr (one c)) hd) ⟨_,rfl,?_⟩⟩
    .rw [if_pos h] at hp;obtain rfl:=Option.some.inj hp;exact q
    .rw [if_neg h] at hp
     by_cases h1:one c∈g
     .rw [if_pos h1] at hp;obtain rfl:=Option.some.inj hp;rw [hW,dS,decide_eq_true h1];exact iteT ⟨hsz,c,ha,q⟩
     .rw [if_neg h1] at hp;cases hp
theorem sc_cut:FnScope ["known", "text", "figures", "pieces", "parts", "at", "part"] ["known", "text", "figures"] (C3 s_cut):=J8
abbrev n_cut:List Str:=["known", "text", "figures", "pieces", "parts", "at", "part"]
theorem vbR:VS n_cut s_cut "known" 0:=vq
theorem vbS:VS n_cut s_cut "text" 1:=vq
theorem vbT:VS n_cut s_cut "figures" 2:=vq
theorem vbU:VS n_cut s_cut "pieces" 3:=vq
theorem vbV:VS n_cut s_cut "parts" 4:=vq
theorem vbW:VS n_cut s_cut "at" 5:=vq
theorem vbX:VS n_cut s_cut "part" 6:=vq
theorem vbY:LS s_cut "pieces":=lq
theorem vbZ:LS s_cut "parts":=lq
theorem vb0:LS s_cut "at":=lq
theorem vb1:LS s_cut "part":=lq
theorem amD(F:FunD K "cut" "cut" s_cut f fd)(T:Txt P w K mg C)(G_part_at:FO P w K mg base 3 "part_at" ["known", "text", "at", "figures"] [] aj7):FnOk P w K mg base E8 4 f fd ["known", "text", "figures"] (pE K):=by
 refine F.ok sc_cut ?_ ?_
 .rintro _ _ _ _ ⟨a,z,ks,w,rfl,_⟩;rfl
 .intro cdv A outer s H vs Q E hr h;have C5:=hu_of hr;have hu:=hr.units;refine ⟨_,QSs.out (A6 (E1 (n:=3) sc_cut.nd rfl vbY (qe_cT (ajE (K:=K) (calm:=true)) T.b_dict ajs (qa_c (Y6  (R9:CompOk ["known", "text", "figures", "pieces", "parts", "at", "part"] (C3 s_cut).names _ ["piece"] 1 []) (O5 (K:=K) (vi vbR)) (fun _ _ _ _ _=>D7 (n:=0) (show List.Nodup (["piece"]:List Str) by decide +kernel) rfl (Or.inl rfl)) (fun _ _ _ _ _=>b8) (fun _ _ _ _ _=>(O6 (qa_c (qv 0) (qa_c qe_bl A1))))) A1)))
   (A6 (E1 (n:=4) sc_cut.nd rfl vbZ (N2 A1))
   (A6 (E1 (n:=5) sc_cut.nd rfl vb0 A5)
   (A6 (tF PassesOwn.never (K2 q_lt (vi vbW) (qe_cB (q_len (K:=K)) T.b_len i6 (qa_c (vi vbS) A1))) (A6 (E1 (n:=6) sc_cut.nd rfl vb1 (F7 G_part_at (hm hr) (qa_c (vi vbU) (qa_c (vi vbS) (qa_c (vi vbW) (qa_c (vi vbT) A1))))))
   (A6 (N3 (qe_mB (K:=K) N8 T7 T6 T9 (vi vbV) (qa_c (vi vbX) A1)))
   (B1 (amk (n:=5) sc_cut.nd rfl vb0 (qe_cB (q_len (K:=K)) T.b_len i6 (qa_c (vi vbX) A1)) amm)))))
   (B1 (E6 (vi vbV))))))),?_⟩
  obtain ⟨a,z,ks,w,rfl,hS,W7,hz,hw,q⟩:=h;walk_at "rd";refine ⟨⟨_,hS⟩,compL (xs:=ks.map V.str) [] rfl (fun D i ys H4=>∃ ts:List Addr,ys=ts.map V.ref/\Paired (fun t k=>H4 t=some (.tup [V.str k,V.bl true])) ts (ks.take i)/\Same H H4) (fun D nD=>⟨[],rfl,.nil,Same.new nD⟩) (by rintro D i ys H4 nD _ ⟨_,_,_,S⟩;exact S.seq hS) ?_ ?_⟩
  .rintro D i x ys H4 nD hi hx ⟨ts,rfl,P,S⟩ hD hy;obtain ⟨k,hk,rfl⟩:=K1 hx;rw [A4] at hi;walk_at "rd";refine ⟨by decide,fun t nt=>⟨D0 hD nt,G9 (by lia),CW.put (by rw [A4];exact hi) hy ⟨ts++[t],by rw [D9];rfl,?_,Same.put (fun b o h=>D0 (S b o h) nt) nD⟩⟩⟩;have hDt:D≠t:=fun e=>by rw [e,nt] at hD;cases hD
   rw [g4,hk,Option.toList_some];refine Paired.snoc (O4 P fun r k h=>?_) (by rw [A3 hDt.symm,A2]);rw [A3 (fun e=>by rw [e,hD] at h;cases h)];exact D0 h nt
  rintro D ys H4 nD ⟨ts,rfl,P,S⟩ hD hy;rw [A4,K7] at P;have P2:Paired (fun t (kx:C1×V)=>C6 K H4 t [kV kx.1,kx.2]) ts (kvOf ks):=by
   clear hD hy nD S W7 hS q hw
   induction P with
   | nil=>exact .nil
   | cons h t ih=>exact .cons (.of h) ih
  refine ⟨rfl,D,ts,kvOf ks,rfl,.of hD,P2,fun d nd=>?_⟩;rw [show W3 [] (kvOf ks)=kvOf (J5 [] ks) from aeO ks []];have S1:Same H (A0 H4 d (.dK (kvOf (J5 [] ks)))):=fun b o h=>D0 (S b o h) nd
  have hd:A0 H4 d (.dK (kvOf (J5 [] ks))) d=some (.dK (kvOf (J5 [] ks))):=A2;generalize A0 H4 d (.dK (kvOf (J5 [] ks)))=H5 at S1 hd;have yL:∀ l,cutF w (J5 [] ks) l=cutF w ks l:=aix fun x=>by rw [v8];simp
  generalize J5 [] ks=g at hd yL;refine fun p np=>tG (fun m Y H6=>∃ (pre rest:List Nat) (ps:List Str) (u:Option V),Y=[some (.ref a),some (.str z),some (.bl w),some (.ref d),some (.ref p),some (.int pre.length),u]/\Same H5 H6/\H6 p=some (.lst (ps.map V.str))/\z.cps.toList=pre++rest/\(cutF w g z.cps.toList).1=pre.length+(cutF w g rest).1/\(cutF w g z.cps.toList).2=ps++(cutF w g rest).2/\ps.length<=pre.length/\m=rest.length) z.cps.toList.length
   ⟨[],z.cps.toList,[],none,rfl,Same.new np,A2,rfl,by simp,rfl,G3 _,rfl⟩ ?_
  rintro m Y H6 ⟨pre,rest,ps,u,rfl,S6,h6,P5,mZ,Q0,R4,rfl⟩;have A7:z.length=pre.length+rest.length:=by
   have:=congrArg g9 P5
   simp [Str.length] at this ⊢
   lia
  walk_at "rd";refine ⟨i7 (by lia),iteD (fun C4=>?_) fun cW=>?_⟩
  .cases rest with
   | nil=>simp at A7;lia
   | cons c r=>
    cases hy:partF w g (c::r) with
    | none=>
     exfalso
     rw [kY hy] at mZ;have yM:=hw;unfold n6 at yM;rw [<- yL,mZ] at yM;simp at A7 yM;lia
    | some y=>
     refine ⟨_,fun _ _ h=>h,d,z,g,pre,c,r,w,y,rfl,S6 _ _ hd,hz,P5,hy,?_⟩;obtain ⟨rest',e1,e2,e3⟩:=iA hy;rw [e2] at mZ Q0;have el:y.cps.toList.length=y.length:=by simp [Str.length]
     have erl:(c::r).length=y.length+rest'.length:=by rw [e1,C8,el]
     refine ⟨N1 h6,appOk h6 (by rw [A4];exact G9 (by lia)) ?_⟩;walk_at "rd";refine ⟨i7 (by lia),rest'.length,by rw [K9] at erl;lia,pre++y.cps.toList,by rw [C8,el];lia,S6.put np,rest',ps++[y],by rw [A2,D9];rfl,P5.trans (by rw [Q5];exact congrArg (pre++·) e1),by rw [C8,el,mZ];dsimp only;lia,by rw [Q0,Q5];rfl,by rw [C8,C8,el,T4];lia,rfl⟩
  .have hr:rest=[]:=bJ.mp (by lia);rw [hr] at mZ Q0;refine q p H6 (S1.free np) (S1.trans S6) ?_;rw [h6,<- yL,Q0];show some (HO.lst (ps.map V.str))=some (HO.lst ((ps++[]).map V.str));rw [N0]
theorem aer:FnScope ["self"] ["self"] (C3 eR):=J8
abbrev afB:List Str:=["self"]
theorem vb2:VS afB eR "self" 0:=vq
theorem aes(F:FunD K "known" "Order.known" eR f fd)(T:Txt P w K mg C):FnOk P w K mg base E8 1 f fd ["self"] (uJ C):=by
 refine F.ok aer ?_ ?_
 .rintro _ _ _ _ ⟨x,j,ll,ml,md,g,R,L,M,rfl,_⟩;rfl
 .intro cdv A outer s H vs Q E hr h;have C5:=hu_of hr;have hu:=hr.units;refine ⟨_,QSs.out (B1 (E6 (qe_cT (gU (K:=K) (calm:=true)) T.b_list eE (qa_c (aG (K:=K) (vi vb2)) A1)))),?_⟩;obtain ⟨x,j,ll,ml,md,g,R,L,M,rfl,hO,q⟩:=h;obtain ⟨dx,h1⟩:=hO.ob;walk_at "rd";refine ⟨_,_,_,h1,T.cl,T.na_jobs,_,ajP _ _ _ _ _ _,?_⟩;walk_at "rd";refine rListR.d (.of hO.jobs) fun l nl=>?_
  rw [show (B5 (keysP (C9 R)++Y8 R) (jobG g)).map (fun kv=>kV kv.1)=(E4 R).map V.str by unfold B5 E4;rw [V8];rfl];exact q l nl
theorem aet:FnScope ["self", "piece"] ["self", "piece"] (C3 cM):=J8
abbrev adk:List Str:=["self", "piece"]
theorem vb3:VS adk cM "self" 0:=vq
theorem vb4:VS adk cM "piece" 1:=vq
theorem aeu(F:FunD K "steps" "Order.steps" cM f fd)(T:Txt P w K mg C):FnOk P w K mg base E8 1 f fd ["self", "piece"] (pG C):=by
 refine F.ok aet ?_ ?_
 .rintro _ _ _ _ ⟨x,j,ll,ml,md,p,g,R,L,M,rfl,_⟩;rfl
 .intro cdv A outer s H vs Q E hr h;have C5:=hu_of hr;have hu:=hr.units;refine ⟨_,QSs.out (B1 (E6 (ahF C5 (aG (K:=K) (vi vb3)) (vi vb4) (O6 A1)))),?_⟩;obtain ⟨x,j,ll,ml,md,p,g,R,L,M,rfl,hO,q⟩:=h;obtain ⟨dx,h1⟩:=hO.ob;obtain ⟨ad,a1,a2⟩:=hO.made;walk_at "rd";refine ⟨_,_,_,h1,T.cl,T.na_made,_,aj8 _ _ _ _ _ _,md,rfl,.inl ⟨_,.inl a1⟩,fun e ne=>⟨_,b0 (k:=Sum.inr p) (D0 a1 ne),?_⟩⟩;rw [P1];have S:Same H (A0 H e (.tup [])):=Same.new ne
  by_cases hp:p∈J5 [] (allKs R L M)
  .rw [if_pos hp];exact q _ _ S ((a2 p hp).same S)
  .rw [if_neg hp];refine q _ _ S ⟨[],A2,?_⟩;rw [aiy fun h=>hp ((v8 _ _ _).mpr (.inr h))];exact .nil
theorem ahk:FnScope ["order", "text"] ["order", "text"] (C3 lE):=J8
abbrev aeZ:List Str:=["order", "text"]
theorem vb5:VS aeZ lE "order" 0:=vq
theorem vb6:VS aeZ lE "text" 1:=vq
theorem ahl(F:FunD K "parts_of" "parts_of" lE f fd)(T:Txt P w K mg C)(G3_cut:FO P w K mg base 4 "cut" ["known", "text", "figures"] [] (pE K))(G_Order_known:MO P w K mg base 1 C "known" ["self"] (uJ C)):FnOk P w K mg base E8 5 f fd ["order", "text"] (ahR C):=by
 refine F.ok ahk ?_ ?_
 .rintro _ _ _ _ ⟨x,j,ll,ml,md,z,g,R,L,M,rfl,_⟩;rfl
 .intro cdv A outer s H vs Q E hr h;have C5:=hu_of hr;have hu:=hr.units;refine ⟨_,QSs.out (B1 (E6 (F7 G3_cut (hm hr) (qa_c (alC (vi vb5) G_Order_known (hm hr)) (qa_c (vi vb6) (qa_c (aG (K:=K) (vi vb5)) A1)))))),?_⟩;obtain ⟨x,j,ll,ml,md,z,g,R,L,M,rfl,hO,hk,hz,hw,q⟩:=h;obtain ⟨dx,h1⟩:=hO.ob;walk_at "rd";refine ⟨_,_,h1,ajQ _ _ _ _ _ _ (by decide +kernel),x,j,ll,ml,md,g,R,L,M,rfl,hO,fun l nl=>?_⟩;have S:Same H (A0 H l (.lst ((E4 R).map V.str))):=Same.new nl;exact ⟨_,_,_,S _ _ h1,T.cl,T.na_figures,_,adB _ _ _ _ _ _,l,z,E4 R,_,rfl,.of A2,hk,hz,hw,fun l2 H2 n2 S2 h2=>q l2 H2 (S.free n2) (S.trans S2) h2⟩
theorem ahm:FnScope ["order", "part"] ["order", "part"] (C3 lF):=J8
abbrev ae0:List Str:=["order", "part"]
theorem vb7:VS ae0 lF "order" 0:=vq
theorem vW:VS ae0 lF "part" 1:=vq
theorem ahn(F:FunD K "steps_by" "steps_by" lF f fd)(T:Txt P w K mg C)(G_is_figure:FO P w K mg base 1 "is_figure" ["sign"] [] gZ)(G_Order_steps:MO P w K mg base 1 C "steps" ["self", "piece"] (pG C)):FnOk P w K mg base E8 2 f fd ["order", "part"] (agl C):=by
 refine F.ok ahm ?_ ?_
 .rintro _ _ _ _ ⟨x,j,ll,ml,md,c,r,y,g,R,L,M,rfl,_⟩;rfl
 .intro cdv A outer s H vs Q E hr h;have C5:=hu_of hr;have hu:=hr.units;refine ⟨_,QSs.out (A6 (qs_if (QW.pt (kL (Y5 (K:=K) (aG (K:=K) (vi vb7))) (kK (Y5 (K:=K) (F7 G_is_figure (hm hr) (qa_c (qe_ix (K:=K) (vi vW) A5) A1)))))) (B1 (E6 (O6 (qa_c (O6 (qa_c (cD T.g_FIGURES) (qa_c (qe_cT amv T.b_int amh (qa_c (vi vW) A1)) (qa_c A5 A1)))) A1)))) M0)
   (B1 (E6 (anT (vi vb7) G_Order_steps (hm hr) (qa_c (vi vW) A1))))),?_⟩
  obtain ⟨x,j,ll,ml,md,c,r,y,g,R,L,M,rfl,hy,L3,hO,hf,q⟩:=h;obtain ⟨dx,h1⟩:=hO.ob;have yN:y.cps.toList.headD 0=c:=by rw [hy];rfl
  walk_at "rd";refine ⟨_,_,_,h1,T.cl,T.na_figures,_,adB _ _ _ _ _ _,?_⟩;walk_at "rd";have fin:stepY R L M y=stepF R L M y->∃ x_5 x_6,H x=some (HO.ins C x_5 x_6)/\bO (Str.ofString "steps") x_6=none/\pG C [V.ref x,V.str y] H Q E0:=fun e=>⟨_,_,h1,ajQ _ _ _ _ _ _ (by decide +kernel),x,j,ll,ml,md,y,g,R,L,M,rfl,hO,by rw [<- e];exact q⟩
  by_cases hw:hasW R "figures"=true
  .rw [if_pos hw];refine ⟨i7 (by lia),c,by rw [hy];exact Y7 _ _,c,rfl,?_⟩
   by_cases hc:figO c=true
   .have hsy:stepY R L M y=[(1,((jW y.cps.toList:Nat):Int),0)]:=by unfold stepY;rw [hw,yN,hc];rfl
    have hAD:=hf hw (by rw [yN];exact hc);rw [hc];walk_at "rd";refine ⟨hAD,by rw [<- lenL,hy];simp,L3,by decide,fun p np=>⟨by decide,fun p1 G5=>?_⟩⟩;refine q p1 _ ((Same.new np).trans (Same.new G5)) ?_;rw [hsy];exact StepAt.one A2 (D0 A2 G5)
   .rw [jT] at hc;rw [hc];walk_at "rd";exact fin (by unfold stepY;rw [yN,hc,Bool.and_false,if_neg L5])
  .rw [if_neg hw];rw [jT] at hw;exact fin (by rw [alL hw])
theorem aho:FnScope ["made", "place"] ["made", "place"] (C3 lG):=J8
abbrev ae1:List Str:=["made", "place"]
theorem vX:VS ae1 lG "made" 0:=vq
theorem vca:VS ae1 lG "place" 1:=vq
theorem ahp(F:FunD K "add_mark" "add_mark" lG f fd)(T:Txt P w K mg C):FnOk P w K mg base E8 1 f fd ["made", "place"] (agm K):=by
 refine F.ok aho ?_ ?_
 .rintro _ _ _ _ ⟨l,p,H0,es,U,rfl,_⟩;rfl
 .intro cdv A outer s H vs Q E hr h;have C5:=hu_of hr;have hu:=hr.units;refine ⟨_,QSs.out (eI (qs_if (tD (Y5 (K:=K) (vi vX))) (B1 (N3 (qe_mB (K:=K) N8 T7 T6 T9 (vi vX) (qa_c (O6 (qa_c (cD T.g_MARK) (qa_c A5 (qa_c (N2 A1) (qa_c A5 A1))))) A1)))) M0)
   (B1 (N3 (qe_mB (K:=K) N8 T7 T6 T9 (qe_ix (K:=K) (qe_ix (K:=K) (vi vX) (qe_un q_neg A5)) A5) (qa_c (vi vca) A1))))),?_⟩
  obtain ⟨l,p,H0,es,U,rfl,J,hU,hM,q⟩:=h;walk_at "rd";refine aI (fun Y H1=>∃ (es':List (Addr×Addr)) (e:Addr×Addr) (U':List D6) (u:D6),Y=[some (.ref l),some (.int p)]/\UnI H0 H1 l (es'++[e]) (U'++[u])/\addM U p=U'++[(u.1,u.2.1,u.2.2.1++[p],u.2.2.2)]/\u.2.2.1.length<=10000) ?_ ?_
  .walk_at "rd";refine ⟨_,tI J.top,?_⟩
   by_cases he:es=[]
   .subst he;have hU0:=aiB J.row;subst hU0;simp only [List.map_nil,List.isEmpty_nil,Bool.not_true,Bool.not_false,if_true];refine ⟨N1 J.top,fun m nm=>⟨by decide,fun t nt=>appOk ((Same.new nm).trans (Same.new nt) _ _ J.top) (by decide) ⟨[],(t,m),[],(0,0,[],0),?_,rfl,by decide⟩⟩⟩;exact J.push nm nt
   .obtain ⟨es',e,rfl⟩:=uM he;have hUn:U≠[]:=fun h=>by subst h;have:=Paired.length J.row;simp at this
    obtain ⟨U',u,rfl⟩:=uM hUn;have J7:((es'++[e]).map fun e=>V.ref e.1).isEmpty=false:=by simp
    rw [J7];simp only [Bool.not_false,Bool.not_true,jS,if_false];refine ⟨es',e,U',u,J,?_,hM u (by simp)⟩;unfold addM;rw [List.getLast?_append,List.getLast?_singleton]
    simp
  rintro Y H1 ⟨es',e,U',u,rfl,J1,ea,hul⟩;obtain ⟨hr,hu⟩:=sY J1.row;have Q1:L0 ((es'++[e]).map fun e=>V.ref e.1) (-1)=some (V.ref e.1):=by rw [D9];exact akU _ _
  walk_at "rd";refine ⟨_,.inl (.of J1.top),_,Q1,?_⟩;walk_at "rd";refine ⟨_,.inr (.of hu.1),V.ref e.2,E7 (j:=2) rfl,N1 hu.2,appOk hu.2 (by rw [A4];exact G9 (by lia)) ?_⟩;refine q (es'++[e]) _ ?_;rw [ea];exact J1.mark p
theorem sc_add_part:FnScope ["order", "made", "part", "kind", "worth", "case"] ["order", "made", "part"] (C3 j6):=J8
abbrev iJ:List Str:=["order", "made", "part", "kind", "worth", "case"]
theorem vcb:VS iJ j6 "order" 0:=vq
theorem vcc:VS iJ j6 "made" 1:=vq
theorem vcd:VS iJ j6 "part" 2:=vq
theorem vce:VS iJ j6 "kind" 3:=vq
theorem vcf:VS iJ j6 "worth" 4:=vq
theorem vcg:VS iJ j6 "case" 5:=vq
theorem vch:LS j6 "kind":=lq
theorem vci:LS j6 "worth":=lq
theorem vcj:LS j6 "case":=lq
theorem ahq(F:FunD K "add_part" "add_part" j6 f fd)(T:Txt P w K mg C)(G_steps_by:FO P w K mg base 2 "steps_by" ["order", "part"] [] (agl C))(G_add_mark:FO P w K mg base 1 "add_mark" ["made", "place"] [] (agm K)):FnOk P w K mg base E8 3 f fd ["order", "made", "part"] (agn C):=by
 refine F.ok sc_add_part ?_ ?_
 .rintro _ _ _ _ ⟨x,l,j,ll,ml,md,c,r,y,g,R,L,M,H0,es,U,rfl,_⟩;rfl
 .intro cdv A outer s H vs Q E hr h;have C5:=hu_of hr;have hu:=hr.units;refine ⟨_,QSs.out (B1 (O0 PassesOwn.never (eG (K:=K) (F7 G_steps_by (hm hr) (qa_c (vi vcb) (qa_c (vi vcd) A1)))) (cF (K:=K) (n:=3) (R8 ((D7 (n:=3) sc_add_part.nd rfl vch (.inl rfl))) (R8 ((D7 (n:=4) sc_add_part.nd rfl vci (.inl rfl))) (R8 ((D7 (n:=5) sc_add_part.nd rfl vcj (.inl rfl))) cE)))) (B1 (qs_if (K2 (q_eq (K:=K) hu) (vi vce) (cD T.g_MARK)) (B1 (N3 (F7 G_add_mark (hm hr) (qa_c (vi vcc) (qa_c (vi vcf) A1))))) (B1 (N3 (qe_mB (K:=K) N8 T7 T6 T9 (vi vcc) (qa_c (O6 (qa_c (vi vce) (qa_c (vi vcf) (qa_c (N2 A1) (qa_c (vi vcg) A1))))) A1)))))))),?_⟩;obtain ⟨x,l,j,ll,ml,md,c,r,y,g,R,L,M,H0,es,U,rfl,hy,L3,hO,hf,J,hs,hU,hM,q⟩:=h;walk_at "rd";refine ⟨x,j,ll,ml,md,c,r,y,g,R,L,M,rfl,hy,L3,hO.same J.same,hf,fun a H1 S1 X6=>?_⟩;obtain ⟨ts,e1,e2⟩:=X6.ex;obtain ⟨H0',B0,J0,tp⟩:=(J.more S1).cut;have e1':=tp _ _ e1;have e2':=O4 e2 fun t s (e:H1 t=some (tupT s))=>(show H0' t=some (tupT s) from tp _ _ e)
  generalize stepY R L M y=ss at hs e2 e2' q;refine ⟨a,rfl,⟨_,.of e1⟩,forT (xs:=ts.map V.ref) (fun i Y H2=>∃ (u v w:Option V) (es:List (Addr×Addr)),Y=[some (.ref x),some (.ref l),some (.str y),u,v,w]/\UnI H0' H2 l es ((ss.take i).foldl addS U)) ⟨none,none,none,es,rfl,J0⟩ (by rintro i Y H2 _ ⟨_,_,_,_,_,h⟩;exact .of (h.same _ _ e1')) ?_ ?_⟩
  .rintro i v Y H2 hv ⟨u1,u2,u3,es,rfl,J2⟩;obtain ⟨t,ht,rfl⟩:=K1 hv;obtain ⟨s',iS,mT⟩:=Paired.at e2' ht;have hi:i<ss.length:=(E9.mp iS).1;have f7:=uK (ss.take i) U;have o9:=uL (ss.take i) U 9000 hM;rw [G6] at f7 o9;have et:(ss.take (i+1)).foldl addS U=addS ((ss.take i).foldl addS U) s':=by rw [K8 iS,y8];rfl
   have htt:C6 K H2 t [V.int s'.1,V.int s'.2.1,V.int s'.2.2]:=.of (J2.same _ _ mT);walk_at "rd";refine ⟨_,htt,rfl,_,_,rfl,_,_,rfl,_,_,rfl,rfl,?_⟩;walk_at "rd";rw [et];generalize (ss.take i).foldl addS U=U2 at J2 f7 o9;refine iteD (fun e=>⟨l,s'.2.1,H0',es,U2,rfl,J2,by lia,fun u hu=>by have:=o9 u hu;lia,fun es' H3 J3=>?_⟩) fun e=>⟨N1 J2.top,fun m nm=>⟨by decide,fun t2 jE=>appOk ((Same.new nm).trans (Same.new jE) _ _ J2.top) (by rw [A4,Paired.length J2.row];exact G9 (by lia)) ?_⟩⟩
   .unfold addS;rw [if_pos e];exact ⟨es',J3⟩
   .unfold addS;rw [if_neg e];exact ⟨_,J2.push nm jE⟩
  rintro Y H2 ⟨u1,u2,u3,es,rfl,J2⟩;rw [A4,Paired.length e2,K7] at J2;exact q es H2 (J2.base B0)
theorem sc_units:FnScope ["order", "text", "made", "part"] ["order", "text"] (C3 w8):=J8
abbrev qA:List Str:=["order", "text", "made", "part"]
theorem vck:VS qA w8 "order" 0:=vq
theorem vcl:VS qA w8 "text" 1:=vq
theorem vcm:VS qA w8 "made" 2:=vq
theorem vcn:VS qA w8 "part" 3:=vq
theorem vco:LS w8 "made":=lq
theorem vcp:LS w8 "part":=lq
theorem al6(F:FunD K "units" "units" w8 f fd)(T:Txt P w K mg C)(G_parts_of:FO P w K mg base 5 "parts_of" ["order", "text"] [] (ahR C))(G_add_part:FO P w K mg base 3 "add_part" ["order", "made", "part"] [] (agn C)):FnOk P w K mg base E8 6 f fd ["order", "text"] (uN C):=by
 refine F.ok sc_units ?_ ?_
 .rintro _ _ _ _ ⟨x,j,ll,ml,md,z,g,R,L,M,rfl,_⟩;rfl
 .intro cdv A outer s H vs Q E hr h;have C5:=hu_of hr;have hu:=hr.units;refine ⟨_,QSs.out (A6 (E1 (n:=2) sc_units.nd rfl vco (N2 A1))
   (A6 (O0 PassesOwn.never (O5 (K:=K) (F7 G_parts_of (hm hr) (qa_c (vi vck) (qa_c (vi vcl) A1)))) (D7 (n:=3) sc_units.nd rfl vcp (.inl rfl)) (B1 (N3 (F7 G_add_part (hm hr) (qa_c (vi vck) (qa_c (vi vcm) (qa_c (vi vcn) A1)))))))
   (B1 (E6 (Y6  (R9:CompOk ["order", "text", "made", "part"] (C3 w8).names _ ["kind", "worth", "marks", "case"] 4 []) (O5 (K:=K) (vi vcm)) (fun _ _ _ _ _=>(cF (K:=K) (n:=4) (R8 (D7 (n:=0) (show List.Nodup (["kind", "worth", "marks", "case"]:List Str) by decide +kernel) rfl (Or.inl rfl)) (R8 (D7 (n:=1) (show List.Nodup (["kind", "worth", "marks", "case"]:List Str) by decide +kernel) rfl (Or.inl rfl)) (R8 (D7 (n:=2) (show List.Nodup (["kind", "worth", "marks", "case"]:List Str) by decide +kernel) rfl (Or.inl rfl)) (R8 (D7 (n:=3) (show List.Nodup (["kind", "worth", "marks", "case"]:List Str) by decide +kernel) rfl (Or.inl rfl)) cE)))))) (fun _ _ _ _ _=>b8) (fun _ _ _ _ _=>(O6 (qa_c (qv 0) (qa_c (qv 1) (qa_c (qe_cT (tH (K:=K)) T.b_tuple sV (qa_c (qv 2) A1)) (qa_c (qv 3) A1))))))))))),?_⟩
  obtain ⟨x,j,ll,ml,md,z,g,R,L,M,rfl,hO,hk,hz,hw,hs,q⟩:=h;have hf:=ahS (w:=hasW R "figures") (g:=E4 R) _ z.cps.toList (A8 _);have J7:=aj9 (w:=hasW R "figures") (g:=E4 R) _ z.cps.toList (A8 _);have rA:=(pD (w:=hasW R "figures") (g:=E4 R) _ z.cps.toList (A8 _)).2.1;rw [lenL] at rA;have r0:=ago (w:=hasW R "figures") (g:=E4 R) _ z.cps.toList (A8 _);rw [lenL] at r0;walk_at "rd";intro l nl;have S1:Same H (A0 H l (.lst [])):=Same.new nl;have aX:A0 H l (.lst []) l=some (.lst []):=A2;generalize A0 H l (.lst [])=H1 at S1 aX;refine ⟨x,j,ll,ml,md,z,g,R,L,M,rfl,hO.same S1,hk,by lia,hw,fun a H2 na S2 ha=>?_⟩;generalize (cutF (hasW R "figures") (E4 R) z.cps.toList).2=ps at ha hf J7 rA r0 q;have nal:a≠l:=fun e=>by rw [e,aX] at na;cases na
  have C0:UnI (cutH H2 [l]) H2 l [] []:=⟨S2 _ _ aX,.nil,by simp,fun b hb=>by unfold cutH;exact if_pos (by simpa using hb),pH _ _⟩
  have S0:Same H (cutH H2 [l]):=fun b o hb=>by
   unfold cutH;rw [if_neg (fun e=>by rw [D1.mp e,nl] at hb;cases hb)];exact S2 _ _ (S1 _ _ hb)
  have ha0:cutH H2 [l] a=some (.lst (ps.map V.str)):=by
   unfold cutH;rw [if_neg (fun e=>nal (D1.mp e))];exact ha
  have hO0:=hO.same S0;generalize cutH H2 [l]=H0 at C0 S0 ha0 hO0;refine ⟨a,rfl,⟨_,.of ha⟩,forL (xs:=ps.map V.str) (fun i Y H3=>∃ (u:Option V) (es:List (Addr×Addr)),Y=[some (.ref x),some (.str z),some (.ref l),u]/\UnI H0 H3 l es (N6 (stepY R L M) (ps.take i))) ⟨none,[],rfl,C0⟩ (by rintro i Y H3 _ ⟨_,_,_,h⟩;exact .of (h.same _ _ ha0)) ?_ ?_⟩
  .rintro i v Y H3 hv ⟨u,es,rfl,J⟩;obtain ⟨y,hy,rfl⟩:=K1 hv;have hi:i<ps.length:=(E9.mp hy).1;have yO:=M7 hy;obtain ⟨C5,aZ⟩:=pI (S:=stepY R L M) hs (ps.take i);rw [G6] at C5 aZ;obtain ⟨c,r,hcr⟩:∃ c r,y.cps.toList=c::r:=by
    have:=J7 y yO
    rw [<- lenL] at this;cases e:y.cps.toList with
    | nil=>rw [e] at this;simp at this
    | cons c r=>exact ⟨c,r,rfl⟩
   have L3:y.length<=640:=by have:=r0 y yO;lia
   walk_at "rd";refine ⟨x,l,j,ll,ml,md,c,r,y,g,R,L,M,H0,es,_,rfl,hcr,L3,hO0,hf y yO,J,by have:=hs y;lia,by lia,fun v hv=>by have:=aZ v hv;lia,fun es' H4 J4=>?_⟩;rw [<- agX hy] at J4;exact ⟨es',J4⟩
  rintro Y H3 ⟨u,es,rfl,J⟩;rw [A4,K7] at J;obtain ⟨C5,aZ⟩:=pI (S:=stepY R L M) hs ps;have o8:=Paired.length J.row;generalize N6 (stepY R L M) ps=U at J C5 aZ o8 q;walk_at "rd";refine ⟨⟨_,.of J.top⟩,aq3 (xs:=es.map fun e=>V.ref e.1) [] rfl (fun D i ys H4=>∃ fs:List (Addr×Addr),ys=fs.map (fun e=>V.ref e.1)/\Same H3 H4/\Paired (fun e (u:D6)=>H4 e.1=some (.tup [.int u.1,.int u.2.1,.ref e.2,.int u.2.2.2])/\H4 e.2=some (.tup (u.2.2.1.map V.int))) fs (U.take i)) (fun D nD=>⟨[],rfl,Same.new nD,.nil⟩) (by rintro D i ys H4 nD _ ⟨_,_,S,_⟩;exact .of (S _ _ J.top)) ?_ ?_⟩
  .rintro D i v ys H4 nD hi hv ⟨fs,rfl,S4,P⟩ hD L3;obtain ⟨e,he,rfl⟩:=K1 hv;obtain ⟨w,hw,Y2⟩:=Paired.at J.row he;have p8:fs.length<=7500:=by
    have:=Paired.length P
    rw [G6] at this;lia
   refine ⟨e.1,_,_,_,_,rfl,.of (S4 _ _ Y2.1),?_⟩;walk_at "rd";refine rTupR.l (.of (S4 _ _ Y2.2)) fun m nm=>⟨by decide,fun t nt=>?_⟩
   have S5:Same H4 (A0 (A0 H4 m (.tup (w.2.2.1.map V.int))) t (.tup [V.int w.1,V.int w.2.1,V.ref m,V.int w.2.2.2])):=(Same.new nm).trans (Same.new nt);have yP:A0 (A0 H4 m (.tup (w.2.2.1.map V.int))) t (.tup [V.int w.1,V.int w.2.1,V.ref m,V.int w.2.2.2]) m=some (.tup (w.2.2.1.map V.int)):=D0 A2 nt;have yQ:A0 (A0 H4 m (.tup (w.2.2.1.map V.int))) t (.tup [V.int w.1,V.int w.2.1,V.ref m,V.int w.2.2.2]) t=some (.tup [V.int w.1,V.int w.2.1,V.ref m,V.int w.2.2.2]):=A2;generalize A0 (A0 H4 m (.tup (w.2.2.1.map V.int))) t (.tup [V.int w.1,V.int w.2.1,V.ref m,V.int w.2.2.2])=H5 at S5 yP yQ;have hD5:=S5 _ _ hD;have dn:∀ {b:Addr} {xs:List V},H5 b=some (.tup xs)->b≠D:=fun h q=>by rw [q,hD5] at h;cases h
   refine ⟨hD5,by rw [A4];exact G9 (by lia),hi,by rw [C8,T4];lia,⟨_,_,_,_,rfl⟩,fs++[(t,m)],by rw [D9];rfl,(S4.trans S5).put nD,?_⟩;rw [K8 hw];refine Paired.snoc (O4 P fun f w h=>⟨?_,?_⟩) ⟨?_,?_⟩
   .rw [A3 (dn (S5 _ _ h.1))];exact S5 _ _ h.1
   .rw [A3 (dn (S5 _ _ h.2))];exact S5 _ _ h.2
   .rw [A3 (dn yQ)];exact yQ
   .rw [A3 (dn yP)];exact yP
  rintro D ys H4 nD ⟨fs,rfl,S4,P⟩ hD L3;rw [A4,o8,K7] at P;have SS:Same H H3:=S0.trans J.same;exact q D H4 (SS.free nD) (SS.trans S4) ⟨fs,hD,P⟩
theorem adF:FnScope ["kind", "worth"] ["kind", "worth"] (C3 lH):=J8
abbrev acK:List Str:=["kind", "worth"]
theorem vcq:VS acK lH "kind" 0:=vq
theorem vcr:VS acK lH "worth" 1:=vq
theorem adG(F:FunD K "first_numbers" "first_numbers" lH f fd)(T:Txt P w K mg C):FnOk P w K mg base E8 1 f fd ["kind", "worth"] ahT:=by
 refine F.ok adF ?_ ?_
 .rintro _ _ _ _ ⟨k,w,rfl,_⟩;rfl
 .intro cdv A outer s H vs Q E hr h;have C5:=hu_of hr;have hu:=hr.units;refine ⟨_,QSs.out (A6 (qs_if (K2 (q_eq (K:=K) hu) (vi vcq) (cD T.g_MARK)) (B1 (E6 (N2 (qa_c A5 A1)))) M0)
   (A6 (qs_if (K2 (q_eq (K:=K) hu) (vi vcq) (cD T.g_FIGURES)) (B1 (E6 (N2 (qa_c A5 (qa_c (qe_op (q_add (K:=K)) (vi vcr) A5) A1))))) M0)
   (B1 (E6 (N2 (qa_c (qe_op (q_add (K:=K)) (vi vcr) A5) A1)))))),?_⟩
  obtain ⟨k,w,rfl,q⟩:=h;unfold R1 at q;walk_at "rd";refine iteD (fun h0=>?_) fun h0=>iteD (fun h1=>?_) fun h1=>?_
  .rw [if_pos h0] at q;exact ⟨by decide,q⟩
  .rw [if_neg h0,if_pos h1] at q;exact ⟨by decide,q⟩
  .rw [if_neg h0,if_neg h1] at q;exact ⟨by decide,q⟩
theorem sc_first_level:FnScope ["made", "level", "unit"] ["made"] (C3 cN):=J8
abbrev vY:List Str:=["made", "level", "unit"]
theorem vcs:VS vY cN "made" 0:=vq
theorem vct:VS vY cN "level" 1:=vq
theorem vcu:VS vY cN "unit" 2:=vq
theorem vcv:LS cN "level":=lq
theorem vcw:LS cN "unit":=lq
theorem aev(F:FunD K "first_level" "first_level" cN f fd)(T:Txt P w K mg C)(G_first_numbers:FO P w K mg base 1 "first_numbers" ["kind", "worth"] [] ahT):FnOk P w K mg base E8 2 f fd ["made"] ahU:=by
 refine F.ok sc_first_level ?_ ?_
 .rintro _ _ _ _ ⟨a,U,rfl,_⟩;rfl
 .intro cdv A outer s H vs Q E hr h;have C5:=hu_of hr;have hu:=hr.units;refine ⟨_,QSs.out (A6 (E1 (n:=1) sc_first_level.nd rfl vcv (N2 A1))
   (A6 (O0 PassesOwn.never (O5 (K:=K) (vi vcs)) (D7 (n:=2) sc_first_level.nd rfl vcw (.inl rfl)) (B1 (N3 (qe_mB (K:=K) N8 jR jQ oR (vi vct) (qa_c (F7 G_first_numbers (hm hr) (qa_c (qe_ix (K:=K) (vi vcu) A5) (qa_c (qe_ix (K:=K) (vi vcu) A5) A1))) A1)))))
   (B1 (E6 (vi vct))))),?_⟩
  obtain ⟨a,U,rfl,⟨es,e1,e2⟩,hl,q⟩:=h;walk_at "rd";intro p np;have S1:Same H (A0 H p (.lst [])):=Same.new np;refine ⟨⟨_,.of (S1 _ _ e1)⟩,forL (xs:=es.map fun e=>V.ref e.1) (fun i Y H2=>∃ (u:Option V),Y=[some (.ref a),some (.ref p),u]/\Same H H2/\H2 p=some (.lst ((b9 (U.take i)).map V.int))) ⟨none,rfl,S1,A2⟩ (by rintro i Y H2 _ ⟨_,_,S,_⟩;exact .of (S _ _ e1)) ?_ ?_⟩
  .rintro i x Y H2 hx ⟨u,rfl,S2,h2⟩;obtain ⟨e,he,rfl⟩:=K1 (f:=fun e:Addr×Addr=>V.ref e.1) hx;obtain ⟨w,hw,Y2⟩:=Paired.at e2 he;have t1:=S2 _ _ Y2.1;have hi:i<U.length:=(E9.mp hw).1;have p8:=uQ (U.take i);have W7:=aeT w.1 w.2.1;rw [G6] at p8;walk_at "rd";refine ⟨N1 h2,_,.inr (.of t1),_,E7 (j:=0) rfl,_,.inr (.of t1),_,E7 (j:=1) rfl,_,_,rfl,fun l nl=>?_⟩;have S3:Same H2 (A0 H2 l (.lst ((R1 w.1 w.2.1).map V.int))):=Same.new nl;have hl3:A0 H2 l (.lst ((R1 w.1 w.2.1).map V.int)) l=some (.lst ((R1 w.1 w.2.1).map V.int)):=A2;generalize A0 H2 l (.lst ((R1 w.1 w.2.1).map V.int))=H3 at S3 hl3;refine ⟨p,l,_,_,rfl,rfl,S3 _ _ h2,hl3,by rw [A4,A4];have:=G9 (n:=(b9 (U.take i)).length+(R1 w.1 w.2.1).length) (by lia);lia,(S2.trans S3).put np,?_⟩;rw [A2,agZ hw,D9]
  rintro Y H2 ⟨u,rfl,S2,h2⟩;rw [A4,Paired.length e2,K7] at h2;walk_at "rd";exact q p H2 np S2 h2
theorem sc_second_level:FnScope ["made", "behind", "level", "unit"] ["made", "behind"] (C3 x0):=J8
abbrev qB:List Str:=["made", "behind", "level", "unit"]
theorem vcx:VS qB x0 "made" 0:=vq
theorem vcy:VS qB x0 "behind" 1:=vq
theorem vZ:VS qB x0 "level" 2:=vq
theorem vcA:VS qB x0 "unit" 3:=vq
theorem vcB:LS x0 "level":=lq
theorem vcC:LS x0 "unit":=lq
theorem aeh(F:FunD K "second_level" "second_level" x0 f fd)(T:Txt P w K mg C):FnOk P w K mg base E8 1 f fd ["made", "behind"] agr:=by
 refine F.ok sc_second_level ?_ ?_
 .rintro _ _ _ _ ⟨a,b,U,rfl,_⟩;rfl
 .intro cdv A outer s H vs Q E hr h;have C5:=hu_of hr;have hu:=hr.units;refine ⟨_,QSs.out (A6 (E1 (n:=2) sc_second_level.nd rfl vcB (N2 A1))
   (A6 (O0 PassesOwn.never (O5 (K:=K) (sZ (Y5 (K:=K) (vi vcy)) (aq5 (K:=K) (vi vcx) (O7 (qe_un q_neg A5))) (vi vcx))) (D7 (n:=3) sc_second_level.nd rfl vcC (.inl rfl)) (A6 (N3 (qe_mB (K:=K) N8 jR jQ oR (vi vZ) (qa_c (Y6  (R9:CompOk ["made", "behind", "level", "unit"] (C3 x0).names _ ["place"] 1 []) (eG (K:=K) (qe_ix (K:=K) (vi vcA) A5)) (fun _ _ _ _ _=>D7 (n:=0) (show List.Nodup (["place"]:List Str) by decide +kernel) rfl (Or.inl rfl)) (fun _ _ _ _ _=>b8) (fun _ _ _ _ _=>(qe_op (q_add (K:=K)) (qv 0) A5))) A1)))
   (B1 (N3 (qe_mB (K:=K) N8 T7 T6 T9 (vi vZ) (qa_c A5 A1))))))
   (B1 (E6 (vi vZ))))),?_⟩
  obtain ⟨a,b,U,rfl,⟨es,e1,e2⟩,hl,hm,hs,q⟩:=h;walk_at "rd";intro p np;have S1:Same H (A0 H p (.lst [])):=Same.new np;have f8:A0 H p (.lst []) p=some (.lst []):=A2;generalize A0 H p (.lst [])=H1 at S1 f8;have go:∀ (l0:Addr) (fs:List (Addr×Addr)) (V':List D6) (H2:Hp),Same H1 H2->H2 l0=some (.lst (fs.map fun e=>V.ref e.1))->l0≠p->Paired (fun e (u:D6)=>H e.1=some (.tup [.int u.1,.int u.2.1,.ref e.2,.int u.2.2.2])/\H e.2=some (.tup (u.2.2.1.map V.int))) fs V'->V'.length<=10000->(∀ u∈V',u.2.2.1.length<=10000)->P7 V'<=100000->(∀ H',Same H H'->H' p=some (.lst ((X5 V').map V.int))->Q (.ref p) H')->
    ForIt (v4 K l0) (gName 3) (tSeq (tDrop (gO K "list" sF (tVar 2) (tCons (tComp (iTup K (m4 (eA K) (tVar 3) (tC (V.int 2)))) 1 [] (gName 0) tYes (m4 (rAddU K) (tVar 0) (tC (V.int 2)))) tNil))) (tDrop (gO K "list" oC (tVar 2) (tCons (tC (V.int 1)) tNil)))) { nx:=tRet (tVar 2) { nx:=fun x H'=>Q V.non H',rt:=Q },rt:=Q } [some (V.ref a),some (V.bl b),some (V.ref p),none] H2:=by
   intro l0 fs V' H2 S2 fB nl0 hP hV hVm hVn q;have V3:=S2 _ _ f8;have SB:Same H (cutH H2 [p]):=fun c o hc=>by
    unfold cutH;rw [if_neg (fun e=>by rw [D1.mp e,np] at hc;cases hc)];exact S2 _ _ (S1 _ _ hc)
   have hlB:cutH H2 [p] l0=some (.lst (fs.map fun e=>V.ref e.1)):=by
    unfold cutH;rw [if_neg (fun e=>nl0 (D1.mp e))];exact fB
   have nB:cutH H2 [p] p=none:=by unfold cutH;exact if_pos (by simp)
   have hB2:=pH H2 [p];generalize cutH H2 [p]=B at SB hlB nB hB2;refine forL (xs:=fs.map fun e=>V.ref e.1) (fun i Y H3=>∃ (v:Option V),Y=[some (.ref a),some (.bl b),some (.ref p),v]/\Same B H3/\H3 p=some (.lst ((X5 (V'.take i)).map V.int))) ⟨none,rfl,hB2,V3⟩ (by rintro i Y H3 _ ⟨_,_,S,_⟩;exact .of (S _ _ hlB)) ?_ ?_
   .rintro i x Y H3 hx ⟨v,rfl,S3,h3⟩;obtain ⟨e,he,rfl⟩:=K1 (f:=fun e:Addr×Addr=>V.ref e.1) hx;obtain ⟨u,hu,Y2⟩:=Paired.at hP he;have hum:=hVm u (M7 hu);have t1:=S3 _ _ (SB _ _ Y2.1);have t2:=S3 _ _ (SB _ _ Y2.2);have ea:X5 (V'.take (i+1))=X5 (V'.take i)++(u.2.2.1.map fun p=>p+2)++[1]:=by
     unfold X5;rw [K8 hu,Y4,Q5]
     simp
    have T0:(X5 (V'.take i)).length<=110000:=by
     rw [aec,G6]
     have:P7 (V'.take i)<=P7 V':=by
      have e2:P7 V'=P7 (V'.take i)+P7 (V'.drop i):=by
       unfold P7;rw [<- List.sum_append,<- D9,g3]
      lia
     lia
    generalize X5 (V'.take i)=acc at h3 ea T0;walk_at "rd";refine ⟨N1 h3,_,.inr (.of t1),_,E7 (j:=2) rfl,e.2,rfl,⟨_,.of t2⟩,compT (xs:=u.2.2.1.map V.int) [] rfl (fun D k ys H4=>Same H3 H4/\ys=((u.2.2.1.take k).map fun p=>p+2).map V.int) (fun D nD=>⟨Same.new nD,rfl⟩) (by rintro D k ys H4 nD _ ⟨S,_⟩;exact .of (S _ _ t2)) ?_ ?_⟩
    .rintro D k y ys H4 nD hk hy ⟨S4,rfl⟩ hD L3;obtain ⟨m,o9,rfl⟩:=K1 hy;walk_at "rd";refine ⟨hD,by simp only [A4,G6];exact G9 (by lia),CW.put hk L3 ⟨S4.put nD,?_⟩⟩;rw [K8 o9,D9,D9];rfl
    rintro D ys H4 nD ⟨S4,rfl⟩ hD _;rw [A4,K7] at hD;refine ⟨p,D,_,_,rfl,rfl,S4 _ _ h3,hD,by simp only [A4];have:=G9 (n:=acc.length+u.2.2.1.length) (by lia);lia,?_⟩;have h5:A0 H4 p (.lst (acc.map V.int++(u.2.2.1.map fun p=>p+2).map V.int)) p=some (.lst (acc.map V.int++(u.2.2.1.map fun p=>p+2).map V.int)):=A2;have S5:Same B (A0 H4 p (.lst (acc.map V.int++(u.2.2.1.map fun p=>p+2).map V.int))):=(S3.trans S4).put nB;generalize A0 H4 p (.lst (acc.map V.int++(u.2.2.1.map fun p=>p+2).map V.int))=H5 at h5 S5;walk_at "rd";refine ⟨N1 h5,appOk h5 (by simp only [C8,A4];exact G9 (by lia)) ⟨S5.put nB,?_⟩⟩;rw [A2,ea,D9,D9];rfl
   rintro Y H3 ⟨v,rfl,S3,h3⟩;rw [A4,Paired.length hP,K7] at h3;walk_at "rd";exact q H3 (SB.trans S3) h3
  by_cases hb:b=true
  .rw [if_pos hb] at q ⊢
   refine ⟨_,.of (S1 _ _ e1),fun p1 G5=>?_⟩;refine ⟨⟨_,.of A2⟩,go p1 es.reverse U.reverse _ (Same.new G5) (by rw [A2,List.map_reverse]) (fun e=>by rw [e,f8] at G5;cases G5) (uR e2) (by rw [List.length_reverse];exact hl) (fun u hu=>hm u (List.mem_reverse.mp hu)) (by rw [aeU];exact hs) fun H' S h=>q p H' np S h⟩
  .rw [if_neg hb] at q ⊢
   exact ⟨⟨_,.of (S1 _ _ e1)⟩,go a es U _ (Same.refl _) (S1 _ _ e1) (fun e=>by rw [e,np] at e1;cases e1) e2 hl hm hs fun H' S h=>q p H' np S h⟩
theorem aew:FnScope ["made"] ["made"] (C3 lI):=J8
abbrev afD:List Str:=["made"]
theorem vcD:VS afD lI "made" 0:=vq
theorem aex(F:FunD K "third_level" "third_level" lI f fd)(T:Txt P w K mg C):FnOk P w K mg base E8 1 f fd ["made"] ahV:=by
 refine F.ok aew ?_ ?_
 .rintro _ _ _ _ ⟨a,U,rfl,_⟩;rfl
 .intro cdv A outer s H vs Q E hr h;have C5:=hu_of hr;have hu:=hr.units;refine ⟨_,QSs.out (B1 (E6 (Y6  (R9:CompOk ["made"] (C3 lI).names _ ["unit"] 1 []) (O5 (K:=K) (vi vcD)) (fun _ _ _ _ _=>D7 (n:=0) (show List.Nodup (["unit"]:List Str) by decide +kernel) rfl (Or.inl rfl)) (fun _ _ _ _ _=>b8) (fun _ _ _ _ _=>(qe_op (q_add (K:=K)) (qe_ix (K:=K) (qv 0) A5) A5))))),?_⟩;obtain ⟨a,U,rfl,⟨es,e1,e2⟩,hl,q⟩:=h;walk_at "rd";refine ⟨⟨_,.of e1⟩,compL (xs:=es.map fun e=>V.ref e.1) [] rfl (fun D i ys H2=>Same H H2/\ys=((U.take i).map fun u=>u.2.2.2+1).map V.int) (fun D nD=>⟨Same.new nD,rfl⟩) (by rintro D i ys H2 nD _ ⟨S,_⟩;exact .of (S _ _ e1)) ?_ ?_⟩
  .rintro D i x ys H2 nD hi hx ⟨S2,rfl⟩ hD L3;obtain ⟨e,he,rfl⟩:=K1 (f:=fun e:Addr×Addr=>V.ref e.1) hx;obtain ⟨w,hw,Y2⟩:=Paired.at e2 he;have mR:i<U.length:=(E9.mp hw).1;walk_at "rd";refine ⟨_,.inr (.of (S2 _ _ Y2.1)),V.int w.2.2.2,E7 (j:=3) rfl,?_⟩;walk_at "rd";refine ⟨hD,by simp only [A4,G6];exact G9 (by lia),CW.put hi L3 ⟨S2.put nD,?_⟩⟩;rw [K8 hw,D9,D9];rfl
  rintro D ys H2 nD ⟨S2,rfl⟩ hD _;rw [A4,Paired.length e2,K7] at hD;exact q D H2 nD S2 hD
theorem aei:FnScope ["text"] ["text"] (C3 lJ):=J8
abbrev aey:List Str:=["text"]
theorem vcE:VS aey lJ "text" 0:=vq
theorem aej(F:FunD K "fourth_level" "fourth_level" lJ f fd)(T:Txt P w K mg C):FnOk P w K mg base E8 1 f fd ["text"] agq:=by
 refine F.ok aei ?_ ?_
 .rintro _ _ _ _ ⟨z,rfl,_⟩;rfl
 .intro cdv A outer s H vs Q E hr h;have C5:=hu_of hr;have hu:=hr.units;refine ⟨_,QSs.out (B1 (E6 (Y6  (R9:CompOk ["text"] (C3 lJ).names _ ["sign"] 1 []) (aml (vi vcE)) (fun _ _ _ _ _=>D7 (n:=0) (show List.Nodup (["sign"]:List Str) by decide +kernel) rfl (Or.inl rfl)) (fun _ _ _ _ _=>b8) (fun _ _ _ _ _=>(qe_cB q_ord T.b_ord aqx (qa_c (qv 0) A1)))))),?_⟩;obtain ⟨z,rfl,hz,q⟩:=h;walk_at "rd";refine compS [] rfl (fun D i ys H2=>Same H H2/\ys=((z.cps.toList.take i).map fun c:Nat=>(c:Int)).map V.int) (fun D nD=>⟨Same.new nD,rfl⟩) ?_ ?_
  .rintro D i x ys H2 nD hi hx ⟨S2,rfl⟩ hD L3;have hsz:z.cps.size=z.length:=rfl;walk_at "rd";refine ⟨rfl,hD,by simp only [A4,G6];exact G9 (by lia),CW.put hi L3 ⟨S2.put nD,?_⟩⟩;rw [K8 hx,D9,D9];rfl
  .rintro D ys H2 nD ⟨S2,rfl⟩ hD _;rw [show z.cps.size=z.cps.toList.length by simp,K7] at hD;exact q D H2 nD S2 hD
theorem sc_key:FnScope ["order", "text", "strength", "made", "levels", "numbers", "level"] ["order", "text", "strength"] (C3 s_key):=J8
abbrev n_key:List Str:=["order", "text", "strength", "made", "levels", "numbers", "level"]
theorem vcF:VS n_key s_key "order" 0:=vq
theorem vcG:VS n_key s_key "text" 1:=vq
theorem vcH:VS n_key s_key "strength" 2:=vq
theorem wA:VS n_key s_key "made" 3:=vq
theorem vcJ:VS n_key s_key "levels" 4:=vq
theorem wB:VS n_key s_key "numbers" 5:=vq
theorem vcL:VS n_key s_key "level" 6:=vq
theorem vcM:LS s_key "made":=lq
theorem vcN:LS s_key "levels":=lq
theorem vcO:LS s_key "numbers":=lq
theorem vcP:LS s_key "level":=lq
theorem amE(F:FunD K "key" "key" s_key f fd)(T:Txt P w K mg C)(G_units:FO P w K mg base 6 "units" ["order", "text"] [] (uN C))(G_first_level:FO P w K mg base 2 "first_level" ["made"] [] ahU)(G_second_level:FO P w K mg base 1 "second_level" ["made", "behind"] [] agr)(G_third_level:FO P w K mg base 1 "third_level" ["made"] [] ahV)(G_fourth_level:FO P w K mg base 1 "fourth_level" ["text"] [] agq):FnOk P w K mg base E8 7 f fd ["order", "text", "strength"] (spKey C):=by
 refine F.ok sc_key ?_ ?_
 .rintro _ _ _ _ ⟨x,j,ll,ml,md,z,n,g,R,L,M,rfl,_⟩;rfl
 .intro cdv A outer s H vs Q E hr h;have C5:=hu_of hr;have hu:=hr.units;refine ⟨_,QSs.out (A6 (E1 (n:=3) sc_key.nd rfl vcM (F7 G_units (hm hr) (qa_c (vi vcF) (qa_c (vi vcG) A1))))
   (A6 (E1 (n:=4) sc_key.nd rfl vcN (N2 (qa_c (F7 G_first_level (hm hr) (qa_c (vi wA) A1)) (qa_c (F7 G_second_level (hm hr) (qa_c (vi wA) (qa_c (aG (K:=K) (vi vcF)) A1))) (qa_c (F7 G_third_level (hm hr) (qa_c (vi wA) A1)) (qa_c (F7 G_fourth_level (hm hr) (qa_c (vi vcG) A1)) A1))))))
   (A6 (E1 (n:=5) sc_key.nd rfl vcO (N2 A1))
   (A6 (O0 PassesOwn.never (O5 (K:=K) (T8 (K:=K) (vi vcJ) i8 (O7 (vi vcH)))) (D7 (n:=6) sc_key.nd rfl vcP (.inl rfl)) (A6 (N3 (qe_mB (K:=K) N8 jR jQ oR (vi wB) (qa_c (vi vcL) A1)))
   (B1 (N3 (qe_mB (K:=K) N8 T7 T6 T9 (vi wB) (qa_c A5 A1))))))
   (B1 (E6 (vi wB))))))),?_⟩
  obtain ⟨x,j,ll,ml,md,z,n,g,R,L,M,rfl,hn,hO,hk,hz,hw,hs,q⟩:=h;have hp:=(pD (w:=hasW R "figures") (g:=E4 R) _ z.cps.toList (A8 _)).2.1;rw [lenL] at hp;obtain ⟨C5,aZ⟩:=pI hs (cutF (hasW R "figures") (E4 R) z.cps.toList).2;have hu3:=adC hs (cutF (hasW R "figures") (E4 R) z.cps.toList).2;walk_at "rd";refine ⟨x,j,ll,ml,md,z,g,R,L,M,rfl,hO,hk,hz,hw,hs,fun u H1 nu S1 hU=>?_⟩;generalize N6 (stepY R L M) (cutF (hasW R "figures") (E4 R) z.cps.toList).2=U at C5 aZ hu3 hU q;refine ⟨u,U,rfl,hU,by lia,fun a1 H2 n1 S2 h1=>?_⟩;obtain ⟨dx,ho⟩:=hO.ob;refine ⟨_,_,_,S2 _ _ (S1 _ _ ho),T.cl,T.na_behind,_,ad6 _ _ _ _ _ _,?_⟩;refine ⟨u,_,U,rfl,hU.same S2,by lia,fun v hv=>by have:=aZ v hv;lia,by lia,fun a2 H3 n2 S3 h2=>?_⟩;refine ⟨u,U,rfl,hU.same (S2.trans S3),by lia,fun a3 H4 n3 S4 h3=>?_⟩;refine ⟨z,rfl,by lia,fun a4 H5 n4 S5 h4=>?_⟩;refine ⟨by decide,fun p np p1 G5=>?_⟩;have hLS:∀ l∈lA (hasW R "behind") U z,l.length<=20000:=fun l hl=>by
   unfold lA at hl;simp only [E5,g6,or_false] at hl
   rcases hl with rfl | rfl | rfl | rfl
   .have:=uQ U;lia
   .rw [aec]
    by_cases hb:hasW R "behind"=true
    .rw [if_pos hb,aeU,List.length_reverse];lia
    .rw [if_neg hb];lia
   .rw [A4];lia
   .rw [A4,lenL];lia
  have hP:Paired (fun a (l:List Int)=>H5 a=some (.lst (l.map V.int))) [a1,a2,a3,a4] (lA (hasW R "behind") U z):=.cons ((S3.trans (S4.trans S5)) _ _ h1) (.cons ((S4.trans S5) _ _ h2) (.cons (S5 _ _ h3) (.cons h4 .nil)));unfold keyF at q;have S15:=S1.trans (S2.trans (S3.trans (S4.trans S5)));generalize lA (hasW R "behind") U z=LS at hLS hP q;have S6:Same H5 (A0 H5 p (.lst [V.ref a1,V.ref a2,V.ref a3,V.ref a4])):=Same.new np;have yR:A0 H5 p (.lst [V.ref a1,V.ref a2,V.ref a3,V.ref a4]) p=some (.lst (([a1,a2,a3,a4]:List Addr).map V.ref)):=A2;generalize A0 H5 p (.lst [V.ref a1,V.ref a2,V.ref a3,V.ref a4])=H6 at S6 yR G5;have S7:Same H6 (A0 H6 p1 (.lst [])):=Same.new G5;have fU:A0 H6 p1 (.lst []) p1=some (.lst []):=A2;generalize A0 H6 p1 (.lst [])=H7 at S7 fU;generalize [a1,a2,a3,a4]=as at hP yR;refine rSlR.l (.of (S7 _ _ yR)) fun s ns=>?_
  rw [kN,<- dO];have hP2:Paired (fun a (l:List Int)=>H5 a=some (.lst (l.map V.int))) (as.take n) (LS.take n):=uS hP n;have hL2:(LS.take n).length<=4:=by rw [G6];lia
  have hLS2:∀ l∈LS.take n,l.length<=20000:=fun l hl=>hLS l (nR hl)
  generalize as.take n=bs at hP2 ns;generalize LS.take n=MS at hP2 hL2 hLS2 q;have nsp:s≠p1:=fun e=>by rw [e,fU] at ns;cases ns
  have S8:Same H7 (A0 H7 s (.lst (bs.map V.ref))):=Same.new ns;have yS:A0 H7 s (.lst (bs.map V.ref)) s=some (.lst (bs.map V.ref)):=A2;generalize A0 H7 s (.lst (bs.map V.ref))=H8 at S8 yS;have hp8:=S8 _ _ fU;have SB:Same H6 (cutH H8 [p1]):=fun a o ha=>by
   unfold cutH;rw [if_neg (fun e=>by rw [D1.mp e,G5] at ha;cases ha)];exact S8 _ _ (S7 _ _ ha)
  have hsB:cutH H8 [p1] s=some (.lst (bs.map V.ref)):=by
   unfold cutH;rw [if_neg (fun e=>nsp (D1.mp e))];exact yS
  have nB:cutH H8 [p1] p1=none:=by unfold cutH;exact if_pos (by simp)
  have hB8:=pH H8 [p1];generalize cutH H8 [p1]=B at SB hsB nB hB8;have hPB:=O4 hP2 fun a l (e:H5 a=some (.lst (l.map V.int)))=>(show B a=some (.lst (l.map V.int)) from SB _ _ (S6 _ _ e))
  have A7:=Paired.length hPB;refine ⟨s,rfl,⟨_,.of yS⟩,forL (xs:=bs.map V.ref) (fun i Y H9=>∃ (v:Option V),Y=[some (.ref x),some (.str z),some (.int n),some (.ref u),some (.ref p),some (.ref p1),v]/\Same B H9/\H9 p1=some (.lst (((MS.take i).flatMap fun l=>l++[0]).map V.int))/\((MS.take i).flatMap fun l=>l++[0]).length<=20001*i) ⟨none,rfl,hB8,hp8,G3 _⟩ (by rintro i Y H9 _ ⟨_,_,S,_⟩;exact .of (S _ _ hsB)) ?_ ?_⟩
  .rintro i v Y H9 hv ⟨w,rfl,S9,h9,qU⟩;obtain ⟨a,ha,rfl⟩:=K1 hv;obtain ⟨l,hl,fS⟩:=Paired.at hPB ha;have hi:i<MS.length:=(E9.mp hl).1;have yD:=hLS2 l (M7 hl);have ea:(MS.take (i+1)).flatMap (fun l=>l++[0])=(MS.take i).flatMap (fun l=>l++[0])++l++[0]:=by
    rw [K8 hl,Y4,Q5]
    simp
   generalize (MS.take i).flatMap (fun l=>l++[0])=acc at h9 qU ea;walk_at "rd";refine ⟨N1 h9,⟨p1,a,_,_,rfl,rfl,h9,S9 _ _ fS,by rw [A4,A4];have:=G9 (n:=acc.length+l.length) (by lia);lia,?_⟩⟩;have h10:A0 H9 p1 (.lst (acc.map V.int++l.map V.int)) p1=some (.lst (acc.map V.int++l.map V.int)):=A2;have R5:Same B (A0 H9 p1 (.lst (acc.map V.int++l.map V.int))):=S9.put nB;generalize A0 H9 p1 (.lst (acc.map V.int++l.map V.int))=U4 at h10 R5;walk_at "rd";refine ⟨N1 h10,appOk h10 (by rw [C8,A4,A4];exact G9 (by lia)) ⟨R5.put nB,?_,?_⟩⟩
   .rw [A2,ea,D9,D9];rfl
   .rw [ea,C8,C8,T4];lia
  rintro Y H9 ⟨w,rfl,S9,h9,_⟩;rw [A4,A7,K7] at h9;walk_at "rd";exact q p1 H9 ((S15.trans S6).free G5) (S15.trans (S6.trans (SB.trans S9))) h9
theorem sc_looks:FnScope ["order", "text", "made", "marks"] ["order", "text"] (C3 j7):=J8
abbrev qC:List Str:=["order", "text", "made", "marks"]
theorem vcQ:VS qC j7 "order" 0:=vq
theorem vcR:VS qC j7 "text" 1:=vq
theorem wC:VS qC j7 "made" 2:=vq
theorem vcT:VS qC j7 "marks" 3:=vq
theorem vcU:LS j7 "made":=lq
theorem vcV:LS j7 "marks":=lq
theorem al7(F:FunD K "looks" "looks" j7 f fd)(T:Txt P w K mg C)(G_units:FO P w K mg base 6 "units" ["order", "text"] [] (uN C)):FnOk P w K mg base E8 7 f fd ["order", "text"] (akq C):=by
 refine F.ok sc_looks ?_ ?_
 .rintro _ _ _ _ ⟨x,j,ll,ml,md,z,g,R,L,M,rfl,_⟩;rfl
 .intro cdv A outer s H vs Q E hr h;have C5:=hu_of hr;have hu:=hr.units;refine ⟨_,QSs.out (A6 (E1 (n:=2) sc_looks.nd rfl vcU (F7 G_units (hm hr) (qa_c (vi vcQ) (qa_c (vi vcR) A1))))
   (A6 (oQ (n:=3) sc_looks.nd rfl vcV (R9:CompOk ["order", "text", "made", "marks"] (C3 j7).names _ ["unit"] 1 []) (O5 (K:=K) (vi wC)) (fun _ _ _ _ _=>D7 (n:=0) (show List.Nodup (["unit"]:List Str) by decide +kernel) rfl (Or.inl rfl)) (fun _ _ _ _ _=>b8) (fun _ _ _ _ _=>(qe_ix (K:=K) (qv 0) A5)))
   (eI (qs_if (Y5 (K:=K) (aG (K:=K) (vi vcQ))) (B1 (N3 (qe_m0 (K:=K) N8 PySem.F.slot_list_reverse PySem.F.type_list_reverse ajz (vi vcT)))) M0)
   (B1 (E6 (N2 (qa_c (Y6  (R9:CompOk ["order", "text", "made", "marks"] (C3 j7).names _ ["unit"] 1 []) (O5 (K:=K) (vi wC)) (fun _ _ _ _ _=>D7 (n:=0) (show List.Nodup (["unit"]:List Str) by decide +kernel) rfl (Or.inl rfl)) (fun _ _ _ _ _=>b8) (fun _ _ _ _ _=>(T8 (K:=K) (qv 0) i8 (O7 A5)))) (qa_c (vi vcT) (qa_c (Y6  (R9:CompOk ["order", "text", "made", "marks"] (C3 j7).names _ ["unit"] 1 []) (O5 (K:=K) (vi wC)) (fun _ _ _ _ _=>D7 (n:=0) (show List.Nodup (["unit"]:List Str) by decide +kernel) rfl (Or.inl rfl)) (fun _ _ _ _ _=>b8) (fun _ _ _ _ _=>(qe_ix (K:=K) (qv 0) A5))) (qa_c (vi vcR) A1)))))))))),?_⟩
  obtain ⟨x,j,ll,ml,md,z,g,R,L,M,rfl,hO,hk,hz,hw,hs,q⟩:=h;obtain ⟨b1,b2,b3⟩:=ag1 hs (w:=hasW R "figures") (ks:=E4 R) (y:=z) hz;walk_at "rd";refine ⟨x,j,ll,ml,md,z,g,R,L,M,rfl,hO,hk,hz,hw,hs,fun u H1 nu S1 hU=>?_⟩;generalize N6 (stepY R L M) (cutF (hasW R "figures") (E4 R) z.cps.toList).2=U at *;obtain ⟨es,e1,e2⟩:=hU;have o8:=Paired.length e2;walk_at "rd";refine ⟨⟨_,.of e1⟩,compL (xs:=es.map fun e=>V.ref e.1) [] rfl (fun D i ys H2=>Same H1 H2/\ys=(es.take i).map fun e=>V.ref e.2) (fun D nD=>⟨Same.new nD,rfl⟩) (by rintro D i ys H2 nD _ ⟨S,_⟩;exact .of (S _ _ e1)) ?_ ?_⟩
  .rintro D i y ys H2 nD hi hy ⟨S2,rfl⟩ hD L3;obtain ⟨e,he,rfl⟩:=K1 (f:=fun e:Addr×Addr=>V.ref e.1) hy;obtain ⟨w,rB,Y2⟩:=Paired.at e2 he;have mR:i<es.length:=(E9.mp he).1;walk_at "rd";refine ⟨_,.inr (.of (S2 _ _ Y2.1)),V.ref e.2,E7 (j:=2) rfl,hD,by simp only [A4,G6];exact G9 (by lia),CW.put hi L3 ⟨S2.put nD,?_⟩⟩;rw [K8 he,D9];rfl
  rintro D ys H2 nD ⟨S2,rfl⟩ hD _;rw [A4,K7] at hD;have qP:=adD e2;refine aI (fun Y H'=>Y=[some (.ref x),some (.str z),some (.ref u),some (.ref D)]/\Same H1 H'/\∃ rC:List Addr,H' D=some (.lst (rC.map V.ref))/\Paired (fun c (x:List Int)=>H1 c=some (.tup (x.map V.int))) rC ((if hasW R "behind"=true then U.reverse else U).map fun u=>u.2.2.1)) ?_ ?_
  .obtain ⟨dx,ho⟩:=hO.ob;walk_at "rd";refine ⟨_,_,_,S2 _ _ (S1 _ _ ho),T.cl,T.na_behind,_,ad6 _ _ _ _ _ _,_,rfl,?_⟩
   by_cases hb:hasW R "behind"=true
   .rw [if_pos hb,if_pos hb];refine ⟨N1 hD,D,_,rfl,rfl,hD,S2.put nD,(es.map (·.2)).reverse,?_,?_⟩
    .rw [A2,List.map_reverse,V8];rfl
    .rw [List.map_reverse];exact uR qP
   .rw [if_neg hb,if_neg hb];refine ⟨S2,es.map (·.2),?_,qP⟩;rw [hD,V8];rfl
  rintro Y H3 ⟨rfl,S3,rC,hD3,hP3⟩;clear hD S2 qP;have iT:=S3 _ _ e1;walk_at "rd";refine ⟨⟨_,.of iT⟩,compL (xs:=es.map fun e=>V.ref e.1) [] rfl (fun D i ys H2=>Same H3 H2/\∃ as:List Addr,ys=as.map V.ref/\Paired (fun c (x:List Int)=>H2 c=some (.tup (x.map V.int))/\H3 c=none/\c≠D) as ((U.take i).map fun u=>[u.1,u.2.1])) (fun D nD=>⟨Same.new nD,[],rfl,.nil⟩) (by rintro D i ys H2 nD _ ⟨S,_⟩;exact .of (S _ _ iT)) ?_ ?_⟩
  .rintro D i y ys H2 nD2 hi hy ⟨S2,as,rfl,hP⟩ hD L3;obtain ⟨e,he,rfl⟩:=K1 (f:=fun e:Addr×Addr=>V.ref e.1) hy;obtain ⟨w,rB,Y2⟩:=Paired.at e2 he;have mR:i<es.length:=(E9.mp he).1;have fS:=Paired.length hP;rw [A4,G6] at fS;walk_at "rd";refine rSlR.t (.of (S2 _ _ (S3 _ _ Y2.1))) (by simp [HT.sIx]) fun p np=>?_
   rw [show cutV [V.int w.1,V.int w.2.1,V.ref e.2,V.int w.2.2.2] none (some 2)=[w.1,w.2.1].map V.int from kN _ 2];have S4:Same H2 (A0 H2 p (.tup ([w.1,w.2.1].map V.int))):=Same.new np;have k5:A0 H2 p (.tup ([w.1,w.2.1].map V.int)) p=some (.tup ([w.1,w.2.1].map V.int)):=A2;have hpD:p≠D:=fun e=>by rw [e,hD] at np;cases np
   generalize A0 H2 p (.tup ([w.1,w.2.1].map V.int))=H4 at S4 k5;refine ⟨S4 _ _ hD,by rw [A4];exact G9 (by lia),CW.put hi L3 ⟨(S2.trans S4).put nD2,as++[p],by rw [D9];rfl,?_⟩⟩;rw [K8 rB,D9];exact Paired.snoc (O4 hP fun c x ⟨h1,h2,h3⟩=>⟨by rw [A3 h3];exact S4 _ _ h1,h2,h3⟩) ⟨by rw [A3 hpD];exact k5,S2.free np,hpD⟩
  rintro D4 ys H4 nD4 ⟨S4,as1,rfl,hP4⟩ hD4 _;rw [A4,o8,K7] at hP4;have hi4:=S4 _ _ iT;refine ⟨⟨_,.of hi4⟩,compL (xs:=es.map fun e=>V.ref e.1) [] rfl (fun D i ys H2=>Same H4 H2/\ys=((U.take i).map fun u=>u.2.2.2).map V.int) (fun D nD=>⟨Same.new nD,rfl⟩) (by rintro D i ys H2 nD _ ⟨S,_⟩;exact .of (S _ _ hi4)) ?_ ?_⟩
  .rintro D i y ys H2 nD2 hi hy ⟨S2,rfl⟩ hD L3;obtain ⟨e,he,rfl⟩:=K1 (f:=fun e:Addr×Addr=>V.ref e.1) hy;obtain ⟨w,rB,Y2⟩:=Paired.at e2 he;have mR:i<es.length:=(E9.mp he).1;walk_at "rd";refine ⟨_,.inr (.of (S2 _ _ (S4 _ _ (S3 _ _ Y2.1)))),V.int w.2.2.2,E7 (j:=3) rfl,hD,by simp only [A4,G6];exact G9 (by lia),CW.put hi L3 ⟨S2.put nD2,?_⟩⟩;rw [K8 rB,D9,D9];rfl
  rintro D5 ys H5 nD5 ⟨S5,rfl⟩ hD5 _;rw [A4,o8,K7] at hD5;refine ⟨by decide,fun p np=>?_⟩;have S6:Same H5 (A0 H5 p (.lst [V.ref D4,V.ref D,V.ref D5,V.str z])):=Same.new np;have yT:=S4.trans (S5.trans S6);refine q p _ ((S1.trans (S3.trans (S4.trans S5))).free np) (S1.trans (S3.trans yT)) ⟨_,A2,.cons ?_ (.cons ?_ (.cons ?_ (.cons rfl .nil)))⟩
  .exact ⟨D4,as1,rfl,(S5.trans S6) _ _ hD4,O4 hP4 fun c x h=>(S5.trans S6) _ _ h.1⟩
  .exact ⟨D,rC,rfl,yT _ _ hD3,O4 hP3 fun c x h=>yT _ _ (S3 _ _ h)⟩
  .exact ⟨D5,rfl,S6 _ _ hD5⟩
theorem sc_compare:FnScope ["order", "one", "other", "strength", "ours", "theirs", "level"] ["order", "one", "other", "strength"] (C3 W6):=J8
abbrev eT:List Str:=["order", "one", "other", "strength", "ours", "theirs", "level"]
theorem vcW:VS eT W6 "order" 0:=vq
theorem vcX:VS eT W6 "one" 1:=vq
theorem vcY:VS eT W6 "other" 2:=vq
theorem vcZ:VS eT W6 "strength" 3:=vq
theorem vc0:VS eT W6 "ours" 4:=vq
theorem vc1:VS eT W6 "theirs" 5:=vq
theorem qD:VS eT W6 "level" 6:=vq
theorem vc3:LS W6 "ours":=lq
theorem vc4:LS W6 "theirs":=lq
theorem vc5:LS W6 "level":=lq
theorem ae2(F:FunD K "compare" "compare" W6 f fd)(T:Txt P w K mg C)(G_looks:FO P w K mg base 7 "looks" ["order", "text"] [] (akq C)):FnOk P w K mg base E8 8 f fd ["order", "one", "other", "strength"] (pR C):=by
 refine F.ok sc_compare ?_ ?_
 .rintro _ _ _ _ ⟨x,j,ll,ml,md,z,z',n,g,R,L,M,rfl,_⟩;rfl
 .intro cdv A outer s H vs Q E hr h;have C5:=hu_of hr;have hu:=hr.units;refine ⟨_,QSs.out (A6 (E1 (n:=4) sc_compare.nd rfl vc3 (F7 G_looks (hm hr) (qa_c (vi vcW) (qa_c (vi vcX) A1))))
   (A6 (E1 (n:=5) sc_compare.nd rfl vc4 (F7 G_looks (hm hr) (qa_c (vi vcW) (qa_c (vi vcY) A1))))
   (A6 (O0 PassesOwn.never (qi_r1 T.b_range (qa_c (vi vcZ) A1)) (D7 (n:=6) sc_compare.nd rfl vc5 (.inl rfl)) (B1 (qs_if (K2 (q_ne (K:=K) hu) (qe_ix (K:=K) (vi vc0) (vi qD)) (qe_ix (K:=K) (vi vc1) (vi qD))) (B1 (E6 (sZ (K2 (q_ltK hu (K:=K)) (qe_ix (K:=K) (vi vc0) (vi qD)) (qe_ix (K:=K) (vi vc1) (vi qD))) (qe_un q_neg A5) A5))) M0)))
   (B1 (E6 A5))))),?_⟩
  obtain ⟨x,j,ll,ml,md,z,z',n,g,R,L,M,rfl,hn,hO,hk,hz,xT,hw,xQ,hs,q⟩:=h;walk_at "rd";refine ⟨x,j,ll,ml,md,z,g,R,L,M,rfl,hO,hk,hz,hw,hs,fun l H1 nl S1 hl=>?_⟩;refine ⟨x,j,ll,ml,md,z',g,R,L,M,rfl,hO.same S1,hk,xT,xQ,hs,fun l' H2 nl' S2 hl'=>?_⟩;have hkd:=aha (hasW R "behind") (hasW R "behind") (N6 (stepY R L M) (cutF (hasW R "figures") (E4 R) z.cps.toList).2) (N6 (stepY R L M) (cutF (hasW R "figures") (E4 R) z'.cps.toList).2) z z';have f7:=hl.same S2;have A7:(aO (hasW R "behind") (N6 (stepY R L M) (cutF (hasW R "figures") (E4 R) z.cps.toList).2) z).length=4:=rfl;have hlen':(aO (hasW R "behind") (N6 (stepY R L M) (cutF (hasW R "figures") (E4 R) z'.cps.toList).2) z').length=4:=rfl;unfold aP at q;generalize aO (hasW R "behind") (N6 (stepY R L M) (cutF (hasW R "figures") (E4 R) z.cps.toList).2) z=ds at *;generalize aO (hasW R "behind") (N6 (stepY R L M) (cutF (hasW R "figures") (E4 R) z'.cps.toList).2) z'=ds' at *;obtain ⟨vs,v1,v2⟩:=f7;obtain ⟨vs',w1,w2⟩:=hl';have z1:=Paired.length v2;have z2:=Paired.length w2;refine ⟨by lia,by lia,forRs (fun i Y H'=>(∃ u:Option V,Y=[some (.ref x),some (.str z),some (.str z'),some (.int n),some (.ref l),some (.ref l'),u])/\H'=H2/\∀ k<i,ds[k]?=ds'[k]?) ⟨⟨none,rfl⟩,rfl,by simp⟩ ?_ ?_⟩
  .rintro P' Bk hP i Y H' hi ⟨⟨u,rfl⟩,rfl,cY⟩;have K6:i<n:=by simpa using hi
   have a1:vs[i]?=some vs[i]:=F8 (by lia);have a2:vs'[i]?=some vs'[i]:=F8 (by lia);obtain ⟨d,hd,ld⟩:=Paired.at v2 a1;obtain ⟨d',eW,ld'⟩:=Paired.at w2 a2;have kd:=hkd i d d' hd eW;generalize vs[i]=v at *;generalize vs'[i]=v' at *;have i1:L0 vs (0+(i:Int))=some v:=by rw [Int.zero_add];exact E7 a1
   have i2:L0 vs' (0+(i:Int))=some v':=by rw [Int.zero_add];exact E7 a2
   walk_at "rd";refine ⟨_,.inl (.of v1),_,i1,_,.inl (.of w1),_,i2,LvAt.ne ld ld' kd ⟨_,rfl,?_⟩⟩
   by_cases nA:d=d'
   .rw [if_neg (by simp [nA])];refine hP _ _ _ ⟨⟨_,rfl⟩,rfl,fun k hk=>?_⟩
    by_cases hki:k=i
    .rw [hki,hd,eW,nA]
    .exact cY k (by lia)
   .rw [if_pos (by simp [nA])];have hq:=q H' (S1.trans S2);rw [al2 K6 hd eW cY nA] at hq;unfold cmpD at hq;rw [if_neg nA] at hq;refine ⟨_,.inl (.of v1),_,i1,_,.inl (.of w1),_,i2,LvAt.lt ld ld' kd ⟨_,rfl,?_⟩⟩
    by_cases C4:d.lt d'=true
    .rw [if_pos C4] at hq ⊢
     exact hq
    .rw [if_neg C4] at hq ⊢
     exact hq
  rintro Y H' ⟨⟨u,rfl⟩,rfl,cY⟩;walk_at "rd"
  have:=q H' (S1.trans S2)
  rw [akr (by simpa using cY)] at this;exact this
theorem ahr:FnScope ["_law_script", "_law_k"] ["_law_script", "_law_k"] (C3 lK):=J8
abbrev ae3:List Str:=["_law_script", "_law_k"]
theorem vc6:VS ae3 lK "_law_script" 0:=vq
theorem vc7:VS ae3 lK "_law_k" 1:=vq
theorem ahs(F:FunD K "_law_number" "_law_number" lK f fd)(T:Txt P w K mg C):FnOk P w K mg base E8 1 f fd ["_law_script", "_law_k"] (amB K):=by
 refine F.ok ahr ?_ ?_
 .rintro _ _ _ _ ⟨a,ns,k,rfl,_⟩;rfl
 .intro cdv A outer s H vs Q E hr h;have C5:=hu_of hr;have hu:=hr.units;refine ⟨_,QSs.out (A6 (qs_if (K2 q_lt (vi vc7) (qe_cB (q_len (K:=K)) T.b_len i6 (qa_c (vi vc6) A1))) (B1 (E6 (qe_op q_mod (qe_op q_mul (qe_ix (K:=K) (vi vc6) (vi vc7)) A5) A5))) M0)
   (B1 (E6 A5))),?_⟩
  obtain ⟨a,ns,k,rfl,hS,hk,q⟩:=h;walk_at "rd";refine ⟨ns.length,.inl ⟨_,hS,by rw [A4]⟩,iteD (fun e=>⟨_,.inl hS,V.int (ns.getD k.toNat 0),?_,?_⟩) fun e=>?_⟩
  .obtain ⟨j,rfl⟩:∃ j:Nat,k=(j:Int):=⟨k.toNat,by lia⟩
   have hl:j<ns.length:=by lia
   refine E7 ?_;rw [L7,F8 hl];show some (V.int ns[j])=_;rw [P0,Int.toNat_natCast,F8 hl];rfl
  .walk_at "rd";unfold numF cellF at q;rw [if_pos e] at q;exact ⟨.inr ⟨by lia,by lia⟩,q⟩
  .unfold numF cellF at q;rw [if_neg e] at q;exact q
theorem sc_l_sign:FnScope ["_law_number_here", "_law_k", "_law_figures", "_law_signs", "_law_step"] ["_law_number_here", "_law_k", "_law_figures"] (C3 x3):=J8
abbrev lT:List Str:=["_law_number_here", "_law_k", "_law_figures", "_law_signs", "_law_step"]
theorem vc8:VS lT x3 "_law_number_here" 0:=vq
theorem vc9:VS lT x3 "_law_k" 1:=vq
theorem vda:VS lT x3 "_law_figures" 2:=vq
theorem wD:VS lT x3 "_law_signs" 3:=vq
theorem vdc:VS lT x3 "_law_step" 4:=vq
theorem vdd:LS x3 "_law_signs":=lq
theorem vde:LS x3 "_law_step":=lq
theorem akB(F:FunD K "_law_sign" "_law_sign" x3 f fd)(T:Txt P w K mg C):FnOk P w K mg base E8 1 f fd ["_law_number_here", "_law_k", "_law_figures"] akn:=by
 refine F.ok sc_l_sign ?_ ?_
 .rintro _ _ _ _ ⟨n,k,w,rfl,_⟩;rfl
 .intro cdv A outer s H vs Q E hr h;have C5:=hu_of hr;have hu:=hr.units;refine ⟨_,QSs.out (A6 (E1 (n:=3) sc_l_sign.nd rfl vdd L1)
   (eI (qs_if (tD (Y5 (K:=K) (vi vda))) (B1 (E1 (n:=3) sc_l_sign.nd rfl vdd (qe_op (q_add (K:=K)) (vi wD) L1))) M0)
   (A6 (E1 (n:=4) sc_l_sign.nd rfl vde (qe_ix (K:=K) (N2 (qa_c A5 (qa_c A5 (qa_c A5 (qa_c A5 (qa_c A5 (qa_c A5 (qa_c A5 (qa_c A5 (qa_c A5 (qa_c A5 (qa_c A5 (qa_c A5 A1))))))))))))) (qe_op q_mod (qe_op m5 (vi vc8) A5) A5)))
   (B1 (E6 (qe_ix (K:=K) (vi wD) (qe_op q_mod (qe_op (q_add (K:=K)) (vi vc8) (qe_op q_mul (vi vc9) (vi vdc))) (qe_cB (q_len (K:=K)) T.b_len i6 (qa_c (vi wD) A1))))))))),?_⟩
  obtain ⟨n,k,w,rfl,hk,q⟩:=h;walk_at "rd";refine aI (fun Y H2=>∃ z:Str,Y=[some (.int n),some (.int k),some (.bl w),some (.str z),none]/\H2=H/\z.cps.toList=listF (!w)) ?_ ?_
  .walk_at "rd"
   cases w with
   | true=>exact SA_eq
   | false=>exact ⟨by decide,SB_eq⟩
  rintro Y H2 ⟨z,rfl,rfl,hz⟩;have X6:=aoe n;have P5:(z.length:Int)=lenF (!w):=by rw [<- tV,<- hz];simp [Str.length]
  have hp:=tX (!w);have Q1:=(amA w n k).1;rw [<- hz,<- P5] at Q1;have hsz:z.length<=sizeLine:=i7 (by lia);walk_at "rd";refine ⟨by decide,fun p np=>⟨_,.inl (.of A2),V.int (e8 n),(uY n).1,?_⟩⟩;walk_at "rd";exact ⟨.inr ⟨by lia,by lia⟩,hsz,by lia,hsz,_,Q1,q _ (Same.new np)⟩
theorem sc_l_rules:FnScope ["_law_number_here", "_law_flags", "_law_pool", "_law_two", "_law_more", "_law_k", "_law_tail", "_law_row", "_law_at", "_law_rules_here", "_law_known"] ["_law_number_here"] (C3 O8):=J8
abbrev o0:List Str:=["_law_number_here", "_law_flags", "_law_pool", "_law_two", "_law_more", "_law_k", "_law_tail", "_law_row", "_law_at", "_law_rules_here", "_law_known"]
theorem vdf:VS o0 O8 "_law_number_here" 0:=vq
theorem eU:VS o0 O8 "_law_flags" 1:=vq
theorem N4:VS o0 O8 "_law_pool" 2:=vq
theorem vdi:VS o0 O8 "_law_two" 3:=vq
theorem wE:VS o0 O8 "_law_more" 4:=vq
theorem vdk:VS o0 O8 "_law_k" 5:=vq
theorem vdl:VS o0 O8 "_law_tail" 6:=vq
theorem wF:VS o0 O8 "_law_row" 7:=vq
theorem vdn:VS o0 O8 "_law_at" 8:=vq
theorem iK:VS o0 O8 "_law_rules_here" 9:=vq
theorem wG:VS o0 O8 "_law_known" 10:=vq
theorem vdq:LS O8 "_law_flags":=lq
theorem vdr:LS O8 "_law_pool":=lq
theorem vds:LS O8 "_law_two":=lq
theorem vdt:LS O8 "_law_more":=lq
theorem vdu:LS O8 "_law_k":=lq
theorem vdv:LS O8 "_law_tail":=lq
theorem vdw:LS O8 "_law_row":=lq
theorem vdx:LS O8 "_law_at":=lq
theorem vdy:LS O8 "_law_rules_here":=lq
theorem vdz:LS O8 "_law_known":=lq
theorem aiK(F:FunD K "_law_rules" "_law_rules" O8 f fd)(T:Txt P w K mg C)(G_l_sign:FO P w K mg base 1 "_law_sign" ["_law_number_here", "_law_k", "_law_figures"] [] akn):FnOk P w K mg base E8 2 f fd ["_law_number_here"] amC:=by
 refine F.ok sc_l_rules ?_ ?_
 .rintro _ _ _ _ ⟨n,rfl,_⟩;rfl
 .intro cdv A outer s H vs Q E hr h;have C5:=hu_of hr;have hu:=hr.units;refine ⟨_,QSs.out (A6 (E1 (n:=1) sc_l_rules.nd rfl vdq (qe_op m5 (vi vdf) A5))
   (A6 (oQ (n:=2) sc_l_rules.nd rfl vdr (R9:CompOk ["_law_number_here", "_law_flags", "_law_pool", "_law_two", "_law_more", "_law_k", "_law_tail", "_law_row", "_law_at", "_law_rules_here", "_law_known"] (C3 O8).names _ ["_law_k", "_law_number_here", "_law_flags"] 1 [0,1]) (qi_r1 T.b_range (qa_c A5 A1)) (fun _ _ _ _ _=>D7 (n:=0) (show List.Nodup (["_law_k", "_law_number_here", "_law_flags"]:List Str) by decide +kernel) rfl (Or.inl rfl)) (fun _ _ _ _ _=>b8) (fun _ _ _ _ _=>(F7 G_l_sign (hm hr) (qa_c (qv 1) (qa_c (qv 0) (qa_c (oO (q_eq (K:=K) hu) (qe_op q_mod (qv 2) A5) A5) A1))))))
   (A6 (E1 (n:=3) sc_l_rules.nd rfl vds (qe_op (q_add (K:=K)) (qe_ix (K:=K) (vi N4) A5) (qe_ix (K:=K) (vi N4) (qe_op q_mod (qe_op m5 (vi eU) A5) A5))))
   (A6 (E1 (n:=4) sc_l_rules.nd rfl vdt (qe_op m5 (vi eU) A5))
   (A6 (O0 PassesOwn.never (O5 (K:=K) (N2 (qa_c A5 (qa_c A5 (qa_c A5 A1))))) (D7 (n:=5) sc_l_rules.nd rfl vdu (.inl rfl)) (A6 (E1 (n:=6) sc_l_rules.nd rfl vdv (qe_ix (K:=K) (vi N4) (qe_op q_mod (qe_op m5 (vi wE) A5) A5)))
   (A6 (amj (qe_op (q_add (K:=K)) (qe_ix (K:=K) (vi N4) (vi vdk)) (qe_op aqR (vi vdl) (qe_cT amv T.b_int amh (qa_c (oO (q_eq (K:=K) hu) (qe_op q_mod (vi wE) A5) A5) A1)))) (anY (vi N4) (vi vdk)))
   (B1 (E1 (n:=4) sc_l_rules.nd rfl vdt (qe_op m5 (vi wE) A5))))))
   (A6 (E1 (n:=7) sc_l_rules.nd rfl vdw (N2 (qa_c (qe_ix (K:=K) (vi N4) A5) (qa_c (qe_ix (K:=K) (vi N4) A5) (qa_c (qe_ix (K:=K) (vi N4) A5) (qa_c (qe_ix (K:=K) (vi N4) A5) A1))))))
   (A6 (E1 (n:=8) sc_l_rules.nd rfl vdx (qe_op q_mod (qe_op m5 (vi eU) A5) A5))
   (A6 (E1 (n:=7) sc_l_rules.nd rfl vdw (qe_op (q_add (K:=K)) (qe_op (q_add (K:=K)) (T8 (K:=K) (vi wF) i8 (O7 (vi vdn))) (N2 (qa_c (vi vdi) A1))) (T8 (K:=K) (vi wF) (O7 (vi vdn)) i8)))
   (A6 (E1 (n:=9) sc_l_rules.nd rfl vdy (N2 (qa_c (qe_op (q_add (K:=K)) (O6 (qa_c L1 A1)) (qe_cT (tH (K:=K)) T.b_tuple sV (qa_c (vi wF) A1))) (qa_c (O6 (qa_c L1 (qa_c (qe_ix (K:=K) (vi N4) A5) (qa_c (qe_ix (K:=K) (vi N4) A5) A1)))) (qa_c (O6 (qa_c L1 (qa_c (qe_ix (K:=K) (vi N4) A5) (qa_c (qe_ix (K:=K) (vi N4) A5) (qa_c (qe_ix (K:=K) (vi N4) A5) A1))))) A1)))))
   (A6 (N3 (qe_mB (K:=K) N8 T7 T6 T9 (vi iK) (qa_c (O6 (qa_c L1 (qa_c (qe_ix (K:=K) (vi N4) A5) (qa_c (qe_ix (K:=K) (vi N4) A5) (qa_c (qe_ix (K:=K) (N2 (qa_c (qe_ix (K:=K) (vi N4) A5) (qa_c (qe_ix (K:=K) (vi N4) A5) A1))) (qe_op q_mod (qe_op m5 (vi eU) A5) A5)) A1))))) A1)))
   (A6 (N3 (qe_mB (K:=K) N8 T7 T6 T9 (vi iK) (qa_c (O6 (qa_c L1 (qa_c (qe_ix (K:=K) (vi N4) A5) A1))) A1)))
   (A6 (E1 (n:=10) sc_l_rules.nd rfl vdz (N2 (qa_c (qe_ix (K:=K) (vi N4) A5) (qa_c (qe_ix (K:=K) (vi N4) A5) (qa_c (qe_ix (K:=K) (vi N4) A5) (qa_c (qe_ix (K:=K) (vi N4) A5) (qa_c (qe_ix (K:=K) (vi N4) A5) (qa_c (qe_ix (K:=K) (vi N4) A5) (qa_c (qe_ix (K:=K) (vi N4) A5) (qa_c (vi vdi) (qa_c (qe_ix (K:=K) (vi N4) A5) (qa_c (qe_ix (K:=K) (vi N4) A5) (qa_c (qe_ix (K:=K) (vi N4) A5) A1)))))))))))))
   (eI (qs_if (K2 (q_eq (K:=K) hu) (qe_op q_mod (vi eU) A5) A5) (A6 (N3 (qe_mB (K:=K) N8 T7 T6 T9 (vi iK) (qa_c (O6 (qa_c L1 A1)) A1)))
   (B1 (N3 (qe_mB (K:=K) N8 jR jQ oR (vi wG) (qa_c (N2 (qa_c L1 (qa_c L1 (qa_c L1 (qa_c L1 A1))))) A1))))) M0)
   (eI (qs_if (K2 (q_eq (K:=K) hu) (qe_op q_mod (qe_op m5 (vi eU) A5) A5) A5) (A6 (N3 (qe_mB (K:=K) N8 T7 T6 T9 (vi iK) (qa_c (O6 (qa_c L1 A1)) A1)))
   (B1 (N3 (qe_mB (K:=K) N8 T7 T6 T9 (vi wG) (qa_c L1 A1))))) M0)
   (eI (qs_if (K2 (q_eq (K:=K) hu) (qe_op q_mod (qe_op m5 (vi eU) A5) A5) A5) (B1 (N3 (qe_mB (K:=K) N8 T7 T6 T9 (vi iK) (qa_c (O6 (qa_c L1 A1)) A1)))) M0)
   (B1 (E6 (O6 (qa_c (vi iK) (qa_c (vi wG) A1)))))))))))))))))))),?_⟩
  obtain ⟨n,rfl,q⟩:=h;walk_at "rd";refine ⟨by decide,by decide,compR [some (.int n),some (.int (n / 1116))] rfl (fun D j ys H4=>ys=(P6 j).map (fun k:Nat=>V.str (one (x4 (decide (n / 1116 % 2=1)) n (k:Int))))/\Same H H4) (fun D nD=>⟨rfl,Same.new nD⟩) ?_ ?_⟩
  .rintro D i ys H4 nD hi ⟨rfl,S⟩ hD hy;walk_at "rd";refine ⟨n,_,_,rfl,by lia,fun H5 S5=>⟨S5 _ _ hD,G9 (by lia),CW.put hi hy ⟨?_,(S.trans S5).put nD⟩⟩⟩;rw [List.range_succ,D9,Int.zero_add];rfl
  generalize hw:decide (n / 1116 % 2=1)=w;obtain ⟨c,hc⟩:∃ c:Nat->Nat,c=fun k:Nat=>x4 w n (k:Int):=⟨_,rfl⟩
  have inj:∀ k<10,∀ l<10,c k=c l->k=l:=fun k hk l hl e=>by
   rw [hc] at e
   have:=aof (w:=w) (n:=n) (k:=k) (l:=l) (by lia) (by lia) (by lia) (by lia) e
   lia
  have ok:∀ k,j8 w (c k):=fun k=>by rw [hc];exact arb w n k
  rintro D ys H2 nD ⟨rfl,S2⟩ hD hy;clear hy
  replace hD:H2 D=some (.lst (e9 fun k=>one (c k))):=by rw [hD,hc];rfl
  clear hc;generalize n / 1116=fl at hw;obtain ⟨j,hj,hj4⟩:∃ j:Nat,fl / 8 % 4=(j:Int)/\j<4:=⟨(fl / 8 % 4).toNat,by lia,by lia⟩
  walk_at "rd";refine ⟨_,.inl (.of hD),_,E7 (j:=0) (iD _ (by decide)),_,.inl (.of hD),V.str (one (c j)),by rw [hj];exact E7 (iD _ (by lia)),?_⟩;walk_at "rd";refine ⟨by show 1+1<=sizeLine;decide,by decide,fun p np=>?_⟩;rw [show one (c 0)++one (c j)=two (c 0) (c j) from rfl];have npD:D≠p:=fun e=>by rw [<- e,hD] at np;cases np
  have S3:Same H (A0 H2 p (.lst [V.int 4,V.int 8,V.int 9])):=S2.trans (Same.new np);have p5:A0 H2 p (.lst [V.int 4,V.int 8,V.int 9]) p=some (.lst [V.int 4,V.int 8,V.int 9]):=A2;have hD3:=D0 (u:=HO.lst [V.int 4,V.int 8,V.int 9]) hD np;generalize A0 H2 p (.lst [V.int 4,V.int 8,V.int 9])=H3 at S3 p5 hD3;clear S2 hD np;refine ⟨⟨_,.of p5⟩,forL (xs:=[V.int 4,V.int 8,V.int 9]) (fun i Y H4=>∃ (m:Int) (u5 u6:Option V) (pc:Nat->Str),Y=[some (.int n),some (.int fl),some (.ref D),some (.str (two (c 0) (c j))),some (.int m),u5,u6,none,none,none,none]/\Same H H4/\H4 p=some (.lst [V.int 4,V.int 8,V.int 9])/\H4 D=some (.lst (e9 pc))/\cP c i pc/\∀ k<4,pc k=one (c k))
   ⟨_,_,_,_,rfl,S3,p5,hD3,fun k=>.inl rfl,fun _ _=>rfl⟩ (by rintro i Y H4 _ ⟨_,_,_,_,_,_,hp,_⟩;exact .of hp) ?_ ?_⟩
  .rintro i x Y H4 hx ⟨m,u5,u6,pc,rfl,S4,k5,hD4,P,P4⟩;obtain ⟨k,hk,rfl⟩:∃ k:Nat,([4,8,9]:List Nat)[i]?=some k/\x=V.int k:=by
    rw [show [V.int 4,V.int 8,V.int 9]=([4,8,9]:List Nat).map (fun k:Nat=>V.int (k:Int)) from rfl,L7] at hx;obtain ⟨k,h1,h2⟩:=jY.mp hx;exact ⟨k,h1,h2.symm⟩
   have yU:4<=k/\k<10:=(show ∀ k∈([4,8,9]:List Nat),4<=k/\k<10 by decide) k (M7 hk);obtain ⟨t,ht,rD⟩:∃ t:Nat,m / 27 % 4=(t:Int)/\t<4:=⟨(m / 27 % 4).toNat,by lia,by lia⟩
   obtain ⟨y3,PN⟩:=P.step hk (decide (m % 3=1)) rD;walk_at "rd";refine ⟨_,.inl (.of hD4),V.str (one (c t)),by rw [ht,<- P4 t rD];exact E7 (iD _ (by lia)),?_⟩;refine ⟨_,.inl (.of hD4),V.str (one (c k)),by rw [<- y3];exact E7 (iD _ (by lia)),?_⟩;refine ⟨_,_,rfl,rfl,(mulB _ _).1,?_⟩;rw [(mulB _ _).2];generalize decide (m % 3=1)=b at PN;have ed:one (c k)++(if b=true then one (c t) else Str.empty)=(if b=true then two (c k) (c t) else one (c k)):=by cases b <;> rfl
   have hix:X3 (e9 pc).length (k:Int)=some k:=by
    unfold e9 X3;rw [A4,bL,if_pos (by lia),if_pos (by lia)];rfl
   have hsz:(one (c k)).length+(if b=true then one (c t) else Str.empty).length<=sizeLine:=by
    cases b
    .show 1+0<=sizeLine;decide
    .show 1+1<=sizeLine;decide
   refine ⟨hsz,_,hD4,k,hix,?_⟩;rw [ed,aoh pc yU.2];refine ⟨S4.put nD,by rw [A3 npD.symm];exact k5,_,A2,PN,fun k' fE=>?_⟩;rw [if_neg (by lia)];exact P4 k' fE
  rintro Y H4 ⟨m,u5,u6,pc,rfl,S4,k5,hD4,P,P4⟩;clear k5 npD p5 hD3 S3;have k6:∀ k,k<4->(e9 pc)[k]?=some (V.str (one (c k))):=fun k hk=>by rw [<- P4 k hk];exact iD _ (by lia)
  have atP:∀ k,k<10->(e9 pc)[k]?=some (V.str (pc k)):=fun k hk=>iD _ hk
  obtain ⟨t,ht,rD⟩:∃ t:Nat,fl / 32 % 5=(t:Int)/\t<=4:=⟨(fl / 32 % 5).toNat,by lia,by lia⟩
  walk_at "rd";refine ⟨_,.inl (.of hD4),_,E7 (j:=0) (k6 0 (by decide)),_,.inl (.of hD4),_,E7 (j:=1) (k6 1 (by decide)),_,.inl (.of hD4),_,E7 (j:=2) (k6 2 (by decide)),_,.inl (.of hD4),_,E7 (j:=3) (k6 3 (by decide)),?_⟩;refine ⟨by decide,fun b nb=>?_⟩;have rE:A0 H4 b (HO.lst [V.str (one (c 0)),V.str (one (c 1)),V.str (one (c 2)),V.str (one (c 3))]) b=some (.lst ((R3 c).map V.str)):=A2;have S5:Same H4 (A0 H4 b (HO.lst [V.str (one (c 0)),V.str (one (c 1)),V.str (one (c 2)),V.str (one (c 3))])):=Same.new nb;generalize A0 H4 b (HO.lst [V.str (one (c 0)),V.str (one (c 1)),V.str (one (c 2)),V.str (one (c 3))])=H5 at rE S5;rw [ht];refine rSlR.l (.of rE) fun s1 ns1=>⟨by decide,fun s2 jB=>?_⟩
  rw [kN,<- dO] at jB ⊢
  walk_at "rd";refine rAddR.l (D0 A2 jB) A2 (by rw [A4,G6,T4];exact i7 (by lia)) fun s3 ns3=>?_
  have S6:Same H5 (A0 (A0 (A0 H5 s1 (.lst (((R3 c).take t).map V.str))) s2 (.lst [V.str (two (c 0) (c j))])) s3 (.lst (((R3 c).take t).map V.str++[V.str (two (c 0) (c j))]))):=((Same.new ns1).trans (Same.new jB)).trans (Same.new ns3);have yV:A0 (A0 (A0 H5 s1 (.lst (((R3 c).take t).map V.str))) s2 (.lst [V.str (two (c 0) (c j))])) s3 (.lst (((R3 c).take t).map V.str++[V.str (two (c 0) (c j))])) s3=some (.lst (((R3 c).take t++[two (c 0) (c j)]).map V.str)):=by rw [A2,D9];rfl
  generalize A0 (A0 (A0 H5 s1 (.lst (((R3 c).take t).map V.str))) s2 (.lst [V.str (two (c 0) (c j))])) s3 (.lst (((R3 c).take t).map V.str++[V.str (two (c 0) (c j))]))=H6 at S6 yV;clear ns1 jB ns3;refine rSlR.l (.of (S6 _ _ rE)) fun s4 yW=>?_
  rw [eJ,<- List.map_drop];walk_at "rd";refine rAddR.l (D0 yV yW) A2 (by simp only [A4,C8,G6,t8,T4];exact i7 (by show min t 4+1+(4-t)<=1000000;lia)) fun s5 ns5=>⟨by decide,fun p1 G5=>?_⟩
  have S7:Same H6 (A0 (A0 (A0 H6 s4 (.lst (((R3 c).drop t).map V.str))) s5 (.lst (((R3 c).take t++[two (c 0) (c j)]).map V.str++((R3 c).drop t).map V.str))) p1 (.tup [V.str (Str.ofString "row")])):=((Same.new yW).trans (Same.new ns5)).trans (Same.new G5);have yX:A0 (A0 (A0 H6 s4 (.lst (((R3 c).drop t).map V.str))) s5 (.lst (((R3 c).take t++[two (c 0) (c j)]).map V.str++((R3 c).drop t).map V.str))) p1 (.tup [V.str (Str.ofString "row")]) s5=some (.lst ((rowS c j t).map V.str)):=D0 (by rw [A2,<- D9];rfl) G5;have fU:A0 (A0 (A0 H6 s4 (.lst (((R3 c).drop t).map V.str))) s5 (.lst (((R3 c).take t++[two (c 0) (c j)]).map V.str++((R3 c).drop t).map V.str))) p1 (.tup [V.str (Str.ofString "row")]) p1=some (.tup [V.str (Str.ofString "row")]):=A2;generalize A0 (A0 (A0 H6 s4 (.lst (((R3 c).drop t).map V.str))) s5 (.lst (((R3 c).take t++[two (c 0) (c j)]).map V.str++((R3 c).drop t).map V.str))) p1 (.tup [V.str (Str.ofString "row")])=H7 at S7 yX fU;clear yW ns5 G5 yV;have S47:=S5.trans (S6.trans S7);clear S5 S6 S7 rE nb;have hq4:∃ z,L0 [V.str (pc 4),V.str (one (c 1))] (fl / 160 % 2)=some (V.str z)/\(z=pc 4\/z=one (c 1)):=by
   rcases (by lia:fl / 160 % 2=0\/fl / 160 % 2=1) with e | e
   .rw [e];exact ⟨_,rfl,.inl rfl⟩
   .rw [e];exact ⟨_,rfl,.inr rfl⟩
  obtain ⟨qz,hqa,hqz⟩:=hq4;have sh:=ard ok inj P hj4 rD hqz;have qZ:(rowS c j t).length=5:=sh.l1;walk_at "rd";refine rTupR.l (.of yX) fun t1 yY=>?_
  walk_at "rd";refine rAddR.t (.of (D0 fU yY)) (.of A2) (by simp) (by simp only [A4,K9,k8];exact i7 (by lia)) (fun e=>by rw [List.map_eq_nil_iff.mp e] at qZ;cases qZ) fun _ t2 jE=>?_
  have S8:Same H4 (A0 H7 t1 (.tup ((rowS c j t).map V.str))):=S47.trans (Same.new yY);have n2:H4 t2=none:=S8.free jE;have S9:=S8.trans (Same.new (u:=HO.tup ([V.str (Str.ofString "row")]++(rowS c j t).map V.str)) jE);have jF:A0 (A0 H7 t1 (.tup ((rowS c j t).map V.str))) t2 (HO.tup ([V.str (Str.ofString "row")]++(rowS c j t).map V.str)) t2=some (tupR (("row" : Str),rowS c j t)):=A2;generalize A0 (A0 H7 t1 (.tup ((rowS c j t).map V.str))) t2 (HO.tup ([V.str (Str.ofString "row")]++(rowS c j t).map V.str))=H9 at S9 jF;clear yY jE S8 S47 yX fU;have hD9:=S9 _ _ hD4;refine ⟨_,.inl (.of hD9),_,E7 (j:=4) (atP 4 (by decide)),_,.inl (.of hD9),_,E7 (j:=5) (atP 5 (by decide)),by decide,fun t3 dG=>?_⟩;have hD3:=D0 (u:=HO.tup [V.str (Str.ofString "marks"),V.str (pc 4),V.str (pc 5)]) hD9 dG;refine ⟨_,.inl (.of hD3),_,E7 (j:=0) (k6 0 (by decide)),_,.inl (.of hD3),_,E7 (j:=6) (atP 6 (by decide)),_,.inl (.of hD3),_,E7 (j:=7) (atP 7 (by decide)),by decide,fun t4 jG=>⟨by decide,fun r nr=>?_⟩⟩;have n49:H9 t4=none:=(Same.new dG).free jG;have jH:H9 r=none:=((Same.new dG).trans (Same.new jG)).free nr;have nDr:D≠r:=fun e=>by rw [<- e,hD9] at jH;cases jH
  have n23:t2≠t3:=fun e=>by rw [<- e,jF] at dG;cases dG
  have n24:t2≠t4:=fun e=>by rw [<- e,jF] at n49;cases n49
  have n2r:t2≠r:=fun e=>by rw [<- e,jF] at jH;cases jH
  have n34:t3≠t4:=fun e=>by rw [<- e,A2] at jG;cases jG
  have n4r:t4≠r:=fun e=>by rw [<- e,A2] at nr;cases nr
  have n3r:t3≠r:=fun e=>by rw [<- e,A3 n34,A2] at nr;cases nr
  have R5:Same H9 (A0 (A0 (A0 H9 t3 (HO.tup [V.str (Str.ofString "marks"),V.str (pc 4),V.str (pc 5)])) t4 (HO.tup [V.str (Str.ofString "great"),V.str (one (c 0)),V.str (pc 6),V.str (pc 7)])) r (HO.lst [V.ref t2,V.ref t3,V.ref t4])):=((Same.new dG).trans (Same.new jG)).trans (Same.new nr);have RB:RulesAt H (A0 (A0 (A0 H9 t3 (HO.tup [V.str (Str.ofString "marks"),V.str (pc 4),V.str (pc 5)])) t4 (HO.tup [V.str (Str.ofString "great"),V.str (one (c 0)),V.str (pc 6),V.str (pc 7)])) r (HO.lst [V.ref t2,V.ref t3,V.ref t4])) r ([t2,t3]++[t4]) [(("row" : Str),rowS c j t),(("marks" : Str),[pc 4,pc 5]),(("great" : Str),[one (c 0),pc 6,pc 7])]:=by
   refine ⟨⟨A2,.cons (R5 _ _ jF) (.cons (by rw [A3 n3r,A3 n34,A2];rfl) (.cons (by rw [A3 n4r,A2];rfl) .nil))⟩,by simp only [k7,t9,U5,E5,g6,or_false,not_or,List.nodup_nil,not_false_iff,and_true];exact ⟨⟨n2r.symm,n3r.symm,n4r.symm⟩,⟨n23,n24⟩,n34⟩,fun x hx=>?_,S4.trans (S9.trans R5)⟩;simp only [k7,t9,E5,g6,or_false] at hx
   rcases hx with rfl | rfl | rfl | rfl
   .exact (S4.trans S9).free jH
   .exact S4.free n2
   .exact (S4.trans S9).free dG
   .exact (S4.trans S9).free n49
  have hD11:=R5 _ _ hD9;generalize A0 (A0 (A0 H9 t3 (HO.tup [V.str (Str.ofString "marks"),V.str (pc 4),V.str (pc 5)])) t4 (HO.tup [V.str (Str.ofString "great"),V.str (one (c 0)),V.str (pc 6),V.str (pc 7)])) r (HO.lst [V.ref t2,V.ref t3,V.ref t4])=dB at RB hD11;clear R5 n3r n2r n23 n24 n34 n4r n49 jH nr dG jG hD3 jF hD9 S9 n2 S4 hD4;refine ⟨N1 RB.rows.top,_,.inl (.of hD11),_,E7 (j:=8) (atP 8 (by decide)),_,.inl (.of hD11),_,E7 (j:=0) (k6 0 (by decide)),_,.inl (.of hD11),_,E7 (j:=4) (atP 4 (by decide)),_,.inl (.of hD11),_,E7 (j:=1) (k6 1 (by decide)),by decide,fun u1 yZ=>⟨_,.inl (.of A2),_,hqa,by decide,fun t5 zA=>?_⟩⟩;have Y1:Same dB (A0 (A0 dB u1 (.lst [V.str (pc 4),V.str (one (c 1))])) t5 (HO.tup [V.str (Str.ofString "as"),V.str (pc 8),V.str (one (c 0)),V.str qz])):=(Same.new yZ).trans (Same.new zA);refine appOk (Y1 _ _ RB.rows.top) (show 3<sizeLine by decide) ?_;have RC:RulesAt H (A0 (A0 (A0 dB u1 (.lst [V.str (pc 4),V.str (one (c 1))])) t5 (HO.tup [V.str (Str.ofString "as"),V.str (pc 8),V.str (one (c 0)),V.str qz])) r (.lst (([t2,t3]++[t4]).map V.ref++[V.ref t5]))) r ([t2,t3]++[t4]++[t5]) _:=RB.grow Y1 ((Same.new yZ).free zA) (z:=(("as" : Str),[pc 8,one (c 0),qz])) A2;have hD12:A0 (A0 (A0 dB u1 (.lst [V.str (pc 4),V.str (one (c 1))])) t5 (HO.tup [V.str (Str.ofString "as"),V.str (pc 8),V.str (one (c 0)),V.str qz])) r (.lst (([t2,t3]++[t4]).map V.ref++[V.ref t5])) D=some (.lst (e9 pc)):=by rw [A3 nDr];exact Y1 _ _ hD11
  generalize A0 (A0 (A0 dB u1 (.lst [V.str (pc 4),V.str (one (c 1))])) t5 (HO.tup [V.str (Str.ofString "as"),V.str (pc 8),V.str (one (c 0)),V.str qz])) r (.lst (([t2,t3]++[t4]).map V.ref++[V.ref t5]))=jD at RC hD12;clear yZ zA Y1 hD11 RB;refine ⟨N1 RC.rows.top,_,.inl (.of hD12),_,E7 (j:=9) (atP 9 (by decide)),by decide,fun t6 nC=>?_⟩;refine appOk (D0 RC.rows.top nC) (show 4<sizeLine by decide) ?_;have RD:RulesAt H (A0 (A0 jD t6 (HO.tup [V.str (Str.ofString "over"),V.str (pc 9)])) r (.lst (([t2,t3]++[t4]++[t5]).map V.ref++[V.ref t6]))) r ([t2,t3]++[t4]++[t5]++[t6]) _:=RC.grow (Same.new nC) nC (z:=(("over" : Str),[pc 9])) A2;have hD13:A0 (A0 jD t6 (HO.tup [V.str (Str.ofString "over"),V.str (pc 9)])) r (.lst (([t2,t3]++[t4]++[t5]).map V.ref++[V.ref t6])) D=some (.lst (e9 pc)):=by rw [A3 nDr];exact D0 hD12 nC
  generalize A0 (A0 jD t6 (HO.tup [V.str (Str.ofString "over"),V.str (pc 9)])) r (.lst (([t2,t3]++[t4]++[t5]).map V.ref++[V.ref t6]))=nE at RD hD13;clear nC hD12 RC
  replace RD:∃ ts,RulesAt H nE r ts (x5 (rowS c j t) [pc 4,pc 5] (one (c 0)) (pc 6) (pc 7) (pc 8) qz (pc 9))/\ts.length=5:=⟨_,RD,rfl⟩
  obtain ⟨ts,RD,mT⟩:=RD;refine ⟨_,.inl (.of hD13),_,E7 (j:=0) (k6 0 (by decide)),_,.inl (.of hD13),_,E7 (j:=6) (atP 6 (by decide)),_,.inl (.of hD13),_,E7 (j:=4) (atP 4 (by decide)),_,.inl (.of hD13),_,E7 (j:=9) (atP 9 (by decide)),_,.inl (.of hD13),_,E7 (j:=8) (atP 8 (by decide)),_,.inl (.of hD13),_,E7 (j:=5) (atP 5 (by decide)),_,.inl (.of hD13),_,E7 (j:=7) (atP 7 (by decide)),_,.inl (.of hD13),_,E7 (j:=1) (k6 1 (by decide)),_,.inl (.of hD13),_,E7 (j:=2) (k6 2 (by decide)),_,.inl (.of hD13),_,E7 (j:=3) (k6 3 (by decide)),by decide,fun k nk=>?_⟩;have zB:Same nE (A0 nE k (HO.lst [V.str (one (c 0)),V.str (pc 6),V.str (pc 4),V.str (pc 9),V.str (pc 8),V.str (pc 5),V.str (pc 7),V.str (two (c 0) (c j)),V.str (one (c 1)),V.str (one (c 2)),V.str (one (c 3))])):=Same.new nk;have r8:A0 nE k (HO.lst [V.str (one (c 0)),V.str (pc 6),V.str (pc 4),V.str (pc 9),V.str (pc 8),V.str (pc 5),V.str (pc 7),V.str (two (c 0) (c j)),V.str (one (c 1)),V.str (one (c 2)),V.str (one (c 3))]) k=some (.lst (([pc 0,pc 6,pc 4,pc 9,pc 8,pc 5,pc 7,two (c 0) (c j),one (c 1),one (c 2),one (c 3)]:List Str).map V.str)):=by rw [A2,P4 0 (by decide)];rfl
  have nkr:k≠r:=fun e=>by rw [e,RD.rows.top] at nk;cases nk
  have nkH:H k=none:=RD.same.free nk;generalize A0 nE k (HO.lst [V.str (one (c 0)),V.str (pc 6),V.str (pc 4),V.str (pc 9),V.str (pc 8),V.str (pc 5),V.str (pc 7),V.str (two (c 0) (c j)),V.str (one (c 1)),V.str (one (c 2)),V.str (one (c 3))])=zC at zB r8
  replace RD:=RD.more zB
  clear zB nk hD13;have g0:∀ p∈([pc 0,pc 6,pc 4,pc 9,pc 8,pc 5,pc 7,two (c 0) (c j),one (c 1),one (c 2),one (c 3)]:List Str),p∈rowS c j t++([pc 4,pc 5]++[pc 6,pc 7,pc 8,pc 9]):=fun p hp=>by
   rw [P4 0 (by decide)] at hp;rw [D3,rowS_mem];simp only [k7,t9,E5,g6,or_false] at hp ⊢
   rcases hp with h | h | h | h | h | h | h | h | h | h | h <;> simp [h]
  have y3:([pc 0,pc 6,pc 4,pc 9,pc 8,pc 5,pc 7,two (c 0) (c j),one (c 1),one (c 2),one (c 3)]:List Str)≠[]/\([pc 0,pc 6,pc 4,pc 9,pc 8,pc 5,pc 7,two (c 0) (c j),one (c 1),one (c 2),one (c 3)]:List Str).length=11:=⟨List.cons_ne_nil _ _,rfl⟩
  generalize ([pc 0,pc 6,pc 4,pc 9,pc 8,pc 5,pc 7,two (c 0) (c j),one (c 1),one (c 2),one (c 3)]:List Str)=zD at r8 g0 y3;clear P P4 k6 atP hqa hqz ok inj;generalize htp:rowS c j t++([pc 4,pc 5]++[pc 6,pc 7,pc 8,pc 9])=tp at g0;refine aI (fun Y H'=>∃ (ts:List Addr) (ks:List Str),Y=[some (.int n),some (.int fl),some (.ref D),some (.str (two (c 0) (c j))),some (.int m),u5,u6,some (.ref s5),some (.int (t:Int)),some (.ref r),some (.ref k)]/\RulesAt H H' r ts (x5 (rowS c j t) [pc 4,pc 5] (one (c 0)) (pc 6) (pc 7) (pc 8) qz (pc 9)++U1 "figures" w)/\ts.length<=6/\H' k=some (.lst (ks.map V.str))/\ks≠[]/\ks.length<=15/\∀ p∈ks,vC w false tp p) ?_ ?_
  .walk_at "rd";refine iteD (fun e=>?_) fun e=>?_
   .rw [decide_eq_true e] at hw;subst hw;refine ⟨N1 RD.rows.top,by decide,fun p1 G5=>appOk (D0 RD.rows.top G5) (by rw [A4,mT];decide) ?_⟩;have RE:RulesAt H (A0 (A0 zC p1 (HO.tup [V.str (Str.ofString "figures")])) r (.lst (ts.map V.ref++[V.ref p1]))) r (ts++[p1]) _:=RD.grow (Same.new G5) G5 (z:=(("figures" : Str),[])) A2;have Q2:A0 (A0 zC p1 (HO.tup [V.str (Str.ofString "figures")])) r (.lst (ts.map V.ref++[V.ref p1])) k=some (.lst (zD.map V.str)):=by rw [A3 nkr];exact D0 r8 G5
    generalize A0 (A0 zC p1 (HO.tup [V.str (Str.ofString "figures")])) r (.lst (ts.map V.ref++[V.ref p1]))=rF at RE Q2;refine ⟨N1 Q2,by decide,fun p2 y7=>⟨k,p2,_,_,rfl,rfl,D0 Q2 y7,A2,by rw [A4,y3.2];exact (by decide:11+4<=sizeLine),_,aeW (RE.more (Same.new y7)) (D0 Q2 y7) nkr nkH,by rw [C8,T4];lia,zD++[Str.ofString "7",Str.ofString "12",Str.ofString "007",Str.ofString "0"],by rw [A2,D9];rfl,fun e=>y3.1 (List.append_eq_nil_iff.mp e).1,by rw [C8,y3.2];exact (by decide:11+4<=15),fun p hp=>?_⟩⟩
    rcases D3.mp hp with hp | hp
    .exact .inl (g0 p hp)
    .exact .inr (.inl ⟨rfl,al1 p hp⟩)
   .rw [decide_eq_false e] at hw;subst hw;exact ⟨ts,by unfold U1;rw [if_neg (by decide),N0];exact RD,by lia,zD,r8,y3.1,by lia,fun p hp=>.inl (g0 p hp)⟩
  clear g0 y3 r8 RD mT;rintro Y rF ⟨dH,fV,rfl,RE,mE,Q2,dD,W7,nF⟩;refine aI (fun Y H'=>∃ (b2:Bool) (ts:List Addr) (ks:List Str),Y=[some (.int n),some (.int fl),some (.ref D),some (.str (two (c 0) (c j))),some (.int m),u5,u6,some (.ref s5),some (.int (t:Int)),some (.ref r),some (.ref k)]/\RulesAt H H' r ts (x5 (rowS c j t) [pc 4,pc 5] (one (c 0)) (pc 6) (pc 7) (pc 8) qz (pc 9)++U1 "figures" w++U1 "blanks" b2)/\ts.length<=7/\H' k=some (.lst (ks.map V.str))/\ks≠[]/\ks.length<=16/\∀ p∈ks,vC w b2 tp p) ?_ ?_
  .walk_at "rd";refine iteD (fun e=>?_) fun e=>?_
   .refine ⟨N1 RE.rows.top,by decide,fun p1 G5=>appOk (D0 RE.rows.top G5) (by rw [A4];exact G9 (by lia)) ?_⟩;have RF:RulesAt H (A0 (A0 rF p1 (HO.tup [V.str (Str.ofString "blanks")])) r (.lst (dH.map V.ref++[V.ref p1]))) r (dH++[p1]) _:=RE.grow (Same.new G5) G5 (z:=(("blanks" : Str),[])) A2;have bH:A0 (A0 rF p1 (HO.tup [V.str (Str.ofString "blanks")])) r (.lst (dH.map V.ref++[V.ref p1])) k=some (.lst (fV.map V.str)):=by rw [A3 nkr];exact D0 Q2 G5
    generalize A0 (A0 rF p1 (HO.tup [V.str (Str.ofString "blanks")])) r (.lst (dH.map V.ref++[V.ref p1]))=H18 at RF bH;refine ⟨N1 bH,appOk bH (by rw [A4];exact G9 (by lia)) ⟨true,_,aeW RF bH nkr nkH,by rw [C8,T4];lia,fV++[Str.ofString " "],by rw [A2,D9];rfl,fun e=>dD (List.append_eq_nil_iff.mp e).1,by rw [C8,T4];lia,fun p hp=>?_⟩⟩
    rcases D3.mp hp with hp | hp
    .exact (nF p hp).imp id fun q=>q.imp id fun ⟨h,_⟩=>by cases h
    .exact .inr (.inr ⟨rfl,(D1.mp hp).trans uP⟩)
   .exact ⟨false,dH,by rw [show U1 "blanks" false=[] from rfl,N0];exact RE,by lia,fV,Q2,dD,by lia,nF⟩
  clear RE Q2 dD W7 nF mE fV dH;rintro Y H18 ⟨b2,dH,fV,rfl,RE,mE,Q2,dD,W7,nF⟩;refine aI (fun Y H'=>∃ (b3:Bool) (ts:List Addr),Y=[some (.int n),some (.int fl),some (.ref D),some (.str (two (c 0) (c j))),some (.int m),u5,u6,some (.ref s5),some (.int (t:Int)),some (.ref r),some (.ref k)]/\RulesAt H H' r ts (G7 (rowS c j t) [pc 4,pc 5] (one (c 0)) (pc 6) (pc 7) (pc 8) qz (pc 9) w b2 b3)/\H' k=some (.lst (fV.map V.str))) ?_ ?_
  .walk_at "rd";refine iteD (fun e=>?_) fun e=>?_
   .refine ⟨N1 RE.rows.top,by decide,fun p1 G5=>appOk (D0 RE.rows.top G5) (by rw [A4];exact G9 (by lia)) ?_⟩;exact ⟨⟨true,_,RE.grow (Same.new G5) G5 (z:=(("behind" : Str),[])) A2⟩,by rw [A3 nkr];exact D0 Q2 G5⟩
   .exact ⟨⟨false,dH,by unfold G7;rw [show U1 "behind" false=[] from rfl,N0];exact RE⟩,Q2⟩
  rintro Y H19 ⟨b3,ts2,rfl,RF,zE⟩;walk_at "rd";refine ⟨by decide,fun l nl=>?_⟩;have zF:Same H19 (A0 H19 l (HO.tup [V.ref r,V.ref k])):=Same.new nl;exact q l r k ts2 _ _ fV _ _ _ _ _ _ w b2 b3 _ (RF.same.trans zF) (RF.new r J9) nkH A2 (RF.rows.same zF) sh (zF _ _ zE) (sh.pks dD W7 (by rw [htp];exact nF))
theorem sc_l_places:FnScope ["_law_got", "_law_texts", "_law_free", "_law_k", "_law_places_here", "_law_text_here"] ["_law_got", "_law_texts"] (C3 c9):=J8
abbrev iL:List Str:=["_law_got", "_law_texts", "_law_free", "_law_k", "_law_places_here", "_law_text_here"]
theorem vdA:VS iL c9 "_law_got" 0:=vq
theorem vdB:VS iL c9 "_law_texts" 1:=vq
theorem wH:VS iL c9 "_law_free" 2:=vq
theorem vdD:VS iL c9 "_law_k" 3:=vq
theorem vdE:VS iL c9 "_law_places_here" 4:=vq
theorem vdF:VS iL c9 "_law_text_here" 5:=vq
theorem vdG:LS c9 "_law_free":=lq
theorem vdH:LS c9 "_law_k":=lq
theorem vdI:LS c9 "_law_places_here":=lq
theorem vdJ:LS c9 "_law_text_here":=lq
theorem aht(F:FunD K "_law_places" "_law_places" c9 f fd)(T:Txt P w K mg C):FnOk P w K mg base E8 1 f fd ["_law_got", "_law_texts"] ah4:=by
 refine F.ok sc_l_places ?_ ?_
 .rintro _ _ _ _ ⟨g,a,ts,p,kz,rfl,_⟩;rfl
 .intro cdv A outer s H vs Q E hr h;have C5:=hu_of hr;have hu:=hr.units;refine ⟨_,QSs.out (A6 (E1 (n:=2) sc_l_places.nd rfl vdG eF)
   (A6 (O0 PassesOwn.never (qi_r1 T.b_range (qa_c (qe_cB (q_len (K:=K)) T.b_len i6 (qa_c (vi vdB) A1)) A1)) (D7 (n:=3) sc_l_places.nd rfl vdH (.inl rfl)) (B1 (N3 (qe_mB (K:=K) N8 T7 T6 T9 (ahH (vi wH) (qe_ix (K:=K) (vi vdB) (vi vdD)) (N2 A1)) (qa_c (vi vdD) A1)))))
   (A6 (E1 (n:=4) sc_l_places.nd rfl vdI (N2 A1))
   (A6 (O0 PassesOwn.never (O5 (K:=K) (vi vdA)) (D7 (n:=5) sc_l_places.nd rfl vdJ (.inl rfl)) (A6 (qs_if (K2 (q_eq (K:=K) hu) (ahF C5 (vi wH) (vi vdF) (N2 A1)) (N2 A1)) (B1 (E6 ami)) M0)
   (B1 (N3 (qe_mB (K:=K) N8 T7 T6 T9 (vi vdE) (qa_c (qe_mB (K:=K) N8 PySem.F.slot_list_pop PySem.F.type_list_pop aqU (i9 C5 (vi wH) (vi vdF)) (qa_c A5 A1)) A1))))))
   (B1 (E6 (vi vdE))))))),?_⟩
  obtain ⟨g,a,ts,p,kz,rfl,hg,ha,hp,hl,q⟩:=h;walk_at "rd";intro D nD;have ha1:=D0 (u:=HO.dK []) ha nD;have I0:FrT H (A0 H D (.dK [])) D [] (fun _=>0) (U3 ts 0):=⟨A2,by simp,by simp,nD,by simp,Same.new nD⟩
  generalize A0 H D (.dK [])=H1 at ha1 I0;refine ⟨ts.length,.inl ⟨_,.of ha1,by rw [A4]⟩,by lia,by lia,?_⟩;refine forR (fun i Y H'=>∃ (u3:Option V) (ks:List Str) (ad:Str->Addr),Y=[some (.ref g),some (.ref a),some (.ref D),u3,none,none]/\FrT H H' D ks ad (U3 ts i)/\(∀ y,y∈ks↔y∈ts.take i)/\ks.length<=i) ⟨none,[],_,rfl,I0,by simp,A8 _⟩ ?_ ?_
  .rintro i Y H' hi ⟨u3,ks,ad,rfl,I,g0,W7⟩;have hi:i<ts.length:=by lia
   obtain ⟨z,hz⟩:∃ z,ts[i]?=some z:=⟨_,F8 hi⟩
   have hF:∀ y,y≠z->U3 ts (i+1) y=U3 ts i y:=fun y hy=>by rw [ah3 hz,if_neg hy]
   have hF2:U3 ts (i+1) z=U3 ts i z++[i]:=by rw [ah3 hz,if_pos rfl]
   walk_at "rd";refine ⟨.inl ⟨_,.of I.top⟩,_,.inl (.of (I.same _ _ ha)),V.str z,by rw [Int.zero_add];exact E7 (by rw [L7,hz];rfl),fun p1 np=>⟨_,D0 I.top np,by rw [j3];exact G9 (by lia),Sum.inr z,rfl,fun v hv=>?_,fun hv=>?_⟩⟩
   .rw [P1] at hv
    split at hv
    .rename_i dI
     obtain rfl:=Option.some.inj hv;have I2:=I.more (Same.new (u:=HO.lst []) np);have I3:=I2.put (F':=U3 ts (i+1)) dI hF;rw [hF2,D9] at I3;rw [Int.zero_add];refine ⟨N1 (I2.row z dI),appOk (I2.row z dI) (by rw [A4];exact G9 (L4 (List.length_filter_le _ _) (by rw [bL];lia))) ⟨ks,⟨ad,I3⟩,fun y=>?_,by lia⟩⟩;rw [K8 hz,D3,D1,g0];exact ⟨.inl,fun q=>q.elim id fun e=>by rw [e];exact (g0 z).mp dI⟩
    .cases hv
   .rw [P1] at hv
    split at hv
    .cases hv
    .rename_i dI
     have npD:p1≠D:=fun e=>by rw [e,I.top] at np;cases np
     have hc:∀ {A B:HO},A0 (A0 (A0 H' p1 (.lst [])) D A) p1 B=A0 (A0 H' p1 B) D A:=fun {A B}=>by
      funext b
      by_cases h1:b=p1
      .rw [h1,A2,A3 npD,A2]
      .by_cases h2:b=D
       .rw [h2,A3 npD.symm,A2,A2]
       .rw [A3 h1,A3 h2,A3 h1,A3 h2,A3 h1]
     have e0:U3 ts i z=[]:=nQ.mpr fun j hj q=>dI ((g0 z).mpr (by
      rw [decide_eq_true_eq] at q;exact M7 (i:=j) (by rw [List.getElem?_take_of_lt (W9.mp hj)];exact q)))
     have I3:=(I.more (Same.new (u:=HO.lst [V.int (i:Int)]) np)).add (p:=p1) (F':=U3 ts (i+1)) dI hF (fun y hy e=>by have:=I.row y hy;rw [e,np] at this;cases this) npD (I.same.free np) (by rw [A2,hF2,e0];rfl);rw [are dI];have f8:A0 (A0 H' p1 (.lst [])) D (.dK (B5 (ks++[z]) fun y=>.ref (if y=z then p1 else ad y))) p1=some (.lst []):=by rw [A3 npD,A2]
     refine ⟨N1 f8,appOk f8 (by decide) ?_⟩;rw [hc,t9,Int.zero_add];refine ⟨ks++[z],⟨_,I3⟩,fun y=>?_,by rw [C8,T4];lia⟩;rw [K8 hz,D3,D3,g0]
  rintro Y H2 ⟨u3,ks,ad,rfl,I,g0,W7⟩;have zG:∀ {y:Str},y∈ts->y∈ks:=fun hy=>(g0 _).mpr (by rw [Int.toNat_natCast,K7];exact hy)
  rw [Int.toNat_natCast] at I;walk_at "rd";intro PL nPL;have hg3:=D0 (u:=HO.lst []) (I.same _ _ hg) nPL;have I3:=I.more (Same.new (u:=HO.lst []) nPL);have hPL3:A0 H2 PL (.lst []) PL=some (.lst (([]:List Nat).map fun i:Nat=>V.int (i:Int))):=A2;have nPD:PL≠D:=fun e=>by rw [e,I.top] at nPL;cases nPL
  have nPa:∀ y∈ks,ad y≠PL:=fun y hy e=>by have:=I.row y hy;rw [e,nPL] at this;cases this
  have nPH:H PL=none:=I.same.free nPL;rw [show U3 ts ts.length=leftN ts p 0 from funext fun y=>(akx ts p y).symm] at I3;generalize A0 H2 PL (.lst [])=H3 at hg3 I3 hPL3;clear I nPL g0 W7;refine ⟨⟨_,.of hg3⟩,forL (xs:=(p.map fun i=>ts.getD i (Str.ofString "")).map V.str) (fun i Y H'=>∃ (u5:Option V),Y=[some (.ref g),some (.ref a),some (.ref D),u3,some (.ref PL),u5]/\FrT H H' D ks ad (leftN ts p i)/\H' PL=some (.lst ((p.take i).map fun i:Nat=>V.int (i:Int)))) ⟨none,rfl,I3,hPL3⟩ (by rintro i Y H' _ ⟨_,_,I,_⟩;exact .of (I.same _ _ hg)) ?_ ?_⟩
  .rintro i x Y H' hx ⟨u5,rfl,I,hPL⟩;obtain ⟨t,ht,rfl⟩:=K1 hx;rw [L7] at ht;obtain ⟨m,hm,fO⟩:=jY.mp ht;have mS:m<ts.length:=by
    have:=W9.mp (hp.pm.mem_iff.mp (M7 hm))
    rwa [A4] at this
   have nG:ts[m]?=some t:=by
    rw [<- fO,P0,F8 mS];rfl
   have eY:t∈ks:=zG (M7 nG);obtain ⟨l1,l2⟩:=aky hp hm nG;have hv:valV (B5 ks fun y=>V.ref (ad y)) (Sum.inr t)=some (V.ref (ad t)):=by rw [P1,if_pos eY]
   walk_at "rd";refine ⟨.inl ⟨_,.of I.top⟩,fun p1 G5=>?_⟩;have I1:=I.more (Same.new (u:=HO.lst []) G5);have dg1:=b0 (k:=Sum.inr t) I1.top;rw [hv] at dg1;refine ⟨_,dg1,fun p2 y7=>?_⟩;have I2:=I1.more (Same.new (u:=HO.lst []) y7);have V3:A0 (A0 H' p1 (.lst [])) p2 (.lst []) p2=some (.lst (([]:List Int).map V.int)):=A2;have hPL2:=D0 (u:=HO.lst []) (D0 (u:=HO.lst []) hPL G5) y7;generalize A0 (A0 H' p1 (.lst [])) p2 (.lst [])=H5 at I2 V3 hPL2;have dg2:=b0 (k:=Sum.inr t) I2.top;rw [hv] at dg2;have row:=I2.row t eY;have row':H5 (ad t)=some (.lst (((leftN ts p i t).map fun i:Nat=>(i:Int)).map V.int)):=by rw [V8];exact row
   refine ⟨_,.lst (.of row') cA,_,.lst (.of V3) cA,L4 (Nat.min_le_left _ _) (by rw [z0,kH];decide),?_⟩;rw [U7,kG,if_neg (by rw [l1];simp)];have I6:=I2.put (F':=leftN ts p (i+1)) eY l2;rw [l1] at row;have hPL6:A0 H5 (ad t) (.lst ((leftN ts p (i+1) t).map fun i:Nat=>V.int (i:Int))) PL=some (.lst ((p.take i).map fun i:Nat=>V.int (i:Int))):=by rw [A3 (nPa t eY).symm];exact hPL2
   refine ⟨N1 hPL2,_,dg2,N1 row,ad t,_,0,V.int m,rfl,rfl,row,by decide,by decide,rfl,appOk (H:=A0 H5 (ad t) (.lst ((leftN ts p (i+1) t).map fun i:Nat=>V.int (i:Int)))) hPL6 (by rw [A4,G6];exact G9 (by
    have:=hp.pm.length_eq
    rw [bL,A4] at this;lia)) ⟨I6.off nPD nPa nPH,?_⟩⟩
   rw [A2,K8 hm,D9];rfl
  rintro Y H4 ⟨u5,rfl,I,hPL⟩;rw [A4,A4,K7] at hPL;walk_at "rd";exact q PL H4 nPH I.same hPL
theorem aek:FnScope ["order", "texts", "strength"] ["order", "texts", "strength"] (C3 cO):=J8
abbrev aez:List Str:=["order", "texts", "strength"]
theorem vdK:VS aez cO "texts" 1:=vq
theorem acL(F:FunDL K "sorted_texts" "sorted_texts" cO f fd cl_sorted_texts)(BT:BaseT mg base tabs)(hm_sorted_texts:(cl_sorted_texts,pt_sorted_texts)∈tabs)(T:Txt P w K mg C)(G3_key:FO P w K mg base 7 "key" ["order", "text", "strength"] [] (spKey C)):FnOk P w K mg base E8 11 f fd ["order", "texts", "strength"] (lN C pt_sorted_texts ⟨277,29,277,68⟩ "sorted_texts.<locals>.<lambda>"):=by
 refine F.ok aek ?_ ?_
 .rintro _ _ _ _ ⟨o,a,n,R,L,M,ts,rfl,_⟩;rfl
 .intro A outer s H vs Q E hr h;have C5:=hu_of hr;have hu:=hr.units;refine ⟨_,QSs.out (B1 (E6 (alY T.b_sorted hr (BT.lam hm_sorted_texts rfl) (qa_c (vi vdK) A1) (R9:CompOk ["order", "texts", "strength"] (C3 cO).names _ ["text", "order", "strength"] 1 [0,2]) (fun _ _ _ _=>(F7 G3_key (hm (hr.lam _)) (qa_c (qv 1) (qa_c (qv 0) (qa_c (qv 2) A1)))))))),?_⟩;obtain ⟨o,a,n,R,L,M,ts,rfl,hn,hO,ha,ht,hl,hT,q⟩:=h;walk_at "rd";refine ⟨ts.map V.str,⟨a,rfl,.inl (.of ha)⟩,by rw [A4];exact hl,hT,fun c H2 S2 hT2=>akk (ixs:=[0,2]) (Y:=[some (.ref o),some (.ref a),some (.int n)]) (te:=fun τ H3 Z=>∃ v,τ[1]?.join=some v/\∃ v1,τ[0]?.join=some v1/\∃ v2,τ[2]?.join=some v2/\spKey C [v,v1,v2] H3 Z E0) [some (.ref o),some (.int n)] rfl (fun v=>match v with | .str z=>keyZ n R L M z | _=>[]) hT2.2 ?_ ?_⟩
  .rintro H3 x Z hx S3 hZ;obtain ⟨z,hz,rfl⟩:=E2.mp hx;obtain ⟨j,ll,ml,md,g,oo⟩:=((hO.kp (.tab S2 hT)).same S3).ord;exact ⟨_,rfl,_,rfl,_,rfl,o,j,ll,ml,md,z,n,g,R,L,M,rfl,hn,oo,hO.kn,(ht z hz).1,(ht z hz).2,hO.st,fun l H4 nl S4 xV=>hZ l H4 S4 xV⟩
  .intro D H3 p S3 nD hp;have e0:(ts.map V.str).map (fun v=>match v with | .str z=>keyZ n R L M z | _=>[])=ts.map (keyZ n R L M):=by rw [V8];rfl
   rw [e0] at hp;have hz:(p.map fun i=>(ts.map V.str).getD i .non)=(p.map fun i=>ts.getD i (Str.ofString "")).map V.str:=by
    rw [V8];refine fZ fun i hi=>?_
    have V4:=W9.mp (hp.pm.mem_iff.mp hi);rw [A4] at V4;show (ts.map V.str).getD i .non=V.str (ts.getD i (Str.ofString ""));rw [P0,P0,L7,F8 V4];rfl
   rw [hz];have nD0:H D=none:=by
    cases e:H D with
    | none=>rfl
    | some o'=>
     by_cases hD:D=pt_sorted_texts
     .rw [hD,S3 _ _ hT2.1] at nD;cases nD
     .rw [S3 _ _ (S2 _ _ hD e)] at nD;cases nD
   exact q D _ _ nD0 ((S2.trans (.of S3)).trans (.of (Same.new nD))) (hT2.ok.same (S3.trans (Same.new nD))) hp A2
theorem sc_l_text:FnScope ["_law_number_here", "_law_known", "_law_text_here", "_law_k"] ["_law_number_here", "_law_known"] (C3 aN):=J8
abbrev wI:List Str:=["_law_number_here", "_law_known", "_law_text_here", "_law_k"]
theorem wJ:VS wI aN "_law_number_here" 0:=vq
theorem vdM:VS wI aN "_law_known" 1:=vq
theorem vdN:VS wI aN "_law_text_here" 2:=vq
theorem vdO:LS aN "_law_number_here":=lq
theorem vdP:LS aN "_law_text_here":=lq
theorem vdQ:LS aN "_law_k":=lq
theorem akC(F:FunD K "_law_text" "_law_text" aN f fd)(T:Txt P w K mg C):FnOk P w K mg base E8 1 f fd ["_law_number_here", "_law_known"] akw:=by
 refine F.ok sc_l_text ?_ ?_
 .rintro _ _ _ _ ⟨n,k,ks,rfl,_⟩;rfl
 .intro cdv A outer s H vs Q E hr h;have C5:=hu_of hr;have hu:=hr.units;refine ⟨_,QSs.out (A6 (E1 (n:=2) sc_l_text.nd rfl vdP L1)
   (A6 (O0 PassesOwn.never (qi_r1 T.b_range (qa_c (qe_op q_mod (vi wJ) A5) A1)) (D7 (n:=3) sc_l_text.nd rfl vdQ (.inl rfl)) (A6 (E1 (n:=0) sc_l_text.nd rfl vdO (qe_op q_mod (qe_op q_mul (vi wJ) A5) A5))
   (B1 (E1 (n:=2) sc_l_text.nd rfl vdP (qe_op (q_add (K:=K)) (vi vdN) (qe_ix (K:=K) (vi vdM) (qe_op q_mod (vi wJ) (qe_cB (q_len (K:=K)) T.b_len i6 (qa_c (vi vdM) A1)))))))))
   (B1 (E6 (vi vdN))))),?_⟩
  obtain ⟨n,k,ks,rfl,hk,h0,h2,q⟩:=h;have hkp:0<ks.length:=List.length_pos_iff.mpr h0;walk_at "rd";refine ⟨by lia,by lia,forR (fun i Y H'=>∃ (m:Int) (z:Str) (u:Option V),Y=[some (.int m),some (.ref k),some (.str z),u]/\H'=H/\n8 ks i z) ⟨n,_,none,rfl,rfl,[],by simp,A8 _,rfl⟩ ?_ ?_⟩
  .rintro i Y H' hi ⟨m,z,u,rfl,rfl,hz⟩;have P5:=hz.len h2;walk_at "rd";obtain ⟨p,hp,Q1⟩:=(arh h0 (m*16807 % 2147483629)).2
   have:=h2 p hp
   refine ⟨.inr ⟨by lia,by lia⟩,ks.length,.inl ⟨_,.of hk,by rw [A4]⟩,by lia,_,.inl (.of hk),_,Q1,?_⟩;obtain ⟨ps,p1,p2,p3⟩:=hz;walk_at "rd";refine ⟨i7 (by lia),ps++[p],fun x hx=>?_,by rw [C8,T4];lia,by rw [Str.cps_append,Array.toList_append,p3];unfold flatP;rw [Y4,Q9,jP,N0]⟩
   rcases D3.mp hx with h | h
   .exact p1 x h
   .rw [D1.mp h];exact hp
  rintro Y H' ⟨m,z,u,rfl,rfl,hz⟩;walk_at "rd";exact q z (hz.sub (fun _ h=>h) (by lia))
theorem aiL:FnScope ["_law_order", "_law_texts", "_law_strength"] ["_law_order", "_law_texts", "_law_strength"] (C3 iB):=J8
abbrev wK:List Str:=["_law_order", "_law_texts", "_law_strength"]
theorem vdR:VS wK iB "_law_order" 0:=vq
theorem vdS:VS wK iB "_law_texts" 1:=vq
theorem vdT:VS wK iB "_law_strength" 2:=vq
theorem aiM(F:FunD K "_law_asked" "_law_asked" iB f fd)(T:Txt P w K mg C)(G_sorted_texts:FO P w K mg base 11 "sorted_texts" ["order", "texts", "strength"] [.int 4] (lN C pt_sorted_texts ⟨277,29,277,68⟩ "sorted_texts.<locals>.<lambda>"))(G3_sorted_texts:FO P w K mg base 11 "sorted_texts" ["order", "texts", "strength"] [] (lN C pt_sorted_texts ⟨277,29,277,68⟩ "sorted_texts.<locals>.<lambda>")):FnOk P w K mg base E8 12 f fd ["_law_order", "_law_texts", "_law_strength"] (akz C pt_sorted_texts ⟨277,29,277,68⟩ "sorted_texts.<locals>.<lambda>"):=by
 refine F.ok aiL ?_ ?_
 .rintro _ _ _ _ ⟨o,a,n,R,L,M,ts,rfl,_⟩;rfl
 .intro cdv A outer s H vs Q E hr h;have C5:=hu_of hr;have hu:=hr.units;refine ⟨_,QSs.out (A6 (qs_if (K2 (q_eq (K:=K) hu) (vi vdT) A5) (B1 (E6 (F7 G_sorted_texts (hm hr) (qa_c (vi vdR) (qa_c (vi vdS) A1))))) M0)
   (B1 (E6 (F7 G3_sorted_texts (hm hr) (qa_c (vi vdR) (qa_c (vi vdS) (qa_c (vi vdT) A1))))))),?_⟩
  obtain ⟨o,a,n,R,L,M,ts,rfl,zH,iP,hO,ha,ht,hl,hT,q⟩:=h;walk_at "rd";refine iteD (fun e=>⟨o,a,4,R,L,M,ts,rfl,by decide,hO,ha,ht,hl,hT,?_⟩) fun e=>⟨o,a,n,R,L,M,ts,rfl,by lia,hO,ha,ht,hl,hT,?_⟩
  .rw [show min n 4=4 by lia] at q;exact q
  .rw [show min n 4=n by lia] at q;exact q
theorem sc_law:FnScope ["_law_script", "_law_rules_here", "_law_known", "_law_order", "_law_shape", "_law_strength", "_law_texts", "_law_cell", "_law_handed", "_law_got", "_law_places_here", "_law_k", "_law_put", "_law_same"] ["_law_script"] (C3 s_law):=J8
abbrev n_law:List Str:=["_law_script", "_law_rules_here", "_law_known", "_law_order", "_law_shape", "_law_strength", "_law_texts", "_law_cell", "_law_handed", "_law_got", "_law_places_here", "_law_k", "_law_put", "_law_same"]
theorem wL:VS n_law s_law "_law_script" 0:=vq
theorem vdV:VS n_law s_law "_law_rules_here" 1:=vq
theorem vdW:VS n_law s_law "_law_known" 2:=vq
theorem wM:VS n_law s_law "_law_order" 3:=vq
theorem vdY:VS n_law s_law "_law_shape" 4:=vq
theorem wN:VS n_law s_law "_law_strength" 5:=vq
theorem lU:VS n_law s_law "_law_texts" 6:=vq
theorem vd1:VS n_law s_law "_law_cell" 7:=vq
theorem wO:VS n_law s_law "_law_handed" 8:=vq
theorem cR:VS n_law s_law "_law_got" 9:=vq
theorem wP:VS n_law s_law "_law_places_here" 10:=vq
theorem qE:VS n_law s_law "_law_k" 11:=vq
theorem vd6:VS n_law s_law "_law_put" 12:=vq
theorem vd7:VS n_law s_law "_law_same" 13:=vq
theorem vd8:LS s_law "_law_rules_here":=lq
theorem vd9:LS s_law "_law_known":=lq
theorem vea:LS s_law "_law_order":=lq
theorem veb:LS s_law "_law_shape":=lq
theorem vec:LS s_law "_law_strength":=lq
theorem ved:LS s_law "_law_texts":=lq
theorem vee:LS s_law "_law_cell":=lq
theorem vef:LS s_law "_law_handed":=lq
theorem veg:LS s_law "_law_got":=lq
theorem veh:LS s_law "_law_places_here":=lq
theorem vei:LS s_law "_law_k":=lq
theorem vej:LS s_law "_law_put":=lq
theorem vek:LS s_law "_law_same":=lq
theorem arj(F:FunD K "law" "law" s_law f fd)(T:Txt P w K mg C)(G_Order___init__:KO P w K mg base 5 C "Order" ["self", "rules"] (uE C))(G3_compare:FO P w K mg base 8 "compare" ["order", "one", "other", "strength"] [] (pR C))(G_l_number:FO P w K mg base 1 "_law_number" ["_law_script", "_law_k"] [] (amB K))(G_l_rules:FO P w K mg base 2 "_law_rules" ["_law_number_here"] [] amC)(G_l_places:FO P w K mg base 1 "_law_places" ["_law_got", "_law_texts"] [] ah4)(G_l_text:FO P w K mg base 1 "_law_text" ["_law_number_here", "_law_known"] [] akw)(G_l_asked:FO P w K mg base 12 "_law_asked" ["_law_order", "_law_texts", "_law_strength"] [] (akz C pt_sorted_texts ⟨277,29,277,68⟩ "sorted_texts.<locals>.<lambda>")):FnOk P w K mg base E8 13 f fd ["_law_script"] (pT K [pt_sorted_texts]):=by
 refine F.ok sc_law ?_ ?_
 .rintro _ _ _ _ ⟨a,ns,rfl,_⟩;rfl
 .intro cdv A outer s H vs Q E hr h;have C5:=hu_of hr;have hu:=hr.units;refine ⟨_,QSs.out (A6 (amj (F7 G_l_rules (hm hr) (qa_c (F7 G_l_number (hm hr) (qa_c (vi wL) (qa_c A5 A1))) A1)) (cF (K:=K) (n:=2) (R8 ((D7 (n:=1) sc_law.nd rfl vd8 (.inl rfl))) (R8 ((D7 (n:=2) sc_law.nd rfl vd9 (.inl rfl))) cE))))
   (A6 (E1 (n:=3) sc_law.nd rfl vea (anS G_Order___init__ (hm hr) (qa_c (vi vdV) A1)))
   (A6 (E1 (n:=4) sc_law.nd rfl veb (F7 G_l_number (hm hr) (qa_c (vi wL) (qa_c A5 A1))))
   (eI (qs_if (K2 (q_eq (K:=K) hu) (qe_op q_mod (vi vdY) A5) A5) (B1 (E1 (n:=2) sc_law.nd rfl vd9 (T8 (K:=K) (vi vdW) i8 (O7 A5)))) M0)
   (A6 (E1 (n:=5) sc_law.nd rfl vec (qe_op (q_add (K:=K)) A5 (qe_op q_mod (qe_op m5 (vi vdY) A5) A5)))
   (A6 (E1 (n:=6) sc_law.nd rfl ved (N2 A1))
   (A6 (O0 PassesOwn.never (O5 (K:=K) (T8 (K:=K) (vi wL) (O7 A5) (O7 A5))) (D7 (n:=7) sc_law.nd rfl vee (.inl rfl)) (B1 (N3 (qe_mB (K:=K) N8 T7 T6 T9 (vi lU) (qa_c (F7 G_l_text (hm hr) (qa_c (qe_op q_mod (qe_op q_mul (vi vd1) A5) A5) (qa_c (vi vdW) A1))) A1)))))
   (A6 (E1 (n:=8) sc_law.nd rfl vef (qe_cT (gU (K:=K) (calm:=true)) T.b_list eE (qa_c (vi lU) A1)))
   (A6 (E1 (n:=9) sc_law.nd rfl veg (F7 G_l_asked (hm hr) (qa_c (vi wM) (qa_c (vi wO) (qa_c (vi wN) A1)))))
   (A6 (qs_if (QW.pt (qw_or (tD (Y5 (K:=K) (qe_cB q_isi T.b_isinstance afe (qa_c (vi cR) (qa_c (qe_ty T.b_list eE) A1))))) (qw_or (K2 (q_ne (K:=K) hu) (qe_cB (q_len (K:=K)) T.b_len i6 (qa_c (vi cR) A1)) (qe_cB (q_len (K:=K)) T.b_len i6 (qa_c (vi lU) A1))) (tE (K2 (q_ne (K:=K) hu) (vi wO) (vi lU)))))) (B1 (E6 qe_bl)) M0)
   (A6 (E1 (n:=10) sc_law.nd rfl veh (F7 G_l_places (hm hr) (qa_c (vi cR) (qa_c (vi lU) A1))))
   (A6 (qs_if (K2 q_isN (vi wP) ami) (B1 (E6 qe_bl)) M0)
   (A6 (O0 PassesOwn.never (qi_r2 T.b_range (qa_c A5 (qa_c (qe_cB (q_len (K:=K)) T.b_len i6 (qa_c (vi cR) A1)) A1))) (D7 (n:=11) sc_law.nd rfl vei (.inl rfl)) (A6 (E1 (n:=12) sc_law.nd rfl vej (F7 G3_compare (hm hr) (qa_c (vi wM) (qa_c (qe_ix (K:=K) (vi cR) (qe_op q_sub (vi qE) A5)) (qa_c (qe_ix (K:=K) (vi cR) (vi qE)) (qa_c (qe_cB (q_min (calm:=true)) T.b_min amg (qa_c (vi wN) (qa_c A5 A1))) A1))))))
   (B1 (qs_if (QW.pt (qw_or (K2 (q_eq (K:=K) hu) (vi vd6) A5) (tE (QW.pt (kL (K2 (q_eq (K:=K) hu) (vi vd6) A5) (kK (K2 q_gt (qe_ix (K:=K) (vi wP) (qe_op q_sub (vi qE) A5)) (qe_ix (K:=K) (vi wP) (vi qE))))))))) (B1 (E6 qe_bl)) M0))))
   (A6 (E1 (n:=13) sc_law.nd rfl vek (qe_cT (gU (K:=K) (calm:=true)) T.b_list eE (qa_c (vi cR) A1)))
   (A6 (N3 (qe_m0 (K:=K) N8 PySem.F.slot_list_clear PySem.F.type_list_clear anJ (vi cR)))
   (B1 (E6 (oO (q_eq (K:=K) hu) (F7 G_l_asked (hm hr) (qa_c (vi wM) (qa_c (vi wO) (qa_c (vi wN) A1)))) (vi vd7))))))))))))))))))),?_⟩
  obtain ⟨a,ns,rfl,hS,A7,hT0,q⟩:=h;have hT:H pt_sorted_texts=some (.tbl #[]):=hT0 _ (by simp);clear hT0;walk_at "rd";refine ⟨a,ns,0,rfl,hS,by decide,_,rfl,fun l r k ts ls ms ks aa f g xx qq o b1 b2 b3 H1 S1 nr nk hl hR sh hk hP=>?_⟩;refine ⟨l,rfl,_,.of hl,rfl,_,_,rfl,_,_,rfl,rfl,fun x dx nx ndx ndxx=>?_⟩;have S2:Same H1 (A0 (A0 H1 dx (.own x)) x (.ins C dx [])):=(Same.new ndx).trans (Same.new (by rw [A3 ndxx.symm];exact nx));have fT:A0 (A0 H1 dx (.own x)) x (.ins C dx []) x=some (.ins C dx []):=A2;generalize A0 (A0 H1 dx (.own x)) x (.ins C dx [])=H2 at S2 fT;refine ⟨x,dx,r,ts,_,_,_,_,rfl,fT,hR.same S2,sh.good,fun j ll ml md L M H3 nj nll nml nmd B3 hO=>⟨rfl,?_⟩⟩;have zI:Same H1 H3:=fun b o hb=>B3 _ _ (fun e=>by rw [e,nx] at hb;cases hb) (S2 _ _ hb)
  have ot:OrdT C H3 x (G7 ls ms aa f g xx qq o b1 b2 b3) L M:=⟨⟨_,_,_,_,_,hO⟩,sh.knownL,sh.steps L M⟩
  have zJ:=S1.trans zI;have zK:=zI _ _ hk;clear hO B3 fT S2 hR nx ndx ndxx nr nk hl zI hk S1;refine ⟨a,ns,1,rfl,zJ.seq hS,by decide,?_⟩;generalize numF ns 1=n1;have txt:∀ z,n8 ks 5 z->TxtT (G7 ls ms aa f g xx qq o b1 b2 b3) z/\(∀ c∈z.cps.toList,0<c)/\bT z=true:=fun z hz=>⟨sh.txt hP hz (by decide),fun c hc=>(sh.pos hP hz c hc).1,aon fun c hc=>(sh.pos hP hz c hc).2⟩
  have h2:∀ p∈ks,p.length<=3:=fun p hp=>(hP.2.2 p hp).2.1
  have h0:=hP.1;generalize G7 ls ms aa f g xx qq o b1 b2 b3=R at ot txt;clear sh hP;refine aI (fun Y H4=>∃ (k2:Addr) (nH:List Str),Y=[some (.ref a),some (.ref r),some (.ref k2),some (.ref x),some (.int n1),none,none,none,none,none,none,none,none,none]/\Same H3 H4/\H4 k2=some (.lst (nH.map V.str))/\nH≠[]/\∀ p∈nH,p∈ks) ?_ ?_
  .walk_at "rd";refine iteD (fun _=>rSlR.l (.of zK) fun k2 nk2=>?_) fun _=>⟨Same.refl _,ks,zK,h0,fun _ h=>h⟩
   rw [show cutV (ks.map V.str) none (some 4)=(ks.take 4).map V.str by rw [show cutV (ks.map V.str) none (some 4)=_ from kN _ 4,dO]];refine ⟨k2,rfl,Same.new nk2,ks.take 4,A2,fun e=>?_,fun p hp=>nR hp⟩
   cases ks with
   | nil=>exact h0 rfl
   | cons x xs=>cases e
  rintro Y H4 ⟨k2,nH,rfl,S4,hk4,h02,o7⟩;have ot4:=ot.same S4;have zL:=zJ.trans S4;clear ot S4 zJ zK;obtain ⟨n,hn,zH,iP⟩:∃ n:Nat,1+n1 / 2 % 5=(n:Int)/\1<=n/\n<=5:=⟨(1+n1 / 2 % 5).toNat,by lia,by lia,by lia⟩
  walk_at "rd";rw [hn];intro T nT;refine rSlR.l ((zL.trans (Same.new nT)).seq hS) fun c0 rG=>?_
  rw [show cutV (ns.map V.int) (some 2) (some 62)=((ns.drop 2).take 60).map V.int by rw [show cutV (ns.map V.int) (some 2) (some 62)=_ from uD _ (i:=2) (j:=62) (by decide),<- List.map_drop,<- dO]];have bA:((ns.drop 2).take 60).length<=60:=by rw [G6];lia
  generalize (ns.drop 2).take 60=cs at bA;have nct:c0≠T:=fun e=>by rw [e,A2] at rG;cases rG
  have S5:Same H4 (A0 (A0 H4 T (.lst [])) c0 (.lst (cs.map V.int))):=(Same.new nT).trans (Same.new rG);have hT5:A0 (A0 H4 T (.lst [])) c0 (.lst (cs.map V.int)) T=some (.lst (([]:List Str).map V.str)):=by rw [A3 nct.symm,A2];rfl
  have T3:A0 (A0 H4 T (.lst [])) c0 (.lst (cs.map V.int)) c0=some (.lst (cs.map V.int)):=A2;generalize A0 (A0 H4 T (.lst [])) c0 (.lst (cs.map V.int))=H5 at S5 hT5 T3;refine ⟨c0,rfl,⟨_,.of T3⟩,forL (xs:=cs.map V.int) (fun i Y H'=>∃ (u7:Option V) (zs:List Str),Y=[some (.ref a),some (.ref r),some (.ref k2),some (.ref x),some (.int n1),some (.int n),some (.ref T),u7,none,none,none,none,none,none]/\Same H4 H'/\H' c0=some (.lst (cs.map V.int))/\H' T=some (.lst (zs.map V.str))/\zs.length=i/\∀ z∈zs,n8 ks 5 z)
   ⟨_,[],rfl,S5,T3,hT5,rfl,by simp⟩ (by rintro i Y H' _ ⟨_,_,_,_,hc,_⟩;exact .of hc) ?_ ?_⟩
  .rintro i v Y H' hv ⟨u7,zs,rfl,S,hc,hT',P5,ho⟩;obtain ⟨m,hm,rfl⟩:=K1 hv;have hi:i<cs.length:=(E9.mp hm).1;walk_at "rd";refine ⟨N1 hT',.inr ⟨by lia,by lia⟩,_,k2,nH,rfl,S _ _ hk4,h02,fun p hp=>h2 p (o7 p hp),fun z hz=>appOk hT' (by rw [A4];exact G9 (by lia)) ⟨S.put nT,by rw [A3 nct];exact hc,zs++[z],by rw [A2,D9];rfl,by rw [C8,P5];rfl,fun y hy=>?_⟩⟩
   rcases D3.mp hy with h | h
   .exact ho y h
   .rw [D1.mp h];exact hz.sub o7 (A8 _)
  rintro Y H6 ⟨u7,zs,rfl,S,hc,hT6,P5,ho⟩;rw [A4] at P5;have ot6:=ot4.same S;have S06:=zL.trans S;have tx:∀ z∈zs,TxtT R z/\(∀ c∈z.cps.toList,0<c)/\bT z=true:=fun z hz=>txt z (ho z hz)
  clear S5 hT5 T3 rG nct nT S zL ot4 txt ho hc hk4;walk_at "rd";refine rListR.l (.inl (.of hT6)) fun hd nhd=>?_
  have S7:Same H6 (A0 H6 hd (.lst (zs.map V.str))):=Same.new nhd;have rH:A0 H6 hd (.lst (zs.map V.str)) hd=some (.lst (zs.map V.str)):=A2;generalize A0 H6 hd (.lst (zs.map V.str))=H7 at S7 rH;have nI:=ot6.same S7;have hT7:=S7 _ _ hT6;have tb7:TabOk H7 pt_sorted_texts ⟨277,29,277,68⟩ "sorted_texts.<locals>.<lambda>":=.inl ((S06.trans S7) _ _ hT);clear ot6 hT6 nhd S7 S06;refine ⟨x,hd,n,R,L,M,zs,rfl,zH,iP,nI,rH,fun z hz=>(tx z hz).1,by lia,tb7,fun g1 H8 p ng S8 tb8 hp rJ=>?_⟩;have zM:=Kp.tab S8 tb7;have nl:∀ {xs:List V} (ps:Array Value),HO.lst xs≠.tbl ps:=by intro xs ps e;cases e
  have hh8:=zM _ _ rH nl;have hT8:=zM _ _ hT7 nl;have R4:p.length=zs.length:=by have:=hp.pm.length_eq;rw [bL,A4] at this;exact this
  refine ⟨"list",anI rJ,rfl,?_⟩;rw [if_neg (by decide)];walk_at "rd";refine ⟨zs.length,.inl ⟨_,.of rJ,by rw [A4,A4,R4]⟩,zs.length,.inl ⟨_,.of hT8,by rw [A4]⟩,?_⟩;rw [decide_eq_true rfl,if_neg (by decide)];have so:∀ z∈zs,bT z=true:=fun z hz=>(tx z hz).2.2
  refine ⟨_,.lst (.of hh8) (kF so),_,.lst (.of hT8) (kF so),by rw [z0,sW];exact L4 (Nat.min_le_left _ _) (by decide),?_⟩;rw [ahC,decide_eq_true rfl,if_neg (by decide)];refine ⟨g1,T,zs,p,_,rfl,rJ,hT8,hp,by lia,fun pl H9 npl S9 zN=>?_⟩;refine iteD (c:=V.ref pl=V.non) (fun e=>by cases e) fun _=>?_
  have jI:=S9 _ _ rJ;have hh9:=S9 _ _ hh8;have kp9:=zM.tr (.of S9);have tb9:=tb8.same S9;have ot9:=nI.kp kp9;refine ⟨zs.length,.inl ⟨_,.of jI,by rw [A4,A4,R4]⟩,by decide,by decide,by lia,by lia,?_⟩;refine forR (fun i Y H'=>∃ (u11 u12:Option V),Y=[some (.ref a),some (.ref r),some (.ref k2),some (.ref x),some (.int n1),some (.int n),some (.ref T),u7,some (.ref hd),some (.ref g1),some (.ref pl),u11,u12,none]/\Same H9 H') ⟨none,none,rfl,Same.refl _⟩ ?_ ?_
  .rintro i Y H' hi ⟨u11,u12,rfl,S⟩;have hi:i+1<zs.length:=by lia
   obtain ⟨m1,cX⟩:∃ m,p[i]?=some m:=⟨_,F8 (by lia)⟩
   obtain ⟨m2,o9⟩:∃ m,p[i+1]?=some m:=⟨_,F8 (by lia)⟩
   have lt:∀ {j m:Nat},p[j]?=some m->m<zs.length:=fun h=>by
    have:=W9.mp (hp.pm.mem_iff.mp (M7 h))
    rwa [A4] at this
   have gt:∀ {j m:Nat},p[j]?=some m->∃ y,zs[m]?=some y/\((p.map fun i=>zs.getD i (Str.ofString "")).map V.str)[j]?=some (V.str y):=fun {j m} h=>by
    refine ⟨_,F8 (lt h),?_⟩;rw [L7,L7,h];show some (V.str (zs.getD m (Str.ofString "")))=_;rw [P0,F8 (lt h)];rfl
   obtain ⟨y1,e1,hy1⟩:=gt cX;obtain ⟨y2,e2,qQ⟩:=gt o9;have t1:=tx y1 (M7 e1);have t2:=tx y2 (M7 e2);obtain ⟨x1,x2⟩:=hp.up i (i+1) m1 m2 (by lia) cX o9;unfold keyB at x1 x2;rw [decide_eq_false_iff_not,P0,P0,L7,L7,e1,e2] at x1;rw [decide_eq_true_eq,P0,P0,L7,L7,e1,e2] at x2;have pk:=aol (R:=R) (L:=L) (M:=M) (n:=min n 4) (Nat.min_le_right _ _) t1.2.1 t2.2.1;obtain ⟨j,ll,ml,md,g,oo⟩:=(ot9.same S).ord;walk_at "rd";refine ⟨_,.inl (.of (S _ _ jI)),V.str y1,?_,_,.inl (.of (S _ _ jI)),V.str y2,?_,?_⟩
   .rw [show (1:Int)+(i:Int)-1=(i:Int) by lia];exact E7 hy1
   .rw [show (1:Int)+(i:Int)=((i+1:Nat):Int) by lia];exact E7 qQ
   rw [show (if (4:Int)<(n:Int) then 4 else (n:Int))=((min n 4:Nat):Int) by split <;> lia];refine ⟨x,j,ll,ml,md,y1,y2,min n 4,g,R,L,M,rfl,Nat.min_le_right _ _,oo,nI.kn,t1.1.1,t2.1.1,t1.1.2,t2.1.2,nI.st,fun U4 R5=>?_⟩;rw [<- pk]
   replace x1:¬ keyZ (min n 4) R L M y2<keyZ (min n 4) R L M y1:=x1
   replace x2:keyZ (min n 4) R L M y1<keyZ (min n 4) R L M y2\/m1<m2:=x2
   generalize keyZ (min n 4) R L M y1=A at x1 x2;generalize keyZ (min n 4) R L M y2=B at x1 x2;have dJ:=R5 _ _ (S _ _ zN);walk_at "rd";refine iteD (fun e=>absurd e ?_) fun _=>iteD (fun e=>⟨_,.inl (.of dJ),V.int m1,?_,_,.inl (.of dJ),V.int m2,?_,?_⟩) fun _=>S.trans R5
   .unfold putI
    split
    .decide
    .split
     .decide
     .rename_i q1 q2
      rcases uW A B with t | t | t
      .exact absurd t q1
      .exact absurd t q2
      .exact absurd t x1
   .rw [show (1:Int)+(i:Int)-1=(i:Int) by lia];exact E7 (by rw [L7,cX];rfl)
   .rw [show (1:Int)+(i:Int)=((i+1:Nat):Int) by lia];exact E7 (by rw [L7,o9];rfl)
   .have e3:A=B:=by
     unfold putI at e
     split at e
     .assumption
     .split at e <;> cases e
    have hm:m1<m2:=x2.elim (fun q=>absurd (by rw [<- e3] at q;exact q) (List.lt_irrefl _)) id;walk_at "rd";exact iteD (fun e=>by lia) fun _=>S.trans R5
  rintro Y H' ⟨u11,u12,rfl,S⟩;walk_at "rd";refine rListR.l (.inl (.of (S _ _ jI))) fun sm nsm=>?_
  have R5:=S.trans (Same.new (u:=HO.lst ((p.map fun i=>zs.getD i (Str.ofString "")).map V.str)) nsm);have nJ:A0 H' sm (.lst ((p.map fun i=>zs.getD i (Str.ofString "")).map V.str)) sm=some (.lst ((p.map fun i=>zs.getD i (Str.ofString "")).map V.str)):=A2;have nsg:sm≠g1:=fun e=>by rw [e,S _ _ jI] at nsm;cases nsm
  generalize A0 H' sm (.lst ((p.map fun i=>zs.getD i (Str.ofString "")).map V.str))=U4 at R5 nJ;have fW:=R5 _ _ jI;refine ⟨N1 fW,clrOk fW ?_⟩;have kp11:=(kp9.tr (.of R5)).but (ako (o:=HO.lst [])) ng;have tb11:=aoi (tb9.same R5) (ako (d:=g1) (o:=HO.lst [])) fW nl (by intro φ e;cases e);have nK:A0 U4 g1 (.lst []) sm=some (.lst ((p.map fun i=>zs.getD i (Str.ofString "")).map V.str)):=by rw [A3 nsg];exact nJ
  generalize A0 U4 g1 (.lst [])=dB at kp11 tb11 nK;refine ⟨x,hd,n,R,L,M,zs,rfl,zH,iP,nI.kp kp11,kp11 _ _ rH nl,fun z hz=>(tx z hz).1,by lia,tb11,fun g2 jD p2 ng2 Y1 tb12 V3 nM=>?_⟩;rw [<- aom hp V3] at nM;have so2:∀ z∈p.map fun i=>zs.getD i (Str.ofString ""),bT z=true:=fun z hz=>by
   obtain ⟨i,hi,rfl⟩:=E2.mp hz;have V4:=W9.mp (hp.pm.mem_iff.mp hi);rw [A4] at V4;rw [P0,F8 V4];exact so _ (List.getElem_mem V4)
  have zO:=keepP Y1 tb11 nK nl;walk_at "rd";refine ⟨_,.lst (.of nM) (kF so2),_,.lst (.of zO) (kF so2),by rw [z0,sW];exact L4 (Nat.min_le_left _ _) (by decide),?_⟩;rw [ahC,decide_eq_true rfl];exact q _
end
theorem all_mk{l:PySem.W.OpenLaw}{w:World}(X:K.In h)(G:h.Ns mainGlobals mg)(rA:mg "law"=some (.ref fa))(d0:DF K "told" w5)(d1:DF K "followers" Y9)(d2:DF K "count_ahead" w6)(d3:DF K "lined_up" Q3)(d4:DF K "is_figure" pM)(d5:DF K "has_rule" lB)(d6:DF K "pieces_told" pN)(d7:DF K "is_clash" cJ)(d8:DF K "jobs_of" j5)(d9:DF K "misused" aK)(d10:DF K "check_letters" aL)(d11:DF K "line_of" lC)(d12:DF K "forms_of" cK)(d13:DF K "steps_of" P8){f14:Addr}{od14 an14:Option Addr}{sl14:Array (Option Value)}{oc14 kV14 dc14 pm14 cd14 ct14:Value}(a14:R0 K (.ref C) "__init__"=some (some (.ref f14)))(i14:PySem.W.isFn K (.ref f14)=true)(l14:K.lookup f14=some ⟨oc14,od14,.func (R6 "__init__" "Order.__init__" (U8 cL) (R7 cL) (C3 cL) .none kV14 dc14 pm14 an14 cd14 ct14),sl14⟩)(c14:X1 K cd14 "Order.__init__"=true)(k14:V9 K (.ref f14)=true)(d15:DF K "figures_at" eQ)(d16:DF K "part_at" aM){f17:Addr}{od17 an17:Option Addr}{sl17:Array (Option Value)}{oc17 kV17 dc17 pm17 cd17 ct17:Value}{tD17:Addr}{nD17:Nat}{cD17:Value}{oD17:Option Addr}{sD17:Array (Option Value)}(dl17:K.lookup tD17=some ⟨cD17,oD17,.seq #[.bool false] nD17,sD17⟩)(a17:O3 K mainGlobals "cut"=some (some (.ref f17)))(l17:K.lookup f17=some ⟨oc17,od17,.func (R6 "cut" "cut" (U8 s_cut) (R7 s_cut) (C3 s_cut) (.ref tD17) kV17 dc17 pm17 an17 cd17 ct17),sl17⟩)(c17:X1 K cd17 "cut"=true)(k17:V9 K (.ref f17)=true){f18:Addr}{od18 an18:Option Addr}{sl18:Array (Option Value)}{oc18 kV18 dc18 pm18 cd18 ct18:Value}(a18:R0 K (.ref C) "known"=some (some (.ref f18)))(i18:PySem.W.isFn K (.ref f18)=true)(l18:K.lookup f18=some ⟨oc18,od18,.func (R6 "known" "Order.known" (U8 eR) (R7 eR) (C3 eR) .none kV18 dc18 pm18 an18 cd18 ct18),sl18⟩)(c18:X1 K cd18 "Order.known"=true)(k18:V9 K (.ref f18)=true){f19:Addr}{od19 an19:Option Addr}{sl19:Array (Option Value)}{oc19 kV19 dc19 pm19 cd19 ct19:Value}(a19:R0 K (.ref C) "steps"=some (some (.ref f19)))(i19:PySem.W.isFn K (.ref f19)=true)(l19:K.lookup f19=some ⟨oc19,od19,.func (R6 "steps" "Order.steps" (U8 cM) (R7 cM) (C3 cM) .none kV19 dc19 pm19 an19 cd19 ct19),sl19⟩)(c19:X1 K cd19 "Order.steps"=true)(k19:V9 K (.ref f19)=true)(d20:DF K "parts_of" lE)(d21:DF K "steps_by" lF)(d22:DF K "add_mark" lG)(d23:DF K "add_part" j6)(d24:DF K "units" w8)(d25:DF K "first_numbers" lH)(d26:DF K "first_level" cN)(d27:DF K "second_level" x0)(d28:DF K "third_level" lI)(d29:DF K "fourth_level" lJ){f30:Addr}{od30 an30:Option Addr}{sl30:Array (Option Value)}{oc30 kV30 dc30 pm30 cd30 ct30:Value}{kD30:Tok}{tD30:Addr}{nD30:Nat}{cD30:Value}{oD30:Option Addr}{sD30:Array (Option Value)}(dl30:K.lookup tD30=some ⟨cD30,oD30,.seq #[.int 4 kD30] nD30,sD30⟩)(a30:O3 K mainGlobals "key"=some (some (.ref f30)))(l30:K.lookup f30=some ⟨oc30,od30,.func (R6 "key" "key" (U8 s_key) (R7 s_key) (C3 s_key) (.ref tD30) kV30 dc30 pm30 an30 cd30 ct30),sl30⟩)(c30:X1 K cd30 "key"=true)(k30:V9 K (.ref f30)=true)(d31:DF K "looks" j7){f32:Addr}{od32 an32:Option Addr}{sl32:Array (Option Value)}{oc32 kV32 dc32 pm32 cd32 ct32:Value}{kD32:Tok}{tD32:Addr}{nD32:Nat}{cD32:Value}{oD32:Option Addr}{sD32:Array (Option Value)}(dl32:K.lookup tD32=some ⟨cD32,oD32,.seq #[.int 4 kD32] nD32,sD32⟩)(a32:O3 K mainGlobals "compare"=some (some (.ref f32)))(l32:K.lookup f32=some ⟨oc32,od32,.func (R6 "compare" "compare" (U8 W6) (R7 W6) (C3 W6) (.ref tD32) kV32 dc32 pm32 an32 cd32 ct32),sl32⟩)(c32:X1 K cd32 "compare"=true)(k32:V9 K (.ref f32)=true)(d33:DF K "_law_number" lK)(d34:DF K "_law_sign" x3)(d35:DF K "_law_rules" O8)(d36:DF K "_law_places" c9){f37:Addr}{od37 an37:Option Addr}{sl37:Array (Option Value)}{oc37 kV37 dc37 pm37 ct37:Value}{kD37:Tok}{tD37:Addr}{nD37:Nat}{cD37:Value}{oD37:Option Addr}{sD37:Array (Option Value)}(dl37:K.lookup tD37=some ⟨cD37,oD37,.seq #[.int 4 kD37] nD37,sD37⟩)(a37:O3 K mainGlobals "sorted_texts"=some (some (.ref f37))){oL37:Value}{dL37:Option Addr}{vL37:Array Value}{sL37:Array (Option Value)}(l37:K.lookup f37=some ⟨oc37,od37,.func (R6 "sorted_texts" "sorted_texts" (U8 cO) (R7 cO) (C3 cO) (.ref tD37) kV37 dc37 pm37 an37 (.ref cl_sorted_texts) ct37),sl37⟩)(c37:X1 K (.ref cl_sorted_texts) "sorted_texts"=true)(k37:V9 K (.ref f37)=true)(lc37:K.lookup cl_sorted_texts=some ⟨oL37,dL37,.fields vL37,sL37⟩)(lp37:vL37[11]?=some (.ref pt_sorted_texts))(d38:DF K "_law_text" aN)(d39:DF K "_law_asked" iB){f40:Addr}{od40 an40:Option Addr}{sl40:Array (Option Value)}{oc40 kV40 dc40 pm40 cd40 ct40:Value}(a40:O3 K mainGlobals "law"=some (some (.ref f40)))(l40:K.lookup f40=some ⟨oc40,od40,.func (R6 "law" "law" (U8 s_law) (R7 s_law) (C3 s_law) .none kV40 dc40 pm40 an40 cd40 ct40),sl40⟩)(c40:X1 K cd40 "law"=true)(k40:V9 K (.ref f40)=true)(aC:O3 K mainGlobals "Order"=some (some (.ref C)))(pgC:jU K C Str.empty=true)(hdC:PySem.W.hasDictIn K C=true)(poC:PySem.W.plainOver K C=true)(saC:R0 K (.ref C) "__setattr__"=some (some (.builtin "object.__setattr__")))(mkC:PySem.W.makesIn K C=true)(kcC:V9 K (.ref C)=true)(nC_figures:R0 K (.ref C) "figures"=some none)(nC_behind:R0 K (.ref C) "behind"=some none)(nC_jobs:R0 K (.ref C) "jobs"=some none)(nC_letter_line:R0 K (.ref C) "letter_line"=some none)(nC_mark_line:R0 K (.ref C) "mark_line"=some none)(nC_made:R0 K (.ref C) "made"=some none)(z_any:O3 K mainGlobals "any"=some none)(z_dict:O3 K mainGlobals "dict"=some none)(z_enumerate:O3 K mainGlobals "enumerate"=some none)(z_int:O3 K mainGlobals "int"=some none)(z_isinstance:O3 K mainGlobals "isinstance"=some none)(z_len:O3 K mainGlobals "len"=some none)(z_list:O3 K mainGlobals "list"=some none)(z_min:O3 K mainGlobals "min"=some none)(z_ord:O3 K mainGlobals "ord"=some none)(z_range:O3 K mainGlobals "range"=some none)(z_sorted:O3 K mainGlobals "sorted"=some none)(z_tuple:O3 K mainGlobals "tuple"=some none)(z_zip:O3 K mainGlobals "zip"=some none){a_JOBS:Addr}{ep_JOBS:Nat}{h_JOBS_0:Int}{t_JOBS_0 u_JOBS_0:Tok}{h_JOBS_1:Int}{t_JOBS_1 u_JOBS_1:Tok}{h_JOBS_2:Int}{t_JOBS_2 u_JOBS_2:Tok}{h_JOBS_3:Int}{t_JOBS_3 u_JOBS_3:Tok}{h_JOBS_4:Int}{t_JOBS_4 u_JOBS_4:Tok}(y_JOBS:O3 K mainGlobals "JOBS"=some (some (.ref a_JOBS)))(d_JOBS:K.lookup a_JOBS=some { cls:=.type "dict",dict:=none,data:=.dict #[⟨h_JOBS_0,.str "row" t_JOBS_0,.str "letter" u_JOBS_0⟩,⟨h_JOBS_1,.str "marks" t_JOBS_1,.str "mark" u_JOBS_1⟩,⟨h_JOBS_2,.str "great" t_JOBS_2,.str "great" u_JOBS_2⟩,⟨h_JOBS_3,.str "as" t_JOBS_3,.str "as" u_JOBS_3⟩,⟨h_JOBS_4,.str "over" t_JOBS_4,.str "over" u_JOBS_4⟩] ep_JOBS,slots:=#[] })(s_JOBS:(a_JOBS==sysModules)=false)(e_JOBS_0:h_JOBS_0=keyH w (Sum.inr ("row" : Str)))(e_JOBS_1:h_JOBS_1=keyH w (Sum.inr ("marks" : Str)))(e_JOBS_2:h_JOBS_2=keyH w (Sum.inr ("great" : Str)))(e_JOBS_3:h_JOBS_3=keyH w (Sum.inr ("as" : Str)))(e_JOBS_4:h_JOBS_4=keyH w (Sum.inr ("over" : Str))){a_AGAIN:Addr}{n_AGAIN:Nat}{od_AGAIN:Option Addr}{sl_AGAIN:Array (Option Value)}{t_AGAIN_0:Tok}{t_AGAIN_1:Tok}{t_AGAIN_2:Tok}(y_AGAIN:O3 K mainGlobals "AGAIN"=some (some (.ref a_AGAIN)))(d_AGAIN:K.lookup a_AGAIN=some ⟨.type "tuple",od_AGAIN,.seq #[.str "letter" t_AGAIN_0,.str "mark" t_AGAIN_1,.str "over" t_AGAIN_2] n_AGAIN,sl_AGAIN⟩){tMARK tLETTER tFIGURES:Tok}(y_MARK:O3 K mainGlobals "MARK"=some (some (.int 0 tMARK)))(y_LETTER:O3 K mainGlobals "LETTER"=some (some (.int 2 tLETTER)))(y_FIGURES:O3 K mainGlobals "FIGURES"=some (some (.int 1 tFIGURES)))
  : ∃ fd:FuncData,(∀ (s:Shared) (v:Value),BindsTo s fd ⟨[v],[]⟩ [("_law_script",v)])/\∀ base:Heap,K.In base->base.Ns mainGlobals mg->BaseT mg base [(cl_sorted_texts,pt_sorted_texts)]->FnOk l.prog w K mg base E8 13 fa fd ["_law_script"] (pT K ([(cl_sorted_texts,pt_sorted_texts)].map (·.2))):=by
 have e:=rA.symm.trans (W0 X G a40);cases e;have T:Txt l.prog w K mg C:=⟨⟨pgC,hdC,poC,saC⟩,nC_figures,nC_behind,nC_jobs,nC_letter_line,nC_mark_line,nC_made,Z8 X G z_any,Z8 X G z_dict,Z8 X G z_enumerate,Z8 X G z_int,Z8 X G z_isinstance,Z8 X G z_len,Z8 X G z_list,Z8 X G z_min,Z8 X G z_ord,Z8 X G z_range,Z8 X G z_sorted,Z8 X G z_tuple,Z8 X G z_zip,⟨_,W0 X G y_MARK⟩,⟨_,W0 X G y_LETTER⟩,⟨_,W0 X G y_FIGURES⟩,⟨_,W0 X G y_JOBS,anK d_JOBS s_JOBS (.cons ⟨gI _ _,e_JOBS_0,⟨_,rfl⟩⟩ ( .cons ⟨gI _ _,e_JOBS_1,⟨_,rfl⟩⟩ ( .cons ⟨gI _ _,e_JOBS_2,⟨_,rfl⟩⟩ ( .cons ⟨gI _ _,e_JOBS_3,⟨_,rfl⟩⟩ ( .cons ⟨gI _ _,e_JOBS_4,⟨_,rfl⟩⟩ ( .nil)))))) (by decide +kernel)⟩,⟨_,W0 X G y_AGAIN,fun H=>.inr ⟨_,_,_,d_AGAIN,rfl,rfl,(by show 3<=sizeLine;decide),.cons ⟨_,rfl⟩ ( .cons ⟨_,rfl⟩ ( .cons ⟨_,rfl⟩ ( .nil)))⟩⟩⟩
 have F14:=cB (st:=cL) l14 c14;have F17:=cB (st:=s_cut) l17 c17;have F18:=cB (st:=eR) l18 c18;have F19:=cB (st:=cM) l19 c19;have F30:=cB (st:=s_key) l30 c30;have F32:=cB (st:=W6) l32 c32;have F37:FunDL K "sorted_texts" "sorted_texts" cO f37 _ cl_sorted_texts:=⟨_,_,_,_,_,_,_,_,_,rfl,l37,c37⟩
 have F40:=cB (st:=s_law) l40 c40;refine ⟨R6 "law" "law" (U8 s_law) (R7 s_law) (C3 s_law) .none kV40 dc40 pm40 an40 cd40 ct40,fun s v=>.of_eq rfl,fun base hb hn BT=>?_⟩;have G_told:=d0.go X G hb fun F=>aoo F T
 have G_followers:=d1.go X G hb fun F=>agx F T G_told
 have G_count_ahead:=d2.go X G hb fun F=>aeo F T
 have G_lined_up:=d3.go X G hb fun F=>ahc F T G_followers G_count_ahead
 have G_is_figure:=d4.go X G hb fun F=>agz F T
 have G_has_rule:=d5.go X G hb fun F=>ahf F T
 have G_pieces_told:=d6.go X G hb fun F=>aeq F T
 have G_is_clash:=d7.go X G hb fun F=>ahh F T G_is_figure
 have G_jobs_of:=d8.go X G hb fun F=>aiF F T G_has_rule G_pieces_told G_is_clash
 have G_misused:=d9.go X G hb fun F=>aiG F T
 have G_check_letters:=d10.go X G hb fun F=>adE F T G_misused
 have G_line_of:=d11.go X G hb fun F=>aiI F T G_lined_up
 have G_forms_of:=d12.go X G hb fun F=>ahi F T
 have G_steps_of:=d13.go X G hb fun F=>ahj F T G_forms_of
 have G_Order___init__:KO l.prog w K mg base 5 C "Order" ["self", "rules"] (uE C):=⟨_,_,adx F14 T G_has_rule G_jobs_of G_check_letters G_line_of G_steps_of,⟨mkC,a14,i14,kcC⟩,W0 X G aC,.all (len2 fun _ _=>rfl)⟩
 have G_figures_at:=d15.go X G hb fun F=>afA F T G_is_figure
 have G_part_at:=d16.go X G hb fun F=>aiJ F T G_is_figure G_figures_at
 have G_cut:FO l.prog w K mg base 4 "cut" ["known", "text", "figures"] [.bl false] (pE K):=⟨_,_,amD F17 T G_part_at,W0 X G a17,k17,[.bool false],(fun s us K6 hl=>by obtain ⟨u1,u2,rfl⟩:=uG hl;exact bR K6 rfl dl17 rfl rfl rfl),.cons rfl .nil⟩
 have G3_cut:FO l.prog w K mg base 4 "cut" ["known", "text", "figures"] [] (pE K):=⟨_,_,amD F17 T G_part_at,W0 X G a17,k17,[],(fun s us K6 hl=>by obtain ⟨u1,u2,u3,rfl⟩:=uI hl;exact bR K6 rfl dl17 rfl rfl rfl),.nil⟩
 have G_Order_known:MO l.prog w K mg base 1 C "known" ["self"] (uJ C):=⟨_,_,aes F18 T,T.cl,⟨a18,i18,k18⟩,.all (len1 fun _=>rfl)⟩
 have G_Order_steps:MO l.prog w K mg base 1 C "steps" ["self", "piece"] (pG C):=⟨_,_,aeu F19 T,T.cl,⟨a19,i19,k19⟩,.all (len2 fun _ _=>rfl)⟩
 have G_parts_of:=d20.go X G hb fun F=>ahl F T G3_cut G_Order_known
 have G_steps_by:=d21.go X G hb fun F=>ahn F T G_is_figure G_Order_steps
 have G_add_mark:=d22.go X G hb fun F=>ahp F T
 have G_add_part:=d23.go X G hb fun F=>ahq F T G_steps_by G_add_mark
 have G_units:=d24.go X G hb fun F=>al6 F T G_parts_of G_add_part
 have G_first_numbers:=d25.go X G hb fun F=>adG F T
 have G_first_level:=d26.go X G hb fun F=>aev F T G_first_numbers
 have G_second_level:=d27.go X G hb fun F=>aeh F T
 have G_third_level:=d28.go X G hb fun F=>aex F T
 have G_fourth_level:=d29.go X G hb fun F=>aej F T
 have G_key:FO l.prog w K mg base 7 "key" ["order", "text", "strength"] [.int 4] (spKey C):=⟨_,_,amE F30 T G_units G_first_level G_second_level G_third_level G_fourth_level,W0 X G a30,k30,[.int 4 _],(fun s us K6 hl=>by obtain ⟨u1,u2,rfl⟩:=uG hl;exact bR K6 rfl dl30 rfl rfl rfl),.cons ⟨_,rfl⟩ .nil⟩
 have G3_key:FO l.prog w K mg base 7 "key" ["order", "text", "strength"] [] (spKey C):=⟨_,_,amE F30 T G_units G_first_level G_second_level G_third_level G_fourth_level,W0 X G a30,k30,[],(fun s us K6 hl=>by obtain ⟨u1,u2,u3,rfl⟩:=uI hl;exact bR K6 rfl dl30 rfl rfl rfl),.nil⟩
 have G_looks:=d31.go X G hb fun F=>al7 F T G_units
 have G_compare:FO l.prog w K mg base 8 "compare" ["order", "one", "other", "strength"] [.int 4] (pR C):=⟨_,_,ae2 F32 T G_looks,W0 X G a32,k32,[.int 4 _],(fun s us K6 hl=>by obtain ⟨u1,u2,u3,rfl⟩:=akp hl;exact bR K6 rfl dl32 rfl rfl rfl),.cons ⟨_,rfl⟩ .nil⟩
 have G3_compare:FO l.prog w K mg base 8 "compare" ["order", "one", "other", "strength"] [] (pR C):=⟨_,_,ae2 F32 T G_looks,W0 X G a32,k32,[],(fun s us K6 hl=>by obtain ⟨u1,u2,u3,u4,rfl⟩:=aoj hl;exact bR K6 rfl dl32 rfl rfl rfl),.nil⟩
 have G_l_number:=d33.go X G hb fun F=>ahs F T
 have G_l_sign:=d34.go X G hb fun F=>akB F T
 have G_l_rules:=d35.go X G hb fun F=>aiK F T G_l_sign
 have G_l_places:=d36.go X G hb fun F=>aht F T
 have G_sorted_texts:FO l.prog w K mg base 11 "sorted_texts" ["order", "texts", "strength"] [.int 4] (lN C pt_sorted_texts ⟨277,29,277,68⟩ "sorted_texts.<locals>.<lambda>"):=⟨_,_,acL F37 BT (.head _) T G3_key,W0 X G a37,k37,[.int 4 _],(fun s us K6 hl=>by obtain ⟨u1,u2,rfl⟩:=uG hl;exact bR K6 rfl dl37 rfl rfl rfl),.cons ⟨_,rfl⟩ .nil⟩
 have G3_sorted_texts:FO l.prog w K mg base 11 "sorted_texts" ["order", "texts", "strength"] [] (lN C pt_sorted_texts ⟨277,29,277,68⟩ "sorted_texts.<locals>.<lambda>"):=⟨_,_,acL F37 BT (.head _) T G3_key,W0 X G a37,k37,[],(fun s us K6 hl=>by obtain ⟨u1,u2,u3,rfl⟩:=uI hl;exact bR K6 rfl dl37 rfl rfl rfl),.nil⟩
 have G_l_text:=d38.go X G hb fun F=>akC F T
 have G_l_asked:=d39.go X G hb fun F=>aiM F T G_sorted_texts G3_sorted_texts
 exact arj F40 T G_Order___init__ G3_compare G_l_number G_l_rules G_l_places G_l_text G_l_asked
theorem walk{l:PySem.W.OpenLaw}{q:Program}{XP:(Str->Option Value)->Heap->Prop}{YP:World->Heap->Prop}{d:DefRec}{K:Params->PySem.W.Frag}(hn:l.most=some 63)(x9:d.params.defaults=[])(hY:∀ (w:World) (h:Heap),YP w h->(K w.params).In h)(hYT:∀ (w:World) (h:Heap),YP w h->PySem.W.TabsAt [(cl_sorted_texts,pt_sorted_texts)] h)(hK:∀ P,PySem.W.noTabs (K P)=true)(F:∀ (w:World) (mg:Str->Option Value) (fa:Addr) (h:Heap),(K w.params).In h->h.Ns mainGlobals mg->mg d.name=some (.ref fa)->
   ∃ fd:FuncData,(∀ (s:Shared) (u:Value),BindsTo s fd ⟨[u],[]⟩ [("_law_script",u)])/\∀ base:Heap,(K w.params).In base->base.Ns mainGlobals mg->BaseT mg base [(cl_sorted_texts,pt_sorted_texts)]->FnOk l.prog w (K w.params) mg base E8 13 fa fd ["_law_script"] (pT (K w.params) ([(cl_sorted_texts,pt_sorted_texts)].map (·.2)))) :
  PySem.W.WalkO q loose XP YP l.row.toRowW d [] (fun f vs=>PySem.call f vs):=
 L2.walk_ofT (n:=63) (k:=13) (x:="_law_script") (CX:=fun _=>E8) (sp:=fun w=>(pT (K w.params) ([(cl_sorted_texts,pt_sorted_texts)].map (·.2)))) hn (by decide) x9 ⟨rfl,by decide,by decide,rfl⟩ hY hYT hK F (fun _ _ a ns hl hO hS=>⟨a,ns,rfl,hS,hl,(fun t ht=>by obtain ⟨q,hq,rfl⟩:=E2.mp ht;exact hO.1 q hq),fun _=>rfl⟩) fun _ _ _ _ _ z=>z
end K51
open PySem PySem.W PyProof.Rows
set_option maxRecDepth 100000 in
set_option maxHeartbeats 0 in
theorem PySem.Challenge.cw_sortlore_k51_sorted_holds : PySem.Challenge.rw_sortlore_k51_sorted.Holds := by
 w_on;o_law;k_head;(case hw=>w_witness2)
 k_fill
 refine' K51.walk (l:=PySem.Challenge.rw_sortlore_k51_sorted) rfl rfl (fun w h zy=>PySem.W.km_in_of zy) ?YT ?NT ?F
 case F=>
  intro w mg fa h KX G mB
  refine' K51.all_mk KX G mB ?d0 ?d1 ?d2 ?d3 ?d4 ?d5 ?d6 ?d7 ?d8 ?d9 ?d10 ?d11 ?d12 ?d13 ?a14 ?i14 ?l14 ?c14 ?k14 ?d15 ?d16 ?dl17 ?a17 ?l17 ?c17 ?k17 ?a18 ?i18 ?l18 ?c18 ?k18 ?a19 ?i19 ?l19 ?c19 ?k19 ?d20 ?d21 ?d22 ?d23 ?d24 ?d25 ?d26 ?d27 ?d28 ?d29 ?dl30 ?a30 ?l30 ?c30 ?k30 ?d31 ?dl32 ?a32 ?l32 ?c32 ?k32 ?d33 ?d34 ?d35 ?d36 ?dl37 ?a37 ?l37 ?c37 ?k37 ?lc37 ?lp37 ?d38 ?d39 ?a40 ?l40 ?c40 ?k40 ?aC ?pgC ?hdC ?poC ?saC ?mkC ?kcC ?nC_figures ?nC_behind ?nC_jobs ?nC_letter_line ?nC_mark_line ?nC_made ?z_any ?z_dict ?z_enumerate ?z_int ?z_isinstance ?z_len ?z_list ?z_min ?z_ord ?z_range ?z_sorted ?z_tuple ?z_zip ?y_JOBS ?d_JOBS ?s_JOBS ?e_JOBS_0 ?e_JOBS_1 ?e_JOBS_2 ?e_JOBS_3 ?e_JOBS_4 ?y_AGAIN ?d_AGAIN ?y_MARK ?y_LETTER ?y_FIGURES
  any_goals (refine' K51.df_mk ?da ?dl ?dc ?dk;(case da=>k_is);(case dl=>k_is);(case dc=>k_is);(case dk=>k_is))
  (case aC=>k_is)
  (case a14=>k_is)
  (case i14=>k_is)
  (case l14=>k_is)
  (case c14=>k_is)
  (case k14=>k_is)
  (case a17=>k_is)
  (case l17=>k_is)
  (case c17=>k_is)
  (case k17=>k_is)
  (case a18=>k_is)
  (case i18=>k_is)
  (case l18=>k_is)
  (case c18=>k_is)
  (case k18=>k_is)
  (case a19=>k_is)
  (case i19=>k_is)
  (case l19=>k_is)
  (case c19=>k_is)
  (case k19=>k_is)
  (case a30=>k_is)
  (case l30=>k_is)
  (case c30=>k_is)
  (case k30=>k_is)
  (case a32=>k_is)
  (case l32=>k_is)
  (case c32=>k_is)
  (case k32=>k_is)
  (case a37=>k_is)
  (case l37=>k_is)
  (case c37=>k_is)
  (case k37=>k_is)
  (case lc37=>k_is)
  (case lp37=>rfl)
  (case a40=>k_is)
  (case l40=>k_is)
  (case c40=>k_is)
  (case k40=>k_is)
  (case pgC=>k_is)
  (case hdC=>k_is)
  (case poC=>k_is)
  (case saC=>k_is)
  (case mkC=>k_is)
  (case kcC=>k_is)
  (case nC_figures=>k_is)
  (case nC_behind=>k_is)
  (case nC_jobs=>k_is)
  (case nC_letter_line=>k_is)
  (case nC_mark_line=>k_is)
  (case nC_made=>k_is)
  (case z_any=>k_is)
  (case z_dict=>k_is)
  (case z_enumerate=>k_is)
  (case z_int=>k_is)
  (case z_isinstance=>k_is)
  (case z_len=>k_is)
  (case z_list=>k_is)
  (case z_min=>k_is)
  (case z_ord=>k_is)
  (case z_range=>k_is)
  (case z_sorted=>k_is)
  (case z_tuple=>k_is)
  (case z_zip=>k_is)
  (case y_JOBS=>k_is)
  (case d_JOBS=>k_is)
  (case s_JOBS=>rfl)
  (case e_JOBS_0=>rfl)
  (case e_JOBS_1=>rfl)
  (case e_JOBS_2=>rfl)
  (case e_JOBS_3=>rfl)
  (case e_JOBS_4=>rfl)
  (case y_AGAIN=>k_is)
  (case d_AGAIN=>k_is)
  (case y_MARK=>k_is)
  (case y_LETTER=>k_is)
  (case y_FIGURES=>k_is)
  (case dl17=>k_is)
  (case dl30=>k_is)
  (case dl32=>k_is)
  (case dl37=>k_is)
 case YT=>exact fun w h zy=>List.forall_mem_cons.mpr ⟨⟨PySem.W.codeHd_of_K (PySem.W.km_in_of zy) (by kernel_rfl),PySem.W.km_tabs_of zy _ (by simp)⟩,fun _ h=>nomatch h⟩
 case NT=>exact fun P=>by kernel_rfl
