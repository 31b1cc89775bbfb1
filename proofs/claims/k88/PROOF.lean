import PyProof.Rows.All
import Wide.All
import OpenK.AllK
import Wide.FinOn
import Lean
import PyProof.EqAt
import PyProof.EqKinds
import PyProof.TupleCall
import KE.KRevIter
import KE.KRevSl
import PySem.Challenge.RW_sortlore_k88_whole_book_of_changes
open PySem renaming Addr → ab, Value → ac, Shared → ag, sizeLine → ak, Expr → ao, Stmt → aq, wpAny_bind → ar, Heap → au, World → av, Pos → aw, Program → ax, Around → ay, wpAny_pure → bb, compareOp → bc, PassesOwn → bd, mainGlobals → be, starEach → bf, Scope → bj, NameKind → bm, bootBuiltins → bn, binaryOp → bo, wpAny_loadPart' → bq, wpAny_mono → bt, attributeBase → bu, swapsWith → bv, codeAny → bw, FuncData → bx, keywordEach → bz, wpAny_execs_nil → ca, codeAny_mono → cb, wpAny_holding → ce, wpAny_typeOf → cf, wpAny_execs_cons → cg
open PySem.Str renaming ofString → ai
open PySem.W renaming Frag → aj
open PySem.Heap renaming lt_size → ba, get?_push_of_some → bg, get?_push_size → br
open Option.some renaming inj → bh
abbrev Aa:=List (List PySem.Str)
abbrev Ab:=List PySem.Str
abbrev Ac:=PySem.Value -> PySem.Shared -> Prop
abbrev Ad:=List (PySem.Addr × PySem.Obj)
abbrev Ae:=List PySem.Value
abbrev Af:=Array (Option PySem.Value)
abbrev Ag:=Option PySem.Value
abbrev Ah:=Option PySem.Addr
abbrev Ai:=List PySem.Addr
abbrev Aj:=List PySem.Expr
abbrev Ak:=Array PySem.Value
abbrev Al:=PySem.Str -> PySem.Addr
abbrev Am:=List Int
abbrev An:=List Nat
set_option compiler.extract_closed false
open List renaming length_map → A3, length_append → C6, getElem?_eq_some_iff → F8, map_append → D0, mem_cons_of_mem → G6, length_cons → E5, mem_cons_self → G3, mem_of_getElem? → K2, getElem?_eq_getElem → L6, mem_singleton → J8, mem_cons → D8, map_cons → E2, length_take → G9, take_length → K5, mem_append → J9, mem_map → E9, size_toArray → L4, mem_append_left → P1, append_nil → L5, mem_append_right → Q7, mem_filter → N5, filter_append → Q0, length_singleton → V2, append_assoc → R8, length_nil → P9, not_mem_nil → Q8, nodup_iff_pairwise_ne → i7, getElem?_map → U3, mem_iff_getElem → X7, nodup_cons → T6, take_add_one → V7, take_append_drop → c9, getElem?_append_right → o8, take_of_length_le → i8, flatMap_cons → W6, replicate → U4, filter_cons_of_pos → o9, mem_iff_getElem? → m6, foldl_append → Z0, filter_eq_nil_iff → p0, mem_flatMap → Z1, length_drop → Z2, pairwise_iff_getElem → aS, getElem?_append_left → aT, drop_eq_getElem_cons → aU, nodup_append → i9, length_eq_zero_iff → aV, filter_cons_of_neg → aW, filterMap_cons → p5, idxOf_lt_length_iff → cC, length_pos_iff → y7, length_filter_le → aX, flatMap_append → y8, flatten_cons → p6, getD_eq_getElem?_getD → eG, range → U5, sum_cons → e8, mem_range → m7, length → X8, mem_of_mem_take → cD, take_zero → p7, map_nil → j0, map_map → j3, foldl_cons → y9, find?_cons → z0, zipWith → m8, nil_append → aY, countP_cons → cE, all_eq_true → cF, mem_filterMap → eI, map_drop → z8, getElem_idxOf → eJ, length_filterMap_le → kC, replicate_succ → gP, filter_eq_self → gQ, any_cons → aZ, mem_reverse → eK, map_reverse → eL, flatMap_nil → eM, drop_of_length_le → kD, drop_eq_nil_of_le → kE, length_replicate → kF, cons_lt_cons_iff → kG, reverse_cons → gR, map_take → cG, getElem_mem → gS, range' → bA, map_congr_left → kH, drop_succ_cons → kI, length_erase_of_mem → oH, getLast?_singleton → oI, lookup → cH, length_range → kJ, filterMap_append → oJ, mem_flatten → kK, eq_nil_of_length_eq_zero → sE, getLast?_append → oK
open Nat renaming le_refl → C1, zero_le → J7, le_trans → K9, lt_of_lt_of_le → U6, ne_of_lt → O4, lt_irrefl → m9, le_add_right → bB, min_eq_left → eN, le_of_lt → cI
open Bool renaming false_ne_true → L9, and_eq_true → V3, false_xor → z9, true_and → aA, eq_iff_iff → cJ, not_eq_true' → kL, false_and → gT, not_eq_true → kM
open PySem.W renaming nsIn → N6, findIn → Q1, mg_none_of → Z3, mg_of → W7, keepIn → Z4, fnOf → X9, kia_one → p8, emptyDict → bC, codeIn → p9, instObj → cK, plainGet → gU, hasDictIn → kN, makesIn → kO
open PySem.F renaming plainAttrs_list → q0, plainAttrs_str → gW, slot_dict_get → gX, type_list_reverse → kP, slot_list_reverse → kQ, entry_dict_get → oM
open Int renaming emod_nonneg → V8, emod_lt_of_pos → j4, mul_ediv_add_emod → gY
open PySem.PyData renaming eqvAll → Z5, eqv → Y0, depthAll → cL, strOk → cM, int → bD, depth → eO
open Array renaming length_toList → eP
open Option renaming toList_some → eQ
open PySem.NumText renaming digitsVal → kR
set_option Elab.async false
set_option linter.all false
set_option maxRecDepth 100000
noncomputable section
set_option genInjectivity false in
set_option genSizeOf false in
structure PySem.W.Fast where (tw12860345868827939586 tw12947697345913262421 tw13185204034814127481 tw3223297882137555497 tw4064385078306012930 tw4959245191543221240 tw18115090806163560872 tw11213826360429529342 tw5941497279070472341 tw12601330360725581262 tw3122177412702955280 tw4314337375768007307 tw1469250898000728690 tw12797081953754029799 tw17078756009630598244 tw349478538841834197 tw2771962961709599054 tw10440740762415953297 tw12034363546820816094 tw13470013686608590851 tw460349868054865897 tw1593308050257253248 tw15064446852069476497 tw15763856245697546472 tw18050061146275029134 tw16692523492461347337 tw11593809439410966004 tw14270613898505825851 tw1486822899668820593 tw2146401287952058903 tw777134797654988046 tw4726704257230437344 tw2477709479472403809 tw16964071380166334377 tw16304494639214885058 tw3076004770053213531 tw13743479163483051665 tw9034289486854094744 tw18047860152355607454
tw7850668208773460664 tw15228812613702520654 tw6127436069011652136 tw16558888271919322272 tw13407268781509043109 tw3083933771565627461 tw7994482518262762391 tw10411619968885159047 tw17929879359511936765 tw2614159031094301250 tw2425910406425609413 tw2449380754697468573 tw5430617780824181153 tw6481824452809867917 tw16222145861513221261 tw15465077310674446567 tw15333358119058292156 tw6691465156380143133 tw2935780534434222993 tw15708954626335763196 tw14857449430172234224 tw13484715341234383270 tw11935511692943314444 tw15745917824810974487 tw16889516047484051646 tw4424190257656906618 tw6697479469201599268 tw6723914765350645684 tw8712945117417970999 tw6225001308525746692 tw17751159628794503103 tw16311893757262165745 tw14962186069646877534 tw2229406574297458922 tw2765174669648292627 tw9560366016250208422 tw9557662451903742942 tw10164834863335334198 tw10784730945977386936 tw8335149690294416786
tw11802839939657332019 tw2370261698680721862 tw1826846060700740552 tw18415308037375088117 tw7468389901013496716 tw17946819319037400734 tw4873573404309473527 tw9949146053008569072 tw13817796497151537826 tw5723512842295199183 tw12512310800471948756 tw12430762351801515386 tw16920540181252571333 tw12885184619128156025 tw4215283868902830970 tw18111056790694040027 tw15855599028361273043 tw11384183448449773412 tw6192859314642354978 tw1254427657392463305 tw16042276341327901025 tw16702465795828061745 tw13540907569252132527 tw17689705591890247617 tw12298371214542708427 tw13064049156881818387 tw14539773062893460846 tw15651784018987703232 tw4298135556078172935 tw2368505938058019219 tw9414895308643827615 tw17912832072593427264 tw13630470711937967419 tw7574560369260545090 tw584190558352310095 tw509534426688864831 tw2553314585225803298 tw2726119282944263025 tw2174719403337059314 tw16633678424902941934
tw9217015954945335845 tw7690733138377347924 tw5121189521076120462 tw13240377807911564946 tw14061836547742222761 tw13258990260748881461 tw16027954749127418179 tw7155187211854840913 tw5763319625114178848 tw5049979609843348330 tw4592493684582922159 tw10045421730218036122 tw13365397183419077765 tw12524240749987915619 tw18250718817767289549 tw7651905318613617089 tw8445148937133792758 tw16668646436610101430 tw12683445089415391520 tw2386414392142649237 tw3582584200340348737 tw9752572576579685577 tw6758763067784526633 tw849246796250110990 tw557805810193384281 tw12795623411127514647 tw5511157673684609112 tw13353178493695802002 tw9051160018827757449 tw13006586843204152531 tw3064109613777044436 tw11491486132212539820 tw5656397249161164053 tw18186527849337888065 tw9380195795855301314 tw17434358552106420195 tw9871215053043928994 tw15529205670913396537 tw12621149289367441017 tw11560697150702107226
tw4575119969495008914 tw6778903258195609448 tw13667738622219837408 tw6976354177279446521 tw17405424818442122980 tw3422048195063615478 tw4161478198237888683 tw14860430610010108734 tw2524523678211476816 tw7030840370006102358 tw4984629214680230593 tw6978868454155854024 tw16293451406218845993 tw11447862964737525442 tw12476384081020797679 tw3609847235586165537 tw15027692546016756726 tw5699567445011013293 tw2735133449182520240 tw4730919704764611652 tw10563383058905415507 tw2287828888552819918 tw2619372829344658029 tw14997824358972420233 tw10316829120089043900 tw13652508713834366391 tw17879601295401984327 tw2460795102522305278 tw13041728845802172597 tw5195093492782558328 tw10270886303283609344 tw14111293104304761528 tw4683118956013757590 tw17184905690736833280 tw10235645534774362432 tw2207272264363745720 tw13380085943686734088 tw14538680374785189803 tw13157226922480704285 tw12467706626193995346
tw14350280294263928789 tw14414429173442690190 tw1708478772427218880 tw1694711593225260388 tw10424718146785150236 tw11713945530502955317 tw9489482395511399275 tw710852269036822507 tw3364232213874348087 tw13786331598685175769 tw8101433162959766777 tw3312791926526564743 tw960997637425521022 tw12395769499111644163 tw3602978518252941235 tw7576420609959584724 tw10684669370557569013 tw7276214536036649969 tw9660252564536568028 tw14889852156813643894 tw4685191858659145651 tw6523972897519152923 tw4173588093793102342 tw1987455301115416362 tw4377543279754310573 tw2994346664783713200 tw4097904025381496129 tw9917990345200896392 tw5653451472842237596 tw4657430685682692358 tw825868116758624719 tw6821353742482475872 tw16583532194113394886 tw16643007729658695395 tw13301211005734869778 tw13164456292259392309 tw11402395830227829209 tw1826924194439407767 tw5598436403126611819 tw2211361406823009553
tw1782767136433224008 tw17734729345142629717 tw9575926119187286328 tw2695464818555112537 tw4838195911045025929 tw3450231233129780437 tw14031429987545865150 tw9523542162465682292 tw10175859557984547752 tw12796856253911619743 tw1526372131785404503 tw7607221324573288982 tw12948163607249053548 tw5754140938120940567 tw13632901091068847550 tw6079828567496253116 tw4762205654900037869 tw2330810340381317016 tw2724691940154732834 tw2221208108075066409 tw14227480390694232254 tw13572413496509894164 tw2114342831121588875 tw6425074196258468239 tw17028865685356150275 tw17208291719305406921 tw14319343391597863517 tw892275952758633291 tw16945318043637562392 tw15990162960273575457 tw17374036577438799268 tw4562774369678199234 tw8291285572237938083 tw8855556822585093057 tw5112532365065744092 tw15426621484402736844 tw12466728428957885725 tw8443317940567935211 tw17909137514326453351 tw11339365770056127892
tw2896871153254096582 tw2927457591043848459 tw17395903965387685546 tw4942387447242715525 tw559703600838328699 tw3199677867414197596 tw12669323172158762768 tw12137942808825005794 tw13020712326542305283 tw3355566647636616041 tw16466813396019869479 tw13010869666808121695 tw5966495910588940326 tw6189858965705887382 tw2246199864718178486 tw4057459017982742788 tw1569946746554444924 tw1814823765200803523 tw15167872275271562956 tw1079620027308007228 tw8720357889874251503 tw13586445317423059918 tw15085196335693777081 tw17259374349342082442 tw4363429394410489607 tw9218433745084134613 tw2769867663044845746 tw16626569150044818181 tw1009350449209293879 tw18079058145096898421 tw17860249196199721421 tw4891012815502065880 tw582611588481457852 tw16227929222881305863 tw3464981926612988041 tw13682408222687679285 tw11642554343700171555 tw13383896370963610912 tw15488654815099386141 tw12016410173564915275
tw13290434025428433590 tw17329633410829918366 tw9950762626763031526 tw13739489155903524108 tw1237011701086024145 tw6650435134728704032 tw8723213007903631813 tw11638190895337287547 tw11919880541082500475 tw1202735688970792167 tw7773850017513792903 tw11080560495289225656 tw7295991842916456063 tw9665876802834750377 tw6534062677967011994 tw9771523749791087420 tw14075347970587596524 tw16476533304119467809 tw14841652790185958116 tw118488263295785726 tw1455560546115206951 tw15904260329838638324 tw13850528736299077038 tw15529772432801047120 tw3136709633297220005 tw1097771272011062390 tw12270690199527556695 tw8722308071960604328 tw3376339709852496787 tw6740185740890996075 tw3773253906396438076 tw5653957797200763152 tw6177654583491610865 tw3602931854266806531 tw1737175875188083849 tw7102570311722065456 tw5951010023365379925 tw17299934604324270605 tw1946622554051519456 tw13082790216865044831
tw12278693571167158570 tw14093517212930706900 tw14697829316804050434 tw16103004734396363166 tw2377970478056562050 tw6763972166138598612 tw1029700284950000450 tw15322482968069451098 tw10871052883561853182 tw10010443028684169095 tw6729686201123068783 tw3609430067815152916 tw18120667280255024986 tw6777909104381124485 tw13132677623639580976 tw12376514091325563524 tw17984832011804165394 tw11550854096984501524 tw9188402093581298821 tw9106915017536661209 tw18178518280157749224 tw8208619151382889749 tw15826127478766407581 tw8081190466531399659 tw2804283168460878879 tw14421581252554848874 tw7168134528750556142 tw3352287197457357183 tw4215127740863164734 tw10819206220965037174 tw701746321465294208 tw10865602992443732613 tw15945238714505770624 tw2750364539854029283 tw8565183348212009755 tw6420551868421988528 tw6218681074221644514 tw5398399338165447477:Nat)
set_option maxRecDepth 100000
namespace L2
open PySem PySem.Spec PyProof.Rows
noncomputable abbrev B1:=Sum Int Str
noncomputable def keyIs:B1->ac->Bool
 | .inl k,v=>ac.isInt k v
 | .inr x,v=>ac.isStrOf x v
noncomputable def keyH (w:av):B1->Int
 | .inl k=>hashInt k
 | .inr x=>hashStr w x
theorem q5:∀ {k:B1} {v:ac},keyIs k v=true->(∃ i t,k=Sum.inl i/\v=ac.int i t)\/(∃ x t,k=Sum.inr x/\v=ac.str x t)
 | .inl i,v,h=>by
  obtain ⟨t,e⟩:=ac.isInt_shape (k:=i) (v:=v) h;exact .inl ⟨i,t,rfl,e⟩
 | .inr x,v,h=>by
  obtain ⟨t,e⟩:=ac.isStrOf_shape (x:=x) (v:=v) h;exact .inr ⟨x,t,rfl,e⟩
theorem aj4(i:Int)(t:Tok):keyIs (.inl i) (.int i t)=true:=by simp [keyIs,ac.isInt]
theorem Y1(x:Str)(t:Tok):keyIs (.inr x) (.str x t)=true:=by simp [keyIs,ac.isStrOf]
theorem aqE(a b:Int):decide ((Sum.inl a:B1)=Sum.inl b)=(a==b):=by
 by_cases e:a=b
 .subst e;simp
 .have h:¬ (Sum.inl a:B1)=Sum.inl b:=fun q=>e (Sum.inl.inj q)
  rw [decide_eq_false h];exact (beq_eq_false_iff_ne.mpr e).symm
theorem aqF(a b:Str):decide ((Sum.inr a:B1)=Sum.inr b)=decide (a=b):=by
 by_cases e:a=b
 .subst e;simp
 .have h:¬ (Sum.inr a:B1)=Sum.inr b:=fun q=>e (Sum.inr.inj q)
  rw [decide_eq_false h,decide_eq_false e]
theorem aqG(a:Int)(b:Str):decide ((Sum.inl a:B1)=Sum.inr b)=false:=decide_eq_false (fun q=>nomatch q)
theorem aqH(a:Str)(b:Int):decide ((Sum.inr a:B1)=Sum.inl b)=false:=decide_eq_false (fun q=>nomatch q)
noncomputable def P3 (prog:ax) (w:av):PySem.KeyKind prog w B1 where
 is:=keyIs
 hash:=keyH w
 inj:=fun v a b ha hb=>by
  rcases q5 ha with ⟨i,t,rfl,rfl⟩ | ⟨x,t,rfl,rfl⟩
  .rcases q5 hb with ⟨j,u,rfl,e⟩ | ⟨y,u,rfl,e⟩
   .injection e with e1 _;rw [e1]
   .exact nomatch e
  .rcases q5 hb with ⟨j,u,rfl,e⟩ | ⟨y,u,rfl,e⟩
   .exact nomatch e
   .injection e with e1 _;rw [e1]
 byValue:=fun k v h=>by
  rcases q5 h with ⟨i,t,rfl,rfl⟩ | ⟨x,t,rfl,rfl⟩ <;> rfl
 pyHash:=fun hv h=>by
  rcases q5 hv with ⟨i,t,rfl,rfl⟩ | ⟨x,t,rfl,rfl⟩
  .exact wpAny_pyHash_int h
  .exact wpAny_pyHash_str h
 eqBool:=fun hu hv h=>by
  rcases q5 hu with ⟨i,t,rfl,rfl⟩ | ⟨x,t,rfl,rfl⟩
  .rcases q5 hv with ⟨j,u,rfl,rfl⟩ | ⟨y,u,rfl,rfl⟩
   .rw [aqE] at h;exact wpAny_eqBool_int h
   .rw [aqG] at h;exact SeqAt.EqAt.int_str i t y u _ _ _ _ h
  .rcases q5 hv with ⟨j,u,rfl,rfl⟩ | ⟨y,u,rfl,rfl⟩
   .rw [aqH] at h;exact SeqAt.EqAt.str_int x t j u _ _ _ _ h
   .rw [aqF] at h;exact wpAny_eqBool_str h
 «strs»:=fun k x t v h=>by
  rcases q5 h with ⟨i,u,rfl,e⟩ | ⟨y,u,rfl,e⟩
  .exact nomatch e
  .injection e with e1 _
   subst e1
   cases v <;> rfl
theorem ahK(prog:ax)(w:av)(i:Int)(t:Tok):(P3 prog w).is (.inl i) (.int i t)=true:=aj4 i t
theorem ahL(prog:ax)(w:av)(x:Str)(t:Tok):(P3 prog w).is (.inr x) (.str x t)=true:=Y1 x t
end L2
namespace L2
open PySem PySem.Spec PyProof.Rows
inductive V where
 | non | bl (b:Bool) | int (i:Int) | str (x:Str) | byt (b:Array UInt8) | flt (b:UInt64) | ref (a:ab) | ty (n:String)
 deriving DecidableEq
noncomputable abbrev Ap:=Option V
noncomputable abbrev Ao:=List V
noncomputable def RelV:V->ac->Prop
 | .non,u=>u=ac.none
 | .bl b,u=>u=ac.bool b
 | .int i,u=>∃ t,u=ac.int i t
 | .str x,u=>∃ t,u=ac.str x t
 | .byt b,u=>∃ t,u=ac.bytes b t
 | .flt b,u=>∃ t,u=ac.float b t
 | .ref a,u=>u=ac.ref a
 | .ty n,u=>u=ac.type n
noncomputable abbrev Vals:Ao->Ae->Prop:=Paired RelV
theorem Vals.length{xs:Ao}{us:Ae}(r:Vals xs us):xs.length=us.length:=Paired.length r
theorem Vals.get:∀ {xs:Ao} {us:Ae} {i:Nat} {x:V},Vals xs us->xs[i]?=some x->∃ u,us[i]?=some u/\RelV x u
 | _,_,_,_,.nil,e=>by simp at e
 | _,_,0,_,.cons r _,e=>by simp at e;subst e;exact ⟨_,rfl,r⟩
 | _,_,i+1,x,.cons _ t,e=>by
  obtain ⟨u,h1,h2⟩:=Vals.get (i:=i) (x:=x) t (by simpa using e);exact ⟨u,by simpa using h1,h2⟩
theorem Vals.append:∀ {xs ys:Ao} {us ws:Ae},Vals xs us->Vals ys ws->Vals (xs++ys) (us++ws)
 | _,_,_,_,.nil,s=>s
 | _,_,_,_,.cons r t,s=>.cons r (Vals.append t s)
theorem Vals.take:∀ {xs:Ao} {us:Ae} (n:Nat),Vals xs us->Vals (xs.take n) (us.take n)
 | _,_,0,_=>.nil
 | _,_,_+1,.nil=>.nil
 | _,_,n+1,.cons r t=>.cons r (Vals.take n t)
theorem Vals.drop:∀ {xs:Ao} {us:Ae} (n:Nat),Vals xs us->Vals (xs.drop n) (us.drop n)
 | _,_,0,r=>r
 | _,_,_+1,.nil=>.nil
 | _,_,n+1,.cons _ t=>Vals.drop n t
theorem Vals.none_of:∀ {xs:Ao} {us:Ae} {i:Nat},Vals xs us->xs[i]?=none->us[i]?=none:=fun {xs us i} r e=>by
 have h1:=r.length;have h2:xs.length<=i:=List.getElem?_eq_none_iff.mp e;exact List.getElem?_eq_none_iff.mpr (by lia)
noncomputable def RelO:Ap->Ag->Prop
 | some v,some u=>RelV v u
 | none,none=>True
 | _,_=>False
noncomputable def KV {κ:Type} : List (κ×V)->List (κ×ac)->Prop:=Paired fun (p:κ×V) (q:κ×ac)=>p.1=q.1/\RelV p.2 q.2
noncomputable def kV:B1->V
 | .inl i=>.int i
 | .inr x=>.str x
inductive HO where
 | lst (xs:Ao)
 | tup (xs:Ao)
 | dK (kvs:List (B1×V)) | dT (kvs:List (List B1×V))
 | set (S:Int->Bool) (n:Nat)
 | ins (C dx:ab) (fs:List (Str×V))
 | own (x:ab)
 | xd (fs:List (Str×V))
 | met (f x:ab)
 | rng (lo hi:Int)
 | frz (o:Obj) (u:HO)
 | tbl (ps:Ak)
 | ext (φ:au->Prop)
noncomputable abbrev Hp:=ab->Option HO
noncomputable def A0 (H:Hp) (a:ab) (o:HO):Hp:=fun b=>if b=a then some o else H b
theorem A1{H:Hp}{a:ab}{o:HO} : A0 H a o a=some o:=by unfold A0;rw [if_pos rfl]
theorem A4{H:Hp}{a b:ab}{o:HO}(h:b≠a):A0 H a o b=H b:=by unfold A0;rw [if_neg h]
theorem oN{H:Hp}{a:ab}{o u:HO} : A0 (A0 H a o) a u=A0 H a u:=by
 funext b;unfold A0;split <;> rfl
theorem ne_of{H:Hp}{a b:ab}{o u:HO}(h:H a=some o)(h':H b=some u)(d:o≠u):a≠b:=by
 intro e;subst e;rw [h] at h';exact d (bh h')
theorem q9{H:Hp}{a b:ab}{o:HO}(h:H a=some o)(h':H b=none):a≠b:=by
 intro e;subst e;rw [h] at h';cases h'
section
variable (P:ax) (w:av)
noncomputable def ObjOk (H:Hp) (h:au) (a:ab):HO->Prop
 | .lst xs=>xs.length<=ak/\∃ (its:Ae) (n:Nat),Vals xs its/\h.get? a=some { cls:=.type "list",data:=.seq its.toArray n }
 | .tup xs=>xs.length<=ak/\∃ its:Ae,Vals xs its/\IsTup h a its.toArray
 | .dK kvs=>kvs.length<=ak/\(a==sysModules)=false/\∃ vs,KV kvs vs/\h.DictOf (P3 P w) a vs
 | .dT kvs=>kvs.length<=ak/\(a==sysModules)=false/\∃ xs:List (List B1×ab×ac),
   Paired (fun (p:List B1×V) (q:List B1×ab×ac)=>p.1=q.1/\H q.2.1=some (.tup (p.1.map kV))/\RelV p.2 q.2.2) kvs xs/\
   ∃ o es ep,h.get? a=some o/\o.ExactDict/\o.data=.dict es ep/\es.toList=xs.map (entryOfKey (tupleKind (P3 P w)))/\(xs.map (·.1)).Nodup
 | .set S n=>h.SetOf (intKind P w) a S n
 | .ins C dx fs=>H dx=some (.own a)/\fs.length<=1000/\dx≠a/\h.get? a=some (cK C dx)/\
   ∃ mA,h.Ns1 dx mA/\(∀ f,RelO (fs.lookup f) (mA f))/\PySem.Within mA (fs.map (·.1))
 | .own _=>∃ o,h.get? a=some o
 | .xd fs=>∃ mA,h.Ns1 a mA/\∀ f,RelO (fs.lookup f) (mA f)
 | .rng lo hi=>∃ t u v,h.get? a=some { cls:=.type "range",data:=.fields #[.int lo t,.int hi u,.int 1 v] }
 | .frz o u=>h.get? a=some o/\ObjOk H h a u
 | .tbl ps=>h.get? a=some { cls:=.none,data:=.fields ps }
 | .met f x=>h.get? a=some (PySem.W.methodObj (.ref f) (.ref x))
 | .ext φ=>φ h/\(∃ o,h.get? a=some o)/\∀ h1 h2:au,φ h1->(∀ o,h1.get? a=some o->h2.get? a=some o)->φ h2
noncomputable def O1 (H:Hp) (h:au):Prop:=∀ a o,H a=some o->ObjOk P w H h a o
end
section
variable {P:ax} {w:av} {H H':Hp} {h h':au} {a:ab} {o:HO}
theorem ObjOk.lt(x:ObjOk P w H h a o):a<h.objs.size:=by
 cases o with
 | lst xs=>obtain ⟨_,_,_,_,e⟩:=x;exact ba e
 | tup xs=>obtain ⟨_,_,_,p⟩:=x;exact p.lt
 | dK kvs=>obtain ⟨_,_,_,_,o,_,_,e,_⟩:=x;exact ba e
 | dT kvs=>obtain ⟨_,_,_,_,o,_,_,e,_⟩:=x;exact ba e
 | set S n=>obtain ⟨o,_,_,_,e,_⟩:=x;exact ba e
 | ins C dx fs=>obtain ⟨_,_,_,e,_⟩:=x;exact ba e
 | own y=>obtain ⟨_,e⟩:=x;exact ba e
 | xd fs=>obtain ⟨_,⟨_,_,_,e,_⟩,_⟩:=x;exact ba e
 | rng lo hi=>obtain ⟨_,_,_,e⟩:=x;exact ba e
 | frz ob u=>obtain ⟨e,_⟩:=x;exact ba e
 | tbl ps=>exact ba (show h.get? a=some _ from x)
 | met f y=>exact ba (show h.get? a=some _ from x)
 | ext φ=>obtain ⟨_,⟨_,e⟩,_⟩:=x;exact ba e
theorem L7{α β:Type}{F G:α->β->Prop} : ∀ {l₁:List α} {l₂:List β},Paired F l₁ l₂->(∀ a b,F a b->G a b)->Paired G l₁ l₂
 | _,_,.nil,_=>.nil
 | _,_,.cons r t,f=>.cons (f _ _ r) (L7 t f)
theorem ObjOk.stay(x:ObjOk P w H h a o)(k:∀ b u,(b=a\/H b=some (.own a))->h.get? b=some u->h'.get? b=some u)(ho:∀ b,H b=some (.own a)->H' b=some (.own a))(ht:∀ b xs,H b=some (.tup xs)->H' b=some (.tup xs)):ObjOk P w H' h' a o:=by
 induction o with
 | lst xs=>obtain ⟨z,its,n,r,e⟩:=x;exact ⟨z,its,n,r,k _ _ (.inl rfl) e⟩
 | tup xs=>obtain ⟨z,its,r,ob,e,c⟩:=x;exact ⟨z,its,r,ob,k _ _ (.inl rfl) e,c⟩
 | dK kvs=>obtain ⟨z,y,vs,r,ob,es,ep,e,c⟩:=x;exact ⟨z,y,vs,r,ob,es,ep,k _ _ (.inl rfl) e,c⟩
 | dT kvs=>
  obtain ⟨z,y,xs,r,ob,es,ep,e,c⟩:=x;exact ⟨z,y,xs,L7 r fun p q z=>⟨z.1,ht _ _ z.2.1,z.2.2⟩,ob,es,ep,k _ _ (.inl rfl) e,c⟩
 | set S n=>obtain ⟨ob,es,ep,t,e,c⟩:=x;exact ⟨ob,es,ep,t,k _ _ (.inl rfl) e,c⟩
 | ins C dx fs=>
  obtain ⟨d,z,ne,e,mA,⟨od,es,ep,e2,c⟩,r⟩:=x;exact ⟨ho _ d,z,ne,k _ _ (.inl rfl) e,mA,⟨od,es,ep,k _ _ (.inr d) e2,c⟩,r⟩
 | own y=>obtain ⟨ob,e⟩:=x;exact ⟨ob,k _ _ (.inl rfl) e⟩
 | xd fs=>obtain ⟨mA,⟨od,es,ep,e,c⟩,r⟩:=x;exact ⟨mA,⟨od,es,ep,k _ _ (.inl rfl) e,c⟩,r⟩
 | rng lo hi=>obtain ⟨t,u,v,e⟩:=x;exact ⟨t,u,v,k _ _ (.inl rfl) e⟩
 | frz ob u ih=>obtain ⟨e,q⟩:=x;exact ⟨k _ _ (.inl rfl) e,ih q⟩
 | tbl ps=>
  have e:h.get? a=some { cls:=.none,data:=.fields ps }:=x;show h'.get? a=some { cls:=.none,data:=.fields ps };exact k a _ (.inl rfl) e
 | met f y=>
  have e:h.get? a=some (PySem.W.methodObj (.ref f) (.ref y)):=x;show h'.get? a=some (PySem.W.methodObj (.ref f) (.ref y));exact k a _ (.inl rfl) e
 | ext φ=>obtain ⟨p,⟨o,e⟩,st⟩:=x;exact ⟨st _ _ p fun o q=>k _ _ (.inl rfl) q,⟨o,k _ _ (.inl rfl) e⟩,st⟩
theorem O1.lt(x:O1 P w H h)(e:H a=some o):a<h.objs.size:=(x a o e).lt
theorem O1.fresh(x:O1 P w H h)(e:h.objs.size<=a):H a=none:=by
 cases q:H a with
 | none=>rfl
 | some u=>exact absurd (U6 (x.lt q) e) (m9 _)
theorem O1.kept(x:O1 P w H h)(k:∀ b u,h.get? b=some u->h'.get? b=some u):O1 P w H h':=fun a o e=>
 (x a o e).stay (fun b u _ q=>k b u q) (fun _ q=>q) fun _ _ q=>q
theorem O1.laid(x:O1 P w H h)(k:∀ b u,h.get? b=some u->h'.get? b=some u)(hp:h.objs.size<=a)(new:ObjOk P w (A0 H a o) h' a o):O1 P w (A0 H a o) h':=fun b u e=>by
 have hn:=x.fresh hp
 by_cases hb:b=a
 .subst hb;rw [A1] at e;cases e;exact new
 .rw [A4 hb] at e;exact (x b u e).stay (fun c v _ q=>k c v q) (fun c q=>by rw [A4 (q9 q hn)];exact q) fun c xs q=>by rw [A4 (q9 q hn)];exact q
end
noncomputable def Rd (H:Hp) (a:ab) (u:HO):Prop:=H a=some u\/∃ o,H a=some (.frz o u)
theorem Rd.of{H:Hp}{a:ab}{u:HO}(h:H a=some u):Rd H a u:=.inl h
theorem Rd.ok{P:ax}{w:av}{H:Hp}{h:au}{a:ab}{u:HO}(r:Rd H a u)(x:O1 P w H h):ObjOk P w H h a u:=by
 rcases r with r | ⟨o,r⟩
 .exact x a u r
 .obtain ⟨_,q⟩:=x a _ r;exact q
noncomputable def kS:Option HO->Prop
 | some (.lst _)=>True
 | some (.dK _)=>True
 | some (.dT _)=>True
 | some (.set _ _)=>True
 | some (.ins _ _ _)=>True
 | some (.ext _)=>True
 | _=>False
section
variable {P:ax} {w:av} {H:Hp} {h h':au} {x e:ab} {o':HO}
theorem O1.write(ok:O1 P w H h)(mu:kS (H x))(he:e=x\/H e=some (.own x))(k:∀ b u,b≠e->h.get? b=some u->h'.get? b=some u)(jC:∃ u,h'.get? e=some u)(new:ObjOk P w (A0 H x o') h' x o'):O1 P w (A0 H x o') h':=fun b u q=>by
 have nown:∀ c y,H c=some (.own y)->c≠x:=fun c y r z=>by subst z;rw [r] at mu;exact mu
 have ntup:∀ c xs,H c=some (.tup xs)->c≠x:=fun c xs r z=>by subst z;rw [r] at mu;exact mu
 by_cases hb:b=x
 .subst hb;rw [A1] at q;cases q;exact new
 .rw [A4 hb] at q
  by_cases k5:b=e
  .have q':H b=some (.own x):=by
    rcases he with z | z
    .exact absurd (k5.trans z) hb
    .rw [k5];exact z
   rw [q] at q';cases q';obtain ⟨v,hv⟩:=jC;exact ⟨v,by rw [k5];exact hv⟩
  .refine (ok b u q).stay (fun c v hc r=>k c v ?_ r) (fun c r=>by rw [A4 (nown c b r)];exact r) fun c xs r=>by rw [A4 (ntup c xs r)];exact r
   rcases hc with rfl | hc
   .exact k5
   .rintro rfl
    rcases he with z | z
    .exact nown c b hc z
    .rw [hc] at z;cases z;exact hb rfl
end
structure Un(fs ex:Ai)(H H':Hp)(h h':au):Prop where
 keep:∀ b o,h.get? b=some o->H b=none->b∉fs->b∉ex->h'.get? b=some o
 slot:∀ b o,h.get? b=some o->H b=none->b∈fs->b∉ex->∃ sl,h'.get? b=some { o with slots:=sl }
 free:∀ b o,h.get? b=some o->H b=none->b∉ex->H' b=none
 there:∀ b o,h.get? b=some o->b∉ex->∃ o',h'.get? b=some o'
 tups:∀ b xs,H b=some (.tup xs)->H' b=some (.tup xs)
 frzs:∀ b o u,H b=some (.frz o u)->H' b=some (.frz o u)
 tbls:∀ b ps,H b=some (.tbl ps)->∃ more,H' b=some (.tbl (ps++more))
section
variable {fs fs' ex ex':Ai} {H H1 H2:Hp} {h h1 h2 h':au} {a x e:ab} {o:HO}
theorem Un.any(u:Un fs ex H H1 h h1){b:ab}{ob:Obj}(q:h.get? b=some ob)(n:H b=none)(hx:b∉ex):∃ sl,h1.get? b=some { ob with slots:=sl }:=by
 by_cases hb:b∈fs
 .exact u.slot b ob q n hb hx
 .exact ⟨ob.slots,u.keep b ob q n hb hx⟩
theorem Un.kept(k:∀ b u,h.get? b=some u->h'.get? b=some u):Un fs ex H H h h':=
 ⟨fun b ob q _ _ _=>k b ob q,fun b ob q _ _ _=>⟨ob.slots,k b ob q⟩,fun _ _ _ n _=>n,fun b ob q _=>⟨ob,k b ob q⟩,fun _ _ q=>q,fun _ _ _ q=>q,fun _ ps q=>⟨#[],by rw [q];simp⟩⟩
theorem Un.refl:Un fs ex H H h h:=Un.kept fun _ _ q=>q
theorem Un.laid(k:∀ b u,h.get? b=some u->h'.get? b=some u)(hp:h.objs.size<=a)(hn:H a=none):Un fs ex H (A0 H a o) h h' where
 keep:=fun b u q _ _ _=>k b u q
 slot:=fun b u q _ _ _=>⟨u.slots,k b u q⟩
 free:=fun b u q n _=>by rw [A4 (O4 (U6 (ba q) hp))];exact n
 there:=fun b u q _=>⟨u,k b u q⟩
 tups:=fun b xs q=>by rw [A4 (q9 q hn)];exact q
 frzs:=fun b u xs q=>by rw [A4 (q9 q hn)];exact q
 tbls:=fun b ps q=>⟨#[],by rw [A4 (q9 q hn),q];simp⟩
theorem Un.write(mu:kS (H x))(he:e=x\/H e=some (.own x))(k:∀ b u,b≠e->h.get? b=some u->h'.get? b=some u)(jC:∃ u,h'.get? e=some u):Un fs ex H (A0 H x o) h h':=by
 have hx:∀ b,H b=none->b≠x:=fun b n z=>by subst z;rw [n] at mu;exact mu
 have hb:∀ b,H b=none->b≠e:=fun b n z=>by
  subst z
  rcases he with r | r
  .exact hx b n r
  .rw [n] at r;cases r
 have hm:∀ b u,H b=some u->¬ kS (some u)->b≠x:=fun b u q nm z=>by subst z;rw [q] at mu;exact nm mu
 refine ⟨fun b u q n _ _=>k b u (hb b n) q,fun b u q n _ _=>⟨u.slots,k b u (hb b n) q⟩,fun b u q n _=>by rw [A4 (hx b n)];exact n,fun b u q _=>?_,
  fun b xs q=>by rw [A4 (hm b _ q fun z=>z)];exact q,fun b u xs q=>by rw [A4 (hm b _ q fun z=>z)];exact q,fun b ps q=>⟨#[],by rw [A4 (hm b _ q fun z=>z),q];simp⟩⟩
 by_cases k5:b=e
 .subst k5;exact jC
 .exact ⟨u,k b u k5 q⟩
end
noncomputable def oO (h:au) (H:Hp):Ai:=(U5 h.objs.size).filter fun a=>(H a).isSome
noncomputable def hidT (h:au) (H:Hp):au:=PySem.W.hideAll h (oO h H)
theorem aj5(h:au)(H:Hp):(hidT h H).objs.size=h.objs.size:=PySem.W.hideAll_size _ _
theorem al7{h:au}{H:Hp}{b:ab}{o:Obj}(e:h.get? b=some o)(n:H b=none):(hidT h H).get? b=some o:=
 PySem.W.hideAll_get _ e fun hm=>by
  have q:(H b).isSome=true:=(N5.mp hm).2;rw [n] at q;simp at q
theorem an5{h:au}{H:Hp}{b:ab}{o:Obj}(e:(hidT h H).get? b=some o):h.get? b=some o/\H b=none:=by
 have e':h.get? b=some o:=PySem.W.of_hideAll (oO h H) e;refine ⟨e',?_⟩
 cases q:H b with
 | none=>rfl
 | some x=>
  have hm:b∈oO h H:=N5.mpr ⟨m7.mpr (ba e'),by simp [q]⟩;have z:(hidT h H).get? b=none:=PySem.W.hideAll_none (oO h H) hm;rw [z] at e;cases e
noncomputable def an6 (g h:au) (L:ab):Ad:=(U5 h.objs.size).filterMap fun a=>if a=L\/(g.get? a).isSome=true then none else (h.get? a).map fun o=>(a,o)
noncomputable def rest (g h:au) (L d:ab):Ad:=(an6 g h L).filter fun p=>decide (p.1≠d)
end L2
namespace L2
open PySem PySem.Spec PyProof.Rows
structure Mod(K:aj)(mg:Str->Ag)(base:au):Prop where
 kin:K.In base
 glob:base.Ns be mg
 blt:∃ mb,base.Ns builtinsNs mb/\∀ x:Str,x≠"__name__"->mb x=bn x
 nolimit:base.NoLimit
structure Cx where
 prog:ax
 w:av
 K:aj
 mg:Str->Ag
 base:au
 A:ay
 N:Ab
 s₀:ag
 H₀:Hp
 env:Env
 outer:List Env
 stack:List Env
 ex:Ai
 fn:Str->Bool
 calm:Bool
 pn:Ad
 xe:Ac
noncomputable def r8 (l:List Env):Ai:=l.filterMap (·.frame)
noncomputable abbrev Cx.fs (X:Cx):Ai:=r8 X.outer
noncomputable def gZ (sc:bj) (x:Str):Prop:=sc.names.lookup x=some .local\/sc.names.lookup x=some .cell\/sc.names.lookup x=some .free
noncomputable def e9 (sc:bj) (x:Str):Prop:=sc.names.lookup x=some .local\/sc.names.lookup x=some .cell
noncomputable def Look (env:Env) (h:au) (m:Str->Ag) (x:Str) (u:ac):Prop:=
 (env.kindOf x=some .local/\m x=some u)\/((env.kindOf x=some .cell\/env.kindOf x=some .free)/\∃ c,env.cells.lookup x=some c/\h.IsCell c (some u))
structure Cx.Ok(X:Cx):Prop where
 mod:Mod X.K X.mg X.base
 kind:X.env.scope.kind=.function
 glob:X.env.globals=be
 blt:X.env.builtins=builtinsNs
 above:X.s₀.heap.objs.size<=X.env.locals
 inj:∀ x y c,X.env.cells.lookup x=some c->X.env.cells.lookup y=some c->x=y
 has:∀ x,(X.env.kindOf x=some .cell\/X.env.kindOf x=some .free)->∃ c,X.env.cells.lookup x=some c
 cab:∀ x c,X.fn x=true->X.env.cells.lookup x=some c->X.s₀.heap.objs.size<=c
 hd:X.calm=true->X.A.handled=none
 frames:X.A.frames=some X.stack
 stk:X.stack=X.outer\/(X.stack=X.env::X.outer/\X.env.frame=some X.env.locals)
 exf:∀ b∈X.ex,b≠X.env.locals/\∀ x c,X.env.cells.lookup x=some c->c≠b
 bs:∀ b o,X.base.get? b=some o->X.s₀.heap.get? b=some o/\X.H₀ b=none
 bsz:X.base.objs.size<=X.s₀.heap.objs.size
 noex:∀ b o,X.base.get? b=some o->b∉X.ex
 exfs:∀ b∈X.ex,b∉X.fs
 funs:X.s₀.heap.FunFrames X.base X.outer
 frf:∀ b∈X.fs,X.H₀ b=none
structure Inv(X:Cx)(aa:Ad)(Y:List Ap)(H:Hp)(s:ag):Prop where
 ok:X.Ok
 os:s.os=X.s₀.os
 bare:AllBare s.gens
 base:Un X.fs X.ex X.H₀ H X.s₀.heap s.heap
 loc:∃ m,s.heap.Ns X.env.locals m/\∀ (i:Nat) (x:Str) (v:V),X.N[i]?=some x->Y[i]?=some (some v)->gZ X.env.scope x->∃ u,RelV v u/\Look X.env s.heap m x u
 cell:∀ x c,X.env.cells.lookup x=some c->∃ v,s.heap.IsCell c v
 free:H X.env.locals=none
 freeC:∀ x c,X.env.cells.lookup x=some c->H c=none
 pin:∀ p∈X.pn++aa,s.heap.get? p.1=some p.2/\H p.1=none/\p.1≠X.env.locals/\p.1∉X.fs/\∀ v,p.2.data≠.cell v
 hok:O1 X.prog X.w H s.heap
 len:Y.length=X.N.length
section
variable {X:Cx} {aa:Ad} {Y:List Ap} {H H':Hp} {s:ag} {h':au}
theorem Cx.Ok.nofr(ok:X.Ok){b:ab}{o:Obj}(e:X.base.get? b=some o):b∉X.fs:=fun hb=>by
 have:=(ok.funs.mem hb).1
 rw [e] at this;cases this
theorem Inv.bs(I:Inv X aa Y H s):∀ b o,X.base.get? b=some o->s.heap.get? b=some o/\H b=none:=fun b o e=>
 ⟨I.base.keep b o (I.ok.bs b o e).1 (I.ok.bs b o e).2 (I.ok.nofr e) (I.ok.noex b o e),I.base.free b o (I.ok.bs b o e).1 (I.ok.bs b o e).2 (I.ok.noex b o e)⟩
theorem Inv.bk(I:Inv X aa Y H s):∀ b o,X.base.get? b=some o->s.heap.get? b=some o:=fun b o e=>(I.bs b o e).1
theorem Inv.mod(I:Inv X aa Y H s):Mod X.K X.mg X.base:=I.ok.mod
theorem Inv.kIn(I:Inv X aa Y H s):X.K.In s.heap:=I.ok.mod.kin.keeps I.bk
theorem Inv.lt(I:Inv X aa Y H s):X.env.locals<s.heap.objs.size:=let ⟨_,hn,_⟩:=I.loc;hn.lt
theorem Inv.sz(I:Inv X aa Y H s):X.s₀.heap.objs.size<=s.heap.objs.size:=K9 I.ok.above (cI I.lt)
theorem Inv.nofs(I:Inv X aa Y H s){a:ab}(h:s.heap.objs.size<=a):a∉X.fs:=fun hb=>by
 obtain ⟨_,o,ho,_⟩:=I.ok.funs.mem hb;exact absurd (U6 (ba ho) (K9 I.sz h)) (m9 _)
theorem Inv.cne(I:Inv X aa Y H s):∀ x c,X.env.cells.lookup x=some c->c≠X.env.locals:=fun x c e z=>by
 obtain ⟨v,o,ho,hd⟩:=I.cell x c e;obtain ⟨m,⟨o',es,ep,u8,fN,_⟩,_⟩:=I.loc;rw [z,u8] at ho;cases ho;rw [fN] at hd;cases hd
theorem Inv.funs(I:Inv X aa Y H s):s.heap.FunFrames X.base X.outer:=by
 have all:∀ (l:List Env),(∀ b∈r8 l,b∈X.fs)->X.s₀.heap.FunFrames X.base l->s.heap.FunFrames X.base l:=by
  intro l
  induction l with
  | nil=>intro _ _;trivial
  | cons env r ih=>
   intro hs hl;obtain ⟨hk,⟨L,o,hf,hn,ho,hd⟩,hr⟩:=hl;have hL:L∈X.fs:=hs L (by unfold r8;rw [p5,hf];exact G3);obtain ⟨sl,e⟩:=I.base.slot L o ho (I.ok.frf L hL) hL fun z=>I.ok.exfs L z hL
   exact ⟨hk,⟨L,_,hf,hn,e,hd⟩,ih (fun b hb=>hs b (by unfold r8;rw [p5,hf];exact G6 _ hb)) hr⟩
 exact all X.outer (fun _ hb=>hb) I.ok.funs
theorem Inv.stack(I:Inv X aa Y H s):s.heap.FunFrames X.base X.stack:=by
 rcases I.ok.stk with e | ⟨e,hf⟩
 .rw [e];exact I.funs
 .rw [e];obtain ⟨m,hn,_⟩:=I.loc;refine .cons (by rw [I.ok.kind];decide) hf hn ?_ I.funs;exact au.get?_none_of_le (K9 I.ok.bsz I.ok.above)
theorem Inv.stkSub(I:Inv X aa Y H s):∀ b∈r8 X.stack,b∈X.env.locals::X.fs:=fun b hb=>by
 rcases I.ok.stk with e | ⟨e,hf⟩
 .rw [e] at hb;exact G6 _ hb
 .rw [e] at hb;unfold r8 at hb;rw [p5,hf] at hb;exact hb
theorem Inv.stkFree(I:Inv X aa Y H s):∀ b∈r8 X.stack,H b=none:=fun b hb=>by
 rcases D8.mp (I.stkSub b hb) with e | hb
 .rw [e];exact I.free
 .obtain ⟨_,o,ho,_⟩:=I.ok.funs.mem hb;exact I.base.free b o ho (I.ok.frf b hb) fun z=>I.ok.exfs b z hb
theorem Inv.step{g':Array GenState}{t':Nat}{d':Drawn}{ch:Ai}(I:Inv X aa Y H s)(k6:∀ b∈ch,(b∈X.ex\/X.s₀.heap.objs.size<=b)/\b≠X.env.locals/\(∀ x c,X.env.cells.lookup x=some c->c≠b)/\∀ p∈X.pn++aa,p.1≠b)(keep:∀ b o,b≠X.env.locals->b∉X.fs->b∉ch->s.heap.get? b=some o->H b=none->h'.get? b=some o)(slot:∀ b o,b≠X.env.locals->b∈X.fs->b∉ch->s.heap.get? b=some o->H b=none->∃ sl,h'.get? b=some { o with slots:=sl })(free:∀ b o,b∉ch->s.heap.get? b=some o->H b=none->H' b=none)(there:∀ b o,b∉ch->s.heap.get? b=some o->∃ o',h'.get? b=some o')(tups:∀ b xs,H b=some (.tup xs)->H' b=some (.tup xs))(frzs:∀ b o u,H b=some (.frz o u)->H' b=some (.frz o u))(tbls:∀ b ps,H b=some (.tbl ps)->∃ more,H' b=some (.tbl (ps++more)))(ns:∀ m,s.heap.Ns X.env.locals m->h'.Ns X.env.locals m)(hok:O1 X.prog X.w H' h')(hg:AllBare g') :
  Inv X aa Y H' { s with heap:=h',gens:=g',drawn:=d',toks:=t' }:=by
 have neL:∀ b o,X.s₀.heap.get? b=some o->b≠X.env.locals:=fun b o e=>O4 (U6 (ba e) I.ok.above)
 have neC:∀ b o,X.s₀.heap.get? b=some o->b∉X.ex->b∉ch:=fun b o e hx hb=>by
  rcases (k6 b hb).1 with z | z
  .exact hx z
  .exact absurd (U6 (ba e) z) (m9 _)
 have cellK:∀ x c,X.env.cells.lookup x=some c->∀ v,s.heap.IsCell c v->h'.IsCell c v:=fun x c e v ⟨o,ho,hd⟩=>by
  have nch:c∉ch:=fun z=>(k6 c z).2.2.1 x c e rfl
  by_cases hc:c∈X.fs
  .obtain ⟨sl,q⟩:=slot c o (I.cne x c e) hc nch ho (I.freeC x c e);exact ⟨_,q,hd⟩
  .exact ⟨o,keep c o (I.cne x c e) hc nch ho (I.freeC x c e),hd⟩
 refine ⟨I.ok,I.os,hg,⟨fun b o e n hb hx=>?_,fun b o e n hb hx=>?_,fun b o e n hx=>?_,fun b o e hx=>?_,fun b xs e=>tups b xs (I.base.tups b xs e),fun b o xs e=>frzs b o xs (I.base.frzs b o xs e),fun b ps e=>?_⟩,?_,fun x c e=>?_,?_,fun x c e=>?_,fun p hp=>?_,hok,I.len⟩
 .exact keep b o (neL b o e) hb (neC b o e hx) (I.base.keep b o e n hb hx) (I.base.free b o e n hx)
 .obtain ⟨sl,e1⟩:=I.base.slot b o e n hb hx;obtain ⟨sl',e2⟩:=slot b _ (neL b o e) hb (neC b o e hx) e1 (I.base.free b o e n hx);exact ⟨sl',e2⟩
 .obtain ⟨o',e1⟩:=I.base.there b o e hx;exact free b o' (neC b o e hx) e1 (I.base.free b o e n hx)
 .obtain ⟨o',e1⟩:=I.base.there b o e hx;exact there b o' (neC b o e hx) e1
 .obtain ⟨m1,e1⟩:=I.base.tbls b ps e;obtain ⟨m2,e2⟩:=tbls b _ e1;exact ⟨m1++m2,by rw [e2,Array.append_assoc]⟩
 .obtain ⟨m,hn,hl⟩:=I.loc;refine ⟨m,ns m hn,fun i x v e1 e2 e3=>?_⟩;obtain ⟨u,r,l⟩:=hl i x v e1 e2 e3;refine ⟨u,r,?_⟩
  rcases l with l | ⟨k,c,e,z⟩
  .exact .inl l
  .exact .inr ⟨k,c,e,cellK x c e _ z⟩
 .obtain ⟨v,z⟩:=I.cell x c e;exact ⟨v,cellK x c e v z⟩
 .obtain ⟨m,⟨o,_,_,ho,_⟩,_⟩:=I.loc;exact free _ o (fun z=>(k6 _ z).2.1 rfl) ho I.free
 .obtain ⟨v,o,ho,hd⟩:=I.cell x c e;exact free c o (fun z=>(k6 c z).2.2.1 x c e rfl) ho (I.freeC x c e)
 .obtain ⟨e,n,ne,nf,d⟩:=I.pin p hp;have nch:p.1∉ch:=fun z=>(k6 p.1 z).2.2.2 p hp rfl
  exact ⟨keep p.1 p.2 ne nf nch e n,free p.1 p.2 nch e n,ne,nf,d⟩
theorem Inv.un{t':Nat}(I:Inv X aa Y H s)(u:Un X.fs [] H H' s.heap h')(hok:O1 X.prog X.w H' h'):Inv X aa Y H' { s with heap:=h',toks:=t' }:=by
 obtain ⟨m,⟨o,es,ep,ho,r⟩,_⟩:=id I.loc;obtain ⟨sl,hL⟩:=u.any ho I.free (by simp);exact I.step (g':=s.gens) (d':=s.drawn) (ch:=[]) (fun _ z=>nomatch z) (fun b o _ hb _ e n=>u.keep b o e n hb (by simp)) (fun b o _ hb _ e n=>u.slot b o e n hb (by simp)) (fun b o _ e n=>u.free b o e n (by simp)) (fun b o _ e=>u.there b o e (by simp)) u.tups u.frzs u.tbls (fun m' hm=>by
  obtain ⟨o',es',ep',u8,r'⟩:=hm;rw [ho] at u8;cases u8;exact ⟨_,es',ep',hL,r'⟩) hok I.bare
theorem Inv.call{g':Array GenState}{t':Nat}{d':Drawn}{ch:Ai}(I:Inv X aa Y H s)(u:Un (r8 X.stack) ch H H' s.heap h')(hok:O1 X.prog X.w H' h')(hg:AllBare g')(k6:∀ b∈ch,(b∈X.ex\/X.s₀.heap.objs.size<=b)/\b≠X.env.locals/\(∀ x c,X.env.cells.lookup x=some c->c≠b)/\∀ p∈X.pn++aa,p.1≠b) :
  Inv X aa Y H' { s with heap:=h',gens:=g',drawn:=d',toks:=t' }:=by
 obtain ⟨m,⟨o,es,ep,ho,r⟩,_⟩:=id I.loc;obtain ⟨sl,hL⟩:=u.any ho I.free fun z=>(k6 _ z).2.1 rfl
 exact I.step (ch:=ch) k6 (fun b o hL hb hc e n=>u.keep b o e n (fun z=>(D8.mp (I.stkSub b z)).elim hL hb) hc) (fun b o _ _ hc e n=>u.any e n hc) (fun b o hc e n=>u.free b o e n hc) (fun b o hc e=>u.there b o e hc) u.tups u.frzs u.tbls (fun m' hm=>by
  obtain ⟨o',es',ep',u8,r'⟩:=hm;rw [ho] at u8;cases u8;exact ⟨_,es',ep',hL,r'⟩) hok hg
theorem Inv.turned{t':Nat}{it:ab}(I:Inv X aa Y H s)(k:∀ b o,b≠it->s.heap.get? b=some o->h'.get? b=some o)(hn:H it=none)(hL:it≠X.env.locals)(h1:it∈X.ex\/X.s₀.heap.objs.size<=it)(h2:∀ x c,X.env.cells.lookup x=some c->c≠it)(h3:∀ p∈X.pn++aa,p.1≠it):Inv X aa Y H { s with heap:=h',toks:=t' }:=by
 have nit:∀ b u,H b=some u->b≠it:=fun b u e z=>by rw [z,hn] at e;cases e
 refine I.step (g':=s.gens) (d':=s.drawn) (ch:=[it]) (fun b hb=>?_) (fun b o _ _ hc e _=>k b o (fun z=>hc (by simp [z])) e) (fun b o _ _ hc e _=>⟨o.slots,k b o (fun z=>hc (by simp [z])) e⟩) (fun _ _ _ _ n=>n)
  (fun b o hc e=>⟨o,k b o (fun z=>hc (by simp [z])) e⟩) (fun _ _ e=>e) (fun _ _ _ e=>e) (fun b ps e=>⟨#[],by rw [e];simp⟩) (fun m hm=>?_) (fun b u e=>?_) I.bare
 .have e:b=it:=by simpa using hb
  subst e;exact ⟨h1,hL,h2,h3⟩
 .obtain ⟨o,es,ep,ho,r⟩:=hm;exact ⟨o,es,ep,k _ o (Ne.symm hL) ho,r⟩
 .refine (I.hok b u e).stay (fun c v hc q=>k c v ?_ q) (fun _ q=>q) fun _ _ q=>q
  rcases hc with z | z
  .rw [z];exact nit b u e
  .exact nit c _ z
theorem Inv.tok(I:Inv X aa Y H s)(t:Nat):Inv X aa Y H { s with toks:=t }:=I.un (h':=s.heap) (t':=t) Un.refl I.hok
theorem Inv.kept{t':Nat}(I:Inv X aa Y H s)(k:∀ b u,s.heap.get? b=some u->h'.get? b=some u):Inv X aa Y H { s with heap:=h',toks:=t' }:=I.un (Un.kept k) (I.hok.kept k)
theorem Inv.laid{a:ab}{o:HO}{t':Nat}(I:Inv X aa Y H s)(k:∀ b u,s.heap.get? b=some u->h'.get? b=some u)(hp:s.heap.objs.size<=a)(new:ObjOk X.prog X.w (A0 H a o) h' a o) :
  Inv X aa Y (A0 H a o) { s with heap:=h',toks:=t' }:=I.un (Un.laid k hp (I.hok.fresh hp)) (I.hok.laid k hp new)
theorem Inv.write{x e:ab}{o:HO}{t':Nat}(I:Inv X aa Y H s)(mu:kS (H x))(he:e=x\/H e=some (.own x))(k:∀ b u,b≠e->s.heap.get? b=some u->h'.get? b=some u)(jC:∃ u,h'.get? e=some u)(new:ObjOk X.prog X.w (A0 H x o) h' x o):Inv X aa Y (A0 H x o) { s with heap:=h',toks:=t' }:=I.un (Un.write mu he k jC) (I.hok.write mu he k jC new)
theorem Inv.pins_of{pins':Ad}(I:Inv X aa Y H s)(h:∀ p∈pins',s.heap.get? p.1=some p.2/\H p.1=none/\p.1≠X.env.locals/\p.1∉X.fs/\∀ v,p.2.data≠.cell v):Inv X pins' Y H s:=
 ⟨I.ok,I.os,I.bare,I.base,I.loc,I.cell,I.free,I.freeC,fun p hp=>(J9.mp hp).elim (fun z=>I.pin p (P1 _ z)) (h p),I.hok,I.len⟩
theorem aix{N:Ab}(hN:N.Nodup){i j:Nat}{x:Str}(a:N[i]?=some x)(b:N[j]?=some x):i=j:=by
 obtain ⟨h1,e1⟩:=F8.mp a;obtain ⟨h2,e2⟩:=F8.mp b;exact (List.getElem_inj hN).mp (e1.trans e2.symm)
theorem aj6{M:Model}{A:ay}{E:Ac}{i:Nat}{x:Str}{v:V}{u:ac}{Q:Unit->ag->Prop}(I:Inv X aa Y H s)(hN:X.N.Nodup)(hi:X.N[i]?=some x)(hx:e9 X.env.scope x)(r:RelV v u)(h:∀ s',Inv X aa (Y.set i (some v)) H s'->(∃ a,au.SameBut a s.heap s'.heap/\(a=X.env.locals\/X.env.cells.lookup x=some a))->Q () s')(hf:X.fn x=true\/X.env.scope.names.lookup x=some .local:=by first | exact .inl rfl | exact .inr rfl | assumption):wpAny M A (storeName X.env x u) Q E s:=by
 obtain ⟨m,hn,hl⟩:=id I.loc;have xR:(X.env.scope.kind == .class || (X.env.scope.kind == .module&&X.env.locals != X.env.globals))=false:=by rw [I.ok.kind];rfl
 have hiσ:i<Y.length:=by rw [I.len];exact (F8.mp hi).1
 have cne:=I.cne;have tracked:∀ {a:ab} {h':au},(∃ o,s.heap.get? a=some o/\H a=none)->au.SameBut a s.heap h'->O1 X.prog X.w H h':=fun {a h'} ha hs b ob e=>by
  obtain ⟨_,_,dC⟩:=ha;refine (I.hok b ob e).stay (fun c w' hc q=>(hs.2 c ?_).trans q) (fun _ q=>q) fun _ _ q=>q
  rintro rfl
  rcases hc with rfl | hc
  .rw [dC] at e;cases e
  .rw [dC] at hc;cases hc
 rcases hx with hk | hk
 .refine wpAny_storeName_local hk hn (fun h' hn' hs=>?_) xR;obtain ⟨oL,_,_,hoL,_⟩:=id hn;refine h _ ⟨I.ok,I.os,I.bare,⟨fun b o e n hb hx=>?_,fun b o e n hb hx=>?_,I.base.free,fun b o e hx=>?_,I.base.tups,I.base.frzs,I.base.tbls⟩,⟨_,hn',fun j y v' e1 e2 e3=>?_⟩,fun y c e=>?_,I.free,I.freeC,fun p hp=>?_,tracked ⟨oL,hoL,I.free⟩ hs,by simpa using I.len⟩ ⟨_,hs,.inl rfl⟩
  .exact (hs.2 b (O4 (U6 (ba e) I.ok.above))).trans (I.base.keep b o e n hb hx)
  .obtain ⟨sl,e1⟩:=I.base.slot b o e n hb hx;exact ⟨sl,(hs.2 b (O4 (U6 (ba e) I.ok.above))).trans e1⟩
  .obtain ⟨o',e1⟩:=I.base.there b o e hx;exact ⟨o',(hs.2 b (O4 (U6 (ba e) I.ok.above))).trans e1⟩
  .by_cases hj:j=i
   .subst hj;rw [hi] at e1;cases e1;rw [List.getElem?_set_self hiσ] at e2;cases e2;exact ⟨u,r,.inl ⟨hk,by simp⟩⟩
   .rw [List.getElem?_set_ne (Ne.symm hj)] at e2;obtain ⟨u',r',q⟩:=hl j y v' e1 e2 e3;refine ⟨u',r',?_⟩
    rcases q with ⟨k,e⟩ | ⟨k,c,e,z⟩
    .refine .inl ⟨k,?_⟩
     have:y≠x:=fun e=>hj (aix hN e1 (e ▸ hi))
     simp [this,e]
    .exact .inr ⟨k,c,e,z.sameBut hs (cne y c e)⟩
  .obtain ⟨w',z⟩:=I.cell y c e;exact ⟨w',z.sameBut hs (cne y c e)⟩
  .obtain ⟨e,n,ne,nf,d⟩:=I.pin p hp;exact ⟨(hs.2 p.1 ne).trans e,n,ne,nf,d⟩
 .have xS:X.fn x=true:=by
   rcases hf with z | z
   .exact z
   .rw [z] at hk;cases hk
  obtain ⟨c,hc⟩:=I.ok.has x (.inl hk);obtain ⟨w',z⟩:=I.cell x c hc;refine wpAny_storeName_cell I.ok.kind hk hc z (fun h' o5 hs=>?_);obtain ⟨oc,xT,xU⟩:=id z;refine h { s with heap:=h' } ⟨I.ok,I.os,I.bare,⟨fun b o e n hb hx=>?_,fun b o e n hb hx=>?_,I.base.free,fun b o e hx=>?_,I.base.tups,I.base.frzs,I.base.tbls⟩,⟨m,hn.sameBut hs (Ne.symm (cne x c hc)),fun j y v' e1 e2 e3=>?_⟩,fun y c' e=>?_,I.free,I.freeC,fun p hp=>?_,tracked ⟨oc,xT,I.freeC x c hc⟩ hs,by simpa using I.len⟩ ⟨c,hs,.inr hc⟩
  .exact (hs.2 b (O4 (U6 (ba e) (I.ok.cab x c xS hc)))).trans (I.base.keep b o e n hb hx)
  .obtain ⟨sl,e1⟩:=I.base.slot b o e n hb hx;exact ⟨sl,(hs.2 b (O4 (U6 (ba e) (I.ok.cab x c xS hc)))).trans e1⟩
  .obtain ⟨o',e1⟩:=I.base.there b o e hx;exact ⟨o',(hs.2 b (O4 (U6 (ba e) (I.ok.cab x c xS hc)))).trans e1⟩
  .by_cases hj:j=i
   .subst hj;rw [hi] at e1;cases e1;rw [List.getElem?_set_self hiσ] at e2;cases e2;exact ⟨u,r,.inr ⟨.inl hk,c,hc,o5⟩⟩
   .rw [List.getElem?_set_ne (Ne.symm hj)] at e2;obtain ⟨u',r',q⟩:=hl j y v' e1 e2 e3;refine ⟨u',r',?_⟩
    rcases q with q | ⟨k,c',e,z'⟩
    .exact .inl q
    .refine .inr ⟨k,c',e,z'.sameBut hs ?_⟩;rintro rfl;exact hj (aix hN e1 (I.ok.inj _ _ _ e hc ▸ hi))
  .by_cases hcc:c'=c
   .subst hcc;exact ⟨_,o5⟩
   .obtain ⟨w2,z2⟩:=I.cell y c' e;exact ⟨w2,z2.sameBut hs hcc⟩
  .obtain ⟨e,n,ne,nf,d⟩:=I.pin p hp;refine ⟨(hs.2 p.1 ?_).trans e,n,ne,nf,d⟩;intro q;rw [q,xT] at e;have q':oc=p.2:=bh e;exact d w' (by rw [<- q'];exact xU)
theorem oP{M:Model}{A:ay}{E:Ac}{i:Nat}{x:Str}{v:V}{u:ac}{Q:Unit->ag->Prop}(I:Inv X aa Y H s)(hN:X.N.Nodup)(hi:X.N[i]?=some x)(hx:e9 X.env.scope x)(r:RelV v u)(h:∀ s',Inv X aa (Y.set i (some v)) H s'->Q () s')(hf:X.fn x=true\/X.env.scope.names.lookup x=some .local:=by first | exact .inl rfl | exact .inr rfl | assumption):wpAny M A (storeName X.env x u) Q E s:=
 aj6 I hN hi hx r (fun s' I' _=>h s' I') hf
theorem Inv.call'{s':ag}{ch:Ai}(I:Inv X aa Y H s)(ho:s'.os=s.os)(u:Un (r8 X.stack) ch H H' s.heap s'.heap)(hok:O1 X.prog X.w H' s'.heap)(hg:AllBare s'.gens)(k6:∀ b∈ch,(b∈X.ex\/X.s₀.heap.objs.size<=b)/\b≠X.env.locals/\(∀ x c,X.env.cells.lookup x=some c->c≠b)/\∀ p∈X.pn++aa,p.1≠b):Inv X aa Y H' s':=by
 obtain ⟨h',g',d',t',o'⟩:=s';have e:o'=s.os:=ho;subst e;exact I.call (g':=g') (t':=t') (d':=d') u hok hg k6
end
noncomputable abbrev XK:=ac->Ah->Hp->Prop
noncomputable abbrev St:=List Ap
noncomputable abbrev Ar:=St -> Hp -> Prop
noncomputable abbrev VK:=V->Hp->Prop
noncomputable abbrev TE:=St->Hp->VK->Prop
noncomputable abbrev TT:=St->Hp->(Bool->Hp->Prop)->Prop
noncomputable abbrev TA:=St->Hp->(Ao->Hp->Prop)->Prop
structure Ends where
 nx:Ar
 rt:VK
 bk:Ar:=fun _ _=>False
 ct:Ar:=fun _ _=>False
noncomputable abbrev TS:=Ends->Ar
noncomputable def EP (X:Cx) (aa:Ad) (Y:St) (Q:VK) (u:ac) (s':ag):Prop:=∃ v H',Inv X aa Y H' s'/\RelV v u/\Q v H'
noncomputable def TP (X:Cx) (aa:Ad) (Y:St) (Q:Bool->Hp->Prop) (b:Bool) (s':ag):Prop:=∃ H',Inv X aa Y H' s'/\Q b H'
noncomputable def AP (X:Cx) (aa:Ad) (Y:St) (Q:Ao->Hp->Prop) (us:Ae) (s':ag):Prop:=∃ vs H',Inv X aa Y H' s'/\Vals vs us/\Q vs H'
noncomputable def SP (X:Cx) (aa:Ad) (D:Ends) (f:Flow) (s':ag):Prop:=
 match f with
 | .next=>∃ σ' H',Inv X aa σ' H' s'/\D.nx σ' H'
 | .brk=>∃ σ' H',Inv X aa σ' H' s'/\D.bk σ' H'
 | .cont=>∃ σ' H',Inv X aa σ' H' s'/\D.ct σ' H'
 | .ret u=>∃ v σ' H',Inv X aa σ' H' s'/\RelV v u/\D.rt v H'
noncomputable def PE (X:Cx) (e:ao) (t:TE):Prop:=
 ∀ (aa:Ad) (s:ag) (Y:St) (H:Hp) (Q:VK),Inv X aa Y H s->t Y H Q->wpAny (model X.prog X.w) X.A (eval e X.env) (EP X aa Y Q) X.xe s
noncomputable def PT (X:Cx) (e:ao) (t:TT):Prop:=
 ∀ (aa:Ad) (s:ag) (Y:St) (H:Hp) (Q:Bool->Hp->Prop),Inv X aa Y H s->t Y H Q->wpAny (model X.prog X.w) X.A (isTrue e X.env (eval e X.env)) (TP X aa Y Q) X.xe s
noncomputable def PW (X:Cx) (e:ao) (t:TT):Prop:=
 ∀ (whole:Sem ac) (aa:Ad) (s:ag) (Y:St) (H:Hp) (Q:Bool->Hp->Prop),Inv X aa Y H s->t Y H Q->wpAny (model X.prog X.w) X.A (isTrue e X.env whole) (TP X aa Y Q) X.xe s
theorem PW.pt{X:Cx}{e:ao}{t:TT}(h:PW X e t):PT X e t:=h _
noncomputable def PA (X:Cx) (es:Aj) (t:TA):Prop:=
 ∀ (pos:aw) (aa:Ad) (s:ag) (Y:St) (H:Hp) (Q:Ao->Hp->Prop),Inv X aa Y H s->t Y H Q->wpAny (model X.prog X.w) X.A (spliced (backTo pos (bf es X.env))) (AP X aa Y Q) X.xe s
noncomputable def PS (X:Cx) (st:aq) (t:TS):Prop:=
 ∀ (aa:Ad) (s:ag) (Y:St) (H:Hp) (D:Ends),Inv X aa Y H s->t D Y H->wpAny (model X.prog X.w) X.A (exec st X.env) (SP X aa D) X.xe s
noncomputable def Z6 (X:Cx) (st:List aq) (t:TS):Prop:=
 ∀ (aa:Ad) (s:ag) (Y:St) (H:Hp) (D:Ends),Inv X aa Y H s->t D Y H->wpAny (model X.prog X.w) X.A (execs st X.env) (SP X aa D) X.xe s
theorem M0{α:Type}{t:Sem α}{Q Q':α->ag->Prop}{M:Model}{A:ay}{E:Ac}{s:ag}(h:wpAny M A t Q E s)(hQ:∀ a s,Q a s->Q' a s):wpAny M A t Q' E s:=bt h hQ fun _ _ x=>x
theorem thnE{X:Cx}{aa:Ad}{Y:St}{Q:VK}{t:Sem ac}{Q':Ac}{M:Model}{A:ay}{E:Ac}{s:ag}(h:wpAny M A t (EP X aa Y Q) E s)(hQ:∀ v s x H,Inv X aa Y H s->RelV x v->Q x H->Q' v s):wpAny M A t Q' E s:=M0 h fun v s z=>z.elim fun x z=>z.elim fun H z=>hQ v s x H z.1 z.2.1 z.2.2
theorem thnA{X:Cx}{aa:Ad}{Y:St}{Q:Ao->Hp->Prop}{t:Sem Ae}{Q':Ae->ag->Prop}{M:Model}{A:ay}{E:Ac}{s:ag}(h:wpAny M A t (AP X aa Y Q) E s)(hQ:∀ v s x H,Inv X aa Y H s->Vals x v->Q x H->Q' v s):wpAny M A t Q' E s:=M0 h fun v s z=>z.elim fun x z=>z.elim fun H z=>hQ v s x H z.1 z.2.1 z.2.2
theorem thnT{X:Cx}{aa:Ad}{Y:St}{Q:Bool->Hp->Prop}{t:Sem Bool}{Q':Bool->ag->Prop}{M:Model}{A:ay}{E:Ac}{s:ag}(h:wpAny M A t (TP X aa Y Q) E s)(hQ:∀ v s H,Inv X aa Y H s->Q v H->Q' v s):wpAny M A t Q' E s:=M0 h fun v s z=>z.elim fun H z=>hQ v s H z.1 z.2
end L2
namespace L2
open PySem PySem.Spec PyProof.Rows
section
variable {X:Cx}
noncomputable def tVar (i:Nat):TE:=fun Y H Q=>∃ v,Y[i]?=some (some v)/\Q v H
noncomputable def tC (v:V):TE:=fun _ H Q=>Q v H
theorem anw{i:Nat}{x:Str}{pos:aw}(hN:X.N[i]?=some x)(hv:gZ X.env.scope x)(hd:(x==("__debug__" : Str))=false:=by decide)(g3:(x==("__classdict__" : Str))=false:=by decide):PE X (.Name x pos) (tVar i):=by
 intro aa s Y H Q I h;obtain ⟨v,e,h⟩:=h;obtain ⟨m,hn,hl⟩:=I.loc;obtain ⟨u,r,l⟩:=hl i x v hN e hv;have fin:EP X aa Y Q u s:=⟨v,H,I,r,h⟩
 rcases l with ⟨hk,hm⟩ | ⟨hk,c,hc,N3⟩
 .exact wpAny_Name (wpAny_loadName_local I.ok.kind hk hn hm fin) hd
 .rcases hk with hk | hk
  .exact wpAny_Name (wpAny_loadName_cell I.ok.kind hk hc N3 fin) hd
  .exact wpAny_Name (wpAny_loadName_free I.ok.kind hk hc N3 fin g3) hd
theorem anx{i j pos} : PE X (.Constant (.int i) j pos) (tC (.int i)):=fun _ _ _ H _ I h=>wpAny_Constant_int ⟨.int i,H,I.tok _,⟨_,rfl⟩,h⟩
theorem pe_bl{b j pos} : PE X (.Constant (.bool b) j pos) (tC (.bl b)):=fun _ _ _ H _ I h=>Constant_bool ⟨.bl b,H,I,rfl,h⟩
theorem aqI{j pos} : PE X (.Constant .none j pos) (tC .non):=fun _ _ _ H _ I h=>Constant_none ⟨.non,H,I,rfl,h⟩
theorem aqJ{x j pos} : PE X (.Constant (.str x) j pos) (tC (.str x)):=fun _ _ _ H _ I h=>Calls.Constant_str ⟨.str x,H,I.tok _,⟨_,rfl⟩,h⟩
noncomputable def Gl (X:Cx) (x:Str):Prop:=X.env.kindOf x=some .globalImplicit
theorem sF{E:Ac}{aa:Ad}{s:ag}{Y:St}{H:Hp}{x:Str}{u:ac}{pos:aw}{Q:Ac}(I:Inv X aa Y H s)(hg:Gl X x)(hm:X.mg x=some u)(h:Q u s)(hd:(x==("__debug__" : Str))=false:=by decide):wpAny (model X.prog X.w) X.A (eval (.Name x pos) X.env) Q E s:=
 Calls.Name_function_global I.ok.kind hg (Calls.loadGlobal_global (by rw [I.ok.glob];exact I.mod.glob.keeps I.bk) hm h) hd
theorem aB{E:Ac}{aa:Ad}{s:ag}{Y:St}{H:Hp}{x:Str}{u:ac}{pos:aw}{Q:Ac}(I:Inv X aa Y H s)(hg:Gl X x)(hm:X.mg x=none)(hv:bn x=some u)(h:Q u s)(hn:x≠"__name__":=by decide)(hd:(x==("__debug__" : Str))=false:=by decide):wpAny (model X.prog X.w) X.A (eval (.Name x pos) X.env) Q E s:=by
 obtain ⟨mb,h1,h2⟩:=I.mod.blt;exact Calls.Name_function_global I.ok.kind hg (Calls.loadGlobal_builtin (by rw [I.ok.glob];exact I.mod.glob.keeps I.bk) hm (by rw [I.ok.blt];exact h1.keeps I.bk) ((h2 x hn).trans hv) h) hd
theorem aj7{x:Str}{v:V}{u:ac}{pos:aw}(hg:Gl X x)(hm:X.mg x=some u)(r:RelV v u)(hd:(x==("__debug__" : Str))=false:=by decide):PE X (.Name x pos) (tC v):=
 fun _ _ _ H _ I h=>sF I hg hm ⟨v,H,I,r,h⟩ hd
theorem an7{x:Str}{v:V}{u:ac}{pos:aw}(hg:Gl X x)(hm:X.mg x=none)(hv:bn x=some u)(r:RelV v u)(hn:x≠"__name__":=by decide)(hd:(x==("__debug__" : Str))=false:=by decide):PE X (.Name x pos) (tC v):=
 fun _ _ _ H _ I h=>aB I hg hm hv ⟨v,H,I,r,h⟩ hn hd
variable {a b:ao} {ta tb:TE} {pos:aw}
noncomputable def tB (t:TE):TT:=fun Y H Q=>t Y H fun x H1=>∃ c,x=.bl c/\Q c H1
variable {tA tB':TT} {rest:Aj}
noncomputable def tAnd (t u:TT):TT:=fun Y H Q=>t Y H fun c H1=>if c=true then u Y H1 Q else Q false H1
noncomputable def sG (t u:TT):TT:=fun Y H Q=>t Y H fun c H1=>if c=true then Q true H1 else u Y H1 Q
noncomputable def tNot (t:TT):TT:=fun Y H Q=>t Y H fun c H1=>Q (!c) H1
theorem an8(ha:PT X a tA):PW X (.BoolOp .And [a] pos) tA:=by
 intro wh aa s Y H Q I h;refine isTrue_and (M0 (ha aa s Y H Q I h) fun c s1 e=>?_)
 cases c with
 | true=>exact isTrue_and_nil e
 | false=>exact e
theorem aqK(ha:PT X a tA):PW X (.BoolOp .Or [a] pos) tA:=by
 intro wh aa s Y H Q I h;refine isTrue_or (M0 (ha aa s Y H Q I h) fun c s1 e=>?_)
 cases c with
 | false=>exact isTrue_or_nil e
 | true=>exact e
theorem aqL(ha:PT X a tA)(hb:PW X (.BoolOp .And (b::rest) pos) tB'):PW X (.BoolOp .And (a::b::rest) pos) (tAnd tA tB'):=by
 intro wh aa s Y H Q I h;refine isTrue_and (thnT (ha aa s Y H _ I h) fun c s1 H1 I1 q1=>?_)
 cases c with
 | true=>exact hb wh aa s1 Y H1 Q I1 q1
 | false=>exact ⟨H1,I1,q1⟩
theorem pw_or(ha:PT X a tA)(hb:PW X (.BoolOp .Or (b::rest) pos) tB'):PW X (.BoolOp .Or (a::b::rest) pos) (sG tA tB'):=by
 intro wh aa s Y H Q I h;refine isTrue_or (thnT (ha aa s Y H _ I h) fun c s1 H1 I1 q1=>?_)
 cases c with
 | true=>exact ⟨H1,I1,q1⟩
 | false=>exact hb wh aa s1 Y H1 Q I1 q1
theorem aqM(ha:PT X a tA):PT X (.UnaryOp .Not a pos) (tNot tA):=by
 intro aa s Y H Q I h;exact isTrue_not (ha aa s Y H (fun c H1=>Q (!c) H1) I h)
noncomputable def tAndV (ta tb:TE):TE:=fun Y H Q=>ta Y H fun x H1=>∃ c,x=.bl c/\if c=true then tb Y H1 Q else Q (.bl false) H1
noncomputable def tOrV (ta tb:TE):TE:=fun Y H Q=>ta Y H fun x H1=>∃ c,x=.bl c/\if c=true then Q (.bl true) H1 else tb Y H1 Q
noncomputable def tNotV (ta:TE):TE:=fun Y H Q=>ta Y H fun x H1=>∃ c,x=.bl c/\Q (.bl (!c)) H1
theorem aqN{op}{t:TE}(h:PE X a t):PE X (.BoolOp op [a] pos) t:=fun aa s Y H Q I hw=>BoolOp_one (h aa s Y H Q I hw)
theorem aqO(ha:PE X a ta)(hb:PE X (.BoolOp .And (b::rest) pos) tb):PE X (.BoolOp .And (a::b::rest) pos) (tAndV ta tb):=by
 intro aa s Y H Q I h;refine BoolOp_and (thnE (ha aa s Y H _ I h) fun v s1 x H1 I1 r1 q1=>?_);obtain ⟨c,rfl,q1⟩:=q1
 cases r1
 refine wpAny_truthy_bool ?_
 cases c with
 | true=>exact hb aa s1 Y H1 Q I1 q1
 | false=>exact ⟨.bl false,H1,I1,rfl,q1⟩
noncomputable def sH (t:TT) (ta tb:TE):TE:=fun Y H Q=>t Y H fun c H1=>if c=true then ta Y H1 Q else tb Y H1 Q
theorem al8{c:ao}(hc:PT X c tA)(ha:PE X a ta)(hb:PE X b tb):PE X (.IfExp c a b pos) (sH tA ta tb):=by
 intro aa s Y H Q I h;refine wpAny_IfExp (thnT (hc aa s Y H _ I h) fun d s1 H1 I1 q1=>?_)
 cases d with
 | true=>exact ha aa s1 Y H1 Q I1 q1
 | false=>exact hb aa s1 Y H1 Q I1 q1
end
end L2
namespace L2
open PySem PySem.Spec PyProof.Rows
noncomputable def D9 (K:aj) (H:Hp) (a:ab) (xs:Ao):Prop:=
 Rd H a (.lst xs)\/
  ∃ (o:Obj) (its:Ak) (n:Nat),K.lookup a=some o/\o.cls=.type "list"/\o.dict=none/\o.data=.seq its n/\its.size<=ak/\Vals xs its.toList
noncomputable def C7 (K:aj) (H:Hp) (a:ab) (xs:Ao):Prop:=
 Rd H a (.tup xs)\/
  ∃ (o:Obj) (its:Ak) (n:Nat),K.lookup a=some o/\o.cls=.type "tuple"/\o.data=.seq its n/\its.size<=ak/\Vals xs its.toList
noncomputable def absV:ac->Ap
 | .none=>some .non
 | .bool b=>some (.bl b)
 | .int i _=>some (.int i)
 | .str x _=>some (.str x)
 | .bytes b _=>some (.byt b)
 | .float b _=>some (.flt b)
 | .ref a=>some (.ref a)
 | .type n=>some (.ty n)
 | _=>none
theorem RelV.abs{x:V}{u:ac}(r:RelV x u):absV u=some x:=by
 cases x with
 | non=>cases r;rfl
 | bl _=>cases r;rfl
 | int _=>obtain ⟨t,rfl⟩:=r;rfl
 | str _=>obtain ⟨t,rfl⟩:=r;rfl
 | byt _=>obtain ⟨t,rfl⟩:=r;rfl
 | flt _=>obtain ⟨t,rfl⟩:=r;rfl
 | ref _=>cases r;rfl
 | ty _=>cases r;rfl
theorem RelV.inj{x y:V}{u:ac}(r:RelV x u)(q:RelV y u):x=y:=bh (r.abs.symm.trans q.abs)
theorem Vals.inj:∀ {xs ys:Ao} {us:Ae},Vals xs us->Vals ys us->xs=ys
 | _,_,_,.nil,.nil=>rfl
 | _,_,_,.cons r t,.cons r' t'=>by rw [r.inj r',Vals.inj t t']
section
variable {X:Cx} {aa:Ad} {Y:St} {H:Hp} {s:ag} {a:ab} {xs ys:Ao}
theorem D9.of{K:aj}(h:H a=some (.lst xs)):D9 K H a xs:=.inl (.inl h)
theorem C7.of{K:aj}(h:H a=some (.tup xs)):C7 K H a xs:=.inl (.inl h)
theorem Inv.list(I:Inv X aa Y H s)(h:D9 X.K H a xs):∃ its:Ae,Vals xs its/\PlainL s.heap a its.toArray/\xs.length<=ak:=by
 rcases h with h | ⟨o,its,n,hk,hc,hd,hs,hz,r⟩
 .obtain ⟨z,its,n,r,e⟩:=h.ok I.hok;exact ⟨its,r,⟨_,n,e,rfl,rfl,rfl⟩,z⟩
 .refine ⟨its.toList,r,⟨o,n,I.kIn a o hk,hc,hd,by simpa using hs⟩,?_⟩;have e:=r.length;simp only [eP] at e;lia
theorem Inv.tuple(I:Inv X aa Y H s)(h:C7 X.K H a xs):∃ its:Ae,Vals xs its/\IsTup s.heap a its.toArray/\xs.length<=ak:=by
 rcases h with h | ⟨o,its,n,hk,hc,hs,hz,r⟩
 .obtain ⟨z,its,r,p⟩:=h.ok I.hok;exact ⟨its,r,p,z⟩
 .refine ⟨its.toList,r,⟨o,I.kIn a o hk,hc,n,by simpa using hs⟩,?_⟩;have e:=r.length;simp only [eP] at e;lia
theorem Inv.list_inj(I:Inv X aa Y H s)(h:D9 X.K H a xs)(h':D9 X.K H a ys):xs=ys:=by
 obtain ⟨its,r,⟨o,n,e,_,_,d⟩,_⟩:=I.list h;obtain ⟨its',r',⟨o',n',e',_,_,d'⟩,_⟩:=I.list h';rw [e] at e';cases e';rw [d] at d'
 injection d' with d1 _
 have:its=its':=by simpa using congrArg Array.toList d1
 subst this;exact r.inj r'
theorem Inv.tuple_inj(I:Inv X aa Y H s)(h:C7 X.K H a xs)(h':C7 X.K H a ys):xs=ys:=by
 obtain ⟨its,r,⟨o,e,_,n,d⟩,_⟩:=I.tuple h;obtain ⟨its',r',⟨o',e',_,n',d'⟩,_⟩:=I.tuple h';rw [e] at e';cases e';rw [d] at d'
 injection d' with d1 _
 have:its=its':=by simpa using congrArg Array.toList d1
 subst this;exact r.inj r'
end
noncomputable abbrev Cx.wish (X:Cx) (E:Ac):Cx:={ X with xe:=E }
noncomputable abbrev Cx.nox (X:Cx):Cx:=X.wish fun _ _=>False
theorem Cx.Ok.wish{X:Cx}(ok:X.Ok)(E:Ac):(X.wish E).Ok:=
 ⟨ok.mod,ok.kind,ok.glob,ok.blt,ok.above,ok.inj,ok.has,ok.cab,ok.hd,ok.frames,ok.stk,ok.exf,ok.bs,ok.bsz,ok.noex,ok.exfs,ok.funs,ok.frf⟩
theorem Cx.Ok.unwish{X:Cx}{E:Ac}(ok:(X.wish E).Ok):X.Ok:=
 ⟨ok.mod,ok.kind,ok.glob,ok.blt,ok.above,ok.inj,ok.has,ok.cab,ok.hd,ok.frames,ok.stk,ok.exf,ok.bs,ok.bsz,ok.noex,ok.exfs,ok.funs,ok.frf⟩
section
variable {X:Cx} {aa:Ad} {Y:St} {H:Hp} {s:ag} {E:Ac}
theorem Inv.wish(I:Inv X aa Y H s)(E:Ac):Inv (X.wish E) aa Y H s:=⟨I.ok.wish E,I.os,I.bare,I.base,I.loc,I.cell,I.free,I.freeC,I.pin,I.hok,I.len⟩
theorem Inv.unwish(I:Inv (X.wish E) aa Y H s):Inv X aa Y H s:=⟨I.ok.unwish,I.os,I.bare,I.base,I.loc,I.cell,I.free,I.freeC,I.pin,I.hok,I.len⟩
theorem SP.unwish{D:Ends}{f:Flow}{s':ag}(h:SP (X.wish E) aa D f s'):SP X aa D f s':=by
 cases f with
 | next=>obtain ⟨σ',H',I,q⟩:=h;exact ⟨σ',H',I.unwish,q⟩
 | brk=>obtain ⟨σ',H',I,q⟩:=h;exact ⟨σ',H',I.unwish,q⟩
 | cont=>obtain ⟨σ',H',I,q⟩:=h;exact ⟨σ',H',I.unwish,q⟩
 | ret u=>obtain ⟨v,σ',H',I,r,q⟩:=h;exact ⟨v,σ',H',I.unwish,r,q⟩
theorem Z6.nox{st:List aq}{t:TS}(h:Z6 X.nox st t):Z6 X st t:=fun aa s Y H D I hw=>
 bt (h aa s Y H D (I.wish _) hw) (fun _ _ q=>q.unwish) fun _ _ z=>False.elim z
end
section
variable {X:Cx} {st:aq} {rest:List aq} {t u:TS} {e:ao} {te:TE} {pos:aw}
noncomputable def tNext:TS:=fun D Y H=>D.nx Y H
noncomputable def tSeq (t u:TS):TS:=fun D Y H=>t { D with nx:=u D } Y H
theorem an9:Z6 X [] tNext:=fun _ _ Y H _ I h=>ca ⟨Y,H,I,h⟩
theorem al9(h1:PS X st t)(h2:Z6 X rest u):Z6 X (st::rest) (tSeq t u):=by
 intro aa s Y H D I h;refine cg (M0 (h1 aa s Y H { D with nx:=u D } I h) fun f s1 q=>?_)
 cases f with
 | next=>
  obtain ⟨σ',H',I',q⟩:=q;exact h2 aa s1 σ' H' D I' q
 | ret v=>exact q
 | brk=>exact q
 | cont=>exact q
theorem aoa(h1:PS X st t):Z6 X [st] t:=by
 intro aa s Y H D I h;refine cg (M0 (h1 aa s Y H D I h) fun f s1 q=>?_)
 cases f with
 | next=>exact ca q
 | ret v=>exact q
 | brk=>exact q
 | cont=>exact q
noncomputable def aqP:TS:=fun D Y H=>D.bk Y H
noncomputable def tCont:TS:=fun D Y H=>D.ct Y H
theorem Inv.quiet{aa:Ad}{Y:St}{H:Hp}{s:ag}(I:Inv X aa Y H s):interactive X.env=false:=by simp [interactive,I.ok.kind]
noncomputable def tDrop (te:TE):TS:=fun D Y H=>te Y H fun _ H1=>D.nx Y H1
theorem aob(he:PE X e te)(hs:bv e none pos.line X.env=pure false:=by rfl):PS X (.Expr e pos) (tDrop te):=by
 intro aa s Y H D I h;exact wpAny_Expr_any (thnE (he aa s Y H _ I h) fun v s1 x H1 I1 r1 q1=>⟨Y,H1,I1,q1⟩) I.quiet hs
noncomputable def tRet (te:TE):TS:=fun D Y H=>te Y H D.rt
theorem aqQ(he:PE X e te):PS X (.Return (some e) pos) (tRet te):=by
 intro aa s Y H D I h;exact wpAny_Return_some (thnE (he aa s Y H _ I h) fun v s1 x H1 I1 r1 q1=>⟨x,Y,H1,I1,r1,q1⟩)
noncomputable def tRetN:TS:=fun D _ H=>D.rt .non H
noncomputable def tIfS (c:TT) (t u:TS):TS:=fun D Y H=>c Y H fun b H1=>if b=true then t D Y H1 else u D Y H1
theorem ps_if{c:ao}{a b:List aq}{tc:TT}(hc:PT X c tc)(ha:Z6 X a t)(hb:Z6 X b u):PS X (.If c a b pos) (tIfS tc t u):=by
 intro aa s Y H D I h;refine wpAny_If (thnT (hc aa s Y H _ I h) fun d s1 H1 I1 q1=>?_)
 cases d with
 | true=>exact ha aa s1 Y H1 D I1 q1
 | false=>exact hb aa s1 Y H1 D I1 q1
noncomputable def sI:TS:=fun _ _ _=>False
theorem ama:PS X st sI:=fun _ _ _ _ _ _ h=>h.elim
end
noncomputable abbrev TG:=V->St->Hp->Ar->Prop
noncomputable abbrev n5:=Ao->St->Hp->Ar->Prop
noncomputable def PG (X:Cx) (target:ao) (t:TG):Prop:=
 ∀ (aa:Ad) (s:ag) (Y:St) (H:Hp) (v:V) (u:ac) (Q:Ar),Inv X aa Y H s->RelV v u->t v Y H Q->
  wpAny (model X.prog X.w) X.A (assign target X.env u) (fun _ s'=>∃ σ' H',Inv X aa σ' H' s'/\Q σ' H') X.xe s
noncomputable def kT (X:Cx) (ts:Aj) (t:n5):Prop:=
 ∀ (aa:Ad) (s:ag) (Y:St) (H:Hp) (vs:Ao) (us:Ae) (Q:Ar),Inv X aa Y H s->Vals vs us->t vs Y H Q->
  wpAny (model X.prog X.w) X.A (assignInOrder ((assignEach ts X.env).map (·.2)) us) (fun _ s'=>∃ σ' H',Inv X aa σ' H' s'/\Q σ' H') X.xe s
noncomputable abbrev TSet:=V->V->V->Hp->(Hp->Prop)->Prop
noncomputable abbrev cN:=V->V->Hp->VK->Prop
noncomputable def sJ (X:Cx) (op:Operator) (t:cN):Prop:=
 ∀ (aa:Ad) (s:ag) (Y:St) (H:Hp) (x y:V) (v u:ac) (Q:VK),Inv X aa Y H s->RelV x v->RelV y u->t x y H Q->
  wpAny (model X.prog X.w) X.A (inplaceOp op v u) (EP X aa Y Q) X.xe s
section
variable {X:Cx} {pos:aw}
noncomputable def gName (i:Nat):TG:=fun v Y H Q=>Q (Y.set i (some v)) H
theorem aoc{i:Nat}{x:Str}(hN:X.N.Nodup)(hi:X.N[i]?=some x)(hx:e9 X.env.scope x)(hf:X.fn x=true\/X.env.scope.names.lookup x=some .local:=by first | exact .inl rfl | exact .inr rfl | assumption):PG X (.Name x pos) (gName i):=by
 intro aa s Y H v u Q I r h;exact wpAny_assign_Name (oP I hN hi hx r (fun s' I'=>⟨_,H,I',h⟩) hf)
noncomputable def gNil:n5:=fun vs Y H Q=>vs=[]/\Q Y H
noncomputable def gCons (t:TG) (u:n5):n5:=fun vs Y H Q=>∃ v r,vs=v::r/\t v Y H fun σ' H'=>u r σ' H' Q
theorem aod:kT X [] gNil:=by
 intro aa s Y H vs us Q I r h;obtain ⟨e,h⟩:=h;subst e
 cases r
 exact assignInOrder_nil ⟨Y,H,I,h⟩
theorem amb{e:ao}{es:Aj}{t:TG}{u:n5}(h1:PG X e t)(h2:kT X es u)(hs:(assignEach (e::es) X.env).map (·.2)=assign e X.env::(assignEach es X.env).map (·.2):=by rfl):kT X (e::es) (gCons t u):=by
 intro aa s Y H vs us Q I r h;obtain ⟨v,vr,e1,h⟩:=h;subst e1
 cases r with
 | cons r rr=>
  rw [hs];refine assignInOrder_cons (M0 (h1 aa s Y H _ _ _ I r h) fun _ s1 zz=>?_);obtain ⟨σ1,H1,I1,q1⟩:=zz;exact h2 aa s1 σ1 H1 _ _ Q I1 rr q1
noncomputable def gTup (K:aj) (n:Nat) (t:n5):TG:=fun v Y H Q=>∃ a xs,v=.ref a/\C7 K H a xs/\xs.length=n/\t xs Y H Q
theorem aqR{es:Aj}{k:Nat}{t:n5}{n:Nat}(hc:X.calm=true)(h:kT X es t)(hn:(assignEach es X.env).length=n:=by rfl)(T9:(assignEach es X.env).findIdx? (·.1)=none:=by rfl):PG X (.Tuple es k pos) (gTup X.K n t):=by
 intro aa s Y H v u Q I r hw;obtain ⟨a,xs,e1,hq,hl,hw⟩:=hw;subst e1
 cases r
 obtain ⟨its,rv,ht,hz⟩:=I.tuple hq;refine assign_Tuple_tuple (I.ok.hd hc) ht (by simp [hn,<- hl,rv.length]) T9 fun h' hx=>?_
 have I1:Inv X aa Y H { s with heap:=h' }:=I.kept (t':=s.toks) fun b o e=>hx b o (O4 (ba e)) e
 exact h aa _ Y H xs _ Q I1 (by simpa using rv) hw
noncomputable def gSub (to ti:TE) (t:TSet):TG:=fun v Y H Q=>to Y H fun o H1=>ti Y H1 fun i H2=>t o i v H2 fun H3=>Q Y H3
noncomputable def tAsg (te:TE) (g:TG):TS:=fun D Y H=>te Y H fun x H1=>g x Y H1 D.nx
theorem aqS{i:Nat}{x:Str}{e:ao}{te:TE}{pos':aw}(hN:X.N.Nodup)(hi:X.N[i]?=some x)(hx:e9 X.env.scope x)(he:PE X e te)(hs:bv e (some (.Name x pos')) pos.line X.env=pure false:=by rfl)(hf:X.fn x=true\/X.env.scope.names.lookup x=some .local:=by first | exact .inl rfl | exact .inr rfl | assumption) :
  PS X (.Assign [.Name x pos'] e pos) (tAsg te (gName i)):=by
 intro aa s Y H D I h;refine wpAny_Assign_Name (thnE (he aa s Y H _ I h) fun v s1 y H1 I1 r1 q1=>?_) hs;exact oP I1 hN hi hx r1 (fun s2 I2=>⟨_,H1,I2,q1⟩) hf
noncomputable def tAug (i:Nat) (te:TE) (ti:cN):TS:=fun D Y H=>∃ x,Y[i]?=some (some x)/\te Y H fun y H1=>ti x y H1 fun z H2=>D.nx (Y.set i (some z)) H2
theorem aqT{i:Nat}{x:Str}{e:ao}{te:TE}{op:Operator}{ti:cN}{pos':aw}(hN:X.N.Nodup)(hi:X.N[i]?=some x)(hx:e9 X.env.scope x)(he:PE X e te)(ho:sJ X op ti)(hf:X.fn x=true\/X.env.scope.names.lookup x=some .local:=by first | exact .inl rfl | exact .inr rfl | assumption) :
  PS X (.AugAssign (.Name x pos') op e pos) (tAug i te ti):=by
 intro aa s Y H D I h;obtain ⟨v,e1,h⟩:=h;obtain ⟨m,hn,hl⟩:=I.loc;have vis:gZ X.env.scope x:=by rcases hx with k | k;exact .inl k;exact .inr (.inl k)
 obtain ⟨u,r,l⟩:=hl i x v hi e1 vis;refine wpAny_AugAssign_Name ?_;have go:wpAny (model X.prog X.w) X.A (eval e X.env) (fun w zx=>wpAny (model X.prog X.w) X.A (inplaceOp op u w) (fun r zw=>wpAny (model X.prog X.w) X.A (storeName X.env x r) (fun _=>SP X aa D .next) X.xe zw) X.xe zx) X.xe s:=by
  refine thnE (he aa s Y H _ I h) fun w s1 y H1 I1 r1 q1=>?_
  refine thnE (ho aa s1 Y H1 v y u w _ I1 r r1 q1) fun z s2 zv H2 I2 r2 q2=>?_
  exact oP I2 hN hi hx r2 (fun s3 I3=>⟨_,H2,I3,q2⟩) hf
 rcases l with ⟨hk,hm⟩ | ⟨hk,c,hc,N3⟩
 .exact wpAny_loadName_local I.ok.kind hk hn hm go
 .rcases hk with hk | hk
  .exact wpAny_loadName_cell I.ok.kind hk hc N3 go
  .rcases hx with k | k
   .have:X.env.scope.names.lookup x=some .free:=hk
    rw [k] at this;cases this
   .have:X.env.scope.names.lookup x=some .free:=hk
    rw [k] at this;cases this
noncomputable def sK (f:Int->Int->Int):cN:=fun x y H Q=>∃ i j,x=.int i/\y=.int j/\Q (.int (f i j)) H
theorem aqU:sJ X .Add (sK fun i j=>i+j):=by
 intro aa s Y H x y v u Q I r1 r2 h;obtain ⟨i,j,e1,e2,q⟩:=h;subst e1;subst e2;obtain ⟨t,rfl⟩:=r1;obtain ⟨t',rfl⟩:=r2;exact iadd_int ⟨.int _,H,I.tok _,⟨_,rfl⟩,q⟩
end
section
variable {X:Cx} {pos:aw}
noncomputable def oQ (c:TT) (tb:TS):TS:=fun D Y H=>∃ W:Nat->Ar,(∃ m,W m Y H)/\∀ m Y H,W m Y H->
 c Y H fun b H1=>if b=true then ∃ N:Ar,(∀ σ' H',N σ' H'->∃ m',m'<m/\W m' σ' H')/\tb { D with nx:=N,ct:=N,bk:=D.nx } Y H1 else D.nx Y H1
theorem amc{c:ao}{body:List aq}{tc:TT}{tb:TS}(hp:bd (model X.prog X.w) X.A X.env X.xe)(hc:PT X c tc)(hb:Z6 X body tb):PS X (.While c body [] pos) (oQ tc tb):=by
 intro aa s Y H D I h;obtain ⟨W,⟨m0,w0⟩,turn⟩:=h;refine wpAny_While (codeAny_whileLoop (fun n s'=>∃ σ' H',Inv X aa σ' H' s'/\W n σ' H') ?_ m0 ⟨Y,H,I,w0⟩);rintro n s1 ⟨σ1,H1,I1,w1⟩;refine wpAny_passesOwn hp (thnT (hc aa s1 σ1 H1 _ I1 (turn n σ1 H1 w1)) fun b s2 H2 I2 q2=>?_)
 cases b with
 | true=>
  obtain ⟨N,hN,q2⟩:=q2;rw [if_pos rfl];refine wpAny_passesOwn hp (M0 (hb aa s2 σ1 H2 _ I2 q2) fun f s3 q3=>?_)
  cases f with
  | next=>
   obtain ⟨σ3,H3,I3,n3⟩:=q3;obtain ⟨m',hm,w3⟩:=hN σ3 H3 n3;exact ⟨m',hm,σ3,H3,I3,w3⟩
  | cont=>
   obtain ⟨σ3,H3,I3,n3⟩:=q3;obtain ⟨m',hm,w3⟩:=hN σ3 H3 n3;exact ⟨m',hm,σ3,H3,I3,w3⟩
  | brk=>exact q3
  | ret v=>exact q3
 | false=>
  rw [if_neg L9];exact ca ⟨σ1,H2,I2,q2⟩
end
structure It where
 go:Nat->Hp->Prop
 yld:Nat->Hp->V->Hp->Prop
 stop:Nat->Hp->Prop
noncomputable def FpOk (X:Cx) (aa:Ad) (H:Hp) (b:ab):Prop:=
 H b=none/\b≠X.env.locals/\b∉X.fs/\(b∈X.ex\/X.s₀.heap.objs.size<=b)/\(∀ x c,X.env.cells.lookup x=some c->c≠b)/\∀ p∈X.pn++aa,p.1≠b
theorem Inv.fpOk{X:Cx}{aa:Ad}{Y:St}{H H':Hp}{s:ag}{b:ab}(I:Inv X aa Y H s)(hb:s.heap.objs.size<=b)(hn:H' b=none):FpOk X aa H' b:=by
 refine ⟨hn,Nat.ne_of_gt (U6 I.lt hb),I.nofs hb,.inr (K9 I.sz hb),fun x c e z=>?_,fun p hp z=>?_⟩
 .obtain ⟨v,q⟩:=I.cell x c e;exact absurd (U6 q.lt (by rw [z];exact hb)) (m9 _)
 .exact absurd (U6 (ba (I.pin p hp).1) (by rw [z];exact hb)) (m9 _)
structure Turn(P:ax)(w:av)(K:aj)(tg:ao)(J:It)(fp:Ai)(it:ab)(tn:Nat->au->Prop):Prop where
 mem:it∈fp
 obj:∀ i h,tn i h->∀ b∈fp,∃ o,h.get? b=some o/\∀ v,o.data≠.cell v
 keep:∀ i h h',tn i h->(∀ b∈fp,∀ o,h.get? b=some o->h'.get? b=some o)->tn i h'
 item:∀ (X:Cx),X.prog=P->X.w=w->X.K=K->X.calm=true->∀ (i:Nat) (aa:Ad) (s:ag) (Y:St) (H:Hp) (E:Ac),Inv X aa Y H s->(∀ b∈fp,FpOk X aa H b)->tn i s.heap->J.go i H->
  wpAny (model P w) X.A (pyNext (.ref it)) (fun r s1=>∃ u,r=some u/\
   wpAny (model P w) X.A (letOwnedTupleGo tg (.ref it) u) (fun _ s2=>∃ x H',Inv X aa Y H' s2/\RelV x u/\J.yld i H x H'/\tn (i+1) s2.heap/\∀ b∈fp,H' b=none) E s1) E s
 done:∀ (X:Cx),X.prog=P->X.w=w->X.K=K->X.calm=true->∀ (i:Nat) (aa:Ad) (s:ag) (Y:St) (H:Hp) (E:Ac),Inv X aa Y H s->(∀ b∈fp,FpOk X aa H b)->tn i s.heap->J.stop i H->
  wpAny (model P w) X.A (pyNext (.ref it)) (fun r s1=>r=none/\Inv X aa Y H s1) E s
 self:∀ (A:ay) (i:Nat) (s:ag) (Q:Ac) (E:Ac),tn i s.heap->Q (.ref it) s->wpAny (model P w) A (pyIter (.ref it)) Q E s
noncomputable abbrev TI:=St->Hp->(It->Hp->Prop)->Prop
noncomputable def sM (X:Cx) (aa:Ad) (Y:St) (tg:ao) (R:It->Hp->Prop) (itv:ac) (s2:ag):Prop:=
 ∃ (it:ab) (fp:Ai) (tn:Nat->au->Prop) (J:It) (H':Hp),itv=.ref it/\Inv X aa Y H' s2/\Turn X.prog X.w X.K tg J fp it tn/\tn 0 s2.heap/\(∀ b∈fp,FpOk X aa H' b)/\R J H'
noncomputable def PI (X:Cx) (tg iter:ao) (wi:TI):Prop:=
 ∀ (aa:Ad) (s:ag) (Y:St) (H:Hp) (R:It->Hp->Prop),Inv X aa Y H s->wi Y H R->
  wpAny (model X.prog X.w) X.A (eval iter X.env) (fun v s1=>wpAny (model X.prog X.w) X.A (pyIter v) (sM X aa Y tg R) X.xe s1) X.xe s
theorem go_of{M : Model}{A : ay}{E : ac -> ag -> Prop}{s : ag}{tg : ao}{it : ab}{u : ac}{o : Obj}{n : String}{vs : Ak}{Q : Unit -> ag -> Prop}(ho : s.heap.get? it = some o)(hc : o.cls = .type n)(hd : o.data = .fields vs)(hn : ["enumerate", "zip", "dict_itemiterator", "dict_reverseitemiterator", "odict_iterator", "itertools.zip_longest", "itertools.pairwise"].contains n = false)(hQ : Q () s) : wpAny M A (letOwnedTupleGo tg (.ref it) u) Q E s := by
  unfold letOwnedTupleGo
  cases tg <;> first
    | exact bb hQ
    | (cases u <;> first
        | exact bb hQ
        | (refine ar (wpAny_load ho ?_)
           rw [hc, hd];show wpAny M A (if (["enumerate", "zip", "dict_itemiterator", "dict_reverseitemiterator", "odict_iterator", "itertools.zip_longest", "itertools.pairwise"].contains n&&vs[0]? == some (rawInt _)) = true then _ else _) Q E s;rw [if_neg (by intro h; rw [hn, gT] at h; cases h)];exact bb hQ))
noncomputable def aD (K:aj) (a:ab):It:=
 ⟨fun i H=>∃ xs x,D9 K H a xs/\xs[i]?=some x,fun i H x H'=>H'=H/\∀ xs,D9 K H a xs->xs[i]?=some x,fun i H=>∃ xs,D9 K H a xs/\xs.length<=i⟩
noncomputable def cO (K:aj) (a:ab):It:=
 ⟨fun i H=>∃ xs x,C7 K H a xs/\xs[i]?=some x,fun i H x H'=>H'=H/\∀ xs,C7 K H a xs->xs[i]?=some x,fun i H=>∃ xs,C7 K H a xs/\xs.length<=i⟩
noncomputable def s0 (lo:Int) (n:Nat):It:=⟨fun i _=>i<n,fun i H x H'=>H'=H/\x=.int (lo+i),fun i _=>n<=i⟩
theorem aj9{P:ax}{w:av}{K:aj}{tg:ao}(a it:ab):Turn P w K tg (aD K a) [it] it (fun i h=>h.IsListIter it a i) where
 mem:=by simp
 obj:=fun i h st b hb=>by
  have e:b=it:=by simpa using hb
  subst e;obtain ⟨o,e,c,d⟩:=st;exact ⟨o,e,fun v z=>by rw [d] at z;cases z⟩
 keep:=fun i h h' st k=>st.at fun o e=>k it (by simp) o e
 item:=by
  intro X hP hw hK hc i aa s Y H E I hf st hg;subst hP hw hK;obtain ⟨xs,x,hq,hx⟩:=hg;obtain ⟨its,rv,p,hz⟩:=I.list hq;obtain ⟨u,hu,ru⟩:=rv.get hx;obtain ⟨f0,f1,f2,f3,f4,f5⟩:=hf it (by simp);refine wpAny_pyNext_list_item st p.isList (x:=u) (by simpa using hu) fun h' st' sb=>?_
  have I1:Inv X aa Y H { s with heap:=h' }:=I.turned (t':=s.toks) (fun b o hb e=>(sb.2 b hb).trans e) f0 f1 f3 f4 f5;obtain ⟨o,e,c,d⟩:=id st';exact ⟨u,rfl,go_of (s:={ s with heap:=h' }) e c d (by decide) ⟨x,H,I1,ru,⟨rfl,fun ys hy=>by rw [I.list_inj hy hq];exact hx⟩,st',fun b hb=>(hf b hb).1⟩⟩
 done:=by
  intro X hP hw hK hc i aa s Y H E I hf st hg;subst hP hw hK;obtain ⟨xs,hq,hx⟩:=hg;obtain ⟨its,rv,p,hz⟩:=I.list hq;obtain ⟨f0,f1,f2,f3,f4,f5⟩:=hf it (by simp);have hl:=rv.length;exact wpAny_pyNext_list_end (I.ok.hd hc) st p.isList (by simp;lia) fun h' eb=>⟨rfl,I.turned (t':=s.toks) (fun b o hb e=>eb b o hb e) f0 f1 f3 f4 f5⟩
 self:=fun _ _ _ _ _ st h=>wpAny_pyIter_listiter st h
theorem ajh{P:ax}{w:av}{K:aj}{tg:ao}(a it:ab):Turn P w K tg (cO K a) [it] it (fun i h=>h.IsTupleIter it a i) where
 mem:=by simp
 obj:=fun i h st b hb=>by
  have e:b=it:=by simpa using hb
  subst e;obtain ⟨o,e,c,d⟩:=st;exact ⟨o,e,fun v z=>by rw [d] at z;cases z⟩
 keep:=fun i h h' st k=>st.at fun o e=>k it (by simp) o e
 item:=by
  intro X hP hw hK hc i aa s Y H E I hf st hg;subst hP hw hK;obtain ⟨xs,x,hq,hx⟩:=hg;obtain ⟨its,rv,p,hz⟩:=I.tuple hq;obtain ⟨u,hu,ru⟩:=rv.get hx;obtain ⟨f0,f1,f2,f3,f4,f5⟩:=hf it (by simp);refine wpAny_pyNext_tuple_item st (show s.heap.IsTuple a its.toArray from p) (x:=u) (by simpa using hu) fun h' st' sb=>?_
  have I1:Inv X aa Y H { s with heap:=h' }:=I.turned (t':=s.toks) (fun b o hb e=>(sb.2 b hb).trans e) f0 f1 f3 f4 f5;obtain ⟨o,e,c,d⟩:=id st';exact ⟨u,rfl,go_of (s:={ s with heap:=h' }) e c d (by decide) ⟨x,H,I1,ru,⟨rfl,fun ys hy=>by rw [I.tuple_inj hy hq];exact hx⟩,st',fun b hb=>(hf b hb).1⟩⟩
 done:=by
  intro X hP hw hK hc i aa s Y H E I hf st hg;subst hP hw hK;obtain ⟨xs,hq,hx⟩:=hg;obtain ⟨its,rv,p,hz⟩:=I.tuple hq;obtain ⟨f0,f1,f2,f3,f4,f5⟩:=hf it (by simp);have hl:=rv.length;exact wpAny_pyNext_tuple_end (I.ok.hd hc) st (show s.heap.IsTuple a its.toArray from p) (by simp;lia) fun h' eb=>⟨rfl,I.turned (t':=s.toks) (fun b o hb e=>eb b o hb e) f0 f1 f3 f4 f5⟩
 self:=fun _ _ _ _ _ st h=>wpAny_pyIter_tupleiter st h
theorem aji{P:ax}{w:av}{K:aj}{tg:ao}(it:ab)(lo:Int)(n:Nat):Turn P w K tg (s0 lo n) [it] it (fun i h=>IsRangeIter h it (lo+(i:Nat)*1) ((n:Int)-(i:Nat)) 1) where
 mem:=by simp
 obj:=fun i h st b hb=>by
  have e:b=it:=by simpa using hb
  subst e;exact ⟨_,st,fun v z=>by
   have z':Data.fields _=Data.cell v:=z
   cases z'⟩
 keep:=fun i h h' st k=>k it (by simp) _ st
 item:=by
  intro X hP hw hK hc i aa s Y H E I hf st hg;subst hP hw hK;obtain ⟨f0,f1,f2,f3,f4,f5⟩:=hf it (by simp);have W:=Walks.range (prog:=X.prog) (w:=X.w) (I.ok.hd hc) it lo 1 n;refine W.item i s _ _ hg st fun v h' tk hv st' kk=>?_
  obtain ⟨t,rfl⟩:=hv;have I1:Inv X aa Y H { s with heap:=h',toks:=tk }:=I.turned (fun b o hb e=>kk b o (by simpa using hb) e) f0 f1 f3 f4 f5;refine ⟨_,rfl,go_of (s:={ s with heap:=h',toks:=tk }) (n:="range_iterator") st' rfl rfl (by decide) ⟨.int (lo+i),H,I1,⟨t,?_⟩,⟨rfl,rfl⟩,st',fun b hb=>(hf b hb).1⟩⟩;rw [Int.mul_one]
 done:=by
  intro X hP hw hK hc i aa s Y H E I hf st hg;subst hP hw hK;obtain ⟨f0,f1,f2,f3,f4,f5⟩:=hf it (by simp);exact wpAny_pyNext_range_end (I.ok.hd hc) st (by have:n<=i:=hg;lia) fun h' eb=>⟨rfl,I.turned (t':=s.toks) (fun b o hb e=>eb b o hb e) f0 f1 f3 f4 f5⟩
 self:=fun _ _ _ _ _ st h=>wpAny_pyIter_rangeiter st h
end L2
namespace L2
open PySem PySem.Spec PyProof.Rows
section
variable {X:Cx} {tg:ao}
noncomputable def iList (K:aj) (tl:TE):TI:=fun Y H R=>tl Y H fun x H1=>∃ a,x=.ref a/\(∃ xs,D9 K H1 a xs)/\R (aD K a) H1
noncomputable def iTup (K:aj) (tl:TE):TI:=fun Y H R=>tl Y H fun x H1=>∃ a,x=.ref a/\(∃ xs,C7 K H1 a xs)/\R (cO K a) H1
theorem aoe{l:ao}{tl:TE}(hl:PE X l tl):PI X tg l (iList X.K tl):=by
 intro aa s Y H R I h;refine thnE (hl aa s Y H _ I h) fun v s1 x H1 I1 r1 q1=>?_
 obtain ⟨a,e,⟨xs,hq⟩,q⟩:=q1;subst e
 cases r1
 obtain ⟨its,rv,p,hz⟩:=I1.list hq;refine wpAny_pyIter_list p.isList ?_;refine ⟨s1.heap.objs.size,[s1.heap.objs.size],_,_,H1,rfl,I1.kept (t':=s1.toks) fun b o e=>bg _ e,aj9 a _,⟨_,br _ rfl,rfl,rfl⟩,fun b hb=>?_,q⟩;have e:b=s1.heap.objs.size:=by simpa using hb
 subst e;exact I1.fpOk (C1 _) (I1.hok.fresh (C1 _))
theorem aqV{l:ao}{tl:TE}(hl:PE X l tl):PI X tg l (iTup X.K tl):=by
 intro aa s Y H R I h;refine thnE (hl aa s Y H _ I h) fun v s1 x H1 I1 r1 q1=>?_
 obtain ⟨a,e,⟨xs,hq⟩,q⟩:=q1;subst e
 cases r1
 obtain ⟨its,rv,p,hz⟩:=I1.tuple hq;refine wpAny_pyIter_tuple (show s1.heap.IsTuple a its.toArray from p) ?_;refine ⟨s1.heap.objs.size,[s1.heap.objs.size],_,_,H1,rfl,I1.kept (t':=s1.toks) fun b o e=>bg _ e,ajh a _,⟨_,br _ rfl,rfl,rfl⟩,fun b hb=>?_,q⟩;have e:b=s1.heap.objs.size:=by simpa using hb
 subst e;exact I1.fpOk (C1 _) (I1.hok.fresh (C1 _))
theorem aiz{aa:Ad}{Y:St}{H:Hp}{s:ag}{R:It->Hp->Prop}{E:Ac}{lo hi:Int}{t u v:Tok}{tk:Nat}(I:Inv X aa Y H s)(h1:-(2 ^ 62)<=lo)(h2:lo<2 ^ 62)(h3:-(2 ^ 62)<=hi)(h4:hi<2 ^ 62)(q:R (s0 lo (hi-lo).toNat) H):wpAny (model X.prog X.w) X.A (pyIter (.ref s.heap.objs.size)) (sM X aa Y tg R) E { s with heap:=s.heap.push { cls:=.type "range",data:=.fields #[.int lo t,.int hi u,.int 1 v] },toks:=tk }:=by
 refine wpAny_pyIter_range (IsRange.new ..) (small_one h1 h2 h3 h4) ?_;have I1:Inv X aa Y H { s with heap:=s.heap.push { cls:=.type "range",data:=.fields #[.int lo t,.int hi u,.int 1 v] },toks:=tk }:=I.kept fun b o e=>bg _ e
 refine ⟨(s.heap.push { cls:=.type "range",data:=.fields #[.int lo t,.int hi u,.int 1 v] }).objs.size,[(s.heap.push { cls:=.type "range",data:=.fields #[.int lo t,.int hi u,.int 1 v] }).objs.size],_,_,H,rfl,
  I1.kept (t':=tk) fun b o e=>bg _ e,aji _ lo (hi-lo).toNat,?_,fun b hb=>?_,q⟩
 .have e1:lo+((0:Nat):Int)*1=lo:=by simp
  have e2:(((hi-lo).toNat:Nat):Int)-((0:Nat):Int)=Builtin.Range.rangeSize lo hi 1:=by rw [rangeSize_one];split <;> lia
  show IsRangeIter _ _ (lo+((0:Nat):Int)*1) ((((hi-lo).toNat:Nat):Int)-((0:Nat):Int)) 1;rw [e1,e2];exact br _ rfl
 .have e:b=(s.heap.push { cls:=.type "range",data:=.fields #[.int lo t,.int hi u,.int 1 v] }).objs.size:=by simpa using hb
  subst e;exact I1.fpOk (C1 _) (I1.hok.fresh (C1 _))
noncomputable def iRng1 (ta:TA):TI:=fun Y H R=>ta Y H fun vs H1=>∃ j:Int,vs=[.int j]/\-(2 ^ 62)<=j/\j<2 ^ 62/\R (s0 0 j.toNat) H1
noncomputable def iRng2 (ta:TA):TI:=fun Y H R=>ta Y H fun vs H1=>∃ i j:Int,vs=[.int i,.int j]/\(-(2 ^ 62)<=i/\i<2 ^ 62/\-(2 ^ 62)<=j/\j<2 ^ 62)/\R (s0 i (j-i).toNat) H1
theorem aka{a:ao}{ta:TA}{p pos:aw}(hg:Gl X "range")(hm:X.mg "range"=none)(ha:PA X [a] ta)(hs:bf [a] X.env=[(false,eval a X.env)]:=by rfl):PI X tg (.Call (.Name "range" p) [a] [] pos) (iRng1 ta):=by
 intro aa s Y H R I h;refine Call_ (aB I hg hm boot_range (PyProof.Rows.callWith_type1 (thnA (ha pos aa s Y H _ I h) fun us s1 vs H1 I1 r1 q1=>?_) hs rfl));obtain ⟨j,e,q1,q2,q⟩:=q1;subst e
 cases r1 with
 | cons r rr=>
  cases rr
  obtain ⟨t,rfl⟩:=r;exact call_range_1 (aiz I1 (by lia) (by lia) q1 q2 (by simpa using q))
theorem akb{a b:ao}{ta:TA}{p pos:aw}(hg:Gl X "range")(hm:X.mg "range"=none)(ha:PA X [a,b] ta)(hs:bf [a,b] X.env=[(false,eval a X.env),(false,eval b X.env)]:=by rfl)(bQ:bf [b] X.env=[(false,eval b X.env)]:=by rfl) :
  PI X tg (.Call (.Name "range" p) [a,b] [] pos) (iRng2 ta):=by
 intro aa s Y H R I h;refine Call_ (aB I hg hm boot_range (PyProof.Rows.callWith_type1 (thnA (ha pos aa s Y H _ I h) fun us s1 vs H1 I1 r1 q1=>?_) (by rw [hs,bQ]) (by rw [bQ];rfl)));obtain ⟨i,j,e,⟨q1,q2,q3,q4⟩,q⟩:=q1;subst e
 cases r1 with
 | cons r rr=>
  cases rr with
  | cons r' rr=>
   cases rr
   obtain ⟨t,rfl⟩:=r;obtain ⟨t',rfl⟩:=r';exact call_range_2 (aiz I1 q1 q2 q3 q4 q)
noncomputable def tFor (wi:TI) (g:TG) (tb:TS):TS:=fun D Y H=>wi Y H fun J H1=>∃ W:Nat->Nat->Ar,(∃ m,W 0 m Y H1)/\∀ i m Y H,W i m Y H->
 (J.stop i H/\D.nx Y H)\/(J.go i H/\∃ N:Ar,(∀ σ' H',N σ' H'->∃ m',m'<m/\W (i+1) m' σ' H')/\∀ x H',J.yld i H x H'->g x Y H' fun σ2 H2=>tb { D with nx:=N,ct:=N,bk:=D.nx } σ2 H2)
noncomputable def hJ (fp:Ai) (h:au):Ad:=fp.filterMap fun b=>(h.get? b).map fun o=>(b,o)
theorem hV{fp:Ai}{h:au}{b:ab}{o:Obj}(hb:b∈fp)(e:h.get? b=some o):(b,o)∈hJ fp h:=eI.mpr ⟨b,hb,by rw [e];rfl⟩
theorem akc{fp:Ai}{h:au}{p:ab×Obj}(hp:p∈hJ fp h):p.1∈fp/\h.get? p.1=some p.2:=by
 obtain ⟨b,hb,e⟩:=eI.mp hp
 cases q:h.get? b with
 | none=>rw [q] at e;cases e
 | some o=>
  rw [q] at e;have e':(b,o)=p:=bh e;subst e';exact ⟨hb,q⟩
theorem Inv.pinned{aa:Ad}{Y:St}{H:Hp}{s:ag}{fp:Ai}(I:Inv X aa Y H s)(hf:∀ b∈fp,FpOk X aa H b)(ho:∀ b∈fp,∃ o,s.heap.get? b=some o/\∀ v,o.data≠.cell v):Inv X (aa++hJ fp s.heap) Y H s:=
 I.pins_of fun p hp=>(J9.mp hp).elim (fun z=>I.pin p (Q7 _ z)) fun z=>by
  obtain ⟨hb,e⟩:=akc z;obtain ⟨f0,f1,f2,_⟩:=hf p.1 hb;obtain ⟨o,e',d⟩:=ho p.1 hb;rw [e] at e';cases e';exact ⟨e,f0,f1,f2,d⟩
theorem Inv.unpinned{aa pl:Ad}{Y:St}{H:Hp}{s:ag}(I:Inv X (aa++pl) Y H s):Inv X aa Y H s:=I.pins_of fun p hp=>I.pin p (Q7 _ (P1 _ hp))
theorem aqW{iter:ao}{body:List aq}{wi:TI}{g:TG}{tb:TS}{pos:aw}(hp:bd (model X.prog X.w) X.A X.env X.xe)(hc:X.calm=true)(hi:PI X tg iter wi)(hg:PG X tg g)(hb:Z6 X body tb)(hs:∀ x,foldedSetIterable iter X.env x=pure x:=by intro _;rfl):PS X (.For tg iter body [] pos) (tFor wi g tb):=by
 intro aa s Y H D I h;refine wpAny_For (M0 (hi aa s Y H _ I h) fun v s1 h1=>M0 h1 fun itv s2 h2=>?_) hs;obtain ⟨it,fp,tn,J,H2,e,I2,T,u9,f2,W,⟨m0,w0⟩,turn⟩:=h2;subst e;have stat:∀ {H':Hp},(∀ b∈fp,H' b=none)->∀ b∈fp,FpOk X aa H' b:=fun hn b hb=>⟨hn b hb,(f2 b hb).2⟩
 refine codeAny_forLoop_any (fun n s'=>∃ i σ' H',Inv X aa σ' H' s'/\tn i s'.heap/\(∀ b∈fp,H' b=none)/\W i n σ' H') ?_ m0 ⟨0,Y,H2,I2,u9,fun b hb=>(f2 b hb).1,w0⟩;rintro n s3 ⟨i,σ3,H3,I3,dD,mF,w3⟩
 rcases turn i n σ3 H3 w3 with ⟨stop,qn⟩ | ⟨go,N,hN,step⟩
 .refine wpAny_passesOwn hp (M0 (T.done X rfl rfl rfl hc i aa s3 σ3 H3 X.xe I3 (stat mF) dD stop) fun r s4 ⟨hr,I4⟩=>?_);subst hr;exact ca ⟨σ3,H3,I4,qn⟩
 .refine wpAny_passesOwn hp (M0 (T.item X rfl rfl rfl hc i aa s3 σ3 H3 X.xe I3 (stat mF) dD go) fun r s4 ⟨u,hr,h4⟩=>?_);subst hr;refine wpAny_passesOwn hp (M0 h4 fun _ s5 zz=>?_);obtain ⟨x,H5,I5,r5,y5,fO,xV⟩:=zz;have I5':=I5.pinned (stat xV) (T.obj _ _ fO);refine wpAny_passesOwn hp (M0 (hg _ s5 σ3 H5 x u _ I5' r5 (step x H5 y5)) fun _ s6 zz=>?_);obtain ⟨σ6,H6,I6,q6⟩:=zz;refine wpAny_passesOwn hp (M0 (hb _ s6 σ6 H6 _ I6 q6) fun f s7 q7=>?_);have again:∀ {σ7:St} {H7:Hp},Inv X (aa++hJ fp s5.heap) σ7 H7 s7->N σ7 H7->∃ m,m<n/\∃ i σ' H',Inv X aa σ' H' s7/\tn i s7.heap/\(∀ b∈fp,H' b=none)/\W i m σ' H':=fun {σ7 H7} I7 n7=>by
   obtain ⟨m',hm,w7⟩:=hN σ7 H7 n7;refine ⟨m',hm,i+1,σ7,H7,I7.unpinned,T.keep _ _ _ fO fun b hb o e=>(I7.pin (b,o) (Q7 _ (Q7 _ (hV hb e)))).1,fun b hb=>?_,w7⟩;obtain ⟨o,e,d⟩:=T.obj _ _ fO b hb;exact (I7.pin (b,o) (Q7 _ (Q7 _ (hV hb e)))).2.1
  cases f with
  | next=>obtain ⟨σ7,H7,I7,n7⟩:=q7;exact again I7 n7
  | cont=>obtain ⟨σ7,H7,I7,n7⟩:=q7;exact again I7 n7
  | brk=>obtain ⟨σ7,H7,I7,q7⟩:=q7;exact ⟨σ7,H7,I7.unpinned,q7⟩
  | ret v=>obtain ⟨x7,σ7,H7,I7,r7,q7⟩:=q7;exact ⟨x7,σ7,H7,I7.unpinned,r7,q7⟩
end
theorem amd{K:aj}{a:ab}{xs:Ao}{g:TG}{tb:TS}{D:Ends}{Y:St}{H:Hp}(Pv:Nat->Ar)(h0:Pv 0 Y H)(hl:∀ i Y H,i<=xs.length->Pv i Y H->D9 K H a xs)(hs:∀ i x Y H,xs[i]?=some x->Pv i Y H->g x Y H fun σ2 H2=>tb { D with nx:=Pv (i+1),ct:=Pv (i+1),bk:=D.nx } σ2 H2)(hd:∀ Y H,Pv xs.length Y H->D.nx Y H) :
  ∃ W:Nat->Nat->Ar,(∃ m,W 0 m Y H)/\∀ i m Y H,W i m Y H->
   ((aD K a).stop i H/\D.nx Y H)\/((aD K a).go i H/\∃ N:Ar,(∀ σ' H',N σ' H'->∃ m',m'<m/\W (i+1) m' σ' H')/\∀ x H',(aD K a).yld i H x H'->g x Y H' fun σ2 H2=>tb { D with nx:=N,ct:=N,bk:=D.nx } σ2 H2):=by
 refine ⟨fun i m Y H=>m=xs.length-i/\i<=xs.length/\Pv i Y H,⟨xs.length,by simp,J7 _,h0⟩,?_⟩;rintro i m Y H ⟨rfl,hi,p⟩;have q:=hl i Y H hi p
 by_cases C4:i<xs.length
 .refine .inr ⟨⟨xs,xs[i],q,by simp [C4]⟩,Pv (i+1),fun σ' H' p'=>⟨xs.length-(i+1),by lia,rfl,C4,p'⟩,fun x H' y=>?_⟩;obtain ⟨e,y⟩:=y;subst e;exact hs i x Y _ (y xs q) p
 .have e:i=xs.length:=by lia
  subst e;exact .inl ⟨⟨xs,q,C1 _⟩,hd Y H p⟩
theorem aof{K:aj}{a:ab}{xs:Ao}{g:TG}{tb:TS}{D:Ends}{Y:St}{H:Hp}(Pv:Nat->Ar)(h0:Pv 0 Y H)(hl:∀ i Y H,i<=xs.length->Pv i Y H->C7 K H a xs)(hs:∀ i x Y H,xs[i]?=some x->Pv i Y H->g x Y H fun σ2 H2=>tb { D with nx:=Pv (i+1),ct:=Pv (i+1),bk:=D.nx } σ2 H2)(hd:∀ Y H,Pv xs.length Y H->D.nx Y H) :
  ∃ W:Nat->Nat->Ar,(∃ m,W 0 m Y H)/\∀ i m Y H,W i m Y H->
   ((cO K a).stop i H/\D.nx Y H)\/((cO K a).go i H/\∃ N:Ar,(∀ σ' H',N σ' H'->∃ m',m'<m/\W (i+1) m' σ' H')/\∀ x H',(cO K a).yld i H x H'->g x Y H' fun σ2 H2=>tb { D with nx:=N,ct:=N,bk:=D.nx } σ2 H2):=by
 refine ⟨fun i m Y H=>m=xs.length-i/\i<=xs.length/\Pv i Y H,⟨xs.length,by simp,J7 _,h0⟩,?_⟩;rintro i m Y H ⟨rfl,hi,p⟩;have q:=hl i Y H hi p
 by_cases C4:i<xs.length
 .refine .inr ⟨⟨xs,xs[i],q,by simp [C4]⟩,Pv (i+1),fun σ' H' p'=>⟨xs.length-(i+1),by lia,rfl,C4,p'⟩,fun x H' y=>?_⟩;obtain ⟨e,y⟩:=y;subst e;exact hs i x Y _ (y xs q) p
 .have e:i=xs.length:=by lia
  subst e;exact .inl ⟨⟨xs,q,C1 _⟩,hd Y H p⟩
theorem akd{lo:Int}{n:Nat}{g:TG}{tb:TS}{D:Ends}{Y:St}{H:Hp}(Pv:Nat->Ar)(h0:Pv 0 Y H)(hs:∀ i Y H,i<n->Pv i Y H->g (.int (lo+i)) Y H fun σ2 H2=>tb { D with nx:=Pv (i+1),ct:=Pv (i+1),bk:=D.nx } σ2 H2)(hd:∀ Y H,Pv n Y H->D.nx Y H) :
  ∃ W:Nat->Nat->Ar,(∃ m,W 0 m Y H)/\∀ i m Y H,W i m Y H->
   ((s0 lo n).stop i H/\D.nx Y H)\/((s0 lo n).go i H/\∃ N:Ar,(∀ σ' H',N σ' H'->∃ m',m'<m/\W (i+1) m' σ' H')/\∀ x H',(s0 lo n).yld i H x H'->g x Y H' fun σ2 H2=>tb { D with nx:=N,ct:=N,bk:=D.nx } σ2 H2):=by
 refine ⟨fun i m Y H=>m=n-i/\i<=n/\Pv i Y H,⟨n,by simp,J7 _,h0⟩,?_⟩;rintro i m Y H ⟨rfl,hi,p⟩
 by_cases C4:i<n
 .refine .inr ⟨C4,Pv (i+1),fun σ' H' p'=>⟨n-(i+1),by lia,rfl,C4,p'⟩,fun x H' y=>?_⟩;obtain ⟨e,y⟩:=y;subst e y;exact hs i Y _ C4 p
 .have e:i=n:=by lia
  subst e;exact .inl ⟨C1 _,hd Y H p⟩
end L2
namespace L2
open PySem PySem.Spec PyProof.Rows
noncomputable abbrev R2:=V->V->Hp->VK->Prop
noncomputable def K3 (X:Cx) (f:ac->ac->Sem ac) (r:R2):Prop:=
 ∀ (aa:Ad) (s:ag) (Y:St) (H:Hp) (x y:V) (v u:ac) (Q:VK),Inv X aa Y H s->RelV x v->RelV y u->r x y H Q->
  wpAny (model X.prog X.w) X.A (f v u) (EP X aa Y Q) X.xe s
noncomputable def oR (X:Cx) (f:ac->Sem ac) (r:V->Hp->VK->Prop):Prop:=
 ∀ (aa:Ad) (s:ag) (Y:St) (H:Hp) (x:V) (v:ac) (Q:VK),Inv X aa Y H s->RelV x v->r x H Q->
  wpAny (model X.prog X.w) X.A (f v) (EP X aa Y Q) X.xe s
noncomputable def CallR (X:Cx) (f:ac) (r:Ao->Hp->VK->Prop):Prop:=
 ∀ (aa:Ad) (s:ag) (Y:St) (H:Hp) (xs:Ao) (us:Ae) (Q:VK),Inv X aa Y H s->Vals xs us->r xs H Q->
  wpAny (model X.prog X.w) X.A (call f us) (EP X aa Y Q) X.xe s
noncomputable def TruR (X:Cx) (r:V->Hp->(Bool->Hp->Prop)->Prop):Prop:=
 ∀ (aa:Ad) (s:ag) (Y:St) (H:Hp) (x:V) (v:ac) (Q:Bool->Hp->Prop),Inv X aa Y H s->RelV x v->r x H Q->
  wpAny (model X.prog X.w) X.A (truthy v) (TP X aa Y Q) X.xe s
noncomputable def j5 (r:R2) (ta tb:TE):TE:=fun Y H Q=>ta Y H fun x H1=>tb Y H1 fun y H2=>r x y H2 Q
noncomputable def sN (r:V->Hp->VK->Prop) (ta:TE):TE:=fun Y H Q=>ta Y H fun x H1=>r x H1 Q
noncomputable def rI (C:Int->Int->Prop) (g:Int->Int->V):R2:=fun x y H Q=>∃ i j,x=.int i/\y=.int j/\C i j/\Q (g i j) H
noncomputable def t7 (g:Int->Int->V):R2:=fun x y H Q=>∃ i j,x=.int i/\y=.int j/\Q (g i j) H
noncomputable def rU (g:Int->V):V->Hp->VK->Prop:=fun x H Q=>∃ i,x=.int i/\Q (g i) H
section
variable {X:Cx} {a b c:ao} {ta tb tc:TE} {pos:aw}
theorem binT(ha:PE X a ta)(hb:PE X b tb){aa:Ad}{s:ag}{Y:St}{H:Hp}{R:V->V->Hp->Prop}(I:Inv X aa Y H s)(h:ta Y H fun x H1=>tb Y H1 fun y H2=>R x y H2){Q:Ac}{f:ac->ac->Sem ac}(hf:∀ v u s2 x y H2,Inv X aa Y H2 s2->RelV x v->RelV y u->R x y H2->wpAny (model X.prog X.w) X.A (f v u) Q X.xe s2) :
  wpAny (model X.prog X.w) X.A (eval a X.env) (fun v zu=>wpAny (model X.prog X.w) X.A (eval b X.env) (fun u zx=>wpAny (model X.prog X.w) X.A (f v u) Q X.xe zx) X.xe zu) X.xe s:=by
 refine thnE (ha aa s Y H _ I h) fun v s1 x H1 I1 r1 q1=>?_
 refine thnE (hb aa s1 Y H1 _ I1 q1) fun u s2 y H2 I2 r2 q2=>?_
 exact hf v u s2 x y H2 I2 r1 r2 q2
theorem pe_op{op:Operator}{r:R2}(ho:K3 X (bo op) r)(ha:PE X a ta)(hb:PE X b tb):PE X (.BinOp a op b pos) (j5 r ta tb):=by
 intro aa s Y H Q I h;exact wpAny_BinOp (binT ha hb I h fun v u s2 x y H2 I2 rx ry q=>ho aa s2 Y H2 x y v u Q I2 rx ry q)
theorem pe_un{op:UnaryOp}{r:V->Hp->VK->Prop}(ho:oR X (unaryOp op) r)(ha:PE X a ta):PE X (.UnaryOp op a pos) (sN r ta):=by
 intro aa s Y H Q I h;exact UnaryOp_ (thnE (ha aa s Y H _ I h) fun v s1 x H1 I1 r1 q1=>ho aa s1 Y H1 x v Q I1 r1 q1)
theorem sO{f:ac->ac->Sem ac}{C:Int->Int->Prop}{g:Int->Int->Int}(rule:∀ (i j:Int) (t u:Tok) (s:ag) (Q:Ac) (E:Ac),C i j->Q (.int (g i j) s.toks) { s with toks:=s.toks+1 }->wpAny (model X.prog X.w) X.A (f (.int i t) (.int j u)) Q E s) :
  K3 X f (rI C fun i j=>.int (g i j)):=by
 intro aa s Y H x y v u Q I rx ry h;obtain ⟨i,j,rfl,rfl,hc,q⟩:=h;obtain ⟨t,rfl⟩:=rx;obtain ⟨t',rfl⟩:=ry;exact rule i j t t' s _ _ hc ⟨.int (g i j),H,I.tok _,⟨_,rfl⟩,q⟩
theorem opI0{f:ac->ac->Sem ac}{g:Int->Int->Int}(rule:∀ (i j:Int) (t u:Tok) (s:ag) (Q:Ac) (E:Ac),Q (.int (g i j) s.toks) { s with toks:=s.toks+1 }->wpAny (model X.prog X.w) X.A (f (.int i t) (.int j u)) Q E s) :
  K3 X f (t7 fun i j=>.int (g i j)):=by
 intro aa s Y H x y v u Q I rx ry h;obtain ⟨i,j,rfl,rfl,q⟩:=h;obtain ⟨t,rfl⟩:=rx;obtain ⟨t',rfl⟩:=ry;exact rule i j t t' s _ _ ⟨.int (g i j),H,I.tok _,⟨_,rfl⟩,q⟩
theorem opB0{f:ac->ac->Sem ac}{g:Int->Int->Bool}(rule:∀ (i j:Int) (t u:Tok) (s:ag) (Q:Ac) (E:Ac),Q (.bool (g i j)) s->wpAny (model X.prog X.w) X.A (f (.int i t) (.int j u)) Q E s) :
  K3 X f (t7 fun i j=>.bl (g i j)):=by
 intro aa s Y H x y v u Q I rx ry h;obtain ⟨i,j,rfl,rfl,q⟩:=h;obtain ⟨t,rfl⟩:=rx;obtain ⟨t',rfl⟩:=ry;exact rule i j t t' s _ _ ⟨.bl (g i j),H,I,rfl,q⟩
noncomputable def CDiv (i j:Int):Prop:=0<j/\j<1073741824
noncomputable def CMul (i j:Int):Prop:=(-(2 ^ 64)<i/\i<2 ^ 64)\/(-(2 ^ 64)<j/\j<2 ^ 64)
theorem CMul.ok{i j:Int}(h:CMul i j):IntMulOk i j:=by
 rcases h with ⟨h1,h2⟩ | ⟨h1,h2⟩
 .exact .of_left (intBits_le_64 h1 h2)
 .exact .of_right (intBits_le_64 h1 h2)
theorem aqX:K3 X (bo .Add) (t7 fun i j=>.int (i+j)):=opI0 fun _ _ _ _ _ _ _ q=>add_int q
theorem aqY:K3 X (bo .Sub) (t7 fun i j=>.int (i-j)):=opI0 fun _ _ _ _ _ _ _ q=>sub_int q
theorem aqZ:K3 X (bo .Mult) (rI CMul fun i j=>.int (i*j)):=sO fun _ _ _ _ _ _ _ hc q=>mul_int q hc.ok
theorem aog:K3 X (bo .FloorDiv) (rI CDiv fun i j=>.int (i / j)):=sO fun i j _ _ _ _ _ hc q=>by
 have h1:(0:Int)<j:=hc.1;have h2:j<1073741824:=hc.2;exact floordiv_int (by lia) (by rw [Int.fdiv_eq_ediv_of_nonneg i (by lia)];exact q) (.inl (PyProof.noPylong_small (by lia)))
theorem aq0:K3 X (bo .Mod) (rI (fun _ j=>0<j) fun i j=>.int (i % j)):=sO fun i j _ _ _ _ _ hc q=>by
 have h1:(0:Int)<j:=hc;exact mod_int' (by lia) (by rw [Int.fmod_eq_emod_of_nonneg i (by lia)];exact q)
theorem unI{f:ac->Sem ac}{g:Int->Int}(rule:∀ (i:Int) (t:Tok) (s:ag) (Q:Ac) (E:Ac),Q (.int (g i) s.toks) { s with toks:=s.toks+1 }->wpAny (model X.prog X.w) X.A (f (.int i t)) Q E s) :
  oR X f (rU fun i=>.int (g i)):=by
 intro aa s Y H x v Q I rx h;obtain ⟨i,rfl,q⟩:=h;obtain ⟨t,rfl⟩:=rx;exact rule i t s _ _ ⟨.int (g i),H,I.tok _,⟨_,rfl⟩,q⟩
theorem aq1:oR X (unaryOp .USub) (rU fun i=>.int (-i)):=unI fun _ _ _ _ _ q=>neg_int q
end
noncomputable def scal:V->V->Bool
 | .non,.non=>true | .non,.int _=>true | .int _,.non=>true | .non,.bl _=>true | .bl _,.non=>true | .non,.str _=>true | .str _,.non=>true
 | .int _,.int _=>true | .bl _,.bl _=>true | .str _,.str _=>true | .byt _,.byt _=>true
 | .int _,.str _=>true | .str _,.int _=>true | .bl _,.str _=>true | .str _,.bl _=>true
 | _,_=>false
noncomputable def rEq:R2:=fun x y H Q=>scal x y=true/\Q (.bl (decide (x=y))) H
noncomputable def rNe:R2:=fun x y H Q=>scal x y=true/\Q (.bl (!decide (x=y))) H
theorem ake{i j:Int} : decide (V.int i=V.int j)=(i==j):=by
 rw [cJ]
 simp
theorem anz{i j:Bool} : decide (V.bl i=V.bl j)=(i==j):=by
 rw [cJ]
 simp
theorem akf{i j:Str} : decide (V.str i=V.str j)=(i==j):=by
 rw [cJ]
 simp
theorem akg{i j:Array UInt8} : decide (V.byt i=V.byt j)=(i.toList==j.toList):=by
 rw [cJ]
 cases i
 cases j
 simp
section
variable {X:Cx} {a b c:ao} {ta tb tc:TE} {pos:aw}
theorem M3{aa:Ad}{Y:St}{H:Hp}{s:ag}{Q:VK}{k k':Bool}(I:Inv X aa Y H s)(q:Q (.bl k) H)(e:k=k'):EP X aa Y Q (.bool k') s:=by
 subst e;exact ⟨.bl k,H,I,rfl,q⟩
theorem op_eq:K3 X (bc .Eq) rEq:=by
 intro aa s Y H x y v u Q I rx ry h;obtain ⟨hs,q⟩:=h
 cases x with
 | non=>
  cases rx
  cases y with
  | non=>cases ry;exact PySem.EqNone.eq_none_none (M3 I q (by simp))
  | bl j=>cases ry;exact PySem.EqNone.eq_none_bool (M3 I q (by simp))
  | int j=>obtain ⟨t',rfl⟩:=ry;exact PySem.EqNone.eq_none_int (M3 I q (by simp))
  | str j=>obtain ⟨t',rfl⟩:=ry;exact PySem.EqNone.eq_none_str (M3 I q (by simp))
  | _=>exact absurd (show false=true from hs) L9
 | bl i=>
  cases rx
  cases y with
  | non=>cases ry;exact PySem.EqNone.eq_bool_none (M3 I q (by simp))
  | bl j=>cases ry;exact eq_bool (M3 I q anz)
  | str j=>obtain ⟨t',rfl⟩:=ry;exact PySem.EqMixed.eq_bool_str (M3 I q (by simp))
  | _=>exact absurd (show false=true from hs) L9
 | int i=>
  obtain ⟨t,rfl⟩:=rx
  cases y with
  | non=>cases ry;exact PySem.EqNone.eq_int_none (M3 I q (by simp))
  | int j=>obtain ⟨t',rfl⟩:=ry;exact eq_int (M3 I q ake)
  | str j=>obtain ⟨t',rfl⟩:=ry;exact PySem.EqMixed.eq_int_str (M3 I q (by simp))
  | _=>exact absurd (show false=true from hs) L9
 | str i=>
  obtain ⟨t,rfl⟩:=rx
  cases y with
  | non=>cases ry;exact PySem.EqNone.eq_str_none (M3 I q (by simp))
  | bl j=>cases ry;exact PySem.EqMixed.eq_str_bool (M3 I q (by simp))
  | int j=>obtain ⟨t',rfl⟩:=ry;exact PySem.EqMixed.eq_str_int (M3 I q (by simp))
  | str j=>obtain ⟨t',rfl⟩:=ry;exact eq_str (M3 I q akf)
  | _=>exact absurd (show false=true from hs) L9
 | byt i=>
  obtain ⟨t,rfl⟩:=rx
  cases y with
  | byt j=>obtain ⟨t',rfl⟩:=ry;exact PySem.W.eq_bytes (M3 I q akg)
  | _=>exact absurd (show false=true from hs) L9
 | _=>cases y <;> exact absurd (show false=true from hs) L9
theorem op_ne:K3 X (bc .NotEq) rNe:=by
 intro aa s Y H x y v u Q I rx ry h;obtain ⟨hs,q⟩:=h
 cases x with
 | non=>
  cases rx
  cases y with
  | non=>cases ry;exact PySem.EqNone.ne_none_none (M3 I q (by simp))
  | bl j=>cases ry;exact PySem.EqNone.ne_none_bool (M3 I q (by simp))
  | int j=>obtain ⟨t',rfl⟩:=ry;exact PySem.EqNone.ne_none_int (M3 I q (by simp))
  | str j=>obtain ⟨t',rfl⟩:=ry;exact PySem.EqNone.ne_none_str (M3 I q (by simp))
  | _=>exact absurd (show false=true from hs) L9
 | bl i=>
  cases rx
  cases y with
  | non=>cases ry;exact PySem.EqNone.ne_bool_none (M3 I q (by simp))
  | bl j=>cases ry;exact ne_bool (M3 I q (congrArg not anz))
  | str j=>obtain ⟨t',rfl⟩:=ry;exact PySem.EqMixed.ne_bool_str (M3 I q (by simp))
  | _=>exact absurd (show false=true from hs) L9
 | int i=>
  obtain ⟨t,rfl⟩:=rx
  cases y with
  | non=>cases ry;exact PySem.EqNone.ne_int_none (M3 I q (by simp))
  | int j=>obtain ⟨t',rfl⟩:=ry;exact ne_int (M3 I q (congrArg not ake))
  | str j=>obtain ⟨t',rfl⟩:=ry;exact PySem.EqMixed.ne_int_str (M3 I q (by simp))
  | _=>exact absurd (show false=true from hs) L9
 | str i=>
  obtain ⟨t,rfl⟩:=rx
  cases y with
  | non=>cases ry;exact PySem.EqNone.ne_str_none (M3 I q (by simp))
  | bl j=>cases ry;exact PySem.EqMixed.ne_str_bool (M3 I q (by simp))
  | int j=>obtain ⟨t',rfl⟩:=ry;exact PySem.EqMixed.ne_str_int (M3 I q (by simp))
  | str j=>obtain ⟨t',rfl⟩:=ry;exact ne_str (M3 I q (congrArg not akf))
  | _=>exact absurd (show false=true from hs) L9
 | byt i=>
  obtain ⟨t,rfl⟩:=rx
  cases y with
  | byt j=>obtain ⟨t',rfl⟩:=ry;exact PySem.W.ne_bytes (M3 I q (congrArg not akg))
  | _=>exact absurd (show false=true from hs) L9
 | _=>cases y <;> exact absurd (show false=true from hs) L9
theorem op_lt:K3 X (bc .Lt) (t7 fun i j=>.bl (decide (i<j))):=opB0 fun _ _ _ _ _ _ _ q=>lt_int q
theorem op_le:K3 X (bc .LtE) (t7 fun i j=>.bl (decide (i<=j))):=opB0 fun _ _ _ _ _ _ _ q=>le_int q
theorem op_gt:K3 X (bc .Gt) (t7 fun i j=>.bl (decide (j<i))):=opB0 fun _ _ _ _ _ _ _ q=>gt_int q
theorem op_ge:K3 X (bc .GtE) (t7 fun i j=>.bl (decide (j<=i))):=opB0 fun _ _ _ _ _ _ _ q=>ge_int q
theorem agz:K3 X (bc .Lt) (fun x y H Q=>∃ i j,x=.str i/\y=.str j/\Q (.bl (decide (i.cps.toList<j.cps.toList))) H):=by
 intro aa s Y H x y v u Q I rx ry h;obtain ⟨i,j,rfl,rfl,q⟩:=h;obtain ⟨t,rfl⟩:=rx;obtain ⟨t',rfl⟩:=ry;exact lt_str (M3 I q rfl)
theorem akh:K3 X (bc .In) (fun x y H Q=>∃ i j,x=.str i/\y=.str j/\Q (.bl (!(Builtin.Str.occurrences j i 0 j.length 1).isEmpty)) H):=by
 intro aa s Y H x y v u Q I rx ry h;obtain ⟨i,j,rfl,rfl,q⟩:=h;obtain ⟨t,rfl⟩:=rx;obtain ⟨t',rfl⟩:=ry;exact in_str (M3 I q rfl)
theorem aq2:K3 X (bc .Is) (fun x y H Q=>y=.non/\Q (.bl (decide (x=.non))) H):=by
 intro aa s Y H x y v u Q I rx ry h;obtain ⟨rfl,q⟩:=h
 cases ry
 refine is_none_gen (M3 I q ?_)
 cases x <;> first
  | (cases rx;rfl)
  | (obtain ⟨t,rfl⟩:=rx;rfl)
theorem aoh:K3 X (bc .IsNot) (fun x y H Q=>y=.non/\Q (.bl (!decide (x=.non))) H):=by
 intro aa s Y H x y v u Q I rx ry h;obtain ⟨rfl,q⟩:=h
 cases ry
 refine isnot_none_gen (M3 I q ?_)
 cases x <;> first
  | (cases rx;rfl)
  | (obtain ⟨t,rfl⟩:=rx;rfl)
theorem anA(b:ao){op:CmpOp}(h:op≠.In:=by decide)(h2:op≠.NotIn:=by decide):behindInMarks op b=false:=by
 have e1:(op==CmpOp.In)=false:=by cases op <;> first | rfl | exact absurd rfl h
 have e2:(op==CmpOp.NotIn)=false:=by cases op <;> first | rfl | exact absurd rfl h2
 cases b <;> simp [behindInMarks,e1,e2]
theorem aoi{op:CmpOp}{r:R2}(ho:K3 X (bc op) r)(ha:PE X a ta)(hb:PE X b tb)(hm:behindInMarks op b=false):PE X (.Compare a [op] [b] pos) (j5 r ta tb):=by
 intro aa s Y H Q I h;exact wpAny_Compare1 (binT ha hb I h fun v u s2 x y H2 I2 rx ry q=>ho aa s2 Y H2 x y v u Q I2 rx ry q) hm
noncomputable def tTest (t:TE):TT:=fun Y H Q=>t Y H fun x H'=>∃ k,x=.bl k/\Q k H'
theorem aoj{op:CmpOp}{r:R2}(ho:K3 X (bc op) r)(ha:PE X a ta)(hb:PE X b tb)(hm:behindInMarks op b=false):PT X (.Compare a [op] [b] pos) (tTest (j5 r ta tb)):=by
 intro aa s Y H Q I h;refine wpAny_isTrue_Compare1 (thnE (ha aa s Y H _ I h) fun v s1 x H1 I1 r1 q1=>thnE (hb aa s1 Y H1 _ I1 q1) fun u s2 y H2 I2 r2 q2=>
  thnE (ho aa s2 Y H2 x y v u _ I2 r1 r2 q2) fun c s3 z H3 I3 r3 ⟨k,e,q3⟩=>?_) hm
 subst e
 cases r3
 exact wpAny_truthy_bool ⟨H3,I3,q3⟩
noncomputable def sP (r r':R2) (ta tb tc:TE):TE:=fun Y H Q=>ta Y H fun x H1=>tb Y H1 fun y H2=>r x y H2 fun z H3=>∃ k,z=.bl k/\
 (if k=true then tc Y H3 fun w' H4=>r' y w' H4 Q else Q (.bl false) H3)
theorem ame{op op':CmpOp}{r r':R2}(ho:K3 X (bc op) r)(u8:K3 X (bc op') r')(ha:PE X a ta)(hb:PE X b tb)(hc:PE X c tc)(hm:lastMarks [op,op'] [b,c]=false:=by with_unfolding_all rfl):PE X (.Compare a [op,op'] [b,c] pos) (sP r r' ta tb tc):=by
 intro aa s Y H Q I h;refine Compare_chain (thnE (ha aa s Y H _ I h) fun v s1 x H1 I1 r1 q1=>chain_link (thnE (hb aa s1 Y H1 _ I1 q1) fun u s2 y H2 I2 r2 q2=>
  thnE (ho aa s2 Y H2 x y v u _ I2 r1 r2 q2) fun d s3 z H3 I3 r3 ⟨k,e,q3⟩=>?_)) hm
 subst e
 cases r3
 refine wpAny_truthy_bool ?_
 cases k with
 | false=>exact ite_ff ⟨.bl false,H3,I3,rfl,q3⟩
 | true=>exact ite_tt (chain_last (thnE (hc aa s3 Y H3 _ I3 q3) fun w' s4 z' H4 I4 r4 q4=>u8 aa s4 Y H4 y z' u w' Q I4 r2 r4 q4))
noncomputable def TruV (K:aj) (x:V) (H:Hp) (k:Bool):Prop:=
 match x with
 | .non=>k=false
 | .bl b=>k=b
 | .int i=>k=(i != 0)
 | .str y=>y.length<=ak/\k=((y.length:Int) != 0)
 | .byt y=>y.size<=ak/\k=((y.size:Int) != 0)
 | .ref p=>(∃ xs,D9 K H p xs/\k=!xs.isEmpty)\/(∃ xs,C7 K H p xs/\k=!xs.isEmpty)\/∃ kvs,H p=some (.dK kvs)/\k=!kvs.isEmpty
 | _=>False
theorem ajj{κ:Type}{kvs:List (κ×V)}{vs:List (κ×ac)}(r:KV kvs vs):(!vs.isEmpty)=!kvs.isEmpty:=by
 cases r <;> rfl
theorem afo{xs:Ao}{its:Ae}(r:Vals xs its):(!its.toArray.isEmpty)=!xs.isEmpty:=by
 cases r <;> simp
theorem kU:(ak:Nat)<2 ^ 63:=by rw [sizeLine_eq];decide
theorem anB:TruR X (fun x H Q=>∃ k,TruV X.K x H k/\Q k H):=by
 intro aa s Y H x v Q I rx h;obtain ⟨k,e,q⟩:=h;have hl:=kU;have hs:ak=16777216:=sizeLine_eq
 cases x with
 | non=>
  cases rx
  have e':k=false:=e;subst e';exact truthy_none ⟨H,I,q⟩
 | bl b=>
  cases rx
  have e':k=b:=e;subst e';exact wpAny_truthy_bool ⟨H,I,q⟩
 | int i=>
  obtain ⟨t,rfl⟩:=rx;have e':k=(i != 0):=e;subst e';exact PySem.P.truthy_int ⟨H,I,q⟩
 | str y=>
  obtain ⟨t,rfl⟩:=rx;obtain ⟨hy,e'⟩:y.length<=ak/\k=((y.length:Int) != 0):=e;subst e';exact PySem.P.truthy_str (by lia) ⟨H,I.tok _,q⟩
 | byt y=>
  obtain ⟨t,rfl⟩:=rx;obtain ⟨hy,e'⟩:y.size<=ak/\k=((y.size:Int) != 0):=e;subst e';exact PySem.W.truthy_bytes (by lia) ⟨H,I.tok _,q⟩
 | ref p=>
  cases rx
  have e':(∃ xs,D9 X.K H p xs/\k=!xs.isEmpty)\/(∃ xs,C7 X.K H p xs/\k=!xs.isEmpty)\/∃ kvs,H p=some (.dK kvs)/\k=!kvs.isEmpty:=e
  rcases e' with ⟨xs,hx,e'⟩ | ⟨xs,hx,e'⟩ | ⟨kvs,hx,e'⟩
  .subst e';obtain ⟨its,r,pl,hz⟩:=I.list hx;have A9:=r.length;exact wpAny_truthy_list pl.isList (by simp only [L4];lia) ⟨H,I.tok _,by rw [afo r];exact q⟩
  .subst e';obtain ⟨its,r,pl,hz⟩:=I.tuple hx;have A9:=r.length;exact truthy_tuple pl (by simp only [L4];lia) ⟨H,I.tok _,by rw [afo r];exact q⟩
  .subst e';obtain ⟨hz,hS,vs,r,m⟩:kvs.length<=ak/\(p==sysModules)=false/\∃ vs,KV kvs vs/\s.heap.DictOf (P3 X.prog X.w) p vs:=I.hok p _ hx;have A9:kvs.length=vs.length:=Paired.length r;exact wpAny_truthy_dict hS m (by lia) ⟨H,I.tok _,by rw [ajj r];exact q⟩
 | _=>exact (show False from e).elim
theorem amf(ha:PE X a ta)(he:∀ whole,isTrue a X.env whole=(do let v <- whole;standAt a.pos;holding [v] (truthy v))) :
  PT X a (fun Y H Q=>ta Y H fun x H'=>∃ k,TruV X.K x H' k/\Q k H'):=by
 intro aa s Y H Q I h;exact isTrue_plain (thnE (ha aa s Y H _ I h) fun v s1 x H1 I1 r1 q1=>anB aa s1 Y H1 x v Q I1 r1 q1) (he _)
theorem ajk:K3 X (bo .Add) (fun x y H Q=>∃ i j,x=.str i/\y=.str j/\i.length+j.length<=ak/\Q (.str (i++j)) H):=by
 intro aa s Y H x y v u Q I rx ry h;obtain ⟨i,j,rfl,rfl,hz,q⟩:=h;obtain ⟨t,rfl⟩:=rx;obtain ⟨t',rfl⟩:=ry;exact add_str (fun t' tk=>⟨.str (i++j),H,I.tok _,⟨_,rfl⟩,q⟩) hz
theorem vals1{x:V}{us:Ae}(r:Vals [x] us):∃ u,us=[u]/\RelV x u:=by
 cases r with
 | cons r1 r2=>cases r2;exact ⟨_,rfl,r1⟩
theorem vals2{x y:V}{us:Ae}(r:Vals [x,y] us):∃ u w',us=[u,w']/\RelV x u/\RelV y w':=by
 cases r with
 | cons r1 r2=>
  cases r2 with
  | cons r3 r4=>cases r4;exact ⟨_,_,rfl,r1,r3⟩
theorem akj:CallR X (.type "int") (fun xs H Q=>(∃ i,xs=[.int i]/\Q (.int i) H)\/∃ k,xs=[.bl k]/\Q (.int (if k then 1 else 0)) H):=by
 intro aa s Y H xs us Q I r h
 rcases h with ⟨i,rfl,q⟩ | ⟨k,rfl,q⟩
 .obtain ⟨u,rfl,t,rfl⟩:=vals1 r;exact call_int_int ⟨.int i,H,I,⟨_,rfl⟩,q⟩
 .obtain ⟨u,rfl,r1⟩:=vals1 r
  cases r1
  exact call_int_bool ⟨.int (if k then 1 else 0),H,I.tok _,⟨_,rfl⟩,q⟩
theorem amg:CallR X (.builtin "ord") (fun xs H Q=>∃ x,xs=[.str x]/\x.length=1/\Q (.int (x.cps.getD 0 0:Nat)) H):=by
 intro aa s Y H xs us Q I r h;obtain ⟨x,rfl,hz,q⟩:=h;obtain ⟨u,rfl,t,rfl⟩:=vals1 r;exact ord_of_one hz ⟨.int _,H,I.tok _,⟨_,rfl⟩,q⟩
noncomputable def LenV (K:aj) (x:V) (H:Hp) (n:Nat):Prop:=
 match x with
 | .str y=>y.length<=ak/\n=y.length
 | .byt y=>y.size<=ak/\n=y.size
 | .ref p=>(∃ xs,D9 K H p xs/\n=xs.length)\/∃ xs,C7 K H p xs/\n=xs.length
 | _=>False
theorem sQ:CallR X (.builtin "len") (fun xs H Q=>∃ x n,xs=[x]/\LenV X.K x H n/\Q (.int n) H):=by
 intro aa s Y H xs us Q I r h;obtain ⟨x,n,rfl,e,q⟩:=h;obtain ⟨u,rfl,rx⟩:=vals1 r;have hl:=kU;have hs:ak=16777216:=sizeLine_eq
 cases x with
 | str y=>
  obtain ⟨t,rfl⟩:=rx;obtain ⟨hy,e'⟩:y.length<=ak/\n=y.length:=e;subst e';exact len_str (by lia) ⟨.int _,H,I.tok _,⟨_,rfl⟩,q⟩
 | byt y=>
  obtain ⟨t,rfl⟩:=rx;obtain ⟨hy,e'⟩:y.size<=ak/\n=y.size:=e;subst e';exact PySem.W.len_bytes (by lia) ⟨.int _,H,I.tok _,⟨_,rfl⟩,q⟩
 | ref p=>
  cases rx
  have e':(∃ xs,D9 X.K H p xs/\n=xs.length)\/∃ xs,C7 X.K H p xs/\n=xs.length:=e
  rcases e' with ⟨xs,hx,e'⟩ | ⟨xs,hx,e'⟩
  .subst e';obtain ⟨its,r',pl,hz⟩:=I.list hx;have A9:=r'.length;exact Calls.call_len_list pl.isList (by simp only [L4];lia) ⟨.int xs.length,H,I.tok _,⟨_,by simp only [L4];rw [A9]⟩,q⟩
  .subst e';obtain ⟨its,r',pl,hz⟩:=I.tuple hx;have A9:=r'.length;exact len_tuple pl (by simp only [L4];lia) ⟨.int xs.length,H,I.tok _,⟨_,by simp only [L4];rw [A9]⟩,q⟩
 | _=>exact (show False from e).elim
end
end L2
namespace L2
open PySem PySem.Spec PyProof.Rows
structure ObjM(h:au)(x dx C:ab)(mA:Str->Ag):Prop where
 obj:h.get? x=some (cK C dx)
 ns:h.Ns1 dx mA
 ne:dx≠x
theorem akk{h:au}{dx:ab}{mA:Str->Ag}(n:h.Ns1 dx mA):∃ od,h.get? dx=some od/\∀ name,PySem.W.lookIn name od=some (mA name):=by
 obtain ⟨o,es,ep,ho,hd,hk,_,hm⟩:=n;refine ⟨o,ho,fun name=>?_⟩;have e:=hm name;unfold nsFind findBy at e;rw [<- Array.find?_toList] at e;unfold PySem.W.lookIn;rw [hd]
 dsimp only
 split
 .rename_i y q
  rw [q] at e;exact congrArg some e
 .rename_i q
  rw [q] at e;have a:es.toList.any (·.refKey)=false:=by
   rw [List.any_eq_false];intro y hy;obtain ⟨z,t,k7⟩:=hk y (Array.mem_toList_iff.mp hy);simp [DictEntry.refKey,k7]
  have a':¬ es.toList.any (·.refKey)=true:=by rw [a];exact L9
  rw [if_neg a'];exact congrArg some e
theorem ObjM.look{h:au}{x dx C:ab}{mA:Str->Ag}(I:ObjM h x dx C mA):∃ od,PySem.W.InstAt h x (cK C dx) C (some od)/\∀ name,PySem.W.lookIn name od=some (mA name):=
 let ⟨od,ho,hl⟩:=akk I.ns
 ⟨od,⟨I.obj,rfl,rfl,ho⟩,hl⟩
section
variable {prog:ax} {w:av} {A:ay} {E:Ac} {s:ag} {K:aj} {x dx C f:ab} {mA:Str->Ag} {name:Str} {v:ac}
theorem aok{expr:Bool}{Q:Ac}(X:K.In s.heap)(I:ObjM s.heap x dx C mA)(hg:gU K C name=true)(hh:kN K C=true)(ha:Q1 K (.ref C) name=some none)(hv:mA name=some v)(fP:PySem.W.handedIn v=true)(h:Q v { s with toks:=s.toks+1 }) :
  wpAny (model prog w) A (getAttr (.ref x) name expr) Q E s:=by
 obtain ⟨od,J,hl⟩:=I.look;exact PySem.W.get_value X J (PySem.W.plainGet_of hg).1 (PySem.W.findObj_own hh ha rfl (by rw [hl,hv])) fP h
theorem amh{pl:Sem Bool}{Q:ac×Ae->ag->Prop}(X:K.In s.heap)(I:ObjM s.heap x dx C mA)(hg:gU K C name=true)(hf:Q1 K (.ref C) name=some (some (.ref f)))(ht:PySem.W.isFn K (.ref f)=true)(hv:mA name=none)(h:Q (.ref f,[.ref x]) s) :
  wpAny (model prog w) A (getMethod (.ref x) name pl) Q E s:=by
 obtain ⟨od,J,hl⟩:=I.look;exact PySem.W.method_fn X J (PySem.W.plainGet_of hg).1 (PySem.W.plainGet_of hg).2 hf (beq_iff_eq.mp ht) (by show (PySem.W.lookIn name od).map (·.isSome)=some false;rw [hl,hv];rfl) h
theorem aol{ns:Ab}{Q:Unit->ag->Prop}(X:K.In s.heap)(I:ObjM s.heap x dx C mA)(hs:Q1 K (.ref C) "__setattr__"=some (some (.builtin "object.__setattr__")))(hp:PySem.W.plainOver K C=true)(ht:PySem.W.takerIn K C name=some none)(hh:kN K C=true)(hw:PySem.Within mA ns)(hsz:ns.length<=ak)(h:∀ h',ObjM h' x dx C (fun y=>if y=name then some v else mA y)->au.SameBut dx s.heap h'->Q () { s with heap:=h',toks:=s.toks+2 }) :
  wpAny (model prog w) A (setAttr (.ref x) name v) Q E s:=by
 obtain ⟨od,J,hl⟩:=I.look;refine PySem.W.set_plain X J hs (PySem.W.osa_open (s:={ s with toks:=s.toks+1 }) (r:=none) X J hp ht fun b=>?_);obtain ⟨cd,hc,fN⟩:=PySem.W.any_some hh;have hx:s.heap.get? x=some ⟨.ref C,some dx,.plain,#[]⟩:=I.obj;refine ar (bb (ar (ar (wpAny_loadPart hx (ar (PySem.W.Looks.here (s:={ s with toks:=s.toks+1 }) (PySem.W.looks_clsIn X hc) ?_))))));rw [fN];refine bb (a:=some dx) (ar (bb (ar ?_)));refine wpAny_nsSet1 (s:={ s with toks:=s.toks+1 }) I.ns fun h' mG bQ=>?_
 obtain ⟨oD,esD,epD,hoD,hdD,hcD⟩:=mG.count (PySem.Within.cons name v hw);refine ar (wpAny_lookBehind hoD (by rw [hdD];exact pastItsLine_dict (K9 hcD (by rw [E5];lia))) ?_);exact bb (h _ ⟨(bQ.2 _ (Ne.symm I.ne)).trans I.obj,mG,I.ne⟩ bQ)
theorem ami{R:Result->ag->Prop}{vs:Ae}{kw:List (Str×ac)}(X:K.In s.heap)(hm:kO K C=true)(hi:Q1 K (.ref C) "__init__"=some (some (.ref f)))(hf:PySem.W.typeIn K (.ref f)=some (.type "function"))(h:bw (model prog w) (A.under (.builtin "type.__call__" ⟨.ref C::vs,kw⟩)) (.call (.ref f) ⟨.ref (s.heap.objs.size+1)::vs,kw⟩) (PySem.W.InitBack (s.heap.objs.size+1) R)
   { s with heap:=(s.heap.push bC).push (cK C s.heap.objs.size) }) :
  bw (model prog w) A (.call (.ref C) ⟨vs,kw⟩) R s:=by
 obtain ⟨hh,g,d,t,os⟩:=s;exact PySem.W.make_core (PySem.W.makes_of X hm) (PySem.W.looks_findIn X hi) (fun self=>PySem.W.bind_fn X self hf) (.inl rfl) h
end
noncomputable def putF (f:Str) (v:V):List (Str×V)->List (Str×V)
 | []=>[(f,v)]
 | (g,x)::r=>if g=f then (g,v)::r else (g,x)::putF f v r
theorem M5(f g:Str)(v:V):∀ fs:List (Str×V),(putF f v fs).lookup g=if g=f then some v else fs.lookup g
 | []=>by
  show cH g [(f,v)]=_
  by_cases h:g=f
  .have hb:(g==f)=true:=beq_iff_eq.mpr h;simp only [cH,hb,if_pos h]
  .have hb:(g==f)=false:=beq_eq_false_iff_ne.mpr h;simp only [cH,hb,if_neg h]
 | (k,x)::r=>by
  have ih:=M5 f g v r;rw [show putF f v ((k,x)::r)=(if k=f then (k,v)::r else (k,x)::putF f v r) from rfl]
  by_cases hk:k=f
  .rw [if_pos hk]
   by_cases h:g=k
   .have hb:(g==k)=true:=beq_iff_eq.mpr h;simp only [cH,hb,if_pos (h.trans hk)]
   .have hb:(g==k)=false:=beq_eq_false_iff_ne.mpr h;simp only [cH,hb,if_neg (fun e:g=f=>h (e.trans hk.symm))]
  .rw [if_neg hk]
   by_cases h:g=k
   .have hb:(g==k)=true:=beq_iff_eq.mpr h;simp only [cH,hb,if_neg (fun e:g=f=>hk (h.symm.trans e))]
   .have hb:(g==k)=false:=beq_eq_false_iff_ne.mpr h;simp only [cH,hb];exact ih
theorem sR(f:Str)(v:V):∀ fs:List (Str×V),f∈(putF f v fs).map (·.1)/\∀ g,g∈fs.map (·.1)->g∈(putF f v fs).map (·.1)
 | []=>⟨by simp [putF],fun g h=>by simp at h⟩
 | (k,x)::r=>by
  obtain ⟨i1,i2⟩:=sR f v r;rw [show putF f v ((k,x)::r)=(if k=f then (k,v)::r else (k,x)::putF f v r) from rfl]
  by_cases hk:k=f
  .rw [if_pos hk];subst hk;exact ⟨by simp,fun g h=>by simpa using h⟩
  .rw [if_neg hk];refine ⟨?_,fun g h=>?_⟩
   .rw [E2];exact G6 _ i1
   .rw [E2] at h ⊢
    rcases D8.mp h with e | e
    .exact D8.mpr (.inl e)
    .exact G6 _ (i2 g e)
theorem sS(f:Str)(v:V):∀ fs:List (Str×V),(putF f v fs).length<=fs.length+1
 | []=>by simp [putF]
 | (k,x)::r=>by
  have ih:=sS f v r;rw [show putF f v ((k,x)::r)=(if k=f then (k,v)::r else (k,x)::putF f v r) from rfl]
  by_cases hk:k=f
  .rw [if_pos hk,E5,E5];lia
  .rw [if_neg hk,E5,E5];lia
theorem oS{v:V}{o:Ag}(r:RelO (some v) o):∃ u,o=some u/\RelV v u:=by
 cases o with
 | none=>exact (show False from r).elim
 | some u=>exact ⟨u,rfl,r⟩
theorem RelO.none_of{o:Ag}(r:RelO none o):o=none:=by
 cases o with
 | none=>rfl
 | some u=>exact (show False from r).elim
theorem akl{v:V}{u:ac}(r:RelV v u):PySem.W.handedIn u=true:=by
 cases v with
 | non=>cases (show u=ac.none from r);rfl
 | bl b=>cases (show u=ac.bool b from r);rfl
 | int i=>obtain ⟨t,e⟩:=(show ∃ t,u=ac.int i t from r);cases e;rfl
 | str x=>obtain ⟨t,e⟩:=(show ∃ t,u=ac.str x t from r);cases e;rfl
 | byt b=>obtain ⟨t,e⟩:=(show ∃ t,u=ac.bytes b t from r);cases e;rfl
 | flt b=>obtain ⟨t,e⟩:=(show ∃ t,u=ac.float b t from r);cases e;rfl
 | ref a=>cases (show u=ac.ref a from r);rfl
 | ty n=>cases (show u=ac.type n from r);rfl
section
variable {P:ax} {w:av} {H H':Hp} {h h':au} {a C dx:ab} {fs fs':List (Str×V)}
theorem oT(hok:O1 P w H h)(e:H a=some (.ins C dx fs)):∃ mA,ObjM h a dx C mA/\(∀ f,RelO (fs.lookup f) (mA f))/\PySem.Within mA (fs.map (·.1))/\fs.length<=1000/\H dx=some (.own a):=by
 obtain ⟨d,z,ne,ob,mA,n,r,q⟩:=(show ObjOk P w H h a (.ins C dx fs) from hok a _ e)
 exact ⟨mA,⟨ob,n,ne⟩,r,q,z,d⟩
end
structure Cls(K:aj)(C:ab):Prop where
 pg:gU K C Str.empty=true
 hd:kN K C=true
 po:PySem.W.plainOver K C=true
 sa:Q1 K (.ref C) "__setattr__"=some (some (.builtin "object.__setattr__"))
theorem Cls.get{K:aj}{C:ab}(c:Cls K C)(f:Str):gU K C f=true:=c.pg
noncomputable def NoAttr (K:aj) (C:ab) (f:Str):Prop:=Q1 K (.ref C) f=some none
theorem NoAttr.taker{K:aj}{C:ab}{f:Str}(n:NoAttr K C f):PySem.W.takerIn K C f=some none:=by
 unfold PySem.W.takerIn;rw [show Q1 K (.ref C) f=some none from n];rfl
structure Meth(K:aj)(C:ab)(m:Str)(f:ab):Prop where
 at_:Q1 K (.ref C) m=some (some (.ref f))
 fn:PySem.W.isFn K (.ref f)=true
 kp:Z4 K (.ref f)=true
section
variable {X:Cx} {aa:Ad} {Y:St} {H:Hp} {s:ag} {a C dx:ab} {fs:List (Str×V)} {f:Str} {v:V} {A:ay} {E:Ac}
theorem afp{b:Bool}{Q:Ac}(I:Inv X aa Y H s)(e:H a=some (.ins C dx fs))(c:Cls X.K C)(n:NoAttr X.K C f)(l:fs.lookup f=some v)(h:∀ u s',Inv X aa Y H s'->RelV v u->Q u s'):wpAny (model X.prog X.w) A (getAttr (.ref a) f b) Q E s:=by
 obtain ⟨mA,O,r,_,_,_⟩:=oT I.hok e;obtain ⟨u,hu,ru⟩:=oS (v:=v) (o:=mA f) (by rw [<- l];exact r f);exact aok I.kIn O (c.get f) c.hd n hu (akl ru) (h u _ (I.tok _) ru)
theorem afq{m:Str}{g:ab}{pl:Sem Bool}{Q:ac×Ae->ag->Prop}(I:Inv X aa Y H s)(e:H a=some (.ins C dx fs))(c:Cls X.K C)(k:Meth X.K C m g)(l:fs.lookup m=none)(h:Q (.ref g,[.ref a]) s):wpAny (model X.prog X.w) A (getMethod (.ref a) m pl) Q E s:=by
 obtain ⟨mA,O,r,_,_,_⟩:=oT I.hok e;have hn:mA m=none:=RelO.none_of (by rw [<- l];exact r m);exact amh I.kIn O (c.get m) k.at_ k.fn hn h
theorem afr{y:V}{u:ac}{Q:Unit->ag->Prop}(I:Inv X aa Y H s)(e:H a=some (.ins C dx fs))(c:Cls X.K C)(n:NoAttr X.K C f)(hl:fs.length<1000)(ry:RelV y u)(h:∀ s',Inv X aa Y (A0 H a (.ins C dx (putF f y fs))) s'->Q () s'):wpAny (model X.prog X.w) A (setAttr (.ref a) f u) Q E s:=by
 obtain ⟨mA,O,r,wi,_,ho⟩:=oT I.hok e;have hz:(fs.map (·.1)).length<=ak:=by rw [A3,sizeLine_eq];lia
 refine aol I.kIn O c.sa c.po n.taker c.hd wi hz fun h' O' sb=>h _ ?_
 have hd:∃ o,h'.get? dx=some o:=let ⟨o,_,_,e',_⟩:=O'.ns;⟨o,e'⟩
 refine I.write (x:=a) (e:=dx) (by rw [e];exact True.intro) (.inr ho) (fun b q hb z=>(sb.2 b hb).trans z) hd ?_;refine ⟨by rw [A4 O.ne];exact ho,?_,O.ne,O'.obj,_,O'.ns,fun g=>?_,fun g hg=>?_⟩
 .have:=sS f y fs;lia
 .show RelO ((putF f y fs).lookup g) (if g=f then some u else mA g);rw [M5]
  by_cases q:g=f
  .rw [if_pos q,if_pos q];exact ry
  .rw [if_neg q,if_neg q];exact r g
 .by_cases q:g=f
  .rw [q];exact (sR f y fs).1
  .refine (sR f y fs).2 g (wi g fun z=>hg ?_);show (if g=f then some u else mA g)=none;rw [if_neg q];exact z
theorem Inv.made(I:Inv X aa Y H s):Inv X aa Y (A0 (A0 H s.heap.objs.size (.own (s.heap.objs.size+1))) (s.heap.objs.size+1) (.ins C s.heap.objs.size []))
  { s with heap:=(s.heap.push bC).push (cK C s.heap.objs.size) }:=by
 have e1:(s.heap.push bC).get? s.heap.objs.size=some bC:=br s.heap rfl;have e2:((s.heap.push bC).push (cK C s.heap.objs.size)).get? (s.heap.objs.size+1)=some (cK C s.heap.objs.size):=by
  have:=br (s.heap.push bC) (o:=cK C s.heap.objs.size) rfl
  rwa [au.size_push] at this
 have e3:(s.heap.push bC).Ns s.heap.objs.size (fun _=>none):=⟨bC,#[],_,e1,rfl,(fun e he=>absurd he (by simp)),fun _=>rfl⟩
 have I1:=I.laid (a:=s.heap.objs.size) (o:=.own (s.heap.objs.size+1)) (h':=s.heap.push bC) (t':=s.toks) (fun b u q=>bg _ q) (C1 _) ⟨_,e1⟩;refine I1.laid (a:=s.heap.objs.size+1) (o:=.ins C s.heap.objs.size []) (t':=s.toks) (fun b u q=>bg _ q) (Nat.le_of_eq (au.size_push _ _)) ?_;have ne:s.heap.objs.size≠s.heap.objs.size+1:=O4 (Nat.lt_succ_self _);refine ⟨by rw [A4 ne,A1],J7 _,ne,e2,fun _=>none,(au.Ns1.of_empty e3).at fun o q=>bg _ q,fun _=>True.intro,fun y hy=>absurd rfl hy⟩
theorem aom{prog:ax}{w:av}{env:Env}{e:ao}{f:Str}{pos:aw}{s:ag}{Q:Ac}(hb:bu e f env (eval e env)=eval e env)(h:wpAny (model prog w) A (eval e env) (fun o zu=>wpAny (model prog w) A (getAttr o f true) Q E zu) E s):wpAny (model prog w) A (eval (.Attribute e f pos) env) Q E s:=
 Attribute_any_ h (by rw [arm_eval_Attribute,hb])
end
noncomputable def tFld (K:aj) (ta:TE) (f:Str):TE:=fun Y H Q=>ta Y H fun x H1=>∃ a C dx fs v,x=.ref a/\H1 a=some (.ins C dx fs)/\Cls K C/\NoAttr K C f/\fs.lookup f=some v/\Q v H1
noncomputable def sFld (K:aj) (ta tv:TE) (f:Str):TS:=fun D Y H=>tv Y H fun y H1=>ta Y H1 fun x H2=>∃ a C dx fs,x=.ref a/\H2 a=some (.ins C dx fs)/\Cls K C/\NoAttr K C f/\fs.length<1000/\
 D.nx Y (A0 H2 a (.ins C dx (putF f y fs)))
noncomputable def InOp (X:Cx) (op:Operator) (rd:V->V->Hp->VK->Prop):Prop:=
 ∀ (aa:Ad) (s:ag) (Y:St) (H:Hp) (x y:V) (u v:ac) (Q:VK),Inv X aa Y H s->RelV x u->RelV y v->rd x y H Q->wpAny (model X.prog X.w) X.A (inplaceOp op u v) (EP X aa Y Q) X.xe s
noncomputable def sT (K:aj) (ta tv:TE) (rd:V->V->Hp->VK->Prop) (f:Str):TS:=fun D Y H=>ta Y H fun x H1=>∃ a C dx fs v,x=.ref a/\H1 a=some (.ins C dx fs)/\Cls K C/\NoAttr K C f/\fs.lookup f=some v/\
 tv Y H1 fun y H2=>rd v y H2 fun z H3=>∃ dx' fs',H3 a=some (.ins C dx' fs')/\fs'.length<1000/\D.nx Y (A0 H3 a (.ins C dx' (putF f z fs')))
section
variable {X:Cx} {o e value:ao} {f:Str} {pos pos' tpos:aw} {ta tv:TE}
theorem aq3(he:PE X e ta)(hb:bu e f X.env (eval e X.env)=eval e X.env):PE X (.Attribute e f pos) (tFld X.K ta f):=by
 intro aa s Y H Q I h;refine aom hb (thnE (he aa s Y H _ I h) fun u s1 x H1 I1 rx zz=>?_);obtain ⟨a,C,dx,fs,v,ex,ea,c,n,l,q⟩:=zz;subst ex;obtain rfl:u=ac.ref a:=rx;exact afp I1 ea c n l fun u' s2 I2 ru=>⟨v,H1,I2,ru,q⟩
theorem aq4(ha:PE X o ta)(hv:PE X value tv)(hs:bv value (some (.Attribute o f pos')) pos.line X.env=pure false):PS X (.Assign [.Attribute o f pos'] value pos) (sFld X.K ta tv f):=by
 intro aa s Y H D I h;refine plainObj_wpAny_Assign_Attribute (thnE (hv aa s Y H _ I h) fun u s1 y H1 I1 ry q=>thnE (ha aa s1 Y H1 _ I1 q) fun ov s2 x H2 I2 rx zz=>?_) hs;obtain ⟨a,C,dx,fs,ex,ea,c,n,l,q2⟩:=zz;subst ex;obtain rfl:ov=ac.ref a:=rx;exact afr I2 ea c n l ry fun s3 I3=>⟨Y,_,I3,q2⟩
theorem akm{op:Operator}{rd:V->V->Hp->VK->Prop}(ha:PE X o ta)(hv:PE X value tv)(fQ:InOp X op rd):PS X (.AugAssign (.Attribute o f tpos) op value pos) (sT X.K ta tv rd f):=by
 intro aa s Y H D I h;refine wpAny_AugAssign_AttributeAny (thnE (ha aa s Y H _ I h) fun ov s1 x H1 I1 rx zz=>?_);obtain ⟨a,C,dx,fs,v,ex,ea,c,n,l,q⟩:=zz;subst ex;obtain rfl:ov=ac.ref a:=rx;refine afp I1 ea c n l fun u s2 I2 ru=>thnE (hv aa s2 Y H1 _ I2 q) fun w3 s3 y H2 I3 ry q3=>thnE (fQ aa s3 Y H2 v y u w3 _ I3 ru ry q3) fun w4 s4 z H3 I4 rz zz=>?_
 obtain ⟨dx',fs',ea',l',q4⟩:=zz;exact afr I4 ea' c n l' rz fun s5 I5=>⟨Y,_,I5,q4⟩
noncomputable def rAdd:V->V->Hp->VK->Prop:=fun x y H Q=>∃ i j,x=.int i/\y=.int j/\Q (.int (i+j)) H
noncomputable def rSub:V->V->Hp->VK->Prop:=fun x y H Q=>∃ i j,x=.int i/\y=.int j/\Q (.int (i-j)) H
theorem aq5:InOp X .Add rAdd:=by
 rintro aa s Y H x y u v Q I rx ry ⟨i,j,rfl,rfl,q⟩;obtain ⟨t,rfl⟩:=(show ∃ t,u=ac.int i t from rx)
 obtain ⟨t',rfl⟩:=(show ∃ t',v=ac.int j t' from ry)
 exact PyProof.Rows.iadd_int ⟨.int (i+j),H,I.tok _,⟨_,rfl⟩,q⟩
theorem aq6:InOp X .Sub rSub:=by
 rintro aa s Y H x y u v Q I rx ry ⟨i,j,rfl,rfl,q⟩;obtain ⟨t,rfl⟩:=(show ∃ t,u=ac.int i t from rx)
 obtain ⟨t',rfl⟩:=(show ∃ t',v=ac.int j t' from ry)
 exact PyProof.Rows.isub_int ⟨.int (i-j),H,I.tok _,⟨_,rfl⟩,q⟩
end
section
variable {X:Cx} {aa:Ad} {Y:St} {H:Hp} {s:ag} {A:ay} {E:Ac} {Q:Ac} {c:ac} {b:Bool}
inductive TyOf (K:aj) (H:Hp):V->ac->Prop where
 | non:TyOf K H .non (.type "NoneType")
 | bl (x:Bool):TyOf K H (.bl x) (.type "bool")
 | int (i:Int):TyOf K H (.int i) (.type "int")
 | str (x:Str):TyOf K H (.str x) (.type "str")
 | flt (x:UInt64):TyOf K H (.flt x) (.type "float")
 | lst {a:ab} {xs:Ao} (e:H a=some (.lst xs)):TyOf K H (.ref a) (.type "list")
 | frz {a:ab} {o:Obj} {xs:Ao} (e:H a=some (.frz o (.lst xs))):TyOf K H (.ref a) (.type "list")
 | tup {a:ab} {xs:Ao} (e:H a=some (.tup xs)):TyOf K H (.ref a) (.type "tuple")
 | dK {a:ab} {kvs:List (B1×V)} (e:H a=some (.dK kvs)):TyOf K H (.ref a) (.type "dict")
 | dT {a:ab} {kvs:List (List B1×V)} (e:H a=some (.dT kvs)):TyOf K H (.ref a) (.type "dict")
 | ins {a C dx:ab} {fs:List (Str×V)} (e:H a=some (.ins C dx fs)) (cl:Cls K C) (ha:Q1 K (.ref C) "__class__"=some (some (.builtin "object.__class__")))
   (hn:PySem.W.specialIn K (.builtin "object.__class__") "__get__"=some (some (.builtin "getset_descriptor.__get__"))) (qP:PySem.W.takesIn K (.builtin "object.__class__")=some true)
   (hm:PySem.W.mroIn K C (.type "object")=some true):TyOf K H (.ref a) (.ref C)
theorem akn{x:V}{u t:ac}(I:Inv X aa Y H s)(rx:RelV x u)(ty:TyOf X.K H x t)(e:PySem.W.kitOne X.K t c=some b)(h:∀ tk,Q (.bool b) { s with toks:=tk }) :
  wpAny (model X.prog X.w) A (call (.builtin "isinstance") [u,c]) Q E s:=by
 cases ty with
 | non=>cases (show u=ac.none from rx);exact p8 PySem.W.kitx_none I.kIn True.intro e (fun z=>nomatch z) h
 | bl y=>cases (show u=ac.bool y from rx);exact p8 PySem.W.kitx_bool I.kIn True.intro e (fun z=>nomatch z) h
 | int i=>obtain ⟨t,q⟩:=(show ∃ t,u=ac.int i t from rx);cases q;exact p8 PySem.W.kitx_int I.kIn True.intro e (fun z=>nomatch z) h
 | str y=>obtain ⟨t,q⟩:=(show ∃ t,u=ac.str y t from rx);cases q;exact p8 PySem.W.kitx_str I.kIn True.intro e (fun z=>nomatch z) h
 | flt y=>obtain ⟨t,q⟩:=(show ∃ t,u=ac.float y t from rx);cases q;exact p8 PySem.W.kitx_float I.kIn True.intro e (fun z=>nomatch z) h
 | @lst a xs ea=>
  cases (show u=ac.ref a from rx)
  obtain ⟨_,_,n,_,h1⟩:=(show ObjOk X.prog X.w H s.heap a (.lst xs) from I.hok a _ ea)
  exact p8 PySem.W.kitx_list I.kIn ⟨_,h1,rfl⟩ e (fun z=>nomatch z) h
 | @frz a ob xs ea=>
  cases (show u=ac.ref a from rx)
  obtain ⟨_,_,_,n,_,h1⟩:=(show ObjOk X.prog X.w H s.heap a (.frz ob (.lst xs)) from I.hok a _ ea)
  exact p8 PySem.W.kitx_list I.kIn ⟨_,h1,rfl⟩ e (fun z=>nomatch z) h
 | @tup a xs ea=>
  cases (show u=ac.ref a from rx)
  obtain ⟨_,_,_,p⟩:=(show ObjOk X.prog X.w H s.heap a (.tup xs) from I.hok a _ ea)
  obtain ⟨o,h1,h2,_⟩:=p;exact p8 PySem.W.kitx_tuple I.kIn ⟨o,h1,h2⟩ e (fun z=>nomatch z) h
 | @dK a kvs ea=>
  cases (show u=ac.ref a from rx)
  obtain ⟨_,_,vs,_,p⟩:=(show ObjOk X.prog X.w H s.heap a (.dK kvs) from I.hok a _ ea)
  obtain ⟨o,es,ep,h1,h2,_⟩:=p;exact p8 PySem.W.kitx_dict I.kIn ⟨o,h1,h2.1⟩ e (fun z=>nomatch z) h
 | @dT a kvs ea=>
  cases (show u=ac.ref a from rx)
  obtain ⟨_,_,xs,_,o,es,ep,h1,h2,_⟩:=(show ObjOk X.prog X.w H s.heap a (.dT kvs) from I.hok a _ ea)
  exact p8 PySem.W.kitx_dict I.kIn ⟨o,h1,h2.1⟩ e (fun z=>nomatch z) h
 | @ins a C dx fs ea cl ha hn qP hm=>
  cases (show u=ac.ref a from rx)
  obtain ⟨mA,O,_⟩:=oT I.hok ea;obtain ⟨od,J,_⟩:=O.look;exact p8 (PySem.W.kitx_own (cl.get _) cl.hd ha hn qP hm) I.kIn J e (fun z=>nomatch z) h
end
end L2
namespace L2
open PySem PySem.Spec PyProof.Rows
structure Room(k:Nat)(A:ay):Prop where
 hd:A.handled=none
 dp:A.depth+3*k+5<recursionLimit
 un:A.units+16*k+200<cLine
 gd:A.guards=some []
theorem Room.mono{j k:Nat}{A:ay}(r:Room k A)(h:j<=k):Room j A:=⟨r.hd,by have:=r.dp;lia,by have:=r.un;lia,r.gd⟩
theorem Room.deeper{k:Nat}{A:ay}(r:Room (k+1) A)(env:Env):Room k (A.deeper env):=
 ⟨r.hd,by have:=r.dp;show A.depth+1+3*k+5<_;lia,by have:=r.un;show A.units+3+16*k+200<_;lia,r.gd⟩
theorem ajl{A:ay}{C:ab}{us:Ae}{kw:List (Str×ac)} : (A.under (.builtin "type.__call__" ⟨.ref C::us,kw⟩)).depth=A.depth+1:=by
 first | rfl | simp [ay.under,Code.weight,Code.isCreation,Code.isGuard,Code.isCaller,Code.frames,Code.isFrame,guardIds]
theorem ajm{A:ay}{C:ab}{us:Ae}{kw:List (Str×ac)} : (A.under (.builtin "type.__call__" ⟨.ref C::us,kw⟩)).units=A.units+1:=by
 first | rfl | simp [ay.under,Code.cUnits,Code.frames,Code.isFrame]
theorem Room.make{k:Nat}{A:ay}(r:Room (k+1) A)(C:ab)(us:Ae)(kw:List (Str×ac)):Room k (A.under (.builtin "type.__call__" ⟨.ref C::us,kw⟩)):=
 ⟨r.hd,by have:=r.dp;rw [ajl];lia,by have:=r.un;rw [ajm];lia,r.gd⟩
theorem Room.depth{k:Nat}{A:ay}(r:Room k A):A.depth<recursionLimit:=by have:=r.dp;lia
theorem Room.units{k:Nat}{A:ay}(r:Room k A):A.units+64<cLine:=by have:=r.un;lia
noncomputable def tNil:TA:=fun _ H Q=>Q [] H
noncomputable def tCons (ta:TE) (tr:TA):TA:=fun Y H Q=>ta Y H fun x H1=>tr Y H1 fun xs H2=>Q (x::xs) H2
section
variable {X:Cx} {e:ao} {es:Aj} {te:TE} {t:TA} {pos:aw}
theorem aq7:PA X [] tNil:=fun _ _ _ _ H Q I h=>Calls.spliced_nil ⟨[],H,I,.nil,h⟩
theorem aon(ha:PE X e te)(hr:PA X es t)(hs:bf (e::es) X.env=(false,eval e X.env)::bf es X.env:=by rfl):PA X (e::es) (tCons te t):=by
 intro pos aa s Y H Q I h;rw [hs];show wpAny _ _ (spliced ((false,eval e X.env)::backTo pos (bf es X.env))) _ _ s;refine Calls.spliced_cons (thnE (ha aa s Y H _ I h) fun u s1 x H1 I1 r1 q1=>?_);exact thnA (hr pos aa s1 Y H1 _ I1 q1) fun us s2 xs H2 I2 r2 q2=>⟨x::xs,H2,I2,.cons r1 r2,q2⟩
noncomputable def tTup (t:TA):TE:=fun Y H Q=>t Y H fun xs H1=>xs.length<=ak/\∀ p,H1 p=none->Q (.ref p) (A0 H1 p (.tup xs))
noncomputable def tLst (t:TA):TE:=fun Y H Q=>t Y H fun xs H1=>xs.length<=ak/\∀ p,H1 p=none->Q (.ref p) (A0 H1 p (.lst xs))
theorem aq8{x1}(h:PA X es t):PE X (.Tuple es x1 pos) (tTup t):=by
 intro aa s Y H Q I hq;refine wpAny_Tuple_spliced (thnA (h pos aa s Y H _ I hq) fun us s1 xs H1 I1 r ⟨z,q⟩=>⟨by rw [<- r.length];exact z,?_⟩);have hf:H1 s1.heap.objs.size=none:=I1.hok.fresh (C1 _);refine ⟨.ref s1.heap.objs.size,A0 H1 s1.heap.objs.size (.tup xs),I1.laid (t':=s1.toks) (fun b u e=>bg _ e) (C1 _) ?_,rfl,q _ hf⟩;exact ⟨z,us,r,⟨_,br _ rfl,rfl,_,rfl⟩⟩
theorem aq9(h:PA X es t):PE X (.List es pos) (tLst t):=by
 intro aa s Y H Q I hq;refine wpAny_List_spliced (thnA (h pos aa s Y H _ I hq) fun us s1 xs H1 I1 r ⟨z,q⟩=>⟨by rw [<- r.length];exact z,?_⟩);have hf:H1 s1.heap.objs.size=none:=I1.hok.fresh (C1 _);refine ⟨.ref s1.heap.objs.size,A0 H1 s1.heap.objs.size (.lst xs),I1.laid (t':=s1.toks) (fun b u e=>bg _ e) (C1 _) ?_,rfl,q _ hf⟩;exact ⟨z,us,0,r,br _ rfl⟩
end
noncomputable abbrev Sp:=Ao->Hp->VK->XK->Prop
noncomputable abbrev Y2:=List Env->Hp->ag->XK->Ac
structure Env0(P:ax)(w:av)(K:aj)(mg:Str->Ag)(base:au)(A:ay)(outer:List Env)(s:ag)(H:Hp):Prop where
 frames:A.frames=some outer
 mod:Mod K mg base
 bs:∀ b o,base.get? b=some o->s.heap.get? b=some o/\H b=none
 bsz:base.objs.size<=s.heap.objs.size
 funs:s.heap.FunFrames base outer
 frf:∀ b∈r8 outer,H b=none
 hok:O1 P w H s.heap
 bare:AllBare s.gens
noncomputable def CE (outer:List Env) (P:ax) (w:av) (H:Hp) (s:ag) (Q:VK) (u:ac) (s':ag):Prop:=
 ∃ v H',s'.os=s.os/\AllBare s'.gens/\Un (r8 outer) [] H H' s.heap s'.heap/\O1 P w H' s'.heap/\RelV v u/\Q v H'
noncomputable def CR (CX:Y2) (outer:List Env) (P:ax) (w:av) (H:Hp) (s:ag) (Q:VK) (E:XK) (r:Result) (s':ag):Prop:=
 match r with
 | .ok (.ret u)=>CE outer P w H s Q u s'
 | .ok _=>False
 | .error e=>CX outer H s E e s'
structure FnOk(P:ax)(w:av)(K:aj)(mg:Str->Ag)(base:au)(CX:Y2)(k:Nat)(f:ab)(fd:bx)(ps:Ab)(sp:Sp):Prop where
 len:∀ vs H Q E,sp vs H Q E->vs.length=ps.length
 run:∀ (A:ay) (outer:List Env) (s:ag) (H:Hp) (args:Args) (us:Ae) (vs:Ao) (Q:VK) (E:XK),Room k A->Env0 P w K mg base A outer s H->BindsTo s fd args (ps.zip us)->Vals vs us->sp vs H Q E->
  bw (model P w) A (.call (.ref f) args) (CR CX outer P w H s Q E) s
theorem Env0.make{P:ax}{w:av}{K:aj}{mg:Str->Ag}{base:au}{A:ay}{outer:List Env}{s:ag}{H:Hp}(e:Env0 P w K mg base A outer s H)(C:ab)(us:Ae)(kw:List (Str×ac)) :
  Env0 P w K mg base (A.under (.builtin "type.__call__" ⟨.ref C::us,kw⟩)) outer s H:=⟨by first | exact e.frames | (simpa [ay.under,Code.envs,Code.isFrame,pushEnvs] using e.frames),e.mod,e.bs,e.bsz,e.funs,e.frf,e.hok,e.bare⟩
section
variable {X:Cx} {aa:Ad} {Y:St} {H:Hp} {s s':ag}
theorem Inv.env0(I:Inv X aa Y H s):Env0 X.prog X.w X.K X.mg X.base X.A X.stack s H:=
 ⟨I.ok.frames,I.ok.mod,I.bs,K9 I.ok.bsz I.sz,I.stack,I.stkFree,I.hok,I.bare⟩
theorem Inv.after{Q:VK}{u:ac}(I:Inv X aa Y H s)(h:CE X.stack X.prog X.w H s Q u s'):EP X aa Y Q u s':=by
 obtain ⟨v,H',os,bare,un,hok,r,q⟩:=h;obtain ⟨hh,g,d,t,os'⟩:=s';obtain rfl:os'=s.os:=os;exact ⟨v,H',I.call (h':=hh) (g':=g) (d':=d) (t':=t) (ch:=[]) un hok bare (fun b z=>absurd z (by simp)),r,q⟩
end
noncomputable def tCall (sp:Sp) (dvs:Ao) (E:XK) (t:TA):TE:=fun Y H Q=>t Y H fun vs H1=>sp (vs++dvs) H1 Q E
noncomputable def tMeth (C:ab) (m:Str) (sp:Sp) (dvs:Ao) (E:XK) (ta:TE) (t:TA):TE:=fun Y H Q=>ta Y H fun x H1=>∃ a dx fs,x=.ref a/\H1 a=some (.ins C dx fs)/\fs.lookup m=none/\
 t Y H1 fun vs H2=>sp (x::(vs++dvs)) H2 Q E
noncomputable def tMake (C:ab) (sp:Sp) (dvs:Ao) (E:XK) (t:TA):TE:=fun Y H Q=>t Y H fun vs H1=>∀ x dx,H1 x=none->H1 dx=none->dx≠x->
 sp (.ref x::(vs++dvs)) (A0 (A0 H1 dx (.own x)) x (.ins C dx [])) (fun v H2=>v=.non/\Q (.ref x) H2) E
noncomputable def Binds (K:aj) (fd:bx) (ps:Ab) (ds:Ae):Prop:=
 ∀ (s:ag) (us:Ae),K.In s.heap->(us++ds).length=ps.length->BindsTo s fd ⟨us,[]⟩ (ps.zip (us++ds))
theorem Binds.all{K:aj}{fd:bx}{ps:Ab}(h:∀ us:Ae,us.length=ps.length->bindArgs fd ⟨us,[]⟩=pure (ps.zip us)):Binds K fd ps []:=fun s us _ hl=>by
 rw [L5] at hl ⊢
 exact .of_eq (h us hl)
noncomputable def eR (CX:Y2) (X:Cx) (E:XK):Prop:=∀ (aa:Ad) (Y:St) (H:Hp) (s:ag) (e:ac) (s':ag),Inv X aa Y H s->CX X.stack H s E e s'->X.xe e s'
section
variable {X:Cx} {CX:Y2} {k:Nat} {f C:ab} {fd:bx} {ps:Ab} {sp:Sp} {dvs:Ao} {ds:Ae} {E:XK} {x m:Str} {p pos apos:aw} {e o:ao} {es:Aj} {ta:TE} {t:TA}
theorem sU{aa:Ad}{Y:St}{H:Hp}{s:ag}{Q:VK}{us:Ae}{vs:Ao}(F:FnOk X.prog X.w X.K X.mg X.base CX k f fd ps sp)(hr:Room k X.A)(hb:Binds X.K fd ps ds)(hd:Vals dvs ds)(hx:eR CX X E)(I:Inv X aa Y H s)(r:Vals vs us)(h:sp (vs++dvs) H Q E):wpAny (model X.prog X.w) X.A (call (.ref f) us) (EP X aa Y Q) X.xe s:=by
 have r2:Vals (vs++dvs) (us++ds):=r.append hd;have hl:(us++ds).length=ps.length:=by rw [<- r2.length];exact F.len _ _ _ _ h
 refine wpAny_call (cb (F.run X.A X.stack s H ⟨us,[]⟩ (us++ds) (vs++dvs) Q E hr I.env0 (hb s us I.kIn hl) r2 h) fun r s' hq=>?_)
 cases r with
 | error e=>exact hx aa Y H s e s' I hq
 | ok fl=>
  cases fl with
  | ret u=>exact I.after hq
  | next=>exact False.elim hq
  | brk=>exact False.elim hq
  | cont=>exact False.elim hq
theorem aoo(F:FnOk X.prog X.w X.K X.mg X.base CX k f fd ps sp)(hr:Room k X.A)(hg:Gl X x)(hm:X.mg x=some (.ref f))(hk:Z4 X.K (.ref f)=true)(hb:Binds X.K fd ps ds)(hd:Vals dvs ds)(hx:eR CX X E)(ha:PA X (e::es) t)(Q9:(x==("__debug__" : Str))=false:=by decide)(he:bf (e::es) X.env=(false,eval e X.env)::bf es X.env:=by rfl)(g4:(backTo pos (bf es X.env)).any (·.1)=false:=by rfl) :
  PE X (.Call (.Name x p) (e::es) [] pos) (tCall sp dvs E t):=by
 intro aa s Y H Q I h;refine wpAny_Call_Name_kw (sF I hg hm ?_ Q9);refine PySem.W.callWith_K (h₀:=X.base) I.ok.mod.kin hk (thnA (ha pos aa s Y H _ I h) fun us s1 vs H1 I1 r q=>⟨I1.kIn,?_⟩) he g4;exact sU F hr hb hd hx I1 r q
theorem aop{pl:Sem Bool}(he:PE X o ta)(c:Cls X.K C)(hm:Meth X.K C m f)(F:FnOk X.prog X.w X.K X.mg X.base CX k f fd ps sp)(hr:Room k X.A)(hb:Binds X.K fd ps ds)(hd:Vals dvs ds)(hx:eR CX X E)(ha:PA X (e::es) t)(T9:bf (e::es) X.env=(false,eval e X.env)::bf es X.env:=by rfl)(g4:(backTo pos (bf es X.env)).any (·.1)=false:=by rfl)(ht:eval (.Call (.Attribute o m apos) (e::es) [] pos) X.env=(do
   let ov <- eval o X.env
   standAt apos.atName
   let (f,first) <- holding [ov] (getMethod ov m pl)
   callWith pos f first (backTo pos (bf (e::es) X.env)) (backToKw pos (bz [] X.env))):=by rfl) :
  PE X (.Call (.Attribute o m apos) (e::es) [] pos) (tMeth C m sp dvs E ta t):=by
 intro aa s Y H Q I h;refine PySem.W.methodCall_KW (pl:=pl) (thnE (he aa s Y H _ I h) fun u s1 x H1 I1 rx zz=>?_) ht;obtain ⟨a,dx,fs,ex,ea,l,q⟩:=zz;subst ex;obtain rfl:u=ac.ref a:=rx;refine afq I1 ea c hm l ?_;refine PySem.W.callWith_K (first:=[.ref a]) (h₀:=X.base) I.ok.mod.kin hm.kp (thnA (ha pos aa s1 Y H1 _ I1 q) fun us s2 vs H2 I2 r q2=>⟨I2.kIn,?_⟩) T9 g4;exact sU (us:=.ref a::us) (vs:=.ref a::vs) F hr hb hd hx I2 (.cons rfl r) q2
theorem amj{pl:Sem Bool}(he:PE X o ta)(c:Cls X.K C)(hm:Meth X.K C m f)(F:FnOk X.prog X.w X.K X.mg X.base CX k f fd ps sp)(hr:Room k X.A)(hb:Binds X.K fd ps ds)(hd:Vals dvs ds)(hx:eR CX X E)(ht:eval (.Call (.Attribute o m apos) [] [] pos) X.env=(do
   let ov <- eval o X.env
   standAt apos.atName
   let (f,first) <- holding [ov] (getMethod ov m pl)
   callWith pos f first (backTo pos (bf [] X.env)) (backToKw pos (bz [] X.env))):=by rfl) :
  PE X (.Call (.Attribute o m apos) [] [] pos) (tMeth C m sp dvs E ta tNil):=by
 intro aa s Y H Q I h;refine PySem.W.methodCall_KW (pl:=pl) (thnE (he aa s Y H _ I h) fun u s1 x H1 I1 rx zz=>?_) ht;obtain ⟨a,dx,fs,ex,ea,l,q⟩:=zz;subst ex;obtain rfl:u=ac.ref a:=rx;refine afq I1 ea c hm l ?_;exact PySem.W.callWith_K0 (first:=[.ref a]) I1.kIn hm.kp (sU (us:=[.ref a]) (vs:=[.ref a]) F hr hb hd hx I1 (.cons rfl .nil) q)
structure Mk(K:aj)(C f:ab):Prop where
 makes:kO K C=true
 init:Q1 K (.ref C) "__init__"=some (some (.ref f))
 fn:PySem.W.isFn K (.ref f)=true
 kp:Z4 K (.ref C)=true
theorem amk{aa:Ad}{Y:St}{H:Hp}{s:ag}{Q:VK}{us:Ae}{vs:Ao}(M:Mk X.K C f)(F:FnOk X.prog X.w X.K X.mg X.base CX k f fd ps sp)(hr:Room (k+1) X.A)(hb:Binds X.K fd ps ds)(hd:Vals dvs ds)(hx:eR CX X E)(I:Inv X aa Y H s)(r:Vals vs us)(h:∀ x dx,H x=none->H dx=none->dx≠x->sp (.ref x::(vs++dvs)) (A0 (A0 H dx (.own x)) x (.ins C dx [])) (fun v H2=>v=.non/\Q (.ref x) H2) E) :
  wpAny (model X.prog X.w) X.A (call (.ref C) us) (EP X aa Y Q) X.xe s:=by
 have hq:=h (s.heap.objs.size+1) s.heap.objs.size (I.hok.fresh (Nat.le_succ _)) (I.hok.fresh (C1 _)) (O4 (Nat.lt_succ_self _));have I2:=Inv.made (C:=C) I;have r2:Vals (V.ref (s.heap.objs.size+1)::(vs++dvs)) (ac.ref (s.heap.objs.size+1)::(us++ds)):=.cons rfl (r.append hd);have hl:(ac.ref (s.heap.objs.size+1)::us++ds).length=ps.length:=by
  have e:=r2.length;rw [F.len _ _ _ _ hq] at e;exact e.symm
 refine wpAny_call (ami (f:=f) I.kIn M.makes M.init (beq_iff_eq.mp M.fn) (cb (F.run _ X.stack _ _ ⟨ac.ref (s.heap.objs.size+1)::us,[]⟩ (ac.ref (s.heap.objs.size+1)::(us++ds)) _ _ E (hr.make C us [])
  (I2.env0.make C us []) (hb _ (ac.ref (s.heap.objs.size+1)::us) I2.kIn hl) r2 hq) fun r s' fR=>?_))
 cases r with
 | error e=>exact hx aa Y _ _ e s' I2 fR
 | ok fl=>
  cases fl with
  | ret u=>
   obtain ⟨v,H',I3,rv,ev,q3⟩:=I2.after fR;subst ev;exact ⟨rv,⟨V.ref (s.heap.objs.size+1),H',I3,rfl,q3⟩⟩
  | next=>exact False.elim fR
  | brk=>exact False.elim fR
  | cont=>exact False.elim fR
theorem aoq(M:Mk X.K C f)(F:FnOk X.prog X.w X.K X.mg X.base CX k f fd ps sp)(hr:Room (k+1) X.A)(hg:Gl X x)(hm:X.mg x=some (.ref C))(hb:Binds X.K fd ps ds)(hd:Vals dvs ds)(hx:eR CX X E)(ha:PA X (e::es) t)(Q9:(x==("__debug__" : Str))=false:=by decide)(he:bf (e::es) X.env=(false,eval e X.env)::bf es X.env:=by rfl)(g4:(backTo pos (bf es X.env)).any (·.1)=false:=by rfl) :
  PE X (.Call (.Name x p) (e::es) [] pos) (tMake C sp dvs E t):=by
 intro aa s Y H Q I h;refine wpAny_Call_Name_kw (sF I hg hm ?_ Q9);refine PySem.W.callWith_K (h₀:=X.base) I.ok.mod.kin M.kp (thnA (ha pos aa s Y H _ I h) fun us s1 vs H1 I1 r q=>⟨I1.kIn,?_⟩) he g4;exact amk M F hr hb hd hx I1 r q
end
noncomputable def PK (X:Cx) (kws:List Keyword) (t:TA):Prop:=
 ∀ (pos:aw) (aa:Ad) (s:ag) (Y:St) (H:Hp) (Q:Ao->Hp->Prop),Inv X aa Y H s->t Y H Q->wpAny (model X.prog X.w) X.A (evalAll ((backToKw pos (bz kws X.env)).map (·.2))) (AP X aa Y Q) X.xe s
section
variable {X:Cx} {CX:Y2} {k:Nat} {f C:ab} {fd:bx} {ps ks:Ab} {sp:Sp} {E:XK} {x m:Str} {p pos apos kpos:aw} {e o:ao} {es:Aj} {kws:List Keyword} {te ta:TE} {t tk:TA} {nm:Option Str}
theorem ara:PK X [] tNil:=fun _ _ _ _ H Q I h=>wpAny_evalAll_nil ⟨[],H,I,.nil,h⟩
theorem aor(ha:PE X e te)(hr:PK X kws t):PK X (⟨nm,e,kpos⟩::kws) (tCons te t):=by
 intro pos aa s Y H Q I h;show wpAny _ _ (evalAll ((do let v <- eval e X.env;standAt pos;pure v)::(backToKw pos (bz kws X.env)).map (·.2))) _ _ s;refine wpAny_evalAll_cons (ar (thnE (ha aa s Y H _ I h) fun u s1 x H1 I1 r1 q1=>ar (wpAny_standAt (bb ?_))));exact thnA (hr pos aa s1 Y H1 _ I1 q1) fun us s2 xs H2 I2 r2 q2=>⟨x::xs,H2,I2,.cons r1 r2,q2⟩
variable {g:Ae->Ae->Ae} {gV:Ao->Ao->Ao}
end
structure FnScope(N P:Ab)(sc:bj):Prop where
 kind:sc.kind=.function
 co:sc.isCoroutine=false
 gen:sc.isGenerator=false
 nd:N.Nodup
 pre:N.take P.length=P
 par:∀ x∈P,sc.names.lookup x=some .local\/sc.names.lookup x=some .cell
 nofree:∀ y∈sc.names,y.2≠.free
theorem agB{kindOf:Str->Option bm}{x:Str} : ∀ {binds:List (Str×ac)} {m:Str->Ag},(∀ v,(x,v)∉binds)->bindL kindOf binds m x=m x
 | [],_,_=>rfl
 | (n,v)::r,m,h=>by
  unfold bindL;rw [agB fun w hw=>h w (G6 _ hw)]
  split
  .have:x≠n:=by rintro rfl;exact h v G3
   simp [this]
  .rfl
theorem agC{kindOf:Str->Option bm}{x:Str} : ∀ {binds:List (Str×ac)} {m:Str->Ag},(∀ v,(x,v)∉binds)->bindC kindOf binds m x=m x
 | [],_,_=>rfl
 | (n,v)::r,m,h=>by
  unfold bindC;rw [agC fun w hw=>h w (G6 _ hw)]
  split
  .rfl
  .have:x≠n:=by rintro rfl;exact h v G3
   simp [this]
theorem agD{kindOf:Str->Option bm}{x:Str}{v:ac} : ∀ {P:Ab} {vs:Ae} {i:Nat} {m:Str->Ag},P.Nodup->P[i]?=some x->vs[i]?=some v->kindOf x=some .local->
  bindL kindOf (P.zip vs) m x=some v
 | [],_,_,_,_,h,_,_=>by simp at h
 | _::_,[],_,_,_,_,h,_=>by simp at h
 | p::P,w::vs,0,m,nd,h1,h2,hk=>by
  simp at h1 h2;subst h1;subst h2;show bindL kindOf ((p,w)::P.zip vs) m p=_;unfold bindL;rw [agB fun v hv=>(T6.mp nd).1 (List.of_mem_zip hv).1,if_pos hk]
  simp
 | p::P,w::vs,i+1,m,nd,h1,h2,hk=>by
  show bindL kindOf ((p,w)::P.zip vs) m x=_;unfold bindL;exact agD (i:=i) (T6.mp nd).2 (by simpa using h1) (by simpa using h2) hk
theorem agE{kindOf:Str->Option bm}{x:Str}{v:ac} : ∀ {P:Ab} {vs:Ae} {i:Nat} {m:Str->Ag},P.Nodup->P[i]?=some x->vs[i]?=some v->kindOf x≠some .local->
  bindC kindOf (P.zip vs) m x=some v
 | [],_,_,_,_,h,_,_=>by simp at h
 | _::_,[],_,_,_,_,h,_=>by simp at h
 | p::P,w::vs,0,m,nd,h1,h2,hk=>by
  simp at h1 h2;subst h1;subst h2;show bindC kindOf ((p,w)::P.zip vs) m p=_;unfold bindC;rw [agC fun v hv=>(T6.mp nd).1 (List.of_mem_zip hv).1,if_neg hk]
  simp
 | p::P,w::vs,i+1,m,nd,h1,h2,hk=>by
  show bindC kindOf ((p,w)::P.zip vs) m x=_;unfold bindC;exact agE (i:=i) (T6.mp nd).2 (by simpa using h1) (by simpa using h2) hk
noncomputable def start (N:Ab) (vs:Ao):St:=vs.map some++U4 (N.length-vs.length) none
noncomputable def cxOf (CX:Y2) (P:ax) (w:av) (K:aj) (mg:Str->Ag) (base:au) (N:Ab) (qual:Str) (scope:bj) (f:ab) (cd:ac) (A:ay) (outer:List Env) (s:ag) (H:Hp) (E:XK):Cx where
 prog:=P
 w:=w
 K:=K
 mg:=mg
 base:=base
 A:=A.deeper (envOfC qual scope s.heap.objs.size f cd)
 N:=N
 s₀:=s
 H₀:=H
 env:=envOfC qual scope s.heap.objs.size f cd
 outer:=outer
 stack:=envOfC qual scope s.heap.objs.size f cd::outer
 ex:=[]
 calm:=true
 fn:=fun _=>true
 pn:=[]
 xe:=fun e s'=>wpAny (model P w) (A.deeper (envOfC qual scope s.heap.objs.size f cd)) (leaving (envOfC qual scope s.heap.objs.size f cd) e) (fun _ s''=>CX outer H s E e s'') (fun e' s''=>CX outer H s E e' s'') s'
theorem aiA{sc:bj}{n:Nat}{x:Str}(h:sc.names.lookup x=some .cell):∃ c,(cellsFrom n sc.names []).lookup x=some c:=by
 have q:=PySem.W.cellsFrom_some sc.names n [] (.inl h);exact Option.isSome_iff_exists.mp q
theorem akp{CX:Y2}{P:ax}{w:av}{K:aj}{mg:Str->Ag}{base:au}{N ps:Ab}{qual:Str}{scope:bj}{f:ab}{cd:ac}{A:ay}{outer:List Env}{s s1:ag}{H:Hp}{E:XK}{us:Ae}{vs:Ao}(S:FnScope N ps scope)(hd:A.handled=none)(e0:Env0 P w K mg base A outer s H)(hl:vs.length=ps.length)(r:Vals vs us)(x:InCallC s s.heap.objs.size (bindL (envOfC qual scope s.heap.objs.size f cd).kindOf (ps.zip us) fun _=>none) (cellsFrom (s.heap.objs.size+1) scope.names []) (bindC (envOfC qual scope s.heap.objs.size f cd).kindOf (ps.zip us) fun _=>none) s1) :
  Inv (cxOf CX P w K mg base N qual scope f cd A outer s H E) [] (start N vs) H s1:=by
 have g4:ps.length<=N.length:=by have:=congrArg X8 S.pre;rw [G9] at this;lia
 obtain ⟨h1,tk,rfl,hk⟩:=x.done;have noA:∀ b:ab,b∉(cxOf CX P w K mg base N qual scope f cd A outer s H E).ex:=fun b z=>absurd (show b∈([]:Ai) from z) (by simp)
 refine ⟨⟨e0.mod,S.kind,rfl,rfl,C1 _,fun y z c h1 h2=>?_,fun y hy=>?_,fun y c _ h=>?_,fun _=>hd,ay.frames_deeper e0.frames,.inr ⟨rfl,rfl⟩,fun b z=>absurd z (noA b),e0.bs,e0.bsz,fun b _ _=>noA b,fun b z=>absurd z (noA b),e0.funs,e0.frf⟩,
  rfl,e0.bare,Un.kept hk,⟨_,x.toInCall.ns,fun i y v h1 h2 h3=>?_⟩,fun y c h=>⟨_,x.cell y c h⟩,e0.hok.fresh (C1 _),fun y c h=>?_,fun p hp=>absurd (show p∈([]:Ad) from hp) (by simp),e0.hok.kept hk,?_⟩
 .exact name_of_addr x.apart (PySem.mem_of_lookup h1) (PySem.mem_of_lookup h2)
 .have hy:scope.names.lookup y=some .cell\/scope.names.lookup y=some .free:=hy
  rcases hy with hy | hy
  .exact aiA hy
  .exact absurd rfl (S.nofree _ (PySem.mem_of_lookup hy))
 .exact cI (x.above y c (PySem.mem_of_lookup h))
 .have hi:i<vs.length:=by
   unfold start at h2
   by_cases hi:i<vs.length
   .exact hi
   .rw [o8 (by simpa using hi)] at h2;rw [List.getElem?_replicate] at h2
    split at h2 <;> cases h2
  have ha:vs[i]?=some v:=by
   unfold start at h2;rw [aT (by simpa using hi),U3] at h2;cases e:vs[i]? with
   | none=>rw [e] at h2;cases h2
   | some a=>rw [e] at h2;cases h2;rfl
  obtain ⟨u,hu,rv⟩:=r.get ha;have hp:ps[i]?=some y:=by
   rw [<- S.pre,List.getElem?_take_of_lt (by lia)];exact h1
  have ndP:ps.Nodup:=by rw [<- S.pre];exact S.nd.sublist (List.take_sublist _ _)
  refine ⟨u,rv,?_⟩
  rcases S.par y (K2 hp) with k | k
  .exact .inl ⟨k,agD ndP hp hu k⟩
  .obtain ⟨c,e⟩:=aiA (n:=s.heap.objs.size+1) k;refine .inr ⟨.inl k,c,e,?_⟩;have q:=x.cell y c e;rw [agE ndP hp hu (by show scope.names.lookup y≠_;rw [k];decide)] at q;exact q
 .exact e0.hok.fresh (cI (x.above y c (PySem.mem_of_lookup h)))
 .unfold start;show _=N.length;rw [C6,A3,kF];lia
theorem fn_of{CX:Y2}{P:ax}{w:av}{K:aj}{mg:Str->Ag}{base:au}{k:Nat}{f:ab}{name qual:Str}{params:Arguments}{body:List aq}{scope:bj}{dV kV doc pm cdv ct oc:ac}{an od:Ah}{osl:Af}{N ps:Ab}{sp:Sp}(lk:K.lookup f=some ⟨oc,od,.func (X9 name qual params body scope dV kV doc pm an cdv ct),osl⟩)(g3:p9 K cdv qual=true)(S:FnScope N ps scope)(len:∀ vs H Q E,sp vs H Q E->vs.length=ps.length)(v4:∀ (A:ay) (outer:List Env) (s:ag) (H:Hp) (vs:Ao) (Q:VK) (E:XK),Room k (A.deeper (envOfC qual scope s.heap.objs.size f cdv))->sp vs H Q E->
   ∃ t,Z6 (cxOf CX P w K mg base N qual scope f cdv A outer s H E) body t/\t { nx:=fun _ H'=>Q .non H',rt:=Q } (start N vs) H) :
  FnOk P w K mg base CX (k+1) f (X9 name qual params body scope dV kV doc pm an cdv ct) ps sp:=by
 refine ⟨len,fun A outer s H args us vs Q E hr e0 hb r g6=>?_⟩;have hl:=len _ _ _ _ g6;have KX:K.In s.heap:=e0.mod.kin.keeps fun b o e=>(e0.bs b o e).1
 have lim:s.heap.NoLimit:=e0.mod.nolimit.keeps fun b o e=>(e0.bs b o e).1
 have mH:∀ y∈ps.zip us,scope.names.lookup y.1=some .local\/(scope.names.lookup y.1=some .cell/\((cellsFrom (s.heap.objs.size+1) scope.names []).lookup y.1).isSome=true):=fun ⟨n,v⟩ hy=>by
  rcases S.par n (List.of_mem_zip hy).1 with q | q
  .exact .inl q
  .exact .inr ⟨q,PySem.W.cellsFrom_some _ _ _ (.inl q)⟩
 refine codeAny_call_function hr.depth (KX _ _ lk) rfl S.co S.gen rfl (PySem.W.codeRec_of KX g3) (hb _ _ _ _ ?_);refine wpAny_newFunctionEnv_cells S.kind mH fun env he s1 x=>?_
 subst he;refine ⟨lim.keeps x.toInCall.keep,codeAny_func ?_⟩;obtain ⟨t,ht,hq⟩:=v4 A outer s H vs Q E (hr.deeper _) g6;have I:Inv (cxOf CX P w K mg base N qual scope f cdv A outer s H E) [] (start N vs) H s1:=akp S hr.hd e0 hl r x;refine bt (ht [] s1 (start N vs) H _ I hq) (fun fl s' hs=>?_) fun e s' hs=>hs
 have fin:∀ {σ':St} {H':Hp} {v:V} {u:ac},Inv (cxOf CX P w K mg base N qual scope f cdv A outer s H E) [] σ' H' s'->RelV v u->Q v H'->CE outer P w H s Q u s':=
  fun {σ' H' v u} J rv q=>⟨v,H',J.os,J.bare,J.base,J.hok,rv,q⟩
 cases fl with
 | ret u=>
  obtain ⟨v,σ',H',J,rv,q⟩:=hs;exact fin J rv q
 | next=>
  obtain ⟨σ',H',J,q⟩:=hs;exact fin (v:=V.non) (u:=ac.none) J rfl q
 | brk=>
  obtain ⟨_,_,_,q⟩:=hs;exact False.elim q
 | cont=>
  obtain ⟨_,_,_,q⟩:=hs;exact False.elim q
end L2
section
variable {C a b dx f fa it r sl:PySem.Addr}{dvs vs xs:List L2.V}{Q:L2.VK}{cd ct dc oc pm u v vl vu:PySem.Value}{c ck i j k m n t' x1:Nat}{items items2:Array PySem.Value}{fr ns:Am}{its us:List PySem.Value}{A:PySem.Around}{s zw:PySem.Shared}{v' y:L2.V}{Z m0 m1 name p q qual x z:PySem.Str}{aa:List (PySem.Addr×PySem.Obj)}{Y:L2.St}{H H' H0 H1 H2 H3 zt:L2.Hp}{h h':PySem.Heap}{L M N N' S acc bad g g' ks line loose ps ts ys zs:List PySem.Str}{K:aj}{mg:PySem.Str->Option PySem.Value}{fd:PySem.FuncData}{sp:L2.Sp}{X:L2.Cx}{kvs:List (L2.B1×L2.V)}{prog:PySem.Program}{E:PySem.Value->PySem.Shared->Prop}{ixs pre:An}{e elt iter target tg:PySem.Expr}{elts es ifs:List PySem.Expr}{tc td te tl to tx ty:L2.TE}{fp rs:List PySem.Addr}{apos cpos kpos pos' spos tpos:PySem.Pos}{calm fg neg:Bool}{st:PySem.Stmt}{an od:Option PySem.Addr}{tb:L2.TS}{D:L2.Ends}{lo sh:Int}{o:PySem.Obj}{ta:L2.TA}{ss:Array (Option PySem.Value)}
namespace L2
open PySem PySem.Spec PyProof.Rows
section
variable {X:Cx} {x:Str} {p pos:aw} {e:ao} {es:Aj} {t:TA} {id T:String} {r:Ao->Hp->VK->Prop}
noncomputable def cP (r:Ao->Hp->VK->Prop) (t:TA):TE:=fun Y H Q=>t Y H fun vs H1=>r vs H1 Q
theorem aml(hc:CallR X (.builtin id) r)(hg:Gl X x)(hm:X.mg x=none)(hv:bn x=some (.builtin id))(ha:PA X (e::es) t)(hn:x≠"__name__":=by decide)(Q9:(x==("__debug__" : Str))=false:=by decide)(he:bf (e::es) X.env=(false,eval e X.env)::bf es X.env:=by rfl)(g4:(backTo pos (bf es X.env)).any (·.1)=false:=by rfl):PE X (.Call (.Name x p) (e::es) [] pos) (cP r t):=by
 intro aa s Y H Q I h;refine wpAny_Call_Name_kw (aB I hg hm hv ?_ hn Q9);exact PyProof.Rows.callWith_builtin1 (thnA (ha pos aa s Y H _ I h) fun us s1 vs H1 I1 r1 q1=>hc aa s1 Y H1 vs us Q I1 r1 q1) he g4
theorem akq(hc:CallR X (.type T) r)(hg:Gl X x)(hm:X.mg x=none)(hv:bn x=some (.type T))(ha:PA X (e::es) t)(hn:x≠"__name__":=by decide)(Q9:(x==("__debug__" : Str))=false:=by decide)(he:bf (e::es) X.env=(false,eval e X.env)::bf es X.env:=by rfl)(g4:(backTo pos (bf es X.env)).any (·.1)=false:=by rfl):PE X (.Call (.Name x p) (e::es) [] pos) (cP r t):=by
 intro aa s Y H Q I h;refine wpAny_Call_Name_kw (aB I hg hm hv ?_ hn Q9);exact PyProof.Rows.callWith_type1 (thnA (ha pos aa s Y H _ I h) fun us s1 vs H1 I1 r1 q1=>hc aa s1 Y H1 vs us Q I1 r1 q1) he g4
end
end L2
namespace HT
open PySem PyProof.Rows
section
open PySem.SeqAt
open PySem.AutoSeq1 (wpAny_loadPart')
open PySem.MeetsSeq PySem.MeetsSeq2 PySem.MeetsSeq3
end
section
variable {prog:ax} {w:av} {A:ay} {E:Ac} {s:ag}
theorem cat_tup{t:ab}{vs ws:Ae}{Q:Ac}(ht:IsTup s.heap t vs.toArray)(hb:IsTup s.heap b ws.toArray)(hv:vs≠[])(h1:ws=[]->Q (.ref t) s)(h2:ws≠[]->Q (.ref s.heap.objs.size) { s with heap:=s.heap.push { cls:=.type "tuple",data:=.seq (vs++ws).toArray } })(hsz:vs.length+ws.length<=ak):wpAny (model prog w) A (bo .Add (.ref t) (.ref b)) Q E s:=by
 obtain ⟨⟨cls,dd,data,sl⟩,ho,hc,n,hd⟩:=id ht;obtain ⟨⟨cls2,k8,data2,f6⟩,g7,Y8,n2,T4⟩:=id hb;simp only at hc hd Y8 T4;subst hc hd Y8 T4;have e:vs.toArray++ws.toArray=(vs++ws).toArray:=by simp
 by_cases hw:ws=[]
 .exact concat_meets ⟨_,ho,rfl⟩ ⟨_,g7,rfl⟩ noFill_tuple_add seq_tuple_add PySem.F.slot_tuple_add PySem.F.entry_tuple_add (PySem.F.args_tuple_add_2 _ _)
   (tuple_addW1 t b vs.toArray ws.toArray n n2 dd k8 sl f6 (by simpa using hv) (by simp [hw])) ⟨ho,g7,h1 hw⟩
 .refine concat_meets ⟨_,ho,rfl⟩ ⟨_,g7,rfl⟩ noFill_tuple_add seq_tuple_add PySem.F.slot_tuple_add PySem.F.entry_tuple_add (PySem.F.args_tuple_add_2 _ _)
   (tuple_addW2 t b vs.toArray ws.toArray n n2 dd k8 sl f6 (by simpa using hv) (by simpa using hw) (by rw [L4,L4];exact hsz)) ⟨ho,g7,?_⟩
  rw [e];exact h2 hw
noncomputable def sIx (n d:Nat):Option Int->Nat
 | none=>d
 | some v=>if v<0 then (v+(n:Int)).toNat else min v.toNat n
theorem sIx_nat(n d k:Nat):sIx n d (some (k:Int))=min k n:=by
 show (if (k:Int)<0 then ((k:Int)+(n:Int)).toNat else min (k:Int).toNat n)=min k n;rw [if_neg (by lia),Int.toNat_natCast]
theorem sIx_le(n d:Nat)(hd:d<=n)(o:Option Int):sIx n d o<=n:=by
 cases o with
 | none=>exact hd
 | some v=>
  show (if v<0 then (v+(n:Int)).toNat else min v.toNat n)<=n
  by_cases hv:v<0
  .rw [if_pos hv];lia
  .rw [if_neg hv];exact Nat.min_le_right _ _
theorem clip_eq(v:Int)(n d:Nat):(if v<0 then max (v+(n:Int)) 0 else min v (n:Int))=((sIx n d (some v):Nat):Int):=by
 show (if v<0 then max (v+(n:Int)) 0 else min v (n:Int))=(((if v<0 then (v+(n:Int)).toNat else min v.toNat n):Nat):Int)
 by_cases hv:v<0
 .simp only [if_pos hv];lia
 .simp only [if_neg hv];lia
theorem ajn(lo hi:Option Int)(n:Nat):Builtin.Slice.sliceAdjust lo hi 1 (n:Int)=(((sIx n 0 lo:Nat):Int),((sIx n n hi:Nat):Int)):=by
 have h1:¬ ((1:Int)<0):=by lia
 unfold Builtin.Slice.sliceAdjust;simp only [h1,if_false];refine Prod.ext ?_ ?_
 .cases lo with
  | none=>rfl
  | some v=>exact clip_eq v n 0
 .cases hi with
  | none=>rfl
  | some v=>exact clip_eq v n n
theorem ajo(i j:Nat):Builtin.Slice.slicePlaces (i:Int) (j:Int) 1=j-i:=by
 unfold Builtin.Slice.slicePlaces;have h1:(1:Int) > 0:=by lia
 simp only [h1,if_true,Int.ediv_one]
 split <;> lia
theorem afs{o:Option Int}{Q:Option Int->ag->Prop}(p:IsPart v o)(h:Q o s):wpAny (model prog w) A (Builtin.Slice.slicePartIndex v) Q E s:=by
 cases p with
 | none=>exact slicePart_none h
 | int i t=>exact slicePart_int h
theorem sliceApplied_gen{lo hi:Option Int}{Q:Int×Int×Nat->ag->Prop}(hs:s.heap.IsSliceOf sl vl vu .none)(pl:IsPart vl lo)(pu:IsPart vu hi)(h:Q (((sIx n 0 lo:Nat):Int),1,sIx n n hi-sIx n 0 lo) s):wpAny (model prog w) A (Builtin.Slice.sliceApplied (.ref sl) (pure (n:Int))) Q E s:=by
 obtain ⟨os,fS,qQ,mI⟩:=id hs;unfold Builtin.Slice.sliceApplied Builtin.Slice.sliceFields;refine ar (ar (wpAny_field fS mI (x:=vl) rfl (ar (wpAny_field fS mI (x:=vu) rfl (ar (wpAny_field fS mI (x:=.none) rfl (bb ?_)))))));refine ar (slicePart_none ?_);show wpAny _ _ (if ((1:Int)==0)=true then _ else _) _ _ s;rw [if_neg (by decide)];refine ar (afs pl (ar (afs pu (ar (bb ?_)))));show wpAny _ _ (match Builtin.Slice.sliceAdjust lo hi 1 (n:Int) with | (lo,hi)=>pure (lo,(1:Int),Builtin.Slice.slicePlaces lo hi 1)) _ _ s;rw [ajn lo hi n];show wpAny _ _ (pure (((sIx n 0 lo:Nat):Int),(1:Int),Builtin.Slice.slicePlaces ((sIx n 0 lo:Nat):Int) ((sIx n n hi:Nat):Int) 1)) _ _ s;rw [ajo];exact bb h
theorem amm(xs:Ak)(i k:Nat):((U5 k).filterMap fun (m:Nat)=>xs[((i:Int)+(m:Int)*1).toNat]?).toArray=((xs.toList.drop i).take k).toArray:=by
 have e:(fun (m:Nat)=>xs[((i:Int)+(m:Int)*1).toNat]?)=fun m=>xs[i+m]?:=by
  funext m
  have:((i:Int)+(m:Int)*1).toNat=i+m:=by lia
  rw [this]
 rw [e]
 have:=pick_run xs i k
 rw [List.filterMap_map] at this;have e2:((fun x=>xs[x]?)∘fun x=>i+x)=fun m=>xs[i+m]?:=rfl
 rw [e2] at this;rw [this]
theorem getItem_tuple_cut{t:ab}{lo hi:Option Int}{Q:Ac}(ht:IsTup s.heap t items)(hs:s.heap.IsSliceOf sl vl vu .none)(pl:IsPart vl lo)(pu:IsPart vu hi)(hw:¬ (sIx items.size 0 lo=0/\sIx items.size items.size hi=items.size))(h:Q (.ref s.heap.objs.size) { s with heap:=s.heap.push { cls:=.type "tuple",data:=.seq ((items.toList.drop (sIx items.size 0 lo)).take (sIx items.size items.size hi-sIx items.size 0 lo)).toArray } })(hsz:items.size<=ak):wpAny (model prog w) A (getItem (.ref t) (.ref sl)) Q E s:=by
 have g8:sizeOk (.seq ((items.toList.drop (sIx items.size 0 lo)).take (sIx items.size items.size hi-sIx items.size 0 lo)).toArray):=by
  show ((items.toList.drop (sIx items.size 0 lo)).take (sIx items.size items.size hi-sIx items.size 0 lo)).toArray.size<=ak;rw [L4,G9,Z2,eP];lia
 have hj:sIx items.size items.size hi<=items.size:=sIx_le _ _ (C1 _) hi;obtain ⟨os,fS,qQ,mI⟩:=id hs;have hTs:s.TypeIs (.ref sl) "slice":=⟨os,fS,qQ⟩
 unfold getItem
 try with_reducible refine ce ?_
 first | refine ar (bb ?_) | skip
 refine ar (wpAny_sequenceKey ht.typeIs (by decide) ?_);refine ar (wpAny_callSpecial?_slot (name:=ai "__getitem__") ht.typeIs PyProof.Rows.slot_tuple_getitem
  (wpAny_call_entry PyProof.Rows.slot_tuple_getitem ht.typeIs entry_tuple_getitem ?_ (args_tuple_getitem _ _)))
 show wpAny _ _ (Builtin.Tuple.tupleItemsOf (.ref t) >>= _) _ _ s;refine ar (tupleItemsOf_ ht ?_);refine ar (cf hTs ?_);rw [if_pos (by decide)];refine ar (sliceApplied_gen hs pl pu ?_);have mJ:¬ ((((sIx items.size 0 lo:Nat):Int)==0&&(1:Int)==1&&(sIx items.size items.size hi-sIx items.size 0 lo)==items.size)=true):=by
  intro q;rw [V3,V3] at q;have q1:((sIx items.size 0 lo:Nat):Int)=0:=eq_of_beq q.1.1;have q2:sIx items.size items.size hi-sIx items.size 0 lo=items.size:=eq_of_beq q.2;exact hw ⟨by lia,by lia⟩
 show wpAny _ _ (if (((sIx items.size 0 lo:Nat):Int)==0&&(1:Int)==1&&(sIx items.size items.size hi-sIx items.size 0 lo)==items.size)=true then _ else _) _ _ s;rw [if_neg mJ,amm]
 first
  | exact ar (m:=Builtin.Tuple.tupleExact _) (wpAny_newObj_type (bb ⟨_,rfl,bb h⟩) g8)
  | exact ar (m:=Builtin.Tuple.tupleExact _) (wpAny_newObj_type (ar (bb (bb ⟨_,rfl,bb h⟩))) g8)
  | exact ar (ar (m:=Builtin.Tuple.tupleExact _) (wpAny_newObj_type (bb (bb ⟨_,rfl,bb h⟩)) g8))
  | exact ar (ar (m:=Builtin.Tuple.tupleExact _) (wpAny_newObj_type (bb ⟨_,rfl,bb h⟩) g8))
end
end HT
namespace L2
open PySem PySem.Spec PyProof.Rows
noncomputable abbrev TO:=St->Hp->(Option Int->Hp->Prop)->Prop
noncomputable def PO (X:Cx) (e:Option ao) (t:TO):Prop:=
 ∀ (aa:Ad) (s:ag) (Y:St) (H:Hp) (Q:Option Int->Hp->Prop),Inv X aa Y H s->t Y H Q->
  wpAny (model X.prog X.w) X.A (evalPart e X.env) (fun u s'=>∃ o H',Inv X aa Y H' s'/\IsPart u o/\Q o H') X.xe s
noncomputable def sV:TO:=fun _ H Q=>Q none H
noncomputable def tPart (t:TE):TO:=fun Y H Q=>t Y H fun x H1=>∃ i,x=.int i/\Q (some i) H1
theorem oU : ∀ {us:Ae},Vals (ns.map V.int) us->IntsAre us ns:=by
 induction ns with
 | nil=>intro us r;rw [j0] at r;cases r;exact .nil
 | cons n ns ih=>
  intro us r;rw [E2] at r
  cases r with
  | cons r1 r2=>
   obtain ⟨t,e⟩:=r1;subst e;exact .cons n t (ih r2)
section
variable {X:Cx} {e:ao} {te:TE} {lo hi:Option ao} {tl th:TO} {pos p2:aw}
theorem aos:PO X none sV:=by
 intro aa s Y H Q I h;rw [evalPart_none];exact bb ⟨none,H,I,.none,h⟩
theorem aot(h:PE X e te):PO X (some e) (tPart te):=by
 intro aa s Y H Q I hw;rw [evalPart_some];refine thnE (h aa s Y H _ I hw) fun u s1 x H1 I1 r1 q1=>?_
 obtain ⟨i,rfl,q⟩:=q1;obtain ⟨t,rfl⟩:=r1;exact ⟨some i,H1,I1,.int i t,q⟩
noncomputable def hW (X:Cx) (r:V->Option Int->Option Int->Hp->VK->Prop):Prop:=
 ∀ (aa:Ad) (s:ag) (Y:St) (H:Hp) (x:V) (v vl vu:ac) (lo hi:Option Int) (sl:ab) (Q:VK),Inv X aa Y H s->RelV x v->s.heap.IsSliceOf sl vl vu .none->IsPart vl lo->IsPart vu hi->r x lo hi H Q->
  ∃ T id,typeLookup (.type T) "__getitem__"=pure (some (.builtin id))/\s.TypeIs v T/\wpAny (model X.prog X.w) X.A (getItem v (.ref sl)) (EP X aa Y Q) X.xe s
noncomputable def sW (r:V->Option Int->Option Int->Hp->VK->Prop) (te:TE) (tl th:TO):TE:=fun Y H Q=>te Y H fun x H1=>tl Y H1 fun l H2=>th Y H2 fun u H3=>r x l u H3 Q
theorem amn{r:V->Option Int->Option Int->Hp->VK->Prop}(hr:hW X r)(he:PE X e te)(hl:PO X lo tl)(hu:PO X hi th):PE X (.Subscript e (.Slice lo hi none p2) pos) (sW r te tl th):=by
 intro aa s Y H Q I h;refine Subscript_ (thnE (he aa s Y H _ I h) fun v s1 x H1 I1 r1 q1=>?_);refine wpAny_Slice (M0 (hl aa s1 Y H1 _ I1 q1) fun vl s2 ⟨l,H2,I2,pl,q2⟩=>M0 (hu aa s2 Y H2 _ I2 q2) fun vu s3 zz=>?_);obtain ⟨u,H3,I3,pu,q3⟩:=zz;rw [evalPart_none];refine bb ?_;have I4:Inv X aa Y H3 { s3 with heap:=s3.heap.push { cls:=.type "slice",data:=.fields #[vl,vu,.none] } }:=I3.kept (t':=s3.toks) fun b ob q=>bg _ q
 obtain ⟨T,id,hT,ht,hg⟩:=hr aa { s3 with heap:=s3.heap.push { cls:=.type "slice",data:=.fields #[vl,vu,.none] } } Y H3 x v vl vu l u s3.heap.objs.size Q I4 r1 (au.IsSliceOf.new ..) pl pu q3;show wpAny (model X.prog X.w) X.A (subscriptTail e (.Slice lo hi none p2) v (.ref s3.heap.objs.size)) (EP X aa Y Q) X.xe { s3 with heap:=s3.heap.push { cls:=.type "slice",data:=.fields #[vl,vu,.none] } };exact tail_any (ops:=[.ref s3.heap.objs.size,v]) ht hT hg (by with_unfolding_all rfl)
noncomputable def cutV (xs:Ao) (lo hi:Option Int):Ao:=(xs.drop (HT.sIx xs.length 0 lo)).take (HT.sIx xs.length xs.length hi-HT.sIx xs.length 0 lo)
theorem aew(xs:Ao)(lo hi:Option Int):(cutV xs lo hi).length<=xs.length:=by
 unfold cutV;rw [G9,Z2];lia
noncomputable def rSlT (K:aj):V->Option Int->Option Int->Hp->VK->Prop:=fun x lo hi H Q=>∃ a xs,x=.ref a/\C7 K H a xs/\
 ¬ (HT.sIx xs.length 0 lo=0/\HT.sIx xs.length xs.length hi=xs.length)/\∀ p,H p=none->Q (.ref p) (A0 H p (.tup (cutV xs lo hi)))
theorem arb:hW X (rSlT X.K):=by
 intro aa s Y H x v vl vu lo hi sl Q I rx hs pl pu h;obtain ⟨a,xs,rfl,hx,hw,q⟩:=h
 cases rx
 obtain ⟨its,r,ht,hz⟩:=I.tuple hx;have A9:its.toArray.size=xs.length:=by rw [L4];exact r.length.symm
 refine ⟨"tuple",_,PyProof.Rows.slot_tuple_getitem.lookup,ht.typeIs,?_⟩;refine HT.getItem_tuple_cut ht hs pl pu (by rw [A9];exact hw) ?_ (by rw [A9];exact hz);rw [A9];refine ⟨.ref s.heap.objs.size,_,I.laid (t':=s.toks) (o:=.tup (cutV xs lo hi)) (fun b ob q=>bg _ q) (C1 _) ?_,rfl,q _ (I.hok.fresh (C1 _))⟩;exact ⟨K9 (aew xs lo hi) hz,_,(r.drop (HT.sIx xs.length 0 lo)).take (HT.sIx xs.length xs.length hi-HT.sIx xs.length 0 lo),IsTup.new _ _⟩
noncomputable def rCatT (K:aj):R2:=fun x y H Q=>∃ a b xs ys,x=.ref a/\y=.ref b/\C7 K H a xs/\C7 K H b ys/\xs≠[]/\xs.length+ys.length<=ak/\
 (ys=[]->Q (.ref a) H)/\(ys≠[]->∀ p,H p=none->Q (.ref p) (A0 H p (.tup (xs++ys))))
theorem Vals.nil_iff(r:Vals xs us):us=[]↔xs=[]:=by
 cases r with
 | nil=>simp
 | cons _ _=>simp
theorem aou:K3 X (bo .Add) (rCatT X.K):=by
 intro aa s Y H x y v u Q I rx ry h;obtain ⟨a,b,xs,ys,rfl,rfl,ha,hb,hx,hz,q1,q2⟩:=h
 cases rx
 cases ry
 obtain ⟨its,r1,p1,_⟩:=I.tuple ha;obtain ⟨its2,r2,p2,_⟩:=I.tuple hb;refine HT.cat_tup p1 p2 (fun z=>hx (r1.nil_iff.mp z)) (fun z=>⟨.ref a,H,I,rfl,q1 (r2.nil_iff.mp z)⟩) (fun z=>?_) (by rw [<- r1.length,<- r2.length];exact hz);refine ⟨.ref s.heap.objs.size,_,I.laid (t':=s.toks) (o:=.tup (xs++ys)) (fun b ob q=>bg _ q) (C1 _) ?_,rfl,q2 (fun w=>z (r2.nil_iff.mpr w)) _ (I.hok.fresh (C1 _))⟩;exact ⟨by rw [C6];exact hz,_,r1.append r2,IsTup.new _ _⟩
end
end L2
namespace L2
open PySem PySem.Spec PyProof.Rows
noncomputable def j6 (n:Nat) (i:Int):Option Nat:=if 0<=i then (if i<n then some i.toNat else none) else if -(n:Int)<=i then some (i+n).toNat else none
noncomputable def K6 {α:Type} (xs:List α) (i:Int):Option α:=(j6 xs.length i).bind fun j=>xs[j]?
theorem aov{i:Int}(h:j6 n i=some j):seqIndex? i n=some j/\j<n/\-(n:Int)<=i/\i<n:=by
 unfold j6 at h
 by_cases h0:0<=i
 .rw [if_pos h0] at h
  by_cases h1:i<n
  .rw [if_pos h1] at h;have e:i.toNat=j:=bh h;exact ⟨by rw [seqIndex_of h0 h1,e],by lia,by lia,h1⟩
  .rw [if_neg h1] at h;cases h
 .rw [if_neg h0] at h
  by_cases h1:-(n:Int)<=i
  .rw [if_pos h1] at h;have e:(i+n).toNat=j:=bh h;exact ⟨by rw [seqIndex_neg (by lia) h1,e],by lia,h1,by lia⟩
  .rw [if_neg h1] at h;cases h
theorem sX{α:Type}{xs:List α}{i:Int}{v:α}(h:K6 xs i=some v):∃ j,seqIndex? i xs.length=some j/\xs[j]?=some v/\j<xs.length/\-(xs.length:Int)<=i/\i<xs.length:=by
 unfold K6 at h;cases e:j6 xs.length i with
 | none=>rw [e] at h;cases h
 | some j=>
  rw [e] at h;obtain ⟨h1,h2,h3,h4⟩:=aov e;exact ⟨j,h1,h,h2,h3,h4⟩
theorem M6{α:Type}{xs:List α}{v:α}(h:xs[j]?=some v):K6 xs (j:Int)=some v:=by
 have hj:j<xs.length:=(F8.mp h).1;have e:j6 xs.length (j:Int)=some j:=by
  unfold j6;rw [if_pos (by lia),if_pos (by lia)];simp
 unfold K6;rw [e];exact h
theorem sY{α:Type}(xs:List α)(v:α):K6 (xs++[v]) (-1)=some v:=by
 have hl:(xs++[v]).length=xs.length+1:=by simp
 have e:j6 (xs++[v]).length (-1)=some xs.length:=by
  unfold j6;rw [hl,if_neg (by decide),if_pos (by lia)]
  congr 1
  lia
 unfold K6;rw [e];show (xs++[v])[xs.length]?=some v
 simp
noncomputable def akr (b:ao):Prop:=∀ o i,subscripted b false o i=operate [o,i] (getItem o i)
noncomputable def bE (X:Cx) (r:R2):Prop:=
 ∀ (value slice:ao) (aa:Ad) (s:ag) (Y:St) (H:Hp) (x y:V) (v u:ac) (Q:VK),Inv X aa Y H s->RelV x v->RelV y u->r x y H Q->
  subscripted slice false v u=operate [v,u] (getItem v u)->wpAny (model X.prog X.w) X.A (subscriptTail value slice v u) (EP X aa Y Q) X.xe s
noncomputable def oV (X:Cx) (id:String) (r:V->Ao->Hp->VK->Prop):Prop:=
 ∀ (aa:Ad) (s:ag) (Y:St) (H:Hp) (x:V) (xs:Ao) (v:ac) (us:Ae) (Q:VK),Inv X aa Y H s->RelV x v->Vals xs us->r x xs H Q->
  wpAny (model X.prog X.w) X.A (call (.builtin id) (v::us)) (EP X aa Y Q) X.xe s
section
variable {X:Cx} {a b:ao} {ta tb:TE} {pos:aw}
theorem bE.or{r r':R2}(h:bE X r)(h':bE X r'):bE X (fun x y H Q=>r x y H Q\/r' x y H Q):=by
 intro value slice aa s Y H x y v u Q I rx ry q hs
 rcases q with q | q
 .exact h value slice aa s Y H x y v u Q I rx ry q hs
 .exact h' value slice aa s Y H x y v u Q I rx ry q hs
theorem pe_ix{r:R2}(hr:bE X r)(ha:PE X a ta)(hb:PE X b tb)(hs:akr b):PE X (.Subscript a b pos) (j5 r ta tb):=by
 intro aa s Y H Q I h;exact Subscript_ (binT ha hb I h fun v u s2 x y H2 I2 rx ry q=>hr a b aa s2 Y H2 x y v u Q I2 rx ry q (hs _ _))
noncomputable def rIxL (K:aj):R2:=fun x y H Q=>∃ p xs i v,x=.ref p/\y=.int i/\D9 K H p xs/\K6 xs i=some v/\Q v H
noncomputable def rIxT (K:aj):R2:=fun x y H Q=>∃ p xs i v,x=.ref p/\y=.int i/\C7 K H p xs/\K6 xs i=some v/\Q v H
noncomputable def rIxS:R2:=fun x y H Q=>∃ z i c,x=.str z/\y=.int i/\z.length<=ak/\K6 z.cps.toList i=some c/\Q (.str ⟨#[c]⟩) H
theorem ix_list:bE X (rIxL X.K):=by
 intro value slice aa s Y H x y v u Q I rx ry h hs;obtain ⟨p,xs,i,z,rfl,rfl,hq,he,q⟩:=h
 cases rx
 obtain ⟨t,rfl⟩:=ry;obtain ⟨its,r,pl,hz⟩:=I.list hq;obtain ⟨j,h1,h2,h3,h4,h5⟩:=sX he;obtain ⟨w,ew,rw'⟩:=r.get h2;have hl:=r.length;have hn:=kU;have fin:EP X aa Y Q w s:=⟨z,H,I,rw',q⟩
 by_cases h0:0<=i
 .have hj:i.toNat=j:=by
   rw [seqIndex_of h0 h5] at h1;exact bh h1
  exact item_listR pl.isList h0 (by lia) (by rw [hj];simpa using ew) fin hs
 .have hj:(i+(its.toArray.size:Int)).toNat=j:=by
   rw [seqIndex_neg (by lia) h4] at h1;rw [L4,<- hl];exact bh h1
  exact subscriptTail_builtinR (x:=w) pl.isList.typeIs slot_list_getitem.lookup
   (wpAny_getItem_list_neg (Q:=fun r s'=>r=w/\EP X aa Y Q r s') pl.isList (by lia) (by rw [L4] <;> lia) (by lia) (by rw [hj];simpa using ew) ⟨rfl,fin⟩) hs
theorem ix_tup:bE X (rIxT X.K):=by
 intro value slice aa s Y H x y v u Q I rx ry h hs;obtain ⟨p,xs,i,z,rfl,rfl,hq,he,q⟩:=h
 cases rx
 obtain ⟨t,rfl⟩:=ry;obtain ⟨its,r,pl,hz⟩:=I.tuple hq;obtain ⟨j,h1,h2,h3,h4,h5⟩:=sX he;obtain ⟨w,ew,rw'⟩:=r.get h2;have hl:=r.length;have hn:=kU;have fin:EP X aa Y Q w s:=⟨z,H,I,rw',q⟩
 exact subscriptTail_builtinR (x:=w) pl.typeIs slot_tuple_getitem.lookup
  (getItem_tuple (j:=j) (Q:=fun r s'=>r=w/\EP X aa Y Q r s') pl (by lia) (by lia) (by rw [L4,<- hl];exact h1) (by simpa using ew) ⟨rfl,fin⟩) hs
theorem arc:bE X rIxS:=by
 intro value slice aa s Y H x y v u Q I rx ry h hs;obtain ⟨z,i,c,rfl,rfl,hz,he,q⟩:=h;obtain ⟨t,rfl⟩:=rx;obtain ⟨t',rfl⟩:=ry;obtain ⟨j,h1,h2,h3,h4,h5⟩:=sX he;have hl:z.cps.toList.length=z.length:=by simp [Str.length]
 rw [hl] at h1 h4 h5;have hn:=kU;exact tail_any (typeIs_str s z t) slot_str_getitem.lookup (getItem_str (c:=c) (by
  have e1:decide (i < -(2 ^ 63:Int))=false:=decide_eq_false (by lia);have e2:decide (i≥2 ^ 63)=false:=decide_eq_false (by lia);rw [e1,e2,Bool.or_false]) (by rw [h1];simpa using h2) ⟨.str ⟨#[c]⟩,H,I.tok _,⟨_,rfl⟩,q⟩) hs
noncomputable def hX (K:aj):R2:=fun x y H Q=>rIxL K x y H Q\/rIxT K x y H Q\/rIxS x y H Q
theorem ard:bE X (hX X.K):=ix_list.or (ix_tup.or arc)
noncomputable def rSetL:V->V->V->Hp->(Hp->Prop)->Prop:=fun o i v H Q=>∃ p xs k j,o=.ref p/\i=.int k/\H p=some (.lst xs)/\j6 xs.length k=some j/\Q (A0 H p (.lst (xs.set j v)))
theorem agF(lo hi:Option Int)(n:Nat):(sliceBounds lo hi none n).1=((HT.sIx n 0 lo:Nat):Int)/\(sliceBounds lo hi none n).2.1=((HT.sIx n n hi:Nat):Int)/\(sliceBounds lo hi none n).2.2=1:=by
 refine ⟨?_,?_,rfl⟩
 .cases lo with
  | none=>simp [sliceBounds,HT.sIx]
  | some i=>
   simp only [sliceBounds,HT.sIx,Option.getD_none,show (1:Int) > 0 by decide,if_true]
   by_cases h:i<0
   .simp only [h,if_true] <;> lia
   .simp only [h,if_false] <;> lia
 .cases hi with
  | none=>simp [sliceBounds,HT.sIx]
  | some i=>
   simp only [sliceBounds,HT.sIx,Option.getD_none,show (1:Int) > 0 by decide,if_true]
   by_cases h:i<0
   .simp only [h,if_true] <;> lia
   .simp only [h,if_false] <;> lia
theorem af8(its:Ae)(lo hi:Option Int):slicePick its.toArray lo hi none=((its.drop (HT.sIx its.length 0 lo)).take (HT.sIx its.length its.length hi-HT.sIx its.length 0 lo)).toArray:=by
 obtain ⟨h1,h2,h3⟩:=agF lo hi its.toArray.size;unfold slicePick;rw [h1,h2,h3];simp only [sliceRange_one,pick_run,L4] <;> rfl
noncomputable def rSlL (K:aj):V->Option Int->Option Int->Hp->VK->Prop:=fun x lo hi H Q=>∃ a xs,x=.ref a/\D9 K H a xs/\∀ p,H p=none->Q (.ref p) (A0 H p (.lst (cutV xs lo hi)))
theorem aow:hW X (rSlL X.K):=by
 intro aa s Y H x v vl vu lo hi sl Q I rx hs pl pu h;obtain ⟨a,xs,rfl,hx,q⟩:=h
 cases rx
 obtain ⟨its,r,ht,hz⟩:=I.list hx;have A9:=r.length;refine ⟨"list",_,slot_list_getitem.lookup,ht.isList.typeIs,?_⟩;refine wpAny_getItem_list_slice ht.isList hs pl pu .none (by simp) ?_ (by rw [L4] <;> lia);rw [af8,<- A9];refine ⟨.ref s.heap.objs.size,_,I.laid (t':=s.toks) (o:=.lst (cutV xs lo hi)) (fun b ob q=>bg _ q) (C1 _) ?_,rfl,q _ (I.hok.fresh (C1 _))⟩;exact ⟨K9 (aew xs lo hi) hz,_,0,(r.drop (HT.sIx xs.length 0 lo)).take (HT.sIx xs.length xs.length hi-HT.sIx xs.length 0 lo),br _ rfl⟩
noncomputable def flatV:V->Bool
 | .non=>true
 | .bl _=>true
 | .int _=>true
 | .str _=>true
 | _=>false
noncomputable def cQ:V->V->Bool
 | .non,.non=>true
 | .bl a,.bl b=>a==b
 | .bl a,.int b=>(if a then 1 else 0)==b
 | .int a,.bl b=>a==(if b then 1 else 0)
 | .int a,.int b=>a==b
 | .str a,.str b=>a==b
 | _,_=>false
theorem are{x:V}(ry:RelV y u)(rx:RelV x v)(fy:flatV y=true)(fx:flatV x=true):SeqAt.EqAt A s u v (cQ y x):=by
 cases y with
 | non=>
  cases ry
  cases x with
  | non=>cases rx;exact SeqAt.EqAt.same _
  | bl b=>cases rx;exact SeqAt.EqAt.none_bool b
  | int b=>obtain ⟨t,rfl⟩:=rx;exact SeqAt.EqAt.none_int b t
  | str b=>obtain ⟨t,rfl⟩:=rx;exact SeqAt.EqAt.none_str b t
  | _=>exact absurd (show false=true from fx) L9
 | bl a=>
  cases ry
  cases x with
  | non=>cases rx;exact SeqAt.EqAt.bool_none a
  | bl b=>cases rx;exact SeqAt.EqAt.bool_bool a b
  | int b=>obtain ⟨t,rfl⟩:=rx;exact SeqAt.EqAt.bool_int a b t
  | str b=>obtain ⟨t,rfl⟩:=rx;exact SeqAt.EqAt.bool_str a b t
  | _=>exact absurd (show false=true from fx) L9
 | int a=>
  obtain ⟨t',rfl⟩:=ry
  cases x with
  | non=>cases rx;exact SeqAt.EqAt.int_none a t'
  | bl b=>cases rx;exact SeqAt.EqAt.int_bool a t' b
  | int b=>obtain ⟨t,rfl⟩:=rx;exact SeqAt.EqAt.int_int a t' b t
  | str b=>obtain ⟨t,rfl⟩:=rx;exact SeqAt.EqAt.int_str a t' b t
  | _=>exact absurd (show false=true from fx) L9
 | str a=>
  obtain ⟨t',rfl⟩:=ry
  cases x with
  | non=>cases rx;exact SeqAt.EqAt.str_none a t'
  | bl b=>cases rx;exact SeqAt.EqAt.str_bool a t' b
  | int b=>obtain ⟨t,rfl⟩:=rx;exact SeqAt.EqAt.str_int a t' b t
  | str b=>obtain ⟨t,rfl⟩:=rx;exact SeqAt.EqAt.str_str a t' b t
  | _=>exact absurd (show false=true from fx) L9
 | _=>exact absurd (show false=true from fy) L9
noncomputable def Z7 (x:V) (u:ac):Bool:=match u with
 | .none=>cQ .non x
 | .bool b=>cQ (.bl b) x
 | .int i _=>cQ (.int i) x
 | .str z _=>cQ (.str z) x
 | _=>false
theorem anC{x:V}(r:RelV y u)(f:flatV y=true):Z7 x u=cQ y x:=by
 cases y with
 | non=>cases r;rfl
 | bl b=>cases r;rfl
 | int i=>obtain ⟨t,rfl⟩:=r;rfl
 | str z=>obtain ⟨t,rfl⟩:=r;rfl
 | _=>exact absurd (show false=true from f) L9
theorem kW{x:V} : ∀ {xs:Ao} {us:Ae},Vals xs us->xs.all flatV=true->us.any (Z7 x)=xs.any fun y=>cQ y x
 | _,_,.nil,_=>rfl
 | y::xs,u::us,.cons r t,f=>by
  rw [List.all_cons,V3] at f;rw [aZ,aZ,anC r f.1,kW t f.2]
theorem kX{x:V}(rx:RelV x v)(fx:flatV x=true):∀ {xs:Ao} {us:Ae},Vals xs us->xs.all flatV=true->∀ u∈us,SeqAt.EqAt A s u v (Z7 x u)
 | _,_,.nil,_=>fun u hu=>by cases hu
 | y::xs,u::us,.cons r t,f=>fun u' hu=>by
  rw [List.all_cons,V3] at f
  rcases D8.mp hu with rfl | hu
  .rw [anC r f.1];exact are r rx f.1 fx
  .exact kX rx fx t f.2 u' hu
noncomputable def aE (x:V) (xs:Ao):Bool:=xs.any fun y=>cQ y x
noncomputable def sZ (K:aj) (neg:Bool):R2:=fun x y H Q=>∃ p xs,y=.ref p/\(D9 K H p xs\/C7 K H p xs)/\flatV x=true/\xs.all flatV=true/\Q (.bl (if neg then !aE x xs else aE x xs)) H
theorem aks:K3 X (bc .In) (sZ X.K false):=by
 intro aa s Y H x y v u Q I rx ry h;obtain ⟨p,xs,rfl,hq,fx,fs,q⟩:=h
 cases ry
 rcases hq with hq | hq
 .obtain ⟨its,r,pl,hz⟩:=I.list hq;refine SeqAt.in_listAt (Z7 x) pl.isList (fun w hw=>kX rx fx r fs w (by simpa using hw)) ⟨.bl _,H,I,rfl,?_⟩;rw [show its.toArray.any (Z7 x)=its.any (Z7 x) by simp,kW r fs];exact q
 .obtain ⟨its,r,pl,hz⟩:=I.tuple hq;refine SeqAt.in_tupleAt (Z7 x) pl (fun w hw=>kX rx fx r fs w (by simpa using hw)) ⟨.bl _,H,I,rfl,?_⟩;rw [show its.toArray.any (Z7 x)=its.any (Z7 x) by simp,kW r fs];exact q
theorem agG:K3 X (bc .NotIn) (sZ X.K true):=by
 intro aa s Y H x y v u Q I rx ry h;obtain ⟨p,xs,rfl,hq,fx,fs,q⟩:=h
 cases ry
 rcases hq with hq | hq
 .obtain ⟨its,r,pl,hz⟩:=I.list hq;refine SeqAt.notIn_listAt (Z7 x) pl.isList (fun w hw=>kX rx fx r fs w (by simpa using hw)) ⟨.bl _,H,I,rfl,?_⟩;rw [show its.toArray.any (Z7 x)=its.any (Z7 x) by simp,kW r fs];exact q
 .obtain ⟨its,r,pl,hz⟩:=I.tuple hq;refine SeqAt.notIn_tupleAt (Z7 x) pl (fun w hw=>kX rx fx r fs w (by simpa using hw)) ⟨.bl _,H,I,rfl,?_⟩;rw [show its.toArray.any (Z7 x)=its.any (Z7 x) by simp,kW r fs];exact q
theorem agH:K3 X (bc .NotIn) (fun x y H Q=>∃ i j,x=.str i/\y=.str j/\Q (.bl (!(!(Builtin.Str.occurrences j i 0 j.length 1).isEmpty))) H):=by
 intro aa s Y H x y v u Q I rx ry h;obtain ⟨i,j,rfl,rfl,q⟩:=h;obtain ⟨t,rfl⟩:=rx;obtain ⟨t',rfl⟩:=ry;exact notIn_str ⟨.bl _,H,I,rfl,q⟩
theorem agI:CallR X (.type "list") (fun xs H Q=>∃ p ys,xs=[.ref p]/\(D9 X.K H p ys\/C7 X.K H p ys)/\∀ l,H l=none->Q (.ref l) (A0 H l (.lst ys))):=by
 intro aa s Y H xs us Q I r h;obtain ⟨p,ys,rfl,hq,q⟩:=h;obtain ⟨u,rfl,rx⟩:=vals1 r
 cases rx
 have fin:∀ (its:Ae),Vals ys its->ys.length<=ak->∀ (h':au) (c':Nat),(∀ b o',s.heap.get? b=some o'->h'.get? b=some o')->
   h'.get? s.heap.objs.size=some { cls:=.type "list",dict:=none,data:=.seq its.toArray c',slots:=#[] }->EP X aa Y Q (.ref s.heap.objs.size) { s with heap:=h' }:=fun its r' hz h' c' kp e=>
  ⟨.ref s.heap.objs.size,_,I.laid (t':=s.toks) kp (C1 _) (show ObjOk X.prog X.w _ h' _ (.lst ys) from ⟨hz,its,c',r',e⟩),rfl,q _ (I.hok.fresh (C1 _))⟩
 rcases hq with hq | hq
 .obtain ⟨its,r',pl,hz⟩:=I.list hq;have A9:=r'.length;obtain ⟨o,ho,hc,n,hd⟩:=pl.isList;exact call_list_seq p (.inl rfl) ho hc hd (fun h' c' kp e=>fin its r' hz h' c' kp e) (by simp only [L4] <;> lia)
 .obtain ⟨its,r',pl,hz⟩:=I.tuple hq;have A9:=r'.length;obtain ⟨o,ho,hc,n,hd⟩:=pl;exact call_list_seq p (.inr rfl) ho hc hd (fun h' c' kp e=>fin its r' hz h' c' kp e) (by simp only [L4] <;> lia)
theorem af9:CallR X (.type "tuple") (fun xs H Q=>∃ p ys,xs=[.ref p]/\((D9 X.K H p ys/\∀ l,H l=none->Q (.ref l) (A0 H l (.tup ys)))\/(C7 X.K H p ys/\Q (.ref p) H))):=by
 intro aa s Y H xs us Q I r h;obtain ⟨p,ys,rfl,h⟩:=h;obtain ⟨u,rfl,rx⟩:=vals1 r
 cases rx
 rcases h with ⟨hq,q⟩ | ⟨hq,q⟩
 .obtain ⟨its,r',pl,hz⟩:=I.list hq;have A9:=r'.length;refine call_tuple_list pl.isList (fun h' kp=>?_) (by simp only [L4] <;> lia);have I1:Inv X aa Y H { s with heap:=h' }:=I.kept (t':=s.toks) kp;have I2:Inv X aa Y (A0 H h'.objs.size (.tup ys)) { s with heap:=h'.push { cls:=.type "tuple",data:=.seq its.toArray } }:=
   I1.laid (t':=s.toks) (fun b o e=>bg _ e) (C1 _) (show ObjOk X.prog X.w _ _ _ (.tup ys) from ⟨hz,its,r',IsTup.new _ _⟩)
  exact ⟨.ref h'.objs.size,_,I2,rfl,q _ (I1.hok.fresh (C1 _))⟩
 .obtain ⟨its,r',pl,hz⟩:=I.tuple hq;exact call_tuple_same pl ⟨.ref p,H,I,rfl,q⟩
noncomputable def bF (K:aj) (T:String) (x:V) (H:Hp):Prop:=match x with
 | .str _=>T="str"
 | .int _=>T="int"
 | .ref p=>(T="list"/\∃ xs,D9 K H p xs)\/(T="tuple"/\∃ o,K.lookup p=some o/\o.cls=.type "tuple"/\o.dict=none)\/
   (T="dict"/\((∃ kvs,H p=some (.dK kvs))\/∃ kvs,H p=some (.dT kvs)))\/(T="set"/\∃ S n,H p=some (.set S n))
 | _=>False
theorem anD{T:String}{x:V}(I:Inv X aa Y H s)(r:RelV x v)(ty:bF X.K T x H) :
  s.TypeIs v T/\∀ a,v=.ref a->∃ ob,s.heap.get? a=some ob/\ob.dict=none:=by
 cases x with
 | str z=>
  obtain ⟨t,rfl⟩:=r
  cases (show T="str" from ty)
  exact ⟨typeIs_str s z t,fun _ e=>nomatch e⟩
 | int i=>
  obtain ⟨t,rfl⟩:=r
  cases (show T="int" from ty)
  exact ⟨typeIs_int s i t,fun _ e=>nomatch e⟩
 | ref p=>
  cases r
  rcases ty with ⟨rfl,xs,hq⟩ | ⟨rfl,o,hk,hc,hd⟩ | ⟨rfl,hk⟩ | ⟨rfl,S,n,hk⟩
  .obtain ⟨its,_,pl,_⟩:=I.list hq;refine ⟨pl.isList.typeIs,fun a e=>?_⟩;cases e;obtain ⟨o,n,e,c,hd,_⟩:=pl;exact ⟨o,e,hd⟩
  .refine ⟨⟨o,I.kIn p o hk,hc⟩,fun a e=>?_⟩;cases e;exact ⟨o,I.kIn _ o hk,hd⟩
  .have z:∃ o,s.heap.get? p=some o/\o.ExactDict:=by
    rcases hk with ⟨kvs,hk⟩ | ⟨kvs,hk⟩
    .obtain ⟨_,_,_,_,o,_,_,e,ex,_⟩:=I.hok p _ hk;exact ⟨o,e,ex⟩
    .obtain ⟨_,_,_,_,o,_,_,e,ex,_⟩:=I.hok p _ hk;exact ⟨o,e,ex⟩
   obtain ⟨o,e,ex⟩:=z;refine ⟨⟨o,e,ex.1⟩,fun a e2=>?_⟩;cases e2;exact ⟨o,e,ex.2.1⟩
  .obtain ⟨o,_,_,_,e,ex,_⟩:=I.hok p _ hk;refine ⟨⟨o,e,ex.1⟩,fun a e2=>?_⟩;cases e2;exact ⟨o,e,ex.2.1⟩
 | _=>exact False.elim ty
noncomputable def tBM0 (K:aj) (T:String) (r:V->Ao->Hp->VK->Prop) (to:TE):TE:=fun Y H Q=>to Y H fun x H1=>bF K T x H1/\r x [] H1 Q
noncomputable def iA (K:aj) (T:String) (r:V->Ao->Hp->VK->Prop) (to:TE) (t:TA):TE:=fun Y H Q=>to Y H fun x H1=>bF K T x H1/\t Y H1 fun xs H2=>r x xs H2 Q
variable {o e:ao} {es:Aj} {to:TE} {t:TA} {name:Str} {apos cpos:aw} {T id:String} {r:V->Ao->Hp->VK->Prop}
theorem arf(pa:PlainAttrs T)(slot:Slot T name id)(X1:typeOf (.builtin id)=pure (.type "method_descriptor"))(hm:oV X id r)(ho:PE X o to)(G1:bu o name X.env (eval o X.env)=eval o X.env:=by rfl)(G2:(apos.endLine==cpos.line)=true:=by rfl):PE X (.Call (.Attribute o name apos) [] [] cpos) (tBM0 X.K T r to):=by
 intro aa s Y H Q I h;refine wpAny_Call_method0_late G1 G2 (thnE (ho aa s Y H _ I h) fun v s1 x H1 I1 r1 ⟨ty,q1⟩=>?_);obtain ⟨h1,h2⟩:=anD I1 r1 ty;exact ⟨T,id,pa,slot,X1,h1,h2,Calls.callWith_builtin rfl (PySem.evalArgs_none (hm aa s1 Y H1 x [] v [] Q I1 r1 .nil q1))⟩
theorem pe_bm(pa:PlainAttrs T)(slot:Slot T name id)(X1:typeOf (.builtin id)=pure (.type "method_descriptor"))(hm:oV X id r)(ho:PE X o to)(ha:PA X (e::es) t)(G1:bu o name X.env (eval o X.env)=eval o X.env:=by rfl)(xW:((backTo cpos (bf (e::es) X.env)).all (fun x=>!x.1)&&(backToKw cpos (bz [] X.env)).all (fun x=>x.1.isSome)
   && decide ((e::es).length+([]:List Keyword).length+(if ([]:List Keyword).isEmpty then 0 else 1)<30))=true:=by rfl)(G2:(apos.endLine==cpos.line)=true:=by rfl)(hs:bf (e::es) X.env=(false,eval e X.env)::bf es X.env:=by rfl)(hplain:(backTo cpos (bf es X.env)).any (·.1)=false:=by rfl) :
  PE X (.Call (.Attribute o name apos) (e::es) [] cpos) (iA X.K T r to t):=by
 intro aa s Y H Q I h;refine wpAny_Call_method_late G1 xW G2 rfl (thnE (ho aa s Y H _ I h) fun v s1 x H1 I1 r1 ⟨ty,q1⟩=>?_);obtain ⟨h1,h2⟩:=anD I1 r1 ty;refine ⟨T,id,pa,slot,X1,h1,h2,?_⟩;have hA:=ha cpos aa s1 Y H1 _ I1 q1;rw [hs] at hA ⊢
 refine Calls.callWith_builtin (by show (false || (backTo cpos (bf es X.env)).any (·.1))=false;rw [hplain] <;> rfl) (Calls.evalArgs_plain ?_);exact M0 hA fun us s2 ⟨vs,H2,I2,r2,q2⟩=>hm aa s2 Y H2 x vs v us Q I2 r1 r2 q2
end
end L2
namespace L2
open PySem PySem.Spec PyProof.Rows
noncomputable def iB (X:Cx) (id:String) (r:V->Ao->Hp->VK->Prop):Prop:=
 ∀ (aa:Ad) (s:ag) (Y:St) (H:Hp) (x:V) (xs:Ao) (v:ac) (us:Ae) (Q:VK),Inv X aa Y H s->RelV x v->Vals xs us->r x xs H Q->
  wpAny (model X.prog X.w) X.A (call (.builtin id) (v::us)) (EP X aa Y Q) X.xe s
theorem Vals.one:∀ {x:V} {us:Ae},Vals [x] us->∃ u,us=[u]/\RelV x u
 | _,_,.cons r .nil=>⟨_,rfl,r⟩
theorem Vals.two:∀ {x y:V} {us:Ae},Vals [x,y] us->∃ u v,us=[u,v]/\RelV x u/\RelV y v
 | _,_,_,.cons r (.cons q .nil)=>⟨_,_,rfl,r,q⟩
theorem Vals.zero:∀ {us:Ae},Vals [] us->us=[]
 | _,.nil=>rfl
theorem Vals.eraseIdx:∀ {xs:Ao} {us:Ae} (i:Nat),Vals xs us->Vals (xs.eraseIdx i) (us.eraseIdx i)
 | _,_,_,.nil=>.nil
 | _,_,0,.cons _ t=>t
 | _,_,i+1,.cons r t=>.cons r (Vals.eraseIdx i t)
theorem Vals.reverse(h:Vals xs us):Vals xs.reverse us.reverse:=by
 induction h with
 | nil=>exact .nil
 | cons r t ih=>rw [gR,gR];exact Vals.append ih (.cons r .nil)
theorem Vals.rep(h:Vals xs us):∀ k:Nat,Vals (U4 k xs).flatten (U4 k us).flatten
 | 0=>.nil
 | k+1=>by
  rw [gP,gP,p6,p6];exact Vals.append h (Vals.rep h k)
theorem agJ{α:Type} : ∀ (l:List α) (i:Nat),(l.eraseIdx i).length<=l.length
 | [],_=>C1 _
 | _::_,0=>Nat.le_succ _
 | _::r,i+1=>Nat.succ_le_succ (agJ r i)
theorem agK(its:Ae):∀ (k:Nat) (acc:Ae),
  List.foldl (fun x1 x2=>x1++x2) acc.toArray (U4 k its.toArray)=(acc++(U4 k its).flatten).toArray
 | 0,acc=>by simp
 | k+1,acc=>by
  have e:acc.toArray++its.toArray=(acc++its).toArray:=by simp
  have e2:(acc++its)++(U4 k its).flatten=acc++(U4 (k+1) its).flatten:=by
   rw [gP,p6,R8]
  rw [<- e2,<- agK its k (acc++its),<- e,gP,y9]
section
variable {X:Cx} {aa:Ad} {Y:St} {H:Hp} {s:ag} {l b:ab} {xs ys zs:Ao}
theorem Inv.lset{its':Ae}{f:Ak->Ak}(I:Inv X aa Y H s)(hH:H l=some (.lst xs))(e:s.heap.get? l=some { cls:=.type "list",data:=.seq its.toArray n })(hf:f its.toArray=its'.toArray)(hv:Vals ys its')(hz:ys.length<=ak) :
  Inv X aa Y (A0 H l (.lst ys)) { s with heap:=s.heap.update l (Obj.mapSeq f),toks:=t' }:=by
 have q:=PySem.IsL.update e f;rw [hf] at q;refine I.write (x:=l) (e:=l) (by rw [hH];exact trivial) (.inl rfl) (fun b' u hb hu=>(au.get?_update_other s.heap (Obj.mapSeq f) (Ne.symm hb)).trans hu) ⟨_,q⟩ ?_;exact ⟨hz,its',_,hv,q⟩
theorem Inv.lnew(I:Inv X aa Y H s)(hv:Vals ys its)(hz:ys.length<=ak) :
  Inv X aa Y (A0 H s.heap.objs.size (.lst ys)) { s with heap:=s.heap.push { cls:=.type "list",data:=.seq its.toArray },toks:=t' }:=
 I.laid (fun _ _ q=>bg _ q) (C1 _) ⟨hz,its,0,hv,br _ rfl⟩
theorem Inv.fresh(I:Inv X aa Y H s):H s.heap.objs.size=none:=I.hok.fresh (C1 _)
theorem Inv.lstM(I:Inv X aa Y H s)(hH:H l=some (.lst xs)):xs.length<=ak/\∃ (its:Ae) (n:Nat),Vals xs its/\xs.length=its.length/\s.heap.get? l=some { cls:=.type "list",data:=.seq its.toArray n }:=by
 obtain ⟨z,its,n,r,e⟩:=I.hok l _ hH;exact ⟨z,its,n,r,r.length,e⟩
theorem aiB(h:n<=ak):Builtin.List.listTooLong n=false:=by
 unfold Builtin.List.listTooLong;exact decide_eq_false (by lia)
end
section
variable {X:Cx}
noncomputable def cR:V->Ao->Hp->VK->Prop:=fun x vs H Q=>∃ l xs y,x=.ref l/\vs=[y]/\H l=some (.lst xs)/\xs.length<ak/\Q .non (A0 H l (.lst (xs++[y])))
theorem agL:iB X "list.append" cR:=by
 intro aa s Y H x vs v us Q I rx rv h;obtain ⟨l,xs,y,rfl,rfl,hH,hz,q⟩:=h
 cases rx
 obtain ⟨u,rfl,ru⟩:=rv.one;obtain ⟨z,its,n,r,hl,e⟩:=I.lstM hH;refine call_meets F.slot_list_append ⟨_,e,rfl⟩ F.entry_list_append (F.args_list_append_2 _ _) (PySem.list_append l its.toArray n u (by rw [L4];lia)) ⟨e,?_⟩;refine ⟨.non,_,I.lset (its':=its++[u]) hH e (by simp) (r.append (.cons ru .nil)) ?_,rfl,q⟩;rw [C6,V2];lia
noncomputable def arh:V->Ao->Hp->VK->Prop:=fun x vs H Q=>∃ l xs i k y,x=.ref l/\vs=[.int i]/\H l=some (.lst xs)/\-(2 ^ 63)<=i/\i<2 ^ 63/\seqIndex? i xs.length=some k/\xs[k]?=some y/\Q y (A0 H l (.lst (xs.eraseIdx k)))
theorem amo:iB X "list.pop" arh:=by
 intro aa s Y H x vs v us Q I rx rv h;obtain ⟨l,xs,i,k,y,rfl,rfl,hH,h1,h2,hk,hy,q⟩:=h
 cases rx
 obtain ⟨u,rfl,ru⟩:=rv.one;obtain ⟨t,rfl⟩:=ru;obtain ⟨z,its,n,r,hl,e⟩:=I.lstM hH;obtain ⟨w,hw,rw'⟩:=r.get hy;refine call_meets F.slot_list_pop ⟨_,e,rfl⟩ F.entry_list_pop (F.args_list_pop_2 _ _)
  (MeetsSeq.list_pop_at l its.toArray n i t k w (fitsIndex_both h1 h2) (by rw [L4,<- hl];exact hk) (by rw [<- Array.getElem?_toList];exact hw) (by rw [L4];lia)) ⟨e,?_⟩
 refine ⟨y,_,I.lset (its':=its.eraseIdx k) hH e ?_ (r.eraseIdx k) ?_,rw',q⟩
 .show its.toArray.eraseIdxIfInBounds k=(its.eraseIdx k).toArray;rw [List.eraseIdxIfInBounds_toArray]
 .have:=agJ xs k
  lia
noncomputable def tD:V->Ao->Hp->VK->Prop:=fun x vs H Q=>∃ l xs,x=.ref l/\vs=[]/\H l=some (.lst xs)/\Q .non (A0 H l (.lst xs.reverse))
theorem ajp:iB X "list.reverse" tD:=by
 intro aa s Y H x vs v us Q I rx rv h;obtain ⟨l,xs,rfl,rfl,hH,q⟩:=h
 cases rx
 have hus:=rv.zero;subst hus;obtain ⟨z,its,n,r,hl,e⟩:=I.lstM hH;refine call_meets F.slot_list_reverse ⟨_,e,rfl⟩ F.entry_list_reverse (F.args_list_reverse_1 _) (AutoSeq1.list_reverse_list_0 l its.toArray n (by rw [L4];lia)) ⟨e,?_⟩;refine ⟨.non,_,I.lset (its':=its.reverse) hH e (by simp) r.reverse ?_,rfl,q⟩;rw [List.length_reverse];lia
noncomputable def rCat:R2:=fun x y H Q=>∃ l b xs zs,x=.ref l/\y=.ref b/\H l=some (.lst xs)/\H b=some (.lst zs)/\xs.length+zs.length<=ak/\∀ p,H p=none->Q (.ref p) (A0 H p (.lst (xs++zs)))
theorem ari:K3 X (bo .Add) rCat:=by
 intro aa s Y H x y v u Q I rx ry h;obtain ⟨l,b,xs,zs,rfl,rfl,hH,hB,hz,q⟩:=h
 cases rx
 cases ry
 obtain ⟨z,its,n,r,hl,e⟩:=I.lstM hH;obtain ⟨z2,its2,n2,r2,W1,e2⟩:=I.lstM hB;refine PySem.P.add_list e e2 ?_ (by rw [L4,L4];lia);have ea:its.toArray++its2.toArray=(its++its2).toArray:=by simp
 rw [ea];exact ⟨.ref _,_,I.lnew (t':=s.toks) (r.append r2) (by rw [C6];lia),rfl,q _ I.fresh⟩
noncomputable def rRep:R2:=fun x y H Q=>∃ l k xs,x=.ref l/\y=.int k/\H l=some (.lst xs)/\-(2 ^ 63)<=k/\k<2 ^ 63/\xs.length*k.toNat<=ak/\
 ∀ p,H p=none->Q (.ref p) (A0 H p (.lst (U4 k.toNat xs).flatten))
theorem aox{α:Type}(xs:List α)(k:Nat):(U4 k xs).flatten.length=k*xs.length:=by
 induction k with
 | zero=>simp
 | succ k ih=>rw [gP,p6,C6,ih,Nat.succ_mul,Nat.add_comm]
theorem arj:K3 X (bo .Mult) rRep:=by
 intro aa s Y H x y v u Q I rx ry h;obtain ⟨l,k,xs,rfl,rfl,hH,h1,h2,hz,q⟩:=h
 cases rx
 obtain ⟨t,rfl⟩:=ry;obtain ⟨z,its,n,r,hl,e⟩:=I.lstM hH;have A9:its.toArray.size*k.toNat<=ak:=by rw [L4,<- hl];exact hz
 have xX:¬ its.toArray.size*k.toNat > (2 ^ 63-1) / 8:=by
  have:(ak:Nat)<=(2 ^ 63-1) / 8:=by decide
  lia
 have xY:¬ (!Builtin.List.listFitsIndex k)=true:=by
  rw [fitsIndex_both h1 h2];exact L9
 have v6:¬ Builtin.List.listTooLong (its.toArray.size*k.toNat)=true:=by
  rw [aiB A9];exact L9
 have U0:List.foldl (fun x1 x2=>x1++x2) #[] (U4 (if its.toArray.isEmpty=true then 0 else k.toNat) its.toArray)=(U4 k.toNat its).flatten.toArray:=by
  have f0:∀ m:Nat,List.foldl (fun x1 x2=>x1++x2) #[] (U4 m its.toArray)=(U4 m its).flatten.toArray:=fun m=>by
   have:=agK its m []
   rw [aY] at this;exact this
  rw [f0]
  cases its with
  | nil=>simp
  | cons a r'=>rw [if_neg (by simp)]
 refine wpAny_binaryOp_repeat_ref (T:="list") (U:="int") (by decide) ⟨_,e,rfl⟩ (fun s'=>typeIs_int s' k t) noFill_list_mul F.fills_int_mul F.slot_int_rmul repeat_list F.slot_int_index.lookup
  (call_meets F.slot_int_rmul (typeIs_int s k t) F.entry_int_rmul (F.args_int_rmul_2 _ _) (int___rmul___int_list k t l its.toArray n)
   ⟨e,rfl,⟨_,e,rfl⟩,call_meets F.slot_list_mul ⟨_,e,rfl⟩ F.entry_list_mul (F.args_list_mul_2 _ _) (AutoListH.list___mul___list_int_3 l its.toArray n k t xY xX v6) ⟨e,?_⟩⟩)
 rw [U0];exact ⟨.ref _,_,I.lnew (t':=s.toks) (r.rep k.toNat) (by rw [aox,Nat.mul_comm];exact hz),rfl,q _ I.fresh⟩
end
section
variable {prog:ax} {w:av} {A:ay} {E:Ac} {s:ag}
end
section
variable {X:Cx}
end
end L2
namespace Att
open PySem PySem.W PySem.Calls PyProof.Rows
theorem aey{P:Params} : ∀ (ns:Am) (vs:Ae),WellAll P h vs (ns.map WData.int)->IntsAre vs ns:=by
 intro ns
 induction ns with
 | nil=>
  intro vs w;rw [j0] at w
  cases w
  exact .nil
 | cons n ns ih=>
  intro vs w;rw [E2] at w
  cases w with
  | cons a b=>
   cases a
   exact .cons _ _ (ih _ b)
theorem akt{l:OpenLaw}(hn:l.most=some n){P:Params}{args:List WData}{vals:Ae}(bR:l.row.toRowW.claim.pre args=true)(jD:WellAll P h vals args) :
  ∃ a vs ns,vals=[ac.ref a]/\args=[WData.list (ns.map WData.int)]/\h.get? a=some { cls:=.type "list",data:=.seq vs.toArray }/\IntsAre vs ns/\ns.length<=n:=by
 have hsh:WShape.hasAll [] args [.list .int]=true:=(pre_splitW bR).1;have hc:l.pre.holds [] { args:=args }=true:=(pre_splitW bR).2;obtain ⟨d,r,rfl,h1,h2⟩:=hasAllW_cons hsh;obtain rfl:=hasAllW_nil h2;obtain ⟨xs,rfl,h3⟩:=hasW_list h1;obtain ⟨ns,rfl⟩:=items_int h3;have A9:ns.length<=n:=by
  unfold OpenLaw.pre at hc;have h4:(WTm.not (.lt (.lit (.int (n:Int))) (.len (.arg 0)))).holds [] { args:=[.list (ns.map .int)] }=true:=by
   have h4:=(holds_andW hc).1;rw [hn] at h4;exact h4
  have h5:=condW_of h4 (w_not (w_lt w_lit (w_len_list (w_arg rfl))));rw [A3] at h5;refine Nat.le_of_not_lt fun q=>?_
  have q':(n:Int)<((ns.length:Nat):Int):=by lia
  first
   | (rw [decide_eq_true q'] at h5;exact absurd h5 (by decide))
   | (simp at h5;lia)
 cases jD with
 | cons w1 w2=>
  cases w2
  cases w1 with
  | list ho k9=>exact ⟨_,_,ns,rfl,rfl,ho,aey ns _ k9,A9⟩
theorem aku(l:OpenLaw)(args:List WData):l.row.toRowW.claim.post args (.bool true) args=true:=
 postW_of (r:=l.row.toRowW) (X:=(true==true))
  (show WShape.has [] (.bool true) .bool=true by first | rfl | decide | simp [WShape.has,WShape.arms,WShape.armsAll])
  (show (WTm.eq .res (.lit (.bool true))).value [] { args:=args,res:=some (.bool true),after:=args }=some (.bool (true==true)) from w_eq_bool (w_res rfl) w_lit) rfl
theorem attach_call{l:OpenLaw}{q:ax}{XP:(Str->Ag)->au->Prop}{YP:av->au->Prop}{d:DefRec}(hn:l.most=some n)(aK:d.params.defaults=[])(call:∀ (w:av) (s₀ zu:ag) (mg mb:Str->Ag) (fa:ab) (o:Obj) (pm cd doc:ac) (a:ab) (vs:Ae) (ns:Am),
   Ground q loose [] XP w s₀ mg mb zu.heap->YP w zu.heap->
   zu.heap.get? fa=some o->o.data=.func (docDef d.name d.params d.body d.scope pm cd doc)->zu.heap.CodeRec cd d.name->mg d.name=some (.ref fa)->
   zu.heap.get? a=some { cls:=.type "list",data:=.seq vs.toArray }->IntsAre vs ns->ns.length<=n->zu.gens=#[]->
   bw (model l.prog w) callerA (.call (.ref fa) ⟨[.ref a],[]⟩) (fun r s'=>r=.ok (.ret (.bool true))/\OldK zu.heap s'.heap/\s'.os=zu.os/\AllBare s'.gens) zu) :
  WalkO q loose XP YP l.row.toRowW d [] (fun f vs=>PySem.call f vs):=by
 intro w s₀ zu mg mb G zy fa o pm cd doc dV kV ho hd g3 hD mK hg args vals as bR hlay hrd jD hlo;obtain rfl:dV=.none:=Dflts.none hD aK;obtain rfl:kV=.none:=Dflts.noKw hD;obtain ⟨a,vs,ns,rfl,rfl,fT,v7,A9⟩:=akt hn bR jD;refine enter_call (cb (call w s₀ zu mg mb fa o pm cd doc a vs ns G zy ho (fd_plain hd) g3 mK fT v7 A9 hg) fun r s' hq=>?_);obtain ⟨rfl,h2,h3,h4⟩:=hq;exact ⟨.inl ⟨.bool true,.bool true,[],rfl,fun _=>rfl,.bool true,aku l _,fun _=>⟨List.Pairwise.nil,fun _ hm=>(nomatch hm)⟩⟩,h2,h3,h4⟩
section
variable {prog:ax} {w:av} {A:ay} {E:Ac} {s:ag} {K:Frag}
end
end Att
namespace L2
open PySem PySem.Spec PyProof.Rows
theorem agM:∀ {vs:Ae} {ns:Am},IntsAre vs ns->Vals (ns.map V.int) vs
 | _,_,.nil=>.nil
 | _,_,.cons n t h=>.cons ⟨t,rfl⟩ (agM h)
noncomputable def Only (H:Hp):Prop:=∀ b,H b=none\/∃ o xs,H b=some (.frz o (.lst xs))
theorem amp{P:ax}{w:av}{mb:Str->Ag}{CX:Y2}{zu:ag}{vs:Ae}(KX:K.In zu.heap)(dE:zu.heap.Ns be mg)(hb:zu.heap.Ns builtinsNs mb)(hbb:∀ x:Str,x≠"__name__"->mb x=bn x)(xZ:zu.heap.NoLimit)(hg:zu.gens=#[])(ha:zu.heap.get? a=some { cls:=.type "list",data:=.seq vs.toArray })(hi:IntsAre vs ns)(hl:ns.length<=ak)(hr:Room k callerA)(F:∀ base:au,K.In base->base.Ns be mg->FnOk P w K mg base CX k fa fd [x] sp)(mL:∀ (s:ag) (u:ac),BindsTo s fd ⟨[u],[]⟩ [(x,u)])(g6:∀ H:Hp,Only H->D9 K H a (ns.map V.int)->sp [.ref a] H (fun v _=>v=.bl true) fun _ _ _=>False)(hCX:∀ H e s',CX [] H zu (fun _ _ _=>False) e s'->False) :
  bw (model P w) callerA (.call (.ref fa) ⟨[.ref a],[]⟩) (fun r s'=>r=.ok (.ret (.bool true))/\OldK zu.heap s'.heap/\s'.os=zu.os/\AllBare s'.gens) zu:=by
 have rv:=agM hi;have lenV:=hi.length;have core:∀ H:Hp,Only H->D9 K H a (ns.map V.int)->O1 P w H zu.heap->(∀ b,H b≠none->b=a)->(H a≠none->K.lookup a=none)->
   bw (model P w) callerA (.call (.ref fa) ⟨[.ref a],[]⟩) (fun r s'=>r=.ok (.ret (.bool true))/\OldK zu.heap s'.heap/\s'.os=zu.os/\AllBare s'.gens) zu:=by
  intro H hO hS hok hA hK;have base_of:∀ {b:ab} {o:Obj},zu.heap.get? b=some o->H b=none->(hidT zu.heap H).get? b=some o:=fun e n=>al7 e n
  have noA:∀ {b:ab} {o:Obj} {es:Array DictEntry} {ep:Nat},zu.heap.get? b=some o->o.data=.dict es ep->H b=none:=fun {b o es ep} e d=>by
   cases q:H b with
   | none=>rfl
   | some u=>
    have e':b=a:=hA b (by rw [q];simp);subst e';rw [ha] at e;cases e;have d':Data.seq vs.toArray _=Data.dict es ep:=d
    cases d'
  have nsK:∀ {b:ab} {m:Str->Ag},zu.heap.Ns b m->(hidT zu.heap H).Ns b m:=fun {b m} ⟨o,es,ep,e,d,r⟩=>⟨o,es,ep,base_of e (noA e d),d,r⟩
  have hKb:K.In (hidT zu.heap H):=fun b o e=>base_of (KX b o e) (by
   cases q:H b with
   | none=>rfl
   | some u=>
    have e':b=a:=hA b (by rw [q];simp);subst e';rw [hK (by rw [q];simp)] at e;cases e)
  have hM:Mod K mg (hidT zu.heap H):=⟨hKb,nsK dE,⟨mb,nsK hb,hbb⟩,let ⟨mc,h1,h2⟩:=xZ;⟨mc,nsK h1,h2⟩⟩
  have e0:Env0 P w K mg (hidT zu.heap H) callerA [] zu H:=⟨rfl,hM,fun b o e=>an5 e,Nat.le_of_eq (aj5 _ _),trivial,fun b hb=>absurd (show b∈([]:Ai) from hb) (by simp),hok,.of_eq hg⟩
  refine cb ((F _ hKb (nsK dE)).run callerA [] zu H ⟨[.ref a],[]⟩ [.ref a] [.ref a] _ _ hr e0 (mL zu (.ref a)) (.cons rfl .nil) (g6 H hO hS)) fun r s' h=>?_
  cases r with
  | error e=>exact (hCX H e s' h).elim
  | ok fl=>
   cases fl with
   | next=>exact False.elim h
   | brk=>exact False.elim h
   | cont=>exact False.elim h
   | ret u=>
    obtain ⟨v,H',os,bare,un,yA,r',q⟩:=h;have q':v=.bl true:=q;subst q';obtain rfl:u=ac.bool true:=r';refine ⟨rfl,OldK.of_keep fun b o e=>?_,os,bare⟩
    cases q:H b with
    | none=>exact un.keep b o e q (by intro z;exact absurd (show b∈([]:Ai) from z) (by simp)) (by simp)
    | some u=>
     rcases hO b with z | ⟨ob,xs,z⟩
     .rw [q] at z;cases z
     .have z2:=un.frzs b ob _ z;obtain ⟨e1,_⟩:=hok b _ z;obtain ⟨e2,_⟩:=yA b _ z2;rw [e] at e1;cases e1;exact e2
 cases hk:K.lookup a with
 | some o=>
  have e:=KX a o hk;rw [ha] at e;cases e;refine core (fun _=>none) (fun _=>.inl rfl) (.inr ⟨_,vs.toArray,_,hk,rfl,rfl,rfl,by rw [L4,lenV];exact hl,by simpa using rv⟩) (fun b u z=>by have z':(none:Option HO)=some u:=z;cases z') (fun b z=>absurd rfl z) fun z=>absurd rfl z
 | none=>
  refine core (fun b=>if b=a then some (.frz { cls:=.type "list",data:=.seq vs.toArray } (.lst (ns.map V.int))) else none) (fun b=>?_) (.inl (.inr ⟨{ cls:=.type "list",data:=.seq vs.toArray },if_pos rfl⟩)) (fun b u z=>?_) (fun b z=>?_) fun _=>hk
  .by_cases hb:b=a
   .exact .inr ⟨_,_,if_pos hb⟩
   .exact .inl (if_neg hb)
  .by_cases hb:b=a
   .have z':=(if_pos hb).symm.trans z
    cases z'
    subst hb;exact ⟨ha,by rw [A3];exact hl,vs,_,rv,ha⟩
   .have z':=(if_neg hb).symm.trans z
    cases z'
  .by_cases hb:b=a
   .exact hb
   .exact absurd (if_neg hb) z
end L2
namespace L2
open PySem PySem.Spec PyProof.Rows
theorem walk_of{l:PySem.W.OpenLaw}{q:ax}{XP:(Str->Ag)->au->Prop}{YP:av->au->Prop}{d:DefRec}{K:Params->aj}{CX:av->Y2}{sp:av->Sp}(hn:l.most=some n)(mG:n<=ak)(aK:d.params.defaults=[])(hr:Room k callerA)(hY:∀ (w:av) (h:au),YP w h->(K w.params).In h)(F:∀ (w:av) (mg:Str->Ag) (fa:ab) (h:au),(K w.params).In h->h.Ns be mg->mg d.name=some (.ref fa)->
   ∃ fd:bx,(∀ (s:ag) (u:ac),BindsTo s fd ⟨[u],[]⟩ [(x,u)])/\
    ∀ base:au,(K w.params).In base->base.Ns be mg->FnOk l.prog w (K w.params) mg base (CX w) k fa fd [x] (sp w))(g6:∀ (w:av) (H:Hp) (a:ab) (ns:Am),ns.length<=n->Only H->D9 (K w.params) H a (ns.map V.int)->sp w [.ref a] H (fun v _=>v=.bl true) fun _ _ _=>False)(hCX:∀ (w:av) (H:Hp) (s:ag) (e:ac) (s':ag),CX w [] H s (fun _ _ _=>False) e s'->False) :
  PySem.W.WalkO q loose XP YP l.row.toRowW d [] (fun f vs=>PySem.call f vs):=by
 refine Att.attach_call hn aK fun w s₀ zu mg mb fa o pm cd doc a vs ns G zy ho hd g3 mK fT v7 A9 hg=>?_
 have KX:=hY w _ zy;obtain ⟨fd,hb,hF⟩:=F w mg fa _ KX G.T.g mK;exact amp KX G.T.g G.T.b G.T.builtins G.T.nolimit hg fT v7 (K9 A9 mG) hr hF hb (fun H hO hS=>g6 w H a ns A9 hO hS) fun H e s'=>hCX w H zu e s'
end L2
namespace L2
open PySem PySem.Spec PyProof.Rows
noncomputable def j7 (s:aq) (j:Nat):aq:=match s with
 | .ClassDef _ _ _ body _ _ _ _ _ _ _=>body.getD j (.Pass ⟨0,0,0,0⟩)
 | _=>.Pass ⟨0,0,0,0⟩
noncomputable def f7 (s:aq):Arguments:=match s with
 | .FunctionDef _ a _ _ _ _ _ _ _ _=>a
 | _=>{ posonlyargs:=[],args:=[],vararg:=none,kwonlyargs:=[],kw_defaults:=[],kwarg:=none,defaults:=[] }
noncomputable def Z8 (s:aq):List aq:=match s with
 | .FunctionDef _ _ b _ _ _ _ _ _ _=>b
 | _=>[]
noncomputable def B5 (s:aq):bj:=match s with
 | .FunctionDef _ _ _ _ _ _ sc _ _ _=>sc
 | _=>{ kind:=.function,names:=[],isGenerator:=false,isCoroutine:=false }
noncomputable abbrev D1:Y2:=fun _ _ _ _ _ _=>False
noncomputable abbrev E0:XK:=fun _ _ _=>False
theorem pass0 : eR D1 X E0:=fun _ _ _ _ _ _ _ h=>h.elim
structure Fun(K:aj)(x qual:Str)(st:aq)(f:ab)(fd:bx):Prop where
 ex:∃ (oc:ac) (od:Ah) (kV doc pm:ac) (an:Ah) (cdv ct:ac) (osl:Af),
  fd=X9 x qual (f7 st) (Z8 st) (B5 st) .none kV doc pm an cdv ct/\K.lookup f=some ⟨oc,od,.func fd,osl⟩/\p9 K cdv qual=true
 kp:Z4 K (.ref f)=true
section
variable {P:ax} {w:av} {K:aj} {mg:Str->Ag} {base:au}
end
theorem hu_of(hr:Room k A):A.units+1<cLine:=Nat.lt_of_le_of_lt (Nat.add_le_add_left (by decide:1<=64) _) hr.units
section
variable {X:Cx}
end
theorem iteF{A B:Prop}(h:B):if false=true then A else B:=by
 rw [if_neg L9];exact h
theorem iteT{A B:Prop}(h:A):if true=true then A else B:=by
 rw [if_pos rfl];exact h
noncomputable def Same (H H':Hp):Prop:=∀ b o,H b=some o->H' b=some o
theorem Same.refl(H:Hp):Same H H:=fun _ _ h=>h
theorem Same.trans(a:Same H H1)(b:Same H1 H2):Same H H2:=fun c o h=>b c o (a c o h)
theorem Same.free(e:Same H H'){l:ab}(h:H' l=Option.none):H l=Option.none:=by
 cases q:H l with
 | none=>rfl
 | some o=>
  rw [e l o q] at h;cases h
theorem Same.seq(e:Same H H')(h:D9 K H a xs):D9 K H' a xs:=by
 rcases h with (h | ⟨o,h⟩) | h
 .exact .inl (.inl (e _ _ h))
 .exact .inl (.inr ⟨o,e _ _ h⟩)
 .exact .inr h
end L2
set_option maxRecDepth 100000
namespace L2
open PySem PySem.Spec PyProof.Rows
section
variable {κ:Type} [DecidableEq κ]
noncomputable def valV (kvs:List (κ×V)) (k:κ):Ap:=(kvs.find? fun kv=>decide (kv.1=k)).map (·.2)
noncomputable def putK (kvs:List (κ×V)) (k:κ) (v:V):List (κ×V):=
 if (kvs.any fun kv=>decide (kv.1=k))=true then kvs.map (fun kv=>if kv.1=k then (kv.1,v) else kv) else kvs++[(k,v)]
theorem oW{p:κ×V}{r:List (κ×V)}{k:κ}(e:p.1=k):valV (p::r) k=some p.2:=by simp [valV,z0,e]
theorem bG{p:κ×V}{r:List (κ×V)}{k:κ}(e:¬ p.1=k):valV (p::r) k=valV r k:=by simp [valV,z0,e]
theorem tE(k:κ):∀ kvs:List (κ×V),(kvs.any fun kv=>decide (kv.1=k))=(valV kvs k).isSome
 | []=>rfl
 | p::r=>by
  rw [aZ]
  by_cases e:p.1=k
  .simp only [oW e,decide_eq_true e,Bool.true_or,Option.isSome_some]
  .rw [bG e,decide_eq_false e,Bool.false_or];exact tE k r
theorem tF(kvs:List (κ×V))(k:κ)(v:V):(putK kvs k v).length<=kvs.length+1:=by
 unfold putK
 split
 .rw [A3];lia
 .rw [C6,E5,P9];lia
theorem amq{kvs:List (κ×V)}{k:κ}(v:V)(h:valV kvs k=none):putK kvs k v=kvs++[(k,v)]:=by
 unfold putK;rw [tE,h];exact if_neg (by decide)
theorem RelO.isSome_eq{o:Ap}{u:Ag}(r:RelO o u):o.isSome=u.isSome:=by
 cases o with
 | none=>cases u with
  | none=>rfl
  | some _=>exact (show False from r).elim
 | some _=>cases u with
  | none=>exact (show False from r).elim
  | some _=>rfl
theorem RelO.getD{o:Ap}{u:Ag}{d:V}{d':ac}(r:RelO o u)(rd:RelV d d'):RelV (o.getD d) (u.getD d'):=by
 cases o with
 | none=>cases u with
  | none=>exact rd
  | some _=>exact (show False from r).elim
 | some _=>cases u with
  | none=>exact (show False from r).elim
  | some _=>exact r
theorem KV.val{kvs:List (κ×V)}{vs:List (κ×ac)}(r:KV kvs vs)(k:κ):RelO (valV kvs k) (valueAt vs k):=by
 unfold KV at r
 induction r with
 | nil=>exact True.intro
 | @cons p q ps qs h t ih=>
  obtain ⟨h1,h2⟩:=h
  by_cases e:p.1=k
  .have e':q.1=k:=h1.symm.trans e;have b:valueAt (q::qs) k=some q.2:=by simp [valueAt,z0,e']
   rw [oW e,b];exact h2
  .have e':¬ q.1=k:=fun z=>e (h1.trans z)
   have b:valueAt (q::qs) k=valueAt qs k:=by simp [valueAt,z0,e']
   rw [bG e,b];exact ih
theorem KV.any{kvs:List (κ×V)}{vs:List (κ×ac)}(r:KV kvs vs)(k:κ):(kvs.any fun kv=>decide (kv.1=k))=vs.any fun kv=>decide (kv.1=k):=by
 unfold KV at r
 induction r with
 | nil=>rfl
 | cons h t ih=>rw [aZ,aZ,ih,h.1]
theorem KV.repl{kvs:List (κ×V)}{vs:List (κ×ac)}(r:KV kvs vs)(k:κ)(ry:RelV y u) :
  KV (kvs.map fun kv=>if kv.1=k then (kv.1,y) else kv) (vs.map fun kv=>if kv.1=k then (kv.1,u) else kv):=by
 unfold KV at r ⊢
 induction r with
 | nil=>exact .nil
 | @cons p q ps qs h t ih=>
  rw [E2,E2];refine .cons ?_ ih;obtain ⟨h1,h2⟩:=h
  by_cases e:p.1=k
  .rw [if_pos e,if_pos (h1.symm.trans e)];exact ⟨h1,ry⟩
  .rw [if_neg e,if_neg (fun z=>e (h1.trans z))];exact ⟨h1,h2⟩
theorem KV.put{kvs:List (κ×V)}{vs:List (κ×ac)}(r:KV kvs vs)(k:κ)(ry:RelV y u):KV (putK kvs k y) (stored vs k u):=by
 unfold putK stored;rw [r.any k]
 by_cases e:(vs.any fun kv=>decide (kv.1=k))=true
 .rw [if_pos e,if_pos e];exact r.repl k ry
 .rw [if_neg e,if_neg e];exact Paired.snoc r ⟨rfl,ry⟩
theorem KV.keys{kvs:List (κ×V)}{vs:List (κ×ac)}(r:KV kvs vs):kvs.map (·.1)=vs.map (·.1):=by
 unfold KV at r
 induction r with
 | nil=>rfl
 | cons h t ih=>rw [E2,E2,ih,h.1]
theorem KV.length{kvs:List (κ×V)}{vs:List (κ×ac)}(r:KV kvs vs):kvs.length=vs.length:=Paired.length r
end
theorem kV_is{P:ax}{w:av}{k:B1}(r:RelV (kV k) u):(P3 P w).is k u=true:=by
 cases k with
 | inl i=>obtain ⟨t,e⟩:=(show ∃ t,u=ac.int i t from r);subst e;exact ahK P w i t
 | inr x=>obtain ⟨t,e⟩:=(show ∃ t,u=ac.str x t from r);subst e;exact ahL P w x t
theorem agN{P:ax}{w:av} : ∀ {ks:List B1} {us:Ae},Vals (ks.map kV) us->ItemsAre (P3 P w) ks us
 | [],_,r=>by rw [j0] at r;cases r;exact .nil
 | k::ks,_,r=>by
  rw [E2] at r
  cases r with
  | cons h t=>exact .cons (kV_is h) (agN t)
noncomputable abbrev KT (H:Hp):List (List B1×V)->List (List B1×ab×ac)->Prop:=Paired fun p q=>p.1=q.1/\H q.2.1=some (.tup (p.1.map kV))/\RelV p.2 q.2.2
theorem KT.val{kvs:List (List B1×V)}{xs:List (List B1×ab×ac)}(r:KT H kvs xs)(k:List B1):RelO (valV kvs k) ((atKey xs k).map (·.2)):=by
 induction r with
 | nil=>exact True.intro
 | @cons p q ps qs h t ih=>
  obtain ⟨h1,_,h2⟩:=h
  by_cases e:p.1=k
  .have e':q.1=k:=h1.symm.trans e;have b:atKey (q::qs) k=some q.2:=by simp [atKey,z0,e']
   rw [oW e,b];exact h2
  .have e':¬ q.1=k:=fun z=>e (h1.trans z)
   have b:atKey (q::qs) k=atKey qs k:=by simp [atKey,z0,e']
   rw [bG e,b];exact ih
theorem KT.repl{kvs:List (List B1×V)}{xs:List (List B1×ab×ac)}(r:KT H kvs xs)(k:List B1)(ry:RelV y u) :
  KT H (kvs.map fun kv=>if kv.1=k then (kv.1,y) else kv) (xs.map (putAt k u)):=by
 induction r with
 | nil=>exact .nil
 | @cons p q ps qs h t ih=>
  rw [E2,E2];refine .cons ?_ ih;obtain ⟨h1,h2,h3⟩:=h;unfold putAt
  by_cases e:p.1=k
  .rw [if_pos e,if_pos (h1.symm.trans e)];exact ⟨h1,h2,ry⟩
  .rw [if_neg e,if_neg (fun z=>e (h1.trans z))];exact ⟨h1,h2,h3⟩
theorem KT.put{kvs:List (List B1×V)}{xs:List (List B1×ab×ac)}(r:KT H kvs xs)(k:List B1)(hb:H b=some (.tup (k.map kV)))(ry:RelV y u) :
  KT H (putK kvs k y) (storedH xs k b u):=by
 have e:(kvs.any fun kv=>decide (kv.1=k))=(atKey xs k).isSome:=by
  rw [tE,(r.val k).isSome_eq,Option.isSome_map]
 unfold putK storedH;rw [e]
 by_cases q:(atKey xs k).isSome=true
 .rw [if_pos q,if_pos q];exact r.repl k ry
 .rw [if_neg q,if_neg q];exact Paired.snoc r ⟨rfl,hb,ry⟩
theorem KT.keeps{kvs:List (List B1×V)}{xs:List (List B1×ab×ac)}(r:KT H kvs xs)(ht:∀ b ys,H b=some (.tup ys)->H' b=some (.tup ys)):KT H' kvs xs:=
 L7 r fun _ _ z=>⟨z.1,ht _ _ z.2.1,z.2.2⟩
section
variable {P:ax} {w:av} {H:Hp} {h:au} {a:ab}
theorem rd_of{u:HO}(ok:O1 P w H h)(e:Rd H a u):ObjOk P w H h a u:=e.ok ok
theorem dk_rd(ok:O1 P w H h)(e:Rd H a (.dK kvs)):kvs.length<=ak/\(a==sysModules)=false/\∃ vs,KV kvs vs/\h.DictOf (P3 P w) a vs:=
 show ObjOk P w H h a (.dK kvs) from rd_of ok e
theorem dk_of(ok:O1 P w H h)(e:H a=some (.dK kvs)):kvs.length<=ak/\(a==sysModules)=false/\∃ vs,KV kvs vs/\h.DictOf (P3 P w) a vs:=dk_rd ok (.inl e)
theorem eS{ks:List B1}(ok:O1 P w H h)(e:H a=some (.tup (ks.map kV))):(tupleKind (P3 P w)).is h ks a:=by
 obtain ⟨_,its,r,o,h1,h2,n,h3⟩:=(show ObjOk P w H h a (.tup (ks.map kV)) from ok a _ e)
 exact ⟨o,its.toArray,n,h1,h2,h3,by simpa using agN r⟩
theorem dt_rd{kvs:List (List B1×V)}(ok:O1 P w H h)(e:Rd H a (.dT kvs)):kvs.length<=ak/\(a==sysModules)=false/\
  ∃ xs,KT H kvs xs/\h.DictOfH (tupleKind (P3 P w)) a xs:=by
 obtain ⟨z,y,xs,r,o,es,ep,h1,h2,h3,h4,h5⟩:=(show ObjOk P w H h a (.dT kvs) from rd_of ok e)
 refine ⟨z,y,xs,r,o,es,ep,h1,h2,h3,h4,fun x hx=>?_,h5⟩;have all:∀ {l:List (List B1×V)} {m:List (List B1×ab×ac)},KT H l m->∀ x∈m,(tupleKind (P3 P w)).is h x.1 x.2.1:=by
  intro l m q
  induction q with
  | nil=>intro x hx;exact nomatch hx
  | @cons p q ps qs hq t ih=>
   intro x hx
   rcases D8.mp hx with e | hx
   .subst e;exact eS ok (by rw [<- hq.1];exact hq.2.1)
   .exact ih x hx
 exact all r x hx
theorem dt_of{kvs:List (List B1×V)}(ok:O1 P w H h)(e:H a=some (.dT kvs)):kvs.length<=ak/\(a==sysModules)=false/\
  ∃ xs,KT H kvs xs/\h.DictOfH (tupleKind (P3 P w)) a xs:=dt_rd ok (.inl e)
end
noncomputable def DGet (H:Hp) (a:ab) (y:V) (r:Ap):Prop:=
 (∃ kvs k,Rd H a (.dK kvs)/\y=kV k/\r=valV kvs k)\/∃ kvs k b,Rd H a (.dT kvs)/\y=.ref b/\H b=some (.tup (k.map kV))/\r=valV kvs k
noncomputable def DPut (H:Hp) (a:ab) (y v:V) (H':Hp):Prop:=
 (∃ kvs k,H a=some (.dK kvs)/\y=kV k/\kvs.length<ak/\H'=A0 H a (.dK (putK kvs k v)))\/
 ∃ kvs k b,H a=some (.dT kvs)/\y=.ref b/\H b=some (.tup (k.map kV))/\kvs.length<ak/\H'=A0 H a (.dT (putK kvs k v))
theorem W8{k:B1}(e:H a=some (.dK kvs)):DGet H a (kV k) (valV kvs k):=.inl ⟨kvs,k,.inl e,rfl,rfl⟩
theorem j8{k:B1}{v:V}(e:H a=some (.dK kvs))(hl:kvs.length<ak):DPut H a (kV k) v (A0 H a (.dK (putK kvs k v))):=.inl ⟨kvs,k,e,rfl,hl,rfl⟩
section
variable {X:Cx} {aa:Ad} {Y:St} {H:Hp} {s:ag} {a:ab} {y v:V} {u r:ac} {o:Ap} {A:ay} {E:Ac}
theorem Inv.big(I:Inv X aa Y H s):sysModules<s.heap.objs.size:=by
 have h:be<s.heap.objs.size:=(I.mod.glob.keeps I.bk).lt;exact Nat.lt_trans (by decide) h
theorem agO{Q:Ac}(hu:A.units+1<cLine)(I:Inv X aa Y H s)(g:DGet H a y (some v))(ry:RelV y u)(h:∀ w' s',Inv X aa Y H s'->RelV v w'->Q w' s') :
  wpAny (model X.prog X.w) A (getItem (.ref a) u) Q E s:=by
 rcases g with ⟨kvs,k,e,ey,l⟩ | ⟨kvs,k,b,e,ey,eb,l⟩
 .subst ey;obtain ⟨z,hd,vs,rel,dd⟩:=dk_rd I.hok e;obtain ⟨w',hw,rw'⟩:=oS (v:=v) (o:=valueAt vs k) (by rw [l];exact rel.val k);exact wpAny_getItem_of (kV_is ry) dd.mapOf hw (h w' _ (I.tok _) rw')
 .subst ey
  cases (show u=ac.ref b from ry)
  obtain ⟨z,hd,xs,rel,dd⟩:=dt_rd I.hok e;obtain ⟨w',hw,rw'⟩:=oS (v:=v) (o:=(atKey xs k).map (·.2)) (by rw [l];exact rel.val k);obtain ⟨p,hp,qR⟩:=Option.map_eq_some_iff.mp hw;refine wpAny_getItem_heap (tupleKind_room_in1 hu) (eS I.hok eb) dd hp ?_;rw [qR];exact h w' _ (I.tok _) rw'
theorem d_in{Q:Ac}(hu:A.units+1<cLine)(I:Inv X aa Y H s)(g:DGet H a y o)(ry:RelV y u)(h:∀ s',Inv X aa Y H s'->Q (.bool o.isSome) s') :
  wpAny (model X.prog X.w) A (bc .In u (.ref a)) Q E s:=by
 rcases g with ⟨kvs,k,e,ey,l⟩ | ⟨kvs,k,b,e,ey,eb,l⟩
 .subst ey;obtain ⟨z,hd,vs,rel,dd⟩:=dk_rd I.hok e;refine wpAny_in_of (kV_is ry) hd dd.mapOf ?_;rw [<- (rel.val k).isSome_eq,<- l];exact h _ (I.tok _)
 .subst ey
  cases (show u=ac.ref b from ry)
  obtain ⟨z,hd,xs,rel,dd⟩:=dt_rd I.hok e;refine wpAny_in_heap (tupleKind_room_in1 hu) (eS I.hok eb) hd dd ?_;have q:=(rel.val k).isSome_eq;rw [Option.isSome_map] at q;rw [<- q,<- l];exact h _ (I.tok _)
theorem aoy{Q:Ac}(hu:A.units+1<cLine)(I:Inv X aa Y H s)(g:DGet H a y o)(ry:RelV y u)(h:∀ s',Inv X aa Y H s'->Q (.bool (!o.isSome)) s') :
  wpAny (model X.prog X.w) A (bc .NotIn u (.ref a)) Q E s:=by
 rcases g with ⟨kvs,k,e,ey,l⟩ | ⟨kvs,k,b,e,ey,eb,l⟩
 .subst ey;obtain ⟨z,hd,vs,rel,dd⟩:=dk_rd I.hok e;refine wpAny_notIn_of (kV_is ry) hd dd.mapOf ?_;rw [<- (rel.val k).isSome_eq,<- l];exact h _ (I.tok _)
 .subst ey
  cases (show u=ac.ref b from ry)
  obtain ⟨z,hd,xs,rel,dd⟩:=dt_rd I.hok e;refine wpAny_notIn_heap (tupleKind_room_in1 hu) (eS I.hok eb) hd dd ?_;have q:=(rel.val k).isSome_eq;rw [Option.isSome_map] at q;rw [<- q,<- l];exact h _ (I.tok _)
theorem tG{ob:HO}(I:Inv X aa Y H s)(mu:kS (H a))(hs:au.SameBut a s.heap h')(he:∃ q,h'.get? a=some q)(new:ObjOk X.prog X.w (A0 H a ob) h' a ob) :
  Inv X aa Y (A0 H a ob) { s with heap:=h',toks:=t' }:=
 I.write (x:=a) (e:=a) mu (.inl rfl) (fun b q hb z=>(hs.2 b hb).trans z) he new
theorem tH{P:ax}{w:av}{vs:List (B1×ac)}(z:kvs.length<=ak)(hd:(a==sysModules)=false)(rel:KV kvs vs)(dd:h'.DictOf (P3 P w) a vs) :
  ObjOk P w H' h' a (.dK kvs):=⟨z,hd,vs,rel,dd⟩
theorem agP{Q:Unit->ag->Prop}(hu:A.units+1<cLine)(I:Inv X aa Y H s)(g:DPut H a y v H')(ry:RelV y u)(rv:RelV v r)(h:∀ s',Inv X aa Y H' s'->Q () s') :
  wpAny (model X.prog X.w) A (setItem (.ref a) u r) Q E s:=by
 rcases g with ⟨kvs,k,e,ey,l,eH⟩ | ⟨kvs,k,b,e,ey,eb,l,eH⟩
 .subst ey eH;obtain ⟨z,hd,vs,rel,dd⟩:=dk_of I.hok e;have hz:vs.length<=ak:=by rw [<- rel.length];exact z
  have hl:(putK kvs k v).length<=ak:=by have:=tF kvs k v;lia
  refine wpAny_setItem_pairs (hsz:=hz) (kV_is ry) dd fun h' dd' hs=>h _ ?_
  have he:∃ q,h'.get? a=some q:=let ⟨q,_,_,hq,_⟩:=dd';⟨q,hq⟩
  exact tG I (by rw [e];exact True.intro) hs he (tH hl hd (rel.put k rv) dd')
 .subst ey eH
  cases (show u=ac.ref b from ry)
  obtain ⟨z,hd,xs,rel,dd⟩:=dt_of I.hok e;have hz:xs.length<=ak:=by rw [<- Paired.length rel];exact z
  have hl:(putK kvs k v).length<=ak:=by have:=tF kvs k v;lia
  refine wpAny_setItem_heap (hsz:=hz) (tupleKind_room_in1 hu) (eS I.hok eb) dd fun h' dd' hs=>h _ ?_
  obtain ⟨q,es,ep,hq,h2,h3,h4,_,h5⟩:=dd';refine tG I (by rw [e];exact True.intro) hs ⟨q,hq⟩ ⟨hl,hd,_,(rel.put k eb rv).keeps fun c ys ec=>?_,q,es,ep,hq,h2,h3,h4,h5⟩;rw [A4 (ne_of ec e (fun z=>nomatch z))];exact ec
end
section
variable {X:Cx} {aa:Ad} {Y:St} {H:Hp} {s:ag} {a:ab} {kvs:List (B1×V)} {k:B1} {u:ac} {A:ay} {E:Ac}
theorem d_len{Q:Ac}(I:Inv X aa Y H s)(e:Rd H a (.dK kvs))(h:∀ t s',Inv X aa Y H s'->Q (.int kvs.length t) s'):wpAny (model X.prog X.w) A (call (.builtin "len") [.ref a]) Q E s:=by
 obtain ⟨z,hd,vs,rel,dd⟩:=dk_rd I.hok e;refine call_len_dict hd dd (by rw [<- rel.length];rw [sizeLine_eq] at z;lia) ?_;rw [<- rel.length];exact h _ _ (I.tok _)
end
noncomputable def NoSl (i:ao):Prop:=∀ ov iv,subscripted i false ov iv=operate [ov,iv] (getItem ov iv)
theorem akw{w:av}{env:Env}{value slice:ao}{pos:aw}{T id:String}{Q:Ac}(hl:typeLookup (.type T) "__getitem__"=pure (some (.builtin id)))(hs:NoSl slice)(h:wpAny (model prog w) A (eval value env) (fun o zu=>wpAny (model prog w) A (eval slice env) (fun i zx=>zx.TypeIs o T/\wpAny (model prog w) A (getItem o i) Q E zx) E zu) E s) :
  wpAny (model prog w) A (eval (.Subscript value slice pos) env) Q E s:=by
 refine Subscript_ (bt h (fun o zu zr=>bt zr (fun i zx zq=>?_) fun _ _ x=>x) fun _ _ x=>x);obtain ⟨hT,zq⟩:=zq;unfold subscriptTail;refine ar ?_;rw [getitemInPython_of_ne hT.not_modules];refine ar (wpAny_specialOf hT hl ?_);have fin:wpAny (model prog w) A (subscripted slice false o i) (fun r zw=>wpAny (model prog w) A (letTemporaryGo value o r >>= fun _=>pure r) Q E zw) E zx:=by
  rw [hs o i];exact wpAny_operating (bt zq (fun r zw zo=>ar (wpAny_letTemporaryGo (bb zo))) fun _ _ x=>x)
 first
  | exact bb (ar fin)
  | exact ar (bb (ar fin))
  | exact ar fin
theorem ahR{o:Ap}(I:Inv X aa Y H s)(g:DGet H a y o):s.TypeIs (.ref a) "dict":=by
 rcases g with ⟨kvs,k,e,_,_⟩ | ⟨kvs,k,b,e,_,_,_⟩
 .obtain ⟨_,_,vs,_,dd⟩:=dk_rd I.hok e;exact dd.typeIs
 .obtain ⟨_,_,xs,_,dd⟩:=dt_rd I.hok e;exact dd.typeIs
noncomputable def tDGet (td ty:TE):TE:=fun Y H Q=>td Y H fun x H1=>ty Y H1 fun y H2=>∃ a v,x=.ref a/\DGet H2 a y (some v)/\Q v H2
noncomputable def sDPut (td ty tv:TE):TS:=fun D Y H=>tv Y H fun v H1=>td Y H1 fun x H2=>ty Y H2 fun y H3=>∃ a H4,x=.ref a/\DPut H3 a y v H4/\D.nx Y H4
noncomputable def sDAug (td ty tv:TE) (rd:V->V->Hp->VK->Prop):TS:=fun D Y H=>td Y H fun x H1=>ty Y H1 fun y H2=>∃ a v,x=.ref a/\DGet H2 a y (some v)/\
 tv Y H2 fun y2 H3=>rd v y2 H3 fun z H4=>∃ H5,DPut H4 a y z H5/\D.nx Y H5
section
variable {X:Cx} {o i e value:ao} {pos pos' tpos:aw} {td ty tv:TE}
theorem aoz(hu:X.A.units+1<cLine)(ho:PE X o td)(hi:PE X i ty)(hs:NoSl i):PE X (.Subscript o i pos) (tDGet td ty):=by
 intro aa s Y H Q I h;refine akw PySem.F.slot_dict_getitem.lookup hs (thnE (ho aa s Y H _ I h) fun u s1 x H1 I1 rx q1=>thnE (hi aa s1 Y H1 _ I1 q1) fun iv s2 y H2 I2 ry zz=>?_);obtain ⟨a,v,ex,g,q2⟩:=zz;subst ex;obtain rfl:u=ac.ref a:=rx;exact ⟨ahR I2 g,agO hu I2 g ry fun w' s3 I3 rw'=>⟨v,H2,I3,rw',q2⟩⟩
theorem aoA(hu:X.A.units+1<cLine)(ho:PE X o td)(hi:PE X i ty)(hv:PE X value tv)(hs:bv value (some (.Subscript o i pos')) pos.line X.env=pure false) :
  PS X (.Assign [.Subscript o i pos'] value pos) (sDPut td ty tv):=by
 intro aa s Y H D I h;refine wpAny_Assign_Subscript (thnE (hv aa s Y H _ I h) fun r s1 v H1 I1 rv q1=>thnE (ho aa s1 Y H1 _ I1 q1) fun u s2 x H2 I2 rx q2=>thnE (hi aa s2 Y H2 _ I2 q2) fun iv s3 y H3 I3 ry zz=>?_) hs;obtain ⟨a,H4,ex,g,q3⟩:=zz;subst ex;obtain rfl:u=ac.ref a:=rx;exact agP hu I3 g ry rv fun s4 I4=>⟨Y,H4,I4,q3⟩
theorem aoB{op:Operator}{rd:V->V->Hp->VK->Prop}(hu:X.A.units+1<cLine)(ho:PE X o td)(hi:PE X i ty)(hv:PE X value tv)(fQ:InOp X op rd)(ha:∀ ov iv new,augStore i ov iv new=(do holding [new,ov,iv] (setItem ov iv new);release [new,ov,iv] [];pure .next)):PS X (.AugAssign (.Subscript o i tpos) op value pos) (sDAug td ty tv rd):=by
 intro aa s Y H D I h;refine wpAny_AugAssign_SubscriptAny (thnE (ho aa s Y H _ I h) fun u s1 x H1 I1 rx q1=>thnE (hi aa s1 Y H1 _ I1 q1) fun iv s2 y H2 I2 ry zz=>?_) ha;obtain ⟨a,v,ex,g,q2⟩:=zz;subst ex;obtain rfl:u=ac.ref a:=rx;refine agO hu I2 g ry fun w' s3 I3 rw'=>thnE (hv aa s3 Y H2 _ I3 q2) fun w2 s4 y2 H3 I4 ry2 q3=>thnE (fQ aa s4 Y H3 v y2 w' w2 _ I4 rw' ry2 q3) fun w3 s5 z H4 I5 rz ⟨H5,g5,q4⟩=>?_
 exact agP hu I5 g5 ry rz fun s6 I6=>⟨Y,H5,I6,q4⟩
end
theorem amr{P:ax}{w:av}(h:au)(hb:sysModules<h.objs.size):ObjOk P w H (h.push { cls:=.type "dict",data:=.dict #[] }) h.objs.size (.dK []):=
 ⟨J7 _,beq_eq_false_iff_ne.mpr (Ne.symm (O4 hb)),[],.nil,au.DictOf.new h⟩
noncomputable def tI:TE:=fun _ H Q=>∀ p,H p=none->Q (.ref p) (A0 H p (.dK []))
section
variable {X:Cx} {pos:aw}
theorem ams:PE X (.Dict [] [] pos) tI:=fun aa s Y H Q I h=>
 wpAny_Dict_empty ⟨.ref s.heap.objs.size,_,I.laid (a:=s.heap.objs.size) (o:=.dK []) (t':=s.toks) (fun _ _ q=>bg _ q) (C1 _) (amr s.heap I.big),rfl,h _ (I.hok.fresh (C1 _))⟩
end
noncomputable def iC:List (TE×TE)->St->Hp->(List (V×V)->Hp->Prop)->Prop
 | [],_,H,Q=>Q [] H
 | (tk,tv)::r,Y,H,Q=>tk Y H fun x H1=>tv Y H1 fun y H2=>iC r Y H2 fun ps H3=>Q ((x,y)::ps) H3
noncomputable def Y3 (kvs more:List (B1×V)):List (B1×V):=more.foldl (fun acc kv=>putK acc kv.1 kv.2) kvs
theorem ade:∀ (more kvs:List (B1×V)),(Y3 kvs more).length<=kvs.length+more.length
 | [],kvs=>by show kvs.length<=kvs.length+0;lia
 | p::r,kvs=>by
  have h1:=ade r (putK kvs p.1 p.2);have h2:=tF kvs p.1 p.2;show (Y3 (putK kvs p.1 p.2) r).length<=_;rw [E5];lia
noncomputable def tDisp (trs:List (TE×TE)):TE:=fun Y H Q=>∀ p,H p=none->iC trs Y (A0 H p (.dK [])) fun ps H2=>H2 p=some (.dK [])/\∃ kvs:List (B1×V),ps=kvs.map (fun kv=>(kV kv.1,kv.2))/\kvs.length<=15/\Q (.ref p) (A0 H2 p (.dK (Y3 [] kvs)))
structure M1(X:Cx)(o:ao)(m:Str)(apos:aw)(e:ao)(cpos:aw):Prop where
 base:bu o m X.env (eval o X.env)=eval o X.env
 few:((backTo cpos (bf [e] X.env)).all (fun x=>!x.1)&&(backToKw cpos (bz [] X.env)).all (fun x=>x.1.isSome)
  && decide (([e]:Aj).length+([]:List Keyword).length+(if ([]:List Keyword).isEmpty then 0 else 1)<30))=true
 line:(apos.endLine==cpos.line)=true
 trees:backTo cpos (bf [e] X.env)=[(false,eval e X.env)]
structure M2(X:Cx)(o:ao)(m:Str)(apos:aw)(e f:ao)(cpos:aw):Prop where
 base:bu o m X.env (eval o X.env)=eval o X.env
 few:((backTo cpos (bf [e,f] X.env)).all (fun x=>!x.1)&&(backToKw cpos (bz [] X.env)).all (fun x=>x.1.isSome)
  && decide (([e,f]:Aj).length+([]:List Keyword).length+(if ([]:List Keyword).isEmpty then 0 else 1)<30))=true
 line:(apos.endLine==cpos.line)=true
 trees:backTo cpos (bf [e,f] X.env)=[(false,eval e X.env),(false,eval f X.env)]
noncomputable def eT (H:Hp) (a:ab):Prop:=(∃ kvs,Rd H a (.dK kvs))\/∃ kvs,Rd H a (.dT kvs)
theorem tJ(I:Inv X aa Y H s)(d:eT H a) :
  s.TypeIs (.ref a) "dict"/\(∀ b,ac.ref a=.ref b->∃ ob,s.heap.get? b=some ob/\ob.dict=none)/\(a==sysModules)=false:=by
 rcases d with ⟨kvs,e⟩ | ⟨kvs,e⟩
 .obtain ⟨_,hd,vs,_,dd⟩:=dk_rd I.hok e;refine ⟨dd.typeIs,fun b q=>?_,hd⟩
  cases q
  obtain ⟨ob,_,_,h1,h2,_⟩:=dd;exact ⟨ob,h1,h2.2.1⟩
 .obtain ⟨_,hd,xs,_,dd⟩:=dt_rd I.hok e;refine ⟨dd.typeIs,fun b q=>?_,hd⟩
  cases q
  obtain ⟨ob,_,_,h1,h2,_⟩:=dd;exact ⟨ob,h1,h2.2.1⟩
section
variable {X:Cx} {aa:Ad} {Y:St} {H:Hp} {s:ag} {a:ab} {y d:V} {u r:ac} {o:Ap} {A:ay} {E:Ac}
theorem ark{Q:Ac}(hu:A.units+1<cLine)(I:Inv X aa Y H s)(g:DGet H a y o)(ry:RelV y u)(h:∀ w' s',Inv X aa Y H s'->RelV (o.getD .non) w'->Q w' s') :
  wpAny (model X.prog X.w) A (call (.builtin "dict.get") [.ref a,u]) Q E s:=by
 rcases g with ⟨kvs,k,e,ey,l⟩ | ⟨kvs,k,b,e,ey,eb,l⟩
 .subst ey;obtain ⟨z,hd,vs,rel,dd⟩:=dk_rd I.hok e;refine call_meetsIn gX dd.typeIs oM (PySem.F.args_dict_get_2 _ _) (meets_dict_get (P3 X.prog X.w) a (kV_is ry) hd) ⟨_,dd.mapOf,h _ _ (I.tok _) ?_⟩;rw [l];exact (rel.val k).getD rfl
 .subst ey
  cases (show u=ac.ref b from ry)
  obtain ⟨z,hd,xs,rel,dd⟩:=dt_rd I.hok e;refine call_meetsIn gX dd.typeIs oM (PySem.F.args_dict_get_2 _ _) (meetsH_dict_get (tupleKind (P3 X.prog X.w)) a b hd) ⟨tupleKind_room_in1 hu,k,xs,eS I.hok eb,dd,h _ _ (I.tok _) ?_⟩;rw [l];exact (rel.val k).getD rfl
theorem arl{Q:Ac}(hu:A.units+1<cLine)(I:Inv X aa Y H s)(g:DGet H a y o)(ry:RelV y u)(rd:RelV d r)(h:∀ w' s',Inv X aa Y H s'->RelV (o.getD d) w'->Q w' s') :
  wpAny (model X.prog X.w) A (call (.builtin "dict.get") [.ref a,u,r]) Q E s:=by
 rcases g with ⟨kvs,k,e,ey,l⟩ | ⟨kvs,k,b,e,ey,eb,l⟩
 .subst ey;obtain ⟨z,hd,vs,rel,dd⟩:=dk_rd I.hok e;refine call_meetsIn gX dd.typeIs oM (PySem.F.args_dict_get_3 _ _ _) (meets_dict_get_default (P3 X.prog X.w) a (kV_is ry) hd r) ⟨_,dd.mapOf,h _ _ (I.tok _) ?_⟩;rw [l];exact (rel.val k).getD rd
 .subst ey
  cases (show u=ac.ref b from ry)
  obtain ⟨z,hd,xs,rel,dd⟩:=dt_rd I.hok e;refine call_meetsIn gX dd.typeIs oM (PySem.F.args_dict_get_3 _ _ _) (meetsH_dict_get_default (tupleKind (P3 X.prog X.w)) a b hd r) ⟨tupleKind_room_in1 hu,k,xs,eS I.hok eb,dd,h _ _ (I.tok _) ?_⟩;rw [l];exact (rel.val k).getD rd
end
noncomputable def tK (td ty:TE):TE:=fun Y H Q=>td Y H fun x H1=>∃ a,x=.ref a/\eT H1 a/\ty Y H1 fun y H2=>∃ o,DGet H2 a y o/\Q (o.getD .non) H2
noncomputable def tL (td ty tx:TE):TE:=fun Y H Q=>td Y H fun x H1=>∃ a,x=.ref a/\eT H1 a/\ty Y H1 fun y H2=>tx Y H2 fun z H3=>∃ o,DGet H3 a y o/\Q (o.getD z) H3
section
variable {X:Cx} {o e f:ao} {apos cpos:aw} {td ty tx:TE}
theorem amt(hu:X.A.units+1<cLine)(ho:PE X o td)(he:PE X e ty)(m:M1 X o "get" apos e cpos):PE X (.Call (.Attribute o "get" apos) [e] [] cpos) (tK td ty):=by
 intro aa s Y H Q I h;refine wpAny_Call_method m.base m.few m.line PySem.F.plainAttrs_dict gX PySem.F.type_dict_get (thnE (ho aa s Y H _ I h) fun u s1 x H1 I1 rx zz=>?_);obtain ⟨a,ex,d,q1⟩:=zz;subst ex;obtain rfl:u=ac.ref a:=rx;obtain ⟨t1,t2,_⟩:=tJ I1 d;refine ⟨t1,t2,?_⟩;rw [m.trees];refine Calls.callWith_builtin rfl (Calls.evalArgs_plain (Calls.spliced_cons (thnE (he aa s1 Y H1 _ I1 q1) fun iv s2 y H2 I2 ry ⟨ov,g,q2⟩=>Calls.spliced_nil ?_)));exact ark hu I2 g ry fun w' s3 I3 rw'=>⟨_,H2,I3,rw',q2⟩
theorem amu(hu:X.A.units+1<cLine)(ho:PE X o td)(he:PE X e ty)(hf:PE X f tx)(m:M2 X o "get" apos e f cpos):PE X (.Call (.Attribute o "get" apos) [e,f] [] cpos) (tL td ty tx):=by
 intro aa s Y H Q I h;refine wpAny_Call_method m.base m.few m.line PySem.F.plainAttrs_dict gX PySem.F.type_dict_get (thnE (ho aa s Y H _ I h) fun u s1 x H1 I1 rx zz=>?_);obtain ⟨a,ex,d,q1⟩:=zz;subst ex;obtain rfl:u=ac.ref a:=rx;obtain ⟨t1,t2,_⟩:=tJ I1 d;refine ⟨t1,t2,?_⟩;rw [m.trees];refine Calls.callWith_builtin rfl (Calls.evalArgs_plain (Calls.spliced_cons (thnE (he aa s1 Y H1 _ I1 q1) fun iv s2 y H2 I2 ry q2=>
  Calls.spliced_cons (thnE (hf aa s2 Y H2 _ I2 q2) fun fv s3 z H3 I3 rz ⟨ov,g,q3⟩=>Calls.spliced_nil ?_))))
 exact arl hu I3 g ry rz fun w' s4 I4 rw'=>⟨_,H3,I4,rw',q3⟩
end
section
variable {X:Cx} {aa:Ad} {Y:St} {H:Hp} {s:ag} {a:ab} {kvs:List (B1×V)} {A:ay} {E:Ac}
end
section
variable {X:Cx} {aa:Ad} {Y:St} {H:Hp} {s:ag} {a:ab} {y:V} {u:ac} {A:ay} {E:Ac}
end
end L2
namespace L2
open PySem PySem.Spec PyProof.Rows
section
variable {X:Cx}
end
section
variable {κ:Type} [DecidableEq κ]
theorem oX:∀ {l:List κ} {k:κ},l.Nodup->¬ k∈l->(l++[k]).Nodup
 | [],k,_,_=>by simp
 | a::r,k,h,hk=>by
  obtain ⟨h1,h2⟩:=T6.mp h;show (a::(r++[k])).Nodup;refine T6.mpr ⟨fun m=>?_,oX h2 fun m=>hk (D8.mpr (Or.inr m))⟩
  rcases J9.mp m with q | q
  .exact h1 q
  .exact hk (D8.mpr (Or.inl (J8.mp q).symm))
end
end L2
set_option maxRecDepth 100000
namespace L2
open PySem PySem.Spec PyProof.Rows
noncomputable def cloOf (cells:List (Str×ab)):List (Str×bm)->List (Str×ab)->List (Str×ab)
 | [],acc=>acc
 | (n,k)::r,acc=>if k=.free then cloOf cells r ((n,(cells.lookup n).getD 0)::acc) else cloOf cells r acc
theorem tM{env:Env} : ∀ (names:List (Str×bm)) (acc:List (Str×ab)),(∀ x∈names,x.2=.free->∃ c,env.cells.lookup x.1=some c)->
  (forIn names acc fun (x:Str×bm) (cs:List (Str×ab))=>(if (x.2==bm.free)=true then do
   let c <- cellOf env x.1
   pure (ForInStep.yield ((x.1,c)::cs)) else pure (ForInStep.yield cs):Sem (ForInStep (List (Str×ab)))))=(pure (cloOf env.cells names acc):Sem (List (Str×ab)))
 | [],acc,_=>rfl
 | (n,k)::r,acc,h=>by
  rw [List.forIn_cons];have hr:∀ x∈r,x.2=.free->∃ c,env.cells.lookup x.1=some c:=fun x hx=>h x (G6 _ hx)
  by_cases hk:k=.free
  .subst hk;obtain ⟨c,hc⟩:=h (n,.free) G3 rfl;have e1:cellOf env n=pure c:=by unfold cellOf;rw [show env.cells.lookup n=some c from hc]
   simp only [beq_self_eq_true,if_true];rw [e1];show (forIn r ((n,c)::acc) _:Sem _)=_;rw [tM r _ hr];show _=pure (if bm.free=.free then cloOf env.cells r ((n,(env.cells.lookup n).getD 0)::acc) else _);rw [if_pos rfl,show env.cells.lookup n=some c from hc];rfl
  .have hb:(k==bm.free)=false:=by simpa using hk
   simp only [hb,Bool.false_eq_true,if_false];show (forIn r acc _:Sem _)=_;rw [tM r _ hr];show _=pure (if k=.free then _ else cloOf env.cells r acc);rw [if_neg hk]
theorem acI{scope:bj}{env:Env}(h:∀ x∈scope.names,x.2=.free->∃ c,env.cells.lookup x.1=some c):closureFor scope env=pure (cloOf env.cells scope.names []):=by
 simp only [closureFor];have e:=tM (env:=env) scope.names [] h;rw [e];rfl
theorem oY{cells:List (Str×ab)} : ∀ (names:List (Str×bm)) (acc:List (Str×ab)),
  (cloOf cells names acc).lookup x=if (x,bm.free)∈names then some ((cells.lookup x).getD 0) else acc.lookup x
 | [],acc=>by simp [cloOf]
 | (n,k)::r,acc=>by
  show (if k=.free then cloOf cells r ((n,(cells.lookup n).getD 0)::acc) else cloOf cells r acc).lookup x=_
  by_cases hk:k=.free
  .subst hk;rw [if_pos rfl,oY r]
   by_cases hm:(x,bm.free)∈r
   .rw [if_pos hm,if_pos (G6 _ hm)]
   .rw [if_neg hm,List.lookup_cons]
    by_cases hx:x=n
    .subst hx;rw [if_pos G3]
     simp
    .have e:(x==n)=false:=by simpa using hx
     rw [e,if_neg];intro z
     rcases D8.mp z with z | z
     .exact hx (Prod.mk.inj z).1
     .exact hm z
  .rw [if_neg hk,oY r]
   by_cases hm:(x,bm.free)∈r
   .rw [if_pos hm,if_pos (G6 _ hm)]
   .rw [if_neg hm,if_neg];intro z
    rcases D8.mp z with z | z
    .exact hk (Prod.mk.inj z).2.symm
    .exact hm z
theorem tN{α:Type} : ∀ {l:List (Str×α)} {k:α},l.lookup x=some k->(x,k)∈l
 | [],_,h=>by simp at h
 | (n,a)::r,k,h=>by
  rw [List.lookup_cons] at h
  by_cases hx:x=n
  .subst hx;simp at h;subst h;exact G3
  .have e:(x==n)=false:=by simpa using hx
   rw [e] at h;exact G6 _ (tN h)
theorem adZ{sc:bj}{env:Env}{k:bm}(hc:∀ y∈sc.names,y.2≠.cell)(h:(relabel sc env).names.lookup x=some k)(hk:k=.cell\/k=.free):(x,bm.free)∈sc.names:=by
 have m:=tN h;unfold relabel at m;obtain ⟨⟨n,k'⟩,hm,e⟩:=E9.mp m;have G0:=hc _ hm
 by_cases hf:k'=.free
 .subst hf
  have:n=x:=by
   dsimp only at e
   split at e
   .exact (Prod.mk.inj e).1
   .exact (Prod.mk.inj e).1
  subst this;exact hm
 .have hb:(k'==bm.free)=false:=by simpa using hf
  simp only [hb,gT,Bool.false_eq_true,if_false] at e;obtain ⟨e1,e2⟩:=Prod.mk.inj e;subst e1 e2
  rcases hk with z | z
  .exact absurd z G0
  .subst z;exact absurd rfl hf
structure CompOk(N:Ab)(kn:List (Str×bm))(sc:bj)(N':Ab)(k:Nat)(ixs:An):Prop where
 kind:sc.kind=.function
 cell:∀ x∈sc.names,x.2≠.cell
 names:∀ x∈sc.names,x.2=.local->sc.names.lookup x.1=some .local
 free:∀ x∈sc.names,x.2=.free->kn.lookup x.1=some .cell\/kn.lookup x.1=some .free
 clean:∀ x∈sc.names,x.2=.free->sc.names.lookup x.1=some .free
 len:N'.length=k+ixs.length
 at_:ixs.map (fun i=>N[i]?)=(N'.drop k).map some
 fr:∀ x∈N'.drop k,(x,bm.free)∈sc.names
noncomputable def D7 (X:Cx) (sc:bj) (N':Ab) (C:ab) (zw:ag) (zt:Hp) (fp:Ai) (aa:Ad):Cx:=
 {prog:=X.prog,w:=X.w,K:=X.K,mg:=X.mg,base:=X.base,A:=X.A,N:=N',s₀:=zw,H₀:=zt,
  env:=compEnvC sc (cloOf X.env.cells sc.names []) C X.env,outer:=X.stack,stack:=X.stack,ex:=fp,fn:=fun _=>false,calm:=X.calm,
  pn:=X.pn++aa,xe:=fun _ _=>False }
noncomputable def compStart (k:Nat) (ixs:An) (Y:St):St:=U4 k none++ixs.map fun i=>(Y[i]?).join
theorem agd : (compStart k ixs Y).length=k+ixs.length:=by simp [compStart]
section
variable {X:Cx} {sc:bj} {N':Ab} {k:Nat} {ixs:An} {aa:Ad} {Y:St} {H:Hp} {s:ag} {fp:Ai}
theorem iD(C:CompOk X.N X.env.scope.names sc N' k ixs)(I:Inv X aa Y H s){c:ab}(e:(cloOf X.env.cells sc.names []).lookup x=some c):X.env.cells.lookup x=some c/\(x,bm.free)∈sc.names:=by
 rw [oY] at e
 by_cases hm:(x,bm.free)∈sc.names
 .rw [if_pos hm] at e;obtain ⟨c',o5⟩:=I.ok.has x (C.free _ hm rfl);rw [o5] at e;exact ⟨o5.trans e,hm⟩
 .rw [if_neg hm] at e;cases e
theorem akB(C:CompOk X.N X.env.scope.names sc N' k ixs)(I:Inv X aa Y H s)(hm:(x,bm.free)∈sc.names):∃ c,(cloOf X.env.cells sc.names []).lookup x=some c/\X.env.cells.lookup x=some c:=by
 obtain ⟨c',o5⟩:=I.ok.has x (C.free _ hm rfl);refine ⟨c',?_,o5⟩;rw [oY,if_pos hm,o5];rfl
theorem arm(C:CompOk X.N X.env.scope.names sc N' k ixs)(I:Inv X aa Y H s)(hf:∀ b∈fp,FpOk X aa H b)(ho:∀ b∈fp,∃ o,s.heap.get? b=some o):(D7 X sc N' s.heap.objs.size s H fp aa).Ok where
 mod:=I.ok.mod
 kind:=C.kind
 glob:=I.ok.glob
 blt:=I.ok.blt
 above:=C1 _
 inj:=fun x y c e1 e2=>I.ok.inj x y c (iD C I e1).1 (iD C I e2).1
 has:=fun x hx=>by
  have hm:(x,bm.free)∈sc.names:=by
   rcases hx with z | z
   .exact adZ C.cell z (.inl rfl)
   .exact adZ C.cell z (.inr rfl)
  obtain ⟨c,h1,_⟩:=akB C I hm;exact ⟨c,h1⟩
 cab:=fun x c h _=>by cases h
 hd:=I.ok.hd
 frames:=I.ok.frames
 stk:=.inl rfl
 exf:=fun b hb=>by
  obtain ⟨o,e⟩:=ho b hb;exact ⟨O4 (ba e),fun x c e1=>(hf b hb).2.2.2.2.1 x c (iD C I e1).1⟩
 bs:=I.bs
 bsz:=K9 I.ok.bsz I.sz
 noex:=fun b o e hb=>by
  rcases (hf b hb).2.2.2.1 with z | z
  .exact I.ok.noex b o e z
  .exact absurd (U6 (ba e) (K9 I.ok.bsz z)) (m9 _)
 exfs:=fun b hb hm=>by
  rcases D8.mp (I.stkSub b hm) with z | z
  .exact (hf b hb).2.1 z
  .exact (hf b hb).2.2.1 z
 funs:=I.stack
 frf:=I.stkFree
theorem aoC(C:CompOk X.N X.env.scope.names sc N' k ixs)(I:Inv X aa Y H s)(hf:∀ b∈fp,FpOk X aa H b)(ho:∀ b∈fp,∃ o,s.heap.get? b=some o){m:Str->Ag}(hn:h'.Ns s.heap.objs.size m)(hk:∀ b o,s.heap.get? b=some o->h'.get? b=some o):Inv (D7 X sc N' s.heap.objs.size s H fp aa) [] (compStart k ixs Y) H { s with heap:=h',toks:=t' } where
 ok:=arm C I hf ho
 os:=rfl
 bare:=I.bare
 base:=Un.kept hk
 loc:=by
  refine ⟨m,hn,fun i x v e1 e2 e3=>?_⟩;unfold compStart at e2
  by_cases hi:i<k
  .rw [aT (by simpa using hi)] at e2;rw [List.getElem?_replicate_of_lt hi] at e2;cases e2
  .rw [o8 (by simpa using hi),kF] at e2;rw [U3] at e2;cases e4:ixs[i-k]? with
   | none=>rw [e4] at e2;cases e2
   | some j=>
    rw [e4] at e2;have e5:(Y[j]?).join=some v:=bh e2;have e6:Y[j]?=some (some v):=by
     cases e7:Y[j]? with
     | none=>rw [e7] at e5;cases e5
     | some o=>rw [e7] at e5;exact congrArg some e5
    have e1':N'[i]?=some x:=e1;have ed:(N'.drop k)[i-k]?=some x:=by rw [List.getElem?_drop,show k+(i-k)=i by lia];exact e1'
    have n3:(x,bm.free)∈sc.names:=C.fr x (K2 ed);have n2:X.N[j]?=some x:=by
     have q:=congrArg (fun l=>l[i-k]?) C.at_;simp only [U3,e4,ed,Option.map_some] at q;exact bh q
    obtain ⟨m0,hn0,mM⟩:=I.loc;have mN:X.env.scope.names.lookup x=some .cell\/X.env.scope.names.lookup x=some .free:=C.free _ n3 rfl;obtain ⟨u,r,l⟩:=mM j x v n2 e6 (.inr mN);refine ⟨u,r,.inr ?_⟩
    rcases l with ⟨l,_⟩ | ⟨_,c,hc,N3⟩
    .have l':X.env.scope.names.lookup x=some .local:=l
     rcases mN with z | z
     .rw [l'] at z;cases z
     .rw [l'] at z;cases z
    .obtain ⟨c',h1,h2⟩:=akB C I n3;rw [hc] at h2;cases h2;refine ⟨?_,c,h1,?_⟩
     .have e3':(relabel sc X.env).names.lookup x=some .local\/(relabel sc X.env).names.lookup x=some .cell\/(relabel sc X.env).names.lookup x=some .free:=e3
      rcases e3' with z | z
      .exfalso
       have mm:=tN z;unfold relabel at mm;obtain ⟨⟨n,k'⟩,hm,e⟩:=E9.mp mm;have W2:k'=.local/\n=x:=by
        dsimp only at e
        split at e
        .obtain ⟨_,q⟩:=Prod.mk.inj e
         cases q
        .exact ⟨(Prod.mk.inj e).2,(Prod.mk.inj e).1⟩
       obtain ⟨z1,z2⟩:=W2;subst z1 z2;have q1:=C.names _ hm rfl;rw [C.clean _ n3 rfl] at q1
       cases q1
      .exact z
     .exact N3.keeps hk
 cell:=fun x c e=>by
  obtain ⟨v,z⟩:=I.cell x c (iD C I e).1;exact ⟨v,z.keeps hk⟩
 free:=I.hok.fresh (C1 _)
 freeC:=fun x c e=>I.freeC x c (iD C I e).1
 pin:=fun p hp=>by
  have aL:p∈X.pn++aa:=by simpa [D7] using hp
  obtain ⟨e,n,ne,nf,d⟩:=I.pin p aL;refine ⟨hk _ _ e,n,O4 (ba e),fun hm=>?_,d⟩
  rcases D8.mp (I.stkSub _ hm) with z | z
  .exact ne z
  .exact nf z
 hok:=I.hok.kept hk
 len:=by rw [agd];exact C.len.symm
end
section
variable {prog:ax} {w:av} {A:ay} {R:Result->ag->Prop} {s:ag}
theorem agQ{scope:bj}{pos:aw}{it acc:ac}{env:Env}(I:Nat->ag->Prop)(turn:∀ n s,I n s->wpAny (model prog w) A (pyNext it) (fun r zu=>match r with
   | none=>R (.ok .next) zu
   | some v=>wpAny (model prog w) A (letOwnedTupleGo target it v) (fun _ zu=>wpAny (model prog w) A (assign target env v) (fun _ zx=>
     wpAny (model prog w) A (forIn ifs true fun c r=>if r=true then do let ok <- isTrue c env (eval c env);pure (ForInStep.yield ok) else pure (ForInStep.yield r)) (fun ok zw=>
      if ok=true then wpAny (model prog w) A (eval elt env) (fun x zn=>
       wpAny (model prog w) A (call (.builtin "list.append") [acc,x]) (fun _ zm=>∃ m,m<n/\I m zm) (notedBy (model prog w) A env fun e s'=>R (.error e) s') zn) (notedBy (model prog w) A env fun e s'=>R (.error e) s') zw
      else ∃ m,m<n/\I m zw) (notedBy (model prog w) A env fun e s'=>R (.error e) s') zx) (notedBy (model prog w) A env fun e s'=>R (.error e) s') zu) (notedBy (model prog w) A env fun e s'=>R (.error e) s') zu) (notedBy (model prog w) A env fun e s'=>R (.error e) s') s)(n:Nat)(h:I n s) :
  bw (model prog w) A (.compLoop (.ListComp elt [⟨target,iter,ifs,0⟩] scope pos) 0 it acc env) R s:=by
 refine codeAny_loop rfl I (fun n s hI=>?_) n h;show wpAny _ A ((compTurn (.ListComp elt [⟨target,iter,ifs,0⟩] scope pos) 0 it acc env).onRaise (fun x=>do noteFrame x env;theTreesLotGoes x)) _ _ s;refine wpAny_noted ?_;rw [compTurn_list];refine ar (wpAny_standAt (ar (bt (turn n s hI) (fun r zu zr=>?_) fun _ _ h'=>h')))
 cases r with
 | none=>exact bb zr
 | some v=>
  refine ar (bt zr (fun _ zu zr=>?_) fun _ _ h'=>h');refine ar (bt zr (fun _ zx zq=>ar (bt zq (fun ok zw zo=>?_) fun _ _ h'=>h')) fun _ _ h'=>h')
  cases ok with
  | false=>exact bb ⟨rfl,zo⟩
  | true=>
   exact ar (ar (bt zo (fun x zn zk=>ar (bt zk (fun _ zm zj=>bb (bb ⟨rfl,zj⟩)) fun _ _ h'=>h')) fun _ _ h'=>h'))
end
noncomputable def PIfs (X:Cx) (ifs:Aj) (t:TT):Prop:=
 ∀ (aa:Ad) (s:ag) (Y:St) (H:Hp) (Q:Bool->Hp->Prop),Inv X aa Y H s->t Y H Q->
  wpAny (model X.prog X.w) X.A (forIn ifs true fun c r=>if r=true then do let ok <- isTrue c X.env (eval c X.env);pure (ForInStep.yield ok) else pure (ForInStep.yield r)) (TP X aa Y Q) X.xe s
noncomputable def tYes:TT:=fun _ H Q=>Q true H
theorem amv : PIfs X [] tYes:=fun _ _ _ H _ I h=>wpAny_tests_nil ⟨H,I,h⟩
theorem amw{c:ao}{t:TT}(hc:PT X c t):PIfs X [c] t:=fun aa s Y H Q I h=>wpAny_tests_one (hc aa s Y H Q I h)
noncomputable def tComp (wi:TI) (k:Nat) (ixs:An) (g:TG) (c:TT) (te:TE):TE:=fun Y H Q=>wi Y H fun J H1=>∀ D,H1 D=none->
 ∃ (n:Nat) (W:Nat->Ao->Ar),W 0 [] (compStart k ixs Y) (A0 H1 D (.lst []))/\∀ i ys σ2 H2,W i ys σ2 H2->H2 D=some (.lst ys)->
  (J.stop i H2/\Q (.ref D) H2)\/
  (i<n/\J.go i H2/\∀ x H',J.yld i H2 x H'->g x σ2 H' fun σ3 H3=>c σ3 H3 fun b H4=>
   if b=true then te σ3 H4 fun y H5=>H5 D=some (.lst ys)/\ys.length<ak/\W (i+1) (ys++[y]) σ3 (A0 H5 D (.lst (ys++[y])))
   else H4 D=some (.lst ys)/\W (i+1) ys σ3 H4)
section
variable {X:Cx} {sc:bj} {N':Ab} {k:Nat} {ixs:An}
theorem afu{pos:aw}{J:It}{g:TG}{c:TT}(C:CompOk X.N X.env.scope.names sc N' k ixs)(N4:X.calm=true)(hg:∀ C zw zt fp aa,PG (D7 X sc N' C zw zt fp aa) target g)(hc:∀ C zw zt fp aa,PIfs (D7 X sc N' C zw zt fp aa) ifs c)(he:∀ C zw zt fp aa,PE (D7 X sc N' C zw zt fp aa) elt te){tn:Nat->au->Prop}(I:Inv X aa Y H s)(T:Turn X.prog X.w X.K target J fp it tn)(st:tn 0 s.heap)(hf:∀ b∈fp,FpOk X aa H b)(h:∀ D,H D=none->∃ (n:Nat) (W:Nat->Ao->Ar),W 0 [] (compStart k ixs Y) (A0 H D (.lst []))/\∀ i ys σ2 H2,W i ys σ2 H2->H2 D=some (.lst ys)->
   (J.stop i H2/\Q (.ref D) H2)\/
   (i<n/\J.go i H2/\∀ x H',J.yld i H2 x H'->g x σ2 H' fun σ3 H3=>c σ3 H3 fun b H4=>
    if b=true then te σ3 H4 fun y H5=>H5 D=some (.lst ys)/\ys.length<ak/\W (i+1) (ys++[y]) σ3 (A0 H5 D (.lst (ys++[y])))
    else H4 D=some (.lst ys)/\W (i+1) ys σ3 H4)){RR:ac->ab->Result->ag->Prop}(hRR:∀ D Cc (H':Hp) (s':ag) (o:Obj) m,Inv X aa Y H' s'->Inv X (aa++[(Cc,o)]) Y H' s'->s'.heap.get? Cc=some o->s'.heap.Ns Cc m->H' Cc=none->Cc≠X.env.locals->X.s₀.heap.objs.size<=Cc->
   (∀ x c,X.env.cells.lookup x=some c->c≠Cc)->(∀ p∈X.pn++aa,p.1≠Cc)->Q (.ref D) H'->RR (.ref D) Cc (.ok .next) s') :
  wpAny (model X.prog X.w) X.A (newList []) (fun acc zw=>wpAny (model X.prog X.w) X.A (newFunctionEnv sc X.env.globals (cloOf X.env.cells sc.names []) [] X.env.qual none .none (some X.env)) (fun cenv zn=>
   bw (model X.prog X.w) X.A (.compStart (.ListComp elt [⟨target,iter,ifs,0⟩] sc pos) 0 (.ref it) acc { cenv with scope:=relabel sc X.env }) (RR acc cenv.locals) zn) E zw) E s:=by
 have fresh:=I.hok.fresh (C1 s.heap.objs.size);obtain ⟨n,W,w0,turn⟩:=h s.heap.objs.size fresh;have hfD:∀ b∈fp,b≠s.heap.objs.size:=fun b hb z=>by
  obtain ⟨o,e,_⟩:=T.obj _ _ st b hb;rw [z] at e;exact absurd (ba e) (m9 _)
 have hf3:∀ b∈fp,FpOk X aa (A0 H s.heap.objs.size (.lst [])) b:=fun b hb=>⟨by rw [A4 (hfD b hb)];exact (hf b hb).1,(hf b hb).2⟩
 have main:∀ (s3:ag) (zr:au) (t1:Nat),Inv X aa Y (A0 H s.heap.objs.size (.lst [])) s3->(∀ b o,s.heap.get? b=some o->s3.heap.get? b=some o)->zr.Ns s3.heap.objs.size (fun x=>([]:List (Str×ac)).reverse.lookup x)->
   (∀ b o,s3.heap.get? b=some o->zr.get? b=some o)->
   tn 0 zr/\bw (model X.prog X.w) X.A (.compLoop (.ListComp elt [⟨target,iter,ifs,0⟩] sc pos) 0 (.ref it) (.ref s.heap.objs.size) (D7 X sc N' s3.heap.objs.size s3 (A0 H s.heap.objs.size (.lst [])) fp aa).env) (RR (.ref s.heap.objs.size) s3.heap.objs.size) { s3 with heap:=zr,toks:=t1 }:=by
  intro s3 zr t1 I3 k3 dE keep3;have dD:tn 0 s3.heap:=T.keep _ _ _ st fun b hb o e=>k3 b o e
  have ho3:∀ b∈fp,∃ o,s3.heap.get? b=some o:=fun b hb=>let ⟨o,e,_⟩:=T.obj _ _ dD b hb;⟨o,e⟩
  have jE:tn 0 zr:=T.keep _ _ _ dD fun b hb o e=>keep3 b o e
  have B0:Inv (D7 X sc N' s3.heap.objs.size s3 (A0 H s.heap.objs.size (.lst [])) fp aa) [] (compStart k ixs Y) (A0 H s.heap.objs.size (.lst [])) { s3 with heap:=zr,toks:=t1 }:=aoC C I3 hf3 ho3 dE keep3;refine ⟨jE,?_⟩;have fpX:∀ {H':Hp},(∀ b∈fp,H' b=none)->∀ b∈fp,FpOk (D7 X sc N' s3.heap.objs.size s3 (A0 H s.heap.objs.size (.lst [])) fp aa) [] H' b:=fun {H'} hn b hb=>by
   obtain ⟨o,eo⟩:=ho3 b hb;refine ⟨hn b hb,O4 (ba eo),?_,.inl hb,?_,?_⟩
   .intro hm
    rcases D8.mp (I3.stkSub b hm) with z | z
    .exact (hf b hb).2.1 z
    .exact (hf b hb).2.2.1 z
   .intro x cc ec;exact (hf b hb).2.2.2.2.1 x cc (iD C I3 ec).1
   .intro p hp;exact (hf b hb).2.2.2.2.2 p (by simpa [D7] using hp)
  refine agQ (fun m s'=>∃ i ys σ' H',m=n-i/\Inv (D7 X sc N' s3.heap.objs.size s3 (A0 H s.heap.objs.size (.lst [])) fp aa) [] σ' H' s'/\tn i s'.heap/\(∀ b∈fp,H' b=none)/\H' s.heap.objs.size=some (.lst ys)/\W i ys σ' H') ?_ n ⟨0,[],_,_,rfl,B0,jE,fun b hb=>(hf3 b hb).1,A1,w0⟩;rintro m s4 ⟨i,ys,σ4,H4,rfl,I4,st4,fr4,hD4,w4⟩;have again:∀ {i':Nat} {ys':Ao} {σ7:St} {H7:Hp} {s6 s7:ag},i<n->i'=i+1->tn i' s6.heap->Inv (D7 X sc N' s3.heap.objs.size s3 (A0 H s.heap.objs.size (.lst [])) fp aa) ([]++hJ fp s6.heap) σ7 H7 s7->H7 s.heap.objs.size=some (.lst ys')->W i' ys' σ7 H7->
    ∃ m,m<n-i/\∃ i ys σ' H',m=n-i/\Inv (D7 X sc N' s3.heap.objs.size s3 (A0 H s.heap.objs.size (.lst [])) fp aa) [] σ' H' s7/\tn i s7.heap/\(∀ b∈fp,H' b=none)/\H' s.heap.objs.size=some (.lst ys)/\W i ys σ' H':=fun {i' ys' σ7 H7 s6 s7} C4 ei jF I7 hD w=>by
   subst ei;refine ⟨n-(i+1),by lia,i+1,ys',σ7,H7,rfl,I7.unpinned,T.keep _ _ _ jF fun b hb o e=>(I7.pin (b,o) (Q7 _ (Q7 _ (hV hb e)))).1,fun b hb=>?_,hD,w⟩;obtain ⟨o,e,_⟩:=T.obj _ _ jF b hb;exact (I7.pin (b,o) (Q7 _ (Q7 _ (hV hb e)))).2.1
  rcases turn i ys σ4 H4 w4 hD4 with ⟨stop,q⟩ | ⟨C4,go,step⟩
  .refine M0 (T.done (D7 X sc N' s3.heap.objs.size s3 (A0 H s.heap.objs.size (.lst [])) fp aa) rfl rfl rfl N4 i [] s4 σ4 H4 _ I4 (fpX fr4) st4 stop) fun r s5 jG=>?_
   obtain ⟨hr,I5⟩:=jG;subst hr;have back:Inv X aa Y H4 s5:=I3.call' (ch:=fp) I5.os I5.base I5.hok I5.bare fun b hb=>⟨(hf b hb).2.2.2.1,(hf b hb).2.1,(hf b hb).2.2.2.2.1,(hf b hb).2.2.2.2.2⟩
   obtain ⟨mm,hn5,_⟩:=I5.loc;obtain ⟨o,es,ep,ho,hd,g9⟩:=id hn5;have hC:s3.heap.objs.size≠X.env.locals:=Nat.ne_of_gt I3.lt;refine hRR s.heap.objs.size s3.heap.objs.size H4 s5 o mm back ?_ ho hn5 I5.free hC I3.sz ?_ ?_ q
   .refine back.pins_of fun p hp=>?_
    rcases J9.mp hp with z | z
    .exact back.pin p (Q7 _ z)
    .have e:p=(s3.heap.objs.size,o):=by simpa using z
     subst e;exact ⟨ho,I5.free,hC,I3.nofs (C1 _),fun v z=>by rw [hd] at z;cases z⟩
   .intro x c e z;obtain ⟨v,q⟩:=I3.cell x c e
    have:=q.lt
    rw [z] at this;exact m9 _ this
   .intro p hp z
    have:=ba (I3.pin p hp).1
    rw [z] at this;exact m9 _ this
  .refine M0 (T.item (D7 X sc N' s3.heap.objs.size s3 (A0 H s.heap.objs.size (.lst [])) fp aa) rfl rfl rfl N4 i [] s4 σ4 H4 _ I4 (fpX fr4) st4 go) fun r s5 jG=>?_
   obtain ⟨u,hr,h5⟩:=jG;subst hr;refine M0 h5 fun _ s6 h6=>?_
   obtain ⟨x,H6,I6,r6,y6,jF,fr6⟩:=h6;have I6':=I6.pinned (fpX fr6) (T.obj _ _ jF);refine bt (hg _ _ _ _ _ _ s6 σ4 H6 x u _ I6' r6 (step x H6 y6)) (fun _ s7 h7=>?_) fun _ _ z=>False.elim z
   obtain ⟨σ7,H7,I7,q7⟩:=h7;refine bt (hc _ _ _ _ _ _ s7 σ7 H7 _ I7 q7) (fun ok s8 h8=>?_) fun _ _ z=>False.elim z
   obtain ⟨H8,I8,q8⟩:=h8
   cases ok with
   | false=>
    rw [if_neg L9] at q8 ⊢
    exact again C4 rfl jF I8 q8.1 q8.2
   | true=>
    rw [if_pos rfl] at q8 ⊢
    refine bt (he _ _ _ _ _ _ s8 σ7 H8 _ I8 q8) (fun y s9 h9=>?_) fun _ _ z=>False.elim z
    obtain ⟨yv,H9,I9,r9,hD9,hz9,w9⟩:=h9;refine bt (agL (X:=(D7 X sc N' s3.heap.objs.size s3 (A0 H s.heap.objs.size (.lst [])) fp aa)) _ s9 σ7 H9 (.ref s.heap.objs.size) [yv] (.ref s.heap.objs.size) [y] (fun _ H'=>H'=A0 H9 s.heap.objs.size (.lst (ys++[yv]))) I9 rfl (.cons r9 .nil) ⟨_,ys,yv,rfl,rfl,hD9,hz9,rfl⟩) (fun _ s10 h10=>?_) fun _ _ z=>False.elim z
    obtain ⟨_,W3,I10,_,e10⟩:=h10;subst e10;exact again C4 rfl jF I10 A1 w9
 have I3:=I.lnew (ys:=[]) (its:=[]) (t':=s.toks) .nil (J7 _);refine wpAny_newObj_type (wpAny_newFunctionEnv C.cell (by intro y hy;simp at hy) (fun zr zi zh=>?_) C.kind);obtain ⟨jE,loop⟩:=main _ zr (s.toks+([]:List (Str×ac)).length) I3 (fun b o e=>bg _ e) zi fun b o e=>zh.extBut b o (O4 (ba e)) (bg _ e)
 exact codeAny_compStart_list loop (T.self X.A 0 _ _ _ jE loop)
theorem aoD{pos:aw}{wi:TI}{g:TG}{c:TT}(C:CompOk X.N X.env.scope.names sc N' k ixs)(N4:X.calm=true)(hi:PI X target iter wi)(hg:∀ C zw zt fp aa,PG (D7 X sc N' C zw zt fp aa) target g)(hc:∀ C zw zt fp aa,PIfs (D7 X sc N' C zw zt fp aa) ifs c)(he:∀ C zw zt fp aa,PE (D7 X sc N' C zw zt fp aa) elt te)(hs:∀ x,foldedSetIterable iter X.env x=pure x:=by intro _;rfl):PE X (.ListComp elt [⟨target,iter,ifs,0⟩] sc pos) (tComp wi k ixs g c te):=by
 intro aa s Y H Q I h;rw [eval_ListComp];refine wpAny_comprehension_free (use:=none) rfl hs (acI fun x hx hf=>I.ok.has x.1 (C.free x hx hf)) C.kind C.names (M0 (hi aa s Y H _ I h) fun v s1 h1=>M0 h1 fun itv s2 h2=>?_);obtain ⟨it,fp,tn,J,H2,e,I2,T,u9,f2,q2⟩:=h2;subst e;refine afu (RR:=fun acc C=>compPost (model X.prog X.w) X.A X.xe none (EP X aa Y Q) acc C) C N4 hg hc he I2 T u9 f2 q2 ?_;intro D Cc H' s' o m I' _ ho hn hC hL aM N3 fU q;exact ⟨m,hn,fun h'' hs''=>⟨.ref D,H',I'.turned (t':=s'.toks) (fun b o hb e=>hs''.extBut b o hb e) hC hL (.inr aM) N3 fU,rfl,q⟩⟩
theorem ajq{pos py:aw}{wi:TI}{g:TG}{c:TT}{y:Str}(hN:X.N.Nodup)(hiN:X.N[i]?=some y)(hx:e9 X.env.scope y)(C:CompOk X.N X.env.scope.names sc N' k ixs)(N4:X.calm=true)(hi:PI X target iter wi)(hg:∀ C zw zt fp aa,PG (D7 X sc N' C zw zt fp aa) target g)(hc:∀ C zw zt fp aa,PIfs (D7 X sc N' C zw zt fp aa) ifs c)(he:∀ C zw zt fp aa,PE (D7 X sc N' C zw zt fp aa) elt te)(yB:bv (.ListComp elt [⟨target,iter,ifs,0⟩] sc pos) (some (.Name y py)) spos.line X.env=pure true:=by rfl)(hf:X.fn y=true\/X.env.scope.names.lookup y=some .local:=by first | exact .inl rfl | exact .inr rfl | assumption)(hs:∀ x,foldedSetIterable iter X.env x=pure x:=by intro _;rfl):PS X (.Assign [.Name y py] (.ListComp elt [⟨target,iter,ifs,0⟩] sc pos) spos) (tAsg (tComp wi k ixs g c te) (gName i)):=by
 intro aa s Y H D I h;rw [exec_Assign_Name_used _ _ _ _ yB];refine ar (wpAny_standAt (ar ?_));show wpAny _ X.A (do let _ <- comprehension (.ListComp elt [⟨target,iter,ifs,0⟩] sc pos) sc X.env _ (newList []) false (eval iter X.env) (some (assign (.Name y py) X.env))) _ _ s;refine ar (bt (wpAny_comprehension_free (use:=some (assign (.Name y py) X.env)) (Q:=fun _ s'=>SP X aa D .next s') rfl hs (acI fun x hx hf=>I.ok.has x.1 (C.free x hx hf)) C.kind C.names
  (M0 (hi aa s Y H _ I h) fun v s1 h1=>M0 h1 fun itv s2 h2=>?_)) (fun _ s' hq=>bb (bb hq)) fun _ _ e=>e)
 obtain ⟨it,fp,tn,J,H2,e,I2,T,u9,f2,q2⟩:=h2;subst e;refine afu (Q:=fun x H1=>gName i x Y H1 D.nx) (RR:=fun acc C=>compPost (model X.prog X.w) X.A X.xe (some (assign (.Name y py) X.env)) (fun _ s'=>SP X aa D .next s') acc C) C N4 hg hc he I2 T u9 f2 q2 ?_;intro Da Cc H' s' o m _ Ip ho hn hC hL aM N3 fU q;show wpAny _ X.A (assign (.Name y py) X.env (.ref Da)) _ _ _;refine wpAny_assign_Name (oP (v:=.ref Da) Ip hN hiN hx rfl (fun s'' I''=>?_) hf);have hC2:=(I''.pin (Cc,o) (Q7 _ (Q7 _ (J8.mpr rfl)))).1;refine ⟨m,hn.at' fun o' e'=>?_,fun h'' hs''=>?_⟩
 .rw [ho] at e';cases e';exact hC2
 .have I3:Inv X aa (Y.set i (some (.ref Da))) H' s'':=I''.unpinned;exact ⟨_,H',I3.turned (t':=s''.toks) (fun b o hb e=>hs''.extBut b o hb e) hC hL (.inr aM) N3 fU,q⟩
end
end L2
end
set_option maxRecDepth 100000
namespace L2
open PySem PySem.Spec PyProof.Rows
section
variable {X:Cx} {a b:ao} {ta tb:TE} {pos:aw} {rest:Aj}
noncomputable def tTru (K:aj) (te:TE):TT:=fun Y H Q=>te Y H fun x H1=>∃ k,TruV K x H1 k/\Q k H1
theorem arn(ha:PE X a ta)(he:∀ whole,isTrue a X.env whole=(do let v <- whole;standAt a.pos;holding [v] (truthy v)):=by intro _;rfl):PT X a (tTru X.K ta):=amf ha he
noncomputable def tNotT (K:aj) (te:TE):TE:=fun Y H Q=>te Y H fun x H1=>∃ k,TruV K x H1 k/\Q (.bl (!k)) H1
theorem aoE(ha:PE X a ta):PE X (.UnaryOp .Not a pos) (tNotT X.K ta):=by
 intro aa s Y H Q I h;refine UnaryOp_ (thnE (ha aa s Y H _ I h) fun v s1 x H1 I1 r1 q1=>?_);exact not_of (thnT (anB aa s1 Y H1 x v (fun k H2=>Q (.bl (!k)) H2) I1 r1 q1) fun c s2 H2 I2 q2=>⟨.bl (!c),H2,I2,rfl,q2⟩)
end
mutual
inductive Dn (K:aj) (H:Hp):V->PyData->Prop
 | non:Dn K H .non .none
 | bl (b):Dn K H (.bl b) (.bool b)
 | int (i):Dn K H (.int i) (.int i)
 | str (x):cM x=true->Dn K H (.str x) (.str x)
 | lst {a xs ds} : D9 K H a xs->DnAll K H xs ds->Dn K H (.ref a) (.list ds)
 | tup {a xs ds} : C7 K H a xs->DnAll K H xs ds->Dn K H (.ref a) (.tuple ds)
inductive DnAll (K:aj) (H:Hp):Ao->List PyData->Prop
 | nil:DnAll K H [] []
 | cons {x xs d ds} : Dn K H x d->DnAll K H xs ds->DnAll K H (x::xs) (d::ds)
end
section
variable {X:Cx} {aa:Ad} {Y:St} {H:Hp} {s:ag}
mutual
theorem Dn.reads{K:aj}{x:V}{d:PyData}(I:Inv X aa Y H s)(hK:X.K=K):Dn K H x d->∀ {u:ac},RelV x u->d.canLay0=true/\∃ as,Reads s.heap u d as
 | .non,u,r=>by cases r;exact ⟨rfl,_,.none⟩
 | .bl b,u,r=>by cases r;exact ⟨rfl,_,.bool b⟩
 | .int i,u,r=>by obtain ⟨t,rfl⟩:=r;exact ⟨rfl,_,.int i t⟩
 | .str x hx,u,r=>by obtain ⟨t,rfl⟩:=r;exact ⟨hx,_,.str x t⟩
 | .lst (a:=a) q hs,u,r=>by
  cases r
  subst hK;obtain ⟨its,rv,⟨o,n,e,c,_,dd⟩,_⟩:=I.list q;obtain ⟨h1,as,h2⟩:=DnAll.reads I rfl hs rv;exact ⟨h1,_,.list e c dd (by simpa using h2)⟩
 | .tup (a:=a) q hs,u,r=>by
  cases r
  subst hK;obtain ⟨its,rv,⟨o,e,c,n,dd⟩,_⟩:=I.tuple q;obtain ⟨h1,as,h2⟩:=DnAll.reads I rfl hs rv;exact ⟨h1,_,.tuple e c dd (by simpa using h2)⟩
theorem DnAll.reads{K:aj}{xs:Ao}{ds:List PyData}(I:Inv X aa Y H s)(hK:X.K=K):DnAll K H xs ds->∀ {us:Ae},Vals xs us->PyData.canLayAll0 ds=true/\∃ as,ReadsAll s.heap us ds as
 | .nil,us,r=>by cases r;exact ⟨rfl,_,.nil⟩
 | .cons h t,us,r=>by
  cases r with
  | cons r1 r2=>
   obtain ⟨c1,a1,q1⟩:=Dn.reads I hK h r1;obtain ⟨c2,a2,q2⟩:=DnAll.reads I hK t r2;exact ⟨by simp [PyData.canLayAll0,c1,c2],_,.cons q1 q2⟩
end
end
mutual
theorem Dn.same{K:aj}{H H':Hp}(hs:Same H H'){x:V}{d:PyData} : Dn K H x d->Dn K H' x d
 | .non=>.non
 | .bl b=>.bl b
 | .int i=>.int i
 | .str x h=>.str x h
 | .lst q h=>.lst (hs.seq q) (DnAll.same hs h)
 | .tup (a:=a) (xs:=xs) q h=>.tup (by
   rcases q with (q | ⟨o,q⟩) | q
   .exact .inl (.inl (hs _ _ q))
   .exact .inl (.inr ⟨o,hs _ _ q⟩)
   .exact .inr q) (DnAll.same hs h)
theorem DnAll.same{K:aj}{H H':Hp}(hs:Same H H'){xs:Ao}{ds:List PyData} : DnAll K H xs ds->DnAll K H' xs ds
 | .nil=>.nil
 | .cons h t=>.cons (Dn.same hs h) (DnAll.same hs t)
end
theorem eU{K:aj}{H:Hp} : ∀ {zs:Ab},(∀ z∈zs,cM z=true)->DnAll K H (zs.map V.str) (zs.map PyData.str)
 | [],_=>.nil
 | z::zs,h=>.cons (.str z (h z G3)) (eU fun y hy=>h y (G6 _ hy))
theorem iE{K:aj}{H:Hp} : ∀ {zs:Am},DnAll K H (zs.map V.int) (zs.map bD)
 | []=>.nil
 | z::zs=>.cons (.int z) iE
theorem aeB:∀ (xs ys:Ab),Z5 (xs.map PyData.str) (ys.map PyData.str)=decide (xs=ys)
 | [],[]=>by simp [Z5]
 | [],_::_=>by simp [Z5]
 | _::_,[]=>by simp [Z5]
 | x::xs,y::ys=>by
  rw [E2,E2,Z5,aeB xs ys];rw [show Y0 (.str x) (.str y)=(x==y) by simp [Y0]]
  by_cases h1:x=y
  .subst h1;simp
  .simp [h1]
theorem oZ:∀ (xs ys:Am),Z5 (xs.map bD) (ys.map bD)=decide (xs=ys)
 | [],[]=>by simp [Z5]
 | [],_::_=>by simp [Z5]
 | _::_,[]=>by simp [Z5]
 | x::xs,y::ys=>by
  rw [E2,E2,Z5,oZ xs ys];rw [show Y0 (.int x) (.int y)=(x==y) by simp [Y0]]
  by_cases h1:x=y
  .subst h1;simp
  .simp [h1]
noncomputable def rAddR (K:aj) (a b:ab) (H:Hp) (Q:VK):Prop:=rCat (.ref a) (.ref b) H Q\/rCatT K (.ref a) (.ref b) H Q
theorem rAddR.l{K:aj}{a b:ab}{H:Hp}{Q:VK}{xs ys:Ao}(h1:H a=some (.lst xs))(h2:H b=some (.lst ys))(h3:xs.length+ys.length<=ak)(h:∀ p,H p=none->Q (.ref p) (A0 H p (.lst (xs++ys)))):rAddR K a b H Q:=.inl ⟨a,b,xs,ys,rfl,rfl,h1,h2,h3,h⟩
theorem rAddR.t{K:aj}{a b:ab}{H:Hp}{Q:VK}{xs ys:Ao}(h1:C7 K H a xs)(h2:C7 K H b ys)(h0:xs≠[])(h3:xs.length+ys.length<=ak)(he:ys=[]->Q (.ref a) H)(h:ys≠[]->∀ p,H p=none->Q (.ref p) (A0 H p (.tup (xs++ys)))):rAddR K a b H Q:=.inr ⟨a,b,xs,ys,rfl,rfl,h1,h2,h0,h3,he,h⟩
noncomputable def rAddU (K:aj):V->V->Hp->VK->Prop
 | .int i,.int j,H,Q=>Q (.int (i+j)) H
 | .str i,.str j,H,Q=>i.length+j.length<=ak/\Q (.str (i++j)) H
 | .ref a,.ref b,H,Q=>rAddR K a b H Q
 | _,_,_,_=>False
noncomputable def rMulU:V->V->Hp->VK->Prop
 | .int i,.int j,H,Q=>CMul i j/\Q (.int (i*j)) H
 | .ref a,.int j,H,Q=>rRep (.ref a) (.int j) H Q
 | _,_,_,_=>False
noncomputable def rEqU (K:aj):V->V->Hp->VK->Prop
 | .int i,.int j,H,Q=>Q (.bl (decide (i=j))) H
 | .str i,.str j,H,Q=>Q (.bl (decide (i=j))) H
 | .bl i,.bl j,H,Q=>Q (.bl (decide (i=j))) H
 | x,y,H,Q=>∃ d e,Dn K H x d/\Dn K H y e/\min d.depth e.depth<=60/\Q (.bl (Y0 d e)) H
noncomputable def rNeU (K:aj):V->V->Hp->VK->Prop
 | .int i,.int j,H,Q=>Q (.bl (!decide (i=j))) H
 | .str i,.str j,H,Q=>Q (.bl (!decide (i=j))) H
 | .bl i,.bl j,H,Q=>Q (.bl (!decide (i=j))) H
 | x,y,H,Q=>∃ d e,Dn K H x d/\Dn K H y e/\min d.depth e.depth<=60/\Q (.bl (!PyData.eqv d e)) H
noncomputable def rLtU:V->V->Hp->VK->Prop
 | .int i,.int j,H,Q=>Q (.bl (decide (i<j))) H
 | .str i,.str j,H,Q=>Q (.bl (decide (i.cps.toList<j.cps.toList))) H
 | _,_,_,_=>False
noncomputable def rLeU:V->V->Hp->VK->Prop
 | .int i,.int j,H,Q=>Q (.bl (decide (i<=j))) H
 | .str i,.str j,H,Q=>Q (.bl (!decide (j.cps.toList<i.cps.toList))) H
 | _,_,_,_=>False
noncomputable def rGtU:V->V->Hp->VK->Prop
 | .int i,.int j,H,Q=>Q (.bl (decide (j<i))) H
 | .str i,.str j,H,Q=>Q (.bl (decide (j.cps.toList<i.cps.toList))) H
 | _,_,_,_=>False
noncomputable def rGeU:V->V->Hp->VK->Prop
 | .int i,.int j,H,Q=>Q (.bl (decide (j<=i))) H
 | .str i,.str j,H,Q=>Q (.bl (!decide (i.cps.toList<j.cps.toList))) H
 | _,_,_,_=>False
noncomputable def rInR (K:aj) (neg:Bool) (x:V) (p:ab) (H:Hp) (Q:VK):Prop:=sZ K neg x (.ref p) H Q\/∃ o,DGet H p x o/\Q (.bl (neg.xor o.isSome)) H
theorem rInR.l{K:aj}{neg:Bool}{x:V}{p:ab}{H:Hp}{Q:VK}{xs:Ao}(h1:D9 K H p xs\/C7 K H p xs)(h2:flatV x=true)(h3:xs.all flatV=true)(h:Q (.bl (neg.xor (aE x xs))) H):rInR K neg x p H Q:=.inl ⟨p,xs,rfl,h1,h2,h3,by cases neg <;> simpa using h⟩
theorem rInR.d{K:aj}{neg:Bool}{x:V}{p:ab}{H:Hp}{Q:VK}{o:Ap}(h1:DGet H p x o)(h:Q (.bl (neg.xor o.isSome)) H):rInR K neg x p H Q:=.inr ⟨o,h1,h⟩
noncomputable def rInU (K:aj) (neg:Bool) (x:V):V->Hp->VK->Prop
 | .str j,H,Q=>∃ i,x=.str i/\Q (.bl (neg.xor (!(Builtin.Str.occurrences j i 0 j.length 1).isEmpty))) H
 | .ref p,H,Q=>rInR K neg x p H Q
 | _,_,_=>False
section
variable {X:Cx} {aa:Ad} {Y:St} {H:Hp} {s:ag}
theorem p_add:K3 X (bo .Add) (rAddU X.K):=by
 intro aa s Y H x y v u Q I rx ry h
 cases x <;> cases y <;> try exact h.elim
 .exact aqX aa s Y H _ _ v u Q I rx ry ⟨_,_,rfl,rfl,h⟩
 .exact ajk aa s Y H _ _ v u Q I rx ry ⟨_,_,rfl,rfl,h⟩
 .rcases h with h | h
  .exact ari aa s Y H _ _ v u Q I rx ry h
  .exact aou aa s Y H _ _ v u Q I rx ry h
theorem p_sub:K3 X (bo .Sub) (t7 fun i j=>.int (i-j)):=aqY
theorem p_mul:K3 X (bo .Mult) rMulU:=by
 intro aa s Y H x y v u Q I rx ry h
 cases x <;> cases y <;> try exact h.elim
 .exact aqZ aa s Y H _ _ v u Q I rx ry ⟨_,_,rfl,rfl,h⟩
 .exact arj aa s Y H _ _ v u Q I rx ry h
theorem aro:K3 X (bo .FloorDiv) (rI CDiv fun i j=>.int (i / j)):=aog
theorem p_mod:K3 X (bo .Mod) (rI (fun _ j=>0<j) fun i j=>.int (i % j)):=aq0
theorem pA(hu:X.A.units+64<cLine){x y:V}{v u:ac}{Q:VK}(I:Inv X aa Y H s)(rx:RelV x v)(ry:RelV y u)(h:∃ d e,Dn X.K H x d/\Dn X.K H y e/\min d.depth e.depth<=60/\Q (.bl (Y0 d e)) H):wpAny (model X.prog X.w) X.A (bc .Eq v u) (EP X aa Y Q) X.xe s:=by
 obtain ⟨d,e,h1,h2,hd,q⟩:=h;obtain ⟨c1,as,r1⟩:=h1.reads I rfl rx;obtain ⟨c2,bs,r2⟩:=h2.reads I rfl ry;exact SeqAt.compareEq_reads r1 r2 c1 c2 (by lia) ⟨.bl _,H,I,rfl,q⟩
theorem pB(hu:X.A.units+64<cLine){x y:V}{v u:ac}{Q:VK}(I:Inv X aa Y H s)(rx:RelV x v)(ry:RelV y u)(h:∃ d e,Dn X.K H x d/\Dn X.K H y e/\min d.depth e.depth<=60/\Q (.bl (!PyData.eqv d e)) H):wpAny (model X.prog X.w) X.A (bc .NotEq v u) (EP X aa Y Q) X.xe s:=by
 obtain ⟨d,e,h1,h2,hd,q⟩:=h;obtain ⟨c1,as,r1⟩:=h1.reads I rfl rx;obtain ⟨c2,bs,r2⟩:=h2.reads I rfl ry;exact SeqAt.compareNe_reads r1 r2 c1 c2 (by lia) ⟨.bl _,H,I,rfl,q⟩
theorem p_eq(hu:X.A.units+64<cLine):K3 X (bc .Eq) (rEqU X.K):=by
 intro aa s Y H x y v u Q I rx ry h;have sc:∀ {x y:V},rEq x y H Q->RelV x v->RelV y u->wpAny (model X.prog X.w) X.A (bc .Eq v u) (EP X aa Y Q) X.xe s:=fun {x y} h rx ry=>op_eq aa s Y H x y v u Q I rx ry h
 cases x with
 | int i=>cases y with
  | int j=>exact sc (x:=.int i) (y:=.int j) ⟨rfl,by simpa using (show Q (.bl (decide (i=j))) H from h)⟩ rx ry
  | _=>exact pA hu I rx ry h
 | str i=>cases y with
  | str j=>exact sc (x:=.str i) (y:=.str j) ⟨rfl,by simpa using (show Q (.bl (decide (i=j))) H from h)⟩ rx ry
  | _=>exact pA hu I rx ry h
 | bl i=>cases y with
  | bl j=>exact sc (x:=.bl i) (y:=.bl j) ⟨rfl,by simpa using (show Q (.bl (decide (i=j))) H from h)⟩ rx ry
  | _=>exact pA hu I rx ry h
 | _=>cases y <;> exact pA hu I rx ry h
theorem p_ne(hu:X.A.units+64<cLine):K3 X (bc .NotEq) (rNeU X.K):=by
 intro aa s Y H x y v u Q I rx ry h;have sc:∀ {x y:V},rNe x y H Q->RelV x v->RelV y u->wpAny (model X.prog X.w) X.A (bc .NotEq v u) (EP X aa Y Q) X.xe s:=fun {x y} h rx ry=>op_ne aa s Y H x y v u Q I rx ry h
 cases x with
 | int i=>cases y with
  | int j=>exact sc (x:=.int i) (y:=.int j) ⟨rfl,by simpa using (show Q (.bl (!decide (i=j))) H from h)⟩ rx ry
  | _=>exact pB hu I rx ry h
 | str i=>cases y with
  | str j=>exact sc (x:=.str i) (y:=.str j) ⟨rfl,by simpa using (show Q (.bl (!decide (i=j))) H from h)⟩ rx ry
  | _=>exact pB hu I rx ry h
 | bl i=>cases y with
  | bl j=>exact sc (x:=.bl i) (y:=.bl j) ⟨rfl,by simpa using (show Q (.bl (!decide (i=j))) H from h)⟩ rx ry
  | _=>exact pB hu I rx ry h
 | _=>cases y <;> exact pB hu I rx ry h
theorem p_lt:K3 X (bc .Lt) rLtU:=by
 intro aa s Y H x y v u Q I rx ry h
 cases x <;> cases y <;> try exact h.elim
 .exact op_lt aa s Y H _ _ v u Q I rx ry ⟨_,_,rfl,rfl,h⟩
 .exact agz aa s Y H _ _ v u Q I rx ry ⟨_,_,rfl,rfl,h⟩
theorem p_le:K3 X (bc .LtE) rLeU:=by
 intro aa s Y H x y v u Q I rx ry h
 cases x <;> cases y <;> try exact h.elim
 .exact op_le aa s Y H _ _ v u Q I rx ry ⟨_,_,rfl,rfl,h⟩
 .obtain ⟨t,rfl⟩:=rx;obtain ⟨t',rfl⟩:=ry;exact PySem.P.le_str ⟨.bl _,H,I,by simp [RelV],h⟩
theorem p_gt:K3 X (bc .Gt) rGtU:=by
 intro aa s Y H x y v u Q I rx ry h
 cases x <;> cases y <;> try exact h.elim
 .exact op_gt aa s Y H _ _ v u Q I rx ry ⟨_,_,rfl,rfl,h⟩
 .obtain ⟨t,rfl⟩:=rx;obtain ⟨t',rfl⟩:=ry;exact PySem.P.gt_str ⟨.bl _,H,I,rfl,h⟩
theorem p_ge:K3 X (bc .GtE) rGeU:=by
 intro aa s Y H x y v u Q I rx ry h
 cases x <;> cases y <;> try exact h.elim
 .exact op_ge aa s Y H _ _ v u Q I rx ry ⟨_,_,rfl,rfl,h⟩
 .obtain ⟨t,rfl⟩:=rx;obtain ⟨t',rfl⟩:=ry;exact PySem.P.ge_str ⟨.bl _,H,I,by simp [RelV],h⟩
theorem p_in(hu:X.A.units+64<cLine):K3 X (bc .In) (rInU X.K false):=by
 intro aa s Y H x y v u Q I rx ry h
 cases y with
 | str j=>
  obtain ⟨i,rfl,q⟩:=h;exact akh aa s Y H _ _ v u Q I rx ry ⟨i,j,rfl,rfl,by simpa using q⟩
 | ref p=>
  rcases h with h | ⟨o,g,q⟩
  .exact aks aa s Y H _ _ v u Q I rx ry h
  .obtain rfl:u=ac.ref p:=ry;exact d_in (by lia) I g rx fun s3 I3=>⟨.bl o.isSome,H,I3,rfl,by simpa using q⟩
 | _=>exact h.elim
theorem aoF(hu:X.A.units+64<cLine):K3 X (bc .NotIn) (rInU X.K true):=by
 intro aa s Y H x y v u Q I rx ry h
 cases y with
 | str j=>
  obtain ⟨i,rfl,q⟩:=h;exact agH aa s Y H _ _ v u Q I rx ry ⟨i,j,rfl,rfl,by simpa using q⟩
 | ref p=>
  rcases h with h | ⟨o,g,q⟩
  .exact agG aa s Y H _ _ v u Q I rx ry h
  .obtain rfl:u=ac.ref p:=ry;exact aoy (by lia) I g rx fun s3 I3=>⟨.bl (!o.isSome),H,I3,rfl,by simpa using q⟩
 | _=>exact h.elim
noncomputable def cutS (x:Str) (lo hi:Option Int):Str:=⟨((x.cps.toList.drop (HT.sIx x.length 0 lo)).take (HT.sIx x.length x.length hi-HT.sIx x.length 0 lo)).toArray⟩
noncomputable def rSlS:V->Option Int->Option Int->Hp->VK->Prop:=fun x lo hi H Q=>∃ z,x=.str z/\z.length<=ak/\Q (.str (cutS z lo hi)) H
end
end L2
variable {C a b dx f fa it r sl:PySem.Addr}{dvs vs xs:List L2.V}{Q:L2.VK}{cd ct dc oc pm u v vl vu:PySem.Value}{c ck i j k m n t' x1:Nat}{items items2:Array PySem.Value}{fr ns:Am}{its us:List PySem.Value}{A:PySem.Around}{s zw:PySem.Shared}{v' y:L2.V}{Z m0 m1 name p q qual x z:PySem.Str}{aa:List (PySem.Addr×PySem.Obj)}{Y:L2.St}{H H' H0 H1 H2 H3 zt:L2.Hp}{h h':PySem.Heap}{L M N N' S acc bad g g' ks line loose ps ts ys zs:List PySem.Str}{K:aj}{mg:PySem.Str->Option PySem.Value}{fd:PySem.FuncData}{sp:L2.Sp}{X:L2.Cx}{kvs:List (L2.B1×L2.V)}{prog:PySem.Program}{E:PySem.Value->PySem.Shared->Prop}{ixs pre:An}{e elt iter target tg:PySem.Expr}{elts es ifs:List PySem.Expr}{tc td te tl to tx ty:L2.TE}{fp rs:List PySem.Addr}{apos cpos kpos pos' spos tpos:PySem.Pos}{calm fg neg:Bool}{st:PySem.Stmt}{an od:Option PySem.Addr}{tb:L2.TS}{D:L2.Ends}{lo sh:Int}{o:PySem.Obj}{ta:L2.TA}{ss:Array (Option PySem.Value)}
set_option maxRecDepth 100000
namespace L2
open PySem PySem.Spec PyProof.Rows
section
variable {X:Cx}
theorem akC(x:Str)(lo hi:Option Int):Txt.slice x lo hi=cutS x lo hi:=by
 have c1:∀ (o:Option Int) (d:Nat),(match o with | none=>(d:Int) | some i=>if (1:Int) > 0 then max 0 (min (if i<0 then i+(x.length:Int) else i) (x.length:Int)) else max (-1) (min (if i<0 then i+(x.length:Int) else i) ((x.length:Int)-1)))=((HT.sIx x.length d o:Nat):Int):=by
  intro o d
  cases o with
  | none=>rfl
  | some i=>
   rw [<- HT.clip_eq i x.length d];simp only [show ((1:Int) > 0)=True by simp,if_true]
   split <;> lia
 have h2:Builtin.Str.strSliceIndices lo hi 1 x.length=Builtin.Str.strSliceIndices (some ((HT.sIx x.length 0 lo:Nat):Int)) (some ((HT.sIx x.length x.length hi:Nat):Int)) 1 x.length:=by
  have e1:=c1 lo 0;have e2:=c1 hi x.length;have e3:=c1 (some ((HT.sIx x.length 0 lo:Nat):Int)) 0;have e4:=c1 (some ((HT.sIx x.length x.length hi:Nat):Int)) x.length;have l1:=HT.sIx_le x.length 0 (J7 _) lo;have l2:=HT.sIx_le x.length x.length (C1 _) hi;rw [HT.sIx_nat,eN l1] at e3;rw [HT.sIx_nat,eN l2] at e4;unfold Builtin.Str.strSliceIndices
  dsimp only at e3 e4 ⊢
  rw [e3,e4];clear e3 e4 l1 l2;refine congr (congr (congrArg sliceRange ?_) ?_) rfl
  .cases lo with
   | none=>exact e1
   | some i=>exact e1
  .cases hi with
   | none=>exact e2
   | some i=>exact e2
 have l1:=HT.sIx_le x.length 0 (J7 _) lo;have l2:=HT.sIx_le x.length x.length (C1 _) hi;unfold Txt.slice cutS;rw [h2];generalize HT.sIx x.length 0 lo=a at *;generalize HT.sIx x.length x.length hi=b at *;have len:x.length=x.cps.toList.length:=by simp [Str.length]
 by_cases aM:a<=b
 .rw [StrLaws.sliced_plain x aM l2,StrLaws.strSliceIndices_plain aM l2]
  split
  .rename_i hc
   have o5:b-a=x.length:=by simpa using hc
   have ha:a=0:=by lia
   subst ha;rw [List.drop_zero,i8 (by lia)]
  .rfl
 .have e:Builtin.Str.strSliceIndices (some (a:Int)) (some (b:Int)) 1 x.length=[]:=by
   have h1:¬ ((a:Int)<0):=by lia
   have h2:¬ ((b:Int)<0):=by lia
   have e1:max (0:Int) (min (a:Int) (x.length:Int))=a:=by lia
   have e2:max (0:Int) (min (b:Int) (x.length:Int))=b:=by lia
   simp only [Builtin.Str.strSliceIndices,sliceRange,h1,h2,if_false,e1,e2,show ((1:Int) > 0)=True from by simp,if_true];rw [if_neg (by lia)];rfl
  rw [e,show b-a=0 by lia,p7]
  split
  .rename_i hc
   have o5:0=x.length:=by simpa using hc
   have:x.cps.toList=[]:=sE (by lia)
   obtain ⟨⟨l⟩⟩:=x;simp at this;subst this;rfl
  .rfl
theorem arp:hW X rSlS:=by
 intro aa s Y H x v vl vu lo hi sl Q I rx hs pl pu h;obtain ⟨z,rfl,hz,q⟩:=h;obtain ⟨t,rfl⟩:=rx;refine ⟨"str",_,F.slot_str_getitem.lookup,typeIs_str _ _ _,?_⟩;rw [<- akC] at q;have part:∀ {u:ac} {o:Option Int},IsPart u o->∃ l:Option (Int×Tok),u=partValue l/\l.map (·.1)=o:=fun {u o} p=>by
  cases p with
  | none=>exact ⟨none,rfl,rfl⟩
  | int i t=>exact ⟨some (i,t),rfl,rfl⟩
 obtain ⟨l,rfl,el⟩:=part pl;obtain ⟨u,rfl,eu⟩:=part pu;subst el eu;refine wpAny_getItem_str_slice (l:=l) (u:=u) (st:=none) hs rfl ?_;exact post_val_or_str ⟨K9 (Txt.slice_le z _ _) hz,fun t' k=>⟨.str _,H,I.tok _,⟨t',rfl⟩,q⟩⟩
theorem adG{w:av}{t:ab}{lo hi:Option Int}{Q:Ac}(ht:IsTup s.heap t items)(hs:s.heap.IsSliceOf sl vl vu .none)(pl:IsPart vl lo)(pu:IsPart vu hi)(hw:HT.sIx items.size 0 lo=0/\HT.sIx items.size items.size hi=items.size)(h:Q (.ref t) s):wpAny (model prog w) A (getItem (.ref t) (.ref sl)) Q E s:=by
 obtain ⟨os,fS,qQ,mI⟩:=id hs;have hTs:s.TypeIs (.ref sl) "slice":=⟨os,fS,qQ⟩
 unfold getItem
 try with_reducible refine ce ?_
 first | refine ar (bb ?_) | skip
 refine ar (wpAny_sequenceKey ht.typeIs (by decide) ?_);refine ar (wpAny_callSpecial?_slot (name:=ai "__getitem__") ht.typeIs PyProof.Rows.slot_tuple_getitem
  (wpAny_call_entry PyProof.Rows.slot_tuple_getitem ht.typeIs PyProof.Rows.entry_tuple_getitem ?_ (PyProof.Rows.args_tuple_getitem _ _)))
 show wpAny _ _ (Builtin.Tuple.tupleItemsOf (.ref t) >>= _) _ _ s;refine ar (PyProof.Rows.tupleItemsOf_ ht ?_);refine ar (cf hTs ?_);rw [if_pos (by decide)];refine ar (HT.sliceApplied_gen hs pl pu ?_);have yC:((((HT.sIx items.size 0 lo:Nat):Int)==0&&(1:Int)==1&&(HT.sIx items.size items.size hi-HT.sIx items.size 0 lo)==items.size)=true):=by
  rw [hw.1,hw.2]
  simp
 show wpAny _ _ (if (((HT.sIx items.size 0 lo:Nat):Int)==0&&(1:Int)==1&&(HT.sIx items.size items.size hi-HT.sIx items.size 0 lo)==items.size)=true then _ else _) _ _ s;rw [if_pos yC];refine ar ?_;show wpAny _ _ (typeOf (.ref t) >>= fun v=>pure (v == .type "tuple")) _ _ s;refine ar (cf ht.typeIs (bb ?_));rw [if_pos (by decide)];refine ar (wpAny_rule ?_);exact bb ⟨_,rfl,bb h⟩
noncomputable def rSlW (K:aj):V->Option Int->Option Int->Hp->VK->Prop:=fun x lo hi H Q=>∃ a xs,x=.ref a/\C7 K H a xs/\(HT.sIx xs.length 0 lo=0/\HT.sIx xs.length xs.length hi=xs.length)/\Q (.ref a) H
theorem arq:hW X (rSlW X.K):=by
 intro aa s Y H x v vl vu lo hi sl Q I rx hs pl pu h;obtain ⟨a,xs,rfl,hx,hw,q⟩:=h
 cases rx
 obtain ⟨its,r,ht,hz⟩:=I.tuple hx;have A9:its.toArray.size=xs.length:=by rw [L4];exact r.length.symm
 refine ⟨"tuple",_,PyProof.Rows.slot_tuple_getitem.lookup,ht.typeIs,?_⟩;exact adG ht hs pl pu (by rw [A9];exact hw) ⟨.ref a,H,I,rfl,q⟩
noncomputable def rSlR (K:aj) (a:ab) (lo hi:Option Int) (H:Hp) (Q:VK):Prop:=rSlL K (.ref a) lo hi H Q\/rSlT K (.ref a) lo hi H Q\/rSlW K (.ref a) lo hi H Q
theorem rSlR.l{lo hi:Option Int}(h1:D9 K H a xs)(h:∀ p,H p=none->Q (.ref p) (A0 H p (.lst (cutV xs lo hi)))):rSlR K a lo hi H Q:=.inl ⟨a,xs,rfl,h1,h⟩
theorem rSlR.t{lo hi:Option Int}(h1:C7 K H a xs)(h2:¬ (HT.sIx xs.length 0 lo=0/\HT.sIx xs.length xs.length hi=xs.length))(h:∀ p,H p=none->Q (.ref p) (A0 H p (.tup (cutV xs lo hi)))):rSlR K a lo hi H Q:=.inr (.inl ⟨a,xs,rfl,h1,h2,h⟩)
theorem rSlR.w{lo hi:Option Int}(h1:C7 K H a xs)(h2:HT.sIx xs.length 0 lo=0/\HT.sIx xs.length xs.length hi=xs.length)(h:Q (.ref a) H):rSlR K a lo hi H Q:=.inr (.inr ⟨a,xs,rfl,h1,h2,h⟩)
noncomputable def rSlU (K:aj):V->Option Int->Option Int->Hp->VK->Prop
 | .str z,lo,hi,H,Q=>z.length<=ak/\Q (.str (cutS z lo hi)) H
 | .ref a,lo,hi,H,Q=>rSlR K a lo hi H Q
 | _,_,_,_,_=>False
theorem p_sl:hW X (rSlU X.K):=by
 intro aa s Y H x v vl vu lo hi sl Q I rx hs pl pu h
 cases x with
 | str z=>exact arp aa s Y H _ v vl vu lo hi sl Q I rx hs pl pu ⟨z,rfl,h⟩
 | ref a=>
  rcases h with h | h | h
  .exact aow aa s Y H _ v vl vu lo hi sl Q I rx hs pl pu h
  .exact arb aa s Y H _ v vl vu lo hi sl Q I rx hs pl pu h
  .exact arq aa s Y H _ v vl vu lo hi sl Q I rx hs pl pu h
 | _=>exact h.elim
noncomputable def LenR (K:aj) (H:Hp) (p:ab) (n:Nat):Prop:=(∃ xs,D9 K H p xs/\n=xs.length)\/(∃ xs,C7 K H p xs/\n=xs.length)\/∃ kvs,Rd H p (.dK kvs)/\n=kvs.length
noncomputable def rLenU (K:aj):Ao->Hp->VK->Prop
 | [.str z],H,Q=>z.length<=ak/\Q (.int z.length) H
 | [.ref p],H,Q=>∃ n:Nat,LenR K H p n/\Q (.int n) H
 | _,_,_=>False
theorem p_len:CallR X (.builtin "len") (rLenU X.K):=by
 intro aa s Y H xs us Q I r h
 match xs,h with
 | [.str z],h=>exact sQ aa s Y H _ us Q I r ⟨.str z,z.length,rfl,⟨h.1,rfl⟩,h.2⟩
 | [.ref p],⟨n,l,q⟩=>
  rcases l with ⟨xs,l,rfl⟩ | ⟨xs,l,rfl⟩ | ⟨kvs,l,rfl⟩
  .exact sQ aa s Y H _ us Q I r ⟨.ref p,_,rfl,.inl ⟨xs,l,rfl⟩,q⟩
  .exact sQ aa s Y H _ us Q I r ⟨.ref p,_,rfl,.inr ⟨xs,l,rfl⟩,q⟩
  .obtain ⟨u,rfl,ru⟩:=vals1 r
   cases ru
   exact d_len I l fun t s' I'=>⟨.int kvs.length,H,I',⟨t,rfl⟩,q⟩
theorem afg(hc:X.calm=true):CallR X (.type "list") (fun xs H Q=>∃ d kvs,xs=[.ref d]/\Rd H d (.dK kvs)/\∀ l,H l=none->Q (.ref l) (A0 H l (.lst (kvs.map fun kv=>kV kv.1)))):=by
 intro aa s Y H xs us Q I r h;obtain ⟨d,kvs,rfl,e,q⟩:=h;obtain ⟨u,rfl,rx⟩:=vals1 r
 cases rx
 obtain ⟨z,hd,vs,rel,dd⟩:=dk_rd I.hok e;obtain ⟨ep,O6⟩:=dd.dictAt;have hl:=rel.length;refine PySem.W.kdl_call (PySem.W.kdl_dict (knd:=P3 X.prog X.w) (kvs:=vs) (ep:=ep) hd) (I.ok.hd hc) O6 (by lia) fun h' tk acc c' kp hD mO=>?_
 have hv:Vals (kvs.map fun kv=>kV kv.1) acc.toList:=by
  have hk:=rel.keys;have A9:acc.toList.length=kvs.length:=by rw [eP,mO.1,hl]
  have key:∀ (ks:List B1) (us:Ae),us.length=ks.length->(∀ (j:Nat) (v:ac),us[j]?=some v->∃ k,ks[j]?=some k/\keyIs k v=true)->Vals (ks.map kV) us:=by
   intro ks
   induction ks with
   | nil=>intro us h1 _;cases us with
    | nil=>exact .nil
    | cons _ _=>simp at h1
   | cons k ks ih=>
    intro us h1 h2
    cases us with
    | nil=>simp at h1
    | cons u us=>
     obtain ⟨k',e1,e2⟩:=h2 0 u rfl;simp at e1;subst e1;refine .cons ?_ (ih us (by simpa using h1) fun j v hj=>by simpa using h2 (j+1) v (by simpa using hj))
     rcases q5 e2 with ⟨i,t,rfl,rfl⟩ | ⟨x,t,rfl,rfl⟩
     .exact ⟨t,rfl⟩
     .exact ⟨t,rfl⟩
  rw [show (kvs.map fun kv=>kV kv.1)=(kvs.map (·.1)).map kV by rw [j3];rfl];refine key _ _ (by rw [A9,A3]) fun j v hj=>?_
  obtain ⟨k,x,hx,yD⟩:=mO.2 j v (by rw [<- Array.getElem?_toList];exact hj);refine ⟨k,?_,yD⟩;rw [hk,U3,hx];rfl
 refine ⟨.ref s.heap.objs.size,_,I.laid (t':=tk) kp (C1 _) (show ObjOk X.prog X.w _ h' _ (.lst (kvs.map fun kv=>kV kv.1)) from ⟨by rw [A3];exact z,acc.toList,c',hv,by simpa using hD⟩),rfl,q _ (I.hok.fresh (C1 _))⟩
noncomputable def rListR (K:aj) (calm:Bool) (p:ab) (H:Hp) (Q:VK):Prop:=(∃ ys,(D9 K H p ys\/C7 K H p ys)/\∀ l,H l=none->Q (.ref l) (A0 H l (.lst ys)))\/(calm=true/\∃ kvs,Rd H p (.dK kvs)/\∀ l,H l=none->Q (.ref l) (A0 H l (.lst (kvs.map fun kv=>kV kv.1))))
theorem rListR.l{p:ab}{ys:Ao}(h1:D9 K H p ys\/C7 K H p ys)(h:∀ l,H l=none->Q (.ref l) (A0 H l (.lst ys))):rListR K calm p H Q:=.inl ⟨ys,h1,h⟩
theorem rListR.d{p:ab}(h1:Rd H p (.dK kvs))(h:∀ l,H l=none->Q (.ref l) (A0 H l (.lst (kvs.map fun kv=>kV kv.1)))):rListR K true p H Q:=.inr ⟨rfl,kvs,h1,h⟩
noncomputable def tO (K:aj) (calm:Bool):Ao->Hp->VK->Prop
 | [.ref p],H,Q=>rListR K calm p H Q
 | _,_,_=>False
theorem arr:CallR X (.type "list") (tO X.K X.calm):=by
 intro aa s Y H xs us Q I r h
 match xs,h with
 | [.ref p],h=>
  rcases h with ⟨ys,h1,h2⟩ | ⟨hc,kvs,h1,h2⟩
  .exact agI aa s Y H _ us Q I r ⟨p,ys,rfl,h1,h2⟩
  .exact afg hc aa s Y H _ us Q I r ⟨p,kvs,rfl,h1,h2⟩
noncomputable def rAllB (calm:Bool):Ao->Hp->VK->Prop
 | [.ref p],H,Q=>∃ bs:List Bool,calm=true/\H p=some (.lst (bs.map V.bl))/\Q (.bl (bs.all id)) H
 | _,_,_=>False
theorem p_all:CallR X (.builtin "all") (rAllB X.calm):=by
 intro aa s Y H xs us Q I r h
 match xs,h with
 | [.ref p],⟨bs,hc,hp,q⟩=>
  obtain ⟨u,rfl,rx⟩:=vals1 r
  cases rx
  obtain ⟨z,its,n,rv,hl,e⟩:=I.lstM hp;have pl:s.heap.IsList p its.toArray:=⟨_,e,rfl,n,rfl⟩
  refine call_all_walk (wpAny_pyIter_list pl ?_);have G0:p≠s.heap.objs.size:=O4 (ba e);have hk:∀ b o,s.heap.get? b=some o->(s.heap.push { cls:=.type "list_iterator",data:=.fields #[.ref p,.int 0 0] }).get? b=some o:=fun b o q=>bg _ q
  refine ⟨_,_,_,_,_,_,fun i=>(bs[i]?).getD true,rfl,Walks.list (show X.A.in1.handled=none from I.ok.hd hc) s.heap.objs.size p G0 its.toArray,⟨⟨_,br _ rfl,rfl,rfl⟩,pl.at fun o q=>hk p o q⟩,?_,?_⟩
  .intro i v s' Q' E' hv hq;have fP:its[i]?=some v:=by simpa using hv
   have hb:∃ b,bs[i]?=some b/\v=.bool b:=by
    cases eb:(bs.map V.bl)[i]? with
    | none=>
     have:=rv.none_of eb
     rw [fP] at this
     cases this
    | some y=>
     obtain ⟨u,h1,h2⟩:=rv.get eb;rw [fP] at h1;cases h1;rw [U3] at eb;cases e3:bs[i]? with
     | none=>rw [e3] at eb;cases eb
     | some b=>
      rw [e3] at eb;cases eb;exact ⟨b,rfl,h2⟩
   obtain ⟨b,e1,rfl⟩:=hb;have hq:Q' ((bs[i]?).getD true) s':=hq;rw [e1] at hq;exact wpAny_truthy_bool hq
  .intro h' tk v8;have e1:(U5 its.toArray.size).all (fun i=>(bs[i]?).getD true)=bs.all id:=by
    have W1:its.toArray.size=bs.length:=by simpa using hl.symm
    rw [W1,cJ,cF,cF]
    constructor
    .intro h b hb;obtain ⟨i,hi,rfl⟩:=X7.mp hb
     have:=h i (m7.mpr hi)
     simpa [hi] using this
    .intro h i hi;have mP:=m7.mp hi
     simpa [mP] using h bs[i] (gS mP)
   refine ⟨.bl (bs.all id),H,I.kept (t':=tk) fun b o q=>v8 b o ?_ (hk b o q),by rw [e1];rfl,q⟩;intro hb
   have:b=s.heap.objs.size:=by simpa using hb
   rw [this] at q;exact absurd (ba q) (m9 _)
noncomputable def eV (H:Hp):V->Option String
 | .non=>some "NoneType"
 | .bl _=>some "bool"
 | .int _=>some "int"
 | .str _=>some "str"
 | .ref a=>match H a with
  | some (.lst _)=>some "list"
  | some (.frz _ (.lst _))=>some "list"
  | some (.tup _)=>some "tuple"
  | some (.dK _)=>some "dict"
  | _=>none
 | _=>none
noncomputable def iF (T n:String):Bool:=T==n || (T == "bool" && n == "int")
noncomputable def isTys:List String:=["str", "int", "bool", "list", "tuple", "dict"]
noncomputable def rIsi:Ao->Hp->VK->Prop
 | [x,.ty n],H,Q=>∃ T,eV H x=some T/\isTys.contains n=true/\Q (.bl (iF T n)) H
 | _,_,_=>False
theorem ars{x:V}{T:String}(h:eV H x=some T):TyOf K H x (.type T)/\["NoneType", "bool", "int", "str", "list", "tuple", "dict"].contains T=true:=by
 cases x with
 | non=>cases h;exact ⟨.non,by decide⟩
 | bl b=>cases h;exact ⟨.bl b,by decide⟩
 | int i=>cases h;exact ⟨.int i,by decide⟩
 | str z=>cases h;exact ⟨.str z,by decide⟩
 | ref a=>
  unfold eV at h
  dsimp only at h
  cases e:H a with
  | none=>rw [e] at h;cases h
  | some o=>
   rw [e] at h
   cases o with
   | lst xs=>cases h;exact ⟨.lst e,by decide⟩
   | tup xs=>cases h;exact ⟨.tup e,by decide⟩
   | dK kvs=>cases h;exact ⟨.dK e,by decide⟩
   | frz ob u=>
    cases u with
    | lst xs=>cases h;exact ⟨.frz e,by decide⟩
    | _=>cases h
   | _=>cases h
 | _=>cases h
theorem aoG(K:aj):∀ T∈["NoneType", "bool", "int", "str", "list", "tuple", "dict"],∀ n∈isTys,PySem.W.kitOne K (.type T) (.type n)=some (iF T n):=by
 intro T hT n hn;simp only [D8,Q8,or_false,isTys] at hT hn
 rcases hT with rfl | rfl | rfl | rfl | rfl | rfl | rfl <;> rcases hn with rfl | rfl | rfl | rfl | rfl | rfl <;> rfl
theorem amx:CallR X (.builtin "isinstance") rIsi:=by
 intro aa s Y H xs us Q I r h
 match xs,h with
 | [x,.ty n],⟨T,h1,h2,q⟩=>
  obtain ⟨u,c,rfl,ru,rc⟩:=vals2 r;obtain rfl:c=ac.type n:=rc;obtain ⟨h3,h4⟩:=ars (K:=X.K) h1;exact akn I ru h3 (aoG X.K T (by simpa using h4) n (by simpa using h2)) fun tk=>⟨.bl _,H,I.tok tk,rfl,q⟩
noncomputable def rOrd:Ao->Hp->VK->Prop
 | [.str z],H,Q=>z.length=1/\Q (.int (z.cps.getD 0 0:Nat)) H
 | _,_,_=>False
theorem p_ord:CallR X (.builtin "ord") rOrd:=by
 intro aa s Y H xs us Q I r h
 match xs,h with
 | [.str z],h=>exact amg aa s Y H _ us Q I r ⟨z,rfl,h⟩
noncomputable def iG (x:Str):It:=⟨fun i _=>i<x.cps.size,fun i H v H'=>H'=H/\∃ c,x.cps.toList[i]?=some c/\v=.str ⟨#[c]⟩,fun i _=>x.cps.size<=i⟩
theorem amy{P:ax}{w:av}{ty:String}(X1:ty="str_ascii_iterator"\/ty="str_iterator")(it:ab)(x:Str)(t:Tok):Turn P w K tg (iG x) [it] it (fun i h=>h.IsStrIter it ty x t i) where
 mem:=by simp
 obj:=fun i h st b hb=>by
  have e:b=it:=by simpa using hb
  subst e;obtain ⟨o,e,c,d⟩:=st;exact ⟨o,e,fun v z=>by rw [d] at z;cases z⟩
 keep:=fun i h h' st k=>let ⟨o,e,r⟩:=st;⟨o,k it (by simp) o e,r⟩
 item:=by
  intro X hP hw hK hc i aa s Y H E I hf st hg;subst hP hw hK;obtain ⟨f0,f1,f2,f3,f4,f5⟩:=hf it (by simp);have dF:i<x.cps.size:=hg;have go:∀ h',h'.IsStrIter it ty x t (i+1)->au.SameBut it s.heap h'->∃ u,some (ac.str ⟨#[x.cps[i]]⟩ s.toks)=some u/\
    wpAny (model X.prog X.w) X.A (letOwnedTupleGo tg (.ref it) u) (fun _ s2=>∃ y H',Inv X aa Y H' s2/\RelV y u/\(iG x).yld i H y H'/\s2.heap.IsStrIter it ty x t (i+1)/\∀ b∈[it],H' b=none) E { s with heap:=h',toks:=s.toks+1 }:=by
   intro h' st' sb;have I1:Inv X aa Y H { s with heap:=h',toks:=s.toks+1 }:=I.turned (t':=s.toks+1) (fun b o hb e=>(sb.2 b hb).trans e) f0 f1 f3 f4 f5;obtain ⟨o,e,c,d⟩:=id st';refine ⟨_,rfl,go_of (s:={ s with heap:=h',toks:=s.toks+1 }) e c d (by rcases X1 with rfl | rfl <;> decide) ⟨.str ⟨#[x.cps[i]]⟩,H,I1,⟨_,rfl⟩,⟨rfl,x.cps[i],?_,rfl⟩,st',fun b hb=>(hf b hb).1⟩⟩;simp [dF]
  rcases X1 with rfl | rfl
  .exact wpAny_pyNext_ascii_item st (c:=x.cps[i]) (by simp [dF]) go
  .exact wpAny_pyNext_wide_item st (c:=x.cps[i]) (by simp [dF]) go
 done:=by
  intro X hP hw hK hc i aa s Y H E I hf st hg;subst hP hw hK;obtain ⟨f0,f1,f2,f3,f4,f5⟩:=hf it (by simp);have dF:x.cps.size<=i:=hg;have fin:∀ h',au.ExtBut it s.heap h'->(none:Ag)=none/\Inv X aa Y H { s with heap:=h' }:=fun h' eb=>⟨rfl,I.turned (t':=s.toks) (fun b o hb e=>eb b o hb e) f0 f1 f3 f4 f5⟩
  rcases X1 with rfl | rfl
  .exact wpAny_pyNext_ascii_end (I.ok.hd hc) st (by simp [dF]) fin
  .exact wpAny_pyNext_wide_end (I.ok.hd hc) st (by simp [dF]) fin
 self:=fun A i s Q E st h=>by
  rcases X1 with rfl | rfl
  .exact wpAny_pyIter_striter_ascii st h
  .exact wpAny_pyIter_striter_wide st h
noncomputable def iStr (tl:TE):TI:=fun Y H R=>tl Y H fun x H1=>∃ z,x=.str z/\R (iG z) H1
variable {tg:ao}
theorem art{l:ao}(hl:PE X l tl):PI X tg l (iStr tl):=by
 intro aa s Y H R I h;refine thnE (hl aa s Y H _ I h) fun v s1 x H1 I1 r1 q1=>?_
 obtain ⟨z,rfl,q⟩:=q1;obtain ⟨t,rfl⟩:=r1;have fin:∀ (ty:String) (X1:ty="str_ascii_iterator"\/ty="str_iterator"),sM X aa Y tg R (.ref s1.heap.objs.size) { s1 with heap:=s1.heap.push { cls:=.type ty,data:=.fields #[.str z t,.int 0 0] } }:=fun ty X1=>by
  refine ⟨s1.heap.objs.size,[s1.heap.objs.size],_,_,H1,rfl,I1.kept (t':=s1.toks) fun b o e=>bg _ e,amy X1 s1.heap.objs.size z t,⟨_,br _ rfl,rfl,rfl⟩,fun b hb=>?_,q⟩;have e:b=s1.heap.objs.size:=by simpa using hb
  subst e;exact I1.fpOk (C1 _) (I1.hok.fresh (C1 _))
 cases ha:z.cps.all (· < 128)
 .exact wpAny_pyIter_wide ha (fin _ (.inr rfl))
 .exact wpAny_pyIter_ascii ha (fin _ (.inl rfl))
end
end L2
set_option maxRecDepth 100000
namespace L2
open PySem PySem.Spec PyProof.Rows
noncomputable def F6:ao->Bool
 | .Starred _ _=>true
 | _=>false
noncomputable def W9 (es:Aj):Bool:=es.all fun e=>!F6 e
theorem M9{env:Env}(h:F6 e=false):bf (e::es) env=(false,eval e env)::bf es env:=by
 cases e <;> first | rfl | cases h
theorem eW{pos:aw}{env:Env} : ∀ {es:Aj},W9 es=true->(backTo pos (bf es env)).any (·.1)=false
 | [],_=>rfl
 | e::es,h=>by
  have h':(!F6 e&&W9 es)=true:=h;rw [V3] at h';rw [M9 (by simpa using h'.1)];have ih:=eW (pos:=pos) (env:=env) h'.2;unfold backTo at ih ⊢
  rw [E2,aZ,ih];rfl
theorem aiE{pos:aw}{env:Env} : ∀ {es:Aj},W9 es=true->(backTo pos (bf es env)).all (fun x=>!x.1)=true
 | [],_=>rfl
 | e::es,h=>by
  have h':(!F6 e&&W9 es)=true:=h;rw [V3] at h';rw [M9 (by simpa using h'.1)];have ih:=aiE (pos:=pos) (env:=env) h'.2;unfold backTo at ih ⊢
  rw [E2,List.all_cons,ih];rfl
section
variable {X:Cx} {e:ao} {es:Aj} {te:TE} {t:TA} {x:Str} {p pos:aw} {id T:String} {r:Ao->Hp->VK->Prop}
theorem pa_c(ha:PE X e te)(hr:PA X es t)(h:F6 e=false:=by rfl):PA X (e::es) (tCons te t):=aon ha hr (M9 h)
theorem pe_cB(hc:CallR X (.builtin id) r)(hg:Gl X x)(hm:X.mg x=none)(hv:bn x=some (.builtin id))(ha:PA X (e::es) t)(h1:F6 e=false:=by rfl)(h2:W9 es=true:=by rfl)(hn:x≠"__name__":=by decide)(Q9:(x==("__debug__" : Str))=false:=by decide) :
  PE X (.Call (.Name x p) (e::es) [] pos) (cP r t):=aml hc hg hm hv ha hn Q9 (M9 h1) (eW h2)
theorem pe_cT(hc:CallR X (.type T) r)(hg:Gl X x)(hm:X.mg x=none)(hv:bn x=some (.type T))(ha:PA X (e::es) t)(h1:F6 e=false:=by rfl)(h2:W9 es=true:=by rfl)(hn:x≠"__name__":=by decide)(Q9:(x==("__debug__" : Str))=false:=by decide) :
  PE X (.Call (.Name x p) (e::es) [] pos) (cP r t):=akq hc hg hm hv ha hn Q9 (M9 h1) (eW h2)
variable {o:ao} {to:TE} {name:Str} {apos cpos:aw} {rm:V->Ao->Hp->VK->Prop}
theorem pe_mB(pa:PlainAttrs T)(slot:Slot T name id)(X1:typeOf (.builtin id)=pure (.type "method_descriptor"))(hm:oV X id rm)(ho:PE X o to)(ha:PA X (e::es) t)(h1:F6 e=false:=by rfl)(h2:W9 es=true:=by rfl)(h3:decide ((e::es).length<30)=true:=by rfl)(G1:bu o name X.env (eval o X.env)=eval o X.env:=by rfl)(G2:(apos.endLine==cpos.line)=true:=by rfl):PE X (.Call (.Attribute o name apos) (e::es) [] cpos) (iA X.K T rm to t):=
 pe_bm pa slot X1 hm ho ha G1 (by
  rw [aiE (show W9 (e::es)=true by show (!F6 e&&W9 es)=true;rw [h1,h2];rfl)];have h3':(e::es).length<30:=of_decide_eq_true h3;simp only [List.isEmpty_nil,if_true,P9,Nat.add_zero,aA];rw [decide_eq_true h3'];rfl) G2 (M9 h1) (eW h2)
variable {tg a b:ao} {ta:TA}
theorem pi_r1(hg:Gl X "range")(hm:X.mg "range"=none)(ha:PA X [a] ta)(h1:F6 a=false:=by rfl):PI X tg (.Call (.Name "range" p) [a] [] pos) (iRng1 ta):=aka hg hm ha (by rw [M9 h1];rfl)
theorem pi_r2(hg:Gl X "range")(hm:X.mg "range"=none)(ha:PA X [a,b] ta)(h1:F6 a=false:=by rfl)(h2:F6 b=false:=by rfl):PI X tg (.Call (.Name "range" p) [a,b] [] pos) (iRng2 ta):=akb hg hm ha (by rw [M9 h1,M9 h2];rfl) (by rw [M9 h2];rfl)
end
noncomputable def FO (P:ax) (w:av) (K:aj) (mg:Str->Ag) (base:au) (k:Nat) (x:Str) (ps:Ab) (dvs:Ao) (sp:Sp):Prop:=
 ∃ f fd,FnOk P w K mg base D1 k f fd ps sp/\mg x=some (.ref f)/\Z4 K (.ref f)=true/\∃ ds,Binds K fd ps ds/\Vals dvs ds
structure FunD(K:aj)(x qual:Str)(st:aq)(f:ab)(fd:bx):Prop where
 ex:∃ (oc:ac) (od:Ah) (dV kV doc pm:ac) (an:Ah) (cdv ct:ac) (osl:Af),
  fd=X9 x qual (f7 st) (Z8 st) (B5 st) dV kV doc pm an cdv ct/\K.lookup f=some ⟨oc,od,.func fd,osl⟩/\p9 K cdv qual=true
section
variable {P:ax} {w:av} {K:aj} {mg:Str->Ag} {base:au}
theorem FunD.ok(F:FunD K x qual st f fd)(S:FnScope N ps (B5 st))(len:∀ vs H Q E,sp vs H Q E->vs.length=ps.length)(v4:∀ (cdv:ac) (A:ay) (outer:List Env) (s:ag) (H:Hp) (vs:Ao) (Q:VK) (E:XK),Room k (A.deeper (envOfC qual (B5 st) s.heap.objs.size f cdv))->sp vs H Q E->
   ∃ t,Z6 (cxOf D1 P w K mg base N qual (B5 st) f cdv A outer s H E).nox (Z8 st) t/\t { nx:=fun _ H'=>Q .non H',rt:=Q } (start N vs) H):FnOk P w K mg base D1 (k+1) f fd ps sp:=by
 obtain ⟨oc,od,dV,kV,doc,pm,an,cdv,ct,osl,rfl,lk,g3⟩:=F.ex;refine fn_of lk g3 S len fun A outer s H vs Q E hr g6=>?_
 obtain ⟨t,h,q⟩:=v4 cdv A outer s H vs Q E hr g6;exact ⟨t,h.nox,q⟩
theorem kY{osl:Af}{dV kV doc cdv:ac}(l:K.lookup f=some ⟨oc,od,.func (X9 x qual (f7 st) (Z8 st) (B5 st) dV kV doc pm an cdv ct),osl⟩)(c:p9 K cdv qual=true):FunD K x qual st f (X9 x qual (f7 st) (Z8 st) (B5 st) dV kV doc pm an cdv ct):=⟨oc,od,dV,kV,doc,pm,an,cdv,ct,osl,rfl,l,c⟩
end
section
variable {X:Cx} {k:Nat} {ps:Ab} {sp:Sp} {dvs:Ao} {x:Str} {p pos:aw} {e:ao} {es:Aj} {t:TA}
theorem amz(G:FO X.prog X.w X.K X.mg X.base k x ps dvs sp)(hr:Room k X.A)(ha:PA X (e::es) t)(hg:Gl X x:=by rfl)(h1:F6 e=false:=by rfl)(h2:W9 es=true:=by rfl)(Q9:(x==("__debug__" : Str))=false:=by decide):PE X (.Call (.Name x p) (e::es) [] pos) (tCall sp dvs E0 t):=by
 obtain ⟨f,fd,F,hm,hk,ds,hb,hd⟩:=G;exact aoo F hr hg hm hk hb hd pass0 ha Q9 (M9 h1) (eW h2)
theorem amA{i:Int}(h:∃ t,X.mg x=some (.int i t))(hg:Gl X x:=by rfl)(hd:(x==("__debug__" : Str))=false:=by decide):PE X (.Name x p) (tC (.int i)):=by
 obtain ⟨t,h⟩:=h;exact aj7 hg h ⟨t,rfl⟩ hd
theorem amB(h:X.mg x=some (.ref a))(hg:Gl X x:=by rfl)(hd:(x==("__debug__" : Str))=false:=by decide):PE X (.Name x p) (tC (.ref a)):=aj7 hg h rfl hd
end
section
variable {Y:St} {H:Hp} {Q:VK} {B:Bool->Hp->Prop} {ta tb tc te:TE} {t u:TS} {tt uu:TT} {D:Ends} {i:Nat} {v:V} {r r':R2} {K:aj} {taa:TA} {R:Ao->Hp->Prop} {g:TG}
theorem tP:tVar i Y H Q=∃ v,(Y[i]?).join=some v/\Q v H:=by
 unfold tVar;refine propext ⟨fun ⟨v,h,q⟩=>⟨v,by rw [h];rfl,q⟩,fun ⟨v,h,q⟩=>⟨v,?_,q⟩⟩;cases e:Y[i]? with
 | none=>rw [e] at h;cases h
 | some o=>rw [e] at h;exact congrArg some h
theorem ap_c:tC v Y H Q=Q v H:=rfl
theorem ap_op:j5 r ta tb Y H Q=ta Y H fun x H1=>tb Y H1 fun y H2=>r x y H2 Q:=rfl
theorem ap_un{ru:V->Hp->VK->Prop} : sN ru ta Y H Q=ta Y H fun x H1=>ru x H1 Q:=rfl
theorem ap_rU{f:Int->V}{x:V} : rU f x H Q=∃ i,x=.int i/\Q (f i) H:=rfl
theorem aoH:tTest ta Y H B=ta Y H fun x H'=>∃ k,x=.bl k/\B k H':=rfl
theorem ap_tB:tB ta Y H B=ta Y H fun x H'=>∃ k,x=.bl k/\B k H':=rfl
theorem aoI:tTru K ta Y H B=ta Y H fun x H'=>∃ k,TruV K x H' k/\B k H':=rfl
theorem aoJ:tNotT K ta Y H Q=ta Y H fun x H'=>∃ k,TruV K x H' k/\Q (.bl (!k)) H':=rfl
theorem amC:sP r r' ta tb tc Y H Q=ta Y H fun x H1=>tb Y H1 fun y H2=>r x y H2 fun z H3=>∃ k,z=.bl k/\(if k=true then tc Y H3 fun w' H4=>r' y w' H4 Q else Q (.bl false) H3):=rfl
theorem aru:tAnd tt uu Y H B=tt Y H fun c H1=>if c=true then uu Y H1 B else B false H1:=rfl
theorem ap_or:sG tt uu Y H B=tt Y H fun c H1=>if c=true then B true H1 else uu Y H1 B:=rfl
theorem arv:tNot tt Y H B=tt Y H fun c H1=>B (!c) H1:=rfl
theorem aoK:tAndV ta tb Y H Q=ta Y H fun x H1=>∃ c,x=.bl c/\if c=true then tb Y H1 Q else Q (.bl false) H1:=rfl
theorem arw:tOrV ta tb Y H Q=ta Y H fun x H1=>∃ c,x=.bl c/\if c=true then Q (.bl true) H1 else tb Y H1 Q:=rfl
theorem aoL:tNotV ta Y H Q=ta Y H fun x H1=>∃ c,x=.bl c/\Q (.bl (!c)) H1:=rfl
theorem ap_if:sH tt ta tb Y H Q=tt Y H fun c H1=>if c=true then ta Y H1 Q else tb Y H1 Q:=rfl
theorem aoM:tNext D Y H=D.nx Y H:=rfl
theorem arx:tSeq t u D Y H=t { D with nx:=u D } Y H:=rfl
theorem amD:aqP D Y H=D.bk Y H:=rfl
theorem aoN:tCont D Y H=D.ct Y H:=rfl
theorem aoO:tDrop te D Y H=te Y H fun _ H1=>D.nx Y H1:=rfl
theorem ary:tRet te D Y H=te Y H D.rt:=rfl
theorem aoP:tRetN D Y H=D.rt .non H:=rfl
theorem arz:tIfS tt t u D Y H=tt Y H fun b H1=>if b=true then t D Y H1 else u D Y H1:=rfl
theorem amE:sI D Y H=False:=rfl
theorem aoQ{Z:Ar} : gName i v Y H Z=Z (Y.set i (some v)) H:=rfl
theorem aoR{Z:Ar} : gNil vs Y H Z=(vs=[]/\Z Y H):=rfl
theorem amF{us:n5}{Z:Ar} : gCons g us vs Y H Z=∃ v r,vs=v::r/\g v Y H fun σ' H'=>us r σ' H' Z:=rfl
theorem aoS{us:n5}{Z:Ar} : gTup K n us v Y H Z=∃ a xs,v=.ref a/\C7 K H a xs/\xs.length=n/\us xs Y H Z:=rfl
theorem aoT{ts:TSet}{Z:Ar} : gSub ta tb ts v Y H Z=ta Y H fun o H1=>tb Y H1 fun i H2=>ts o i v H2 fun H3=>Z Y H3:=rfl
theorem arA:tAsg te g D Y H=te Y H fun x H1=>g x Y H1 D.nx:=rfl
theorem arB{ti:cN} : tAug i te ti D Y H=∃ x,(Y[i]?).join=some x/\te Y H fun y H1=>ti x y H1 fun z H2=>D.nx (Y.set i (some z)) H2:=tP (Q:=fun x H=>te Y H fun y H1=>ti x y H1 fun z H2=>D.nx (Y.set i (some z)) H2)
theorem arC{f:Int->Int->Int}{x:V} : sK f x y H Q=∃ i j,x=.int i/\y=.int j/\Q (.int (f i j)) H:=rfl
theorem aoU:tCons te taa Y H R=te Y H fun x H1=>taa Y H1 fun xs H2=>R (x::xs) H2:=rfl
theorem arD:tNil Y H R=R [] H:=rfl
theorem aoV{E:XK} : tCall sp dvs E taa Y H Q=taa Y H fun vs H1=>sp (vs++dvs) H1 Q E:=rfl
theorem ap_cb{rc:Ao->Hp->VK->Prop} : cP rc taa Y H Q=taa Y H fun vs H1=>rc vs H1 Q:=rfl
theorem arE:tTup taa Y H Q=taa Y H fun xs H1=>xs.length<=ak/\∀ p,H1 p=none->Q (.ref p) (A0 H1 p (.tup xs)):=rfl
theorem arF:tLst taa Y H Q=taa Y H fun xs H1=>xs.length<=ak/\∀ p,H1 p=none->Q (.ref p) (A0 H1 p (.lst xs)):=rfl
theorem ap_sl{rs:V->Option Int->Option Int->Hp->VK->Prop}{tl th:TO} : sW rs te tl th Y H Q=te Y H fun x H1=>tl Y H1 fun l H2=>th Y H2 fun u H3=>rs x l u H3 Q:=rfl
theorem akF{O:Option Int->Hp->Prop} : sV Y H O=O none H:=rfl
theorem aoW{O:Option Int->Hp->Prop} : tPart te Y H O=te Y H fun x H1=>∃ i,x=.int i/\O (some i) H1:=rfl
theorem ap_bm{T:String}{rm:V->Ao->Hp->VK->Prop} : iA K T rm te taa Y H Q=te Y H fun x H1=>bF K T x H1/\taa Y H1 fun xs H2=>rm x xs H2 Q:=rfl
theorem arG{T:String}{rm:V->Ao->Hp->VK->Prop} : tBM0 K T rm te Y H Q=te Y H fun x H1=>bF K T x H1/\rm x [] H1 Q:=rfl
theorem arH:tYes Y H B=B true H:=rfl
theorem aoX:tI Y H Q=∀ p,H p=none->Q (.ref p) (A0 H p (.dK [])):=rfl
theorem aoY:tDGet ta tb Y H Q=ta Y H fun x H1=>tb Y H1 fun y H2=>∃ a v,x=.ref a/\DGet H2 a y (some v)/\Q v H2:=rfl
theorem aoZ:sDPut ta tb tc D Y H=tc Y H fun v H1=>ta Y H1 fun x H2=>tb Y H2 fun y H3=>∃ a H4,x=.ref a/\DPut H3 a y v H4/\D.nx Y H4:=rfl
theorem ao0{rd:V->V->Hp->VK->Prop} : sDAug ta tb tc rd D Y H=ta Y H fun x H1=>tb Y H1 fun y H2=>∃ a v,x=.ref a/\DGet H2 a y (some v)/\tc Y H2 fun y2 H3=>rd v y2 H3 fun z H4=>∃ H5,DPut H4 a y z H5/\D.nx Y H5:=rfl
theorem ao1{x:V} : t7 (fun i j=>V.int (i-j)) x y H Q=∃ i j,x=.int i/\y=.int j/\Q (.int (i-j)) H:=rfl
theorem amG{x:V} : rI CDiv (fun i j=>V.int (i / j)) x y H Q=∃ i j,x=.int i/\y=.int j/\(0<j/\j<1073741824)/\Q (.int (i / j)) H:=rfl
theorem ao2{x:V} : rI (fun _ j=>0<j) (fun i j=>V.int (i % j)) x y H Q=∃ i j,x=.int i/\y=.int j/\0<j/\Q (.int (i % j)) H:=rfl
theorem ao3 : bF K "str" (.str z) H=True:=by simp [bF]
noncomputable def ForIt (J:It) (g:TG) (tb:TS) (D:Ends) (Y:St) (H1:Hp):Prop:=∃ W:Nat->Nat->Ar,(∃ m,W 0 m Y H1)/\∀ i m Y H,W i m Y H->
 (J.stop i H/\D.nx Y H)\/(J.go i H/\∃ N:Ar,(∀ σ' H',N σ' H'->∃ m',m'<m/\W (i+1) m' σ' H')/\∀ x H',J.yld i H x H'->g x Y H' fun σ2 H2=>tb { D with nx:=N,ct:=N,bk:=D.nx } σ2 H2)
theorem arI{wi:TI}{tbs:TS} : tFor wi g tbs D Y H=wi Y H fun J H1=>ForIt J g tbs D Y H1:=rfl
theorem amH{Z:It->Hp->Prop} : iList K te Y H Z=te Y H fun x H1=>∃ a,x=.ref a/\(∃ xs,D9 K H1 a xs)/\Z (aD K a) H1:=rfl
theorem ao4{Z:It->Hp->Prop} : iTup K te Y H Z=te Y H fun x H1=>∃ a,x=.ref a/\(∃ xs,C7 K H1 a xs)/\Z (cO K a) H1:=rfl
theorem ao5{Z:It->Hp->Prop} : iStr te Y H Z=te Y H fun x H1=>∃ z,x=.str z/\Z (iG z) H1:=rfl
theorem amI{Z:It->Hp->Prop} : iRng1 taa Y H Z=taa Y H fun vs H1=>∃ j:Int,vs=[.int j]/\-(2 ^ 62)<=j/\j<2 ^ 62/\Z (s0 0 j.toNat) H1:=rfl
theorem amJ{Z:It->Hp->Prop} : iRng2 taa Y H Z=taa Y H fun vs H1=>∃ i j:Int,vs=[.int i,.int j]/\(-(2 ^ 62)<=i/\i<2 ^ 62/\-(2 ^ 62)<=j/\j<2 ^ 62)/\Z (s0 i (j-i).toNat) H1:=rfl
noncomputable def cS (J:It) (k:Nat) (ixs:An) (g:TG) (c:TT) (te:TE) (Y:St) (Q:VK) (H1:Hp):Prop:=∀ D,H1 D=none->
 ∃ (n:Nat) (W:Nat->Ao->Ar),W 0 [] (compStart k ixs Y) (A0 H1 D (.lst []))/\∀ i ys σ2 H2,W i ys σ2 H2->H2 D=some (.lst ys)->
  (J.stop i H2/\Q (.ref D) H2)\/
  (i<n/\J.go i H2/\∀ x H',J.yld i H2 x H'->g x σ2 H' fun σ3 H3=>c σ3 H3 fun b H4=>
   if b=true then te σ3 H4 fun y H5=>H5 D=some (.lst ys)/\ys.length<ak/\W (i+1) (ys++[y]) σ3 (A0 H5 D (.lst (ys++[y])))
   else H4 D=some (.lst ys)/\W (i+1) ys σ3 H4)
theorem ao6{wi:TI} : tComp wi k ixs g tt te Y H Q=wi Y H fun J H1=>cS J k ixs g tt te Y Q H1:=rfl
end
theorem ao7{b k:Bool} : TruV K (.bl b) H k=(k=b):=rfl
theorem amK{i:Int}{k:Bool} : TruV K (.int i) H k=(k=(i != 0)):=rfl
theorem amL{k:Bool} : TruV K (.str z) H k=(z.length<=ak/\k=((z.length:Int) != 0)):=rfl
theorem amM{k:Bool} : TruV K .non H k=(k=false):=rfl
theorem amN : start N vs=vs.map some++U4 (N.length-vs.length) none:=rfl
theorem agR : compStart k ixs Y=U4 k none++ixs.map fun i=>(Y[i]?).join:=rfl
theorem ao8{i:Int} : hX K (.str z) (.int i) H Q=∃ c,z.length<=ak/\K6 z.cps.toList i=some c/\Q (.str ⟨#[c]⟩) H:=by
 simp only [hX,rIxL,rIxT,rIxS];refine propext ⟨fun h=>?_,fun ⟨c,h⟩=>.inr (.inr ⟨z,i,c,rfl,rfl,h⟩)⟩
 rcases h with ⟨p,xs,j,v,e,_⟩ | ⟨p,xs,j,v,e,_⟩ | ⟨z',i',c,e1,e2,h⟩
 .cases e
 .cases e
 .cases e1;cases e2;exact ⟨c,h⟩
theorem ao9{p:ab}{i:Int} : hX K (.ref p) (.int i) H Q=∃ xs v,(D9 K H p xs\/C7 K H p xs)/\K6 xs i=some v/\Q v H:=by
 simp only [hX,rIxL,rIxT,rIxS];refine propext ⟨fun h=>?_,fun ⟨xs,v,h,r⟩=>?_⟩
 .rcases h with ⟨p',xs,j,v,e1,e2,h1,h2⟩ | ⟨p',xs,j,v,e1,e2,h1,h2⟩ | ⟨z',i',c,e1,e2,h⟩
  .cases e1;cases e2;exact ⟨xs,v,.inl h1,h2⟩
  .cases e1;cases e2;exact ⟨xs,v,.inr h1,h2⟩
  .cases e1
 .rcases h with h | h
  .exact .inl ⟨p,xs,i,v,rfl,rfl,h,r⟩
  .exact .inr (.inl ⟨p,xs,i,v,rfl,rfl,h,r⟩)
theorem pC{α:Type}{xs:List α}{i:Int}(h0:0<=i)(h1:i<xs.length):∃ v,K6 xs i=some v/\v∈xs:=by
 have C4:i.toNat<xs.length:=by lia
 refine ⟨xs[i.toNat],?_,gS C4⟩;unfold K6 j6;rw [if_pos h0,if_pos h1];simp [C4]
theorem arJ:bn "len"=some (.builtin "len"):=by decide +kernel
theorem adf:bn "isinstance"=some (.builtin "isinstance"):=by decide +kernel
theorem tQ:bn "all"=some (.builtin "all"):=by decide +kernel
theorem anE:bn "any"=some (.builtin "any"):=by decide +kernel
theorem arK:bn "ord"=some (.builtin "ord"):=by decide +kernel
theorem arL:bn "min"=some (.builtin "min"):=by decide +kernel
theorem bH:bn "list"=some (.type "list"):=by decide +kernel
theorem cT:bn "tuple"=some (.type "tuple"):=by decide +kernel
theorem akH:bn "dict"=some (.type "dict"):=by decide +kernel
theorem anF:bn "str"=some (.type "str"):=by decide +kernel
theorem arM:bn "int"=some (.type "int"):=by decide +kernel
section
variable {K:aj} {H:Hp} {Q:VK} {i j:Int} {x y:Str} {u v:V} {b c:Bool} {p q:ab} {lo hi:Option Int} {cm:Bool}
theorem ad_ii:rAddU K (.int i) (.int j) H Q=Q (.int (i+j)) H:=rfl
theorem ad_ss:rAddU K (.str x) (.str y) H Q=(x.length+y.length<=ak/\Q (.str (x++y)) H):=rfl
theorem ad_rr:rAddU K (.ref p) (.ref q) H Q=rAddR K p q H Q:=rfl
theorem mu_ii:rMulU (.int i) (.int j) H Q=(CMul i j/\Q (.int (i*j)) H):=rfl
theorem mu_ri:rMulU (.ref p) (.int j) H Q=rRep (.ref p) (.int j) H Q:=rfl
theorem eq_ii:rEqU K (.int i) (.int j) H Q=Q (.bl (decide (i=j))) H:=rfl
theorem eq_ss:rEqU K (.str x) (.str y) H Q=Q (.bl (decide (x=y))) H:=rfl
theorem eq_bb:rEqU K (.bl b) (.bl c) H Q=Q (.bl (decide (b=c))) H:=rfl
theorem eq_rx:rEqU K (.ref p) v H Q=∃ d e,Dn K H (.ref p) d/\Dn K H v e/\min d.depth e.depth<=60/\Q (.bl (Y0 d e)) H:=by cases v <;> rfl
theorem eq_xr:rEqU K v (.ref p) H Q=∃ d e,Dn K H v d/\Dn K H (.ref p) e/\min d.depth e.depth<=60/\Q (.bl (Y0 d e)) H:=by cases v <;> rfl
theorem ne_ii:rNeU K (.int i) (.int j) H Q=Q (.bl (!decide (i=j))) H:=rfl
theorem ne_ss:rNeU K (.str x) (.str y) H Q=Q (.bl (!decide (x=y))) H:=rfl
theorem ne_bb:rNeU K (.bl b) (.bl c) H Q=Q (.bl (!decide (b=c))) H:=rfl
theorem ne_rx:rNeU K (.ref p) v H Q=∃ d e,Dn K H (.ref p) d/\Dn K H v e/\min d.depth e.depth<=60/\Q (.bl (!PyData.eqv d e)) H:=by cases v <;> rfl
theorem ne_xr:rNeU K v (.ref p) H Q=∃ d e,Dn K H v d/\Dn K H (.ref p) e/\min d.depth e.depth<=60/\Q (.bl (!PyData.eqv d e)) H:=by cases v <;> rfl
theorem lt_ii:rLtU (.int i) (.int j) H Q=Q (.bl (decide (i<j))) H:=rfl
theorem lt_ss:rLtU (.str x) (.str y) H Q=Q (.bl (decide (x.cps.toList<y.cps.toList))) H:=rfl
theorem le_ii:rLeU (.int i) (.int j) H Q=Q (.bl (decide (i<=j))) H:=rfl
theorem le_ss:rLeU (.str x) (.str y) H Q=Q (.bl (!decide (y.cps.toList<x.cps.toList))) H:=rfl
theorem gt_ii:rGtU (.int i) (.int j) H Q=Q (.bl (decide (j<i))) H:=rfl
theorem gt_ss:rGtU (.str x) (.str y) H Q=Q (.bl (decide (y.cps.toList<x.cps.toList))) H:=rfl
theorem ge_ii:rGeU (.int i) (.int j) H Q=Q (.bl (decide (j<=i))) H:=rfl
theorem ge_ss:rGeU (.str x) (.str y) H Q=Q (.bl (!decide (x.cps.toList<y.cps.toList))) H:=rfl
theorem in_xs:rInU K b u (.str x) H Q=∃ i,u=.str i/\Q (.bl (b.xor (!(Builtin.Str.occurrences x i 0 x.length 1).isEmpty))) H:=rfl
theorem in_xr:rInU K b u (.ref p) H Q=rInR K b u p H Q:=rfl
theorem sl_s:rSlU K (.str x) lo hi H Q=(x.length<=ak/\Q (.str (cutS x lo hi)) H):=rfl
theorem sl_r:rSlU K (.ref p) lo hi H Q=rSlR K p lo hi H Q:=rfl
theorem len_s:rLenU K [.str x] H Q=(x.length<=ak/\Q (.int x.length) H):=rfl
theorem len_r:rLenU K [.ref p] H Q=∃ n:Nat,LenR K H p n/\Q (.int n) H:=rfl
theorem arN:tO K cm [.ref p] H Q=rListR K cm p H Q:=rfl
theorem all_r:rAllB cm [.ref p] H Q=∃ bs:List Bool,cm=true/\H p=some (.lst (bs.map V.bl))/\Q (.bl (bs.all id)) H:=rfl
theorem isi_t{n:String} : rIsi [u,.ty n] H Q=∃ T,eV H u=some T/\isTys.contains n=true/\Q (.bl (iF T n)) H:=rfl
theorem ord_s:rOrd [.str x] H Q=(x.length=1/\Q (.int (x.cps.getD 0 0:Nat)) H):=rfl
end
theorem forL{g:TG}(Pv:Nat->Ar)(h0:Pv 0 Y H)(hl:∀ i Y H,i<=xs.length->Pv i Y H->D9 K H a xs)(hs:∀ i x Y H,xs[i]?=some x->Pv i Y H->g x Y H fun σ2 H2=>tb { D with nx:=Pv (i+1),ct:=Pv (i+1),bk:=D.nx } σ2 H2)(hd:∀ Y H,Pv xs.length Y H->D.nx Y H):ForIt (aD K a) g tb D Y H:=amd Pv h0 hl hs hd
theorem forT{g:TG}(Pv:Nat->Ar)(h0:Pv 0 Y H)(hl:∀ i Y H,i<=xs.length->Pv i Y H->C7 K H a xs)(hs:∀ i x Y H,xs[i]?=some x->Pv i Y H->g x Y H fun σ2 H2=>tb { D with nx:=Pv (i+1),ct:=Pv (i+1),bk:=D.nx } σ2 H2)(hd:∀ Y H,Pv xs.length Y H->D.nx Y H):ForIt (cO K a) g tb D Y H:=aof Pv h0 hl hs hd
theorem forR{g:TG}(Pv:Nat->Ar)(h0:Pv 0 Y H)(hs:∀ i Y H,i<n->Pv i Y H->g (.int (lo+i)) Y H fun σ2 H2=>tb { D with nx:=Pv (i+1),ct:=Pv (i+1),bk:=D.nx } σ2 H2)(hd:∀ Y H,Pv n Y H->D.nx Y H):ForIt (s0 lo n) g tb D Y H:=akd Pv h0 hs hd
noncomputable def CW (n:Nat) (fr:St) (Pv:Nat->Ao->Hp->Prop) (i:Nat) (ys:Ao) (σ2:St) (H2:Hp):Prop:=i<=n/\ys.length<=i/\(∃ v,σ2=v::fr)/\Pv i ys H2
theorem CW.put{fr:St}{Pv:Nat->Ao->Hp->Prop}{ys:Ao}{o:Ap}(hi:i<n)(hy:ys.length<=i)(p:Pv (i+1) (ys++[y]) H):CW n fr Pv (i+1) (ys++[y]) (o::fr) H:=
 ⟨hi,by rw [C6,V2];lia,⟨_,rfl⟩,p⟩
theorem kZ{fr:St}{Pv:Nat->Ao->Hp->Prop}{ys:Ao}{o:Ap}(hi:i<n)(hy:ys.length<=i)(p:Pv (i+1) ys H):CW n fr Pv (i+1) ys (o::fr) H:=⟨hi,Nat.le_succ_of_le hy,⟨_,rfl⟩,p⟩
theorem compL{c:TT}(fr:St)(l7:compStart 1 ixs Y=none::fr)(Pv:ab->Nat->Ao->Hp->Prop)(h0:∀ D,H1 D=none->Pv D 0 [] (A0 H1 D (.lst [])))(hl:∀ D i ys H,H1 D=none->i<=xs.length->Pv D i ys H->D9 K H a xs)(hs:∀ D i x ys H,H1 D=none->i<xs.length->xs[i]?=some x->Pv D i ys H->H D=some (.lst ys)->ys.length<=i->c (some x::fr) H fun b H4=>
   if b=true then te (some x::fr) H4 fun y H5=>H5 D=some (.lst ys)/\ys.length<ak/\CW xs.length fr (Pv D) (i+1) (ys++[y]) (some x::fr) (A0 H5 D (.lst (ys++[y])))
   else H4 D=some (.lst ys)/\CW xs.length fr (Pv D) (i+1) ys (some x::fr) H4)(hd:∀ D ys H,H1 D=none->Pv D xs.length ys H->H D=some (.lst ys)->ys.length<=xs.length->Q (.ref D) H):cS (aD K a) 1 ixs (gName 0) c te Y Q H1:=by
 intro D hD;refine ⟨xs.length,CW xs.length fr (Pv D),⟨J7 _,J7 _,⟨none,l7⟩,h0 D hD⟩,?_⟩;rintro i ys σ2 H2 ⟨hi,hy,⟨v,rfl⟩,p⟩ hDy;have q:=hl D i ys H2 hD hi p
 by_cases C4:i<xs.length
 .refine .inr ⟨C4,⟨xs,xs[i],q,by simp [C4]⟩,fun x H' y=>?_⟩;obtain ⟨e,y⟩:=y;subst e;exact hs D i x ys _ hD C4 (y xs q) p hDy hy
 .have e:i=xs.length:=by lia
  subst e;exact .inl ⟨⟨xs,q,C1 _⟩,hd D ys H2 hD p hDy hy⟩
theorem compT{c:TT}(fr:St)(l7:compStart 1 ixs Y=none::fr)(Pv:ab->Nat->Ao->Hp->Prop)(h0:∀ D,H1 D=none->Pv D 0 [] (A0 H1 D (.lst [])))(hl:∀ D i ys H,H1 D=none->i<=xs.length->Pv D i ys H->C7 K H a xs)(hs:∀ D i x ys H,H1 D=none->i<xs.length->xs[i]?=some x->Pv D i ys H->H D=some (.lst ys)->ys.length<=i->c (some x::fr) H fun b H4=>
   if b=true then te (some x::fr) H4 fun y H5=>H5 D=some (.lst ys)/\ys.length<ak/\CW xs.length fr (Pv D) (i+1) (ys++[y]) (some x::fr) (A0 H5 D (.lst (ys++[y])))
   else H4 D=some (.lst ys)/\CW xs.length fr (Pv D) (i+1) ys (some x::fr) H4)(hd:∀ D ys H,H1 D=none->Pv D xs.length ys H->H D=some (.lst ys)->ys.length<=xs.length->Q (.ref D) H):cS (cO K a) 1 ixs (gName 0) c te Y Q H1:=by
 intro D hD;refine ⟨xs.length,CW xs.length fr (Pv D),⟨J7 _,J7 _,⟨none,l7⟩,h0 D hD⟩,?_⟩;rintro i ys σ2 H2 ⟨hi,hy,⟨v,rfl⟩,p⟩ hDy;have q:=hl D i ys H2 hD hi p
 by_cases C4:i<xs.length
 .refine .inr ⟨C4,⟨xs,xs[i],q,by simp [C4]⟩,fun x H' y=>?_⟩;obtain ⟨e,y⟩:=y;subst e;exact hs D i x ys _ hD C4 (y xs q) p hDy hy
 .have e:i=xs.length:=by lia
  subst e;exact .inl ⟨⟨xs,q,C1 _⟩,hd D ys H2 hD p hDy hy⟩
theorem compS{c:TT}(fr:St)(l7:compStart 1 ixs Y=none::fr)(Pv:ab->Nat->Ao->Hp->Prop)(h0:∀ D,H1 D=none->Pv D 0 [] (A0 H1 D (.lst [])))(hs:∀ D i x ys H,H1 D=none->i<z.cps.size->z.cps.toList[i]?=some x->Pv D i ys H->H D=some (.lst ys)->ys.length<=i->c (some (.str ⟨#[x]⟩)::fr) H fun b H4=>
   if b=true then te (some (.str ⟨#[x]⟩)::fr) H4 fun y H5=>H5 D=some (.lst ys)/\ys.length<ak/\CW z.cps.size fr (Pv D) (i+1) (ys++[y]) (some (.str ⟨#[x]⟩)::fr) (A0 H5 D (.lst (ys++[y])))
   else H4 D=some (.lst ys)/\CW z.cps.size fr (Pv D) (i+1) ys (some (.str ⟨#[x]⟩)::fr) H4)(hd:∀ D ys H,H1 D=none->Pv D z.cps.size ys H->H D=some (.lst ys)->ys.length<=z.cps.size->Q (.ref D) H):cS (iG z) 1 ixs (gName 0) c te Y Q H1:=by
 intro D hD;refine ⟨z.cps.size,CW z.cps.size fr (Pv D),⟨J7 _,J7 _,⟨none,l7⟩,h0 D hD⟩,?_⟩;rintro i ys σ2 H2 ⟨hi,hy,⟨v,rfl⟩,p⟩ hDy
 by_cases C4:i<z.cps.size
 .refine .inr ⟨C4,C4,fun x H' y=>?_⟩;obtain ⟨e,c,hc,rfl⟩:=y;subst e;exact hs D i c ys _ hD C4 hc p hDy hy
 .have e:i=z.cps.size:=by lia
  subst e;exact .inl ⟨C1 _,hd D ys H2 hD p hDy hy⟩
theorem A7{p q:ab}{o u:HO}(h:H p=some o)(n:H q=none):A0 H q u p=some o:=by rw [A4 (q9 h n)];exact h
theorem Same.new{q:ab}{u:HO}(n:H q=none):Same H (A0 H q u):=fun _ _ h=>A7 h n
theorem Same.put{q:ab}{u:HO}(s:Same H0 H)(n:H0 q=none):Same H0 (A0 H q u):=fun b o h=>by rw [A4 (q9 h n)];exact s b o h
end L2
set_option maxRecDepth 100000
namespace L2
open PySem PySem.Spec PyProof.Rows
theorem cxK{CX:Y2}{P:ax}{w:av}{base:au}{sc:bj}{o:List Env}{E:XK} : (cxOf CX P w K mg base N q sc f cd A o s H E).K=K:=rfl
theorem cxKn : X.nox.K=X.K:=rfl
theorem cxKb{sc:bj} : (D7 X sc N' C zw zt fp aa).K=X.K:=rfl
theorem cxC{CX:Y2}{P:ax}{w:av}{base:au}{sc:bj}{o:List Env}{E:XK} : (cxOf CX P w K mg base N q sc f cd A o s H E).calm=true:=rfl
theorem cxCn : X.nox.calm=X.calm:=rfl
theorem cxCb{sc:bj} : (D7 X sc N' C zw zt fp aa).calm=X.calm:=rfl
theorem iteD{c A B:Prop}[Decidable c](h1:c->A)(h2:¬ c->B):if decide c=true then A else B:=by
 by_cases h:c
 .rw [decide_eq_true h,if_pos rfl];exact h1 h
 .rw [decide_eq_false h,if_neg L9];exact h2 h
theorem iteN{c A B:Prop}[Decidable c](h1:¬ c->A)(h2:c->B):if (!decide c)=true then A else B:=by
 by_cases h:c
 .rw [decide_eq_true h];exact iteF (h2 h)
 .rw [decide_eq_false h];exact iteT (h1 h)
theorem M7{p:ab}(h:H p=some (.lst xs)):bF K "list" (.ref p) H:=.inl ⟨rfl,_,D9.of h⟩
theorem appOk{l:ab}(h:H l=some (.lst xs))(hz:xs.length<ak)(q:Q .non (A0 H l (.lst (xs++[y])))):cR (.ref l) [y] H Q:=⟨l,xs,y,rfl,rfl,h,hz,q⟩
theorem G4(h:n<=1000000):n<ak:=Nat.lt_of_le_of_lt h (by decide)
theorem O2(h:n<=1000000):n<=ak:=cI (G4 h)
noncomputable def signB (c:Nat):Bool:=decide (33<=c)&&decide (c<=126)&&decide (c≠37)
noncomputable def Q2 (z:Str):Bool:=decide (1<=z.length)&&decide (z.length<=2)&&z.cps.toList.all signB
theorem cU(h:Q2 z=true):cM z=true/\1<=z.length/\z.length<=2:=by
 unfold Q2 at h;simp only [V3,decide_eq_true_eq] at h;refine ⟨?_,h.1.1,h.1.2⟩;unfold cM;rw [Array.all_eq_true_iff_forall_mem];intro c hc
 have:=cF.mp h.2 c (Array.mem_toList_iff.mpr hc)
 unfold signB at this;simp only [V3,decide_eq_true_eq] at this;simp only [decide_eq_true_eq];lia
theorem akI(h:signB c=true):Q2 ⟨#[c]⟩=true:=by
 unfold Q2;simp [Str.length,h]
theorem akJ(x y:Str):(x++y).cps.toList=x.cps.toList++y.cps.toList:=by
 show (x.cps++y.cps).toList=_
 simp
theorem tR(x:Str):x.length=x.cps.toList.length:=by simp [Str.length]
theorem ahT(x y:Str):(x++y).length=x.length+y.length:=by rw [tR,akJ,C6,tR,tR]
theorem akK{d:Nat}(h:signB c=true)(h':signB d=true):Q2 ((⟨#[c]⟩:Str)++⟨#[d]⟩)=true:=by
 unfold Q2;rw [ahT,akJ];simp [Str.length,h,h']
noncomputable def SG:An:=[33,34,35,36]++(U5 89).map (· + 38)
theorem aqa:∀ c∈SG,signB c=true:=by decide +kernel
theorem tS:SG.length=93:=by decide +kernel
structure IsRows(H:Hp)(a:ab)(rs:Ai)(zss:Aa):Prop where
 top:H a=some (.lst (rs.map V.ref))
 row:Paired (fun r (zs:Ab)=>H r=some (.lst (zs.map V.str))) rs zss
theorem IsRows.same{zss:Aa}(R:IsRows H a rs zss)(s:Same H H'):IsRows H' a rs zss:=⟨s _ _ R.top,L7 R.row fun _ _ h=>s _ _ h⟩
theorem Paired.at{α β:Type}{F:α->β->Prop} : ∀ {l₁:List α} {l₂:List β} {i:Nat} {a:α},Paired F l₁ l₂->l₁[i]?=some a->∃ b,l₂[i]?=some b/\F a b
 | _,_,_,_,.nil,h=>by simp at h
 | _,_,0,_,.cons h t,e=>by simp at e;subst e;exact ⟨_,rfl,h⟩
 | _,_,i+1,_,.cons h t,e=>by
  obtain ⟨b,h1,h2⟩:=Paired.at (i:=i) t (by simpa using e);exact ⟨b,by simpa using h1,h2⟩
theorem afv:∀ zs:Ab,cL (zs.map PyData.str)=0
 | []=>rfl
 | z::zs=>by rw [E2,cL,afv zs,eO];rfl
theorem pD:∀ zs:Am,cL (zs.map bD)=0
 | []=>rfl
 | z::zs=>by rw [E2,cL,pD zs,eO];rfl
theorem tT(xs ys:Ab):Y0 (.list (xs.map .str)) (.list (ys.map .str))=decide (xs=ys):=by rw [Y0,aeB]
noncomputable def dd (acc:Ab) (z:Str):Ab:=if z∈acc then acc else acc++[z]
noncomputable def G7 (acc zs:Ab):Ab:=zs.foldl dd acc
noncomputable def toldL (zss:Aa):Ab:=zss.foldl G7 []
theorem eX(zs:Ab):∀ acc:Ab,(G7 acc zs).length<=acc.length+zs.length:=by
 induction zs with
 | nil=>intro acc;exact C1 _
 | cons z zs ih=>
  intro acc;have h1:=ih (dd acc z);have h2:(dd acc z).length<=acc.length+1:=by
   unfold dd
   split
   .lia
   .simp
  show (G7 (dd acc z) zs).length<=_;rw [E5];lia
theorem aiG(h:zs[j]?=some z):G7 acc (zs.take (j+1))=dd (G7 acc (zs.take j)) z:=by
 rw [V7,h];simp [G7,Z0]
theorem akM{zss:Aa}(h:zss[i]?=some zs):toldL (zss.take (i+1))=G7 (toldL (zss.take i)) zs:=by
 rw [V7,h];simp [toldL,Z0]
theorem pE(zss:Aa):∀ acc,zss.foldl G7 acc=G7 acc zss.flatten:=by
 induction zss with
 | nil=>intro acc;rfl
 | cons zs zss ih=>
  intro acc;rw [y9,ih,p6];unfold G7;rw [Z0]
theorem lA(zss:Aa):(toldL zss).length<=zss.flatten.length:=by
 unfold toldL;rw [pE]
 have:=eX zss.flatten []
 simpa using this
noncomputable def kvOf (zs:Ab):List (B1×V):=zs.map fun z=>(Sum.inr z,V.bl true)
theorem tU(z:Str):∀ acc:Ab,((kvOf acc).any fun kv=>decide (kv.1=(Sum.inr z:B1)))=decide (z∈acc)
 | []=>by simp [kvOf]
 | y::acc=>by
  have ih:=tU z acc;unfold kvOf at ih ⊢
  rw [E2,aZ,ih]
  by_cases e:y=z
  .subst e
   simp
  .have e1:decide ((Sum.inr y:B1)=Sum.inr z)=false:=decide_eq_false fun q=>e (Sum.inr.inj q)
   have e2:decide (z∈y::acc)=decide (z∈acc):=by
    by_cases h:z∈acc
    .rw [decide_eq_true h,decide_eq_true (G6 _ h)]
    .rw [decide_eq_false h,decide_eq_false];intro q
     rcases D8.mp q with q | q
     .exact e q.symm
     .exact h q
   rw [e2];simp only [e1,Bool.false_or]
theorem tV(acc:Ab)(z:Str):putK (kvOf acc) (Sum.inr z:B1) (.bl true)=kvOf (dd acc z):=by
 unfold putK dd;rw [tU]
 by_cases h:z∈acc
 .rw [decide_eq_true h,if_pos rfl,if_pos h];unfold kvOf;rw [j3];refine kH fun y _=>?_
  show (if (Sum.inr y:B1)=Sum.inr z then ((Sum.inr y:B1),V.bl true) else (Sum.inr y,V.bl true))=_
  split <;> rfl
 .rw [decide_eq_false h,if_neg L9,if_neg h];unfold kvOf;rw [D0];rfl
theorem akN(acc:Ab):((kvOf acc).map fun kv=>kV kv.1)=acc.map V.str:=by
 unfold kvOf;rw [j3];rfl
theorem lB(z:Str):∀ acc:Ab,aE (.str z) (acc.map V.str)=decide (z∈acc)
 | []=>by simp [aE]
 | y::acc=>by
  have ih:=lB z acc;unfold aE at ih ⊢
  rw [E2,aZ,ih];show ((y==z) || decide (z∈acc))=_
  by_cases e:y=z
  .subst e
   simp
  .have e1:(y==z)=false:=by simpa using e
   rw [e1,Bool.false_or]
   by_cases h:z∈acc
   .rw [decide_eq_true h,decide_eq_true (G6 _ h)]
   .rw [decide_eq_false h,decide_eq_false];intro q
    rcases D8.mp q with q | q
    .exact e q.symm
    .exact h q
theorem pF:∀ acc:Ab,(acc.map V.str).all flatV=true
 | []=>rfl
 | _::acc=>by rw [E2,List.all_cons,pF acc];rfl
theorem G8{α β:Type}{f:α->β}{l:List α}{y:β}(h:(l.map f)[i]?=some y):∃ x,l[i]?=some x/\y=f x:=by
 rw [U3] at h;cases e:l[i]? with
 | none=>rw [e] at h;cases h
 | some x=>rw [e] at h;exact ⟨x,rfl,(bh h).symm⟩
noncomputable def SS:Str:=ai "!\"#$&'()*+,-./0123456789:;<=>?@ABCDEFGHIJKLMNOPQRSTUVWXYZ[\\]^_`"++ai "abcdefghijklmnopqrstuvwxyz{|}~"
theorem SS_eq:SS.cps.toList=SG:=by decide +kernel
theorem iH:SS.length<=ak:=by decide +kernel
theorem aqb:(ai "!\"#$&'()*+,-./0123456789:;<=>?@ABCDEFGHIJKLMNOPQRSTUVWXYZ[\\]^_`").length+(ai "abcdefghijklmnopqrstuvwxyz{|}~").length<=ak:=by decide +kernel
theorem SS_at{i:Int}(h0:0<=i)(h1:i<93):∃ c,K6 SS.cps.toList i=some c/\signB c=true:=by
 rw [SS_eq];obtain ⟨c,h2,h3⟩:=pC (xs:=SG) h0 (by rw [tS];exact h1);exact ⟨c,h2,aqa c h3⟩
theorem drawn{i:Int}(hx:∀ x∈xs,∃ n,x=V.int n)(h0:0<=i)(h1:i<xs.length):∃ n,K6 xs i=some (V.int n):=by
 obtain ⟨v,h2,h3⟩:=pC h0 h1;obtain ⟨n,rfl⟩:=hx v h3;exact ⟨n,h2⟩
theorem tW{α β:Type}{F:α->β->Prop}{a:α}{b:β} : ∀ {l₁:List α} {l₂:List β},Paired F (l₁++[a]) (l₂++[b])->Paired F l₁ l₂/\F a b
 | [],[],.cons h _=>⟨.nil,h⟩
 | [],y::l₂,h=>by
  have:=Paired.length h
  simp at this
 | x::l₁,[],h=>by
  have:=Paired.length h
  simp at this
 | x::l₁,y::l₂,.cons h t=>by
  obtain ⟨h1,h2⟩:=tW (l₁:=l₁) (l₂:=l₂) t;exact ⟨.cons h h1,h2⟩
theorem iI{α β:Type}{F G:α->β->Prop} : ∀ {l₁:List α} {l₂:List β},Paired F l₁ l₂->(∀ a∈l₁,∀ b,F a b->G a b)->Paired G l₁ l₂
 | _,_,.nil,_=>.nil
 | _,_,.cons h t,k=>.cons (k _ G3 _ h) (iI t fun a ha b hb=>k a (G6 _ ha) b hb)
structure RowsAt(H0 H:Hp)(a:ab)(rs:Ai)(zss:Aa):Prop where
 rows:IsRows H a rs zss
 nd:(a::rs).Nodup
 new:∀ r∈a::rs,H0 r=none
 same:Same H0 H
theorem RowsAt.live{zss:Aa}(R:RowsAt H0 H a rs zss)(h:r∈a::rs):∃ o,H r=some o:=by
 rcases D8.mp h with h | h
 .subst h;exact ⟨_,R.rows.top⟩
 .obtain ⟨i,hi,rfl⟩:=X7.mp h;obtain ⟨zs,_,h2⟩:=Paired.at R.rows.row (i:=i) (a:=rs[i]) (by simp [hi]);exact ⟨_,h2⟩
theorem RowsAt.adds{q:ab}{zss:Aa}(R:RowsAt H0 H a rs zss)(hq:H q=none)(zs:Ab):RowsAt H0 (A0 (A0 H q (.lst (zs.map V.str))) a (.lst (rs.map V.ref++[V.ref q]))) a (rs++[q]) (zss++[zs]):=by
 have nq:∀ r∈a::rs,r≠q:=fun r hr z=>by
  obtain ⟨o,e⟩:=R.live hr;rw [z,hq] at e;cases e
 obtain ⟨na,_⟩:=T6.mp R.nd;refine ⟨⟨by rw [A1,D0];rfl,?_⟩,?_,?_,?_⟩
 .refine Paired.snoc (iI R.rows.row fun r hr zs h=>?_) ?_
  .rw [A4 (fun z:r=a=>na (by rw [<- z];exact hr)),A4 (nq r (G6 _ hr))];exact h
  .rw [A4 (nq a G3).symm,A1]
 .show (a::(rs++[q])).Nodup;exact oX R.nd fun h=>nq q h rfl
 .intro r hr
  rcases D8.mp hr with h | h
  .exact R.new r (by rw [h];exact G3)
  .rcases J9.mp h with h | h
   .exact R.new r (G6 _ h)
   .rw [J8.mp h];exact R.same.free hq
 .exact (R.same.put (R.same.free hq)).put (R.new a G3)
theorem RowsAt.add{q:ab}{zss:Aa}(R:RowsAt H0 H a rs zss)(hq:H q=none):RowsAt H0 (A0 (A0 H q (.lst [])) a (.lst (rs.map V.ref++[V.ref q]))) a (rs++[q]) (zss++[[]]):=R.adds hq []
theorem arO{i:Int}(hx:∀ x∈xs,∃ n,x=V.int n)(h0:0<=i)(h1:i<xs.length):∃ n,K6 xs i=some (V.int n)/\V.int n∈xs:=by
 obtain ⟨v,h2,h3⟩:=pC h0 h1;obtain ⟨n,rfl⟩:=hx v h3;exact ⟨n,h2,h3⟩
theorem agS(x:Str)(lo hi:Option Int):(cutS x lo hi).cps.toList=(x.cps.toList.drop (HT.sIx x.length 0 lo)).take (HT.sIx x.length x.length hi-HT.sIx x.length 0 lo):=by
 unfold cutS
 simp
end L2
set_option maxRecDepth 100000
namespace L2
open PySem PySem.Spec PyProof.Rows
structure QE(X:Cx)(e:ao)(t:TE):Prop where
 out:PE X e t
structure QT(X:Cx)(e:ao)(t:TT):Prop where
 out:PT X e t
structure QW(X:Cx)(e:ao)(t:TT):Prop where
 out:PW X e t
structure QA(X:Cx)(es:Aj)(t:TA):Prop where
 out:PA X es t
structure QS(X:Cx)(st:aq)(t:TS):Prop where
 out:PS X st t
structure QSs(X:Cx)(st:List aq)(t:TS):Prop where
 out:Z6 X st t
structure QG(X:Cx)(tg:ao)(t:TG):Prop where
 out:PG X tg t
structure QGs(X:Cx)(tg:Aj)(t:n5):Prop where
 out:kT X tg t
structure QI(X:Cx)(tg iter:ao)(wi:TI):Prop where
 out:PI X tg iter wi
structure QO(X:Cx)(e:Option ao)(t:TO):Prop where
 out:PO X e t
structure QIfs(X:Cx)(ifs:Aj)(t:TT):Prop where
 out:PIfs X ifs t
structure QOp(X:Cx)(f:ac->ac->Sem ac)(r:R2):Prop where
 out:K3 X f r
structure QUn(X:Cx)(f:ac->Sem ac)(r:V->Hp->VK->Prop):Prop where
 out:oR X f r
structure QCall(X:Cx)(f:ac)(r:Ao->Hp->VK->Prop):Prop where
 out:CallR X f r
structure QMt(X:Cx)(id:String)(r:V->Ao->Hp->VK->Prop):Prop where
 out:oV X id r
structure QIp(X:Cx)(op:Operator)(t:cN):Prop where
 out:sJ X op t
structure QIn(X:Cx)(op:Operator)(t:V->V->Hp->VK->Prop):Prop where
 out:InOp X op t
section
variable {X:Cx} {a b c e o i value:ao} {es:Aj} {ta tb tc te to ti tv:TE} {tA tB':TT} {t u:TS} {tl:TA} {pos p pos' tpos:aw} {rest:Aj} {r r':R2} {x:Str}
theorem A2{i j} : QE X (.Constant (.int i) j pos) (tC (.int i)):=⟨anx⟩
theorem qe_bl{b j} : QE X (.Constant (.bool b) j pos) (tC (.bl b)):=⟨pe_bl⟩
theorem bI{j} : QE X (.Constant .none j pos) (tC .non):=⟨aqI⟩
theorem I0{x j} : QE X (.Constant (.str x) j pos) (tC (.str x)):=⟨aqJ⟩
theorem qe_v(hN:X.N[n]?=some x)(hv:gZ X.env.scope x)(hd:(x==("__debug__" : Str))=false)(g3:(x==("__classdict__" : Str))=false):QE X (.Name x pos) (tVar n):=⟨anw hN hv hd g3⟩
theorem qv(n:Nat)(hN:X.N[n]?=some x:=by rfl)(hv:gZ X.env.scope x:=by first | exact Or.inl rfl | exact Or.inr (Or.inl rfl) | exact Or.inr (Or.inr rfl))(hd:(x==("__debug__" : Str))=false:=by decide)(g3:(x==("__classdict__" : Str))=false:=by decide):QE X (.Name x pos) (tVar n):=⟨anw hN hv hd g3⟩
theorem eY{i:Int}(h:∃ t,X.mg x=some (.int i t))(hg:Gl X x:=by rfl)(hd:(x==("__debug__" : Str))=false:=by decide):QE X (.Name x p) (tC (.int i)):=⟨amA h hg hd⟩
theorem aF{a:ab}(h:X.mg x=some (.ref a))(hg:Gl X x:=by rfl)(hd:(x==("__debug__" : Str))=false:=by decide):QE X (.Name x p) (tC (.ref a)):=⟨amB h hg hd⟩
theorem qe_ty{n:String}(hm:X.mg x=none)(hv:bn x=some (.type n))(hg:Gl X x:=by rfl)(hn:x≠"__name__":=by decide)(hd:(x==("__debug__" : Str))=false:=by decide):QE X (.Name x p) (tC (.ty n)):=⟨an7 hg hm hv rfl hn hd⟩
theorem qe_op{op:Operator}(ho:QOp X (bo op) r)(ha:QE X a ta)(hb:QE X b tb):QE X (.BinOp a op b pos) (j5 r ta tb):=⟨pe_op ho.out ha.out hb.out⟩
theorem qe_un{op:UnaryOp}{r:V->Hp->VK->Prop}(ho:QUn X (unaryOp op) r)(ha:QE X a ta):QE X (.UnaryOp op a pos) (sN r ta):=⟨pe_un ho.out ha.out⟩
theorem aqc(ha:QE X a ta)(hK:X.K=K:=by rfl):QE X (.UnaryOp .Not a pos) (tNotT K ta):=by subst hK;exact ⟨aoE ha.out⟩
theorem iJ{op}(ha:QE X a ta):QE X (.BoolOp op [a] pos) ta:=⟨aqN ha.out⟩
theorem cV(ha:QE X a ta)(hb:QE X (.BoolOp .And (b::rest) pos) tb):QE X (.BoolOp .And (a::b::rest) pos) (tAndV ta tb):=⟨aqO ha.out hb.out⟩
theorem lC{op:CmpOp}(ho:QOp X (bc op) r)(ha:QE X a ta)(hb:QE X b tb)(hm:behindInMarks op b=false:=by first | exact anA _ | rfl):QE X (.Compare a [op] [b] pos) (j5 r ta tb):=⟨aoi ho.out ha.out hb.out hm⟩
theorem lD{op op':CmpOp}(ho:QOp X (bc op) r)(u8:QOp X (bc op') r')(ha:QE X a ta)(hb:QE X b tb)(hc:QE X c tc)(hm:lastMarks [op,op'] [b,c]=false:=by with_unfolding_all rfl):QE X (.Compare a [op,op'] [b,c] pos) (sP r r' ta tb tc):=⟨ame ho.out u8.out ha.out hb.out hc.out hm⟩
theorem iK(hc:QT X c tA)(ha:QE X a ta)(hb:QE X b tb):QE X (.IfExp c a b pos) (sH tA ta tb):=⟨al8 hc.out ha.out hb.out⟩
theorem R9:QA X [] tNil:=⟨aq7⟩
theorem qa_c(ha:QE X e te)(hr:QA X es tl)(h:F6 e=false:=by rfl):QA X (e::es) (tCons te tl):=⟨pa_c ha.out hr.out h⟩
theorem O9(h:QA X es tl):QE X (.List es pos) (tLst tl):=⟨aq9 h.out⟩
theorem Q3{x1}(h:QA X es tl):QE X (.Tuple es x1 pos) (tTup tl):=⟨aq8 h.out⟩
theorem t8:QE X (.Dict [] [] pos) tI:=⟨ams⟩
theorem X0:QO X none sV:=⟨aos⟩
theorem N7(h:QE X e te):QO X (some e) (tPart te):=⟨aot h.out⟩
theorem Q4{lo hi:Option ao}{tlo thi:TO}{p2:aw}(he:QE X e te)(hl:QO X lo tlo)(hu:QO X hi thi)(hK:X.K=K:=by rfl):QE X (.Subscript e (.Slice lo hi none p2) pos) (sW (rSlU K) te tlo thi):=by subst hK;exact ⟨amn p_sl he.out hl.out hu.out⟩
theorem Y4(hu:X.A.units+1<cLine)(ho:QE X o to)(hi:QE X i ti)(hs:NoSl i:=by exact fun _ _=>rfl):QE X (.Subscript o i pos) (tDGet to ti):=⟨aoz hu ho.out hi.out hs⟩
theorem qe_ix(ha:QE X a ta)(hb:QE X b tb)(hs:akr b:=by exact fun _ _=>rfl)(hK:X.K=K:=by rfl):QE X (.Subscript a b pos) (j5 (hX K) ta tb):=by subst hK;exact ⟨pe_ix ard ha.out hb.out hs⟩
theorem qe_cB{id:String}{rc:Ao->Hp->VK->Prop}(hc:QCall X (.builtin id) rc)(hm:X.mg x=none)(hv:bn x=some (.builtin id))(ha:QA X (e::es) tl)(hg:Gl X x:=by rfl)(h1:F6 e=false:=by rfl)(h2:W9 es=true:=by rfl)(hn:x≠"__name__":=by decide)(Q9:(x==("__debug__" : Str))=false:=by decide) :
  QE X (.Call (.Name x p) (e::es) [] pos) (cP rc tl):=⟨pe_cB hc.out hg hm hv ha.out h1 h2 hn Q9⟩
theorem qe_cT{T:String}{rc:Ao->Hp->VK->Prop}(hc:QCall X (.type T) rc)(hm:X.mg x=none)(hv:bn x=some (.type T))(ha:QA X (e::es) tl)(hg:Gl X x:=by rfl)(h1:F6 e=false:=by rfl)(h2:W9 es=true:=by rfl)(hn:x≠"__name__":=by decide)(Q9:(x==("__debug__" : Str))=false:=by decide) :
  QE X (.Call (.Name x p) (e::es) [] pos) (cP rc tl):=⟨pe_cT hc.out hg hm hv ha.out h1 h2 hn Q9⟩
theorem qe_mB{T id:String}{rm:V->Ao->Hp->VK->Prop}(pa:PlainAttrs T)(slot:Slot T name id)(X1:typeOf (.builtin id)=pure (.type "method_descriptor"))(hm:QMt X id rm)(ho:QE X o to)(ha:QA X (e::es) tl)(h1:F6 e=false:=by rfl)(h2:W9 es=true:=by rfl)(h3:decide ((e::es).length<30)=true:=by rfl)(G1:bu o name X.env (eval o X.env)=eval o X.env:=by rfl)(G2:(apos.endLine==cpos.line)=true:=by rfl)(hK:X.K=K:=by rfl):QE X (.Call (.Attribute o name apos) (e::es) [] cpos) (iA K T rm to tl):=by subst hK;exact ⟨pe_mB pa slot X1 hm.out ho.out ha.out h1 h2 h3 G1 G2⟩
theorem qe_m0{T id:String}{rm:V->Ao->Hp->VK->Prop}(pa:PlainAttrs T)(slot:Slot T name id)(X1:typeOf (.builtin id)=pure (.type "method_descriptor"))(hm:QMt X id rm)(ho:QE X o to)(G1:bu o name X.env (eval o X.env)=eval o X.env:=by rfl)(G2:(apos.endLine==cpos.line)=true:=by rfl)(hK:X.K=K:=by rfl):QE X (.Call (.Attribute o name apos) [] [] cpos) (tBM0 K T rm to):=by subst hK;exact ⟨arf pa slot X1 hm.out ho.out G1 G2⟩
theorem amO(G:FO X.prog X.w X.K X.mg X.base k x ps dvs sp)(hr:Room k X.A)(ha:QA X (e::es) tl)(hg:Gl X x:=by rfl)(h1:F6 e=false:=by rfl)(h2:W9 es=true:=by rfl)(Q9:(x==("__debug__" : Str))=false:=by decide) :
  QE X (.Call (.Name x p) (e::es) [] pos) (tCall sp dvs E0 tl):=⟨amz G hr ha.out hg h1 h2 Q9⟩
theorem D6{op:CmpOp}(ho:QOp X (bc op) r)(ha:QE X a ta)(hb:QE X b tb)(hm:behindInMarks op b=false:=by first | exact anA _ | rfl):QT X (.Compare a [op] [b] pos) (tTest (j5 r ta tb)):=⟨aoj ho.out ha.out hb.out hm⟩
theorem eZ(ha:QT X a tA):QT X (.UnaryOp .Not a pos) (tNot tA):=⟨aqM ha.out⟩
theorem fA(ha:QT X a tA):QW X (.BoolOp .And [a] pos) tA:=⟨an8 ha.out⟩
theorem lE(ha:QT X a tA):QW X (.BoolOp .Or [a] pos) tA:=⟨aqK ha.out⟩
theorem fB(ha:QT X a tA)(hb:QW X (.BoolOp .And (b::rest) pos) tB'):QW X (.BoolOp .And (a::b::rest) pos) (tAnd tA tB'):=⟨aqL ha.out hb.out⟩
theorem qw_or(ha:QT X a tA)(hb:QW X (.BoolOp .Or (b::rest) pos) tB'):QW X (.BoolOp .Or (a::b::rest) pos) (sG tA tB'):=⟨pw_or ha.out hb.out⟩
theorem QW.pt(h:QW X a tA):QT X a tA:=⟨h.out.pt⟩
theorem T7(ha:QE X a ta)(he:∀ whole,isTrue a X.env whole=(do let v <- whole;standAt a.pos;holding [v] (truthy v)):=by intro _;rfl)(hK:X.K=K:=by rfl):QT X a (tTru K ta):=by subst hK;exact ⟨arn ha.out he⟩
variable {st:aq} {sts:List aq}
theorem G5:QSs X [] tNext:=⟨an9⟩
theorem A6(h:QS X st t):QSs X [st] t:=⟨aoa h.out⟩
theorem A5(h:QS X st t)(h2:QSs X sts u):QSs X (st::sts) (tSeq t u):=⟨al9 h.out h2.out⟩
theorem C9(he:QE X e te):QS X (.Return (some e) pos) (tRet te):=⟨aqQ he.out⟩
theorem aG:QS X st sI:=⟨ama⟩
theorem arP(hN:X.N.Nodup)(hi:X.N[n]?=some x)(hx:e9 X.env.scope x)(he:QE X e te)(hs:bv e (some (.Name x pos')) pos.line X.env=pure false:=by rfl)(hf:X.fn x=true:=by rfl):QS X (.Assign [.Name x pos'] e pos) (tAsg te (gName n)):=⟨aqS hN hi hx he.out hs (.inl hf)⟩
theorem t9{f:Str}(ho:QE X o to)(hv:QE X value tv)(hs:bv value (some (.Attribute o f pos')) pos.line X.env=pure false:=by rfl)(hK:X.K=K:=by rfl):QS X (.Assign [.Attribute o f pos'] value pos) (sFld K to tv f):=by subst hK;exact ⟨aq4 ho.out hv.out hs⟩
theorem U7{f:Str}(ho:QE X o to)(hb:bu o f X.env (eval o X.env)=eval o X.env:=by rfl)(hK:X.K=K:=by rfl):QE X (.Attribute o f pos) (tFld K to f):=by subst hK;exact ⟨aq3 ho.out hb⟩
theorem f8(hu:X.A.units+1<cLine)(ho:QE X o to)(hi:QE X i ti)(hv:QE X value tv)(hs:bv value (some (.Subscript o i pos')) pos.line X.env=pure false:=by rfl):QS X (.Assign [.Subscript o i pos'] value pos) (sDPut to ti tv):=⟨aoA hu ho.out hi.out hv.out hs⟩
theorem akO{op:Operator}{rd:V->V->Hp->VK->Prop}(hu:X.A.units+1<cLine)(ho:QE X o to)(hi:QE X i ti)(hv:QE X value tv)(fQ:QIn X op rd)(ha:∀ ov iv new,augStore i ov iv new=(do holding [new,ov,iv] (setItem ov iv new);release [new,ov,iv] [];pure .next):=by exact fun _ _ _=>rfl) :
  QS X (.AugAssign (.Subscript o i tpos) op value pos) (sDAug to ti tv rd):=⟨aoB hu ho.out hi.out hv.out fQ.out ha⟩
theorem arQ{op:Operator}{tip:cN}(hN:X.N.Nodup)(hi:X.N[n]?=some x)(hx:e9 X.env.scope x)(he:QE X e te)(ho:QIp X op tip)(hf:X.fn x=true:=by rfl):QS X (.AugAssign (.Name x pos') op e pos) (tAug n te tip):=⟨aqT hN hi hx he.out ho.out (.inl hf)⟩
theorem Z9(he:QE X e te)(hs:bv e none pos.line X.env=pure false:=by rfl):QS X (.Expr e pos) (tDrop te):=⟨aob he.out hs⟩
theorem qs_if{sa sb:List aq}(hc:QT X c tA)(ha:QSs X sa t)(hb:QSs X sb u):QS X (.If c sa sb pos) (tIfS tA t u):=⟨ps_if hc.out ha.out hb.out⟩
theorem lF{body:List aq}(hp:bd (model X.prog X.w) X.A X.env X.xe)(hc:QT X c tA)(hb:QSs X body t):QS X (.While c body [] pos) (oQ tA t):=⟨amc hp hc.out hb.out⟩
theorem N8{body:List aq}{wi:TI}{g:TG}(hp:bd (model X.prog X.w) X.A X.env X.xe)(hi:QI X tg iter wi)(hg:QG X tg g)(hb:QSs X body t)(hc:X.calm=true:=by rfl)(hs:∀ x,foldedSetIterable iter X.env x=pure x:=by intro _;rfl):QS X (.For tg iter body [] pos) (tFor wi g t):=⟨aqW hp hc hi.out hg.out hb.out hs⟩
theorem N9(hN:X.N.Nodup)(hi:X.N[n]?=some x)(hx:e9 X.env.scope x)(hf:X.fn x=true\/X.env.scope.names.lookup x=some .local:=by first | exact .inl rfl | exact .inr rfl | assumption):QG X (.Name x pos) (gName n):=⟨aoc hN hi hx hf⟩
theorem bJ:QGs X [] gNil:=⟨aod⟩
theorem T8{g:TG}{gs:n5}(h1:QG X e g)(h2:QGs X es gs)(hs:(assignEach (e::es) X.env).map (·.2)=assign e X.env::(assignEach es X.env).map (·.2):=by rfl):QGs X (e::es) (gCons g gs):=⟨amb h1.out h2.out hs⟩
theorem bK{gs:n5}(h:QGs X es gs)(hc:X.calm=true:=by rfl)(hn:(assignEach es X.env).length=n:=by rfl)(T9:(assignEach es X.env).findIdx? (·.1)=none:=by rfl)(hK:X.K=K:=by rfl):QG X (.Tuple es k pos) (gTup K n gs):=by subst hK;exact ⟨aqR hc h.out hn T9⟩
variable {tg:ao}
theorem N0(h:QE X e te)(hK:X.K=K:=by rfl):QI X tg e (iList K te):=by subst hK;exact ⟨aoe h.out⟩
theorem cW(h:QE X e te)(hK:X.K=K:=by rfl):QI X tg e (iTup K te):=by subst hK;exact ⟨aqV h.out⟩
theorem tX(h:QE X e te):QI X tg e (iStr te):=⟨art h.out⟩
theorem qi_r1(hm:X.mg "range"=none)(ha:QA X [a] tl)(hg:Gl X "range":=by rfl)(h1:F6 a=false:=by rfl):QI X tg (.Call (.Name "range" p) [a] [] pos) (iRng1 tl):=⟨pi_r1 hg hm ha.out h1⟩
theorem qi_r2(hm:X.mg "range"=none)(ha:QA X [a,b] tl)(hg:Gl X "range":=by rfl)(h1:F6 a=false:=by rfl)(h2:F6 b=false:=by rfl):QI X tg (.Call (.Name "range" p) [a,b] [] pos) (iRng2 tl):=⟨pi_r2 hg hm ha.out h1 h2⟩
theorem Y5:QIfs X [] tYes:=⟨amv⟩
theorem aH(h:QT X c tA):QIfs X [c] tA:=⟨amw h.out⟩
variable {sc:bj} {N':Ab} {k:Nat} {ixs:An} {ifs:Aj} {wi:TI} {g:TG} {elt:ao}
theorem V4(C:CompOk X.N X.env.scope.names sc N' k ixs)(hi:QI X tg e wi)(hg:∀ C zw zt fp aa,QG (D7 X sc N' C zw zt fp aa) tg g)(hc:∀ C zw zt fp aa,QIfs (D7 X sc N' C zw zt fp aa) ifs tA)(he:∀ C zw zt fp aa,QE (D7 X sc N' C zw zt fp aa) elt te)(N4:X.calm=true:=by rfl)(hs:∀ x,foldedSetIterable e X.env x=pure x:=by intro _;rfl):QE X (.ListComp elt [⟨tg,e,ifs,0⟩] sc pos) (tComp wi k ixs g tA te):=
 ⟨aoD C N4 hi.out (fun _ _ _ _ _=>(hg _ _ _ _ _).out) (fun _ _ _ _ _=>(hc _ _ _ _ _).out) (fun _ _ _ _ _=>(he _ _ _ _ _).out) hs⟩
theorem fC(hN:X.N.Nodup)(hiN:X.N[n]?=some x)(hx:e9 X.env.scope x)(C:CompOk X.N X.env.scope.names sc N' k ixs)(hi:QI X tg e wi)(hg:∀ C zw zt fp aa,QG (D7 X sc N' C zw zt fp aa) tg g)(hc:∀ C zw zt fp aa,QIfs (D7 X sc N' C zw zt fp aa) ifs tA)(he:∀ C zw zt fp aa,QE (D7 X sc N' C zw zt fp aa) elt te)(yB:bv (.ListComp elt [⟨tg,e,ifs,0⟩] sc pos) (some (.Name x pos')) spos.line X.env=pure true:=by rfl)(N4:X.calm=true:=by rfl)(hf:X.fn x=true:=by rfl)(hs:∀ x,foldedSetIterable e X.env x=pure x:=by intro _;rfl) :
  QS X (.Assign [.Name x pos'] (.ListComp elt [⟨tg,e,ifs,0⟩] sc pos) spos) (tAsg (tComp wi k ixs g tA te) (gName n)):=
 ⟨ajq hN hiN hx C N4 hi.out (fun _ _ _ _ _=>(hg _ _ _ _ _).out) (fun _ _ _ _ _=>(hc _ _ _ _ _).out) (fun _ _ _ _ _=>(he _ _ _ _ _).out) yB (.inl hf) hs⟩
theorem q_add(hK:X.K=K:=by rfl):QOp X (bo .Add) (rAddU K):=by subst hK;exact ⟨p_add⟩
theorem q_sub:QOp X (bo .Sub) (t7 fun i j=>.int (i-j)):=⟨p_sub⟩
theorem q_mul:QOp X (bo .Mult) rMulU:=⟨p_mul⟩
theorem arR:QOp X (bo .FloorDiv) (rI CDiv fun i j=>.int (i / j)):=⟨aro⟩
theorem q_mod:QOp X (bo .Mod) (rI (fun _ j=>0<j) fun i j=>.int (i % j)):=⟨p_mod⟩
theorem q_eq(hu:X.A.units+64<cLine)(hK:X.K=K:=by rfl):QOp X (bc .Eq) (rEqU K):=by subst hK;exact ⟨p_eq hu⟩
theorem q_ne(hu:X.A.units+64<cLine)(hK:X.K=K:=by rfl):QOp X (bc .NotEq) (rNeU K):=by subst hK;exact ⟨p_ne hu⟩
theorem q_lt:QOp X (bc .Lt) rLtU:=⟨p_lt⟩
theorem q_le:QOp X (bc .LtE) rLeU:=⟨p_le⟩
theorem q_gt:QOp X (bc .Gt) rGtU:=⟨p_gt⟩
theorem q_ge:QOp X (bc .GtE) rGeU:=⟨p_ge⟩
theorem q_in(hu:X.A.units+64<cLine)(hK:X.K=K:=by rfl):QOp X (bc .In) (rInU K false):=by subst hK;exact ⟨p_in hu⟩
theorem iL(hu:X.A.units+64<cLine)(hK:X.K=K:=by rfl):QOp X (bc .NotIn) (rInU K true):=by subst hK;exact ⟨aoF hu⟩
theorem q_isN:QOp X (bc .Is) (fun x y H Q=>y=.non/\Q (.bl (decide (x=.non))) H):=⟨aq2⟩
theorem tY:QOp X (bc .IsNot) (fun x y H Q=>y=.non/\Q (.bl (!decide (x=.non))) H):=⟨aoh⟩
theorem q_neg:QUn X (unaryOp .USub) (rU fun i=>.int (-i)):=⟨aq1⟩
theorem q_len(hK:X.K=K:=by rfl):QCall X (.builtin "len") (rLenU K):=by subst hK;exact ⟨p_len⟩
theorem q_isi:QCall X (.builtin "isinstance") rIsi:=⟨amx⟩
theorem q_all(aN:X.calm=calm:=by rfl):QCall X (.builtin "all") (rAllB calm):=by subst aN;exact ⟨p_all⟩
theorem q_ord:QCall X (.builtin "ord") rOrd:=⟨p_ord⟩
theorem bL(hK:X.K=K:=by rfl)(aN:X.calm=calm:=by rfl):QCall X (.type "list") (tO K calm):=by subst hK;subst aN;exact ⟨arr⟩
theorem amP:QMt X "list.append" cR:=⟨fun aa s Y H x xs v us Q I rx rv h=>agL aa s Y H x xs v us Q I rx rv h⟩
theorem lG:QMt X "list.reverse" tD:=⟨fun aa s Y H x xs v us Q I rx rv h=>ajp aa s Y H x xs v us Q I rx rv h⟩
theorem anG:QIp X .Add (sK fun i j=>i+j):=⟨aqU⟩
theorem anH:QIn X .Add rAdd:=⟨aq5⟩
theorem arS:QIn X .Sub rSub:=⟨aq6⟩
end
end L2
set_option maxRecDepth 100000
namespace L2
open PySem PySem.Spec PyProof.Rows
noncomputable def ModD (P:ax) (w:av) (K:aj) (a:ab) (kvs:List (B1×V)):Prop:=(a==sysModules)=false/\∀ h:au,K.In h->∃ vs,KV kvs vs/\h.DictOf (P3 P w) a vs
noncomputable abbrev ModE (w:av):List DictEntry->List (B1×V)->Prop:=Paired fun e kv=>keyIs kv.1 e.key=true/\e.hash=keyH w kv.1/\RelV kv.2 e.val
theorem ModE.pairs{P:ax}{w:av} : ∀ {es:List DictEntry} {kvs:List (B1×V)},ModE w es kvs->∃ vs:List (B1×ac),KV kvs vs/\Pairs (P3 P w) es vs/\(∀ e∈es,∃ k,(P3 P w).is k e.key=true/\e.hash=(P3 P w).hash k)/\vs.map (·.1)=kvs.map (·.1)
 | _,_,.nil=>⟨[],.nil,.nil,fun e h=>(nomatch h),rfl⟩
 | e::es,kv::kvs,.cons ⟨h1,h2,h3⟩ t=>by
  obtain ⟨vs,a1,a2,a3,a4⟩:=ModE.pairs (P:=P) t;refine ⟨(kv.1,e.val)::vs,.cons ⟨rfl,h3⟩ a1,.cons h1 rfl a2,fun e' he=>?_,by rw [E2,E2,a4]⟩
  rcases D8.mp he with z | z
  .rw [z];exact ⟨kv.1,h1,h2⟩
  .exact a3 e' z
theorem tZ{P:ax}{w:av}{es:Array DictEntry}{ep:Nat}(l:K.lookup a=some { cls:=.type "dict",dict:=none,data:=.dict es ep,slots:=#[] })(hs:(a==sysModules)=false)(he:ModE w es.toList kvs)(hn:(kvs.map (·.1)).Nodup):ModD P w K a kvs:=by
 refine ⟨hs,fun h X=>?_⟩;obtain ⟨vs,a1,a2,a3,a4⟩:=he.pairs (P:=P);exact ⟨vs,a1,_,es,ep,X a _ l,⟨rfl,rfl,rfl⟩,rfl,fun e h=>a3 e (Array.mem_toList_iff.mpr h),a2,by rw [a4];exact hn⟩
noncomputable def rInM (neg:Bool) (a:ab) (kvs:List (B1×V)):R2:=fun x y H Q=>y=.ref a/\∃ k,x=kV k/\Q (.bl (neg.xor (valV kvs k).isSome)) H
noncomputable def anI (a:ab) (kvs:List (B1×V)) (to ti:TE):TE:=fun Y H Q=>to Y H fun x H1=>ti Y H1 fun y H2=>x=.ref a/\∃ k v,y=kV k/\valV kvs k=some v/\Q v H2
section
variable {X:Cx} {a:ab} {kvs:List (B1×V)} {o i:ao} {to ti:TE} {pos:aw}
theorem q_inM(M:ModD X.prog X.w X.K a kvs):QOp X (bc .In) (rInM false a kvs):=⟨by
 intro aa s Y H x y v u Q I rx ry h;obtain ⟨rfl,k,rfl,q⟩:=h;obtain rfl:u=ac.ref a:=ry;obtain ⟨hd,M⟩:=M;obtain ⟨vs,rel,dd⟩:=M s.heap I.kIn;refine wpAny_in_of (kV_is rx) hd dd.mapOf ?_;rw [<- (rel.val k).isSome_eq];exact ⟨.bl _,H,I.tok _,rfl,by simpa using q⟩⟩
theorem aiH(M:ModD X.prog X.w X.K a kvs):QOp X (bc .NotIn) (rInM true a kvs):=⟨by
 intro aa s Y H x y v u Q I rx ry h;obtain ⟨rfl,k,rfl,q⟩:=h;obtain rfl:u=ac.ref a:=ry;obtain ⟨hd,M⟩:=M;obtain ⟨vs,rel,dd⟩:=M s.heap I.kIn;refine wpAny_notIn_of (kV_is rx) hd dd.mapOf ?_;rw [<- (rel.val k).isSome_eq];exact ⟨.bl _,H,I.tok _,rfl,by simpa using q⟩⟩
theorem lH(M:ModD X.prog X.w X.K a kvs)(ho:QE X o to)(hi:QE X i ti)(hs:NoSl i:=by exact fun _ _=>rfl):QE X (.Subscript o i pos) (anI a kvs to ti):=⟨by
 intro aa s Y H Q I h;refine akw PySem.F.slot_dict_getitem.lookup hs (thnE (ho.out aa s Y H _ I h) fun u s1 x H1 I1 rx q1=>thnE (hi.out aa s1 Y H1 _ I1 q1) fun iv s2 y H2 I2 ry zz=>?_);obtain ⟨ex,k,v,ey,l,q2⟩:=zz;subst ex ey;obtain rfl:u=ac.ref a:=rx;obtain ⟨hd,M⟩:=M;obtain ⟨vs,rel,dd⟩:=M s2.heap I2.kIn;obtain ⟨w',hw,rw'⟩:=oS (v:=v) (o:=valueAt vs k) (by rw [<- l];exact rel.val k);exact ⟨dd.typeIs,wpAny_getItem_of (kV_is ry) dd.mapOf hw ⟨v,H2,I2.tok _,rw',q2⟩⟩⟩
end
theorem kV_str{k:B1} : (V.str z=kV k)=(k=Sum.inr z):=by
 cases k with
 | inl i=>exact propext ⟨fun h=>(by cases h),fun h=>(by cases h)⟩
 | inr x=>exact propext ⟨fun h=>(by cases h;rfl),fun h=>(by cases h;rfl)⟩
theorem arT : rInM neg a kvs (.str z) (.ref b) H Q=(V.ref b=V.ref a/\Q (.bl (neg.xor (valV kvs (Sum.inr z)).isSome)) H):=by
 unfold rInM;simp only [kV_str,exists_eq_left]
theorem amQ{ti:TE} : anI a kvs to ti Y H Q=to Y H fun x H1=>ti Y H1 fun y H2=>x=.ref a/\∃ k v,y=kV k/\valV kvs k=some v/\Q v H2:=rfl
noncomputable def uA (c:TT) (tb:TS) (D:Ends) (Y:St) (H:Hp):Prop:=oQ c tb D Y H
theorem amR{c:TT} : oQ c tb D Y H=uA c tb D Y H:=rfl
theorem lI{c:TT}(Pv:Nat->Ar)(m:Nat)(h0:Pv m Y H)(hs:∀ m Y H,Pv m Y H->c Y H fun b H1=>if b=true then ∃ N:Ar,(∀ σ' H',N σ' H'->∃ m',m'<m/\Pv m' σ' H')/\tb { D with nx:=N,ct:=N,bk:=D.nx } Y H1 else D.nx Y H1):uA c tb D Y H:=⟨Pv,⟨m,h0⟩,hs⟩
noncomputable def rTupR (K:aj) (p:ab) (H:Hp) (Q:VK):Prop:=∃ ys,(D9 K H p ys/\∀ l,H l=none->Q (.ref l) (A0 H l (.tup ys)))\/(C7 K H p ys/\Q (.ref p) H)
theorem rTupR.l{p:ab}{ys:Ao}(h1:D9 K H p ys)(h:∀ l,H l=none->Q (.ref l) (A0 H l (.tup ys))):rTupR K p H Q:=⟨ys,.inl ⟨h1,h⟩⟩
noncomputable def rTupU (K:aj):Ao->Hp->VK->Prop
 | [.ref p],H,Q=>rTupR K p H Q
 | _,_,_=>False
theorem tup_r{p:ab} : rTupU K [.ref p] H Q=rTupR K p H Q:=rfl
theorem cX(hK:X.K=K:=by rfl):QCall X (.type "tuple") (rTupU K):=by
 subst hK;refine ⟨fun aa s Y H xs us Q I r h=>?_⟩
 match xs,h with
 | [.ref p],⟨ys,h⟩=>exact af9 aa s Y H _ us Q I r ⟨p,ys,rfl,h⟩
noncomputable def rMin:Ao->Hp->VK->Prop:=fun xs H Q=>∃ i j,xs=[.int i,.int j]/\Q (.int (if j<i then j else i)) H
noncomputable def rMax:Ao->Hp->VK->Prop:=fun xs H Q=>∃ i j,xs=[.int i,.int j]/\Q (.int (if j > i then j else i)) H
theorem arU{i j:Int} : rMin [.int i,.int j] H Q=Q (.int (if j<i then j else i)) H:=propext ⟨fun ⟨_,_,e,q⟩=>(by cases e;exact q),fun q=>⟨_,_,rfl,q⟩⟩
theorem arV{i j:Int} : rMax [.int i,.int j] H Q=Q (.int (if j > i then j else i)) H:=propext ⟨fun ⟨_,_,e,q⟩=>(by cases e;exact q),fun q=>⟨_,_,rfl,q⟩⟩
noncomputable def rCalm (calm:Bool) (r:Ao->Hp->VK->Prop):Ao->Hp->VK->Prop:=fun xs H Q=>calm=true/\r xs H Q
theorem aqd{r:Ao->Hp->VK->Prop} : rCalm true r xs H Q=r xs H Q:=propext ⟨fun h=>h.2,fun h=>⟨rfl,h⟩⟩
end L2
set_option maxRecDepth 100000
namespace L2
open PySem PySem.Spec PyProof.Rows
open PySem.Builtin PySem.Builtin.Str PySem.StrLaws
noncomputable def tSeqM (t u:TS):TS:=fun D Y H=>∃ M:Ar,t { D with nx:=M } Y H/\∀ σ' H',M σ' H'->u D σ' H'
theorem Y6{rest:List aq}{t u:TS}(h1:QS X st t)(h2:QSs X rest u):QSs X (st::rest) (tSeqM t u):=⟨by
 intro aa s Y H D I h;obtain ⟨M,h,hm⟩:=h;refine cg (M0 (h1.out aa s Y H { D with nx:=M } I h) fun f s1 q=>?_)
 cases f with
 | next=>
  obtain ⟨σ',H',I',q⟩:=q;exact h2.out aa s1 σ' H' D I' (hm _ _ q)
 | ret v=>exact q
 | brk=>exact q
 | cont=>exact q⟩
theorem bM{t u:TS}(M:Ar)(h:t { D with nx:=M } Y H)(h2:∀ σ' H',M σ' H'->u D σ' H'):tSeqM t u D Y H:=⟨M,h,h2⟩
theorem fD{p:ab}(h:H p=some (.lst xs)):TruV K (.ref p) H (!xs.isEmpty):=.inl ⟨xs,.of h,rfl⟩
theorem aI(xs:Ao)(k:Nat):cutV xs (some (k:Int)) none=xs.drop k:=by
 unfold cutV;have e1:HT.sIx xs.length 0 (some (k:Int))=min k xs.length:=by unfold HT.sIx;simp;lia
 have e2:HT.sIx xs.length xs.length none=xs.length:=rfl;rw [e1,e2,i8 (by rw [Z2];exact C1 _)]
 by_cases h:k<=xs.length
 .rw [eN h]
 .rw [Nat.min_eq_right (by lia),kD (C1 _),kD (by lia)]
theorem iM(xs:Ao)(k:Nat):cutV xs none (some (k:Int))=xs.take k:=by
 unfold cutV;have e1:HT.sIx xs.length xs.length (some (k:Int))=min k xs.length:=by unfold HT.sIx;simp;lia
 have e2:HT.sIx xs.length 0 none=0:=rfl;rw [e1,e2,List.drop_zero,Nat.sub_zero]
 by_cases h:k<=xs.length
 .rw [eN h]
 .rw [Nat.min_eq_right (by lia),i8 (C1 _),i8 (by lia)]
theorem pG(x:V)(xs:Ao):cutV (x::xs) (some 1) none=xs:=aI (x::xs) 1
theorem O5{α:Type}(x:α)(xs:List α):K6 (x::xs) 0=some x:=by
 have e:j6 (x::xs).length 0=some 0:=by unfold j6;rw [if_pos (Int.le_refl 0),if_pos (by rw [E5];lia)];rfl
 unfold K6;rw [e];rfl
theorem amS{o f:ao}(hu:X.A.units+1<cLine)(ho:QE X o td)(he:QE X e ty)(hf:QE X f tx)(h1:F6 e=false:=by rfl)(h2:F6 f=false:=by rfl)(G1:bu o "get" X.env (eval o X.env)=eval o X.env:=by rfl)(G2:(apos.endLine==cpos.line)=true:=by rfl):QE X (.Call (.Attribute o "get" apos) [e,f] [] cpos) (tL td ty tx):=
 ⟨amu hu ho.out he.out hf.out ⟨G1,by rw [M9 h1,M9 h2];rfl,G2,by rw [M9 h1,M9 h2];rfl⟩⟩
theorem aqe{trs:List (TE×TE)} : tDisp trs Y H Q=∀ p,H p=none->iC trs Y (A0 H p (.dK [])) fun ps H2=>H2 p=some (.dK [])/\∃ kvs:List (B1×V),ps=kvs.map (fun kv=>(kV kv.1,kv.2))/\kvs.length<=15/\Q (.ref p) (A0 H2 p (.dK (Y3 [] kvs))):=rfl
theorem aqf{Q:List (V×V)->Hp->Prop} : iC [] Y H Q=Q [] H:=rfl
theorem amT{tk tv:TE}{r:List (TE×TE)}{Q:List (V×V)->Hp->Prop} : iC ((tk,tv)::r) Y H Q=tk Y H fun x H1=>tv Y H1 fun y H2=>iC r Y H2 fun ps H3=>Q ((x,y)::ps) H3:=rfl
theorem amU : tL td ty tx Y H Q=td Y H fun x H1=>∃ a,x=.ref a/\eT H1 a/\ty Y H1 fun y H2=>tx Y H2 fun z H3=>∃ o,DGet H3 a y o/\Q (o.getD z) H3:=rfl
theorem uB:∀ {zs:Ab} {us:Ae},Vals (zs.map V.str) us->StrsAre us zs
 | [],_,.nil=>.nil
 | z::zs,_::_,.cons ⟨t,h⟩ r=>by subst h;exact .cons _ _ (uB r)
theorem ab4:∀ l:List (Str×Tok),Vals ((l.map (·.1)).map V.str) (strValues l)
 | []=>.nil
 | (z,t)::r=>.cons ⟨t,rfl⟩ (ab4 r)
noncomputable def rJoin (K:aj):V->Ao->Hp->VK->Prop:=fun x vs H Q=>∃ (z:Str) (b:ab) (zs:Ab),x=.str z/\vs=[.ref b]/\(D9 K H b (zs.map V.str)\/C7 K H b (zs.map V.str))/\z.length<=16/\(zs.map (·.length)).sum+zs.length<=1048576/\Q (.str (Str.join z zs)) H
theorem uC(hK:X.K=K:=by rfl):QMt X "str.join" (rJoin K):=⟨by
 subst hK;intro aa s Y H x vs v us Q I rx rv h;obtain ⟨z,b,zs,rfl,rfl,hb,h1,h2,q⟩:=h;obtain ⟨t,rfl⟩:=rx;obtain ⟨u,rfl,ru⟩:=vals1 rv
 cases ru
 have e:Txt.join z zs=Str.join z zs:=glued_eq_join z zs
 rcases hb with hb | hb
 .obtain ⟨its,r',pl,hz⟩:=I.list hb;exact join_listW pl.isList (by simpa using uB r') h1 h2 fun t' k=>⟨.str (Str.join z zs),H,I.tok k,⟨t',by rw [e]⟩,q⟩
 .obtain ⟨its,r',pl,hz⟩:=I.tuple hb;exact join_tupleW pl (by simpa using uB r') h1 h2 fun t' k=>⟨.str (Str.join z zs),H,I.tok k,⟨t',by rw [e]⟩,q⟩⟩
theorem ajr{w:av}{y:Str}{t u:Tok}{Q:Ac}(hy:(y.length==0)=false)(hsz:x.length<=ak)(yE:(Txt.split x y).length<=ak)(hq:∀ (l:List (Str×Tok)) (k:Nat),l.map (·.1)=Txt.split x y->Q (.ref s.heap.objs.size) { s with heap:=s.heap.push { cls:=.type "list",data:=.seq (strValues l).toArray },toks:=k }) :
  wpAny (model prog w) A (call (.builtin "str.split") [.str x t,.str y u]) Q E s:=by
 cases h1:(decide (x.length<y.length) || decide (strKind x<strKind y))
 .cases hf:(occurrences x y 0 x.length (x.length+1)).isEmpty
  .have e:Txt.split x y=partsBetween x (occurrences x y 0 x.length (x.length+1)) y.length:=(if_neg (ne_true_of_eq_false h1)).trans (if_neg (ne_true_of_eq_false hf));refine call_meets F.slot_str_split (typeIs_str _ _ _) F.entry_str_split (F.args_str_split_2 _ _) (meets_str_split_sep x y t u h1 hy hf hsz (by rw [<- e];exact yE)) ?_;show wants Q E _ { s with toks:=_,heap:=s.heap.push { cls:=.type "list",data:=.seq (strsFrom s.toks (partsBetween x (occurrences x y 0 x.length (x.length+1)) y.length)).toArray } };rw [strsFrom_eq];exact hq (numbered s.toks _) _ ((numbered_texts _ _).trans e.symm)
  .exact call_meets F.slot_str_split (typeIs_str _ _ _) F.entry_str_split (F.args_str_split_2 _ _) (meets_str_split_not_found x y t u h1 hy hf)
    (hq [(x,t)] s.toks ((if_neg (ne_true_of_eq_false h1)).trans (if_pos hf)).symm)
 .exact call_meets F.slot_str_split (typeIs_str _ _ _) F.entry_str_split (F.args_str_split_2 _ _) (meets_str_split_cannot_occur x y t u h1)
   (hq [(x,t)] s.toks (if_pos h1).symm)
noncomputable def arW:V->Ao->Hp->VK->Prop:=fun x vs H Q=>∃ (z y:Str),x=.str z/\vs=[.str y]/\(y.length==0)=false/\z.length<=ak/\(Txt.split z y).length<=ak/\∀ p,H p=none->Q (.ref p) (A0 H p (.lst ((Txt.split z y).map V.str)))
theorem uD : QMt X "str.split" arW:=⟨by
 intro aa s Y H x vs v us Q I rx rv h;obtain ⟨z,y,rfl,rfl,h0,h1,h2,q⟩:=h;obtain ⟨t,rfl⟩:=rx;obtain ⟨u,rfl,ru⟩:=vals1 rv;obtain ⟨t2,rfl⟩:=ru;refine ajr h0 h1 h2 fun l k e=>⟨.ref _,_,I.lnew (ys:=(Txt.split z y).map V.str) (t':=k) (by rw [<- e];exact ab4 l) (by rw [A3];exact h2),rfl,q _ I.fresh⟩⟩
theorem uE{s sub:Str}{hi limit:Nat}(h1:sub.length=1):∀ (n a:Nat) (st:Array Nat×Nat),st.snd<=a->st.fst.size+n<=limit->
  (forIn (bA a n) st (occBody s sub hi limit)).run.fst.toList=st.fst.toList++(bA a n).filter (fun i=>decide (i+1<=hi)&&subAt s sub i)
 | 0,a,st,_,_=>by simp
 | n+1,a,st,h2,h3=>by
  rw [List.range'_succ,List.forIn_cons];unfold occBody
  by_cases hc:a+1<=hi/\subAt s sub a=true
  .rw [if_pos ⟨⟨⟨by lia,h2⟩,by lia⟩,hc.2⟩]
   have:=uE (s:=s) (hi:=hi) (limit:=limit) h1 n (a+1) (st.fst.push a,a+sub.length) (by simp only;lia) (by rw [Array.size_push];lia)
   refine this.trans ?_;rw [o9 (by rw [decide_eq_true hc.1,hc.2];rfl),Array.toList_push,R8];rfl
  .rw [if_neg (fun h=>hc ⟨by lia,h.2⟩)]
   have:=uE (s:=s) (hi:=hi) (limit:=limit) h1 n (a+1) (st.fst,st.snd) (by simp only;lia) (by simp only;lia)
   refine this.trans ?_;rw [aW];intro h;simp at h;exact hc h
theorem uF : subAt x ⟨#[c]⟩ i=(x.cps.toList[i]? == some c):=by
 rw [subAt_eq];show ((x.cps.toList.drop i).take 1==[c])=_;rw [cJ,take1_drop,beq_iff_eq]
noncomputable def joinN (c:Nat):Ab->An
 | []=>[]
 | [z]=>z.cps.toList
 | z::r=>z.cps.toList++c::joinN c r
theorem lJ(c:Nat):∀ zs:Ab,(Str.join ⟨#[c]⟩ zs).cps.toList=joinN c zs
 | []=>rfl
 | [z]=>rfl
 | z::y::r=>by
  show (z++⟨#[c]⟩++Str.join ⟨#[c]⟩ (y::r)).cps.toList=z.cps.toList++c::joinN c (y::r);rw [<- lJ c (y::r)];simp only [Str.cps_append,Array.toList_append]
  simp
theorem afy{x:Str}{c:Nat} : ∀ (zs:Ab) (pre:An),zs≠[]->(∀ z∈zs,c∉z.cps.toList)->x.cps.toList=pre++joinN c zs->
  partsFrom x 1 pre.length ((bA pre.length (x.length+1-pre.length)).filter (fun i=>decide (i+1<=x.length)&&subAt x ⟨#[c]⟩ i))=zs
 | [],_,h,_,_=>absurd rfl h
 | [z],pre,_,h,e=>by
  have hx:x.length=pre.length+z.length:=by
   have:=congrArg X8 e
   simpa [joinN,Str.length] using this
  have e0:(bA pre.length (x.length+1-pre.length)).filter (fun i=>decide (i+1<=x.length)&&subAt x ⟨#[c]⟩ i)=[]:=by
   rw [p0];intro i hi hc;simp only [List.mem_range'_1] at hi;rw [uF,e,o8 (by lia)] at hc;simp only [V3,beq_iff_eq] at hc;exact h z (J8.mpr rfl) (K2 hc.2)
  rw [e0];show [strSub x pre.length x.length]=[z]
  congr 1
  apply Str.ext'
  apply Array.toList_inj.mp
  rw [strSub_toList,e,List.drop_left];exact i8 (by show z.cps.toList.length<=_;simp [Str.length] at hx ⊢;lia)
 | z::y::r,pre,_,h,e=>by
  have e':x.cps.toList=pre++(z.cps.toList++c::joinN c (y::r)):=e;have hx:x.length=pre.length+z.length+1+(joinN c (y::r)).length:=by
   have:=congrArg X8 e'
   simp [Str.length] at this ⊢
   lia
  have hz:z.cps.toList.length=z.length:=by simp [Str.length]
  have ih:=afy (x:=x) (c:=c) (y::r) (pre++z.cps.toList++[c]) (by simp) (fun w hw=>h w (G6 _ hw)) (by rw [e'];simp);have hl:(pre++z.cps.toList++[c]).length=pre.length+z.length+1:=by simp [Str.length];lia
  rw [hl] at ih;have e1:bA pre.length (x.length+1-pre.length)=bA pre.length z.length++(pre.length+z.length)::bA (pre.length+z.length+1) (x.length+1-(pre.length+z.length+1)):=by
   rw [<- List.range'_succ,List.range'_append_1]
   congr 1
   lia
  have e0:(bA pre.length z.length).filter (fun i=>decide (i+1<=x.length)&&subAt x ⟨#[c]⟩ i)=[]:=by
   rw [p0];intro i hi hc;simp only [List.mem_range'_1] at hi;rw [uF,e',o8 (by lia),aT (by lia)] at hc;simp only [V3,beq_iff_eq] at hc;exact h z G3 (K2 hc.2)
  rw [e1,Q0,e0,aY,o9]
  .show strSub x pre.length (pre.length+z.length)::partsFrom x 1 (pre.length+z.length+1) _=_;rw [ih]
   congr 1
   apply Str.ext'
   apply Array.toList_inj.mp
   rw [strSub_toList,e',List.drop_left,<- hz];rw [show pre.length+z.cps.toList.length-pre.length=z.cps.toList.length by lia,List.take_left]
  .rw [uF,e',o8 (by lia),o8 (by lia)];rw [show pre.length+z.length-pre.length-z.cps.toList.length=0 by lia,decide_eq_true (by lia)]
   simp
theorem afz(hc:c<256)(h0:zs≠[])(h:∀ z∈zs,c∉z.cps.toList):Txt.split (Str.join ⟨#[c]⟩ zs) ⟨#[c]⟩=zs:=by
 have h1:occurrences (Str.join ⟨#[c]⟩ zs) ⟨#[c]⟩ 0 (Str.join ⟨#[c]⟩ zs).length ((Str.join ⟨#[c]⟩ zs).length+1)=(bA 0 ((Str.join ⟨#[c]⟩ zs).length+1-0)).filter (fun i=>decide (i+1<=(Str.join ⟨#[c]⟩ zs).length)&&subAt (Str.join ⟨#[c]⟩ zs) ⟨#[c]⟩ i):=by
  rw [occ_eq,uE rfl _ _ _ (C1 0) (by show 0+_<=_;lia)];rfl
 have h2:=afy (x:=Str.join ⟨#[c]⟩ zs) (c:=c) zs [] h0 h (by rw [lJ];rfl);rw [P9,<- h1] at h2;have h3:partsBetween (Str.join ⟨#[c]⟩ zs) (occurrences (Str.join ⟨#[c]⟩ zs) ⟨#[c]⟩ 0 (Str.join ⟨#[c]⟩ zs).length ((Str.join ⟨#[c]⟩ zs).length+1)) 1=zs:=by rw [partsBetween_eq];exact h2
 have key:∀ x:Str,(occurrences x ⟨#[c]⟩ 0 x.length (x.length+1)).isEmpty=true->partsBetween x (occurrences x ⟨#[c]⟩ 0 x.length (x.length+1)) 1=[x]:=fun x hx=>by
  rw [List.isEmpty_iff.mp hx];show [strSub x 0 x.length]=[x];rw [sub_whole]
 unfold Txt.split
 split
 .rename_i hk
  have hk2:(Str.join ⟨#[c]⟩ zs).length=0:=by
   have e1:PySem.Builtin.Str.strKind (⟨#[c]⟩:Str)=1:=by unfold PySem.Builtin.Str.strKind;simp [hc]
   have e2:1<=PySem.Builtin.Str.strKind (Str.join ⟨#[c]⟩ zs):=by unfold PySem.Builtin.Str.strKind;split <;> (try split) <;> lia
   rw [e1] at hk;simp at hk
   have:(⟨#[c]⟩:Str).length=1:=rfl
   lia
  have hn:occurrences (Str.join ⟨#[c]⟩ zs) ⟨#[c]⟩ 0 (Str.join ⟨#[c]⟩ zs).length ((Str.join ⟨#[c]⟩ zs).length+1)=[]:=by
   rw [h1,hk2,p0];intro i _ h;simp at h
  rw [<- key _ (by rw [hn];rfl)];exact h3
 .split
  .rename_i h5
   rw [<- key _ h5];exact h3
  .exact h3
end L2
set_option maxRecDepth 100000
namespace L2
open PySem PySem.Spec PyProof.Rows
theorem acj:entryFor table "dict.update.loop"=some Builtin.«dict.update.loop»:=entryFor_of_tree (by kernel_rfl)
theorem pH:plainId "dict.update.loop"=true:=by decide +kernel
section
variable {prog:ax} {w:av} {A:ay} {R:Result->ag->Prop} {I:ab} {fp wr:Ai} {G:Array GenState->Array GenState->Prop} {n:Nat} {P:Nat->ac->Prop} {St:Nat->ag->Prop}
variable {K:Type} [DecidableEq K] {knd:KeyKind prog w K}
noncomputable def u5 (ks:Nat->K) (vl:Nat->ac):Nat->List (K×ac)
 | 0=>[]
 | i+1=>stored (u5 ks vl i) (ks i) (vl i)
theorem aeH(ks:Nat->K)(vl:Nat->ac):∀ i,(u5 ks vl i).length<=i
 | 0=>C1 _
 | i+1=>by
  have h1:=aeH ks vl i;have h2:(stored (u5 ks vl i) (ks i) (vl i)).length<=(u5 ks vl i).length+1:=by
   unfold stored
   split
   .rw [A3];lia
   .rw [C6];exact C1 _
  show (stored (u5 ks vl i) (ks i) (vl i)).length<=i+1;lia
theorem akS(W:WalksS prog w A.in1 I fp wr G n P St)(d:ab)(aK:d∉fp)(tp:Nat->ab)(ky vl:Nat->ac)(ks:Nat->K)(hP:∀ i v,P i v->v=.ref (tp i))(hk:∀ i,i<n->knd.is (ks i) (ky i)=true)(ht:∀ i,i<n->tp i≠d/\tp i∉wr)(hn:n<=ak) :
  ∀ (k i:Nat) (s:ag) (j:Int) (t:Tok),n-i=k->i<=n->St i s->(∀ i,i<n->IsTup s.heap (tp i) #[ky i,vl i])->s.heap.DictOf knd d (u5 ks vl i)->
   (∀ s',Moved (d::wr) G s s'->s'.heap.DictOf knd d (u5 ks vl n)->R (.ok (.ret .none)) s')->
   bw (model prog w) A (.builtin "dict.update.loop" ⟨[.ref d,.ref I,.int j t,.none],[]⟩) R s:=by
 have hdw:d∉wr:=fun h=>aK (W.sub _ h)
 have mQ:∀ b∈wr,b∈d::wr:=fun b hb=>G6 _ hb
 intro k
 induction k with
 | zero=>
  intro i s j t yD hi T9 hT hD hR;have L3:i=n:=by lia
  subst L3;refine codeAny_builtin acj ?_;rw [ay.under_plainId pH _];show wpAny _ A.in1 (pyNext (.ref I) >>= _) _ _ s;refine ar (W.done s _ _ T9 fun s' hm=>?_);have e0:Builtin.Dict.addKeywords d []=pure ():=rfl;show wpAny _ A.in1 (Builtin.Dict.addKeywords d [] >>= fun _=>ret ac.none) _ _ s';rw [e0];refine ar (bb (bb (hR s' (hm.mono mQ) ?_)));obtain ⟨o,es,ep,ho,rest⟩:=hD;exact ⟨o,es,ep,hm.heap d _ hdw ho,rest⟩
 | succ k ih=>
  intro i s j t yD hi T9 hT hD hR;have C4:i<n:=by lia
  refine codeAny_builtin acj ?_;rw [ay.under_plainId pH _];show wpAny _ A.in1 (pyNext (.ref I) >>= _) _ _ s;refine ar (W.item i s _ _ C4 T9 fun v s' hv yF hm=>?_);obtain rfl:=hP i v hv;have hD':s'.heap.DictOf knd d (u5 ks vl i):=by
   obtain ⟨o,es,ep,ho,rest⟩:=hD;exact ⟨o,es,ep,hm.heap d _ hdw ho,rest⟩
  have hT':∀ i,i<n->IsTup s'.heap (tp i) #[ky i,vl i]:=fun i hi=>by
   obtain ⟨o,ho,rest⟩:=hT i hi;exact ⟨o,hm.heap _ _ (ht i hi).2 ho,rest⟩
  have hTi:=hT' i C4;obtain ⟨o,ho,xT,n0,qS⟩:=id hTi;refine ar (ce (ar (wpAny_tryCatch ?_)));unfold Builtin.Dict.pairItems;refine ar (cf hTi.typeIs ?_);rw [if_pos (by decide)];refine ar (wpAny_seqItems ho qS ?_);refine bb ?_;show wpAny _ _ (holding [ky i,vl i] (dictSet d (ky i) (vl i))) _ _ s';have hl:=aeH ks vl i;refine ce (wpAny_dictSet_pairs (hk i C4) hD' (fun h' hD2 yG=>?_) (by lia));refine bb ⟨plainId_quiet pH _,ih (i+1) _ (j+1) 0 (by lia) C4 (W.frame _ s' _ _ yF (Nat.le_succ _) fun b hb o e=>?_) (fun i hi=>?_) hD2 fun s'' hm'' hD''=>?_⟩
  .rw [yG.2 b (fun h:b=d=>aK (by rw [<- h];exact hb))];exact e
  .obtain ⟨o,ho,rest⟩:=hT' i hi;exact ⟨o,(yG.2 _ (ht i hi).1).trans ho,rest⟩
  .refine hR s'' (Moved.trans W.gtrans ((hm.mono mQ).then_heap (Nat.le_succ _) fun b o hb e=>?_) hm'') hD'';rw [yG.2 b (fun h:b=d=>hb (by rw [h];exact G3))];exact e
end
theorem ajs:typeLookup (.type "list") "__getattribute__"=pure (some (.builtin "list.__getattribute__")):=by rw [typeLookup_type,builtinLookup_eq_fast];kernel_rfl
theorem agV:typeLookup (.type "list") "keys"=pure none:=by rw [typeLookup_type,builtinLookup_eq_fast];kernel_rfl
theorem agW:typeLookup (.type "list") "__getattr__"=pure none:=by rw [typeLookup_type,builtinLookup_eq_fast];kernel_rfl
theorem agX{w:av}{l:ab}{xs:Ak}{Q:Ag->ag->Prop}(hx:s.heap.get? l=some o)(hc:o.cls=.type "list")(mR:o.data=.seq xs k)(hd:o.dict=none)(hA:A.handled=none)(h:∀ h' tk,(∀ b o,s.heap.get? b=some o->h'.get? b=some o)->Q none { s with heap:=h',toks:=tk }):wpAny (model prog w) A (getAttr? (.ref l) "keys") Q E s:=by
 obtain ⟨c,dct,dat,sl⟩:=o;simp only at hc mR hd;subst hc mR hd;obtain ⟨hp,g,d,tk,os⟩:=s;have hT:∀ tk',(⟨hp,g,d,tk',os⟩:ag).TypeIs (.ref l) "list":=fun _=>⟨_,hx,rfl⟩
 have f4:=F.slot_list_getattribute.bind (.ref l);unfold getAttr? getAttrBy? getAttrBy;refine ar (wpAny_mkText (ar (wpAny_attempt (ce (ar (cf (hT _) ?_))))));rw [ajs];refine ar (bb ?_);show wpAny _ _ (getAttrByItsOwn _ _ _ _ _ _) _ _ _;unfold getAttrByItsOwn;refine ar (bb ?_);refine ar (wpAny_attempt (ce ?_));show wpAny _ _ (boundAndCalled _ _ _) _ _ _;unfold boundAndCalled;rw [f4];refine ar (bb ?_);refine call_meets F.slot_list_getattribute (hT _) am_entry_list_getattribute (F.args_list_getattribute_2 _ _) (meets_getattribute_miss_list l xs k sl "keys" _ agV (by decide +kernel) (by decide +kernel)) ⟨hx,hA,fun h' tk' e new=>?_⟩;obtain ⟨t',u',he⟩:=new.there;have hTe:∀ tk',(⟨h',g,d,tk',os⟩:ag).TypeIs (.ref e) "AttributeError":=fun _=>⟨_,he,rfl⟩
 show wpAny _ _ (getattributeRaised _ _ _ _ _ _ _) _ _ _;unfold getattributeRaised;refine ar (wpAny_isInstance (hTe _) sub_AttributeError ?_);rw [if_pos rfl];show wpAny _ _ (hookBehind _ _ >>= _) _ _ _;unfold hookBehind;rw [if_neg (by decide),agW];refine ar (bb ?_);unfold hookOrError attributeErrorLeaves;show wpAny _ _ (if (!false)=true then _ else _) _ _ _;rw [if_pos (by decide)];refine ar (wpAny_throw ?_);show wpAny _ _ (isInstance _ _ >>= _) _ _ _;refine ar (wpAny_isInstance (hTe _) sub_AttributeError ?_);rw [if_pos rfl];exact bb (h h' tk' new.keeps)
section
variable {prog:ax} {w:av} {A:ay} {E:Ac} {s:ag} {K:Type} [DecidableEq K] {knd:KeyKind prog w K}
theorem aeI{l:ab}{Q:Ac}(hl:PlainL s.heap l items)(hA:A.handled=none)(tp:Nat->ab)(ky vl:Nat->ac)(ks:Nat->K)(hP:∀ (i:Nat) (v:ac),items[i]?=some v->v=ac.ref (tp i))(hk:∀ i,i<items.size->knd.is (ks i) (ky i)=true)(hT:∀ i,i<items.size->IsTup s.heap (tp i) #[ky i,vl i])(hn:items.size<=ak)(h:∀ h' tk,(∀ b o,s.heap.get? b=some o->h'.get? b=some o)->h'.DictOf knd s.heap.objs.size (u5 ks vl items.size)->Q (.ref s.heap.objs.size) { s with heap:=h',toks:=tk }) :
  wpAny (model prog w) A (call (.type "dict") [.ref l]) Q E s:=by
 refine callType_codes (Q₁:=fun obj zu=>obj=.ref s.heap.objs.size/\zu={ s with heap:=s.heap.push { cls:=.type "dict",data:=.dict #[] } }) F.kt_called_dict (F.kt_typeCall_dict_1 _) F.entry_dict_init (kt_code_dict_new _ ⟨rfl,rfl⟩) ?_;rintro obj zu ⟨rfl,rfl⟩;have U0:(s.heap.push { cls:=.type "dict",data:=.dict #[] }).DictOf knd s.heap.objs.size []:=au.DictOf.new s.heap;obtain ⟨ol,nl,hol,yH,hld,dG⟩:=hl;have fV:(s.heap.push { cls:=.type "dict",data:=.dict #[] }).get? l=some ol:=bg _ hol;have C4:l<s.heap.objs.size:=ba hol;refine ⟨U0.typeIs,F.args_dict_init_2 _ _,?_⟩;unfold Builtin.«dict.__init__»;refine ar ?_;unfold Builtin.Dict.selfAndRest;refine ar (wpAny_notOrdered_dict U0.typeIs ?_);show wpAny _ _ (pure (s.heap.objs.size,[ac.ref l])) _ _ _;refine bb ?_;show wpAny _ _ (Builtin.Dict.updateFrom "dict.__init__" s.heap.objs.size (.ref l) [] .none) _ _ _;unfold Builtin.Dict.updateFrom;refine ar (cf (T:="list") ⟨_,fV,yH⟩ ?_);rw [if_pos (by decide)];refine ar (agX fV yH dG hld (by simp [hA]) fun h2 tk2 keep2=>?_);rw [if_pos (show (none:Ag).isNone=true from rfl)];refine ar (wpAny_rule ?_);have W1:h2.IsList l items:=⟨ol,keep2 _ _ fV,yH,nl,dG⟩
 refine ar (wpAny_pyIter_list W1 ?_);obtain ⟨od,es,ep,qS,restd⟩:=U0;have bS:s.heap.objs.size<h2.objs.size:=ba (keep2 _ _ qS);have G0:l≠h2.objs.size:=O4 (Nat.lt_trans C4 bS);have hh:A.in1.in1.handled=none:=by simp [hA]
 have aK:s.heap.objs.size∉[h2.objs.size,l]:=by
  simp only [D8,Q8,or_false,not_or];exact ⟨O4 bS,Nat.ne_of_gt C4⟩
 have htl:∀ i,i<items.size->tp i<s.heap.objs.size:=fun i hi=>by
  obtain ⟨o,ho,_⟩:=hT i hi;exact ba ho
 refine bb ⟨plainId_quiet pH _,akS ((Walks.list hh _ l G0 items).toS) s.heap.objs.size aK tp ky vl ks hP hk (fun i hi=>⟨O4 (htl i hi),?_⟩) hn (items.size-0) 0 _ 0 0 (by lia) (J7 _) ⟨⟨_,br _ rfl,rfl,rfl⟩,W1.push _⟩ (fun i hi=>?_) ?_ fun s' hm hD'=>?_⟩
 .simp only [D8,Q8,or_false];exact O4 (Nat.lt_trans (htl i hi) bS)
 .obtain ⟨o,ho,rest⟩:=hT i hi;exact ⟨o,bg _ (keep2 _ _ (bg _ ho)),rest⟩
 .exact ⟨od,es,ep,bg _ (keep2 _ _ qS),restd⟩
 .obtain ⟨h',g',d',tk',os'⟩:=s';have eg:g'=s.gens:=hm.gens;have ed:d'=s.drawn:=hm.drawn;have eo:os'=s.os:=hm.os;subst eg ed eo;refine ⟨rfl,h h' tk' (fun b o hb=>hm.heap b o ?_ (bg _ (keep2 _ _ (bg _ hb)))) hD'⟩;have mS:b<s.heap.objs.size:=ba hb;simp only [D8,Q8,or_false,not_or];exact ⟨O4 mS,O4 (Nat.lt_trans mS bS)⟩
end
noncomputable def arX (K:aj) (calm:Bool):Ao->Hp->VK->Prop:=fun xs H Q=>calm=true/\∃ (p:ab) (ts:Ai) (kxs:List (B1×V)),xs=[.ref p]/\D9 K H p (ts.map V.ref)/\Paired (fun t kx=>C7 K H t [kV kx.1,kx.2]) ts kxs/\∀ d,H d=none->Q (.ref d) (A0 H d (.dK (Y3 [] kxs)))
theorem aiI(I:Inv X aa Y H s):∀ {ts:Ai} {kxs:List (B1×V)},Paired (fun t kx=>C7 X.K H t [kV kx.1,kx.2]) ts kxs->
  ∃ ws:List (ac×ac),Paired (fun t w=>IsTup s.heap t #[w.1,w.2]) ts ws/\Paired (fun (kx:B1×V) (w:ac×ac)=>keyIs kx.1 w.1=true/\RelV kx.2 w.2) kxs ws
 | _,_,.nil=>⟨[],.nil,.nil⟩
 | _,_,.cons h t=>by
  obtain ⟨ws,h1,h2⟩:=aiI I t;obtain ⟨its,r,ht,_⟩:=I.tuple h;obtain ⟨u1,u2,rfl,r1,r2⟩:=vals2 r;exact ⟨(u1,u2)::ws,.cons ht h1,.cons ⟨kV_is (P:=X.prog) (w:=X.w) r1,r2⟩ h2⟩
theorem akT:∀ {ts:Ai} {us:Ae},Vals (ts.map V.ref) us->us=ts.map ac.ref
 | [],_,.nil=>rfl
 | t::ts,_::_,.cons h r=>by
  rw [E2,<- akT r];cases h;rfl
theorem akU(hK:X.K=K:=by rfl)(hc:X.calm=calm:=by rfl):QCall X (.type "dict") (arX K calm):=⟨by
 subst hK;intro aa s Y H xs us Q I r h;obtain ⟨aN,p,ts,kxs,rfl,hp,hP,q⟩:=h;obtain ⟨u,rfl,rx⟩:=vals1 r
 cases rx
 obtain ⟨its,r',pl,hz⟩:=I.list hp;have mT:=akT r';obtain ⟨ws,h1,h2⟩:=aiI I hP;have V0:ts.length=ws.length:=Paired.length h1;have W1:kxs.length=ws.length:=Paired.length h2;rw [A3] at hz;have hsz:its.toArray.size=ts.length:=by rw [L4,mT,A3]
 have bT:∀ i,i<=ts.length->KV (Y3 [] (kxs.take i)) (u5 (fun i=>(kxs.getD i (Sum.inl 0,.non)).1) (fun i=>(ws.getD i (.none,.none)).2) i):=by
  intro i
  induction i with
  | zero=>intro _;exact .nil
  | succ i ih=>
   intro hi;have bU:i<kxs.length:=by lia
   obtain ⟨w',hw,hr⟩:=Paired.at h2 (L6 bU);have e1:Y3 [] (kxs.take (i+1))=putK (Y3 [] (kxs.take i)) kxs[i].1 kxs[i].2:=by
    unfold Y3;rw [V7,L6 bU,eQ,Z0];rfl
   rw [e1];show KV _ (stored _ (kxs.getD i (Sum.inl 0,.non)).1 (ws.getD i (.none,.none)).2);have e2:(kxs.getD i (Sum.inl 0,.non))=kxs[i]:=by rw [eG,L6 bU];rfl
   have e3:(ws.getD i (.none,.none))=w':=by rw [eG,hw];rfl
   rw [e2,e3];exact (ih (by lia)).put _ hr.2
 refine aeI (knd:=P3 X.prog X.w) pl (I.ok.hd (hc.trans aN)) (fun i=>ts.getD i 0) (fun i=>(ws.getD i (.none,.none)).1) (fun i=>(ws.getD i (.none,.none)).2) (fun i=>(kxs.getD i (Sum.inl 0,.non)).1) (fun i v hv=>?_) (fun i hi=>?_) (fun i hi=>?_) (by lia) fun h' tk keep hD=>?_
 .rw [<- Array.getElem?_toList,mT,U3] at hv;rw [eG];cases e:ts[i]? with
  | none=>rw [e] at hv;cases hv
  | some t=>rw [e] at hv;cases hv;rfl
 .obtain ⟨w',hw,hr⟩:=Paired.at h2 (L6 (show i<kxs.length by lia));have e2:(kxs.getD i (Sum.inl 0,.non))=kxs[i]'(by lia):=by rw [eG,L6 (show i<kxs.length by lia)];rfl
  have e3:(ws.getD i (.none,.none))=w':=by rw [eG,hw];rfl
  rw [e2,e3];exact hr.1
 .have mP:i<ts.length:=by lia
  obtain ⟨w',hw,hr⟩:=Paired.at h1 (L6 mP);have e3:(ws.getD i (.none,.none))=w':=by rw [eG,hw];rfl
  have e4:ts.getD i 0=ts[i]:=by rw [eG,L6 mP];rfl
  rw [e3,e4];exact hr
 .have hD2:KV (Y3 [] kxs) (u5 (fun i=>(kxs.getD i (Sum.inl 0,.non)).1) (fun i=>(ws.getD i (.none,.none)).2) its.toArray.size):=by
   have:=bT ts.length (C1 _)
   rw [i8 (by lia)] at this;rw [hsz];exact this
  have A9:=ade kxs [];rw [P9] at A9;exact ⟨.ref s.heap.objs.size,_,I.laid (t':=tk) keep (C1 _) (tH (by lia) (beq_eq_false_iff_ne.mpr (Ne.symm (O4 I.big))) hD2 hD),rfl,q _ (I.hok.fresh (C1 _))⟩⟩
end L2
set_option maxRecDepth 100000
namespace L2
open PySem PySem.Spec PyProof.Rows
section
variable {X:Cx} {aa:Ad} {Y:St} {H:Hp} {s:ag} {h':au}
theorem Inv.turnNew{ch:Ai}{T:ab}{o:HO}(I:Inv X aa Y H s)(hf:∀ b∈ch,FpOk X aa H b)(k:∀ b u,b∉ch->s.heap.get? b=some u->h'.get? b=some u)(hT:s.heap.objs.size<=T)(new:ObjOk X.prog X.w (A0 H T o) h' T o):Inv X aa Y (A0 H T o) { s with heap:=h',toks:=t' }:=by
 have hn:H T=none:=I.hok.fresh hT;have nch:∀ b u,H b=some u->b∉ch:=fun b u e z=>by rw [(hf b z).1] at e;cases e
 have neT:∀ b u,s.heap.get? b=some u->b≠T:=fun b u e=>O4 (U6 (ba e) hT)
 refine I.step (g':=s.gens) (d':=s.drawn) (ch:=ch) (fun b hb=>?_) (fun b u _ _ hc e _=>k b u hc e) (fun b u _ _ hc e _=>⟨u.slots,k b u hc e⟩) (fun b u _ e n=>by rw [A4 (neT b u e)];exact n)
  (fun b u hc e=>⟨u,k b u hc e⟩) (fun b xs e=>A7 e hn) (fun b ob u e=>A7 e hn) (fun b ps e=>⟨#[],by rw [A7 e hn];simp⟩) (fun m hm=>?_) (fun b u e=>?_) I.bare
 .obtain ⟨f0,f1,f2,f3,f4,f5⟩:=hf b hb;exact ⟨f3,f1,f4,f5⟩
 .obtain ⟨ob,es,ep,ho,r⟩:=hm;exact ⟨ob,es,ep,k _ ob (fun z=>(hf _ z).2.1 rfl) ho,r⟩
 .by_cases hb:b=T
  .subst hb;rw [A1] at e;cases e;exact new
  .rw [A4 hb] at e;refine (I.hok b u e).stay (fun c v hc q=>k c v ?_ q) (fun c q=>A7 q hn) fun c xs q=>A7 q hn
   rcases hc with z | z
   .rw [z];exact nch b u e
   .exact nch c _ z
end
theorem n6{a b:Nat}(h:a<b\/b<a):(show ab from a)≠(show ab from b):=fun e=>by
 have e:a=b:=e;lia
noncomputable def pI (l1 l2 : ab) : It :=
  ⟨fun i H => ∃ xs ys x y, H l1 = some (.lst xs) /\ H l2 = some (.lst ys) /\ xs[i]? = some x /\ ys[i]? = some y,
   fun i H v H' => ∃ t xs ys x y, H l1 = some (.lst xs) /\ H l2 = some (.lst ys) /\ xs[i]? = some x /\ ys[i]? = some y /\ H t = none /\ v = .ref t /\ H' = A0 H t (.tup [x, y]),
   fun i H => ∃ xs ys, H l1 = some (.lst xs) /\ H l2 = some (.lst ys) /\ (xs.length <= i \/ ys.length <= i)⟩
theorem amV{P:ax}{w:av}{pos:aw}(z TI TO i1 i2 l1 l2:ab)(a1:TI≠z)(a2:TO≠z)(a3:i1≠z)(a4:i2≠z)(a5:TI≠TO)(a6:TI≠i1)(a7:TI≠i2)(a8:TO≠i1)(a9:TO≠i2)(a10:i1≠i2) :
  Turn P w K (.Tuple elts x1 pos) (pI l1 l2) [z,TO,i1,i2,TI] z (fun i h=>IsZip h z TI TO .none/\IsPair h TI (.ref i1) (.ref i2)/\(∃ a b,IsPair h TO a b)/\h.IsListIter i1 l1 i/\h.IsListIter i2 l2 i) where
 mem:=by simp
 obj:=fun i h ⟨hz,hTI,⟨a,b,hTO⟩,h1,h2⟩ c hc=>by
  have e:c=z\/c=TO\/c=i1\/c=i2\/c=TI:=by simpa using hc
  rcases e with rfl | rfl | rfl | rfl | rfl
  .exact ⟨_,hz,fun v q=>by cases q⟩
  .exact ⟨_,hTO,fun v q=>by cases q⟩
  .obtain ⟨o,e,c,d⟩:=h1;exact ⟨o,e,fun v z=>by rw [d] at z;cases z⟩
  .obtain ⟨o,e,c,d⟩:=h2;exact ⟨o,e,fun v z=>by rw [d] at z;cases z⟩
  .exact ⟨_,hTI,fun v q=>by cases q⟩
 keep:=fun i h h' ⟨hz,hTI,⟨a,b,hTO⟩,h1,h2⟩ k=>⟨k z (by simp) _ hz,k TI (by simp) _ hTI,⟨a,b,k TO (by simp) _ hTO⟩,h1.at fun o e=>k i1 (by simp) o e,h2.at fun o e=>k i2 (by simp) o e⟩
 item:=by
  intro X hP hw hK hc i aa s Y H E I hf ⟨hz,hTI,⟨a,b,hTO⟩,h1,h2⟩ hg;subst hP hw hK;obtain ⟨xs,ys,x,y,e1,e2,hx,hy⟩:=hg;obtain ⟨its1,Y9,p1,_⟩:=I.list (D9.of (K:=X.K) e1);obtain ⟨its2,qT,p2,_⟩:=I.list (D9.of (K:=X.K) e2);obtain ⟨u1,E1,r1⟩:=Y9.get hx;obtain ⟨u2,jH,r2⟩:=qT.get hy;have nl:∀ c∈[z,TO,i1,i2,TI],l1≠c/\l2≠c:=fun c hc=>⟨fun q=>(by rw [q,(hf c hc).1] at e1;cases e1),fun q=>(by rw [q,(hf c hc).1] at e2;cases e2)⟩
  have D:ZipApart z TI TO i1 i2 l1 l2:=⟨a1,a2,a3,a4,a5,a6,a7,a8,a9,a10,(nl z (by simp)).1,(nl TO (by simp)).1,(nl i1 (by simp)).1,(nl i2 (by simp)).1,(nl z (by simp)).2,(nl TO (by simp)).2,(nl i1 (by simp)).2,(nl i2 (by simp)).2⟩
  refine wpAny_pyNext_zip_item D hz hTI hTO h1 h2 p1.isList p2.isList (x:=u1) (y:=u2) (by simpa using E1) (by simpa using jH) fun h' b1 b2 b3 b4 b5 b6 b7=>⟨_,rfl,wpAny_letOwnedTupleGo_zip b1 fun h2' c1 c2=>?_⟩
  have P0:z<s.heap.objs.size:=ba hz;have up:∀ c o,c≠z->h'.get? c=some o->h2'.get? c=some o:=fun c o hc e=>(c2.2 c hc).trans e
  have nT:∀ c∈[z,TO,i1,i2,TI],c≠s.heap.objs.size:=fun c hc=>by
   have e:c=z\/c=TO\/c=i1\/c=i2\/c=TI:=by simpa using hc
   refine O4 ?_
   rcases e with rfl | rfl | rfl | rfl | rfl
   .exact ba hz
   .exact ba hTO
   .obtain ⟨o,e,_⟩:=h1;exact ba e
   .obtain ⟨o,e,_⟩:=h2;exact ba e
   .exact ba hTI
  have hT:=up _ _ (Nat.ne_of_gt P0) b5;refine ⟨.ref s.heap.objs.size,A0 H s.heap.objs.size (.tup [x,y]),I.turnNew (t':=s.toks) (ch:=[z,TO,i1,i2,TI]) hf (fun c u hc e=>?_) (C1 _) ⟨by show 2<=ak;decide,[u1,u2],.cons r1 (.cons r2 .nil),?_⟩,rfl,⟨_,xs,ys,x,y,e1,e2,hx,hy,I.fresh,rfl,rfl⟩,
   ⟨c1,up _ _ a1 (b7 _ _ a1 a5 a6 a7 hTI),⟨_,_,up _ _ a2 b2⟩,b3.at fun o e=>up _ o a3 e,b4.at fun o e=>up _ o a4 e⟩,fun c hc=>by rw [A4 (nT c hc)];exact (hf c hc).1⟩
  .have q:c≠z/\c≠TO/\c≠i1/\c≠i2:=by
    refine ⟨fun q=>hc (by simp [q]),fun q=>hc (by simp [q]),fun q=>hc (by simp [q]),fun q=>hc (by simp [q])⟩
   exact up c u q.1 (b7 c u q.1 q.2.1 q.2.2.1 q.2.2.2 e)
  .exact ⟨_,hT,rfl,_,rfl⟩
 done:=by
  intro X hP hw hK hc i aa s Y H E I hf ⟨hz,hTI,⟨a,b,hTO⟩,h1,h2⟩ hg;subst hP hw hK;obtain ⟨xs,ys,e1,e2,fW⟩:=hg;obtain ⟨its1,Y9,p1,_⟩:=I.list (D9.of (K:=X.K) e1);obtain ⟨its2,qT,p2,_⟩:=I.list (D9.of (K:=X.K) e2);have q1:=Y9.length;have q2:=qT.length;have nl:∀ c∈[z,TO,i1,i2,TI],l1≠c/\l2≠c:=fun c hc=>⟨fun q=>(by rw [q,(hf c hc).1] at e1;cases e1),fun q=>(by rw [q,(hf c hc).1] at e2;cases e2)⟩
  have D:ZipApart z TI TO i1 i2 l1 l2:=⟨a1,a2,a3,a4,a5,a6,a7,a8,a9,a10,(nl z (by simp)).1,(nl TO (by simp)).1,(nl i1 (by simp)).1,(nl i2 (by simp)).1,(nl z (by simp)).2,(nl TO (by simp)).2,(nl i1 (by simp)).2,(nl i2 (by simp)).2⟩
  refine wpAny_pyNext_zip_end (I.ok.hd hc) D hz hTI hTO h1 h2 p1.isList p2.isList (by rcases fW with q | q <;> simp <;> lia) fun h' k=>⟨rfl,?_⟩
  refine I.step (h':=h') (t':=s.toks) (g':=s.gens) (d':=s.drawn) (ch:=[z,TO,i1,i2,TI]) (fun b hb=>?_) (fun b u _ _ hc e _=>?_) (fun b u _ _ hc e _=>⟨u.slots,?_⟩) (fun b u _ e n=>n)
   (fun b u hc e=>⟨u,?_⟩) (fun b xs e=>e) (fun b ob u e=>e) (fun b ps e=>⟨#[],by rw [e];simp⟩) (fun m hm=>?_) (fun b u e=>?_) I.bare
  .obtain ⟨f0,f1,f2,f3,f4,f5⟩:=hf b hb;exact ⟨f3,f1,f4,f5⟩
  .exact k b u (fun q=>hc (by simp [q])) (fun q=>hc (by simp [q])) (fun q=>hc (by simp [q])) (fun q=>hc (by simp [q])) e
  .exact k b u (fun q=>hc (by simp [q])) (fun q=>hc (by simp [q])) (fun q=>hc (by simp [q])) (fun q=>hc (by simp [q])) e
  .exact k b u (fun q=>hc (by simp [q])) (fun q=>hc (by simp [q])) (fun q=>hc (by simp [q])) (fun q=>hc (by simp [q])) e
  .obtain ⟨ob,es,ep,ho,r⟩:=hm;have nL:∀ c∈[z,TO,i1,i2,TI],X.env.locals≠c:=fun c hc q=>(hf c hc).2.1 q.symm
   exact ⟨ob,es,ep,k _ ob (nL z (by simp)) (nL TO (by simp)) (nL i1 (by simp)) (nL i2 (by simp)) ho,r⟩
  .have nch:∀ b u,H b=some u->∀ c∈[z,TO,i1,i2,TI],b≠c:=fun b u e c hc q=>by rw [q,(hf c hc).1] at e;cases e
   refine (I.hok b u e).stay (fun c v hc q=>?_) (fun c q=>q) fun c xs q=>q
   have:∀ d∈[z,TO,i1,i2,TI],c≠d:=by
    rcases hc with z | z
    .rw [z];exact nch b u e
    .exact nch c _ z
   exact k c v (this z (by simp)) (this TO (by simp)) (this i1 (by simp)) (this i2 (by simp)) q
 self:=fun _ _ _ _ _ st h=>wpAny_pyIter_zip st.1 h
section
variable {X:Cx}
noncomputable def iZip (ta:TA):TI:=fun Y H R=>ta Y H fun vs H1=>∃ (l1 l2:ab) (xs ys:Ao),vs=[.ref l1,.ref l2]/\H1 l1=some (.lst xs)/\H1 l2=some (.lst ys)/\R (pI l1 l2) H1
theorem arY{a b:ao}{p pos:aw}(hg:Gl X "zip")(hm:X.mg "zip"=none)(ha:PA X [a,b] ta)(h1:F6 a=false:=by rfl)(h2:F6 b=false:=by rfl) :
  PI X (.Tuple elts x1 tpos) (.Call (.Name "zip" p) [a,b] [] pos) (iZip ta):=by
 intro aa s Y H R I h;refine Call_ (aB I hg hm boot_zip (PyProof.Rows.callWith_type1 (thnA (ha pos aa s Y H _ I h) fun us s1 vs H1 I1 r1 q1=>?_) (M9 h1) (by rw [M9 h2];rfl)));obtain ⟨l1,l2,xs,ys,rfl,e1,e2,q⟩:=q1;obtain ⟨u1,u2,rfl,fX,mU⟩:=vals2 r1
 cases fX
 cases mU
 obtain ⟨its1,Y9,p1,_⟩:=I1.list (D9.of (K:=X.K) e1);obtain ⟨its2,qT,p2,_⟩:=I1.list (D9.of (K:=X.K) e2);refine call_zip_2 p1.isList p2.isList fun h' z1 z2 z3 z4 z5 z6 z7=>wpAny_pyIter_zip z1 ?_
 refine ⟨s1.heap.objs.size+4,[s1.heap.objs.size+4,s1.heap.objs.size+3,s1.heap.objs.size,s1.heap.objs.size+1,s1.heap.objs.size+2],_,_,H1,rfl,I1.kept (t':=s1.toks) z7,
  amV _ (s1.heap.objs.size+2) (s1.heap.objs.size+3) s1.heap.objs.size (s1.heap.objs.size+1) l1 l2 (n6 (by lia)) (n6 (by lia)) (n6 (by lia)) (n6 (by lia)) (n6 (by lia)) (n6 (by lia)) (n6 (by lia)) (n6 (by lia)) (n6 (by lia)) (n6 (by lia)),⟨z1,z2,⟨_,_,z3⟩,z4,z5⟩,fun b hb=>?_,q⟩
 have T5:s1.heap.objs.size<=b:=by
  have e:b=s1.heap.objs.size+4\/b=s1.heap.objs.size+3\/b=s1.heap.objs.size\/b=s1.heap.objs.size+1\/b=s1.heap.objs.size+2:=by simpa using hb
  rcases e with rfl | rfl | rfl | rfl | rfl
  .exact bB _ _
  .exact bB _ _
  .exact C1 _
  .exact bB _ _
  .exact bB _ _
 exact I1.fpOk T5 (I1.hok.fresh T5)
theorem arZ{a b:ao}{p pos:aw}(hm:X.mg "zip"=none)(ha:QA X [a,b] ta)(hg:Gl X "zip":=by rfl)(h1:F6 a=false:=by rfl)(h2:F6 b=false:=by rfl) :
  QI X (.Tuple elts x1 tpos) (.Call (.Name "zip" p) [a,b] [] pos) (iZip ta):=⟨arY hg hm ha.out h1 h2⟩
end
theorem aqg{R:It->Hp->Prop} : iZip ta Y H R=ta Y H fun vs H1=>∃ (l1 l2:ab) (xs ys:Ao),vs=[.ref l1,.ref l2]/\H1 l1=some (.lst xs)/\H1 l2=some (.lst ys)/\R (pI l1 l2) H1:=rfl
theorem forZ{l1 l2:ab}{ys:Ao}{g:TG}(Pv:Nat->Ar)(h0:Pv 0 Y H)(hl:∀ i Y H,Pv i Y H->H l1=some (.lst xs)/\H l2=some (.lst ys))(hs:∀ i x y t Y H,xs[i]?=some x->ys[i]?=some y->Pv i Y H->H t=none->g (.ref t) Y (A0 H t (.tup [x,y])) fun σ2 H2=>tb { D with nx:=Pv (i+1),ct:=Pv (i+1),bk:=D.nx } σ2 H2)(hd:∀ Y H,Pv (min xs.length ys.length) Y H->D.nx Y H):ForIt (pI l1 l2) g tb D Y H:=by
 refine ⟨fun i m Y H=>m=min xs.length ys.length-i/\i<=min xs.length ys.length/\Pv i Y H,⟨min xs.length ys.length,by simp,J7 _,h0⟩,?_⟩;rintro i m Y H ⟨rfl,hi,p⟩;obtain ⟨e1,e2⟩:=hl i Y H p
 by_cases C4:i<min xs.length ys.length
 .refine .inr ⟨⟨xs,ys,xs[i]'(by lia),ys[i]'(by lia),e1,e2,by simp,by simp⟩,Pv (i+1),fun σ' H' p'=>⟨_,by lia,rfl,C4,p'⟩,fun v H' y=>?_⟩;obtain ⟨t,xs',ys',x,y',f1,f2,hx,hy,ht,rfl,rfl⟩:=y;rw [e1] at f1;cases f1;rw [e2] at f2;cases f2;exact hs i x y' t Y H hx hy p ht
 .have e:i=min xs.length ys.length:=by lia
  subst e;exact .inl ⟨⟨xs,ys,e1,e2,by lia⟩,hd Y H p⟩
noncomputable def Itr3 (lo st:Int) (n:Nat):It:=⟨fun i _=>i<n,fun i H x H'=>H'=H/\x=.int (lo+i*st),fun i _=>n<=i⟩
theorem ahZ{P:ax}{w:av}(it:ab)(lo st:Int)(n:Nat):Turn P w K tg (Itr3 lo st n) [it] it (fun i h=>IsRangeIter h it (lo+(i:Nat)*st) ((n:Int)-(i:Nat)) st) where
 mem:=by simp
 obj:=fun i h st b hb=>by
  have e:b=it:=by simpa using hb
  subst e;exact ⟨_,st,fun v z=>by
   have z':Data.fields _=Data.cell v:=z
   cases z'⟩
 keep:=fun i h h' st k=>k it (by simp) _ st
 item:=by
  intro X hP hw hK hc i aa s Y H E I hf T9 hg;subst hP hw hK;obtain ⟨f0,f1,f2,f3,f4,f5⟩:=hf it (by simp);have W:=Walks.range (prog:=X.prog) (w:=X.w) (I.ok.hd hc) it lo st n;refine W.item i s _ _ hg T9 fun v h' tk hv st' kk=>?_
  obtain ⟨t,rfl⟩:=hv;have I1:Inv X aa Y H { s with heap:=h',toks:=tk }:=I.turned (fun b o hb e=>kk b o (by simpa using hb) e) f0 f1 f3 f4 f5;exact ⟨_,rfl,go_of (s:={ s with heap:=h',toks:=tk }) (n:="range_iterator") st' rfl rfl (by decide) ⟨.int (lo+i*st),H,I1,⟨t,rfl⟩,⟨rfl,rfl⟩,st',fun b hb=>(hf b hb).1⟩⟩
 done:=by
  intro X hP hw hK hc i aa s Y H E I hf st hg;subst hP hw hK;obtain ⟨f0,f1,f2,f3,f4,f5⟩:=hf it (by simp);exact wpAny_pyNext_range_end (I.ok.hd hc) st (by have:n<=i:=hg;lia) fun h' eb=>⟨rfl,I.turned (t':=s.toks) (fun b o hb e=>eb b o hb e) f0 f1 f3 f4 f5⟩
 self:=fun _ _ _ _ _ st h=>wpAny_pyIter_rangeiter st h
theorem pJ{α β:Type}(f:α->β):∀ (l:List α) (i:Nat),(l.eraseIdx i).map f=(l.map f).eraseIdx i
 | [],_=>rfl
 | _::_,0=>rfl
 | x::l,i+1=>by
  show f x::(l.eraseIdx i).map f=f x::(l.map f).eraseIdx i;rw [pJ f l i]
noncomputable def uG (td ty tx:TE):TE:=fun Y H Q=>td Y H fun x H1=>∃ a,x=.ref a/\eT H1 a/\ty Y H1 fun y H2=>tx Y H2 fun z H3=>∃ kvs k,H3 a=some (.dK kvs)/\kvs.length<ak/\y=kV k/\
 (∀ v,valV kvs k=some v->Q v H3)/\(valV kvs k=none->Q z (A0 H3 a (.dK (putK kvs k z))))
section
variable {X:Cx} {o e f:ao} {apos cpos:aw} {td ty tx:TE} {aa:Ad} {Y:St} {H:Hp} {s:ag} {a:ab} {A:ay} {E:Ac}
theorem ar0{k:B1}{z:V}{r:ac}{Q:Ac}(I:Inv X aa Y H s)(e:H a=some (.dK kvs))(hl:kvs.length<ak)(ry:RelV (kV k) u)(rz:RelV z r)(h1:∀ v w' s',valV kvs k=some v->Inv X aa Y H s'->RelV v w'->Q w' s')(h2:∀ s',valV kvs k=none->Inv X aa Y (A0 H a (.dK (putK kvs k z))) s'->Q r s') :
  wpAny (model X.prog X.w) A (call (.builtin "dict.setdefault") [.ref a,u,r]) Q E s:=by
 obtain ⟨hz,hd,vs,rel,dd⟩:=dk_of I.hok e;have A9:=rel.length;refine call_meetsIn PySem.F.slot_dict_setdefault dd.typeIs PySem.F.entry_dict_setdefault (PySem.F.args_dict_setdefault_3 _ _ _) (kt_meets_setdefault (P3 X.prog X.w) a (kV_is ry) hd r) ⟨vs,dd,by lia,fun v hv=>?_,fun hn h' hm hs=>?_⟩
 .have:=rel.val k
  rw [hv] at this;cases fY:valV kvs k with
  | none=>rw [fY] at this;exact this.elim
  | some x=>rw [fY] at this;exact h1 x v _ fY (I.tok _) this
 .have:=rel.val k
  rw [hn] at this;cases fY:valV kvs k with
  | some x=>rw [fY] at this;exact this.elim
  | none=>
   have g4:(putK kvs k z).length<=ak:=by rw [amq z fY,C6,V2];lia
   obtain ⟨ob,_,_,ho,_⟩:=id hm;exact h2 _ fY (tG (t':=s.toks+1) I (by rw [e];exact trivial) hs ⟨ob,ho⟩ (tH g4 hd (rel.put k rz) hm))
theorem amW(ho:PE X o td)(he:PE X e ty)(hf:PE X f tx)(m:M2 X o "setdefault" apos e f cpos):PE X (.Call (.Attribute o "setdefault" apos) [e,f] [] cpos) (uG td ty tx):=by
 intro aa s Y H Q I h;refine wpAny_Call_method m.base m.few m.line PySem.F.plainAttrs_dict PySem.F.slot_dict_setdefault PySem.F.type_dict_setdefault (thnE (ho aa s Y H _ I h) fun u s1 x H1 I1 rx zz=>?_);obtain ⟨a,ex,d,q1⟩:=zz;subst ex;obtain rfl:u=ac.ref a:=rx;obtain ⟨t1,t2,_⟩:=tJ I1 d;refine ⟨t1,t2,?_⟩;rw [m.trees];refine Calls.callWith_builtin rfl (Calls.evalArgs_plain (Calls.spliced_cons (thnE (he aa s1 Y H1 _ I1 q1) fun iv s2 y H2 I2 ry q2=>
  Calls.spliced_cons (thnE (hf aa s2 Y H2 _ I2 q2) fun fv s3 z H3 I3 rz ⟨kvs,k,e3,hl,ey,q3,q4⟩=>Calls.spliced_nil ?_))))
 subst ey;exact ar0 I3 e3 hl ry rz (fun v w' s4 hv I4 rw'=>⟨v,H3,I4,rw',q3 v hv⟩) fun s4 hn I4=>⟨z,_,I4,rz,q4 hn⟩
theorem amX(ho:QE X o td)(he:QE X e ty)(hf:QE X f tx)(h1:F6 e=false:=by rfl)(h2:F6 f=false:=by rfl)(G1:bu o "setdefault" X.env (eval o X.env)=eval o X.env:=by rfl)(G2:(apos.endLine==cpos.line)=true:=by rfl):QE X (.Call (.Attribute o "setdefault" apos) [e,f] [] cpos) (uG td ty tx):=
 ⟨amW ho.out he.out hf.out ⟨G1,by rw [M9 h1,M9 h2];rfl,G2,by rw [M9 h1,M9 h2];rfl⟩⟩
theorem amY:uG td ty tx Y H Q=td Y H fun x H1=>∃ a,x=.ref a/\eT H1 a/\ty Y H1 fun y H2=>tx Y H2 fun z H3=>∃ kvs k,H3 a=some (.dK kvs)/\kvs.length<ak/\y=kV k/\
 (∀ v,valV kvs k=some v->Q v H3)/\(valV kvs k=none->Q z (A0 H3 a (.dK (putK kvs k z)))):=rfl
end
section
variable {X:Cx} {tg:ao}
noncomputable def n8 (i j k:Int):Nat:=(if i<j then (j-i-1) / k+1 else 0).toNat
noncomputable def iRng3 (ta:TA):TI:=fun Y H R=>ta Y H fun vs H1=>∃ i j k:Int,vs=[.int i,.int j,.int k]/\(-(2 ^ 60)<=i/\i<2 ^ 60/\-(2 ^ 60)<=j/\j<2 ^ 60/\0<k/\k<1000000)/\R (Itr3 i k (n8 i j k)) H1
theorem ah0{a b c:Int}(h1:-(2 ^ 60)<=a)(h2:a<2 ^ 60)(h3:-(2 ^ 60)<=b)(h4:b<2 ^ 60)(h5:0<c)(h6:c<1000000):Builtin.Range.small a b c=true:=by
 have hq:0<=(b-a-1) / c\/¬ a<b:=by
  by_cases h:a<b
  .exact .inl (Int.ediv_nonneg (by lia) (by lia))
  .exact .inr h
 have mV:(b-a-1) / c<=b-a-1\/¬ a<b:=by
  by_cases h:a<b
  .exact .inl (Int.ediv_le_self _ (by lia))
  .exact .inr h
 have hm:(b-a-1) / c*c<=b-a-1:=Int.ediv_mul_le _ (by lia);have hc:0<=(b-a-1) / c->0<=(b-a-1) / c*c:=fun h=>Int.mul_nonneg h (by lia)
 unfold Builtin.Range.small Builtin.Range.rangeSize;simp only [Builtin.Range.rangeFitsLong,V3,Bool.or_eq_true,decide_eq_true_eq,beq_iff_eq,show c > 0 from h5,if_true]
 split <;> lia
theorem akW{a b c:ao}{p pos:aw}(hg:Gl X "range")(hm:X.mg "range"=none)(ha:PA X [a,b,c] ta)(h1:F6 a=false)(h2:F6 b=false)(h3:F6 c=false):PI X tg (.Call (.Name "range" p) [a,b,c] [] pos) (iRng3 ta):=by
 intro aa s Y H R I h;refine Call_ (aB I hg hm boot_range (PyProof.Rows.callWith_type1 (thnA (ha pos aa s Y H _ I h) fun us s1 vs H1 I1 r1 q1=>?_) (M9 h1) (by rw [M9 h2,M9 h3];rfl)));obtain ⟨i,j,k,rfl,⟨b1,b2,b3,b4,b5,b6⟩,q⟩:=q1
 cases r1 with
 | cons r rr=>
 cases rr with
 | cons r' rr=>
 cases rr with
 | cons r'' rr=>
 cases rr
 obtain ⟨t,rfl⟩:=r;obtain ⟨t',rfl⟩:=r';obtain ⟨t'',rfl⟩:=r'';refine call_range_3 (by lia) ?_ (.inl (PyProof.noPylong_small (by lia)));refine wpAny_pyIter_range (IsRange.new ..) (ah0 b1 b2 b3 b4 b5 b6) ?_;have I2:Inv X aa Y H1 { s1 with heap:=s1.heap.push { cls:=.type "range",data:=.fields #[.int i t,.int j t',.int k t''] },toks:=s1.toks }:=I1.kept fun b o e=>bg _ e
 refine ⟨(s1.heap.push { cls:=.type "range",data:=.fields #[.int i t,.int j t',.int k t''] }).objs.size,[(s1.heap.push { cls:=.type "range",data:=.fields #[.int i t,.int j t',.int k t''] }).objs.size],_,_,H1,rfl,
  I2.kept (t':=s1.toks) fun b o e=>bg _ e,ahZ _ i k (n8 i j k),?_,fun b hb=>?_,q⟩
 .have e1:i+((0:Nat):Int)*k=i:=by simp
  have e2:((n8 i j k:Nat):Int)-((0:Nat):Int)=Builtin.Range.rangeSize i j k:=by
   unfold n8 Builtin.Range.rangeSize;rw [if_pos b5]
   split
   .have:0<=(j-i-1) / k:=Int.ediv_nonneg (by lia) (by lia)
    lia
   .rfl
  show IsRangeIter _ _ (i+((0:Nat):Int)*k) (((n8 i j k:Nat):Int)-((0:Nat):Int)) k;rw [e1,e2];exact br _ rfl
 .have e:b=(s1.heap.push { cls:=.type "range",data:=.fields #[.int i t,.int j t',.int k t''] }).objs.size:=by simpa using hb
  subst e;exact I2.fpOk (C1 _) (I2.hok.fresh (C1 _))
theorem qi_r3{a b c:ao}{p pos:aw}(hm:X.mg "range"=none)(ha:QA X [a,b,c] ta)(hg:Gl X "range":=by rfl)(h1:F6 a=false:=by rfl)(h2:F6 b=false:=by rfl)(h3:F6 c=false:=by rfl):QI X tg (.Call (.Name "range" p) [a,b,c] [] pos) (iRng3 ta):=⟨akW hg hm ha.out h1 h2 h3⟩
end
theorem amZ{R:It->Hp->Prop} : iRng3 ta Y H R=ta Y H fun vs H1=>∃ i j k:Int,vs=[.int i,.int j,.int k]/\(-(2 ^ 60)<=i/\i<2 ^ 60/\-(2 ^ 60)<=j/\j<2 ^ 60/\0<k/\k<1000000)/\R (Itr3 i k (n8 i j k)) H1:=rfl
theorem ar1{st:Int}{c:TT}(fr:St)(l7:compStart 1 ixs Y=none::fr)(Pv:ab->Nat->Ao->Hp->Prop)(h0:∀ D,H1 D=none->Pv D 0 [] (A0 H1 D (.lst [])))(hs:∀ D i ys H,H1 D=none->i<n->Pv D i ys H->H D=some (.lst ys)->ys.length<=i->c (some (.int (lo+i*st))::fr) H fun b H4=>
   if b=true then te (some (.int (lo+i*st))::fr) H4 fun y H5=>H5 D=some (.lst ys)/\ys.length<ak/\CW n fr (Pv D) (i+1) (ys++[y]) (some (.int (lo+i*st))::fr) (A0 H5 D (.lst (ys++[y])))
   else H4 D=some (.lst ys)/\CW n fr (Pv D) (i+1) ys (some (.int (lo+i*st))::fr) H4)(hd:∀ D ys H,H1 D=none->Pv D n ys H->H D=some (.lst ys)->ys.length<=n->Q (.ref D) H):cS (Itr3 lo st n) 1 ixs (gName 0) c te Y Q H1:=by
 intro D hD;refine ⟨n,CW n fr (Pv D),⟨J7 _,J7 _,⟨none,l7⟩,h0 D hD⟩,?_⟩;rintro i ys σ2 H2 ⟨hi,hy,⟨v,rfl⟩,p⟩ hDy
 by_cases C4:i<n
 .refine .inr ⟨C4,C4,fun x H' y=>?_⟩;obtain ⟨e,y⟩:=y;subst e y;exact hs D i ys _ hD C4 p hDy hy
 .have e:i=n:=by lia
  subst e;exact .inl ⟨C1 _,hd D ys H2 hD p hDy hy⟩
section
variable {X:Cx} {aa:Ad} {Y:St} {H:Hp} {s:ag} {a:ab}
theorem Inv.swap{u u':HO}(I:Inv X aa Y H s)(e:H a=some u)(n1:∀ xs,u≠.tup xs)(n2:∀ x,u≠.own x)(n3:∀ ps,u≠.tbl ps)(n4:∀ o v,X.H₀ a≠some (.frz o v))(new:ObjOk X.prog X.w H s.heap a u'):Inv X aa Y (A0 H a u') s:=by
 have ne:∀ b,H b=none->b≠a:=fun b h q=>by rw [q,e] at h;cases h
 have own:∀ c x,H c=some (.own x)->A0 H a u' c=some (.own x):=fun c x q=>by
  rw [A4 (fun z=>by rw [z,e] at q;exact n2 x (bh q))];exact q
 have tup:∀ c xs,H c=some (.tup xs)->A0 H a u' c=some (.tup xs):=fun c x q=>by
  rw [A4 (fun z=>by rw [z,e] at q;exact n1 x (bh q))];exact q
 refine ⟨I.ok,I.os,I.bare,⟨I.base.keep,I.base.slot,fun b o h1 h2 h3=>?_,I.base.there,fun b xs h=>tup b xs (I.base.tups b xs h),fun b o v h=>?_,fun b ps h=>?_⟩,I.loc,I.cell,?_,fun x c h=>?_,fun p hp=>?_,fun b v h=>?_,I.len⟩
 .have:=I.base.free b o h1 h2 h3
  rw [A4 (ne b this)];exact this
 .rw [A4 (fun z=>n4 o v (by rw [<- z];exact h))];exact I.base.frzs b o v h
 .obtain ⟨m,q⟩:=I.base.tbls b ps h;exact ⟨m,by rw [A4 (fun z=>by rw [z,e] at q;exact n3 _ (bh q))];exact q⟩
 .rw [A4 (ne _ I.free)];exact I.free
 .rw [A4 (ne _ (I.freeC x c h))];exact I.freeC x c h
 .obtain ⟨h1,h2,h3⟩:=I.pin p hp;exact ⟨h1,by rw [A4 (ne _ h2)];exact h2,h3⟩
 .by_cases hb:b=a
  .subst hb;rw [A1] at h;cases h;exact new.stay (fun _ _ _ q=>q) (fun c q=>own c _ q) fun c xs q=>tup c xs q
  .rw [A4 hb] at h;exact (I.hok b v h).stay (fun _ _ _ q=>q) (fun c q=>own c _ q) fun c xs q=>tup c xs q
end
noncomputable def lK (a:ab) (o:Obj) (kvs:List (B1×V)):It:=
 ⟨fun i H=>H a=some (.frz o (.dK kvs))/\i<kvs.length,fun i H x H'=>H'=H/\∃ k v,kvs[i]?=some (k,v)/\x=kV k,fun i H=>H a=some (.frz o (.dK kvs))/\kvs.length<=i⟩
theorem akX{P:ax}{w:av}(a it:ab)(o:Obj)(kvs:List (B1×V))(vs:List (B1×ac))(ep:Nat)(O6:∀ h:au,h.get? a=some o->h.DictAt (P3 P w) a vs ep)(rel:KV kvs vs):Turn P w K tg (lK a o kvs) [it] it (fun i h=>h.IsKeyIter it a i vs.length ep) where
 mem:=by simp
 obj:=fun i h st b hb=>by
  have e:b=it:=by simpa using hb
  subst e;obtain ⟨o,e,c,d⟩:=st;exact ⟨o,e,fun v z=>by rw [d] at z;cases z⟩
 keep:=fun i h h' st k=>st.at fun o e=>k it (by simp) o e
 item:=by
  intro X hP hw hK hc i aa s Y H E I hf st hg;subst hP hw hK;obtain ⟨f0,f1,f2,f3,f4,f5⟩:=hf it (by simp);obtain ⟨yI,mW⟩:=hg;have hd:=O6 s.heap (I.hok a _ yI).1;have mX:i<vs.length:=by rw [<- rel.length];exact mW
  refine wpAny_pyNext_dict_item st hd (k:=vs[i].1) (v:=vs[i].2) (by rw [L6 mX]) fun key h' k7 mY qU=>?_
  have I1:Inv X aa Y H { s with heap:=h' }:=I.turned (t':=s.toks) (fun b o hb e=>(qU.2 b hb).trans e) f0 f1 f3 f4 f5;obtain ⟨oi,e,c,d⟩:=id mY;have hk:kvs[i].1=vs[i].1:=by
   have:=congrArg (·[i]?) rel.keys
   simpa [mW,mX] using this
  have rk:RelV (kV kvs[i].1) key:=by
   rw [hk];have k7:keyIs vs[i].1 key=true:=k7;generalize vs[i].1=kk at k7
   rcases q5 k7 with ⟨j,t,rfl,rfl⟩ | ⟨x,t,rfl,rfl⟩
   .exact ⟨t,rfl⟩
   .exact ⟨t,rfl⟩
  exact ⟨key,rfl,go_of (s:={ s with heap:=h' }) e c d (by decide) ⟨kV kvs[i].1,H,I1,rk,⟨rfl,kvs[i].1,kvs[i].2,by rw [L6 mW],rfl⟩,mY,fun b hb=>(hf b hb).1⟩⟩
 done:=by
  intro X hP hw hK hc i aa s Y H E I hf st hg;subst hP hw hK;obtain ⟨f0,f1,f2,f3,f4,f5⟩:=hf it (by simp);obtain ⟨yI,mW⟩:=hg;have hd:=O6 s.heap (I.hok a _ yI).1;exact wpAny_pyNext_dict_end (I.ok.hd hc) st hd (by rw [List.getElem?_eq_none_iff,<- rel.length];exact mW) fun h' eb=>⟨rfl,I.turned (t':=s.toks) (fun b o hb e=>eb b o hb e) f0 f1 f3 f4 f5⟩
 self:=fun _ _ _ _ _ st h=>wpAny_pyIter_keyiter st h
noncomputable def Ends.thaw (D:Ends) (a:ab) (kvs:List (B1×V)):Ends where
 nx:=fun Y H=>(∃ o,H a=some (.frz o (.dK kvs)))/\D.nx Y (A0 H a (.dK kvs))
 rt:=fun v H=>(∃ o,H a=some (.frz o (.dK kvs)))/\D.rt v (A0 H a (.dK kvs))
noncomputable def tForD (tl:TE) (g:TG) (tb:TS):TS:=fun D Y H=>tl Y H fun x H1=>∃ a kvs,x=.ref a/\H1 a=some (.dK kvs)/\∀ o,ForIt (lK a o kvs) g tb (D.thaw a kvs) Y (A0 H1 a (.frz o (.dK kvs)))
theorem aqh{l:ao}{body:List aq}{g:TG}{pos:aw}(hp:bd (model X.prog X.w) X.A X.env X.xe)(hc:X.calm=true)(hl:PE X l tl)(hg:PG X tg g)(hb:Z6 X body tb)(hs:∀ x,foldedSetIterable l X.env x=pure x):PS X (.For tg l body [] pos) (tForD tl g tb):=by
 intro aa s Y H D I h;refine wpAny_For (thnE (hl aa s Y H _ I h) fun v s1 x H1 I1 r1 q1=>?_) hs;obtain ⟨a,kvs,rfl,e,q⟩:=q1
 cases r1
 obtain ⟨z,hd,vs,rel,dd⟩:=dk_of I1.hok e;obtain ⟨ep,O6⟩:=dd.dictAt;obtain ⟨o,es,ho,g9⟩:=id O6;refine wpAny_pyIter_dict hd O6 ?_;have NF:∀ o' v',X.H₀ a≠some (.frz o' v'):=fun o' v' z=>by
  have:=I1.base.frzs _ _ _ z
  rw [e] at this;cases this
 have I1':Inv X aa Y H1 { s1 with heap:=s1.heap.push { cls:=.type "dict_keyiterator",data:=.fields #[.ref a,.int 0 0,.int vs.length 0,.int ep 0] } }:=I1.kept (t':=s1.toks) fun b u e=>bg _ e
 have I2:=I1'.swap (u':=.frz o (.dK kvs)) e (fun _ q=>by cases q) (fun _ q=>by cases q) (fun _ q=>by cases q) NF ⟨bg _ ho,I1'.hok a _ e⟩;have thaw:∀ {σ':St} {H':Hp} {s':ag},Inv X aa σ' H' s'->(∃ o,H' a=some (.frz o (.dK kvs)))->Inv X aa σ' (A0 H' a (.dK kvs)) s':=fun {σ' H' s'} I' ⟨o',e'⟩=>
  I'.swap e' (fun _ q=>by cases q) (fun _ q=>by cases q) (fun _ q=>by cases q) NF (I'.hok a _ e').2
 have T:Turn X.prog X.w X.K tg (lK a o kvs) [s1.heap.objs.size] s1.heap.objs.size (fun i h=>h.IsKeyIter s1.heap.objs.size a i vs.length ep):=akX a _ o kvs vs ep (fun h e=>⟨o,es,e,g9⟩) rel;have l7:A0 H1 a (.frz o (.dK kvs)) s1.heap.objs.size=none:=by rw [A4 (fun q=>by rw [<- q,I1.fresh] at e;cases e)];exact I1.fresh
 have f2:∀ b∈[s1.heap.objs.size],FpOk X aa (A0 H1 a (.frz o (.dK kvs))) b:=fun b hb=>by
  have e:b=s1.heap.objs.size:=by simpa using hb
  subst e;exact I1.fpOk (C1 _) l7
 obtain ⟨W,⟨m0,w0⟩,turn⟩:=q o;have stat:∀ {H':Hp},(∀ b∈[s1.heap.objs.size],H' b=none)->∀ b∈[s1.heap.objs.size],FpOk X aa H' b:=fun hn b hb=>⟨hn b hb,(f2 b hb).2⟩
 refine codeAny_forLoop_any (fun n s'=>∃ i σ' H',Inv X aa σ' H' s'/\s'.heap.IsKeyIter s1.heap.objs.size a i vs.length ep/\(∀ b∈[s1.heap.objs.size],H' b=none)/\W i n σ' H') ?_ m0 ⟨0,Y,_,I2,⟨_,br _ rfl,rfl,rfl⟩,fun b hb=>(f2 b hb).1,w0⟩;rintro n s3 ⟨i,σ3,H3,I3,dD,mF,w3⟩
 rcases turn i n σ3 H3 w3 with ⟨stop,qn⟩ | ⟨go,N,hN,step⟩
 .refine wpAny_passesOwn hp (M0 (T.done X rfl rfl rfl hc i aa s3 σ3 H3 X.xe I3 (stat mF) dD stop) fun r s4 ⟨hr,I4⟩=>?_);subst hr;exact ca ⟨σ3,_,thaw I4 qn.1,qn.2⟩
 .refine wpAny_passesOwn hp (M0 (T.item X rfl rfl rfl hc i aa s3 σ3 H3 X.xe I3 (stat mF) dD go) fun r s4 ⟨u,hr,h4⟩=>?_);subst hr;refine wpAny_passesOwn hp (M0 h4 fun _ s5 zz=>?_);obtain ⟨x,H5,I5,r5,y5,fO,xV⟩:=zz;have I5':=I5.pinned (stat xV) (T.obj _ _ fO);refine wpAny_passesOwn hp (M0 (hg _ s5 σ3 H5 x u _ I5' r5 (step x H5 y5)) fun _ s6 zz=>?_);obtain ⟨σ6,H6,I6,q6⟩:=zz;refine wpAny_passesOwn hp (M0 (hb _ s6 σ6 H6 _ I6 q6) fun f s7 q7=>?_);have again:∀ {σ7:St} {H7:Hp},Inv X (aa++hJ [s1.heap.objs.size] s5.heap) σ7 H7 s7->N σ7 H7->∃ m,m<n/\∃ i σ' H',Inv X aa σ' H' s7/\s7.heap.IsKeyIter s1.heap.objs.size a i vs.length ep/\(∀ b∈[s1.heap.objs.size],H' b=none)/\W i m σ' H':=fun {σ7 H7} I7 n7=>by
   obtain ⟨m',hm,w7⟩:=hN σ7 H7 n7;refine ⟨m',hm,i+1,σ7,H7,I7.unpinned,T.keep _ _ _ fO fun b hb o e=>(I7.pin (b,o) (Q7 _ (Q7 _ (hV hb e)))).1,fun b hb=>?_,w7⟩;obtain ⟨o,e,d⟩:=T.obj _ _ fO b hb;exact (I7.pin (b,o) (Q7 _ (Q7 _ (hV hb e)))).2.1
  cases f with
  | next=>obtain ⟨σ7,H7,I7,n7⟩:=q7;exact again I7 n7
  | cont=>obtain ⟨σ7,H7,I7,n7⟩:=q7;exact again I7 n7
  | brk=>obtain ⟨σ7,H7,I7,q7⟩:=q7;exact ⟨σ7,_,thaw I7.unpinned q7.1,q7.2⟩
  | ret v=>obtain ⟨x7,σ7,H7,I7,r7,q7⟩:=q7;exact ⟨x7,σ7,_,thaw I7.unpinned q7.1,r7,q7.2⟩
theorem uH{l:ao}{body:List aq}{g:TG}{pos:aw}(hp:bd (model X.prog X.w) X.A X.env X.xe)(hl:QE X l tl)(hg:QG X tg g)(hb:QSs X body tb)(hc:X.calm=true:=by rfl)(hs:∀ x,foldedSetIterable l X.env x=pure x:=by intro _;rfl):QS X (.For tg l body [] pos) (tForD tl g tb):=⟨aqh hp hc hl.out hg.out hb.out hs⟩
theorem aqi{g:TG} : tForD tl g tb D Y H=tl Y H fun x H1=>∃ a kvs,x=.ref a/\H1 a=some (.dK kvs)/\∀ o,ForIt (lK a o kvs) g tb (D.thaw a kvs) Y (A0 H1 a (.frz o (.dK kvs))):=rfl
theorem forD{g:TG}(Pv:Nat->Ar)(h0:Pv 0 Y H)(hl:∀ i Y H,Pv i Y H->H a=some (.frz o (.dK kvs)))(hs:∀ i k v Y H,kvs[i]?=some (k,v)->Pv i Y H->g (kV k) Y H fun σ2 H2=>tb { D.thaw a kvs with nx:=Pv (i+1),ct:=Pv (i+1),bk:=(D.thaw a kvs).nx } σ2 H2)(hd:∀ Y H,Pv kvs.length Y H->D.nx Y (A0 H a (.dK kvs))):ForIt (lK a o kvs) g tb (D.thaw a kvs) Y H:=by
 refine ⟨fun i m Y H=>m=kvs.length-i/\i<=kvs.length/\Pv i Y H,⟨kvs.length,by simp,J7 _,h0⟩,?_⟩;rintro i m Y H ⟨rfl,hi,p⟩;have e:=hl i Y H p
 by_cases C4:i<kvs.length
 .refine .inr ⟨⟨e,C4⟩,Pv (i+1),fun σ' H' p'=>⟨_,by lia,rfl,C4,p'⟩,fun v H' y=>?_⟩;obtain ⟨rfl,k,v',hk,rfl⟩:=y;exact hs i k v' Y _ hk p
 .have e2:i=kvs.length:=by lia
  subst e2;exact .inl ⟨⟨e,C1 _⟩,⟨o,e⟩,hd Y H p⟩
end L2
set_option maxRecDepth 100000
namespace L2
open PySem PySem.Spec PyProof.Rows
noncomputable def O7 (row:Ab):List (Str×Str):=row.zip row.tail
noncomputable def edges (rows:Aa):List (Str×Str):=rows.flatMap O7
noncomputable def J5 (E:List (Str×Str)) (p:Str):Ab:=(E.filter fun e=>decide (e.1=p)).map (·.2)
noncomputable def cnt (E:List (Str×Str)) (line:Ab) (q:Str):Nat:=E.countP fun e=>decide (e.2=q) && !decide (e.1∈line)
noncomputable def cntIn (E:List (Str×Str)) (S:Ab) (q:Str):Nat:=E.countP fun e=>decide (e.2=q)&&decide (e.1∈S)
theorem am0(E:List (Str×Str))(a b p:Str):J5 (E++[(a,b)]) p=if a=p then J5 E p++[b] else J5 E p:=by
 unfold J5;rw [Q0,D0]
 by_cases h:a=p
 .rw [if_pos h,o9 (by simpa using h)];rfl
 .rw [if_neg h,aW (by simpa using h)];simp
theorem agY(E:List (Str×Str))(p q:Str):(J5 E p).count q=E.countP fun e=>decide (e.2=q)&&decide (e.1=p):=by
 induction E with
 | nil=>rfl
 | cons e E ih=>
  unfold J5 at ih ⊢
  by_cases h:e.1=p
  .rw [o9 (by simpa using h),E2,List.count_cons,ih,cE]
   by_cases h2:e.2=q
   .simp [h,h2]
   .simp [h,h2]
  .rw [aW (by simpa using h),ih,cE];simp [h]
theorem ajt{E:List (Str×Str)}(h:p∉S):cntIn E (S++[p]) q=cntIn E S q+(J5 E p).count q:=by
 rw [agY];unfold cntIn
 induction E with
 | nil=>rfl
 | cons e E ih=>
  rw [cE,cE,cE,ih]
  by_cases h2:e.2=q
  .by_cases h1:e.1=p
   .have:e.1∉S:=by rw [h1];exact h
    simp [h2,h1,h];lia
   .by_cases h3:e.1∈S
    .simp [h2,h1,h3];lia
    .simp [h2,h1,h3]
  .simp [h2]
theorem aiJ{E:List (Str×Str)}(h:p∉line):cnt E line q=cnt E (line++[p]) q+(J5 E p).count q:=by
 rw [agY];unfold cnt
 induction E with
 | nil=>rfl
 | cons e E ih=>
  rw [cE,cE,cE,ih]
  by_cases h2:e.2=q
  .by_cases h1:e.1=p
   .simp [h2,h1,h];lia
   .by_cases h3:e.1∈line
    .simp [h2,h1,h3]
    .simp [h2,h1,h3];lia
  .simp [h2]
theorem akY{E:List (Str×Str)}(h:∀ e∈E,e.1∈S)(q:Str):cntIn E S q=cnt E [] q:=by
 unfold cntIn cnt;refine List.countP_congr fun e he=>?_
 simp [h e he]
theorem akZ(E:List (Str×Str))(q:Str):cntIn E [] q=0:=by
 unfold cntIn
 simp
theorem cnt_zero{E:List (Str×Str)} : cnt E line q=0↔∀ e∈E,e.2=q->e.1∈line:=by
 unfold cnt;rw [List.countP_eq_zero]
 constructor
 .intro h e he h2
  have:=h e he
  simpa [h2] using this
 .intro h e he
  by_cases h2:e.2=q
  .simp [h2,h e he h2]
  .simp [h2]
noncomputable def nextP (E:List (Str×Str)) (ts pre:Ab):Option Str:=(ts.filter fun p=>!decide (p∈pre)).find? fun p=>decide (cnt E pre p=0)
noncomputable def V5 (E:List (Str×Str)) (ts line:Ab):Prop:=∀ pre q post,line=pre++q::post->nextP E ts pre=some q
theorem V5.nil(E:List (Str×Str))(ts:Ab):V5 E ts []:=fun pre q post h=>by
 have:=congrArg X8 h
 simp at this
theorem V5.snoc{E:List (Str×Str)}(r:V5 E ts line)(h:nextP E ts line=some p):V5 E ts (line++[p]):=fun pre q post e=>by
 rcases List.append_eq_append_iff.mp e with ⟨m,h1,h2⟩ | ⟨m,h1,h2⟩
 .cases m with
  | nil=>
   rw [L5] at h1;rw [aY] at h2
   cases (List.cons.inj h2).1
   rw [h1];exact h
  | cons a m=>
   have:=congrArg X8 h2
   simp at this
 .cases m with
  | nil=>
   rw [L5] at h1;rw [aY] at h2
   cases (List.cons.inj h2).1
   rw [<- h1];exact h
  | cons a m=>
   rw [List.cons_append] at h2;have h3:=(List.cons.inj h2).1;exact r pre q m (by rw [h1,h3])
theorem iN{E:List (Str×Str)}{pre:Ab}(h:nextP E ts pre=some q):q∈ts/\q∉pre/\cnt E pre q=0:=by
 have h1:=List.mem_of_find?_eq_some h;have h2:=List.find?_some h;rw [N5] at h1;exact ⟨h1.1,by simpa using h1.2,by simpa using h2⟩
theorem V5.nodup{E:List (Str×Str)} : ∀ {line:Ab},V5 E ts line->line.Nodup:=by
 intro line r;rw [i7,aS];intro i j hi hj qV e;have e1:line=line.take j++line[j]::line.drop (j+1):=by rw [<- aU hj,c9]
 have:=(iN (r _ _ _ e1)).2.1
 exact this (X7.mpr ⟨i,by rw [G9];lia,by rw [List.getElem_take];exact e⟩)
theorem V5.sub{E:List (Str×Str)}(r:V5 E ts line)(h:q∈line):q∈ts:=by
 obtain ⟨pre,post,e⟩:=List.append_of_mem h;exact (iN (r pre q post e)).1
theorem am1{E:List (Str×Str)}{rank:Str->Nat}(hr:∀ e∈E,rank e.1<rank e.2)(hE:∀ e∈E,e.1∈ts)(hw:∃ p∈ts,p∉line):∃ q,nextP E ts line=some q:=by
 have key:∀ n p,rank p<=n->p∈ts->p∉line->∃ q∈ts,q∉line/\cnt E line q=0:=by
  intro n
  induction n with
  | zero=>
   intro p hp ht hl;refine ⟨p,ht,hl,cnt_zero.mpr fun e he h2=>?_⟩
   have:=hr e he
   rw [h2] at this;lia
  | succ n ih=>
   intro p hp ht hl
   by_cases hc:cnt E line p=0
   .exact ⟨p,ht,hl,hc⟩
   .have:∃ e∈E,e.2=p/\e.1∉line:=by
     refine Classical.byContradiction fun hn=>hc (cnt_zero.mpr fun e he h2=>Classical.byContradiction fun h3=>hn ⟨e,he,h2,h3⟩)
    obtain ⟨e,he,h2,h3⟩:=this;have h4:=hr e he;rw [h2] at h4;exact ih e.1 (by lia) (hE e he) h3
 obtain ⟨p,hp,hl⟩:=hw;obtain ⟨q,h1,h2,h3⟩:=key (rank p) p (C1 _) hp hl;cases h:nextP E ts line with
 | some q=>exact ⟨q,rfl⟩
 | none=>
  have:=List.find?_eq_none.mp h q (N5.mpr ⟨h1,by simpa using h2⟩)
  simp [h3] at this
theorem pK{E:List (Str×Str)}(nd:ts.Nodup)(r:V5 E ts line)(h:∀ p∈ts,p∈line):line.length=ts.length:=
 ((List.perm_ext_iff_of_nodup r.nodup nd).mpr fun a=>⟨r.sub,h a⟩).length_eq
theorem afA(E:List (Str×Str))(pre:Ab):∀ ts:Ab,nextP E ts pre=ts.find? fun p=>!decide (p∈pre)&&decide (∀ e∈E,e.2=p->e.1∈pre)
 | []=>rfl
 | t::ts=>by
  have ih:=afA E pre ts;unfold nextP at ih ⊢
  by_cases h:t∈pre
  .rw [aW (by simpa using h),z0,ih];simp [h]
  .rw [o9 (by simpa using h),z0,z0,ih]
   by_cases h2:cnt E pre t=0
   .have:=cnt_zero.mp h2
    rw [decide_eq_true h2,decide_eq_true this];simp [h]
   .have:¬ ∀ e∈E,e.2=t->e.1∈pre:=fun z=>h2 (cnt_zero.mpr z)
    rw [decide_eq_false h2,decide_eq_false this];simp [h]
theorem aju{row:Ab}{e:Str×Str}(h:e∈O7 row):e.1∈row/\e.2∈row:=by
 unfold O7 at h;exact ⟨(List.of_mem_zip h).1,List.mem_of_mem_tail (List.of_mem_zip h).2⟩
theorem agZ{rows:Aa}{e:Str×Str}(h:e∈edges rows):e.1∈rows.flatten/\e.2∈rows.flatten:=by
 unfold edges at h;obtain ⟨row,h1,h2⟩:=Z1.mp h
 have:=aju h2
 exact ⟨kK.mpr ⟨row,h1,this.1⟩,kK.mpr ⟨row,h1,this.2⟩⟩
noncomputable def A8 (ts:Ab) (f:Str->V):List (B1×V):=ts.map fun t=>(Sum.inr t,f t)
theorem uI(f:Str->V)(z:Str):∀ ts:Ab,((A8 ts f).any fun kv=>decide (kv.1=(Sum.inr z:B1)))=decide (z∈ts)
 | []=>by simp [A8]
 | y::ts=>by
  have ih:=uI f z ts;unfold A8 at ih ⊢
  rw [E2,aZ,ih]
  by_cases e:y=z
  .subst e
   simp
  .have e1:decide ((Sum.inr y:B1)=Sum.inr z)=false:=decide_eq_false fun q=>e (Sum.inr.inj q)
   rw [e1,Bool.false_or]
   by_cases h:z∈ts
   .rw [decide_eq_true h,decide_eq_true (G6 _ h)]
   .rw [decide_eq_false h,decide_eq_false];intro q
    rcases D8.mp q with q | q
    .exact e q.symm
    .exact h q
theorem O3(f:Str->V)(z:Str):∀ ts:Ab,valV (A8 ts f) (Sum.inr z)=if z∈ts then some (f z) else none
 | []=>rfl
 | y::ts=>by
  have ih:=O3 f z ts;unfold A8 at ih ⊢
  rw [E2]
  by_cases e:y=z
  .subst e;rw [oW rfl,if_pos G3]
  .rw [bG (fun q=>e (Sum.inr.inj q)),ih]
   by_cases h:z∈ts
   .rw [if_pos h,if_pos (G6 _ h)]
   .rw [if_neg h,if_neg];intro q
    rcases D8.mp q with q | q
    .exact e q.symm
    .exact h q
theorem pL{f:Str->V}(v:V)(h:z∈ts):putK (A8 ts f) (Sum.inr z:B1) v=A8 ts fun t=>if t=z then v else f t:=by
 unfold putK;rw [uI,decide_eq_true h,if_pos rfl];unfold A8;rw [j3];refine kH fun y _=>?_
 show (if (Sum.inr y:B1)=Sum.inr z then ((Sum.inr y:B1),v) else (Sum.inr y,f y))=((Sum.inr y:B1),if y=z then v else f y)
 by_cases e:y=z
 .rw [if_pos (by rw [e]),if_pos e]
 .rw [if_neg (fun q=>e (Sum.inr.inj q)),if_neg e]
theorem u6{f:Str->V}(v:V)(h:z∉ts):putK (A8 ts f) (Sum.inr z:B1) v=A8 (ts++[z]) fun t=>if t=z then v else f t:=by
 unfold putK;rw [uI,decide_eq_false h,if_neg L9];unfold A8;rw [D0]
 congr 1
 .refine kH fun y hy=>?_
  show _=((Sum.inr y:B1),if y=z then v else f y);rw [if_neg (fun e:y=z=>h (by rw [<- e];exact hy))]
 .simp
theorem T0{f g:Str->V}(h:∀ t∈ts,f t=g t):A8 ts f=A8 ts g:=by
 unfold A8;exact kH fun t ht=>by rw [h t ht]
theorem b0(f:Str->V)(ts:Ab):(A8 ts f).length=ts.length:=by unfold A8;rw [A3]
theorem anJ{f:Str->V}{k:B1}{v:V}(h:(A8 ts f)[i]?=some (k,v)):∃ t,ts[i]?=some t/\k=Sum.inr t/\v=f t:=by
 unfold A8 at h;obtain ⟨t,h1,h2⟩:=G8 h;cases h2;exact ⟨t,h1,rfl,rfl⟩
theorem am2(f:Str->V)(ts:Ab):((A8 ts f).map fun kv=>kV kv.1)=ts.map V.str:=by
 unfold A8;rw [j3];rfl
structure DL(H0 H:Hp)(ts:Ab)(ad:Al)(F:Str->Ab):Prop where
 row:∀ t∈ts,H (ad t)=some (.lst ((F t).map V.str))
 inj:∀ t∈ts,∀ u∈ts,ad t=ad u->t=u
 new:∀ t∈ts,H0 (ad t)=none
theorem DL.same{ad:Al}{F:Str->Ab}(x:DL H0 H ts ad F)(s:Same H H'):DL H0 H' ts ad F:=⟨fun t h=>s _ _ (x.row t h),x.inj,x.new⟩
theorem DL.app{ad:Al}{F:Str->Ab}(x:DL H0 H ts ad F)(hz:z∈ts)(ys:Ab):DL H0 (A0 H (ad z) (.lst (ys.map V.str))) ts ad fun t=>if t=z then ys else F t:=by
 refine ⟨fun t ht=>?_,x.inj,x.new⟩;show _=some (HO.lst ((if t=z then ys else F t).map V.str))
 by_cases e:t=z
 .subst e;rw [A1,if_pos rfl]
 .rw [A4 (fun q=>e (x.inj t ht z hz q)),if_neg e];exact x.row t ht
theorem DL.more{ad:Al}{F:Str->Ab}(x:DL H0 H ts ad F)(hz:z∉ts){p:ab}(np:H p=none)(n0:H0 p=none):DL H0 (A0 H p (.lst [])) (ts++[z]) (fun t=>if t=z then p else ad t) fun t=>if t=z then [] else F t:=by
 have ne:∀ t∈ts,t≠z:=fun t ht e=>hz (by rw [<- e];exact ht)
 have nad:∀ t∈ts,ad t≠p:=fun t ht e=>by have:=x.row t ht;rw [e,np] at this;cases this
 have cases':∀ t,t∈ts++[z]->(t∈ts/\t≠z)\/t=z:=fun t ht=>by
  rcases J9.mp ht with h | h
  .exact .inl ⟨h,ne t h⟩
  .exact .inr (J8.mp h)
 refine ⟨fun t ht=>?_,fun t ht u hu e=>?_,fun t ht=>?_⟩
 .show A0 H p (.lst []) (if t=z then p else ad t)=some (.lst ((if t=z then [] else F t).map V.str))
  rcases cases' t ht with ⟨h1,h2⟩ | rfl
  .rw [if_neg h2,if_neg h2,A4 (nad t h1)];exact x.row t h1
  .rw [if_pos rfl,if_pos rfl,A1];rfl
 .have e:(if t=z then p else ad t)=(if u=z then p else ad u):=e
  rcases cases' t ht with ⟨h1,h2⟩ | rfl <;> rcases cases' u hu with ⟨h3,h4⟩ | rfl
  .rw [if_neg h2,if_neg h4] at e;exact x.inj t h1 u h3 e
  .rw [if_neg h2,if_pos rfl] at e;exact absurd e (nad t h1)
  .rw [if_pos rfl,if_neg h4] at e;exact absurd e.symm (nad u h3)
  .rfl
 .show H0 (if t=z then p else ad t)=none
  rcases cases' t ht with ⟨h1,h2⟩ | rfl
  .rw [if_neg h2];exact x.new t h1
  .rw [if_pos rfl];exact n0
theorem am3(h:acc.Nodup)(z:Str):(dd acc z).Nodup:=by
 unfold dd
 split
 .exact h
 .rename_i hz
  rw [i9];refine ⟨h,by simp,fun a ha b hb e=>hz ?_⟩;rw [<- J8.mp hb,<- e];exact ha
theorem pM:∀ {zs acc:Ab},acc.Nodup->(G7 acc zs).Nodup
 | [],_,h=>h
 | z::zs,acc,h=>pM (zs:=zs) (am3 h z)
theorem iO(zss:Aa):(toldL zss).Nodup:=by
 unfold toldL;rw [pE];exact pM (by simp)
theorem u7(x:Str):∀ (zs acc:Ab),x∈G7 acc zs↔x∈acc\/x∈zs
 | [],acc=>by simp [G7]
 | z::zs,acc=>by
  show x∈G7 (dd acc z) zs↔_;rw [u7 x zs];unfold dd
  by_cases h:z∈acc
  .rw [if_pos h,D8]
   constructor
   .rintro (h1 | h1)
    .exact .inl h1
    .exact .inr (.inr h1)
   .rintro (h1 | rfl | h1)
    .exact .inl h1
    .exact .inl h
    .exact .inr h1
  .rw [if_neg h,J9,J8,D8,or_assoc]
theorem uJ(x:Str)(zss:Aa):x∈toldL zss↔x∈zss.flatten:=by
 unfold toldL;rw [pE,u7]
 simp
theorem ajv{zss:Aa}{e:Str×Str}(h:e∈edges zss):e.1∈toldL zss/\e.2∈toldL zss:=⟨(uJ _ _).mpr (agZ h).1,(uJ _ _).mpr (agZ h).2⟩
theorem ajw{zss:Aa}(h:zss[i]?=some zs):edges (zss.take (i+1))=edges (zss.take i)++O7 zs:=by
 rw [V7,h];unfold edges;rw [y8]
 simp
theorem uK(zs:Ab):(O7 zs).length=min zs.length zs.tail.length:=by unfold O7;rw [List.length_zip]
theorem ag0{y:Str}(h1:zs[j]?=some x)(h2:zs.tail[j]?=some y):(O7 zs)[j]?=some (x,y):=by
 unfold O7;rw [List.getElem?_zip_eq_some];exact ⟨h1,h2⟩
theorem ag1(zss:Aa):(edges zss).length<=zss.flatten.length:=by
 induction zss with
 | nil=>exact C1 _
 | cons zs zss ih=>
  unfold edges at ih ⊢
  rw [W6,C6,p6,C6,uK];lia
theorem DL.put{ad:Al}{F:Str->Ab}(x:DL H0 H ts ad F){o u:HO}(hb:H0 b=some u):DL H0 (A0 H b o) ts ad F:=
 ⟨fun t ht=>by rw [A4 (fun e=>by have:=x.new t ht;rw [e,hb] at this;cases this)];exact x.row t ht,x.inj,x.new⟩
theorem DL.congr{ad:Al}{F G:Str->Ab}(x:DL H0 H ts ad F)(h:∀ t∈ts,F t=G t):DL H0 H ts ad G:=⟨fun t ht=>by rw [<- h t ht];exact x.row t ht,x.inj,x.new⟩
theorem DL.old{H00:Hp}{ad:Al}{F:Str->Ab}(x:DL H0 H ts ad F)(s:Same H00 H0):DL H00 H ts ad F:=⟨x.row,x.inj,fun t ht=>s.free (x.new t ht)⟩
theorem iP(nd:ts.Nodup)(h:ts[i]?=some z):z∉ts.take i:=fun hm=>by
 obtain ⟨hi,e⟩:=F8.mp h;obtain ⟨j,hj,e2⟩:=X7.mp hm;rw [G9] at hj;rw [List.getElem_take] at e2
 have:=(i7.mp nd)
 rw [aS] at this;exact this j i (by lia) hi (by lia) (e2.trans e.symm)
theorem L0{α:Type}{ts:List α}{z:α}(h:ts[i]?=some z):ts.take (i+1)=ts.take i++[z]:=by rw [V7,h];rfl
noncomputable def SameBut (d:ab) (H H':Hp):Prop:=∀ b o,b≠d->H b=some o->H' b=some o
theorem SameBut.put{d q:ab}{u:HO}(s:SameBut d H0 H)(n:H0 q=none):SameBut d H0 (A0 H q u):=fun b o hb h=>by rw [A4 (q9 h n)];exact s b o hb h
theorem SameBut.thaw{d:ab}{u:HO}(s:SameBut d H0 H)(h:H0 d=some u):Same H0 (A0 H d u):=fun b o hb=>by
 by_cases e:b=d
 .subst e;rw [A1,<- hb,h]
 .rw [A4 e];exact s b o e hb
theorem RowsAt.grow{q:ab}{zss:Aa}(R:RowsAt H0 H a rs zss)(S:Same H H')(hq:H q=none)(fR:H' q=some (.lst (zs.map V.str))):RowsAt H0 (A0 H' a (.lst (rs.map V.ref++[V.ref q]))) a (rs++[q]) (zss++[zs]):=by
 have nq:∀ r∈a::rs,r≠q:=fun r hr z=>by
  obtain ⟨o,e⟩:=R.live hr;rw [z,hq] at e;cases e
 obtain ⟨na,_⟩:=T6.mp R.nd;refine ⟨⟨by rw [A1,D0];rfl,?_⟩,?_,?_,?_⟩
 .refine Paired.snoc (iI R.rows.row fun r hr zs h=>?_) ?_
  .rw [A4 (fun z:r=a=>na (by rw [<- z];exact hr))];exact S _ _ h
  .rw [A4 (nq a G3).symm];exact fR
 .show (a::(rs++[q])).Nodup;exact oX R.nd fun h=>nq q h rfl
 .intro r hr
  rcases D8.mp hr with h | h
  .exact R.new r (by rw [h];exact G3)
  .rcases J9.mp h with h | h
   .exact R.new r (G6 _ h)
   .rw [J8.mp h];exact R.same.free hq
 .exact (R.same.trans S).put (R.new a G3)
noncomputable def spFol:Sp:=fun vs H Q _=>∃ (a:ab) (rs:Ai) (zss:Aa),vs=[.ref a]/\IsRows H a rs zss/\zss.flatten.length<=100000/\
 ∀ (d:ab) (ad:Al) (H':Hp),H d=none->Same H H'->H' d=some (.dK (A8 (toldL zss) fun t=>.ref (ad t)))->DL H H' (toldL zss) ad (J5 (edges zss))->Q (.ref d) H'
noncomputable def ak0:Sp:=fun vs H Q _=>∃ (d:ab) (ts:Ab) (ad:Al) (E:List (Str×Str)),vs=[.ref d]/\H d=some (.dK (A8 ts fun t=>.ref (ad t)))/\ts.Nodup/\ts.length<=100000/\E.length<=100000/\
 (∀ t∈ts,H (ad t)=some (.lst ((J5 E t).map V.str)))/\(∀ e∈E,e.1∈ts/\e.2∈ts)/\∀ c H',H c=none->Same H H'->H' c=some (.dK (A8 ts fun t=>.int (cnt E [] t:Nat)))->Q (.ref c) H'
noncomputable def orNon:Option Str->V
 | some z=>.str z
 | none=>.non
theorem ajx(z:Str):orNon (some z)=.str z:=rfl
theorem uL:∀ {l m:Ab},l.Nodup->(∀ x∈l,x∈m)->l.length<=m.length
 | [],_,_,_=>J7 _
 | x::l,m,nd,h=>by
  obtain ⟨n1,n2⟩:=T6.mp nd;have hx:=h x G3
  have:=uL (l:=l) (m:=m.erase x) n2 fun y hy=>(List.mem_erase_of_ne (fun e=>n1 (by rw [<- e];exact hy))).mpr (h y (G6 _ hy))
  rw [oH hx] at this;have U1:=List.length_pos_of_mem hx;rw [E5];lia
noncomputable def ak1:Sp:=fun vs H Q _=>∃ (a:ab) (rs:Ai) (zss:Aa) (rank:Str->Nat),vs=[.ref a]/\IsRows H a rs zss/\zss.flatten.length<=100000/\(∀ e∈edges zss,rank e.1<rank e.2)/\
 ∀ (l:ab) (line:Ab) (H':Hp),H l=none->Same H H'->H' l=some (.lst (line.map V.str))->V5 (edges zss) (toldL zss) line->(∀ p∈toldL zss,p∈line)->Q (.ref l) H'
theorem SameBut.free{d p:ab}(s:SameBut d H0 H)(n:H p=none)(h:p≠d):H0 p=none:=by
 cases e:H0 p with
 | none=>rfl
 | some o=>
  have:=s p o h e
  rw [n] at this;cases this
theorem SameBut.same{d:ab}(s:SameBut d H1 H2)(S:Same H H1)(n:H d=none):Same H H2:=fun b o h=>s b o (q9 h n) (S b o h)
theorem SameBut.refl(d:ab)(H:Hp):SameBut d H H:=fun _ _ _ h=>h
theorem SameBut.at{d:ab}{o:HO}(s:SameBut d H H'):SameBut d H (A0 H' d o):=fun b u hb h=>by rw [A4 hb];exact s b u hb h
noncomputable def one (c:Nat):Str:=⟨#[c]⟩
noncomputable def two (c d:Nat):Str:=⟨#[c,d]⟩
noncomputable def n9 (i:Int):Nat:=(K6 SG i).getD 33
theorem SG_nd:SG.Nodup:=by decide +kernel
theorem pN{i:Int}(h0:0<=i)(h1:i<93):K6 SS.cps.toList i=some (n9 i)/\signB (n9 i)=true:=by
 obtain ⟨c,h2,h3⟩:=SS_at h0 h1;unfold n9;rw [SS_eq] at h2 ⊢
 rw [h2];exact ⟨rfl,h3⟩
theorem ak2{i j:Int}(h0:0<=i)(h1:i<93)(h2:0<=j)(h3:j<93)(h:n9 i=n9 j):i=j:=by
 have ei:((i.toNat:Nat):Int)=i:=by lia
 have ej:((j.toNat:Nat):Int)=j:=by lia
 have li:i.toNat<SG.length:=by rw [tS];lia
 have lj:j.toNat<SG.length:=by rw [tS];lia
 have a1:K6 SG i=some SG[i.toNat]:=by
  have:=M6 (xs:=SG) (j:=i.toNat) (v:=SG[i.toNat]) (by simp)
  rw [ei] at this;exact this
 have a2:K6 SG j=some SG[j.toNat]:=by
  have:=M6 (xs:=SG) (j:=j.toNat) (v:=SG[j.toNat]) (by simp)
  rw [ej] at this;exact this
 unfold n9 at h;rw [a1,a2] at h
 have:=(i7.mp SG_nd)
 rw [aS] at this
 rcases Nat.lt_trichotomy i.toNat j.toNat with z | z | z
 .exact absurd h (this _ _ li lj z)
 .lia
 .exact absurd h.symm (this _ _ lj li z)
noncomputable def stepL:Am:=[1,2,5,94,187,1000,4001,8648]
theorem ar2{s:Int}(hs:s∈stepL){b k l:Int}(h0:0<=k)(h1:k<93)(h2:0<=l)(h3:l<93)(h:(b+k*s) % 8649 % 93=(b+l*s) % 8649 % 93):k=l:=by
 obtain ⟨t,q,e⟩:∃ t q:Int,s*t=93*q+1:=by
  have all:∀ s∈stepL,∃ p∈[((1:Int),(0:Int)),(47,1),(56,3),(1,1),(1,2),(4,43),(47,2022),(-1,-93)],s*p.1=93*p.2+1:=by decide
  obtain ⟨p,_,e⟩:=all s hs;exact ⟨p.1,p.2,e⟩
 rw [Int.emod_emod_of_dvd _ (by decide),Int.emod_emod_of_dvd _ (by decide)] at h;have d1:(93:Int) ∣ (k-l)*s:=by
  refine Int.dvd_of_emod_eq_zero ?_;rw [Int.sub_mul,show k*s-l*s=(b+k*s)-(b+l*s) by lia];exact Int.emod_eq_emod_iff_emod_sub_eq_zero.mp h
 have d2:(93:Int) ∣ (k-l)*s*t:=Int.dvd_mul_of_dvd_left d1;rw [Int.mul_assoc,e,Int.mul_add,Int.mul_one,Int.mul_left_comm] at d2;have d3:(93:Int) ∣ k-l:=(Int.dvd_add_right (Int.dvd_mul_right _ _)).mp d2;omega
noncomputable def j9 (b st sh:Int) (k:Nat):Str:=
 if sh=0\/(sh=1/\(k:Int) % 2=1) then one (n9 ((b+k*st) % 8649 % 93)) else two (n9 ((b+k*st) % 8649 / 93)) (n9 ((b+k*st) % 8649 % 93))
theorem aqj{b st:Int}(hs:st∈stepL){l:Nat}(hk:k<93)(hl:l<93)(h:j9 b st sh k=j9 b st sh l):k=l:=by
 have key:(b+k*st) % 8649 % 93=(b+l*st) % 8649 % 93->k=l:=fun e=>by
  have:=ar2 hs (k:=k) (l:=l) (by lia) (by lia) (by lia) (by lia) e
  lia
 have r1:∀ x:Int,0<=x % 93/\x % 93<93:=fun x=>by lia
 have lone:∀ c d e:Nat,one c≠two d e:=fun c d e q=>by
  have:=congrArg (fun z:Str=>z.cps.size) q
  exact absurd this (by show ¬ (1:Nat)=2;decide)
 have o1:∀ c d:Nat,one c=one d->c=d:=fun c d q=>by
  have:=congrArg (fun z:Str=>z.cps.toList) q
  simpa [one] using this
 have t1:∀ c d e f:Nat,two c d=two e f->d=f:=fun c d e f q=>by
  have:=congrArg (fun z:Str=>z.cps.toList) q
  have:[c,d]=[e,f]:=by simpa [two] using this
  simp at this;exact this.2
 unfold j9 at h
 split at h <;> split at h
 .exact key (ak2 (r1 _).1 (r1 _).2 (r1 _).1 (r1 _).2 (o1 _ _ h))
 .exact absurd h (lone _ _ _)
 .exact absurd h.symm (lone _ _ _)
 .exact key (ak2 (r1 _).1 (r1 _).2 (r1 _).1 (r1 _).2 (t1 _ _ _ _ h))
theorem ak3{b st:Int}(hs:st∈stepL)(hm:m<=93):((U5 m).map (j9 b st sh)).Nodup:=by
 rw [i7,List.pairwise_map];refine List.Pairwise.imp_of_mem (fun {x y} hx hy G0 e=>?_) (i7.mp List.nodup_range);rw [m7] at hx hy;exact G0 (aqj hs (by lia) (by lia) e)
noncomputable def spPcs:Sp:=fun vs H Q _=>∃ c m:Int,vs=[.int c,.int m]/\0<=m/\m<=90/\
 ∀ l (ps:Ab) H',H l=none->Same H H'->H' l=some (.lst (ps.map V.str))->ps.length=m.toNat->ps.Nodup->(∀ z∈ps,Q2 z=true)->Q (.ref l) H'
end L2
set_option maxRecDepth 100000
namespace L2
open PySem PySem.Spec PyProof.Rows
section
variable {X:Cx}
noncomputable def rAnyB (calm:Bool):Ao->Hp->VK->Prop
 | [.ref p],H,Q=>∃ bs:List Bool,calm=true/\H p=some (.lst (bs.map V.bl))/\Q (.bl (bs.any id)) H
 | _,_,_=>False
theorem p_any:CallR X (.builtin "any") (rAnyB X.calm):=by
 intro aa s Y H xs us Q I r h
 match xs,h with
 | [.ref p],⟨bs,hc,hp,q⟩=>
  obtain ⟨u,rfl,rx⟩:=vals1 r
  cases rx
  obtain ⟨z,its,n,rv,hl,e⟩:=I.lstM hp;have pl:s.heap.IsList p its.toArray:=⟨_,e,rfl,n,rfl⟩
  refine call_any_walk (wpAny_pyIter_list pl ?_);have G0:p≠s.heap.objs.size:=O4 (ba e);have hk:∀ b o,s.heap.get? b=some o->(s.heap.push { cls:=.type "list_iterator",data:=.fields #[.ref p,.int 0 0] }).get? b=some o:=fun b o q=>bg _ q
  refine ⟨_,_,_,_,_,_,fun i=>(bs[i]?).getD false,rfl,Walks.list (show X.A.in1.handled=none from I.ok.hd hc) s.heap.objs.size p G0 its.toArray,⟨⟨_,br _ rfl,rfl,rfl⟩,pl.at fun o q=>hk p o q⟩,?_,?_⟩
  .intro i v s' Q' E' hv hq;have fP:its[i]?=some v:=by simpa using hv
   have hb:∃ b,bs[i]?=some b/\v=.bool b:=by
    cases eb:(bs.map V.bl)[i]? with
    | none=>
     have:=rv.none_of eb
     rw [fP] at this
     cases this
    | some y=>
     obtain ⟨u,h1,h2⟩:=rv.get eb;rw [fP] at h1;cases h1;rw [U3] at eb;cases e3:bs[i]? with
     | none=>rw [e3] at eb;cases eb
     | some b=>
      rw [e3] at eb;cases eb;exact ⟨b,rfl,h2⟩
   obtain ⟨b,e1,rfl⟩:=hb;have hq:Q' ((bs[i]?).getD false) s':=hq;rw [e1] at hq;exact wpAny_truthy_bool hq
  .intro h' tk v8;have e1:(U5 its.toArray.size).any (fun i=>(bs[i]?).getD false)=bs.any id:=by
    have A9:its.toArray.size=bs.length:=by
     rw [L4,<- hl,A3]
    rw [A9,cJ,List.any_eq_true,List.any_eq_true]
    constructor
    .rintro ⟨i,hi,hb⟩;rw [m7] at hi;rw [L6 hi,Option.getD_some] at hb;exact ⟨bs[i],gS hi,hb⟩
    .rintro ⟨b,hb,ht⟩;obtain ⟨i,hi,rfl⟩:=X7.mp hb;exact ⟨i,m7.mpr hi,by rw [L6 hi];exact ht⟩
   rw [e1];have I1:Inv X aa Y H { s with heap:=h',toks:=tk }:=I.kept fun b o q=>v8 b o (by
    intro hm
    have:b=s.heap.objs.size:=by simpa using hm
    rw [this] at q;exact absurd (ba q) (m9 _)) (hk b o q)
   exact ⟨.bl _,H,I1,rfl,q⟩
theorem q_any(aN:X.calm=calm:=by rfl):QCall X (.builtin "any") (rAnyB calm):=by subst aN;exact ⟨p_any⟩
theorem any_r{cm:Bool}{p:ab} : rAnyB cm [.ref p] H Q=∃ bs:List Bool,cm=true/\H p=some (.lst (bs.map V.bl))/\Q (.bl (bs.any id)) H:=rfl
end
noncomputable def lL (l : ab) : It :=
  ⟨fun i H => ∃ xs x, H l = some (.lst xs) /\ xs[i]? = some x,
   fun i H v H' => ∃ t xs x, H l = some (.lst xs) /\ xs[i]? = some x /\ H t = none /\ v = .ref t /\ H' = A0 H t (.tup [.int i, x]),
   fun i H => ∃ xs, H l = some (.lst xs) /\ xs.length <= i⟩
theorem ak4{P:ax}{w:av}{pos:aw}(e it l:ab)(G0:e≠it) :
  Turn P w K (.Tuple elts x1 pos) (lL l) [e,it] e (fun i h=>(∃ old,IsEnum h e it ((i:Nat):Int) old)/\h.IsListIter it l i) where
 mem:=by simp
 obj:=fun i h ⟨⟨old,he⟩,hi⟩ c hc=>by
  have q:c=e\/c=it:=by simpa using hc
  rcases q with rfl | rfl
  .exact ⟨_,he,fun v q=>by cases q⟩
  .obtain ⟨o,e,c,d⟩:=hi;exact ⟨o,e,fun v z=>by rw [d] at z;cases z⟩
 keep:=fun i h h' ⟨⟨old,he⟩,hi⟩ k=>⟨⟨old,k e (by simp) _ he⟩,hi.at fun o q=>k it (by simp) o q⟩
 item:=by
  intro X hP hw hK hc i aa s Y H E I hf ⟨⟨old,he⟩,hi⟩ hg;subst hP hw hK;obtain ⟨xs,x,e1,hx⟩:=hg;obtain ⟨its1,Y9,p1,_⟩:=I.list (D9.of (K:=X.K) e1);obtain ⟨u1,E1,r1⟩:=Y9.get hx;refine wpAny_pyNext_enum_item he hi p1.isList (x:=u1) (by simpa using E1) G0 fun h' b1 b2 b3 b4 b5=>⟨_,rfl,wpAny_letOwnedTupleGo_enum b1 fun h2' c1 c2=>?_⟩
  have b8:e<s.heap.objs.size:=ba he;have up:∀ c o,c≠e->h'.get? c=some o->h2'.get? c=some o:=fun c o hc q=>(c2.2 c hc).trans q
  have hT:=up _ _ (Nat.ne_of_gt b8) b3;have nT:∀ c∈[e,it],c≠s.heap.objs.size:=fun c hc=>by
   have q:c=e\/c=it:=by simpa using hc
   refine O4 ?_
   rcases q with rfl | rfl
   .exact b8
   .obtain ⟨o,q,_⟩:=hi;exact ba q
  refine ⟨.ref s.heap.objs.size,A0 H s.heap.objs.size (.tup [.int i,x]),I.turnNew (t':=s.toks+1) (ch:=[e,it]) hf (fun c u hc q=>?_) (C1 _) ⟨by show 2<=ak;decide,[.int i s.toks,u1],.cons ⟨_,rfl⟩ (.cons r1 .nil),?_⟩,rfl,⟨_,xs,x,e1,hx,I.fresh,rfl,rfl⟩,
   ⟨⟨_,c1⟩,b2.at fun o q=>up _ o G0.symm q⟩,fun c hc=>by rw [A4 (nT c hc)];exact (hf c hc).1⟩
  .have q1:c≠e/\c≠it:=⟨fun q=>hc (by simp [q]),fun q=>hc (by simp [q])⟩
   exact up c u q1.1 (b5 c u q1.1 q1.2 q)
  .exact ⟨_,hT,rfl,_,rfl⟩
 done:=by
  intro X hP hw hK hc i aa s Y H E I hf ⟨⟨old,he⟩,hi⟩ hg;subst hP hw hK;obtain ⟨xs,e1,fW⟩:=hg;obtain ⟨its1,Y9,p1,_⟩:=I.list (D9.of (K:=X.K) e1);have q1:=Y9.length;obtain ⟨f0,f1,f2,f3,f4,f5⟩:=hf it (by simp);exact wpAny_pyNext_enum_end (I.ok.hd hc) he hi p1.isList (by simp;lia) fun h' eb=>⟨rfl,I.turned (t':=s.toks) (fun b o hb q=>eb b o hb q) f0 f1 f3 f4 f5⟩
 self:=fun _ _ _ _ _ st h=>by
  obtain ⟨⟨old,he⟩,_⟩:=st;exact wpAny_pyIter_enum he h
section
variable {X:Cx}
noncomputable def iEnum (ta:TA):TI:=fun Y H R=>ta Y H fun vs H1=>∃ (l:ab) (xs:Ao),vs=[.ref l]/\H1 l=some (.lst xs)/\R (lL l) H1
theorem aqk{a:ao}{p pos:aw}(hg:Gl X "enumerate")(hm:X.mg "enumerate"=none)(ha:PA X [a] ta)(h1:F6 a=false:=by rfl) :
  PI X (.Tuple elts x1 tpos) (.Call (.Name "enumerate" p) [a] [] pos) (iEnum ta):=by
 intro aa s Y H R I h;refine Call_ (aB I hg hm boot_enumerate (PyProof.Rows.callWith_type1 (thnA (ha pos aa s Y H _ I h) fun us s1 vs H1 I1 r1 q1=>?_) (M9 h1) rfl));obtain ⟨l,xs,rfl,e1,q⟩:=q1;obtain ⟨u1,rfl,fX⟩:=vals1 r1
 cases fX
 obtain ⟨its1,Y9,p1,_⟩:=I1.list (D9.of (K:=X.K) e1);refine call_enumerate_list p1.isList fun h' z1 z2 z3 z4=>wpAny_pyIter_enum z1 ?_
 refine ⟨s1.heap.objs.size+1,[s1.heap.objs.size+1,s1.heap.objs.size],_,_,H1,rfl,I1.kept (t':=s1.toks) z4,ak4 _ s1.heap.objs.size l (n6 (by lia)),⟨⟨_,z1⟩,z2⟩,fun b hb=>?_,q⟩;have T5:s1.heap.objs.size<=b:=by
  have e:b=s1.heap.objs.size+1\/b=s1.heap.objs.size:=by simpa using hb
  rcases e with rfl | rfl
  .exact bB _ _
  .exact C1 _
 exact I1.fpOk T5 (I1.hok.fresh T5)
theorem lM{a:ao}{p pos:aw}(hm:X.mg "enumerate"=none)(ha:QA X [a] ta)(hg:Gl X "enumerate":=by rfl)(h1:F6 a=false:=by rfl) :
  QI X (.Tuple elts x1 tpos) (.Call (.Name "enumerate" p) [a] [] pos) (iEnum ta):=⟨aqk hg hm ha.out h1⟩
end
theorem am4{R:It->Hp->Prop} : iEnum ta Y H R=ta Y H fun vs H1=>∃ (l:ab) (xs:Ao),vs=[.ref l]/\H1 l=some (.lst xs)/\R (lL l) H1:=rfl
theorem forE{l:ab}{g:TG}(Pv:Nat->Ar)(h0:Pv 0 Y H)(hl:∀ i Y H,Pv i Y H->H l=some (.lst xs))(hs:∀ i x t Y H,xs[i]?=some x->Pv i Y H->H t=none->g (.ref t) Y (A0 H t (.tup [.int i,x])) fun σ2 H2=>tb { D with nx:=Pv (i+1),ct:=Pv (i+1),bk:=D.nx } σ2 H2)(hd:∀ Y H,Pv xs.length Y H->D.nx Y H):ForIt (lL l) g tb D Y H:=by
 refine ⟨fun i m Y H=>m=xs.length-i/\i<=xs.length/\Pv i Y H,⟨xs.length,by simp,J7 _,h0⟩,?_⟩;rintro i m Y H ⟨rfl,hi,p⟩;have e1:=hl i Y H p
 by_cases C4:i<xs.length
 .refine .inr ⟨⟨xs,xs[i],e1,by simp⟩,Pv (i+1),fun σ' H' p'=>⟨_,by lia,rfl,C4,p'⟩,fun v H' y=>?_⟩;obtain ⟨t,xs',x,f1,hx,ht,rfl,rfl⟩:=y;rw [e1] at f1;cases f1;exact hs i x t Y H hx p ht
 .have e:i=xs.length:=by lia
  subst e;exact .inl ⟨⟨xs,e1,by lia⟩,hd Y H p⟩
noncomputable def MO (P:ax) (w:av) (K:aj) (mg:Str->Ag) (base:au) (k:Nat) (C:ab) (m:Str) (ps:Ab) (sp:Sp):Prop:=
 ∃ f fd,FnOk P w K mg base D1 k f fd ps sp/\Cls K C/\Meth K C m f/\Binds K fd ps []
noncomputable def KO (P:ax) (w:av) (K:aj) (mg:Str->Ag) (base:au) (k:Nat) (C:ab) (x:Str) (ps:Ab) (sp:Sp):Prop:=
 ∃ f fd,FnOk P w K mg base D1 k f fd ps sp/\Mk K C f/\mg x=some (.ref C)/\Binds K fd ps []
section
variable {X:Cx} {k:Nat} {C:ab} {ps:Ab} {sp:Sp} {x m:Str} {p pos apos:aw} {e o:ao} {es:Aj} {ta:TE} {t:TA}
theorem ak5(G:KO X.prog X.w X.K X.mg X.base k C x ps sp)(hr:Room (k+1) X.A)(ha:QA X (e::es) t)(hg:Gl X x:=by rfl)(h1:F6 e=false:=by rfl)(h2:W9 es=true:=by rfl)(Q9:(x==("__debug__" : Str))=false:=by decide) :
  QE X (.Call (.Name x p) (e::es) [] pos) (tMake C sp [] E0 t):=by
 obtain ⟨f,fd,F,M,hm,hb⟩:=G;exact ⟨aoq M F hr hg hm hb .nil pass0 ha.out Q9 (M9 h1) (eW h2)⟩
theorem fE(ho:QE X o ta)(G:MO X.prog X.w X.K X.mg X.base k C m ps sp)(hr:Room k X.A)(ha:QA X (e::es) t)(h1:F6 e=false:=by rfl)(h2:W9 es=true:=by rfl){pl:Sem Bool}(ht:eval (.Call (.Attribute o m apos) (e::es) [] pos) X.env=(do
   let ov <- eval o X.env
   standAt apos.atName
   let (f,first) <- holding [ov] (getMethod ov m pl)
   callWith pos f first (backTo pos (bf (e::es) X.env)) (backToKw pos (bz [] X.env))):=by rfl) :
  QE X (.Call (.Attribute o m apos) (e::es) [] pos) (tMeth C m sp [] E0 ta t):=by
 obtain ⟨f,fd,F,c,hm,hb⟩:=G;exact ⟨aop ho.out c hm F hr hb .nil pass0 ha.out (M9 h1) (eW h2) ht⟩
theorem pO(ho:QE X o ta)(G:MO X.prog X.w X.K X.mg X.base k C m ps sp)(hr:Room k X.A){pl:Sem Bool}(ht:eval (.Call (.Attribute o m apos) [] [] pos) X.env=(do
   let ov <- eval o X.env
   standAt apos.atName
   let (f,first) <- holding [ov] (getMethod ov m pl)
   callWith pos f first (backTo pos (bf [] X.env)) (backToKw pos (bz [] X.env))):=by rfl) :
  QE X (.Call (.Attribute o m apos) [] [] pos) (tMeth C m sp [] E0 ta tNil):=by
 obtain ⟨f,fd,F,c,hm,hb⟩:=G;exact ⟨amj ho.out c hm F hr hb .nil pass0 ht⟩
end
section
variable {C:ab} {m f:Str} {sp:Sp} {K:aj} {ta tv:TE} {t:TA} {Y:St} {H:Hp} {Q:VK} {D:Ends}
theorem aql:tMake C sp [] E0 t Y H Q=t Y H fun vs H1=>∀ x dx,H1 x=none->H1 dx=none->dx≠x->sp (.ref x::(vs++[])) (A0 (A0 H1 dx (.own x)) x (.ins C dx [])) (fun v H2=>v=.non/\Q (.ref x) H2) E0:=rfl
theorem aqm:tMeth C m sp [] E0 ta t Y H Q=ta Y H fun x H1=>∃ a dx fs,x=.ref a/\H1 a=some (.ins C dx fs)/\fs.lookup m=none/\t Y H1 fun vs H2=>sp (x::(vs++[])) H2 Q E0:=rfl
theorem ar3:tFld K ta f Y H Q=ta Y H fun x H1=>∃ a C dx fs v,x=.ref a/\H1 a=some (.ins C dx fs)/\Cls K C/\NoAttr K C f/\fs.lookup f=some v/\Q v H1:=rfl
theorem aqn:sFld K ta tv f D Y H=tv Y H fun y H1=>ta Y H1 fun x H2=>∃ a C dx fs,x=.ref a/\H2 a=some (.ins C dx fs)/\Cls K C/\NoAttr K C f/\fs.length<1000/\D.nx Y (A0 H2 a (.ins C dx (putF f y fs))):=rfl
end
section
variable {X:Cx} {o e:ao} {apos cpos:aw} {td ty:TE}
theorem lN(hu:X.A.units+1<cLine)(ho:QE X o td)(he:QE X e ty)(h1:F6 e=false:=by rfl)(G1:bu o "get" X.env (eval o X.env)=eval o X.env:=by rfl)(G2:(apos.endLine==cpos.line)=true:=by rfl):QE X (.Call (.Attribute o "get" apos) [e] [] cpos) (tK td ty):=
 ⟨amt hu ho.out he.out ⟨G1,by rw [M9 h1];rfl,G2,by rw [M9 h1];rfl⟩⟩
theorem am5 : tK td ty Y H Q=td Y H fun x H1=>∃ a,x=.ref a/\eT H1 a/\ty Y H1 fun y H2=>∃ o,DGet H2 a y o/\Q (o.getD .non) H2:=rfl
end
end L2
set_option maxRecDepth 100000
namespace L2
open PySem PySem.Spec PyProof.Rows
noncomputable abbrev Rl:=Str×Ab
noncomputable abbrev Aq:=List Rl
noncomputable def tupR (z:Rl):HO:=.tup ((z.1::z.2).map V.str)
structure IsRules(H:Hp)(a:ab)(rs:Ai)(R:Aq):Prop where
 top:H a=some (.lst (rs.map V.ref))
 row:Paired (fun r z=>H r=some (tupR z)) rs R
theorem IsRules.same{R:Aq}(h:IsRules H a rs R)(s:Same H H'):IsRules H' a rs R:=⟨s _ _ h.top,L7 h.row fun _ _ e=>s _ _ e⟩
theorem IsRules.cat{l:ab}{ts us:Ai}{A B:Aq}(x:IsRules H a ts A)(y:IsRules H b us B)(n:H l=none):IsRules (A0 H l (.lst (ts.map V.ref++us.map V.ref))) l (ts++us) (A++B):=by
 refine ⟨by rw [A1,D0],?_⟩;have ap:∀ {l₁ zg:Ai} {l₂ zf:Aq},Paired (fun r z=>A0 H l (.lst (ts.map V.ref++us.map V.ref)) r=some (tupR z)) l₁ l₂->Paired (fun r z=>A0 H l (.lst (ts.map V.ref++us.map V.ref)) r=some (tupR z)) zg zf->Paired (fun r z=>A0 H l (.lst (ts.map V.ref++us.map V.ref)) r=some (tupR z)) (l₁++zg) (l₂++zf):=by
  intro l₁ zg l₂ zf h
  induction h with
  | nil=>intro h';exact h'
  | cons h t ih=>intro h';exact .cons h (ih h')
 exact ap (L7 x.row fun r z h=>A7 h n) (L7 y.row fun r z h=>A7 h n)
theorem IsRules.len{R:Aq}(h:IsRules H a rs R):rs.length=R.length:=Paired.length h.row
noncomputable def M8 (z:Rl):Ab:=if z.1=("great" : Str) then z.2.drop 1 else if z.1=("as" : Str) then z.2.take 1 else if z.1=("row" : Str)\/z.1=("marks" : Str)\/z.1=("over" : Str) then z.2 else []
noncomputable def jobD (w:Str):Str:=if w=("row" : Str) then "letter" else if w=("marks" : Str) then "mark" else w
noncomputable def E3 (R:Aq):List (Str×Str):=R.flatMap fun z=>(M8 z).map fun p=>(p,jobD z.1)
noncomputable def hasW (R:Aq) (w:Str):Bool:=R.any fun z=>decide (z.1=w)
noncomputable def figO (c:Nat):Bool:=decide (48<=c)&&decide (c<=57)
noncomputable def lO:Ab:=["letter", "mark", "over"]
noncomputable def NC (figs:Bool) (g:Str->Str) (PL:List (Str×Str)):Prop:=∀ i p j,PL[i]?=some (p,j)->j=g p/\(p∈(PL.take i).map (·.1)->j∈lO)/\(figs=true->∀ c∈p.cps.toList,figO c=false)/\p.length<=1000
noncomputable def keysP (PL:List (Str×Str)):Ab:=G7 [] (PL.map (·.1))
theorem afB{R:Aq}{z:Rl}(h:R[i]?=some z):E3 (R.take (i+1))=E3 (R.take i)++(M8 z).map fun p=>(p,jobD z.1):=by
 rw [V7,h];unfold E3;rw [y8]
 simp
theorem ag3(R:Aq)(i:Nat):∃ more,E3 R=E3 (R.take i)++more:=⟨E3 (R.drop i),by
 unfold E3;rw [<- y8,c9]⟩
theorem ajy(PL:List (Str×Str))(p j:Str):keysP (PL++[(p,j)])=dd (keysP PL) p:=by
 unfold keysP G7;rw [D0,Z0];rfl
theorem lP(x:Str)(PL:List (Str×Str)):x∈keysP PL↔x∈PL.map (·.1):=by
 unfold keysP;rw [u7]
 simp
theorem ag4(PL:List (Str×Str)):(keysP PL).length<=PL.length:=by
 have:=eX (PL.map (·.1)) []
 rw [A3] at this
 simpa [keysP] using this
noncomputable def rowsW (R:Aq) (w:Str):Aa:=(R.filter fun z=>decide (z.1=w)).map (·.2)
theorem afC{R:Aq}{z:Rl}{w:Str}(h:R[i]?=some z):rowsW (R.take (i+1)) w=if z.1=w then rowsW (R.take i) w++[z.2] else rowsW (R.take i) w:=by
 rw [V7,h];unfold rowsW;rw [Q0,D0]
 by_cases e:z.1=w
 .rw [if_pos e,eQ,o9 (by simpa using e)];rfl
 .rw [if_neg e,eQ,aW (by simpa using e)];simp
theorem o0{hi:Option Int}(hk:1<=k)(hn:1<=n):¬ (HT.sIx n 0 (some (k:Int))=0/\HT.sIx n n hi=n):=fun h=>by
 have:=h.1
 rw [HT.sIx_nat] at this;lia
noncomputable abbrev jobsL:List (B1×V):=[((Sum.inr ("row" : Str):B1),V.str "letter"),(Sum.inr ("marks" : Str),V.str "mark"),(Sum.inr ("great" : Str),V.str "great"),(Sum.inr ("as" : Str),V.str "as"),(Sum.inr ("over" : Str),V.str "over")]
noncomputable def fF (w:Str):Prop:=w=("row" : Str)\/w=("marks" : Str)\/w=("great" : Str)\/w=("as" : Str)\/w=("over" : Str)
theorem uM{w:Str}(h:fF w):valV jobsL (Sum.inr w)=some (.str (jobD w)):=by
 rcases h with rfl | rfl | rfl | rfl | rfl <;> decide +kernel
theorem am6{w:Str}(h:¬ fF w):valV jobsL (Sum.inr w)=none:=by
 unfold fF at h;have n:∀ u:Str,w≠u->¬ ((Sum.inr u:B1)=Sum.inr w):=fun u hu e=>hu (Sum.inr.inj e).symm
 rw [bG (n _ (fun e=>h (.inl e))),bG (n _ (fun e=>h (.inr (.inl e)))),bG (n _ (fun e=>h (.inr (.inr (.inl e))))),bG (n _ (fun e=>h (.inr (.inr (.inr (.inl e)))))),bG (n _ (fun e=>h (.inr (.inr (.inr (.inr e))))))];rfl
theorem lQ{z:Rl}(h:p∈M8 z):fF z.1:=by
 unfold M8 at h;unfold fF
 split at h
 .rename_i e;exact .inr (.inr (.inl e))
 .split at h
  .rename_i e;exact .inr (.inr (.inr (.inl e)))
  .split at h
   .rename_i e
    rcases e with e | e | e
    .exact .inl e
    .exact .inr (.inl e)
    .exact .inr (.inr (.inr (.inr e)))
   .cases h
theorem ar4{R:Aq}{z:Rl}(hz:R[i]?=some z)(hp:(M8 z)[j]?=some p) :
  (E3 R)[(E3 (R.take i)).length+j]?=some (p,jobD z.1)/\(E3 R).take ((E3 (R.take i)).length+j)=E3 (R.take i)++((M8 z).take j).map fun p=>(p,jobD z.1):=by
 obtain ⟨more,e⟩:=ag3 R (i+1);rw [afB hz,R8] at e;have hj:j<(M8 z).length:=(F8.mp hp).1;rw [e]
 constructor
 .rw [o8 (bB _ _),Nat.add_sub_cancel_left,aT (by rw [A3];exact hj),U3,hp];rfl
 .rw [List.take_append,i8 (bB _ _),Nat.add_sub_cancel_left,List.take_append_of_le_length (by rw [A3];lia),cG]
theorem uN{d:Nat} : (([c]:An)<[d])↔c<d:=by
 constructor
 .intro h;cases h with
  | rel h=>exact h
  | cons h=>cases h
 .intro h;exact List.Lex.rel h
theorem C7.same(e:Same H H')(h:C7 K H a xs):C7 K H' a xs:=by
 rcases h with (h | ⟨o,h⟩) | h
 .exact .inl (.inl (e _ _ h))
 .exact .inl (.inr ⟨o,e _ _ h⟩)
 .exact .inr h
theorem C7.dput{d:ab}{o:HO}(hd:H d=some (.dK kvs))(h:C7 K H a xs):C7 K (A0 H d o) a xs:=by
 rcases h with (h | ⟨o,h⟩) | h
 .exact .inl (.inl (by rw [A4 (fun e=>by rw [e,hd] at h;cases h)];exact h))
 .exact .inl (.inr ⟨o,by rw [A4 (fun e=>by rw [e,hd] at h;cases h)];exact h⟩)
 .exact .inr h
noncomputable def spHas (K:aj):Sp:=fun vs H Q _=>∃ (a:ab) (ts:Ai) (R:Aq) (w:Str),vs=[.ref a,.str w]/\IsRules H a ts R/\R.length<=1000/\∀ H',Same H H'->Q (.bl (hasW R w)) H'
noncomputable def ak7 (K:aj):Sp:=fun vs H Q _=>∃ (t:ab) (z:Rl),vs=[.ref t]/\H t=some (tupR z)/\∀ p H',Same H H'->C7 K H' p ((M8 z).map V.str)->Q (.ref p) H'
noncomputable def ak8:Sp:=fun vs H Q _=>∃ (d:ab) (p j:Str) (fg:Bool) (ks:Ab) (g:Str->Str),vs=[.ref d,.str p,.str j,.bl fg]/\H d=some (.dK (A8 ks fun t=>.str (g t)))/\p.length<=1000/\(p∈ks->g p=j/\j∈lO)/\(fg=true->∀ c∈p.cps.toList,figO c=false)/\
 ∀ H',Same H H'->Q (.bl false) H'
noncomputable def k4 (R:Aq):Ab:=if hasW R "blanks"=true then [" "] else []
noncomputable def jobG (g:Str->Str):Str->V:=fun t=>if t=(" " : Str) then .str "over" else .str (g t)
noncomputable def anK (K:aj):Sp:=fun vs H Q _=>∃ (a:ab) (ts:Ai) (R:Aq) (g:Str->Str),vs=[.ref a]/\IsRules H a ts R/\R.length<=1000/\(E3 R).length<=10000/\NC (hasW R "figures") g (E3 R)/\(" " : Str)∉(E3 R).map (·.1)/\
 ∀ d H',H d=none->Same H H'->H' d=some (.dK (A8 (keysP (E3 R)++k4 R) (jobG g)))->Q (.ref d) H'
noncomputable def ordF (f b:Bool) (j ll ml md:ab):List (Str×V):=putF "made" (.ref md) (putF "mark_line" (.ref ml) (putF "letter_line" (.ref ll) (putF "jobs" (.ref j) (putF "behind" (.bl b) (putF "figures" (.bl f) [])))))
theorem ad3(f b:Bool)(j ll ml md:ab):(ordF f b j ll ml md).lookup ("figures" : Str)=some (V.bl f):=by
 unfold ordF;rw [M5,if_neg (by decide +kernel),M5,if_neg (by decide +kernel),M5,if_neg (by decide +kernel),M5,if_neg (by decide +kernel),M5,if_neg (by decide +kernel),M5,if_pos rfl]
theorem ah4(f b:Bool)(j ll ml md:ab):(ordF f b j ll ml md).lookup ("behind" : Str)=some (V.bl b):=by
 unfold ordF;rw [M5,if_neg (by decide +kernel),M5,if_neg (by decide +kernel),M5,if_neg (by decide +kernel),M5,if_neg (by decide +kernel),M5,if_pos rfl]
theorem ag5(f b:Bool)(j ll ml md:ab):(ordF f b j ll ml md).lookup ("jobs" : Str)=some (V.ref j):=by
 unfold ordF;rw [M5,if_neg (by decide +kernel),M5,if_neg (by decide +kernel),M5,if_neg (by decide +kernel),M5,if_pos rfl]
theorem ag6(f b:Bool)(j ll ml md:ab):(ordF f b j ll ml md).lookup ("letter_line" : Str)=some (V.ref ll):=by
 unfold ordF;rw [M5,if_neg (by decide +kernel),M5,if_neg (by decide +kernel),M5,if_pos rfl]
theorem ajz(f b:Bool)(j ll ml md:ab):(ordF f b j ll ml md).lookup ("mark_line" : Str)=some (V.ref ml):=by
 unfold ordF;rw [M5,if_neg (by decide +kernel),M5,if_pos rfl]
theorem lR(f b:Bool)(j ll ml md:ab){m:Str}(h:m∉(["made", "mark_line", "letter_line", "jobs", "behind", "figures"]:Ab)):(ordF f b j ll ml md).lookup m=none:=by
 unfold ordF;have n:∀ u∈(["made", "mark_line", "letter_line", "jobs", "behind", "figures"]:Ab),¬ m=u:=fun u hu e=>h (by rw [e];exact hu)
 rw [M5,if_neg (n _ (by simp)),M5,if_neg (n _ (by simp)),M5,if_neg (n _ (by simp)),M5,if_neg (n _ (by simp)),M5,if_neg (n _ (by simp)),M5,if_neg (n _ (by simp))];rfl
theorem IsRules.but{x:ab}{R:Aq}(h:IsRules H a rs R)(s:SameBut x H H'){fs:List (Str×V)}(hx:H x=some (.ins C dx fs)):IsRules H' a rs R:=
 ⟨s _ _ (fun e=>by have:=h.top;rw [e,hx] at this;cases this) h.top,L7 h.row fun t z e=>s _ _ (fun q=>by rw [q,hx] at e;cases e) e⟩
theorem SameBut.trans{x:ab}(a:SameBut x H H1)(b:SameBut x H1 H2):SameBut x H H2:=fun c o hc h=>b c o hc (a c o hc h)
theorem Same.but{x:ab}(a:Same H H1):SameBut x H H1:=fun c o _ h=>a c o h
noncomputable def Y7 (R:Aq) (w:Str) (L:Ab):Prop:=V5 (edges (rowsW R w)) (toldL (rowsW R w)) L/\∀ p∈toldL (rowsW R w),p∈L
structure IsOrder(C:ab)(H:Hp)(x:ab)(g:Str->Str)(R:Aq)(L M:Ab):Prop where
 ob:∃ dx j ll ml md,H x=some (.ins C dx (ordF (hasW R "figures") (hasW R "behind") j ll ml md))/\H j=some (.dK (A8 (keysP (E3 R)++k4 R) (jobG g)))/\H ll=some (.lst (L.map V.str))/\H ml=some (.lst (M.map V.str))
 l1:Y7 R "row" L
 l2:Y7 R "marks" M
noncomputable def anL (K:aj):Sp:=fun vs H Q _=>∃ (a:ab) (ts:Ai) (R:Aq) (w:Str) (rank:Str->Nat),vs=[.ref a,.str w]/\IsRules H a ts R/\R.length<=1000/\(rowsW R w).flatten.length<=100000/\(∀ e∈edges (rowsW R w),rank e.1<rank e.2)/\
 ∀ (l:ab) (line:Ab) (H':Hp),H l=none->Same H H'->H' l=some (.lst (line.map V.str))->V5 (edges (rowsW R w)) (toldL (rowsW R w)) line->(∀ p∈toldL (rowsW R w),p∈line)->Q (.ref l) H'
noncomputable def cellF (ns:Am) (k:Int):Int:=if k<(ns.length:Int) then ns.getD k.toNat 0 else 0
noncomputable def LA:An:=SG.filter fun c=>!figO c
noncomputable def LB:An:=LA++[48,49,50,51,52,53,54,55,56,57]
noncomputable def listF (d:Bool):An:=if d=true then LB else LA
noncomputable def lenF (d:Bool):Int:=if d=true then 93 else 83
noncomputable def uO (ns:Am):Bool:=decide (cellF ns 1 / 12 % 2=0)
noncomputable def stepO:Am:=[1,2,4,5,7,8,10,11,13,23,44,80]
noncomputable def stO (ns:Am):Int:=(K6 stepO (cellF ns 1 % 12)).getD 0
noncomputable def iQ (ns:Am) (k:Int):Nat:=(K6 (listF (uO ns)) ((cellF ns 0+k*stO ns) % lenF (uO ns))).getD 33
end L2
set_option maxRecDepth 100000
namespace L2
open PySem PySem.Spec PyProof.Rows
open AutoSeq1 (wpAny_loadPart' idx_int)
noncomputable abbrev bareL (ys:Ak) (k:Nat):Obj:=⟨.type "list",none,.seq ys k,#[]⟩
noncomputable abbrev anyT (dd:Ah) (ys:Ak) (k:Nat) (ss:Af):Obj:=⟨.type "tuple",dd,.seq ys k,ss⟩
theorem aeM{l:ab}{ys zs:Ak}{k2:Nat}{dd:Ah}(short:¬ (!ys.isEmpty&&Builtin.List.listTooLong (ys.size+zs.size))=true)(h1:ys.size<=ak)(h2:ys.size+zs.size<=ak+1) :
  Meets (Builtin.«list.extend» ⟨[.ref l,.ref b],[]⟩) (fun _ R s=>s.heap.get? l=some (bareL ys k)/\s.heap.get? b=some (anyT dd zs k2 ss)/\R (.ok (.ret .none)) { s with heap:=s.heap.update l (Obj.mapSeq (·++zs)),toks:=s.toks }):=by
 refine .of_wp fun _ _ _ R s ⟨gl,gb,fin⟩=>?_
 rcases s with ⟨hp,gens,dr,tk,sys⟩
 have c1:=idx_int;have c2:=AutoSeq1.sub_tuple_tuple;have c3:=AutoSeq1.sub_list_list;have c4:=AutoSeq1.sub_tuple_list;have c5:=AutoSeq1.sub_list_tuple;have room:(ys++zs).size<=ak+1:=Array.size_append ▸ h2
 wp_walk using (wpAny_updateSeq gl rfl (hz:=h1) (_hz':=room)),bq gl,bq gb
 exact ⟨_,rfl,fin⟩
section
variable {X:Cx}
noncomputable def aiL (K:aj):V->Ao->Hp->VK->Prop:=fun x vs H Q=>∃ l b xs zs,x=.ref l/\vs=[.ref b]/\H l=some (.lst xs)/\C7 K H b zs/\xs.length+zs.length<=ak/\Q .non (A0 H l (.lst (xs++zs)))
theorem ajA:iB X "list.extend" (aiL X.K):=by
 intro aa s Y H x vs v us Q I rx rv h;obtain ⟨l,b,xs,zs,rfl,rfl,hH,hB,hz,q⟩:=h
 cases rx
 obtain ⟨u,rfl,ru⟩:=rv.one
 cases ru
 obtain ⟨z,its,n,r,hl,e⟩:=I.lstM hH;obtain ⟨its2,r2,⟨⟨c,dct,dt,sl⟩,e2,hc,n2,hd⟩,W1⟩:=I.tuple hB
 replace hc:c=.type "tuple":=hc
 replace hd:dt=.seq its2.toArray n2:=hd
 subst hc hd;have q1:=r2.length;have hsz:its.toArray.size+its2.toArray.size<=ak:=by rw [L4,L4];lia
 have v6:¬ (!its.toArray.isEmpty&&Builtin.List.listTooLong (its.toArray.size+its2.toArray.size))=true:=by
  rw [aiB hsz,Bool.and_false];exact L9
 refine call_meets F.slot_list_extend ⟨_,e,rfl⟩ F.entry_list_extend (F.args_list_extend_2 _ _)
  (aeM (k:=n) (k2:=n2) (dd:=dct) (ss:=sl) v6 (by rw [L4];lia) (by lia)) ⟨e,e2,?_⟩
 refine ⟨.non,_,I.lset (its':=its++its2) hH e (by simp) (r.append r2) ?_,rfl,q⟩;rw [C6];lia
theorem ak9(hK:X.K=K:=by rfl):QMt X "list.extend" (aiL K):=by subst hK;exact ⟨fun aa s Y H x xs v us Q I rx rv h=>ajA aa s Y H x xs v us Q I rx rv h⟩
noncomputable def rMulS:V->V->Hp->VK->Prop:=fun x y H Q=>∃ z n,x=.str z/\y=.int n/\MulOk z n/\Q (.str (Txt.mul z n)) H
theorem ar5:K3 X (bo .Mult) rMulS:=by
 intro aa s Y H x y v u Q I rx ry h;obtain ⟨z,n,rfl,rfl,h1,q⟩:=h;obtain ⟨t,rfl⟩:=rx;obtain ⟨t2,rfl⟩:=ry;exact SB.mul h1 fun t' k=>⟨.str _,H,I.tok k,⟨_,rfl⟩,q⟩
theorem uP:QOp X (bo .Mult) rMulS:=⟨ar5⟩
end
noncomputable def pP (l : ab) (n : Nat) : It :=
  ⟨fun i H => ∃ xs x, H l = some (.lst xs) /\ i<n /\ xs[n-1-i]? = some x,
   fun i H v H' => H' = H /\ ∀ xs, H l = some (.lst xs) -> xs[n-1-i]? = some v,
   fun i H => ∃ xs, H l = some (.lst xs) /\ n <= i⟩
theorem am7{P:ax}{w:av}(l it:ab)(n:Nat):Turn P w K tg (pP l n) [it] it (fun i h=>i<=n/\h.IsRevIter it l ((n:Int)-1-(i:Int))) where
 mem:=by simp
 obj:=fun i h st b hb=>by
  have e:b=it:=by simpa using hb
  subst e;obtain ⟨_,o,e,c,d⟩:=st;exact ⟨o,e,fun v z=>by rw [d] at z;cases z⟩
 keep:=fun i h h' st k=>⟨st.1,st.2.at fun o e=>k it (by simp) o e⟩
 item:=by
  intro X hP hw hK hc i aa s Y H E I hf st hg;subst hP hw hK;obtain ⟨xs,x,hq,hi,hx⟩:=hg;obtain ⟨its,rv,p,hz⟩:=I.list (D9.of (K:=X.K) hq);obtain ⟨u,hu,ru⟩:=rv.get hx;obtain ⟨f0,f1,f2,f3,f4,f5⟩:=hf it (by simp);obtain ⟨jE,u9⟩:=st;rw [show (n:Int)-1-(i:Int)=((n-1-i:Nat):Int) by lia] at u9;refine wpAny_pyNext_rev_item u9 p.isList (x:=u) (by simpa using hu) fun h' st' sb=>?_
  have I1:Inv X aa Y H { s with heap:=h' }:=I.turned (t':=s.toks) (fun b o hb e=>(sb.2 b hb).trans e) f0 f1 f3 f4 f5;obtain ⟨o,e,c,d⟩:=id st';rw [show ((n-1-i:Nat):Int)-1=(n:Int)-1-((i+1:Nat):Int) by lia] at st';exact ⟨u,rfl,go_of (s:={ s with heap:=h' }) e c d (by decide) ⟨x,H,I1,ru,⟨rfl,fun ys hy=>by rw [hq] at hy;cases hy;exact hx⟩,⟨hi,st'⟩,fun b hb=>(hf b hb).1⟩⟩
 done:=by
  intro X hP hw hK hc i aa s Y H E I hf st hg;subst hP hw hK;obtain ⟨xs,hq,hx⟩:=hg;obtain ⟨f0,f1,f2,f3,f4,f5⟩:=hf it (by simp);obtain ⟨jE,u9⟩:=st;rw [show (n:Int)-1-(i:Int)=-1 by lia] at u9;exact wpAny_pyNext_rev_end (I.ok.hd hc) u9 fun h' eb=>⟨rfl,I.turned (t':=s.toks) (fun b o hb e=>eb b o hb e) f0 f1 f3 f4 f5⟩
 self:=fun _ _ _ _ _ st h=>wpAny_pyIter_revIter st.2 h
theorem agi:bn "reversed"=some (.type "reversed"):=by decide +kernel
section
variable {X:Cx}
noncomputable def iRev (ta:TA):TI:=fun Y H R=>ta Y H fun vs H1=>∃ (l:ab) (xs:Ao),vs=[.ref l]/\H1 l=some (.lst xs)/\R (pP l xs.length) H1
theorem ar6{a:ao}{p pos:aw}(hg:Gl X "reversed")(hm:X.mg "reversed"=none)(ha:PA X [a] ta)(h1:F6 a=false:=by rfl) :
  PI X tg (.Call (.Name "reversed" p) [a] [] pos) (iRev ta):=by
 intro aa s Y H R I h;refine Call_ (aB I hg hm agi (PyProof.Rows.callWith_type1 (thnA (ha pos aa s Y H _ I h) fun us s1 vs H1 I1 r1 q1=>?_) (M9 h1) rfl));obtain ⟨l,xs,rfl,e1,q⟩:=q1;obtain ⟨u1,rfl,fX⟩:=vals1 r1
 cases fX
 obtain ⟨its1,Y9,p1,_⟩:=I1.list (D9.of (K:=X.K) e1);have q1:=Y9.length;refine call_reversed_list p1.isList ?_;have z1:(s1.heap.push (revObj l ((its1.toArray.size:Int)-1))).IsRevIter s1.heap.objs.size l ((xs.length:Int)-1-((0:Nat):Int)):=⟨_,br _ rfl,rfl,by simp [revObj,q1]⟩
 refine wpAny_pyIter_revIter z1 ?_;refine ⟨s1.heap.objs.size,[s1.heap.objs.size],_,_,H1,rfl,I1.kept (t':=s1.toks) fun b o e=>bg _ e,am7 l s1.heap.objs.size xs.length,⟨J7 _,z1⟩,fun b hb=>?_,q⟩;have T5:s1.heap.objs.size<=b:=by
  have e:b=s1.heap.objs.size:=by simpa using hb
  rw [e];exact C1 _
 exact I1.fpOk T5 (I1.hok.fresh T5)
theorem ar7{a:ao}{p pos:aw}(hm:X.mg "reversed"=none)(ha:QA X [a] ta)(hg:Gl X "reversed":=by rfl)(h1:F6 a=false:=by rfl) :
  QI X tg (.Call (.Name "reversed" p) [a] [] pos) (iRev ta):=⟨ar6 hg hm ha.out h1⟩
end
theorem aqo{R:It->Hp->Prop} : iRev ta Y H R=ta Y H fun vs H1=>∃ (l:ab) (xs:Ao),vs=[.ref l]/\H1 l=some (.lst xs)/\R (pP l xs.length) H1:=rfl
theorem forV{l:ab}{g:TG}(Pv:Nat->Ar)(h0:Pv 0 Y H)(hl:∀ i Y H,Pv i Y H->H l=some (.lst xs))(hs:∀ i x Y H,xs.reverse[i]?=some x->Pv i Y H->g x Y H fun σ2 H2=>tb { D with nx:=Pv (i+1),ct:=Pv (i+1),bk:=D.nx } σ2 H2)(hd:∀ Y H,Pv xs.length Y H->D.nx Y H):ForIt (pP l xs.length) g tb D Y H:=by
 refine ⟨fun i m Y H=>m=xs.length-i/\i<=xs.length/\Pv i Y H,⟨xs.length,by simp,J7 _,h0⟩,?_⟩;rintro i m Y H ⟨rfl,hi,p⟩;have e1:=hl i Y H p
 by_cases C4:i<xs.length
 .have e2:xs.reverse[i]?=xs[xs.length-1-i]?:=List.getElem?_reverse C4;refine .inr ⟨⟨xs,xs[xs.length-1-i],e1,C4,L6 (by lia)⟩,Pv (i+1),fun σ' H' p'=>⟨_,by lia,rfl,C4,p'⟩,fun v H' y=>?_⟩;obtain ⟨rfl,y⟩:=y;exact hs i v Y _ (by rw [e2];exact y xs e1) p
 .have e:i=xs.length:=by lia
  subst e;exact .inl ⟨⟨xs,e1,C1 _⟩,hd Y H p⟩
noncomputable abbrev cY (l:ab):Obj:={ cls:=.type "list_iterator",data:=.fields #[.ref l,.int 0 0] }
noncomputable abbrev iR (it:ab) (i:Int):Obj:={ cls:=.type "enumerate",data:=.fields #[.none,.bool false,.ref it,rawInt i,.none,.none] }
noncomputable abbrev anyL (dd:Ah) (ys:Ak) (k:Nat) (ss:Af):Obj:=⟨.type "list",dd,.seq ys k,ss⟩
set_option maxHeartbeats 4000000 in
theorem afh{l:ab}{ys:Ak}{dd:Ah}{i:Int}{t:Tok}(fits:Builtin.SmallTypes.fitsIndex i=true) :
  Meets (Builtin.«enumerate.__new__» ⟨[.type "enumerate",.ref l],[("start",.int i t)]⟩) (fun _ R s=>s.heap.get? l=some (anyL dd ys k ss)/\
   R (.ok (.ret (.ref (s.heap.push (cY l)).objs.size))) { s with heap:=(s.heap.push (cY l)).push (iR s.heap.objs.size i) }):=by
 refine .of_wp fun _ _ _ R s ⟨gl,fin⟩=>?_
 rcases s with ⟨hp,gens,dr,tk,sys⟩
 have c1:=sub_enumerate;have isl:au.IsList (ag.heap ⟨hp,gens,dr,tk,sys⟩) l ys:=⟨_,gl,rfl,k,rfl⟩
 wp_walk using bq gl
 refine wpAny_stack_any fun _=>bb ?_
 split
 case h_1 c _ _ _ _ _=>
  generalize (c==ac.type "enumerate")=truth
  cases truth <;> (wp_walk using bq gl,wpAny_pyIter_list isl;exact ⟨_,rfl,fin⟩)
 case h_2=>(wp_walk using bq gl,wpAny_pyIter_list isl;exact ⟨_,rfl,fin⟩)
theorem ajB(a b:ac):checkTypeCall "enumerate" ⟨[a],[("start",b)]⟩=pure ():=by kernel_rfl
theorem alb(a b:ac):checkBuiltinCall "enumerate.__new__" ⟨[.type "enumerate",a],[("start",b)]⟩=pure ():=by kernel_rfl
theorem ajC(a b c:ac):argsOk "object.__init__" ⟨[a,b],[("start",c)]⟩:=by
 unfold argsOk;rw [signature?_of (id:="object.__init__") (n:="__init__".toList.reverse) (o:="object".toList.reverse) (by kernel_rfl) F.owner_object]
 kernel_rfl
theorem alc{self b c:ac} : Meets (Builtin.«object.__init__» ⟨[self,b],[("start",c)]⟩) (fun _ R s=>s.TypeIs self "enumerate"/\R (.ok (.ret .none)) s):=by
 have c1:=F.called_enumerate.init.lookup;have c2:=F.called_enumerate.made;refine .of_wp fun _ _ _ R s ⟨isT,fin⟩=>?_
 repeat (any_goals (first | assumption | wp_step))
 exact ⟨_,rfl,fin⟩
section
variable {prog:ax} {w:av} {A:ay} {E:Ac} {s:ag}
theorem aeN{l:ab}{ys:Ak}{i:Int}{t:Tok}{Q:Ac}(isl:s.heap.IsList l ys)(fits:Builtin.SmallTypes.fitsIndex i=true)(fin:∀ h',IsEnum h' (s.heap.objs.size+1) s.heap.objs.size i .none->h'.IsListIter s.heap.objs.size l 0->(∀ b o,s.heap.get? b=some o->h'.get? b=some o)->Q (.ref (s.heap.objs.size+1)) { s with heap:=h' }) :
  wpAny (model prog w) A (call (.type "enumerate") [.ref l] [("start",.int i t)]) Q E s:=by
 obtain ⟨⟨c,dd,dt,ss⟩,gl,hc,k,hd⟩:=isl;obtain rfl:c=.type "list":=hc;obtain rfl:dt=.seq ys k:=hd;obtain ⟨hd0,tl,c1⟩:=F.called_enumerate.mro;have c2:=F.called_enumerate.made;have c3:=F.called_enumerate.sub;have c4:=F.called_enumerate.notType;have c5:=F.called_enumerate.canCreate;have c6:=F.called_enumerate.init.lookup;have c7:=ajB (.ref l) (.int i t);refine wpAny_call (codeAny_of_tree (show wpAny _ _ (callAny (.type "enumerate") _) _ _ _ from bb ⟨Code.quiet_builtin _ (by decide +kernel),codeAny_builtin F.entry_type_call ?_⟩));rw [ay.under_plain (weight_type_call_type "enumerate" [.ref l] [("start",.int i t)]) (units_type_call_type "enumerate" [.ref l] [("start",.int i t)])]
 repeat (any_goals (first | assumption | wp_step))
 have z:(s.heap.push (cY l)).objs.size=s.heap.objs.size+1:=au.size_push ..;have made:IsEnum ((s.heap.push (cY l)).push (iR s.heap.objs.size i)) (s.heap.objs.size+1) s.heap.objs.size i .none:=by
  have g:=br (s.heap.push (cY l)) (o:=iR s.heap.objs.size i) rfl;rw [z] at g;exact g
 have done:=fin _ made ⟨_,bg _ (br _ rfl),rfl,rfl⟩ fun b o g=>bg _ (bg _ g)
 refine cb (codeAny_call_builtin F.called_enumerate.plain F.entry_enumerate_new (wpAny_of_eq (alb _ _) (afh (dd:=dd) (k:=k) (ss:=ss) fits prog w A.in1 (wants (fun v s2=>v=.ref (s.heap.objs.size+1)/\s2={ s with heap:=(s.heap.push (cY l)).push (iR s.heap.objs.size i) }) E) s ⟨gl,?_,?_⟩))) ?_
 .rw [z]
 .rfl
 .intro r s1 hr
  rcases r with e | fl
  .exact hr
  .cases fl with
   | ret v=>
    obtain ⟨rfl,rfl⟩:=hr;have isT:ag.TypeIs { s with heap:=(s.heap.push (cY l)).push (iR s.heap.objs.size i) } (.ref (s.heap.objs.size+1)) "enumerate":=⟨_,made,rfl⟩
    have c8:=F.called_enumerate.init.bind (.ref (s.heap.objs.size+1))
    repeat (any_goals (first | assumption | wp_step))
    have ran:=alc (self:=.ref (s.heap.objs.size+1)) (b:=.ref l) (c:=.int i t) prog w A.in1 (wants (fun v s2=>v=.none/\s2={ s with heap:=(s.heap.push (cY l)).push (iR s.heap.objs.size i) }) E) _ ⟨isT,rfl,rfl⟩;refine cb (codeAny_call_builtin F.called_enumerate.init.plain F.entry_object_init (F.called_enumerate.init.check _ _ _ _ _ _ _ _ isT (ajC _ _ _) ran)) fun r s2 hr=>?_
    rcases r with e | fl
    .exact hr
    .cases fl with
     | ret v=>
      obtain ⟨rfl,rfl⟩:=hr
      repeat (any_goals (first | assumption | wp_step))
     | next=>exact hr.elim
     | brk=>exact hr.elim
     | cont=>exact hr.elim
   | next=>exact hr.elim
   | brk=>exact hr.elim
   | cont=>exact hr.elim
end
theorem ar8{w:av}(calm:A.handled=none){l:ab}(apart:l≠it)(ys:Ak) :
  Draws prog w A it [it,l] (ys.size+1) (fun i v=>1<=i/\ys[i-1]?=some v) (fun i h=>1<=i/\h.IsListIter it l (i-1)/\h.IsList l ys):=by
 have D:=Draws.list (prog:=prog) (w:=w) calm it l apart ys;refine ⟨fun i h st=>D.live (i-1) h st.2,fun i h h' st same=>⟨st.1,D.frame (i-1) h h' st.2 same⟩,fun i s Q E hi st fin=>?_,fun s Q E st fin=>D.done s Q E st.2 fin⟩;refine D.item (i-1) s Q E (by have:=st.1;lia) st.2 fun x h' tk px st' sb=>fin x h' tk ⟨st.1,px⟩ ⟨by lia,?_⟩ sb
 rw [show i+1-1=i-1+1 by have:=st.1;lia];exact st'
theorem ar9{w : av}(calm : A.handled = none){l: ab}{ys : Ak}(none : ys[i]? = none) :
    Draws prog w A it [it, l] (i+1) (fun _ _ => True) (fun k h => k = i+1 /\ h.IsListIter it l i /\ h.IsList l ys) :=
  ⟨fun _ _ st => let ⟨o, ho, _⟩ := st.2.1; ⟨o, ho⟩, fun _ _ _ st same => ⟨st.1, st.2.1.at fun o g => same it (by simp) o g, st.2.2.at fun o g => same l (by simp) o g⟩,
   fun k s Q E hk st => absurd st.1 (by lia), fun s Q E st fin => wpAny_nextOf_list_end calm st.2.1 st.2.2 none fin⟩
noncomputable def Ite1 (l : ab) : It :=
  ⟨fun i H => ∃ xs x, H l = some (.lst xs) /\ xs[i]? = some x,
   fun i H v H' => ∃ t xs x, H l = some (.lst xs) /\ xs[i]? = some x /\ H t = none /\ v = .ref t /\ H' = A0 H t (.tup [.int (i+1 : Nat), x]),
   fun i H => ∃ xs, H l = some (.lst xs) /\ xs.length <= i⟩
theorem ajD{P:ax}{w:av}{pos:aw}(e it l:ab)(G0:e≠it) :
  Turn P w K (.Tuple elts x1 pos) (Ite1 l) [e,it] e (fun i h=>(∃ old,IsEnum h e it ((i+1:Nat):Int) old)/\h.IsListIter it l i) where
 mem:=by simp
 obj:=fun i h ⟨⟨old,he⟩,hi⟩ c hc=>by
  have q:c=e\/c=it:=by simpa using hc
  rcases q with rfl | rfl
  .exact ⟨_,he,fun v q=>by cases q⟩
  .obtain ⟨o,e,c,d⟩:=hi;exact ⟨o,e,fun v z=>by rw [d] at z;cases z⟩
 keep:=fun i h h' ⟨⟨old,he⟩,hi⟩ k=>⟨⟨old,k e (by simp) _ he⟩,hi.at fun o q=>k it (by simp) o q⟩
 item:=by
  intro X hP hw hK hc i aa s Y H E I hf ⟨⟨old,he⟩,hi⟩ hg;subst hP hw hK;obtain ⟨xs,x,e1,hx⟩:=hg;obtain ⟨its1,Y9,p1,_⟩:=I.list (D9.of (K:=X.K) e1);obtain ⟨u1,E1,r1⟩:=Y9.get hx;have C4:i<its1.length:=(F8.mp E1).1;obtain ⟨ol,gl,cl,_⟩:=p1.isList;have nli:l≠it:=fun q=>by
   obtain ⟨oi,gi,ci,_⟩:=hi;rw [q,gi] at gl
   cases gl
   rw [ci] at cl;exact absurd cl (by decide)
  have nle:e≠l:=fun q=>by
   rw [<- q,he] at gl
   cases gl
   exact absurd (show ac.type "enumerate"=ac.type "list" from cl) (by decide)
  refine wpAny_pyNext_enum_itemD (i:=i+1) (ar8 (A:=X.A.in1) (show X.A.in1.handled=none from I.ok.hd hc) nli its1.toArray) he ⟨by lia,by simpa using hi,p1.isList⟩ (by simp;lia) G0 (by simp [G0,nle]) fun y h' tk py b1 b2 b3 b4 b5=>?_
  obtain rfl:u1=y:=by
   have:=py.2
   simp [E1] at this;exact this
  refine ⟨_,rfl,wpAny_letOwnedTupleGo_enum b1 fun h2' c1 c2=>?_⟩;have b8:e<s.heap.objs.size:=ba he;have up:∀ c o,c≠e->h'.get? c=some o->h2'.get? c=some o:=fun c o hc q=>(c2.2 c hc).trans q
  have hT:=up _ _ (Nat.ne_of_gt b8) b3;have nT:∀ c∈[e,it],c≠s.heap.objs.size:=fun c hc=>by
   have q:c=e\/c=it:=by simpa using hc
   refine O4 ?_
   rcases q with rfl | rfl
   .exact b8
   .obtain ⟨o,q,_⟩:=hi;exact ba q
  refine ⟨.ref s.heap.objs.size,A0 H s.heap.objs.size (.tup [.int (i+1:Nat),x]),I.turnNew (t':=tk+1) (ch:=[e,it]) hf (fun c u hc q=>?_) (C1 _) ⟨by show 2<=ak;decide,[.int (i+1:Nat) tk,u1],.cons ⟨_,rfl⟩ (.cons r1 .nil),?_⟩,rfl,⟨_,xs,x,e1,hx,I.fresh,rfl,rfl⟩,
   ⟨⟨_,c1⟩,(show h'.IsListIter it l (i+1) by simpa using b2.2.1).at fun o q=>up _ o G0.symm q⟩,fun c hc=>by rw [A4 (nT c hc)];exact (hf c hc).1⟩
  .have q1:c≠e/\c≠it:=⟨fun q=>hc (by simp [q]),fun q=>hc (by simp [q])⟩
   exact up c u q1.1 (b5 c u q1.1 q1.2 q)
  .exact ⟨_,hT,rfl,_,rfl⟩
 done:=by
  intro X hP hw hK hc i aa s Y H E I hf ⟨⟨old,he⟩,hi⟩ hg;subst hP hw hK;obtain ⟨xs,e1,fW⟩:=hg;obtain ⟨its1,Y9,p1,_⟩:=I.list (D9.of (K:=X.K) e1);have q1:=Y9.length;obtain ⟨f0,f1,f2,f3,f4,f5⟩:=hf it (by simp);exact wpAny_pyNext_enum_endD (ar9 (A:=X.A.in1) (show X.A.in1.handled=none from I.ok.hd hc) (ys:=its1.toArray) (i:=i) (by simp;lia)) he ⟨rfl,hi,p1.isList⟩ fun h' eb=>⟨rfl,I.turned (t':=s.toks) (fun b o hb q=>eb b o hb q) f0 f1 f3 f4 f5⟩
 self:=fun _ _ _ _ _ st h=>by
  obtain ⟨⟨old,he⟩,_⟩:=st;exact wpAny_pyIter_enum he h
theorem ald:bn "enumerate"=some (.type "enumerate"):=by decide +kernel
section
variable {X:Cx}
noncomputable def uQ (ta:TA):TI:=fun Y H R=>ta Y H fun vs H1=>∃ (l:ab) (xs:Ao),vs=[.ref l]/\H1 l=some (.lst xs)/\R (Ite1 l) H1
theorem am8{a:ao}{p pos:aw}(hg:Gl X "enumerate")(hm:X.mg "enumerate"=none)(ha:PA X [a] ta)(h1:F6 a=false:=by rfl) :
  PI X (.Tuple elts x1 tpos) (.Call (.Name "enumerate" p) [a] [⟨some "start",.Constant (.int 1) ck cpos,kpos⟩] pos) (uQ ta):=by
 intro aa s Y H R I h;refine wpAny_Call_Name_kw (aB I hg hm ald (PySem.W.callWith_of (P:=fun _=>True) ?_ (fun _ _=>⟨_,.inr (.inl rfl),PySem.W.Looks.of_pure rfl⟩) (PyProof.Rows.evalArgs_kw2 rfl (thnA (ha pos aa s Y H _ I h) fun us s1 vs H1 I1 r1 q1=>?_) (M9 h1))))
 .rw [M9 h1];rfl
 have kw:PK X [⟨some "start",.Constant (.int 1) ck cpos,kpos⟩] (tCons (tC (.int 1)) tNil):=aor anx ara;refine M0 (kw pos aa s1 Y H1 (fun zs H2=>zs=[.int 1]/\H2=H1) I1 ⟨rfl,rfl⟩) fun ws s2 ⟨zs,H2,I2,rz,e1,e2⟩=>⟨trivial,?_⟩
 subst e1 e2;obtain ⟨l,xs,rfl,e1,q⟩:=q1;obtain ⟨u1,rfl,fX⟩:=vals1 r1
 cases fX
 obtain ⟨u2,rfl,mU⟩:=vals1 rz;obtain ⟨t,rfl⟩:=mU;obtain ⟨its1,Y9,p1,_⟩:=I2.list (D9.of (K:=X.K) e1);refine aeN p1.isList (by decide) fun h' z1 z2 z4=>wpAny_pyIter_enum z1 ?_
 refine ⟨s2.heap.objs.size+1,[s2.heap.objs.size+1,s2.heap.objs.size],_,_,H2,rfl,I2.kept (t':=s2.toks) z4,ajD _ s2.heap.objs.size l (n6 (by lia)),⟨⟨_,z1⟩,z2⟩,fun b hb=>?_,q⟩;have T5:s2.heap.objs.size<=b:=by
  have e:b=s2.heap.objs.size+1\/b=s2.heap.objs.size:=by simpa using hb
  rcases e with rfl | rfl
  .exact bB _ _
  .exact C1 _
 exact I2.fpOk T5 (I2.hok.fresh T5)
theorem am9{a:ao}{p pos:aw}(hm:X.mg "enumerate"=none)(ha:QA X [a] ta)(hg:Gl X "enumerate":=by rfl)(h1:F6 a=false:=by rfl) :
  QI X (.Tuple elts x1 tpos) (.Call (.Name "enumerate" p) [a] [⟨some "start",.Constant (.int 1) ck cpos,kpos⟩] pos) (uQ ta):=⟨am8 hg hm ha.out h1⟩
end
theorem alf{R:It->Hp->Prop} : uQ ta Y H R=ta Y H fun vs H1=>∃ (l:ab) (xs:Ao),vs=[.ref l]/\H1 l=some (.lst xs)/\R (Ite1 l) H1:=rfl
theorem forE1{l:ab}{g:TG}(Pv:Nat->Ar)(h0:Pv 0 Y H)(hl:∀ i Y H,Pv i Y H->H l=some (.lst xs))(hs:∀ i x t Y H,xs[i]?=some x->Pv i Y H->H t=none->g (.ref t) Y (A0 H t (.tup [.int (i+1:Nat),x])) fun σ2 H2=>tb { D with nx:=Pv (i+1),ct:=Pv (i+1),bk:=D.nx } σ2 H2)(hd:∀ Y H,Pv xs.length Y H->D.nx Y H):ForIt (Ite1 l) g tb D Y H:=by
 refine ⟨fun i m Y H=>m=xs.length-i/\i<=xs.length/\Pv i Y H,⟨xs.length,by simp,J7 _,h0⟩,?_⟩;rintro i m Y H ⟨rfl,hi,p⟩;have e1:=hl i Y H p
 by_cases C4:i<xs.length
 .refine .inr ⟨⟨xs,xs[i],e1,by simp⟩,Pv (i+1),fun σ' H' p'=>⟨_,by lia,rfl,C4,p'⟩,fun v H' y=>?_⟩;obtain ⟨t,xs',x,f1,hx,ht,rfl,rfl⟩:=y;rw [e1] at f1;cases f1;exact hs i x t Y H hx p ht
 .have e:i=xs.length:=by lia
  subst e;exact .inl ⟨⟨xs,e1,by lia⟩,hd Y H p⟩
end L2
set_option maxRecDepth 100000
namespace L2
open PySem PySem.Spec PyProof.Rows
noncomputable def uR:V->Ao->Hp->VK->Prop:=fun x vs H Q=>∃ (l:ab) (xs:Ao) (i:Int) (y:V),x=.ref l/\vs=[.int i,y]/\H l=some (.lst xs)/\0<=i/\i<2 ^ 62/\i.toNat<=xs.length/\xs.length<ak/\Q .non (A0 H l (.lst (xs.take i.toNat++y::xs.drop i.toNat)))
theorem alg : iB X "list.insert" uR:=by
 intro aa s Y H x vs v us Q I rx rv h;obtain ⟨l,xs,i,y,rfl,rfl,hH,h0,h1,h2,hz,q⟩:=h
 cases rx
 obtain ⟨u,u2,rfl,ru,mU⟩:=rv.two;obtain ⟨t,rfl⟩:=ru;obtain ⟨z,its,n,r,hl,e⟩:=I.lstM hH;refine call_meets F.slot_list_insert ⟨_,e,rfl⟩ F.entry_list_insert (F.args_list_insert_3 _ _ _) (AutoSeq1.list_insert_list_int_val_1 l its.toArray n i t u2 (by rw [fitsIndex_both (by lia) (by lia)];decide) (by rw [L4];lia)) ⟨e,?_⟩;refine ⟨.non,_,I.lset (its':=its.take i.toNat++u2::its.drop i.toNat) hH e ?_ (Vals.append (Vals.take _ r) (.cons mU (Vals.drop _ r))) ?_,rfl,q⟩
 .show (its.toArray.extract 0 (if i<0 then (i+(its.toArray.size:Int)).toNat else min i.toNat its.toArray.size)).push u2++its.toArray.extract (if i<0 then (i+(its.toArray.size:Int)).toNat else min i.toNat its.toArray.size)=_;rw [if_neg (by lia),show min i.toNat its.toArray.size=i.toNat by rw [L4];lia];exact PySem.W.kl_ins_eq its i.toNat u2
 .rw [C6,E5,G9,Z2];lia
theorem ana : QMt X "list.insert" uR:=⟨fun aa s Y H x xs v us Q I rx rv h=>alg aa s Y H x xs v us Q I rx rv h⟩
theorem insOk{l:ab}{i:Int}(h:H l=some (.lst xs))(h0:0<=i)(h1:i<2 ^ 62)(h2:i.toNat<=xs.length)(hz:xs.length<ak)(q:Q .non (A0 H l (.lst (xs.take i.toNat++y::xs.drop i.toNat)))):uR (.ref l) [.int i,y] H Q:=⟨l,xs,i,y,rfl,rfl,h,h0,h1,h2,hz,q⟩
noncomputable def rPopN:V->Ao->Hp->VK->Prop:=fun x vs H Q=>∃ (l:ab) (xs:Ao) (i:Int) (y:V),x=.ref l/\vs=[.int i]/\H l=some (.lst xs)/\0<=i/\i<2 ^ 62/\xs[i.toNat]?=some y/\Q y (A0 H l (.lst (xs.eraseIdx i.toNat)))
theorem anM : QMt X "list.pop" rPopN:=⟨fun aa s Y H x xs v us Q I rx rv h=>by
 obtain ⟨l,ys,i,y,rfl,rfl,hH,h0,h1,h2,q⟩:=h;refine amo aa s Y H _ _ v us Q I rx rv ⟨l,ys,i,i.toNat,y,rfl,rfl,hH,by lia,by lia,?_,h2,q⟩
 have:=(F8.mp h2).1
 unfold seqIndex?;have h3:¬ i<0:=by lia
 have h4:i<(ys.length:Int):=by lia
 simp [h3,h0,h4]⟩
theorem popOk{l:ab}{i:Int}(h:H l=some (.lst xs))(h0:0<=i)(h1:i<2 ^ 62)(h2:xs[i.toNat]?=some y)(q:Q y (A0 H l (.lst (xs.eraseIdx i.toNat)))):rPopN (.ref l) [.int i] H Q:=⟨l,xs,i,y,rfl,rfl,h,h0,h1,h2,q⟩
noncomputable def uS:V->Ao->Hp->VK->Prop:=fun x vs H Q=>∃ (l:ab) (zs:Am) (z:Int),x=.ref l/\vs=[.int z]/\H l=some (.lst (zs.map V.int))/\z∈zs/\Q .non (A0 H l (.lst ((zs.erase z).map V.int)))
theorem pQ:∀ {vs:Ae} {zs:Am},IntsAre vs zs->∀ {j:Nat} {z:Int},zs[j]?=some z->∃ t,vs[j]?=some (.int z t)
 | _,_,.nil,_,_,h=>by simp at h
 | _,_,.cons _ _ _,0,_,h=>by simp at h;subst h;exact ⟨_,rfl⟩
 | _,_,.cons _ _ r,j+1,z,h=>by
  obtain ⟨t,q⟩:=pQ r (j:=j) (z:=z) (by simpa using h);exact ⟨t,by simpa using q⟩
theorem ajE : iB X "list.remove" uS:=by
 intro aa s Y H x vs v us Q I rx rv h;obtain ⟨l,zs,zz,rfl,rfl,hH,hm,q⟩:=h
 cases rx
 obtain ⟨u,rfl,ru⟩:=rv.one;obtain ⟨t,rfl⟩:=ru;obtain ⟨z,its,n,r,hl,e⟩:=I.lstM hH;have sa:=oU r;have hj:zs.idxOf zz<zs.length:=cC.mpr hm;rw [A3] at hl;have O6:∀ (j:Nat) (hj:j<its.toArray.size),∃ y t',zs[j]?=some y/\its.toArray[j]=.int y t':=fun j hj'=>by
  have hj2:j<zs.length:=by rw [hl];simpa using hj'
  obtain ⟨t',ht⟩:=pQ sa (j:=j) (z:=zs[j]) (by simp);refine ⟨zs[j],t',by simp,?_⟩
  have:=(F8.mp ht).2
  simpa using this
 have hsz:zs.idxOf zz<its.toArray.size:=by rw [L4,<- hl];exact hj
 refine call_meets F.slot_list_remove ⟨_,e,rfl⟩ F.entry_list_remove (F.args_list_remove_2 _ _)
  (MeetsSeq.list_remove l its.toArray n (.int zz t) (isInt zz) (fun y hy=>eq_isInt zz t sa y (by simpa using hy)) (zs.idxOf zz) hsz ?_ (fun m fZ C4=>?_) (by rw [L4,<- hl];rw [A3] at z;exact z)) ⟨e,?_⟩
 .obtain ⟨y,t',h1,h2⟩:=O6 _ hsz;rw [h2]
  have:y=zz:=by
   have:=eJ hj
   rw [L6 hj,this] at h1;exact (bh h1).symm
  subst this;simp [isInt]
 .obtain ⟨y,t',h1,h2⟩:=O6 _ fZ;rw [h2]
  have:y≠zz:=fun q=>by
   obtain ⟨h3,h4⟩:=F8.mp h1
   have:=List.not_of_lt_findIdx (show m<zs.findIdx (· == zz) from C4)
   rw [h4] at this;simp [q] at this
  simp [isInt,this]
 .refine ⟨.non,_,I.lset (its':=its.eraseIdx (zs.idxOf zz)) hH e ?_ ?_ ?_,rfl,q⟩
  .show its.toArray.eraseIdxIfInBounds (zs.idxOf zz)=_;rw [List.eraseIdxIfInBounds_toArray]
  .rw [List.erase_eq_eraseIdx_of_idxOf (l:=zs) (a:=zz) (w:=rfl),pJ];exact r.eraseIdx _
  .rw [A3,oH hm];rw [A3] at z;lia
theorem alh : QMt X "list.remove" uS:=⟨fun aa s Y H x xs v us Q I rx rv h=>ajE aa s Y H x xs v us Q I rx rv h⟩
theorem asa{l:ab}{zs:Am}{z:Int}(h:H l=some (.lst (zs.map V.int)))(hm:z∈zs)(q:Q .non (A0 H l (.lst ((zs.erase z).map V.int)))):uS (.ref l) [.int z] H Q:=⟨l,zs,z,rfl,rfl,h,hm,q⟩
noncomputable def rMinL:Ao->Hp->VK->Prop:=fun xs H Q=>∃ (p:ab) (ns:Am),xs=[.ref p]/\H p=some (.lst (ns.map V.int))/\ns≠[]/\∀ M:Int,M∈ns->(∀ a∈ns,M<=a)->Q (.int M) H
theorem ali(hc:X.calm=true):CallR X (.builtin "min") rMinL:=by
 intro aa s Y H xs us Q I r h;obtain ⟨p,ns,rfl,hH,G0,q⟩:=h;obtain ⟨u,rfl,ru⟩:=vals1 r
 cases ru
 obtain ⟨z,its,n,rr,hl,e⟩:=I.lstM hH;have hi:=oU rr;have hL:s.heap.IsList p its.toArray:=⟨_,e,rfl,n,rfl⟩
 obtain ⟨ys,e2⟩:=hi.allInts.items;have dE:ns=ys.toList.map (·.1):=by rw [<- hi.numsOf,<- nums_intItems,<- e2]
 have hsz:0<ys.size:=by
  have h3:=y7.mpr G0;rw [dE,A3,eP] at h3;exact h3
 rw [e2] at hL;refine min_intList (I.ok.hd hc) hL hsz fun v h' tk hv hk=>?_
 obtain ⟨t,rfl⟩:=intItems_at hv;obtain ⟨h1,h2⟩:=argBest_lt (numAt ys) (ys.size-1);refine ⟨.int _,H,I.kept hk,⟨t,rfl⟩,q _ ?_ fun a ha=>?_⟩
 .rw [dE,numAt_eq];exact getD_mem (by rw [A3,eP];lia)
 .rw [dE] at ha;obtain ⟨j,hj,rfl⟩:=mem_getD ha;rw [A3,eP] at hj;rw [<- numAt_eq];exact h2 j (by lia)
theorem asb(hc:X.calm=calm:=by rfl):QCall X (.builtin "min") (rCalm calm rMinL):=⟨fun aa s Y H xs us Q I r h=>ali (hc.trans h.1) aa s Y H xs us Q I r h.2⟩
theorem asc{p:ab} : rMinL [.ref p] H Q=∃ ns:Am,H p=some (.lst (ns.map V.int))/\ns≠[]/\∀ M:Int,M∈ns->(∀ a∈ns,M<=a)->Q (.int M) H:=
 propext ⟨fun ⟨_,ns,e,h⟩=>(by cases e;exact ⟨ns,h⟩),fun ⟨ns,h⟩=>⟨p,ns,rfl,h⟩⟩
noncomputable def iS (n:Nat) (fr:St) (Pv:Nat->Ao->Hp->Prop) (i:Nat) (ys:Ao) (σ2:St) (H2:Hp):Prop:=i<=n/\ys.length<=i/\(∃ v w,σ2=v::w::fr)/\Pv i ys H2
theorem iS.put{fr:St}{Pv:Nat->Ao->Hp->Prop}{ys:Ao}{o o2:Ap}(hi:i<n)(hy:ys.length<=i)(p:Pv (i+1) (ys++[y]) H):iS n fr Pv (i+1) (ys++[y]) (o::o2::fr) H:=
 ⟨hi,by rw [C6,V2];lia,⟨_,_,rfl⟩,p⟩
theorem compE{l:ab}{c:TT}(fr:St)(l7:compStart 2 ixs Y=none::none::fr)(Pv:ab->Nat->Ao->Hp->Prop)(h0:∀ D,H1 D=none->Pv D 0 [] (A0 H1 D (.lst [])))(hl:∀ D i ys H,H1 D=none->i<=xs.length->Pv D i ys H->H l=some (.lst xs))(hs:∀ D i x t ys H,H1 D=none->i<xs.length->xs[i]?=some x->Pv D i ys H->H D=some (.lst ys)->ys.length<=i->H t=none->c (some (.int i)::some x::fr) (A0 H t (.tup [.int i,x])) fun b H4=>
   if b=true then te (some (.int i)::some x::fr) H4 fun y H5=>H5 D=some (.lst ys)/\ys.length<ak/\iS xs.length fr (Pv D) (i+1) (ys++[y]) (some (.int i)::some x::fr) (A0 H5 D (.lst (ys++[y])))
   else H4 D=some (.lst ys)/\iS xs.length fr (Pv D) (i+1) ys (some (.int i)::some x::fr) H4)(hd:∀ D ys H,H1 D=none->Pv D xs.length ys H->H D=some (.lst ys)->ys.length<=xs.length->Q (.ref D) H):cS (lL l) 2 ixs (gTup K 2 (gCons (gName 0) (gCons (gName 1) gNil))) c te Y Q H1:=by
 intro D hD;refine ⟨xs.length,iS xs.length fr (Pv D),⟨J7 _,J7 _,⟨none,none,l7⟩,h0 D hD⟩,?_⟩;rintro i ys σ2 H2 ⟨hi,hy,⟨v,w,rfl⟩,p⟩ hDy;have q:=hl D i ys H2 hD hi p
 by_cases C4:i<xs.length
 .refine .inr ⟨C4,⟨xs,xs[i],q,by simp [C4]⟩,fun x H' y=>?_⟩;obtain ⟨t,xs',x',f1,hx,ht,rfl,rfl⟩:=y;rw [q] at f1;cases f1;exact ⟨t,_,rfl,C7.of A1,rfl,_,_,rfl,_,_,rfl,rfl,hs D i x' t ys H2 hD C4 hx p hDy hy ht⟩
 .have e:i=xs.length:=by lia
  subst e;exact .inl ⟨⟨xs,q,C1 _⟩,hd D ys H2 hD p hDy hy⟩
end L2
set_option maxRecDepth 100000
namespace L2
open PySem PySem.Spec PyProof.Rows
section
variable {X:Cx} {o value:ao} {to tv:TE} {pos tpos:aw} {st:aq} {t:TS} {h₀:ExceptHandler} {hs:List ExceptHandler}
theorem alj{f:Str}{op:Operator}{rd:V->V->Hp->VK->Prop}(ho:QE X o to)(hv:QE X value tv)(fQ:QIn X op rd)(hK:X.K=K:=by rfl):QS X (.AugAssign (.Attribute o f tpos) op value pos) (sT K to tv rd f):=by
 subst hK;exact ⟨akm ho.out hv.out fQ.out⟩
theorem alk{rd:V->V->Hp->VK->Prop}{f:Str} : sT K to tv rd f D Y H=to Y H fun x H1=>∃ a C dx fs v,x=.ref a/\H1 a=some (.ins C dx fs)/\Cls K C/\NoAttr K C f/\fs.lookup f=some v/\
 tv Y H1 fun y H2=>rd v y H2 fun z H3=>∃ dx' fs',H3 a=some (.ins C dx' fs')/\fs'.length<1000/\D.nx Y (A0 H3 a (.ins C dx' (putF f z fs'))):=rfl
theorem aqp(h:∀ XE,QS (X.wish XE) st t):QS X (.Try [st] (h₀::hs) [] [] pos) t:=⟨by
 intro aa s Y H D I hh;have key:∀ XE,wpAny (model X.prog X.w) X.A (exec st X.env) (SP (X.wish XE) aa D) XE s:=fun XE=>(h XE).out aa s Y H D (I.wish XE) hh
 refine wpAny_Try_except (cg (M0 (key _) fun f s1 z=>?_))
 cases f with
 | next=>
  obtain ⟨σ',H',I',q⟩:=z;exact ca (ca ⟨σ',H',I'.unwish,q⟩)
 | brk=>obtain ⟨σ',H',I',q⟩:=z;exact ⟨σ',H',I'.unwish,q⟩
 | cont=>obtain ⟨σ',H',I',q⟩:=z;exact ⟨σ',H',I'.unwish,q⟩
 | ret u=>obtain ⟨v,σ',H',I',r,q⟩:=z;exact ⟨v,σ',H',I'.unwish,r,q⟩⟩
end
end L2
set_option maxRecDepth 100000
namespace L2
open PySem PySem.Spec PyProof.Rows
noncomputable def rRngN:Ao->Hp->VK->Prop:=fun xs H Q=>∃ n:Int,xs=[.int n]/\∀ r,H r=none->Q (.ref r) (A0 H r (.rng 0 n))
theorem rng_r{n:Int} : rRngN [.int n] H Q=∀ r,H r=none->Q (.ref r) (A0 H r (.rng 0 n)):=propext ⟨fun ⟨_,e,h⟩=>(by cases e;exact h),fun h=>⟨n,rfl,h⟩⟩
noncomputable def asd (calm:Bool):Ao->Hp->VK->Prop:=fun xs H Q=>∃ (r:ab) (n:Int),xs=[.ref r]/\calm=true/\H r=some (.rng 0 n)/\0<=n/\n<=1000/\∀ l,H l=none->Q (.ref l) (A0 H l (.lst ((U5 n.toNat).map fun k=>V.int (k:Nat))))
theorem aqq : asd true [.ref r] H Q=∃ n:Int,H r=some (.rng 0 n)/\0<=n/\n<=1000/\∀ l,H l=none->Q (.ref l) (A0 H l (.lst ((U5 n.toNat).map fun k=>V.int (k:Nat)))):=
 propext ⟨fun ⟨_,n,e,_,h⟩=>(by cases e;exact ⟨n,h⟩),fun ⟨n,h⟩=>⟨r,n,rfl,rfl,h⟩⟩
theorem ase{p:ab}{k:Int}{v:V}{Q:Hp->Prop} : rSetL (.ref p) (.int k) v H Q=∃ xs j,H p=some (.lst xs)/\j6 xs.length k=some j/\Q (A0 H p (.lst (xs.set j v))):=
 propext ⟨fun ⟨_,xs,_,j,e1,e2,h⟩=>(by cases e1;cases e2;exact ⟨xs,j,h⟩),fun ⟨xs,j,h⟩=>⟨p,xs,k,j,rfl,rfl,h⟩⟩
end L2
set_option maxRecDepth 100000
namespace L2
open PySem PySem.Spec PyProof.Rows
noncomputable def FS (ts bad:Ab) (z:Str->Prop) (fr:Am):Prop:=fr.Nodup/\∀ n:Int,n∈fr↔∃ (m:Nat) (q:Str),n=(m:Int)/\ts[m]?=some q/\q∉bad/\z q
theorem FS.nil(z:Str->Prop):FS [] [] z []:=⟨by simp,fun n=>by simp⟩
theorem FS.snoc{z:Str->Prop}(h:FS ts bad z fr)(hi:i=ts.length)(hb:q∉bad):(z q->FS (ts++[q]) bad z (fr++[(i:Int)]))/\(¬ z q->FS (ts++[q]) bad z fr):=by
 have L3:∀ (m:Nat) (x:Str),(ts++[q])[m]?=some x↔(ts[m]?=some x\/(m=i/\x=q)):=fun m x=>by
  rcases Nat.lt_trichotomy m ts.length with hm | hm | hm
  .rw [aT hm]
   constructor
   .exact .inl
   .rintro (h | ⟨h,_⟩)
    .exact h
    .lia
  .subst hm;rw [o8 (C1 _),Nat.sub_self]
   have:ts[ts.length]?=none:=by simp
   rw [this];simp [hi,eq_comm]
  .have h1:ts[m]?=none:=by simp;lia
   have h2:(ts++[q])[m]?=none:=by simp;lia
   rw [h1,h2]
   simp
   lia
 have mJ:(i:Int)∉fr:=fun hm=>by
  obtain ⟨m,x,e,h1,_⟩:=(h.2 _).mp hm
  have:=(F8.mp h1).1
  lia
 refine ⟨fun hz=>⟨?_,fun n=>?_⟩,fun hz=>⟨h.1,fun n=>?_⟩⟩
 .rw [i9];refine ⟨h.1,by simp,fun x hx y hy e=>mJ ?_⟩;rw [<- J8.mp hy,<- e];exact hx
 .rw [J9,h.2,J8]
  constructor
  .rintro (⟨m,x,e,h1,h2,h3⟩ | rfl)
   .exact ⟨m,x,e,(L3 m x).mpr (.inl h1),h2,h3⟩
   .exact ⟨i,q,rfl,(L3 i q).mpr (.inr ⟨rfl,rfl⟩),hb,hz⟩
  .rintro ⟨m,x,e,h1,h2,h3⟩
   rcases (L3 m x).mp h1 with h1 | ⟨rfl,rfl⟩
   .exact .inl ⟨m,x,e,h1,h2,h3⟩
   .exact .inr e
 .rw [h.2]
  constructor
  .rintro ⟨m,x,e,h1,h2,h3⟩;exact ⟨m,x,e,(L3 m x).mpr (.inl h1),h2,h3⟩
  .rintro ⟨m,x,e,h1,h2,h3⟩
   rcases (L3 m x).mp h1 with h1 | ⟨rfl,rfl⟩
   .exact ⟨m,x,e,h1,h2,h3⟩
   .exact absurd h3 hz
theorem aiM(nd:ts.Nodup)(h1:ts[i]?=some q)(h2:ts[j]?=some q):i=j:=by
 obtain ⟨a1,b1⟩:=F8.mp h1;obtain ⟨a2,b2⟩:=F8.mp h2
 have:=i7.mp nd
 rw [aS] at this
 rcases Nat.lt_trichotomy i j with hl | hl | hl
 .exact absurd (b1.trans b2.symm) (this i j a1 a2 hl)
 .exact hl
 .exact absurd (b2.trans b1.symm) (this j i a2 a1 hl)
theorem FS.take{z:Str->Prop}(nd:ts.Nodup)(h:FS ts bad z fr){M:Nat}(hp:ts[M]?=some p):FS ts (bad++[p]) z (fr.erase (M:Int)):=by
 refine ⟨h.1.erase _,fun n=>?_⟩;rw [h.1.mem_erase_iff,h.2]
 constructor
 .rintro ⟨G0,m,x,e,h1,h2,h3⟩;refine ⟨m,x,e,h1,fun hm=>?_,h3⟩
  rcases J9.mp hm with hm | hm
  .exact h2 hm
  .rw [J8.mp hm] at h1;exact G0 (by rw [e,aiM nd h1 hp])
 .rintro ⟨m,x,e,h1,h2,h3⟩;refine ⟨fun e2=>h2 ?_,m,x,e,h1,fun hm=>h2 (P1 _ hm),h3⟩
  have:m=M:=by lia
  subst this;rw [hp] at h1;cases h1
  simp
theorem FS.turn{z z':Str->Prop}(nd:ts.Nodup)(h:FS ts bad z fr){y:Str}(G0:∀ q,q≠y->(z' q↔z q))(hy:¬ z y)(hm:ts[m]?=some y)(hb:y∉bad):(z' y->FS ts bad z' (fr++[(m:Int)]))/\(¬ z' y->FS ts bad z' fr):=by
 have mJ:(m:Int)∉fr:=fun h1=>by
  obtain ⟨k,x,e,h2,_,h3⟩:=(h.2 _).mp h1
  have:k=m:=by lia
  subst this;rw [hm] at h2;cases h2;exact hy h3
 have i0:∀ (k:Nat) (x:Str),ts[k]?=some x->x≠y\/(k=m/\x=y):=fun k x hk=>by
  by_cases e:x=y
  .subst e;exact .inr ⟨aiM nd hk hm,rfl⟩
  .exact .inl e
 refine ⟨fun hz=>⟨?_,fun n=>?_⟩,fun hz=>⟨h.1,fun n=>?_⟩⟩
 .rw [i9];refine ⟨h.1,by simp,fun x hx w hw e=>mJ ?_⟩;rw [<- J8.mp hw,<- e];exact hx
 .rw [J9,h.2,J8]
  constructor
  .rintro (⟨k,x,e,h1,h2,h3⟩ | rfl)
   .rcases i0 k x h1 with c | ⟨_,rfl⟩
    .exact ⟨k,x,e,h1,h2,(G0 x c).mpr h3⟩
    .exact absurd h3 hy
   .exact ⟨m,y,rfl,hm,hb,hz⟩
  .rintro ⟨k,x,e,h1,h2,h3⟩
   rcases i0 k x h1 with c | ⟨rfl,rfl⟩
   .exact .inl ⟨k,x,e,h1,h2,(G0 x c).mp h3⟩
   .exact .inr e
 .rw [h.2]
  constructor
  .rintro ⟨k,x,e,h1,h2,h3⟩
   rcases i0 k x h1 with c | ⟨_,rfl⟩
   .exact ⟨k,x,e,h1,h2,(G0 x c).mpr h3⟩
   .exact absurd h3 hy
  .rintro ⟨k,x,e,h1,h2,h3⟩
   rcases i0 k x h1 with c | ⟨_,rfl⟩
   .exact ⟨k,x,e,h1,h2,(G0 x c).mp h3⟩
   .exact absurd h3 hz
theorem FS.congr{z z':Str->Prop}(h:FS ts bad z fr)(e:∀ q,z' q↔z q):FS ts bad z' fr:=⟨h.1,fun n=>by rw [h.2];exact ⟨fun ⟨m,x,a,b,c,d⟩=>⟨m,x,a,b,c,(e x).mpr d⟩,fun ⟨m,x,a,b,c,d⟩=>⟨m,x,a,b,c,(e x).mp d⟩⟩⟩
theorem ah6{E:List (Str×Str)}(h:FS ts line (fun q=>cnt E line q=0) fr){M:Int}(hM:M∈fr)(gA:∀ a∈fr,M<=a):∃ (m:Nat) (p:Str),M=(m:Int)/\ts[m]?=some p/\nextP E ts line=some p:=by
 obtain ⟨m,p,e,h1,h2,h3⟩:=(h.2 M).mp hM;refine ⟨m,p,e,h1,?_⟩;rw [afA];obtain ⟨hm,rfl⟩:=F8.mp h1;have e1:ts=ts.take m++ts[m]::ts.drop (m+1):=by rw [<- aU hm,c9]
 generalize hP:(fun p=>!decide (p∈line)&&decide (∀ e∈E,e.2=p->e.1∈line))=P;have hp:P ts[m]=true:=by
  rw [<- hP];simp only [V3,kL,decide_eq_false_iff_not,decide_eq_true_eq];exact ⟨h2,cnt_zero.mp h3⟩
 have mZ:(ts.take m).find? P=none:=by
  rw [List.find?_eq_none];intro x hx hxP;obtain ⟨k,hk,rfl⟩:=X7.mp hx;rw [G9] at hk;rw [List.getElem_take,<- hP] at hxP;simp only [V3,kL,decide_eq_false_iff_not,decide_eq_true_eq] at hxP
  have:=gA (k:Int) ((h.2 _).mpr ⟨k,ts[k],rfl,by simp,hxP.1,cnt_zero.mpr hxP.2⟩)
  lia
 conv=>lhs;rw [e1]
 rw [List.find?_append,mZ,z0,hp];rfl
theorem anb{E:List (Str×Str)}(r:V5 E ts line)(h:q∈line):cnt E line q=0:=by
 obtain ⟨pre,post,rfl⟩:=List.append_of_mem h
 have:=(iN (r pre q post rfl)).2.2
 rw [cnt_zero] at this ⊢
 intro e he h2;exact P1 _ (this e he h2)
theorem ag7{f:Str->V} : ∀ {ts pre:Ab},(pre++ts).Nodup->Y3 (A8 pre f) (A8 ts f)=A8 (pre++ts) f
 | [],pre,_=>by rw [L5];rfl
 | t::ts,pre,h=>by
  have ht:t∉pre:=fun hm=>(i9.mp h).2.2 t hm t G3 rfl
  show Y3 (putK (A8 pre f) (Sum.inr t) (f t)) (A8 ts f)=_;rw [u6 _ ht,show A8 (pre++[t]) (fun x=>if x=t then f t else f x)=A8 (pre++[t]) f from T0 fun x _=>by
   by_cases e:x=t
   .rw [if_pos e,e]
   .rw [if_neg e]]
  rw [ag7 (pre:=pre++[t]) (by simpa using h)]
  simp
theorem afD:∀ {l m:Am},l.Nodup->(∀ x∈l,x∈m)->l.length<=m.length
 | [],_,_,_=>J7 _
 | x::l,m,nd,h=>by
  obtain ⟨n1,n2⟩:=T6.mp nd;have hx:=h x G3
  have:=afD (l:=l) (m:=m.erase x) n2 fun y hy=>(List.mem_erase_of_ne (fun e=>n1 (by rw [<- e];exact hy))).mpr (h y (G6 _ hy))
  rw [oH hx] at this;have U1:=List.length_pos_of_mem hx;rw [E5];lia
theorem aiN{f:Str->V} : ∀ {qs:Ai} {ts:Ab},Paired (fun q t=>H q=some (.tup [.str t,f t])) qs ts->Paired (fun q (kx:B1×V)=>C7 K H q [kV kx.1,kx.2]) qs (A8 ts f)
 | _,_,.nil=>.nil
 | _,_,.cons h t=>.cons (.of h) (aiN t)
theorem forRs{g:TG}(Pv:Nat->Ar)(h0:Pv 0 Y H)(hs:∀ (P':Nat->Ar) (B':Ar),(∀ i Y H,Pv i Y H->P' i Y H)->∀ i Y H,i<n->Pv i Y H->g (.int (lo+i)) Y H fun σ2 H2=>tb { D with nx:=P' (i+1),ct:=P' (i+1),bk:=B' } σ2 H2)(hd:∀ Y H,Pv n Y H->D.nx Y H):ForIt (s0 lo n) g tb D Y H:=forR Pv h0 (hs Pv _ fun _ _ _ h=>h) hd
theorem forLs{g:TG}(Pv:Nat->Ar)(h0:Pv 0 Y H)(hl:∀ i Y H,i<=xs.length->Pv i Y H->D9 K H a xs)(hs:∀ (P':Nat->Ar) (B':Ar),(∀ i Y H,Pv i Y H->P' i Y H)->∀ i x Y H,xs[i]?=some x->Pv i Y H->g x Y H fun σ2 H2=>tb { D with nx:=P' (i+1),ct:=P' (i+1),bk:=B' } σ2 H2)(hd:∀ Y H,Pv xs.length Y H->D.nx Y H):ForIt (aD K a) g tb D Y H:=forL Pv h0 hl (hs Pv _ fun _ _ _ h=>h) hd
theorem midS{t u:TS}(M:Ar)(h:∀ M':Ar,(∀ Y H,M Y H->M' Y H)->t { D with nx:=M' } Y H)(h2:∀ σ' H',M σ' H'->u D σ' H'):tSeqM t u D Y H:=⟨M,h M fun _ _ h=>h,h2⟩
noncomputable def anN:Sp:=fun vs H Q _=>∃ (a:ab) (rs:Ai) (zss:Aa),vs=[.ref a]/\IsRows H a rs zss/\zss.flatten.length<=100000/\
 ∀ l H',H l=none->Same H H'->H' l=some (.lst ((toldL zss).map V.str))->Q (.ref l) H'
noncomputable def iT:Sp:=fun vs H Q _=>∃ c,vs=[.str ⟨#[c]⟩]/\Q (.bl (figO c)) H
noncomputable def N1 (R:Aq):List (Str×Ab):=R.filterMap fun z=>if z.1=("great" : Str) then z.2.head?.map fun y=>(y,z.2.drop 1) else none
noncomputable def F7 (R:Aq):Ab:=G7 [] ((N1 R).map (·.1))
noncomputable def K0 (R:Aq) (y:Str):Ab:=((N1 R).filter fun e=>decide (e.1=y)).flatMap (·.2)
theorem pR(A B:Aq):N1 (A++B)=N1 A++N1 B:=by
 unfold N1;rw [oJ]
theorem uT{R:Aq}{z:Rl}(h:R[i]?=some z):N1 (R.take (i+1))=N1 (R.take i)++N1 [z]:=by
 rw [L0 h,pR]
theorem pS{z:Rl}(h:z.1≠("great" : Str)):N1 [z]=[]:=by
 unfold N1;rw [p5,if_neg h];rfl
theorem uU{y:Str}{fs:Ab} : N1 [(("great" : Str),y::fs)]=[(y,fs)]:=by
 unfold N1;rw [p5,if_pos rfl];rfl
theorem uV{A:Aq}{y:Str}{fs:Ab}(x:Str):K0 (A++[(("great" : Str),y::fs)]) x=if x=y then K0 A x++fs else K0 A x:=by
 unfold K0;rw [pR,uU,Q0,y8]
 by_cases h:x=y
 .subst h;simp
 .have:¬ (y=x):=fun e=>h e.symm
  simp [this,h]
theorem pT{A:Aq}{y:Str}{fs:Ab} : F7 (A++[(("great" : Str),y::fs)])=dd (F7 A) y:=by
 unfold F7 G7;rw [pR,uU,D0,Z0];rfl
noncomputable def aiO (K:aj):Sp:=fun vs H Q _=>∃ (a:ab) (ts:Ai) (R:Aq),vs=[.ref a]/\IsRules H a ts R/\(∀ z∈R,z.1=("great" : Str)->z.2≠[])/\R.length<=1000/\(∀ i y,(K0 (R.take i) y).length<=10000)/\
 ∀ d ad H',H d=none->Same H H'->H' d=some (.dK (A8 (F7 R) fun y=>.ref (ad y)))->DL H H' (F7 R) ad (K0 R)->Q (.ref d) H'
theorem uW(xs:Ao)(h:i<=j):cutV xs (some (i:Int)) (some (j:Int))=(xs.drop i).take (j-i):=by
 unfold cutV;rw [HT.sIx_nat,HT.sIx_nat]
 by_cases hi:i<=xs.length
 .rw [eN hi]
  by_cases hj:j<=xs.length
  .rw [eN hj]
  .rw [Nat.min_eq_right (by lia),i8 (by rw [Z2];exact C1 _),i8 (by rw [Z2];lia)]
 .rw [Nat.min_eq_right (by lia:xs.length<=i),kD (C1 _),kD (by lia),List.take_nil,List.take_nil]
structure Used(ks:Ab)(g:Str->V)(z:Rl):Prop where
 gr:z.1=("great" : Str)->∀ p∈z.2.take 1,p∈ks/\g p=.str "letter"
 a1:z.1=("as" : Str)->∀ p∈(z.2.drop 1).take 1,p∈ks/\g p=.str "letter"
 a2:z.1=("as" : Str)->∀ p∈z.2.drop 2,p∈ks/\(g p=.str "letter"\/g p=.str "mark")
noncomputable def anO (K:aj):Sp:=fun vs H Q _=>∃ (t d:ab) (z:Rl) (ks:Ab) (g:Str->V),vs=[.ref t,.ref d]/\H t=some (tupR z)/\H d=some (.dK (A8 ks g))/\Used ks g z/\z.2.length<=1000/\∀ p H',H p=none->Same H H'->H' p=some (.lst [])->Q (.ref p) H'
noncomputable def aiP (K:aj):Sp:=fun vs H Q _=>∃ (a d:ab) (ts:Ai) (R:Aq) (ks:Ab) (g:Str->V),vs=[.ref a,.ref d]/\IsRules H a ts R/\H d=some (.dK (A8 ks g))/\(∀ z∈R,Used ks g z/\z.2.length<=1000)/\∀ H',Same H H'->Q .non H'
noncomputable abbrev Tr:=Int×Int×Int
noncomputable def tupT (s:Tr):HO:=.tup [.int s.1,.int s.2.1,.int s.2.2]
structure StepAt(H:Hp)(r:ab)(ss:List Tr):Prop where
 ex:∃ ts:Ai,H r=some (.tup (ts.map V.ref))/\Paired (fun t s=>H t=some (tupT s)) ts ss
theorem StepAt.same{ss:List Tr}(h:StepAt H r ss)(S:Same H H'):StepAt H' r ss:=
 let ⟨ts,h1,h2⟩:=h.ex
 ⟨ts,S _ _ h1,L7 h2 fun _ _ e=>S _ _ e⟩
theorem StepAt.put{d:ab}{ss:List Tr}{o o':HO}(h:StepAt H r ss)(hd:H d=some o')(hn:∀ xs,o'≠.tup xs):StepAt (A0 H d o) r ss:=by
 obtain ⟨ts,h1,h2⟩:=h.ex;refine ⟨ts,?_,L7 h2 fun t s e=>?_⟩
 .rw [A4 (fun e=>by rw [e,hd] at h1;exact hn _ (bh h1))];exact h1
 .rw [A4 (fun q=>by rw [q,hd] at e;exact hn _ (bh e))];exact e
theorem StepAt.one{t:ab}{s:Tr}(h1:H r=some (.tup [.ref t]))(h2:H t=some (tupT s)):StepAt H r [s]:=⟨[t],h1,.cons h2 .nil⟩
noncomputable def IsMade (H:Hp) (d:ab) (ks:Ab) (F:Str->List Tr):Prop:=∃ ad:Al,H d=some (.dK (A8 ks fun y=>.ref (ad y)))/\∀ y∈ks,StepAt H (ad y) (F y)
theorem IsMade.same{d:ab}{F:Str->List Tr}(h:IsMade H d ks F)(S:Same H H'):IsMade H' d ks F:=
 let ⟨ad,h1,h2⟩:=h
 ⟨ad,S _ _ h1,fun y hy=>(h2 y hy).same S⟩
theorem IsMade.put{d:ab}{F:Str->List Tr}{ad:Al}(h1:H d=some (.dK (A8 ks fun y=>.ref (ad y))))(h2:∀ y∈ks,StepAt H (ad y) (F y)){l:Str}{p:ab}(hp:StepAt H p (F l)) :
  IsMade (A0 H d (.dK (putK (A8 ks fun y=>.ref (ad y)) (Sum.inr l) (.ref p)))) d (dd ks l) F:=by
 refine ⟨fun y=>if y=l then p else ad y,?_,fun y hy=>?_⟩
 .rw [A1];have e:∀ t,(if t=l then V.ref p else V.ref (ad t))=V.ref (if t=l then p else ad t):=fun t=>by
   by_cases h:t=l
   .rw [if_pos h,if_pos h]
   .rw [if_neg h,if_neg h]
  unfold dd
  by_cases hl:l∈ks
  .rw [if_pos hl,pL _ hl];exact congrArg (fun x=>some (HO.dK x)) (T0 fun t _=>e t)
  .rw [if_neg hl,u6 _ hl];exact congrArg (fun x=>some (HO.dK x)) (T0 fun t _=>e t)
 .by_cases h:y=l
  .subst h;show StepAt _ (if y=y then p else ad y) _;rw [if_pos rfl];exact hp.put h1 (by intro xs e;cases e)
  .show StepAt _ (if y=l then p else ad y) _;rw [if_neg h];refine (h2 y ?_).put h1 (by intro xs e;cases e);unfold dd at hy
   by_cases hl:l∈ks
   .rw [if_pos hl] at hy;exact hy
   .rw [if_neg hl] at hy
    rcases J9.mp hy with q | q
    .exact q
    .exact absurd (J8.mp q) h
structure StI(H H2:Hp)(d:ab)(P:Ab)(F:Str->List Tr):Prop where
 same:Same H H2
 made:IsMade H2 d (G7 [] P) F
theorem anc(P:Ab)(x:Str):G7 [] (P++[x])=dd (G7 [] P) x:=by
 unfold G7;rw [Z0];rfl
theorem StI.putX{d:ab}{P:Ab}{F:Str->List Tr}(nd:H d=none)(h:StI H H2 d P F)(hP:P.length<100000){l:Str}{p:ab}(hp:StepAt H2 p (F l)) :
  ∃ kvs o,H2 d=some (.dK kvs)/\DPut H2 d (V.str l) (V.ref p) (A0 H2 d o)/\StI H (A0 H2 d o) d (P++[l]) F:=by
 obtain ⟨ad,h1,h2⟩:=h.made;have hl:=eX P [];rw [P9,Nat.zero_add] at hl;refine ⟨_,_,h1,j8 (k:=Sum.inr l) h1 (by rw [b0];exact G4 (by lia)),h.same.put nd,?_⟩;rw [anc];exact IsMade.put h1 h2 hp
theorem StI.put{d:ab}{P:Ab}{F:Str->List Tr}(nd:H d=none)(h:StI H H2 d P F)(hP:P.length<100000){l:Str}{p:ab}(hp:StepAt H2 p (F l)) :
  ∃ x,DPut H2 d (V.str l) (V.ref p) x/\StI H x d (P++[l]) F:=
 let ⟨_,_,_,h1,h2⟩:=h.putX nd hP hp
 ⟨_,h1,h2⟩
theorem StI.more{d:ab}{P:Ab}{F:Str->List Tr}(h:StI H H2 d P F)(S:Same H2 H3):StI H H3 d P F:=⟨h.same.trans S,h.made.same S⟩
theorem StI.frz{d:ab}{P:Ab}{F:Str->List Tr}{o:HO}(h:StI H H2 d P F)(hf:H2 f=some (.dK kvs))(n:H f=none)(nf:f≠d):StI H (A0 H2 f o) d P F:=
 let ⟨ad,h1,h2⟩:=h.made
 ⟨h.same.put n,ad,by rw [A4 nf.symm];exact h1,fun y hy=>(h2 y hy).put hf (by intro xs e;cases e)⟩
theorem StI.thaw{d:ab}{P:Ab}{F:Str->List Tr}{q:Obj}{o o':HO}(h:StI H H2 d P F)(hf:H2 f=some (.frz q o'))(n:H f=none)(nf:f≠d):StI H (A0 H2 f o) d P F:=
 let ⟨ad,h1,h2⟩:=h.made
 ⟨h.same.put n,ad,by rw [A4 nf.symm];exact h1,fun y hy=>(h2 y hy).put hf (by intro xs e;cases e)⟩
structure FoI(H H2:Hp)(d f:ab)(o:Obj)(ts:Ab)(af:Al)(G:Str->Ab)(P:Ab)(F:Str->List Tr):Prop where
 frz:H2 f=some (.frz o (.dK (A8 ts fun y=>.ref (af y))))
 rows:∀ y∈ts,H2 (af y)=some (.lst ((G y).map V.str))
 st:StI H H2 d P F
theorem FoI.more{d:ab}{af:Al}{G:Str->Ab}{P:Ab}{F:Str->List Tr}(h:FoI H H2 d f o ts af G P F)(S:Same H2 H3):FoI H H3 d f o ts af G P F:=⟨S _ _ h.frz,fun y hy=>S _ _ (h.rows y hy),h.st.more S⟩
theorem FoI.put{d:ab}{af:Al}{G:Str->Ab}{P:Ab}{F:Str->List Tr}(nd:H d=none)(h:FoI H H2 d f o ts af G P F)(hP:P.length<100000){l:Str}{p:ab}(hp:StepAt H2 p (F l)) :
  ∃ x,DPut H2 d (V.str l) (V.ref p) x/\FoI H x d f o ts af G (P++[l]) F:=by
 obtain ⟨kvs,o',h0,h1,h2⟩:=h.st.putX nd hP hp;refine ⟨_,h1,?_,fun y hy=>?_,h2⟩
 .rw [A4 (fun e=>by have:=h.frz;rw [e,h0] at this;cases this)];exact h.frz
 .rw [A4 (fun e=>by have:=h.rows y hy;rw [e,h0] at this;cases this)];exact h.rows y hy
theorem StI.putL{d:ab}{P:Ab}{F:Str->List Tr}{o:HO}(h:StI H H2 d P F)(hf:H2 f=some (.lst xs))(n:H f=none):StI H (A0 H2 f o) d P F:=
 let ⟨ad,h1,h2⟩:=h.made
 ⟨h.same.put n,ad,by rw [A4 (fun e=>by rw [e,hf] at h1;cases h1)];exact h1,fun y hy=>(h2 y hy).put hf (by intro xs e;cases e)⟩
structure AsI(H H7 H2:Hp)(d:ab)(P:Ab)(F:Str->List Tr)(ts:Ai)(ss:List Tr):Prop where
 st:StI H H2 d P F
 pr:Paired (fun t s=>H2 t=some (tupT s)) ts ss
 sm:Same H7 H2
theorem AsI.putL{H7:Hp}{d:ab}{P:Ab}{F:Str->List Tr}{ts:Ai}{ss:List Tr}{o:HO}(h:AsI H H7 H2 d P F ts ss)(hf:H2 f=some (.lst xs))(n:H f=none)(n7:H7 f=none):AsI H H7 (A0 H2 f o) d P F ts ss:=
 ⟨h.st.putL hf n,L7 h.pr fun t s e=>by rw [A4 (fun q=>by rw [q,hf] at e;cases e)];exact e,h.sm.put n7⟩
noncomputable def asKs (R:Aq):Ab:=R.filterMap fun z=>if z.1=("as" : Str) then z.2.head? else none
theorem ag8{R:Aq}{z:Rl}(h:R[i]?=some z):asKs (R.take (i+1))=asKs (R.take i)++asKs [z]:=by
 rw [L0 h];unfold asKs;rw [oJ]
theorem alm{z:Rl}(h:z.1≠("as" : Str)):asKs [z]=[]:=by
 unfold asKs;rw [p5,if_neg h];rfl
theorem aiQ{y:Str}{fs:Ab} : asKs [(("as" : Str),y::fs)]=[y]:=by
 unfold asKs;rw [p5,if_pos rfl];rfl
theorem ane(R:Aq):(asKs R).length<=R.length:=kC _ _
structure Made(R:Aq)(L M:Ab)(F:Str->List Tr):Prop where
 lt:∀ (i:Nat) y,L[i]?=some y->F y=[(2,(i:Int),0)]
 mr:∀ (i:Nat) y,M[i]?=some y->F y=[(0,(i:Int),0)]
 gl:∀ y∈F7 R,y∈L
 gr:∀ y∈F7 R,∀ (c:Nat) f,(K0 R y)[c]?=some f->F f=[(2,(L.idxOf y:Int),((c+1:Nat):Int))]
 ne:∀ z∈R,z.1=("as" : Str)\/z.1=("great" : Str)->z.2≠[]
 pt:∀ z∈R,z.1=("as" : Str)->∀ q∈z.2.drop 1,q∈L\/q∈M
 as:∀ z∈R,z.1=("as" : Str)->∀ p qs,z.2=p::qs->F p=qs.map fun q=>(F q).headD (0,0,0)
noncomputable def allKs (R:Aq) (L M:Ab):Ab:=L++M++(F7 R).flatMap (K0 R)++asKs R
theorem Made.base{R:Aq}{F:Str->List Tr}(m:Made R L M F)(h:q∈L\/q∈M):∃ s,F q=[s]:=by
 rcases h with h | h
 .obtain ⟨i,hi,e⟩:=X7.mp h;exact ⟨_,m.lt i q (by rw [L6 hi,e])⟩
 .obtain ⟨i,hi,e⟩:=X7.mp h;exact ⟨_,m.mr i q (by rw [L6 hi,e])⟩
theorem Made.letter{R:Aq}{F:Str->List Tr}(m:Made R L M F)(h:q∈L):F q=[(2,(L.idxOf q:Int),0)]:=by
 have hi:=cC.mpr h;exact m.lt (L.idxOf q) q (by rw [L6 hi,eJ])
noncomputable def aiR (K:aj):Sp:=fun vs H Q _=>∃ (a b c:ab) (ts:Ai) (R:Aq) (L M:Ab) (F:Str->List Tr),vs=[.ref a,.ref b,.ref c]/\IsRules H a ts R/\Made R L M F/\H b=some (.lst (L.map V.str))/\H c=some (.lst (M.map V.str))/\(∀ z∈R,z.2.length<=1000)/\R.length<=1000/\(∀ i y,(K0 (R.take i) y).length<=10000)/\(allKs R L M).length<=50000/\
 ∀ d H',H d=none->Same H H'->IsMade H' d (G7 [] (allKs R L M)) F->Q (.ref d) H'
noncomputable def baseT (L M:Ab) (q:Str):Tr:=if q∈L then (2,(L.idxOf q:Int),0) else (0,(M.idxOf q:Int),0)
noncomputable def pU (L M:Ab) (R:Aq):List (Str×List Tr):=R.filterMap fun z=>if z.1=("as" : Str) then z.2.head?.map fun p=>(p,(z.2.drop 1).map (baseT L M)) else none
noncomputable def putsL (R:Aq) (L M:Ab):List (Str×List Tr):=
 (L.zipIdx.map fun e=>(e.1,[((2:Int),(e.2:Int),(0:Int))]))++(M.zipIdx.map fun e=>(e.1,[((0:Int),(e.2:Int),(0:Int))]))++((F7 R).flatMap fun y=>(K0 R y).zipIdx.map fun e=>(e.1,[((2:Int),(L.idxOf y:Int),((e.2+1:Nat):Int))]))++pU L M R
noncomputable def stepF (R:Aq) (L M:Ab) (p:Str):List Tr:=((putsL R L M).lookup p).getD []
theorem aln{s:List Tr} : ∀ {l:List (Str×List Tr)},(l.map (·.1)).Nodup->(p,s)∈l->l.lookup p=some s
 | [],_,h=>by cases h
 | (y,t)::l,nd,h=>by
  rw [E2,T6] at nd;rw [List.lookup_cons]
  rcases D8.mp h with h | h
  .obtain ⟨rfl,rfl⟩:=Prod.mk.inj h
   simp
  .have:p≠y:=fun e=>nd.1 (E9.mpr ⟨_,h,e⟩)
   have e:(p==y)=false:=by simpa using this
   rw [e];exact aln nd.2 h
theorem ag9(R:Aq)(L M:Ab):(putsL R L M).map (·.1)=allKs R L M:=by
 have z:∀ (l:Ab) (f:Nat->List Tr),(l.zipIdx.map fun e=>(e.1,f e.2)).map (·.1)=l:=fun l f=>by
  rw [j3];exact List.zipIdx_map_fst 0 l
 have a:(pU L M R).map (·.1)=asKs R:=by
  unfold pU asKs;rw [List.map_filterMap]
  congr 1
  funext z
  by_cases h:z.1=("as" : Str)
  .rw [if_pos h,if_pos h]
   cases z.2 <;> rfl
  .rw [if_neg h,if_neg h];rfl
 unfold putsL allKs;rw [D0,D0,D0,z L fun i=>[(2,(i:Int),0)],z M fun i=>[(0,(i:Int),0)],a,List.map_flatMap]
 congr 2
 congr 1
 funext y
 exact z (K0 R y) fun i=>[(2,(L.idxOf y:Int),((i+1:Nat):Int))]
theorem iU{R:Aq}(nd:(allKs R L M).Nodup){s:List Tr}(h:(p,s)∈putsL R L M):stepF R L M p=s:=by
 unfold stepF;rw [aln (by rw [ag9];exact nd) h];rfl
theorem aqr{R:Aq}(nd:(allKs R L M).Nodup)(gl:∀ y∈F7 R,y∈L)(ne:∀ z∈R,z.1=("as" : Str)\/z.1=("great" : Str)->z.2≠[])(pt:∀ z∈R,z.1=("as" : Str)->∀ q∈z.2.drop 1,q∈L\/q∈M):Made R L M (stepF R L M):=by
 have m1:∀ (i:Nat) y,L[i]?=some y->(y,[((2:Int),(i:Int),(0:Int))])∈putsL R L M:=fun i y h=>by
  refine P1 _ (P1 _ (P1 _ (E9.mpr ⟨(y,i),?_,rfl⟩)));rw [List.mem_zipIdx_iff_getElem?];exact h
 have m2:∀ (i:Nat) y,M[i]?=some y->(y,[((0:Int),(i:Int),(0:Int))])∈putsL R L M:=fun i y h=>by
  refine P1 _ (P1 _ (Q7 _ (E9.mpr ⟨(y,i),?_,rfl⟩)));rw [List.mem_zipIdx_iff_getElem?];exact h
 have hb:∀ q,q∈L\/q∈M->stepF R L M q=[baseT L M q]:=fun q hq=>by
  unfold baseT
  by_cases h:q∈L
  .rw [if_pos h];have hi:=cC.mpr h;exact iU nd (m1 (L.idxOf q) q (by rw [L6 hi,eJ]))
  .rw [if_neg h];have hm:=hq.resolve_left h;have hi:=cC.mpr hm;exact iU nd (m2 (M.idxOf q) q (by rw [L6 hi,eJ]))
 refine ⟨fun i y h=>iU nd (m1 i y h),fun i y h=>iU nd (m2 i y h),gl,fun y hy c f h=>iU nd ?_,ne,pt,fun z hz e p qs ez=>?_⟩
 .refine P1 _ (Q7 _ (Z1.mpr ⟨y,hy,E9.mpr ⟨(f,c),?_,rfl⟩⟩));rw [List.mem_zipIdx_iff_getElem?];exact h
 .have:(p,qs.map (baseT L M))∈putsL R L M:=Q7 _ (eI.mpr ⟨z,hz,by rw [if_pos e,ez];rfl⟩)
  rw [iU nd this];refine kH fun q hq=>?_
  rw [hb q (pt z hz e q (by rw [ez];exact hq))];rfl
theorem aqs{g:Str->Str}{PL:List (Str×Str)}(nc:NC fg g PL):PL.Pairwise fun a b=>a.1=b.1->b.2∈lO:=by
 rw [aS];intro i j hi hj qV e;refine (nc j PL[j].1 PL[j].2 (by rw [L6 hj])).2.1 ?_;rw [<- e];refine E9.mpr ⟨PL[i],?_,rfl⟩;rw [List.mem_take_iff_getElem];exact ⟨i,by lia,rfl⟩
theorem lS{g:Str->Str}{PL:List (Str×Str)}(nc:NC fg g PL){j:Str}(h:(p,j)∈PL):g p=j:=by
 obtain ⟨i,hi,e⟩:=X7.mp h;exact (nc i p j (by rw [L6 hi,e])).1.symm
theorem alo{g:Str->Str}{PL:List (Str×Str)}(nc:NC fg g PL){j:Str}(hj:j∉lO):((PL.filter fun e=>decide (e.2=j)).map (·.1)).Nodup:=by
 rw [i7,List.pairwise_map];refine List.Pairwise.imp_of_mem ?_ ((aqs nc).filter _);intro a b _ hb h e
 have:=h e
 have nA:b.2=j:=by simpa using (N5.mp hb).2
 rw [nA] at this;exact hj this
theorem pV{w:Str}(h:fF w):(jobD w=("great" : Str)↔w="great")/\(jobD w=("as" : Str)↔w="as")/\(jobD w=("letter" : Str)↔w="row")/\(jobD w=("mark" : Str)↔w="marks")/\(jobD w=("over" : Str)↔w="over"):=by
 rcases h with rfl | rfl | rfl | rfl | rfl <;> decide +kernel
theorem ahb{R:Aq}{j:Str} : (p,j)∈E3 R↔∃ z∈R,p∈M8 z/\jobD z.1=j:=by
 unfold E3;rw [Z1]
 constructor
 .rintro ⟨z,hz,h⟩;obtain ⟨q,hq,e⟩:=E9.mp h;obtain ⟨rfl,rfl⟩:=Prod.mk.inj e;exact ⟨z,hz,hq,rfl⟩
 .rintro ⟨z,hz,hp,rfl⟩;exact ⟨z,hz,E9.mpr ⟨p,hp,rfl⟩⟩
theorem afF(z:Rl)(R:Aq):E3 (z::R)=((M8 z).map fun p=>(p,jobD z.1))++E3 R:=by
 unfold E3;rw [W6]
theorem iV{z:Rl} : (z.1=("great" : Str)->M8 z=z.2.drop 1)/\(z.1=("as" : Str)->M8 z=z.2.take 1)/\(z.1=("row" : Str)\/z.1=("marks" : Str)\/z.1=("over" : Str)->M8 z=z.2):=by
 unfold M8;refine ⟨fun h=>by rw [if_pos h],fun h=>?_,fun h=>?_⟩
 .rw [if_neg (by rw [h];decide +kernel),if_pos h]
 .rw [if_neg,if_neg,if_pos h]
  .rcases h with h | h | h <;> rw [h] <;> decide +kernel
  .rcases h with h | h | h <;> rw [h] <;> decide +kernel
theorem lT:∀ R:Aq,((E3 R).filter fun e=>decide (e.2=("great" : Str))).map (·.1)=(N1 R).flatMap (·.2)
 | []=>rfl
 | z::R=>by
  rw [afF,Q0,D0,lT R];have e:N1 (z::R)=N1 [z]++N1 R:=pR [z] R;rw [e,y8]
  congr 1
  by_cases h:z.1=("great" : Str)
  .obtain ⟨w,ps⟩:=z;obtain rfl:w=("great" : Str):=h;rw [iV.1 rfl,gQ.mpr,j3]
   .cases ps with
    | nil=>simp [N1]
    | cons y fs=>
     rw [uU];show List.map _ fs=_;simp [Function.comp_def]
   .intro a ha;obtain ⟨q,_,rfl⟩:=E9.mp ha;exact decide_eq_true (show jobD "great"=("great" : Str) by decide +kernel)
  .rw [pS h,p0.mpr]
   .rfl
   .intro a ha;obtain ⟨q,hq,rfl⟩:=E9.mp ha
    have:=(pV (lQ hq)).1
    simp only [decide_eq_true_eq];exact fun e=>h (this.mp e)
theorem pW:∀ R:Aq,((E3 R).filter fun e=>decide (e.2=("as" : Str))).map (·.1)=asKs R
 | []=>rfl
 | z::R=>by
  rw [afF,Q0,D0,pW R];have e:asKs (z::R)=asKs [z]++asKs R:=by unfold asKs;rw [<- oJ];rfl
  rw [e]
  congr 1
  by_cases h:z.1=("as" : Str)
  .obtain ⟨w,ps⟩:=z;obtain rfl:w=("as" : Str):=h;rw [iV.2.1 rfl,gQ.mpr,j3]
   .cases ps with
    | nil=>simp [asKs]
    | cons y fs=>
     rw [aiQ];rfl
   .intro a ha;obtain ⟨q,_,rfl⟩:=E9.mp ha;exact decide_eq_true (show jobD "as"=("as" : Str) by decide +kernel)
  .rw [alm h,p0.mpr]
   .rfl
   .intro a ha;obtain ⟨q,hq,rfl⟩:=E9.mp ha
    have:=(pV (lQ hq)).2.1
    simp only [decide_eq_true_eq];exact fun e=>h (this.mp e)
theorem ahc{R:Aq}{w:Str} : p∈(rowsW R w).flatten↔∃ z∈R,z.1=w/\p∈z.2:=by
 unfold rowsW;rw [kK]
 constructor
 .rintro ⟨l,hl,hp⟩;obtain ⟨z,hz,rfl⟩:=E9.mp hl;obtain ⟨h1,h2⟩:=N5.mp hz;exact ⟨z,h1,by simpa using h2,hp⟩
 .rintro ⟨z,hz,e,hp⟩;exact ⟨z.2,E9.mpr ⟨z,N5.mpr ⟨hz,by simpa using e⟩,rfl⟩,hp⟩
theorem mem_letter{R:Aq} : (p,("letter" : Str))∈E3 R↔p∈(rowsW R "row").flatten:=by
 rw [ahb,ahc]
 constructor
 .rintro ⟨z,hz,hp,e⟩
  have:=(pV (lQ hp)).2.2.1.mp e
  exact ⟨z,hz,this,by rw [iV.2.2 (.inl this)] at hp;exact hp⟩
 .rintro ⟨z,hz,e,hp⟩;exact ⟨z,hz,by rw [iV.2.2 (.inl e)];exact hp,by rw [e];decide +kernel⟩
theorem mem_mark{R:Aq} : (p,("mark" : Str))∈E3 R↔p∈(rowsW R "marks").flatten:=by
 rw [ahb,ahc]
 constructor
 .rintro ⟨z,hz,hp,e⟩
  have:=(pV (lQ hp)).2.2.2.1.mp e
  exact ⟨z,hz,this,by rw [iV.2.2 (.inr (.inl this))] at hp;exact hp⟩
 .rintro ⟨z,hz,e,hp⟩;exact ⟨z,hz,by rw [iV.2.2 (.inr (.inl e))];exact hp,by rw [e];decide +kernel⟩
theorem uX{zss:Aa} : p∈toldL zss↔p∈zss.flatten:=by
 unfold toldL;rw [pE,u7]
 simp
theorem cZ{R:Aq}{w:Str}(h:Y7 R w L) : p∈L↔p∈(rowsW R w).flatten:=by
 rw [<- uX];exact ⟨h.1.sub,h.2 p⟩
structure GoodR(g:Str->Str)(r1 r2:Str->Nat)(R:Aq):Prop where
 len:R.length<=1000
 plen:(E3 R).length<=10000
 nc:NC (hasW R "figures") g (E3 R)
 nb:(" " : Str)∉(E3 R).map (·.1)
 zl:∀ z∈R,z.2.length<=1000
 ne:∀ z∈R,z.1=("as" : Str)\/z.1=("great" : Str)->z.2≠[]
 gl:∀ z∈R,z.1=("great" : Str)->∀ p∈z.2.take 1,(p,("letter" : Str))∈E3 R
 al:∀ z∈R,z.1=("as" : Str)->∀ p∈(z.2.drop 1).take 1,(p,("letter" : Str))∈E3 R
 am:∀ z∈R,z.1=("as" : Str)->∀ p∈z.2.drop 2,(p,("letter" : Str))∈E3 R\/(p,("mark" : Str))∈E3 R
 f1:(rowsW R "row").flatten.length<=10000
 f2:(rowsW R "marks").flatten.length<=10000
 a1:∀ e∈edges (rowsW R "row"),r1 e.1<r1 e.2
 a2:∀ e∈edges (rowsW R "marks"),r2 e.1<r2 e.2
theorem GoodR.job{g:Str->Str}{r1 r2:Str->Nat}{R:Aq}(h:GoodR g r1 r2 R){j:Str}(hp:(p,j)∈E3 R):p∈keysP (E3 R)++k4 R/\jobG g p=.str j:=by
 have hm:p∈(E3 R).map (·.1):=E9.mpr ⟨_,hp,rfl⟩;refine ⟨P1 _ ((lP _ _).mpr hm),?_⟩;unfold jobG;rw [if_neg (fun e=>h.nb (by rw [<- e];exact hm)),lS h.nc hp]
theorem GoodR.used{g:Str->Str}{r1 r2:Str->Nat}{R:Aq}(h:GoodR g r1 r2 R){z:Rl}(hz:z∈R):Used (keysP (E3 R)++k4 R) (jobG g) z:=
 ⟨fun e p hp=>h.job (h.gl z hz e p hp),fun e p hp=>h.job (h.al z hz e p hp),fun e p hp=>(h.am z hz e p hp).elim (fun q=>⟨(h.job q).1,.inl (h.job q).2⟩) fun q=>⟨(h.job q).1,.inr (h.job q).2⟩⟩
theorem forms_mem{R:Aq}{y f:Str} : f∈K0 R y↔∃ e∈N1 R,e.1=y/\f∈e.2:=by
 unfold K0;rw [Z1]
 constructor
 .rintro ⟨e,he,hf⟩;obtain ⟨h1,h2⟩:=N5.mp he;exact ⟨e,h1,by simpa using h2,hf⟩
 .rintro ⟨e,he,h,hf⟩;exact ⟨e,N5.mpr ⟨he,by simpa using h⟩,hf⟩
theorem mem_formKs{R:Aq}{y:Str} : y∈F7 R↔∃ e∈N1 R,e.1=y:=by
 unfold F7;rw [u7,E9]
 simp
theorem anP{g:Str->Str}{r1 r2:Str->Nat}{R:Aq}(h:GoodR g r1 r2 R)(hL:Y7 R "row" L)(hM:Y7 R "marks" M):(allKs R L M).Nodup:=by
 have Z:((N1 R).flatMap (·.2)).Nodup:=by rw [<- lT];exact alo h.nc (by decide +kernel)
 have jl:∀ p∈L,g p="letter":=fun p hp=>lS h.nc (mem_letter.mpr ((cZ hL).mp hp))
 have jm:∀ p∈M,g p="mark":=fun p hp=>lS h.nc (mem_mark.mpr ((cZ hM).mp hp))
 have jf:∀ p∈(F7 R).flatMap (K0 R),g p="great":=fun p hp=>by
  obtain ⟨y,_,hp⟩:=Z1.mp hp;obtain ⟨e,he,_,hf⟩:=forms_mem.mp hp
  have:p∈(N1 R).flatMap (·.2):=Z1.mpr ⟨e,he,hf⟩
  rw [<- lT] at this;obtain ⟨⟨q,j⟩,hq,rfl⟩:=E9.mp this;obtain ⟨h1,h2⟩:=N5.mp hq;have h2:j=("great" : Str):=by simpa using h2
  subst h2;exact lS h.nc h1
 have ja:∀ p∈asKs R,g p="as":=fun p hp=>by
  rw [<- pW] at hp;obtain ⟨⟨q,j⟩,hq,rfl⟩:=E9.mp hp;obtain ⟨h1,h2⟩:=N5.mp hq;have h2:j=("as" : Str):=by simpa using h2
  subst h2;exact lS h.nc h1
 have nf:((F7 R).flatMap (K0 R)).Nodup:=by
  rw [i7,List.pairwise_flatMap] at Z ⊢
  obtain ⟨z1,z2⟩:=Z;refine ⟨fun y _=>?_,?_⟩
  .unfold K0;rw [List.pairwise_flatMap];exact ⟨fun e he=>z1 e (N5.mp he).1,z2.filter _⟩
  .have nk:(F7 R).Nodup:=by unfold F7;exact pM (by simp)
   refine List.Pairwise.imp ?_ (i7.mp nk);intro y y' hyy f hf f' hf' e;subst e;obtain ⟨e1,h1,r1,f1⟩:=forms_mem.mp hf;obtain ⟨e2,h2,r2,f2⟩:=forms_mem.mp hf';obtain ⟨i,hi,q1⟩:=X7.mp h1;obtain ⟨j,hj,q2⟩:=X7.mp h2;rw [aS] at z2
   rcases Nat.lt_trichotomy i j with c | c | c
   .exact z2 i j hi hj c f (by rw [q1];exact f1) f (by rw [q2];exact f2) rfl
   .subst c;exact hyy (by rw [<- r1,<- r2,<- q1,<- q2])
   .exact z2 j i hj hi c f (by rw [q2];exact f2) f (by rw [q1];exact f1) rfl
 have na:(asKs R).Nodup:=by rw [<- pW];exact alo h.nc (by decide +kernel)
 have n1:("letter" : Str)≠"mark"/\("letter" : Str)≠"great"/\("letter" : Str)≠"as"/\("mark" : Str)≠"great"/\("mark" : Str)≠"as"/\("great" : Str)≠"as":=by decide +kernel
 unfold allKs;rw [i9,i9,i9];refine ⟨⟨⟨hL.1.nodup,hM.1.nodup,fun a ha b hb e=>?_⟩,nf,fun a ha b hb e=>?_⟩,na,fun a ha b hb e=>?_⟩
 .subst e;exact n1.1 ((jl a ha).symm.trans (jm a hb))
 .subst e
  rcases J9.mp ha with ha | ha
  .exact n1.2.1 ((jl a ha).symm.trans (jf a hb))
  .exact n1.2.2.2.1 ((jm a ha).symm.trans (jf a hb))
 .subst e
  rcases J9.mp ha with ha | ha
  .rcases J9.mp ha with ha | ha
   .exact n1.2.2.1 ((jl a ha).symm.trans (ja a hb))
   .exact n1.2.2.2.2.1 ((jm a ha).symm.trans (ja a hb))
  .exact n1.2.2.2.2.2 ((jf a ha).symm.trans (ja a hb))
theorem alp{g:Str->Str}{r1 r2:Str->Nat}{R:Aq}(h:GoodR g r1 r2 R)(hL:Y7 R "row" L)(hM:Y7 R "marks" M):Made R L M (stepF R L M):=by
 refine aqr (anP h hL hM) (fun y hy=>?_) h.ne fun z hz e q hq=>?_
 .obtain ⟨e,he,rfl⟩:=mem_formKs.mp hy;unfold N1 at he;obtain ⟨z,hz,hh⟩:=eI.mp he
  by_cases hg:z.1=("great" : Str)
  .rw [if_pos hg] at hh;obtain ⟨w,ps⟩:=z
   cases ps with
   | nil=>cases hh
   | cons y fs=>
    have hh:=bh hh;rw [<- hh];exact (cZ hL).mpr (mem_letter.mp (h.gl _ hz hg y (by simp)))
  .rw [if_neg hg] at hh;cases hh
 .rw [<- c9 1 (z.2.drop 1)] at hq
  rcases J9.mp hq with hq | hq
  .exact .inl ((cZ hL).mpr (mem_letter.mp (h.al z hz e q hq)))
  .rw [List.drop_drop] at hq
   rcases h.am z hz e q hq with h1 | h1
   .exact .inl ((cZ hL).mpr (mem_letter.mp h1))
   .exact .inr ((cZ hM).mpr (mem_mark.mp h1))
theorem aqt{g:Str->Str}{r1 r2:Str->Nat}{R:Aq}(h:GoodR g r1 r2 R)(hL:Y7 R "row" L)(hM:Y7 R "marks" M):(allKs R L M).length<=10000:=by
 refine K9 ?_ h.plen
 have:=List.Nodup.length_le_of_subset (l₂:=(E3 R).map (·.1)) (anP h hL hM) fun p hp=>by
  unfold allKs at hp
  rcases J9.mp hp with hp | hp
  .rcases J9.mp hp with hp | hp
   .rcases J9.mp hp with hp | hp
    .exact E9.mpr ⟨_,mem_letter.mpr ((cZ hL).mp hp),rfl⟩
    .exact E9.mpr ⟨_,mem_mark.mpr ((cZ hM).mp hp),rfl⟩
   .obtain ⟨y,_,hp⟩:=Z1.mp hp;obtain ⟨e,he,_,hf⟩:=forms_mem.mp hp
    have:p∈(N1 R).flatMap (·.2):=Z1.mpr ⟨e,he,hf⟩
    rw [<- lT] at this;obtain ⟨q,hq,rfl⟩:=E9.mp this;exact E9.mpr ⟨q,(N5.mp hq).1,rfl⟩
  .rw [<- pW] at hp;obtain ⟨q,hq,rfl⟩:=E9.mp hp;exact E9.mpr ⟨q,(N5.mp hq).1,rfl⟩
 rw [A3] at this;exact this
theorem alq{g:Str->Str}{r1 r2:Str->Nat}{R:Aq}(h:GoodR g r1 r2 R)(i:Nat)(y:Str):(K0 (R.take i) y).length<=10000:=by
 refine K9 ?_ h.plen;have h1:(K0 (R.take i) y).length<=((N1 (R.take i)).flatMap (·.2)).length:=by
  unfold K0;generalize N1 (R.take i)=E
  induction E with
  | nil=>exact C1 _
  | cons e E ih=>
   rw [List.filter_cons]
   split
   .rw [W6,W6,C6,C6];lia
   .rw [W6,C6];lia
 have h2:((N1 (R.take i)).flatMap (·.2)).length<=(E3 (R.take i)).length:=by
  rw [<- lT,A3];exact aX _ _
 obtain ⟨more,e⟩:=ag3 R i;rw [e,C6];lia
theorem IsMade.mod{d:ab}{F:Str->List Tr}{o o':HO}(h:IsMade H d ks F)(ha:H a=some o')(hn:∀ xs,o'≠.tup xs)(nd:d≠a):IsMade (A0 H a o) d ks F:=
 let ⟨ad,h1,h2⟩:=h
 ⟨ad,by rw [A4 nd];exact h1,fun y hy=>(h2 y hy).put ha hn⟩
structure IsOrd(C:ab)(H:Hp)(x j ll ml md:ab)(g:Str->Str)(R:Aq)(L M:Ab):Prop where
 ob:∃ dx,H x=some (.ins C dx (ordF (hasW R "figures") (hasW R "behind") j ll ml md))
 jobs:H j=some (.dK (A8 (keysP (E3 R)++k4 R) (jobG g)))
 lets:H ll=some (.lst (L.map V.str))
 mrks:H ml=some (.lst (M.map V.str))
 made:IsMade H md (G7 [] (allKs R L M)) (stepF R L M)
 l1:Y7 R "row" L
 l2:Y7 R "marks" M
theorem IsOrd.same{x j ll ml md:ab}{g:Str->Str}{R:Aq}(h:IsOrd C H x j ll ml md g R L M)(s:Same H H'):IsOrd C H' x j ll ml md g R L M:=
 ⟨let ⟨dx,e⟩:=h.ob;⟨dx,s _ _ e⟩,s _ _ h.jobs,s _ _ h.lets,s _ _ h.mrks,h.made.same s,h.l1,h.l2⟩
noncomputable def alr (C:ab):Sp:=fun vs H Q _=>∃ (x dx a:ab) (ts:Ai) (R:Aq) (g:Str->Str) (r1 r2:Str->Nat),vs=[.ref x,.ref a]/\H x=some (.ins C dx [])/\IsRules H a ts R/\GoodR g r1 r2 R/\
 ∀ j ll ml md L M H',H j=none->H ll=none->H ml=none->H md=none->SameBut x H H'->IsOrd C H' x j ll ml md g R L M->Q .non H'
noncomputable def als (C:ab):Sp:=fun vs H Q _=>∃ (x j ll ml md:ab) (g:Str->Str) (R:Aq) (L M:Ab),vs=[.ref x]/\IsOrd C H x j ll ml md g R L M/\∀ l,H l=none->Q (.ref l) (A0 H l (.lst (L.map V.str)))
noncomputable def aiT (C:ab):Sp:=fun vs H Q _=>∃ (x j ll ml md:ab) (g:Str->Str) (R:Aq) (L M:Ab),vs=[.ref x]/\IsOrd C H x j ll ml md g R L M/\∀ l,H l=none->Q (.ref l) (A0 H l (.lst (M.map V.str)))
noncomputable def asf (C:ab):Sp:=fun vs H Q _=>∃ (x j ll ml md:ab) (p:Str) (g:Str->Str) (R:Aq) (L M:Ab),vs=[.ref x,.str p]/\IsOrd C H x j ll ml md g R L M/\Q (if p∈keysP (E3 R)++k4 R then jobG g p else .non) H
end L2
set_option maxRecDepth 100000
namespace L2
open PySem PySem.Spec PyProof.Rows
structure RulesAt(H0 H:Hp)(a:ab)(ts:Ai)(R:Aq):Prop where
 rows:IsRules H a ts R
 nd:(a::ts).Nodup
 new:∀ r∈a::ts,H0 r=none
 same:Same H0 H
theorem ajF{E:List (Str×Str)}(r:V5 E ts line){e:Str×Str}(he:e∈E)(h2:e.2∈line):line.idxOf e.1<line.idxOf e.2:=by
 obtain ⟨pre,post,el⟩:=List.append_of_mem h2;obtain ⟨h3,h4,h5⟩:=iN (r pre e.2 post el);have h6:=cnt_zero.mp h5 e he rfl;rw [el,List.idxOf_append,if_pos h6,List.idxOf_append,if_neg h4]
 have:=cC.mpr h6
 lia
theorem alt{E:List (Str×Str)}(nd:ps.Nodup)(tnd:ts.Nodup)(r:V5 E ts line)(cov:∀ p∈ts,p∈line)(hm:∀ p,p∈ts↔p∈ps)(hE:∀ e∈O7 ps,e∈E):line=ps:=by
 have hl:line.length=ps.length:=by
  rw [pK tnd r cov];exact ((List.perm_ext_iff_of_nodup tnd nd).mpr fun a=>hm a).length_eq
 have L3:∀ p∈ps,p∈line:=fun p hp=>cov p ((hm p).mpr hp)
 have C4:∀ i (h:i<ps.length),line.idxOf ps[i]<ps.length:=fun i h=>by
  rw [<- hl];exact cC.mpr (L3 _ (gS h))
 have step:∀ i (h:i+1<ps.length),line.idxOf ps[i]<line.idxOf ps[i+1]:=fun i h=>by
  have he:(ps[i],ps[i+1])∈O7 ps:=by
   have:=ag0 (zs:=ps) (j:=i) (x:=ps[i]) (y:=ps[i+1]) (L6 (by lia)) (by rw [List.getElem?_tail];exact L6 h)
   exact K2 this
  exact ajF r (hE _ he) (L3 _ (gS h))
 have up:∀ i (h:i<ps.length),i<=line.idxOf ps[i]:=by
  intro i
  induction i with
  | zero=>intro h;exact J7 _
  | succ i ih=>
   intro h
   have:=ih (by lia)
   have:=step i h
   lia
 have down:∀ d i (h:i<ps.length),ps.length-1-i=d->line.idxOf ps[i]<=i:=by
  intro d
  induction d with
  | zero=>
   intro i h e
   have:=C4 i h
   lia
  | succ d ih=>
   intro i h e;have h1:=ih (i+1) (by lia) (by lia);have h2:=step i (by lia);lia
 refine List.ext_getElem hl fun i h1 h2=>?_
 have e:line.idxOf ps[i]=i:=Nat.le_antisymm (down _ i h2 rfl) (up i h2)
 have:=eJ (x:=ps[i]) (xs:=line) (by rw [e];exact h1)
 simp only [e] at this;exact this
noncomputable def uY (ns:Am) (k:Int) (p:Str):Prop:=∃ rest:An,p.cps.toList=iQ ns k::rest/\rest.length<=1/\∀ c∈rest,∃ m:Int,c=iQ ns m
noncomputable def PcS (ns:Am) (S:Int->Prop) (p:Str):Prop:=∃ k,S k/\uY ns k p
structure Dis(ns:Am)(S:Int->Prop)(ps:Ab):Prop where
 nd:ps.Nodup
 pc:∀ p∈ps,PcS ns S p
 uq:∀ p∈ps,∀ q∈ps,∀ k:Int,20<=k->k<83->uY ns k p->uY ns k q->p=q
noncomputable def LetS (k:Int):Prop:=0<=k/\k<16
structure LetW(ns:Am)(n:Int)(ps:Ab):Prop where
 n0:2<=n
 n1:n<=16
 all:∀ k:Int,0<=k->k<n->one (iQ ns k)∈ps
 each:∀ p∈ps,∃ k:Int,0<=k/\k<n/\(p=one (iQ ns k)\/∃ m:Int,0<=m/\m<n/\p=one (iQ ns k)++one (iQ ns m))
noncomputable def OthZ (ls ms:Ab) (z:Rl):Prop:=(z.1=("great" : Str)/\∃ l fs,z.2=l::fs/\l∈ls/\1<=fs.length/\fs.length<=2)\/(z.1=("as" : Str)/\∃ p q qs,z.2=p::q::qs/\q∈ls/\(∀ r∈qs,r∈ls\/r∈ms)/\qs.length<=2)\/(z.1=("over" : Str)/\z.2.length<=2)
structure OthI(ns:Am)(ls ms:Ab)(S:Int->Prop)(n:Nat)(R:Aq):Prop where
 dis:Dis ns S ((E3 R).map (·.1))
 each:∀ z∈R,OthZ ls ms z
 len:R.length<=n
noncomputable def GS (i:Nat) (k:Int):Prop:=(30<=k/\k<30+(i:Int))\/(34<=k/\k<34+(i:Int))
noncomputable def AS (i:Nat) (k:Int):Prop:=GS 3 k\/(40<=k/\k<40+(i:Int))
noncomputable def OS (k:Int):Prop:=AS 3 k\/(50<=k/\k<52)
noncomputable def MarkS (k:Int):Prop:=20<=k/\k<25
noncomputable def flagW (w:Str):Prop:=w=("figures" : Str)\/w=("behind" : Str)\/w=("blanks" : Str)
structure RulP(ns:Am)(ls ms:Ab)(b:Bool)(n:Nat)(R:Aq):Prop where
 dis:Dis ns (fun k=>LetS k\/OS k\/(b=true/\MarkS k)) ((E3 R).map (·.1))
 row:rowsW R "row"=[ls]
 mrk:rowsW R "marks"=if b=true then [ms] else []
 each:∀ z∈R,z=(("row" : Str),ls)\/(z=(("marks" : Str),ms)/\b=true)\/OthZ ls ms z\/(z.2=[]/\flagW z.1)
 len:R.length<=n
 fig:hasW R "figures"=true->uO ns=false
 oi:∀ z∈R,OthZ ls ms z->∀ p∈M8 z,PcS ns OS p
theorem alu(nd:ps.Nodup){e:Str×Str}(he:e∈O7 ps):ps.idxOf e.1<ps.idxOf e.2:=by
 unfold O7 at he;obtain ⟨i,hi,e1⟩:=X7.mp he;rw [List.getElem_zip] at e1;have l8:i+1<ps.length:=by rw [List.length_zip,List.length_tail] at hi;lia
 have jI:i<ps.tail.length:=by rw [List.length_tail];lia
 have e3:ps.tail[i]'jI=ps[i+1]:=List.getElem_tail jI;have f1:ps[i]=e.1:=congrArg Prod.fst e1;have f2:ps[i+1]=e.2:=e3.symm.trans (congrArg Prod.snd e1);have a1:ps.idxOf ps[i]=i:=List.Nodup.idxOf_getElem nd i (by lia);have a2:ps.idxOf ps[i+1]=i+1:=List.Nodup.idxOf_getElem nd (i+1) l8;rw [<- f1,<- f2,a1,a2];lia
structure RulG(ns:Am)(ls ms:Ab)(R:Aq):Prop where
 p:∃ b,RulP ns ls ms b 12 R/\(b=false->ms=[])
 l0:2<=ls.length
 l1:ls.length<=19
 ld:Dis ns LetS ls
 lw:∃ n,LetW ns n ls
 m1:ms.length<=4
 md:Dis ns MarkS ms
noncomputable def spLaw (K:aj):Sp:=fun vs H Q _=>∃ (a:ab) (ns:Am),vs=[.ref a]/\D9 K H a (ns.map V.int)/\ns.length<=63/\∀ H',Q (.bl true) H'
end L2
set_option maxRecDepth 100000
namespace L2
open PySem PySem.Spec PyProof.Rows
noncomputable def rIntU:Ao->Hp->VK->Prop
 | [.bl b],H,Q=>Q (.int (if b then 1 else 0)) H
 | [.str x],H,Q=>PySem.NumText.AllDigits x.cps.toList/\1<=x.length/\x.length<=640/\Q (.int ((kR x.cps.toList:Nat):Int)) H
 | _,_,_=>False
theorem asg : QCall X (.type "int") rIntU:=⟨by
 intro aa s Y H xs us Q I r h
 match xs,h with
 | [.bl b],h=>exact akj aa s Y H _ us Q I r (.inr ⟨b,rfl,h⟩)
 | [.str x],h=>
  obtain ⟨h1,h2,h3,q⟩:=h;obtain ⟨u,rfl,r1⟩:=vals1 r;obtain ⟨t,rfl⟩:=r1;have G0:x.cps.toList≠[]:=fun e=>by
   have:x.cps.toList.length=x.length:=by simp [Str.length]
   rw [e] at this;simp at this;lia
  exact PySem.W.KIN.call_text (PySem.intText_digits h1 G0 (by lia)) h3 ⟨V.int ((kR x.cps.toList:Nat):Int),H,I.tok _,⟨_,rfl⟩,q⟩⟩
theorem ash{b:Bool} : rIntU [.bl b] H Q=Q (.int (if b then 1 else 0)) H:=rfl
theorem asi : rIntU [.str x] H Q=(PySem.NumText.AllDigits x.cps.toList/\1<=x.length/\x.length<=640/\Q (.int ((kR x.cps.toList:Nat):Int)) H):=rfl
noncomputable def rInD (K:aj) (x y:V) (H:Hp) (Q:VK):Prop:=∃ (d:PyData) (ds:List PyData),Dn K H x d/\Dn K H y (.list ds)/\min (cL ds) d.depth<=60/\Q (.bl (ds.any fun e=>Y0 e d)) H
theorem asj{x:V} : rInD K x y H Q=∃ (d:PyData) (ds:List PyData),Dn K H x d/\Dn K H y (.list ds)/\min (cL ds) d.depth<=60/\Q (.bl (ds.any fun e=>Y0 e d)) H:=rfl
end L2
set_option maxRecDepth 100000
namespace L2
open PySem PySem.Spec PyProof.Rows
open PySem.Builtin PySem.Builtin.Str PySem.StrLaws
noncomputable def rTupA (K:aj):R2:=fun x y H Q=>∃ a b xs ys,x=.ref a/\y=.ref b/\C7 K H a xs/\C7 K H b ys/\ys≠[]/\xs.length+ys.length<=ak/\∀ p H',Same H H'->C7 K H' p (xs++ys)->(H' p=some (.tup (xs++ys))\/xs=[]/\p=b)->Q (.ref p) H'
theorem asl : rTupA K (.ref a) (.ref b) H Q=∃ xs ys,C7 K H a xs/\C7 K H b ys/\ys≠[]/\xs.length+ys.length<=ak/\∀ p H',Same H H'->C7 K H' p (xs++ys)->(H' p=some (.tup (xs++ys))\/xs=[]/\p=b)->Q (.ref p) H':=
 propext ⟨fun ⟨_,_,xs,ys,e1,e2,h⟩=>(by cases e1;cases e2;exact ⟨xs,ys,h⟩),fun ⟨xs,ys,h⟩=>⟨a,b,xs,ys,rfl,rfl,h⟩⟩
end L2
set_option maxRecDepth 100000
namespace L2
open PySem PySem.Spec PyProof.Rows
theorem asm{d:ac}(h:(us++[d]).length=3):∃ u1 u2,us=[u1,u2]:=by
 match us,h with
 | [a,b],_=>exact ⟨a,b,rfl⟩
 | [],h=>simp at h
 | [_],h=>simp at h
 | _::_::_::r,h=>simp at h
theorem dA(g:Ab)(z:Str):(valV (kvOf g) (Sum.inr z)).isSome=decide (z∈g):=by
 rw [<- tU];unfold valV;rw [Option.isSome_map,List.isSome_find?]
theorem uZ{y rest:An}(h:z.cps.toList=pre++(y++rest)):cutS z (some (pre.length:Int)) (some ((pre.length:Int)+(y.length:Int)))=⟨y.toArray⟩:=by
 have hl:z.length=pre.length+(y.length+rest.length):=by
  have:=congrArg X8 h
  simp [Str.length] at this ⊢
  lia
 apply Str.ext'
 apply Array.toList_inj.mp
 rw [agS,h];have e1:HT.sIx z.length 0 (some (pre.length:Int))=pre.length:=by rw [HT.sIx_nat];lia
 have e2:HT.sIx z.length z.length (some ((pre.length:Int)+(y.length:Int)))=pre.length+y.length:=by
  rw [show (pre.length:Int)+(y.length:Int)=((pre.length+y.length:Nat):Int) by lia,HT.sIx_nat];lia
 rw [e1,e2,List.drop_left,show pre.length+y.length-pre.length=y.length by lia,List.take_left]
theorem ahd(h:z.cps.toList=pre++[c]):cutS z (some (pre.length:Int)) (some ((pre.length:Int)+2))=one c:=by
 have hl:z.length=pre.length+1:=by
  have:=congrArg X8 h
  simp [Str.length] at this ⊢
  lia
 apply Str.ext'
 apply Array.toList_inj.mp
 rw [agS,h];have e1:HT.sIx z.length 0 (some (pre.length:Int))=pre.length:=by rw [HT.sIx_nat];lia
 have e2:HT.sIx z.length z.length (some ((pre.length:Int)+2))=pre.length+1:=by
  rw [show (pre.length:Int)+2=((pre.length+2:Nat):Int) by lia,HT.sIx_nat];lia
 rw [e1,e2,List.drop_left,show pre.length+1-pre.length=1 by lia];rfl
theorem alv{r:An} : K6 (pre++c::r) (pre.length:Int)=some c:=M6 (by rw [o8 (C1 _),Nat.sub_self];rfl)
theorem afG:∀ (zs acc:Ab),Y3 (kvOf acc) (kvOf zs)=kvOf (G7 acc zs)
 | [],acc=>rfl
 | z::zs,acc=>by
  show Y3 (putK (kvOf acc) (Sum.inr z) (.bl true)) (kvOf zs)=kvOf (G7 (dd acc z) zs);rw [tV,afG zs]
noncomputable def alw:Sp:=fun vs H Q _=>∃ (z:Str) (pre rest:An),vs=[.str z,.int pre.length]/\z.length<=1000/\z.cps.toList=pre++rest/\Q (.str ⟨(rest.takeWhile figO).toArray⟩) H
theorem anf(h:(us++[]).length=3):∃ u1 u2 u3,us=[u1,u2,u3]:=by
 match us,h with
 | [a,b,c],_=>exact ⟨a,b,c,rfl⟩
 | [],h=>simp at h
 | [_],h=>simp at h
 | [_,_],h=>simp at h
 | _::_::_::_::r,h=>simp at h
theorem lenL(z:Str):z.cps.toList.length=z.length:=by simp [Str.length]
noncomputable def partG (g:Ab):An->Option Str
 | []=>none
 | [c]=>if one c∈g then some (one c) else none
 | c::d::_=>if two c d∈g then some (two c d) else if one c∈g then some (one c) else none
theorem iW(g:Ab)(c:Nat):partG g [c]=if one c∈g then some (one c) else none:=rfl
theorem iX(g:Ab)(c d:Nat)(r:An):partG g (c::d::r)=if two c d∈g then some (two c d) else if one c∈g then some (one c) else none:=rfl
noncomputable def partF (w:Bool) (g:Ab):An->Option Str
 | []=>none
 | c::r=>if (w&&figO c)=true then some ⟨((c::r).takeWhile figO).toArray⟩ else partG g (c::r)
theorem fG(w:Bool)(g:Ab)(c:Nat)(r:An):partF w g (c::r)=if (w&&figO c)=true then some ⟨((c::r).takeWhile figO).toArray⟩ else partG g (c::r):=rfl
theorem afH{y:Str} : ∀ {l:An},partG g l=some y->∃ rest,l=y.cps.toList++rest/\1<=y.length
 | [],h=>by cases h
 | [c],h=>by
  rw [iW] at h
  by_cases hc:one c∈g
  .rw [if_pos hc] at h;cases h;exact ⟨[],rfl,by show 1<=1;decide⟩
  .rw [if_neg hc] at h;cases h
 | c::d::r,h=>by
  rw [iX] at h
  by_cases h2:two c d∈g
  .rw [if_pos h2] at h;cases h;exact ⟨r,rfl,by show 1<=2;decide⟩
  .rw [if_neg h2] at h
   by_cases hc:one c∈g
   .rw [if_pos hc] at h;cases h;exact ⟨d::r,rfl,by show 1<=1;decide⟩
   .rw [if_neg hc] at h;cases h
theorem ah8(h:∀ x,x∈g↔x∈g'):∀ l,partG g l=partG g' l
 | []=>rfl
 | [c]=>by
  rw [iW,iW]
  by_cases hc:one c∈g
  .rw [if_pos hc,if_pos ((h _).mp hc)]
  .rw [if_neg hc,if_neg (fun z=>hc ((h _).mpr z))]
 | c::d::r=>by
  rw [iX,iX]
  by_cases h2:two c d∈g
  .rw [if_pos h2,if_pos ((h _).mp h2)]
  .rw [if_neg h2,if_neg (fun z=>h2 ((h _).mpr z))]
   by_cases hc:one c∈g
   .rw [if_pos hc,if_pos ((h _).mp hc)]
   .rw [if_neg hc,if_neg (fun z=>hc ((h _).mpr z))]
theorem ah9{w:Bool}(h:∀ x,x∈g↔x∈g')(l:An):partF w g l=partF w g' l:=by
 cases l with
 | nil=>rfl
 | cons c r=>rw [fG,fG,ah8 h]
theorem afI{w:Bool}{y:Str}{l:An}(h:partF w g l=some y):∃ rest,l=y.cps.toList++rest/\1<=y.length:=by
 cases l with
 | nil=>cases h
 | cons c r=>
  rw [fG] at h
  by_cases hw:(w&&figO c)=true
  .rw [if_pos hw] at h;cases h;rw [V3] at hw;refine ⟨(c::r).dropWhile figO,(List.takeWhile_append_dropWhile).symm,?_⟩;show 1<=((c::r).takeWhile figO).length;rw [List.takeWhile_cons_of_pos hw.2]
   simp
  .rw [if_neg hw] at h;exact afH h
noncomputable def cutFn (w:Bool) (g:Ab):Nat->An->Nat×Ab
 | 0,_=>(0,[])
 | n+1,l=>match partF w g l with
  | none=>(0,[])
  | some y=>((cutFn w g n (l.drop y.length)).1+y.length,y::(cutFn w g n (l.drop y.length)).2)
noncomputable def cutF (w:Bool) (g:Ab) (l:An):Nat×Ab:=cutFn w g l.length l
theorem afJ(w:Bool)(g:Ab):∀ (n m:Nat) (l:An),l.length<=n->l.length<=m->cutFn w g n l=cutFn w g m l
 | 0,0,_,_,_=>rfl
 | 0,m+1,l,h,_=>by
  have:l=[]:=aV.mp (by lia)
  subst this;rfl
 | n+1,0,l,_,h=>by
  have:l=[]:=aV.mp (by lia)
  subst this;rfl
 | n+1,m+1,l,h1,h2=>by
  cases e:partF w g l with
  | none=>show (match partF w g l with | none=>_ | some y=>_)=(match partF w g l with | none=>_ | some y=>_);rw [e]
  | some y=>
   obtain ⟨rest,e1,e2⟩:=afI e;have hd:(l.drop y.length).length=l.length-y.length:=Z2
   have:=afJ w g n m (l.drop y.length) (by lia) (by lia)
   show (match partF w g l with | none=>_ | some y=>_)=(match partF w g l with | none=>_ | some y=>_);rw [e]
   dsimp only
   rw [this]
theorem lU{w:Bool}{l:An}(h:partF w g l=none):cutF w g l=(0,[]):=by
 unfold cutF;cases hl:l.length with
 | zero=>rfl
 | succ n=>
  show (match partF w g l with | none=>_ | some y=>_)=_;rw [h]
theorem lV(w:Bool)(g:Ab):cutF w g []=(0,[]):=rfl
theorem iY{w:Bool}{y:Str}{l:An}(h:partF w g l=some y):∃ rest,l=y.cps.toList++rest/\cutF w g l=((cutF w g rest).1+y.length,y::(cutF w g rest).2)/\1<=y.length:=by
 obtain ⟨rest,e1,e2⟩:=afI h;refine ⟨rest,e1,?_,e2⟩;have el:l.length=y.length+rest.length:=by rw [e1,C6,lenL]
 have ed:l.drop y.length=rest:=by rw [e1,<- lenL,List.drop_left]
 unfold cutF;cases hl:l.length with
 | zero=>lia
 | succ k=>
  show (match partF w g l with | none=>_ | some y=>_)=_;rw [h]
  dsimp only
  rw [ed,afJ w g k rest.length rest (by lia) (C1 _)]
theorem ajG{w:Bool}(h:∀ x,x∈g↔x∈g')(l:An):cutF w g l=cutF w g' l:=by
 have:∀ n l,cutFn w g n l=cutFn w g' n l:=by
  intro n
  induction n with
  | zero=>intro l;rfl
  | succ n ih=>
   intro l;show (match partF w g l with | none=>_ | some y=>_)=(match partF w g' l with | none=>_ | some y=>_);rw [ah9 h]
   cases partF w g' l with
   | none=>rfl
   | some y=>dsimp only;rw [ih]
 exact this _ _
theorem vA{w:Bool}{g:Ab} : ∀ (n:Nat) (l:An),l.length<=n->(cutF w g l).1<=l.length/\(cutF w g l).2.length<=l.length/\∀ y∈(cutF w g l).2,∀ c∈y.cps.toList,c∈l
 | 0,l,h=>by
  have:l=[]:=aV.mp (by lia)
  subst this;rw [lV];exact ⟨C1 _,C1 _,by simp⟩
 | n+1,l,h=>by
  cases e:partF w g l with
  | none=>rw [lU e];exact ⟨J7 _,J7 _,by simp⟩
  | some y=>
   obtain ⟨rest,e1,e2,e3⟩:=iY e;have hl:l.length=y.length+rest.length:=by rw [e1,C6,lenL]
   obtain ⟨a,b,c⟩:=vA (w:=w) (g:=g) n rest (by lia);rw [e2];refine ⟨by dsimp only;lia,by dsimp only;rw [E5];lia,fun z hz x hx=>?_⟩;rw [e1]
   rcases D8.mp hz with r | r
   .rw [r] at hx;exact J9.mpr (.inl hx)
   .exact J9.mpr (.inr (c z r x hx))
noncomputable def bN (w:Bool) (g:Ab) (z:Str):Prop:=(cutF w g z.cps.toList).1=z.length
noncomputable def alx:Sp:=fun vs H Q _=>∃ (d:ab) (z:Str) (g:Ab) (pre:An) (c:Nat) (r:An) (w:Bool) (y:Str),vs=[.ref d,.str z,.int pre.length,.bl w]/\H d=some (.dK (kvOf g))/\z.length<=1000/\z.cps.toList=pre++c::r/\partF w g (c::r)=some y/\Q (.str y) H
noncomputable def pX (K:aj):Sp:=fun vs H Q _=>∃ (a:ab) (z:Str) (ks:Ab) (w:Bool),vs=[.ref a,.str z,.bl w]/\D9 K H a (ks.map V.str)/\ks.length<=1000/\z.length<=1000/\bN w ks z/\
 ∀ l H',H l=none->Same H H'->H' l=some (.lst ((cutF w ks z.cps.toList).2.map V.str))->Q (.ref l) H'
noncomputable abbrev L1:=Int×Int×List Int×Int
noncomputable def addM (U:List L1) (p:Int):List L1:=match U.getLast? with
 | none=>[(0,0,[p],0)]
 | some u=>U.dropLast++[(u.1,u.2.1,u.2.2.1++[p],u.2.2.2)]
noncomputable def addS (U:List L1) (s:Tr):List L1:=if s.1=0 then addM U s.2.1 else U++[(s.1,s.2.1,[],s.2.2)]
noncomputable def UnAt (H:Hp) (e:ab×ab) (u:L1):Prop:=H e.1=some (.tup [.int u.1,.int u.2.1,.ref e.2,.int u.2.2.2])/\H e.2=some (.lst (u.2.2.1.map V.int))
structure UnI(H0 H:Hp)(l:ab)(es:List (ab×ab))(U:List L1):Prop where
 top:H l=some (.lst (es.map fun e=>V.ref e.1))
 row:Paired (UnAt H) es U
 nd:(l::es.map (·.2)).Nodup
 new:∀ a∈l::es.map (·.2),H0 a=none
 same:Same H0 H
theorem UnI.more{l:ab}{es:List (ab×ab)}{U:List L1}(h:UnI H0 H l es U)(S:Same H H'):UnI H0 H' l es U:=⟨S _ _ h.top,L7 h.row fun _ _ e=>⟨S _ _ e.1,S _ _ e.2⟩,h.nd,h.new,h.same.trans S⟩
theorem UnI.live{l:ab}{es:List (ab×ab)}{U:List L1}(h:UnI H0 H l es U)(ha:a∈es.map (·.2)):∃ xs,H a=some (.lst xs):=by
 obtain ⟨e,he,rfl⟩:=E9.mp ha;obtain ⟨i,hi,q⟩:=X7.mp he;obtain ⟨u,_,hu⟩:=Paired.at h.row (i:=i) (a:=e) (by rw [L6 hi,q]);exact ⟨_,hu.2⟩
theorem UnI.push{l m t:ab}{es:List (ab×ab)}{U:List L1}(h:UnI H0 H l es U)(nm:H m=none){k w c:Int}(nt:A0 H m (.lst []) t=none) :
  UnI H0 (A0 (A0 (A0 H m (.lst [])) t (.tup [.int k,.int w,.ref m,.int c])) l (.lst ((es.map fun e=>V.ref e.1)++[V.ref t]))) l (es++[(t,m)]) (U++[(k,w,[],c)]):=by
 have nlm:l≠m:=fun e=>by have:=h.top;rw [e,nm] at this;cases this
 have nmt:m≠t:=fun e=>by rw [<- e,A1] at nt;cases nt
 have S:Same H (A0 (A0 H m (.lst [])) t (.tup [.int k,.int w,.ref m,.int c])):=(Same.new nm).trans (Same.new nt);have hl:=S _ _ h.top;have nlt:l≠t:=fun e=>by rw [<- e,(Same.new nm) _ _ h.top] at nt;cases nt
 have jJ:=T6.mp h.nd;refine ⟨by rw [A1,D0];rfl,Paired.snoc (iI h.row fun e he u hu=>⟨?_,?_⟩) ⟨?_,?_⟩,?_,fun a ha=>?_,(h.same.trans S).put (h.new l G3)⟩
 .rw [A4 (fun q=>by have:=S _ _ hu.1;rw [q,hl] at this;cases this)];exact S _ _ hu.1
 .rw [A4 (fun q=>jJ.1 (by rw [<- q];exact E9.mpr ⟨e,he,rfl⟩))];exact S _ _ hu.2
 .rw [A4 nlt.symm,A1]
 .rw [A4 nlm.symm,A4 nmt,A1];rfl
 .rw [D0];exact oX h.nd fun q=>by
   rcases D8.mp q with q | q
   .exact nlm q.symm
   .obtain ⟨xs,hx⟩:=h.live q;rw [nm] at hx;cases hx
 .rw [D0] at ha
  rcases D8.mp ha with q | q
  .rw [q];exact h.new l G3
  .rcases J9.mp q with q | q
   .exact h.new a (G6 _ q)
   .rw [J8.mp q];exact h.same.free nm
theorem UnI.mark{l:ab}{es:List (ab×ab)}{e:ab×ab}{U:List L1}{u:L1}(h:UnI H0 H l (es++[e]) (U++[u]))(p:Int) :
  UnI H0 (A0 H e.2 (.lst (u.2.2.1.map V.int++[V.int p]))) l (es++[e]) (U++[(u.1,u.2.1,u.2.2.1++[p],u.2.2.2)]):=by
 obtain ⟨hr,he⟩:=tW h.row;have jJ:=h.nd;have nl:l≠e.2:=fun q=>(T6.mp jJ).1 (by rw [q];simp)
 have nn:∀ x∈es,x.2≠e.2:=fun x hx q=>by
  have:=(T6.mp jJ).2
  rw [D0,i9] at this;exact this.2.2 x.2 (E9.mpr ⟨x,hx,rfl⟩) e.2 (by simp) q
 have nt:∀ {x:ab×ab} {v:L1},UnAt H x v->x.1≠e.2:=fun {x v} hx q=>by
  have:=hx.1;rw [q,he.2] at this;cases this
 refine ⟨by rw [A4 nl];exact h.top,Paired.snoc (iI hr fun x hx v hv=>⟨?_,?_⟩) ⟨?_,?_⟩,h.nd,h.new,h.same.put (h.new _ (G6 _ (by simp)))⟩
 .rw [A4 (nt hv)];exact hv.1
 .rw [A4 (nn x hx)];exact hv.2
 .rw [A4 (nt he)];exact he.1
 .rw [A1,D0];rfl
noncomputable def IsUn (H:Hp) (l:ab) (U:List L1):Prop:=∃ es:List (ab×ab),H l=some (.lst (es.map fun e=>V.ref e.1))/\Paired (fun e (u:L1)=>H e.1=some (.tup [.int u.1,.int u.2.1,.ref e.2,.int u.2.2.2])/\H e.2=some (.tup (u.2.2.1.map V.int))) es U
noncomputable def L8 (R:Aq):Ab:=keysP (E3 R)++k4 R
noncomputable def Q5 (S:Str->List Tr) (ps:Ab):List L1:=(ps.flatMap S).foldl addS []
noncomputable def aiV (C:ab):Sp:=fun vs H Q _=>∃ (x j ll ml md:ab) (g:Str->Str) (R:Aq) (L M:Ab),vs=[.ref x]/\IsOrd C H x j ll ml md g R L M/\∀ l,H l=none->Q (.ref l) (A0 H l (.lst ((L8 R).map V.str)))
noncomputable def vB (C:ab):Sp:=fun vs H Q _=>∃ (x j ll ml md:ab) (p:Str) (g:Str->Str) (R:Aq) (L M:Ab),vs=[.ref x,.str p]/\IsOrd C H x j ll ml md g R L M/\∀ r H',Same H H'->StepAt H' r (stepF R L M p)->Q (.ref r) H'
noncomputable def aiW (C:ab):Sp:=fun vs H Q _=>∃ (x j ll ml md:ab) (z:Str) (g:Str->Str) (R:Aq) (L M:Ab),vs=[.ref x,.str z]/\IsOrd C H x j ll ml md g R L M/\(L8 R).length<=1000/\z.length<=1000/\bN (hasW R "figures") (L8 R) z/\
 ∀ l H',H l=none->Same H H'->H' l=some (.lst ((cutF (hasW R "figures") (L8 R) z.cps.toList).2.map V.str))->Q (.ref l) H'
theorem ajH{R:Aq}(h:p∉allKs R L M):stepF R L M p=[]:=by
 unfold stepF
 have:(putsL R L M).lookup p=none:=by
  rw [List.lookup_eq_none_iff];intro e he
  have:e.1∈allKs R L M:=by rw [<- ag9];exact E9.mpr ⟨e,he,rfl⟩
  have ne:p≠e.1:=fun q=>h (by rw [q];exact this)
  simpa using ne
 rw [this];rfl
noncomputable def stepY (R:Aq) (L M:Ab) (y:Str):List Tr:=if (hasW R "figures" && figO (y.cps.toList.headD 0))=true then [(1,((kR y.cps.toList:Nat):Int),0)] else stepF R L M y
theorem vC{R:Aq}(h:hasW R "figures"=false)(L M:Ab):stepY R L M=stepF R L M:=by
 funext y
 unfold stepY;rw [h,gT,if_neg L9]
noncomputable def FigR (y:Str):Prop:=figO (y.cps.toList.headD 0)=true->PySem.NumText.AllDigits y.cps.toList
noncomputable def ahe (C:ab):Sp:=fun vs H Q _=>∃ (x j ll ml md:ab) (c:Nat) (r:An) (y:Str) (g:Str->Str) (R:Aq) (L M:Ab),vs=[.ref x,.str y]/\y.cps.toList=c::r/\y.length<=640/\IsOrd C H x j ll ml md g R L M/\(hasW R "figures"=true->FigR y)/\∀ r H',Same H H'->StepAt H' r (stepY R L M y)->Q (.ref r) H'
noncomputable def ahf (K:aj):Sp:=fun vs H Q _=>∃ (l:ab) (p:Int) (H0:Hp) (es:List (ab×ab)) (U:List L1),vs=[.ref l,.int p]/\UnI H0 H l es U/\U.length<=10000/\(∀ u∈U,u.2.2.1.length<=10000)/\∀ es' H',UnI H0 H' l es' (addM U p)->Q .non H'
noncomputable def ahg (C:ab):Sp:=fun vs H Q _=>∃ (x l j ll ml md:ab) (c:Nat) (r:An) (y:Str) (g:Str->Str) (R:Aq) (L M:Ab) (H0:Hp) (es:List (ab×ab)) (U:List L1),vs=[.ref x,.ref l,.str y]/\y.cps.toList=c::r/\y.length<=640/\IsOrd C H0 x j ll ml md g R L M/\(hasW R "figures"=true->FigR y)/\UnI H0 H l es U/\(stepY R L M y).length<=1000/\U.length<=9000/\(∀ u∈U,u.2.2.1.length<=9000)/\
 ∀ es' H',UnI H0 H' l es' ((stepY R L M y).foldl addS U)->Q .non H'
theorem ang{U:List L1}{p:Int} : (addM U p).length<=U.length+1:=by
 unfold addM;cases e:U.getLast? with
 | none=>simp
 | some u=>simp only [C6,List.length_dropLast,V2];lia
theorem ajI{U:List L1}{p:Int}(h:∀ u∈U,u.2.2.1.length<=n):∀ u∈addM U p,u.2.2.1.length<=n+1:=by
 unfold addM;cases e:U.getLast? with
 | none=>intro u hu;rw [J8.mp hu];simp
 | some v=>
  intro u hu
  rcases J9.mp hu with q | q
  .have:=h u ((List.dropLast_sublist U).subset q);lia
  .rw [J8.mp q]
   have:=h v (List.mem_of_getLast? e)
   simp only [C6,V2];lia
theorem anh{U:List L1}{s:Tr} : (addS U s).length<=U.length+1:=by
 unfold addS
 split
 .exact ang
 .simp
theorem ajJ{U:List L1}{s:Tr}(h:∀ u∈U,u.2.2.1.length<=n):∀ u∈addS U s,u.2.2.1.length<=n+1:=by
 unfold addS
 split
 .exact ajI h
 .intro u hu
  rcases J9.mp hu with q | q
  .have:=h u q;lia
  .rw [J8.mp q];exact J7 _
theorem vD:∀ (ss:List Tr) (U:List L1),(ss.foldl addS U).length<=U.length+ss.length
 | [],U=>C1 _
 | s::ss,U=>by
  rw [y9,E5];have h1:=vD ss (addS U s);have h2:=anh (U:=U) (s:=s);lia
theorem vE:∀ (ss:List Tr) (U:List L1) (n:Nat),(∀ u∈U,u.2.2.1.length<=n)->∀ u∈ss.foldl addS U,u.2.2.1.length<=n+ss.length
 | [],U,n,h=>h
 | s::ss,U,n,h=>by
  intro u hu
  have:=vE ss (addS U s) (n+1) (ajJ h) u hu
  rw [E5];lia
theorem aly(f b:Bool)(j ll ml md:ab):(ordF f b j ll ml md).lookup ("made" : Str)=some (V.ref md):=by
 unfold ordF;rw [M5,if_pos rfl]
noncomputable def cutH (H:Hp) (as:Ai):Hp:=fun a=>if a∈as then none else H a
theorem ahh(H:Hp)(as:Ai):Same (cutH H as) H:=fun a o h=>by
 unfold cutH at h
 by_cases q:a∈as
 .rw [if_pos q] at h;cases h
 .rw [if_neg q] at h;exact h
theorem UnI.base{l:ab}{es:List (ab×ab)}{U:List L1}(S:Same H0 H1)(h:UnI H1 H l es U):UnI H0 H l es U:=⟨h.top,h.row,h.nd,fun a ha=>S.free (h.new a ha),S.trans h.same⟩
theorem UnI.cut{l:ab}{es:List (ab×ab)}{U:List L1}(h:UnI H0 H l es U):∃ H1,Same H0 H1/\UnI H1 H l es U/\∀ a xs,H a=some (.tup xs)->H1 a=some (.tup xs):=by
 refine ⟨cutH H (l::es.map (fun e=>e.2)),fun a o ha=>?_,⟨h.top,h.row,h.nd,fun a ha=>by unfold cutH;exact if_pos ha,ahh _ _⟩,fun a xs ha=>?_⟩
 .unfold cutH;rw [if_neg (fun q=>by rw [h.new a q] at ha;cases ha)];exact h.same _ _ ha
 .unfold cutH;rw [if_neg fun q=>?_]
  .exact ha
  .rcases D8.mp q with q | q
   .rw [q,h.top] at ha;cases ha
   .obtain ⟨ys,hy⟩:=h.live q;rw [hy] at ha;cases ha
theorem ajK{α β:Type}{F:α->β->Prop}{m:List β}(h:Paired F [] m):m=[]:=by cases h;rfl
theorem vF{α:Type}{l:List α}(h:l≠[]):∃ l' x,l=l'++[x]:=⟨l.dropLast,l.getLast h,(List.dropLast_concat_getLast h).symm⟩
noncomputable def alz (C:ab):Sp:=fun vs H Q _=>∃ (x j ll ml md:ab) (z:Str) (g:Str->Str) (R:Aq) (L M:Ab),vs=[.ref x,.str z]/\IsOrd C H x j ll ml md g R L M/\(L8 R).length<=1000/\z.length<=500/\bN (hasW R "figures") (L8 R) z/\(∀ y,(stepY R L M y).length<=15)/\
 ∀ l H',H l=none->Same H H'->IsUn H' l (Q5 (stepY R L M) (cutF (hasW R "figures") (L8 R) z.cps.toList).2)->Q (.ref l) H'
noncomputable def vG (n:Nat) (fr:St) (Pv:Nat->Ao->Hp->Prop) (i:Nat) (ys:Ao) (σ2:St) (H2:Hp):Prop:=i<=n/\ys.length<=i/\(∃ v0 v1 v2 v3,σ2=v0::v1::v2::v3::fr)/\Pv i ys H2
theorem asn{c:TT}(fr:St)(l7:compStart 4 ixs Y=none::none::none::none::fr)(Pv:ab->Nat->Ao->Hp->Prop)(h0:∀ D,H1 D=none->Pv D 0 [] (A0 H1 D (.lst [])))(hl:∀ D i ys H,H1 D=none->i<=xs.length->Pv D i ys H->D9 K H a xs)(hs:∀ D i x ys H,H1 D=none->i<xs.length->xs[i]?=some x->Pv D i ys H->H D=some (.lst ys)->ys.length<=i->∃ t v0 v1 v2 v3,x=.ref t/\C7 K H t [v0,v1,v2,v3]/\c (some v0::some v1::some v2::some v3::fr) H fun b H4=>
   if b=true then te (some v0::some v1::some v2::some v3::fr) H4 fun y H5=>H5 D=some (.lst ys)/\ys.length<ak/\vG xs.length fr (Pv D) (i+1) (ys++[y]) (some v0::some v1::some v2::some v3::fr) (A0 H5 D (.lst (ys++[y])))
   else H4 D=some (.lst ys)/\vG xs.length fr (Pv D) (i+1) ys (some v0::some v1::some v2::some v3::fr) H4)(hd:∀ D ys H,H1 D=none->Pv D xs.length ys H->H D=some (.lst ys)->ys.length<=xs.length->Q (.ref D) H):cS (aD K a) 4 ixs (gTup K 4 (gCons (gName 0) (gCons (gName 1) (gCons (gName 2) (gCons (gName 3) gNil))))) c te Y Q H1:=by
 intro D hD;refine ⟨xs.length,vG xs.length fr (Pv D),⟨J7 _,J7 _,⟨none,none,none,none,l7⟩,h0 D hD⟩,?_⟩;rintro i ys σ2 H2 ⟨hi,hy,⟨w0,w1,w2,w3,rfl⟩,p⟩ hDy;have q:=hl D i ys H2 hD hi p
 by_cases C4:i<xs.length
 .refine .inr ⟨C4,⟨xs,xs[i],q,by simp [C4]⟩,fun x H' y=>?_⟩;obtain ⟨e,y⟩:=y;subst e;obtain ⟨t,v0,v1,v2,v3,rfl,ht,z⟩:=hs D i x ys _ hD C4 (y xs q) p hDy hy;exact ⟨t,_,rfl,ht,rfl,_,_,rfl,_,_,rfl,_,_,rfl,_,_,rfl,rfl,z⟩
 .have e:i=xs.length:=by lia
  subst e;exact .inl ⟨⟨xs,q,C1 _⟩,hd D ys H2 hD p hDy hy⟩
theorem alA{w:Bool} : ∀ (n:Nat) (l:An),l.length<=n->∀ y∈(cutF w g l).2,1<=y.length
 | 0,l,h,y,hy=>by
  have:l=[]:=aV.mp (by lia)
  subst this;rw [lV] at hy;cases hy
 | n+1,l,h,y,hy=>by
  cases e:partF w g l with
  | none=>rw [lU e] at hy;cases hy
  | some x=>
   obtain ⟨rest,e1,e2,e3⟩:=iY e;rw [e2] at hy
   rcases D8.mp hy with q | q
   .rw [q];exact e3
   .refine alA n rest ?_ y q
    have:=congrArg X8 e1
    rw [C6,lenL] at this;lia
theorem aib{S:Str->List Tr}{y:Str}(h:ps[i]?=some y):Q5 S (ps.take (i+1))=(S y).foldl addS (Q5 S (ps.take i)):=by
 unfold Q5;rw [L0 h,y8,Z0,W6,eM,L5]
theorem vH{S:Str->List Tr}(hs:∀ y,(S y).length<=15):∀ (ps:Ab),(Q5 S ps).length<=15*ps.length/\∀ u∈Q5 S ps,u.2.2.1.length<=15*ps.length:=fun ps=>by
 have h0:(ps.flatMap S).length<=15*ps.length:=by
  induction ps with
  | nil=>exact C1 _
  | cons p ps ih=>
   rw [W6,C6,E5]
   have:=hs p
   lia
 have h1:=vD (ps.flatMap S) [];have h2:=vE (ps.flatMap S) [] 0 (by simp);unfold Q5;rw [P9] at h1;exact ⟨by lia,fun u hu=>by have:=h2 u hu;lia⟩
theorem ahi{w:Bool} : ∀ (n:Nat) (l:An),l.length<=n->∀ y∈(cutF w g l).2,y.length<=l.length
 | 0,l,h,y,hy=>by
  have:l=[]:=aV.mp (by lia)
  subst this;rw [lV] at hy;cases hy
 | n+1,l,h,y,hy=>by
  cases e:partF w g l with
  | none=>rw [lU e] at hy;cases hy
  | some x=>
   obtain ⟨rest,e1,e2,e3⟩:=iY e;rw [e2] at hy;have hl:=congrArg X8 e1;rw [C6,lenL] at hl
   rcases D8.mp hy with q | q
   .rw [q];lia
   .have:=ahi n rest (by lia) y q
    lia
theorem anQ{p:Nat->Bool}{d:Nat} : ∀ {l:An},d∈l.takeWhile p->p d=true
 | [],h=>by cases h
 | c::r,h=>by
  rw [List.takeWhile_cons] at h
  by_cases hc:p c=true
  .rw [if_pos hc] at h
   rcases D8.mp h with q | q
   .rw [q];exact hc
   .exact anQ q
  .rw [if_neg hc] at h;cases h
theorem alB{w:Bool}{l:An}{y:Str}(h:partF w g l=some y):w=true->FigR y:=by
 intro hw hf
 cases l with
 | nil=>cases h
 | cons c r=>
  rw [fG,hw,aA] at h
  by_cases hc:figO c=true
  .rw [if_pos hc] at h;obtain rfl:=bh h;intro d hd;have hd:d∈(c::r).takeWhile figO:=by simpa using hd
   have:=anQ hd
   unfold figO at this;rw [V3,decide_eq_true_eq,decide_eq_true_eq] at this;exact this
  .exfalso
   rw [if_neg hc] at h;obtain ⟨rest,e,hl⟩:=afH h
   have:y.cps.toList.headD 0=c:=by
    cases hy:y.cps.toList with
    | nil=>rw [<- lenL,hy] at hl;simp at hl
    | cons d t=>rw [hy] at e;exact (List.cons.inj e).1.symm
   rw [this] at hf;exact hc hf
theorem aiX{w:Bool} : ∀ (n:Nat) (l:An),l.length<=n->∀ y∈(cutF w g l).2,w=true->FigR y
 | 0,l,h,y,hy=>by
  have:l=[]:=aV.mp (by lia)
  subst this;rw [lV] at hy;cases hy
 | n+1,l,h,y,hy=>by
  cases e:partF w g l with
  | none=>rw [lU e] at hy;cases hy
  | some x=>
   obtain ⟨rest,e1,e2,e3⟩:=iY e;rw [e2] at hy;have hl:=congrArg X8 e1;rw [C6,lenL] at hl
   rcases D8.mp hy with q | q
   .rw [q];exact alB e
   .exact aiX n rest (by lia) y q
end L2
variable {zss:List (List PySem.Str)}{R:List L2.Rl}{z':L2.Rl}
set_option maxRecDepth 100000
namespace L2
open PySem PySem.Spec PyProof.Rows
structure StepL(H:Hp)(r:ab)(ss:List Tr):Prop where
 ex:∃ ts:Ai,H r=some (.lst (ts.map V.ref))/\Paired (fun t s=>H t=some (tupT s)) ts ss
noncomputable def IsMk (H:Hp) (d:ab) (ks:Ab) (F:Str->List Tr):Prop:=∃ ad:Al,H d=some (.dK (A8 ks fun y=>.ref (ad y)))/\∀ y∈ks,StepL H (ad y) (F y)
structure MkI(H H2:Hp)(d:ab)(P:Ab)(F:Str->List Tr):Prop where
 same:Same H H2
 made:IsMk H2 d (G7 [] P) F
theorem f6{t:ab}(hT:C7 K H t xs)(q:∀ p H',Same H H'->C7 K H' p (xs.take 2)->Q (.ref p) H'):rSlR K t none (some 2) H Q:=by
 by_cases h:xs.length<=2
 .refine rSlR.w hT ⟨rfl,?_⟩ (q t H (Same.refl H) (by rw [i8 h];exact hT));rw [show ((2:Int))=((2:Nat):Int) from rfl,HT.sIx_nat];lia
 .refine rSlR.t hT (fun e=>?_) fun p np=>q p _ (Same.new np) (.of ?_)
  .have:=e.2
   rw [show ((2:Int))=((2:Nat):Int) from rfl,HT.sIx_nat] at this;lia
  .rw [A1,show cutV xs none (some 2)=_ from iM xs 2]
noncomputable def UnT (H:Hp) (e:ab×ab) (u:L1):Prop:=H e.1=some (.tup [.int u.1,.int u.2.1,.ref e.2,.int u.2.2.2])/\H e.2=some (.tup (u.2.2.1.map V.int))
structure UnJ(H0 H:Hp)(l:ab)(es:List (ab×ab))(U:List L1):Prop where
 same:Same H0 H
 new:H0 l=none
 top:H l=some (.lst (es.map fun e=>V.ref e.1))
 row:Paired (UnT H) es U
end L2
set_option maxRecDepth 100000
namespace L2
open PySem PySem.Spec PyProof.Rows
end L2
set_option maxRecDepth 100000
namespace PySem
section
variable {prog:ax} {w:av} {A:ay} {E:Ac} {s:ag}
end
end PySem
namespace L2
open PySem PySem.Spec PyProof.Rows
end L2
set_option maxRecDepth 100000
namespace L2
open PySem PySem.Spec PyProof.Rows
noncomputable def aJ (U:List L1):Nat:=(U.map fun u=>u.2.2.1.length).sum
theorem aic(U:List L1)(s:Tr):aJ (addS U s)<=aJ U+1:=by
 unfold addS
 by_cases h:s.1=0
 .rw [if_pos h]
  by_cases hU:U=[]
  .subst hU;unfold addM aJ
   simp
  .obtain ⟨U',u,rfl⟩:=vF hU;unfold addM;rw [oK,oI];simp [aJ];lia
 .rw [if_neg h];simp [aJ]
theorem aeP:∀ (ss:List Tr) (U:List L1),aJ (ss.foldl addS U)<=aJ U+ss.length
 | [],U=>C1 _
 | s::ss,U=>by
  rw [y9,E5];have h1:=aeP ss (addS U s);have h2:=aic U s;lia
theorem ahj{S:Str->List Tr}(hs:∀ y,(S y).length<=15)(ps:Ab):aJ (Q5 S ps)<=15*ps.length:=by
 have h0:(ps.flatMap S).length<=15*ps.length:=by
  induction ps with
  | nil=>exact C1 _
  | cons p ps ih=>
   rw [W6,C6,E5]
   have:=hs p
   lia
 have h1:=aeP (ps.flatMap S) [];unfold Q5;have h2:aJ []=0:=rfl;lia
theorem afK{α β:Type}{F:α->β->Prop} : ∀ {as:List α} {bs:List β},Paired F as bs->Paired F as.reverse bs.reverse
 | _,_,.nil=>.nil
 | _,_,.cons h t=>by
  rw [gR,gR];exact Paired.snoc (afK t) h
theorem aid{S:Str->List Tr}(hs:∀ y,(S y).length<=15){w:Bool}{y:Str}(hy:y.length<=500) :
  (Q5 S (cutF w ks y.cps.toList).2).length<=10000/\(∀ u∈Q5 S (cutF w ks y.cps.toList).2,u.2.2.1.length<=10000)/\aJ (Q5 S (cutF w ks y.cps.toList).2)<=100000:=by
 have h1:=vH hs (cutF w ks y.cps.toList).2;have h2:=(vA (w:=w) (g:=ks) _ y.cps.toList (C1 _)).2.1;have h3:=ahj hs (cutF w ks y.cps.toList).2;rw [lenL] at h2;exact ⟨by lia,fun u hu=>by have:=h1.2 u hu;lia,by lia⟩
end L2
set_option maxRecDepth 100000
namespace PySem.SeqAt
open AutoSeq1 (wpAny_loadPart')
open MeetsSeq MeetsSeq2 MeetsSeq3 SeqRoads2
noncomputable def RcLt (A:ay) (s:ag) (y x:ac) (b:Bool):Prop:=
 ∀ (prog:ax) (w:av) (E:Ac) (Q:Ac),Q (.bool b) s->wpAny (model prog w) A (richCompare .Lt y x) Q E s
theorem alC{α:Type}[DecidableEq α][LT α][DecidableLT α](v9:∀ a:α,¬ a<a){xs ys:List α}(h1:i<xs.length)(h2:i<ys.length) :
  decide (xs.drop i<ys.drop i)=if decide (xs[i]=ys[i])=true then decide (xs.drop (i+1)<ys.drop (i+1)) else decide (xs[i]<ys[i]):=by
 rw [aU h1,aU h2]
 by_cases e:xs[i]=ys[i]
 .rw [if_pos (decide_eq_true e)];refine decide_eq_decide.mpr ?_;rw [kG,e];exact ⟨fun h=>h.elim (fun h=>absurd h (v9 _)) (fun h=>h.2),fun h=>.inr ⟨rfl,h⟩⟩
 .rw [if_neg (by simpa using e)];refine decide_eq_decide.mpr ?_;rw [kG];exact ⟨fun h=>h.elim id fun h=>absurd h.1 e,.inl⟩
theorem anR{α:Type}[LT α][DecidableEq α][DecidableLT α]{ys:List α}{m':Nat}(hx:m=m')(hy:n=ys.length)(hi:i=m):decide ([]<ys.drop i)=decide (m<n):=by
 refine decide_eq_decide.mpr ?_;cases e:ys.drop i with
 | nil=>
  have:=List.drop_eq_nil_iff.mp e
  exact ⟨fun h=>absurd h (List.not_lt_nil _),fun h=>by lia⟩
 | cons a r=>
  have:i<ys.length:=by
   rcases Nat.lt_or_ge i ys.length with h | h
   .exact h
   .rw [kE h] at e;cases e
  exact ⟨fun _=>by lia,fun _=>List.nil_lt_cons _ _⟩
theorem alD{α:Type}[DecidableEq α][LT α][DecidableLT α](v9:∀ a:α,¬ a<a)(l b:ab)(items items2:Ak)(n n2:Nat)(dd k8:Ah)(sl f6:Af)(xs ys:List α)(hx:items.size=xs.length)(hy:items2.size=ys.length)(k:Nat) :
  ∀ i:Nat,items.size-i=k->i<=items.size->i<=items2.size->Meets (Builtin.«list.__eq__.loop» ⟨[.ref l,.ref b,rawInt i,rawInt 0],[]⟩)
   (fun A R s=>s.heap.get? l=some { cls:=.type "list",dict:=dd,data:=.seq items n,slots:=sl }/\s.heap.get? b=some { cls:=.type "list",dict:=k8,data:=.seq items2 n2,slots:=f6 }/\
    (∀ j (h1:j<items.size) (h2:j<items2.size) (g1:j<xs.length) (g2:j<ys.length),EqAt A.in1 s items[j] items2[j] (decide (xs[j]=ys[j]))/\RcLt A.in1 s items[j] items2[j] (decide (xs[j]<ys[j])))/\
    R (.ok (.ret (.bool (decide (xs.drop i<ys.drop i))))) s):=by
 induction k with
 | zero=>
  intro i hk l1 l2 prog w A R s h;obtain ⟨hp,g,d,tk,os⟩:=s;obtain ⟨hl,hb,he,h⟩:=h
  wp_walk using bq hl,bq hb
  have bU:items[((i:Nat):Int).toNat]?=none:=by simp;lia
  rw [bU]
  wp_walk using bq hl,bq hb
  show R (.ok (.ret (.bool (decide (items.size<items2.size))))) _;have e:decide (xs.drop i<ys.drop i)=decide (items.size<items2.size):=by
   rw [kE (as:=xs) (by lia)];exact anR hx hy (by lia)
  rw [e] at h;exact h
 | succ k ih=>
  intro i hk l1 l2 prog w A R s h;obtain ⟨hp,g,d,tk,os⟩:=s;obtain ⟨hl,hb,he,h⟩:=h
  wp_walk using bq hl,bq hb
  have C4:i<items.size:=by lia
  have bU:items[((i:Nat):Int).toNat]?=some items[i]:=by simp [C4]
  by_cases nB:i<items2.size
  .have l8:items2[((i:Nat):Int).toNat]?=some items2[i]:=by simp [nB]
   have hc:((i:Int)+1)=((i+1:Nat):Int):=by push_cast;rfl
   rw [bU,l8];obtain ⟨h1,h2⟩:=he i C4 nB (by lia) (by lia);rw [alC v9 (by lia) (by lia)] at h;refine ar (h1 prog w _ _ ?_);cases T5:decide (xs[i]'(by lia)=ys[i]'(by lia)) with
   | true=>
    rw [T5,if_pos rfl] at h
    wp_walk
    rw [hc];exact ⟨plainId_quiet plain_eq_loop _,codeAny_builtin entry_eq_loop (by
     rw [ay.under_plainId plain_eq_loop _];exact ih (i+1) (by lia) (by lia) (by lia) prog w A R _ ⟨hl,hb,he,h⟩)⟩
   | false=>
    rw [T5,if_neg (by decide)] at h
    wp_walk using bq hl,bq hb
    rw [bU,l8];refine ar (h2 prog w _ _ ?_)
    wp_walk
    exact h
  .have l8:items2[((i:Nat):Int).toNat]?=none:=by simp;lia
   rw [bU,l8]
   wp_walk using bq hl,bq hb
   show R (.ok (.ret (.bool (decide (items.size<items2.size))))) _;have e:decide (xs.drop i<ys.drop i)=decide (items.size<items2.size):=by
    rw [kE (as:=ys) (by lia)];refine decide_eq_decide.mpr ?_;exact ⟨fun h=>absurd h (List.not_lt_nil _),fun h=>by lia⟩
   rw [e] at h;exact h
theorem alE{α:Type}[DecidableEq α][LT α][DecidableLT α](v9:∀ a:α,¬ a<a)(l b:ab)(items items2:Ak)(n n2:Nat)(dd k8:Ah)(sl f6:Af)(xs ys:List α)(hx:items.size=xs.length)(hy:items2.size=ys.length) :
  Meets (Builtin.«list.__lt__» ⟨[.ref l,.ref b],[]⟩)
   (fun A R s=>s.heap.get? l=some { cls:=.type "list",dict:=dd,data:=.seq items n,slots:=sl }/\s.heap.get? b=some { cls:=.type "list",dict:=k8,data:=.seq items2 n2,slots:=f6 }/\
    (∀ j (h1:j<items.size) (h2:j<items2.size) (g1:j<xs.length) (g2:j<ys.length),EqAt A.in1 s items[j] items2[j] (decide (xs[j]=ys[j]))/\RcLt A.in1 s items[j] items2[j] (decide (xs[j]<ys[j])))/\
    R (.ok (.ret (.bool (decide (xs<ys))))) s):=by
 intro prog w A R s h;obtain ⟨hp,g,d,tk,os⟩:=s;obtain ⟨hl,hb,he,h⟩:=h;have f3:=AutoSeq1.sub_list_list
 wp_walk using bq hl,bq hb
 exact ⟨plainId_quiet plain_eq_loop _,codeAny_builtin entry_eq_loop (by
  rw [ay.under_plainId plain_eq_loop _];exact alD v9 l b items items2 n n2 dd k8 sl f6 xs ys hx hy _ 0 rfl (J7 _) (J7 _) prog w A R _ ⟨hl,hb,he,h⟩)⟩
theorem ajL{α:Type}[DecidableEq α][LT α][DecidableLT α](v9:∀ a:α,¬ a<a)(l b:ab)(items items2:Ak)(n n2:Nat)(dd k8:Ah)(sl f6:Af)(xs ys:List α)(hx:items.size=xs.length)(hy:items2.size=ys.length) :
  Meets (Builtin.«tuple.__lt__» ⟨[.ref l,.ref b],[]⟩)
   (fun A R s=>s.heap.get? l=some { cls:=.type "tuple",dict:=dd,data:=.seq items n,slots:=sl }/\s.heap.get? b=some { cls:=.type "tuple",dict:=k8,data:=.seq items2 n2,slots:=f6 }/\
    (∀ j (h1:j<items.size) (h2:j<items2.size) (g1:j<xs.length) (g2:j<ys.length),EqAt A.in1 s items[j] items2[j] (decide (xs[j]=ys[j]))/\RcLt A.in1 s items[j] items2[j] (decide (xs[j]<ys[j])))/\
    R (.ok (.ret (.bool (decide (xs<ys))))) s):=
 .of_wp fun prog w A R s h=>by
  obtain ⟨hp,g,d,tk,os⟩:=s;obtain ⟨hl,hb,he,h⟩:=h;have f2:=AutoSeq1.sub_tuple_tuple;have hZ:(items.toList.zip items2.toList).length=min items.size items2.size:=by simp
  wp_walk using bq hl,bq hb,wpAny_forIn_list _ (fun rest b s'=>b.1=none/\s'=⟨hp,g,d,tk,os⟩/\∃ i,rest=(items.toList.zip items2.toList).drop i/\i<=min items.size items2.size/\
   R (.ok (.ret (.bool (decide (xs.drop i<ys.drop i))))) ⟨hp,g,d,tk,os⟩) _
  case turn=>
   rintro ⟨y,x⟩ rest b s' ⟨T5,rfl,i,hz,hi,hR⟩;have C4:i<(items.toList.zip items2.toList).length:=by
    rcases Nat.lt_or_ge i (items.toList.zip items2.toList).length with h' | h'
    .exact h'
    .rw [kD h'] at hz;cases hz
   have hm:i<min items.size items2.size:=hZ ▸ C4;have h1:i<items.size:=U6 hm (Nat.min_le_left _ _);have h2:i<items2.size:=U6 hm (Nat.min_le_right _ _);rw [aU C4] at hz
   injection hz with hyx g9
   have dH:y=items[i]:=by have:=congrArg Prod.fst hyx;simpa using this
   have hx':x=items2[i]:=by have:=congrArg Prod.snd hyx;simpa using this
   subst dH hx';rw [alC v9 (by lia) (by lia)] at hR;obtain ⟨q1,q2⟩:=he i h1 h2 (by lia) (by lia);refine ar (q1 prog w _ _ ?_);cases dH:decide (xs[i]'(by lia)=ys[i]'(by lia)) with
   | true=>
    rw [dH,if_pos rfl] at hR
    wp_walk
    exact ⟨rfl,rfl,i+1,g9,hm,hR⟩
   | false=>
    rw [dH,if_neg (by decide)] at hR;refine wpAny_ite_split (fun _=>?_) (fun aM=>absurd rfl aM);refine ar (wpAny_rule ?_);refine ar (q2 prog w _ _ ?_)
    wp_walk
    exact ⟨_,rfl,hR⟩
  case fin=>
   rintro ⟨b1,b2⟩ s' ⟨T5,rfl,i,hz,hi,hR⟩;simp only at T5;subst T5;have qW:min items.size items2.size<=i:=by
    rcases Nat.lt_or_ge i (items.toList.zip items2.toList).length with h' | h'
    .rw [aU h'] at hz;cases hz
    .exact hZ ▸ h'
   have e:decide (xs.drop i<ys.drop i)=decide (items.size<items2.size):=by
    by_cases hc:items.size<=i
    .rw [kE (as:=xs) (by lia)];exact anR hx hy (by lia)
    .rw [kE (as:=ys) (by lia)];refine decide_eq_decide.mpr ?_;exact ⟨fun h=>absurd h (List.not_lt_nil _),fun h=>by lia⟩
   rw [e] at hR
   wp_walk
   exact ⟨_,rfl,by simpa [Builtin.Tuple.tupleCompareSizes] using hR⟩
  case h=>
   exact ⟨rfl,rfl,0,rfl,J7 _,h⟩
section
variable {A:ay} {s:ag}
theorem RcLt.lists{α:Type}[DecidableEq α][LT α][DecidableLT α](v9:∀ a:α,¬ a<a){l:ab}{xs ys:List α}(hl:s.heap.IsList l items)(hb:s.heap.IsList b items2)(hx:items.size=xs.length)(hy:items2.size=ys.length)(hu:A.units<cLine)(he:∀ j (h1:j<items.size) (h2:j<items2.size) (g1:j<xs.length) (g2:j<ys.length),EqAt A.in1 s items[j] items2[j] (decide (xs[j]=ys[j]))/\RcLt A.in1 s items[j] items2[j] (decide (xs[j]<ys[j]))):RcLt A s (.ref l) (.ref b) (decide (xs<ys)):=fun prog w E Q h=>by
 obtain ⟨⟨cls,dd,data,sl⟩,ho,hc,n,hd⟩:=id hl;obtain ⟨⟨cls2,k8,data2,f6⟩,g7,Y8,n2,T4⟩:=id hb;simp only at hc hd Y8 T4;subst hc hd Y8 T4;exact richCompare_meets_room (op:=.Lt) ⟨_,ho,rfl⟩ ⟨_,g7,rfl⟩ F.slot_list_lt F.entry_list_lt (F.args_list_lt_2 _ _) (alE v9 l b items items2 n n2 dd k8 sl f6 xs ys hx hy)
  ⟨ho,g7,he,show ac.bool (decide (xs<ys))≠ac.notImplemented/\Q (.bool (decide (xs<ys))) s from ⟨(fun x=>nomatch x),h⟩⟩ hu
theorem RcLt.tuples{α:Type}[DecidableEq α][LT α][DecidableLT α](v9:∀ a:α,¬ a<a){l:ab}{xs ys:List α}(hl:s.heap.IsTuple l items)(hb:s.heap.IsTuple b items2)(hx:items.size=xs.length)(hy:items2.size=ys.length)(hu:A.units<cLine)(he:∀ j (h1:j<items.size) (h2:j<items2.size) (g1:j<xs.length) (g2:j<ys.length),EqAt A.in1 s items[j] items2[j] (decide (xs[j]=ys[j]))/\RcLt A.in1 s items[j] items2[j] (decide (xs[j]<ys[j]))):RcLt A s (.ref l) (.ref b) (decide (xs<ys)):=fun prog w E Q h=>by
 obtain ⟨⟨cls,dd,data,sl⟩,ho,hc,n,hd⟩:=id hl;obtain ⟨⟨cls2,k8,data2,f6⟩,g7,Y8,n2,T4⟩:=id hb;simp only at hc hd Y8 T4;subst hc hd Y8 T4;exact richCompare_meets_room (op:=.Lt) ⟨_,ho,rfl⟩ ⟨_,g7,rfl⟩ F.slot_tuple_lt F.entry_tuple_lt (F.args_tuple_lt_2 _ _) (ajL v9 l b items items2 n n2 dd k8 sl f6 xs ys hx hy)
  ⟨ho,g7,he,show ac.bool (decide (xs<ys))≠ac.notImplemented/\Q (.bool (decide (xs<ys))) s from ⟨(fun x=>nomatch x),h⟩⟩ hu
theorem RcLt.int_int(a:Int)(t:Tok)(b:Int)(u:Tok):RcLt A s (.int a t) (.int b u) (decide (a<b)):=fun prog w E Q h=>PySem.P.lt_int h
end
end PySem.SeqAt
namespace L2
open PySem PySem.Spec PyProof.Rows
theorem vI{its2:Ae}{xs ys:Am}(r1:Vals (xs.map V.int) its)(r2:Vals (ys.map V.int) its2) :
  ∀ j (h1:j<its.toArray.size) (h2:j<its2.toArray.size) (g1:j<xs.length) (g2:j<ys.length),SeqAt.EqAt A s its.toArray[j] its2.toArray[j] (decide (xs[j]=ys[j]))/\SeqAt.RcLt A s its.toArray[j] its2.toArray[j] (decide (xs[j]<ys[j])):=by
 intro j h1 h2 g1 g2;obtain ⟨t,e1⟩:=pQ (oU r1) (j:=j) (z:=xs[j]) (by simp);obtain ⟨u,e2⟩:=pQ (oU r2) (j:=j) (z:=ys[j]) (by simp);have q1:its.toArray[j]=.int xs[j] t:=by have:=(F8.mp e1).2;simpa using this
 have q2:its2.toArray[j]=.int ys[j] u:=by have:=(F8.mp e2).2;simpa using this
 rw [q1,q2];refine ⟨?_,SeqAt.RcLt.int_int _ _ _ _⟩
 have:=SeqAt.EqAt.int_int (A:=A) (s:=s) xs[j] t ys[j] u
 rwa [show (xs[j]==ys[j])=decide (xs[j]=ys[j]) by rw [Bool.beq_eq_decide_eq]] at this
noncomputable def rLtR (K:aj) (a b:ab) (H:Hp) (Q:VK):Prop:=
 (∃ xs ys:Am,D9 K H a (xs.map V.int)/\D9 K H b (ys.map V.int)/\Q (.bl (decide (xs<ys))) H)\/
 (∃ xs ys:Am,C7 K H a (xs.map V.int)/\C7 K H b (ys.map V.int)/\Q (.bl (decide (xs<ys))) H)\/
 ∃ (as bs:Ai) (xs ys:List Am),D9 K H a (as.map V.ref)/\D9 K H b (bs.map V.ref)/\Paired (fun c x=>C7 K H c (x.map V.int)) as xs/\Paired (fun c x=>C7 K H c (x.map V.int)) bs ys/\Q (.bl (decide (xs<ys))) H
noncomputable def rLtK (K:aj):V->V->Hp->VK->Prop
 | .int i,.int j,H,Q=>Q (.bl (decide (i<j))) H
 | .str i,.str j,H,Q=>Q (.bl (decide (i.cps.toList<j.cps.toList))) H
 | .ref a,.ref b,H,Q=>rLtR K a b H Q
 | _,_,_,_=>False
theorem q_ltK(hu:X.A.units+64<cLine)(hK:X.K=K:=by rfl):QOp X (bc .Lt) (rLtK K):=⟨by
 subst hK;intro aa s Y H x y v u Q I rx ry h;have u0:X.A.units<cLine:=by lia
 have u1:X.A.in1.units<cLine:=by rw [show X.A.in1.units=X.A.units+1 from rfl];lia
 have u2:X.A.in1.in1.units<cLine:=by rw [show X.A.in1.in1.units=X.A.units+2 from rfl];lia
 cases x <;> cases y <;> try exact h.elim
 .exact op_lt aa s Y H _ _ v u Q I rx ry ⟨_,_,rfl,rfl,h⟩
 .exact agz aa s Y H _ _ v u Q I rx ry ⟨_,_,rfl,rfl,h⟩
 cases rx
 cases ry
 rcases h with ⟨xs,ys,h1,h2,q⟩ | ⟨xs,ys,h1,h2,q⟩ | ⟨as,bs,xs,ys,h1,h2,p1,p2,q⟩
 .obtain ⟨its,r1,l1,_⟩:=I.list h1;obtain ⟨its2,r2,l2,_⟩:=I.list h2;have e1:=r1.length;have e2:=r2.length;rw [A3] at e1 e2;exact SeqAt.RcLt.lists Int.lt_irrefl l1.isList l2.isList (by simpa using e1.symm) (by simpa using e2.symm) u0 (vI r1 r2) _ _ _ _ ⟨.bl _,H,I,rfl,q⟩
 .obtain ⟨its,r1,l1,_⟩:=I.tuple h1;obtain ⟨its2,r2,l2,_⟩:=I.tuple h2;have e1:=r1.length;have e2:=r2.length;rw [A3] at e1 e2;exact SeqAt.RcLt.tuples Int.lt_irrefl l1 l2 (by simpa using e1.symm) (by simpa using e2.symm) u0 (vI r1 r2) _ _ _ _ ⟨.bl _,H,I,rfl,q⟩
 .obtain ⟨its,r1,l1,_⟩:=I.list h1;obtain ⟨its2,r2,l2,_⟩:=I.list h2;have e1:=r1.length;have e2:=r2.length;rw [A3] at e1 e2;have f1:=Paired.length p1;have f2:=Paired.length p2;refine SeqAt.RcLt.lists (xs:=xs) (ys:=ys) (fun a=>List.lt_irrefl a) l1.isList l2.isList (by simp;lia) (by simp;lia) u0 (fun j h1 h2 g1 g2=>?_) _ _ _ _ ⟨.bl _,H,I,rfl,q⟩;have j1:j<as.length:=by lia
  have j2:j<bs.length:=by lia
  obtain ⟨v1,w1,z1⟩:=Vals.get (i:=j) (x:=.ref as[j]) r1 (by simp [j1]);obtain ⟨v2,w2,z2⟩:=Vals.get (i:=j) (x:=.ref bs[j]) r2 (by simp [j2]);have q1:its.toArray[j]=v1:=by have:=(F8.mp w1).2;simpa using this
  have q2:its2.toArray[j]=v2:=by have:=(F8.mp w2).2;simpa using this
  rw [q1,q2];obtain ⟨x1,y1,t1⟩:=Paired.at p1 (i:=j) (a:=as[j]) (by simp [j1]);obtain ⟨x2,y2,t2⟩:=Paired.at p2 (i:=j) (a:=bs[j]) (by simp [j2]);have o1:xs[j]=x1:=(F8.mp y1).2;have o2:ys[j]=x2:=(F8.mp y2).2;rw [o1,o2]
  constructor
  .obtain ⟨c1,us1,d1⟩:=(Dn.tup t1 iE).reads I rfl z1;obtain ⟨c2,us2,d2⟩:=(Dn.tup t2 iE).reads I rfl z2
   have:=SeqAt.eqAt_reads _ _ X.A.in1 s v1 v2 _ _ d1 d2 c1 c2 (by
    have hd:∀ zs:Am,(PyData.tuple (zs.map bD)).depth=1:=fun zs=>by rw [eO,pD]
    have ui:X.A.in1.units=X.A.units+1:=rfl;rw [hd,hd];lia)
   rwa [Y0,oZ] at this
  .cases z1
   cases z2
   obtain ⟨i1,s1,m1,_⟩:=I.tuple t1;obtain ⟨i2,s2,m2,_⟩:=I.tuple t2;have k1:=s1.length;have k2:=s2.length;rw [A3] at k1 k2;exact SeqAt.RcLt.tuples Int.lt_irrefl m1 m2 (by simpa using k1.symm) (by simpa using k2.symm) u1 (vI s1 s2)⟩
section
variable {K:aj} {H:Hp} {Q:VK}
theorem aso{i j:Int} : rLtK K (.int i) (.int j) H Q=Q (.bl (decide (i<j))) H:=rfl
theorem asp{i j:Str} : rLtK K (.str i) (.str j) H Q=Q (.bl (decide (i.cps.toList<j.cps.toList))) H:=rfl
theorem asq : rLtK K (.ref a) (.ref b) H Q=rLtR K a b H Q:=rfl
end
end L2
set_option maxRecDepth 100000
set_option hygiene false in
open L2 in
local macro_rules | `(tactic| walk_at "rd")=>`(tactic| simp only [↓apr0,apr0,↓apr1,apr1,↓apr2,apr2,↓apr3,apr3,↓apr4,apr4,↓apr5,apr5,↓apr6,apr6,↓apr7,apr7,↓apr8,apr8,↓apr9,apr9,↓apr10,apr10,↓apr11,apr11,↓apr12,apr12,↓apr13,apr13,↓apr14,apr14,↓tP,↓ap_c,↓aoM,↓arx,↓amD,↓aoN,↓aoO,↓ary,↓aoP,↓arz,↓arA,↓aoQ,↓ap_op,↓aoH,↓ap_tB,↓arv,↓aru,↓ap_or,↓aoK,↓arw,↓aoL,↓aoJ,↓ap_if,↓amC,↓ap_cb,↓aoU,↓arD,↓aoV,↓arE,↓arF,↓ap_sl,↓akF,↓aoW,↓arI,↓ao6,↓amH,↓ao4,↓ao5,↓amI,↓amJ,↓ap_bm,↓arG,↓arB,↓aoS,↓aoR,↓amF,↓aoT,↓ap_un,↓ap_rU,↓arC,↓arH,↓aoX,↓aoY,↓aoZ,↓ao0,↓amE,↓ao1,↓amG,↓ao2,↓aoI,ao3,ao7,amK,amL,amM,↓ad_ii,↓ad_ss,↓ad_rr,↓mu_ii,↓mu_ri,↓eq_ii,↓eq_ss,↓eq_bb,↓eq_rx,↓eq_xr,↓ne_ii,↓ne_ss,↓ne_bb,↓ne_rx,↓ne_xr,↓L2.lt_ii,↓L2.lt_ss,↓le_ii,↓le_ss,↓gt_ii,↓gt_ss,↓ge_ii,↓ge_ss,↓in_xs,↓in_xr,↓sl_s,↓sl_r,↓len_s,↓len_r,↓arN,↓all_r,↓isi_t,↓ord_s,↓arT,↓amQ,kV_str,↓amR,↓tup_r,↓aqd,↓arU,↓arV,↓aqe,↓aqf,↓amT,↓amU,↓ao8,↓ao9,↓alk,↓rng_r,↓aqq,↓aso,↓asp,↓asq,↓asl,↓ase,↓asc,↓aqo,↓alf,↓ash,↓asi,↓asj,↓any_r,↓am4,↓aql,↓aqm,↓ar3,↓aqn,↓am5,↓aqg,↓amZ,↓aqi,↓amY,amN,agR,cxK,cxKn,cxKb,cxC,cxCn,cxCb,E2,j0,E5,P9,Nat.sub_self,Nat.reduceAdd,Nat.reduceSub,Nat.zero_add,Nat.add_one_sub_one,List.replicate_zero,gP,L5,aY,List.cons_append,List.getElem?_cons_zero,List.getElem?_cons_succ,List.set_cons_zero,List.set_cons_succ,Option.some.injEq,Option.join_some,Option.join_none,exists_eq_left',exists_eq_left,exists_eq',exists_eq,reduceCtorEq,false_and,and_false,exists_false,exists_const,false_or,or_false,true_and,and_true,V.str.injEq,V.int.injEq,V.bl.injEq,V.ref.injEq,V.ty.injEq,List.cons.injEq,exists_and_left,exists_and_right,and_assoc,if_true,if_false,Bool.false_eq_true,Bool.not_true,Bool.not_false,ite_true,ite_false,Int.reduceLT,Int.reduceLE,J7])
local macro_rules | `(tactic| walk_at "ln")=>`(tactic| (intro _ _ _ _ h;repeat (first | (obtain ⟨e,_⟩:=h;subst e;rfl) | (obtain ⟨_,h⟩:=h))))
namespace K88
open PySem PySem.Spec PyProof.Rows L2
set_option maxRecDepth 100000
set_option maxHeartbeats 4000000
noncomputable def top (i:Nat):aq:=PySem.Challenge.pw_sortlore_k88_whole_book_of_changes.main.body.getD i (.Pass ⟨0,0,0,0⟩)
noncomputable abbrev vJ:aq:=top 11
noncomputable abbrev vK:aq:=top 12
noncomputable abbrev vL:aq:=top 15
noncomputable abbrev iZ:aq:=top 18
noncomputable abbrev vM:aq:=top 23
noncomputable abbrev pY:aq:=top 33
noncomputable abbrev vN:aq:=top 34
noncomputable abbrev pZ:aq:=top 35
noncomputable abbrev vO:aq:=top 36
noncomputable abbrev fH:aq:=top 37
noncomputable abbrev vP:aq:=top 38
noncomputable abbrev qA:aq:=top 39
noncomputable abbrev vQ:aq:=top 40
noncomputable abbrev qB:aq:=top 41
noncomputable abbrev vR:aq:=j7 (top 42) 0
noncomputable abbrev vS:aq:=j7 (top 42) 1
noncomputable abbrev vT:aq:=j7 (top 42) 2
noncomputable abbrev vU:aq:=j7 (top 42) 3
noncomputable abbrev vV:aq:=top 24
noncomputable abbrev vW:aq:=top 25
noncomputable abbrev s_cut:aq:=top 26
noncomputable abbrev vX:aq:=j7 (top 42) 4
noncomputable abbrev vY:aq:=j7 (top 42) 5
noncomputable abbrev vZ:aq:=top 63
noncomputable abbrev wA:aq:=top 64
noncomputable abbrev wB:aq:=top 65
noncomputable abbrev wC:aq:=top 66
noncomputable abbrev qC:aq:=top 67
noncomputable abbrev wD:aq:=top 58
noncomputable abbrev wE:aq:=top 59
noncomputable abbrev wF:aq:=top 60
noncomputable abbrev wG:aq:=top 50
noncomputable abbrev qD:aq:=top 51
noncomputable abbrev fI:aq:=top 52
noncomputable abbrev wH:aq:=top 72
noncomputable abbrev wI:aq:=top 73
noncomputable abbrev wJ:aq:=top 74
noncomputable abbrev lW:aq:=top 61
noncomputable abbrev fJ:aq:=top 69
noncomputable abbrev jA:aq:=top 70
noncomputable abbrev wK:aq:=top 21
noncomputable abbrev qE:aq:=top 22
noncomputable abbrev qF:aq:=top 47
noncomputable abbrev wM:aq:=top 48
noncomputable abbrev qG:aq:=top 54
noncomputable abbrev wN:aq:=top 55
noncomputable abbrev wO:aq:=j7 (top 56) 2
noncomputable abbrev wP:aq:=j7 (top 56) 3
noncomputable abbrev wQ:aq:=j7 (top 56) 1
noncomputable abbrev wR:aq:=j7 (top 56) 0
noncomputable abbrev wS:aq:=j7 (top 56) 5
noncomputable abbrev wT:aq:=j7 (top 56) 6
noncomputable abbrev wU:aq:=top 49
noncomputable abbrev wV:aq:=top 75
noncomputable abbrev wW:aq:=j7 (top 56) 7
noncomputable abbrev lX:aq:=top 76
noncomputable abbrev qH:aq:=top 77
noncomputable abbrev wX:aq:=top 78
noncomputable abbrev s_law:aq:=top 79
noncomputable def visB (S:bj) (x:Str):Bool:=decide (S.names.lookup x=some .local) || decide (S.names.lookup x=some .cell) || decide (S.names.lookup x=some .free)
theorem qvd{pos:aw}{S:bj}(hN:X.N=N)(hs:X.env.scope=S)(h:(decide (N[n]?=some x)&&visB S x && !(x==("__debug__" : Str)) && !(x==("__classdict__" : Str)))=true):QE X (.Name x pos) (tVar n):=by
 subst hN hs;simp only [visB,V3,Bool.or_eq_true,decide_eq_true_eq,kL] at h;exact qe_v h.1.1.1 (h.1.1.2.elim (fun z=>z.elim .inl fun z=>.inr (.inl z)) fun z=>.inr (.inr z)) h.1.2 h.2
noncomputable def getS:Nat->L2.St->Ap
 | 0,x::_=>x
 | n+1,_::Y=>getS n Y
 | _,[]=>none
noncomputable def useS:Ap->Hp->VK->Prop
 | some v,H,Q=>Q v H
 | none,_,_=>False
noncomputable def O8 (n:Nat):TE:=fun Y H Q=>useS (getS n Y) H Q
theorem alG:∀ (n:Nat) (Y:L2.St),getS n Y=(Y[n]?).join
 | 0,[]=>rfl
 | 0,x::_=>by cases x <;> rfl
 | n+1,[]=>rfl
 | n+1,x::Y=>by show getS n Y=_;rw [alG n Y];rfl
theorem tvr{pos:aw}(h:QE X (.Name x pos) (tVar n)):QE X (.Name x pos) (O8 n):=⟨fun aa s Y H Q I q=>h.out aa s Y H Q I (by
 unfold O8 at q;rw [alG] at q;rw [tP];cases e:(Y[n]?).join with
 | none=>rw [e] at q;exact q.elim
 | some v=>rw [e] at q;exact ⟨v,rfl,q⟩)⟩
theorem F9{pos:aw}(n:Nat)(hN:X.N[n]?=some x:=by rfl)(hv:gZ X.env.scope x:=by first | exact Or.inl rfl | exact Or.inr (Or.inl rfl) | exact Or.inr (Or.inr rfl))(hd:(x==("__debug__" : Str))=false:=by decide)(g3:(x==("__classdict__" : Str))=false:=by decide):QE X (.Name x pos) (O8 n):=tvr (qv n hN hv hd g3)
theorem apr0{w:V}{Y:L2.St} : O8 0 (some w::Y) H Q=Q w H:=rfl
theorem apr1{a0:Ap}{w:V}{Y:L2.St} : O8 1 (a0::some w::Y) H Q=Q w H:=rfl
theorem apr2{a0 a1:Ap}{w:V}{Y:L2.St} : O8 2 (a0::a1::some w::Y) H Q=Q w H:=rfl
theorem apr3{a0 a1 a2:Ap}{w:V}{Y:L2.St} : O8 3 (a0::a1::a2::some w::Y) H Q=Q w H:=rfl
theorem apr4{a0 a1 a2 a3:Ap}{w:V}{Y:L2.St} : O8 4 (a0::a1::a2::a3::some w::Y) H Q=Q w H:=rfl
theorem apr5{a0 a1 a2 a3 a4:Ap}{w:V}{Y:L2.St} : O8 5 (a0::a1::a2::a3::a4::some w::Y) H Q=Q w H:=rfl
theorem apr6{a0 a1 a2 a3 a4 a5:Ap}{w:V}{Y:L2.St} : O8 6 (a0::a1::a2::a3::a4::a5::some w::Y) H Q=Q w H:=rfl
theorem apr7{a0 a1 a2 a3 a4 a5 a6:Ap}{w:V}{Y:L2.St} : O8 7 (a0::a1::a2::a3::a4::a5::a6::some w::Y) H Q=Q w H:=rfl
theorem apr8{a0 a1 a2 a3 a4 a5 a6 a7:Ap}{w:V}{Y:L2.St} : O8 8 (a0::a1::a2::a3::a4::a5::a6::a7::some w::Y) H Q=Q w H:=rfl
theorem apr9{a0 a1 a2 a3 a4 a5 a6 a7 a8:Ap}{w:V}{Y:L2.St} : O8 9 (a0::a1::a2::a3::a4::a5::a6::a7::a8::some w::Y) H Q=Q w H:=rfl
theorem apr10{a0 a1 a2 a3 a4 a5 a6 a7 a8 a9:Ap}{w:V}{Y:L2.St} : O8 10 (a0::a1::a2::a3::a4::a5::a6::a7::a8::a9::some w::Y) H Q=Q w H:=rfl
theorem apr11{a0 a1 a2 a3 a4 a5 a6 a7 a8 a9 a10:Ap}{w:V}{Y:L2.St} : O8 11 (a0::a1::a2::a3::a4::a5::a6::a7::a8::a9::a10::some w::Y) H Q=Q w H:=rfl
theorem apr12{a0 a1 a2 a3 a4 a5 a6 a7 a8 a9 a10 a11:Ap}{w:V}{Y:L2.St} : O8 12 (a0::a1::a2::a3::a4::a5::a6::a7::a8::a9::a10::a11::some w::Y) H Q=Q w H:=rfl
theorem apr13{a0 a1 a2 a3 a4 a5 a6 a7 a8 a9 a10 a11 a12:Ap}{w:V}{Y:L2.St} : O8 13 (a0::a1::a2::a3::a4::a5::a6::a7::a8::a9::a10::a11::a12::some w::Y) H Q=Q w H:=rfl
theorem apr14{a0 a1 a2 a3 a4 a5 a6 a7 a8 a9 a10 a11 a12 a13:Ap}{w:V}{Y:L2.St} : O8 14 (a0::a1::a2::a3::a4::a5::a6::a7::a8::a9::a10::a11::a12::a13::some w::Y) H Q=Q w H:=rfl
structure NLS(N:Ab)(S:bj):Prop where
 nd:N.Nodup
 ok:∀ (n:Nat) (x:Str),N[n]?=some x->e9 S x/\(visB S x && !(x==("__debug__" : Str)) && !(x==("__classdict__" : Str)))=true
theorem E6{Q:Ab}{S:bj}(sc:FnScope N Q S)(h:∀ x∈N,e9 S x/\(visB S x && !(x==("__debug__" : Str)) && !(x==("__classdict__" : Str)))=true:=by unfold L2.e9;decide +kernel):NLS N S:=⟨sc.nd,fun n x e=>h x (K2 e)⟩
theorem qz{pos:aw}(n:Nat){S:bj}(hZ:NLS N S:=by assumption)(h1:X.N=N:=by rfl)(h2:X.env.scope=S:=by rfl)(hi:X.N[n]?=some x:=by rfl):QE X (.Name x pos) (O8 n):=tvr (qvd h1 h2 (by have:=(hZ.ok n x (h1 ▸ hi)).2;rw [<- h1,hi];simpa using this))
theorem C5{pos:aw}(n:Nat)(he:QE X e te){S:bj}(hZ:NLS N S:=by assumption)(h1:X.N=N:=by rfl)(h2:X.env.scope=S:=by rfl)(hi:X.N[n]?=some x:=by rfl)(hs:bv e (some (.Name x pos')) pos.line X.env=pure false:=by rfl)(hf:X.fn x=true:=by rfl):QS X (.Assign [.Name x pos'] e pos) (tAsg te (gName n)):=arP (n:=n) (h1 ▸ hZ.nd) hi (h2 ▸ (hZ.ok n x (h1 ▸ hi)).1) he hs hf
theorem K7{pos:aw}(n:Nat){S:bj}(hZ:NLS N S:=by assumption)(h1:X.N=N:=by rfl)(h2:X.env.scope=S:=by rfl)(hi:X.N[n]?=some x:=by rfl)(hf:X.fn x=true:=by rfl):QG X (.Name x pos) (gName n):=N9 (n:=n) (h1 ▸ hZ.nd) hi (h2 ▸ (hZ.ok n x (h1 ▸ hi)).1) (.inl hf)
theorem qaz{pos:aw}{op:Operator}{tip:cN}(n:Nat)(he:QE X e te)(ho:QIp X op tip){S:bj}(hZ:NLS N S:=by assumption)(h1:X.N=N:=by rfl)(h2:X.env.scope=S:=by rfl)(hi:X.N[n]?=some x:=by rfl)(hf:X.fn x=true:=by rfl):QS X (.AugAssign (.Name x pos') op e pos) (tAug n te tip):=arQ (n:=n) (h1 ▸ hZ.nd) hi (h2 ▸ (hZ.ok n x (h1 ▸ hi)).1) he ho hf
theorem C3{a:ao}{ta:TE}(x:QE X a ta)(h:F6 a=false:=by rfl):QA X [a] (tCons ta tNil):=qa_c x R9 h
theorem K8{a b:ao}{ta tb:TE}(x:QE X a ta)(y:QE X b tb)(h:F6 a=false:=by rfl)(h2:F6 b=false:=by rfl):QA X [a,b] (tCons ta (tCons tb tNil)):=qa_c x (C3 y h2) h
theorem U8{a b c:ao}{ta tb:TE}(x:QE X a ta)(y:QE X b tb)(z:QE X c tc)(h:F6 a=false:=by rfl)(h2:F6 b=false:=by rfl)(h3:F6 c=false:=by rfl):QA X [a,b,c] (tCons ta (tCons tb (tCons tc tNil))):=qa_c x (K8 y z h2 h3) h
theorem dB{a b c d:ao}{ta tb:TE}(x:QE X a ta)(y:QE X b tb)(z:QE X c tc)(u:QE X d td)(h:F6 a=false:=by rfl)(h2:F6 b=false:=by rfl)(h3:F6 c=false:=by rfl)(h4:F6 d=false:=by rfl):QA X [a,b,c,d] (tCons ta (tCons tb (tCons tc (tCons td tNil)))):=qa_c x (U8 y z u h2 h3 h4) h
theorem O0{a b:ao}{ta tb:TE}{pos:aw}(x:QE X a ta)(y:QE X b tb)(hK:X.K=K:=by rfl):QE X (.BinOp a .Add b pos) (j5 (rAddU K) ta tb):=qe_op (q_add hK) x y
theorem M4{a b:ao}{ta tb:TE}{pos:aw}(x:QE X a ta)(y:QE X b tb):QE X (.BinOp a .Mod b pos) (j5 (rI (fun _ j=>0<j) fun i j=>.int (i % j)) ta tb):=qe_op q_mod x y
theorem V9{a b:ao}{ta tb:TE}{pos:aw}(x:QE X a ta)(y:QE X b tb):QE X (.BinOp a .FloorDiv b pos) (j5 (rI CDiv fun i j=>.int (i / j)) ta tb):=qe_op arR x y
theorem E4{tl:TA}{p pos:aw}(G:FO X.prog X.w X.K X.mg X.base j x ps dvs sp)(ha:QA X (e::es) tl)(hr:Room k X.A:=by assumption)(hj:j<=k:=by decide)(hg:Gl X x:=by rfl)(h1:F6 e=false:=by rfl)(h2:W9 es=true:=by rfl)(Q9:(x==("__debug__" : Str))=false:=by decide):QE X (.Call (.Name x p) (e::es) [] pos) (tCall sp dvs E0 tl):=amO G (hr.mono hj) ha hg h1 h2 Q9
theorem W0{p pos:aw}(hm:X.mg "len"=none)(x:QE X e te)(h1:F6 e=false:=by rfl)(hg:Gl X "len":=by rfl)(hK:X.K=K:=by rfl):QE X (.Call (.Name "len" p) [e] [] pos) (cP (rLenU K) (tCons te tNil)):=qe_cB (q_len hK) hm arJ (C3 x h1) hg h1
theorem U9{o:ao}{pos:aw}(x:QE X o to)(y:QE X e te)(h1:F6 e=false:=by rfl)(G1:bu o "append" X.env (eval o X.env)=eval o X.env:=by rfl)(G2:(apos.endLine==cpos.line)=true:=by rfl)(hs:bv (.Call (.Attribute o "append" apos) [e] [] cpos) none pos.line X.env=pure false:=by rfl)(hK:X.K=K:=by rfl):QS X (.Expr (.Call (.Attribute o "append" apos) [e] [] cpos) pos) (tDrop (iA K "list" cR to (tCons te tNil))):=Z9 (qe_mB q0 PySem.F.slot_list_append PySem.F.type_list_append amP x (C3 y h1) h1 rfl rfl G1 G2 hK) hs
theorem len1{α:Type}{F:List α->Prop}(h:∀ a,F [a]):∀ us:List α,us.length=1->F us
 | [a],_=>h a
theorem len2{α:Type}{F:List α->Prop}(h:∀ a b,F [a,b]):∀ us:List α,us.length=2->F us
 | [a,b],_=>h a b
theorem len3{α:Type}{F:List α->Prop}(h:∀ a b c,F [a,b,c]):∀ us:List α,us.length=3->F us
 | [a,b,c],_=>h a b c
theorem len4{α:Type}{F:List α->Prop}(h:∀ a b c d,F [a,b,c,d]):∀ us:List α,us.length=4->F us
 | [a,b,c,d],_=>h a b c d
theorem len5{α:Type}{F:List α->Prop}(h:∀ a b c d e,F [a,b,c,d,e]):∀ us:List α,us.length=5->F us
 | [a,b,c,d,e],_=>h a b c d e
theorem E7{Q:Ab}{sc:bj}(h1:sc.kind=.function:=by rfl)(h2:sc.isCoroutine=false:=by rfl)(h3:sc.isGenerator=false:=by rfl)(h4:N.Nodup:=by decide +kernel)(h5:N.take Q.length=Q:=by rfl)(h6:∀ x∈Q,sc.names.lookup x=some .local\/sc.names.lookup x=some .cell:=by decide +kernel)(h7:∀ y∈sc.names,y.2≠.free:=by decide +kernel):FnScope N Q sc:=⟨h1,h2,h3,h4,h5,h6,h7⟩
theorem P8{kn:List (Str×bm)}{sc:bj}(h1:sc.kind=.function:=by rfl)(h2:∀ x∈sc.names,x.2≠.cell:=by decide +kernel)(h3:∀ x∈sc.names,x.2=.local->sc.names.lookup x.1=some .local:=by decide +kernel)(h4:∀ x∈sc.names,x.2=.free->kn.lookup x.1=some .cell\/kn.lookup x.1=some .free:=by decide +kernel)(h5:∀ x∈sc.names,x.2=.free->sc.names.lookup x.1=some .free:=by decide +kernel)(h6:N'.length=k+ixs.length:=by rfl)(h7:ixs.map (fun i=>N[i]?)=(N'.drop k).map some:=by decide +kernel)(h8:∀ x∈N'.drop k,(x,bm.free)∈sc.names:=by decide +kernel):CompOk N kn sc N' k ixs:=⟨h1,h2,h3,h4,h5,h6,h7,h8⟩
theorem hm(r:Room k A)(h:j<=k:=by decide):Room j A:=r.mono h
structure DF(K:aj)(n:Str)(s:aq):Prop where
 ex:∃ (f:ab) (oc:ac) (od:Ah) (kV dc pm:ac) (an:Ah) (cd ct:ac) (sl:Af),N6 K be n=some (some (.ref f))/\K.lookup f=some ⟨oc,od,.func (X9 n n (f7 s) (Z8 s) (B5 s) .none kV dc pm an cd ct),sl⟩/\p9 K cd n=true/\Z4 K (.ref f)=true
theorem df_mk{n:Str}{s:aq}{kV:ac}{sl:Af}(a:N6 K be n=some (some (.ref f)))(l:K.lookup f=some ⟨oc,od,.func (X9 n n (f7 s) (Z8 s) (B5 s) .none kV dc pm an cd ct),sl⟩)(c:p9 K cd n=true)(k:Z4 K (.ref f)=true):DF K n s:=⟨f,oc,od,kV,dc,pm,an,cd,ct,sl,a,l,c,k⟩
theorem DF.go{P:ax}{w:av}{base:au}{n:Str}{s:aq}(d:DF K n s)(X:K.In h)(G:h.Ns be mg)(_:K.In base)(ok:∀ {f fd},FunD K n n s f fd->FnOk P w K mg base D1 k f fd ps sp)(hl:∀ (kV dc pm:ac) (an:Ah) (cd ct:ac) (us:Ae),us.length=ps.length->bindArgs (X9 n n (f7 s) (Z8 s) (B5 s) .none kV dc pm an cd ct) ⟨us,[]⟩=pure (ps.zip us):=by first | exact fun _ _ _ _ _ _=>len1 fun _=>rfl | exact fun _ _ _ _ _ _=>len2 fun _ _=>rfl | exact fun _ _ _ _ _ _=>len3 fun _ _ _=>rfl | exact fun _ _ _ _ _ _=>len4 fun _ _ _ _=>rfl | exact fun _ _ _ _ _ _=>len5 fun _ _ _ _ _=>rfl):FO P w K mg base k n ps [] sp:=by
 obtain ⟨f,oc,od,kV,dc,pm,an,cd,ct,sl,a,l,c,kp⟩:=d.ex;exact ⟨_,_,ok (kY (st:=s) l c),W7 X G a,kp,[],.all (hl kV dc pm an cd ct),.nil⟩
structure MD(K:aj)(C:ab)(n q:Str)(s:aq):Prop where
 ex:∃ (f:ab) (oc:ac) (od:Ah) (kV dc pm:ac) (an:Ah) (cd ct:ac) (sl:Af),Q1 K (.ref C) n=some (some (.ref f))/\PySem.W.isFn K (.ref f)=true/\K.lookup f=some ⟨oc,od,.func (X9 n q (f7 s) (Z8 s) (B5 s) .none kV dc pm an cd ct),sl⟩/\p9 K cd q=true/\Z4 K (.ref f)=true
theorem md_mk{n:Str}{s:aq}{kV:ac}{sl:Af}(a:Q1 K (.ref C) n=some (some (.ref f)))(i:PySem.W.isFn K (.ref f)=true)(l:K.lookup f=some ⟨oc,od,.func (X9 n q (f7 s) (Z8 s) (B5 s) .none kV dc pm an cd ct),sl⟩)(c:p9 K cd q=true)(k:Z4 K (.ref f)=true):MD K C n q s:=⟨f,oc,od,kV,dc,pm,an,cd,ct,sl,a,i,l,c,k⟩
theorem MD.al{P:ax}{w:av}{base:au}{n:Str}{s:aq}{cx:Y2}(d:MD K C n q s)(_:K.In base)(ok:∀ {f fd},FunD K n q s f fd->FnOk P w K mg base cx k f fd ps sp)(hl:∀ (kV dc pm:ac) (an:Ah) (cd ct:ac) (us:Ae),us.length=ps.length->bindArgs (X9 n q (f7 s) (Z8 s) (B5 s) .none kV dc pm an cd ct) ⟨us,[]⟩=pure (ps.zip us):=by first | exact fun _ _ _ _ _ _=>len1 fun _=>rfl | exact fun _ _ _ _ _ _=>len2 fun _ _=>rfl | exact fun _ _ _ _ _ _=>len3 fun _ _ _=>rfl):∃ f fd,FnOk P w K mg base cx k f fd ps sp/\Meth K C n f/\Binds K fd ps []:=by
 obtain ⟨f,oc,od,kV,dc,pm,an,cd,ct,sl,a,i,l,c,kp⟩:=d.ex;exact ⟨_,_,ok (kY (st:=s) l c),⟨a,i,kp⟩,.all (hl kV dc pm an cd ct)⟩
theorem mo_mk{P:ax}{w:av}{base:au}{n:Str}{cx:Y2}(c:Cls K C)(h:∃ f fd,FnOk P w K mg base cx k f fd ps sp/\Meth K C n f/\Binds K fd ps []):∃ f fd,FnOk P w K mg base cx k f fd ps sp/\Cls K C/\Meth K C n f/\Binds K fd ps []:=let ⟨f,fd,a,b,d⟩:=h;⟨f,fd,a,c,b,d⟩
theorem ko_mk{P:ax}{w:av}{base:au}{cx:Y2}(m1:kO K C=true)(m2:Z4 K (.ref C)=true)(e:mg x=some (.ref C))(h:∃ f fd,FnOk P w K mg base cx k f fd ps sp/\Meth K C "__init__" f/\Binds K fd ps []):∃ f fd,FnOk P w K mg base cx k f fd ps sp/\Mk K C f/\mg x=some (.ref C)/\Binds K fd ps []:=let ⟨f,fd,a,b,d⟩:=h;⟨f,fd,a,⟨m1,b.at_,b.fn,m2⟩,e,d⟩
structure Txt(P:ax)(w:av)(K:aj)(mg:Str->Ag)(C:ab)(ae:ab):Prop where
 cl:Cls K C
 na_figures:NoAttr K C "figures"
 na_behind:NoAttr K C "behind"
 na_jobs:NoAttr K C "jobs"
 na_letter_line:NoAttr K C "letter_line"
 na_mark_line:NoAttr K C "mark_line"
 na_made:NoAttr K C "made"
 cl_Book:Cls K ae
 na_own:NoAttr K ae "own"
 na_elders:NoAttr K ae "elders"
 na_newest:NoAttr K ae "newest"
 na_length:NoAttr K ae "length"
 b_all:mg "all"=none
 b_any:mg "any"=none
 b_dict:mg "dict"=none
 b_enumerate:mg "enumerate"=none
 b_int:mg "int"=none
 b_isinstance:mg "isinstance"=none
 b_len:mg "len"=none
 b_list:mg "list"=none
 b_min:mg "min"=none
 b_ord:mg "ord"=none
 b_range:mg "range"=none
 b_reversed:mg "reversed"=none
 b_str:mg "str"=none
 b_tuple:mg "tuple"=none
 b_zip:mg "zip"=none
 g_MARK:∃ t,mg "MARK"=some (.int 0 t)
 g_LETTER:∃ t,mg "LETTER"=some (.int 2 t)
 g_FIGURES:∃ t,mg "FIGURES"=some (.int 1 t)
 g_PER_CENT:∃ t,mg "PER_CENT"=some (.int 37 t)
 x_JOBS:∃ a,mg "JOBS"=some (.ref a)/\ModD P w K a [((Sum.inr ("row" : Str):B1),V.str "letter"),((Sum.inr ("marks" : Str):B1),V.str "mark"),((Sum.inr ("great" : Str):B1),V.str "great"),((Sum.inr ("as" : Str):B1),V.str "as"),((Sum.inr ("over" : Str):B1),V.str "over")]
 x_AGAIN:∃ a,mg "AGAIN"=some (.ref a)/\∀ H:Hp,C7 K H a [V.str "letter",V.str "mark",V.str "over"]
 x_STAYING:∃ a,mg "STAYING"=some (.ref a)/\ModD P w K a [((Sum.inr ("row" : Str):B1),V.int 1),((Sum.inr ("marks" : Str):B1),V.int 1),((Sum.inr ("over" : Str):B1),V.int 1),((Sum.inr ("great" : Str):B1),V.int 2)]
 x_FEWEST:∃ a,mg "FEWEST"=some (.ref a)/\ModD P w K a [((Sum.inr ("row" : Str):B1),V.int 1),((Sum.inr ("marks" : Str):B1),V.int 1),((Sum.inr ("great" : Str):B1),V.int 2),((Sum.inr ("as" : Str):B1),V.int 2),((Sum.inr ("over" : Str):B1),V.int 1),((Sum.inr ("forget" : Str):B1),V.int 1)]
 x_BARE:∃ a,mg "BARE"=some (.ref a)/\∀ H:Hp,C7 K H a [V.str "figures",V.str "blanks",V.str "behind"]
noncomputable def lastP {α:Type} (pos:α->Nat) (g:List α):Nat:=(g.getLast?.map pos).getD 0
noncomputable def grpAt {α:Type} (pos:α->Nat) (gs:List (List α)) (t:α):Nat:=gs.findIdx fun g=>decide (pos t<lastP pos g)
noncomputable def addG {α:Type} (pos:α->Nat) (gs:List (List α)) (t:α):List (List α):=(if grpAt pos gs t=gs.length then gs++[[]] else gs).modify (grpAt pos gs t) (·++[t])
noncomputable def grps {α:Type} (pos:α->Nat) (ts:List α):List (List α):=ts.foldl (addG pos) []
noncomputable def o3 {α:Type} (gs:List (List α)) (i:Nat):Option α:=if 0<i then gs[i-1]?.bind List.getLast? else none
theorem alH{α:Type}(pos:α->Nat)(ts:List α)(t:α):grps pos (ts++[t])=addG pos (grps pos ts) t:=by unfold grps;rw [Z0];rfl
theorem wY{α:Type}(pos:α->Nat)(gs:List (List α))(t:α):grpAt pos gs t<=gs.length:=List.findIdx_le_length
theorem alI{α:Type}{pos:α->Nat}{gs:List (List α)}{t:α}{g:List α}(h:gs[grpAt pos gs t]?=some g):pos t<lastP pos g:=by
 obtain ⟨h1,h2⟩:=F8.mp h
 have:=List.findIdx_getElem (p:=fun g=>decide (pos t<lastP pos g)) (w:=h1)
 rw [<- h2];unfold grpAt
 simpa using this
theorem ajM{α:Type}{pos:α->Nat}{gs:List (List α)}{t:α}{g:List α}(hj:j<grpAt pos gs t)(h:gs[j]?=some g):lastP pos g<=pos t:=by
 obtain ⟨h1,h2⟩:=F8.mp h
 have:=List.not_of_lt_findIdx (p:=fun g=>decide (pos t<lastP pos g)) hj
 rw [h2] at this
 simpa using this
theorem ani{α:Type}{pos:α->Nat}{g:List α}(h:g.Pairwise fun x y=>pos y<pos x){x:α}(hx:x∈g):lastP pos g<=pos x:=by
 rcases List.eq_nil_or_concat g with rfl | ⟨g0,l,rfl⟩
 .cases hx
 .unfold lastP;rw [List.concat_eq_append] at h hx ⊢
  rw [oK,oI];show pos l<=pos x;rw [List.pairwise_append] at h
  rcases J9.mp hx with h1 | h1
  .exact cI (h.2.2 x h1 l (by simp))
  .rw [J8.mp h1];exact C1 _
theorem qI{α:Type}{pos:α->Nat}{g:List α}(h:g≠[]):∃ u,g.getLast?=some u/\u∈g/\lastP pos g=pos u:=by
 refine ⟨g.getLast h,List.getLast?_eq_some_getLast h,List.getLast_mem h,?_⟩;unfold lastP;rw [List.getLast?_eq_some_getLast h];rfl
theorem alJ{α:Type}{pos:α->Nat}{gs:List (List α)}{t:α}{g:List α}(h:(addG pos gs t)[k]?=some g) :
  (k≠grpAt pos gs t/\gs[k]?=some g)\/(k=grpAt pos gs t/\∃ g0,g=g0++[t]/\((k=gs.length/\g0=[])\/(gs[k]?=some g0/\pos t<lastP pos g0))):=by
 unfold addG at h;rw [List.getElem?_modify] at h
 by_cases hi:grpAt pos gs t=gs.length
 .rw [if_pos hi] at h
  by_cases hk:grpAt pos gs t=k
  .refine .inr ⟨hk.symm,[],?_⟩;rw [<- hk,hi,o8 (C1 _),Nat.sub_self] at h;simp at h;exact ⟨h.symm,.inl ⟨hk.symm.trans hi,rfl⟩⟩
  .refine .inl ⟨fun e=>hk e.symm,?_⟩;simp only [hk,if_false] at h;have h2:(gs++[[]])[k]?=some g:=by simpa using h
   by_cases hl:k<gs.length
   .rw [aT hl] at h2;exact h2
   .have:=(F8.mp h2).1
    rw [C6,V2] at this;lia
 .rw [if_neg hi] at h
  by_cases hk:grpAt pos gs t=k
  .cases h3:gs[k]? with
   | none=>rw [h3] at h;simp at h
   | some g0=>
    rw [h3] at h;refine .inr ⟨hk.symm,g0,?_,.inr ⟨rfl,alI (by rw [hk];exact h3)⟩⟩;simp [hk] at h;exact h.symm
  .refine .inl ⟨fun e=>hk e.symm,?_⟩
   simpa [hk] using h
theorem aiY{α:Type}{pos:α->Nat}{gs:List (List α)}{t:α}{g:List α}(h:gs[k]?=some g):∃ g',(addG pos gs t)[k]?=some g'/\∀ x∈g,x∈g':=by
 have hl:=(F8.mp h).1;unfold addG;rw [List.getElem?_modify];have h2:(if grpAt pos gs t=gs.length then gs++[[]] else gs)[k]?=some g:=by
  split
  .rw [aT hl];exact h
  .exact h
 rw [h2];refine ⟨_,rfl,fun x hx=>?_⟩;show x∈if grpAt pos gs t=k then g++[t] else g
 split
 .exact P1 _ hx
 .exact hx
theorem aeV{α:Type}(t:α):∀ (gs:List (List α)) (i:Nat),i<gs.length->(gs.modify i (·++[t])).flatten.Perm (gs.flatten++[t])
 | [],i,h=>absurd h (Nat.not_lt_zero _)
 | g::gs,0,_=>by
  show (g++[t]++gs.flatten).Perm (g++gs.flatten++[t]);rw [R8,R8];exact List.Perm.append_left _ List.perm_append_comm
 | g::gs,i+1,h=>by
  show (g++(gs.modify i (·++[t])).flatten).Perm (g++gs.flatten++[t]);rw [R8];exact List.Perm.append_left _ (aeV t gs i (by simpa using h))
theorem alK{α:Type}(pos:α->Nat)(gs:List (List α))(t:α):(addG pos gs t).flatten.Perm (gs.flatten++[t]):=by
 unfold addG;have qX:=wY pos gs t;have h1:grpAt pos gs t<(if grpAt pos gs t=gs.length then gs++[[]] else gs).length:=by
  split
  .rw [C6,V2];lia
  .lia
 refine (aeV t _ _ h1).trans ?_
 split
 .rw [List.flatten_append];simp
 .exact List.Perm.refl _
structure GI{α:Type}[BEq α](pos:α->Nat)(ts:List α)(gs:List (List α))(ah:α->Option α):Prop where
 perm:gs.flatten.Perm ts
 grp:∀ (k:Nat) (g:List α),gs[k]?=some g->g≠[]/\(g.Pairwise fun x y=>pos y<pos x)/\g.Sublist ts
 chain:∀ (k:Nat) (g:List α),gs[k]?=some g->∀ t∈g,(k=0->ah t=none)/\∀ j:Nat,k=j+1->∃ (g':List α) (u:α),gs[j]?=some g'/\u∈g'/\ah t=some u/\pos u<pos t/\ts.idxOf u<ts.idxOf t
theorem GI.nil{α:Type}[BEq α](pos:α->Nat)(ah:α->Option α):GI pos [] [] ah:=⟨.refl _,fun k g h=>by simp at h,fun k g h=>by simp at h⟩
theorem GI.add{α:Type}[BEq α][LawfulBEq α][DecidableEq α]{pos:α->Nat}{ts:List α}{gs:List (List α)}{ah:α->Option α}{t:α}(G:GI pos ts gs ah)(hn:t∉ts)(yJ:∀ x∈ts,pos x≠pos t) :
  GI pos (ts++[t]) (addG pos gs t) fun x=>if x=t then o3 gs (grpAt pos gs t) else ah x:=by
 have sub:∀ {k g x},gs[k]?=some g->x∈g->x∈ts:=fun h hx=>(G.grp _ _ h).2.2.subset hx
 have idx:∀ x∈ts,(ts++[t]).idxOf x=ts.idxOf x:=fun x hx=>by rw [List.idxOf_append,if_pos hx]
 have idt:(ts++[t]).idxOf t=ts.length:=by rw [List.idxOf_append,if_neg hn];simp
 have old:∀ k g,gs[k]?=some g->∀ x∈g,(k=0->(if x=t then o3 gs (grpAt pos gs t) else ah x)=none)/\∀ j,k=j+1->∃ g' u,(addG pos gs t)[j]?=some g'/\u∈g'/\(if x=t then o3 gs (grpAt pos gs t) else ah x)=some u/\pos u<pos x/\(ts++[t]).idxOf u<(ts++[t]).idxOf x:=by
  intro k g hk x hx;have bV:=sub hk hx;have G0:x≠t:=fun e=>hn (by rw [<- e];exact bV)
  rw [if_neg G0];obtain ⟨c1,c2⟩:=G.chain k g hk x hx;refine ⟨c1,fun j hj=>?_⟩;obtain ⟨g',u,h1,h2,h3,h4,h5⟩:=c2 j hj;obtain ⟨g'',h6,h7⟩:=aiY (t:=t) (pos:=pos) h1;exact ⟨g'',u,h6,h7 u h2,h3,h4,by rw [idx u (sub h1 h2),idx x bV];exact h5⟩
 refine ⟨(alK pos gs t).trans (List.Perm.append_right _ G.perm),fun k g h=>?_,fun k g h=>?_⟩
 .rcases alJ h with ⟨_,h1⟩ | ⟨h0,g0,rfl,h1⟩
  .obtain ⟨a,b,c⟩:=G.grp k g h1;exact ⟨a,b,c.trans (List.sublist_append_left _ _)⟩
  .refine ⟨by simp,?_,?_⟩
   .rcases h1 with ⟨_,rfl⟩ | ⟨h1,h2⟩
    .simp
    .rw [List.pairwise_append];refine ⟨(G.grp k g0 h1).2.1,by simp,fun a ha b hb=>?_⟩;rw [J8.mp hb];exact U6 h2 (ani (G.grp k g0 h1).2.1 ha)
   .refine List.Sublist.append ?_ (List.Sublist.refl _)
    rcases h1 with ⟨_,rfl⟩ | ⟨h1,h2⟩
    .exact List.nil_sublist _
    .exact (G.grp k g0 h1).2.2
 .rcases alJ h with ⟨_,h1⟩ | ⟨h0,g0,rfl,h1⟩
  .exact old k g h1
  .intro x hx
   rcases J9.mp hx with hx | hx
   .rcases h1 with ⟨_,rfl⟩ | ⟨h1,h2⟩
    .cases hx
    .exact old k g0 h1 x hx
   .rw [J8.mp hx,if_pos rfl];refine ⟨fun e=>?_,fun j hj=>?_⟩
    .unfold o3;rw [<- h0,e,if_neg (m9 _)]
    .have C4:j<grpAt pos gs t:=by lia
     have hj2:j<gs.length:=U6 C4 (wY pos gs t);obtain ⟨u,u1,u2,u3⟩:=qI (pos:=pos) (G.grp j gs[j] (by simp)).1;have hu:u∈ts:=sub (k:=j) (g:=gs[j]) (by simp) u2;have qX:=ajM C4 (show gs[j]?=some gs[j] by simp);obtain ⟨g'',h6,h7⟩:=aiY (t:=t) (pos:=pos) (show gs[j]?=some gs[j] by simp);refine ⟨g'',u,h6,h7 u u2,?_,?_,?_⟩
     .unfold o3;rw [if_pos (by lia),show grpAt pos gs t-1=j by lia,show gs[j]?=some gs[j] by simp];exact u1
     .have:=yJ u hu
      lia
     .rw [idx u hu,idt];exact List.idxOf_lt_length_of_mem hu
theorem wZ{α:Type} : ∀ {xs:List α} {i:Nat} {y:α},xs[i]?=some y->xs.Perm (y::xs.eraseIdx i)
 | [],i,y,h=>by simp at h
 | x::xs,0,y,h=>by simp at h;subst h;exact .refl _
 | x::xs,i+1,y,h=>by
  have:=wZ (xs:=xs) (i:=i) (y:=y) (by simpa using h)
  exact (List.Perm.cons x this).trans (List.Perm.swap y x _)
theorem anj{α:Type}(xs:List α)(i:Nat)(y:α):(xs.take i++y::xs.drop i).Perm (y::xs):=by
 have:=@List.perm_middle _ y (xs.take i) (xs.drop i)
 rwa [c9] at this
noncomputable def E8 (ys:Ab) (z:Str):Nat:=ys.idxOf z
theorem afL{α β:Type}{F G:α->β->Prop} : ∀ {l₁:List α} {l₂:List β},Paired F l₁ l₂->(∀ (j:Nat) (a:α) (b:β),l₁[j]?=some a->F a b->G a b)->Paired G l₁ l₂
 | _,_,.nil,_=>.nil
 | _,_,.cons h t,k=>.cons (k 0 _ _ rfl h) (afL t fun j a b ha hb=>k (j+1) a b (by simpa using ha) hb)
theorem afM{α β:Type}{F G:α->β->Prop}{f:β->β} : ∀ {l₁:List α} {l₂:List β} {i:Nat},Paired F l₁ l₂->(∀ (j:Nat) (a:α) (b:β),l₁[j]?=some a->j≠i->F a b->G a b)->(∀ (a:α) (b:β),l₁[i]?=some a->l₂[i]?=some b->F a b->G a (f b))->Paired G l₁ (l₂.modify i f)
 | _,_,_,.nil,_,_=>by simp only [List.modify_nil];exact .nil
 | _,_,0,.cons h t,k1,k2=>.cons (k2 _ _ rfl rfl h) (afL t fun j a b ha hb=>k1 (j+1) a b (by simpa using ha) (by lia) hb)
 | _,_,i+1,.cons h t,k1,k2=>.cons (k1 0 _ _ rfl (by lia) h) (afM t (fun j a b ha hn hb=>k1 (j+1) a b (by simpa using ha) (by lia) hb) fun a b ha hb=>k2 a b (by simpa using ha) (by simpa using hb))
theorem _root_.L2.RowsAt.modi(R:RowsAt H0 H a rs zss)(hr:rs[i]?=some r)(hz:zss[i]?=some zs)(z:Str):RowsAt H0 (A0 H r (.lst (zs.map V.str++[V.str z]))) a rs (zss.modify i (·++[z])):=by
 obtain ⟨na,ndr⟩:=T6.mp R.nd;have hm:r∈rs:=K2 hr;refine ⟨⟨?_,?_⟩,R.nd,R.new,R.same.put (R.new r (G6 _ hm))⟩
 .rw [A4 (fun e=>na (by rw [e];exact hm))];exact R.rows.top
 .refine afM R.rows.row (fun j b ys hb G0 h=>?_) fun b ys hb nC h=>?_
  .have hbr:b≠r:=fun e=>by
    obtain ⟨h1,h2⟩:=F8.mp hb;obtain ⟨h3,h4⟩:=F8.mp hr
    have:=i7.mp ndr
    rw [aS] at this
    rcases Nat.lt_or_gt_of_ne G0 with hl | hl
    .exact this j i h1 h3 hl (by rw [h2,h4,e])
    .exact this i j h3 h1 hl (by rw [h2,h4,e])
   show A0 H r (HO.lst (zs.map V.str++[V.str z])) b=some (HO.lst (ys.map V.str));rw [A4 hbr];exact h
  .have e1:b=r:=bh (hb.symm.trans hr);have e2:ys=zs:=bh (nC.symm.trans hz);show A0 H r (HO.lst (zs.map V.str++[V.str z])) b=some (HO.lst ((ys++[z]).map V.str));rw [e1,e2,A1,D0];rfl
noncomputable def aiZ:Sp:=fun vs H Q _=>∃ (b:ab) (ys:Ab),vs=[.ref b]/\H b=some (.lst (ys.map V.str))/\ys.Nodup/\ys.length<=1000/\∀ (d:ab) (H':Hp),H d=none->Same H H'->H' d=some (.dK (A8 ys fun t=>.int (E8 ys t:Nat)))->Q (.ref d) H'
noncomputable def spGrp:Sp:=fun vs H Q _=>∃ (g d:ab) (t:Str) (rs:Ai) (gs:Aa) (dom:Ab) (pos:Str->Nat),vs=[.ref g,.ref d,.str t]/\IsRows H g rs gs/\H d=some (.dK (A8 dom fun x=>.int (pos x:Nat)))/\(∀ gr∈gs,gr≠[]/\∀ x∈gr,x∈dom)/\t∈dom/\∀ H',Same H H'->Q (.int (grpAt pos gs t:Nat)) H'
noncomputable def anS:Sp:=fun vs H Q _=>∃ (a b:ab) (xs ys:Ab),vs=[.ref a,.ref b]/\H a=some (.lst (xs.map V.str))/\H b=some (.lst (ys.map V.str))/\xs.Nodup/\ys.Nodup/\(∀ x∈xs,x∈ys)/\xs.length<=1000/\ys.length<=1000/\
 ∀ (p k g:ab) (rs:Ai) (ks:Ab) (ah:Str->Option Str) (H':Hp),H p=none->H k=none->H' p=some (.tup [.ref k,.ref g])->H' k=some (.lst (ks.map V.str))->RowsAt H H' g rs (grps (E8 ys) xs)->k∉g::rs->GI (E8 ys) xs (grps (E8 ys) xs) ah->
  (ks.Pairwise fun x y=>E8 ys x<E8 ys y/\E8 xs x<E8 xs y)->(∀ x∈ks,x∈xs)->ks.length=(grps (E8 ys) xs).length->Q (.ref p) H'
noncomputable def xA (K:aj):Sp:=fun vs H Q _=>∃ (a:ab) (ns:Am) (k:Int),vs=[.ref a,.int k]/\D9 K H a (ns.map V.int)/\0<=k/\∀ n:Int,Q (.int n) H
noncomputable def alL (K:aj):Sp:=fun vs H Q _=>∃ (a:ab) (ns:Am) (m:Int),vs=[.ref a,.int m]/\D9 K H a (ns.map V.int)/\ns.length<=63/\0<=m/\m<=60/\
 ∀ (p l1 l2:ab) (xs ys:Ab) (H':Hp),Same H H'->H' p=some (.tup [.ref l1,.ref l2])->H' l1=some (.lst (xs.map V.str))->H' l2=some (.lst (ys.map V.str))->H l1=none->H l2=none->l1≠l2->xs.length=m.toNat->xs.Nodup->ys.Perm xs->(∀ z∈xs,Q2 z=true)->Q (.ref p) H'
noncomputable def TuSt (H:Hp) (a l1:ab) (m sh:Int) (xs:Ab) (Y:L2.St) (H2:Hp):Prop:=∃ (p:ab) (ys:Ab) (u v w x y:Ap),Y=[some (.ref a),some (.int m),some (.ref l1),some (.ref p),some (.int sh),u,v,w,x,y]/\Same H H2/\H2 l1=some (.lst (xs.map V.str))/\H2 p=some (.lst (ys.map V.str))/\H p=none/\p≠l1/\ys.Perm xs
theorem _root_.L2.RowsAt.keep(R:RowsAt H0 H a rs zss)(s:Same H H'):RowsAt H0 H' a rs zss:=⟨R.rows.same s,R.nd,R.new,R.same.trans s⟩
theorem _root_.L2.RowsAt.other{v:HO}(R:RowsAt H0 H a rs zss)(hb:b∉a::rs)(h0:H0 b=none):RowsAt H0 (A0 H b v) a rs zss:=by
 refine ⟨⟨?_,iI R.rows.row fun r hr zs h=>?_⟩,R.nd,R.new,R.same.put h0⟩
 .rw [A4 (fun e=>hb (by rw [<- e];exact G3))];exact R.rows.top
 .rw [A4 (fun e=>hb (by rw [<- e];exact G6 _ hr))];exact h
theorem _root_.L2.RowsAt.noDict{d:ab}(R:RowsAt H0 H a rs zss)(hd:H d=some (.dK kvs)):d∉a::rs:=fun hm=>by
 rcases D8.mp hm with h | h
 .subst h;rw [R.rows.top] at hd;cases hd
 .obtain ⟨i,hi,rfl⟩:=X7.mp h;obtain ⟨zs,_,h2⟩:=Paired.at R.rows.row (i:=i) (a:=rs[i]) (by simp [hi]);rw [h2] at hd;cases hd
structure KeptW(xs ys:Ab)(gs:Aa)(m:Nat)(ks:Ab)(lo:Option Str):Prop where
 len:ks.length+m=gs.length
 zero:m=0->lo=none
 more:∀ j:Nat,m=j+1->∃ (gr:Ab) (t:Str),gs[j]?=some gr/\t∈gr/\lo=some t/\∀ x∈ks,E8 ys t<E8 ys x/\E8 xs t<E8 xs x
 pw:ks.Pairwise fun x y=>E8 ys y<E8 ys x/\E8 xs y<E8 xs x
 sub:∀ x∈ks,x∈xs
theorem KeptW.next{xs:Ab}{gs:Aa}{t:Str}{ah:Str->Option Str}(G:GI (E8 ys) xs gs ah)(w:KeptW xs ys gs (j+1) ks (some t)):t∈xs/\KeptW xs ys gs j (ks++[t]) (ah t):=by
 obtain ⟨gr,t',h1,h2,h3,h4⟩:=w.more j rfl;cases h3;have qY:t∈xs:=(G.grp j gr h1).2.2.subset h2;obtain ⟨c1,c2⟩:=G.chain j gr h1 t h2;refine ⟨qY,⟨?_,c1,fun i hi=>?_,?_,?_⟩⟩
 .have:=w.len
  rw [C6,V2];lia
 .obtain ⟨g',u,h5,h6,h7,h8,h9⟩:=c2 i hi;refine ⟨g',u,h5,h6,h7,fun x hx=>?_⟩
  rcases J9.mp hx with hx | hx
  .exact ⟨Nat.lt_trans h8 (h4 x hx).1,Nat.lt_trans h9 (h4 x hx).2⟩
  .rw [J8.mp hx];exact ⟨h8,h9⟩
 .rw [List.pairwise_append];refine ⟨w.pw,by simp,fun x hx y hy=>?_⟩;rw [J8.mp hy];exact h4 x hx
 .intro x hx
  rcases J9.mp hx with hx | hx
  .exact w.sub x hx
  .rw [J8.mp hx];exact qY
theorem aqu{y:Str}(hx:x∈ys)(hy:y∈ys)(h:E8 ys x=E8 ys y):x=y:=by
 unfold E8 at h;have a1:=eJ (cC.mpr hx);have a2:=eJ (cC.mpr hy);rw [<- a1,<- a2]
 congr 1
theorem asr(nd:ys.Nodup)(h:ys[i]?=some z):E8 ys z=i:=by
 obtain ⟨hi,rfl⟩:=F8.mp h;exact List.Nodup.idxOf_getElem nd i hi
theorem afN{α:Type}{g:List α}{u:α}(h:g.getLast?=some u):∃ g0,g=g0++[u]:=by
 rcases List.eq_nil_or_concat g with rfl | ⟨g0,l,rfl⟩
 .simp at h
 .rw [List.concat_eq_append] at h ⊢
  rw [oK,oI] at h;exact ⟨g0,by rw [show l=u by simpa using h]⟩
theorem xB{u:Str}(h:g.getLast?=some u):K6 (g.map V.str) (-1)=some (V.str u):=by
 obtain ⟨g0,rfl⟩:=afN h;rw [D0];exact sY _ _
theorem alM(h:rs.getLast?=some r):K6 (rs.map V.ref) (-1)=some (V.ref r):=by
 obtain ⟨g0,rfl⟩:=afN h;rw [D0];exact sY _ _
noncomputable def fK:V->Bool
 | .str z=>Q2 z
 | _=>false
noncomputable def ai0:Sp:=fun vs H Q _=>∃ c,vs=[.str ⟨#[c]⟩]/\Q (.bl (signB c)) H
noncomputable def ahk:Sp:=fun vs H Q _=>∃ x T,vs=[x]/\eV H x=some T/\(∀ z,x=.str z->z.length<=1000)/\∀ H',Same H H'->Q (.bl (fK x)) H'
theorem ass{x:V}{T:String}(h:eV H x=some T)(n:∀ z,x≠.str z):iF T "str"=false:=by
 cases x with
 | non=>cases h;rfl
 | bl b=>cases h;rfl
 | int i=>cases h;rfl
 | str z=>exact absurd rfl (n z)
 | ref a=>
  unfold eV at h
  dsimp only at h
  cases e:H a with
  | none=>rw [e] at h;cases h
  | some o=>
   rw [e] at h
   cases o with
   | lst xs=>cases h;rfl
   | tup xs=>cases h;rfl
   | dK kvs=>cases h;rfl
   | frz ob u=>
    cases u with
    | lst xs=>cases h;rfl
    | _=>cases h
   | _=>cases h
 | _=>cases h
theorem alN{x:V}(n:∀ z,x≠.str z):fK x=false:=by
 cases x with
 | str z=>exact absurd rfl (n z)
 | _=>rfl
noncomputable def Good (w:Str) (ps:Ab):Prop:=ps.length<=1000/\(∀ z∈ps,Q2 z=true)/\((w∈(["figures", "blanks", "behind"]:Ab)/\ps=[])\/∃ n:Int,(w,n)∈([("row",1),("marks",1),("great",2),("as",2),("over",1),("forget",1)]:List (Str×Int))/\n<=ps.length)
noncomputable def ai1 (K:aj):Sp:=fun vs H Q _=>∃ (a:ab) (w:Str) (ps:Ab),vs=[.ref a]/\D9 K H a ((w::ps).map V.str)/\Good w ps/\∀ H',Same H H'->Q (.bl true) H'
noncomputable def afO:Sp:=fun vs H Q _=>∃ (z w:Str) (ps:Ab),vs=[.str z]/\z.length<=100000/\Txt.split z " "=w::ps/\Good w ps/\∀ p H',H p=none->Same H H'->H' p=some (.tup ((w::ps).map V.str))->Q (.ref p) H'
theorem Good.word{w:Str}(h:Good w ps):32∉w.cps.toList/\w.length<=7/\cM w=true:=by
 rcases h.2.2 with ⟨hw,_⟩ | ⟨n,hw,_⟩
 .simp only [D8,Q8,or_false] at hw
  rcases hw with rfl | rfl | rfl <;> decide +kernel
 .simp only [D8,Q8,or_false,Prod.mk.injEq] at hw
  rcases hw with ⟨rfl,_⟩ | ⟨rfl,_⟩ | ⟨rfl,_⟩ | ⟨rfl,_⟩ | ⟨rfl,_⟩ | ⟨rfl,_⟩ <;> decide +kernel
theorem afP:∀ {ps:Ab},(∀ z∈ps,Q2 z=true)->(ps.map (·.length)).sum<=2*ps.length
 | [],_=>C1 _
 | z::ps,h=>by
  have h1:=afP (ps:=ps) fun y hy=>h y (G6 _ hy)
  have h2:=(cU (h z G3)).2.2;rw [E2,e8,E5];lia
theorem Good.sum{w:Str}(h:Good w ps):((w::ps).map (·.length)).sum<=7+2*ps.length:=by
 have h1:=afP h.2.1;have h2:=h.word.2.1;rw [E2,e8];lia
theorem uam{w:Str}(h:Good w ps):(Str.join " " (w::ps)).length<=4000:=by
 have h1:=PySem.StrLaws.join_length_le " " (w::ps);have h2:=h.sum;have h3:=h.1;rw [show (" " : Str).length=1 from rfl,E5] at h1;lia
noncomputable def Fine (z:Rl):Prop:=Good z.1 z.2
noncomputable abbrev Q6:Str:="forget"
noncomputable def goneL (R:Aq):Ab:=R.foldl (fun acc z=>if z.1=Q6 then G7 acc z.2 else acc) []
noncomputable def stay (w:Str):Option Nat:=if w=("row" : Str)\/w=("marks" : Str)\/w=("over" : Str) then some 0 else if w=("great" : Str) then some 1 else none
noncomputable def keepR (g:Ab) (ps:Ab):Ab:=ps.filter fun p=>decide (p∉g)
noncomputable def K4 (g:Ab) (z:Rl):Option Rl:=
 if z.1=("as" : Str) then (if z.2.headD ""∈g then none else some z)
 else match stay z.1 with
  | none=>some z
  | some k=>if keepR g (z.2.drop k)=[] then none else some (z.1,z.2.take k++keepR g (z.2.drop k))
noncomputable def young (M:Aq):Aq:=M.filter fun z=>decide (z.1≠Q6)
noncomputable def T3 (R M:Aq):Aq:=young (R.filterMap (K4 (goneL M))++M)
noncomputable def RelR (H:Hp) (x:V):Option Rl->Prop
 | none=>x=.non
 | some z=>∃ r,x=.ref r/\H r=some (tupR z)
noncomputable def aeX:Sp:=fun vs H Q _=>∃ (a:ab) (rs:Ai) (R:Aq),vs=[.ref a]/\IsRules H a rs R/\(∀ z∈R,Fine z)/\R.length<=500/\∀ d H',H d=none->Same H H'->H' d=some (.dK (kvOf (goneL R)))->Q (.ref d) H'
noncomputable def ahl:Sp:=fun vs H Q _=>∃ (a d:ab) (z:Rl) (g:Ab),vs=[.ref a,.ref d]/\H a=some (tupR z)/\H d=some (.dK (kvOf g))/\Fine z/\∀ x H',Same H H'->RelR H' x (K4 g z)->Q x H'
noncomputable def ahm:Sp:=fun vs H Q _=>∃ (a b:ab) (rs ms:Ai) (R M:Aq),vs=[.ref a,.ref b]/\IsRules H a rs R/\IsRules H b ms M/\(∀ z∈R,Fine z)/\(∀ z∈M,Fine z)/\R.length<=500/\M.length<=500/\
 ∀ l qs H',H l=none->Same H H'->IsRules H' l qs (T3 R M)->Q (.ref l) H'
theorem ajN{z:Rl}(h:R[i]?=some z):goneL (R.take (i+1))=if z.1=Q6 then G7 (goneL (R.take i)) z.2 else goneL (R.take i):=by
 unfold goneL;rw [V7,h];simp [Z0]
theorem alO(h:∀ z∈R,Fine z):(goneL R).length<=1000*R.length:=by
 have key:∀ (R:Aq) (acc:Ab),(∀ z∈R,Fine z)->(R.foldl (fun acc z=>if z.1=Q6 then G7 acc z.2 else acc) acc).length<=acc.length+1000*R.length:=by
  intro R
  induction R with
  | nil=>intro acc _;exact C1 _
  | cons z R ih=>
   intro acc h;rw [y9];have h1:=ih (if z.1=Q6 then G7 acc z.2 else acc) fun y hy=>h y (G6 _ hy)
   have h2:=eX z.2 acc;have h3:=(h z G3).1;rw [E5]
   by_cases hw:z.1=Q6
   .rw [if_pos hw] at h1 ⊢;lia
   .rw [if_neg hw] at h1 ⊢;lia
 have:=key R [] h
 simpa [goneL] using this
theorem ajO{lo:Option Int}(hn:k<n):¬ (HT.sIx n 0 lo=0/\HT.sIx n n (some (k:Int))=n):=fun h=>by
 have:=h.2
 rw [HT.sIx_nat] at this;lia
noncomputable abbrev STAY:List (B1×V):=[((Sum.inr ("row" : Str):B1),V.int 1),(Sum.inr ("marks" : Str),V.int 1),(Sum.inr ("over" : Str),V.int 1),(Sum.inr ("great" : Str),V.int 2)]
theorem ajP{z:Rl}(h:Fine z):(z.1=("as" : Str)/\stay z.1=none/\valV STAY (Sum.inr z.1)=none/\z.1≠Q6/\∃ y ys,z.2=y::ys)\/(z.1≠("as" : Str)/\stay z.1=none/\valV STAY (Sum.inr z.1)=none)\/
  (z.1≠("as" : Str)/\z.1≠Q6/\∃ k:Nat,stay z.1=some k/\valV STAY (Sum.inr z.1)=some (V.int ((k+1:Nat):Int))/\k<z.2.length):=by
 obtain ⟨w,ps⟩:=z;obtain ⟨_,_,h⟩:=h
 dsimp only at h ⊢
 rcases h with ⟨hw,rfl⟩ | ⟨n,hw,hn⟩
 .simp only [D8,Q8,or_false] at hw
  rcases hw with rfl | rfl | rfl <;> exact .inr (.inl (by decide +kernel))
 .simp only [D8,Q8,or_false,Prod.mk.injEq] at hw
  rcases hw with ⟨rfl,rfl⟩ | ⟨rfl,rfl⟩ | ⟨rfl,rfl⟩ | ⟨rfl,rfl⟩ | ⟨rfl,rfl⟩ | ⟨rfl,rfl⟩
  .exact .inr (.inr ⟨by decide +kernel,by decide +kernel,0,by decide +kernel,by rfl,by lia⟩)
  .exact .inr (.inr ⟨by decide +kernel,by decide +kernel,0,by decide +kernel,by rfl,by lia⟩)
  .exact .inr (.inr ⟨by decide +kernel,by decide +kernel,1,by decide +kernel,by rfl,by lia⟩)
  .refine .inl ⟨rfl,by decide +kernel,by rfl,by decide +kernel,?_⟩
   cases ps with
   | nil=>simp at hn
   | cons y ys=>exact ⟨y,ys,rfl⟩
  .exact .inr (.inr ⟨by decide +kernel,by decide +kernel,0,by decide +kernel,by rfl,by lia⟩)
  .exact .inr (.inl (by decide +kernel))
theorem RelR.same(S:Same H H'){x:V}{o:Option Rl}(h:RelR H x o):RelR H' x o:=by
 cases o with
 | none=>exact h
 | some z=>obtain ⟨r,e,h⟩:=h;exact ⟨r,e,S _ _ h⟩
theorem lY{D:ab}{ys:Ao}{z:Rl}(hD:H D=some (.lst xs))(h:H r=some (tupR z)):A0 H D (.lst ys) r=some (tupR z):=by
 rw [A4 (fun e=>by rw [e,hD] at h;cases h)];exact h
theorem RelR.put{D:ab}{ys:Ao}(hD:H D=some (.lst xs)){x:V}{o:Option Rl}(h:RelR H x o):RelR (A0 H D (.lst ys)) x o:=by
 cases o with
 | none=>exact h
 | some z=>obtain ⟨r,e,h⟩:=h;exact ⟨r,e,lY hD h⟩
theorem ank(z:Rl)(k:Nat):cutV ((z.1::z.2).map V.str) (some ((k+1:Nat):Int)) none=(z.2.drop k).map V.str:=by
 rw [aI,E2,kI,z8]
theorem alP(z:Rl)(k:Nat):cutV ((z.1::z.2).map V.str) none (some ((k+1:Nat):Int))=(z.1::z.2.take k).map V.str:=by
 rw [iM,E2,List.take_succ_cons,E2,cG]
theorem Paired.append{α β:Type}{F:α->β->Prop} : ∀ {l₁ zg:List α} {l₂ zf:List β},Paired F l₁ l₂->Paired F zg zf->Paired F (l₁++zg) (l₂++zf)
 | _,_,_,_,.nil,h=>h
 | _,_,_,_,.cons h t,h'=>.cons h (Paired.append t h')
theorem ahn{z:Rl}(hF:Fine z)(h:K4 g z=some z'):Fine z':=by
 unfold K4 at h
 split at h
 .split at h
  .cases h
  .cases h;exact hF
 .split at h
  .cases h;exact hF
  .rename_i k hk
   split at h
   .cases h
   .rename_i G0
    cases h;have A9:(keepR g (z.2.drop k)).length<=z.2.length-k:=by
     have:=aX (fun p=>decide (p∉g)) (z.2.drop k)
     rw [Z2] at this;exact this
    have U1:0<(keepR g (z.2.drop k)).length:=y7.mpr G0;obtain ⟨w,ps⟩:=z;obtain ⟨h1,h2,h3⟩:=hF
    dsimp only at *
    refine ⟨?_,fun y hy=>?_,?_⟩
    .show (ps.take k++keepR g (ps.drop k)).length<=1000;rw [C6,G9];lia
    .rcases J9.mp hy with hm | hm
     .exact h2 y (cD hm)
     .exact h2 y (List.mem_of_mem_drop (N5.mp hm).1)
    .rcases h3 with ⟨hw,rfl⟩ | ⟨n,hw,hn⟩
     .simp [keepR] at G0
     .refine .inr ⟨n,hw,?_⟩;show n<=((ps.take k++keepR g (ps.drop k)).length:Int);rw [C6,G9];simp only [D8,Q8,or_false,Prod.mk.injEq] at hw
      rcases hw with ⟨rfl,rfl⟩ | ⟨rfl,rfl⟩ | ⟨rfl,rfl⟩ | ⟨rfl,rfl⟩ | ⟨rfl,rfl⟩ | ⟨rfl,rfl⟩
      .lia
      .lia
      .have:k=1:=by
        have e:stay ("great" : Str)=some 1:=by decide +kernel
        rw [e] at hk;cases hk;rfl
       lia
      .have e:stay ("as" : Str)=none:=by decide +kernel
       rw [e] at hk;cases hk
      .lia
      .have e:stay ("forget" : Str)=none:=by decide +kernel
       rw [e] at hk;cases hk
theorem aho{M:Aq}(hR:∀ z∈R,Fine z)(hM:∀ z∈M,Fine z):∀ z∈T3 R M,Fine z:=fun z hz=>by
 unfold T3 young at hz;have hz:=(N5.mp hz).1
 rcases J9.mp hz with h | h
 .obtain ⟨y,hy,e⟩:=eI.mp h;exact ahn (hR y hy) e
 .exact hM z h
theorem xC{α:Type}[DecidableEq α]:∀ {l m:List α},l.Nodup->(∀ x∈l,x∈m)->l.length<=m.length
 | [],_,_,_=>J7 _
 | x::l,m,nd,h=>by
  obtain ⟨n1,n2⟩:=T6.mp nd;have hx:=h x G3
  have:=xC (l:=l) (m:=m.erase x) n2 fun y hy=>(List.mem_erase_of_ne (fun e=>n1 (by rw [<- e];exact hy))).mpr (h y (G6 _ hy))
  rw [oH hx] at this;have U1:=List.length_pos_of_mem hx;rw [E5];lia
theorem aeZ{α β:Type}{F:α->β->Prop} : ∀ {l₁:List α} {l₂:List β},Paired F l₁ l₂->Paired F l₁.reverse l₂.reverse
 | _,_,.nil=>.nil
 | _,_,.cons h t=>by
  rw [gR,gR];exact Paired.snoc (aeZ t) h
theorem xD{f:Str->Nat} : ∀ {a b:Ab},(a.Pairwise fun x y=>f x<f y)->(b.Pairwise fun x y=>f x<f y)->(∀ x,x∈a↔x∈b)->a=b
 | [],[],_,_,_=>rfl
 | [],y::b,_,_,h=>absurd ((h y).mpr G3) (by simp)
 | x::a,[],_,_,h=>absurd ((h x).mp G3) (by simp)
 | x::a,y::b,p,q,h=>by
  rw [List.pairwise_cons] at p q;have e:x=y:=by
   rcases D8.mp ((h x).mp G3) with e | hx
   .exact e
   .rcases D8.mp ((h y).mpr G3) with e | hy
    .exact e.symm
    .have h1:=q.1 x hx;have h2:=p.1 y hy;lia
  subst e;rw [xD p.2 q.2 fun z=>⟨fun hz=>?_,fun hz=>?_⟩]
  .rcases D8.mp ((h z).mp (G6 _ hz)) with e | yK
   .have:=p.1 z hz;rw [e] at this;lia
   .exact yK
  .rcases D8.mp ((h z).mpr (G6 _ hz)) with e | yK
   .have:=q.1 z hz;rw [e] at this;lia
   .exact yK
theorem qJ{xs:Ab}(nd:xs.Nodup):xs.Pairwise fun x y=>E8 xs x<E8 xs y:=by
 rw [aS];intro i j hi hj qV;unfold E8;rw [nd.idxOf_getElem i hi,nd.idxOf_getElem j hj];exact qV
structure Kp(xs ys ks:Ab):Prop where
 px:ks.Pairwise fun x y=>E8 xs x<E8 xs y
 py:ks.Pairwise fun x y=>E8 ys x<E8 ys y
 sub:∀ x∈ks,x∈xs
 same:xs=ys->∀ x∈xs,x∈ks
noncomputable def K1 (xs ks:Ab):Ab:=xs.filter fun x=>!decide (x∈ks)
theorem kp_of{xs:Ab}{ah:Str->Option Str}(nx:xs.Nodup)(G:GI (E8 ys) xs (grps (E8 ys) xs) ah)(hp:ks.Pairwise fun x y=>E8 ys x<E8 ys y/\E8 xs x<E8 xs y)(hs:∀ x∈ks,x∈xs)(hl:ks.length=(grps (E8 ys) xs).length):Kp xs ys ks:=by
 refine ⟨hp.imp fun h=>h.2,hp.imp fun h=>h.1,hs,fun e x hx=>?_⟩;subst e;have one:∀ g∈grps (E8 xs) xs,g.length=1:=fun g hg=>by
  obtain ⟨k,hk,e⟩:=X7.mp hg;obtain ⟨h1,h2,h3⟩:=G.grp k g (by rw [L6 hk,e]);have h4:=(qJ nx).sublist h3
  match g,h1,h2,h4 with
  | [],h1,_,_=>exact absurd rfl h1
  | [a],_,_,_=>rfl
  | a::b::r,_,h2,h4=>
   have a1:=(List.pairwise_cons.mp h2).1 b G3;have a2:=(List.pairwise_cons.mp h4).1 b G3;lia
 have flen:∀ gs:Aa,(∀ g∈gs,g.length=1)->gs.flatten.length=gs.length:=fun gs=>by
  induction gs with
  | nil=>intro _;rfl
  | cons g gs ih=>
   intro h;rw [p6,C6,h g G3,ih fun g' dF=>h g' (G6 _ dF),E5];lia
 have l1:=flen _ one;rw [G.perm.length_eq] at l1
 by_cases hk:x∈ks
 .exact hk
 .exfalso
  have nk:ks.Nodup:=by
   rw [i7];exact hp.imp fun h e=>by rw [e] at h;lia
  have:=xC (T6.mpr ⟨hk,nk⟩) (m:=xs) fun y hy=>(D8.mp hy).elim (fun e=>e ▸ hx) (hs y)
  rw [E5] at this;lia
theorem Kp.fx{xs:Ab}(h:Kp xs ys ks)(nx:xs.Nodup):xs.filter (fun x=>decide (x∉K1 xs ks))=ks:=by
 refine xD (f:=E8 xs) ((qJ nx).filter _) h.px fun x=>?_
 rw [N5,decide_eq_true_iff];unfold K1;rw [N5]
 constructor
 .rintro ⟨hx,hn⟩
  by_cases hk:x∈ks
  .exact hk
  .exact absurd ⟨hx,by simpa using hk⟩ hn
 .intro hk;exact ⟨h.sub x hk,fun q=>by simp [hk] at q⟩
theorem Kp.fy{xs:Ab}(h:Kp xs ys ks)(ny:ys.Nodup)(pm:ys.Perm xs):ys.filter (fun x=>decide (x∉K1 xs ks))=ks:=by
 refine xD (f:=E8 ys) ((qJ ny).filter _) h.py fun x=>?_
 rw [N5,decide_eq_true_iff];unfold K1;rw [N5]
 constructor
 .rintro ⟨hx,hn⟩
  by_cases hk:x∈ks
  .exact hk
  .exact absurd ⟨pm.mem_iff.mp hx,by simpa using hk⟩ hn
 .intro hk;exact ⟨pm.mem_iff.mpr (h.sub x hk),fun q=>by simp [hk] at q⟩
theorem Kp.ne{xs:Ab}(h:Kp xs ys ks)(nx:xs.Nodup)(ny:ys.Nodup)(pm:ys.Perm xs):K1 xs ks=[]↔xs=ys:=by
 constructor
 .intro e;have h1:=h.fx nx;have h2:=h.fy ny pm;rw [e,gQ.mpr (fun a _=>by simp)] at h1 h2;exact h1.trans h2.symm
 .intro e;unfold K1;rw [p0];intro x hx;simp [h.same e x hx]
noncomputable def ai3:Sp:=fun vs H Q _=>∃ (a b:ab) (xs ys:Ab),vs=[.ref a,.ref b]/\H a=some (.lst (xs.map V.str))/\H b=some (.lst (ys.map V.str))/\xs.Nodup/\ys.Nodup/\ys.Perm xs/\xs.length<=100/\
 ∀ (l:ab) (ts:Ai) (ks:Ab) (H':Hp),H l=none->Same H H'->Kp xs ys ks->ks.length=(grps (E8 ys) xs).length->IsRules H' l ts (if K1 xs ks=[] then [] else [(Q6,K1 xs ks),(("row" : Str),ys)])->Q (.ref l) H'
structure S83(xs:Ab)(m0 m1 f2 f3 f4 ov:Str):Prop where
 nd:(xs++[m0,m1,f2,f3,f4,ov]).Nodup
 pc:∀ p∈xs++[m0,m1,f2,f3,f4,ov],Q2 p=true
 ln:xs.length<=40
 l1:1<=xs.length
structure D83(xs:Ab)(f2 f3 f4 ov:Str)(mo rows:Aq)(G:List (Str×Str)):Prop where
 mo:mo=[]\/mo=[(("behind" : Str),[])]\/mo=[(("blanks" : Str),[])]\/mo=[(("over" : Str),[ov])]
 rw:∀ z∈rows,z.1="row"/\z.2≠[]/\z.2.Sublist xs
 rl:rows.length<=60
 gl:∀ e∈G,e.1∈xs
 gf:∃ k,G.map (·.2)=[f2,f3,f4].take k
theorem xE(h:∀ p∈ps,p∉g):keepR g ps=ps:=by
 unfold keepR;exact gQ.mpr fun p hp=>decide_eq_true (h p hp)
theorem anT : K4 g (("row" : Str),ps)=if keepR g ps=[] then none else some (("row" : Str),keepR g ps):=by
 unfold K4;rw [if_neg (show ¬ ai "row"=ai "as" by decide +kernel),show stay (("row" : Str),ps).1=some 0 from (by decide +kernel:stay (ai "row")=some 0)];rfl
theorem xF{w:Str}(hw:w="marks"\/w="over")(hn:ps≠[])(h:∀ p∈ps,p∉g):K4 g (w,ps)=some (w,ps):=by
 unfold K4;have e1:¬ w=("as" : Str):=by rcases hw with rfl | rfl <;> decide +kernel
 have e2:stay w=some 0:=by rcases hw with rfl | rfl <;> decide +kernel
 rw [if_neg (show ¬ (w,ps).1=("as" : Str) from e1),show stay (w,ps).1=some 0 from e2];show (if keepR g ps=[] then none else some (w,keepR g ps))=_;rw [xE h,if_neg hn]
theorem ai4{l f:Str}(h:f∉g):K4 g (("great" : Str),[l,f])=some (("great" : Str),[l,f]):=by
 unfold K4;rw [if_neg (show ¬ ai "great"=ai "as" by decide +kernel),show stay (("great" : Str),[l,f]).1=some 1 from (by decide +kernel:stay (ai "great")=some 1)];show (if keepR g [f]=[] then none else some ((("great" : Str)),[l]++keepR g [f]))=_;rw [xE (fun p hp=>by rw [J8.mp hp];exact h),if_neg (by simp)];rfl
theorem ast(h:∀ p,p∈g↔p∈g'):K4 g=K4 g':=by
 funext z
 have hk:∀ ps,keepR g ps=keepR g' ps:=fun ps=>by
  unfold keepR
  congr 1
  funext p
  exact decide_eq_decide.mpr (not_congr (h p))
 unfold K4;simp only [hk,h]
section
variable {ys:Ab} {m0 m1 f2 f3 f4 ov:Str} {mo rows:Aq} {G:List (Str×Str)}
theorem anl{row ys:Ab}(nd:ys.Nodup)(h:row.Sublist ys){e:Str×Str}(he:e∈O7 row):ys.idxOf e.1<ys.idxOf e.2:=by
 have hp:=(qJ nd).sublist h;unfold O7 at he;obtain ⟨i,hi,e1⟩:=X7.mp he;rw [List.getElem_zip] at e1;have hl:i+1<row.length:=by
  simp only [List.length_zip,List.length_tail] at hi;lia
 have e2:e=(row[i]'(by lia),row[i+1]'hl):=by
  rw [<- e1]
  simp
 rw [e2];exact aS.mp hp i (i+1) (by lia) hl (by lia)
theorem alQ(hp:p∈ks)(hb:Q2 p=true):cutF false ks p.cps.toList=(p.length,[p]):=by
 obtain ⟨_,h1,h2⟩:=cU hb;have hpt:partF false ks p.cps.toList=some p:=by
  rcases (show p.length=1\/p.length=2 by lia) with h | h <;> rw [<- lenL] at h
  .obtain ⟨c,hc⟩:=List.length_eq_one_iff.mp h;have e:p=one c:=by rw [show p=⟨p.cps.toList.toArray⟩ by simp,hc];rfl
   rw [hc,fG,gT,if_neg L9,iW,<- e,if_pos hp]
  .obtain ⟨c,d,hc⟩:∃ c d,p.cps.toList=[c,d]:=by
    match p.cps.toList,h with
    | [c,d],_=>exact ⟨c,d,rfl⟩
   have e:p=two c d:=by rw [show p=⟨p.cps.toList.toArray⟩ by simp,hc];rfl
   rw [hc,fG,gT,if_neg L9,iX,<- e,if_pos hp]
 obtain ⟨rest,e1,e2,_⟩:=iY hpt;have hr:rest=[]:=by
  have:=congrArg X8 e1
  rw [C6] at this;exact aV.mp (by lia)
 rw [e2,hr,lV]
 simp
end
theorem lZ{w:Str}(hl:ps.length<=1000)(hp:∀ z∈ps,Q2 z=true){n:Int}(h:(w,n)∈([("row",1),("marks",1),("great",2),("as",2),("over",1),("forget",1)]:List (Str×Int)))(hn:n<=ps.length):Good w ps:=⟨hl,hp,.inr ⟨n,h,hn⟩⟩
theorem _root_.L2.IsRules.push{l t:ab}{ts:Ai}{z:Rl}(h:IsRules H l ts R)(ht:H t=some (tupR z)):IsRules (A0 H l (.lst (ts.map V.ref++[V.ref t]))) l (ts++[t]) (R++[z]):=by
 have ne:∀ {b:ab} {z:Rl},H b=some (tupR z)->b≠l:=fun hb e=>by rw [e,h.top] at hb;cases hb
 exact ⟨by rw [A1,D0];rfl,Paired.snoc (L7 h.row fun b z hb=>by rw [A4 (ne hb)];exact hb) (by rw [A4 (ne ht)];exact ht)⟩
section
variable {ys:Ab} {m0 m1 f2 f3 f4 ov:Str} {mo rows:Aq} {G:List (Str×Str)}
end
noncomputable def nameB (z:Str):Bool:=decide (1<=z.length)&&decide (z.length<=8)&&z.cps.toList.all fun c=>decide (97<=c)&&decide (c<=122)
theorem fL(h:nameB z=true):1<=z.length/\z.length<=8/\∀ c∈z.cps.toList,97<=c/\c<=122:=by
 unfold nameB at h;simp only [V3,decide_eq_true_eq,cF] at h;exact ⟨h.1.1,h.1.2,h.2⟩
inductive Ln where
 | beg (n:Str) (e:Option Str)
 | rule (z:Rl)
noncomputable def Ln.words:Ln->Ab
 | .beg n none=>["order",n]
 | .beg n (some e)=>["order",n, "of",e]
 | .rule z=>z.1::z.2
noncomputable def Ln.text (l:Ln):Str:=Str.join " " l.words
structure Bk where
 names:Ab
 rl:Str->Aq
 el:Str->Option Str
 nw:Option Str
noncomputable def Bk.nil:Bk:=⟨[],fun _=>[],fun _=>none,none⟩
noncomputable def Bk.step (B:Bk):Ln->Bk
 | .beg n e=>⟨B.names++[n],fun t=>if t=n then [] else B.rl t,fun t=>if t=n then e else B.el t,some n⟩
 | .rule z=>⟨B.names,fun t=>if B.nw=some t then B.rl t++[z] else B.rl t,B.el,B.nw⟩
noncomputable def Bk.Fit (B:Bk):Ln->Prop
 | .beg n e=>n∉B.names/\nameB n=true/\∀ x,e=some x->nameB x=true
 | .rule z=>B.nw≠none/\Fine z
noncomputable def Bk.of (ls:List Ln):Bk:=ls.foldl Bk.step Bk.nil
noncomputable def Fits (ls:List Ln):Prop:=∀ (i:Nat) (l:Ln),ls[i]?=some l->(Bk.of (ls.take i)).Fit l
theorem qK(ls:List Ln)(l:Ln):Bk.of (ls++[l])=(Bk.of ls).step l:=by
 unfold Bk.of;rw [Z0];rfl
theorem Fits.nil:Fits []:=fun i l h=>by simp at h
theorem Fits.snoc{ls:List Ln}{l:Ln}(h:Fits ls)(hl:(Bk.of ls).Fit l):Fits (ls++[l]):=fun i x hx=>by
 by_cases hi:i<ls.length
 .rw [aT hi] at hx;rw [List.take_append_of_le_length (cI hi)];exact h i x hx
 .have l8:i=ls.length:=by
   have:=(F8.mp hx).1
   rw [C6,V2] at this;lia
  subst l8;rw [o8 (C1 _),Nat.sub_self] at hx;have e:l=x:=by simpa using hx
  subst e;rw [List.take_left']
  .exact hl
  .rfl
structure Bk.Good(B:Bk)(n:Nat):Prop where
 nd:B.names.Nodup
 nw:∀ t,B.nw=some t->t∈B.names
 nm:∀ t∈B.names,nameB t=true
 fine:∀ t∈B.names,∀ z∈B.rl t,Fine z
 len:∀ t∈B.names,(B.rl t).length<=n
 cnt:B.names.length<=n
theorem Bk.Good.start:Bk.Good Bk.nil 0:=⟨by simp [Bk.nil],fun t h=>by simp [Bk.nil] at h,fun t h=>by simp [Bk.nil] at h,fun t h=>by simp [Bk.nil] at h,fun t h=>by simp [Bk.nil] at h,by simp [Bk.nil]⟩
theorem Bk.Good.step{B:Bk}(g:B.Good n){l:Ln}(h:B.Fit l):(B.step l).Good (n+1):=by
 cases l with
 | beg m e=>
  obtain ⟨h1,h2,h3⟩:=h;have hm:∀ t,t∈B.names++[m]->t∈B.names/\t≠m\/t=m:=fun t ht=>by
   rcases J9.mp ht with h | h
   .exact .inl ⟨h,fun e=>h1 (by rw [<- e];exact h)⟩
   .exact .inr (J8.mp h)
  refine ⟨?_,fun t ht=>?_,fun t ht=>?_,fun t ht=>?_,fun t ht=>?_,?_⟩
  .show (B.names++[m]).Nodup;rw [i9];refine ⟨g.nd,by simp,fun a ha b hb e=>h1 ?_⟩;rw [<- J8.mp hb,<- e];exact ha
  .have:m=t:=by simpa [Bk.step] using ht
   subst this;show m∈B.names++[m]
   simp
  .rcases hm t ht with ⟨h4,_⟩ | rfl
   .exact g.nm t h4
   .exact h2
  .show ∀ z∈(if t=m then [] else B.rl t),Fine z
   rcases hm t ht with ⟨h4,h5⟩ | rfl
   .rw [if_neg h5];exact g.fine t h4
   .rw [if_pos rfl];simp
  .show (if t=m then [] else B.rl t).length<=n+1
   rcases hm t ht with ⟨h4,h5⟩ | rfl
   .rw [if_neg h5];have:=g.len t h4;lia
   .rw [if_pos rfl];simp
  .show (B.names++[m]).length<=n+1;rw [C6,V2]
   have:=g.cnt
   lia
 | rule z=>
  obtain ⟨h1,h2⟩:=h;refine ⟨g.nd,g.nw,g.nm,fun t ht=>?_,fun t ht=>?_,Nat.le_succ_of_le g.cnt⟩
  .show ∀ y∈(if B.nw=some t then B.rl t++[z] else B.rl t),Fine y
   split
   .intro y hy
    rcases J9.mp hy with h | h
    .exact g.fine t ht y h
    .rw [J8.mp h];exact h2
   .exact g.fine t ht
  .show (if B.nw=some t then B.rl t++[z] else B.rl t).length<=n+1
   have:=g.len t ht
   split
   .rw [C6,V2];lia
   .lia
theorem Fits.good{ls:List Ln}(h:Fits ls):∀ i,i<=ls.length->(Bk.of (ls.take i)).Good i
 | 0,_=>by rw [p7];exact Bk.Good.start
 | i+1,hi=>by
  have C4:i<ls.length:=hi;rw [V7,L6 C4];show (Bk.of (ls.take i++[ls[i]])).Good (i+1);rw [qK];exact (Fits.good h i (cI C4)).step (h i _ (L6 C4))
structure DR(H0 H:Hp)(ts:Ab)(ad:Al)(as:Str->Ai)(F:Str->Aq):Prop where
 row:∀ t∈ts,IsRules H (ad t) (as t) (F t)
 inj:∀ t∈ts,∀ u∈ts,ad t=ad u->t=u
 new:∀ t∈ts,H0 (ad t)=none
theorem DR.same{ad:Al}{as:Str->Ai}{F:Str->Aq}(x:DR H0 H ts ad as F)(s:Same H H'):DR H0 H' ts ad as F:=⟨fun t h=>(x.row t h).same s,x.inj,x.new⟩
theorem DR.nil(H0 H:Hp)(ad:Al)(as:Str->Ai)(F:Str->Aq):DR H0 H [] ad as F:=⟨fun t h=>(by cases h),fun t h=>(by cases h),fun t h=>(by cases h)⟩
theorem ahp{v:HO}(h:IsRules H a rs R)(aM:a≠b)(hb:∀ z:Rl,H b≠some (tupR z)):IsRules (A0 H b v) a rs R:=by
 refine ⟨by rw [A4 aM];exact h.top,L7 h.row fun r z e=>?_⟩;rw [A4 (fun q=>hb z (by rw [<- q];exact e))];exact e
theorem DR.put{ad:Al}{as:Str->Ai}{F:Str->Aq}(x:DR H0 H ts ad as F){v:HO}(hn:∀ t∈ts,ad t≠b)(hb:∀ z:Rl,H b≠some (tupR z)):DR H0 (A0 H b v) ts ad as F:=
 ⟨fun t h=>ahp (x.row t h) (hn t h) hb,x.inj,x.new⟩
theorem DR.congr{ad:Al}{as:Str->Ai}{F G:Str->Aq}(x:DR H0 H ts ad as F)(h:∀ t∈ts,F t=G t):DR H0 H ts ad as G:=⟨fun t ht=>by rw [<- h t ht];exact x.row t ht,x.inj,x.new⟩
theorem DR.base{ad:Al}{as:Str->Ai}{F:Str->Aq}(x:DR H0 H ts ad as F)(s:Same H1 H0):DR H1 H ts ad as F:=⟨x.row,x.inj,fun t ht=>s.free (x.new t ht)⟩
theorem DR.app{ad:Al}{as:Str->Ai}{F:Str->Aq}(x:DR H0 H ts ad as F)(hz:z∈ts){ru:Rl}(hr:H r=some (tupR ru)) :
  DR H0 (A0 H (ad z) (.lst ((as z).map V.ref++[.ref r]))) ts ad (fun t=>if t=z then as z++[r] else as t) fun t=>if t=z then F z++[ru] else F t:=by
 have hl:∀ y:Rl,H (ad z)≠some (tupR y):=fun y e=>by rw [(x.row z hz).top] at e;cases e
 refine ⟨fun t ht=>?_,x.inj,x.new⟩;show IsRules _ (ad t) (if t=z then as z++[r] else as t) (if t=z then F z++[ru] else F t)
 by_cases e:t=z
 .subst e;rw [if_pos rfl,if_pos rfl];refine ⟨by rw [A1,D0];rfl,Paired.append (L7 (x.row t ht).row fun q y e=>?_) (.cons ?_ .nil)⟩
  .rw [A4 (fun w=>hl y (by rw [<- w];exact e))];exact e
  .rw [A4 (fun w=>hl ru (by rw [<- w];exact hr))];exact hr
 .rw [if_neg e,if_neg e];exact ahp (x.row t ht) (fun w=>e (x.inj t ht z hz w)) hl
theorem DR.more{ad:Al}{as:Str->Ai}{F:Str->Aq}(x:DR H0 H ts ad as F)(hz:z∉ts){p:ab}(np:H p=none)(n0:H0 p=none) :
  DR H0 (A0 H p (.lst [])) (ts++[z]) (fun t=>if t=z then p else ad t) (fun t=>if t=z then [] else as t) fun t=>if t=z then [] else F t:=by
 have ne:∀ t∈ts,t≠z:=fun t ht e=>hz (by rw [<- e];exact ht)
 have nad:∀ t∈ts,ad t≠p:=fun t ht e=>by have:=(x.row t ht).top;rw [e,np] at this;cases this
 have cases':∀ t,t∈ts++[z]->(t∈ts/\t≠z)\/t=z:=fun t ht=>by
  rcases J9.mp ht with h | h
  .exact .inl ⟨h,ne t h⟩
  .exact .inr (J8.mp h)
 refine ⟨fun t ht=>?_,fun t ht u hu e=>?_,fun t ht=>?_⟩
 .show IsRules _ (if t=z then p else ad t) (if t=z then [] else as t) (if t=z then [] else F t)
  rcases cases' t ht with ⟨h1,h2⟩ | rfl
  .rw [if_neg h2,if_neg h2,if_neg h2];exact (x.row t h1).same (Same.new np)
  .rw [if_pos rfl,if_pos rfl,if_pos rfl];exact ⟨by rw [A1];rfl,.nil⟩
 .have e:(if t=z then p else ad t)=(if u=z then p else ad u):=e
  rcases cases' t ht with ⟨h1,h2⟩ | rfl <;> rcases cases' u hu with ⟨h3,h4⟩ | rfl
  .rw [if_neg h2,if_neg h4] at e;exact x.inj t h1 u h3 e
  .rw [if_neg h2,if_pos rfl] at e;exact absurd e (nad t h1)
  .rw [if_pos rfl,if_neg h4] at e;exact absurd e.symm (nad u h3)
  .rfl
 .show H0 (if t=z then p else ad t)=none
  rcases cases' t ht with ⟨h1,h2⟩ | rfl
  .rw [if_neg h2];exact x.new t h1
  .rw [if_pos rfl];exact n0
noncomputable def flds (o e:ab) (nw:V) (n:Int):List (Str×V):=[("own",.ref o),("elders",.ref e),("newest",nw),("length",.int n)]
structure BookAt(C:ab)(H0 H:Hp)(b dx o e:ab)(B:Bk)(ad:Al)(as:Str->Ai)(n:Int):Prop where
 obj:H b=some (.ins C dx (flds o e (orNon B.nw) n))
 own:H o=some (.dK (A8 B.names fun t=>.ref (ad t)))
 eld:H e=some (.dK (A8 (B.names.filter fun t=>(B.el t).isSome) fun t=>.str ((B.el t).getD "")))
 dr:DR H0 H B.names ad as B.rl
 nb:H0 b=none
 no:H0 o=none
 ne:H0 e=none
 oe:o≠e
 same:Same H0 H
theorem BookAt.keep{o e:ab}{B:Bk}{ad:Al}{as:Str->Ai}{n:Int}(x:BookAt C H0 H b dx o e B ad as n)(s:Same H H'):BookAt C H0 H' b dx o e B ad as n:=
 ⟨s _ _ x.obj,s _ _ x.own,s _ _ x.eld,x.dr.same s,x.nb,x.no,x.ne,x.oe,x.same.trans s⟩
theorem BookAt.base{o e:ab}{B:Bk}{ad:Al}{as:Str->Ai}{n:Int}(x:BookAt C H0 H b dx o e B ad as n)(s:Same H1 H0):BookAt C H1 H b dx o e B ad as n:=
 ⟨x.obj,x.own,x.eld,x.dr.base s,s.free x.nb,s.free x.no,s.free x.ne,x.oe,s.trans x.same⟩
noncomputable def LnOk:Ln->Prop
 | .beg n e=>nameB n=true/\∀ x,e=some x->nameB x=true
 | .rule z=>Fine z
noncomputable def Ln.isBeg:Ln->Bool
 | .beg _ _=>true
 | .rule _=>false
theorem Bk.Fit.ok{B:Bk}{l:Ln}(h:B.Fit l):LnOk l:=by
 cases l with
 | beg n e=>exact ⟨h.2.1,h.2.2⟩
 | rule z=>exact h.2
noncomputable def ai5:Sp:=fun vs H Q _=>∃ z:Str,vs=[.str z]/\z.length<=100000/\∀ H',Same H H'->Q (.bl (nameB z)) H'
noncomputable def alR:Sp:=fun vs H Q _=>∃ (a:ab) (l:Ln),vs=[.ref a]/\H a=some (.lst (l.words.map V.str))/\LnOk l/\∀ H',Same H H'->Q (.bl l.isBeg) H'
noncomputable def alS (C:ab):Sp:=fun vs H Q _=>∃ (b w dx o e:ab) (n:Str) (x:Option Str) (H0:Hp) (B:Bk) (ad:Al) (as:Str->Ai) (k:Int),vs=[.ref b,.ref w]/\H w=some (.lst ((Ln.beg n x).words.map V.str))/\BookAt C H0 H b dx o e B ad as k/\B.Fit (.beg n x)/\B.Good 1000/\
 ∀ ad' as' H',BookAt C H0 H' b dx o e (B.step (.beg n x)) ad' as' k->Q .non H'
noncomputable def ahq (C:ab):Sp:=fun vs H Q _=>∃ (b dx o e:ab) (z:Rl) (H0:Hp) (B:Bk) (ad:Al) (as:Str->Ai) (k:Int),vs=[.ref b,.str (Ln.rule z).text]/\BookAt C H0 H b dx o e B ad as k/\B.Fit (.rule z)/\B.Good 1000/\
 ∀ ad' as' H',BookAt C H0 H' b dx o e (B.step (.rule z)) ad' as' k->Q .non H'
noncomputable def anU (C:ab):Sp:=fun vs H Q _=>∃ (b dx o e:ab) (l:Ln) (H0:Hp) (B:Bk) (ad:Al) (as:Str->Ai) (k:Int),vs=[.ref b,.str l.text]/\BookAt C H0 H b dx o e B ad as k/\B.Fit l/\B.Good 1000/\
 ∀ ad' as' H',BookAt C H0 H' b dx o e (B.step l) ad' as' (k+1)->Q .non H'
noncomputable def alT (C:ab):Sp:=fun vs H Q _=>∃ (b dx:ab) (ls:List Ln) (H0:Hp),vs=[.ref b,.str (Str.join "\n" (ls.map Ln.text))]/\H=A0 (A0 H0 dx (.own b)) b (.ins C dx [])/\H0 b=none/\H0 dx=none/\dx≠b/\Fits ls/\ls.length<=200/\
 ∀ o e ad as H',BookAt C H0 H' b dx o e (Bk.of ls) ad as ls.length->Q .non H'
structure IsChain(B:Bk)(c:Ab):Prop where
 nd:c.Nodup
 nx:∀ (i:Nat) (t:Str),c[i]?=some t->t∈B.names/\B.el t=c[i+1]?
noncomputable def qL (B:Bk) (c:Ab):Aq:=c.reverse.foldl (fun R t=>T3 R (B.rl t)) []
noncomputable def ai7 (C:ab):Sp:=fun vs H Q _=>∃ (b dx o e:ab) (H0:Hp) (B:Bk) (ad:Al) (as:Str->Ai) (k:Int) (n:Str) (c:Ab),vs=[.ref b,.str n]/\BookAt C H0 H b dx o e B ad as k/\B.Good 1000/\c.head?=some n/\IsChain B c/\
 ∀ l H',H l=none->Same H H'->H' l=some (.lst (c.map V.str))->Q (.ref l) H'
noncomputable def ahr (C:ab):Sp:=fun vs H Q _=>∃ (b dx o e:ab) (H0:Hp) (B:Bk) (ad:Al) (as:Str->Ai) (k:Int) (n:Str) (c:Ab),vs=[.ref b,.str n]/\BookAt C H0 H b dx o e B ad as k/\B.Good 1000/\c.head?=some n/\IsChain B c/\(c.map fun t=>(B.rl t).length).sum<=400/\
 ∀ l qs H',H l=none->Same H H'->IsRules H' l qs (qL B c)->Q (.ref l) H'
theorem ahs{x:Nat} : ∀ {zs:Ab},x∈joinN c zs->x=c\/∃ z∈zs,x∈z.cps.toList
 | [],h=>by cases h
 | [z],h=>.inr ⟨z,G3,h⟩
 | z::y::r,h=>by
  have h:x∈z.cps.toList++c::joinN c (y::r):=h
  rcases J9.mp h with h | h
  .exact .inr ⟨z,G3,h⟩
  .rcases D8.mp h with h | h
   .exact .inl h
   .rcases ahs (zs:=y::r) h with h | ⟨w,h1,h2⟩
    .exact .inl h
    .exact .inr ⟨w,G6 _ h1,h2⟩
theorem aht{r:Ab}(h:0<z.length):0<(joinN c (z::r)).length:=by
 have h2:0<z.cps.toList.length:=by simpa [Str.length] using h
 cases r with
 | nil=>exact h2
 | cons y r=>
  show 0<(z.cps.toList++c::joinN c (y::r)).length;rw [C6];lia
theorem xG:(" " : Str)=⟨#[32]⟩:=by decide +kernel
theorem alU:("\n" : Str)=⟨#[10]⟩:=by decide +kernel
theorem qM{l:Ln}(h:LnOk l):∀ z∈l.words,0<z.length/\z.length<=10/\∀ c∈z.cps.toList,33<=c:=by
 have nm:∀ {z:Str},nameB z=true->0<z.length/\z.length<=10/\∀ c∈z.cps.toList,33<=c:=fun hz=>by
  obtain ⟨h1,h2,h3⟩:=fL hz;exact ⟨h1,by lia,fun c hc=>by have:=h3 c hc;lia⟩
 have od:0<("order" : Str).length/\("order" : Str).length<=10/\∀ c∈("order" : Str).cps.toList,33<=c:=by decide +kernel
 have of':0<("of" : Str).length/\("of" : Str).length<=10/\∀ c∈("of" : Str).cps.toList,33<=c:=by decide +kernel
 cases l with
 | beg n e=>
  cases e with
  | none=>
   intro z hz;simp only [Ln.words,D8,Q8,or_false] at hz
   rcases hz with rfl | rfl
   .exact od
   .exact nm h.1
  | some x=>
   intro z hz;simp only [Ln.words,D8,Q8,or_false] at hz
   rcases hz with rfl | rfl | rfl | rfl
   .exact od
   .exact nm h.1
   .exact of'
   .exact nm (h.2 _ rfl)
 | rule r=>
  have h:Fine r:=h;intro z hz
  rcases D8.mp hz with rfl | hz
  .rcases h.2.2 with ⟨hw,_⟩ | ⟨n,hw,_⟩
   .simp only [D8,Q8,or_false] at hw
    rcases hw with hw | hw | hw <;> rw [hw] <;> decide +kernel
   .simp only [D8,Q8,or_false,Prod.mk.injEq] at hw
    rcases hw with ⟨hw,_⟩ | ⟨hw,_⟩ | ⟨hw,_⟩ | ⟨hw,_⟩ | ⟨hw,_⟩ | ⟨hw,_⟩ <;> rw [hw] <;> decide +kernel
  .have hp:=h.2.1 z hz;have h2:=cU hp;unfold Q2 at hp;simp only [V3,cF,decide_eq_true_eq] at hp;refine ⟨by lia,by lia,fun c hc=>?_⟩
   have:=hp.2 c hc
   unfold signB at this;simp only [V3,decide_eq_true_eq] at this;lia
theorem Ln.words_ne(l:Ln):∃ w ws,l.words=w::ws:=by
 cases l with
 | beg n e=>cases e <;> exact ⟨_,_,rfl⟩
 | rule z=>exact ⟨_,_,rfl⟩
theorem Ln.split{l:Ln}(h:LnOk l):Txt.split l.text " "=l.words:=by
 unfold Ln.text;rw [xG];refine afz (by decide) ?_ fun z hz hm=>?_
 .obtain ⟨w,ws,e⟩:=l.words_ne;rw [e];simp
 .have:=(qM h z hz).2.2 32 hm
  lia
theorem ual{l:Ln}(h:LnOk l):l.words.length<=1001:=by
 cases l with
 | beg n e=>cases e <;> simp [Ln.words]
 | rule z=>
  have h:Fine z:=h;show (z.1::z.2).length<=1001;rw [E5];exact Nat.succ_le_succ h.1
theorem Ln.len{l:Ln}(h:LnOk l):l.text.length<=4000:=by
 cases l with
 | beg n e=>
  have hs:=qM h;have h1:=PySem.StrLaws.join_length_le " " (Ln.beg n e).words;rw [show (" " : Str).length=1 from rfl] at h1;have h2:((Ln.beg n e).words.map (·.length)).sum<=40:=by
   cases e with
   | none=>
    have a1:=(hs "order" (by simp [Ln.words])).2.1;have a2:=(hs n (by simp [Ln.words])).2.1;simp [Ln.words] at a1 ⊢
    lia
   | some x=>
    have a1:=(hs "order" (by simp [Ln.words])).2.1;have a2:=(hs n (by simp [Ln.words])).2.1;have a3:=(hs "of" (by simp [Ln.words])).2.1;have a4:=(hs x (by simp [Ln.words])).2.1;simp [Ln.words] at a1 a3 ⊢
    lia
  have h3:(Ln.beg n e).words.length<=4:=by cases e <;> simp [Ln.words]
  unfold Ln.text;lia
 | rule z=>
  have h:Fine z:=h;exact uam h
theorem Ln.pos{l:Ln}(h:LnOk l):0<l.text.length:=by
 have e:l.text.length=l.text.cps.toList.length:=by simp [Str.length]
 rw [e];unfold Ln.text;rw [xG,lJ];obtain ⟨w,ws,e⟩:=l.words_ne;rw [e];exact aht (qM h w (by rw [e];exact G3)).1
theorem uac{l:Ln}(h:LnOk l):10∉l.text.cps.toList:=fun hm=>by
 unfold Ln.text at hm;rw [xG,lJ] at hm
 rcases ahs hm with h1 | ⟨z,h1,h2⟩
 .lia
 .have:=(qM h z h1).2.2 10 h2
  lia
theorem Fits.ok{ls:List Ln}(h:Fits ls):∀ l∈ls,LnOk l:=fun l hl=>by
 obtain ⟨i,hi⟩:=m6.mp hl;exact (h i l hi).ok
theorem mB(o e:ab)(nw:V)(n:Int):(flds o e nw n).lookup (ai "own")=some (.ref o):=by rfl
theorem anV(o e:ab)(nw:V)(n:Int):(flds o e nw n).lookup (ai "elders")=some (.ref e):=by rfl
theorem anW(o e:ab)(nw:V)(n:Int):(flds o e nw n).lookup (ai "newest")=some nw:=by rfl
theorem asu(o e:ab)(nw:V)(n:Int):(flds o e nw n).lookup (ai "length")=some (.int n):=by rfl
theorem asv(o e:ab)(nw y:V)(n:Int):putF (ai "newest") y (flds o e nw n)=flds o e y n:=by rfl
theorem asw(o e:ab)(nw:V)(n m:Int):putF (ai "length") (.int m) (flds o e nw n)=flds o e nw m:=by rfl
theorem BookAt.tick{o e:ab}{B:Bk}{ad:Al}{as:Str->Ai}{n:Int}(x:BookAt C H0 H b dx o e B ad as n)(m:Int):BookAt C H0 (A0 H b (.ins C dx (flds o e (orNon B.nw) m))) b dx o e B ad as m:=by
 have hb:=x.obj;refine ⟨A1,?_,?_,x.dr.put (fun t ht z=>?_) (fun z w=>by rw [hb] at w;cases w),x.nb,x.no,x.ne,x.oe,x.same.put x.nb⟩
 .rw [A4 (fun z=>by rw [<- z,x.own] at hb;cases hb)];exact x.own
 .rw [A4 (fun z=>by rw [<- z,x.eld] at hb;cases hb)];exact x.eld
 .have:=(x.dr.row t ht).top
  rw [z,hb] at this
  cases this
theorem Bk.Good.mono{B:Bk}(g:B.Good n)(h:n<=m):B.Good m:=⟨g.nd,g.nw,g.nm,g.fine,fun t ht=>K9 (g.len t ht) h,K9 g.cnt h⟩
theorem aih(R M:Aq):(T3 R M).length<=R.length+M.length:=by
 unfold T3 young;refine K9 (aX _ _) ?_;rw [C6]
 have:=kC (K4 (goneL M)) R
 lia
theorem ai8{B:Bk} : ∀ (c:Ab) (R:Aq),(∀ t∈c,∀ z∈B.rl t,Fine z)->(∀ z∈R,Fine z)->(∀ z∈c.foldl (fun R t=>T3 R (B.rl t)) R,Fine z)/\(c.foldl (fun R t=>T3 R (B.rl t)) R).length<=R.length+(c.map fun t=>(B.rl t).length).sum
 | [],R,_,h=>⟨h,C1 _⟩
 | t::c,R,h1,h2=>by
  obtain ⟨a,b⟩:=ai8 c (T3 R (B.rl t)) (fun u hu=>h1 u (G6 _ hu)) (aho h2 (h1 t G3));refine ⟨a,?_⟩
  have:=aih R (B.rl t)
  rw [y9,E2,e8];lia
theorem anX{x:Nat} : ∀ {l:An},x∈l->x<=l.sum
 | [],h=>by cases h
 | y::l,h=>by
  rw [e8]
  rcases D8.mp h with h | h
  .lia
  .have:=anX h;lia
theorem ai9(f:Str->Nat):∀ (c:Ab) (i:Nat),((c.take i).map f).sum<=(c.map f).sum
 | [],i=>by simp
 | t::c,0=>by simp
 | t::c,i+1=>by
  have:=ai9 f c i
  rw [List.take_succ_cons,E2,E2,e8,e8];lia
theorem aqv(f:Str->Nat)(c:Ab):(c.reverse.map f).sum=(c.map f).sum:=by rw [eL,List.sum_reverse]
theorem anm{ns:Ab}{el:Str->Option Str}{n:Str}(h:n∉ns):((ns++[n]).filter fun t=>(if t=n then none else el t).isSome)=ns.filter fun t=>(el t).isSome:=by
 rw [Q0];have e1:([n].filter fun t=>(if t=n then none else el t).isSome)=[]:=by simp
 rw [e1,L5];exact List.filter_congr fun t ht=>by rw [if_neg (fun e=>h (by rw [<- e];exact ht))]
theorem ann{ns:Ab}{el:Str->Option Str}{n:Str}(h:n∉ns):((ns++[n]).filter fun t=>(if t=n then some x else el t).isSome)=(ns.filter fun t=>(el t).isSome)++[n]:=by
 rw [Q0];have e1:([n].filter fun t=>(if t=n then some x else el t).isSome)=[n]:=by simp
 rw [e1]
 congr 1
 exact List.filter_congr fun t ht=>by rw [if_neg (fun e=>h (by rw [<- e];exact ht))]
noncomputable def LT:Str:=ai "abcdefghijklmnopqrstuvwxyz"
theorem LT_eq:LT.cps.toList=(U5 26).map (97 + ·):=by decide +kernel
theorem jB:LT.length<=ak:=by decide +kernel
theorem LT_at{i:Int}(h0:0<=i)(h1:i<26):K6 LT.cps.toList i=some (97+i.toNat):=by
 rw [LT_eq,show i=((i.toNat:Nat):Int) by lia];refine M6 ?_;rw [U3,List.getElem?_range (by lia)];rfl
theorem anY{n:Int}(h0:0<=n)(h1:n<=3):MulOk ⟨#[c]⟩ n/\(Txt.mul ⟨#[c]⟩ n).length<=3/\∀ x∈(Txt.mul ⟨#[c]⟩ n).cps.toList,x=c:=by
 have h:n=0\/n=1\/n=2\/n=3:=by lia
 have l1:(⟨#[c]⟩:Str).length=1:=rfl
 rcases h with rfl | rfl | rfl | rfl
 .exact ⟨⟨by decide,fun h=>absurd (by decide) h,fun h=>absurd (by decide) h⟩,by show 0<=3;decide,fun x hx=>by simp [Txt.mul,Str.empty] at hx⟩
 .exact ⟨⟨by decide,fun _ h=>by simp at h,fun _ h=>by simp at h⟩,by show 1<=3;decide,fun x hx=>by simpa [Txt.mul] using hx⟩
 .refine ⟨⟨by decide,fun _ _=>by rw [l1];decide,fun _ _=>by rw [l1];decide⟩,by show 2<=3;decide,fun x hx=>?_⟩
  have:x∈[c,c]:=hx
  simpa using this
 .refine ⟨⟨by decide,fun _ _=>by rw [l1];decide,fun _ _=>by rw [l1];decide⟩,by show 3<=3;decide,fun x hx=>?_⟩
  have:x∈[c,c,c]:=hx
  simpa using this
theorem ano{n:Int}(hj:j<60)(hk:k<60)(e3:97+((n+7*j) % 676 / 26).toNat=97+((n+7*k) % 676 / 26).toNat/\97+((n+7*j) % 676 % 26).toNat=97+((n+7*k) % 676 % 26).toNat):j=k:=by
 have h1:(n+7*j) % 676=(n+7*k) % 676:=by
  generalize hx:(n+7*j) % 676=x at e3;generalize hy:(n+7*k) % 676=y at e3;have qZ:0<=x:=by rw [<- hx];exact V8 _ (by decide)
  have hy0:0<=y:=by rw [<- hy];exact V8 _ (by decide)
  clear hx hy;have a1:x / 26=y / 26:=by lia
  have a2:x % 26=y % 26:=by lia
  have b1:=gY x 26;have b2:=gY y 26;lia
 have c1:=gY (n+7*j) 676;have c2:=gY (n+7*k) 676;rw [h1] at c1;generalize (n+7*(j:Int)) / 676=u at c1;generalize (n+7*(k:Int)) / 676=v at c2;generalize (n+7*(k:Int)) % 676=w at c1 c2;lia
theorem aqw{x:Int}(h0:0<=x)(h1:x<676):97<=97+(x / 26).toNat/\97+(x / 26).toNat<=122/\97<=97+(x % 26).toNat/\97+(x % 26).toNat<=122:=by lia
noncomputable def bO (A Z:Str) (n:Int) (k:Nat):Str:=A++(⟨#[97+((n+7*k) % 676 / 26).toNat]⟩++⟨#[97+((n+7*k) % 676 % 26).toNat]⟩)++Z
theorem xH(A Z:Str)(n:Int)(k:Nat):(bO A Z n k).cps.toList=A.cps.toList++([97+((n+7*k) % 676 / 26).toNat,97+((n+7*k) % 676 % 26).toNat]++Z.cps.toList):=by
 unfold bO;simp only [Str.cps_append,Array.toList_append,R8];rfl
theorem aqx{A:Str}{n:Int}(hj:j<60)(hk:k<60)(h:bO A Z n j=bO A Z n k):j=k:=by
 have e:=congrArg (fun z:Str=>z.cps.toList) h;simp only [xH] at e;have e2:=List.append_cancel_left e;have e3:=List.append_cancel_right e2;simp only [List.cons.injEq,and_true] at e3;exact ano hj hk e3
theorem anp{A:Str}(hA:A.length<=3)(hZ:Z.length<=3)(hA2:∀ x∈A.cps.toList,97<=x/\x<=122)(hZ2:∀ x∈Z.cps.toList,97<=x/\x<=122)(n:Int)(k:Nat):nameB (bO A Z n k)=true:=by
 have hl:(bO A Z n k).length=A.length+2+Z.length:=by
  have e:(bO A Z n k).length=(bO A Z n k).cps.toList.length:=by simp [Str.length]
  rw [e,xH];simp [Str.length];lia
 unfold nameB;rw [decide_eq_true (by lia),decide_eq_true (by lia),xH,aA,aA,cF];intro x hx;have key:97<=x/\x<=122:=by
  rcases J9.mp hx with h | h
  .exact hA2 x h
  .rcases J9.mp h with h | h
   .simp only [D8,Q8,or_false] at h;have az:=aqw (x:=(n+7*k) % 676) (V8 _ (by decide)) (j4 _ (by decide))
    rcases h with rfl | rfl
    .exact ⟨az.1,az.2.1⟩
    .exact ⟨az.2.2.1,az.2.2.2⟩
   .exact hZ2 x h
 rw [decide_eq_true key.1,decide_eq_true key.2];rfl
theorem alV{d:ac}(h:(us++[d]).length=4):∃ u1 u2 u3,us=[u1,u2,u3]:=by
 match us,h with
 | [a,b,c],_=>exact ⟨a,b,c,rfl⟩
 | [],h=>simp at h
 | [_],h=>simp at h
 | [_,_],h=>simp at h
 | _::_::_::_::r,h=>simp at h
theorem aqy(h:(us++[]).length=4):∃ u1 u2 u3 u4,us=[u1,u2,u3,u4]:=by
 match us,h with
 | [a,b,c,d],_=>exact ⟨a,b,c,d,rfl⟩
 | [],h=>simp at h
 | [_],h=>simp at h
 | [_,_],h=>simp at h
 | [_,_,_],h=>simp at h
 | _::_::_::_::_::r,h=>simp at h
inductive LvD where
 | tt (xs:List Am)
 | ii (xs:Am)
 | ss (z:Str)
deriving DecidableEq
noncomputable def LvD.kind:LvD->Nat
 | .tt _=>0
 | .ii _=>1
 | .ss _=>2
noncomputable def LvD.lt:LvD->LvD->Bool
 | .tt xs,.tt ys=>decide (xs<ys)
 | .ii xs,.ii ys=>decide (xs<ys)
 | .ss x,.ss y=>decide (x.cps.toList<y.cps.toList)
 | _,_=>false
noncomputable def LvAt (H:Hp) (v:V):LvD->Prop
 | .tt xs=>∃ (a:ab) (as:Ai),v=.ref a/\H a=some (.lst (as.map V.ref))/\Paired (fun c (x:Am)=>H c=some (.tup (x.map V.int))) as xs
 | .ii xs=>∃ a:ab,v=.ref a/\H a=some (.lst (xs.map V.int))
 | .ss z=>v=.str z
theorem LvAt.same{v:V}{d:LvD}(h:LvAt H v d)(S:Same H H'):LvAt H' v d:=by
 cases d with
 | tt xs=>obtain ⟨a,as,e,h1,h2⟩:=h;exact ⟨a,as,e,S _ _ h1,L7 h2 fun _ _ e=>S _ _ e⟩
 | ii xs=>obtain ⟨a,e,h1⟩:=h;exact ⟨a,e,S _ _ h1⟩
 | ss z=>exact h
theorem xI : ∀ {as:Ai} {xs:List Am},Paired (fun c (x:Am)=>H c=some (.tup (x.map V.int))) as xs->DnAll K H (as.map V.ref) (xs.map fun x=>PyData.tuple (x.map bD))
 | _,_,.nil=>.nil
 | _,_,.cons h t=>.cons (.tup (.of h) iE) (xI t)
theorem aja:∀ xs ys:List Am,Z5 (xs.map fun x=>PyData.tuple (x.map bD)) (ys.map fun x=>PyData.tuple (x.map bD))=decide (xs=ys)
 | [],[]=>by simp [Z5]
 | [],_::_=>by simp [Z5]
 | _::_,[]=>by simp [Z5]
 | x::xs,y::ys=>by
  rw [E2,E2,Z5,Y0,oZ,aja xs ys,cJ]
  simp
theorem ajb:∀ xs:List Am,cL (xs.map fun x=>PyData.tuple (x.map bD))<=1
 | []=>J7 _
 | x::xs=>by
  rw [E2,cL,eO,pD]
  have:=ajb xs
  lia
theorem LvAt.ne{v:V}{d d':LvD}(h:LvAt H v d)(h':LvAt H v' d')(hk:d.kind=d'.kind)(q:Q (.bl (!decide (d=d'))) H):rNeU K v v' H Q:=by
 cases d with
 | tt xs=>cases d' with
  | tt ys=>
   obtain ⟨a,as,rfl,h1,h2⟩:=h;obtain ⟨b,bs,rfl,h3,h4⟩:=h';refine ⟨_,_,.lst (.of h1) (xI h2),.lst (.of h3) (xI h4),?_,?_⟩
   .have:=ajb xs
    rw [eO];lia
   .rw [Y0,aja,show decide (xs=ys)=decide (LvD.tt xs=LvD.tt ys) by simp];exact q
  | _=>cases hk
 | ii xs=>cases d' with
  | ii ys=>
   obtain ⟨a,rfl,h1⟩:=h;obtain ⟨b,rfl,h3⟩:=h';refine ⟨_,_,.lst (.of h1) iE,.lst (.of h3) iE,by rw [eO,pD];lia,?_⟩;rw [Y0,oZ,show decide (xs=ys)=decide (LvD.ii xs=LvD.ii ys) by simp];exact q
  | _=>cases hk
 | ss x=>cases d' with
  | ss y=>
   cases h;cases h';show Q (.bl (!decide (x=y))) H;rw [show decide (x=y)=decide (LvD.ss x=LvD.ss y) by simp];exact q
  | _=>cases hk
theorem LvAt.lt{v:V}{d d':LvD}(h:LvAt H v d)(h':LvAt H v' d')(hk:d.kind=d'.kind)(q:Q (.bl (d.lt d')) H):rLtK K v v' H Q:=by
 cases d with
 | tt xs=>cases d' with
  | tt ys=>
   obtain ⟨a,as,rfl,h1,h2⟩:=h;obtain ⟨b,bs,rfl,h3,h4⟩:=h';exact .inr (.inr ⟨as,bs,xs,ys,.of h1,.of h3,L7 h2 fun _ _ e=>.of e,L7 h4 fun _ _ e=>.of e,q⟩)
  | _=>cases hk
 | ii xs=>cases d' with
  | ii ys=>
   obtain ⟨a,rfl,h1⟩:=h;obtain ⟨b,rfl,h3⟩:=h';exact .inl ⟨xs,ys,.of h1,.of h3,q⟩
  | _=>cases hk
 | ss x=>cases d' with
  | ss y=>cases h;cases h';exact q
  | _=>cases hk
theorem ad4 : ∀ {es:List (ab×ab)} {U:List L1},Paired (fun e (u:L1)=>H1 e.1=some (.tup [.int u.1,.int u.2.1,.ref e.2,.int u.2.2.2])/\H1 e.2=some (.tup (u.2.2.1.map V.int))) es U->Paired (fun c (x:Am)=>H1 c=some (.tup (x.map V.int))) (es.map (·.2)) (U.map fun u=>u.2.2.1)
 | _,_,.nil=>.nil
 | _,_,.cons h t=>.cons h.2 (ad4 t)
noncomputable def f9 (b:Bool) (U:List L1) (z:Str):List LvD:=[.tt (U.map fun u=>[u.1,u.2.1]),.tt ((if b=true then U.reverse else U).map fun u=>u.2.2.1),.ii (U.map fun u=>u.2.2.2),.ss z]
noncomputable def IsLooks (H:Hp) (l:ab) (ds:List LvD):Prop:=∃ vs:Ao,H l=some (.lst vs)/\Paired (LvAt H) vs ds
theorem IsLooks.same{l:ab}{ds:List LvD}(h:IsLooks H l ds)(S:Same H H'):IsLooks H' l ds:=
 let ⟨vs,h1,h2⟩:=h
 ⟨vs,S _ _ h1,L7 h2 fun _ _ e=>e.same S⟩
noncomputable def cmpD (d d':LvD):Int:=if d=d' then 0 else if d.lt d'=true then -1 else 1
noncomputable def cmpF (n:Nat) (ds ds':List LvD):Int:=(((m8 cmpD ds ds').take n).find? fun v=>v≠0).getD 0
noncomputable def alW (C:ab):Sp:=fun vs H Q _=>∃ (x j ll ml md:ab) (z:Str) (g:Str->Str) (R:Aq) (L M:Ab),vs=[.ref x,.str z]/\IsOrd C H x j ll ml md g R L M/\(L8 R).length<=1000/\z.length<=500/\bN (hasW R "figures") (L8 R) z/\(∀ y,(stepY R L M y).length<=15)/\
 ∀ l H',H l=none->Same H H'->IsLooks H' l (f9 (hasW R "behind") (Q5 (stepY R L M) (cutF (hasW R "figures") (L8 R) z.cps.toList).2) z)->Q (.ref l) H'
noncomputable def mC (R:Aq) (L M:Ab) (z:Str):List LvD:=f9 (hasW R "behind") (Q5 (stepY R L M) (cutF (hasW R "figures") (L8 R) z.cps.toList).2) z
noncomputable def mD (C:ab):Sp:=fun vs H Q _=>∃ (x j ll ml md:ab) (z z':Str) (n:Nat) (g:Str->Str) (R:Aq) (L M:Ab),vs=[.ref x,.str z,.str z',.int n]/\n<=4/\IsOrd C H x j ll ml md g R L M/\(L8 R).length<=1000/\z.length<=500/\z'.length<=500/\bN (hasW R "figures") (L8 R) z/\bN (hasW R "figures") (L8 R) z'/\(∀ y,(stepY R L M y).length<=15)/\
 ∀ H',Same H H'->Q (.int (cmpF n (mC R L M z) (mC R L M z'))) H'
theorem aij(b b':Bool)(U U':List L1)(z z':Str)(i:Nat)(d d':LvD)(h:(f9 b U z)[i]?=some d)(h':(f9 b' U' z')[i]?=some d'):d.kind=d'.kind:=by
 match i with
 | 0=>cases h;cases h';rfl
 | 1=>cases h;cases h';rfl
 | 2=>cases h;cases h';rfl
 | 3=>cases h;cases h';rfl
 | i+4=>simp [f9] at h
theorem xJ{ds ds':List LvD}{d d':LvD}(hi:i<n)(h:ds[i]?=some d)(h':ds'[i]?=some d')(dI:∀ k<i,ds[k]?=ds'[k]?)(G0:d≠d'):cmpF n ds ds'=cmpD d d':=by
 have hz:(m8 cmpD ds ds')[i]?=some (cmpD d d'):=by rw [List.getElem?_zipWith,h,h']
 have hc:cmpD d d'≠0:=by
  unfold cmpD;rw [if_neg G0]
  split <;> decide
 have h0:∀ v∈(m8 cmpD ds ds').take i,v=0:=by
  intro v hv;obtain ⟨k,hk,e⟩:=List.mem_take_iff_getElem.mp hv;have hk1:k<i:=by lia
  have e2:(m8 cmpD ds ds')[k]?=some v:=by rw [L6 (by lia),e]
  rw [List.getElem?_zipWith,dI k hk1] at e2
  cases q:ds'[k]? with
  | none=>rw [q] at e2;cases e2
  | some x=>
   rw [q] at e2
   have:cmpD x x=v:=by simpa using e2
   rw [<- this];exact if_pos rfl
 unfold cmpF;have e3:(m8 cmpD ds ds').take n=(m8 cmpD ds ds').take i++(cmpD d d'::((m8 cmpD ds ds').take n).drop (i+1)):=by
  have hl:i<((m8 cmpD ds ds').take n).length:=by
   have:=(F8.mp hz).1
   rw [G9];lia
  have e4:=c9 i ((m8 cmpD ds ds').take n);rw [List.take_take,eN (cI hi)] at e4
  conv=>lhs;rw [<- e4]
  rw [aU hl]
  have:((m8 cmpD ds ds').take n)[i]=cmpD d d':=by
   rw [List.getElem_take];exact (F8.mp hz).2
  rw [this]
 rw [e3,List.find?_append,List.find?_eq_none.mpr (fun v hv=>by simp [h0 v hv])];simp [hc]
theorem alX{ds ds':List LvD}(dI:∀ k<n,ds[k]?=ds'[k]?):cmpF n ds ds'=0:=by
 unfold cmpF
 have:((m8 cmpD ds ds').take n).find? (fun v=>v≠0)=none:=List.find?_eq_none.mpr fun v hv=>by
  obtain ⟨k,hk,e⟩:=List.mem_take_iff_getElem.mp hv;have e2:(m8 cmpD ds ds')[k]?=some v:=by rw [L6 (by lia),e]
  rw [List.getElem?_zipWith,dI k (by lia)] at e2
  cases q:ds'[k]? with
  | none=>rw [q] at e2;cases e2
  | some x=>
   rw [q] at e2
   have:cmpD x x=v:=by simpa using e2
   rw [<- this];simp [cmpD]
 rw [this];rfl
noncomputable def anZ (K:aj):Sp:=fun vs H Q _=>∃ (a:ab) (zs:Ab),vs=[.ref a]/\C7 K H a (zs.map V.str)/\(zs.map (·.length)).sum+zs.length<=1048576/\Q (.str (Str.join " " zs)) H
noncomputable def spNms:Sp:=fun vs H Q _=>∃ n m:Int,vs=[.int n,.int m]/\0<=n/\1<=m/\m<=24/\∀ l (nms:Ab) H',H l=none->Same H H'->H' l=some (.lst (nms.map V.str))->nms.length=m.toNat->nms.Nodup->(∀ z∈nms,nameB z=true)->Q (.ref l) H'
theorem qN : ∀ {n:Nat},n<=8->MulOk ⟨#[c]⟩ (n:Int)/\(Txt.mul ⟨#[c]⟩ (n:Int)).cps.toList=U4 n c:=by
 intro n hn;have l1:(⟨#[c]⟩:Str).length=1:=rfl;have h:n=0\/n=1\/n=2\/n=3\/n=4\/n=5\/n=6\/n=7\/n=8:=by lia
 rcases h with rfl | rfl | rfl | rfl | rfl | rfl | rfl | rfl | rfl
 .exact ⟨⟨by decide,fun h=>absurd (by decide) h,fun h=>absurd (by decide) h⟩,rfl⟩
 .exact ⟨⟨by decide,fun _ h=>by simp at h,fun _ h=>by simp at h⟩,rfl⟩
 all_goals exact ⟨⟨by decide,fun _ _=>by rw [l1];decide,fun _ _=>by rw [l1];decide⟩,rfl⟩
theorem anq{N:Int}(hj:j<26)(hk:k<26)(h:((N+5*(j:Int)) % 26).toNat=((N+5*(k:Int)) % 26).toNat):j=k:=by
 have h1:(N+5*(j:Int)) % 26=(N+5*(k:Int)) % 26:=by
  have a:=V8 (N+5*(j:Int)) (show (26:Int)≠0 by decide);have b:=V8 (N+5*(k:Int)) (show (26:Int)≠0 by decide);lia
 have c1:=gY (N+5*(j:Int)) 26;have c2:=gY (N+5*(k:Int)) 26;rw [h1] at c1;generalize (N+5*(j:Int)) / 26=u at c1;generalize (N+5*(k:Int)) / 26=v at c2;generalize (N+5*(k:Int)) % 26=w at c1 c2;lia
theorem asx{c1 c2:Prop}[Decidable c1][Decidable c2]{d1 d2:Prop}[Decidable d1][Decidable d2]{X zy G:Prop}(x:c1->d1->X)(y:¬ (c1/\d1)->c2->d2->zy)(g:¬ (c1/\d1)->¬ (c2/\d2)->G) :
  if decide c1=true then (if decide d1=true then X else if decide c2=true then (if decide d2=true then zy else G) else G) else if decide c2=true then (if decide d2=true then zy else G) else G:=
 iteD (fun h1=>iteD (fun h2=>x h1 h2) fun h2=>iteD (fun h3=>iteD (fun h4=>y (fun z=>h2 z.2) h3 h4) fun h4=>g (fun z=>h2 z.2) fun z=>h4 z.2) fun h3=>g (fun z=>h2 z.2) fun z=>h3 z.1)
  fun h1=>iteD (fun h3=>iteD (fun h4=>y (fun z=>h1 z.1) h3 h4) fun h4=>g (fun z=>h1 z.1) fun z=>h4 z.2) fun h3=>g (fun z=>h1 z.1) fun z=>h3 z.1
noncomputable def nm86 (A Z:Str) (N sh m:Int) (k:Nat):Str:=if sh=1/\m<=8 then Txt.mul ⟨#[97+(N % 26).toNat]⟩ ((k:Int)+1) else if sh=2/\m<=26 then ⟨#[97+((N+5*(k:Int)) % 26).toNat]⟩ else bO A Z N k
theorem anr{A:Str}{N m:Int}(hm:m<=24)(hj:(j:Int)<m)(hk:(k:Int)<m)(h:nm86 A Z N sh m j=nm86 A Z N sh m k):j=k:=by
 unfold nm86 at h
 by_cases h1:sh=1/\m<=8
 .rw [if_pos h1,if_pos h1] at h;have e:=congrArg (fun z:Str=>z.cps.toList.length) h;have a:=(qN (c:=97+(N % 26).toNat) (n:=j+1) (by lia)).2;have b:=(qN (c:=97+(N % 26).toNat) (n:=k+1) (by lia)).2;simp only [show ((j:Int)+1)=((j+1:Nat):Int) by lia,show ((k:Int)+1)=((k+1:Nat):Int) by lia,a,b,kF] at e;lia
 .rw [if_neg h1,if_neg h1] at h
  by_cases h2:sh=2/\m<=26
  .rw [if_pos h2,if_pos h2] at h;have e:=congrArg (fun z:Str=>z.cps.toList) h;have e2:[97+((N+5*(j:Int)) % 26).toNat]=[97+((N+5*(k:Int)) % 26).toNat]:=e;simp only [List.cons.injEq,and_true] at e2;exact anq (N:=N) (by lia) (by lia) (Nat.add_left_cancel e2)
  .rw [if_neg h2,if_neg h2] at h;exact aqx (by lia) (by lia) h
theorem ajQ{A:Str}{N m:Int}(hm:m<=24):((U5 m.toNat).map (nm86 A Z N sh m)).Nodup:=by
 rw [i7,List.pairwise_map];refine List.Pairwise.imp_of_mem (fun {x y} hx hy G0 e=>?_) (i7.mp List.nodup_range);rw [m7] at hx hy;exact G0 (anr hm (by lia) (by lia) e)
theorem alY{A:Str}(hA:A.length<=3)(hZ:Z.length<=3)(hA2:∀ x∈A.cps.toList,97<=x/\x<=122)(hZ2:∀ x∈Z.cps.toList,97<=x/\x<=122){N m:Int}(hk:(k:Int)<m):nameB (nm86 A Z N sh m k)=true:=by
 unfold nm86
 by_cases h1:sh=1/\m<=8
 .rw [if_pos h1];have a:=(qN (c:=97+(N % 26).toNat) (n:=k+1) (by lia)).2;rw [show ((k:Int)+1)=((k+1:Nat):Int) by lia];generalize Txt.mul ⟨#[97+(N % 26).toNat]⟩ ((k+1:Nat):Int)=z at a;have hl:z.length=k+1:=by
   have e:z.length=z.cps.toList.length:=by simp [Str.length]
   rw [e,a,kF]
  unfold nameB;rw [decide_eq_true (by lia),decide_eq_true (by lia),a,aA,aA,cF];intro x hx
  have:=List.eq_of_mem_replicate hx
  rw [decide_eq_true (by lia),decide_eq_true (by lia)];rfl
 .rw [if_neg h1]
  by_cases h2:sh=2/\m<=26
  .rw [if_pos h2];unfold nameB;rw [decide_eq_true (by show 1<=1;decide),decide_eq_true (by show 1<=8;decide),aA,aA,cF];intro x hx;have hx:x∈[97+((N+5*(k:Int)) % 26).toNat]:=hx
   have:=J8.mp hx
   rw [decide_eq_true (by lia),decide_eq_true (by lia)];rfl
  .rw [if_neg h2];exact anp hA hZ hA2 hZ2 N k
noncomputable def spLaw (K:aj):Sp:=fun vs H Q _=>∃ (a:ab) (ns:Am),vs=[.ref a]/\D9 K H a (ns.map V.int)/\ns.length<=63/\∀ H',Q (.bl true) H'
theorem asy{ms:Ab}(h:ms≠[])(k:Int):0<(ms.length:Int)/\∃ p∈ms,K6 (ms.map V.str) (k % (ms.length:Int))=some (V.str p):=by
 have hl:0<ms.length:=y7.mpr h;have h0:0<=k % (ms.length:Int):=V8 _ (by lia);have h1:k % (ms.length:Int)<(ms.length:Int):=j4 _ (by lia);have hi:(k % (ms.length:Int)).toNat<ms.length:=by lia
 refine ⟨by lia,ms[(k % (ms.length:Int)).toNat],gS hi,?_⟩
 have:=M6 (xs:=ms.map V.str) (j:=(k % (ms.length:Int)).toNat) (v:=V.str ms[(k % (ms.length:Int)).toNat]) (by rw [U3,L6 hi];rfl)
 rw [show (((k % (ms.length:Int)).toNat:Nat):Int)=k % (ms.length:Int) by lia] at this;exact this
structure S88(xs:Ab)(m0 m1 f:Str):Prop where
 nd:(xs++[m0,m1,f]).Nodup
 pc:∀ p∈xs++[m0,m1,f],Q2 p=true
 ln:xs.length<=40
 l1:1<=xs.length
theorem S88.nx{xs:Ab}{f:Str}(s:S88 xs m0 m1 f):xs.Nodup:=(i9.mp s.nd).1
theorem S88.far{xs:Ab}{f:Str}(s:S88 xs m0 m1 f):(∀ p∈xs,p≠m0/\p≠m1/\p≠f)/\m0≠m1/\m0≠f/\m1≠f:=by
 obtain ⟨_,h2,h3⟩:=i9.mp s.nd;refine ⟨fun p hp=>⟨h3 p hp m0 (by simp),h3 p hp m1 (by simp),h3 p hp f (by simp)⟩,?_⟩;simp only [T6,D8,Q8,not_or,or_false] at h2;exact ⟨h2.1.1,h2.1.2,h2.2.1⟩
theorem S88.perm{xs:Ab}{f:Str}(s:S88 xs m0 m1 f)(pm:ys.Perm xs):S88 ys m0 m1 f:=
 ⟨(pm.append_right _).nodup_iff.mpr s.nd,fun p hp=>s.pc p ((pm.append_right _).mem_iff.mp hp),by rw [pm.length_eq];exact s.ln,by rw [pm.length_eq];exact s.l1⟩
noncomputable def Ea88 (xs:Ab) (m0 m1 f:Str) (z:Rl):Prop:=(z.1=("row" : Str)/\z.2≠[]/\z.2.Sublist xs)\/z=(("marks" : Str),[m0,m1])\/∃ l∈xs,z=(("great" : Str),[l,f])
structure W88(xs:Ab)(m0 m1 f:Str)(n:Nat)(R:Aq):Prop where
 ea:∀ z∈R,Ea88 xs m0 m1 f z
 len:R.length<=n
 mks:R.filter (fun z=>decide (z.1=("marks" : Str)))=[(("marks" : Str),[m0,m1])]
 gr:(R.filter fun z=>decide (z.1=("great" : Str))).length<=1
 co:∀ e∈O7 xs,∃ z∈R,z.1=("row" : Str)/\e∈O7 z.2
 al:∀ p∈xs,∃ z∈R,z.1=("row" : Str)/\p∈z.2
theorem bP:(∀ ps,M8 (("row" : Str),ps)=ps)/\(∀ ps,M8 (("marks" : Str),ps)=ps)/\(∀ l f,M8 (("great" : Str),[l,f])=[f]):=by
 refine ⟨fun ps=>?_,fun ps=>?_,fun l f=>?_⟩
 .unfold M8;rw [if_neg (show ¬ ai "row"=ai "great" by decide +kernel),if_neg (show ¬ ai "row"=ai "as" by decide +kernel),if_pos (.inl rfl)]
 .unfold M8;rw [if_neg (show ¬ ai "marks"=ai "great" by decide +kernel),if_neg (show ¬ ai "marks"=ai "as" by decide +kernel),if_pos (.inr (.inl rfl))]
 .unfold M8;rw [if_pos rfl];rfl
theorem fM:jobD "row"=("letter" : Str)/\jobD "marks"=("mark" : Str)/\jobD "great"=("great" : Str):=by decide +kernel
theorem mE{xs:Ab}{f:Str}(h:∀ z∈R,Ea88 xs m0 m1 f z){w:Str}(h1:("row" : Str)≠w)(h2:("marks" : Str)≠w)(h3:("great" : Str)≠w):∀ z∈R,z.1≠w:=fun z hz=>by
 rcases h z hz with ⟨e,_⟩ | rfl | ⟨l,_,rfl⟩
 .rw [e];exact h1
 .exact h2
 .exact h3
theorem an0{w:Str}(h:∀ z∈R,z.1≠w):hasW R w=false:=by
 unfold hasW;rw [List.any_eq_false];intro z hz
 simpa using h z hz
theorem pr88{xs:Ab}{f:Str}(h:∀ z∈R,Ea88 xs m0 m1 f z){j:Str}(hp:(p,j)∈E3 R):(j=("letter" : Str)/\p∈xs)\/(j=("mark" : Str)/\(p=m0\/p=m1))\/(j=("great" : Str)/\p=f):=by
 unfold E3 at hp;obtain ⟨z,hz,hp⟩:=Z1.mp hp;obtain ⟨p',aL,e⟩:=E9.mp hp;obtain ⟨e1,e2⟩:=Prod.mk.inj e;subst e1 e2
 rcases h z hz with ⟨e,_,hs⟩ | rfl | ⟨l,_,rfl⟩
 .obtain ⟨w,ps⟩:=z;obtain rfl:w="row":=e;rw [bP.1] at aL;exact .inl ⟨fM.1,hs.subset aL⟩
 .rw [bP.2.1] at aL;exact .inr (.inl ⟨fM.2.1,by simpa using aL⟩)
 .rw [bP.2.2] at aL;exact .inr (.inr ⟨fM.2.2,J8.mp aL⟩)
theorem prg88{xs:Ab}{f:Str} : ∀ {R:Aq},(∀ z∈R,Ea88 xs m0 m1 f z)->((E3 R).filter fun e=>decide (e.2=("great" : Str))).length=(R.filter fun z=>decide (z.1=("great" : Str))).length
 | [],_=>rfl
 | z::R,h=>by
  have ih:=prg88 (R:=R) fun z hz=>h z (G6 _ hz)
  rw [show E3 (z::R)=((M8 z).map fun p=>(p,jobD z.1))++E3 R from W6 ..,Q0,C6,ih,List.filter_cons]
  rcases h z G3 with ⟨e,_⟩ | rfl | ⟨l,_,rfl⟩
  .obtain ⟨w,ps⟩:=z;obtain rfl:w="row":=e;rw [if_neg (by rw [decide_eq_true_eq];exact (by decide +kernel:¬ ai "row"=ai "great")),p0.mpr fun e he=>?_]
   .simp
   .obtain ⟨p,_,rfl⟩:=E9.mp he;rw [decide_eq_true_eq];show ¬ jobD "row"=_;rw [fM.1];decide +kernel
  .rw [if_neg (by rw [decide_eq_true_eq];exact (by decide +kernel:¬ ai "marks"=ai "great")),p0.mpr fun e he=>?_]
   .simp
   .obtain ⟨p,_,rfl⟩:=E9.mp he;rw [decide_eq_true_eq];show ¬ jobD "marks"=_;rw [fM.2.1];decide +kernel
  .rw [bP.2.2,E2,j0,o9 (by rw [decide_eq_true_eq];exact fM.2.2),List.filter_nil,if_pos (by simp),E5,E5,P9];lia
theorem asz{α:Type}{l:List α}{P:α->Bool}{a b:α}(ha:a∈l.take i)(hb:l[i]?=some b)(pa:P a=true)(pb:P b=true):2<=(l.filter P).length:=by
 rw [<- c9 i l,Q0,C6];have h1:0<((l.take i).filter P).length:=y7.mpr (List.ne_nil_of_mem (N5.mpr ⟨ha,pa⟩));have h2:0<((l.drop i).filter P).length:=y7.mpr (List.ne_nil_of_mem (N5.mpr ⟨K2 (i:=0) (by rw [List.getElem?_drop];exact hb),pb⟩));lia
noncomputable def g88 (xs:Ab) (f p:Str):Str:=if p∈xs then "letter" else if p=f then "great" else "mark"
theorem xK{xs:Ab}{f:Str}(s:S88 xs m0 m1 f)(h:∀ z∈R,Ea88 xs m0 m1 f z){j:Str}(hp:(p,j)∈E3 R):j=g88 xs f p:=by
 obtain ⟨far,_,h2,h3⟩:=s.far;unfold g88
 rcases pr88 h hp with ⟨rfl,hx⟩ | ⟨rfl,hx⟩ | ⟨rfl,rfl⟩
 .rw [if_pos hx]
 .rw [if_neg (fun q=>by rcases hx with e | e <;> rw [e] at q;exact (far _ q).1 rfl;exact (far _ q).2.1 rfl),if_neg (by rcases hx with e | e <;> rw [e];exact h2;exact h3)]
 .rw [if_neg (fun q=>(far _ q).2.2 rfl),if_pos rfl]
theorem xL(h:Q2 p=true):p.length<=2:=(cU h).2.2
theorem W88.nc{xs:Ab}{f:Str}(s:S88 xs m0 m1 f)(h:W88 xs m0 m1 f n R):NC false (g88 xs f) (E3 R):=by
 intro i p j hi;have hm:=K2 hi;refine ⟨xK s h.ea hm,fun ht=>?_,(fun q=>by cases q),?_⟩
 .rcases pr88 h.ea hm with ⟨rfl,_⟩ | ⟨rfl,_⟩ | ⟨rfl,rfl⟩
  .decide +kernel
  .decide +kernel
  .exfalso
   obtain ⟨e,he,e1⟩:=E9.mp ht;have e2:=xK s h.ea (p:=e.1) (j:=e.2) (cD he);rw [e1,<- xK s h.ea hm] at e2
   have:=asz (P:=fun e:Str×Str=>decide (e.2=("great" : Str))) he hi (by simpa using e2) (by simp)
   rw [prg88 h.ea] at this
   have:=h.gr
   lia
 .have:p∈xs++[m0,m1,f]:=by
   rcases pr88 h.ea hm with ⟨_,h⟩ | ⟨_,h | h⟩ | ⟨_,h⟩ <;> simp [h]
  have:=xL (s.pc p this)
  lia
theorem W88.noas{xs:Ab}{f:Str}(h:W88 xs m0 m1 f n R):∀ z∈R,z.1≠("as" : Str):=mE h.ea (by decide +kernel) (by decide +kernel) (by decide +kernel)
theorem W88.fig{xs:Ab}{f:Str}(h:W88 xs m0 m1 f n R):hasW R "figures"=false:=an0 (mE h.ea (by decide +kernel) (by decide +kernel) (by decide +kernel))
theorem W88.row{xs:Ab}{f:Str}(h:W88 xs m0 m1 f n R){z:Rl}(hz:z∈R)(e:z.1=("row" : Str)):z.2≠[]/\z.2.Sublist xs:=by
 rcases h.ea z hz with h | rfl | ⟨l,_,rfl⟩
 .exact h.2
 .exact absurd e (by decide +kernel:¬ ai "marks"=ai "row")
 .exact absurd e (by decide +kernel:¬ ai "great"=ai "row")
theorem W88.rows{xs:Ab}{f:Str}(h:W88 xs m0 m1 f n R) : ps∈rowsW R "row"↔∃ z∈R,z.1=("row" : Str)/\z.2=ps:=by
 unfold rowsW;rw [E9]
 constructor
 .rintro ⟨z,hz,e⟩;obtain ⟨h1,h2⟩:=N5.mp hz;exact ⟨z,h1,by simpa using h2,e⟩
 .rintro ⟨z,h1,h2,h3⟩;exact ⟨z,N5.mpr ⟨h1,by simpa using h2⟩,h3⟩
theorem W88.marks{xs:Ab}{f:Str}(h:W88 xs m0 m1 f n R):rowsW R "marks"=[[m0,m1]]:=by
 unfold rowsW;rw [h.mks];rfl
theorem xM{α β:Type}{g:α->List β} : ∀ {l:List α},(∀ a∈l,(g a).length<=k)->(l.flatMap g).length<=k*l.length
 | [],_=>J7 _
 | a::l,h=>by
  rw [W6,C6,E5,Nat.mul_succ]
  have:=h a G3
  have:=xM (l:=l) fun b hb=>h b (G6 _ hb)
  lia
theorem W88.good{xs:Ab}{f:Str}(s:S88 xs m0 m1 f)(h:W88 xs m0 m1 f n R)(hn:n<=100):GoodR (g88 xs f) (xs.idxOf ·) ([m0,m1].idxOf ·) R:=by
 have hl:=h.len;have rA:=s.ln;have zl:∀ z∈R,z.2.length<=40:=fun z hz=>by
  rcases h.ea z hz with ⟨_,_,h⟩ | rfl | ⟨l,_,rfl⟩
  .exact K9 h.length_le s.ln
  .show 2<=40;decide
  .show 2<=40;decide
 have gr:∀ z∈R,z.1=("great" : Str)->∃ l∈xs,z=(("great" : Str),[l,f]):=fun z hz hw=>by
  rcases h.ea z hz with ⟨h,_⟩ | rfl | h
  .rw [h] at hw;exact absurd hw (by decide +kernel)
  .exact absurd hw (by decide +kernel:¬ ai "marks"=ai "great")
  .exact h
 have lt:∀ p∈xs,(p,("letter" : Str))∈E3 R:=fun p hp=>by
  obtain ⟨⟨w,ps⟩,hz,e,yL⟩:=h.al p hp;obtain rfl:w="row":=e;exact Z1.mpr ⟨_,hz,by rw [bP.1];exact E9.mpr ⟨p,yL,by rw [fM.1]⟩⟩
 have tl:∀ z∈R,((M8 z).map fun p=>(p,jobD z.1)).length<=40:=fun z hz=>by
  have:=zl z hz
  rw [A3]
  rcases h.ea z hz with ⟨e,_⟩ | rfl | ⟨l,_,rfl⟩
  .obtain ⟨w,ps⟩:=z;obtain rfl:w="row":=e;rw [bP.1];exact this
  .rw [bP.2.1];exact this
  .rw [bP.2.2];show 1<=40;decide
 have t1:=xM tl;have t2:=xM (g:=fun ps:Ab=>ps) (k:=40) (l:=rowsW R "row") fun ps hp=>by
  obtain ⟨z,hz,_,rfl⟩:=h.rows.mp hp;exact zl z hz
 have t3:(rowsW R "row").length<=R.length:=by unfold rowsW;rw [A3];exact aX ..
 have t4:(rowsW R "row").flatten.length=((rowsW R "row").flatMap fun ps=>ps).length:=by rw [List.flatMap_id']
 have sp:Q2 " "=false:=by decide +kernel
 refine ⟨by lia,K9 t1 (by lia),by rw [h.fig];exact h.nc s,fun hb=>?_,fun z hz=>K9 (zl z hz) (by lia),fun z hz hw=>?_,fun z hz hw p hp=>?_,fun z hz hw=>absurd hw (h.noas z hz),fun z hz hw=>absurd hw (h.noas z hz),by rw [t4];exact K9 t2 (by lia),by rw [h.marks];simp,fun e he=>?_,fun e he=>?_⟩
 .obtain ⟨⟨p,j⟩,hp,e⟩:=E9.mp hb
  have:p∈xs++[m0,m1,f]:=by
   rcases pr88 h.ea hp with ⟨_,h⟩ | ⟨_,h | h⟩ | ⟨_,h⟩ <;> simp [h]
  have:=s.pc p this
  rw [show p=" " from e,sp] at this
  cases this
 .rcases hw with hw | hw
  .exact absurd hw (h.noas z hz)
  .obtain ⟨l,_,rfl⟩:=gr z hz hw
   simp
 .obtain ⟨l,hl,rfl⟩:=gr z hz hw;rw [J8.mp (show p∈[l] from hp)];exact lt l hl
 .unfold edges at he;obtain ⟨ps,hr,he⟩:=Z1.mp he;obtain ⟨z,hz,hw,rfl⟩:=h.rows.mp hr;exact anl s.nx (h.row hz hw).2 he
 .rw [h.marks] at he;exact alu (by simp [s.far.2.1]) (by simpa [edges] using he)
theorem W88.lets{xs:Ab}{f:Str}(s:S88 xs m0 m1 f)(h:W88 xs m0 m1 f n R)(hL:Y7 R "row" L)(hM:Y7 R "marks" M):L=xs/\M=[m0,m1]:=by
 unfold Y7 at hL hM;rw [h.marks] at hM;refine ⟨alt s.nx (iO _) hL.1 hL.2 (fun p=>?_) fun e he=>?_,alt (by simp [s.far.2.1]) (iO _) hM.1 hM.2 (fun p=>?_) fun e he=>?_⟩
 .rw [uX,kK]
  constructor
  .rintro ⟨ps,hps,hp⟩;obtain ⟨z,hz,hw,rfl⟩:=h.rows.mp hps;exact (h.row hz hw).2.subset hp
  .intro hp;obtain ⟨z,hz,hw,yL⟩:=h.al p hp;exact ⟨_,h.rows.mpr ⟨z,hz,hw,rfl⟩,yL⟩
 .obtain ⟨z,hz,hw,hez⟩:=h.co e he;exact Z1.mpr ⟨_,h.rows.mpr ⟨z,hz,hw,rfl⟩,hez⟩
 .rw [uX];simp
 .simpa [edges] using he
theorem ans(h:∀ z∈R,z.1≠("as" : Str))(hf:hasW R "figures"=false)(L M:Ab)(y:Str):(stepY R L M y).length<=15:=by
 rw [vC hf];unfold stepF;cases e:(putsL R L M).lookup y with
 | none=>simp
 | some t=>
  have hm:∃ p,(p,t)∈putsL R L M:=by
   generalize putsL R L M=l at e
   induction l with
   | nil=>cases e
   | cons x l ih=>
    rw [List.lookup_cons] at e
    split at e
    .obtain rfl:=bh e;exact ⟨x.1,G3⟩
    .obtain ⟨p,hp⟩:=ih e;exact ⟨p,G6 _ hp⟩
  obtain ⟨p,hp⟩:=hm;show t.length<=15;unfold putsL at hp
  rcases J9.mp hp with hp | hp
  .rcases J9.mp hp with hp | hp
   .rcases J9.mp hp with hp | hp
    .obtain ⟨e,_,q⟩:=E9.mp hp;rw [<- (Prod.mk.inj q).2];exact Nat.le_add_left 1 14
    .obtain ⟨e,_,q⟩:=E9.mp hp;rw [<- (Prod.mk.inj q).2];exact Nat.le_add_left 1 14
   .obtain ⟨w,_,hp⟩:=Z1.mp hp;obtain ⟨e,_,q⟩:=E9.mp hp;rw [<- (Prod.mk.inj q).2];exact Nat.le_add_left 1 14
  .unfold pU at hp;obtain ⟨z,hz,q⟩:=eI.mp hp;rw [if_neg (h z hz)] at q
   cases q
theorem al1{z:Rl}(h:K4 g z=some z'):z'.1=z.1:=by
 unfold K4 at h
 split at h
 .split at h
  .cases h
  .cases h;rfl
 .split at h
  .cases h;rfl
  .split at h
   .cases h
   .cases h;rfl
theorem xN{g:Ab}{w:Str} : ∀ R:Aq,(R.filterMap (K4 g)).filter (fun z=>decide (z.1=w))=(R.filter fun z=>decide (z.1=w)).filterMap (K4 g)
 | []=>rfl
 | z::R=>by
  have ih:=xN (g:=g) (w:=w) R;rw [p5]
  by_cases hw:z.1=w
  .rw [o9 (by simpa using hw),p5];cases e:K4 g z with
   | none=>exact ih
   | some z'=>
    show List.filter _ (z'::_)=z'::_;rw [o9 (by rw [al1 e];simpa using hw),ih]
  .rw [aW (by simpa using hw)];cases e:K4 g z with
   | none=>exact ih
   | some z'=>
    show List.filter _ (z'::_)=_;rw [aW (by rw [al1 e];simpa using hw),ih]
theorem ant{xs:Ab}(kp:Kp xs ys ks)(nx:xs.Nodup)(ny:ys.Nodup)(pm:ys.Perm xs)(h:ps.Sublist xs):(keepR (K1 xs ks) ps).Sublist ys:=by
 have h4:(keepR (K1 xs ks) ps).Sublist (xs.filter fun x=>decide (x∉K1 xs ks)):=List.Sublist.filter _ h;rw [kp.fx nx] at h4;have h5:ks.Sublist ys:=by
  have:=(List.filter_sublist (p:=fun x=>decide (x∉K1 xs ks)) (l:=ys))
  rw [kp.fy ny pm] at this;exact this
 exact h4.trans h5
theorem xO(h:∀ z∈R,z.1≠Q6):young R=R:=gQ.mpr fun z hz=>decide_eq_true (h z hz)
theorem W88.nof{xs:Ab}{f:Str}(h:W88 xs m0 m1 f n R):∀ z∈R,z.1≠Q6:=mE h.ea (by decide +kernel) (by decide +kernel) (by decide +kernel)
theorem W88.none{xs:Ab}{f:Str}(h:W88 xs m0 m1 f n R):T3 R []=R:=by
 have e:R.filterMap (K4 (goneL []))=R:=by
  have:∀ z∈R,K4 [] z=some z:=fun z hz=>by
   rcases h.ea z hz with ⟨e,hn,_⟩ | rfl | ⟨l,_,rfl⟩
   .obtain ⟨w,ps⟩:=z;obtain rfl:w="row":=e;rw [anT,xE (by simp),if_neg hn]
   .exact xF (.inl rfl) (by simp) (by simp)
   .exact ai4 (by simp)
  show R.filterMap (K4 [])=R;clear h
  induction R with
  | nil=>rfl
  | cons z R ih=>rw [p5,this z G3,ih fun z' l9=>this z' (G6 _ l9)]
 unfold T3;rw [e,L5,xO h.nof]
theorem W88.chg{xs:Ab}{f:Str}(s:S88 xs m0 m1 f)(h:W88 xs m0 m1 f n R)(kp:Kp xs ys ks)(pm:ys.Perm xs):W88 ys m0 m1 f (n+1) (T3 R (if K1 xs ks=[] then [] else [(Q6,K1 xs ks),(("row" : Str),ys)])):=by
 have nx:=s.nx;have sy:=s.perm pm;have ny:=sy.nx
 by_cases e0:K1 xs ks=[]
 .obtain rfl:=(kp.ne nx ny pm).mp e0;rw [if_pos e0,h.none];exact { h with len:=Nat.le_succ_of_le h.len }
 rw [if_neg e0];have hg:K4 (goneL [(Q6,K1 xs ks),(("row" : Str),ys)])=K4 (K1 xs ks):=by
  refine ast fun p=>?_
  show p∈(if ai "row"=Q6 then G7 (if Q6=Q6 then G7 [] (K1 xs ks) else []) ys else (if Q6=Q6 then G7 [] (K1 xs ks) else []))↔_;rw [if_neg (by decide +kernel),if_pos rfl,u7]
  simp
 have ot:∀ p∈[m0,m1,f],p∉K1 xs ks:=fun p hp hm=>(i9.mp s.nd).2.2 p (N5.mp hm).1 p hp rfl
 have ea:∀ z∈R.filterMap (K4 (K1 xs ks)),Ea88 ys m0 m1 f z:=fun z' l9=>by
  obtain ⟨z,hz,e⟩:=eI.mp l9
  rcases h.ea z hz with ⟨e1,_,hs⟩ | rfl | ⟨l,hl,rfl⟩
  .obtain ⟨w,ps⟩:=z;obtain rfl:w="row":=e1;rw [anT] at e
   split at e
   .cases e
   .rename_i hk
    cases e;exact .inl ⟨rfl,hk,ant kp nx ny pm hs⟩
  .rw [xF (.inl rfl) (by simp) fun p hp=>ot p (by simp at hp ⊢;rcases hp with e | e <;> simp [e])] at e
   cases e;exact .inr (.inl rfl)
  .rw [ai4 (ot f (by simp))] at e;cases e;exact .inr (.inr ⟨l,pm.mem_iff.mpr hl,rfl⟩)
 have ey:T3 R [(Q6,K1 xs ks),(("row" : Str),ys)]=R.filterMap (K4 (K1 xs ks))++[(("row" : Str),ys)]:=by
  unfold T3;rw [hg];show young (_++_)=_;unfold young;rw [Q0]
  congr 1
  exact xO (mE ea (by decide +kernel) (by decide +kernel) (by decide +kernel))
 rw [ey];have nE:ys≠[]:=fun e=>by have:=sy.l1;rw [e] at this;simp at this
 refine ⟨fun z hz=>?_,?_,?_,?_,fun e he=>⟨_,Q7 _ (J8.mpr rfl),rfl,he⟩,fun p hp=>⟨_,Q7 _ (J8.mpr rfl),rfl,hp⟩⟩
 .rcases J9.mp hz with hz | hz
  .exact ea z hz
  .rw [J8.mp hz];exact .inl ⟨rfl,nE,List.Sublist.refl _⟩
 .rw [C6,V2]
  have:=kC (K4 (K1 xs ks)) R
  have:=h.len
  lia
 .rw [Q0,xN,h.mks,p5,xF (.inl rfl) (by simp) fun p hp=>ot p (by simp at hp ⊢;rcases hp with e | e <;> simp [e])]
  rfl
 .rw [Q0,xN,C6]
  have:=kC (K4 (K1 xs ks)) (R.filter fun z=>decide (z.1=("great" : Str)))
  have:=h.gr
  show _+0<=1;lia
theorem W88.fine{xs:Ab}{f:Str}(s:S88 xs m0 m1 f)(h:W88 xs m0 m1 f n R):∀ z∈R,Fine z:=fun z hz=>by
 have rA:=s.ln
 rcases h.ea z hz with ⟨e,hn,hs⟩ | rfl | ⟨l,hl,rfl⟩
 .obtain ⟨w,ps⟩:=z;obtain rfl:w="row":=e
  have:ps.length<=xs.length:=hs.length_le
  have:0<ps.length:=y7.mpr hn
  show Good (ai "row") ps;exact lZ (by lia) (fun p hp=>s.pc p (P1 _ (hs.subset hp))) (n:=1) (by decide +kernel) (by lia)
 .show Good (ai "marks") [m0,m1];exact lZ (by simp) (fun p hp=>s.pc p (by simp at hp ⊢;rcases hp with e | e <;> simp [e])) (n:=1) (by decide +kernel) (by simp)
 .show Good (ai "great") [l,f];exact lZ (by simp) (fun p hp=>s.pc p (by simp at hp ⊢;rcases hp with e | e <;> simp [e,hl])) (n:=2) (by decide +kernel) (by simp)
theorem qO{xs:Ab}{f:Str}(s:S88 xs m0 m1 f)(pm:ys.Perm xs):∀ z∈(if K1 xs ks=[] then [] else [(Q6,K1 xs ks),(("row" : Str),ys)]:Aq),Fine z:=fun z hz=>by
 have rA:=s.ln;have V0:=s.l1
 split at hz
 .cases hz
 .rename_i e
  have hm:(K1 xs ks).Sublist xs:=List.filter_sublist
  have:=hm.length_le
  have:0<(K1 xs ks).length:=y7.mpr e
  have:=pm.length_eq
  rcases D8.mp hz with rfl | hz
  .show Good (ai "forget") (K1 xs ks);exact lZ (by lia) (fun p hp=>s.pc p (P1 _ (hm.subset hp))) (n:=1) (by decide +kernel) (by lia)
  .rw [J8.mp hz];show Good (ai "row") ys;exact lZ (by lia) (fun p hp=>s.pc p (P1 _ (pm.mem_iff.mp hp))) (n:=1) (by decide +kernel) (by lia)
theorem W88.unit{xs:Ab}{f:Str}(s:S88 xs m0 m1 f)(h:W88 xs m0 m1 f n R)(hn:n<=100)(hL:Y7 R "row" xs)(hM:Y7 R "marks" [m0,m1])(hz:xs[i]?=some z):bN (hasW R "figures") (L8 R) z/\mC R xs [m0,m1] z=f9 (hasW R "behind") [(2,(i:Int),[],0)] z:=by
 have md:=alp (h.good s hn) hL hM;have gB:=K2 hz;have hk:z∈L8 R:=by
  obtain ⟨⟨w,ps⟩,hr,e,hp⟩:=h.al z gB;obtain rfl:w="row":=e;exact P1 _ ((lP _ _).mpr (E9.mpr ⟨(z,jobD "row"),Z1.mpr ⟨_,hr,by rw [bP.1];exact E9.mpr ⟨z,hp,rfl⟩⟩,rfl⟩))
 have hc:=alQ hk (s.pc z (P1 _ gB));unfold bN mC;rw [h.fig,hc,vC h.fig];refine ⟨rfl,?_⟩;unfold Q5;rw [W6,eM,L5,md.lt i z hz];rfl
theorem cmp88{b b':Bool}{z':Str}(hn:1<=n)(qV:i<j):cmpF n (f9 b [(2,(i:Int),[],0)] z) (f9 b' [(2,(j:Int),[],0)] z')=-1/\cmpF n (f9 b' [(2,(j:Int),[],0)] z') (f9 b [(2,(i:Int),[],0)] z)=1:=by
 have ne:LvD.tt [[2,(i:Int)]]≠LvD.tt [[2,(j:Int)]]:=by simp;lia
 have lt:([[2,(i:Int)]]:List Am)<[[2,(j:Int)]]:=by
  rw [kG]
  left
  rw [kG]
  right
  refine ⟨rfl,?_⟩;rw [kG]
  left
  lia
 constructor
 .rw [xJ (i:=0) (d:=LvD.tt [[2,(i:Int)]]) (d':=LvD.tt [[2,(j:Int)]]) hn rfl rfl (by simp) ne];unfold cmpD;rw [if_neg ne,if_pos (show LvD.lt (.tt _) (.tt _)=true from decide_eq_true lt)]
 .rw [xJ (i:=0) (d:=LvD.tt [[2,(j:Int)]]) (d':=LvD.tt [[2,(i:Int)]]) hn rfl rfl (by simp) ne.symm];unfold cmpD;rw [if_neg ne.symm,if_neg];intro q;exact List.lt_irrefl _ (List.lt_trans lt (of_decide_eq_true (show decide _=true from q)))
noncomputable abbrev Bl:=Str×Option Str×Aq
noncomputable def D7 (b:Bl):List Ln:=Ln.beg b.1 b.2.1::b.2.2.map Ln.rule
noncomputable def Bk.stB (B:Bk) (b:Bl):Bk:=⟨B.names++[b.1],fun t=>if t=b.1 then b.2.2 else B.rl t,fun t=>if t=b.1 then b.2.1 else B.el t,some b.1⟩
theorem ajc(n:Str)(N:Ab)(rl:Str->Aq)(el:Str->Option Str):∀ (R R0:Aq),(R.map Ln.rule).foldl Bk.step ⟨N,fun t=>if t=n then R0 else rl t,el,some n⟩=⟨N,fun t=>if t=n then R0++R else rl t,el,some n⟩
 | [],R0=>by rw [L5];rfl
 | z::R,R0=>by
  rw [E2,y9];have e:Bk.step ⟨N,fun t=>if t=n then R0 else rl t,el,some n⟩ (Ln.rule z)=⟨N,fun t=>if t=n then R0++[z] else rl t,el,some n⟩:=by
   show (⟨N,fun t=>if some n=some t then (if t=n then R0 else rl t)++[z] else (if t=n then R0 else rl t),el,some n⟩:Bk)=_
   congr 1
   funext t
   by_cases e:t=n
   .rw [if_pos (by rw [e]),if_pos e,if_pos e]
   .rw [if_neg (fun q=>e (bh q).symm),if_neg e,if_neg e]
  rw [e,ajc n N rl el R (R0++[z]),R8];rfl
theorem an1(B:Bk)(b:Bl):(D7 b).foldl Bk.step B=B.stB b:=by
 unfold D7;rw [y9]
 have:=ajc b.1 (B.names++[b.1]) B.rl (fun t=>if t=b.1 then b.2.1 else B.el t) b.2.2 []
 rw [aY] at this;exact this
theorem aqz(bs:List Bl):Bk.of (bs.flatMap D7)=bs.foldl Bk.stB Bk.nil:=by
 unfold Bk.of;generalize Bk.nil=B
 induction bs generalizing B with
 | nil=>rfl
 | cons b bs ih=>rw [W6,Z0,an1,ih,y9]
theorem an2:∀ (bs:List Bl) (B:Bk),(bs.map (·.1)).Nodup->(bs.foldl Bk.stB B).names=B.names++bs.map (·.1)/\(∀ b∈bs,(bs.foldl Bk.stB B).rl b.1=b.2.2/\(bs.foldl Bk.stB B).el b.1=b.2.1)/\∀ t,t∉bs.map (·.1)->(bs.foldl Bk.stB B).rl t=B.rl t/\(bs.foldl Bk.stB B).el t=B.el t
 | [],B,_=>⟨by simp,by simp,fun t _=>⟨rfl,rfl⟩⟩
 | b::bs,B,nd=>by
  rw [E2,T6] at nd;obtain ⟨h1,h2,h3⟩:=an2 bs (B.stB b) nd.2;rw [y9];refine ⟨by rw [h1];show (B.names++[b.1])++_=_;rw [R8];rfl,fun c hc=>?_,fun t ht=>?_⟩
  .rcases D8.mp hc with rfl | hc
   .obtain ⟨e1,e2⟩:=h3 _ nd.1;rw [e1,e2];exact ⟨if_pos rfl,if_pos rfl⟩
   .exact h2 c hc
  .rw [E2,D8,not_or] at ht;obtain ⟨e1,e2⟩:=h3 t ht.2;rw [e1,e2];exact ⟨if_neg ht.1,if_neg ht.1⟩
theorem afR:∀ {R:Aq} {ls:List Ln},Fits ls->(Bk.of ls).nw≠none->(∀ z∈R,Fine z)->Fits (ls++R.map Ln.rule)
 | [],ls,h,_,_=>by rw [j0,L5];exact h
 | z::R,ls,h,hw,hf=>by
  have:=afR (R:=R) (ls:=ls++[Ln.rule z]) (h.snoc ⟨hw,hf z G3⟩) (by rw [qK];exact hw) fun z' l9=>hf z' (G6 _ l9)
  rw [R8] at this;exact this
theorem ahx:∀ {bs:List Bl} {ls:List Ln},Fits ls->(bs.map (·.1)).Nodup->(∀ b∈bs,b.1∉(Bk.of ls).names/\nameB b.1=true/\(∀ x,b.2.1=some x->nameB x=true)/\∀ z∈b.2.2,Fine z)->Fits (ls++bs.flatMap D7)
 | [],ls,h,_,_=>by rw [eM,L5];exact h
 | b::bs,ls,h,nd,hb=>by
  rw [E2,T6] at nd;obtain ⟨h1,h2,h3,h4⟩:=hb b G3;have f1:Fits (ls++[Ln.beg b.1 b.2.1]):=h.snoc ⟨h1,h2,h3⟩;have f2:=afR (R:=b.2.2) f1 (by rw [qK];simp [Bk.step]) h4;rw [R8] at f2;have f3:=ahx (bs:=bs) (ls:=ls++D7 b) f2 nd.2 fun c hc=>by
   refine ⟨?_,(hb c (G6 _ hc)).2⟩;have e:(Bk.of (ls++D7 b)).names=(Bk.of ls).names++[b.1]:=by
    unfold Bk.of;rw [Z0,an1];rfl
   rw [e,J9,not_or];exact ⟨(hb c (G6 _ hc)).1,fun q=>nd.1 (by rw [<- J8.mp q];exact E9.mpr ⟨c,hc,rfl⟩)⟩
  rw [R8] at f3;exact f3
theorem ajd(s:Str):∀ (as bs:Ab),as≠[]->bs≠[]->Str.join s (as++bs)=Str.join s as++s++Str.join s bs
 | [],_,h,_=>absurd rfl h
 | [a],b::bs,_,_=>rfl
 | a::c::as,bs,_,hb=>by
  have:=ajd s (c::as) bs (by simp) hb
  show a++s++Str.join s (c::as++bs)=a++s++Str.join s (c::as)++s++Str.join s bs;rw [this];simp only [Str.append_assoc]
theorem ae4(s:Str):∀ (xss:Aa),(∀ xs∈xss,xs≠[])->Str.join s (xss.map (Str.join s))=Str.join s xss.flatten
 | [],_=>rfl
 | [xs],_=>by simp [Str.join]
 | xs::ys::xss,h=>by
  have ih:=ae4 s (ys::xss) fun xs hx=>h xs (G6 _ hx)
  rw [p6,ajd s xs _ (h xs G3) (fun e=>h ys (by simp) (by rw [p6] at e;exact (List.append_eq_nil_iff.mp e).1)),<- ih];rfl
noncomputable def al2 (C C2:ab):Sp:=fun vs H Q _=>∃ (b dx o e:ab) (H0:Hp) (B:Bk) (ad:Al) (as:Str->Ai) (k:Int) (n:Str) (c:Ab) (g:Str->Str) (r1 r2:Str->Nat),vs=[.ref b,.str n]/\BookAt C2 H0 H b dx o e B ad as k/\B.Good 1000/\c.head?=some n/\IsChain B c/\(c.map fun t=>(B.rl t).length).sum<=400/\GoodR g r1 r2 (qL B c)/\
 ∀ x j ll ml md L M H',Same H H'->IsOrd C H' x j ll ml md g (qL B c) L M->Q (.ref x) H'
noncomputable def al3:Sp:=fun vs H Q _=>∃ (n:Str) (e:Option Str) (r:ab) (ts:Ai) (R:Aq),vs=[.str n,.str (e.getD ⟨#[]⟩),.ref r]/\nameB n=true/\(∀ x,e=some x->nameB x=true)/\IsRules H r ts R/\(∀ z∈R,Fine z)/\R.length<=100/\
 ∀ l H',H l=none->Same H H'->H' l=some (.lst (((D7 (n,e,R)).map Ln.text).map V.str))->Q (.ref l) H'
noncomputable def aje (C:ab):Sp:=fun vs H Q _=>∃ (x l:ab) (d:Nat) (xs:Ab) (m0 m1 f:Str) (n:Nat) (R:Aq) (j ll ml md:ab) (g:Str->Str),vs=[.ref x,.ref l,.int d]/\IsOrd C H x j ll ml md g R xs [m0,m1]/\S88 xs m0 m1 f/\W88 xs m0 m1 f n R/\n<=100/\H l=some (.lst (xs.map V.str))/\1<=d/\d<=10/\∀ H',Same H H'->Q (.bl true) H'
structure Rw88(xs:Ab)(R:Aq):Prop where
 ea:∀ z∈R,z.1=("row" : Str)/\z.2≠[]/\z.2.Sublist xs
 len:R.length<=40
 co:∀ e∈O7 xs,∃ z∈R,z.1=("row" : Str)/\e∈O7 z.2
 al:∀ p∈xs,∃ z∈R,z.1=("row" : Str)/\p∈z.2
noncomputable def al4:Sp:=fun vs H Q _=>∃ (a b:ab) (n:Int) (xs:Ab) (m0 m1 f:Str),vs=[.ref a,.ref b,.int n]/\H a=some (.lst (xs.map V.str))/\H b=some (.lst ([m0,m1,f].map V.str))/\S88 xs m0 m1 f/\∀ l ts R H',H l=none->Same H H'->IsRules H' l ts R->W88 xs m0 m1 f 50 R->Q (.ref l) H'
theorem W88.kn{xs:Ab}{f:Str}(s:S88 xs m0 m1 f)(h:W88 xs m0 m1 f n R):(L8 R).length<=1000:=by
 unfold L8 k4;rw [an0 (mE h.ea (by decide +kernel) (by decide +kernel) (by decide +kernel)),if_neg (by decide),L5]
 have:=xC (l:=keysP (E3 R)) (m:=xs++[m0,m1,f]) (pM (by simp)) fun y hy=>by
  obtain ⟨⟨p,j⟩,hp,rfl⟩:=E9.mp ((lP _ _).mp hy)
  rcases pr88 h.ea hp with ⟨_,h⟩ | ⟨_,h | h⟩ | ⟨_,h⟩ <;> simp [h]
 have:=s.ln
 rw [C6] at *;simp only [E5,P9] at *;lia
theorem aqA{row:Ab}{e:Str×Str}(he:e∈O7 row):∃ i:Nat,row[i]?=some e.1/\row[i+1]?=some e.2:=by
 unfold O7 at he;obtain ⟨i,hi⟩:=m6.mp he;rw [List.getElem?_zip_eq_some] at hi;exact ⟨i,hi.1,by rw [<- List.getElem?_tail];exact hi.2⟩
theorem aqB{row:Ab}{a b:Str}(h1:row[i]?=some a)(h2:row[i+1]?=some b):(a,b)∈O7 row:=by
 unfold O7;refine K2 (i:=i) ?_;rw [List.getElem?_zip_eq_some];exact ⟨h1,by rw [List.getElem?_tail];exact h2⟩
noncomputable def sl88 (xs:Ab) (i:Nat):Ab:=(xs.drop (2*i)).take 3
theorem xP{xs:Ab}(hj:j<3):(sl88 xs i)[j]?=xs[2*i+j]?:=by
 unfold sl88;rw [List.getElem?_take_of_lt hj,List.getElem?_drop]
theorem Rw88.one{xs:Ab}(h0:xs≠[]):Rw88 xs [(("row" : Str),xs)]:=
 ⟨fun z hz=>by rw [J8.mp hz];exact ⟨rfl,h0,List.Sublist.refl _⟩,by simp,fun e he=>⟨_,J8.mpr rfl,rfl,he⟩,fun p hp=>⟨_,J8.mpr rfl,rfl,hp⟩⟩
theorem uak{xs:Ab}{N:Nat}(h1:∀ i,i<N->2*i<xs.length)(h2:xs.length<=2*N)(hN:N<=40):Rw88 xs ((U5 N).map fun i=>(("row" : Str),sl88 xs i)):=by
 have get:∀ {i:Nat} {p:Str},xs[i]?=some p->i / 2<N:=fun h=>by
  have:=(F8.mp h).1
  lia
 refine ⟨fun z hz=>?_,by rw [A3,kJ];exact hN,fun e he=>?_,fun p hp=>?_⟩
 .obtain ⟨i,hi,rfl⟩:=E9.mp hz;refine ⟨rfl,fun e=>?_,(List.take_sublist _ _).trans (List.drop_sublist _ _)⟩
  have:=congrArg X8 (show sl88 xs i=[] from e)
  unfold sl88 at this;rw [G9,Z2,P9] at this
  have:=h1 i (m7.mp hi)
  lia
 .obtain ⟨i,e1,e2⟩:=aqA he;refine ⟨_,E9.mpr ⟨i / 2,m7.mpr (get e1),rfl⟩,rfl,?_⟩;refine aqB (i:=i % 2) (a:=e.1) (b:=e.2) ?_ ?_
  .show (sl88 xs (i / 2))[i % 2]?=_;rw [xP (by lia),show 2*(i / 2)+i % 2=i by lia];exact e1
  .show (sl88 xs (i / 2))[i % 2+1]?=_;rw [xP (by lia),show 2*(i / 2)+(i % 2+1)=i+1 by lia];exact e2
 .obtain ⟨i,hi⟩:=m6.mp hp;refine ⟨_,E9.mpr ⟨i / 2,m7.mpr (get hi),rfl⟩,rfl,?_⟩;refine K2 (i:=i % 2) ?_;show (sl88 xs (i / 2))[i % 2]?=_;rw [xP (by lia),show 2*(i / 2)+i % 2=i by lia];exact hi
theorem Rw88.rev{xs:Ab}(h:Rw88 xs R):Rw88 xs R.reverse:=
 ⟨fun z hz=>h.ea z (eK.mp hz),by rw [List.length_reverse];exact h.len,fun e he=>let ⟨z,hz,q⟩:=h.co e he;⟨z,eK.mpr hz,q⟩,fun p hp=>let ⟨z,hz,q⟩:=h.al p hp;⟨z,eK.mpr hz,q⟩⟩
theorem Rw88.w{xs:Ab}{R':Aq}{f l:Str}(h:Rw88 xs R)(hl:l∈xs)(e:R'=R++[(("marks" : Str),[m0,m1]),(("great" : Str),[l,f])]\/R'=[(("marks" : Str),[m0,m1]),(("great" : Str),[l,f])]++R):W88 xs m0 m1 f 50 R':=by
 have hw:∀ {w:Str},("row" : Str)≠w->R.filter (fun z=>decide (z.1=w))=[]:=fun hw=>p0.mpr fun z hz=>by rw [decide_eq_true_eq,(h.ea z hz).1];exact hw
 have f1:([(("marks" : Str),[m0,m1]),(("great" : Str),[l,f])]:Aq).filter (fun z=>decide (z.1=("marks" : Str)))=[(("marks" : Str),[m0,m1])]:=rfl;have f2:([(("marks" : Str),[m0,m1]),(("great" : Str),[l,f])]:Aq).filter (fun z=>decide (z.1=("great" : Str)))=[(("great" : Str),[l,f])]:=rfl;have mem:∀ z,z∈R'↔z∈R\/z=(("marks" : Str),[m0,m1])\/z=(("great" : Str),[l,f]):=fun z=>by
  rcases e with rfl | rfl
  .simp [J9]
  .simp [J9,or_assoc,or_comm,or_left_comm]
 have A9:=h.len;refine ⟨fun z hz=>?_,?_,?_,?_,fun e he=>let ⟨z,hz,q⟩:=h.co e he;⟨z,(mem z).mpr (.inl hz),q⟩,fun p hp=>let ⟨z,hz,q⟩:=h.al p hp;⟨z,(mem z).mpr (.inl hz),q⟩⟩
 .rcases (mem z).mp hz with hz | rfl | rfl
  .exact .inl (h.ea z hz)
  .exact .inr (.inl rfl)
  .exact .inr (.inr ⟨l,hl,rfl⟩)
 .rcases e with rfl | rfl <;> simp only [C6,E5,P9] <;> lia
 .rcases e with rfl | rfl
  .rw [Q0,hw (by decide +kernel),f1];rfl
  .rw [Q0,hw (by decide +kernel),f1];rfl
 .rcases e with rfl | rfl
  .rw [Q0,hw (by decide +kernel),f2];simp
  .rw [Q0,hw (by decide +kernel),f2];simp
noncomputable abbrev chg88 (xs ys ks:Ab):Aq:=if K1 xs ks=[] then [] else [(Q6,K1 xs ks),(("row" : Str),ys)]
theorem asA{xs k2 k3:Ab}{f a0 a1 a2:Str}{F:Aq}{bs:List Bl}{h:Nat}(s:S88 xs m0 m1 f)(w:W88 xs m0 m1 f 50 F)(rB:Kp xs ys k2)(rC:Kp ys xs k3)(pm:ys.Perm xs)(nd:[a0,a1,a2].Nodup)(hn:∀ a∈[a0,a1,a2],nameB a=true)(hb:bs=([(a0,none,F),(a1,some a0,chg88 xs ys k2),(a2,some a1,chg88 ys xs k3)]:List Bl).drop h++([(a0,none,F),(a1,some a0,chg88 xs ys k2),(a2,some a1,chg88 ys xs k3)]:List Bl).take h) :
  Fits (bs.flatMap D7)/\(bs.flatMap D7).length<=200/\∀ k<3,∃ nm c R L,[a0,a1,a2][k]?=some nm/\c.head?=some nm/\IsChain (Bk.of (bs.flatMap D7)) c/\(c.map fun t=>((Bk.of (bs.flatMap D7)).rl t).length).sum<=400/\qL (Bk.of (bs.flatMap D7)) c=R/\S88 L m0 m1 f/\W88 L m0 m1 f 52 R/\[xs,ys,xs][k]?=some L:=by
 have sy:=s.perm pm;have hp:bs.Perm [(a0,none,F),(a1,some a0,chg88 xs ys k2),(a2,some a1,chg88 ys xs k3)]:=by
  rw [hb];refine List.perm_append_comm.trans ?_;rw [c9]
 have w2:=w.chg s rB pm;have w3:=w2.chg sy rC pm.symm;have c2:∀ xs ys ks,(chg88 xs ys ks).length<=2:=fun xs ys ks=>by unfold chg88;split <;> simp
 have nb:(bs.map (·.1)).Nodup:=(hp.map _).nodup_iff.mpr nd;obtain ⟨e1,e2,_⟩:=an2 bs Bk.nil nb;rw [<- aqz] at e1 e2;have mem:∀ b,b∈([(a0,none,F),(a1,some a0,chg88 xs ys k2),(a2,some a1,chg88 ys xs k3)]:List Bl)->b∈bs:=fun b h=>hp.mem_iff.mpr h
 obtain ⟨r0,l0⟩:=e2 _ (mem (a0,none,F) (by simp));obtain ⟨r1,l1⟩:=e2 _ (mem (a1,some a0,chg88 xs ys k2) (by simp));obtain ⟨r2,l2⟩:=e2 _ (mem (a2,some a1,chg88 ys xs k3) (by simp));have inN:∀ a∈[a0,a1,a2],a∈(Bk.of (bs.flatMap D7)).names:=fun a ha=>by
  rw [e1];exact Q7 _ ((hp.map (·.1)).mem_iff.mpr ha)
 have hF:=w.len;have q2:=c2 xs ys k2;have q3:=c2 ys xs k3;refine ⟨?_,?_,?_⟩
 .have:=ahx (bs:=bs) Fits.nil nb fun b hb=>?_
  .rwa [aY] at this
  .have hb:=hp.mem_iff.mp hb;refine ⟨by simp [Bk.of,Bk.nil],?_⟩;simp only [D8,Q8,or_false] at hb
   rcases hb with rfl | rfl | rfl
   .exact ⟨hn _ (by simp),(fun x e=>by cases e),w.fine s⟩
   .exact ⟨hn _ (by simp),(fun x e=>by cases e;exact hn _ (by simp)),qO s pm⟩
   .exact ⟨hn _ (by simp),(fun x e=>by cases e;exact hn _ (by simp)),qO sy pm.symm⟩
 .rw [(hp.flatMap_right D7).length_eq];simp only [W6,eM,L5,C6,D7,E5,A3];lia
 .have n01:a1≠a0/\a2≠a0/\a2≠a1:=by
   simp only [T6,D8,Q8,not_or,or_false] at nd;exact ⟨fun e=>nd.1.1 e.symm,fun e=>nd.1.2 e.symm,fun e=>nd.2.1 e.symm⟩
  have k0:T3 [] F=F:=by
   show young ([]++F)=F;rw [aY,xO w.nof]
  intro k hk
  rcases (show k=0\/k=1\/k=2 by lia) with rfl | rfl | rfl
  .refine ⟨a0,[a0],F,xs,rfl,rfl,⟨by simp,fun i t ht=>?_⟩,by simp only [E2,j0,e8,List.sum_nil,r0];lia,?_,s,{ w with len:=by lia },rfl⟩
   .match i with
    | 0=>cases ht;exact ⟨inN _ (by simp),l0⟩
    | i+1=>simp at ht
   .show T3 [] ((Bk.of _).rl a0)=F;rw [r0,k0]
  .refine ⟨a1,[a1,a0],_,ys,rfl,rfl,⟨by simp [n01.1],fun i t ht=>?_⟩,by simp only [E2,j0,e8,List.sum_nil,r0,r1];lia,rfl,sy,?_,rfl⟩
   .match i with
    | 0=>cases ht;exact ⟨inN _ (by simp),l1⟩
    | 1=>cases ht;exact ⟨inN _ (by simp),l0⟩
    | i+2=>simp at ht
   .show W88 ys m0 m1 f 52 (T3 (T3 [] ((Bk.of _).rl a0)) ((Bk.of _).rl a1));rw [r0,r1,k0];exact { w2 with len:=K9 w2.len (by decide) }
  .refine ⟨a2,[a2,a1,a0],_,xs,rfl,rfl,⟨by simp [n01.1,n01.2.1,n01.2.2],fun i t ht=>?_⟩,by simp only [E2,j0,e8,List.sum_nil,r0,r1,r2];lia,rfl,s,?_,rfl⟩
   .match i with
    | 0=>cases ht;exact ⟨inN _ (by simp),l2⟩
    | 1=>cases ht;exact ⟨inN _ (by simp),l1⟩
    | 2=>cases ht;exact ⟨inN _ (by simp),l0⟩
    | i+3=>simp at ht
   .show W88 xs m0 m1 f 52 (T3 (T3 (T3 [] ((Bk.of _).rl a0)) ((Bk.of _).rl a1)) ((Bk.of _).rl a2));rw [r0,r1,r2,k0];exact w3
theorem xQ{α β:Type}{F:α->β->Prop} : ∀ (h:Nat) {l:List α} {m:List β},Paired F l m->Paired F (l.drop h) (m.drop h)/\Paired F (l.take h) (m.take h)
 | 0,l,m,p=>⟨p,by rw [p7,p7];exact .nil⟩
 | h+1,_,_,.nil=>⟨.nil,.nil⟩
 | h+1,_,_,.cons a t=>let ⟨x,y⟩:=xQ h t;⟨x,.cons a y⟩
theorem aqC{l:Ln}(h:LnOk l):l.text.length<=4000:=by
 cases l with
 | beg n e=>
  have h1:=(fL h.1).2.1;cases e with
  | none=>
   have:=PySem.StrLaws.join_length_le " " (Ln.beg n none).words
   unfold Ln.text;rw [show (" " : Str).length=1 from rfl] at this;simp only [Ln.words,E2,j0,e8,List.sum_nil,E5,P9] at this ⊢
   have e5:(ai "order").length=5:=by decide +kernel
   lia
  | some y=>
   have h2:=(fL (h.2 y rfl)).2.1
   have:=PySem.StrLaws.join_length_le " " (Ln.beg n (some y)).words
   unfold Ln.text;rw [show (" " : Str).length=1 from rfl] at this;simp only [Ln.words,E2,j0,e8,List.sum_nil,E5,P9] at this ⊢
   have e5:(ai "order").length=5:=by decide +kernel
   have e2:(ai "of").length=2:=by decide +kernel
   lia
 | rule z=>exact uam h
theorem ajf{α:Type}{g:α->Nat} : ∀ {l:List α},(∀ a∈l,g a<=k)->(l.map g).sum<=k*l.length
 | [],_=>J7 _
 | a::l,h=>by
  rw [E2,e8,E5,Nat.mul_succ]
  have:=h a G3
  have:=ajf (l:=l) fun b hb=>h b (G6 _ hb)
  lia
theorem txt88{bs:List Bl}(hf:Fits (bs.flatMap D7))(hl:(bs.flatMap D7).length<=200)(hb:bs.length<=3):(∀ b∈bs,(((D7 b).map Ln.text).map (·.length)).sum+((D7 b).map Ln.text).length<=1048576)/\((bs.map fun b=>Str.join "\n" ((D7 b).map Ln.text)).map (·.length)).sum+bs.length<=1048576:=by
 have ok:∀ b∈bs,∀ l∈D7 b,l.text.length<=4000:=fun b hb l hl=>by
  obtain ⟨i,hi⟩:=m6.mp (Z1.mpr ⟨b,hb,hl⟩);exact aqC (hf i l hi).ok
 have one:∀ b∈bs,(((D7 b).map Ln.text).map (·.length)).sum<=4000*(D7 b).length:=fun b hb=>by
  rw [j3];exact ajf fun l hl=>ok b hb l hl
 have sub:∀ {cs:List Bl},(∀ b∈cs,(((D7 b).map Ln.text).map (·.length)).sum<=4000*(D7 b).length)->((cs.map fun b=>Str.join "\n" ((D7 b).map Ln.text)).map (·.length)).sum<=4001*(cs.flatMap D7).length:=fun {cs} h=>by
  induction cs with
  | nil=>exact J7 _
  | cons b cs ih=>
   have h1:=h b G3;have h2:=ih fun c hc=>h c (G6 _ hc)
   have h3:=PySem.StrLaws.join_length_le "\n" ((D7 b).map Ln.text);rw [show ("\n" : Str).length=1 from rfl,A3] at h3;rw [E2,E2,e8,W6,C6];lia
 refine ⟨fun b hb=>?_,?_⟩
 .have h1:=one b hb
  have:(D7 b).length<=(bs.flatMap D7).length:=by
   obtain ⟨i,hi⟩:=m6.mp hb;rw [<- c9 i bs,y8,C6,aU (F8.mp hi).1,(F8.mp hi).2,W6,C6];lia
  rw [A3];lia
 .have:=sub one
  lia
section
variable {P:ax} {w:av} {K:aj} {mg:Str->Ag} {base:au} {C:ab} {ae:ab}
theorem al5:FnScope ["rows", "seen", "row", "piece"] ["rows"] (B5 vJ):=E7
theorem aqD(F:FunD K "told" "told" vJ f fd)(T:Txt P w K mg C ae):FnOk P w K mg base D1 1 f fd ["rows"] anN:=by
 refine F.ok al5 ?_ ?_
 .walk_at "ln"
 .intro cdv A outer s H vs Q E hr h;have E1:=hu_of hr;have hZ:=E6 al5;refine ⟨_,QSs.out (A5 (C5 1 t8)
   (A5 (N8 bd.never (N0 (K:=K) (qz 0)) (K7 2) (A6 (N8 bd.never (N0 (K:=K) (qz 2)) (K7 3) (A6 (f8 E1 (qz 1) (qz 3) qe_bl)))))
   (A6 (C9 (qe_cT (bL (K:=K) (calm:=true)) T.b_list bH (C3 (qz 1))))))),?_⟩
  obtain ⟨a,rs,zss,rfl,hR,hz,q⟩:=h;walk_at "rd";intro d nd;have hlz:∀ n:Nat,n<=100000->n<ak:=fun n h=>G4 (by lia)
  refine ⟨⟨_,.of (A7 hR.top nd)⟩,forL (xs:=rs.map V.ref) (fun i Y H2=>∃ (u v:Ap),Y=[some (.ref a),some (.ref d),u,v]/\Same H H2/\H2 d=some (.dK (kvOf (toldL (zss.take i)))))
   ⟨none,none,rfl,Same.new nd,by rw [A1];rfl⟩ (by rintro i Y H2 _ ⟨_,_,_,S,_⟩;exact .of (S _ _ hR.top)) ?_ ?_⟩
  .rintro i x Y H2 hx ⟨u,v,rfl,S,hd⟩;obtain ⟨r,hr,rfl⟩:=G8 hx;obtain ⟨zs,jK,C8⟩:=Paired.at hR.row hr;have hcount:(toldL (zss.take i)).length+zs.length<=100000:=by
    have h1:zss.take (i+1)=zss.take i++[zs]:=by rw [V7,jK];rfl
    have h2:=lA (zss.take i);have h3:(zss.take (i+1)).flatten.length<=zss.flatten.length:=by
     conv=>rhs;rw [<- c9 (i+1) zss]
     rw [List.flatten_append,C6];lia
    rw [h1,List.flatten_append,C6] at h3;simp at h3;simp at h2 hz h3 ⊢
    lia
   walk_at "rd";refine ⟨⟨_,.of (S _ _ C8)⟩,forL (xs:=zs.map V.str) (fun j Y H3=>∃ (v:Ap),Y=[some (.ref a),some (.ref d),some (.ref r),v]/\Same H H3/\H3 d=some (.dK (kvOf (G7 (toldL (zss.take i)) (zs.take j)))))
    ⟨v,rfl,S,hd⟩ (by rintro j Y H3 _ ⟨_,_,S3,_⟩;exact .of (S3 _ _ C8)) ?_ ?_⟩
   .rintro j y Y H3 hy ⟨v,rfl,S3,R1⟩;obtain ⟨z,l9,rfl⟩:=G8 hy;walk_at "rd";refine ⟨_,j8 (k:=Sum.inr z) R1 ?_,S3.put nd,?_⟩
    .unfold kvOf;rw [A3];refine hlz _ ?_
     have:=eX (zs.take j) (toldL (zss.take i))
     rw [G9] at this;lia
    .rw [A1,tV,aiG l9]
   .rintro Y H3 ⟨v,rfl,S3,R1⟩;walk_at "rd";refine ⟨S3,?_⟩;rw [R1,akM jK,A3,K5]
  .rintro Y H2 ⟨u,v,rfl,S,hd⟩;walk_at "rd";refine rListR.d (.of hd) fun l nl=>?_
   refine q l _ (S.free nl) (fun b o h=>A7 (S b o h) nl) ?_;rw [A1,akN,A3];rw [show rs.length=zss.length from Paired.length hR.row,K5]
theorem ad5:FnScope ["rows", "after", "piece", "row", "one", "other"] ["rows"] (B5 vK):=E7
theorem ahy(F:FunD K "followers" "followers" vK f fd)(T:Txt P w K mg C ae)(G_told:FO P w K mg base 1 "told" ["rows"] [] anN):FnOk P w K mg base D1 2 f fd ["rows"] spFol:=by
 refine F.ok ad5 ?_ ?_
 .walk_at "ln"
 .intro cdv A outer s H vs Q E hr h;have E1:=hu_of hr;have hZ:=E6 ad5;refine ⟨_,QSs.out (A5 (C5 1 t8)
   (A5 (N8 bd.never (N0 (K:=K) (E4 G_told (C3 (qz 0)))) (K7 2) (A6 (f8 E1 (qz 1) (qz 2) (O9 R9))))
   (A5 (N8 bd.never (N0 (K:=K) (qz 0)) (K7 3) (A6 (N8 bd.never (arZ T.b_zip (K8 (qz 3) (Q4 (K:=K) (qz 3) (N7 A2) X0))) (bK (K:=K) (n:=2) (T8 ((K7 4)) (T8 ((K7 5)) bJ))) (A6 (U9 (K:=K) (Y4 E1 (qz 1) (qz 4)) (qz 5))))))
   (A6 (C9 (qz 1)))))),?_⟩
  obtain ⟨a,rs,zss,rfl,hR,hz,q⟩:=h;walk_at "rd";intro d nd;have S0:Same H (A0 H d (.dK [])):=Same.new nd;refine ⟨a,rs,zss,rfl,hR.same S0,hz,fun l H1 nl S1 hl=>?_⟩;have nF:H1 d=some (.dK []):=S1 _ _ A1;have S01:=S0.trans S1;have A9:(toldL zss).length<=100000:=K9 (lA zss) hz;have tnd:=iO zss;refine ⟨l,rfl,⟨_,.of hl⟩,forL (xs:=(toldL zss).map V.str) (fun i Y H2=>∃ (u v w x:Ap) (ad:Al),Y=[some (.ref a),some (.ref d),u,v,w,x]/\SameBut d H1 H2/\H2 d=some (.dK (A8 ((toldL zss).take i) fun t=>.ref (ad t)))/\DL H1 H2 ((toldL zss).take i) ad fun _=>[])
   ⟨none,none,none,none,fun _=>0,rfl,SameBut.refl _ _,nF,⟨fun t h=>by simp at h,fun t h=>by simp at h,fun t h=>by simp at h⟩⟩ (fun i Y H2 _ ⟨_,_,_,_,_,_,S,_⟩=>.of (S _ _ (fun e=>by rw [e,nF] at hl;cases hl) hl)) ?_ ?_⟩
  .rintro i x Y H2 hx ⟨u,v,w,y,ad,rfl,S,hd,dl⟩;obtain ⟨z,hk,rfl⟩:=G8 hx;have hi:i<(toldL zss).length:=(F8.mp hk).1;have U0:=iP tnd hk;walk_at "rd";refine fun p np=>⟨_,j8 (k:=Sum.inr z) (A7 hd np) (by rw [b0,G9];exact G4 (by lia)),?_⟩
   have n1:H1 p=none:=S.free np (fun e=>by rw [e,hd] at np;cases np);refine ⟨(S.put n1).at,fun t=>if t=z then p else ad t,?_,?_⟩
   .rw [A1,u6 _ U0,L0 hk];have e:(fun t=>if t=z then V.ref p else V.ref (ad t))=fun t=>V.ref (if t=z then p else ad t):=by funext t;split <;> rfl
    rw [e]
   .rw [L0 hk];exact ((dl.more U0 np n1).congr fun t _=>by split <;> rfl).put nF
  .rintro Y H2 ⟨u,v,w,y,ad,rfl,S,hd,dl⟩;rw [A3,K5] at hd dl;have S2:Same H H2:=S.same S01 nd;walk_at "rd";have dl0:DL H H2 (toldL zss) ad fun _=>[]:=dl.old S01
   refine ⟨⟨_,.of (S2 _ _ hR.top)⟩,forL (xs:=rs.map V.ref) (fun i Y H3=>∃ (v w x:Ap),Y=[some (.ref a),some (.ref d),u,v,w,x]/\Same H H3/\H3 d=some (.dK (A8 (toldL zss) fun t=>.ref (ad t)))/\DL H H3 (toldL zss) ad (J5 (edges (zss.take i))))
    ⟨v,w,y,rfl,S2,hd,dl0⟩ (by rintro i Y H3 _ ⟨_,_,_,_,S,_⟩;exact .of (S _ _ hR.top)) ?_ ?_⟩
   .rintro i x Y H3 hx ⟨v,w,y,rfl,S3,R1,aO⟩;obtain ⟨r,hr,rfl⟩:=G8 hx;obtain ⟨zs,jK,C8⟩:=Paired.at hR.row hr;have dJ:=S3 _ _ C8;have L3:∀ x∈zs,x∈toldL zss:=fun x hx=>(uJ _ _).mpr (kK.mpr ⟨zs,K2 jK,hx⟩)
    walk_at "rd";refine rSlR.l (.of dJ) fun p np=>?_
    have ecut:cutV (zs.map V.str) (some 1) none=zs.tail.map V.str:=by
     have:=aI (zs.map V.str) 1
     rw [show ((1:Nat):Int)=1 from rfl] at this;rw [this,<- z8,List.drop_one]
    rw [ecut];have np0:H p=none:=S3.free np;have nad:∀ t∈toldL zss,ad t≠p:=fun t ht e=>by have:=aO.row t ht;rw [e,np] at this;cases this
    have nadr:∀ t∈toldL zss,ad t≠r:=fun t ht e=>by have:=aO.new t ht;rw [e,C8] at this;cases this
    have ndp:d≠p:=fun e=>by rw [<- e,R1] at np;cases np
    have nadd:∀ t∈toldL zss,ad t≠d:=fun t ht e=>by have:=aO.row t ht;rw [e,R1] at this;cases this
    refine ⟨p,rfl,⟨_,A7 dJ np⟩,⟨_,A1⟩,forZ (xs:=zs.map V.str) (ys:=zs.tail.map V.str) (fun j Y H4=>∃ (w x:Ap),Y=[some (.ref a),some (.ref d),u,some (.ref r),w,x]/\Same H H4/\H4 p=some (.lst (zs.tail.map V.str))/\H4 d=some (.dK (A8 (toldL zss) fun t=>.ref (ad t)))/\DL H H4 (toldL zss) ad (J5 (edges (zss.take i)++(O7 zs).take j)))
     ⟨w,y,rfl,S3.put np0,A1,A7 R1 np,?_⟩ (by rintro j Y H4 ⟨_,_,_,S,hp,_⟩;exact ⟨S _ _ C8,hp⟩) ?_ ?_⟩
    .rw [p7,L5];exact aO.same (Same.new np)
    .rintro j xv yv t Y H4 hxv hyv ⟨w,v,rfl,S4,dL,W4,jL⟩ nt;obtain ⟨x,hx,rfl⟩:=G8 hxv;obtain ⟨y,hy,rfl⟩:=G8 hyv;have bV:=L3 x (K2 hx);have nt0:H t=none:=S4.free nt;have yM:=jL.row x bV;have hE:(O7 zs)[j]?=some (x,y):=ag0 hx hy;walk_at "rd";refine ⟨_,.of A1,rfl,_,_,rfl,_,_,rfl,rfl,V.ref (ad x),.inl ⟨_,Sum.inr x,.inl (A7 W4 nt),rfl,by rw [O3,if_pos bV]⟩,M7 (A7 yM nt),appOk (A7 yM nt) ?_ ⟨(S4.put nt0).put (jL.new x bV),?_,?_,?_⟩⟩
     .rw [A3];refine G4 ?_;have h1:(J5 (edges (zss.take i)++(O7 zs).take j) x).length<=(edges (zss.take i)++(O7 zs).take j).length:=by
       unfold J5;rw [A3];exact aX _ _
      have h2:=ag1 (zss.take i);have h3:(zss.take i).flatten.length<=zss.flatten.length:=by
       conv=>rhs;rw [<- c9 i zss]
       rw [List.flatten_append,C6];lia
      have h4:zs.length<=zss.flatten.length:=List.Sublist.length_le (List.sublist_flatten_of_mem (K2 jK));rw [C6,G9,uK] at h1;lia
     .rw [A4 (nad x bV).symm];exact A7 dL nt
     .rw [A4 (nadd x bV).symm];exact A7 W4 nt
     .have h1:=(jL.same (Same.new (u:=.tup [V.str x,V.str y]) nt)).app bV (J5 (edges (zss.take i)++(O7 zs).take j) x++[y]);rw [D0] at h1;refine h1.congr fun t _=>?_
      rw [L0 hE,<- R8,am0]
      by_cases e:t=x
      .rw [if_pos e,if_pos e.symm,e]
      .rw [if_neg e,if_neg (fun z=>e z.symm)]
    .rintro Y H4 ⟨w,x,rfl,S4,dL,W4,jL⟩;walk_at "rd";refine ⟨S4,W4,?_⟩;rw [ajw jK];rw [i8 (l:=O7 zs) (by rw [uK,A3,A3];exact C1 _)] at jL;exact jL
   .rintro Y H3 ⟨v,w,y,rfl,S3,R1,aO⟩;rw [A3,show rs.length=zss.length from Paired.length hR.row,K5] at aO;walk_at "rd";exact q d ad H3 nd S3 R1 aO
theorem acK:FnScope ["after", "ahead", "piece", "other"] ["after"] (B5 vL):=E7
theorem afi(F:FunD K "count_ahead" "count_ahead" vL f fd)(T:Txt P w K mg C ae):FnOk P w K mg base D1 1 f fd ["after"] ak0:=by
 refine F.ok acK ?_ ?_
 .walk_at "ln"
 .intro cdv A outer s H vs Q E hr h;have E1:=hu_of hr;have hZ:=E6 acK;refine ⟨_,QSs.out (A5 (C5 1 t8)
   (A5 (uH bd.never (qz 0) (K7 2) (A6 (f8 E1 (qz 1) (qz 2) A2)))
   (A5 (uH bd.never (qz 0) (K7 2) (A6 (N8 bd.never (N0 (K:=K) (Y4 E1 (qz 0) (qz 2))) (K7 3) (A6 (akO E1 (qz 1) (qz 3) A2 anH)))))
   (A6 (C9 (qz 1)))))),?_⟩
  obtain ⟨d,ts,ad,E,rfl,hd,tnd,A9,hElen,C8,hE,q⟩:=h;walk_at "rd";intro c nc;have ndc:d≠c:=fun e=>by rw [e,nc] at hd;cases hd
  refine ⟨_,A7 hd nc,fun o=>forD (fun i Y H2=>∃ (u v:Ap),Y=[some (.ref d),some (.ref c),u,v]/\H2 d=some (.frz o (.dK (A8 ts fun t=>.ref (ad t))))/\SameBut d H H2/\H2 c=some (.dK (A8 (ts.take i) fun _=>.int 0)))
   ⟨none,none,rfl,A1,(SameBut.put (SameBut.refl _ _) nc).at,by rw [A4 ndc.symm,A1];rfl⟩ (by rintro i Y H2 ⟨_,_,_,h,_⟩;exact h) ?_ ?_⟩
  .rintro i k v Y H2 hk ⟨u,w,rfl,hf,S,hc⟩;obtain ⟨t,ht,rfl,rfl⟩:=anJ hk;have hi:i<ts.length:=(F8.mp ht).1;walk_at "rd";refine ⟨_,j8 (k:=Sum.inr t) hc (by rw [b0,G9];exact G4 (by lia)),?_,S.put nc,?_⟩
   .rw [A4 ndc];exact hf
   .rw [A1,u6 _ (iP tnd ht),L0 ht];exact congrArg (fun x=>some (HO.dK x)) (T0 fun t _=>by split <;> rfl)
  .rintro Y H2 ⟨u,w,rfl,hf,S,hc⟩;rw [b0,K5] at hc;have S2:Same H (A0 H2 d (.dK (A8 ts fun t=>.ref (ad t)))):=S.thaw hd;have T4:A0 H2 d (.dK (A8 ts fun t=>.ref (ad t))) d=some (.dK (A8 ts fun t=>.ref (ad t))):=A1;have Y8:A0 H2 d (.dK (A8 ts fun t=>.ref (ad t))) c=some (.dK (A8 ts fun _=>.int 0)):=by rw [A4 ndc.symm];exact hc
   generalize A0 H2 d (.dK (A8 ts fun t=>.ref (ad t)))=H3 at S2 T4 Y8;walk_at "rd";refine ⟨_,T4,fun o=>forD (fun i Y H4=>∃ (u v:Ap),Y=[some (.ref d),some (.ref c),u,v]/\H4 d=some (.frz o (.dK (A8 ts fun t=>.ref (ad t))))/\SameBut d H H4/\H4 c=some (.dK (A8 ts fun t=>.int (cntIn E (ts.take i) t:Nat))))
    ⟨u,w,rfl,A1,fun b o hb h=>by rw [A4 hb];exact S2 b o h,?_⟩ (by rintro i Y H2 ⟨_,_,_,h,_⟩;exact h) ?_ ?_⟩
   .rw [A4 ndc.symm,Y8];exact congrArg (fun x=>some (HO.dK x)) (T0 fun t _=>by rw [p7,akZ];rfl)
   .rintro i k v Y H4 hk ⟨u,w,rfl,hf,S4,jM⟩;obtain ⟨t,ht,rfl,rfl⟩:=anJ hk;have nG:t∈ts:=K2 ht;have hl4:H4 (ad t)=some (.lst ((J5 E t).map V.str)):=S4 _ _ (fun e=>by have:=C8 t nG;rw [e,hd] at this;cases this) (C8 t nG);walk_at "rd";refine ⟨V.ref (ad t),.inl ⟨_,Sum.inr t,.inr ⟨o,hf⟩,rfl,by rw [O3,if_pos nG]⟩,ad t,rfl,⟨_,.of hl4⟩,forL (xs:=(J5 E t).map V.str) (fun j Y H5=>∃ (v:Ap),Y=[some (.ref d),some (.ref c),some (kV (Sum.inr t)),v]/\H5 d=some (.frz o (.dK (A8 ts fun t=>.ref (ad t))))/\SameBut d H H5/\
     H5 c=some (.dK (A8 ts fun q=>.int (cntIn E (ts.take i) q+((J5 E t).take j).count q:Nat)))) ⟨w,rfl,hf,S4,by rw [jM];rfl⟩ (fun j Y H5 _ ⟨_,_,_,S5,_⟩=>.of (S5 _ _ (fun e=>by have:=C8 t nG;rw [e,hd] at this;cases this) (C8 t nG))) ?_ ?_⟩
    .rintro j v5 Y H5 yN ⟨v,rfl,yO,S5,i3⟩;obtain ⟨y,gC,rfl⟩:=G8 yN;have dM:y∈ts:=by
      have:=K2 gC
      unfold J5 at this;obtain ⟨e,he,rfl⟩:=E9.mp this;exact (hE e (N5.mp he).1).2
     walk_at "rd";refine ⟨V.int (cntIn E (ts.take i) y+((J5 E t).take j).count y:Nat),.inl ⟨_,Sum.inr y,.inl i3,rfl,by rw [O3,if_pos dM]⟩,_,_,rfl,rfl,_,j8 (k:=Sum.inr y) i3 (by rw [b0];exact G4 (by lia)),?_,S5.put nc,?_⟩
     .rw [A4 ndc];exact yO
     .rw [A1,pL _ dM];refine congrArg (fun x=>some (HO.dK x)) (T0 fun q _=>?_);rw [L0 gC,List.count_append,List.count_singleton]
      by_cases e:q=y
      .rw [if_pos e,e,if_pos (by simp)];exact congrArg V.int (by lia)
      .rw [if_neg e,if_neg (by simpa using fun z:y=q=>e z.symm)];rfl
    .rintro Y H5 ⟨v,rfl,yO,S5,i3⟩;walk_at "rd";refine ⟨yO,S5,?_⟩;rw [A3,K5] at i3;rw [i3];refine congrArg (fun x=>some (HO.dK x)) (T0 fun q _=>?_);rw [L0 ht,ajt (iP tnd ht)]
   .rintro Y H4 ⟨u,w,rfl,hf,S4,jM⟩;rw [b0,K5] at jM;walk_at "rd";refine q c _ nc (S4.thaw hd) ?_;rw [A4 ndc.symm,jM];exact congrArg (fun x=>some (HO.dK x)) (T0 fun t _=>by rw [akY (fun e he=>(hE e he).1)])
abbrev zA0:Ab:=["sign"]
abbrev zA1:Ab:=["rule"]
abbrev zA2:Ab:=["self"]
abbrev zA3:Ab:=["rules", "word"]
abbrev zA4:Ab:=["order", "text"]
abbrev zA5:Ab:=["self", "name"]
abbrev zA6:Ab:=["rules"]
abbrev zA7:Ab:=["self", "piece"]
abbrev zA8:Ab:=["words"]
abbrev zA9:Ab:=["piece", "jobs"]
abbrev zAa:Ab:=["one", "other"]
abbrev zAb:Ab:=["order", "one", "other", "strength"]
abbrev zAc:Ab:=["self", "line"]
abbrev zAd:Ab:=["jobs", "piece", "job", "figures"]
abbrev zAe:Ab:=["known", "text", "figures"]
abbrev zAf:Ab:=["kind", "worth", "marks", "case"]
abbrev zAg:Ab:=["rule", "gone"]
abbrev zAh:Ab:=["_law_script", "_law_k"]
abbrev zAi:Ab:=["rule", "word"]
abbrev zAj:Ab:=["rule", "jobs", "first"]
abbrev zAk:Ab:=["self", "rules"]
abbrev zAl:Ab:=["order", "part"]
abbrev zAm:Ab:=["made", "place"]
abbrev zAn:Ab:=["rules", "more", "gone", "elder", "both"]
abbrev zAo:Ab:=["order", "text", "made", "marks"]
abbrev zAp:Ab:=["_law_script"]
abbrev zAq:Ab:=["rows", "after", "ahead", "pieces", "numbers", "free", "line", "number", "other"]
abbrev zAr:Ab:=["number", "piece"]
abbrev zAs:Ab:=["rule", "jobs"]
abbrev zAt:Ab:=["rules", "jobs"]
abbrev zAu:Ab:=["rules", "letters", "marks"]
abbrev zAv:Ab:=["known", "text", "at", "figures"]
abbrev zAw:Ab:=["order", "made", "part"]
abbrev zAx:Ab:=["groups", "places", "thing"]
abbrev zAy:Ab:=["rules", "more"]
abbrev zAz:Ab:=["_law_cell", "_law_many"]
abbrev zB0:Ab:=["_law_script", "_law_many"]
abbrev zB1:Ab:=["self", "words"]
abbrev zB2:Ab:=["self", "text"]
abbrev zB3:Ab:=["_law_number", "_law_many"]
abbrev zB4:Ab:=["_law_one", "_law_others", "_law_number"]
abbrev zB5:Ab:=["_law_name", "_law_elder", "_law_rules"]
abbrev zB6:Ab:=["_law_order", "_law_letters", "_law_step"]
abbrev zB7:Ab:=["_law_script", "_law_many", "_law_both", "_law_others", "_law_one", "_law_other", "_law_number", "_law_names_here", "_law_blocks", "_law_first_here", "_law_book", "_law_dues", "_law_k", "_law_order", "_law_letters"]
abbrev zB8:Ab:=["piece", "numbers", "ahead"]
abbrev zB9:Ab:=["rules", "letters", "marks", "steps", "place", "letter", "mark", "forms", "case", "form", "rule"]
abbrev zBa:Ab:=["known", "text", "figures", "pieces", "parts", "at", "part"]
abbrev zBb:Ab:=["order", "text", "made", "part"]
abbrev zBc:Ab:=["rule", "gone", "word", "left"]
abbrev zBd:Ab:=["one", "other", "kept", "moved"]
abbrev zBe:Ab:=["_law_one", "_law_others", "_law_number", "_law_rules", "_law_more"]
abbrev zBf:Ab:=["_law_name", "_law_elder", "_law_rules", "_law_line"]
abbrev zBg:Ab:=["_law_letter", "_law_others"]
theorem sc_lined_up:FnScope zAq ["rows"] (B5 iZ):=E7
abbrev LS(s:aq)(x:Str):Prop:=e9 (B5 s) x
theorem lq{s:aq}(h:(B5 s).names.lookup x=some .local\/(B5 s).names.lookup x=some .cell:=by decide +kernel):LS s x:=h
theorem vaa:LS iZ "free":=lq
theorem aim(F:FunD K "lined_up" "lined_up" iZ f fd)(T:Txt P w K mg C ae)(G_followers:FO P w K mg base 2 "followers" ["rows"] [] spFol)(G_count_ahead:FO P w K mg base 1 "count_ahead" ["after"] [] ak0):FnOk P w K mg base D1 3 f fd ["rows"] ak1:=by
 refine F.ok sc_lined_up ?_ ?_
 .walk_at "ln"
 .intro cdv A outer s H vs Q E hr h;have E1:=hu_of hr;have hu:=hr.units;have hZ:=E6 sc_lined_up;refine ⟨_,QSs.out (A5 (C5 1 (E4 G_followers (C3 (qz 0))))
   (A5 (C5 2 (E4 G_count_ahead (C3 (qz 1))))
   (A5 (C5 3 (qe_cT (bL (K:=K) (calm:=true)) T.b_list bH (C3 (qz 1))))
   (A5 (C5 4 (qe_cT (akU (K:=K) (calm:=true)) T.b_dict akH (C3 (V4  (P8:CompOk zAq (B5 iZ).names _ zAr 2 []) (lM T.b_enumerate (C3 (qz 3))) (fun _ _ _ _ _=>(bK (K:=K) (n:=2) (T8 (N9 (n:=0) (show List.Nodup (zAr:Ab) by decide +kernel) rfl (Or.inl rfl)) (T8 (N9 (n:=1) (show List.Nodup (zAr:Ab) by decide +kernel) rfl (Or.inl rfl)) bJ)))) (fun _ _ _ _ _=>Y5) (fun _ _ _ _ _=>(Q3 (K8 (F9 1) (F9 0))))))))
   (A5 (fC (n:=5) sc_lined_up.nd rfl vaa (P8:CompOk zAq (B5 iZ).names _ zB8 1 [4,2]) (N0 (K:=K) (qz 3)) (fun _ _ _ _ _=>N9 (n:=0) (show List.Nodup (zB8:Ab) by decide +kernel) rfl (Or.inl rfl)) (fun _ _ _ _ _=>(aH (D6 (q_eq (K:=K) hu) (Y4 E1 (F9 2) (F9 0)) A2))) (fun _ _ _ _ _=>(Y4 E1 (F9 1) (F9 0))))
   (A5 (C5 6 (O9 R9))
   (A5 (lF bd.never (T7 (K:=K) (qz 5)) (A5 (C5 7 (qe_cB (asb (calm:=true)) T.b_min arL (C3 (qz 5))))
   (A5 (Z9 (qe_mB (K:=K) q0 PySem.F.slot_list_remove PySem.F.type_list_remove alh (qz 5) (C3 (qz 7))))
   (A5 (U9 (K:=K) (qz 6) (qe_ix (K:=K) (qz 3) (qz 7)))
   (A6 (N8 bd.never (N0 (K:=K) (Y4 E1 (qz 1) (qe_ix (K:=K) (qz 3) (qz 7)))) (K7 8) (A5 (akO E1 (qz 2) (qz 8) A2 arS)
   (A6 (qs_if (D6 (q_eq (K:=K) hu) (Y4 E1 (qz 2) (qz 8)) A2) (A6 (U9 (K:=K) (qz 5) (Y4 E1 (qz 4) (qz 8)))) G5)))))))))
   (A5 (qs_if (D6 q_lt (W0 (K:=K) T.b_len (qz 6)) (W0 (K:=K) T.b_len (qz 3))) (A6 aG) G5)
   (A6 (C9 (qz 6))))))))))),?_⟩
  obtain ⟨a,rs,zss,rank,rfl,hR,hz,w5,q⟩:=h;walk_at "rd";have A9:(toldL zss).length<=100000:=K9 (lA zss) hz;have hElen:(edges zss).length<=100000:=K9 (ag1 zss) hz;have tnd:=iO zss;have etold:∀ e∈edges zss,e.1∈toldL zss/\e.2∈toldL zss:=fun e he=>ajv he
  refine ⟨a,rs,zss,rfl,hR,hz,fun d ad H1 nd S1 hd dl=>?_⟩;generalize hts:toldL zss=ts at *;generalize hEE:edges zss=E at *;refine ⟨d,ts,ad,E,rfl,hd,tnd,A9,hElen,dl.row,etold,fun c H2 nc S2 hc=>?_⟩;walk_at "rd";refine rListR.d (.of (S2 _ _ hd)) fun w nw=>?_
  rw [am2];have X2:=S1.trans S2;have ncH:H c=none:=S1.free nc;have T4:=S2 _ _ hd;have ncd:c≠d:=fun e=>by rw [e,hd] at nc;cases nc
  have nac:∀ t∈ts,ad t≠c:=fun t ht e=>by have:=dl.row t ht;rw [e,nc] at this;cases this
  have rD:A0 H2 w (.lst (ts.map V.str)) w=some (.lst (ts.map V.str)):=A1;have Sw:Same H2 (A0 H2 w (.lst (ts.map V.str))):=Same.new nw;generalize A0 H2 w (.lst (ts.map V.str))=H3 at rD Sw ⊢
  have idx:∀ {i:Nat} {z:Str},ts[i]?=some z->ts.idxOf z=i:=fun {i z} h=>by
   obtain ⟨hi,rfl⟩:=F8.mp h;exact List.Nodup.idxOf_getElem tnd i hi
  refine ⟨w,rfl,⟨_,rD⟩,compE (xs:=ts.map V.str) [] rfl (fun D i ys H4=>∃ qs:Ai,ys=qs.map V.ref/\Same H3 H4/\Paired (fun q t=>H4 q=some (.tup [.str t,.int (ts.idxOf t:Nat)])) qs (ts.take i)) (fun D nD=>⟨[],rfl,Same.new nD,.nil⟩) (by rintro D i ys H4 nD _ ⟨_,_,S,_⟩;exact S _ _ rD) ?_ ?_⟩
  .rintro D i x t ys H4 nD hi hx ⟨qs,rfl,S,P4⟩ hD hy nt;obtain ⟨z,hz,rfl⟩:=G8 hx;rw [A3] at hi hy;walk_at "rd";refine ⟨by decide,fun p np=>⟨A7 (A7 hD nt) np,by rw [A3];exact G4 (by lia),iS.put (by rw [A3];exact hi) (by rw [A3];exact hy) ⟨qs++[p],by rw [D0];rfl,((S.trans (Same.new nt)).trans (Same.new np)).put nD,?_⟩⟩⟩;rw [L0 hz];refine Paired.snoc (L7 P4 fun q t' h=>?_) ?_
   .rw [A4 (fun e=>by rw [e,hD] at h;cases h)];exact A7 (A7 h nt) np
   .rw [A4 (fun e=>by rw [e,A7 hD nt] at np;cases np),A1,idx hz]
  rintro D ys H4 nD ⟨qs,rfl,yP,P4⟩ hD hy;rw [A3,K5] at P4;refine ⟨rfl,D,qs,_,rfl,.of hD,aiN (f:=fun t=>.int (ts.idxOf t:Nat)) P4,fun nm nnm=>?_⟩;rw [show Y3 [] (A8 ts fun t=>V.int (ts.idxOf t:Nat))=A8 ts fun t=>V.int (ts.idxOf t:Nat) from ag7 (pre:=[]) (by simpa using tnd)];have S5:Same H2 (A0 H4 nm (.dK (A8 ts fun t=>V.int (ts.idxOf t:Nat)))):=(Sw.trans yP).trans (Same.new nnm);have bW:A0 H4 nm (.dK (A8 ts fun t=>V.int (ts.idxOf t:Nat))) w=some (.lst (ts.map V.str)):=A7 (yP _ _ rD) nnm;have jN:A0 H4 nm (.dK (A8 ts fun t=>V.int (ts.idxOf t:Nat))) nm=some (.dK (A8 ts fun t=>V.int (ts.idxOf t:Nat))):=A1;have jM:H4 c=some (.dK (A8 ts fun t=>.int (cnt E [] t:Nat))):=yP _ _ (Sw _ _ hc);have ncn:c≠nm:=fun e=>by rw [<- e,jM] at nnm;cases nnm
  generalize A0 H4 nm (.dK (A8 ts fun t=>V.int (ts.idxOf t:Nat)))=H5 at S5 bW jN ⊢
  have i3:=S5 _ _ hc;have rE:=S5 _ _ T4;have jG:∀ t∈ts,H5 (ad t)=some (.lst ((J5 E t).map V.str)):=fun t ht=>S5 _ _ (S2 _ _ (dl.row t ht))
  have S05:=X2.trans S5;have ncw:c≠w:=fun e=>by rw [e,bW] at i3;cases i3
  refine ⟨w,rfl,⟨_,.of bW⟩,compL (xs:=ts.map V.str) [some (.ref nm),some (.ref c)] rfl (fun D i ys H6=>∃ fr:Am,ys=fr.map V.int/\Same H5 H6/\FS (ts.take i) [] (fun q=>cnt E [] q=0) fr) (fun D nD=>⟨[],rfl,Same.new nD,FS.nil _⟩) (by rintro D i ys H6 nD _ ⟨_,_,S,_⟩;exact .of (S _ _ bW)) ?_ ?_⟩
  .rintro D i x ys H6 nD hi hx ⟨fr,rfl,S,F⟩ hD hy;obtain ⟨z,hz,rfl⟩:=G8 hx;have rF:z∈ts:=K2 hz;have gD:i<ts.length:=(F8.mp hz).1;rw [A3] at hy;have hs:=F.snoc (i:=i) (q:=z) (by rw [G9];lia) (by simp);rw [<- L0 hz] at hs;walk_at "rd";refine ⟨V.int (cnt E [] z:Nat),.inl ⟨_,Sum.inr z,.inl (S _ _ i3),rfl,by rw [O3,if_pos rF]⟩,?_⟩
   try walk_at "rd"
   refine iteD (fun h0=>⟨V.int (ts.idxOf z:Nat),.inl ⟨_,Sum.inr z,.inl (S _ _ jN),rfl,by rw [O3,if_pos rF]⟩,hD,by rw [A3];exact G4 (by lia),CW.put hi (by rw [A3];exact hy) ⟨fr++[(i:Int)],by rw [D0,idx hz];rfl,S.put nD,hs.1 (by lia)⟩⟩) fun h0=>⟨hD,kZ hi (by rw [A3];exact hy) ⟨fr,rfl,S,hs.2 (by lia)⟩⟩
  rintro f ys H6 nf ⟨fr,rfl,yQ,F0⟩ yR hy;rw [A3,K5] at F0;intro ln nln;have nln5:H5 ln=none:=yQ.free nln;have bX:f≠ln:=fun e=>by rw [e,nln] at yR;cases yR
  have frlen:∀ {line fr z},FS ts line z fr->fr.length<=ts.length:=fun {line fr z} F=>by
   have h1:∀ n∈fr,n∈(U5 ts.length).map fun (n:Nat)=>(n:Int):=fun n hn=>by
    obtain ⟨m,q,e,h2,_⟩:=(F.2 n).mp hn;exact E9.mpr ⟨m,m7.mpr (F8.mp h2).1,e.symm⟩
   have:=afD F.1 h1
   simpa using this
  refine lI (fun m Y H7=>∃ (u v:Ap) (line:Ab) (fr:Am),Y=[some (.ref a),some (.ref d),some (.ref c),some (.ref w),some (.ref nm),some (.ref f),some (.ref ln),u,v]/\SameBut c H5 H7/\
    H7 c=some (.dK (A8 ts fun t=>.int (cnt E line t:Nat)))/\H7 f=some (.lst (fr.map V.int))/\FS ts line (fun q=>cnt E line q=0) fr/\H7 ln=some (.lst (line.map V.str))/\V5 E ts line/\m=ts.length-line.length) ts.length
   ⟨none,none,[],fr,rfl,fun b o _ h=>A7 (yQ _ _ h) nln,A7 (yQ _ _ i3) nln,A7 yR nln,F0,A1,V5.nil _ _,rfl⟩ ?_
  rintro m Y H7 ⟨u,v,line,fr,rfl,B7,hc7,rG,F,yS,run,rfl⟩;have S07:Same H H7:=B7.same S05 ncH;walk_at "rd";refine ⟨_,fD rG,?_⟩
  by_cases X3:fr=[]
  .have k9:∀ p∈ts,p∈line:=fun p hp=>Classical.byContradiction fun hn=>by
    obtain ⟨q',hq⟩:=am1 (line:=line) w5 (fun e he=>(etold e he).1) ⟨p,hp,hn⟩;obtain ⟨h1,h2,h3⟩:=iN hq;obtain ⟨k,hk⟩:=m6.mp h1
    have:=(F.2 (k:Int)).mpr ⟨k,q',rfl,hk,h2,h3⟩
    rw [X3] at this
    cases this
   have hsl:=pK tnd run k9;rw [X3];refine iteF ?_
   try walk_at "rd"
   refine ⟨line.length,.inl ⟨_,.of yS,by rw [A3]⟩,ts.length,.inl ⟨_,.of (B7 _ _ ncw.symm bW),by rw [A3]⟩,?_⟩
   try walk_at "rd"
   exact iteD (fun h=>absurd h (by lia)) fun _=>q ln line H7 (S05.free nln5) S07 yS run k9
  rw [show (!(fr.map V.int).isEmpty)=true by cases fr with | nil=>exact absurd rfl X3 | cons=>rfl];refine iteT ⟨fun σ' H'=>∃ (u v:Ap) (line':Ab) (fr:Am),σ'=[some (.ref a),some (.ref d),some (.ref c),some (.ref w),some (.ref nm),some (.ref f),some (.ref ln),u,v]/\SameBut c H5 H'/\
    H' c=some (.dK (A8 ts fun t=>.int (cnt E line' t:Nat)))/\H' f=some (.lst (fr.map V.int))/\FS ts line' (fun q=>cnt E line' q=0) fr/\H' ln=some (.lst (line'.map V.str))/\V5 E ts line'/\ts.length-line'.length<ts.length-line.length,?_,?_⟩
  .rintro σ' H' ⟨u,v,line',fr',rfl,h1,h2,h3,h4,h5,h6,h7⟩;exact ⟨_,h7,⟨_,_,rfl⟩,h1,line',h2,fr',h3,h4,h5,h6,rfl⟩
  try walk_at "rd"
  refine ⟨fr,rG,X3,fun M hM gA=>?_⟩;obtain ⟨mm,p,rfl,jO,i4⟩:=ah6 F hM gA;obtain ⟨W5,qR,gE⟩:=iN i4;have nH:line.length<ts.length:=by
   have h1:(line++[p]).Nodup:=(run.snoc i4).nodup;have h3:=uL h1 fun x hx=>(run.snoc i4).sub hx
   rw [C6,V2] at h3;lia
  have F1:=F.take tnd jO
  try walk_at "rd"
  refine ⟨M7 rG,asa rG hM ?_⟩;have hwf:w≠f:=fun e=>by rw [e,nf] at bW;cases bW
  have yT:c≠f:=fun e=>by rw [e,nf] at i3;cases i3
  have yU:c≠ln:=fun e=>by rw [e,nln5] at i3;cases i3
  have B8:SameBut c H5 (A0 H7 f (.lst ((fr.erase (mm:Int)).map V.int))):=B7.put nf;have rH:A0 H7 f (.lst ((fr.erase (mm:Int)).map V.int)) ln=some (.lst (line.map V.str)):=by rw [A4 bX.symm];exact yS
  have hf8:A0 H7 f (.lst ((fr.erase (mm:Int)).map V.int)) f=some (.lst ((fr.erase (mm:Int)).map V.int)):=A1;have hc8:A0 H7 f (.lst ((fr.erase (mm:Int)).map V.int)) c=some (.dK (A8 ts fun t=>.int (cnt E line t:Nat))):=by rw [A4 yT];exact hc7
  generalize A0 H7 f (.lst ((fr.erase (mm:Int)).map V.int))=H8 at B8 rH hf8 hc8 ⊢
  have atp:K6 (ts.map V.str) (mm:Int)=some (V.str p):=M6 (by rw [U3,jO];rfl);refine ⟨M7 rH,_,.inl (.of (B8 _ _ ncw.symm bW)),V.str p,atp,appOk rH (by rw [A3];exact G4 (by lia)) ?_⟩;have B9:SameBut c H5 (A0 H8 ln (.lst (line.map V.str++[V.str p]))):=B8.put nln5;have hl9:A0 H8 ln (.lst (line.map V.str++[V.str p])) ln=some (.lst ((line++[p]).map V.str)):=by rw [A1,D0];rfl
  have hf9:A0 H8 ln (.lst (line.map V.str++[V.str p])) f=some (.lst ((fr.erase (mm:Int)).map V.int)):=by rw [A4 bX];exact hf8
  have hc9:A0 H8 ln (.lst (line.map V.str++[V.str p])) c=some (.dK (A8 ts fun t=>.int (cnt E line t:Nat))):=by rw [A4 yU];exact hc8
  generalize A0 H8 ln (.lst (line.map V.str++[V.str p]))=H9 at B9 hl9 hf9 hc9 ⊢
  refine ⟨_,.inl (.of (B9 _ _ ncw.symm bW)),V.str p,atp,V.ref (ad p),.inl ⟨_,Sum.inr p,.inl (B9 _ _ ncd.symm rE),rfl,by rw [O3,if_pos W5]⟩,ad p,rfl,⟨_,.of (B9 _ _ (nac p W5) (jG p W5))⟩,
   forL (xs:=(J5 E p).map V.str) (fun j Y H7=>∃ (x:Ap) (fr:Am),Y=[some (.ref a),some (.ref d),some (.ref c),some (.ref w),some (.ref nm),some (.ref f),some (.ref ln),some (.int (mm:Int)),x]/\SameBut c H5 H7/\
    H7 c=some (.dK (A8 ts fun t=>.int ((cnt E line t:Nat)-(((J5 E p).take j).count t:Nat))))/\H7 f=some (.lst (fr.map V.int))/\FS ts (line++[p]) (fun q=>cnt E line q=((J5 E p).take j).count q) fr/\H7 ln=some (.lst ((line++[p]).map V.str)))
   ⟨v,_,rfl,B9,?_,hf9,F1.congr fun q=>(by simp),hl9⟩ (by rintro j Y H7 _ ⟨_,_,_,B,_⟩;exact .of (B _ _ (nac p W5) (jG p W5))) ?_ ?_⟩
  .rw [hc9];exact congrArg (fun x=>some (HO.dK x)) (T0 fun t _=>congrArg V.int (by simp))
  .rintro j v5 Y W3 yN ⟨x,fr,rfl,B,w6,gF,F,gG⟩;obtain ⟨y,hy,rfl⟩:=G8 yN;have dM:y∈ts:=by
    have:=K2 hy
    unfold J5 at this;obtain ⟨e,he,rfl⟩:=E9.mp this;exact (etold e (N5.mp he).1).2
   have U1:((J5 E p).take j).count y<cnt E line y:=by
    have h1:=aiJ (E:=E) (q:=y) qR;have h2:(J5 E p).count y=((J5 E p).take (j+1)).count y+((J5 E p).drop (j+1)).count y:=by rw [<- List.count_append,c9]
    rw [L0 hy,List.count_append,List.count_singleton,if_pos (by simp)] at h2;lia
   have hyb:y∉line++[p]:=fun hm=>by
    rcases J9.mp hm with hm | hm
    .have:=anb run hm;lia
    .rw [J8.mp hm] at U1;lia
   obtain ⟨my,hmy⟩:=m6.mp dM;have nI:∀ q,((J5 E p).take (j+1)).count q=((J5 E p).take j).count q+if y=q then 1 else 0:=fun q=>by
    rw [L0 hy,List.count_append,List.count_singleton]
    by_cases e:y=q
    .rw [if_pos e,if_pos (by simpa using e)]
    .rw [if_neg e,if_neg (by simpa using e)]
   have turn:=F.turn (z':=fun q=>cnt E line q=((J5 E p).take (j+1)).count q) tnd (y:=y) (fun q hq=>by rw [nI,if_neg (fun e=>hq e.symm),Nat.add_zero]) (by lia) hmy hyb;have U0:A8 ts (fun t=>V.int (if t=y then (cnt E line y:Nat)-(((J5 E p).take j).count y:Nat)-1 else (cnt E line t:Nat)-(((J5 E p).take j).count t:Nat)))=A8 ts (fun t=>V.int ((cnt E line t:Nat)-(((J5 E p).take (j+1)).count t:Nat))):=T0 fun q _=>by
    rw [nI]
    by_cases e:q=y
    .rw [if_pos e,e,if_pos rfl];exact congrArg V.int (by lia)
    .rw [if_neg e,if_neg (fun z=>e z.symm)];exact congrArg V.int (by lia)
   walk_at "rd";refine ⟨_,.inl ⟨_,Sum.inr y,.inl w6,rfl,by rw [O3,if_pos dM]⟩,_,_,rfl,rfl,_,j8 (k:=Sum.inr y) w6 (by rw [b0];exact G4 (by lia)),?_⟩;have bY:A0 W3 c (.dK (putK (A8 ts fun t=>V.int ((cnt E line t:Nat)-(((J5 E p).take j).count t:Nat))) (Sum.inr y) (V.int ((cnt E line y:Nat)-(((J5 E p).take j).count y:Nat)-1)))) c=some (.dK (A8 ts (fun t=>V.int ((cnt E line t:Nat)-(((J5 E p).take (j+1)).count t:Nat))))):=by
    rw [A1,pL _ dM,<- U0];refine congrArg (fun x=>some (HO.dK x)) (T0 fun q _=>?_)
    by_cases e:q=y
    .rw [if_pos e,if_pos e]
    .rw [if_neg e,if_neg e]
   have B11:SameBut c H5 (A0 W3 c (.dK (putK (A8 ts fun t=>V.int ((cnt E line t:Nat)-(((J5 E p).take j).count t:Nat))) (Sum.inr y) (V.int ((cnt E line y:Nat)-(((J5 E p).take j).count y:Nat)-1))))):=B.at;have bZ:A0 W3 c (.dK (putK (A8 ts fun t=>V.int ((cnt E line t:Nat)-(((J5 E p).take j).count t:Nat))) (Sum.inr y) (V.int ((cnt E line y:Nat)-(((J5 E p).take j).count y:Nat)-1)))) f=some (.lst (fr.map V.int)):=by rw [A4 yT.symm];exact gF
   have b9:A0 W3 c (.dK (putK (A8 ts fun t=>V.int ((cnt E line t:Nat)-(((J5 E p).take j).count t:Nat))) (Sum.inr y) (V.int ((cnt E line y:Nat)-(((J5 E p).take j).count y:Nat)-1)))) ln=some (.lst ((line++[p]).map V.str)):=by rw [A4 yU.symm];exact gG
   generalize A0 W3 c (.dK (putK (A8 ts fun t=>V.int ((cnt E line t:Nat)-(((J5 E p).take j).count t:Nat))) (Sum.inr y) (V.int ((cnt E line y:Nat)-(((J5 E p).take j).count y:Nat)-1))))=H11 at bY B11 bZ b9 ⊢
   refine ⟨V.int ((cnt E line y:Nat)-(((J5 E p).take (j+1)).count y:Nat)),.inl ⟨_,Sum.inr y,.inl bY,rfl,by rw [O3,if_pos dM]⟩,?_⟩
   try walk_at "rd"
   have yV:=frlen F;refine iteD (fun h0=>⟨M7 bZ,V.int (ts.idxOf y:Nat),.inl ⟨_,Sum.inr y,.inl (B11 _ _ ncn.symm jN),rfl,by rw [O3,if_pos dM]⟩,appOk bZ (by rw [A3];exact G4 (by lia)) ?_⟩) fun h0=>?_
   .refine ⟨B11.put nf,?_,fr++[(my:Int)],?_,turn.1 (by lia),?_⟩
    .rw [A4 yT];exact bY
    .rw [A1,D0,idx hmy];rfl
    .rw [A4 bX.symm];exact b9
   .exact ⟨B11,bY,fr,bZ,turn.2 (by lia),b9⟩
  .rintro Y W3 ⟨x,fr,rfl,B,w6,gF,F,gG⟩;rw [A3,K5] at w6 F;have X4:∀ q,cnt E line q=cnt E (line++[p]) q+(J5 E p).count q:=fun q=>aiJ (E:=E) (q:=q) qR
   refine ⟨⟨_,_,rfl⟩,B,line++[p],?_,fr,gF,F.congr fun q=>?_,gG,run.snoc i4,by rw [C6,V2];lia⟩
   .rw [w6];exact congrArg (fun x=>some (HO.dK x)) (T0 fun q _=>congrArg V.int (by have:=X4 q;lia))
   .have:=X4 q
    lia
theorem ad6:FnScope zA0 zA0 (B5 vM):=E7
theorem ahz(F:FunD K "is_figure" "is_figure" vM f fd)(T:Txt P w K mg C ae):FnOk P w K mg base D1 1 f fd zA0 iT:=by
 refine F.ok ad6 ?_ ?_
 .walk_at "ln"
 .intro cdv A outer s H vs Q E hr h;have hZ:=E6 ad6;refine ⟨_,QSs.out (A6 (C9 (lD q_le q_le I0 (qz 0) I0))),?_⟩;obtain ⟨c,rfl,q⟩:=h;walk_at "rd";have e1:(ai "0").cps.toList=[48]:=by decide +kernel
  have e2:(ai "9").cps.toList=[57]:=by decide +kernel
  rw [e1,e2];simp only [uN];refine iteN (fun h1=>?_) fun h1=>?_
  .have e:figO c=!decide (57<c):=by
    unfold figO;rw [decide_eq_true (by lia:48<=c)]
    by_cases h2:c<=57
    .rw [decide_eq_true h2,decide_eq_false (by lia:¬ 57<c)];rfl
    .rw [decide_eq_false h2,decide_eq_true (by lia:57<c)];rfl
   rw [e] at q;exact q
  .have e:figO c=false:=by unfold figO;rw [decide_eq_false (by lia:¬ 48<=c)];rfl
   rw [e] at q;exact q
theorem ae5:FnScope zA3 zA3 (B5 pY):=E7
theorem ain(F:FunD K "has_rule" "has_rule" pY f fd)(T:Txt P w K mg C ae):FnOk P w K mg base D1 1 f fd zA3 (spHas K):=by
 refine F.ok ae5 ?_ ?_
 .walk_at "ln"
 .intro cdv A outer s H vs Q E hr h;have hu:=hr.units;have hZ:=E6 ae5;refine ⟨_,QSs.out (A6 (C9 (qe_cB (q_any (calm:=true)) T.b_any anE (C3 (V4  (P8:CompOk zA3 (B5 pY).names _ zAi 1 [1]) (N0 (K:=K) (qz 0)) (fun _ _ _ _ _=>N9 (n:=0) (show List.Nodup (zAi:Ab) by decide +kernel) rfl (Or.inl rfl)) (fun _ _ _ _ _=>Y5) (fun _ _ _ _ _=>(lC (q_eq (K:=K) hu) (qe_ix (K:=K) (F9 0) A2) (F9 1)))))))),?_⟩;obtain ⟨a,ts,R,w,rfl,hR,hl,q⟩:=h;walk_at "rd";refine ⟨⟨_,.of hR.top⟩,compL (xs:=ts.map V.ref) [some (.str w)] rfl (fun D i ys H4=>ys=((R.take i).map fun z=>decide (z.1=w)).map V.bl/\Same H H4) (fun D nD=>⟨rfl,Same.new nD⟩) (by rintro D i ys H4 nD _ ⟨_,S⟩;exact .of (S _ _ hR.top)) ?_ ?_⟩
  .rintro D i x ys H4 nD hi hx ⟨rfl,S⟩ hD hy;obtain ⟨t,ht,rfl⟩:=G8 hx;obtain ⟨z,hz,C8⟩:=Paired.at hR.row ht;have l8:i<R.length:=(F8.mp hz).1;walk_at "rd";refine ⟨_,.inr (.of (S _ _ C8)),V.str z.1,O5 _ _,?_⟩;walk_at "rd";refine ⟨hD,by rw [A3,A3,G9];exact G4 (by lia),CW.put hi hy ⟨?_,S.put nD⟩⟩;rw [V7,hz]
   simp
  rintro D ys H4 nD ⟨rfl,S⟩ hD hy;rw [A3,hR.len,K5] at hD;refine ⟨_,rfl,hD,?_⟩;have e:((R.map fun z=>decide (z.1=w)).any id)=hasW R w:=by
   unfold hasW;rw [List.any_map];rfl
  rw [e];exact q H4 S
theorem acL:FnScope zA1 zA1 (B5 vN):=E7
theorem afj(F:FunD K "pieces_told" "pieces_told" vN f fd)(T:Txt P w K mg C ae):FnOk P w K mg base D1 1 f fd zA1 (ak7 K):=by
 refine F.ok acL ?_ ?_
 .walk_at "ln"
 .intro cdv A outer s H vs Q E hr h;have hu:=hr.units;obtain ⟨a_JOBS,m_JOBS,M_JOBS⟩:=T.x_JOBS;have hZ:=E6 acL;refine ⟨_,QSs.out (A5 (qs_if (D6 (q_eq (K:=K) hu) (qe_ix (K:=K) (qz 0) A2) I0) (A6 (C9 (Q4 (K:=K) (qz 0) (N7 A2) X0))) G5)
   (A5 (qs_if (D6 (q_eq (K:=K) hu) (qe_ix (K:=K) (qz 0) A2) I0) (A6 (C9 (Q4 (K:=K) (qz 0) (N7 A2) (N7 A2)))) G5)
   (A6 (C9 (iK (D6 (q_inM M_JOBS) (qe_ix (K:=K) (qz 0) A2) (aF m_JOBS)) (Q4 (K:=K) (qz 0) (N7 A2) X0) (Q3 R9)))))),?_⟩
  obtain ⟨t,z,rfl,ht,q⟩:=h;have hT:C7 K H t ((z.1::z.2).map V.str):=.of ht;have A9:1<=((z.1::z.2).map V.str).length:=by rw [A3,E5];lia
  walk_at "rd";refine ⟨_,.inr hT,V.str z.1,O5 _ _,?_⟩;walk_at "rd";refine iteD (fun e=>?_) fun n1=>⟨_,.inr hT,V.str z.1,O5 _ _,?_⟩
  .refine rSlR.t hT (o0 (k:=2) (by decide) A9) fun p np=>q p _ (Same.new np) (.of ?_)
   rw [A1,show ((2:Int))=((2:Nat):Int) from rfl,aI,E2,kI,<- z8];unfold M8;rw [if_pos e]
  walk_at "rd";refine iteD (fun e=>?_) fun n2=>⟨_,.inr hT,V.str z.1,O5 _ _,?_⟩
  .refine rSlR.t hT (o0 (k:=1) (by decide) A9) fun p np=>q p _ (Same.new np) (.of ?_)
   have ecut:cutV ((z.1::z.2).map V.str) (some 1) (some 2)=(z.2.take 1).map V.str:=by
    unfold cutV
    cases z.2 with
    | nil=>rfl
    | cons y r=>
     have e1:HT.sIx ((z.1::y::r).map V.str).length 0 (some 1)=1:=by
      rw [show ((1:Int))=((1:Nat):Int) from rfl,HT.sIx_nat,A3,E5,E5];lia
     have e2:HT.sIx ((z.1::y::r).map V.str).length ((z.1::y::r).map V.str).length (some 2)=2:=by
      rw [show ((2:Int))=((2:Nat):Int) from rfl,HT.sIx_nat,A3,E5,E5];lia
     rw [e1,e2];rfl
   rw [A1,ecut];unfold M8;rw [if_neg n1,if_pos e]
  walk_at "rd"
  by_cases hj:fF z.1
  .rw [uM hj];refine iteT (rSlR.t hT (o0 (k:=1) (by decide) A9) fun p np=>q p _ (Same.new np) (.of ?_));rw [A1,E2,pG];unfold M8;have h3:z.1=("row" : Str)\/z.1=("marks" : Str)\/z.1=("over" : Str):=by
    rcases hj with h | h | h | h | h
    .exact .inl h
    .exact .inr (.inl h)
    .exact absurd h n1
    .exact absurd h n2
    .exact .inr (.inr h)
   rw [if_neg n1,if_neg n2,if_pos h3]
  .rw [am6 hj];refine iteF fun p np=>q p _ (Same.new np) (.of ?_)
   rw [A1];unfold M8;rw [if_neg n1,if_neg n2,if_neg (fun h=>hj (by
    rcases h with h | h | h
    .exact .inl h
    .exact .inr (.inl h)
    .exact .inr (.inr (.inr (.inr h)))))]
   rfl
theorem ae6:FnScope zAd zAd (B5 pZ):=E7
theorem aio(F:FunD K "is_clash" "is_clash" pZ f fd)(T:Txt P w K mg C ae)(G_is_figure:FO P w K mg base 1 "is_figure" zA0 [] iT):FnOk P w K mg base D1 2 f fd zAd ak8:=by
 refine F.ok ae6 ?_ ?_
 .walk_at "ln"
 .intro cdv A outer s H vs Q E hr h;have E1:=hu_of hr;have hu:=hr.units;obtain ⟨a_AGAIN,m_AGAIN,M_AGAIN⟩:=T.x_AGAIN;have hZ:=E6 ae6;refine ⟨_,QSs.out (A5 (qs_if (QW.pt (fB (D6 (q_in (K:=K) hu) (qz 1) (qz 0)) (fA (QW.pt (qw_or (D6 (q_ne (K:=K) hu) (Y4 E1 (qz 0) (qz 1)) (qz 2)) (lE (D6 (iL (K:=K) hu) (qz 2) (aF m_AGAIN)))))))) (A6 (C9 qe_bl)) G5)
   (A6 (C9 (cV (qz 3) (iJ (qe_cB (q_any (calm:=true)) T.b_any anE (C3 (V4  (P8:CompOk zAd (B5 pZ).names _ zA0 1 []) (tX (qz 1)) (fun _ _ _ _ _=>N9 (n:=0) (show List.Nodup (zA0:Ab) by decide +kernel) rfl (Or.inl rfl)) (fun _ _ _ _ _=>Y5) (fun _ _ _ _ _=>(E4 G_is_figure (C3 (F9 0)))))))))))),?_⟩
  obtain ⟨d,p,j,fg,ks,g,rfl,hd,hp,h1,h2,q⟩:=h;walk_at "rd";have tail:(if fg=true then cS (iG p) 1 [] (gName 0) tYes (tCall iT [] E0 (tCons (O8 0) tNil)) [some (V.ref d),some (V.str p),some (V.str j),some (V.bl fg)] (fun x H1=>rAnyB true [x] H1 Q) H else Q (V.bl false) H):=by
   by_cases hf:fg=true
   .rw [if_pos hf];refine compS [] rfl (fun D i ys H4=>ys=((p.cps.toList.take i).map figO).map V.bl/\Same H H4) (fun D nD=>⟨rfl,Same.new nD⟩) ?_ ?_
    .rintro D i x ys H4 nD hi hx ⟨rfl,S⟩ hD hy;walk_at "rd";refine ⟨x,rfl,hD,?_,CW.put hi hy ⟨?_,S.put nD⟩⟩
     .rw [A3,A3,G9];exact G4 (by have:p.cps.size=p.length:=rfl;lia)
     .rw [V7,hx]
      simp
    .rintro D ys H4 nD ⟨rfl,S⟩ hD hy;walk_at "rd";refine ⟨_,hD,?_⟩;have e:((p.cps.toList.take p.cps.size).map figO).any id=false:=by
      rw [List.any_eq_false];intro b hb;obtain ⟨c,hc,rfl⟩:=E9.mp hb;rw [h2 hf c (cD hc)];decide
     rw [e];exact q H4 S
   .rw [if_neg hf];exact q H (Same.refl H)
  refine rInR.d (W8 (k:=Sum.inr p) hd) ⟨_,rfl,?_⟩;rw [O3,z9]
  by_cases hk:p∈ks
  .obtain ⟨e1,e2⟩:=h1 hk;rw [if_pos hk];refine iteT ⟨V.str (g p),.inl ⟨_,Sum.inr p,.inl hd,rfl,by rw [O3,if_pos hk]⟩,?_⟩;walk_at "rd";rw [decide_eq_true e1];refine iteF (rInR.l (.inr (M_AGAIN _)) rfl rfl ⟨_,rfl,?_⟩);have e3:aE (.str j) [V.str "letter",V.str "mark",V.str "over"]=true:=by
    have:=lB j lO
    rw [decide_eq_true e2] at this;exact this
   rw [e3];exact iteF tail
  .rw [if_neg hk];exact iteF tail
theorem afS:FnScope ["rules", "figures", "jobs", "rule", "piece"] zA6 (B5 vO):=E7
theorem ajR(F:FunD K "jobs_of" "jobs_of" vO f fd)(T:Txt P w K mg C ae)(G_has_rule:FO P w K mg base 1 "has_rule" zA3 [] (spHas K))(G_pieces_told:FO P w K mg base 1 "pieces_told" zA1 [] (ak7 K))(G_is_clash:FO P w K mg base 2 "is_clash" zAd [] ak8):FnOk P w K mg base D1 3 f fd zA6 (anK K):=by
 refine F.ok afS ?_ ?_
 .walk_at "ln"
 .intro cdv A outer s H vs Q E hr h;have E1:=hu_of hr;obtain ⟨a_JOBS,m_JOBS,M_JOBS⟩:=T.x_JOBS;have hZ:=E6 afS;refine ⟨_,QSs.out (A5 (C5 1 (E4 G_has_rule (K8 (qz 0) I0)))
   (A5 (C5 2 t8)
   (A5 (N8 bd.never (N0 (K:=K) (qz 0)) (K7 3) (A6 (N8 bd.never (cW (K:=K) (E4 G_pieces_told (C3 (qz 3)))) (K7 4) (A5 (qs_if (T7 (K:=K) (E4 G_is_clash (dB (qz 2) (qz 4) (lH M_JOBS (aF m_JOBS) (qe_ix (K:=K) (qz 3) A2)) (qz 1)))) (A6 aG) G5)
   (A6 (f8 E1 (qz 2) (qz 4) (lH M_JOBS (aF m_JOBS) (qe_ix (K:=K) (qz 3) A2))))))))
   (A5 (qs_if (T7 (K:=K) (E4 G_has_rule (K8 (qz 0) I0))) (A6 (f8 E1 (qz 2) I0 I0)) G5)
   (A6 (C9 (qz 2))))))),?_⟩
  obtain ⟨a,ts,R,g,rfl,hR,hl,g4,hnc,hbl,q⟩:=h;walk_at "rd";refine ⟨a,ts,R, "figures",rfl,hR,hl,fun H1 S1=>?_⟩;generalize hasW R "figures"=fg at hnc;intro d nd;have rJ:H d=none:=S1.free nd;have S2:Same H (A0 H1 d (.dK [])):=fun b o h=>A7 (S1 b o h) nd
  refine ⟨⟨_,.of (S2 _ _ hR.top)⟩,forL (xs:=ts.map V.ref) (fun i Y H2=>∃ (u v:Ap),Y=[some (.ref a),some (.bl fg),some (.ref d),u,v]/\Same H H2/\H2 d=some (.dK (A8 (keysP (E3 (R.take i))) fun t=>.str (g t))))
   ⟨none,none,rfl,S2,by rw [A1];rfl⟩ (by rintro i Y H2 _ ⟨_,_,_,S,_⟩;exact .of (S _ _ hR.top)) ?_ ?_⟩
  .rintro i x Y H2 hx ⟨u,v,rfl,S,hd⟩;obtain ⟨t,ht,rfl⟩:=G8 hx;obtain ⟨z,hz,C8⟩:=Paired.at hR.row ht;walk_at "rd";refine ⟨t,z,rfl,S _ _ C8,fun p H3 S3 hp=>⟨p,rfl,⟨_,hp⟩,forT (xs:=(M8 z).map V.str) (fun j Y H4=>∃ (v:Ap),Y=[some (.ref a),some (.bl fg),some (.ref d),some (.ref t),v]/\C7 K H4 p ((M8 z).map V.str)/\Same H H4/\H4 d=some (.dK (A8 (keysP (E3 (R.take i)++((M8 z).take j).map fun p=>(p,jobD z.1))) fun t=>.str (g t))))
    ⟨v,rfl,hp,S.trans S3,by rw [p7,j0,L5];exact S3 _ _ hd⟩ (by rintro j Y H4 _ ⟨_,_,h,_⟩;exact h) ?_ ?_⟩⟩
   .rintro j x Y H4 jP ⟨v,rfl,dL,S4,W4⟩;obtain ⟨pc,jQ,rfl⟩:=G8 jP;obtain ⟨e1,e2⟩:=ar4 hz jQ;obtain ⟨n1,n2,n3,n4⟩:=hnc _ _ _ e1;rw [e2] at n2;have hw:=lQ (K2 jQ);have X5:C7 K H4 t ((z.1::z.2).map V.str):=.of (S4 _ _ C8);have W2:(keysP (E3 (R.take i)++((M8 z).take j).map fun p=>(p,jobD z.1))).length<=10000:=by
     have h1:=ag4 (E3 (R.take i)++((M8 z).take j).map fun p=>(p,jobD z.1));have h2:=congrArg X8 e2;rw [G9] at h2;lia
    walk_at "rd";refine ⟨_,.inr X5,V.str z.1,O5 _ _,Sum.inr z.1,rfl,V.str (jobD z.1),uM hw,d,pc,jobD z.1,fg,_,g,rfl,W4,n4,fun hk=>⟨n1.symm,n2 ((lP _ _).mp hk)⟩,n3,fun H5 S5=>⟨false,rfl,iteF ⟨_,.inr (X5.same S5),V.str z.1,O5 _ _,Sum.inr z.1,rfl,V.str (jobD z.1),uM hw,_,j8 (k:=Sum.inr pc) (S5 _ _ W4) (by rw [b0];exact G4 (by lia)),(dL.same S5).dput (S5 _ _ W4),(S4.trans S5).put rJ,?_⟩⟩⟩;rw [A1,L0 jQ,D0,<- R8];rw [show ([pc].map fun p=>(p,jobD z.1))=[(pc,jobD z.1)] from rfl,ajy];unfold dd
    by_cases L3:pc∈keysP (E3 (R.take i)++((M8 z).take j).map fun p=>(p,jobD z.1))
    .rw [if_pos L3,pL _ L3];refine congrArg (fun x=>some (HO.dK x)) (T0 fun t _=>?_)
     by_cases e:t=pc
     .rw [if_pos e,e,n1]
     .rw [if_neg e]
    .rw [if_neg L3,u6 _ L3];refine congrArg (fun x=>some (HO.dK x)) (T0 fun t _=>?_)
     by_cases e:t=pc
     .rw [if_pos e,e,n1]
     .rw [if_neg e]
   .rintro Y H4 ⟨v,rfl,dL,S4,W4⟩;walk_at "rd";refine ⟨S4,?_⟩;rw [afB hz];rw [A3,K5] at W4;exact W4
  .rintro Y H2 ⟨u,v,rfl,S,hd⟩;rw [A3,hR.len,K5] at hd;walk_at "rd";refine ⟨a,ts,R, "blanks",rfl,hR.same S,hl,fun H3 S3=>⟨hasW R "blanks",rfl,?_⟩⟩;have R1:=S3 _ _ hd;have hkn:(" " : Str)∉keysP (E3 R):=fun h=>hbl ((lP _ _).mp h)
   have W2:=ag4 (E3 R);have hg:∀ t∈keysP (E3 R),V.str (g t)=jobG g t:=fun t ht=>by
    unfold jobG;rw [if_neg (fun e=>hkn (by rw [<- e];exact ht))]
   by_cases hb:hasW R "blanks"=true
   .rw [hb];refine iteT ⟨_,j8 (k:=Sum.inr (" " : Str)) R1 (by rw [b0];exact G4 (by lia)),q d _ rJ ((S.trans S3).put rJ) ?_⟩;rw [A1,u6 _ hkn];unfold k4;rw [if_pos hb];refine congrArg (fun x=>some (HO.dK x)) (T0 fun t ht=>?_);unfold jobG
    by_cases e:t=(" " : Str)
    .simp only [if_pos e]
    .simp only [if_neg e]
   .rw [kM] at hb;rw [hb];refine iteF (q d _ rJ (S.trans S3) ?_);unfold k4;rw [hb,if_neg L9,L5,R1];exact congrArg (fun x=>some (HO.dK x)) (T0 hg)
theorem sc_misused:FnScope zAj zAs (B5 fH):=E7
theorem vab:LS fH "first":=lq
theorem ajS(F:FunD K "misused" "misused" fH f fd)(T:Txt P w K mg C ae):FnOk P w K mg base D1 1 f fd zAs (anO K):=by
 refine F.ok sc_misused ?_ ?_
 .walk_at "ln"
 .intro cdv A outer s H vs Q E hr h;have E1:=hu_of hr;have hu:=hr.units;have hZ:=E6 sc_misused;refine ⟨_,QSs.out (A5 (qs_if (D6 (q_eq (K:=K) hu) (qe_ix (K:=K) (qz 0) A2) I0) (A6 (C9 (V4  (P8:CompOk zAj (B5 fH).names _ zA9 1 [1]) (cW (K:=K) (Q4 (K:=K) (qz 0) (N7 A2) (N7 A2))) (fun _ _ _ _ _=>N9 (n:=0) (show List.Nodup (zA9:Ab) by decide +kernel) rfl (Or.inl rfl)) (fun _ _ _ _ _=>(aH (D6 (q_ne (K:=K) hu) (lN E1 (F9 1) (F9 0)) I0))) (fun _ _ _ _ _=>(F9 0))))) G5)
   (A5 (qs_if (D6 (q_eq (K:=K) hu) (qe_ix (K:=K) (qz 0) A2) I0) (A5 (fC (n:=2) sc_misused.nd rfl vab (P8:CompOk zAj (B5 fH).names _ zA9 1 [1]) (cW (K:=K) (Q4 (K:=K) (qz 0) (N7 A2) (N7 A2))) (fun _ _ _ _ _=>N9 (n:=0) (show List.Nodup (zA9:Ab) by decide +kernel) rfl (Or.inl rfl)) (fun _ _ _ _ _=>(aH (D6 (q_ne (K:=K) hu) (lN E1 (F9 1) (F9 0)) I0))) (fun _ _ _ _ _=>(F9 0)))
   (A6 (C9 (O0 (K:=K) (qz 2) (V4  (P8:CompOk zAj (B5 fH).names _ zA9 1 [1]) (cW (K:=K) (Q4 (K:=K) (qz 0) (N7 A2) X0)) (fun _ _ _ _ _=>N9 (n:=0) (show List.Nodup (zA9:Ab) by decide +kernel) rfl (Or.inl rfl)) (fun _ _ _ _ _=>(aH (D6 (iL (K:=K) hu) (lN E1 (F9 1) (F9 0)) (Q3 (K8 I0 I0))))) (fun _ _ _ _ _=>(F9 0))))))) G5)
   (A6 (C9 (O9 R9))))),?_⟩
  obtain ⟨t,d,z,ks,g,rfl,ht,hd,us,hl,q⟩:=h;have hT:C7 K H t ((z.1::z.2).map V.str):=.of ht;walk_at "rd";refine ⟨_,.inr hT,V.str z.1,O5 _ _,?_⟩;walk_at "rd"
  by_cases h1:z.1=("great" : Str)
  .rw [decide_eq_true h1];have A9:1<=((z.1::z.2).map V.str).length:=by rw [A3,E5];lia
   refine iteT (rSlR.t hT (o0 (k:=1) (by decide) A9) fun s ns=>?_);have ecut:cutV ((z.1::z.2).map V.str) (some 1) (some 2)=(z.2.take 1).map V.str:=by
    rw [show cutV ((z.1::z.2).map V.str) (some 1) (some 2)=_ from uW ((z.1::z.2).map V.str) (i:=1) (j:=2) (by decide),E2,kI,List.drop_zero,<- cG]
   rw [ecut];have S1:Same H (A0 H s (.tup ((z.2.take 1).map V.str))):=Same.new ns;have hs:A0 H s (.tup ((z.2.take 1).map V.str)) s=some (.tup ((z.2.take 1).map V.str)):=A1;generalize A0 H s (.tup ((z.2.take 1).map V.str))=H1 at S1 hs;refine ⟨s,rfl,⟨_,.of hs⟩,compT (xs:=(z.2.take 1).map V.str) [some (.ref d)] rfl (fun D i ys H2=>ys=[]/\Same H1 H2) (fun D nD=>⟨rfl,Same.new nD⟩) (by rintro D i ys H2 nD _ ⟨_,S⟩;exact .of (S _ _ hs)) ?_ ?_⟩
   .rintro D i y ys H2 nD hi hy ⟨rfl,S⟩ hD R3;obtain ⟨p,hp,rfl⟩:=G8 hy;obtain ⟨m1,m2⟩:=us.gr h1 p (K2 hp);have T4:=S _ _ (S1 _ _ hd);walk_at "rd";refine ⟨.inl ⟨_,.inl T4⟩,_,W8 (k:=Sum.inr p) T4,?_⟩;rw [O3,if_pos m1,Option.getD_some,m2];refine ⟨_,rfl,?_⟩;rw [show ∀ v:Str,(!decide (v=v))=false by intro v;simp];exact iteF ⟨hD,hi,J7 _,⟨_,rfl⟩,rfl,S⟩
   .rintro D ys H2 nD ⟨rfl,S⟩ hD R3;exact q D H2 (S1.free nD) (S1.trans S) hD
  rw [decide_eq_false h1];refine iteF ⟨_,.inr hT,V.str z.1,O5 _ _,?_⟩;walk_at "rd"
  by_cases h2:z.1=("as" : Str)
  .rw [decide_eq_true h2];have A9:1<=((z.1::z.2).map V.str).length:=by rw [A3,E5];lia
   refine iteT (rSlR.t hT (o0 (k:=2) (by decide) A9) fun s ns=>?_);have ecut:cutV ((z.1::z.2).map V.str) (some 2) (some 3)=((z.2.drop 1).take 1).map V.str:=by
    rw [show cutV ((z.1::z.2).map V.str) (some 2) (some 3)=_ from uW ((z.1::z.2).map V.str) (i:=2) (j:=3) (by decide),E2,kI,<- z8,<- cG]
   rw [ecut];have S1:Same H (A0 H s (.tup (((z.2.drop 1).take 1).map V.str))):=Same.new ns;have hs:A0 H s (.tup (((z.2.drop 1).take 1).map V.str)) s=some (.tup (((z.2.drop 1).take 1).map V.str)):=A1;generalize A0 H s (.tup (((z.2.drop 1).take 1).map V.str))=H1 at S1 hs;refine ⟨s,rfl,⟨_,.of hs⟩,compT (xs:=((z.2.drop 1).take 1).map V.str) [some (.ref d)] rfl (fun D i ys H2=>ys=[]/\Same H1 H2) (fun D nD=>⟨rfl,Same.new nD⟩) (by rintro D i ys H2 nD _ ⟨_,S⟩;exact .of (S _ _ hs)) ?_ ?_⟩
   .rintro D i y ys H2 nD hi hy ⟨rfl,S⟩ hD R3;obtain ⟨p,hp,rfl⟩:=G8 hy;obtain ⟨m1,m2⟩:=us.a1 h2 p (K2 hp);have T4:=S _ _ (S1 _ _ hd);walk_at "rd";refine ⟨.inl ⟨_,.inl T4⟩,_,W8 (k:=Sum.inr p) T4,?_⟩;rw [O3,if_pos m1,Option.getD_some,m2];refine ⟨_,rfl,?_⟩;rw [show ∀ v:Str,(!decide (v=v))=false by intro v;simp];exact iteF ⟨hD,hi,J7 _,⟨_,rfl⟩,rfl,S⟩
   rintro D ys H2 nD ⟨rfl,S⟩ hD R3;have S2:=S1.trans S;have hT2:C7 K H2 t ((z.1::z.2).map V.str):=.of (S2 _ _ ht);refine rSlR.t hT2 (o0 (k:=3) (by decide) A9) fun s2 ns2=>?_
   have ecut2:cutV ((z.1::z.2).map V.str) (some 3) none=(z.2.drop 2).map V.str:=by
    rw [show cutV ((z.1::z.2).map V.str) (some 3) none=_ from aI ((z.1::z.2).map V.str) 3,E2,kI,<- z8]
   rw [ecut2];have S3:Same H2 (A0 H2 s2 (.tup ((z.2.drop 2).map V.str))):=Same.new ns2;have bQ:A0 H2 s2 (.tup ((z.2.drop 2).map V.str)) s2=some (.tup ((z.2.drop 2).map V.str)):=A1;generalize A0 H2 s2 (.tup ((z.2.drop 2).map V.str))=H3 at S3 bQ;refine ⟨s2,rfl,⟨_,.of bQ⟩,compT (xs:=(z.2.drop 2).map V.str) [some (.ref d)] rfl (fun D i ys H4=>ys=[]/\Same H3 H4) (fun D nD=>⟨rfl,Same.new nD⟩) (by rintro D i ys H4 nD _ ⟨_,S⟩;exact .of (S _ _ bQ)) ?_ ?_⟩
   .rintro D2 i y ys H4 nD2 hi hy ⟨rfl,S4⟩ hD2 yW;obtain ⟨p,hp,rfl⟩:=G8 hy;obtain ⟨m1,m2⟩:=us.a2 h2 p (K2 hp);have W4:=S4 _ _ (S3 _ _ (S2 _ _ hd));walk_at "rd";refine ⟨.inl ⟨_,.inl W4⟩,_,W8 (k:=Sum.inr p) W4,?_⟩;rw [O3,if_pos m1,Option.getD_some];refine ⟨by decide,fun v nv=>?_⟩;have fin:aE (g p) [V.str (ai "letter"),V.str (ai "mark")]=true/\flatV (g p)=true:=by
     rcases m2 with m2 | m2 <;> rw [m2] <;> exact ⟨by decide +kernel,rfl⟩
    refine rInR.l (.inr (.of A1)) fin.2 rfl ?_;rw [fin.1,Bool.true_xor];exact ⟨_,rfl,iteF ⟨A7 hD2 nv,hi,J7 _,⟨_,rfl⟩,rfl,S4.trans (Same.new nv)⟩⟩
   rintro D2 ys H4 nD2 ⟨rfl,S4⟩ hD2 yW;have hD4:=S4 _ _ (S3 _ _ hD);refine rAddR.l hD4 hD2 (by decide) fun l nl=>?_
   exact q l _ ((S2.trans (S3.trans S4)).free nl) ((S2.trans (S3.trans S4)).trans (Same.new nl)) A1
  rw [decide_eq_false h2];exact iteF fun p np=>q p _ np (Same.new np) A1
theorem ab7:FnScope ["rules", "jobs", "rule", "wrong"] zAt (B5 vP):=E7
theorem aeh(F:FunD K "check_letters" "check_letters" vP f fd)(T:Txt P w K mg C ae)(G_misused:FO P w K mg base 1 "misused" zAs [] (anO K)):FnOk P w K mg base D1 2 f fd zAt (aiP K):=by
 refine F.ok ab7 ?_ ?_
 .walk_at "ln"
 .intro cdv A outer s H vs Q E hr h;have hZ:=E6 ab7;refine ⟨_,QSs.out (A6 (N8 bd.never (N0 (K:=K) (qz 0)) (K7 2) (A5 (C5 3 (E4 G_misused (K8 (qz 2) (qz 1))))
   (A6 (qs_if (T7 (K:=K) (qz 3)) (A6 aG) G5))))),?_⟩
  obtain ⟨a,d,ts,R,ks,g,rfl,hR,hd,hw,q⟩:=h;walk_at "rd";refine ⟨⟨_,.of hR.top⟩,forL (xs:=ts.map V.ref) (fun i Y H2=>∃ (u v:Ap),Y=[some (.ref a),some (.ref d),u,v]/\Same H H2) ⟨none,none,rfl,Same.refl H⟩ (by rintro i Y H2 _ ⟨_,_,_,S⟩;exact .of (S _ _ hR.top)) ?_ ?_⟩
  .rintro i x Y H2 hx ⟨u,v,rfl,S⟩;obtain ⟨t,ht,rfl⟩:=G8 hx;obtain ⟨z,hz,C8⟩:=Paired.at hR.row ht;obtain ⟨n1,n2⟩:=hw z (K2 hz);walk_at "rd";refine ⟨t,d,z,ks,g,rfl,S _ _ C8,S _ _ hd,n1,n2,fun p H3 np S3 hp=>⟨_,fD hp,iteF (S.trans S3)⟩⟩
  .rintro Y H2 ⟨u,v,rfl,S⟩;exact q H2 S
theorem afT:FnScope zA3 zA3 (B5 qA):=E7
theorem ajT(F:FunD K "line_of" "line_of" qA f fd)(T:Txt P w K mg C ae)(G_lined_up:FO P w K mg base 3 "lined_up" ["rows"] [] ak1):FnOk P w K mg base D1 4 f fd zA3 (anL K):=by
 refine F.ok afT ?_ ?_
 .walk_at "ln"
 .intro cdv A outer s H vs Q E hr h;have hu:=hr.units;have hZ:=E6 afT;refine ⟨_,QSs.out (A6 (C9 (E4 G_lined_up (C3 (V4  (P8:CompOk zA3 (B5 qA).names _ zAi 1 [1]) (N0 (K:=K) (qz 0)) (fun _ _ _ _ _=>N9 (n:=0) (show List.Nodup (zAi:Ab) by decide +kernel) rfl (Or.inl rfl)) (fun _ _ _ _ _=>(aH (D6 (q_eq (K:=K) hu) (qe_ix (K:=K) (F9 0) A2) (F9 1)))) (fun _ _ _ _ _=>(qe_cT (bL (K:=K) (calm:=true)) T.b_list bH (C3 (Q4 (K:=K) (F9 0) (N7 A2) X0))))))))),?_⟩;obtain ⟨a,ts,R,w,rank,rfl,hR,hl,bX,w5,q⟩:=h;walk_at "rd";refine ⟨⟨_,.of hR.top⟩,compL (xs:=ts.map V.ref) [some (.str w)] rfl (fun D i ys H4=>∃ qs:Ai,ys=qs.map V.ref/\RowsAt H H4 D qs (rowsW (R.take i) w)) (fun D nD=>⟨[],rfl,⟨⟨A1,.nil⟩,by simp,fun r hr=>by rw [J8.mp hr];exact nD,Same.new nD⟩⟩)
   (by rintro D i ys H4 nD _ ⟨qs,_,RA⟩;exact .of (RA.same _ _ hR.top)) ?_ ?_⟩
  .rintro D i x ys H4 nD hi hx ⟨qs,rfl,RA⟩ hD hy;obtain ⟨t,ht,rfl⟩:=G8 hx;obtain ⟨z,hz,C8⟩:=Paired.at hR.row ht;have l8:i<R.length:=(F8.mp hz).1;have X5:C7 K H4 t ((z.1::z.2).map V.str):=.of (RA.same _ _ C8);have A9:1<=((z.1::z.2).map V.str).length:=by rw [A3,E5];lia
   walk_at "rd";refine ⟨_,.inr X5,V.str z.1,O5 _ _,?_⟩;walk_at "rd";refine iteD (fun e=>rSlR.t X5 (o0 (k:=1) (by decide) A9) fun p np=>?_) fun e=>⟨hD,kZ hi hy ⟨qs,rfl,?_⟩⟩
   .rw [E2,pG];walk_at "rd";refine rListR.l (.inr (.of A1)) fun p2 jR=>⟨A7 (A7 hD np) jR,?_,CW.put hi hy ⟨qs++[p2],by rw [D0];rfl,?_⟩⟩
    .rw [A3] at hy;rw [A3];exact G4 (by lia)
    .rw [afC hz,if_pos e];have n2:H4 p2=none:=(Same.new np).free jR;exact RA.grow (fun b o h=>A7 (A7 h np) jR) n2 A1
   .rw [afC hz,if_neg e];exact RA
  rintro D ys H4 nD ⟨qs,rfl,RA⟩ hD hy;rw [A3,hR.len,K5] at RA;refine ⟨D,qs,rowsW R w,rank,rfl,RA.rows,bX,w5,fun l line H5 nl S5 hl5 run cov=>?_⟩;exact q l line H5 (RA.same.free nl) (RA.same.trans S5) hl5 run cov
theorem ae7:FnScope ["rules", "forms", "rule"] zA6 (B5 vQ):=E7
theorem aip(F:FunD K "forms_of" "forms_of" vQ f fd)(T:Txt P w K mg C ae):FnOk P w K mg base D1 1 f fd zA6 (aiO K):=by
 refine F.ok ae7 ?_ ?_
 .walk_at "ln"
 .intro cdv A outer s H vs Q E hr h;have hu:=hr.units;have hZ:=E6 ae7;refine ⟨_,QSs.out (A5 (C5 1 t8)
   (A5 (N8 bd.never (N0 (K:=K) (qz 0)) (K7 2) (A6 (qs_if (D6 (q_eq (K:=K) hu) (qe_ix (K:=K) (qz 2) A2) I0) (A6 (Z9 (qe_mB (K:=K) q0 PySem.F.slot_list_extend PySem.F.type_list_extend (ak9 (K:=K)) (amX (qz 1) (qe_ix (K:=K) (qz 2) A2) (O9 R9)) (C3 (Q4 (K:=K) (qz 2) (N7 A2) X0))))) G5)))
   (A6 (C9 (qz 1))))),?_⟩
  obtain ⟨a,ts,R,rfl,hR,hg,hl,hf,q⟩:=h;walk_at "rd";intro d nd;refine ⟨⟨_,.of (A7 hR.top nd)⟩,forL (xs:=ts.map V.ref) (fun i Y H2=>∃ (u:Ap) (ad:Al),Y=[some (.ref a),some (.ref d),u]/\Same H H2/\H2 d=some (.dK (A8 (F7 (R.take i)) fun y=>.ref (ad y)))/\DL (A0 H d (.dK [])) H2 (F7 (R.take i)) ad (K0 (R.take i))) ⟨none,fun _=>d,rfl,Same.new nd,A1,⟨by simp [F7,N1,G7],by simp [F7,N1,G7],by simp [F7,N1,G7]⟩⟩ (by rintro i Y H2 _ ⟨_,_,_,S,_⟩;exact .of (S _ _ hR.top)) ?_ ?_⟩
  .rintro i x Y H2 hx ⟨u,ad,rfl,S,hd,dl⟩;obtain ⟨t,ht,rfl⟩:=G8 hx;obtain ⟨z,hz,C8⟩:=Paired.at hR.row ht;have hT:C7 K H2 t ((z.1::z.2).map V.str):=.of (S _ _ C8);walk_at "rd";refine ⟨_,.inr hT,V.str z.1,O5 _ _,?_⟩;walk_at "rd"
   by_cases m4:z.1=("great" : Str)
   .rw [decide_eq_true m4];refine iteT ?_;obtain ⟨w,ps⟩:=z;obtain rfl:w=("great" : Str):=m4;obtain ⟨y,fs,rfl⟩:∃ y fs,ps=y::fs:=by
     cases ps with
     | nil=>exact absurd rfl (hg _ (K2 hz) rfl)
     | cons y fs=>exact ⟨y,fs,rfl⟩
    have etk:R.take (i+1)=R.take i++[(("great" : Str),y::fs)]:=L0 hz;have bX:(K0 (R.take i) y).length+fs.length<=10000:=by
     have:=hf (i+1) y
     rw [etk,uV,if_pos rfl,C6] at this;exact this
    have W2:(A8 (F7 (R.take i)) fun y=>V.ref (ad y)).length<=1000:=by
     rw [b0];unfold F7;have h1:=eX ((N1 (R.take i)).map (·.1)) [];have h2:(N1 (R.take i)).length<=(R.take i).length:=kC _ _;rw [A3,P9] at h1;rw [G9] at h2;lia
    have O6:K6 (((("great" : Str),y::fs).1::(("great" : Str),y::fs).2).map V.str) 1=some (V.str y):=M6 (j:=1) rfl;have cA:cutV (((("great" : Str),y::fs).1::(("great" : Str),y::fs).2).map V.str) (some 2) none=fs.map V.str:=aI _ 2;refine ⟨.inl ⟨_,.inl hd⟩,_,.inr hT,V.str y,O6,fun p np=>⟨_,A7 hd np,Nat.lt_of_le_of_lt W2 (by decide),Sum.inr y,rfl,fun v hv=>?_,fun hn=>?_⟩⟩
    .rw [O3] at hv
     by_cases hy:y∈F7 (R.take i)
     .rw [if_pos hy] at hv;cases hv;have dN:=dl.row y hy;have ndy:ad y≠d:=fun e=>by have:=dl.new y hy;rw [e,A1] at this;cases this
      have nHy:H (ad y)=none:=by have:=dl.new y hy;rw [A4 ndy] at this;exact this
      have T1:Same H2 (A0 H2 p (.lst [])):=Same.new np;generalize A0 H2 p (.lst [])=H3 at T1;refine ⟨M7 (T1 _ _ dN),rSlR.t (hT.same T1) (o0 (k:=2) (by decide) (by simp)) fun s ns=>?_⟩;rw [cA];have T2:Same H3 (A0 H3 s (.tup (fs.map V.str))):=Same.new ns;have hs:A0 H3 s (.tup (fs.map V.str)) s=some (.tup (fs.map V.str)):=A1;generalize A0 H3 s (.tup (fs.map V.str))=H4 at T2 hs;have T:=T1.trans T2;refine ⟨ad y,s,_,_,rfl,rfl,T _ _ dN,.of hs,by rw [A3,A3];exact O2 (by lia),(S.trans T).put nHy,ad,?_,?_⟩
      .rw [A4 ndy.symm,T _ _ hd,etk,pT];unfold dd;rw [if_pos hy]
      .rw [etk,pT];unfold dd;rw [if_pos hy,<- D0];refine ((dl.same T).app hy (K0 (R.take i) y++fs)).congr fun x _=>?_
       rw [uV]
       by_cases aP:x=y
       .subst aP;simp
       .simp [aP]
     .rw [if_neg hy] at hv;cases hv
    .have hy:y∉F7 (R.take i):=fun hy=>by rw [O3,if_pos hy] at hn;cases hn
     have ndp:d≠p:=fun e=>by rw [<- e,hd] at np;cases np
     have n0:A0 H d (.dK []) p=none:=by rw [A4 ndp.symm];exact S.free np
     have dl2:=dl.more hy np n0;have aO:=dl2.put (b:=d) (o:=.dK (A8 (F7 (R.take i)++[y]) fun t=>if t=y then V.ref p else V.ref (ad t))) (u:=.dK []) A1;rw [u6 (V.ref p) hy];have gE:A0 (A0 H2 p (.lst [])) d (.dK (A8 (F7 (R.take i)++[y]) fun t=>if t=y then V.ref p else V.ref (ad t))) p=some (.lst []):=by rw [A4 ndp.symm,A1]
     have R1:A0 (A0 H2 p (.lst [])) d (.dK (A8 (F7 (R.take i)++[y]) fun t=>if t=y then V.ref p else V.ref (ad t))) d=some (.dK (A8 (F7 (R.take i)++[y]) fun t=>if t=y then V.ref p else V.ref (ad t))):=A1;have S3:Same H (A0 (A0 H2 p (.lst [])) d (.dK (A8 (F7 (R.take i)++[y]) fun t=>if t=y then V.ref p else V.ref (ad t)))):=(S.trans (Same.new np)).put nd;generalize A0 (A0 H2 p (.lst [])) d (.dK (A8 (F7 (R.take i)++[y]) fun t=>if t=y then V.ref p else V.ref (ad t)))=H3 at aO gE R1 S3;have hT3:C7 K H3 t (((("great" : Str),y::fs).1::(("great" : Str),y::fs).2).map V.str):=.of (S3 _ _ C8);refine ⟨M7 gE,rSlR.t hT3 (o0 (k:=2) (by decide) (by simp)) fun s ns=>?_⟩;rw [cA];have T2:Same H3 (A0 H3 s (.tup (fs.map V.str))):=Same.new ns;have hs:A0 H3 s (.tup (fs.map V.str)) s=some (.tup (fs.map V.str)):=A1;generalize A0 H3 s (.tup (fs.map V.str))=H4 at T2 hs;refine ⟨p,s,_,_,rfl,rfl,T2 _ _ gE,.of hs,by rw [A3];exact O2 (by simp;lia),(S3.trans T2).put (S.free np),fun t=>if t=y then p else ad t,?_,?_⟩
     .rw [A4 ndp,T2 _ _ R1,etk,pT];unfold dd;rw [if_neg hy];refine congrArg (fun z=>some (HO.dK z)) (T0 fun x _=>?_);show (if x=y then V.ref p else V.ref (ad x))=V.ref (if x=y then p else ad x)
      by_cases aP:x=y
      .rw [if_pos aP,if_pos aP]
      .rw [if_neg aP,if_neg aP]
     .rw [etk,pT];unfold dd;rw [if_neg hy,aY]
      have:=((aO.same T2).app (z:=y) (by simp) fs).congr (G:=K0 (R.take i++[(("great" : Str),y::fs)])) fun x _=>by
       rw [uV]
       by_cases aP:x=y
       .subst aP;have e0:K0 (R.take i) x=[]:=by
         unfold K0;rw [p0.mpr fun e he=>?_]
         .rfl
         .intro h;have h:e.1=x:=by simpa using h
          refine hy ?_;unfold F7;rw [u7];exact .inr (E9.mpr ⟨e,he,h⟩)
        simp [e0]
       .simp [aP]
      rw [if_pos rfl] at this;exact this
   .rw [decide_eq_false m4];refine iteF ⟨S,ad,?_,?_⟩
    .rw [show F7 (R.take (i+1))=F7 (R.take i) by unfold F7;rw [uT hz,pS m4,L5]];exact hd
    .rw [show F7 (R.take (i+1))=F7 (R.take i) by unfold F7;rw [uT hz,pS m4,L5]];refine dl.congr fun x _=>?_
     unfold K0;rw [uT hz,pS m4,L5]
  .rintro Y H2 ⟨u,ad,rfl,S,hd,dl⟩;walk_at "rd";rw [A3,hR.len,K5] at hd dl;exact q d ad H2 nd S hd (dl.old (Same.new nd))
theorem ae8:FnScope zB9 zAu (B5 qB):=E7
theorem aiq(F:FunD K "steps_of" "steps_of" qB f fd)(T:Txt P w K mg C ae)(G_forms_of:FO P w K mg base 1 "forms_of" zA6 [] (aiO K)):FnOk P w K mg base D1 2 f fd zAu (aiR K):=by
 refine F.ok ae8 ?_ ?_
 .walk_at "ln"
 .intro cdv A outer s H vs Q E hr h;have E1:=hu_of hr;have hu:=hr.units;have hZ:=E6 ae8;refine ⟨_,QSs.out (A5 (C5 3 t8)
   (A5 (N8 bd.never (lM T.b_enumerate (C3 (qz 1))) (bK (K:=K) (n:=2) (T8 ((K7 4)) (T8 ((K7 5)) bJ))) (A6 (f8 E1 (qz 3) (qz 5) (Q3 (C3 (Q3 (U8 (eY T.g_LETTER) (qz 4) A2)))))))
   (A5 (N8 bd.never (lM T.b_enumerate (C3 (qz 2))) (bK (K:=K) (n:=2) (T8 ((K7 4)) (T8 ((K7 6)) bJ))) (A6 (f8 E1 (qz 3) (qz 6) (Q3 (C3 (Q3 (U8 (eY T.g_MARK) (qz 4) A2)))))))
   (A5 (C5 7 (E4 G_forms_of (C3 (qz 0))))
   (A5 (uH bd.never (qz 7) (K7 5) (A6 (N8 bd.never (am9 T.b_enumerate (C3 (Y4 E1 (qz 7) (qz 5)))) (bK (K:=K) (n:=2) (T8 ((K7 8)) (T8 ((K7 9)) bJ))) (A6 (f8 E1 (qz 3) (qz 9) (Q3 (C3 (Q3 (U8 (eY T.g_LETTER) (qe_ix (K:=K) (qe_ix (K:=K) (Y4 E1 (qz 3) (qz 5)) A2) A2) (qz 8))))))))))
   (A5 (N8 bd.never (N0 (K:=K) (qz 0)) (K7 10) (A6 (qs_if (D6 (q_eq (K:=K) hu) (qe_ix (K:=K) (qz 10) A2) I0) (A6 (f8 E1 (qz 3) (qe_ix (K:=K) (qz 10) A2) (qe_cT (cX (K:=K)) T.b_tuple cT (C3 (V4  (P8:CompOk zB9 (B5 qB).names _ ["part", "steps"] 1 [3]) (cW (K:=K) (Q4 (K:=K) (qz 10) (N7 A2) X0)) (fun _ _ _ _ _=>N9 (n:=0) (show List.Nodup (["part", "steps"]:Ab) by decide +kernel) rfl (Or.inl rfl)) (fun _ _ _ _ _=>Y5) (fun _ _ _ _ _=>(qe_ix (K:=K) (Y4 E1 (F9 1) (F9 0)) A2))))))) G5)))
   (A6 (C9 (qz 3))))))))),?_⟩
  obtain ⟨a,b,c,ts,R,L,M,F,rfl,hR,md,hb,hc,P0,hRl,bX,nJ,q⟩:=h;have A9:L.length+M.length+((F7 R).flatMap (K0 R)).length+(asKs R).length<=50000:=by
   unfold allKs at nJ;simp only [C6] at nJ;exact nJ
  walk_at "rd";intro d nd;have ndR:∀ {x:ab} {o:HO},H x=some o->x≠d:=fun h e=>by rw [e,nd] at h;cases h
  refine ⟨⟨_,A7 hb nd⟩,forE (xs:=L.map V.str) (fun i Y H2=>∃ (u v w x y z r:Ap),Y=[some (.ref a),some (.ref b),some (.ref c),some (.ref d),u,v,w,x,y,z,r]/\StI H H2 d (L.take i) F)
   ⟨none,none,none,none,none,none,none,rfl,Same.new nd,fun _=>d,A1,by simp [G7]⟩ (by rintro i Y H2 ⟨_,_,_,_,_,_,_,_,S⟩;exact S.same _ _ hb) ?_ ?_⟩
  .rintro i x t Y H2 hx ⟨u,v,w,x',y,z,r,rfl,S⟩ nt;obtain ⟨l,hl,rfl⟩:=G8 hx;have hi:i<L.length:=(F8.mp hl).1;walk_at "rd";refine ⟨_,.of A1,rfl,_,_,rfl,_,_,rfl,rfl,by decide,fun p np=>⟨by decide,fun p1 V1=>?_⟩⟩;rw [L0 hl];exact StI.put nd (((S.more (Same.new nt)).more (Same.new np)).more (Same.new V1)) (by rw [G9];lia) (by
    rw [md.lt i l hl];exact StepAt.one A1 (A7 A1 V1))
  rintro Y H2 ⟨u,v,w,x',y,z,r,rfl,S⟩;rw [A3,K5] at S;walk_at "rd";refine ⟨⟨_,S.same _ _ hc⟩,forE (xs:=M.map V.str) (fun i Y H2=>∃ (u v w x y z r:Ap),Y=[some (.ref a),some (.ref b),some (.ref c),some (.ref d),u,v,w,x,y,z,r]/\StI H H2 d (L++M.take i) F)
   ⟨u,v,w,x',y,z,r,rfl,by rw [p7,L5];exact S⟩ (by rintro i Y H2 ⟨_,_,_,_,_,_,_,_,S⟩;exact S.same _ _ hc) ?_ ?_⟩
  .clear S;rintro i x t Y H2 hx ⟨u,v,w,x',y,z,r,rfl,S⟩ nt;obtain ⟨l,hl,rfl⟩:=G8 hx;have hi:i<M.length:=(F8.mp hl).1;walk_at "rd";refine ⟨_,.of A1,rfl,_,_,rfl,_,_,rfl,rfl,by decide,fun p np=>⟨by decide,fun p1 V1=>?_⟩⟩;rw [L0 hl,<- R8];exact StI.put nd (((S.more (Same.new nt)).more (Same.new np)).more (Same.new V1)) (by rw [C6,G9];lia) (by
    rw [md.mr i l hl];exact StepAt.one A1 (A7 A1 V1))
  clear S H2 u v w x' y z r;rintro Y H2 ⟨u,v,w,x',y,z,r,rfl,S⟩;rw [A3,K5] at S;walk_at "rd";refine ⟨a,ts,R,rfl,hR.same S.same,fun z hz e=>md.ne z hz (.inr e),hRl,bX,fun fd af H3 nfd S3 rK dl=>?_⟩;have nf0:H fd=none:=S.same.free nfd;have nf1:fd≠d:=fun e=>by
   obtain ⟨ad,h1,_⟩:=S.made;rw [<- e,nfd] at h1;cases h1
  have S':=S.more S3;have C8:=dl.row;clear S S3 dl nfd H2;refine ⟨fd,rfl,_,rK,fun o=>forD (fun i Y H4=>∃ (u v w y z r:Ap),Y=[some (.ref a),some (.ref b),some (.ref c),some (.ref d),u,v,w,some (.ref fd),y,z,r]/\FoI H H4 d fd o (F7 R) af (K0 R) (L++M++((F7 R).take i).flatMap (K0 R)) F)
   ⟨u,v,w,y,z,r,rfl,⟨A1,fun y hy=>by rw [A4 (fun e=>by have:=C8 y hy;rw [e,rK] at this;cases this)];exact C8 y hy,by rw [p7,eM,L5];exact S'.frz rK nf0 nf1⟩⟩ (by rintro i Y H4 ⟨_,_,_,_,_,_,_,h⟩;exact h.frz) ?_ ?_⟩
  .rintro i k v' Y H4 hk ⟨u,v,w,y,z,r,rfl,J⟩;obtain ⟨l,hl,e⟩:=G8 (f:=fun t=>((Sum.inr t:B1),V.ref (af t))) hk;obtain ⟨rfl,rfl⟩:=Prod.mk.inj e;have nK:l∈F7 R:=K2 hl;have hlL:=md.gl l nK;have yV:(((F7 R).take i).flatMap (K0 R)).length+(K0 R l).length<=((F7 R).flatMap (K0 R)).length:=by
    have e:(F7 R).flatMap (K0 R)=((F7 R).take i).flatMap (K0 R)++K0 R l++((F7 R).drop (i+1)).flatMap (K0 R):=by
     have:=c9 (i+1) (F7 R)
     rw [L0 hl] at this;rw [<- this,y8,y8,W6,eM,L5];rw [this]
    rw [e,C6,C6];lia
   walk_at "rd";refine ⟨V.ref (af l),.inl ⟨_,Sum.inr l,.inr ⟨o,J.frz⟩,rfl,by rw [O3,if_pos nK]⟩,af l,rfl,⟨_,J.rows l nK⟩,forE1 (xs:=(K0 R l).map V.str) (fun j Y H5=>∃ (y z r:Ap),Y=[some (.ref a),some (.ref b),some (.ref c),some (.ref d),u,some (kV (Sum.inr l)),w,some (.ref fd),y,z,r]/\FoI H H5 d fd o (F7 R) af (K0 R) (L++M++((F7 R).take i).flatMap (K0 R)++(K0 R l).take j) F) ⟨y,z,r,rfl,by rw [p7,L5];exact J⟩ (by rintro j Y H5 ⟨_,_,_,_,h⟩;exact h.rows l nK) ?_ ?_⟩
   .clear J y z r;rintro j x t Y H5 hx ⟨y,z,r,rfl,J⟩ nt;obtain ⟨f,hf,rfl⟩:=G8 hx;have hj:j<(K0 R l).length:=(F8.mp hf).1;have T1:Same H5 (A0 H5 t (.tup [.int ((j+1:Nat):Int),.str f])):=Same.new nt;have ht:A0 H5 t (.tup [.int ((j+1:Nat):Int),.str f]) t=some (.tup [.int ((j+1:Nat):Int),.str f]):=A1;generalize A0 H5 t (.tup [.int ((j+1:Nat):Int),.str f])=H6 at T1 ht ⊢
    have J6:=J.more T1;obtain ⟨ad,h1,h2⟩:=J6.st.made;have L3:l∈G7 [] (L++M++((F7 R).take i).flatMap (K0 R)++(K0 R l).take j):=by
     rw [u7];exact .inr (P1 _ (P1 _ (P1 _ hlL)))
    obtain ⟨tt,e1,e2⟩:=(h2 l L3).ex;rw [md.letter hlL] at e2;obtain ⟨t0,rfl,e3⟩:∃ t0,tt=[t0]/\H6 t0=some (tupT (2,(L.idxOf l:Int),0)):=by
     cases e2 with
     | cons h t=>cases t;exact ⟨_,rfl,h⟩
    walk_at "rd";refine ⟨_,.of ht,rfl,_,_,rfl,_,_,rfl,rfl,V.ref (ad l),.inl ⟨_,Sum.inr l,.inl h1,rfl,by rw [O3,if_pos L3]⟩,?_⟩;walk_at "rd";refine ⟨_,.inr (.of e1),V.ref t0,O5 _ _,?_⟩;walk_at "rd";refine ⟨_,.inr (.of e3),V.int (L.idxOf l:Int),M6 (j:=1) rfl,by decide,fun p np=>⟨by decide,fun p1 V1=>?_⟩⟩;rw [L0 hf,<- R8];exact FoI.put nd ((J6.more (Same.new np)).more (Same.new V1)) (by simp only [C6,G9];lia) (by
     rw [md.gr l nK j f hf];exact StepAt.one A1 (A7 A1 V1))
   .rintro Y H5 ⟨y,z,r,rfl,J⟩;rw [A3,K5] at J;refine ⟨⟨_,_,_,_,_,_,rfl⟩,?_⟩;rw [L0 hl,y8,W6,eM,L5,<- R8];exact J
  rintro Y H4 ⟨u,v,w,y,z,r,rfl,J⟩;rw [b0,K5] at J;have S5:=J.st.thaw (o:=.dK (A8 (F7 R) fun y=>V.ref (af y))) J.frz nf0 nf1;generalize A0 H4 fd (.dK (A8 (F7 R) fun y=>V.ref (af y)))=H5 at S5 ⊢
  clear J rK C8;walk_at "rd";refine ⟨⟨_,.of (S5.same _ _ hR.top)⟩,forL (xs:=ts.map V.ref) (fun i Y H6=>∃ (r:Ap),Y=[some (.ref a),some (.ref b),some (.ref c),some (.ref d),u,v,w,some (.ref fd),y,z,r]/\StI H H6 d (L++M++(F7 R).flatMap (K0 R)++asKs (R.take i)) F) ⟨r,rfl,by rw [p7];rw [show asKs []=[] from rfl,L5];exact S5⟩ (by rintro i Y H6 _ ⟨_,_,S⟩;exact .of (S.same _ _ hR.top)) ?_ ?_⟩
  .clear S5 r;rintro i x Y H6 hx ⟨r,rfl,S⟩;obtain ⟨t,ht,rfl⟩:=G8 hx;obtain ⟨zz,hz,C8⟩:=Paired.at hR.row ht;have gB:=K2 hz;have hT:C7 K H6 t ((zz.1::zz.2).map V.str):=.of (S.same _ _ C8);walk_at "rd";refine ⟨_,.inr hT,V.str zz.1,O5 _ _,?_⟩;walk_at "rd"
   by_cases has:zz.1=("as" : Str)
   .rw [decide_eq_true has];refine iteT ?_;obtain ⟨w1,ps⟩:=zz;obtain rfl:w1=("as" : Str):=has;obtain ⟨p,qs,rfl⟩:∃ p qs,ps=p::qs:=by
     cases ps with
     | nil=>exact absurd rfl (md.ne _ gB (.inl rfl))
     | cons p qs=>exact ⟨p,qs,rfl⟩
    have cA:cutV (((("as" : Str),p::qs).1::(("as" : Str),p::qs).2).map V.str) (some 2) none=qs.map V.str:=aI _ 2;have hql:qs.length<=1000:=by have:=P0 _ gB;simp only [E5] at this;lia
    have yX:=ane (R.take i);rw [G9] at yX;refine rSlR.t hT (o0 (k:=2) (by decide) (by simp)) fun s ns=>?_
    rw [cA];have T1:Same H6 (A0 H6 s (.tup (qs.map V.str))):=Same.new ns;have hs:A0 H6 s (.tup (qs.map V.str)) s=some (.tup (qs.map V.str)):=A1;generalize A0 H6 s (.tup (qs.map V.str))=H7 at T1 hs;have S7:=S.more T1;have hT7:C7 K H7 t (((("as" : Str),p::qs).1::(("as" : Str),p::qs).2).map V.str):=C7.same T1 hT;clear hT S;refine ⟨s,rfl,⟨_,.of hs⟩,compT (xs:=qs.map V.str) [some (.ref d)] rfl (fun D j ys H8=>∃ dO:Ai,ys=dO.map V.ref/\AsI H H7 H8 d (L++M++(F7 R).flatMap (K0 R)++asKs (R.take i)) F dO ((qs.take j).map fun q=>(F q).headD (0,0,0))) (fun D nD=>⟨[],rfl,S7.more (Same.new nD),.nil,Same.new nD⟩) (by rintro D j ys H8 nD _ ⟨_,_,h⟩;exact .of (h.sm _ _ hs)) ?_ ?_⟩
    .rintro D j yv ys H8 nD hi hy ⟨dO,rfl,J⟩ hD R3;obtain ⟨qq,hq,rfl⟩:=G8 hy;have hqb:=md.pt _ gB rfl qq (K2 hq);obtain ⟨st,T9⟩:=md.base hqb;obtain ⟨ad,h1,h2⟩:=J.st.made;have L3:qq∈G7 [] (L++M++(F7 R).flatMap (K0 R)++asKs (R.take i)):=by
      rw [u7];refine .inr (P1 _ (P1 _ (J9.mpr hqb)))
     obtain ⟨tt,e1,e2⟩:=(h2 qq L3).ex;rw [T9] at e2;obtain ⟨t0,rfl,e3⟩:∃ t0,tt=[t0]/\H8 t0=some (tupT st):=by
      cases e2 with
      | cons h t=>cases t;exact ⟨_,rfl,h⟩
     walk_at "rd";refine ⟨V.ref (ad qq),.inl ⟨_,Sum.inr qq,.inl h1,rfl,by rw [O3,if_pos L3]⟩,?_⟩;walk_at "rd";have rH:dO.length<=1000:=by
      have:=Paired.length J.pr
      rw [A3,G9] at this;lia
     refine ⟨_,.inr (.of e1),V.ref t0,O5 _ _,hD,by rw [A3];exact G4 (by lia),CW.put hi R3 ⟨dO++[t0],by rw [D0];rfl,?_⟩⟩;refine AsI.putL (f:=D) ⟨J.st,?_,J.sm⟩ hD (S7.same.free nD) nD;rw [L0 hq,D0];refine Paired.snoc J.pr ?_;show H8 t0=some (tupT ((F qq).headD (0,0,0)));rw [T9];exact e3
    rintro D ys H8 nD ⟨dO,rfl,J⟩ hD R3;rw [A3,K5] at J;rw [tup_r];refine rTupR.l (.of hD) fun p1 V1=>?_
    have O6:K6 (((("as" : Str),p::qs).1::(("as" : Str),p::qs).2).map V.str) 1=some (V.str p):=M6 (j:=1) rfl;have S8:Same H8 (A0 H8 p1 (.tup (dO.map V.ref))):=Same.new V1;refine ⟨_,.inr (C7.same (J.sm.trans S8) hT7),V.str p,O6,?_⟩;rw [ag8 hz,aiQ,<- R8];refine StI.put nd (J.st.more S8) (by simp only [C6];lia) ?_;rw [md.as _ gB rfl p qs rfl];exact ⟨dO,A1,L7 J.pr fun t s e=>S8 _ _ e⟩
   .rw [decide_eq_false has];refine iteF ?_;rw [ag8 hz,alm has,L5];exact S
  rintro Y H6 ⟨r,rfl,S⟩;rw [A3,hR.len,K5] at S;walk_at "rd";exact q d H6 nd S.same S.made
theorem abQ:FnScope zAk zAk (B5 vR):=E7
theorem adY(F:FunD K "__init__" "Order.__init__" vR f fd)(T:Txt P w K mg C ae)(G_has_rule:FO P w K mg base 1 "has_rule" zA3 [] (spHas K))(G_jobs_of:FO P w K mg base 3 "jobs_of" zA6 [] (anK K))(G_check_letters:FO P w K mg base 2 "check_letters" zAt [] (aiP K))(G_line_of:FO P w K mg base 4 "line_of" zA3 [] (anL K))(G_steps_of:FO P w K mg base 2 "steps_of" zAu [] (aiR K)):FnOk P w K mg base D1 5 f fd zAk (alr C):=by
 refine F.ok abQ ?_ ?_
 .walk_at "ln"
 .intro cdv A outer s H vs Q E hr h;have hZ:=E6 abQ;refine ⟨_,QSs.out (A5 (t9 (K:=K) (qz 0) (E4 G_has_rule (K8 (qz 1) I0)))
   (A5 (t9 (K:=K) (qz 0) (E4 G_has_rule (K8 (qz 1) I0)))
   (A5 (t9 (K:=K) (qz 0) (E4 G_jobs_of (C3 (qz 1))))
   (A5 (Z9 (E4 G_check_letters (K8 (qz 1) (U7 (K:=K) (qz 0)))))
   (A5 (t9 (K:=K) (qz 0) (E4 G_line_of (K8 (qz 1) I0)))
   (A5 (t9 (K:=K) (qz 0) (E4 G_line_of (K8 (qz 1) I0)))
   (A6 (t9 (K:=K) (qz 0) (E4 G_steps_of (U8 (qz 1) (U7 (K:=K) (qz 0)) (U7 (K:=K) (qz 0)))))))))))),?_⟩
  obtain ⟨x,dx,a,ts,R,g,r1,r2,rfl,hx,hR,pl,q⟩:=h;have lp:∀ (f:Str) (y:V) (fs:List (Str×V)),(putF f y fs).length<=fs.length+1:=sS;walk_at "rd";refine ⟨a,ts,R, "figures",rfl,hR,pl.len,fun H1 S1=>⟨C,dx,[],S1 _ _ hx,T.cl,T.na_figures,by decide,?_⟩⟩;generalize hF1:putF (ai "figures") (V.bl (hasW R (ai "figures"))) []=F1;have l1:F1.length<=1:=by rw [<- hF1];exact lp _ _ _
  have B2:SameBut x H (A0 H1 x (.ins C dx F1)):=(Same.but S1).at;have yY:A0 H1 x (.ins C dx F1) x=some (.ins C dx F1):=A1;generalize A0 H1 x (.ins C dx F1)=H2 at B2 yY;have hR2:=hR.but B2 hx;refine ⟨a,ts,R, "behind",rfl,hR2,pl.len,fun H3 S3=>⟨C,dx,F1,S3 _ _ yY,T.cl,T.na_behind,by lia,?_⟩⟩;generalize hF2:putF (ai "behind") (V.bl (hasW R (ai "behind"))) F1=F2;have l2:F2.length<=2:=by rw [<- hF2];exact K9 (lp _ _ _) (by lia)
  have B4:SameBut x H2 (A0 H3 x (.ins C dx F2)):=(Same.but S3).at;have jP:A0 H3 x (.ins C dx F2) x=some (.ins C dx F2):=A1;generalize A0 H3 x (.ins C dx F2)=H4 at B4 jP;have hR4:=hR2.but B4 yY;refine ⟨a,ts,R,g,rfl,hR4,pl.len,pl.plen,pl.nc,pl.nb,fun j H5 nj S5 hj=>?_⟩;have njx:j≠x:=fun e=>by rw [e,jP] at nj;cases nj
  generalize hF3:putF (ai "jobs") (V.ref j) F2=F3;have l3:F3.length<=3:=by rw [<- hF3];exact K9 (lp _ _ _) (by lia)
  have k3:F3.lookup (ai "jobs")=some (V.ref j):=by rw [<- hF3,M5,if_pos rfl]
  refine ⟨C,dx,F2,S5 _ _ jP,T.cl,T.na_jobs,by lia,?_⟩;rw [hF3];have B6:SameBut x H4 (A0 H5 x (.ins C dx F3)):=(Same.but S5).at;have nM:A0 H5 x (.ins C dx F3) x=some (.ins C dx F3):=A1;have yZ:A0 H5 x (.ins C dx F3) j=some (.dK (A8 (keysP (E3 R)++k4 R) (jobG g))):=by rw [A4 njx];exact hj
  generalize A0 H5 x (.ins C dx F3)=H6 at B6 nM yZ;have hR6:=hR4.but B6 jP;refine ⟨C,dx,F3,nM,T.cl,T.na_jobs,_,k3,a,j,ts,R,_,_,rfl,hR6,yZ,fun z hz=>⟨pl.used hz,pl.zl z hz⟩,fun H7 S7=>?_⟩;refine ⟨a,ts,R, "row",r1,rfl,hR6.same S7,pl.len,K9 pl.f1 (by decide),pl.a1,fun ll L H8 nll S8 nH run cov=>?_⟩;have hx8:=S8 _ _ (S7 _ _ nM);have nlx:ll≠x:=fun e=>by rw [e,S7 _ _ nM] at nll;cases nll
  have llen:L.length<=10000:=by
   rw [pK (iO _) run cov];exact K9 (lA _) pl.f1
  generalize hF4:putF (ai "letter_line") (V.ref ll) F3=F4;have l4:F4.length<=4:=by rw [<- hF4];exact K9 (lp _ _ _) (by lia)
  refine ⟨C,dx,F3,hx8,T.cl,T.na_letter_line,by lia,?_⟩;rw [hF4];have B9:SameBut x H6 (A0 H8 x (.ins C dx F4)):=(Same.but (S7.trans S8)).at;have rL:A0 H8 x (.ins C dx F4) x=some (.ins C dx F4):=A1;have nN:A0 H8 x (.ins C dx F4) ll=some (.lst (L.map V.str)):=by rw [A4 nlx];exact nH
  generalize A0 H8 x (.ins C dx F4)=H9 at B9 rL nN;have hR9:=hR6.but B9 nM;refine ⟨a,ts,R, "marks",r2,rfl,hR9,pl.len,K9 pl.f2 (by decide),pl.a2,fun ml M W3 nml gH zA run2 cov2=>?_⟩;have nmx:ml≠x:=fun e=>by rw [e,rL] at nml;cases nml
  have mlen:M.length<=10000:=by
   rw [pK (iO _) run2 cov2];exact K9 (lA _) pl.f2
  generalize hF5:putF (ai "mark_line") (V.ref ml) F4=F5;have l5:F5.length<=5:=by rw [<- hF5];exact K9 (lp _ _ _) (by lia)
  refine ⟨C,dx,F4,gH _ _ rL,T.cl,T.na_mark_line,by lia,?_⟩;rw [hF5];have B11:SameBut x H9 (A0 W3 x (.ins C dx F5)):=(Same.but gH).at;have m5:A0 W3 x (.ins C dx F5) x=some (.ins C dx F5):=A1;have w8:A0 W3 x (.ins C dx F5) ml=some (.lst (M.map V.str)):=by rw [A4 nmx];exact zA
  have x3:A0 W3 x (.ins C dx F5) ll=some (.lst (L.map V.str)):=by rw [A4 nlx];exact gH _ _ nN
  generalize A0 W3 x (.ins C dx F5)=H11 at B11 m5 w8 x3;have hR11:=hR9.but B11 rL;have kl:F5.lookup (ai "letter_line")=some (V.ref ll):=by rw [<- hF5,M5,if_neg (by decide +kernel),<- hF4,M5,if_pos rfl]
  have km:F5.lookup (ai "mark_line")=some (V.ref ml):=by rw [<- hF5,M5,if_pos rfl]
  refine ⟨C,dx,F5,m5,T.cl,T.na_letter_line,_,kl,C,dx,F5,m5,T.cl,T.na_mark_line,_,km,a,ll,ml,ts,R,L,M,stepF R L M,rfl,hR11,alp pl ⟨run,cov⟩ ⟨run2,cov2⟩,x3,w8,pl.zl,pl.len,alq pl,K9 (aqt pl ⟨run,cov⟩ ⟨run2,cov2⟩) (by decide),fun md H12 nmd X2 hmd=>⟨C,dx,F5,X2 _ _ m5,T.cl,T.na_made,by lia,?_⟩⟩;have nmdx:md≠x:=fun e=>by rw [e,m5] at nmd;cases nmd
  have B:SameBut x H (A0 H12 x (.ins C dx (putF (ai "made") (V.ref md) F5))):=((B2.trans B4).trans ((B6.trans B9).trans (B11.trans (Same.but X2)))).at;have fr:∀ {H':Hp} {y:ab},SameBut x H H'->H' y=none->y≠x->H y=none:=fun {H' y} b n nx=>by
   cases e:H y with
   | none=>rfl
   | some o=>have:=b _ _ nx e;rw [n] at this;cases this
  have B44:=B2.trans B4;refine q j ll ml md L M _ (fr B44 nj njx) (fr ((B44.trans B6).trans (Same.but S7)) nll nlx) (fr ((B44.trans B6).trans B9) nml nmx) (fr (((B44.trans B6).trans B9).trans B11) nmd nmdx) B ⟨⟨dx,?_⟩,?_,?_,?_,hmd.mod (X2 _ _ m5) (by intro xs e;cases e) nmdx,⟨run,cov⟩,⟨run2,cov2⟩⟩
  .rw [A1,<- hF5,<- hF4,<- hF3,<- hF2,<- hF1];rfl
  .rw [A4 njx];exact X2 _ _ (B11 _ _ njx (B9 _ _ njx yZ))
  .rw [A4 nlx];exact X2 _ _ x3
  .rw [A4 nmx];exact X2 _ _ w8
theorem ab8:FnScope zA2 zA2 (B5 vS):=E7
theorem aei(F:FunD K "letters" "Order.letters" vS f fd)(T:Txt P w K mg C ae):FnOk P w K mg base D1 1 f fd zA2 (als C):=by
 refine F.ok ab8 ?_ ?_
 .walk_at "ln"
 .intro cdv A outer s H vs Q E hr h;have hZ:=E6 ab8;refine ⟨_,QSs.out (A6 (C9 (qe_cT (bL (K:=K) (calm:=true)) T.b_list bH (C3 (U7 (K:=K) (qz 0)))))),?_⟩;obtain ⟨x,j,ll,ml,md,g,R,L,M,rfl,hO,q⟩:=h;obtain ⟨dx,h1⟩:=hO.ob;walk_at "rd";refine ⟨_,_,_,h1,T.cl,T.na_letter_line,_,ag6 _ _ _ _ _ _,?_⟩;walk_at "rd";exact rListR.l (.inl (.of hO.lets)) fun l nl=>q l nl
theorem acM:FnScope zA2 zA2 (B5 vT):=E7
theorem afk(F:FunD K "marks" "Order.marks" vT f fd)(T:Txt P w K mg C ae):FnOk P w K mg base D1 1 f fd zA2 (aiT C):=by
 refine F.ok acM ?_ ?_
 .walk_at "ln"
 .intro cdv A outer s H vs Q E hr h;have hZ:=E6 acM;refine ⟨_,QSs.out (A6 (C9 (qe_cT (bL (K:=K) (calm:=true)) T.b_list bH (C3 (U7 (K:=K) (qz 0)))))),?_⟩;obtain ⟨x,j,ll,ml,md,g,R,L,M,rfl,hO,q⟩:=h;obtain ⟨dx,h1⟩:=hO.ob;walk_at "rd";refine ⟨_,_,_,h1,T.cl,T.na_mark_line,_,ajz _ _ _ _ _ _,?_⟩;walk_at "rd";exact rListR.l (.inl (.of hO.mrks)) fun l nl=>q l nl
theorem ad7:FnScope zA7 zA7 (B5 vU):=E7
theorem ahA(F:FunD K "job" "Order.job" vU f fd)(T:Txt P w K mg C ae):FnOk P w K mg base D1 1 f fd zA7 (asf C):=by
 refine F.ok ad7 ?_ ?_
 .walk_at "ln"
 .intro cdv A outer s H vs Q E hr h;have E1:=hu_of hr;have hZ:=E6 ad7;refine ⟨_,QSs.out (A6 (C9 (lN E1 (U7 (K:=K) (qz 0)) (qz 1)))),?_⟩;obtain ⟨x,j,ll,ml,md,p,g,R,L,M,rfl,hO,q⟩:=h;obtain ⟨dx,h1⟩:=hO.ob;walk_at "rd";refine ⟨_,_,_,h1,T.cl,T.na_jobs,_,ag5 _ _ _ _ _ _,j,rfl,.inl ⟨_,.inl hO.jobs⟩,_,W8 (k:=Sum.inr p) hO.jobs,?_⟩;rw [O3]
  by_cases hp:p∈keysP (E3 R)++k4 R
  .rw [if_pos hp] at q ⊢
   exact q
  .rw [if_neg hp] at q ⊢
   exact q
theorem adE:FnScope ["text", "at", "end"] ["text", "at"] (B5 vV):=E7
theorem agx(F:FunD K "figures_at" "figures_at" vV f fd)(T:Txt P w K mg C ae)(G_is_figure:FO P w K mg base 1 "is_figure" zA0 [] iT):FnOk P w K mg base D1 2 f fd ["text", "at"] alw:=by
 refine F.ok adE ?_ ?_
 .walk_at "ln"
 .intro cdv A outer s H vs Q E hr h;have hZ:=E6 adE;refine ⟨_,QSs.out (A5 (C5 2 (qz 1))
   (A5 (lF bd.never (QW.pt (fB (D6 q_lt (qz 2) (W0 (K:=K) T.b_len (qz 0))) (fA (T7 (K:=K) (E4 G_is_figure (C3 (qe_ix (K:=K) (qz 0) (qz 2)))))))) (A6 (qaz 2 A2 anG)))
   (A6 (C9 (Q4 (K:=K) (qz 0) (N7 (qz 1)) (N7 (qz 2))))))),?_⟩
  obtain ⟨z,pre,rest,rfl,hz,P0,q⟩:=h;walk_at "rd";have A9:z.length=pre.length+rest.length:=by
   have:=congrArg X8 P0
   simp [Str.length] at this ⊢
   lia
  have hsz:z.length<=ak:=O2 (by lia);refine lI (fun m Y H2=>∃ (run left:An),Y=[some (.str z),some (.int pre.length),some (.int ((pre++run).length:Nat))]/\H2=H/\rest=run++left/\rest.takeWhile figO=run++left.takeWhile figO/\m=left.length) rest.length ⟨[],rest,by simp,rfl,rfl,rfl,rfl⟩ ?_;rintro m Y H2 ⟨run,left,rfl,rfl,hr,zB,rfl⟩;have x4:z.cps.toList=pre++(run++left):=by rw [P0,hr]
  have gI:rest.length=run.length+left.length:=by rw [hr,C6]
  have ecut:cutS z (some (pre.length:Int)) (some (((pre++run).length:Nat):Int))=⟨run.toArray⟩:=by
   have:=uZ (y:=run) (rest:=left) x4
   rw [show (((pre++run).length:Nat):Int)=(pre.length:Int)+(run.length:Int) by rw [C6];lia];exact this
  have hpr:(pre++run).length=pre.length+run.length:=C6;walk_at "rd";refine ⟨hsz,iteD (fun C4=>⟨hsz,?_⟩) fun qW=>⟨hsz,?_⟩⟩
  .cases left with
   | nil=>simp at gI;lia
   | cons c l2=>
    refine ⟨c,?_,c,rfl,figO c,rfl,?_⟩
    .rw [x4,<- R8];exact alv
    by_cases hf:figO c=true
    .rw [hf];refine iteT ⟨_,fun _ _ h=>h,l2.length,by simp,run++[c],by simp;lia,rfl,l2,by rw [hr];simp,?_,rfl⟩;rw [zB,List.takeWhile_cons_of_pos hf]
     simp
    .rw [kM] at hf;rw [hf];refine iteF ⟨hsz,?_⟩;rw [ecut];rw [zB,List.takeWhile_cons_of_neg (by simp [hf]),L5] at q;exact q
  .have mM:left=[]:=aV.mp (by lia);rw [zB,mM,List.takeWhile_nil,L5] at q;rw [ecut];exact q
theorem afU:FnScope ["known", "text", "at", "figures", "two"] zAv (B5 vW):=E7
theorem ajU(F:FunD K "part_at" "part_at" vW f fd)(T:Txt P w K mg C ae)(G_is_figure:FO P w K mg base 1 "is_figure" zA0 [] iT)(G_figures_at:FO P w K mg base 2 "figures_at" ["text", "at"] [] alw):FnOk P w K mg base D1 3 f fd zAv alx:=by
 refine F.ok afU ?_ ?_
 .walk_at "ln"
 .intro cdv A outer s H vs Q E hr h;have hu:=hr.units;have hZ:=E6 afU;refine ⟨_,QSs.out (A5 (qs_if (QW.pt (fB (T7 (K:=K) (qz 3)) (fA (T7 (K:=K) (E4 G_is_figure (C3 (qe_ix (K:=K) (qz 1) (qz 2)))))))) (A6 (C9 (E4 G_figures_at (K8 (qz 1) (qz 2))))) G5)
   (A5 (C5 4 (Q4 (K:=K) (qz 1) (N7 (qz 2)) (N7 (O0 (K:=K) (qz 2) A2))))
   (A5 (qs_if (D6 (q_in (K:=K) hu) (qz 4) (qz 0)) (A6 (C9 (qz 4))) G5)
   (A5 (qs_if (D6 (q_in (K:=K) hu) (qe_ix (K:=K) (qz 1) (qz 2)) (qz 0)) (A6 (C9 (qe_ix (K:=K) (qz 1) (qz 2)))) G5)
   (A6 aG))))),?_⟩
  obtain ⟨d,z,g,pre,c,r,w,y,rfl,hd,hz,P0,hp,q⟩:=h;have hsz:z.length<=ak:=O2 (by lia);have ha:K6 z.cps.toList (pre.length:Int)=some c:=by rw [P0];exact alv
  rw [fG] at hp
  cases w with
  | false=>
   rw [gT,if_neg L9] at hp;walk_at "rd"
   cases r with
   | nil=>
    rw [iW] at hp
    by_cases h1:one c∈g
    .rw [if_pos h1] at hp;obtain rfl:=bh hp;rw [ahd P0];refine ⟨hsz,rInR.d (W8 (k:=Sum.inr (one c)) hd) ⟨_,rfl,?_⟩⟩;rw [dA,z9,decide_eq_true h1];exact iteT q
    .rw [if_neg h1] at hp;cases hp
   | cons e r=>
    rw [iX] at hp;have ec:cutS z (some (pre.length:Int)) (some ((pre.length:Int)+2))=two c e:=uZ (y:=[c,e]) (rest:=r) P0;rw [ec];refine ⟨hsz,rInR.d (W8 (k:=Sum.inr (two c e)) hd) ⟨_,rfl,?_⟩⟩;rw [dA,z9];refine iteD (fun h=>?_) fun h=>⟨hsz,c,ha,rInR.d (W8 (k:=Sum.inr (one c)) hd) ⟨_,rfl,?_⟩⟩
    .rw [if_pos h] at hp;obtain rfl:=bh hp;exact q
    .rw [if_neg h] at hp
     by_cases h1:one c∈g
     .rw [if_pos h1] at hp;obtain rfl:=bh hp;rw [dA,z9,decide_eq_true h1];exact iteT ⟨hsz,c,ha,q⟩
     .rw [if_neg h1] at hp;cases hp
  | true=>
   rw [aA] at hp;walk_at "rd";refine ⟨hsz,c,ha,c,rfl,figO c,rfl,?_⟩
   by_cases hf:figO c=true
   .rw [hf];rw [if_pos hf] at hp;obtain rfl:=bh hp;exact iteT ⟨z,pre,c::r,rfl,hz,P0,q⟩
   rw [if_neg hf] at hp;rw [kM] at hf;rw [hf];refine iteF ?_
   cases r with
   | nil=>
    rw [iW] at hp
    by_cases h1:one c∈g
    .rw [if_pos h1] at hp;obtain rfl:=bh hp;rw [ahd P0];refine ⟨hsz,rInR.d (W8 (k:=Sum.inr (one c)) hd) ⟨_,rfl,?_⟩⟩;rw [dA,z9,decide_eq_true h1];exact iteT q
    .rw [if_neg h1] at hp;cases hp
   | cons e r=>
    rw [iX] at hp;have ec:cutS z (some (pre.length:Int)) (some ((pre.length:Int)+2))=two c e:=uZ (y:=[c,e]) (rest:=r) P0;rw [ec];refine ⟨hsz,rInR.d (W8 (k:=Sum.inr (two c e)) hd) ⟨_,rfl,?_⟩⟩;rw [dA,z9];refine iteD (fun h=>?_) fun h=>⟨hsz,c,ha,rInR.d (W8 (k:=Sum.inr (one c)) hd) ⟨_,rfl,?_⟩⟩
    .rw [if_pos h] at hp;obtain rfl:=bh hp;exact q
    .rw [if_neg h] at hp
     by_cases h1:one c∈g
     .rw [if_pos h1] at hp;obtain rfl:=bh hp;rw [dA,z9,decide_eq_true h1];exact iteT ⟨hsz,c,ha,q⟩
     .rw [if_neg h1] at hp;cases hp
theorem an3:FnScope zBa zAe (B5 s_cut):=E7
theorem an4(F:FunD K "cut" "cut" s_cut f fd)(T:Txt P w K mg C ae)(G_part_at:FO P w K mg base 3 "part_at" zAv [] alx):FnOk P w K mg base D1 4 f fd zAe (pX K):=by
 refine F.ok an3 ?_ ?_
 .walk_at "ln"
 .intro cdv A outer s H vs Q E hr h;have hZ:=E6 an3;refine ⟨_,QSs.out (A5 (C5 3 (qe_cT (akU (K:=K) (calm:=true)) T.b_dict akH (C3 (V4  (P8:CompOk zBa (B5 s_cut).names _ ["piece"] 1 []) (N0 (K:=K) (qz 0)) (fun _ _ _ _ _=>N9 (n:=0) (show List.Nodup (["piece"]:Ab) by decide +kernel) rfl (Or.inl rfl)) (fun _ _ _ _ _=>Y5) (fun _ _ _ _ _=>(Q3 (K8 (F9 0) qe_bl)))))))
   (A5 (C5 4 (O9 R9))
   (A5 (C5 5 A2)
   (A5 (lF bd.never (D6 q_lt (qz 5) (W0 (K:=K) T.b_len (qz 1))) (A5 (C5 6 (E4 G_part_at (dB (qz 3) (qz 1) (qz 5) (qz 2))))
   (A5 (U9 (K:=K) (qz 4) (qz 6))
   (A6 (qaz 5 (W0 (K:=K) T.b_len (qz 6)) anG)))))
   (A6 (C9 (qz 4))))))),?_⟩
  obtain ⟨a,z,ks,w,rfl,hS,W2,hz,hw,q⟩:=h;walk_at "rd";refine ⟨⟨_,hS⟩,compL (xs:=ks.map V.str) [] rfl (fun D i ys H4=>∃ ts:Ai,ys=ts.map V.ref/\Paired (fun t k=>H4 t=some (.tup [V.str k,V.bl true])) ts (ks.take i)/\Same H H4) (fun D nD=>⟨[],rfl,.nil,Same.new nD⟩) (by rintro D i ys H4 nD _ ⟨_,_,_,S⟩;exact S.seq hS) ?_ ?_⟩
  .rintro D i x ys H4 nD hi hx ⟨ts,rfl,P,S⟩ hD hy;obtain ⟨k,hk,rfl⟩:=G8 hx;rw [A3] at hi;walk_at "rd";refine ⟨by decide,fun t nt=>⟨A7 hD nt,G4 (by lia),CW.put (by rw [A3];exact hi) hy ⟨ts++[t],by rw [D0];rfl,?_,Same.put (fun b o h=>A7 (S b o h) nt) nD⟩⟩⟩;have hDt:D≠t:=fun e=>by rw [e,nt] at hD;cases hD
   rw [V7,hk,eQ];refine Paired.snoc (L7 P fun r k h=>?_) (by rw [A4 hDt.symm,A1]);rw [A4 (fun e=>by rw [e,hD] at h;cases h)];exact A7 h nt
  rintro D ys H4 nD ⟨ts,rfl,P,S⟩ hD hy;rw [A3,K5] at P;have P2:Paired (fun t (kx:B1×V)=>C7 K H4 t [kV kx.1,kx.2]) ts (kvOf ks):=by
   clear hD hy nD S W2 hS q hw
   induction P with
   | nil=>exact .nil
   | cons h t ih=>exact .cons (.of h) ih
  refine ⟨rfl,D,ts,kvOf ks,rfl,.of hD,P2,fun d nd=>?_⟩;rw [show Y3 [] (kvOf ks)=kvOf (G7 [] ks) from afG ks []];have S1:Same H (A0 H4 d (.dK (kvOf (G7 [] ks)))):=fun b o h=>A7 (S b o h) nd
  have hd:A0 H4 d (.dK (kvOf (G7 [] ks))) d=some (.dK (kvOf (G7 [] ks))):=A1;generalize A0 H4 d (.dK (kvOf (G7 [] ks)))=H5 at S1 hd;have zC:∀ l,cutF w (G7 [] ks) l=cutF w ks l:=ajG fun x=>by rw [u7];simp
  generalize G7 [] ks=g at hd zC;refine fun p np=>lI (fun m Y H6=>∃ (pre rest:An) (ps:Ab) (u:Ap),Y=[some (.ref a),some (.str z),some (.bl w),some (.ref d),some (.ref p),some (.int pre.length),u]/\Same H5 H6/\H6 p=some (.lst (ps.map V.str))/\z.cps.toList=pre++rest/\(cutF w g z.cps.toList).1=pre.length+(cutF w g rest).1/\(cutF w g z.cps.toList).2=ps++(cutF w g rest).2/\ps.length<=pre.length/\m=rest.length) z.cps.toList.length
   ⟨[],z.cps.toList,[],none,rfl,Same.new np,A1,rfl,by simp,rfl,J7 _,rfl⟩ ?_
  rintro m Y H6 ⟨pre,rest,ps,u,rfl,S6,h6,P0,nO,Y8,g4,rfl⟩;have A9:z.length=pre.length+rest.length:=by
   have:=congrArg X8 P0
   simp [Str.length] at this ⊢
   lia
  walk_at "rd";refine ⟨O2 (by lia),iteD (fun C4=>?_) fun qW=>?_⟩
  .cases rest with
   | nil=>simp at A9;lia
   | cons c r=>
    cases hy:partF w g (c::r) with
    | none=>
     exfalso
     rw [lU hy] at nO;have zD:=hw;unfold bN at zD;rw [<- zC,nO] at zD;simp at A9 zD;lia
    | some y=>
     refine ⟨_,fun _ _ h=>h,d,z,g,pre,c,r,w,y,rfl,S6 _ _ hd,hz,P0,hy,?_⟩;obtain ⟨rest',e1,e2,e3⟩:=iY hy;rw [e2] at nO Y8;have el:y.cps.toList.length=y.length:=by simp [Str.length]
     have erl:(c::r).length=y.length+rest'.length:=by rw [e1,C6,el]
     refine ⟨M7 h6,appOk h6 (by rw [A3];exact G4 (by lia)) ?_⟩;walk_at "rd";refine ⟨O2 (by lia),rest'.length,by rw [E5] at erl;lia,pre++y.cps.toList,by rw [C6,el];lia,S6.put np,rest',ps++[y],by rw [A1,D0];rfl,P0.trans (by rw [R8];exact congrArg (pre++·) e1),by rw [C6,el,nO];dsimp only;lia,by rw [Y8,R8];rfl,by rw [C6,C6,el,V2];lia,rfl⟩
  .have hr:rest=[]:=aV.mp (by lia);rw [hr] at nO Y8;refine q p H6 (S1.free np) (S1.trans S6) ?_;rw [h6,<- zC,Y8];show some (HO.lst (ps.map V.str))=some (HO.lst ((ps++[]).map V.str));rw [L5]
theorem acN:FnScope zA2 zA2 (B5 vX):=E7
theorem afl(F:FunD K "known" "Order.known" vX f fd)(T:Txt P w K mg C ae):FnOk P w K mg base D1 1 f fd zA2 (aiV C):=by
 refine F.ok acN ?_ ?_
 .walk_at "ln"
 .intro cdv A outer s H vs Q E hr h;have hZ:=E6 acN;refine ⟨_,QSs.out (A6 (C9 (qe_cT (bL (K:=K) (calm:=true)) T.b_list bH (C3 (U7 (K:=K) (qz 0)))))),?_⟩;obtain ⟨x,j,ll,ml,md,g,R,L,M,rfl,hO,q⟩:=h;obtain ⟨dx,h1⟩:=hO.ob;walk_at "rd";refine ⟨_,_,_,h1,T.cl,T.na_jobs,_,ag5 _ _ _ _ _ _,?_⟩;walk_at "rd";refine rListR.d (.of hO.jobs) fun l nl=>?_
  rw [show (A8 (keysP (E3 R)++k4 R) (jobG g)).map (fun kv=>kV kv.1)=(L8 R).map V.str by unfold A8 L8;rw [j3];rfl];exact q l nl
theorem acO:FnScope zA7 zA7 (B5 vY):=E7
theorem afm(F:FunD K "steps" "Order.steps" vY f fd)(T:Txt P w K mg C ae):FnOk P w K mg base D1 1 f fd zA7 (vB C):=by
 refine F.ok acO ?_ ?_
 .walk_at "ln"
 .intro cdv A outer s H vs Q E hr h;have E1:=hu_of hr;have hZ:=E6 acO;refine ⟨_,QSs.out (A6 (C9 (amS E1 (U7 (K:=K) (qz 0)) (qz 1) (Q3 R9)))),?_⟩;obtain ⟨x,j,ll,ml,md,p,g,R,L,M,rfl,hO,q⟩:=h;obtain ⟨dx,h1⟩:=hO.ob;obtain ⟨ad,a1,a2⟩:=hO.made;walk_at "rd";refine ⟨_,_,_,h1,T.cl,T.na_made,_,aly _ _ _ _ _ _,md,rfl,.inl ⟨_,.inl a1⟩,fun e ne=>⟨_,W8 (k:=Sum.inr p) (A7 a1 ne),?_⟩⟩;rw [O3];have S:Same H (A0 H e (.tup [])):=Same.new ne
  by_cases hp:p∈G7 [] (allKs R L M)
  .rw [if_pos hp];exact q _ _ S ((a2 p hp).same S)
  .rw [if_neg hp];refine q _ _ S ⟨[],A1,?_⟩;rw [ajH fun h=>hp ((u7 _ _ _).mpr (.inr h))];exact .nil
theorem ae9:FnScope zA4 zA4 (B5 vZ):=E7
theorem air(F:FunD K "parts_of" "parts_of" vZ f fd)(T:Txt P w K mg C ae)(G3_cut:FO P w K mg base 4 "cut" zAe [] (pX K))(G_Order_known:MO P w K mg base 1 C "known" zA2 (aiV C)):FnOk P w K mg base D1 5 f fd zA4 (aiW C):=by
 refine F.ok ae9 ?_ ?_
 .walk_at "ln"
 .intro cdv A outer s H vs Q E hr h;have hZ:=E6 ae9;refine ⟨_,QSs.out (A6 (C9 (E4 G3_cut (U8 (pO (qz 0) G_Order_known (hm hr)) (qz 1) (U7 (K:=K) (qz 0)))))),?_⟩;obtain ⟨x,j,ll,ml,md,z,g,R,L,M,rfl,hO,hk,hz,hw,q⟩:=h;obtain ⟨dx,h1⟩:=hO.ob;walk_at "rd";refine ⟨_,_,h1,lR _ _ _ _ _ _ (by decide +kernel),x,j,ll,ml,md,g,R,L,M,rfl,hO,fun l nl=>?_⟩;have S:Same H (A0 H l (.lst ((L8 R).map V.str))):=Same.new nl;exact ⟨_,_,_,S _ _ h1,T.cl,T.na_figures,_,ad3 _ _ _ _ _ _,l,z,L8 R,_,rfl,.of A1,hk,hz,hw,fun l2 H2 n2 S2 h2=>q l2 H2 (S.free n2) (S.trans S2) h2⟩
theorem afa:FnScope zAl zAl (B5 wA):=E7
theorem ais(F:FunD K "steps_by" "steps_by" wA f fd)(T:Txt P w K mg C ae)(G_is_figure:FO P w K mg base 1 "is_figure" zA0 [] iT)(G_Order_steps:MO P w K mg base 1 C "steps" zA7 (vB C)):FnOk P w K mg base D1 2 f fd zAl (ahe C):=by
 refine F.ok afa ?_ ?_
 .walk_at "ln"
 .intro cdv A outer s H vs Q E hr h;have hZ:=E6 afa;refine ⟨_,QSs.out (A5 (qs_if (QW.pt (fB (T7 (K:=K) (U7 (K:=K) (qz 0))) (fA (T7 (K:=K) (E4 G_is_figure (C3 (qe_ix (K:=K) (qz 1) A2))))))) (A6 (C9 (Q3 (C3 (Q3 (U8 (eY T.g_FIGURES) (qe_cT asg T.b_int arM (C3 (qz 1))) A2)))))) G5)
   (A6 (C9 (fE (qz 0) G_Order_steps (hm hr) (C3 (qz 1)))))),?_⟩
  obtain ⟨x,j,ll,ml,md,c,r,y,g,R,L,M,rfl,hy,R3,hO,hf,q⟩:=h;obtain ⟨dx,h1⟩:=hO.ob;have zE:y.cps.toList.headD 0=c:=by rw [hy];rfl
  walk_at "rd";refine ⟨_,_,_,h1,T.cl,T.na_figures,_,ad3 _ _ _ _ _ _,?_⟩;walk_at "rd";have fin:stepY R L M y=stepF R L M y->∃ x_5 x_6,H x=some (HO.ins C x_5 x_6)/\cH (ai "steps") x_6=none/\vB C [V.ref x,V.str y] H Q E0:=fun e=>⟨_,_,h1,lR _ _ _ _ _ _ (by decide +kernel),x,j,ll,ml,md,y,g,R,L,M,rfl,hO,by rw [<- e];exact q⟩
  by_cases hw:hasW R "figures"=true
  .rw [if_pos hw];refine ⟨O2 (by lia),c,by rw [hy];exact O5 _ _,c,rfl,?_⟩
   by_cases hc:figO c=true
   .have hsy:stepY R L M y=[(1,((kR y.cps.toList:Nat):Int),0)]:=by unfold stepY;rw [hw,zE,hc];rfl
    have hAD:=hf hw (by rw [zE];exact hc);rw [hc];walk_at "rd";refine ⟨hAD,by rw [<- lenL,hy];simp,R3,by decide,fun p np=>⟨by decide,fun p1 V1=>?_⟩⟩;refine q p1 _ ((Same.new np).trans (Same.new V1)) ?_;rw [hsy];exact StepAt.one A1 (A7 A1 V1)
   .rw [kM] at hc;rw [hc];walk_at "rd";exact fin (by unfold stepY;rw [zE,hc,Bool.and_false,if_neg L9])
  .rw [if_neg hw];rw [kM] at hw;exact fin (by rw [vC hw])
theorem afb:FnScope zAm zAm (B5 wB):=E7
theorem ait(F:FunD K "add_mark" "add_mark" wB f fd)(T:Txt P w K mg C ae):FnOk P w K mg base D1 1 f fd zAm (ahf K):=by
 refine F.ok afb ?_ ?_
 .walk_at "ln"
 .intro cdv A outer s H vs Q E hr h;have hu:=hr.units;have hZ:=E6 afb;refine ⟨_,QSs.out (Y6 (qs_if (eZ (T7 (K:=K) (qz 0))) (A6 (U9 (K:=K) (qz 0) (Q3 (dB (eY T.g_MARK) A2 (O9 R9) A2)))) G5)
   (A6 (U9 (K:=K) (qe_ix (K:=K) (qe_ix (K:=K) (qz 0) (qe_un q_neg A2)) A2) (qz 1)))),?_⟩
  obtain ⟨l,p,H0,es,U,rfl,J,hU,hM,q⟩:=h;walk_at "rd";refine bM (fun Y H1=>∃ (es':List (ab×ab)) (e:ab×ab) (U':List L1) (u:L1),Y=[some (.ref l),some (.int p)]/\UnI H0 H1 l (es'++[e]) (U'++[u])/\addM U p=U'++[(u.1,u.2.1,u.2.2.1++[p],u.2.2.2)]/\u.2.2.1.length<=10000) ?_ ?_
  .walk_at "rd";refine ⟨_,fD J.top,?_⟩
   by_cases he:es=[]
   .subst he;have hU0:=ajK J.row;subst hU0;simp only [j0,List.isEmpty_nil,Bool.not_true,Bool.not_false,if_true];refine ⟨M7 J.top,fun m nm=>⟨by decide,fun t nt=>appOk ((Same.new nm).trans (Same.new nt) _ _ J.top) (by decide) ⟨[],(t,m),[],(0,0,[],0),?_,rfl,by decide⟩⟩⟩;exact J.push nm nt
   .obtain ⟨es',e,rfl⟩:=vF he;have hUn:U≠[]:=fun h=>by subst h;have:=Paired.length J.row;simp at this
    obtain ⟨U',u,rfl⟩:=vF hUn;have G0:((es'++[e]).map fun e=>V.ref e.1).isEmpty=false:=by simp
    rw [G0];simp only [Bool.not_false,Bool.not_true,Bool.false_eq_true,if_false];refine ⟨es',e,U',u,J,?_,hM u (by simp)⟩;unfold addM;rw [oK,oI]
    simp
  rintro Y H1 ⟨es',e,U',u,rfl,J1,ea,hul⟩;obtain ⟨hr,hu⟩:=tW J1.row;have O6:K6 ((es'++[e]).map fun e=>V.ref e.1) (-1)=some (V.ref e.1):=by rw [D0];exact sY _ _
  walk_at "rd";refine ⟨_,.inl (.of J1.top),_,O6,?_⟩;walk_at "rd";refine ⟨_,.inr (.of hu.1),V.ref e.2,M6 (j:=2) rfl,M7 hu.2,appOk hu.2 (by rw [A3];exact G4 (by lia)) ?_⟩;refine q (es'++[e]) _ ?_;rw [ea];exact J1.mark p
theorem afc:FnScope ["order", "made", "part", "kind", "worth", "case"] zAw (B5 wC):=E7
theorem aiu(F:FunD K "add_part" "add_part" wC f fd)(T:Txt P w K mg C ae)(G_steps_by:FO P w K mg base 2 "steps_by" zAl [] (ahe C))(G_add_mark:FO P w K mg base 1 "add_mark" zAm [] (ahf K)):FnOk P w K mg base D1 3 f fd zAw (ahg C):=by
 refine F.ok afc ?_ ?_
 .walk_at "ln"
 .intro cdv A outer s H vs Q E hr h;have hu:=hr.units;have hZ:=E6 afc;refine ⟨_,QSs.out (A6 (N8 bd.never (cW (K:=K) (E4 G_steps_by (K8 (qz 0) (qz 2)))) (bK (K:=K) (n:=3) (T8 ((K7 3)) (T8 ((K7 4)) (T8 ((K7 5)) bJ)))) (A6 (qs_if (D6 (q_eq (K:=K) hu) (qz 3) (eY T.g_MARK)) (A6 (Z9 (E4 G_add_mark (K8 (qz 1) (qz 4))))) (A6 (U9 (K:=K) (qz 1) (Q3 (dB (qz 3) (qz 4) (O9 R9) (qz 5))))))))),?_⟩;obtain ⟨x,l,j,ll,ml,md,c,r,y,g,R,L,M,H0,es,U,rfl,hy,R3,hO,hf,J,hs,hU,hM,q⟩:=h;walk_at "rd";refine ⟨x,j,ll,ml,md,c,r,y,g,R,L,M,rfl,hy,R3,hO.same J.same,hf,fun a H1 S1 T9=>?_⟩;obtain ⟨ts,e1,e2⟩:=T9.ex;obtain ⟨H0',B0,J0,tp⟩:=(J.more S1).cut;have e1':=tp _ _ e1;have e2':=L7 e2 fun t s (e:H1 t=some (tupT s))=>(show H0' t=some (tupT s) from tp _ _ e)
  generalize stepY R L M y=ss at hs e2 e2' q;refine ⟨a,rfl,⟨_,.of e1⟩,forT (xs:=ts.map V.ref) (fun i Y H2=>∃ (u v w:Ap) (es:List (ab×ab)),Y=[some (.ref x),some (.ref l),some (.str y),u,v,w]/\UnI H0' H2 l es ((ss.take i).foldl addS U)) ⟨none,none,none,es,rfl,J0⟩ (by rintro i Y H2 _ ⟨_,_,_,_,_,h⟩;exact .of (h.same _ _ e1')) ?_ ?_⟩
  .rintro i v Y H2 hv ⟨u1,u2,u3,es,rfl,J2⟩;obtain ⟨t,ht,rfl⟩:=G8 hv;obtain ⟨s',qU,hts⟩:=Paired.at e2' ht;have hi:i<ss.length:=(F8.mp qU).1;have W1:=vD (ss.take i) U;have fZ:=vE (ss.take i) U 9000 hM;rw [G9] at W1 fZ;have et:(ss.take (i+1)).foldl addS U=addS ((ss.take i).foldl addS U) s':=by rw [L0 qU,Z0];rfl
   have htt:C7 K H2 t [V.int s'.1,V.int s'.2.1,V.int s'.2.2]:=.of (J2.same _ _ hts);walk_at "rd";refine ⟨_,htt,rfl,_,_,rfl,_,_,rfl,_,_,rfl,rfl,?_⟩;walk_at "rd";rw [et];generalize (ss.take i).foldl addS U=U2 at J2 W1 fZ;refine iteD (fun e=>⟨l,s'.2.1,H0',es,U2,rfl,J2,by lia,fun u hu=>by have:=fZ u hu;lia,fun es' H3 J3=>?_⟩) fun e=>⟨M7 J2.top,fun m nm=>⟨by decide,fun t2 x5=>appOk ((Same.new nm).trans (Same.new x5) _ _ J2.top) (by rw [A3,Paired.length J2.row];exact G4 (by lia)) ?_⟩⟩
   .unfold addS;rw [if_pos e];exact ⟨es',J3⟩
   .unfold addS;rw [if_neg e];exact ⟨_,J2.push nm x5⟩
  rintro Y H2 ⟨u1,u2,u3,es,rfl,J2⟩;rw [A3,Paired.length e2,K5] at J2;exact q es H2 (J2.base B0)
theorem ajg:FnScope zBb zA4 (B5 qC):=E7
theorem anu(F:FunD K "units" "units" qC f fd)(T:Txt P w K mg C ae)(G_parts_of:FO P w K mg base 5 "parts_of" zA4 [] (aiW C))(G_add_part:FO P w K mg base 3 "add_part" zAw [] (ahg C)):FnOk P w K mg base D1 6 f fd zA4 (alz C):=by
 refine F.ok ajg ?_ ?_
 .walk_at "ln"
 .intro cdv A outer s H vs Q E hr h;have E1:=hu_of hr;have hZ:=E6 ajg;refine ⟨_,QSs.out (A5 (C5 2 (O9 R9))
   (A5 (N8 bd.never (N0 (K:=K) (E4 G_parts_of (K8 (qz 0) (qz 1)))) (K7 3) (A6 (Z9 (E4 G_add_part (U8 (qz 0) (qz 2) (qz 3))))))
   (A6 (C9 (V4  (P8:CompOk zBb (B5 qC).names _ zAf 4 []) (N0 (K:=K) (qz 2)) (fun _ _ _ _ _=>(bK (K:=K) (n:=4) (T8 (N9 (n:=0) (show List.Nodup (zAf:Ab) by decide +kernel) rfl (Or.inl rfl)) (T8 (N9 (n:=1) (show List.Nodup (zAf:Ab) by decide +kernel) rfl (Or.inl rfl)) (T8 (N9 (n:=2) (show List.Nodup (zAf:Ab) by decide +kernel) rfl (Or.inl rfl)) (T8 (N9 (n:=3) (show List.Nodup (zAf:Ab) by decide +kernel) rfl (Or.inl rfl)) bJ)))))) (fun _ _ _ _ _=>Y5) (fun _ _ _ _ _=>(Q3 (dB (F9 0) (F9 1) (qe_cT (cX (K:=K)) T.b_tuple cT (C3 (F9 2))) (F9 3))))))))),?_⟩
  obtain ⟨x,j,ll,ml,md,z,g,R,L,M,rfl,hO,hk,hz,hw,hs,q⟩:=h;have hf:=aiX (w:=hasW R "figures") (g:=L8 R) _ z.cps.toList (C1 _);have G0:=alA (w:=hasW R "figures") (g:=L8 R) _ z.cps.toList (C1 _);have rM:=(vA (w:=hasW R "figures") (g:=L8 R) _ z.cps.toList (C1 _)).2.1;rw [lenL] at rM;have x6:=ahi (w:=hasW R "figures") (g:=L8 R) _ z.cps.toList (C1 _);rw [lenL] at x6;walk_at "rd";intro l nl;have S1:Same H (A0 H l (.lst [])):=Same.new nl;have V0:A0 H l (.lst []) l=some (.lst []):=A1;generalize A0 H l (.lst [])=H1 at S1 V0;refine ⟨x,j,ll,ml,md,z,g,R,L,M,rfl,hO.same S1,hk,by lia,hw,fun a H2 na S2 ha=>?_⟩;generalize (cutF (hasW R "figures") (L8 R) z.cps.toList).2=ps at ha hf G0 rM x6 q;have nal:a≠l:=fun e=>by rw [e,V0] at na;cases na
  have C0:UnI (cutH H2 [l]) H2 l [] []:=⟨S2 _ _ V0,.nil,by simp,fun b hb=>by unfold cutH;exact if_pos (by simpa using hb),ahh _ _⟩
  have S0:Same H (cutH H2 [l]):=fun b o hb=>by
   unfold cutH;rw [if_neg (fun e=>by rw [J8.mp e,nl] at hb;cases hb)];exact S2 _ _ (S1 _ _ hb)
  have ha0:cutH H2 [l] a=some (.lst (ps.map V.str)):=by
   unfold cutH;rw [if_neg (fun e=>nal (J8.mp e))];exact ha
  have hO0:=hO.same S0;generalize cutH H2 [l]=H0 at C0 S0 ha0 hO0;refine ⟨a,rfl,⟨_,.of ha⟩,forLs (xs:=ps.map V.str) (fun i Y H3=>∃ (u:Ap) (es:List (ab×ab)),Y=[some (.ref x),some (.str z),some (.ref l),u]/\UnI H0 H3 l es (Q5 (stepY R L M) (ps.take i))) ⟨none,[],rfl,C0⟩ (by rintro i Y H3 _ ⟨_,_,_,h⟩;exact .of (h.same _ _ ha0)) ?_ ?_⟩
  .rintro P' Bk hP i v Y H3 hv ⟨u,es,rfl,J⟩;obtain ⟨y,hy,rfl⟩:=G8 hv;have hi:i<ps.length:=(F8.mp hy).1;have zF:=K2 hy;obtain ⟨E1,jH⟩:=vH (S:=stepY R L M) hs (ps.take i);rw [G9] at E1 jH;obtain ⟨c,r,nP⟩:∃ c r,y.cps.toList=c::r:=by
    have:=G0 y zF
    rw [<- lenL] at this;cases e:y.cps.toList with
    | nil=>rw [e] at this;simp at this
    | cons c r=>exact ⟨c,r,rfl⟩
   have R3:y.length<=640:=by have:=x6 y zF;lia
   walk_at "rd";refine ⟨x,l,j,ll,ml,md,c,r,y,g,R,L,M,H0,es,_,rfl,nP,R3,hO0,hf y zF,J,by have:=hs y;lia,by lia,fun v hv=>by have:=jH v hv;lia,fun es' H4 J4=>?_⟩;rw [<- aib hy] at J4;exact hP _ _ _ ⟨_,es',rfl,J4⟩
  rintro Y H3 ⟨u,es,rfl,J⟩;rw [A3,K5] at J;obtain ⟨E1,jH⟩:=vH (S:=stepY R L M) hs ps;have b8:=Paired.length J.row;generalize Q5 (stepY R L M) ps=U at J E1 jH b8 q;walk_at "rd";refine ⟨⟨_,.of J.top⟩,asn (xs:=es.map fun e=>V.ref e.1) [] rfl (fun D i ys H4=>∃ fs:List (ab×ab),ys=fs.map (fun e=>V.ref e.1)/\Same H3 H4/\Paired (fun e (u:L1)=>H4 e.1=some (.tup [.int u.1,.int u.2.1,.ref e.2,.int u.2.2.2])/\H4 e.2=some (.tup (u.2.2.1.map V.int))) fs (U.take i)) (fun D nD=>⟨[],rfl,Same.new nD,.nil⟩) (by rintro D i ys H4 nD _ ⟨_,_,S,_⟩;exact .of (S _ _ J.top)) ?_ ?_⟩
  .rintro D i v ys H4 nD hi hv ⟨fs,rfl,S4,P⟩ hD R3;obtain ⟨e,he,rfl⟩:=G8 hv;obtain ⟨w,hw,dP⟩:=Paired.at J.row he;have bX:fs.length<=7500:=by
    have:=Paired.length P
    rw [G9] at this;lia
   refine ⟨e.1,_,_,_,_,rfl,.of (S4 _ _ dP.1),?_⟩;walk_at "rd";refine rTupR.l (.of (S4 _ _ dP.2)) fun m nm=>⟨by decide,fun t nt=>?_⟩
   have S5:Same H4 (A0 (A0 H4 m (.tup (w.2.2.1.map V.int))) t (.tup [V.int w.1,V.int w.2.1,V.ref m,V.int w.2.2.2])):=(Same.new nm).trans (Same.new nt);have zG:A0 (A0 H4 m (.tup (w.2.2.1.map V.int))) t (.tup [V.int w.1,V.int w.2.1,V.ref m,V.int w.2.2.2]) m=some (.tup (w.2.2.1.map V.int)):=A7 A1 nt;have zH:A0 (A0 H4 m (.tup (w.2.2.1.map V.int))) t (.tup [V.int w.1,V.int w.2.1,V.ref m,V.int w.2.2.2]) t=some (.tup [V.int w.1,V.int w.2.1,V.ref m,V.int w.2.2.2]):=A1;generalize A0 (A0 H4 m (.tup (w.2.2.1.map V.int))) t (.tup [V.int w.1,V.int w.2.1,V.ref m,V.int w.2.2.2])=H5 at S5 zG zH;have hD5:=S5 _ _ hD;have dn:∀ {b:ab} {xs:Ao},H5 b=some (.tup xs)->b≠D:=fun h q=>by rw [q,hD5] at h;cases h
   refine ⟨hD5,by rw [A3];exact G4 (by lia),hi,by rw [C6,V2];lia,⟨_,_,_,_,rfl⟩,fs++[(t,m)],by rw [D0];rfl,(S4.trans S5).put nD,?_⟩;rw [L0 hw];refine Paired.snoc (L7 P fun f w h=>⟨?_,?_⟩) ⟨?_,?_⟩
   .rw [A4 (dn (S5 _ _ h.1))];exact S5 _ _ h.1
   .rw [A4 (dn (S5 _ _ h.2))];exact S5 _ _ h.2
   .rw [A4 (dn zH)];exact zH
   .rw [A4 (dn zG)];exact zG
  rintro D ys H4 nD ⟨fs,rfl,S4,P⟩ hD R3;rw [A3,b8,K5] at P;have SS:Same H H3:=S0.trans J.same;exact q D H4 (SS.free nD) (SS.trans S4) ⟨fs,hD,P⟩
theorem ad8:FnScope ["things", "places", "place", "thing"] ["things"] (B5 wD):=E7
theorem ahB(F:FunD K "places_of" "places_of" wD f fd)(T:Txt P w K mg C ae):FnOk P w K mg base D1 1 f fd ["things"] aiZ:=by
 refine F.ok ad8 ?_ ?_
 .walk_at "ln"
 .intro cdv A outer s H vs Q E hr h;have E1:=hu_of hr;have hZ:=E6 ad8;refine ⟨_,QSs.out (A5 (C5 1 t8)
   (A5 (N8 bd.never (lM T.b_enumerate (C3 (qz 0))) (bK (K:=K) (n:=2) (T8 ((K7 2)) (T8 ((K7 3)) bJ))) (A6 (f8 E1 (qz 1) (qz 3) (qz 2))))
   (A6 (C9 (qz 1))))),?_⟩
  obtain ⟨b,ys,rfl,hb,hy,hl,q⟩:=h;walk_at "rd";intro d nd;refine ⟨⟨_,A7 hb nd⟩,forE (xs:=ys.map V.str) (fun i Y H2=>∃ (u v:Ap),Y=[some (.ref b),some (.ref d),u,v]/\Same H H2/\H2 d=some (.dK (A8 (ys.take i) fun t=>.int (E8 ys t:Nat)))) ⟨none,none,rfl,Same.new nd,by rw [A1];rfl⟩ (by rintro i Y H2 ⟨_,_,_,S,_⟩;exact S _ _ hb) ?_ ?_⟩
  .rintro i x t Y H2 hx ⟨u,v,rfl,S,hd⟩ nt;obtain ⟨z,hz,rfl⟩:=G8 hx;walk_at "rd";refine ⟨_,.of A1,rfl,_,_,rfl,_,_,rfl,rfl,_,j8 (k:=Sum.inr z) (A7 hd nt) (by rw [b0,G9];exact G4 (by lia)),Same.put (fun b u h=>A7 (S b u h) nt) nd,?_⟩;rw [A1,u6 _ (iP hy hz),L0 hz];refine congrArg (fun x=>some (HO.dK x)) (T0 fun q hq=>?_)
   by_cases e:q=z
   .rw [if_pos e,e,asr hy hz]
   .rw [if_neg e]
  .rintro Y H2 ⟨u,v,rfl,S,hd⟩;rw [A3,K5] at hd;walk_at "rd";exact q d H2 nd S hd
theorem ad9:FnScope ["groups", "places", "thing", "at", "group"] zAx (B5 wE):=E7
theorem ahC(F:FunD K "group_for" "group_for" wE f fd)(T:Txt P w K mg C ae):FnOk P w K mg base D1 1 f fd zAx spGrp:=by
 refine F.ok ad9 ?_ ?_
 .walk_at "ln"
 .intro cdv A outer s H vs Q E hr h;have E1:=hu_of hr;have hZ:=E6 ad9;refine ⟨_,QSs.out (A5 (N8 bd.never (lM T.b_enumerate (C3 (qz 0))) (bK (K:=K) (n:=2) (T8 ((K7 3)) (T8 ((K7 4)) bJ))) (A6 (qs_if (D6 q_gt (Y4 E1 (qz 1) (qe_ix (K:=K) (qz 4) (qe_un q_neg A2))) (Y4 E1 (qz 1) (qz 2))) (A6 (C9 (qz 3))) G5)))
   (A6 (C9 (W0 (K:=K) T.b_len (qz 0))))),?_⟩
  obtain ⟨g,d,t,rs,gs,dom,pos,rfl,R,hd,hg,ht,q⟩:=h;walk_at "rd";refine ⟨⟨_,R.top⟩,forE (xs:=rs.map V.ref) (fun i Y H2=>∃ (u v:Ap),Y=[some (.ref g),some (.ref d),some (.str t),u,v]/\Same H H2/\grpAt pos gs t=i+grpAt pos (gs.drop i) t) ⟨none,none,rfl,Same.refl H,by simp⟩ (by rintro i Y H2 ⟨_,_,_,S,_⟩;exact S _ _ R.top) ?_ ?_⟩
  .rintro i x tt Y H2 hx ⟨u,v,rfl,S,hi⟩ nt;obtain ⟨r,hr,rfl⟩:=G8 hx;obtain ⟨gr,dQ,C8⟩:=Paired.at R.row hr;have hgm:=K2 dQ;obtain ⟨u0,h1,h2,h3⟩:=qI (pos:=pos) (hg gr hgm).1;have S2:Same H (A0 H2 tt (.tup [.int i,.ref r])):=S.trans (Same.new nt);have hdr:gs.drop i=gr::gs.drop (i+1):=by
    obtain ⟨C4,rfl⟩:=F8.mp dQ;rw [aU C4]
   have l8:grpAt pos gs t=i+bif decide (pos t<pos u0) then 0 else grpAt pos (gs.drop (i+1)) t+1:=by
    rw [hi,hdr];unfold grpAt;rw [List.findIdx_cons,h3]
   walk_at "rd";refine ⟨_,.of A1,rfl,_,_,rfl,_,_,rfl,rfl,?_⟩;walk_at "rd";refine ⟨_,.inl (.of (S2 _ _ C8)),V.str u0,xB h1,V.int (pos u0:Nat),.inl ⟨_,Sum.inr u0,.inl (S2 _ _ hd),rfl,by rw [O3,if_pos ((hg gr hgm).2 u0 h2)]⟩,V.int (pos t:Nat),.inl ⟨_,Sum.inr t,.inl (S2 _ _ hd),rfl,by rw [O3,if_pos ht]⟩,_,rfl,?_⟩;refine iteD (fun C4=>?_) fun hn=>⟨S2,?_⟩
   .have e:grpAt pos gs t=i:=by rw [l8,decide_eq_true (by lia)];rfl
    have:=q _ S2
    rw [e] at this;exact this
   .rw [l8,decide_eq_false (by lia)];show i+(grpAt pos (gs.drop (i+1)) t+1)=_;lia
  .rintro Y H2 ⟨u,v,rfl,S,hi⟩;rw [A3,show rs.length=gs.length from Paired.length R.row,List.drop_length] at hi;walk_at "rd";refine ⟨rs.length,.inl ⟨_,.of (S _ _ R.top),by rw [A3]⟩,?_⟩;have e:grpAt pos gs t=gs.length:=by rw [hi];rfl
   have:=q H2 S
   rw [e,<- show rs.length=gs.length from Paired.length R.row] at this;exact this
theorem aea:FnScope ["one", "other", "places", "groups", "ahead", "thing", "at", "kept", "last"] zAa (B5 wF):=E7
theorem ahD(F:FunD K "kept_most" "kept_most" wF f fd)(T:Txt P w K mg C ae)(G_places_of:FO P w K mg base 1 "places_of" ["things"] [] aiZ)(G_group_for:FO P w K mg base 1 "group_for" zAx [] spGrp):FnOk P w K mg base D1 2 f fd zAa anS:=by
 refine F.ok aea ?_ ?_
 .walk_at "ln"
 .intro cdv A outer s H vs Q E hr h;have E1:=hu_of hr;have hu:=hr.units;have hZ:=E6 aea;refine ⟨_,QSs.out (A5 (C5 2 (E4 G_places_of (C3 (qz 1))))
   (A5 (C5 3 (O9 R9))
   (A5 (C5 4 t8)
   (A5 (N8 bd.never (N0 (K:=K) (qz 0)) (K7 5) (A5 (C5 6 (E4 G_group_for (U8 (qz 3) (qz 2) (qz 5))))
   (Y6 (qs_if (D6 (q_eq (K:=K) hu) (qz 6) (W0 (K:=K) T.b_len (qz 3))) (A6 (U9 (K:=K) (qz 3) (O9 R9))) G5)
   (A5 (f8 E1 (qz 4) (qz 5) (iK (D6 q_gt (qz 6) A2) (qe_ix (K:=K) (qe_ix (K:=K) (qz 3) (qe_op q_sub (qz 6) A2)) (qe_un q_neg A2)) bI))
   (A6 (U9 (K:=K) (qe_ix (K:=K) (qz 3) (qz 6)) (qz 5)))))))
   (A5 (C5 7 (O9 R9))
   (A5 (C5 8 (iK (T7 (K:=K) (qz 3)) (qe_ix (K:=K) (qe_ix (K:=K) (qz 3) (qe_un q_neg A2)) (qe_un q_neg A2)) bI))
   (A5 (lF bd.never (D6 tY (qz 8) bI) (A5 (U9 (K:=K) (qz 7) (qz 8))
   (A6 (C5 8 (Y4 E1 (qz 4) (qz 8))))))
   (A5 (Z9 (qe_m0 (K:=K) q0 kQ kP lG (qz 7)))
   (A6 (C9 (Q3 (K8 (qz 7) (qz 3))))))))))))),?_⟩
  obtain ⟨a,b,xs,ys,rfl,ha,hb,rN,nE,L3,yM,hly,q⟩:=h;walk_at "rd";refine ⟨b,ys,rfl,hb,nE,hly,fun d H1 nd S1 hd=>?_⟩
  try walk_at "rd"
  intro g ng e ne;have ngH:H g=none:=S1.free ng;have S2:Same H1 (A0 (A0 H1 g (.lst [])) e (.dK [])):=(Same.new ng).trans (Same.new ne);have qW:g≠e:=fun w=>by rw [<- w,A1] at ne;cases ne
  have neH:H e=none:=(S1.trans (Same.new ng)).free ne;have T4:=S2 _ _ hd;have hde:d≠e:=fun w=>by rw [<- w] at ne;rw [A7 hd ng] at ne;cases ne
  have hg2:A0 (A0 H1 g (.lst [])) e (.dK []) g=some (.lst []):=by rw [A4 qW,A1]
  have zI:A0 (A0 H1 g (.lst [])) e (.dK []) e=some (.dK []):=A1;generalize A0 (A0 H1 g (.lst [])) e (.dK [])=H2 at S2 T4 hg2 zI;have X2:=S1.trans S2;refine ⟨⟨_,.of (X2 _ _ ha)⟩,forL (xs:=xs.map V.str) (fun i Y H3=>∃ (u v:Ap) (rs:Ai) (ah:Str->Option Str),Y=[some (.ref a),some (.ref b),some (.ref d),some (.ref g),some (.ref e),u,v,none,none]/\RowsAt H H3 g rs (grps (E8 ys) (xs.take i))/\H3 d=some (.dK (A8 ys fun t=>.int (E8 ys t:Nat)))/\H3 e=some (.dK (A8 (xs.take i) fun t=>orNon (ah t)))/\GI (E8 ys) (xs.take i) (grps (E8 ys) (xs.take i)) ah)
   ⟨none,none,[],fun _=>none,rfl,⟨⟨hg2,.nil⟩,by simp,fun r hr=>by rw [J8.mp hr];exact ngH,X2⟩,T4,zI,GI.nil _ _⟩ (by rintro i Y H3 _ ⟨_,_,_,_,_,R,_⟩;exact .of (R.same _ _ ha)) ?_ ?_⟩
  .rintro i x Y H3 hx ⟨u,v,rs,ah,rfl,R,R1,jS,G⟩;obtain ⟨z,hz,rfl⟩:=G8 hx;have zJ:z∉xs.take i:=iP rN hz;have hzx:z∈xs:=K2 hz;have hzy:=L3 z hzx;have hi:i<xs.length:=(F8.mp hz).1;have hgl:(grps (E8 ys) (xs.take i)).length<=i:=by
    have h1:∀ gs:Aa,(∀ g∈gs,g≠[])->gs.length<=gs.flatten.length:=by
     intro gs
     induction gs with
     | nil=>simp
     | cons g gs ih=>
      intro h
      have:=ih fun y hy=>h y (G6 _ hy)
      have h2:=y7.mpr (h g G3);rw [p6,C6,E5];lia
    have:=h1 _ fun gr dQ=>by
     obtain ⟨k,hk⟩:=m6.mp dQ;exact (G.grp k gr hk).1
    rw [G.perm.length_eq,G9] at this;lia
   have gI:rs.length=(grps (E8 ys) (xs.take i)).length:=Paired.length R.rows.row;walk_at "rd";refine ⟨g,d,z,rs,_,ys,E8 ys,rfl,R.rows,R1,fun gr dQ=>?_,hzy,fun H4 S4=>?_⟩
   .obtain ⟨k,hk⟩:=m6.mp dQ
    have:=G.grp k gr hk
    exact ⟨this.1,fun y hy=>L3 y (cD (this.2.2.subset hy))⟩
   have R4:=R.keep S4;have W4:=S4 _ _ R1;have zK:=S4 _ _ jS;have qP:xs.take (i+1)=xs.take i++[z]:=L0 hz;have G':=G.add zJ (fun x hx e=>zJ (by rw [<- aqu (L3 x (cD hx)) hzy e];exact hx));rw [qP,alH];generalize hgs:grps (E8 ys) (xs.take i)=gs at *;generalize O6:grpAt (E8 ys) gs z=at' at *;have qX:at'<=gs.length:=by rw [<- O6];exact wY _ _ _
   refine bM (fun Y H5=>∃ rs',Y=[some (.ref a),some (.ref b),some (.ref d),some (.ref g),some (.ref e),some (.str z),some (.int (at':Nat)),none,none]/\RowsAt H H5 g rs' (if at'=gs.length then gs++[[]] else gs)/\H5 d=some (.dK (A8 ys fun t=>.int (E8 ys t:Nat)))/\H5 e=some (.dK (A8 (xs.take i) fun t=>orNon (ah t)))) ?_ ?_
   .try walk_at "rd"
    refine ⟨rs.length,.inl ⟨_,.of R4.rows.top,by rw [A3]⟩,iteD (fun hc=>?_) fun hc=>?_⟩
    .have o5:at'=gs.length:=by lia
     refine ⟨M7 R4.rows.top,fun p np=>appOk (A7 R4.rows.top np) (by rw [A3];exact G4 (by lia)) ⟨⟨rs++[p],?_⟩,?_,?_⟩⟩
     .rw [if_pos o5];exact R4.add np
     .rw [A4 (fun w=>R4.noDict W4 (by rw [w];exact G3))];exact A7 W4 np
     .rw [A4 (fun w=>R4.noDict zK (by rw [w];exact G3))];exact A7 zK np
    .exact ⟨⟨rs,by rw [if_neg (by lia)];exact R4⟩,W4,zK⟩
   rintro Y H5 ⟨cB,rfl,R5,rE,rO⟩;generalize x8:(if at'=gs.length then gs++[[]] else gs)=zL at R5;have hl5:at'<zL.length:=by
    rw [<- x8]
    split
    .rw [C6,V2];lia
    .lia
   have hrl5:cB.length=zL.length:=Paired.length R5.rows.row;have hl52:zL.length<=gs.length+1:=by
    rw [<- x8]
    split
    .rw [C6,V2];lia
    .lia
   have hr:cB[at']?=some cB[at']:=by simp
   generalize cB[at']=r at hr;obtain ⟨g0,jT,x9⟩:=Paired.at R5.rows.row hr;have R6:=R5.other (v:=.dK (putK (A8 (xs.take i) fun t=>orNon (ah t)) (Sum.inr z) (orNon (o3 gs at')))) (R5.noDict rO) neH;have dR:A0 H5 e (.dK (putK (A8 (xs.take i) fun t=>orNon (ah t)) (Sum.inr z) (orNon (o3 gs at')))) r=some (.lst (g0.map V.str)):=by
    rw [A4 (fun w=>R5.noDict rO (by rw [<- w];exact G6 _ (K2 hr)))];exact x9
   have R7:=R6.modi hr jT z;have hrm:r∈g::cB:=G6 _ (K2 hr);have hg0l:g0.length<=1000:=by
    have h1:(g0++[z]).length<=(addG (E8 ys) gs z).flatten.length:=by
     refine List.Sublist.length_le (List.sublist_flatten_of_mem (K2 (i:=at') ?_));unfold addG;rw [O6,x8,List.getElem?_modify,jT]
     simp
    rw [G'.perm.length_eq,C6,C6,G9] at h1;simp at h1;lia
   have fin:∃ x,DPut H5 e (V.str z) (orNon (o3 gs at')) x/\∃ xs_1,(D9 K x g xs_1\/C7 K x g xs_1)/\∃ x_1,K6 xs_1 (at':Int)=some x_1/\bF K "list" x_1 x/\cR x_1 [V.str z] x fun x H1=>
     (∃ x,RowsAt H H1 g x (addG (E8 ys) gs z))/\H1 d=some (HO.dK (A8 ys fun t=>V.int (E8 ys t:Nat)))/\∃ x,H1 e=some (HO.dK (A8 (List.take i xs++[z]) fun t=>orNon (x t)))/\GI (E8 ys) (List.take i xs++[z]) (addG (E8 ys) gs z) x:=by
    refine ⟨_,j8 (k:=Sum.inr z) rO (by rw [b0,G9];exact G4 (by lia)),_,.inl (.of R6.rows.top),V.ref r,M6 (by rw [U3,hr];rfl),M7 dR,appOk dR (by rw [A3];exact G4 (by lia)) ⟨⟨cB,?_⟩,?_,_,?_,G'⟩⟩
    .unfold addG;rw [O6,x8];exact R7
    .rw [A4 (fun w=>R5.noDict rE (by rw [w];exact hrm)),A4 hde];exact rE
    .rw [A4 (fun w=>R5.noDict rO (by rw [w];exact hrm)),A1,u6 _ zJ];refine congrArg (fun x=>some (HO.dK x)) (T0 fun t _=>?_)
     by_cases w:t=z
     .rw [if_pos w,if_pos w]
     .rw [if_neg w,if_neg w]
   walk_at "rd";refine iteD (fun U1=>?_) fun U1=>?_
   .have C4:at'-1<gs.length:=by lia
    have zM:cB[at'-1]?=some cB[at'-1]:=by simp
    generalize cB[at'-1]=r1 at zM;obtain ⟨g1,nQ,nR⟩:=Paired.at R5.rows.row zM;have nS:gs[at'-1]?=some g1:=by
     rw [<- x8] at nQ
     split at nQ
     .rw [aT C4] at nQ;exact nQ
     .exact nQ
    obtain ⟨u0,h1,h2,h3⟩:=qI (pos:=E8 ys) (G.grp _ g1 nS).1;refine ⟨_,.inl (.of R5.rows.top),V.ref r1,?_,?_⟩
    .rw [show ((at':Nat):Int)-1=((at'-1:Nat):Int) by lia];exact M6 (by rw [U3,zM];rfl)
    walk_at "rd";refine ⟨_,.inl (.of nR),V.str u0,xB h1,?_⟩;have e1:o3 gs at'=some u0:=by
     unfold o3;rw [if_pos (by lia),nS];exact h1
    rw [e1] at fin;exact fin
   .have e1:o3 gs at'=none:=by
     unfold o3;rw [if_neg (by lia)]
    rw [e1] at fin;exact fin
  .rintro Y H3 ⟨u,v,rs,ah,rfl,R,R1,jS,G⟩;rw [A3,K5] at R jS G;generalize hgs:grps (E8 ys) xs=gs at *;walk_at "rd";intro k nk;have gI:rs.length=gs.length:=Paired.length R.rows.row;have nkr:k∉g::rs:=fun hm=>by
    obtain ⟨o,ho⟩:=R.live hm;rw [nk] at ho;cases ho
   have nkH:H k=none:=R.same.free nk;have hke:e≠k:=fun w=>by rw [w,nk] at jS;cases jS
   have hgsl:gs.length<=1000:=by
    have h1:∀ gs:Aa,(∀ g∈gs,g≠[])->gs.length<=gs.flatten.length:=by
     intro gs
     induction gs with
     | nil=>simp
     | cons g gs ih=>
      intro h
      have:=ih fun y hy=>h y (G6 _ hy)
      have h2:=y7.mpr (h g G3);rw [p6,C6,E5];lia
    have:=h1 _ fun gr dQ=>by
     obtain ⟨k,hk⟩:=m6.mp dQ;exact (G.grp k gr hk).1
    rw [G.perm.length_eq] at this;lia
   have wh:∀ (lo:Option Str),(gs.length=0->lo=none)->(∀ j,gs.length=j+1->∃ gr t,gs[j]?=some gr/\t∈gr/\lo=some t)->
     uA (tTest (j5 (fun x y H Q=>y=V.non/\Q (V.bl !decide (x=V.non)) H) (O8 8) (tC V.non))) (tSeq (tDrop (iA K "list" cR (O8 7) (tCons (O8 8) tNil))) (tAsg (tDGet (O8 4) (O8 8)) (gName 8)))
      { nx:=tSeq (tDrop (tBM0 K "list" tD (O8 7))) (tRet (tTup (tCons (O8 7) (tCons (O8 3) tNil)))) { nx:=fun x H'=>Q V.non H',rt:=Q },rt:=Q }
      [some (V.ref a),some (V.ref b),some (V.ref d),some (V.ref g),some (V.ref e),u,v,some (V.ref k),some (orNon lo)] (A0 H3 k (HO.lst [])):=by
    intro lo mM V0;refine lI (fun m Y H9=>∃ (ks:Ab) (lo:Option Str),Y=[some (V.ref a),some (V.ref b),some (V.ref d),some (V.ref g),some (V.ref e),u,v,some (V.ref k),some (orNon lo)]/\H9=A0 H3 k (.lst (ks.map V.str))/\KeptW xs ys gs m ks lo) gs.length
     ⟨[],lo,rfl,rfl,⟨by simp,mM,fun j hj=>?_,by simp,by simp⟩⟩ ?_
    .obtain ⟨gr,t,h1,h2,h3⟩:=V0 j hj;exact ⟨gr,t,h1,h2,h3,by simp⟩
    rintro m Y H9 ⟨ks,lo,rfl,rfl,w⟩;have W2:ks.length<=1000:=by have:=w.len;lia
    walk_at "rd"
    cases m with
    | zero=>
     rw [w.zero rfl];refine iteF ⟨M7 A1,k,_,rfl,rfl,A1,by decide,fun p np=>?_⟩;rw [oN] at np ⊢
     have hkp:k≠p:=fun w2=>by rw [<- w2,A1] at np;cases np
     refine q p k g rs ks.reverse ah _ ((R.same.put nkH).free np) nkH A1 ?_ ((R.other nkr nkH).keep (Same.new np)) nkr G ?_ (fun x hx=>w.sub x (eK.mp hx)) (by rw [List.length_reverse];have:=w.len;lia)
     .rw [A4 hkp,A1,eL]
     .rw [List.pairwise_reverse];exact w.pw
    | succ j=>
     obtain ⟨gr,t,h1,h2,rfl,h4⟩:=w.more j rfl;obtain ⟨qY,w'⟩:=w.next G;refine iteT ⟨fun σ' H'=>∃ (ks:Ab) (lo:Option Str),σ'=[some (V.ref a),some (V.ref b),some (V.ref d),some (V.ref g),some (V.ref e),u,v,some (V.ref k),some (orNon lo)]/\H'=A0 H3 k (.lst (ks.map V.str))/\KeptW xs ys gs j ks lo,fun σ' H' h=>⟨j,by lia,h⟩,M7 A1,appOk A1 (by rw [A3];exact G4 (by lia)) ?_⟩;rw [oN];refine ⟨orNon (ah t),.inl ⟨_,Sum.inr t,.inl ?_,rfl,by rw [O3,if_pos qY]⟩,ks++[t],ah t,rfl,by rw [D0];rfl,w'⟩;rw [A4 hke];exact jS
   by_cases X3:gs=[]
   .have hrs:rs=[]:=sE (by rw [gI,X3];rfl);refine ⟨_,fD (A7 R.rows.top nk),?_⟩;rw [hrs];exact iteF (wh none (fun _=>rfl) fun j hj=>by rw [X3] at hj;simp at hj)
   .have U1:0<gs.length:=y7.mpr X3;have hr:rs[rs.length-1]?=some rs[rs.length-1]:=by simp
    have hrlast:rs.getLast?=some rs[rs.length-1]:=by rw [List.getLast?_eq_getElem?,hr]
    generalize rs[rs.length-1]=r at hr hrlast;obtain ⟨g0,jT,x9⟩:=Paired.at R.rows.row hr;obtain ⟨u0,h1,h2,h3⟩:=qI (pos:=E8 ys) (G.grp _ g0 jT).1;refine ⟨_,fD (A7 R.rows.top nk),?_⟩;rw [show (!(rs.map V.ref).isEmpty)=true by cases rs with | nil=>simp at hr | cons=>rfl];refine iteT ⟨_,.inl (.of (A7 R.rows.top nk)),V.ref r,alM hrlast,?_⟩;walk_at "rd";exact ⟨_,.inl (.of (A7 x9 nk)),V.str u0,xB h1,wh (some u0) (fun h=>by lia) fun j hj=>⟨g0,u0,by rw [gI,show gs.length-1=j by lia] at jT;exact jT,h2,rfl⟩⟩
theorem aeb:FnScope ["rules", "gone", "rule", "piece"] zA6 (B5 wG):=E7
theorem ahE(F:FunD K "forgotten" "forgotten" wG f fd)(T:Txt P w K mg C ae):FnOk P w K mg base D1 1 f fd zA6 aeX:=by
 refine F.ok aeb ?_ ?_
 .walk_at "ln"
 .intro cdv A outer s H vs Q E hr h;have E1:=hu_of hr;have hu:=hr.units;have hZ:=E6 aeb;refine ⟨_,QSs.out (A5 (C5 1 t8)
   (A5 (N8 bd.never (N0 (K:=K) (qz 0)) (K7 2) (A6 (qs_if (D6 (q_eq (K:=K) hu) (qe_ix (K:=K) (qz 2) A2) I0) (A6 (N8 bd.never (cW (K:=K) (Q4 (K:=K) (qz 2) (N7 A2) X0)) (K7 3) (A6 (f8 E1 (qz 1) (qz 3) qe_bl)))) G5)))
   (A6 (C9 (qz 1))))),?_⟩
  obtain ⟨a,rs,R,rfl,hR,hF,hl,q⟩:=h;walk_at "rd";refine fun d nd=>⟨⟨_,.of (A7 hR.top nd)⟩,forL (xs:=rs.map V.ref) (fun i Y H2=>∃ (u v:Ap),Y=[some (.ref a),some (.ref d),u,v]/\Same H H2/\H2 d=some (.dK (kvOf (goneL (R.take i))))) ⟨none,none,rfl,Same.new nd,by rw [A1];rfl⟩ (by rintro i Y H2 _ ⟨_,_,_,S,_⟩;exact .of (S _ _ hR.top)) ?_ ?_⟩
  .rintro i x Y H2 hx ⟨u,v,rfl,S,hd⟩;obtain ⟨r,hr,rfl⟩:=G8 hx;obtain ⟨z,hz,C8⟩:=Paired.at hR.row hr;have dS:=S _ _ C8;have hlz:z.2.length<=1000:=(hF z (K2 hz)).1;have hgl:(goneL (R.take i)).length<=500000:=by
    have h1:=alO (R:=R.take i) fun y hy=>hF y (cD hy)
    rw [G9] at h1;lia
   have estep:=ajN hz;walk_at "rd";refine ⟨_,.inr (.of dS),V.str z.1,O5 _ _,?_⟩;walk_at "rd";refine iteD (fun hw=>?_) fun hw=>?_
   .rw [if_pos hw] at estep;refine rSlR.t (.of dS) (o0 (k:=1) (by decide) (by simp)) fun p np=>?_
    rw [show cutV ((z.1::z.2).map V.str) (some 1) none=z.2.map V.str from pG _ _];have hdp:d≠p:=fun e=>by rw [e,np] at hd;cases hd
    refine ⟨p,rfl,⟨_,.of A1⟩,forT (xs:=z.2.map V.str) (fun j Y H3=>∃ (v:Ap),Y=[some (.ref a),some (.ref d),some (.ref r),v]/\Same H H3/\H3 p=some (.tup (z.2.map V.str))/\H3 d=some (.dK (kvOf (G7 (goneL (R.take i)) (z.2.take j)))))
     ⟨v,rfl,fun b o h=>A7 (S b o h) np,A1,by rw [A4 hdp];exact hd⟩ (by rintro j Y H3 _ ⟨_,_,_,h,_⟩;exact .of h) ?_ ?_⟩
    .rintro j y Y H3 hy ⟨v,rfl,S3,gE,R1⟩;obtain ⟨y,dH,rfl⟩:=G8 hy;walk_at "rd";refine ⟨_,j8 (k:=Sum.inr y) R1 ?_,S3.put nd,?_,?_⟩
     .unfold kvOf;rw [A3]
      have:=eX (z.2.take j) (goneL (R.take i))
      rw [G9] at this;exact G4 (by lia)
     .rw [A4 hdp.symm];exact gE
     .rw [A1,tV,aiG dH]
    .rintro Y H3 ⟨v,rfl,S3,gE,R1⟩;walk_at "rd";refine ⟨S3,?_⟩;rw [R1,estep,A3,K5]
   .rw [if_neg hw] at estep;rw [estep];exact ⟨S,hd⟩
  .rintro Y H2 ⟨u,v,rfl,S,hd⟩;walk_at "rd";refine q d H2 nd S ?_;rw [hd,A3,show rs.length=R.length from Paired.length hR.row,K5]
theorem afV:FnScope zBc zAg (B5 qD):=E7
theorem ajV(F:FunD K "without" "without" qD f fd)(T:Txt P w K mg C ae):FnOk P w K mg base D1 1 f fd zAg ahl:=by
 refine F.ok afV ?_ ?_
 .walk_at "ln"
 .intro cdv A outer s H vs Q E hr h;have hu:=hr.units;obtain ⟨a_STAYING,m_STAYING,M_STAYING⟩:=T.x_STAYING;have hZ:=E6 afV;refine ⟨_,QSs.out (A5 (C5 2 (qe_ix (K:=K) (qz 0) A2))
   (A5 (qs_if (D6 (q_eq (K:=K) hu) (qz 2) I0) (A6 (C9 (iK (D6 (q_in (K:=K) hu) (qe_ix (K:=K) (qz 0) A2) (qz 1)) bI (qz 0)))) G5)
   (A5 (qs_if (D6 (aiH M_STAYING) (qz 2) (aF m_STAYING)) (A6 (C9 (qz 0))) G5)
   (A5 (C5 3 (qe_cT (cX (K:=K)) T.b_tuple cT (C3 (V4  (P8:CompOk zBc (B5 qD).names _ ["piece", "gone"] 1 [1]) (cW (K:=K) (Q4 (K:=K) (qz 0) (N7 (lH M_STAYING (aF m_STAYING) (qz 2))) X0)) (fun _ _ _ _ _=>N9 (n:=0) (show List.Nodup (["piece", "gone"]:Ab) by decide +kernel) rfl (Or.inl rfl)) (fun _ _ _ _ _=>(aH (D6 (iL (K:=K) hu) (F9 0) (F9 1)))) (fun _ _ _ _ _=>(F9 0))))))
   (A6 (C9 (iK (T7 (K:=K) (qz 3)) (O0 (K:=K) (Q4 (K:=K) (qz 0) X0 (N7 (lH M_STAYING (aF m_STAYING) (qz 2)))) (qz 3)) bI))))))),?_⟩
  obtain ⟨a,d,z,g,rfl,ha,hd,hF,q⟩:=h;walk_at "rd";refine ⟨_,.inr (.of ha),V.str z.1,O5 _ _,?_⟩;walk_at "rd"
  rcases ajP hF with ⟨hw,_,_,_,y,ys,hy⟩ | ⟨hw,hs,hv⟩ | ⟨hw,_,k,hs,hv,hk⟩
  .rw [decide_eq_true hw];refine iteT ⟨_,.inr (.of ha),V.str y,?_,rInR.d (W8 (k:=Sum.inr y) hd) ⟨_,rfl,?_⟩⟩
   .rw [hy];exact M6 (j:=1) rfl
   rw [dA,z9];have e:K4 g z=if y∈g then none else some z:=by unfold K4;rw [if_pos hw,hy];rfl
   rw [e] at q;exact iteD (fun hm=>q _ _ (Same.refl H) (by rw [if_pos hm];rfl)) fun hm=>q _ _ (Same.refl H) (by rw [if_neg hm];exact ⟨a,rfl,ha⟩)
  .rw [decide_eq_false hw,hv];have e:K4 g z=some z:=by unfold K4;rw [if_neg hw,hs]
   rw [e] at q;exact iteF (iteT (q _ _ (Same.refl H) ⟨a,rfl,ha⟩))
  .rw [decide_eq_false hw,hv];have e:K4 g z=if keepR g (z.2.drop k)=[] then none else some (z.1,z.2.take k++keepR g (z.2.drop k)):=by unfold K4;rw [if_neg hw,hs]
   rw [e] at q;have P0:z.2.length<=1000:=hF.1;refine iteF (iteF ⟨_,rfl,_,rfl,rSlR.t (.of ha) (o0 (k:=k+1) (by lia) (by simp)) fun p np=>?_⟩);rw [ank];have S1:Same H (A0 H p (.tup ((z.2.drop k).map V.str))):=Same.new np;have hp:A0 H p (.tup ((z.2.drop k).map V.str)) p=some (.tup ((z.2.drop k).map V.str)):=A1;generalize A0 H p (.tup ((z.2.drop k).map V.str))=H1 at S1 hp;refine ⟨p,rfl,⟨_,.of hp⟩,compT (xs:=(z.2.drop k).map V.str) [some (.ref d)] rfl (fun D i ys H4=>ys=(keepR g ((z.2.drop k).take i)).map V.str/\Same H1 H4) (fun D nD=>⟨rfl,Same.new nD⟩) (by rintro D i ys H4 nD _ ⟨_,S⟩;exact .of (S _ _ hp)) ?_ ?_⟩
   .rintro D i x ys H4 nD hi hx ⟨rfl,S⟩ hD hy;obtain ⟨y,dH,rfl⟩:=G8 hx;walk_at "rd";refine rInR.d (W8 (k:=Sum.inr y) (S _ _ (S1 _ _ hd))) ⟨_,rfl,?_⟩;rw [dA,Bool.true_xor];have es:keepR g ((z.2.drop k).take (i+1))=if y∈g then keepR g ((z.2.drop k).take i) else keepR g ((z.2.drop k).take i)++[y]:=by
     unfold keepR;rw [V7,dH,Q0]
     by_cases hm:y∈g
     .rw [if_pos hm];simp [hm]
     .rw [if_neg hm];simp [hm]
    have W2:(keepR g ((z.2.drop k).take i)).length<=1000:=by
     have h1:=aX (fun p=>decide (p∉g)) ((z.2.drop k).take i);rw [G9,Z2] at h1;unfold keepR;lia
    refine iteN (fun hm=>⟨hD,by rw [A3];exact G4 (by lia),CW.put hi hy ⟨?_,S.put nD⟩⟩) fun hm=>⟨hD,kZ hi hy ⟨?_,S⟩⟩
    .rw [es,if_neg hm,D0];rfl
    .rw [es,if_pos hm]
   .rintro D ys H4 nD ⟨rfl,S⟩ hD hy;rw [A3,K5] at hD;walk_at "rd";refine rTupR.l (.of hD) fun t nt=>?_
    have W2:(keepR g (z.2.drop k)).length<=1000:=by
     have h1:=aX (fun p=>decide (p∉g)) (z.2.drop k);rw [Z2] at h1;unfold keepR;lia
    refine ⟨_,.inr (.inl ⟨_,.of A1,rfl⟩),?_⟩;have S2:Same H (A0 H4 t (.tup ((keepR g (z.2.drop k)).map V.str))):=fun b o h=>A7 (S b o (S1 b o h)) nt
    by_cases jU:keepR g (z.2.drop k)=[]
    .rw [jU];rw [if_pos jU] at q;rw [jU] at S2;exact iteF (q _ _ S2 rfl)
    .have G0:(!((keepR g (z.2.drop k)).map V.str).isEmpty)=true:=by
      rw [kL,List.isEmpty_eq_false_iff]
      simpa using jU
     rw [G0];rw [if_neg jU] at q;refine iteT (rSlR.t (.of (S2 _ _ ha)) (ajO (k:=k+1) (by simp;lia)) fun p2 jR=>?_);rw [alP];walk_at "rd";refine rAddR.t (.of A1) (.of (A7 A1 jR)) (by simp) ?_ (fun e=>?_) fun _ p3 V6=>q _ _ (fun b o h=>A7 (A7 (S2 b o h) jR) V6) ⟨p3,rfl,?_⟩
     .simp only [E5,A3,G9];exact O2 (by lia)
     .simp at e;exact absurd e jU
     .rw [A1];show _=some (HO.tup (List.map V.str (z.1::(List.take k z.2++keepR g (List.drop k z.2)))));rw [<- List.cons_append,D0];rfl
theorem sc_changed:FnScope zAn zAy (B5 fI):=E7
theorem vac:LS fI "elder":=lq
theorem ajW(F:FunD K "changed" "changed" fI f fd)(T:Txt P w K mg C ae)(G_forgotten:FO P w K mg base 1 "forgotten" zA6 [] aeX)(G_without:FO P w K mg base 1 "without" zAg [] ahl):FnOk P w K mg base D1 2 f fd zAy ahm:=by
 refine F.ok sc_changed ?_ ?_
 .walk_at "ln"
 .intro cdv A outer s H vs Q E hr h;have hu:=hr.units;have hZ:=E6 sc_changed;refine ⟨_,QSs.out (A5 (C5 2 (E4 G_forgotten (C3 (qz 1))))
   (A5 (fC (n:=3) sc_changed.nd rfl vac (P8:CompOk zAn (B5 fI).names _ zAg 1 [2]) (N0 (K:=K) (qz 0)) (fun _ _ _ _ _=>N9 (n:=0) (show List.Nodup (zAg:Ab) by decide +kernel) rfl (Or.inl rfl)) (fun _ _ _ _ _=>Y5) (fun _ _ _ _ _=>(E4 G_without (K8 (F9 0) (F9 1)))))
   (A5 (C5 4 (O0 (K:=K) (V4  (P8:CompOk zAn (B5 fI).names _ zA1 1 []) (N0 (K:=K) (qz 3)) (fun _ _ _ _ _=>N9 (n:=0) (show List.Nodup (zA1:Ab) by decide +kernel) rfl (Or.inl rfl)) (fun _ _ _ _ _=>(aH (D6 tY (F9 0) bI))) (fun _ _ _ _ _=>(F9 0))) (qe_cT (bL (K:=K) (calm:=true)) T.b_list bH (C3 (qz 1)))))
   (A6 (C9 (V4  (P8:CompOk zAn (B5 fI).names _ zA1 1 []) (N0 (K:=K) (qz 4)) (fun _ _ _ _ _=>N9 (n:=0) (show List.Nodup (zA1:Ab) by decide +kernel) rfl (Or.inl rfl)) (fun _ _ _ _ _=>(aH (D6 (q_ne (K:=K) hu) (qe_ix (K:=K) (F9 0) A2) I0))) (fun _ _ _ _ _=>(F9 0)))))))),?_⟩
  obtain ⟨a,b,rs,ms,R,M,rfl,hR,hM,hF,hG,hl,hm,q⟩:=h;have gI:rs.length=R.length:=Paired.length hR.row;have zA:ms.length=M.length:=Paired.length hM.row;walk_at "rd";refine ⟨b,ms,M,rfl,hM,hG,hm,fun d H1 nd S1 hd=>?_⟩;have hR1:=hR.same S1;have hM1:=hM.same S1;refine ⟨⟨_,.of hR1.top⟩,compL (xs:=rs.map V.ref) [some (.ref d)] rfl (fun D i ys H4=>Paired (RelR H4) ys ((R.take i).map (K4 (goneL M)))/\Same H1 H4) (fun D nD=>⟨.nil,Same.new nD⟩) (by rintro D i ys H4 nD _ ⟨_,S⟩;exact .of (S _ _ hR1.top)) ?_ ?_⟩
  .rintro D i x ys H4 nD hi hx ⟨P,S⟩ hD hy;obtain ⟨r,hr,rfl⟩:=G8 hx;obtain ⟨z,hz,C8⟩:=Paired.at hR1.row hr;rw [A3] at hi;walk_at "rd";refine ⟨r,d,z,goneL M,rfl,S _ _ C8,S _ _ hd,hF z (K2 hz),fun x H5 S5 hx=>⟨S5 _ _ hD,G4 (by lia),CW.put (by rw [A3];exact hi) hy ⟨?_,(S.trans S5).put nD⟩⟩⟩;rw [V7,hz,eQ,D0];exact Paired.snoc (L7 P fun _ _ h=>(h.same S5).put (S5 _ _ hD)) (hx.put (S5 _ _ hD))
  .rintro D ys H4 nD ⟨P,S⟩ hD hy;rw [A3,gI,K5] at P;have R3:ys.length<=500:=by rw [A3] at hy;lia
   refine ⟨D,rfl,⟨_,.of hD⟩,compL (xs:=ys) [] rfl (fun D2 i ws H5=>∃ qs:Ai,ws=qs.map V.ref/\Paired (fun r z=>H5 r=some (tupR z)) qs (((R.map (K4 (goneL M))).take i).filterMap id)/\Same H4 H5) (fun D2 nD2=>⟨[],rfl,.nil,Same.new nD2⟩) (by rintro D2 i ws H5 nD2 _ ⟨_,_,_,S⟩;exact .of (S _ _ hD)) ?_ ?_⟩
   .rintro D2 i x ws H5 nD2 hi hx ⟨qs,rfl,P5,S5⟩ hD2 gC;obtain ⟨o,ho,bT⟩:=Paired.at P hx;walk_at "rd";have e2:((R.map (K4 (goneL M))).take (i+1)).filterMap id=((R.map (K4 (goneL M))).take i).filterMap id++[o].filterMap id:=by rw [V7,ho,eQ,oJ]
    cases o with
    | none=>
     obtain rfl:x=V.non:=bT;rw [decide_eq_true rfl];exact iteF ⟨hD2,kZ hi gC ⟨qs,rfl,by rw [e2,List.filterMap_cons_none rfl,List.filterMap_nil,L5];exact P5,S5⟩⟩
    | some z=>
     obtain ⟨r,rfl,hr⟩:=bT;rw [decide_eq_false (by simp)];refine iteT ⟨hD2,G4 (by lia),CW.put hi gC ⟨qs++[r],by rw [D0];rfl,?_,S5.put nD2⟩⟩;rw [e2,show List.filterMap id [some z]=[z] from rfl];exact Paired.snoc (L7 P5 fun _ _ h=>lY hD2 h) (lY hD2 (S5 _ _ hr))
   .rintro D2 ws H5 nD2 ⟨qs,rfl,P5,S5⟩ hD2 gC;rw [show ys.length=(R.map (K4 (goneL M))).length from Paired.length P,K5,List.filterMap_map] at P5;have hM5:=(hM1.same S).same S5;refine rListR.l (.inl (.of hM5.top)) fun l2 o7=>?_
    walk_at "rd";have hql:qs.length<=500:=by rw [A3] at gC;lia
    refine rAddR.l (A7 hD2 o7) A1 (by rw [A3,A3];exact O2 (by lia)) fun l3 gJ=>?_
    have P6:Paired (fun r z=>A0 (A0 H5 l2 (HO.lst (ms.map V.ref))) l3 (HO.lst (qs.map V.ref++ms.map V.ref)) r=some (tupR z)) (qs++ms) (R.filterMap (K4 (goneL M))++M):=
     Paired.append (L7 P5 fun _ _ h=>A7 (A7 h o7) gJ) (L7 hM5.row fun _ _ h=>A7 (A7 h o7) gJ)
    have h6:A0 (A0 H5 l2 (HO.lst (ms.map V.ref))) l3 (HO.lst (qs.map V.ref++ms.map V.ref)) l3=some (HO.lst ((qs++ms).map V.ref)):=by rw [A1,D0]
    have S6:Same H (A0 (A0 H5 l2 (HO.lst (ms.map V.ref))) l3 (HO.lst (qs.map V.ref++ms.map V.ref))):=fun b o h=>A7 (A7 (S5 b o (S b o (S1 b o h))) o7) gJ
    generalize A0 (A0 H5 l2 (HO.lst (ms.map V.ref))) l3 (HO.lst (qs.map V.ref++ms.map V.ref))=H6 at P6 h6 S6;have jV:(qs++ms).length<=1000:=by rw [C6];lia
    have hqr:(qs++ms).length=(R.filterMap (K4 (goneL M))++M).length:=Paired.length P6;refine ⟨l3,rfl,⟨_,.of h6⟩,compL (xs:=(qs++ms).map V.ref) [] rfl (fun D3 i ws H7=>∃ us:Ai,ws=us.map V.ref/\Paired (fun r z=>H7 r=some (tupR z)) us (young ((R.filterMap (K4 (goneL M))++M).take i))/\Same H6 H7) (fun D3 nD3=>⟨[],rfl,.nil,Same.new nD3⟩) (by rintro D3 i ws H7 nD3 _ ⟨_,_,_,S⟩;exact .of (S _ _ h6)) ?_ ?_⟩
    .rintro D3 i x ws H7 nD3 hi hx ⟨us,rfl,P7,S7⟩ hD3 rP;obtain ⟨r,hr,rfl⟩:=G8 hx;obtain ⟨z,hz,C8⟩:=Paired.at P6 hr;rw [A3] at hi;walk_at "rd";refine ⟨_,.inr (.of (S7 _ _ C8)),V.str z.1,O5 _ _,?_⟩;walk_at "rd";have e:young ((R.filterMap (K4 (goneL M))++M).take (i+1))=young ((R.filterMap (K4 (goneL M))++M).take i)++if z.1=Q6 then [] else [z]:=by
      rw [V7,hz,eQ];unfold young;rw [Q0]
      by_cases hw:z.1=Q6
      .rw [if_pos hw];simp [hw]
      .rw [if_neg hw];simp [hw]
     refine iteN (fun hw=>⟨hD3,G4 (by rw [A3] at rP;rw [A3];lia),CW.put (by rw [A3];exact hi) rP ⟨us++[r],by rw [D0];rfl,?_,S7.put nD3⟩⟩) fun hw=>⟨hD3,kZ (by rw [A3];exact hi) rP ⟨us,rfl,?_,S7⟩⟩
     .rw [e,if_neg hw];exact Paired.snoc (L7 P7 fun _ _ h=>lY hD3 h) (lY hD3 (S7 _ _ C8))
     .rw [e,if_pos hw,L5];exact P7
    .rintro D3 ws H7 nD3 ⟨us,rfl,P7,S7⟩ hD3 rP;rw [A3,hqr,K5] at P7;exact q D3 us H7 (S6.free nD3) (S6.trans S7) ⟨hD3,P7⟩
theorem aec:FnScope zAh zAh (B5 wH):=E7
theorem ahF(F:FunD K "_law_cell_at" "_law_cell_at" wH f fd)(T:Txt P w K mg C ae):FnOk P w K mg base D1 1 f fd zAh (xA K):=by
 refine F.ok aec ?_ ?_
 .walk_at "ln"
 .intro cdv A outer s H vs Q E hr h;have hZ:=E6 aec;refine ⟨_,QSs.out (A5 (qs_if (D6 q_lt (qz 1) (W0 (K:=K) T.b_len (qz 0))) (A6 (C9 (qe_ix (K:=K) (qz 0) (qz 1)))) G5)
   (A6 (C9 A2))),?_⟩
  obtain ⟨a,ns,k,rfl,hS,hk,q⟩:=h;walk_at "rd";refine ⟨ns.length,.inl ⟨_,hS,by rw [A3]⟩,iteD (fun C4=>?_) fun _=>q 0⟩;have h1:k<((ns.map V.int).length:Int):=by rw [A3];exact C4
  obtain ⟨v,h2,h3⟩:=pC hk h1;obtain ⟨n,_,rfl⟩:=E9.mp h3;exact ⟨_,.inl hS,_,h2,q n⟩
theorem afd:FnScope ["_law_cell", "_law_many", "_law_signs", "_law_number", "_law_step", "_law_begin", "_law_shape", "_law_found", "_law_k", "_law_place"] zAz (B5 wI):=E7
theorem aiv(F:FunD K "_law_pieces" "_law_pieces" wI f fd)(T:Txt P w K mg C ae):FnOk P w K mg base D1 1 f fd zAz spPcs:=by
 refine F.ok afd ?_ ?_
 .walk_at "ln"
 .intro cdv A outer s H vs Q E hr h;have hu:=hr.units;have hZ:=E6 afd;refine ⟨_,QSs.out (A5 (C5 2 I0)
   (A5 (C5 2 (O0 (K:=K) (qz 2) I0))
   (A5 (C5 3 (M4 (qe_op q_mul (qz 0) A2) A2))
   (A5 (C5 4 (qe_ix (K:=K) (O9 (qa_c A2 (qa_c A2 (qa_c A2 (qa_c A2 (qa_c A2 (qa_c A2 (qa_c A2 (qa_c A2 R9))))))))) (M4 (qz 3) A2)))
   (A5 (C5 5 (M4 (V9 (qz 3) A2) A2))
   (A5 (C5 6 (M4 (V9 (qz 3) A2) A2))
   (A5 (C5 7 (O9 R9))
   (A5 (N8 bd.never (qi_r1 T.b_range (C3 (qz 1))) (K7 8) (A5 (C5 9 (M4 (O0 (K:=K) (qz 5) (qe_op q_mul (qz 8) (qz 4))) A2))
   (A6 (qs_if (QW.pt (qw_or (D6 (q_eq (K:=K) hu) (qz 6) A2) (lE (QW.pt (fB (D6 (q_eq (K:=K) hu) (qz 6) A2) (fA (D6 (q_eq (K:=K) hu) (M4 (qz 8) A2) A2))))))) (A6 (U9 (K:=K) (qz 7) (qe_ix (K:=K) (qz 2) (M4 (qz 9) A2)))) (A6 (U9 (K:=K) (qz 7) (O0 (K:=K) (qe_ix (K:=K) (qz 2) (V9 (qz 9) A2)) (qe_ix (K:=K) (qz 2) (M4 (qz 9) A2)))))))))
   (A6 (C9 (qz 7))))))))))),?_⟩
  obtain ⟨c,m,rfl,hm0,hm,q⟩:=h;walk_at "rd";refine ⟨aqb,.inr ⟨by decide,by decide⟩,by decide,fun p hp=>?_⟩;obtain ⟨st,T9,zN⟩:=arO (xs:=[V.int 1,V.int 2,V.int 5,V.int 94,V.int 187,V.int 1000,V.int 4001,V.int 8648]) (i:=c*48271 % 2147483647 % 8) (by simp) (by lia) (by simp only [E5,P9];lia);have X4:st∈stepL:=by simpa [stepL] using zN
  have hst3:0<st/\st<10000:=by
   simp only [stepL,D8,Q8,or_false] at X4;lia
  refine ⟨_,.inl (.of A1),_,T9,fun p1 W5=>⟨by lia,by lia,?_⟩⟩;have n0:H p1=none:=(Same.new hp).free W5;generalize hB:c*48271 % 2147483647 / 8 % 8649=B;generalize hSh:c*48271 % 2147483647 / 69192 % 3=sh;refine forR (fun i Y H2=>∃ (u v:Ap),Y=[some (.int c),some (.int m),some (.str SS),some (.int (c*48271 % 2147483647)),some (.int st),some (.int B),some (.int sh),some (.ref p1),u,v]/\
    Same H H2/\H2 p1=some (.lst (((U5 i).map (j9 B st sh)).map V.str)))
   ⟨none,none,rfl,(Same.new hp).trans (Same.new W5),A1⟩ ?_ ?_
  .rintro i Y H2 hi ⟨u,v,rfl,S,hl⟩;have m4:(((U5 i).map (j9 B st sh)).map V.str).length<ak:=by rw [A3,A3,kJ];exact G4 (by lia)
   walk_at "rd";rw [Int.zero_add];generalize hP:(B+(i:Int)*st) % 8649=P;have hP0:0<=P:=by rw [<- hP];exact V8 _ (by decide)
   have hP1:P<8649:=by rw [<- hP];exact j4 _ (by decide)
   obtain ⟨a2,a3⟩:=pN (i:=P % 93) (by lia) (by lia);obtain ⟨b2,b3⟩:=pN (i:=P / 93) (by lia) (by lia);have fin:∀ z,j9 B st sh i=z->cR (V.ref p1) [V.str z] H2 fun x H1=>Same H H1/\H1 p1=some (HO.lst (List.map V.str (List.map (j9 B st sh) (U5 (i+1))))):=fun z hz=>
    appOk hl m4 ⟨S.put n0,by rw [A1,List.range_succ,D0,D0];simp [hz]⟩
   have l2:∀ x y:Nat,(⟨#[x]⟩:Str).length+(⟨#[y]⟩:Str).length<=ak:=fun _ _=>by show 1+1<=ak;decide
   have f1:sh=0\/(sh=1/\(i:Int) % 2=1)->j9 B st sh i=one (n9 (P % 93)):=fun h=>by unfold j9;rw [if_pos h,hP]
   have f2:¬ (sh=0\/(sh=1/\(i:Int) % 2=1))->j9 B st sh i=two (n9 (P / 93)) (n9 (P % 93)):=fun h=>by unfold j9;rw [if_neg h,hP]
   exact ⟨.inr ⟨by lia,by lia⟩,iteD (fun h=>⟨M7 hl,iH,_,a2,fin _ (f1 (.inl h))⟩) fun h=>iteD (fun h1=>iteD (fun h2=>⟨M7 hl,iH,_,a2,fin _ (f1 (.inr ⟨h1,h2⟩))⟩)
    fun h2=>⟨M7 hl,iH,_,b2,iH,_,a2,l2 _ _,fin _ (f2 (by lia))⟩) fun h1=>⟨M7 hl,iH,_,b2,iH,_,a2,l2 _ _,fin _ (f2 (by lia))⟩⟩
  .rintro Y H2 ⟨u,v,rfl,S,hl⟩;walk_at "rd";refine q p1 _ H2 n0 S hl (by rw [A3,kJ]) (ak3 X4 (by lia)) fun z hz=>?_
   obtain ⟨k,_,rfl⟩:=E9.mp hz;have r1:=pN (i:=(B+k*st) % 8649 % 93) (by lia) (by lia);have r2:=pN (i:=(B+k*st) % 8649 / 93) (by lia) (by lia);unfold j9
   split
   .exact akI r1.2
   .exact akK r2.2 r1.2
theorem afW:FnScope ["_law_script", "_law_many", "_law_one", "_law_other", "_law_shape", "_law_left", "_law_k", "_law_cell", "_law_number", "_law_thing"] zB0 (B5 wJ):=E7
theorem ajX(F:FunD K "_law_turns" "_law_turns" wJ f fd)(T:Txt P w K mg C ae)(G_l_cell_at:FO P w K mg base 1 "_law_cell_at" zAh [] (xA K))(G_l_pieces:FO P w K mg base 1 "_law_pieces" zAz [] spPcs):FnOk P w K mg base D1 2 f fd zB0 (alL K):=by
 refine F.ok afW ?_ ?_
 .walk_at "ln"
 .intro cdv A outer s H vs Q E hr h;have hu:=hr.units;have hZ:=E6 afW;refine ⟨_,QSs.out (A5 (C5 2 (E4 G_l_pieces (K8 (E4 G_l_cell_at (K8 (qz 0) A2)) (qz 1))))
   (A5 (C5 3 (qe_cT (bL (K:=K) (calm:=true)) T.b_list bH (C3 (qz 2))))
   (A5 (C5 4 (M4 (E4 G_l_cell_at (K8 (qz 0) A2)) A2))
   (Y6 (qs_if (D6 (q_eq (K:=K) hu) (qz 4) A2) (A6 (Z9 (qe_m0 (K:=K) q0 kQ kP lG (qz 3)))) G5)
   (Y6 (qs_if (D6 (q_eq (K:=K) hu) (qz 4) A2) (A5 (C5 3 (O9 R9))
   (A5 (C5 5 (qe_cT (bL (K:=K) (calm:=true)) T.b_list bH (C3 (qz 2))))
   (A6 (N8 bd.never (qi_r1 T.b_range (C3 (qz 1))) (K7 6) (A5 (C5 7 (E4 G_l_cell_at (K8 (qz 0) (O0 (K:=K) A2 (qz 6)))))
   (A6 (U9 (K:=K) (qz 3) (qe_mB (K:=K) q0 PySem.F.slot_list_pop PySem.F.type_list_pop anM (qz 5) (C3 (M4 (M4 (qe_op q_mul (qz 7) A2) A2) (W0 (K:=K) T.b_len (qz 5)))))))))))) G5)
   (Y6 (qs_if (D6 q_gt (qz 1) A2) (A6 (N8 bd.never (N0 (K:=K) (Q4 (K:=K) (qz 0) (N7 A2) (N7 A2))) (K7 7) (A5 (C5 8 (M4 (qe_op q_mul (qz 7) A2) A2))
   (A5 (C5 9 (qe_mB (K:=K) q0 PySem.F.slot_list_pop PySem.F.type_list_pop anM (qz 3) (C3 (M4 (qz 8) (qz 1)))))
   (Y6 (qs_if (QW.pt (qw_or (D6 q_gt (qz 4) A2) (lE (D6 (q_eq (K:=K) hu) (M4 (V9 (qz 8) A2) A2) A2)))) (A6 (C5 8 (V9 (qz 8) A2))) G5)
   (A6 (Z9 (qe_mB (K:=K) q0 PySem.F.slot_list_insert PySem.F.type_list_insert ana (qz 3) (K8 (M4 (qz 8) (qz 1)) (qz 9)))))))))) G5)
   (A6 (C9 (Q3 (K8 (qz 2) (qz 3))))))))))),?_⟩
  obtain ⟨a,ns,m,rfl,hS,hn,hm0,zO,q⟩:=h;walk_at "rd";refine ⟨a,ns,0,rfl,hS,by decide,fun c=>⟨c,m,rfl,hm0,by lia,fun l1 xs H1 nl1 S1 V0 jV rN hxp=>?_⟩⟩
  try walk_at "rd"
  refine rListR.l (.inl (.of V0)) fun p np=>⟨a,ns,1,rfl,(S1.trans (Same.new np)).seq hS,by decide,fun c1=>?_⟩
  try walk_at "rd"
  generalize hsh:c1 % 4=sh;have npH:H p=none:=S1.free np;have npl:p≠l1:=fun e=>by rw [e,V0] at np;cases np
  refine bM (TuSt H a l1 m sh xs) ?_ ?_
  .walk_at "rd";have h2:TuSt H a l1 m sh xs [some (.ref a),some (.int m),some (.ref l1),some (.ref p),some (.int sh),none,none,none,none,none] (A0 H1 p (.lst (xs.map V.str))):=⟨p,xs,none,none,none,none,none,rfl,S1.trans (Same.new np),A7 V0 np,A1,npH,npl,.refl _⟩
   refine iteD (fun _=>?_) fun _=>h2
   refine ⟨M7 A1,p,_,rfl,rfl,A1,p,xs.reverse,none,none,none,none,none,rfl,(S1.trans (Same.new np)).put npH,?_,?_,npH,npl,List.reverse_perm xs⟩
   .rw [A4 npl.symm];exact A7 V0 np
   .rw [A1,eL]
  rintro Y H2 ⟨p2,dU,u,v,w,x,y,rfl,S2,h21,h2p,n2,aQ,dW⟩;refine bM (TuSt H a l1 m sh xs) ?_ ?_
  .walk_at "rd";refine iteD (fun _=>?_) fun _=>⟨p2,dU,u,v,w,x,y,rfl,S2,h21,h2p,n2,aQ,dW⟩
   intro p3 V6;have n3H:H p3=none:=S2.free V6;have ne3:p3≠l1:=fun e=>by rw [e,h21] at V6;cases V6
   refine rListR.l (.inl (.of (A7 h21 V6))) fun p4 aR=>⟨by lia,by lia,?_⟩
   have S4:Same H (A0 (A0 H2 p3 (.lst [])) p4 (.lst (xs.map V.str))):=(S2.trans (Same.new V6)).trans (Same.new aR);have h41:A0 (A0 H2 p3 (.lst [])) p4 (.lst (xs.map V.str)) l1=some (.lst (xs.map V.str)):=A7 (A7 h21 V6) aR;have ne43:p3≠p4:=fun e=>by rw [<- e,A1] at aR;cases aR
   have ne41:p4≠l1:=fun e=>by rw [e,A7 h21 V6] at aR;cases aR
   have n4H:H p4=none:=(S2.trans (Same.new V6)).free aR;have h43:A0 (A0 H2 p3 (.lst [])) p4 (.lst (xs.map V.str)) p3=some (.lst []):=by rw [A4 ne43,A1]
   have h44:A0 (A0 H2 p3 (.lst [])) p4 (.lst (xs.map V.str)) p4=some (.lst (xs.map V.str)):=A1;generalize A0 (A0 H2 p3 (.lst [])) p4 (.lst (xs.map V.str))=H4 at S4 h41 h43 h44;refine forR (fun i Y H5=>∃ (v w x y:Ap) (zs ls:Ab),Y=[some (.ref a),some (.int m),some (.ref l1),some (.ref p3),some (.int sh),some (.ref p4),v,w,x,y]/\Same H H5/\H5 l1=some (.lst (xs.map V.str))/\H5 p3=some (.lst (zs.map V.str))/\H5 p4=some (.lst (ls.map V.str))/\(zs++ls).Perm xs/\zs.length=i)
    ⟨v,w,x,y,[],xs,rfl,S4,h41,h43,h44,.refl _,rfl⟩ ?_ ?_
   .rintro i Y H5 hi ⟨v,w,x,y,zs,ls,rfl,S5,h51,h53,h54,pm,P0⟩;have nH:ls.length+i=m.toNat:=by
     have:=pm.length_eq
     rw [C6] at this;lia
    walk_at "rd";refine ⟨a,ns,_,rfl,S5.seq hS,by lia,fun c2=>?_⟩
    try walk_at "rd"
    generalize hN:c2*16807 % 2147483629=N;have hN0:0<=N % (ls.length:Int):=V8 _ (by lia);have hN1:N % (ls.length:Int)<(ls.length:Int):=j4 _ (by lia);refine ⟨M7 h53,M7 h54,.inr ⟨by decide,by decide⟩,ls.length,.inl ⟨_,.of h54,by rw [A3]⟩,by lia,?_⟩;generalize (N % (ls.length:Int))=I at hN0 hN1 ⊢
    obtain ⟨w0,nU⟩:∃ w0,ls[I.toNat]?=some w0:=⟨_,L6 (by lia)⟩
    refine popOk h54 hN0 (by lia) (y:=V.str w0) (by rw [U3,nU];rfl) ?_;rw [<- pJ];have h63:A0 H5 p4 (.lst ((ls.eraseIdx I.toNat).map V.str)) p3=some (.lst (zs.map V.str)):=by rw [A4 ne43];exact h53
    refine appOk h63 (by rw [A3];exact G4 (by lia)) ⟨(S5.put n4H).put n3H,?_,zs++[w0],?_,ls.eraseIdx I.toNat,?_,?_,?_⟩
    .rw [A4 ne3.symm,A4 ne41.symm];exact h51
    .rw [A1,D0];rfl
    .rw [A4 ne43.symm,A1]
    .refine List.Perm.trans ?_ pm;rw [R8];exact List.Perm.append_left _ (wZ nU).symm
    .rw [C6,P0];rfl
   .rintro Y H5 ⟨v,w,x,y,zs,ls,rfl,S5,h51,h53,h54,pm,P0⟩;have nH:ls=[]:=by
     have:=pm.length_eq
     rw [C6] at this;exact sE (by lia)
    rw [nH,L5] at pm;exact ⟨p3,zs,_,_,_,_,_,rfl,S5,h51,h53,n3H,ne3,pm⟩
  clear u v w x y S2 h21 h2p n2 aQ dW dU p2 H2;rintro Y H2 ⟨p2,dU,u,v,w,x,y,rfl,S2,h21,h2p,n2,aQ,dW⟩;refine bM (TuSt H a l1 m sh xs) ?_ ?_
  .walk_at "rd";refine iteD (fun U1=>?_) fun _=>⟨p2,dU,u,v,w,x,y,rfl,S2,h21,h2p,n2,aQ,dW⟩
   refine rSlR.l (S2.seq hS) fun p3 V6=>⟨p3,rfl,⟨_,.of A1⟩,?_⟩
   have S3:Same H (A0 H2 p3 (.lst (cutV (ns.map V.int) (some 2) (some 62)))):=S2.trans (Same.new V6);have n3H:H p3=none:=S2.free V6;have ne31:p3≠l1:=fun e=>by rw [e,h21] at V6;cases V6
   have ne32:p3≠p2:=fun e=>by rw [e,h2p] at V6;cases V6
   refine forL (xs:=cutV (ns.map V.int) (some 2) (some 62)) (fun i Y H5=>∃ (v w x y:Ap) (zs:Ab),Y=[some (.ref a),some (.int m),some (.ref l1),some (.ref p2),some (.int sh),u,v,w,x,y]/\Same H H5/\H5 l1=some (.lst (xs.map V.str))/\H5 p2=some (.lst (zs.map V.str))/\H5 p3=some (.lst (cutV (ns.map V.int) (some 2) (some 62)))/\zs.Perm xs)
    ⟨v,w,x,y,dU,rfl,S3,A7 h21 V6,A7 h2p V6,A1,dW⟩ (by rintro i Y H5 _ ⟨_,_,_,_,_,_,_,_,_,h,_⟩;exact .of h) ?_ ?_
   .rintro i x0 Y H5 hx ⟨v,w,x,y,zs,rfl,S5,h51,h52,h53,pm⟩;obtain ⟨n,rfl⟩:∃ n,x0=V.int n:=by
     have hm:x0∈ns.map V.int:=by
      have:=K2 hx
      unfold cutV at this;exact List.mem_of_mem_drop (cD this)
     obtain ⟨n,_,rfl⟩:=E9.mp hm;exact ⟨n,rfl⟩
    have P0:zs.length=m.toNat:=by rw [pm.length_eq,jV]
    walk_at "rd";generalize hN:n*48271 % 2147483587=N;have hN0:0<=N % m:=V8 _ (by lia);have hN1:N % m<m:=j4 _ (by lia);refine ⟨.inr ⟨by decide,by decide⟩,M7 h52,by lia,?_⟩;generalize hI:N % m=I at hN0 hN1 ⊢
    obtain ⟨w0,nU⟩:∃ w0,zs[I.toNat]?=some w0:=⟨_,L6 (by lia)⟩
    refine popOk h52 hN0 (by lia) (y:=V.str w0) (by rw [U3,nU];rfl) ?_;rw [<- pJ];have pe:=wZ nU;have b8:(zs.eraseIdx I.toNat).length+1=m.toNat:=by
     have:=pe.length_eq
     rw [E5] at this;lia
    have h62:A0 H5 p2 (.lst ((zs.eraseIdx I.toNat).map V.str)) p2=some (.lst ((zs.eraseIdx I.toNat).map V.str)):=A1;have S6:Same H (A0 H5 p2 (.lst ((zs.eraseIdx I.toNat).map V.str))):=S5.put n2;have h61:A0 H5 p2 (.lst ((zs.eraseIdx I.toNat).map V.str)) l1=some (.lst (xs.map V.str)):=by rw [A4 aQ.symm];exact h51
    have h63:A0 H5 p2 (.lst ((zs.eraseIdx I.toNat).map V.str)) p3=some (.lst (cutV (ns.map V.int) (some 2) (some 62))):=by rw [A4 ne32];exact h53
    generalize A0 H5 p2 (.lst ((zs.eraseIdx I.toNat).map V.str))=H6 at h62 S6 h61 h63;generalize zs.eraseIdx I.toNat=es at pe b8 h62;refine bM (fun Y H7=>∃ (N2:Int),Y=[some (.ref a),some (.int m),some (.ref l1),some (.ref p2),some (.int sh),u,v,some (.int n),some (.int N2),some (.str w0)]/\H7=H6) ?_ ?_
    .walk_at "rd";exact iteD (fun _=>trivial) fun _=>iteD (fun _=>trivial) fun _=>trivial
    rintro Y H7 ⟨N2,rfl,rfl⟩;walk_at "rd";have hM0:0<=N2 % m:=V8 _ (by lia);have hM1:N2 % m<m:=j4 _ (by lia);refine ⟨M7 h62,by lia,insOk h62 hM0 (by lia) (by rw [A3];lia) (by rw [A3];exact G4 (by lia)) ⟨S6.put n2,?_,es.take (N2 % m).toNat++w0::es.drop (N2 % m).toNat,?_,?_,?_⟩⟩
    .rw [A4 aQ.symm];exact h61
    .rw [A1,D0,E2,cG,z8]
    .rw [A4 ne32];exact h63
    .exact ((anj es _ w0).trans pe.symm).trans pm
   .rintro Y H5 ⟨v,w,x,y,zs,rfl,S5,h51,h52,h53,pm⟩;exact ⟨p2,zs,_,_,_,_,_,rfl,S5,h51,h52,n2,aQ,pm⟩
  clear u v w x y S2 h21 h2p n2 aQ dW dU p2 H2;rintro Y H2 ⟨p2,dU,u,v,w,x,y,rfl,S2,h21,h2p,n2,aQ,dW⟩;walk_at "rd";exact ⟨by decide,fun p np=>q p l1 p2 xs dU _ (S2.trans (Same.new np)) A1 (A7 h21 np) (A7 h2p np) nl1 n2 aQ.symm jV rN dW hxp⟩
theorem sc_change:FnScope zBd zAa (B5 lW):=E7
theorem vad:LS lW "moved":=lq
theorem al6(F:FunD K "change" "change" lW f fd)(T:Txt P w K mg C ae)(G_kept_most:FO P w K mg base 2 "kept_most" zAa [] anS):FnOk P w K mg base D1 3 f fd zAa ai3:=by
 refine F.ok sc_change ?_ ?_
 .walk_at "ln"
 .intro cdv A outer s H vs Q E hr h;have hu:=hr.units;have hZ:=E6 sc_change;refine ⟨_,QSs.out (A5 (C5 2 (qe_ix (K:=K) (E4 G_kept_most (K8 (qz 0) (qz 1))) A2))
   (A5 (fC (n:=3) sc_change.nd rfl vad (P8:CompOk zBd (B5 lW).names _ ["letter", "kept"] 1 [2]) (N0 (K:=K) (qz 0)) (fun _ _ _ _ _=>N9 (n:=0) (show List.Nodup (["letter", "kept"]:Ab) by decide +kernel) rfl (Or.inl rfl)) (fun _ _ _ _ _=>(aH (D6 (iL (K:=K) hu) (F9 0) (F9 1)))) (fun _ _ _ _ _=>(F9 0)))
   (A5 (qs_if (eZ (T7 (K:=K) (qz 3))) (A6 (C9 (O9 R9))) G5)
   (A6 (C9 (O9 (K8 (O0 (K:=K) (Q3 (C3 I0)) (qe_cT (cX (K:=K)) T.b_tuple cT (C3 (qz 3)))) (O0 (K:=K) (Q3 (C3 I0)) (qe_cT (cX (K:=K)) T.b_tuple cT (C3 (qz 1))))))))))),?_⟩
  obtain ⟨a,b,xs,ys,rfl,ha,hb,nx,ny,pm,hl,q⟩:=h;have R3:=pm.length_eq;walk_at "rd";refine ⟨a,b,xs,ys,rfl,ha,hb,nx,ny,fun x hx=>pm.mem_iff.mpr hx,by lia,by lia,fun p k g rs ks ah H1 np nk hp hk RR hkg GG hpw hks W2=>?_⟩;have kp:=kp_of nx GG hpw hks W2;have S:=RR.same;clear RR hkg GG hpw hks np;walk_at "rd";refine ⟨_,.inr (.of hp),V.ref k,O5 _ _,⟨_,.of (S _ _ ha)⟩,compL (xs:=xs.map V.str) [some (.ref k)] rfl (fun D i zs H2=>zs=((xs.take i).filter fun x=>!decide (x∈ks)).map V.str/\Same H1 H2) (fun D nD=>⟨rfl,Same.new nD⟩) (by rintro D i zs H2 nD _ ⟨_,S2⟩;exact .of (S2 _ _ (S _ _ ha))) ?_ ?_⟩
  .rintro D i y zs H2 nD hi hy ⟨rfl,S2⟩ hD P0;obtain ⟨x,hx,rfl⟩:=G8 hy;rw [A3] at P0;have gD:i<xs.length:=(F8.mp hx).1;walk_at "rd";refine rInR.l (.inl (.of (S2 _ _ hk))) rfl (pF _) ⟨_,rfl,?_⟩;rw [lB,Bool.true_xor]
   by_cases e:(!decide (x∈ks))=true
   .rw [if_pos e];refine ⟨hD,by rw [A3];exact G4 (by lia),CW.put hi (by rw [A3];exact P0) ⟨?_,S2.put nD⟩⟩;rw [L0 hx,Q0,o9 (p:=fun x=>!decide (x∈ks)) e,D0];rfl
   .rw [if_neg e];refine ⟨hD,hi,by rw [A3];lia,⟨_,rfl⟩,?_,S2⟩;rw [L0 hx,Q0,aW (p:=fun x=>!decide (x∈ks)) e,List.filter_nil,L5]
  rintro D zs H2 nD ⟨rfl,S2⟩ hD _;rw [A3,K5] at hD;have hD':H2 D=some (.lst ((K1 xs ks).map V.str)):=hD;have zA:(K1 xs ks).length<=100:=K9 (aX _ _) hl;have rQ:=S.trans S2;walk_at "rd";refine ⟨_,fD hD',?_⟩
  by_cases hm:K1 xs ks=[]
  .rw [hm];refine iteT fun l nl=>q l [] ks _ (rQ.free nl) (rQ.trans (Same.new nl)) kp W2 ?_
   rw [if_pos hm];exact ⟨A1,.nil⟩
  .have G0:((K1 xs ks).map V.str).isEmpty=false:=by
    cases e:K1 xs ks with
    | nil=>exact absurd e hm
    | cons y ys=>rfl
   rw [G0];refine iteF ⟨by decide,fun p1 V1=>?_⟩
   try walk_at "rd"
   refine rTupR.l (.of (A7 hD' V1)) fun t2 x5=>?_
   walk_at "rd";refine rAddR.t (.of (A7 A1 x5)) (.of A1) (by simp) (by simp only [A3,E5,P9];exact O2 (by lia)) (fun e=>absurd (List.map_eq_nil_iff.mp e) hm) fun _ t3 nt3=>⟨by decide,fun p4 aR=>?_⟩
   have S3:Same H2 (A0 (A0 (A0 (A0 H2 p1 (.tup [V.str (ai "forget")])) t2 (.tup ((K1 xs ks).map V.str))) t3 (.tup ([V.str (ai "forget")]++(K1 xs ks).map V.str))) p4 (.tup [V.str (ai "row")])):=((Same.new V1).trans (Same.new x5)).trans ((Same.new nt3).trans (Same.new aR));have h3:A0 (A0 (A0 (A0 H2 p1 (.tup [V.str (ai "forget")])) t2 (.tup ((K1 xs ks).map V.str))) t3 (.tup ([V.str (ai "forget")]++(K1 xs ks).map V.str))) p4 (.tup [V.str (ai "row")]) t3=some (tupR (Q6,K1 xs ks)):=A7 A1 aR;have h4:A0 (A0 (A0 (A0 H2 p1 (.tup [V.str (ai "forget")])) t2 (.tup ((K1 xs ks).map V.str))) t3 (.tup ([V.str (ai "forget")]++(K1 xs ks).map V.str))) p4 (.tup [V.str (ai "row")]) p4=some (.tup [V.str (ai "row")]):=A1;generalize A0 (A0 (A0 (A0 H2 p1 (.tup [V.str (ai "forget")])) t2 (.tup ((K1 xs ks).map V.str))) t3 (.tup ([V.str (ai "forget")]++(K1 xs ks).map V.str))) p4 (.tup [V.str (ai "row")])=H3 at S3 h3 h4;have nE:ys≠[]:=fun e=>hm (by
    rw [e] at pm;rw [pm.symm.eq_nil];rfl)
   refine rTupR.l (.of (S3 _ _ (rQ _ _ hb))) fun t5 zP=>?_
   walk_at "rd";refine rAddR.t (.of (A7 h4 zP)) (.of A1) (by simp) (by simp only [A3,E5,P9];exact O2 (by lia)) (fun e=>absurd (List.map_eq_nil_iff.mp e) nE) fun _ t6 nt6=>⟨by decide,fun l nl=>?_⟩
   have S06:=rQ.trans (S3.trans ((Same.new (u:=HO.tup (ys.map V.str)) zP).trans (Same.new (u:=HO.tup ([V.str (ai "row")]++ys.map V.str)) nt6)));refine q l [t3,t6] ks _ (S06.free nl) (S06.trans (Same.new nl)) kp W2 ?_;rw [if_neg hm];exact ⟨A1,.cons (A7 (A7 (A7 h3 zP) nt6) nl) (.cons (A7 A1 nl) .nil)⟩
theorem sc_looks:FnScope zAo zA4 (B5 fJ):=E7
theorem vae:LS fJ "marks":=lq
theorem anv(F:FunD K "looks" "looks" fJ f fd)(T:Txt P w K mg C ae)(G_units:FO P w K mg base 6 "units" zA4 [] (alz C)):FnOk P w K mg base D1 7 f fd zA4 (alW C):=by
 refine F.ok sc_looks ?_ ?_
 .walk_at "ln"
 .intro cdv A outer s H vs Q E hr h;have hZ:=E6 sc_looks;refine ⟨_,QSs.out (A5 (C5 2 (E4 G_units (K8 (qz 0) (qz 1))))
   (A5 (fC (n:=3) sc_looks.nd rfl vae (P8:CompOk zAo (B5 fJ).names _ ["unit"] 1 []) (N0 (K:=K) (qz 2)) (fun _ _ _ _ _=>N9 (n:=0) (show List.Nodup (["unit"]:Ab) by decide +kernel) rfl (Or.inl rfl)) (fun _ _ _ _ _=>Y5) (fun _ _ _ _ _=>(qe_ix (K:=K) (F9 0) A2)))
   (Y6 (qs_if (T7 (K:=K) (U7 (K:=K) (qz 0))) (A6 (Z9 (qe_m0 (K:=K) q0 kQ kP lG (qz 3)))) G5)
   (A6 (C9 (O9 (dB (V4  (P8:CompOk zAo (B5 fJ).names _ ["unit"] 1 []) (N0 (K:=K) (qz 2)) (fun _ _ _ _ _=>N9 (n:=0) (show List.Nodup (["unit"]:Ab) by decide +kernel) rfl (Or.inl rfl)) (fun _ _ _ _ _=>Y5) (fun _ _ _ _ _=>(Q4 (K:=K) (F9 0) X0 (N7 A2)))) (qz 3) (V4  (P8:CompOk zAo (B5 fJ).names _ ["unit"] 1 []) (N0 (K:=K) (qz 2)) (fun _ _ _ _ _=>N9 (n:=0) (show List.Nodup (["unit"]:Ab) by decide +kernel) rfl (Or.inl rfl)) (fun _ _ _ _ _=>Y5) (fun _ _ _ _ _=>(qe_ix (K:=K) (F9 0) A2))) (qz 1)))))))),?_⟩
  obtain ⟨x,j,ll,ml,md,z,g,R,L,M,rfl,hO,hk,hz,hw,hs,q⟩:=h;obtain ⟨b1,b2,b3⟩:=aid hs (w:=hasW R "figures") (ks:=L8 R) (y:=z) hz;walk_at "rd";refine ⟨x,j,ll,ml,md,z,g,R,L,M,rfl,hO,hk,hz,hw,hs,fun u H1 nu S1 hU=>?_⟩;generalize Q5 (stepY R L M) (cutF (hasW R "figures") (L8 R) z.cps.toList).2=U at *;obtain ⟨es,e1,e2⟩:=hU;have b8:=Paired.length e2;walk_at "rd";refine ⟨⟨_,.of e1⟩,compL (xs:=es.map fun e=>V.ref e.1) [] rfl (fun D i ys H2=>Same H1 H2/\ys=(es.take i).map fun e=>V.ref e.2) (fun D nD=>⟨Same.new nD,rfl⟩) (by rintro D i ys H2 nD _ ⟨S,_⟩;exact .of (S _ _ e1)) ?_ ?_⟩
  .rintro D i y ys H2 nD hi hy ⟨S2,rfl⟩ hD R3;obtain ⟨e,he,rfl⟩:=G8 (f:=fun e:ab×ab=>V.ref e.1) hy;obtain ⟨w,rR,dP⟩:=Paired.at e2 he;have gD:i<es.length:=(F8.mp he).1;walk_at "rd";refine ⟨_,.inr (.of (S2 _ _ dP.1)),V.ref e.2,M6 (j:=2) rfl,hD,by simp only [A3,G9];exact G4 (by lia),CW.put hi R3 ⟨S2.put nD,?_⟩⟩;rw [L0 he,D0];rfl
  rintro D ys H2 nD ⟨S2,rfl⟩ hD _;rw [A3,K5] at hD;have zQ:=ad4 e2;refine bM (fun Y H'=>Y=[some (.ref x),some (.str z),some (.ref u),some (.ref D)]/\Same H1 H'/\∃ rS:Ai,H' D=some (.lst (rS.map V.ref))/\Paired (fun c (x:Am)=>H1 c=some (.tup (x.map V.int))) rS ((if hasW R "behind"=true then U.reverse else U).map fun u=>u.2.2.1)) ?_ ?_
  .obtain ⟨dx,ho⟩:=hO.ob;walk_at "rd";refine ⟨_,_,_,S2 _ _ (S1 _ _ ho),T.cl,T.na_behind,_,ah4 _ _ _ _ _ _,_,rfl,?_⟩
   by_cases hb:hasW R "behind"=true
   .rw [if_pos hb,if_pos hb];refine ⟨M7 hD,D,_,rfl,rfl,hD,S2.put nD,(es.map (·.2)).reverse,?_,?_⟩
    .rw [A1,eL,j3];rfl
    .rw [eL];exact afK zQ
   .rw [if_neg hb,if_neg hb];refine ⟨S2,es.map (·.2),?_,zQ⟩;rw [hD,j3];rfl
  rintro Y H3 ⟨rfl,S3,rS,hD3,hP3⟩;clear hD S2 zQ;have jI:=S3 _ _ e1;walk_at "rd";refine ⟨⟨_,.of jI⟩,compL (xs:=es.map fun e=>V.ref e.1) [] rfl (fun D i ys H2=>Same H3 H2/\∃ as:Ai,ys=as.map V.ref/\Paired (fun c (x:Am)=>H2 c=some (.tup (x.map V.int))/\H3 c=none/\c≠D) as ((U.take i).map fun u=>[u.1,u.2.1])) (fun D nD=>⟨Same.new nD,[],rfl,.nil⟩) (by rintro D i ys H2 nD _ ⟨S,_⟩;exact .of (S _ _ jI)) ?_ ?_⟩
  .rintro D i y ys H2 nD2 hi hy ⟨S2,as,rfl,hP⟩ hD R3;obtain ⟨e,he,rfl⟩:=G8 (f:=fun e:ab×ab=>V.ref e.1) hy;obtain ⟨w,rR,dP⟩:=Paired.at e2 he;have gD:i<es.length:=(F8.mp he).1;have nJ:=Paired.length hP;rw [A3,G9] at nJ;walk_at "rd";refine rSlR.t (.of (S2 _ _ (S3 _ _ dP.1))) (by simp [HT.sIx]) fun p np=>?_
   rw [show cutV [V.int w.1,V.int w.2.1,V.ref e.2,V.int w.2.2.2] none (some 2)=[w.1,w.2.1].map V.int from iM _ 2];have S4:Same H2 (A0 H2 p (.tup ([w.1,w.2.1].map V.int))):=Same.new np;have dL:A0 H2 p (.tup ([w.1,w.2.1].map V.int)) p=some (.tup ([w.1,w.2.1].map V.int)):=A1;have hpD:p≠D:=fun e=>by rw [e,hD] at np;cases np
   generalize A0 H2 p (.tup ([w.1,w.2.1].map V.int))=H4 at S4 dL;refine ⟨S4 _ _ hD,by rw [A3];exact G4 (by lia),CW.put hi R3 ⟨(S2.trans S4).put nD2,as++[p],by rw [D0];rfl,?_⟩⟩;rw [L0 rR,D0];exact Paired.snoc (L7 hP fun c x ⟨h1,h2,h3⟩=>⟨by rw [A4 h3];exact S4 _ _ h1,h2,h3⟩) ⟨by rw [A4 hpD];exact dL,S2.free np,hpD⟩
  rintro D4 ys H4 nD4 ⟨S4,as1,rfl,hP4⟩ hD4 _;rw [A3,b8,K5] at hP4;have hi4:=S4 _ _ jI;refine ⟨⟨_,.of hi4⟩,compL (xs:=es.map fun e=>V.ref e.1) [] rfl (fun D i ys H2=>Same H4 H2/\ys=((U.take i).map fun u=>u.2.2.2).map V.int) (fun D nD=>⟨Same.new nD,rfl⟩) (by rintro D i ys H2 nD _ ⟨S,_⟩;exact .of (S _ _ hi4)) ?_ ?_⟩
  .rintro D i y ys H2 nD2 hi hy ⟨S2,rfl⟩ hD R3;obtain ⟨e,he,rfl⟩:=G8 (f:=fun e:ab×ab=>V.ref e.1) hy;obtain ⟨w,rR,dP⟩:=Paired.at e2 he;have gD:i<es.length:=(F8.mp he).1;walk_at "rd";refine ⟨_,.inr (.of (S2 _ _ (S4 _ _ (S3 _ _ dP.1)))),V.int w.2.2.2,M6 (j:=3) rfl,hD,by simp only [A3,G9];exact G4 (by lia),CW.put hi R3 ⟨S2.put nD2,?_⟩⟩;rw [L0 rR,D0,D0];rfl
  rintro D5 ys H5 nD5 ⟨S5,rfl⟩ hD5 _;rw [A3,b8,K5] at hD5;refine ⟨by decide,fun p np=>?_⟩;have S6:Same H5 (A0 H5 p (.lst [V.ref D4,V.ref D,V.ref D5,V.str z])):=Same.new np;have zR:=S4.trans (S5.trans S6);refine q p _ ((S1.trans (S3.trans (S4.trans S5))).free np) (S1.trans (S3.trans zR)) ⟨_,A1,.cons ?_ (.cons ?_ (.cons ?_ (.cons rfl .nil)))⟩
  .exact ⟨D4,as1,rfl,(S5.trans S6) _ _ hD4,L7 hP4 fun c x h=>(S5.trans S6) _ _ h.1⟩
  .exact ⟨D,rS,rfl,zR _ _ hD3,L7 hP3 fun c x h=>zR _ _ (S3 _ _ h)⟩
  .exact ⟨D5,rfl,S6 _ _ hD5⟩
theorem afX:FnScope ["order", "one", "other", "strength", "ours", "theirs", "level"] zAb (B5 jA):=E7
theorem afY(F:FunD K "compare" "compare" jA f fd)(T:Txt P w K mg C ae)(G_looks:FO P w K mg base 7 "looks" zA4 [] (alW C)):FnOk P w K mg base D1 8 f fd zAb (mD C):=by
 refine F.ok afX ?_ ?_
 .walk_at "ln"
 .intro cdv A outer s H vs Q E hr h;have hu:=hr.units;have hZ:=E6 afX;refine ⟨_,QSs.out (A5 (C5 4 (E4 G_looks (K8 (qz 0) (qz 1))))
   (A5 (C5 5 (E4 G_looks (K8 (qz 0) (qz 2))))
   (A5 (N8 bd.never (qi_r1 T.b_range (C3 (qz 3))) (K7 6) (A6 (qs_if (D6 (q_ne (K:=K) hu) (qe_ix (K:=K) (qz 4) (qz 6)) (qe_ix (K:=K) (qz 5) (qz 6))) (A6 (C9 (iK (D6 (q_ltK hu (K:=K)) (qe_ix (K:=K) (qz 4) (qz 6)) (qe_ix (K:=K) (qz 5) (qz 6))) (qe_un q_neg A2) A2))) G5)))
   (A6 (C9 A2))))),?_⟩
  obtain ⟨x,j,ll,ml,md,z,z',n,g,R,L,M,rfl,hn,hO,hk,hz,l9,hw,hw',hs,q⟩:=h;walk_at "rd";refine ⟨x,j,ll,ml,md,z,g,R,L,M,rfl,hO,hk,hz,hw,hs,fun l H1 nl S1 hl=>?_⟩;refine ⟨x,j,ll,ml,md,z',g,R,L,M,rfl,hO.same S1,hk,l9,hw',hs,fun l' H2 nl' S2 hl'=>?_⟩;have hkd:=aij (hasW R "behind") (hasW R "behind") (Q5 (stepY R L M) (cutF (hasW R "figures") (L8 R) z.cps.toList).2) (Q5 (stepY R L M) (cutF (hasW R "figures") (L8 R) z'.cps.toList).2) z z';have W1:=hl.same S2;have A9:(f9 (hasW R "behind") (Q5 (stepY R L M) (cutF (hasW R "figures") (L8 R) z.cps.toList).2) z).length=4:=rfl;have hlen':(f9 (hasW R "behind") (Q5 (stepY R L M) (cutF (hasW R "figures") (L8 R) z'.cps.toList).2) z').length=4:=rfl;unfold mC at q;generalize f9 (hasW R "behind") (Q5 (stepY R L M) (cutF (hasW R "figures") (L8 R) z.cps.toList).2) z=ds at *;generalize f9 (hasW R "behind") (Q5 (stepY R L M) (cutF (hasW R "figures") (L8 R) z'.cps.toList).2) z'=ds' at *;obtain ⟨vs,v1,v2⟩:=W1;obtain ⟨vs',w1,w2⟩:=hl';have z1:=Paired.length v2;have z2:=Paired.length w2;refine ⟨by lia,by lia,forRs (fun i Y H'=>(∃ u:Ap,Y=[some (.ref x),some (.str z),some (.str z'),some (.int n),some (.ref l),some (.ref l'),u])/\H'=H2/\∀ k<i,ds[k]?=ds'[k]?) ⟨⟨none,rfl⟩,rfl,by simp⟩ ?_ ?_⟩
  .rintro P' Bk hP i Y H' hi ⟨⟨u,rfl⟩,rfl,dI⟩;have L3:i<n:=by simpa using hi
   have a1:vs[i]?=some vs[i]:=L6 (by lia);have a2:vs'[i]?=some vs'[i]:=L6 (by lia);obtain ⟨d,hd,ld⟩:=Paired.at v2 a1;obtain ⟨d',fN,ld'⟩:=Paired.at w2 a2;have kd:=hkd i d d' hd fN;generalize vs[i]=v at *;generalize vs'[i]=v' at *;have i1:K6 vs (0+(i:Int))=some v:=by rw [Int.zero_add];exact M6 a1
   have i2:K6 vs' (0+(i:Int))=some v':=by rw [Int.zero_add];exact M6 a2
   walk_at "rd";refine ⟨_,.inl (.of v1),_,i1,_,.inl (.of w1),_,i2,LvAt.ne ld ld' kd ⟨_,rfl,?_⟩⟩
   by_cases nV:d=d'
   .rw [if_neg (by simp [nV])];refine hP _ _ _ ⟨⟨_,rfl⟩,rfl,fun k hk=>?_⟩
    by_cases hki:k=i
    .rw [hki,hd,fN,nV]
    .exact dI k (by lia)
   .rw [if_pos (by simp [nV])];have hq:=q H' (S1.trans S2);rw [xJ L3 hd fN dI nV] at hq;unfold cmpD at hq;rw [if_neg nV] at hq;refine ⟨_,.inl (.of v1),_,i1,_,.inl (.of w1),_,i2,LvAt.lt ld ld' kd ⟨_,rfl,?_⟩⟩
    by_cases C4:d.lt d'=true
    .rw [if_pos C4] at hq ⊢
     exact hq
    .rw [if_neg C4] at hq ⊢
     exact hq
  rintro Y H' ⟨⟨u,rfl⟩,rfl,dI⟩;walk_at "rd"
  have:=q H' (S1.trans S2)
  rw [alX (by simpa using dI)] at this;exact this
theorem afZ:FnScope zA0 zA0 (B5 wK):=E7
theorem ajY(F:FunD K "is_sign" "is_sign" wK f fd)(T:Txt P w K mg C ae):FnOk P w K mg base D1 1 f fd zA0 ai0:=by
 refine F.ok afZ ?_ ?_
 .walk_at "ln"
 .intro cdv A outer s H vs Q E hr h;have hu:=hr.units;have hZ:=E6 afZ;refine ⟨_,QSs.out (A6 (C9 (cV (lD q_le q_le I0 (qz 0) I0) (iJ (lC (q_ne (K:=K) hu) (qe_cB q_ord T.b_ord arK (C3 (qz 0))) (eY T.g_PER_CENT)))))),?_⟩;obtain ⟨c,rfl,q⟩:=h;walk_at "rd";have e1:(ai "!").cps.toList=[33]:=by decide +kernel
  have e2:(ai "~").cps.toList=[126]:=by decide +kernel
  rw [e1,e2];simp only [uN];refine iteN (fun h1=>iteN (fun h2=>⟨rfl,?_⟩) fun h2=>?_) fun h1=>?_
  .have e:signB c=!decide ((c:Int)=37):=by
    unfold signB;rw [decide_eq_true (by lia:33<=c),decide_eq_true (by lia:c<=126)]
    by_cases h3:c=37
    .subst h3;rfl
    .rw [decide_eq_true h3,decide_eq_false (by lia:¬ (c:Int)=37)];rfl
   rw [e] at q;exact q
  .have e:signB c=false:=by unfold signB;rw [decide_eq_false (by lia:¬ c<=126)];simp
   rw [e] at q;exact q
  .have e:signB c=false:=by unfold signB;rw [decide_eq_false (by lia:¬ 33<=c)];rfl
   rw [e] at q;exact q
theorem afe:FnScope ["thing"] ["thing"] (B5 qE):=E7
theorem aiw(F:FunD K "is_piece" "is_piece" qE f fd)(T:Txt P w K mg C ae)(G_is_sign:FO P w K mg base 1 "is_sign" zA0 [] ai0):FnOk P w K mg base D1 2 f fd ["thing"] ahk:=by
 refine F.ok afe ?_ ?_
 .walk_at "ln"
 .intro cdv A outer s H vs Q E hr h;have hZ:=E6 afe;refine ⟨_,QSs.out (A5 (qs_if (eZ (T7 (K:=K) (qe_cB q_isi T.b_isinstance adf (K8 (qz 0) (qe_ty T.b_str anF))))) (A6 (C9 qe_bl)) G5)
   (A6 (C9 (cV (lD q_le q_le A2 (W0 (K:=K) T.b_len (qz 0)) A2) (iJ (qe_cB (q_all (calm:=true)) T.b_all tQ (C3 (V4  (P8:CompOk ["thing"] (B5 qE).names _ zA0 1 []) (tX (qz 0)) (fun _ _ _ _ _=>N9 (n:=0) (show List.Nodup (zA0:Ab) by decide +kernel) rfl (Or.inl rfl)) (fun _ _ _ _ _=>Y5) (fun _ _ _ _ _=>(E4 G_is_sign (C3 (F9 0)))))))))))),?_⟩
  obtain ⟨x,T',rfl,ht,hz,q⟩:=h
  by_cases hx:∃ z,x=.str z
  .obtain ⟨z,rfl⟩:=hx;have hz:=hz z rfl;have len:z.length=z.cps.toList.length:=by simp [Str.length]
   walk_at "rd";refine ⟨"str",rfl,rfl,?_⟩;rw [show (!iF "str" "str")=false from rfl];refine iteF ⟨O2 (by lia),iteD (fun h1=>iteD (fun h2=>?_) fun h2=>?_) fun h1=>?_⟩
   .refine compS [] rfl (fun D i ys H4=>ys=((z.cps.toList.take i).map signB).map V.bl/\Same H H4) (fun D nD=>⟨rfl,Same.new nD⟩) ?_ ?_
    .rintro D i x ys H4 nD hi hx ⟨rfl,S⟩ hD hy;walk_at "rd";refine ⟨x,rfl,hD,?_,CW.put hi hy ⟨?_,S.put nD⟩⟩
     .rw [A3,A3,G9];exact G4 (by lia)
     .rw [V7,hx]
      simp
    .rintro D ys H4 nD ⟨rfl,S⟩ hD hy;refine ⟨_,rfl,hD,?_⟩;have e:fK (.str z)=((z.cps.toList.take z.cps.size).map signB).all id:=by
      show Q2 z=_;unfold Q2;rw [decide_eq_true (by lia:1<=z.length),decide_eq_true (by lia:z.length<=2),i8 (by simp)]
      simp
     rw [e] at q;exact q H4 S
   .have e:fK (.str z)=false:=by
     show Q2 z=_;unfold Q2;rw [decide_eq_false (by lia:¬ z.length<=2)]
     simp
    rw [e] at q;exact q H (Same.refl H)
   .have e:fK (.str z)=false:=by
     show Q2 z=_;unfold Q2;rw [decide_eq_false (by lia:¬ 1<=z.length)]
     simp
    rw [e] at q;exact q H (Same.refl H)
  .walk_at "rd";refine ⟨T',ht,rfl,?_⟩;rw [ass ht fun z e=>hx ⟨z,e⟩];rw [show fK x=false from alN fun z e=>hx ⟨z,e⟩] at q;exact iteT (q H (Same.refl H))
theorem af0:FnScope ["words", "pieces"] zA8 (B5 qF):=E7
theorem ajZ(F:FunD K "is_rule" "is_rule" qF f fd)(T:Txt P w K mg C ae)(G_is_piece:FO P w K mg base 2 "is_piece" ["thing"] [] ahk):FnOk P w K mg base D1 3 f fd zA8 (ai1 K):=by
 refine F.ok af0 ?_ ?_
 .walk_at "ln"
 .intro cdv A outer s H vs Q E hr h;have hu:=hr.units;obtain ⟨a_BARE,m_BARE,M_BARE⟩:=T.x_BARE;obtain ⟨a_FEWEST,m_FEWEST,M_FEWEST⟩:=T.x_FEWEST;have hZ:=E6 af0;refine ⟨_,QSs.out (A5 (C5 1 (Q4 (K:=K) (qz 0) (N7 A2) X0))
   (A5 (qs_if (D6 (q_in (K:=K) hu) (qe_ix (K:=K) (qz 0) A2) (aF m_BARE)) (A6 (C9 (aqc (K:=K) (qz 1)))) G5)
   (A5 (qs_if (D6 (aiH M_FEWEST) (qe_ix (K:=K) (qz 0) A2) (aF m_FEWEST)) (A6 (C9 qe_bl)) G5)
   (A6 (C9 (cV (lC q_ge (W0 (K:=K) T.b_len (qz 1)) (lH M_FEWEST (aF m_FEWEST) (qe_ix (K:=K) (qz 0) A2))) (iJ (qe_cB (q_all (calm:=true)) T.b_all tQ (C3 (V4  (P8:CompOk ["words", "pieces"] (B5 qF).names _ ["piece"] 1 []) (N0 (K:=K) (qz 1)) (fun _ _ _ _ _=>N9 (n:=0) (show List.Nodup (["piece"]:Ab) by decide +kernel) rfl (Or.inl rfl)) (fun _ _ _ _ _=>Y5) (fun _ _ _ _ _=>(E4 G_is_piece (C3 (F9 0)))))))))))))),?_⟩
  obtain ⟨a,w,ps,rfl,hS,⟨hps,k9,hc⟩,q⟩:=h;walk_at "rd";refine rSlR.l hS fun p np=>?_
  have ecut:cutV ((w::ps).map V.str) (some 1) none=ps.map V.str:=by
   rw [E2];exact pG _ _
  rw [ecut];have S1:Same H (A0 H p (.lst (ps.map V.str))):=Same.new np;have hp:A0 H p (.lst (ps.map V.str)) p=some (.lst (ps.map V.str)):=A1;generalize A0 H p (.lst (ps.map V.str))=H1 at S1 hp;refine ⟨_,.inl (S1.seq hS),V.str w,O5 _ _,rInR.l (.inr (M_BARE _)) rfl rfl ⟨_,rfl,?_⟩⟩
  rcases hc with ⟨hw,rfl⟩ | ⟨n,hw,hn⟩
  .have e:aE (V.str w) [V.str "figures",V.str "blanks",V.str "behind"]=true:=by
    simp only [D8,Q8,or_false] at hw
    rcases hw with rfl | rfl | rfl <;> decide +kernel
   rw [e];exact iteT ⟨_,fD hp,q _ S1⟩
  .have e:aE (V.str w) [V.str "figures",V.str "blanks",V.str "behind"]=false/\valV [((Sum.inr ("row" : Str):B1),V.int 1),(Sum.inr ("marks" : Str),V.int 1),(Sum.inr ("great" : Str),V.int 2),(Sum.inr ("as" : Str),V.int 2),(Sum.inr ("over" : Str),V.int 1),(Sum.inr ("forget" : Str),V.int 1)] (Sum.inr w)=some (V.int n):=by
    simp only [D8,Q8,or_false,Prod.mk.injEq] at hw
    rcases hw with ⟨rfl,rfl⟩ | ⟨rfl,rfl⟩ | ⟨rfl,rfl⟩ | ⟨rfl,rfl⟩ | ⟨rfl,rfl⟩ | ⟨rfl,rfl⟩ <;> exact ⟨by decide +kernel,by rfl⟩
   rw [e.1];refine iteF ⟨_,.inl (S1.seq hS),V.str w,O5 _ _,?_⟩;walk_at "rd";rw [e.2];refine iteF ⟨ps.length,.inl ⟨_,.of hp,by rw [A3]⟩,_,.inl (S1.seq hS),V.str w,O5 _ _,_,kV_str.mpr rfl,_,e.2,?_⟩;walk_at "rd";rw [decide_eq_true hn];refine iteT ⟨⟨_,.of hp⟩,compL (xs:=ps.map V.str) [] rfl (fun D i ys H4=>ys=U4 i (V.bl true)/\Same H1 H4) (fun D nD=>⟨rfl,Same.new nD⟩) (by rintro D i ys H4 nD _ ⟨_,S⟩;exact .of (S _ _ hp)) ?_ ?_⟩
   .rintro D i x ys H4 nD hi hx ⟨rfl,S⟩ hD hy;obtain ⟨z,hz,rfl⟩:=G8 hx;have hzp:=k9 z (K2 hz);walk_at "rd";refine ⟨V.str z, "str",rfl,rfl,fun z' e'=>?_,fun H5 S5=>?_⟩
    .cases e'
     have:=(cU hzp).2
     lia
    .rw [show fK (V.str z)=true from hzp];rw [A3] at hi;exact ⟨S5 _ _ hD,by rw [kF];exact G4 (by lia),CW.put (by rw [A3];exact hi) hy ⟨by rw [List.replicate_succ'],(S.trans S5).put nD⟩⟩
   .rintro D ys H4 nD ⟨rfl,S⟩ hD hy;walk_at "rd";refine ⟨U4 ps.length true,by rw [hD,A3,List.map_replicate],?_⟩;rw [show (U4 ps.length true).all id=true by simp];exact q _ (S1.trans S)
theorem aed:FnScope ["line", "words"] ["line"] (B5 wM):=E7
theorem ahG(F:FunD K "read_rule" "read_rule" wM f fd)(T:Txt P w K mg C ae)(G_is_rule:FO P w K mg base 3 "is_rule" zA8 [] (ai1 K)):FnOk P w K mg base D1 4 f fd ["line"] afO:=by
 refine F.ok aed ?_ ?_
 .walk_at "ln"
 .intro cdv A outer s H vs Q E hr h;have hZ:=E6 aed;refine ⟨_,QSs.out (A5 (qs_if (eZ (T7 (K:=K) (qe_cB q_isi T.b_isinstance adf (K8 (qz 0) (qe_ty T.b_str anF))))) (A6 aG) G5)
   (A5 (C5 1 (qe_mB (K:=K) gW PySem.F.slot_str_split PySem.F.type_str_split uD (qz 0) (C3 I0)))
   (A5 (qs_if (eZ (T7 (K:=K) (E4 G_is_rule (C3 (qz 1))))) (A6 aG) G5)
   (A6 (C9 (qe_cT (cX (K:=K)) T.b_tuple cT (C3 (qz 1)))))))),?_⟩
  obtain ⟨z,w,ps,rfl,hz,g6,hg,q⟩:=h;walk_at "rd";refine ⟨"str",rfl,rfl,?_⟩;rw [show (!iF "str" "str")=false from rfl];have hl:(w::ps).length<=1001:=by rw [E5];exact Nat.succ_le_succ hg.1
  refine iteF ⟨z, " ",rfl,rfl,by decide,O2 (by lia),by rw [g6];exact O2 (by lia),fun p np=>?_⟩;rw [g6];have S1:Same H (A0 H p (.lst ((w::ps).map V.str))):=Same.new np;have hp:A0 H p (.lst ((w::ps).map V.str)) p=some (.lst ((w::ps).map V.str)):=A1;refine ⟨p,w,ps,rfl,.of hp,hg,fun H2 S2=>⟨true,rfl,iteF ?_⟩⟩;walk_at "rd";exact rTupR.l (.of (S2 _ _ hp)) fun l nl=>q l _ (S1.free (S2.free nl)) (fun b o h=>A7 (S2 b o (S1 b o h)) nl) A1
theorem af1:FnScope ["word"] ["word"] (B5 qG):=E7
theorem aj0(F:FunD K "is_name" "is_name" qG f fd)(T:Txt P w K mg C ae):FnOk P w K mg base D1 1 f fd ["word"] ai5:=by
 refine F.ok af1 ?_ ?_
 .walk_at "ln"
 .intro cdv A outer s H vs Q E hr h;have hZ:=E6 af1;refine ⟨_,QSs.out (A6 (C9 (cV (lD q_le q_le A2 (W0 (K:=K) T.b_len (qz 0)) A2) (iJ (qe_cB (q_all (calm:=true)) T.b_all tQ (C3 (V4  (P8:CompOk ["word"] (B5 qG).names _ zA0 1 []) (tX (qz 0)) (fun _ _ _ _ _=>N9 (n:=0) (show List.Nodup (zA0:Ab) by decide +kernel) rfl (Or.inl rfl)) (fun _ _ _ _ _=>Y5) (fun _ _ _ _ _=>(lD q_le q_le I0 (F9 0) I0))))))))),?_⟩;obtain ⟨z,rfl,hz,q⟩:=h;have len:z.length=z.cps.toList.length:=by simp [Str.length]
  have e1:(ai "a").cps.toList=[97]:=by decide +kernel
  have e2:(ai "z").cps.toList=[122]:=by decide +kernel
  walk_at "rd";refine ⟨O2 (by lia),iteD (fun h1=>iteD (fun h2=>?_) fun h2=>?_) fun h1=>?_⟩
  .refine compS [] rfl (fun D i ys H4=>ys=((z.cps.toList.take i).map fun c=>decide (97<=c)&&decide (c<=122)).map V.bl/\Same H H4) (fun D nD=>⟨rfl,Same.new nD⟩) ?_ ?_
   .rintro D i x ys H4 nD hi hx ⟨rfl,S⟩ hD hy;have m4:((((z.cps.toList.take i).map fun c=>decide (97<=c)&&decide (c<=122)).map V.bl)).length<ak:=by
     rw [A3,A3,G9];exact G4 (by lia)
    walk_at "rd";rw [e1,e2];simp only [uN];refine iteN (fun h3=>⟨hD,m4,CW.put hi hy ⟨?_,S.put nD⟩⟩) fun h3=>⟨hD,m4,CW.put hi hy ⟨?_,S.put nD⟩⟩
    .have e:(decide (97<=x)&&decide (x<=122))=!decide (122<x):=by
      rw [decide_eq_true (by lia:97<=x),aA]
      by_cases h4:x<=122
      .rw [decide_eq_true h4,decide_eq_false (by lia)];rfl
      .rw [decide_eq_false h4,decide_eq_true (by lia)];rfl
     rw [L0 hx,D0,D0];show _=_++[V.bl (decide (97<=x)&&decide (x<=122))];rw [e]
    .have e:(decide (97<=x)&&decide (x<=122))=false:=by rw [decide_eq_false (by lia:¬ 97<=x)];rfl
     rw [L0 hx,D0,D0];show _=_++[V.bl (decide (97<=x)&&decide (x<=122))];rw [e]
   .rintro D ys H4 nD ⟨rfl,S⟩ hD hy;refine ⟨_,rfl,hD,?_⟩;have e:nameB z=((z.cps.toList.take z.cps.size).map fun c=>decide (97<=c)&&decide (c<=122)).all id:=by
     unfold nameB;rw [decide_eq_true (by lia:1<=z.length),decide_eq_true (by lia:z.length<=8),i8 (by simp)]
     simp
    rw [e] at q;exact q H4 S
  .have e:nameB z=false:=by
    unfold nameB;rw [decide_eq_false (by lia:¬ z.length<=8)]
    simp
   rw [e] at q;exact q H (Same.refl H)
  .have e:nameB z=false:=by
    unfold nameB;rw [decide_eq_false (by lia:¬ 1<=z.length)]
    simp
   rw [e] at q;exact q H (Same.refl H)
theorem acq:FnScope zA8 zA8 (B5 wN):=E7
theorem aff(F:FunD K "is_beginning" "is_beginning" wN f fd)(T:Txt P w K mg C ae)(G_is_name:FO P w K mg base 1 "is_name" ["word"] [] ai5):FnOk P w K mg base D1 2 f fd zA8 alR:=by
 refine F.ok acq ?_ ?_
 .walk_at "ln"
 .intro cdv A outer s H vs Q E hr h;have hu:=hr.units;have hZ:=E6 acq;refine ⟨_,QSs.out (A5 (qs_if (D6 (q_ne (K:=K) hu) (qe_ix (K:=K) (qz 0) A2) I0) (A6 (C9 qe_bl)) G5)
   (A5 (qs_if (D6 (q_eq (K:=K) hu) (W0 (K:=K) T.b_len (qz 0)) A2) (A6 (C9 (E4 G_is_name (C3 (qe_ix (K:=K) (qz 0) A2))))) G5)
   (A6 (C9 (cV (lC (q_eq (K:=K) hu) (W0 (K:=K) T.b_len (qz 0)) A2) (cV (E4 G_is_name (C3 (qe_ix (K:=K) (qz 0) A2))) (cV (lC (q_eq (K:=K) hu) (qe_ix (K:=K) (qz 0) A2) I0) (iJ (E4 G_is_name (C3 (qe_ix (K:=K) (qz 0) A2))))))))))),?_⟩
  obtain ⟨a,l,rfl,ha,ho,q⟩:=h
  cases l with
  | beg n x=>
   have hn:=ho.1;obtain ⟨hn1,mG,_⟩:=fL hn
   cases x with
   | none=>
    have ha:H a=some (.lst [V.str "order",V.str n]):=ha;walk_at "rd";refine ⟨_,.inl (.of ha),V.str "order",O5 _ _,?_⟩;walk_at "rd";rw [show (!decide True)=false from rfl];refine iteF ⟨2,.inl ⟨_,.of ha,rfl⟩,iteT ⟨_,.inl (.of ha),V.str n,M6 (j:=1) rfl,n,rfl,by lia,fun H' S=>?_⟩⟩;rw [hn];exact q H' S
   | some e=>
    have he:=ho.2 e rfl;obtain ⟨he1,zI,_⟩:=fL he;have ha:H a=some (.lst [V.str "order",V.str n,V.str "of",V.str e]):=ha;walk_at "rd";refine ⟨_,.inl (.of ha),V.str "order",O5 _ _,?_⟩;walk_at "rd";rw [show (!decide True)=false from rfl];refine iteF ⟨4,.inl ⟨_,.of ha,rfl⟩,iteF ⟨4,.inl ⟨_,.of ha,rfl⟩,iteT ⟨_,.inl (.of ha),V.str n,M6 (j:=1) rfl,n,rfl,by lia,fun H' S=>?_⟩⟩⟩;rw [hn];refine ⟨true,rfl,iteT ⟨_,.inl (.of (S _ _ ha)),V.str "of",M6 (j:=2) rfl,?_⟩⟩;walk_at "rd";rw [show (decide True)=true from rfl];refine iteT ⟨_,.inl (.of (S _ _ ha)),V.str e,M6 (j:=3) rfl,e,rfl,by lia,fun H2 S2=>?_⟩;rw [he];exact q H2 (S.trans S2)
  | rule z=>
   have ho:Fine z:=ho;have ha:H a=some (.lst (V.str z.1::z.2.map V.str)):=ha;have G0:¬ z.1=(ai "order"):=by
    rcases ho.2.2 with ⟨hw,_⟩ | ⟨n,hw,_⟩
    .simp only [D8,Q8,or_false] at hw
     rcases hw with hw | hw | hw <;> rw [hw] <;> decide +kernel
    .simp only [D8,Q8,or_false,Prod.mk.injEq] at hw
     rcases hw with ⟨hw,_⟩ | ⟨hw,_⟩ | ⟨hw,_⟩ | ⟨hw,_⟩ | ⟨hw,_⟩ | ⟨hw,_⟩ <;> rw [hw] <;> decide +kernel
   walk_at "rd";refine ⟨_,.inl (.of ha),V.str z.1,O5 _ _,?_⟩;walk_at "rd";rw [decide_eq_false G0];exact iteT (q H (Same.refl H))
theorem adF:FnScope ["self", "words", "name"] zB1 (B5 wO):=E7
theorem agy(F:FunD K "begin" "Book.begin" wO f fd)(T:Txt P w K mg C ae):FnOk P w K mg base D1 1 f fd zB1 (alS ae):=by
 refine F.ok adF ?_ ?_
 .walk_at "ln"
 .intro cdv A outer s H vs Q E hr h;have E1:=hu_of hr;have hu:=hr.units;have hZ:=E6 adF;refine ⟨_,QSs.out (A5 (C5 2 (qe_ix (K:=K) (qz 1) A2))
   (A5 (qs_if (D6 (q_in (K:=K) hu) (qz 2) (U7 (K:=K) (qz 0))) (A6 aG) G5)
   (A5 (f8 E1 (U7 (K:=K) (qz 0)) (qz 2) (O9 R9))
   (Y6 (qs_if (D6 q_gt (W0 (K:=K) T.b_len (qz 1)) A2) (A6 (f8 E1 (U7 (K:=K) (qz 0)) (qz 2) (qe_ix (K:=K) (qz 1) A2))) G5)
   (A6 (t9 (K:=K) (qz 0) (qz 2))))))),?_⟩
  obtain ⟨b,w,dx,o,e,n,x,H0,B,ad,as,k,rfl,hw,bk,ft,gd,q⟩:=h;have hw1:K6 ((Ln.beg n x).words.map V.str) 1=some (V.str n):=by cases x <;> exact M6 (j:=1) rfl
  walk_at "rd";refine ⟨_,.inl (.of hw),V.str n,hw1,ae,dx,_,bk.obj,T.cl_Book,T.na_own,V.ref o,mB _ _ _ _,?_⟩;walk_at "rd";refine rInR.d (W8 (k:=Sum.inr n) bk.own) ⟨_,rfl,?_⟩;rw [O3,if_neg ft.1,Option.isSome_none,z9];refine iteF fun p np=>⟨ae,dx,_,A7 bk.obj np,T.cl_Book,T.na_own,V.ref o,mB _ _ _ _,o,rfl,_,j8 (k:=Sum.inr n) (A7 bk.own np) (by rw [b0];have:=gd.cnt;exact G4 (by lia)),?_⟩
  have jW:b≠o:=fun z=>by have:=bk.obj;rw [z,bk.own] at this;cases this
  have k5:b≠e:=fun z=>by have:=bk.obj;rw [z,bk.eld] at this;cases this
  have hwo:w≠o:=fun z=>by rw [z,bk.own] at hw;cases hw
  have hwe:w≠e:=fun z=>by rw [z,bk.eld] at hw;cases hw
  have npH0:H0 p=none:=bk.same.free np;have dr1:=bk.dr.more ft.1 np npH0;have noT:∀ {H:Hp} {q:ab} {kvs:List (B1×V)},H q=some (.dK kvs)->∀ z:Rl,H q≠some (tupR z):=fun h z e=>by rw [h] at e;cases e
  have nad:∀ {q:ab} {kvs:List (B1×V)},H q=some (.dK kvs)->∀ t∈B.names++[n],(if t=n then p else ad t)≠q:=fun {q kvs} h t ht=>by
   by_cases z:t=n
   .rw [if_pos z];exact fun z2=>by rw [<- z2,np] at h;cases h
   .rw [if_neg z];intro z2;have zS:t∈B.names:=by
     rcases J9.mp ht with h | h
     .exact h
     .exact absurd (J8.mp h) z
    have:=(bk.dr.row t zS).top
    rw [z2,h] at this
    cases this
  have h2o:A0 (A0 H p (.lst [])) o (.dK (putK (A8 B.names fun t=>V.ref (ad t)) (Sum.inr n) (V.ref p))) o=some (.dK (A8 (B.names++[n]) fun t=>V.ref (if t=n then p else ad t))):=by
   rw [A1,u6 _ ft.1];refine congrArg (fun x=>some (HO.dK x)) (T0 fun t _=>?_)
   by_cases z:t=n
   .rw [if_pos z,if_pos z]
   .rw [if_neg z,if_neg z]
  have h2b:A0 (A0 H p (.lst [])) o (.dK (putK (A8 B.names fun t=>V.ref (ad t)) (Sum.inr n) (V.ref p))) b=some (.ins ae dx (flds o e (orNon B.nw) k)):=by rw [A4 jW];exact A7 bk.obj np
  have h2e:A0 (A0 H p (.lst [])) o (.dK (putK (A8 B.names fun t=>V.ref (ad t)) (Sum.inr n) (V.ref p))) e=some (.dK (A8 (B.names.filter fun t=>(B.el t).isSome) fun t=>.str ((B.el t).getD ""))):=by rw [A4 bk.oe.symm];exact A7 bk.eld np
  have h2w:A0 (A0 H p (.lst [])) o (.dK (putK (A8 B.names fun t=>V.ref (ad t)) (Sum.inr n) (V.ref p))) w=some (.lst ((Ln.beg n x).words.map V.str)):=by rw [A4 hwo];exact A7 hw np
  have S2:Same H0 (A0 (A0 H p (.lst [])) o (.dK (putK (A8 B.names fun t=>V.ref (ad t)) (Sum.inr n) (V.ref p)))):=(bk.same.trans (Same.new np)).put bk.no;have zT:=dr1.put (b:=o) (v:=.dK (putK (A8 B.names fun t=>V.ref (ad t)) (Sum.inr n) (V.ref p))) (nad bk.own) (noT (A7 bk.own np));generalize A0 (A0 H p (.lst [])) o (.dK (putK (A8 B.names fun t=>V.ref (ad t)) (Sum.inr n) (V.ref p)))=H2 at h2o h2b h2e h2w S2 zT ⊢
  refine bM (fun Y H3=>Y=[some (.ref b),some (.ref w),some (.str n)]/\H3 b=some (.ins ae dx (flds o e (orNon B.nw) k))/\H3 o=some (.dK (A8 (B.names++[n]) fun t=>V.ref (if t=n then p else ad t)))/\
    H3 e=some (.dK (A8 ((B.names++[n]).filter fun t=>(if t=n then x else B.el t).isSome) fun t=>.str ((if t=n then x else B.el t).getD "")))/\Same H0 H3/\DR H0 H3 (B.names++[n]) (fun t=>if t=n then p else ad t) (fun t=>if t=n then [] else as t) (fun t=>if t=n then [] else B.rl t)) ?_ ?_
  .walk_at "rd";have oldE:(A8 (B.names.filter fun t=>(B.el t).isSome) fun t=>V.str ((B.el t).getD ""))=A8 (B.names.filter fun t=>(B.el t).isSome) fun t=>V.str ((if t=n then x else B.el t).getD ""):=T0 fun t ht=>by rw [if_neg (fun z=>ft.1 (by rw [<- z];exact (N5.mp ht).1))]
   cases x with
   | none=>
    refine ⟨2,.inl ⟨_,.of h2w,rfl⟩,iteF ⟨h2b,h2o,?_,S2,zT⟩⟩;rw [h2e,anm ft.1,oldE]
   | some y=>
    refine ⟨4,.inl ⟨_,.of h2w,rfl⟩,iteT ⟨_,.inl (.of h2w),V.str y,M6 (j:=3) rfl,ae,dx,_,h2b,T.cl_Book,T.na_elders,V.ref e,anV _ _ _ _,e,rfl,_,j8 (k:=Sum.inr n) h2e (by rw [b0];have:=gd.cnt;have h3:=aX (fun t=>(B.el t).isSome) B.names;exact G4 (by lia)),?_,?_,?_,S2.put bk.ne,zT.put (nad bk.eld) (noT h2e)⟩⟩
    .rw [A4 k5];exact h2b
    .rw [A4 bk.oe];exact h2o
    .rw [A1,ann ft.1,u6 _ (fun z=>ft.1 (N5.mp z).1)];refine congrArg (fun x=>some (HO.dK x)) (T0 fun t _=>?_)
     by_cases z:t=n
     .rw [if_pos z,if_pos z];rfl
     .rw [if_neg z,if_neg z]
  rintro Y H3 ⟨rfl,h3b,h3o,h3e,S3,dr3⟩;walk_at "rd";refine ⟨ae,dx,_,h3b,T.cl_Book,T.na_newest,(by show 4<1000;decide),?_⟩;rw [asv];have noI:∀ z:Rl,H3 b≠some (tupR z):=fun z e=>by rw [h3b] at e;cases e
  refine q _ _ _ ⟨A1,?_,?_,dr3.put (fun t ht z=>?_) noI,bk.nb,bk.no,bk.ne,bk.oe,S3.put bk.nb⟩
  .rw [A4 jW.symm];exact h3o
  .rw [A4 k5.symm];exact h3e
  .have:=(dr3.row t ht).top
   rw [z,h3b] at this
   cases this
theorem ab9:FnScope ["self", "line", "rule"] zAc (B5 wP):=E7
theorem aej(F:FunD K "add_rule" "Book.add_rule" wP f fd)(T:Txt P w K mg C ae)(G_read_rule:FO P w K mg base 4 "read_rule" ["line"] [] afO):FnOk P w K mg base D1 5 f fd zAc (ahq ae):=by
 refine F.ok ab9 ?_ ?_
 .walk_at "ln"
 .intro cdv A outer s H vs Q E hr h;have E1:=hu_of hr;have hu:=hr.units;have hZ:=E6 ab9;refine ⟨_,QSs.out (A5 (qs_if (D6 q_isN (U7 (K:=K) (qz 0)) bI) (A6 aG) G5)
   (A5 (aqp (fun _=>(C5 2 (E4 G_read_rule (C3 (qz 1))))))
   (A6 (U9 (K:=K) (Y4 E1 (U7 (K:=K) (qz 0)) (U7 (K:=K) (qz 0))) (qz 2))))),?_⟩
  obtain ⟨b,dx,o,e,z,H0,B,ad,as,k,rfl,bk,ft,gd,q⟩:=h;obtain ⟨t,rT⟩:∃ t,B.nw=some t:=by
   cases hh:B.nw with
   | none=>exact absurd hh ft.1
   | some t=>exact ⟨t,rfl⟩
  have ht:=gd.nw t rT;have hok:LnOk (.rule z):=ft.ok;walk_at "rd";refine ⟨ae,dx,_,bk.obj,T.cl_Book,T.na_newest,orNon B.nw,anW _ _ _ _,?_⟩;rw [rT];refine iteF ⟨(Ln.rule z).text,z.1,z.2,rfl,K9 (Ln.len hok) (by decide),Ln.split hok,ft.2,fun p H1 np S1 hp=>?_⟩;have b1:=bk.keep S1;refine ⟨ae,dx,_,b1.obj,T.cl_Book,T.na_own,V.ref o,mB _ _ _ _,ae,dx,_,b1.obj,T.cl_Book,T.na_newest,orNon B.nw,anW _ _ _ _,o,rfl,V.ref (ad t),.inl ⟨_,Sum.inr t,.inl b1.own,by rw [rT];rfl,by rw [O3,if_pos ht]⟩,M7 (b1.dr.row t ht).top,appOk (b1.dr.row t ht).top ?_ ?_⟩
  .rw [A3,show (as t).length=(B.rl t).length from Paired.length (b1.dr.row t ht).row]
   have:=gd.len t ht
   exact G4 (by lia)
  have aL:H1 p=some (tupR z):=hp;have O6:H1 (ad t)=some (.lst ((as t).map V.ref)):=(b1.dr.row t ht).top;refine q _ _ _ ⟨?_,?_,?_,(b1.dr.app ht aL).congr fun u hu=>?_,bk.nb,bk.no,bk.ne,bk.oe,b1.same.put (bk.dr.new t ht)⟩
  .rw [A4 (fun z=>by rw [<- z,b1.obj] at O6;cases O6)];exact b1.obj
  .rw [A4 (fun z=>by rw [<- z,b1.own] at O6;cases O6)];exact b1.own
  .rw [A4 (fun z=>by rw [<- z,b1.eld] at O6;cases O6)];exact b1.eld
  .show (if u=t then B.rl t++[z] else B.rl u)=if B.nw=some u then B.rl u++[z] else B.rl u
   rw [rT]
   by_cases h:u=t
   .rw [if_pos h,h,if_pos rfl]
   .rw [if_neg h,if_neg (fun z=>h (bh z).symm)]
theorem aee:FnScope ["self", "line", "words"] zAc (B5 wQ):=E7
theorem ahH(F:FunD K "tell" "Book.tell" wQ f fd)(T:Txt P w K mg C ae)(G_is_beginning:FO P w K mg base 2 "is_beginning" zA8 [] alR)(G_Book_begin:MO P w K mg base 1 ae "begin" zB1 (alS ae))(G_Book_add_rule:MO P w K mg base 5 ae "add_rule" zAc (ahq ae)):FnOk P w K mg base D1 6 f fd zAc (anU ae):=by
 refine F.ok aee ?_ ?_
 .walk_at "ln"
 .intro cdv A outer s H vs Q E hr h;have hZ:=E6 aee;refine ⟨_,QSs.out (A5 (C5 2 (qe_mB (K:=K) gW PySem.F.slot_str_split PySem.F.type_str_split uD (qz 1) (C3 I0)))
   (Y6 (qs_if (T7 (K:=K) (E4 G_is_beginning (C3 (qz 2)))) (A6 (Z9 (fE (qz 0) G_Book_begin (hm hr) (C3 (qz 2))))) (A6 (Z9 (fE (qz 0) G_Book_add_rule (hm hr) (C3 (qz 1))))))
   (A6 (alj (K:=K) (qz 0) A2 anH)))),?_⟩
  obtain ⟨b,dx,o,e,l,H0,B,ad,as,k,rfl,bk,ft,gd,q⟩:=h;have hok:=ft.ok;have jD:=ual hok;walk_at "rd";refine ⟨l.text, " ",rfl,rfl,by decide,O2 (by have:=Ln.len hok;lia),by rw [Ln.split hok];exact O2 (by lia),fun p np=>?_⟩;rw [Ln.split hok];have S1:Same H (A0 H p (.lst (l.words.map V.str))):=Same.new np;have b1:=bk.keep S1;have W5:A0 H p (.lst (l.words.map V.str)) p=some (.lst (l.words.map V.str)):=A1;generalize A0 H p (.lst (l.words.map V.str))=H1 at S1 b1 W5 ⊢
  refine bM (fun Y H3=>Y=[some (.ref b),some (.str l.text),some (.ref p)]/\∃ ad' as',BookAt ae H0 H3 b dx o e (B.step l) ad' as' k) ?_ ?_
  .walk_at "rd";refine ⟨p,l,rfl,W5,hok,fun H2 S2=>?_⟩;have b2:=b1.keep S2
   cases l with
   | beg n x=>
    exact ⟨true,rfl,iteT ⟨dx,_,b2.obj,rfl,b,p,dx,o,e,n,x,H0,B,ad,as,k,rfl,S2 _ _ W5,b2,ft,gd,fun ad' as' H3 b3=>⟨ad',as',b3⟩⟩⟩
   | rule z=>
    exact ⟨false,rfl,iteF ⟨dx,_,b2.obj,rfl,b,dx,o,e,z,H0,B,ad,as,k,rfl,b2,ft,gd,fun ad' as' H3 b3=>⟨ad',as',b3⟩⟩⟩
  rintro Y H3 ⟨rfl,ad',as',b3⟩;walk_at "rd";refine ⟨ae,dx,_,b3.obj,T.cl_Book,T.na_length,.int k,asu _ _ _ _,k,1,rfl,rfl,dx,_,b3.obj,(by show 4<1000;decide),?_⟩;rw [asw];exact q ad' as' _ (b3.tick (k+1))
theorem aca:FnScope ["self", "text", "line"] zB2 (B5 wR):=E7
theorem aek(F:FunD K "__init__" "Book.__init__" wR f fd)(T:Txt P w K mg C ae)(G_Book_tell:MO P w K mg base 6 ae "tell" zAc (anU ae)):FnOk P w K mg base D1 7 f fd zB2 (alT ae):=by
 refine F.ok aca ?_ ?_
 .walk_at "ln"
 .intro cdv A outer s H vs Q E hr h;have hZ:=E6 aca;refine ⟨_,QSs.out (A5 (t9 (K:=K) (qz 0) t8)
   (A5 (t9 (K:=K) (qz 0) t8)
   (A5 (t9 (K:=K) (qz 0) bI)
   (A5 (t9 (K:=K) (qz 0) A2)
   (A6 (qs_if (T7 (K:=K) (qz 1)) (A6 (N8 bd.never (N0 (K:=K) (qe_mB (K:=K) gW PySem.F.slot_str_split PySem.F.type_str_split uD (qz 1) (C3 I0))) (K7 2) (A6 (Z9 (fE (qz 0) G_Book_tell (hm hr) (C3 (qz 2))))))) G5)))))),?_⟩
  obtain ⟨b,dx,ls,H0,rfl,rfl,nb,ndx,G0,hf,hl,q⟩:=h;have hok:=hf.ok;walk_at "rd";intro o no;have S0:Same H0 (A0 (A0 H0 dx (.own b)) b (.ins ae dx [])):=fun c u h=>by rw [A4 (q9 h nb),A4 (q9 h ndx)];exact h
  have zU:A0 (A0 H0 dx (.own b)) b (.ins ae dx []) b=some (.ins ae dx []):=A1;generalize A0 (A0 H0 dx (.own b)) b (.ins ae dx [])=Ha at S0 zU no ⊢
  have noH:=S0.free no;have jW:b≠o:=fun z=>by rw [<- z,zU] at no;cases no
  refine ⟨ae,dx,[],A7 zU no,T.cl_Book,T.na_own,by decide,fun e ne=>?_⟩;rw [show putF (ai "own") (V.ref o) []=[(ai "own",V.ref o)] from rfl] at ne ⊢
  have h1b:A0 (A0 Ha o (.dK [])) b (.ins ae dx [(ai "own",V.ref o)]) b=some (.ins ae dx [(ai "own",V.ref o)]):=A1;have h1o:A0 (A0 Ha o (.dK [])) b (.ins ae dx [(ai "own",V.ref o)]) o=some (.dK []):=by rw [A4 jW.symm,A1]
  have S1:Same H0 (A0 (A0 Ha o (.dK [])) b (.ins ae dx [(ai "own",V.ref o)])):=(S0.trans (Same.new no)).put nb;generalize A0 (A0 Ha o (.dK [])) b (.ins ae dx [(ai "own",V.ref o)])=Hb at h1b h1o S1 ne ⊢
  have neH:=S1.free ne;have k5:b≠e:=fun z=>by rw [<- z,h1b] at ne;cases ne
  have hoe:o≠e:=fun z=>by rw [<- z,h1o] at ne;cases ne
  refine ⟨ae,dx,_,A7 h1b ne,T.cl_Book,T.na_elders,(by show 1<1000;decide),?_⟩;rw [show putF (ai "elders") (V.ref e) [(ai "own",V.ref o)]=[(ai "own",V.ref o),(ai "elders",V.ref e)] from rfl];have h2b:A0 (A0 Hb e (.dK [])) b (.ins ae dx [(ai "own",V.ref o),(ai "elders",V.ref e)]) b=some (.ins ae dx [(ai "own",V.ref o),(ai "elders",V.ref e)]):=A1;have h2o:A0 (A0 Hb e (.dK [])) b (.ins ae dx [(ai "own",V.ref o),(ai "elders",V.ref e)]) o=some (.dK []):=by rw [A4 jW.symm];exact A7 h1o ne
  have h2e:A0 (A0 Hb e (.dK [])) b (.ins ae dx [(ai "own",V.ref o),(ai "elders",V.ref e)]) e=some (.dK []):=by rw [A4 k5.symm,A1]
  have S2:Same H0 (A0 (A0 Hb e (.dK [])) b (.ins ae dx [(ai "own",V.ref o),(ai "elders",V.ref e)])):=(S1.trans (Same.new ne)).put nb;generalize A0 (A0 Hb e (.dK [])) b (.ins ae dx [(ai "own",V.ref o),(ai "elders",V.ref e)])=Hc at h2b h2o h2e S2 ⊢
  refine ⟨ae,dx,_,h2b,T.cl_Book,T.na_newest,(by show 2<1000;decide),ae,dx,_,A1,T.cl_Book,T.na_length,(by show 3<1000;decide),?_⟩;rw [oN,show putF (ai "length") (V.int 0) (putF (ai "newest") V.non [(ai "own",V.ref o),(ai "elders",V.ref e)])=flds o e V.non 0 from rfl];have bk:BookAt ae H0 (A0 Hc b (.ins ae dx (flds o e V.non 0))) b dx o e Bk.nil (fun _=>0) (fun _=>[]) 0:=⟨A1,by rw [A4 jW.symm];exact h2o,by rw [A4 k5.symm];exact h2e,DR.nil _ _ _ _ _,nb,noH,neH,hoe,S2.put nb⟩
  generalize A0 Hc b (.ins ae dx (flds o e V.non 0))=Hd at bk ⊢
  have A9:(Str.join "\n" (ls.map Ln.text)).length<=900000:=by
   have h1:=PySem.StrLaws.join_length_le "\n" (ls.map Ln.text);rw [show ("\n" : Str).length=1 from rfl,A3] at h1;have h2:∀ ls:List Ln,(∀ l∈ls,LnOk l)->((ls.map Ln.text).map (·.length)).sum<=4000*ls.length:=by
    intro ls
    induction ls with
    | nil=>intro _;simp
    | cons l ls ih=>
     intro h
     have:=ih fun y hy=>h y (G6 _ hy)
     have h3:=Ln.len (h l G3);rw [E2,E2,e8,E5];lia
   have:=h2 ls hok
   lia
  refine ⟨O2 (by lia),?_⟩
  cases ls with
  | nil=>
   exact iteF (q o e _ _ Hd bk)
  | cons l0 rV=>
   have U1:0<(Str.join "\n" ((l0::rV).map Ln.text)).length:=by
    have e:(Str.join "\n" ((l0::rV).map Ln.text)).length=(Str.join "\n" ((l0::rV).map Ln.text)).cps.toList.length:=by simp [Str.length]
    rw [e,alU,lJ];exact aht (Ln.pos (hok l0 G3))
   generalize hLS:l0::rV=ls at *;have g6:Txt.split (Str.join "\n" (ls.map Ln.text)) "\n"=ls.map Ln.text:=by
    rw [alU];refine afz (by decide) (by rw [<- hLS];simp) fun z hz hm=>?_
    obtain ⟨l,hl,rfl⟩:=E9.mp hz;exact uac (hok l hl) hm
   rw [show (((Str.join "\n" (ls.map Ln.text)).length:Int) != 0)=true by simp;lia];refine iteT ⟨_, "\n",rfl,rfl,by decide,O2 (by lia),by rw [g6,A3];exact O2 (by lia),fun p np=>?_⟩;rw [g6];have npH0:H0 p=none:=bk.same.free np;have bp:∀ {c:ab} {u:HO},Hd c=some u->c≠p:=fun h z=>by rw [z,np] at h;cases h
   have bs:BookAt ae (A0 H0 p (.lst ((ls.map Ln.text).map V.str))) (A0 Hd p (.lst ((ls.map Ln.text).map V.str))) b dx o e Bk.nil (fun _=>0) (fun _=>[]) 0:=by
    refine ⟨A7 bk.obj np,A7 bk.own np,A7 bk.eld np,DR.nil _ _ _ _ _,?_,?_,?_,hoe,fun c u h=>?_⟩
    .rw [A4 (bp bk.obj)];exact nb
    .rw [A4 (bp bk.own)];exact noH
    .rw [A4 (bp bk.eld)];exact neH
    .by_cases z:c=p
     .rw [z,A1] at h ⊢;exact h
     .rw [A4 z] at h ⊢;exact bk.same c u h
   refine ⟨p,rfl,⟨_,.of A1⟩,forL (xs:=(ls.map Ln.text).map V.str) (fun i Y H2=>∃ (u:Ap) (ad:Al) (as:Str->Ai),Y=[some (.ref b),some (.str (Str.join "\n" (ls.map Ln.text))),u]/\BookAt ae (A0 H0 p (.lst ((ls.map Ln.text).map V.str))) H2 b dx o e (Bk.of (ls.take i)) ad as (i:Nat)) ⟨none,_,_,rfl,bs⟩ (by rintro i Y H2 _ ⟨_,_,_,_,x⟩;exact .of (x.same _ _ A1)) ?_ ?_⟩
   .rintro i x Y H2 hx ⟨u,ad,as,rfl,bi⟩;obtain ⟨z,hz,rfl⟩:=G8 hx;obtain ⟨l,zV,rfl⟩:=G8 hz;have hi:i<ls.length:=(F8.mp zV).1;walk_at "rd";refine ⟨dx,_,bi.obj,rfl,b,dx,o,e,l,_,Bk.of (ls.take i),ad,as,(i:Nat),rfl,bi,hf i l zV,(hf.good i (by lia)).mono (by lia),fun ad' as' H3 b3=>?_⟩;rw [L0 zV,qK];exact ⟨ad',as',b3⟩
   .rintro Y H2 ⟨u,ad,as,rfl,bi⟩;rw [A3,A3,K5] at bi;exact q o e ad as H2 (bi.base (Same.new npH0))
theorem abF:FnScope ["self", "name", "met", "at"] zA5 (B5 wS):=E7
theorem adb(F:FunD K "elders_from" "Book.elders_from" wS f fd)(T:Txt P w K mg C ae):FnOk P w K mg base D1 1 f fd zA5 (ai7 ae):=by
 refine F.ok abF ?_ ?_
 .walk_at "ln"
 .intro cdv A outer s H vs Q E hr h;have E1:=hu_of hr;have hu:=hr.units;have hZ:=E6 abF;refine ⟨_,QSs.out (A5 (C5 2 (O9 R9))
   (A5 (C5 3 (qz 1))
   (A5 (lF bd.never (D6 tY (qz 3) bI) (A5 (qs_if (D6 (iL (K:=K) hu) (qz 3) (U7 (K:=K) (qz 0))) (A6 aG) G5)
   (A5 (qs_if (D6 (q_in (K:=K) hu) (qz 3) (qz 2)) (A6 aG) G5)
   (A5 (U9 (K:=K) (qz 2) (qz 3))
   (A6 (C5 3 (lN E1 (U7 (K:=K) (qz 0)) (qz 3))))))))
   (A6 (C9 (qz 2)))))),?_⟩
  obtain ⟨b,dx,o,e,H0,B,ad,as,k,n,c,rfl,bk,gd,dX,hc,q⟩:=h;walk_at "rd";intro p np;have yU:c.length<=1000:=by
   have h1:=uL hc.nd fun x hx=>by
    obtain ⟨i,hi⟩:=m6.mp hx;exact (hc.nx i x hi).1
   have:=gd.cnt
   lia
  refine lI (fun m Y H2=>∃ i:Nat,Y=[some (.ref b),some (.str n),some (.ref p),some (orNon c[i]?)]/\H2=A0 H p (.lst ((c.take i).map V.str))/\i<=c.length/\m=c.length-i) c.length
   ⟨0,by rw [<- List.head?_eq_getElem?,dX];rfl,rfl,J7 _,rfl⟩ ?_
  rintro m Y H2 ⟨i,rfl,rfl,hi,rfl⟩;have S2:Same H (A0 H p (.lst ((c.take i).map V.str))):=Same.new np;have b2:=bk.keep S2;walk_at "rd"
  by_cases C4:i<c.length
  .have nW:c[i]?=some c[i]:=by simp
   generalize c[i]=t at nW;obtain ⟨ht,b8⟩:=hc.nx i t nW;rw [nW];refine iteT ⟨fun σ' H'=>∃ j:Nat,σ'=[some (.ref b),some (.str n),some (.ref p),some (orNon c[j]?)]/\H'=A0 H p (.lst ((c.take j).map V.str))/\j<=c.length/\c.length-j<c.length-i,?_,?_⟩
   .rintro σ' H' ⟨j,rfl,rfl,h1,h2⟩;exact ⟨_,h2,j,rfl,rfl,h1,rfl⟩
   refine ⟨ae,dx,_,b2.obj,T.cl_Book,T.na_own,V.ref o,mB _ _ _ _,?_⟩;rw [ajx];walk_at "rd";refine rInR.d (W8 (k:=Sum.inr t) b2.own) ⟨_,rfl,?_⟩;rw [O3,if_pos ht,Option.isSome_some,Bool.true_xor,Bool.not_true];refine iteF (rInR.l (.inl (.of A1)) rfl (pF _) ⟨_,rfl,?_⟩);rw [lB,decide_eq_false (iP hc.nd nW),z9];refine iteF ⟨M7 A1,appOk A1 (by rw [A3,G9];exact G4 (by lia)) ?_⟩;rw [oN];have S3:Same H (A0 H p (.lst ((c.take i).map V.str++[V.str t]))):=Same.new np;have b3:=bk.keep S3;refine ⟨ae,dx,_,b3.obj,T.cl_Book,T.na_elders,V.ref e,anV _ _ _ _,e,rfl,.inl ⟨_,.inl b3.eld⟩,_,W8 (k:=Sum.inr t) b3.eld,i+1,?_,?_,by lia,by lia⟩
   .rw [<- b8,O3];cases h:B.el t with
    | none=>
     rw [if_neg (fun hm=>by have:=(N5.mp hm).2;rw [h] at this;cases this)];rfl
    | some y=>
     rw [if_pos (N5.mpr ⟨ht,by rw [h];rfl⟩)];rfl
   .rw [L0 nW,D0];rfl
  .have e:i=c.length:=by lia
   rw [e,show c[c.length]?=none by simp];refine iteF ?_
   try walk_at "rd"
   rw [K5];exact q p _ np (Same.new np) A1
theorem acb:FnScope ["self", "name", "rules", "elder"] zA5 (B5 wT):=E7
theorem ael(F:FunD K "rules_of" "Book.rules_of" wT f fd)(T:Txt P w K mg C ae)(G_changed:FO P w K mg base 2 "changed" zAy [] ahm)(G_Book_elders_from:MO P w K mg base 1 ae "elders_from" zA5 (ai7 ae)):FnOk P w K mg base D1 3 f fd zA5 (ahr ae):=by
 refine F.ok acb ?_ ?_
 .walk_at "ln"
 .intro cdv A outer s H vs Q E hr h;have E1:=hu_of hr;have hZ:=E6 acb;refine ⟨_,QSs.out (A5 (C5 2 (O9 R9))
   (A5 (N8 bd.never (ar7 T.b_reversed (C3 (fE (qz 0) G_Book_elders_from (hm hr) (C3 (qz 1))))) (K7 3) (A6 (C5 2 (E4 G_changed (K8 (qz 2) (Y4 E1 (U7 (K:=K) (qz 0)) (qz 3)))))))
   (A6 (C9 (qz 2))))),?_⟩
  obtain ⟨b,dx,o,e,H0,B,ad,as,k,n,c,rfl,bk,gd,dX,hc,hs,q⟩:=h;walk_at "rd";intro p np;have S1:Same H (A0 H p (.lst [])):=Same.new np;have b1:=bk.keep S1;have W5:A0 H p (.lst []) p=some (.lst []):=A1;generalize A0 H p (.lst [])=H1 at S1 b1 W5 ⊢
  refine ⟨dx,_,b1.obj,rfl,b,dx,o,e,H0,B,ad,as,k,n,c,rfl,b1,gd,dX,hc,fun l H2 nl S2 hl=>⟨l,rfl,_,hl,?_⟩⟩;have b2:=b1.keep S2;have aN:∀ t∈c,t∈B.names:=fun t ht=>by
   obtain ⟨i,hi⟩:=m6.mp ht;exact (hc.nx i t hi).1
  refine forV (xs:=c.map V.str) (fun i Y H3=>∃ (u:Ap) (r:ab) (qs:Ai),Y=[some (.ref b),some (.str n),some (.ref r),u]/\Same H2 H3/\H r=none/\IsRules H3 r qs ((c.reverse.take i).foldl (fun R t=>T3 R (B.rl t)) [])) ⟨none,p,[],rfl,Same.refl _,np,⟨S2 _ _ W5,.nil⟩⟩ (by rintro i Y H3 ⟨_,_,_,_,S,_⟩;exact S _ _ hl) ?_ ?_
  .rintro i x Y H3 hx ⟨u,r,qs,rfl,S3,nr,hR⟩;rw [<- eL] at hx;obtain ⟨t,zW,rfl⟩:=G8 hx;have ht:t∈B.names:=aN t (eK.mp (K2 zW));obtain ⟨f1,f2⟩:=ai8 (B:=B) (c.reverse.take i) [] (fun t ht=>gd.fine t (aN t (eK.mp (cD ht)))) (by simp);have f3:=ai9 (fun t=>(B.rl t).length) c.reverse i;rw [aqv] at f3;have b3:=b2.keep S3;have C4:(B.rl t).length<=400:=by
    have:(B.rl t).length<=(c.map fun t=>(B.rl t).length).sum:=anX (E9.mpr ⟨t,eK.mp (K2 zW),rfl⟩)
    lia
   walk_at "rd";refine ⟨ae,dx,_,b3.obj,T.cl_Book,T.na_own,V.ref o,mB _ _ _ _,o,rfl,V.ref (ad t),.inl ⟨_,Sum.inr t,.inl b3.own,rfl,by rw [O3,if_pos ht]⟩,r,ad t,qs,as t,_,B.rl t,rfl,hR,b3.dr.row t ht,f1,gd.fine t ht,by rw [P9] at f2;lia,by lia,fun l' qs' H4 nl' S4 hR'=>?_⟩;exact ⟨_,l',rfl,rfl,S3.trans S4,((S1.trans S2).trans S3).free nl',qs',by rw [L0 zW,Z0];exact hR'⟩
  .rintro Y H3 ⟨u,r,qs,rfl,S3,nr,hR⟩;rw [A3,<- List.length_reverse,K5] at hR;walk_at "rd";exact q r qs H3 nr ((S1.trans S2).trans S3) hR
theorem aef:FnScope zA1 zA1 (B5 wU):=E7
theorem ahI(F:FunD K "show_rule" "show_rule" wU f fd)(T:Txt P w K mg C ae):FnOk P w K mg base D1 1 f fd zA1 (anZ K):=by
 refine F.ok aef ?_ ?_
 .walk_at "ln"
 .intro cdv A outer s H vs Q E hr h;have hZ:=E6 aef;refine ⟨_,QSs.out (A6 (C9 (qe_mB (K:=K) gW PySem.F.slot_str_join PySem.F.type_str_join (uC (K:=K)) I0 (C3 (qz 0))))),?_⟩;obtain ⟨a,zs,rfl,hS,hl,q⟩:=h;walk_at "rd";exact ⟨" ",a,zs,rfl,rfl,.inr hS,by decide,hl,q⟩
theorem af2:FnScope ["_law_number", "_law_many", "_law_letters", "_law_shape", "_law_names_here", "_law_k", "_law_code", "_law_ahead", "_law_behind", "_law_tell"] zB3 (B5 wV):=E7
theorem aj1(F:FunD K "_law_names" "_law_names" wV f fd)(T:Txt P w K mg C ae):FnOk P w K mg base D1 1 f fd zB3 spNms:=by
 refine F.ok af2 ?_ ?_
 .walk_at "ln"
 .intro cdv A outer s H vs Q E hr h;have hu:=hr.units;have hZ:=E6 af2;refine ⟨_,QSs.out (A5 (C5 2 I0)
   (A5 (C5 3 (M4 (qz 0) A2))
   (A5 (C5 0 (V9 (qz 0) A2))
   (A5 (C5 4 (O9 R9))
   (A5 (N8 bd.never (qi_r1 T.b_range (C3 (qz 1))) (K7 5) (A5 (C5 6 (M4 (O0 (K:=K) (qz 0) (qe_op q_mul A2 (qz 5))) A2))
   (A6 (qs_if (QW.pt (fB (D6 (q_eq (K:=K) hu) (qz 3) A2) (fA (D6 q_le (qz 1) A2)))) (A6 (U9 (K:=K) (qz 4) (qe_op uP (qe_ix (K:=K) (qz 2) (M4 (qz 0) A2)) (O0 (K:=K) (qz 5) A2)))) (A6 (qs_if (QW.pt (fB (D6 (q_eq (K:=K) hu) (qz 3) A2) (fA (D6 q_le (qz 1) A2)))) (A6 (U9 (K:=K) (qz 4) (qe_ix (K:=K) (qz 2) (M4 (O0 (K:=K) (qz 0) (qe_op q_mul A2 (qz 5))) A2)))) (A5 (C5 7 (qe_op uP (qe_ix (K:=K) (qz 2) (M4 (V9 (qz 0) A2) A2)) (M4 (V9 (qz 0) A2) A2)))
   (A5 (C5 8 (qe_op uP (qe_ix (K:=K) (qz 2) (M4 (V9 (qz 0) A2) A2)) (M4 (V9 (qz 0) A2) A2)))
   (A5 (C5 9 (O0 (K:=K) (qe_ix (K:=K) (qz 2) (V9 (qz 6) A2)) (qe_ix (K:=K) (qz 2) (M4 (qz 6) A2))))
   (A6 (U9 (K:=K) (qz 4) (O0 (K:=K) (O0 (K:=K) (qz 7) (qz 9)) (qz 8)))))))))))))
   (A6 (C9 (qz 4)))))))),?_⟩
  obtain ⟨n,m,rfl,hn0,zO,fZ,q⟩:=h;walk_at "rd";intro p np;refine ⟨by lia,by lia,?_⟩;generalize hN:n / 4=N;have hN0:0<=N:=by lia
  obtain ⟨m1,m2,m3⟩:=anY (c:=97+(N / 676 % 26).toNat) (n:=N / 17576 % 4) (V8 _ (by decide)) (Int.le_of_lt_add_one (j4 _ (by decide)));obtain ⟨k1,k2,k3⟩:=anY (c:=97+(N / 70304 % 26).toNat) (n:=N / 1827904 % 4) (V8 _ (by decide)) (Int.le_of_lt_add_one (j4 _ (by decide)));generalize hA:Txt.mul ⟨#[97+(N / 676 % 26).toNat]⟩ (N / 17576 % 4)=A at m1 m2 m3;generalize hZ:Txt.mul ⟨#[97+(N / 70304 % 26).toNat]⟩ (N / 1827904 % 4)=Z at k1 k2 k3;refine forR (fun i Y H2=>∃ (u v w x y:Ap),Y=[some (.int N),some (.int m),some (.str LT),some (.int (n % 4)),some (.ref p),u,v,w,x,y]/\Same H H2/\H2 p=some (.lst (((U5 i).map (nm86 A Z N (n % 4) m)).map V.str)))
   ⟨none,none,none,none,none,rfl,Same.new np,A1⟩ ?_ ?_
  .rintro i Y H2 hi ⟨u,v,w,x,y,rfl,S,hl⟩;have m4:(((U5 i).map (nm86 A Z N (n % 4) m)).map V.str).length<ak:=by rw [A3,A3,kJ];exact G4 (by lia)
   have l2:∀ x y:Nat,(⟨#[x]⟩:Str).length+(⟨#[y]⟩:Str).length<=ak:=fun _ _=>by show 1+1<=ak;decide
   have l22:∀ x y:Nat,((⟨#[x]⟩:Str)++(⟨#[y]⟩:Str)).length=2:=fun _ _=>rfl
   have fin:∀ z,nm86 A Z N (n % 4) m i=z->cR (V.ref p) [V.str z] H2 fun x H1=>Same H H1/\H1 p=some (HO.lst (List.map V.str (List.map (nm86 A Z N (n % 4) m) (U5 (i+1))))):=fun z hz=>
    appOk hl m4 ⟨S.put np,by rw [A1,List.range_succ,D0,D0];simp [hz]⟩
   walk_at "rd";rw [Int.zero_add];have r0:0<=(N+7*(i:Int)) % 676:=V8 _ (by decide);have r1:(N+7*(i:Int)) % 676<676:=j4 _ (by decide);have a1:=LT_at (i:=(N+7*(i:Int)) % 676 / 26) (by lia) (by lia);have a2:=LT_at (i:=(N+7*(i:Int)) % 676 % 26) (by lia) (by lia);have a3:=LT_at (i:=N / 676 % 26) (V8 _ (by decide)) (j4 _ (by decide));have a4:=LT_at (i:=N / 70304 % 26) (V8 _ (by decide)) (j4 _ (by decide));have a5:=LT_at (i:=N % 26) (V8 _ (by decide)) (j4 _ (by decide));have a6:=LT_at (i:=(N+5*(i:Int)) % 26) (V8 _ (by decide)) (j4 _ (by decide));refine ⟨.inl ⟨by decide,by decide⟩,asx (fun h1 h2=>?_) (fun h1 h2 h3=>?_) fun h1 h2=>?_⟩
   .have e1:((i:Int)+1)=((i+1:Nat):Int):=by lia
    refine ⟨M7 hl,jB,_,a5,_,_,rfl,rfl,by rw [e1];exact (qN (by lia)).1,fin _ ?_⟩;unfold nm86;rw [if_pos ⟨h1,h2⟩]
   .refine ⟨M7 hl,.inl ⟨by decide,by decide⟩,jB,_,a6,fin _ ?_⟩;unfold nm86;rw [if_neg h1,if_pos ⟨h2,h3⟩]
   .refine ⟨jB,_,a3,_,_,rfl,rfl,m1,jB,_,a4,_,_,rfl,rfl,k1,jB,_,a1,jB,_,a2,l2 _ _,M7 hl,?_⟩;rw [hA,hZ];walk_at "rd";refine ⟨O2 (by rw [l22];lia),O2 (by rw [Str.length_append,l22];lia),fin _ ?_⟩;unfold nm86;rw [if_neg h1,if_neg h2];rfl
  .rintro Y H2 ⟨u,v,w,x,y,rfl,S,hl⟩;walk_at "rd";exact q p _ H2 np S hl (by simp) (ajQ fZ) fun z hz=>by
    obtain ⟨k,hk,rfl⟩:=E9.mp hz;rw [m7] at hk;exact alY m2 k2 (fun x hx=>by have:=m3 x hx;lia) (fun x hx=>by have:=k3 x hx;lia) (by lia)
theorem acd:FnScope zA5 zA5 (B5 wW):=E7
theorem aem(F:FunD K "order_of" "Book.order_of" wW f fd)(T:Txt P w K mg C ae)(G_Order___init__:KO P w K mg base 5 C "Order" zAk (alr C))(G_Book_rules_of:MO P w K mg base 3 ae "rules_of" zA5 (ahr ae)):FnOk P w K mg base D1 7 f fd zA5 (al2 C ae):=by
 refine F.ok acd ?_ ?_
 .walk_at "ln"
 .intro cdv A outer s H vs Q E hr h;have hZ:=E6 acd;refine ⟨_,QSs.out (A6 (C9 (ak5 G_Order___init__ (hm hr) (C3 (fE (qz 0) G_Book_rules_of (hm hr) (C3 (qz 1))))))),?_⟩;obtain ⟨b,dx,o,e,H0,B,ad,as,k,n,c,g,r1,r2,rfl,bk,gd,dX,hc,hs,gr,q⟩:=h;walk_at "rd";refine ⟨dx,_,bk.obj,rfl,b,dx,o,e,H0,B,ad,as,k,n,c,rfl,bk,gd,dX,hc,hs,fun l qs H2 nl S2 hR=>?_⟩;intro x dY nx' ndx ndxx;have S1:Same H2 (A0 (A0 H2 dY (.own x)) x (.ins C dY [])):=(Same.new ndx).trans (Same.new (by rw [A4 ndxx.symm];exact nx'));have hx1:A0 (A0 H2 dY (.own x)) x (.ins C dY []) x=some (.ins C dY []):=A1;generalize A0 (A0 H2 dY (.own x)) x (.ins C dY [])=H1 at S1 hx1;exact ⟨x,dY,l,qs,_,g,r1,r2,rfl,hx1,hR.same S1,gr,fun j ll ml md L M H3 _ _ _ _ B3 hO=>⟨rfl,q x j ll ml md L M H3 (fun b o hb=>B3 b o (fun e=>by rw [e] at hb;have:=S2 _ _ hb;rw [nx'] at this;cases this) (S1 b o (S2 b o hb))) hO⟩⟩
theorem sc_l_first:FnScope zBe zB4 (B5 lX):=E7
theorem vaf:LS lX "_law_rules":=lq
theorem aj2(F:FunD K "_law_first" "_law_first" lX f fd)(T:Txt P w K mg C ae):FnOk P w K mg base D1 1 f fd zB4 al4:=by
 refine F.ok sc_l_first ?_ ?_
 .walk_at "ln"
 .intro cdv A outer s H vs Q E hr h;have hu:=hr.units;have hZ:=E6 sc_l_first;refine ⟨_,QSs.out (A5 (C5 3 (O9 (C3 (O0 (K:=K) (Q3 (C3 I0)) (qe_cT (cX (K:=K)) T.b_tuple cT (C3 (qz 0)))))))
   (Y6 (qs_if (D6 (q_eq (K:=K) hu) (M4 (qz 2) A2) A2) (A6 (fC (n:=3) sc_l_first.nd rfl vaf (P8:CompOk zBe (B5 lX).names _ ["_law_at", "_law_one"] 1 [0]) (qi_r3 T.b_range (U8 A2 (W0 (K:=K) T.b_len (qz 0)) A2)) (fun _ _ _ _ _=>N9 (n:=0) (show List.Nodup (["_law_at", "_law_one"]:Ab) by decide +kernel) rfl (Or.inl rfl)) (fun _ _ _ _ _=>Y5) (fun _ _ _ _ _=>(O0 (K:=K) (Q3 (C3 I0)) (qe_cT (cX (K:=K)) T.b_tuple cT (C3 (Q4 (K:=K) (F9 1) (N7 (F9 0)) (N7 (O0 (K:=K) (F9 0) A2))))))))) G5)
   (Y6 (qs_if (D6 (q_eq (K:=K) hu) (M4 (V9 (qz 2) A2) A2) A2) (A6 (Z9 (qe_m0 (K:=K) q0 kQ kP lG (qz 3)))) G5)
   (A5 (C5 4 (O9 (K8 (Q3 (U8 I0 (qe_ix (K:=K) (qz 1) A2) (qe_ix (K:=K) (qz 1) A2))) (Q3 (U8 I0 (qe_ix (K:=K) (qz 0) (M4 (V9 (qz 2) A2) (W0 (K:=K) T.b_len (qz 0)))) (qe_ix (K:=K) (qz 1) A2))))))
   (A5 (qs_if (D6 (q_eq (K:=K) hu) (M4 (V9 (qz 2) A2) A2) A2) (A6 (C9 (O0 (K:=K) (qz 4) (qz 3)))) G5)
   (A6 (C9 (O0 (K:=K) (qz 3) (qz 4))))))))),?_⟩
  obtain ⟨a,b,n,xs,m0,m1,f,rfl,ha,hb,s,q⟩:=h;have rowT:∀ {H2:Hp} {p b:ab} {ps:Ab} {Z:VK},H2 p=some (.tup [V.str (ai "row")])->H2 b=some (.lst (ps.map V.str))->ps≠[]->ps.length<=50->(∀ t H3,H2 t=none->Same H2 H3->H3 t=some (tupR (("row" : Str),ps))->Z (.ref t) H3)->rTupR K b H2 fun y H3=>rAddU K (V.ref p) y H3 Z:=fun {H2 p b ps Z} hp hb hn hl hz=>by
   refine rTupR.l (.of hb) fun t nt=>?_
   walk_at "rd";refine rAddR.t (.of (A7 hp nt)) (.of A1) (by simp) (by simp only [A3,E5,P9];exact O2 (by lia)) (fun e=>absurd (List.map_eq_nil_iff.mp e) hn) fun _ t2 x5=>?_
   exact hz t2 _ ((Same.new nt).free x5) ((Same.new nt).trans (Same.new x5)) A1
  have rA:=s.ln;have qZ:xs≠[]:=fun e=>by have:=s.l1;rw [e] at this;simp at this
  walk_at "rd";refine ⟨by decide,fun p np=>rowT A1 (A7 ha np) qZ (by lia) fun t H1 nt S1 ht=>⟨by decide,fun r nr=>?_⟩⟩;have S2:Same H (A0 H1 r (.lst [V.ref t])):=((Same.new np).trans S1).trans (Same.new nr);have hR:IsRules (A0 H1 r (.lst [V.ref t])) r [t] [(("row" : Str),xs)]:=⟨A1,.cons (A7 ht nr) .nil⟩
  have nr0:=((Same.new np).trans S1).free nr;generalize A0 H1 r (.lst [V.ref t])=H2 at S2 hR;refine midS (fun Y H'=>∃ (r:ab) (ts:Ai) (R:Aq),Y=[some (.ref a),some (.ref b),some (.int n),some (.ref r),none]/\Same H H'/\H r=none/\IsRules H' r ts R/\Rw88 xs R) ?_ ?_
  .intro M' hM;walk_at "rd";refine iteD (fun _=>⟨xs.length,.inl ⟨_,.of (S2 _ _ ha),by rw [A3]⟩,by decide,by decide,by lia,by lia,?_⟩) fun _=>hM _ _ ⟨r,[t],_,rfl,S2,nr0,hR,Rw88.one qZ⟩
   have V0:=s.l1;have hN:∀ i,i<n8 0 (xs.length:Int) 2->2*i<xs.length:=fun i hi=>by unfold n8 at hi;rw [if_pos (by lia)] at hi;lia
   have hN2:xs.length<=2*n8 0 (xs.length:Int) 2/\n8 0 (xs.length:Int) 2<=40:=by unfold n8;rw [if_pos (by lia)];lia
   generalize n8 0 (xs.length:Int) 2=N at hN hN2;refine ar1 [some (.ref a)] rfl (fun D i ys H'=>∃ ts:Ai,ys=ts.map V.ref/\Same H2 H'/\Paired (fun r (z:Rl)=>H' r=some (tupR z)/\r≠D) ts ((U5 i).map fun i=>(("row" : Str),sl88 xs i))) (fun D nD=>⟨[],rfl,Same.new nD,.nil⟩) ?_ ?_
   .rintro D i ys H' nD hi ⟨ts,rfl,S,hP⟩ hD hy;have tl:=Paired.length hP;rw [A3,kJ] at tl;have h2:=hN i hi;walk_at "rd";refine ⟨by decide,fun p1 V1=>rSlR.l (.of (A7 (S _ _ (S2 _ _ ha)) V1)) fun l2 o7=>?_⟩;rw [show cutV (xs.map V.str) (some (0+(i:Int)*2)) (some (0+(i:Int)*2+3))=(sl88 xs i).map V.str by
     rw [show 0+(i:Int)*2+3=((2*i+3:Nat):Int) by lia,show 0+(i:Int)*2=((2*i:Nat):Int) by lia,uW _ (bB _ _),Nat.add_sub_cancel_left,<- z8,<- cG];rfl]
    have G0:sl88 xs i≠[]:=fun e=>by
     have:=congrArg X8 e
     unfold sl88 at this;rw [G9,Z2,P9] at this;lia
    have qX:(sl88 xs i).length<=50:=by unfold sl88;rw [G9];lia
    walk_at "rd";refine rowT (A7 A1 o7) A1 G0 qX fun t2 H3 x5 S3 zS=>?_
    have dZ:=((Same.new (u:=HO.tup [V.str (ai "row")]) V1).trans (Same.new (u:=HO.lst ((sl88 xs i).map V.str)) o7)).trans S3;have ntD:t2≠D:=fun e=>by rw [e,A7 (A7 hD V1) o7] at x5;cases x5
    refine ⟨dZ _ _ hD,by rw [A3];exact G4 (by lia),CW.put hi hy ⟨ts++[t2],by rw [D0];rfl,(S.trans dZ).put nD,?_⟩⟩;rw [List.range_succ,D0];exact Paired.snoc (L7 hP fun r z h=>⟨by rw [A4 h.2];exact dZ _ _ h.1,h.2⟩) ⟨by rw [A4 ntD];exact zS,ntD⟩
   rintro D ys H' nD ⟨ts,rfl,S,hP⟩ hD _;exact hM _ _ ⟨D,ts,_,rfl,S2.trans S,S2.free nD,⟨hD,L7 hP fun _ _ h=>h.1⟩,uak hN hN2.1 hN2.2⟩
  clear hR S2 nr nr0 nt ht S1 np;rintro Y H3 ⟨r,ts,R,rfl,S3,nr,hR,rw⟩;refine midS (fun Y H'=>∃ (ts:Ai) (R:Aq),Y=[some (.ref a),some (.ref b),some (.int n),some (.ref r),none]/\Same H H'/\IsRules H' r ts R/\Rw88 xs R) ?_ ?_
  .intro M' hM;walk_at "rd";have ne:∀ {b:ab} {z:Rl},H3 b=some (tupR z)->b≠r:=fun hb e=>by rw [e,hR.top] at hb;cases hb
   exact iteD (fun _=>⟨M7 hR.top,r,_,rfl,rfl,hR.top,hM _ _ ⟨ts.reverse,R.reverse,rfl,S3.put nr,⟨by rw [A1,eL],aeZ (L7 hR.row fun b z hb=>by rw [A4 (ne hb)];exact hb)⟩,rw.rev⟩⟩) fun _=>hM _ _ ⟨ts,R,rfl,S3,hR,rw⟩
  clear hR rw S3;rintro Y H4 ⟨ts,R,rfl,S4,hR,rw⟩;have jX:=S4 _ _ hb;have ha4:=S4 _ _ ha;obtain ⟨zp,z,hz,O6⟩:=asy qZ (n / 4);walk_at "rd";refine ⟨_,.inl (.of jX),_,O5 _ _,_,.inl (.of jX),_,M6 (j:=1) rfl,by decide,fun t1 n1=>?_⟩;refine ⟨xs.length,.inl ⟨_,.of (A7 ha4 n1),by rw [A3]⟩,zp,_,.inl (.of (A7 ha4 n1)),_,O6,_,.inl (.of (A7 jX n1)),_,M6 (j:=2) rfl,by decide,fun t2 n2=>⟨by decide,fun m nm=>?_⟩⟩;have S5:Same H4 (A0 (A0 (A0 H4 t1 (HO.tup [V.str (ai "marks"),V.str m0,V.str m1])) t2 (HO.tup [V.str (ai "great"),V.str z,V.str f])) m (HO.lst [V.ref t1,V.ref t2])):=((Same.new n1).trans (Same.new n2)).trans (Same.new nm);have hm:IsRules (A0 (A0 (A0 H4 t1 (HO.tup [V.str (ai "marks"),V.str m0,V.str m1])) t2 (HO.tup [V.str (ai "great"),V.str z,V.str f])) m (HO.lst [V.ref t1,V.ref t2])) m [t1,t2] [(("marks" : Str),[m0,m1]),(("great" : Str),[z,f])]:=⟨A1,.cons (A7 (A7 A1 n2) nm) (.cons (A7 A1 nm) .nil)⟩
  generalize A0 (A0 (A0 H4 t1 (HO.tup [V.str (ai "marks"),V.str m0,V.str m1])) t2 (HO.tup [V.str (ai "great"),V.str z,V.str f])) m (HO.lst [V.ref t1,V.ref t2])=H5 at S5 hm;have hR5:=hR.same S5;have rl:=rw.len;have tl:=hR.len;refine iteD (fun _=>rAddR.l hm.top hR5.top (by simp only [A3,E5,P9];exact O2 (by lia)) fun l nl=>?_) fun _=>rAddR.l hR5.top hm.top (by simp only [A3,E5,P9];exact O2 (by lia)) fun l nl=>?_
  .exact q l _ _ _ ((S4.trans S5).free nl) ((S4.trans S5).trans (Same.new nl)) (hm.cat hR5 nl) (rw.w hz (.inr rfl))
  .exact q l _ _ _ ((S4.trans S5).free nl) ((S4.trans S5).trans (Same.new nl)) (hR5.cat hm nl) (rw.w hz (.inl rfl))
theorem af3:FnScope zBf zB5 (B5 qH):=E7
theorem aj3(F:FunD K "_law_block" "_law_block" qH f fd)(T:Txt P w K mg C ae)(G_show_rule:FO P w K mg base 1 "show_rule" zA1 [] (anZ K)):FnOk P w K mg base D1 2 f fd zB5 al3:=by
 refine F.ok af3 ?_ ?_
 .walk_at "ln"
 .intro cdv A outer s H vs Q E hr h;have hu:=hr.units;have hZ:=E6 af3;refine ⟨_,QSs.out (A5 (C5 3 (O0 (K:=K) I0 (qz 0)))
   (Y6 (qs_if (D6 (q_ne (K:=K) hu) (qz 1) I0) (A6 (C5 3 (O0 (K:=K) (O0 (K:=K) (qz 3) I0) (qz 1)))) G5)
   (A6 (C9 (O0 (K:=K) (O9 (C3 (qz 3))) (V4  (P8:CompOk zBf (B5 qH).names _ ["_law_rule"] 1 []) (N0 (K:=K) (qz 2)) (fun _ _ _ _ _=>N9 (n:=0) (show List.Nodup (["_law_rule"]:Ab) by decide +kernel) rfl (Or.inl rfl)) (fun _ _ _ _ _=>Y5) (fun _ _ _ _ _=>(E4 G_show_rule (C3 (F9 0)))))))))),?_⟩
  obtain ⟨n,e,r,ts,R,rfl,hn,he,hR,hf,hl,q⟩:=h;have hn8:=(fL hn).2.1;have o6:(ai "order ").length=6:=by decide +kernel
  have tl:=hR.len;walk_at "rd";have la:∀ a b:Str,(a++b).length=a.length+b.length:=fun a b=>by show (a++b).cps.size=_;rw [Str.cps_append,Array.size_append];rfl
  refine ⟨by rw [o6];exact O2 (by lia),midS (fun Y H'=>Y=[some (.str n),some (.str (e.getD ⟨#[]⟩)),some (.ref r),some (.str (Ln.beg n e).text)]/\H'=H) ?_ ?_⟩
  .intro M' hM;walk_at "rd";have eo:ai "order "=ai "order"++ai " ":=by decide +kernel
   cases e with
   | none=>
    refine iteN (fun c=>absurd (by decide +kernel:(⟨#[]⟩:Str)=ai "") c) fun _=>?_
    rw [eo];exact hM _ _ ⟨rfl,rfl⟩
   | some y=>
    have hy:=fL (he y rfl);have o4:(ai " of ").length=4:=by decide +kernel
    refine iteN (fun _=>⟨by rw [la,o6,o4];exact O2 (by lia),by rw [la,la,o6,o4];exact O2 (by show 6+n.length+4+y.length<=_;lia),?_⟩) fun c=>absurd hy.1 (by rw [show y=ai "" from c];decide)
    rw [eo,show ai " of "=ai " "++(ai "of"++ai " ") by decide +kernel];refine hM _ _ ⟨?_,rfl⟩;rw [show (Ln.beg n (some y)).text=ai "order"++ai " "++(n++ai " "++(ai "of"++ai " "++y)) from rfl];simp only [Str.append_assoc];rfl
  rintro Y H1 ⟨rfl,e1⟩;rw [e1];walk_at "rd";refine ⟨by decide,fun p np=>?_⟩;have S1:Same H (A0 H p (.lst [V.str (Ln.beg n e).text])):=Same.new np;have W5:A0 H p (.lst [V.str (Ln.beg n e).text]) p=_:=A1;generalize A0 H p (.lst [V.str (Ln.beg n e).text])=H1 at S1 W5;have hR1:=hR.same S1;refine ⟨⟨_,.of hR1.top⟩,compL (xs:=ts.map V.ref) [] rfl (fun D i ys H'=>ys=(((R.take i).map Ln.rule).map Ln.text).map V.str/\Same H1 H') (fun D nD=>⟨rfl,Same.new nD⟩) (by rintro D i ys H' _ _ ⟨_,S⟩;exact .of (S _ _ hR1.top)) ?_ ?_⟩
  .rintro D i v ys H' nD hi hv ⟨rfl,S⟩ hD hy;obtain ⟨t,ht,rfl⟩:=G8 hv;obtain ⟨z,hz,rF⟩:=Paired.at hR1.row ht;have gD:=(F8.mp hz).1;have fz:=hf z (K2 hz);have sm:=Good.sum fz;have fl:=fz.1;walk_at "rd";refine ⟨t,z.1::z.2,rfl,.of (S _ _ rF),by rw [E5];lia,hD,by rw [A3,A3,A3,G9];exact G4 (by lia),CW.put hi hy ⟨?_,S.put nD⟩⟩;rw [L0 hz,D0,D0,D0];rfl
  rintro D ys H2 nD ⟨rfl,S⟩ hD _;rw [A3,tl,K5] at hD;refine rAddR.l (S _ _ W5) hD (by simp only [A3,E5,P9];exact O2 (by lia)) fun l nl=>?_
  exact q l _ ((S1.trans S).free nl) ((S1.trans S).trans (Same.new nl)) A1
theorem aeg:FnScope ["_law_order", "_law_letters", "_law_step", "_law_k"] zB6 (B5 wX):=E7
theorem ahJ(F:FunD K "_law_in_turn" "_law_in_turn" wX f fd)(T:Txt P w K mg C ae)(G_compare:FO P w K mg base 8 "compare" zAb [.int 4] (mD C))(G3_compare:FO P w K mg base 8 "compare" zAb [] (mD C)):FnOk P w K mg base D1 9 f fd zB6 (aje C):=by
 refine F.ok aeg ?_ ?_
 .walk_at "ln"
 .intro cdv A outer s H vs Q E hr h;have hu:=hr.units;have hZ:=E6 aeg;refine ⟨_,QSs.out (A5 (N8 bd.never (qi_r2 T.b_range (K8 (qz 2) (W0 (K:=K) T.b_len (qz 1)))) (K7 3) (A5 (qs_if (D6 (q_ne (K:=K) hu) (E4 G3_compare (dB (qz 0) (qe_ix (K:=K) (qz 1) (qe_op q_sub (qz 3) (qz 2))) (qe_ix (K:=K) (qz 1) (qz 3)) (O0 (K:=K) A2 (M4 (O0 (K:=K) (qz 3) (qz 2)) A2)))) (qe_un q_neg A2)) (A6 (C9 qe_bl)) G5)
   (A6 (qs_if (D6 (q_ne (K:=K) hu) (E4 G_compare (U8 (qz 0) (qe_ix (K:=K) (qz 1) (qz 3)) (qe_ix (K:=K) (qz 1) (qe_op q_sub (qz 3) (qz 2))))) A2) (A6 (C9 qe_bl)) G5))))
   (A6 (C9 qe_bl))),?_⟩
  obtain ⟨x,l,d,xs,m0,m1,f,n,R,j,ll,ml,md,g,rfl,hO,s,h,hn,hl,h1,h10,q⟩:=h;have rA:=s.ln;have hk:=h.kn s;have T9:=ans h.noas h.fig xs [m0,m1];walk_at "rd";refine ⟨xs.length,.inl ⟨_,.of hl,by rw [A3]⟩,by lia,by lia,by lia,by lia,forRs (fun i Y H'=>∃ u:Ap,Y=[some (.ref x),some (.ref l),some (.int (d:Int)),u]/\Same H H') ⟨none,rfl,Same.refl _⟩ ?_ ?_⟩
  .rintro P' Bk hP i Y H' hi ⟨u,rfl,S⟩;have hi:i+d<xs.length:=by lia
   obtain ⟨z,hz⟩:∃ z,xs[i]?=some z:=⟨_,L6 (by lia)⟩
   obtain ⟨z',l9⟩:∃ z,xs[i+d]?=some z:=⟨_,L6 hi⟩
   obtain ⟨w1,e1⟩:=h.unit s hn hO.l1 hO.l2 hz;obtain ⟨w2,e2⟩:=h.unit s hn hO.l1 hO.l2 l9;have lz:=xL (s.pc z (P1 _ (K2 hz)));have lz':=xL (s.pc z' (P1 _ (K2 l9)));have i1:K6 (xs.map V.str) ((d:Int)+i-d)=some (V.str z):=by rw [show (d:Int)+i-d=((i:Nat):Int) by lia];exact M6 (by rw [U3,hz];rfl)
   have i2:K6 (xs.map V.str) ((d:Int)+i)=some (V.str z'):=by rw [show (d:Int)+i=((i+d:Nat):Int) by lia];exact M6 (by rw [U3,l9];rfl)
   obtain ⟨m,hm,zO,hm4⟩:∃ m:Nat,1+((d:Int)+i+d) % 4=(m:Int)/\1<=m/\m<=4:=⟨(1+((d:Int)+i+d) % 4).toNat,by lia,by lia,by lia⟩
   walk_at "rd";refine ⟨_,.inl (.of (S _ _ hl)),_,i1,_,.inl (.of (S _ _ hl)),_,i2,?_⟩;rw [hm];refine ⟨x,j,ll,ml,md,z,z',m,g,R,xs,[m0,m1],rfl,hm4,hO.same S,hk,by lia,by lia,w1,w2,T9,fun H2 S2=>?_⟩;rw [e1,e2,(cmp88 zO (by lia)).1];walk_at "rd";have S3:=S.trans S2;refine ⟨_,.inl (.of (S3 _ _ hl)),_,i2,_,.inl (.of (S3 _ _ hl)),_,i1,x,j,ll,ml,md,z',z,4,g,R,xs,[m0,m1],rfl,by decide,hO.same S3,hk,by lia,by lia,w2,w1,T9,fun H4 S4=>?_⟩;rw [e1,e2,(cmp88 (by decide) (by lia)).2];walk_at "rd";exact hP _ _ _ ⟨_,rfl,S3.trans S4⟩
  rintro Y H' ⟨u,rfl,S⟩;walk_at "rd";exact q _ S
theorem sc_law:FnScope zB7 zAp (B5 s_law):=E7
theorem vag:LS s_law "_law_other":=lq
theorem asB(F:FunD K "law" "law" s_law f fd)(T:Txt P w K mg C ae)(G_Order_letters:MO P w K mg base 1 C "letters" zA2 (als C))(G_Order_marks:MO P w K mg base 1 C "marks" zA2 (aiT C))(G_l_cell_at:FO P w K mg base 1 "_law_cell_at" zAh [] (xA K))(G_l_turns:FO P w K mg base 2 "_law_turns" zB0 [] (alL K))(G_change:FO P w K mg base 3 "change" zAa [] ai3)(G_Book___init__:KO P w K mg base 7 ae "Book" zB2 (alT ae))(G_l_names:FO P w K mg base 1 "_law_names" zB3 [] spNms)(G_Book_order_of:MO P w K mg base 7 ae "order_of" zA5 (al2 C ae))(G_l_first:FO P w K mg base 1 "_law_first" zB4 [] al4)(G_l_block:FO P w K mg base 2 "_law_block" zB5 [] al3)(G_l_in_turn:FO P w K mg base 9 "_law_in_turn" zB6 [] (aje C)):FnOk P w K mg base D1 10 f fd zAp (spLaw K):=by
 refine F.ok sc_law ?_ ?_
 .walk_at "ln"
 .intro cdv A outer s H vs Q E hr h;have hu:=hr.units;have hZ:=E6 sc_law;refine ⟨_,QSs.out (A5 (C5 1 (O0 (K:=K) A2 (M4 (E4 G_l_cell_at (K8 (qz 0) A2)) A2)))
   (A5 (C5 2 (E4 G_l_turns (K8 (qz 0) (O0 (K:=K) (qz 1) A2))))
   (A5 (C5 3 (Q4 (K:=K) (qe_ix (K:=K) (qz 2) A2) (N7 (qz 1)) X0))
   (A5 (C5 4 (Q4 (K:=K) (qe_ix (K:=K) (qz 2) A2) X0 (N7 (qz 1))))
   (A5 (fC (n:=5) sc_law.nd rfl vag (P8:CompOk zB7 (B5 s_law).names _ zBg 1 [3]) (N0 (K:=K) (qe_ix (K:=K) (qz 2) A2)) (fun _ _ _ _ _=>N9 (n:=0) (show List.Nodup (zBg:Ab) by decide +kernel) rfl (Or.inl rfl)) (fun _ _ _ _ _=>(aH (D6 (iL (K:=K) hu) (F9 0) (F9 1)))) (fun _ _ _ _ _=>(F9 0)))
   (A5 (C5 6 (M4 (qe_op q_mul (E4 G_l_cell_at (K8 (qz 0) A2)) A2) A2))
   (A5 (C5 7 (E4 G_l_names (K8 (V9 (qz 6) A2) A2)))
   (A5 (C5 8 (O9 (C3 (E4 G_l_block (U8 (qe_ix (K:=K) (qz 7) A2) I0 (E4 G_l_first (U8 (qz 4) (qz 3) (qz 6))))))))
   (A5 (U9 (K:=K) (qz 8) (E4 G_l_block (U8 (qe_ix (K:=K) (qz 7) A2) (qe_ix (K:=K) (qz 7) A2) (E4 G_change (K8 (qz 4) (qz 5))))))
   (A5 (U9 (K:=K) (qz 8) (E4 G_l_block (U8 (qe_ix (K:=K) (qz 7) A2) (qe_ix (K:=K) (qz 7) A2) (E4 G_change (K8 (qz 5) (qz 4))))))
   (A5 (C5 9 (M4 (V9 (qz 6) A2) A2))
   (Y6 (C5 8 (O0 (K:=K) (Q4 (K:=K) (qz 8) (N7 (qz 9)) X0) (Q4 (K:=K) (qz 8) X0 (N7 (qz 9)))))
   (Y6 (C5 10 (ak5 G_Book___init__ (hm hr) (C3 (qe_mB (K:=K) gW PySem.F.slot_str_join PySem.F.type_str_join (uC (K:=K)) I0 (C3 (V4  (P8:CompOk zB7 (B5 s_law).names _ ["_law_lines"] 1 []) (N0 (K:=K) (qz 8)) (fun _ _ _ _ _=>N9 (n:=0) (show List.Nodup (["_law_lines"]:Ab) by decide +kernel) rfl (Or.inl rfl)) (fun _ _ _ _ _=>Y5) (fun _ _ _ _ _=>(qe_mB (K:=K) gW PySem.F.slot_str_join PySem.F.type_str_join (uC (K:=K)) I0 (C3 (F9 0))))))))))
   (A5 (C5 11 (O9 (U8 (qz 4) (qz 5) (qz 4))))
   (A5 (N8 bd.never (N0 (K:=K) (O9 (dB (M4 (V9 (qz 6) A2) A2) A2 A2 A2))) (K7 12) (A5 (C5 13 (fE (qz 10) G_Book_order_of (hm hr) (C3 (qe_ix (K:=K) (qz 7) (qz 12)))))
   (A5 (C5 14 (pO (qz 13) G_Order_letters (hm hr)))
   (Y6 (qs_if (QW.pt (qw_or (D6 (q_ne (K:=K) hu) (qz 14) (qe_ix (K:=K) (qz 11) (qz 12))) (lE (D6 (q_ne (K:=K) hu) (pO (qz 13) G_Order_marks (hm hr)) (Q4 (K:=K) (qz 3) X0 (N7 A2)))))) (A6 (C9 qe_bl)) G5)
   (A5 (Z9 (qe_m0 (K:=K) q0 kQ kP lG (qz 14)))
   (Y6 (qs_if (QW.pt (qw_or (eZ (T7 (K:=K) (E4 G_l_in_turn (U8 (qz 13) (qe_ix (K:=K) (qz 11) (qz 12)) A2)))) (lE (D6 (q_ne (K:=K) hu) (pO (qz 13) G_Order_letters (hm hr)) (qe_ix (K:=K) (qz 11) (qz 12)))))) (A6 (C9 qe_bl)) G5)
   (A6 (qs_if (eZ (T7 (K:=K) (E4 G_l_in_turn (U8 (qz 13) (qe_ix (K:=K) (qz 11) (qz 12)) (O0 (K:=K) A2 (M4 (V9 (qz 6) A2) A2)))))) (A6 (C9 qe_bl)) G5))))))))
   (A6 (C9 qe_bl))))))))))))))))),?_⟩
  obtain ⟨a,ns,rfl,hS,A9,q⟩:=h;walk_at "rd";refine ⟨a,ns,0,rfl,hS,by decide,fun c0=>⟨_,rfl,?_⟩⟩;obtain ⟨n,hn,hn1,hn40⟩:∃ n:Nat,1+c0 % 24=n/\1<=n/\n<=24:=⟨(1+c0 % 24).toNat,by lia,by lia,by lia⟩
  rw [hn];refine ⟨a,ns,_,rfl,hS,A9,by lia,by lia,fun p l1 l2 zs ws H1 S1 hp V0 W1 _ _ _ P0 nX jO jQ=>?_⟩;have x4:zs.length=n+3:=by lia
  obtain ⟨m0,m1,f,zX⟩:∃ m0 m1 f,zs.drop n=[m0,m1,f]:=by
   have h6:(zs.drop n).length=3:=by rw [Z2];lia
   match zs.drop n,h6 with
   | [a,b,c],_=>exact ⟨a,b,c,rfl⟩
  obtain ⟨xs,rW⟩:∃ xs,zs.take n=xs:=⟨_,rfl⟩
  have rX:zs=xs++[m0,m1,f]:=by rw [<- rW,<- zX,c9]
  have jV:xs.length=n:=by rw [<- rW,G9];lia
  have rN:xs≠[]:=fun e=>by rw [e] at jV;simp at jV;lia
  have s:S88 xs m0 m1 f:=⟨by rw [<- rX];exact nX,by rw [<- rX];exact jQ,by lia,by lia⟩
  have nx:xs.Nodup:=s.nx;walk_at "rd";refine ⟨_,.inr (.of hp),V.ref l1,O5 _ _,?_⟩;walk_at "rd";refine rSlR.l (.of V0) fun b nb=>?_
  rw [aI,<- z8,zX];have S2:Same H1 (A0 H1 b (.lst ([m0,m1,f].map V.str))):=Same.new nb;have nA:A0 H1 b (.lst ([m0,m1,f].map V.str)) b=some (.lst ([m0,m1,f].map V.str)):=A1;generalize A0 H1 b (.lst ([m0,m1,f].map V.str))=H2 at S2 nA;refine ⟨_,.inr (.of (S2 _ _ hp)),V.ref l1,O5 _ _,?_⟩;walk_at "rd";refine rSlR.l (.of (S2 _ _ V0)) fun o1 no1=>?_
  rw [iM,<- cG,rW];have S3:Same H2 (A0 H2 o1 (.lst (xs.map V.str))):=Same.new no1;have zY:A0 H2 o1 (.lst (xs.map V.str)) o1=some (.lst (xs.map V.str)):=A1;generalize A0 H2 o1 (.lst (xs.map V.str))=H3 at S3 zY;have nY:=S3 _ _ nA;have gK:=S3 _ _ (S2 _ _ W1);refine ⟨_,.inr (.of (S3 _ _ (S2 _ _ hp))),V.ref l2,M6 (j:=1) rfl,l2,rfl,⟨_,.of gK⟩,?_⟩;have jD:ws.length=n+3:=by rw [jO.length_eq];exact x4
  refine compL (xs:=ws.map V.str) [some (.ref b)] rfl (fun D i vs H4=>vs=((ws.take i).filter fun x=>!decide (x∈[m0,m1,f])).map V.str/\Same H3 H4) (fun D nD=>⟨rfl,Same.new nD⟩) (by rintro D i vs H4 nD _ ⟨_,S⟩;exact .of (S _ _ gK)) ?_ ?_
  .rintro D i y vs H4 nD hi hy ⟨rfl,S⟩ hD mX;obtain ⟨x,hx,rfl⟩:=G8 hy;rw [A3] at mX;have gD:i<ws.length:=(F8.mp hx).1;walk_at "rd";refine rInR.l (.inl (.of (S _ _ nY))) rfl (pF _) ⟨_,rfl,?_⟩;rw [lB,Bool.true_xor]
   by_cases e:(!decide (x∈[m0,m1,f]))=true
   .rw [if_pos e];refine ⟨hD,by rw [A3];exact G4 (by lia),CW.put hi (by rw [A3];exact mX) ⟨?_,S.put nD⟩⟩;rw [L0 hx,Q0,o9 (p:=fun x=>!decide (x∈[m0,m1,f])) e,D0];rfl
   .rw [if_neg e];refine ⟨hD,hi,by rw [A3];lia,⟨_,rfl⟩,?_,S⟩;rw [L0 hx,Q0,aW (p:=fun x=>!decide (x∈[m0,m1,f])) e,List.filter_nil,L5]
  rintro o2 vs H4 no2 ⟨rfl,S4⟩ g7 _;rw [A3,K5] at g7;obtain ⟨ys,nC⟩:∃ ys,(ws.filter fun x=>!decide (x∈[m0,m1,f]))=ys:=⟨_,rfl⟩
  rw [nC] at g7;have pm:ys.Perm xs:=by
   rw [<- nC];refine (jO.filter _).trans ?_;rw [rX,Q0,gQ.mpr (fun x hx=>?_),p0.mpr (fun x hx=>by rw [decide_eq_true hx];decide),L5]
   have:=(i9.mp s.nd).2.2 x hx
   simp only [kL,decide_eq_false_iff_not];intro hm;exact this x hm rfl
  have ny:ys.Nodup:=pm.nodup_iff.mpr nx;have S04:=S1.trans (S2.trans (S3.trans S4));have jX:=S4 _ _ nY;have nZ:=S4 _ _ zY;clear hp V0 W1 gK S1 S2 S3 S4 nb no1 no2 nA nY zY nC jO jQ nX P0 x4 jD rW zX rX;have okx:∀ x∈xs,cM x=true:=fun x hx=>(cU (s.pc x (P1 _ hx))).1
  have R3:=pm.length_eq;refine ⟨a,ns,1,rfl,S04.seq hS,by decide,fun c1=>?_⟩;walk_at "rd";have hN0:0<=c1*69621 % 2147483647:=V8 _ (by decide);generalize c1*69621 % 2147483647=N at hN0;refine ⟨.inr ⟨by lia,by lia⟩,_,_,rfl,by lia,by decide,by decide,fun nl nms H5 _ S5 hnl hn3 jJ jY=>?_⟩;obtain ⟨a0,a1,a2,rfl⟩:∃ a0 a1 a2,nms=[a0,a1,a2]:=by
   match nms,hn3 with
   | [a,b,c],_=>exact ⟨a,b,c,rfl⟩
  walk_at "rd";refine ⟨_,.inl (.of hnl),_,O5 _ _,o1,b,N,xs,m0,m1,f,rfl,S5 _ _ nZ,S5 _ _ jX,s,fun r1 ts1 F H6 _ S6 hR1 w=>?_⟩;refine ⟨a0,none,r1,ts1,F,by rw [show ai ""=(⟨#[]⟩:Str) by decide +kernel];rfl,jY a0 (by simp),(fun x e=>by cases e),hR1,w.fine s,by have:=w.len;lia,fun l1 H7 _ S7 V0=>⟨by decide,fun bl nbl=>?_⟩⟩;have S8:Same H7 (A0 H7 bl (.lst [V.ref l1])):=Same.new nbl;have y0:A0 H7 bl (.lst [V.ref l1]) bl=some (.lst ([l1].map V.ref)):=A1;generalize A0 H7 bl (.lst [V.ref l1])=H8 at S8 y0;have oA:=S6.trans S7;have y3:=oA _ _ hnl;have gL:=oA _ _ (S5 _ _ nZ);have gM:=oA _ _ (S5 _ _ g7);have hb7:=oA _ _ (S5 _ _ jX);clear S6 oA hR1 S04;have c2:∀ xs ys ks,(chg88 xs ys ks).length<=100:=fun xs ys ks=>by unfold chg88;split <;> simp
  refine ⟨M7 y0,_,.inl (.of (S8 _ _ y3)),_,M6 (j:=1) rfl,_,.inl (.of (S8 _ _ y3)),_,O5 _ _,o1,o2,xs,ys,rfl,S8 _ _ gL,S8 _ _ gM,nx,ny,pm,by lia,fun r2 ts2 k2 H9 _ S9 rB _ hR2=>?_⟩;refine ⟨a1,some a0,r2,ts2,_,rfl,jY a1 (by simp),(fun x e=>by cases e;exact jY a0 (by simp)),hR2,qO s pm,c2 _ _ _,fun l2 W3 o7 gH W1=>appOk (gH _ _ (S9 _ _ y0)) (by show 1<ak;decide) ?_⟩;have n2:l2≠bl:=fun e=>by rw [e,S9 _ _ y0] at o7;cases o7
  have gN:Same H7 (A0 W3 bl (.lst ([l1].map V.ref++[V.ref l2]))):=(S8.trans (S9.trans gH)).put nbl;have b9:A0 W3 bl (.lst ([l1].map V.ref++[V.ref l2])) l2=_:=(A4 n2).trans W1;have X6:A0 W3 bl (.lst ([l1].map V.ref++[V.ref l2])) bl=some (.lst ([l1,l2].map V.ref)):=A1;generalize A0 W3 bl (.lst ([l1].map V.ref++[V.ref l2]))=H11 at gN b9 X6;clear S8 S9 gH hR2 y0 W1 o7;refine ⟨M7 X6,_,.inl (.of (gN _ _ y3)),_,M6 (j:=2) rfl,_,.inl (.of (gN _ _ y3)),_,M6 (j:=1) rfl,o2,o1,ys,xs,rfl,gN _ _ gM,gN _ _ gL,ny,nx,pm.symm,by lia,fun r3 ts3 k3 H12 _ X2 rC _ hR3=>?_⟩;refine ⟨a2,some a1,r3,ts3,_,rfl,jY a2 (by simp),(fun x e=>by cases e;exact jY a1 (by simp)),hR3,qO (s.perm pm) pm.symm,c2 _ _ _,fun l3 rY gJ rZ hl3=>appOk (rZ _ _ (X2 _ _ X6)) (by show 2<ak;decide) ?_⟩;have n3:l3≠bl:=fun e=>by rw [e,X2 _ _ X6] at gJ;cases gJ
  have gO:Same H7 (A0 rY bl (.lst ([l1,l2].map V.ref++[V.ref l3]))):=(gN.trans (X2.trans rZ)).put nbl;have hP:Paired (fun r (b:Bl)=>A0 rY bl (.lst ([l1,l2].map V.ref++[V.ref l3])) r=some (.lst (((D7 b).map Ln.text).map V.str))) [l1,l2,l3] [(a0,none,F),(a1,some a0,chg88 xs ys k2),(a2,some a1,chg88 ys xs k3)]:=
   .cons (gO _ _ V0) (.cons ((A4 n2).trans (rZ _ _ (X2 _ _ b9))) (.cons ((A4 n3).trans hl3) .nil))
  have i5:A0 rY bl (.lst ([l1,l2].map V.ref++[V.ref l3])) bl=some (.lst ([l1,l2,l3].map V.ref)):=A1;generalize A0 rY bl (.lst ([l1,l2].map V.ref++[V.ref l3]))=H14 at gO hP i5;clear gN X2 rZ hR3 b9 X6 hl3 gJ V0 nbl n2 n3;have eA:=gO _ _ y3;have eB:=gO _ _ gL;have eC:=gO _ _ gM;have oB:=gO _ _ hb7;clear gO S5 S7;obtain ⟨h,hh,hh3⟩:∃ h:Nat,N / 512 % 3=(h:Int)/\h<3:=⟨(N / 512 % 3).toNat,by lia,by lia⟩
  rw [hh];obtain ⟨bs,sA⟩:∃ bs,bs=([(a0,none,F),(a1,some a0,chg88 xs ys k2),(a2,some a1,chg88 ys xs k3)]:List Bl).drop h++([(a0,none,F),(a1,some a0,chg88 xs ys k2),(a2,some a1,chg88 ys xs k3)]:List Bl).take h:=⟨_,rfl⟩
  obtain ⟨hF,eD,kk⟩:=asA s w rB rC pm jJ jY sA;have nY:bs.length<=3:=by rw [sA,C6,Z2,G9];simp only [E5,P9];lia
  obtain ⟨tx1,tx2⟩:=txt88 hF eD nY;have hP2:=Paired.append (xQ h hP).1 (xQ h hP).2;rw [<- sA] at hP2;clear sA hP rB rC w;refine midS (fun Y H'=>∃ q2:ab,Y=[some (.ref a),some (.int (n:Int)),some (.ref p),some (.ref b),some (.ref o1),some (.ref o2),some (.int N),some (.ref nl),some (.ref q2),some (.int (h:Int)),none,none,none,none,none]/\Same H14 H'/\H' q2=some (.lst (([l1,l2,l3].drop h++[l1,l2,l3].take h).map V.ref))) ?_ ?_
  .intro M' hM;walk_at "rd";refine rSlR.l (.of i5) fun q1 n1=>rSlR.l (.of (A7 i5 n1)) fun q3 n3=>?_
   rw [aI,iM,<- z8,<- cG];rw [aI,<- z8] at n3;refine rAddR.l (A7 A1 n3) A1 (by simp only [A3,Z2,G9,E5,P9];exact O2 (by lia)) fun q2 nq2=>hM _ _ ⟨q2,rfl,((Same.new n1).trans (Same.new n3)).trans (Same.new nq2),by rw [A1,D0]⟩
  rintro Y H15 ⟨q2,rfl,zZ,mV⟩;generalize [l1,l2,l3].drop h++[l1,l2,l3].take h=rs at hP2 mV;refine midS (fun Y H'=>∃ (k dx o e:ab) (H0:Hp) (ad:Al) (as:Str->Ai) (kn:Int),Y=[some (.ref a),some (.int (n:Int)),some (.ref p),some (.ref b),some (.ref o1),some (.ref o2),some (.int N),some (.ref nl),some (.ref q2),some (.int (h:Int)),some (.ref k),none,none,none,none]/\Same H15 H'/\BookAt ae H0 H' k dx o e (Bk.of (bs.flatMap D7)) ad as kn) ?_ ?_
  .intro M' hM;walk_at "rd";refine ⟨⟨_,.of mV⟩,compL (xs:=rs.map V.ref) [] rfl (fun D i ys H'=>ys=((bs.take i).map fun b=>Str.join (ai "\n") ((D7 b).map Ln.text)).map V.str/\Same H15 H') (fun D nD=>⟨rfl,Same.new nD⟩) (by rintro D i ys H' _ _ ⟨_,S⟩;exact .of (S _ _ mV)) ?_ ?_⟩
   .rintro D i v ys H' nD hi hv ⟨rfl,S⟩ hD hy;obtain ⟨r,hr,rfl⟩:=G8 hv;obtain ⟨b',T5,hrb⟩:=Paired.at hP2 hr;have gD:=(F8.mp T5).1;walk_at "rd";refine ⟨ai "\n",r,(D7 b').map Ln.text,rfl,rfl,.inl (.of (S _ _ (zZ _ _ hrb))),by decide +kernel,tx1 b' (K2 T5),hD,by rw [A3,A3,G9];exact G4 (by lia),CW.put hi hy ⟨?_,S.put nD⟩⟩;rw [L0 T5,D0,D0];rfl
   rintro D ys H' nD ⟨rfl,S⟩ hD _;rw [A3,Paired.length hP2,K5] at hD;refine ⟨ai "\n",D,_,rfl,rfl,.inl (.of hD),by decide +kernel,by rw [A3];exact tx2,fun k dx nk ndx G0=>⟨k,dx,bs.flatMap D7,H',?_,rfl,nk,ndx,G0,hF,eD,fun o e ad as H2 bk=>⟨rfl,hM _ _ ⟨k,dx,o,e,H',ad,as,_,rfl,S.trans bk.same,bk⟩⟩⟩⟩;have ej:=ae4 (ai "\n") (bs.map fun b=>(D7 b).map Ln.text) fun xs hx=>by
    obtain ⟨b,_,rfl⟩:=E9.mp hx;simp [D7]
   rw [j3,<- List.flatMap_def,<- List.map_flatMap] at ej;rw [<- ej];rfl
  clear hP2 tx1 tx2;rintro Y oC ⟨k,dx,o,e,H0,ad,as,kn,rfl,S16,bk⟩;walk_at "rd";refine ⟨by decide,fun du ndu=>⟨by decide,fun kl nkl=>?_⟩⟩;have sB:Same oC (A0 (A0 oC du (HO.lst [V.ref o1,V.ref o2,V.ref o1])) kl (HO.lst [V.int (N / 1536 % 3),V.int 2,V.int 0,V.int 1])):=(Same.new ndu).trans (Same.new nkl);have hdu:A0 (A0 oC du (HO.lst [V.ref o1,V.ref o2,V.ref o1])) kl (HO.lst [V.int (N / 1536 % 3),V.int 2,V.int 0,V.int 1]) du=some (.lst ([o1,o2,o1].map V.ref)):=A7 A1 nkl;have W2:A0 (A0 oC du (HO.lst [V.ref o1,V.ref o2,V.ref o1])) kl (HO.lst [V.int (N / 1536 % 3),V.int 2,V.int 0,V.int 1]) kl=some (.lst ([N / 1536 % 3,2,0,1].map V.int)):=A1;generalize A0 (A0 oC du (HO.lst [V.ref o1,V.ref o2,V.ref o1])) kl (HO.lst [V.int (N / 1536 % 3),V.int 2,V.int 0,V.int 1])=H17 at sB hdu W2;have good:=(Fits.good hF _ (C1 _)).mono (m:=1000) (by lia);rw [K5] at good;have bk17:=bk.keep sB;have oE:=zZ.trans (S16.trans sB);have oF:=oE _ _ eA;have eE:=oE _ _ eB;have oG:=oE _ _ eC;have hb17:=oE _ _ oB;clear oE zZ S16 sB bk hF ndu nkl eA eB eC oB mV i5;refine ⟨⟨_,.of W2⟩,forLs (xs:=[N / 1536 % 3,2,0,1].map V.int) (fun i Y H'=>∃ (u12 u13 u14:Ap),Y=[some (.ref a),some (.int (n:Int)),some (.ref p),some (.ref b),some (.ref o1),some (.ref o2),some (.int N),some (.ref nl),some (.ref q2),some (.int (h:Int)),some (.ref k),some (.ref du),u12,u13,u14]/\Same H17 H') ⟨_,_,_,rfl,Same.refl _⟩ (by rintro i Y H' _ ⟨_,_,_,_,S⟩;exact .of (S _ _ W2)) ?_ ?_⟩
  .rintro P' B' hP' i v Y H' hv ⟨u12,u13,u14,rfl,S⟩;obtain ⟨x,hx,rfl⟩:=G8 hv;obtain ⟨j,rfl,hj⟩:∃ j:Nat,x=(j:Int)/\j<3:=by
    have:=K2 hx
    simp only [D8,Q8,or_false] at this
    rcases this with rfl | rfl | rfl | rfl
    .exact ⟨(N / 1536 % 3).toNat,by lia,by lia⟩
    .exact ⟨2,rfl,by decide⟩
    .exact ⟨0,rfl,by decide⟩
    .exact ⟨1,rfl,by decide⟩
   obtain ⟨nm,c,R,L,jN,dX,k6,hsm,nP,sL,wL,hL⟩:=kk j hj;obtain ⟨oj,hoj,hoL⟩:∃ oj:ab,[o1,o2,o1][j]?=some oj/\H17 oj=some (.lst (L.map V.str)):=by
    rcases (show j=0\/j=1\/j=2 by lia) with rfl | rfl | rfl
    .cases hL;exact ⟨o1,rfl,eE⟩
    .cases hL;exact ⟨o2,rfl,oG⟩
    .cases hL;exact ⟨o1,rfl,eE⟩
   have okL:∀ z∈L,cM z=true:=fun z hz=>(cU (sL.pc z (P1 _ hz))).1
   have inm:K6 ([a0,a1,a2].map V.str) (j:Int)=some (V.str nm):=M6 (by rw [U3,jN];rfl);have idu:K6 ([o1,o2,o1].map V.ref) (j:Int)=some (V.ref oj):=M6 (by rw [U3,hoj];rfl);clear hv hx kk hL jN hoj;walk_at "rd";refine ⟨dx,_,S _ _ bk17.obj,rfl,_,.inl (.of (S _ _ oF)),_,inm,k,dx,o,e,H0,_,ad,as,kn,nm,c,g88 L f,(L.idxOf ·),([m0,m1].idxOf ·),rfl,bk17.keep S,good,dX,k6,hsm,by rw [nP];exact wL.good sL (by decide),fun x j' ll ml md L' M1 jZ S18 hO=>?_⟩;rw [nP] at hO;obtain ⟨e1,e2⟩:=wL.lets sL hO.l1 hO.l2;subst e1 e2;obtain ⟨dxo,hob⟩:=hO.ob;walk_at "rd";refine ⟨dxo,_,hob,lR _ _ _ _ _ _ (by decide +kernel),x,j',ll,ml,md,_,_,_,_,rfl,hO,fun l nll=>?_⟩;have sC:=S.trans S18;have i6:=sC _ _ hdu;have hoL18:=sC _ _ hoL;have hb18:=sC _ _ hb17;have eF:Same jZ (A0 jZ l (.lst (L'.map V.str))):=Same.new nll;have y4:A0 jZ l (.lst (L'.map V.str)) l=some (.lst (L'.map V.str)):=A1;generalize A0 jZ l (.lst (L'.map V.str))=H19 at eF y4;have dep:∀ X:Ab,(PyData.list (X.map PyData.str)).depth<=60:=fun X=>by rw [eO,afv];decide
   have okM:∀ z∈[m0,m1],cM z=true:=fun z hz=>(cU (s.pc z (by simp at hz ⊢;rcases hz with e | e <;> simp [e]))).1
   clear S S18 k6 hsm nP dX inm;refine midS (fun Y H'=>Y=[some (.ref a),some (.int (n:Int)),some (.ref p),some (.ref b),some (.ref o1),some (.ref o2),some (.int N),some (.ref nl),some (.ref q2),some (.int (h:Int)),some (.ref k),some (.ref du),some (.int (j:Int)),some (.ref x),some (.ref l)]/\Same H19 H') ?_ ?_
   .intro M' hM;walk_at "rd";refine ⟨_,.inl (.of (eF _ _ i6)),_,idu,_,.lst (.of y4) (eU okL),_,.lst (.of (eF _ _ hoL18)) (eU okL),K9 (Nat.min_le_left _ _) (dep _),?_⟩;rw [tT,decide_eq_true rfl];refine iteF ⟨dxo,_,eF _ _ hob,lR _ _ _ _ _ _ (by decide +kernel),x,j',ll,ml,md,_,_,_,_,rfl,hO.same eF,fun l5 kA=>rSlR.l (.of (A7 (eF _ _ hb18) kA)) fun l6 nl6=>?_⟩;rw [show cutV ([m0,m1,f].map V.str) none (some 2)=[m0,m1].map V.str from iM _ 2] at *;refine ⟨_,_,.lst (.of (A7 A1 nl6)) (eU okM),.lst (.of A1) (eU okM),K9 (Nat.min_le_left _ _) (dep _),_,rfl,?_⟩;rw [tT,decide_eq_true rfl];exact iteF (hM _ _ ⟨rfl,(Same.new kA).trans (Same.new nl6)⟩)
   rintro Y H20 ⟨rfl,sD⟩;walk_at "rd";refine ⟨M7 (sD _ _ y4),l,_,rfl,rfl,sD _ _ y4,?_⟩;have kB:Same jZ (A0 H20 l (.lst (L'.map V.str).reverse)):=(eF.trans sD).put nll;generalize A0 H20 l (.lst (L'.map V.str).reverse)=H21 at kB;clear eF sD y4 nll;refine midS (fun Y H'=>Y=[some (.ref a),some (.int (n:Int)),some (.ref p),some (.ref b),some (.ref o1),some (.ref o2),some (.int N),some (.ref nl),some (.ref q2),some (.int (h:Int)),some (.ref k),some (.ref du),some (.int (j:Int)),some (.ref x),some (.ref l)]/\Same jZ H') ?_ ?_
   .intro M' hM;walk_at "rd";refine ⟨_,.inl (.of (kB _ _ i6)),_,idu,x,oj,1,L',m0,m1,f,52,R,j',ll,ml,md,_,rfl,hO.same kB,sL,wL,by decide,kB _ _ hoL18,by decide,by decide,fun H22 S22=>?_⟩;have S2:=kB.trans S22;walk_at "rd";refine ⟨dxo,_,S2 _ _ hob,lR _ _ _ _ _ _ (by decide +kernel),x,j',ll,ml,md,_,_,_,_,rfl,hO.same S2,fun l5 kA=>⟨_,.inl (.of (A7 (S2 _ _ i6) kA)),_,idu,?_⟩⟩;refine ⟨_,_,.lst (.of A1) (eU okL),.lst (.of (A7 (S2 _ _ hoL18) kA)) (eU okL),K9 (Nat.min_le_left _ _) (dep _),_,rfl,?_⟩;rw [tT,decide_eq_true rfl];exact iteF (hM _ _ ⟨rfl,S2.trans (Same.new kA)⟩)
   clear kB;rintro Y H23 ⟨rfl,dZ⟩;obtain ⟨d,hd,nF,hd6⟩:∃ d:Nat,2+N / 4608 % 5=(d:Int)/\1<=d/\d<=10:=⟨(2+N / 4608 % 5).toNat,by lia,by lia,by lia⟩
   walk_at "rd";refine ⟨_,.inl (.of (dZ _ _ i6)),_,idu,?_⟩;rw [hd];refine ⟨x,oj,d,L',m0,m1,f,52,R,j',ll,ml,md,_,rfl,hO.same dZ,sL,wL,by decide,dZ _ _ hoL18,nF,hd6,fun H24 S24=>?_⟩;walk_at "rd";exact hP' _ _ _ ⟨_,_,_,rfl,sC.trans (dZ.trans S24)⟩
  rintro Y H' ⟨u12,u13,u14,rfl,S⟩;walk_at "rd";exact q _
end
theorem all_mk{l:PySem.W.OpenLaw}{w:av}{ae:ab}(X:K.In h)(G:h.Ns be mg)(rM:mg "law"=some (.ref fa))(d0:DF K "told" vJ)(d1:DF K "followers" vK)(d2:DF K "count_ahead" vL)(d3:DF K "lined_up" iZ)(d4:DF K "is_figure" vM)(d5:DF K "has_rule" pY)(d6:DF K "pieces_told" vN)(d7:DF K "is_clash" pZ)(d8:DF K "jobs_of" vO)(d9:DF K "misused" fH)(d10:DF K "check_letters" vP)(d11:DF K "line_of" qA)(d12:DF K "forms_of" vQ)(d13:DF K "steps_of" qB)(d14:MD K C "__init__" "Order.__init__" vR)(d15:MD K C "letters" "Order.letters" vS)(d16:MD K C "marks" "Order.marks" vT)(d17:MD K C "job" "Order.job" vU)(d18:DF K "figures_at" vV)(d19:DF K "part_at" vW){f20:ab}{od20 an20:Ah}{sl20:Af}{oc20 kV20 dc20 pm20 cd20 ct20:ac}{tD20:ab}{nD20:Nat}{cD20:ac}{oD20:Ah}{sD20:Af}(dl20:K.lookup tD20=some ⟨cD20,oD20,.seq #[.bool false] nD20,sD20⟩)(a20:N6 K be "cut"=some (some (.ref f20)))(l20:K.lookup f20=some ⟨oc20,od20,.func (X9 "cut" "cut" (f7 s_cut) (Z8 s_cut) (B5 s_cut) (.ref tD20) kV20 dc20 pm20 an20 cd20 ct20),sl20⟩)(c20:p9 K cd20 "cut"=true)(k20:Z4 K (.ref f20)=true)(d21:MD K C "known" "Order.known" vX)(d22:MD K C "steps" "Order.steps" vY)(d23:DF K "parts_of" vZ)(d24:DF K "steps_by" wA)(d25:DF K "add_mark" wB)(d26:DF K "add_part" wC)(d27:DF K "units" qC)(d28:DF K "places_of" wD)(d29:DF K "group_for" wE)(d30:DF K "kept_most" wF)(d31:DF K "forgotten" wG)(d32:DF K "without" qD)(d33:DF K "changed" fI)(d34:DF K "_law_cell_at" wH)(d35:DF K "_law_pieces" wI)(d36:DF K "_law_turns" wJ)(d37:DF K "change" lW)(d38:DF K "looks" fJ){f39:ab}{od39 an39:Ah}{sl39:Af}{oc39 kV39 dc39 pm39 cd39 ct39:ac}{kD39:Tok}{tD39:ab}{nD39:Nat}{cD39:ac}{oD39:Ah}{sD39:Af}(dl39:K.lookup tD39=some ⟨cD39,oD39,.seq #[.int 4 kD39] nD39,sD39⟩)(a39:N6 K be "compare"=some (some (.ref f39)))(l39:K.lookup f39=some ⟨oc39,od39,.func (X9 "compare" "compare" (f7 jA) (Z8 jA) (B5 jA) (.ref tD39) kV39 dc39 pm39 an39 cd39 ct39),sl39⟩)(c39:p9 K cd39 "compare"=true)(k39:Z4 K (.ref f39)=true)(d40:DF K "is_sign" wK)(d41:DF K "is_piece" qE)(d42:DF K "is_rule" qF)(d43:DF K "read_rule" wM)(d44:DF K "is_name" qG)(d45:DF K "is_beginning" wN)(d46:MD K ae "begin" "Book.begin" wO)(d47:MD K ae "add_rule" "Book.add_rule" wP)(d48:MD K ae "tell" "Book.tell" wQ)(d49:MD K ae "__init__" "Book.__init__" wR)(d50:MD K ae "elders_from" "Book.elders_from" wS)(d51:MD K ae "rules_of" "Book.rules_of" wT)(d52:DF K "show_rule" wU)(d53:DF K "_law_names" wV)(d54:MD K ae "order_of" "Book.order_of" wW)(d55:DF K "_law_first" lX)(d56:DF K "_law_block" qH)(d57:DF K "_law_in_turn" wX){f58:ab}{od58 an58:Ah}{sl58:Af}{oc58 kV58 dc58 pm58 cd58 ct58:ac}(a58:N6 K be "law"=some (some (.ref f58)))(l58:K.lookup f58=some ⟨oc58,od58,.func (X9 "law" "law" (f7 s_law) (Z8 s_law) (B5 s_law) .none kV58 dc58 pm58 an58 cd58 ct58),sl58⟩)(c58:p9 K cd58 "law"=true)(k58:Z4 K (.ref f58)=true)(aC:N6 K be "Order"=some (some (.ref C)))(pgC:gU K C Str.empty=true)(hdC:kN K C=true)(poC:PySem.W.plainOver K C=true)(saC:Q1 K (.ref C) "__setattr__"=some (some (.builtin "object.__setattr__")))(mkC:kO K C=true)(kcC:Z4 K (.ref C)=true)(nC_figures:Q1 K (.ref C) "figures"=some none)(nC_behind:Q1 K (.ref C) "behind"=some none)(nC_jobs:Q1 K (.ref C) "jobs"=some none)(nC_letter_line:Q1 K (.ref C) "letter_line"=some none)(nC_mark_line:Q1 K (.ref C) "mark_line"=some none)(nC_made:Q1 K (.ref C) "made"=some none)(aC_Book:N6 K be "Book"=some (some (.ref ae)))(pgC_Book:gU K ae Str.empty=true)(hdC_Book:kN K ae=true)(poC_Book:PySem.W.plainOver K ae=true)(saC_Book:Q1 K (.ref ae) "__setattr__"=some (some (.builtin "object.__setattr__")))(mkC_Book:kO K ae=true)(kcC_Book:Z4 K (.ref ae)=true)(nC_own:Q1 K (.ref ae) "own"=some none)(nC_elders:Q1 K (.ref ae) "elders"=some none)(nC_newest:Q1 K (.ref ae) "newest"=some none)(nC_length:Q1 K (.ref ae) "length"=some none)(z_all:N6 K be "all"=some none)(z_any:N6 K be "any"=some none)(z_dict:N6 K be "dict"=some none)(z_enumerate:N6 K be "enumerate"=some none)(z_int:N6 K be "int"=some none)(z_isinstance:N6 K be "isinstance"=some none)(z_len:N6 K be "len"=some none)(z_list:N6 K be "list"=some none)(z_min:N6 K be "min"=some none)(z_ord:N6 K be "ord"=some none)(z_range:N6 K be "range"=some none)(z_reversed:N6 K be "reversed"=some none)(z_str:N6 K be "str"=some none)(z_tuple:N6 K be "tuple"=some none)(z_zip:N6 K be "zip"=some none){a_JOBS:ab}{ep_JOBS:Nat}{h_JOBS_0:Int}{t_JOBS_0 u_JOBS_0:Tok}{h_JOBS_1:Int}{t_JOBS_1 u_JOBS_1:Tok}{h_JOBS_2:Int}{t_JOBS_2 u_JOBS_2:Tok}{h_JOBS_3:Int}{t_JOBS_3 u_JOBS_3:Tok}{h_JOBS_4:Int}{t_JOBS_4 u_JOBS_4:Tok}(y_JOBS:N6 K be "JOBS"=some (some (.ref a_JOBS)))(d_JOBS:K.lookup a_JOBS=some { cls:=.type "dict",dict:=none,data:=.dict #[⟨h_JOBS_0,.str "row" t_JOBS_0,.str "letter" u_JOBS_0⟩,⟨h_JOBS_1,.str "marks" t_JOBS_1,.str "mark" u_JOBS_1⟩,⟨h_JOBS_2,.str "great" t_JOBS_2,.str "great" u_JOBS_2⟩,⟨h_JOBS_3,.str "as" t_JOBS_3,.str "as" u_JOBS_3⟩,⟨h_JOBS_4,.str "over" t_JOBS_4,.str "over" u_JOBS_4⟩] ep_JOBS,slots:=#[] })(s_JOBS:(a_JOBS==sysModules)=false)(e_JOBS_0:h_JOBS_0=keyH w (Sum.inr ("row" : Str)))(e_JOBS_1:h_JOBS_1=keyH w (Sum.inr ("marks" : Str)))(e_JOBS_2:h_JOBS_2=keyH w (Sum.inr ("great" : Str)))(e_JOBS_3:h_JOBS_3=keyH w (Sum.inr ("as" : Str)))(e_JOBS_4:h_JOBS_4=keyH w (Sum.inr ("over" : Str))){a_AGAIN:ab}{n_AGAIN:Nat}{od_AGAIN:Ah}{sl_AGAIN:Af}{t_AGAIN_0:Tok}{t_AGAIN_1:Tok}{t_AGAIN_2:Tok}(y_AGAIN:N6 K be "AGAIN"=some (some (.ref a_AGAIN)))(d_AGAIN:K.lookup a_AGAIN=some ⟨.type "tuple",od_AGAIN,.seq #[.str "letter" t_AGAIN_0,.str "mark" t_AGAIN_1,.str "over" t_AGAIN_2] n_AGAIN,sl_AGAIN⟩){a_STAYING:ab}{ep_STAYING:Nat}{h_STAYING_0:Int}{t_STAYING_0 u_STAYING_0:Tok}{h_STAYING_1:Int}{t_STAYING_1 u_STAYING_1:Tok}{h_STAYING_2:Int}{t_STAYING_2 u_STAYING_2:Tok}{h_STAYING_3:Int}{t_STAYING_3 u_STAYING_3:Tok}(y_STAYING:N6 K be "STAYING"=some (some (.ref a_STAYING)))(d_STAYING:K.lookup a_STAYING=some { cls:=.type "dict",dict:=none,data:=.dict #[⟨h_STAYING_0,.str "row" t_STAYING_0,.int 1 u_STAYING_0⟩,⟨h_STAYING_1,.str "marks" t_STAYING_1,.int 1 u_STAYING_1⟩,⟨h_STAYING_2,.str "over" t_STAYING_2,.int 1 u_STAYING_2⟩,⟨h_STAYING_3,.str "great" t_STAYING_3,.int 2 u_STAYING_3⟩] ep_STAYING,slots:=#[] })(s_STAYING:(a_STAYING==sysModules)=false)(e_STAYING_0:h_STAYING_0=keyH w (Sum.inr ("row" : Str)))(e_STAYING_1:h_STAYING_1=keyH w (Sum.inr ("marks" : Str)))(e_STAYING_2:h_STAYING_2=keyH w (Sum.inr ("over" : Str)))(e_STAYING_3:h_STAYING_3=keyH w (Sum.inr ("great" : Str))){a_FEWEST:ab}{ep_FEWEST:Nat}{h_FEWEST_0:Int}{t_FEWEST_0 u_FEWEST_0:Tok}{h_FEWEST_1:Int}{t_FEWEST_1 u_FEWEST_1:Tok}{h_FEWEST_2:Int}{t_FEWEST_2 u_FEWEST_2:Tok}{h_FEWEST_3:Int}{t_FEWEST_3 u_FEWEST_3:Tok}{h_FEWEST_4:Int}{t_FEWEST_4 u_FEWEST_4:Tok}{h_FEWEST_5:Int}{t_FEWEST_5 u_FEWEST_5:Tok}(y_FEWEST:N6 K be "FEWEST"=some (some (.ref a_FEWEST)))(d_FEWEST:K.lookup a_FEWEST=some { cls:=.type "dict",dict:=none,data:=.dict #[⟨h_FEWEST_0,.str "row" t_FEWEST_0,.int 1 u_FEWEST_0⟩,⟨h_FEWEST_1,.str "marks" t_FEWEST_1,.int 1 u_FEWEST_1⟩,⟨h_FEWEST_2,.str "great" t_FEWEST_2,.int 2 u_FEWEST_2⟩,⟨h_FEWEST_3,.str "as" t_FEWEST_3,.int 2 u_FEWEST_3⟩,⟨h_FEWEST_4,.str "over" t_FEWEST_4,.int 1 u_FEWEST_4⟩,⟨h_FEWEST_5,.str "forget" t_FEWEST_5,.int 1 u_FEWEST_5⟩] ep_FEWEST,slots:=#[] })(s_FEWEST:(a_FEWEST==sysModules)=false)(e_FEWEST_0:h_FEWEST_0=keyH w (Sum.inr ("row" : Str)))(e_FEWEST_1:h_FEWEST_1=keyH w (Sum.inr ("marks" : Str)))(e_FEWEST_2:h_FEWEST_2=keyH w (Sum.inr ("great" : Str)))(e_FEWEST_3:h_FEWEST_3=keyH w (Sum.inr ("as" : Str)))(e_FEWEST_4:h_FEWEST_4=keyH w (Sum.inr ("over" : Str)))(e_FEWEST_5:h_FEWEST_5=keyH w (Sum.inr ("forget" : Str))){a_BARE:ab}{n_BARE:Nat}{od_BARE:Ah}{sl_BARE:Af}{t_BARE_0:Tok}{t_BARE_1:Tok}{t_BARE_2:Tok}(y_BARE:N6 K be "BARE"=some (some (.ref a_BARE)))(d_BARE:K.lookup a_BARE=some ⟨.type "tuple",od_BARE,.seq #[.str "figures" t_BARE_0,.str "blanks" t_BARE_1,.str "behind" t_BARE_2] n_BARE,sl_BARE⟩){tMARK tLETTER tFIGURES:Tok}{tPER:Tok}(y_MARK:N6 K be "MARK"=some (some (.int 0 tMARK)))(y_LETTER:N6 K be "LETTER"=some (some (.int 2 tLETTER)))(y_FIGURES:N6 K be "FIGURES"=some (some (.int 1 tFIGURES)))(y_PER:N6 K be "PER_CENT"=some (some (.int 37 tPER)))
  : ∃ fd:bx,(∀ (s:ag) (v:ac),BindsTo s fd ⟨[v],[]⟩ [("_law_script",v)])/\∀ base:au,K.In base->base.Ns be mg->FnOk l.prog w K mg base D1 10 fa fd zAp (spLaw K):=by
 have e:=rM.symm.trans (W7 X G a58);cases e;have T:Txt l.prog w K mg C ae:=⟨⟨pgC,hdC,poC,saC⟩,nC_figures,nC_behind,nC_jobs,nC_letter_line,nC_mark_line,nC_made,⟨pgC_Book,hdC_Book,poC_Book,saC_Book⟩,nC_own,nC_elders,nC_newest,nC_length,Z3 X G z_all,Z3 X G z_any,Z3 X G z_dict,Z3 X G z_enumerate,Z3 X G z_int,Z3 X G z_isinstance,Z3 X G z_len,Z3 X G z_list,Z3 X G z_min,Z3 X G z_ord,Z3 X G z_range,Z3 X G z_reversed,Z3 X G z_str,Z3 X G z_tuple,Z3 X G z_zip,⟨_,W7 X G y_MARK⟩,⟨_,W7 X G y_LETTER⟩,⟨_,W7 X G y_FIGURES⟩,⟨_,W7 X G y_PER⟩,⟨_,W7 X G y_JOBS,tZ d_JOBS s_JOBS (.cons ⟨Y1 _ _,e_JOBS_0,⟨_,rfl⟩⟩ ( .cons ⟨Y1 _ _,e_JOBS_1,⟨_,rfl⟩⟩ ( .cons ⟨Y1 _ _,e_JOBS_2,⟨_,rfl⟩⟩ ( .cons ⟨Y1 _ _,e_JOBS_3,⟨_,rfl⟩⟩ ( .cons ⟨Y1 _ _,e_JOBS_4,⟨_,rfl⟩⟩ ( .nil)))))) (by decide +kernel)⟩,⟨_,W7 X G y_AGAIN,fun H=>.inr ⟨_,_,_,d_AGAIN,rfl,rfl,(by show 3<=ak;decide),.cons ⟨_,rfl⟩ ( .cons ⟨_,rfl⟩ ( .cons ⟨_,rfl⟩ ( .nil)))⟩⟩,⟨_,W7 X G y_STAYING,tZ d_STAYING s_STAYING (.cons ⟨Y1 _ _,e_STAYING_0,⟨_,rfl⟩⟩ ( .cons ⟨Y1 _ _,e_STAYING_1,⟨_,rfl⟩⟩ ( .cons ⟨Y1 _ _,e_STAYING_2,⟨_,rfl⟩⟩ ( .cons ⟨Y1 _ _,e_STAYING_3,⟨_,rfl⟩⟩ ( .nil))))) (by decide +kernel)⟩,⟨_,W7 X G y_FEWEST,tZ d_FEWEST s_FEWEST (.cons ⟨Y1 _ _,e_FEWEST_0,⟨_,rfl⟩⟩ ( .cons ⟨Y1 _ _,e_FEWEST_1,⟨_,rfl⟩⟩ ( .cons ⟨Y1 _ _,e_FEWEST_2,⟨_,rfl⟩⟩ ( .cons ⟨Y1 _ _,e_FEWEST_3,⟨_,rfl⟩⟩ ( .cons ⟨Y1 _ _,e_FEWEST_4,⟨_,rfl⟩⟩ ( .cons ⟨Y1 _ _,e_FEWEST_5,⟨_,rfl⟩⟩ ( .nil))))))) (by decide +kernel)⟩,⟨_,W7 X G y_BARE,fun H=>.inr ⟨_,_,_,d_BARE,rfl,rfl,(by show 3<=ak;decide),.cons ⟨_,rfl⟩ ( .cons ⟨_,rfl⟩ ( .cons ⟨_,rfl⟩ ( .nil)))⟩⟩⟩
 have F20:=kY (st:=s_cut) l20 c20;have F39:=kY (st:=jA) l39 c39;have F58:=kY (st:=s_law) l58 c58;refine ⟨X9 "law" "law" (f7 s_law) (Z8 s_law) (B5 s_law) .none kV58 dc58 pm58 an58 cd58 ct58,fun s v=>.of_eq rfl,fun base hb hn=>?_⟩;have G_told:=d0.go X G hb fun F=>aqD F T
 have G_followers:=d1.go X G hb fun F=>ahy F T G_told
 have G_count_ahead:=d2.go X G hb fun F=>afi F T
 have G_lined_up:=d3.go X G hb fun F=>aim F T G_followers G_count_ahead
 have G_is_figure:=d4.go X G hb fun F=>ahz F T
 have G_has_rule:=d5.go X G hb fun F=>ain F T
 have G_pieces_told:=d6.go X G hb fun F=>afj F T
 have G_is_clash:=d7.go X G hb fun F=>aio F T G_is_figure
 have G_jobs_of:=d8.go X G hb fun F=>ajR F T G_has_rule G_pieces_told G_is_clash
 have G_misused:=d9.go X G hb fun F=>ajS F T
 have G_check_letters:=d10.go X G hb fun F=>aeh F T G_misused
 have G_line_of:=d11.go X G hb fun F=>ajT F T G_lined_up
 have G_forms_of:=d12.go X G hb fun F=>aip F T
 have G_steps_of:=d13.go X G hb fun F=>aiq F T G_forms_of
 have G_Order___init__:=ko_mk mkC kcC (W7 X G aC) (d14.al hb fun F=>adY F T G_has_rule G_jobs_of G_check_letters G_line_of G_steps_of);have G_Order_letters:=mo_mk T.cl (d15.al hb fun F=>aei F T);have G_Order_marks:=mo_mk T.cl (d16.al hb fun F=>afk F T);have G_Order_job:=mo_mk T.cl (d17.al hb fun F=>ahA F T);have G_figures_at:=d18.go X G hb fun F=>agx F T G_is_figure
 have G_part_at:=d19.go X G hb fun F=>ajU F T G_is_figure G_figures_at
 have G_cut:FO l.prog w K mg base 4 "cut" zAe [.bl false] (pX K):=⟨_,_,an4 F20 T G_part_at,W7 X G a20,k20,[.bool false],(fun s us L3 hl=>by obtain ⟨u1,u2,rfl⟩:=asm hl;exact PySem.W.binds_K L3 rfl dl20 rfl rfl rfl),.cons rfl .nil⟩
 have G3_cut:FO l.prog w K mg base 4 "cut" zAe [] (pX K):=⟨_,_,an4 F20 T G_part_at,W7 X G a20,k20,[],(fun s us L3 hl=>by obtain ⟨u1,u2,u3,rfl⟩:=anf hl;exact PySem.W.binds_K L3 rfl dl20 rfl rfl rfl),.nil⟩
 have G_Order_known:=mo_mk T.cl (d21.al hb fun F=>afl F T);have G_Order_steps:=mo_mk T.cl (d22.al hb fun F=>afm F T);have G_parts_of:=d23.go X G hb fun F=>air F T G3_cut G_Order_known
 have G_steps_by:=d24.go X G hb fun F=>ais F T G_is_figure G_Order_steps
 have G_add_mark:=d25.go X G hb fun F=>ait F T
 have G_add_part:=d26.go X G hb fun F=>aiu F T G_steps_by G_add_mark
 have G_units:=d27.go X G hb fun F=>anu F T G_parts_of G_add_part
 have G_places_of:=d28.go X G hb fun F=>ahB F T
 have G_group_for:=d29.go X G hb fun F=>ahC F T
 have G_kept_most:=d30.go X G hb fun F=>ahD F T G_places_of G_group_for
 have G_forgotten:=d31.go X G hb fun F=>ahE F T
 have G_without:=d32.go X G hb fun F=>ajV F T
 have G_changed:=d33.go X G hb fun F=>ajW F T G_forgotten G_without
 have G_l_cell_at:=d34.go X G hb fun F=>ahF F T
 have G_l_pieces:=d35.go X G hb fun F=>aiv F T
 have G_l_turns:=d36.go X G hb fun F=>ajX F T G_l_cell_at G_l_pieces
 have G_change:=d37.go X G hb fun F=>al6 F T G_kept_most
 have G_looks:=d38.go X G hb fun F=>anv F T G_units
 have G_compare:FO l.prog w K mg base 8 "compare" zAb [.int 4] (mD C):=⟨_,_,afY F39 T G_looks,W7 X G a39,k39,[.int 4 _],(fun s us L3 hl=>by obtain ⟨u1,u2,u3,rfl⟩:=alV hl;exact PySem.W.binds_K L3 rfl dl39 rfl rfl rfl),.cons ⟨_,rfl⟩ .nil⟩
 have G3_compare:FO l.prog w K mg base 8 "compare" zAb [] (mD C):=⟨_,_,afY F39 T G_looks,W7 X G a39,k39,[],(fun s us L3 hl=>by obtain ⟨u1,u2,u3,u4,rfl⟩:=aqy hl;exact PySem.W.binds_K L3 rfl dl39 rfl rfl rfl),.nil⟩
 have G_is_sign:=d40.go X G hb fun F=>ajY F T
 have G_is_piece:=d41.go X G hb fun F=>aiw F T G_is_sign
 have G_is_rule:=d42.go X G hb fun F=>ajZ F T G_is_piece
 have G_read_rule:=d43.go X G hb fun F=>ahG F T G_is_rule
 have G_is_name:=d44.go X G hb fun F=>aj0 F T
 have G_is_beginning:=d45.go X G hb fun F=>aff F T G_is_name
 have G_Book_begin:=mo_mk T.cl_Book (d46.al hb fun F=>agy F T);have G_Book_add_rule:=mo_mk T.cl_Book (d47.al hb fun F=>aej F T G_read_rule);have G_Book_tell:=mo_mk T.cl_Book (d48.al hb fun F=>ahH F T G_is_beginning G_Book_begin G_Book_add_rule);have G_Book___init__:=ko_mk mkC_Book kcC_Book (W7 X G aC_Book) (d49.al hb fun F=>aek F T G_Book_tell);have G_Book_elders_from:=mo_mk T.cl_Book (d50.al hb fun F=>adb F T);have G_Book_rules_of:=mo_mk T.cl_Book (d51.al hb fun F=>ael F T G_changed G_Book_elders_from);have G_show_rule:=d52.go X G hb fun F=>ahI F T
 have G_l_names:=d53.go X G hb fun F=>aj1 F T
 have G_Book_order_of:=mo_mk T.cl_Book (d54.al hb fun F=>aem F T G_Order___init__ G_Book_rules_of);have G_l_first:=d55.go X G hb fun F=>aj2 F T
 have G_l_block:=d56.go X G hb fun F=>aj3 F T G_show_rule
 have G_l_in_turn:=d57.go X G hb fun F=>ahJ F T G_compare G3_compare
 exact asB F58 T G_Order_letters G_Order_marks G_l_cell_at G_l_turns G_change G_Book___init__ G_l_names G_Book_order_of G_l_first G_l_block G_l_in_turn
theorem walk{l:PySem.W.OpenLaw}{q:ax}{XP:(Str->Ag)->au->Prop}{YP:av->au->Prop}{d:DefRec}{K:Params->aj}(hn:l.most=some 63)(aK:d.params.defaults=[])(hY:∀ (w:av) (h:au),YP w h->(K w.params).In h)(F:∀ (w:av) (mg:Str->Ag) (fa:ab) (h:au),(K w.params).In h->h.Ns be mg->mg d.name=some (.ref fa)->
   ∃ fd:bx,(∀ (s:ag) (u:ac),BindsTo s fd ⟨[u],[]⟩ [("_law_script",u)])/\∀ base:au,(K w.params).In base->base.Ns be mg->FnOk l.prog w (K w.params) mg base D1 10 fa fd zAp (spLaw (K w.params))) :
  PySem.W.WalkO q loose XP YP l.row.toRowW d [] (fun f vs=>PySem.call f vs):=
 L2.walk_of (n:=63) (k:=10) (x:="_law_script") (CX:=fun _=>D1) (sp:=fun w=>spLaw (K w.params)) hn (by decide) aK ⟨rfl,by decide,by decide,rfl⟩ hY F (fun _ _ a ns hl _ hS=>⟨a,ns,rfl,hS,hl,fun _=>rfl⟩) fun _ _ _ _ _ z=>z
end K88
open PySem PySem.W PyProof.Rows
set_option maxRecDepth 100000 in
set_option maxHeartbeats 0 in
theorem PySem.Challenge.cw_sortlore_k88_whole_book_of_changes_holds : PySem.Challenge.rw_sortlore_k88_whole_book_of_changes.Holds := by
 w_on;o_law;k_head;(case hw=>w_witness2)
 k_fill
 refine K88.walk (l:=PySem.Challenge.rw_sortlore_k88_whole_book_of_changes) rfl rfl (fun w h zy=>PySem.W.kIn_of zy) ?F
 case F=>
  intro w mg fa h KX G mK
  refine' K88.all_mk KX G mK ?d0 ?d1 ?d2 ?d3 ?d4 ?d5 ?d6 ?d7 ?d8 ?d9 ?d10 ?d11 ?d12 ?d13 ?d14 ?d15 ?d16 ?d17 ?d18 ?d19 ?dl20 ?a20 ?l20 ?c20 ?k20 ?d21 ?d22 ?d23 ?d24 ?d25 ?d26 ?d27 ?d28 ?d29 ?d30 ?d31 ?d32 ?d33 ?d34 ?d35 ?d36 ?d37 ?d38 ?dl39 ?a39 ?l39 ?c39 ?k39 ?d40 ?d41 ?d42 ?d43 ?d44 ?d45 ?d46 ?d47 ?d48 ?d49 ?d50 ?d51 ?d52 ?d53 ?d54 ?d55 ?d56 ?d57 ?a58 ?l58 ?c58 ?k58 ?aC ?pgC ?hdC ?poC ?saC ?mkC ?kcC ?nC_figures ?nC_behind ?nC_jobs ?nC_letter_line ?nC_mark_line ?nC_made ?aC_Book ?pgC_Book ?hdC_Book ?poC_Book ?saC_Book ?mkC_Book ?kcC_Book ?nC_own ?nC_elders ?nC_newest ?nC_length ?z_all ?z_any ?z_dict ?z_enumerate ?z_int ?z_isinstance ?z_len ?z_list ?z_min ?z_ord ?z_range ?z_reversed ?z_str ?z_tuple ?z_zip ?y_JOBS ?d_JOBS ?s_JOBS ?e_JOBS_0 ?e_JOBS_1 ?e_JOBS_2 ?e_JOBS_3 ?e_JOBS_4 ?y_AGAIN ?d_AGAIN ?y_STAYING ?d_STAYING ?s_STAYING ?e_STAYING_0 ?e_STAYING_1 ?e_STAYING_2 ?e_STAYING_3 ?y_FEWEST ?d_FEWEST ?s_FEWEST ?e_FEWEST_0 ?e_FEWEST_1 ?e_FEWEST_2 ?e_FEWEST_3 ?e_FEWEST_4 ?e_FEWEST_5 ?y_BARE ?d_BARE ?y_MARK ?y_LETTER ?y_FIGURES ?y_PER
  any_goals (refine' K88.df_mk ?da ?dl ?dc ?dk;(case da=>k_is);(case dl=>k_is);(case dc=>k_is);(case dk=>k_is))
  (case aC=>k_is)
  (case aC_Book=>k_is)
  any_goals (refine' K88.md_mk ?da ?di ?dl ?dc ?dk;(case da=>k_is);(case di=>k_is);(case dl=>k_is);(case dc=>k_is);(case dk=>k_is))
  (case a20 | l20 | c20 | k20 | a39 | l39 | c39 | k39 | a58 | l58 | c58 | k58 | pgC | hdC | poC | saC | mkC | kcC | nC_figures | nC_behind | nC_jobs | nC_letter_line | nC_mark_line | nC_made | pgC_Book | hdC_Book | poC_Book | saC_Book | mkC_Book | kcC_Book | nC_own | nC_elders | nC_newest | nC_length | z_all | z_any | z_dict | z_enumerate | z_int | z_isinstance | z_len | z_list | z_min | z_ord | z_range | z_reversed | z_str | z_tuple | z_zip | y_JOBS | d_JOBS | y_AGAIN | d_AGAIN | y_STAYING | d_STAYING | y_FEWEST | d_FEWEST | y_BARE | d_BARE | y_MARK | y_LETTER | y_FIGURES | y_PER=>k_is)
  (case s_JOBS | e_JOBS_0 | e_JOBS_1 | e_JOBS_2 | e_JOBS_3 | e_JOBS_4 | s_STAYING | e_STAYING_0 | e_STAYING_1 | e_STAYING_2 | e_STAYING_3 | s_FEWEST | e_FEWEST_0 | e_FEWEST_1 | e_FEWEST_2 | e_FEWEST_3 | e_FEWEST_4 | e_FEWEST_5=>rfl)
  (case dl20 | dl39=>k_is)
