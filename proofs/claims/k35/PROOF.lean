import PyProof.Rows.All
import Wide.All
import OpenK.AllK
import Wide.FinOn
import Lean
import PyProof.EqAt
import PyProof.EqKinds
import PyProof.TupleCall
import PySem.Challenge.RW_sortlore_k35_worth_of_figures
set_option compiler.extract_closed false
open List renaming length_map → A8, length_append → D4, getElem?_eq_some_iff → J8, getElem?_eq_getElem → N1, map_append → E4, size_toArray → J9, length_cons → J7, mem_cons → E7, map_cons → E8, mem_singleton → M4, mem_cons_of_mem → N7, take_length → L1, mem_append_right → O5, mem_of_getElem? → O1, mem_append → K5, mem_map → E9, length_take → M5, append_nil → L3, mem_cons_self → N8, mem_append_left → R4, flatMap_append → V0, replicate → P1, flatMap_cons → V1, append_assoc → V2, nodup_cons → R5, take_of_length_le → b0, mem_iff_getElem → Y9, nodup_iff_pairwise_ne → o8, mem_filter → U7, length_singleton → b8, cons_append → W3, getD_eq_getElem?_getD → z9, pairwise_iff_getElem → aA, map → L7, take_append_drop → o9, take_add_one → b9, length_eq_zero_iff → aB, getElem?_map → c9, not_mem_nil → e8, nil_append → f6, length_nil → f7, foldl_append → p0, drop_eq_getElem_cons → dL, any_cons → Z0, find?_cons → k5, cons_lt_cons_iff → bQ, idxOf_lt_length_iff → dM, mem_flatMap → p6, nodup_append → aD, replicate_succ → bR, filterMap_cons → bS, getElem?_append_right → fX, length_drop → aE, countP_cons → aF, length → f8, filter_cons_of_pos → fY, filter_cons_of_neg → fZ, take_zero → aG, drop_of_length_le → gC, drop_eq_nil_of_le → gD, map_nil → p7, map_map → q0, flatten_cons → dN, getElem?_append_left → kO, flatMap_nil → dO, map_congr_left → gE, mem_filterMap → gF, getElem_idxOf → gG, filter_append → gH, lookup → aH, lookup_cons → gI
open Nat renaming le_refl → C4, lt_of_lt_of_le → P3, zero_le → J5, le_trans → M6, ne_of_lt → M8, le_add_right → aI, lt_irrefl → k6, min_eq_left → dP, lt_trichotomy → gJ
open Bool renaming false_ne_true → K3, and_eq_true → W4, false_xor → bT, not_eq_true → gK
open PySem.F renaming plainAttrs_list → W5, type_list_append → q5, slot_list_append → q9, slot_dict_get → dQ, type_list_extend → kP, slot_list_extend → kQ, entry_dict_get → kR
open PySem.W renaming findIn → O6, nsIn → O2, keepIn → R6, mg_none_of → Z1, fnOf → Q5, codeIn → V3, emptyDict → r8, mg_of → Z2, instObj → aJ, isFn → t6, plainGet → gL
open PySem.NumText renaming digitsVal → k7
open Array renaming length_toList → bU
open PySem.PyData renaming eqv → Z3
set_option Elab.async false
set_option linter.all false
set_option maxRecDepth 100000
noncomputable section
set_option genInjectivity false in
set_option genSizeOf false in
structure PySem.W.Fast where (tw16085996511048708018 tw17300532438245145549 tw16419869351962255750 tw8325669152461590905 tw13319529061355836757 tw12744084581800622655 tw1948511026882081985 tw205122553493832468 tw17771668919273918629 tw9714891667353703338 tw3075868451301221857 tw1998803330520282502 tw12434657527226077820 tw6466136911969989881 tw5590151817465382092 tw15296608267551302266 tw2046092485738180537 tw1288177263898347691 tw3794405235325937811 tw5780348664334146986 tw6117980972924796968 tw18065830607142078612 tw10897116683223402501 tw7625655038743362423 tw11707733932174681447 tw7651526591498403325 tw14247412161496461540 tw15935044442436384662 tw3393025534359369995 tw4539949803794470300 tw14427542679133966122 tw4659017890583030592 tw8119435607901511903 tw11686108332683640825 tw13067463123430023722 tw9526348609476230157 tw7628247786010160808 tw14777584873895104090 tw3880337309069265887
tw15188456990093963361 tw4652710950149048384 tw15609326578052034661 tw1882794829516549980 tw4750789858976125348 tw14621483508555355114 tw9495785597786663501 tw6690920109799876877 tw11894069586734601519 tw453888059905148037 tw2209032146359607308 tw16726959357657757034 tw16213005119732625080 tw14170487499421235708 tw13460102384487242629 tw8259713101041496713 tw1213673217222802544 tw8013384184108173751 tw15724463614911741677 tw15054518085153172498 tw14552704591233580443 tw8626957980681486570 tw9631178325919968169 tw46503161920176029 tw8324766065282857220 tw15822672137311781222 tw5532590530360753213 tw17567101479856805743 tw4267382665736002978 tw7056106556038368037 tw2919047499351676021 tw1559440294224638793 tw6108722797409874246 tw4008507846532575191 tw11281162215835330529 tw7033381910457280556 tw1007974956297493261 tw3659346103704735364 tw16563328438201869340 tw18195960680757697818
tw2274181529918461500 tw6543361536040646385 tw8201413654875274282 tw1636122486143746124 tw13040205529080637355 tw6159153038293628303 tw10882643793771648452 tw466125020934822934 tw16691211763321511721 tw720619141403002359 tw4189997002204292108 tw7923685362530774985 tw15321947291929549892 tw18353144480575201039 tw2431843792721206299 tw10850081875923339435 tw16201230960771930220 tw724429200889758910 tw12381668219426012449 tw12619200079513123742 tw3038620802710255558 tw6896283775265301321 tw13033631479702316737 tw1260216041976366577 tw9981773110372414077 tw4418736651895672593 tw16872574636201626948 tw4735800485568819252 tw9100038878983281937 tw759084715467904204 tw14529775957136985867 tw4062707661173401039 tw13333131771943636956 tw3620907975422020408 tw4420034082813365887 tw11830258050568234012 tw13949572068940436289 tw17252717517724917261 tw14683862995367416410 tw9570125688864506175
tw14991876651613238136 tw8920811097378442739 tw537596205069523060 tw1522387249788295970 tw18389548620446595816 tw3777231503964627174 tw9413796523748838043 tw4067946930804004154 tw3170064666207161335 tw13959094066130599442 tw10267001234244298750 tw14703340182661409354 tw9756583086469831168 tw8039675529333571913 tw6788807866006947122 tw6794424049746830640 tw14130457472483622875 tw17405950361806742199 tw12630651155968686779 tw17948294420210408160 tw9672112152627216 tw9282993345593130269 tw12759495660645768931 tw15257867094931886928 tw18269418023972874861 tw14455866328172763098 tw5319460959588822286 tw3040636130626865679 tw800329648503747471 tw7512172075685143586 tw7018962878315313945 tw4191402119055209438 tw1510452387986175834 tw12762784157549188177 tw6480564786995662354 tw3147636588157818497 tw228324996507481712 tw8240907822842986812 tw17365333005817835888 tw4923841844292999534
tw8624936858805975478 tw7190929411262205615 tw1114545070633124663 tw9541870429124882543 tw12502156612253161538 tw13201544691250757717 tw17027737466917574636 tw13259923621697491481 tw3096722252851885416 tw15557141348787156310 tw12919271978211432986 tw8915418237054785915 tw2293701931326433763 tw159271117914930530 tw2978003237874243444 tw10367704811798230586 tw11498841357431542310 tw550758105621445491 tw6670210981174225772 tw7794217296998654803 tw6660706147019128581 tw6104034251909502915 tw2730526315112662864 tw10582597897612774910 tw5447176978770027046 tw6876909356759175913 tw15867676586323863369 tw10223761131847065775 tw12326560097369207637 tw3023375236800698366 tw7884734392126499671 tw9506511828120172702 tw1605218045094373967 tw1886177363879028548 tw4435283757012928411 tw5564116288537894301 tw15596934998688866726 tw10694776262787114806 tw8523765725532318277 tw1054763245557325885
tw3322301151924461741 tw6650861927719748059 tw8314999018665810148 tw76846474092961075 tw8732004090391957831 tw11977161223702479261 tw6188097940639622055 tw6529557001525017487 tw3280437867976905921 tw9484070360323632772 tw932108564804318026 tw14212050657013506864 tw15839559839938573284 tw7456846691737100843 tw671866178354699535 tw1898493056543450884 tw5524799007115999751 tw10481809415871737539 tw12261872830089596435 tw15826068091029447780 tw4449800645463765687 tw2517939746839455174 tw12234390578969823699 tw8592084885010315453 tw10955457446221714501 tw5184438253300650137 tw6624440318380285027 tw16704902917732612525 tw14794548382353616550 tw14041270698434846189 tw18255978906495262230 tw13618605447610519940 tw1426447140036304238 tw9006131387930137546 tw3139409766214366541 tw5712426684901769385 tw5324686052080185808 tw2884975284910418538 tw8737360902395395477 tw10243317039000153290
tw6406417919564789942 tw5707606052487735952 tw12553520297986504997 tw604397617192505177 tw12890501380433661215 tw8689581833740888104 tw5188719970285628562 tw15921341927467792333 tw724658419034264900 tw9406010982316253838 tw11937953373336017458 tw18117224068616887259 tw13958784467715813219 tw18288541785896641269 tw15987461899375029299 tw6439669117995009310 tw12805984749730285833 tw6546598140281570896 tw13287033628620594711 tw10408320062157035327 tw16183063603435284817 tw10263314149099927453 tw12603653188479293004 tw4098682002268707556 tw73128177062979556 tw9245194646666377086 tw15095798265324668626 tw16965191898257637010 tw1922751975020233028 tw352777440990120680 tw10925778145068101570 tw16576987325177036985 tw1112241168080265199 tw2470915546038821405 tw18329940436993375045 tw6724717342647682981 tw10822040196756419114 tw7381865315738446069 tw1801442200152054250 tw13790202011528061742
tw7204450968707783221 tw3611796558114140571 tw15226546448889906652 tw10553128644415039783 tw17887873795032377321 tw5505481986416492368 tw13005418125268964534 tw12010784888089966085 tw11817925443917864015 tw7039421818563535184 tw1302133570855811990 tw17617293247619239048 tw6396228948329390905 tw1212544984955845113 tw17989047083699564948 tw2090471353651233821 tw7569947868868988742 tw13367142336330348223 tw11269441748757170282 tw10190089258471274189 tw17524840984202216085 tw821430660506818000 tw355194175915832614 tw15931793525652744469 tw4856390523238610005 tw861627306594568362 tw5654181144265343511 tw15584945207997145310 tw1941822642183555254 tw2518909321192710540 tw15257889871189660212 tw16874910466350760845 tw15073248475225208068 tw7798273244394036071 tw11484920838476412117 tw3029711441973573824 tw554757411559511250 tw4477650858609539077 tw15847023201266172673 tw7579003164376923271
tw16498219786054591162 tw8445081049874913236 tw1461360037376738095 tw16019255947548028444 tw12015157011067200306 tw8308626602118528349 tw17694278795088385693 tw14175348857595028204 tw7044882150868165541 tw12763798020536447315 tw12554545876885581616 tw1463044823578690374 tw12477953282554776435 tw8745389271806324989 tw13856810094858561288 tw1224485154220870606 tw11496069098073522386 tw5615162732280999009 tw17695115457005525041 tw3113283333434110260 tw16089256754813980192 tw3712905823177810184 tw11192034976655790522 tw4987980566846933455 tw1150146939150425770 tw15097942778159247089 tw443298229580811096 tw1386260153168475443 tw14406671637195246853 tw2415961541253940688 tw6794943859657641346 tw13820545720271862890 tw3198205669457007928 tw11053874937151157685 tw3158338591045881913 tw18077359752343343675 tw1879654390880896619 tw3565628222794950406 tw13400862861444415420 tw3261676660353802362
tw11575167712557595888 tw14593220410574417113 tw13961935415763440124 tw8902409940661069348 tw9898512676968089299 tw15437930137664577231 tw8064802421837197406 tw6145296886929790635 tw7982631438213914172 tw4342610299167204722 tw1501211927757697572 tw17200391419456834748 tw14682279745465172185 tw12509719435140815853 tw12169589698681198433 tw2340403498250120804 tw8978785368478336828 tw16645041891934833964 tw10714449738229490132 tw2614290566231127579 tw1697092848427128199 tw5058962044442366500 tw18161195108209296961 tw17055348578417774198 tw6192210932186073849 tw9252186592472090641 tw13529046566162705963 tw2851852029264659723 tw2662988284624183307 tw10307677341431871850 tw15189155225697841124 tw17267019995621106240 tw17210531414190852088 tw2555193987720209508 tw9388329624656633496 tw909131506056573958 tw5295376154880703577 tw18215732382454064199 tw5192349805855393735 tw521007599474968507
tw16842596151843241397 tw9449272358727507413 tw3846010759720076203 tw1837401423346543098 tw14632230818499244756 tw4014511104187458731 tw17095974833793632223 tw6379233997531858035 tw9734456047475323951 tw257444128432619856 tw6844501981622300697 tw3312966419102699563 tw13478598896976281812 tw9555609106443408749 tw6454523590721439064 tw1676280895790160761 tw12009637678755610513 tw4945818674802151396 tw554711108906838659 tw8248329645183937102 tw10756492921386358608 tw8483258602167432838 tw6199859587679813402 tw16088288859281848620 tw5713687428820400151 tw4535259638226217499 tw15993444847486050092 tw5594844116193548813 tw7970493150125508367 tw16860552800334930576 tw14870780072382386441 tw17633673196894705333 tw7171510054274599180 tw8096596773522076473 tw14598253960818242112 tw12212797445073202979 tw8651989881571284657 tw18254311126841606403 tw16232531442816937026 tw18260971642685144215
tw9613271502102942772 tw9886147560273860555 tw17267460065963232761:Nat)
set_option maxRecDepth 100000
namespace L2
open PySem PySem.Spec PyProof.Rows
abbrev B1:=Sum Int Str
def keyIs:B1->Value->Bool
 | .inl k,v=>Value.isInt k v
 | .inr x,v=>Value.isStrOf x v
def keyH(w:World):B1->Int
 | .inl k=>hashInt k
 | .inr x=>hashStr w x
theorem g0:∀ {k:B1} {v:Value},keyIs k v=true->(∃ i t,k=Sum.inl i/\v=Value.int i t)\/(∃ x t,k=Sum.inr x/\v=Value.str x t)
 | .inl i,v,h=>by
  obtain ⟨t,e⟩:=Value.isInt_shape (k:=i) (v:=v) h;exact .inl ⟨i,t,rfl,e⟩
 | .inr x,v,h=>by
  obtain ⟨t,e⟩:=Value.isStrOf_shape (x:=x) (v:=v) h;exact .inr ⟨x,t,rfl,e⟩
theorem ah1(i:Int)(t:Tok):keyIs (.inl i) (.int i t)=true:=by simp [keyIs,Value.isInt]
theorem dR(x:Str)(t:Tok):keyIs (.inr x) (.str x t)=true:=by simp [keyIs,Value.isStrOf]
theorem amJ(a b:Int):decide ((Sum.inl a:B1)=Sum.inl b)=(a==b):=by
 by_cases e:a=b
 .subst e;simp
 .have h:¬ (Sum.inl a:B1)=Sum.inl b:=fun q=>e (Sum.inl.inj q)
  rw [decide_eq_false h];exact (beq_eq_false_iff_ne.mpr e).symm
theorem amK(a b:Str):decide ((Sum.inr a:B1)=Sum.inr b)=decide (a=b):=by
 by_cases e:a=b
 .subst e;simp
 .have h:¬ (Sum.inr a:B1)=Sum.inr b:=fun q=>e (Sum.inr.inj q)
  rw [decide_eq_false h,decide_eq_false e]
theorem amL(a:Int)(b:Str):decide ((Sum.inl a:B1)=Sum.inr b)=false:=decide_eq_false (fun q=>nomatch q)
theorem amM(a:Str)(b:Int):decide ((Sum.inr a:B1)=Sum.inl b)=false:=decide_eq_false (fun q=>nomatch q)
def M9(prog:Program)(w:World):PySem.KeyKind prog w B1 where
 is:=keyIs
 hash:=keyH w
 inj:=fun v a b ha hb=>by
  rcases g0 ha with ⟨i,t,rfl,rfl⟩ | ⟨x,t,rfl,rfl⟩
  .rcases g0 hb with ⟨j,u,rfl,e⟩ | ⟨y,u,rfl,e⟩
   .injection e with e1 _;rw [e1]
   .exact nomatch e
  .rcases g0 hb with ⟨j,u,rfl,e⟩ | ⟨y,u,rfl,e⟩
   .exact nomatch e
   .injection e with e1 _;rw [e1]
 byValue:=fun k v h=>by
  rcases g0 h with ⟨i,t,rfl,rfl⟩ | ⟨x,t,rfl,rfl⟩ <;> rfl
 pyHash:=fun hv h=>by
  rcases g0 hv with ⟨i,t,rfl,rfl⟩ | ⟨x,t,rfl,rfl⟩
  .exact wpAny_pyHash_int h
  .exact wpAny_pyHash_str h
 eqBool:=fun hu hv h=>by
  rcases g0 hu with ⟨i,t,rfl,rfl⟩ | ⟨x,t,rfl,rfl⟩
  .rcases g0 hv with ⟨j,u,rfl,rfl⟩ | ⟨y,u,rfl,rfl⟩
   .rw [amJ] at h;exact wpAny_eqBool_int h
   .rw [amL] at h;exact SeqAt.EqAt.int_str i t y u _ _ _ _ h
  .rcases g0 hv with ⟨j,u,rfl,rfl⟩ | ⟨y,u,rfl,rfl⟩
   .rw [amM] at h;exact SeqAt.EqAt.str_int x t j u _ _ _ _ h
   .rw [amK] at h;exact wpAny_eqBool_str h
 «strs»:=fun k x t v h=>by
  rcases g0 h with ⟨i,u,rfl,e⟩ | ⟨y,u,rfl,e⟩
  .exact nomatch e
  .injection e with e1 _
   subst e1
   cases v <;> rfl
theorem agc(prog:Program)(w:World)(i:Int)(t:Tok):(M9 prog w).is (.inl i) (.int i t)=true:=ah1 i t
theorem agd(prog:Program)(w:World)(x:Str)(t:Tok):(M9 prog w).is (.inr x) (.str x t)=true:=dR x t
end L2
namespace L2
open PySem PySem.Spec PyProof.Rows
inductive V where
 | non | bl (b:Bool) | int (i:Int) | str (x:Str) | byt (b:Array UInt8) | flt (b:UInt64) | ref (a:Addr) | ty (n:String)
 deriving DecidableEq
def RelV:V->Value->Prop
 | .non,u=>u=Value.none
 | .bl b,u=>u=Value.bool b
 | .int i,u=>∃ t,u=Value.int i t
 | .str x,u=>∃ t,u=Value.str x t
 | .byt b,u=>∃ t,u=Value.bytes b t
 | .flt b,u=>∃ t,u=Value.float b t
 | .ref a,u=>u=Value.ref a
 | .ty n,u=>u=Value.type n
abbrev Vals:List V->List Value->Prop:=Paired RelV
theorem Vals.length{xs:List V}{us:List Value}(r:Vals xs us):xs.length=us.length:=Paired.length r
theorem Vals.get:∀ {xs:List V} {us:List Value} {i:Nat} {x:V},Vals xs us->xs[i]?=some x->∃ u,us[i]?=some u/\RelV x u
 | _,_,_,_,.nil,e=>by simp at e
 | _,_,0,_,.cons r _,e=>by simp at e;subst e;exact ⟨_,rfl,r⟩
 | _,_,i+1,x,.cons _ t,e=>by
  obtain ⟨u,h1,h2⟩:=Vals.get (i:=i) (x:=x) t (by simpa using e);exact ⟨u,by simpa using h1,h2⟩
theorem Vals.set{x:V}{u:Value}(r:RelV x u):∀ {xs:List V} {us:List Value} (i:Nat),Vals xs us->Vals (xs.set i x) (us.set i u)
 | _,_,_,.nil=>.nil
 | _,_,0,.cons _ t=>.cons r t
 | _,_,i+1,.cons q t=>.cons q (Vals.set r i t)
theorem Vals.append:∀ {xs ys:List V} {us ws:List Value},Vals xs us->Vals ys ws->Vals (xs++ys) (us++ws)
 | _,_,_,_,.nil,s=>s
 | _,_,_,_,.cons r t,s=>.cons r (Vals.append t s)
theorem Vals.take:∀ {xs:List V} {us:List Value} (n:Nat),Vals xs us->Vals (xs.take n) (us.take n)
 | _,_,0,_=>.nil
 | _,_,_+1,.nil=>.nil
 | _,_,n+1,.cons r t=>.cons r (Vals.take n t)
theorem Vals.drop:∀ {xs:List V} {us:List Value} (n:Nat),Vals xs us->Vals (xs.drop n) (us.drop n)
 | _,_,0,r=>r
 | _,_,_+1,.nil=>.nil
 | _,_,n+1,.cons _ t=>Vals.drop n t
theorem Vals.none_of:∀ {xs:List V} {us:List Value} {i:Nat},Vals xs us->xs[i]?=none->us[i]?=none:=fun {xs us i} r e=>by
 have h1:=r.length;have h2:xs.length<=i:=List.getElem?_eq_none_iff.mp e;exact List.getElem?_eq_none_iff.mpr (by lia)
def RelO:Option V->Option Value->Prop
 | some v,some u=>RelV v u
 | none,none=>True
 | _,_=>False
def KV{κ:Type} : List (κ×V)->List (κ×Value)->Prop:=Paired fun (p:κ×V) (q:κ×Value)=>p.1=q.1/\RelV p.2 q.2
def kV:B1->V
 | .inl i=>.int i
 | .inr x=>.str x
inductive HO where
 | lst (xs:List V)
 | tup (xs:List V)
 | dK (kvs:List (B1×V)) | dT (kvs:List (List B1×V))
 | set (S:Int->Bool) (n:Nat)
 | ins (C dx:Addr) (fs:List (Str×V))
 | own (x:Addr)
 | xd (fs:List (Str×V))
 | met (f x:Addr)
 | rng (lo hi:Int)
 | frz (o:Obj) (u:HO)
 | tbl (ps:Array Value)
 | ext (φ:Heap->Prop)
abbrev Hp:=Addr->Option HO
def A0(H:Hp)(a:Addr)(o:HO):Hp:=fun b=>if b=a then some o else H b
theorem A4{H:Hp}{a:Addr}{o:HO} : A0 H a o a=some o:=by unfold A0;rw [if_pos rfl]
theorem B3{H:Hp}{a b:Addr}{o:HO}(h:b≠a):A0 H a o b=H b:=by unfold A0;rw [if_neg h]
theorem ne_of{H:Hp}{a b:Addr}{o u:HO}(h:H a=some o)(h':H b=some u)(d:o≠u):a≠b:=by
 intro e;subst e;rw [h] at h';exact d (Option.some.inj h')
theorem t7{H:Hp}{a b:Addr}{o:HO}(h:H a=some o)(h':H b=none):a≠b:=by
 intro e;subst e;rw [h] at h';cases h'
section
variable (P:Program) (w:World)
def ObjOk(H:Hp)(h:Heap)(a:Addr):HO->Prop
 | .lst xs=>xs.length<=sizeLine/\∃ (its:List Value) (n:Nat),Vals xs its/\h.get? a=some { cls:=.type "list",data:=.seq its.toArray n }
 | .tup xs=>xs.length<=sizeLine/\∃ its:List Value,Vals xs its/\IsTup h a its.toArray
 | .dK kvs=>kvs.length<=sizeLine/\(a==sysModules)=false/\∃ vs,KV kvs vs/\h.DictOf (M9 P w) a vs
 | .dT kvs=>kvs.length<=sizeLine/\(a==sysModules)=false/\∃ xs:List (List B1×Addr×Value),
   Paired (fun (p:List B1×V) (q:List B1×Addr×Value)=>p.1=q.1/\H q.2.1=some (.tup (p.1.map kV))/\RelV p.2 q.2.2) kvs xs/\
   ∃ o es ep,h.get? a=some o/\o.ExactDict/\o.data=.dict es ep/\es.toList=xs.map (entryOfKey (tupleKind (M9 P w)))/\(xs.map (·.1)).Nodup
 | .set S n=>h.SetOf (intKind P w) a S n
 | .ins C dx fs=>H dx=some (.own a)/\fs.length<=1000/\dx≠a/\h.get? a=some (aJ C dx)/\
   ∃ mA,h.Ns1 dx mA/\(∀ f,RelO (fs.lookup f) (mA f))/\PySem.Within mA (fs.map (·.1))
 | .own _=>∃ o,h.get? a=some o
 | .xd fs=>∃ mA,h.Ns1 a mA/\∀ f,RelO (fs.lookup f) (mA f)
 | .rng lo hi=>∃ t u v,h.get? a=some { cls:=.type "range",data:=.fields #[.int lo t,.int hi u,.int 1 v] }
 | .frz o u=>h.get? a=some o/\ObjOk H h a u
 | .tbl ps=>h.get? a=some { cls:=.none,data:=.fields ps }
 | .met f x=>h.get? a=some (PySem.W.methodObj (.ref f) (.ref x))
 | .ext φ=>φ h/\(∃ o,h.get? a=some o)/\∀ h1 h2:Heap,φ h1->(∀ o,h1.get? a=some o->h2.get? a=some o)->φ h2
def L8(H:Hp)(h:Heap):Prop:=∀ a o,H a=some o->ObjOk P w H h a o
end
section
variable {P:Program} {w:World} {H H':Hp} {h h':Heap} {a:Addr} {o:HO}
theorem ObjOk.lt(x:ObjOk P w H h a o):a<h.objs.size:=by
 cases o with
 | lst xs=>obtain ⟨_,_,_,_,e⟩:=x;exact Heap.lt_size e
 | tup xs=>obtain ⟨_,_,_,p⟩:=x;exact p.lt
 | dK kvs=>obtain ⟨_,_,_,_,o,_,_,e,_⟩:=x;exact Heap.lt_size e
 | dT kvs=>obtain ⟨_,_,_,_,o,_,_,e,_⟩:=x;exact Heap.lt_size e
 | set S n=>obtain ⟨o,_,_,_,e,_⟩:=x;exact Heap.lt_size e
 | ins C dx fs=>obtain ⟨_,_,_,e,_⟩:=x;exact Heap.lt_size e
 | own y=>obtain ⟨_,e⟩:=x;exact Heap.lt_size e
 | xd fs=>obtain ⟨_,⟨_,_,_,e,_⟩,_⟩:=x;exact Heap.lt_size e
 | rng lo hi=>obtain ⟨_,_,_,e⟩:=x;exact Heap.lt_size e
 | frz ob u=>obtain ⟨e,_⟩:=x;exact Heap.lt_size e
 | tbl ps=>exact Heap.lt_size (show h.get? a=some _ from x)
 | met f y=>exact Heap.lt_size (show h.get? a=some _ from x)
 | ext φ=>obtain ⟨_,⟨_,e⟩,_⟩:=x;exact Heap.lt_size e
theorem R7{α β:Type}{F G:α->β->Prop} : ∀ {l₁:List α} {l₂:List β},Paired F l₁ l₂->(∀ a b,F a b->G a b)->Paired G l₁ l₂
 | _,_,.nil,_=>.nil
 | _,_,.cons r t,f=>.cons (f _ _ r) (R7 t f)
theorem ObjOk.stay(x:ObjOk P w H h a o)(k:∀ b u,(b=a\/H b=some (.own a))->h.get? b=some u->h'.get? b=some u)(ho:∀ b,H b=some (.own a)->H' b=some (.own a))(ht:∀ b xs,H b=some (.tup xs)->H' b=some (.tup xs)):ObjOk P w H' h' a o:=by
 induction o with
 | lst xs=>obtain ⟨z,its,n,r,e⟩:=x;exact ⟨z,its,n,r,k _ _ (.inl rfl) e⟩
 | tup xs=>obtain ⟨z,its,r,ob,e,c⟩:=x;exact ⟨z,its,r,ob,k _ _ (.inl rfl) e,c⟩
 | dK kvs=>obtain ⟨z,y,vs,r,ob,es,ep,e,c⟩:=x;exact ⟨z,y,vs,r,ob,es,ep,k _ _ (.inl rfl) e,c⟩
 | dT kvs=>
  obtain ⟨z,y,xs,r,ob,es,ep,e,c⟩:=x;exact ⟨z,y,xs,R7 r fun p q z=>⟨z.1,ht _ _ z.2.1,z.2.2⟩,ob,es,ep,k _ _ (.inl rfl) e,c⟩
 | set S n=>obtain ⟨ob,es,ep,t,e,c⟩:=x;exact ⟨ob,es,ep,t,k _ _ (.inl rfl) e,c⟩
 | ins C dx fs=>
  obtain ⟨d,z,ne,e,mA,⟨od,es,ep,e2,c⟩,r⟩:=x;exact ⟨ho _ d,z,ne,k _ _ (.inl rfl) e,mA,⟨od,es,ep,k _ _ (.inr d) e2,c⟩,r⟩
 | own y=>obtain ⟨ob,e⟩:=x;exact ⟨ob,k _ _ (.inl rfl) e⟩
 | xd fs=>obtain ⟨mA,⟨od,es,ep,e,c⟩,r⟩:=x;exact ⟨mA,⟨od,es,ep,k _ _ (.inl rfl) e,c⟩,r⟩
 | rng lo hi=>obtain ⟨t,u,v,e⟩:=x;exact ⟨t,u,v,k _ _ (.inl rfl) e⟩
 | frz ob u ih=>obtain ⟨e,q⟩:=x;exact ⟨k _ _ (.inl rfl) e,ih q⟩
 | tbl ps=>
  have e:h.get? a=some { cls:=.none,data:=.fields ps }:=x;show h'.get? a=some { cls:=.none,data:=.fields ps };exact k a _ (.inl rfl) e
 | met f y=>
  have e:h.get? a=some (PySem.W.methodObj (.ref f) (.ref y)):=x;show h'.get? a=some (PySem.W.methodObj (.ref f) (.ref y));exact k a _ (.inl rfl) e
 | ext φ=>obtain ⟨p,⟨o,e⟩,st⟩:=x;exact ⟨st _ _ p fun o q=>k _ _ (.inl rfl) q,⟨o,k _ _ (.inl rfl) e⟩,st⟩
theorem L8.lt(x:L8 P w H h)(e:H a=some o):a<h.objs.size:=(x a o e).lt
theorem L8.fresh(x:L8 P w H h)(e:h.objs.size<=a):H a=none:=by
 cases q:H a with
 | none=>rfl
 | some u=>exact absurd (P3 (x.lt q) e) (k6 _)
theorem L8.kept(x:L8 P w H h)(k:∀ b u,h.get? b=some u->h'.get? b=some u):L8 P w H h':=fun a o e=>
 (x a o e).stay (fun b u _ q=>k b u q) (fun _ q=>q) fun _ _ q=>q
theorem L8.laid(x:L8 P w H h)(k:∀ b u,h.get? b=some u->h'.get? b=some u)(hp:h.objs.size<=a)(new:ObjOk P w (A0 H a o) h' a o):L8 P w (A0 H a o) h':=fun b u e=>by
 have hn:=x.fresh hp
 by_cases hb:b=a
 .subst hb;rw [A4] at e;cases e;exact new
 .rw [B3 hb] at e;exact (x b u e).stay (fun c v _ q=>k c v q) (fun c q=>by rw [B3 (t7 q hn)];exact q) fun c xs q=>by rw [B3 (t7 q hn)];exact q
end
def Rd(H:Hp)(a:Addr)(u:HO):Prop:=H a=some u\/∃ o,H a=some (.frz o u)
theorem Rd.of{H:Hp}{a:Addr}{u:HO}(h:H a=some u):Rd H a u:=.inl h
theorem Rd.ok{P:Program}{w:World}{H:Hp}{h:Heap}{a:Addr}{u:HO}(r:Rd H a u)(x:L8 P w H h):ObjOk P w H h a u:=by
 rcases r with r | ⟨o,r⟩
 .exact x a u r
 .obtain ⟨_,q⟩:=x a _ r;exact q
def gM:Option HO->Prop
 | some (.lst _)=>True
 | some (.dK _)=>True
 | some (.dT _)=>True
 | some (.set _ _)=>True
 | some (.ins _ _ _)=>True
 | some (.ext _)=>True
 | _=>False
section
variable {P:Program} {w:World} {H:Hp} {h h':Heap} {x e:Addr} {o':HO}
theorem L8.write(ok:L8 P w H h)(mu:gM (H x))(he:e=x\/H e=some (.own x))(k:∀ b u,b≠e->h.get? b=some u->h'.get? b=some u)(fH:∃ u,h'.get? e=some u)(new:ObjOk P w (A0 H x o') h' x o'):L8 P w (A0 H x o') h':=fun b u q=>by
 have nown:∀ c y,H c=some (.own y)->c≠x:=fun c y r z=>by subst z;rw [r] at mu;exact mu
 have ntup:∀ c xs,H c=some (.tup xs)->c≠x:=fun c xs r z=>by subst z;rw [r] at mu;exact mu
 by_cases hb:b=x
 .subst hb;rw [A4] at q;cases q;exact new
 .rw [B3 hb] at q
  by_cases cS:b=e
  .have q':H b=some (.own x):=by
    rcases he with z | z
    .exact absurd (cS.trans z) hb
    .rw [cS];exact z
   rw [q] at q';cases q';obtain ⟨v,hv⟩:=fH;exact ⟨v,by rw [cS];exact hv⟩
  .refine (ok b u q).stay (fun c v hc r=>k c v ?_ r) (fun c r=>by rw [B3 (nown c b r)];exact r) fun c xs r=>by rw [B3 (ntup c xs r)];exact r
   rcases hc with rfl | hc
   .exact cS
   .rintro rfl
    rcases he with z | z
    .exact nown c b hc z
    .rw [hc] at z;cases z;exact hb rfl
end
structure Un(fs ex:List Addr)(H H':Hp)(h h':Heap):Prop where
 keep:∀ b o,h.get? b=some o->H b=none->b∉fs->b∉ex->h'.get? b=some o
 slot:∀ b o,h.get? b=some o->H b=none->b∈fs->b∉ex->∃ sl,h'.get? b=some { o with slots:=sl }
 free:∀ b o,h.get? b=some o->H b=none->b∉ex->H' b=none
 there:∀ b o,h.get? b=some o->b∉ex->∃ o',h'.get? b=some o'
 tups:∀ b xs,H b=some (.tup xs)->H' b=some (.tup xs)
 frzs:∀ b o u,H b=some (.frz o u)->H' b=some (.frz o u)
 tbls:∀ b ps,H b=some (.tbl ps)->∃ more,H' b=some (.tbl (ps++more))
section
variable {fs fs' ex ex':List Addr} {H H1 H2:Hp} {h h1 h2 h':Heap} {a x e:Addr} {o:HO}
theorem Un.any(u:Un fs ex H H1 h h1){b:Addr}{ob:Obj}(q:h.get? b=some ob)(n:H b=none)(hx:b∉ex):∃ sl,h1.get? b=some { ob with slots:=sl }:=by
 by_cases hb:b∈fs
 .exact u.slot b ob q n hb hx
 .exact ⟨ob.slots,u.keep b ob q n hb hx⟩
theorem Un.kept(k:∀ b u,h.get? b=some u->h'.get? b=some u):Un fs ex H H h h':=
 ⟨fun b ob q _ _ _=>k b ob q,fun b ob q _ _ _=>⟨ob.slots,k b ob q⟩,fun _ _ _ n _=>n,fun b ob q _=>⟨ob,k b ob q⟩,fun _ _ q=>q,fun _ _ _ q=>q,fun _ ps q=>⟨#[],by rw [q];simp⟩⟩
theorem ual:Un fs ex H H h h:=Un.kept fun _ _ q=>q
theorem Un.laid(k:∀ b u,h.get? b=some u->h'.get? b=some u)(hp:h.objs.size<=a)(hn:H a=none):Un fs ex H (A0 H a o) h h' where
 keep:=fun b u q _ _ _=>k b u q
 slot:=fun b u q _ _ _=>⟨u.slots,k b u q⟩
 free:=fun b u q n _=>by rw [B3 (M8 (P3 (Heap.lt_size q) hp))];exact n
 there:=fun b u q _=>⟨u,k b u q⟩
 tups:=fun b xs q=>by rw [B3 (t7 q hn)];exact q
 frzs:=fun b u xs q=>by rw [B3 (t7 q hn)];exact q
 tbls:=fun b ps q=>⟨#[],by rw [B3 (t7 q hn),q];simp⟩
theorem Un.write(mu:gM (H x))(he:e=x\/H e=some (.own x))(k:∀ b u,b≠e->h.get? b=some u->h'.get? b=some u)(fH:∃ u,h'.get? e=some u):Un fs ex H (A0 H x o) h h':=by
 have hx:∀ b,H b=none->b≠x:=fun b n z=>by subst z;rw [n] at mu;exact mu
 have hb:∀ b,H b=none->b≠e:=fun b n z=>by
  subst z
  rcases he with r | r
  .exact hx b n r
  .rw [n] at r;cases r
 have hm:∀ b u,H b=some u->¬ gM (some u)->b≠x:=fun b u q nm z=>by subst z;rw [q] at mu;exact nm mu
 refine ⟨fun b u q n _ _=>k b u (hb b n) q,fun b u q n _ _=>⟨u.slots,k b u (hb b n) q⟩,fun b u q n _=>by rw [B3 (hx b n)];exact n,fun b u q _=>?_,
  fun b xs q=>by rw [B3 (hm b _ q fun z=>z)];exact q,fun b u xs q=>by rw [B3 (hm b _ q fun z=>z)];exact q,fun b ps q=>⟨#[],by rw [B3 (hm b _ q fun z=>z),q];simp⟩⟩
 by_cases cS:b=e
 .subst cS;exact fH
 .exact ⟨u,k b u cS q⟩
end
def kS(h:Heap)(H:Hp):List Addr:=(List.range h.objs.size).filter fun a=>(H a).isSome
def hidT(h:Heap)(H:Hp):Heap:=PySem.W.hideAll h (kS h H)
theorem ah2(h:Heap)(H:Hp):(hidT h H).objs.size=h.objs.size:=PySem.W.hideAll_size _ _
theorem ajt{h:Heap}{H:Hp}{b:Addr}{o:Obj}(e:h.get? b=some o)(n:H b=none):(hidT h H).get? b=some o:=
 PySem.W.hideAll_get _ e fun hm=>by
  have q:(H b).isSome=true:=(U7.mp hm).2;rw [n] at q;simp at q
theorem ala{h:Heap}{H:Hp}{b:Addr}{o:Obj}(e:(hidT h H).get? b=some o):h.get? b=some o/\H b=none:=by
 have e':h.get? b=some o:=PySem.W.of_hideAll (kS h H) e;refine ⟨e',?_⟩
 cases q:H b with
 | none=>rfl
 | some x=>
  have hm:b∈kS h H:=U7.mpr ⟨List.mem_range.mpr (Heap.lt_size e'),by simp [q]⟩;have z:(hidT h H).get? b=none:=PySem.W.hideAll_none (kS h H) hm;rw [z] at e;cases e
def alb(g h:Heap)(L:Addr):List (Addr×Obj):=(List.range h.objs.size).filterMap fun a=>if a=L\/(g.get? a).isSome=true then none else (h.get? a).map fun o=>(a,o)
def rest(g h:Heap)(L d:Addr):List (Addr×Obj):=(alb g h L).filter fun p=>decide (p.1≠d)
end L2
namespace L2
open PySem PySem.Spec PyProof.Rows
structure Mod(K:PySem.W.Frag)(mg:Str->Option Value)(base:Heap):Prop where
 kin:K.In base
 glob:base.Ns mainGlobals mg
 blt:∃ mb,base.Ns builtinsNs mb/\∀ x:Str,x≠"__name__"->mb x=bootBuiltins x
 nolimit:base.NoLimit
structure Cx where
 prog:Program
 w:World
 K:PySem.W.Frag
 mg:Str->Option Value
 base:Heap
 A:Around
 N:List Str
 s₀:Shared
 H₀:Hp
 env:Env
 outer:List Env
 stack:List Env
 ex:List Addr
 fn:Str->Bool
 calm:Bool
 pn:List (Addr×Obj)
 xe:Value->Shared->Prop
def g3(l:List Env):List Addr:=l.filterMap (·.frame)
abbrev Cx.fs(X:Cx):List Addr:=g3 X.outer
def gN(sc:Scope)(x:Str):Prop:=sc.names.lookup x=some .local\/sc.names.lookup x=some .cell\/sc.names.lookup x=some .free
def g4(sc:Scope)(x:Str):Prop:=sc.names.lookup x=some .local\/sc.names.lookup x=some .cell
def Look(env:Env)(h:Heap)(m:Str->Option Value)(x:Str)(u:Value):Prop:=
 (env.kindOf x=some .local/\m x=some u)\/((env.kindOf x=some .cell\/env.kindOf x=some .free)/\∃ c,env.cells.lookup x=some c/\h.IsCell c (some u))
structure Cx.Ok(X:Cx):Prop where
 mod:Mod X.K X.mg X.base
 kind:X.env.scope.kind=.function
 glob:X.env.globals=mainGlobals
 blt:X.env.builtins=builtinsNs
 above:X.s₀.heap.objs.size<=X.env.locals
 inj:∀ x y c,X.env.cells.lookup x=some c->X.env.cells.lookup y=some c->x=y
 has:∀ x,(X.env.kindOf x=some .cell\/X.env.kindOf x=some .free)->∃ c,X.env.cells.lookup x=some c
 cab:∀ x c,X.fn x=true->X.env.cells.lookup x=some c->X.s₀.heap.objs.size<=c
 hd:X.calm=true->X.A.handled=none
 frames:X.A.frames=some X.stack
 stk:X.stack=X.outer\/(X.stack=X.env::X.outer/\X.env.frame=some X.env.locals)
 exf:∀ b∈X.ex,b≠X.env.locals/\∀ x c,X.env.cells.lookup x=some c->c≠b
 bs:∀ b o,X.base.get? b=some o->X.s₀.heap.get? b=some o/\X.H₀ b=none
 bsz:X.base.objs.size<=X.s₀.heap.objs.size
 noex:∀ b o,X.base.get? b=some o->b∉X.ex
 exfs:∀ b∈X.ex,b∉X.fs
 funs:X.s₀.heap.FunFrames X.base X.outer
 frf:∀ b∈X.fs,X.H₀ b=none
structure Inv(X:Cx)(pins:List (Addr×Obj))(Y:List (Option V))(H:Hp)(s:Shared):Prop where
 ok:X.Ok
 os:s.os=X.s₀.os
 bare:AllBare s.gens
 base:Un X.fs X.ex X.H₀ H X.s₀.heap s.heap
 loc:∃ m,s.heap.Ns X.env.locals m/\∀ (i:Nat) (x:Str) (v:V),X.N[i]?=some x->Y[i]?=some (some v)->gN X.env.scope x->∃ u,RelV v u/\Look X.env s.heap m x u
 cell:∀ x c,X.env.cells.lookup x=some c->∃ v,s.heap.IsCell c v
 free:H X.env.locals=none
 freeC:∀ x c,X.env.cells.lookup x=some c->H c=none
 pin:∀ p∈X.pn++pins,s.heap.get? p.1=some p.2/\H p.1=none/\p.1≠X.env.locals/\p.1∉X.fs/\∀ v,p.2.data≠.cell v
 hok:L8 X.prog X.w H s.heap
 len:Y.length=X.N.length
section
variable {X:Cx} {pins:List (Addr×Obj)} {Y:List (Option V)} {H H':Hp} {s:Shared} {h':Heap}
theorem Cx.Ok.nofr(ok:X.Ok){b:Addr}{o:Obj}(e:X.base.get? b=some o):b∉X.fs:=fun hb=>by
 have:=(ok.funs.mem hb).1
 rw [e] at this;cases this
theorem Inv.bs(I:Inv X pins Y H s):∀ b o,X.base.get? b=some o->s.heap.get? b=some o/\H b=none:=fun b o e=>
 ⟨I.base.keep b o (I.ok.bs b o e).1 (I.ok.bs b o e).2 (I.ok.nofr e) (I.ok.noex b o e),I.base.free b o (I.ok.bs b o e).1 (I.ok.bs b o e).2 (I.ok.noex b o e)⟩
theorem Inv.bk(I:Inv X pins Y H s):∀ b o,X.base.get? b=some o->s.heap.get? b=some o:=fun b o e=>(I.bs b o e).1
theorem Inv.mod(I:Inv X pins Y H s):Mod X.K X.mg X.base:=I.ok.mod
theorem Inv.kIn(I:Inv X pins Y H s):X.K.In s.heap:=I.ok.mod.kin.keeps I.bk
theorem Inv.lt(I:Inv X pins Y H s):X.env.locals<s.heap.objs.size:=let ⟨_,hn,_⟩:=I.loc;hn.lt
theorem Inv.sz(I:Inv X pins Y H s):X.s₀.heap.objs.size<=s.heap.objs.size:=M6 I.ok.above (Nat.le_of_lt I.lt)
theorem Inv.nofs(I:Inv X pins Y H s){a:Addr}(h:s.heap.objs.size<=a):a∉X.fs:=fun hb=>by
 obtain ⟨_,o,ho,_⟩:=I.ok.funs.mem hb;exact absurd (P3 (Heap.lt_size ho) (M6 I.sz h)) (k6 _)
theorem Inv.cne(I:Inv X pins Y H s):∀ x c,X.env.cells.lookup x=some c->c≠X.env.locals:=fun x c e z=>by
 obtain ⟨v,o,ho,hd⟩:=I.cell x c e;obtain ⟨m,⟨o',es,ep,i6,sA,_⟩,_⟩:=I.loc;rw [z,i6] at ho;cases ho;rw [sA] at hd;cases hd
theorem Inv.funs(I:Inv X pins Y H s):s.heap.FunFrames X.base X.outer:=by
 have all:∀ (l:List Env),(∀ b∈g3 l,b∈X.fs)->X.s₀.heap.FunFrames X.base l->s.heap.FunFrames X.base l:=by
  intro l
  induction l with
  | nil=>intro _ _;trivial
  | cons env r ih=>
   intro hs hl;obtain ⟨hk,⟨L,o,hf,hn,ho,hd⟩,hr⟩:=hl;have hL:L∈X.fs:=hs L (by unfold g3;rw [bS,hf];exact N8);obtain ⟨sl,e⟩:=I.base.slot L o ho (I.ok.frf L hL) hL fun z=>I.ok.exfs L z hL
   exact ⟨hk,⟨L,_,hf,hn,e,hd⟩,ih (fun b hb=>hs b (by unfold g3;rw [bS,hf];exact N7 _ hb)) hr⟩
 exact all X.outer (fun _ hb=>hb) I.ok.funs
theorem Inv.stack(I:Inv X pins Y H s):s.heap.FunFrames X.base X.stack:=by
 rcases I.ok.stk with e | ⟨e,hf⟩
 .rw [e];exact I.funs
 .rw [e];obtain ⟨m,hn,_⟩:=I.loc;refine .cons (by rw [I.ok.kind];decide) hf hn ?_ I.funs;exact Heap.get?_none_of_le (M6 I.ok.bsz I.ok.above)
theorem Inv.stkSub(I:Inv X pins Y H s):∀ b∈g3 X.stack,b∈X.env.locals::X.fs:=fun b hb=>by
 rcases I.ok.stk with e | ⟨e,hf⟩
 .rw [e] at hb;exact N7 _ hb
 .rw [e] at hb;unfold g3 at hb;rw [bS,hf] at hb;exact hb
theorem Inv.stkFree(I:Inv X pins Y H s):∀ b∈g3 X.stack,H b=none:=fun b hb=>by
 rcases E7.mp (I.stkSub b hb) with e | hb
 .rw [e];exact I.free
 .obtain ⟨_,o,ho,_⟩:=I.ok.funs.mem hb;exact I.base.free b o ho (I.ok.frf b hb) fun z=>I.ok.exfs b z hb
theorem Inv.step{g':Array GenState}{t':Nat}{d':Drawn}{ch:List Addr}(I:Inv X pins Y H s)(n6:∀ b∈ch,(b∈X.ex\/X.s₀.heap.objs.size<=b)/\b≠X.env.locals/\(∀ x c,X.env.cells.lookup x=some c->c≠b)/\∀ p∈X.pn++pins,p.1≠b)(keep:∀ b o,b≠X.env.locals->b∉X.fs->b∉ch->s.heap.get? b=some o->H b=none->h'.get? b=some o)(slot:∀ b o,b≠X.env.locals->b∈X.fs->b∉ch->s.heap.get? b=some o->H b=none->∃ sl,h'.get? b=some { o with slots:=sl })(free:∀ b o,b∉ch->s.heap.get? b=some o->H b=none->H' b=none)(there:∀ b o,b∉ch->s.heap.get? b=some o->∃ o',h'.get? b=some o')(tups:∀ b xs,H b=some (.tup xs)->H' b=some (.tup xs))(frzs:∀ b o u,H b=some (.frz o u)->H' b=some (.frz o u))(tbls:∀ b ps,H b=some (.tbl ps)->∃ more,H' b=some (.tbl (ps++more)))(ns:∀ m,s.heap.Ns X.env.locals m->h'.Ns X.env.locals m)(hok:L8 X.prog X.w H' h')(hg:AllBare g') :
  Inv X pins Y H' { s with heap:=h',gens:=g',drawn:=d',toks:=t' }:=by
 have neL:∀ b o,X.s₀.heap.get? b=some o->b≠X.env.locals:=fun b o e=>M8 (P3 (Heap.lt_size e) I.ok.above)
 have neC:∀ b o,X.s₀.heap.get? b=some o->b∉X.ex->b∉ch:=fun b o e hx hb=>by
  rcases (n6 b hb).1 with z | z
  .exact hx z
  .exact absurd (P3 (Heap.lt_size e) z) (k6 _)
 have cellK:∀ x c,X.env.cells.lookup x=some c->∀ v,s.heap.IsCell c v->h'.IsCell c v:=fun x c e v ⟨o,ho,hd⟩=>by
  have nch:c∉ch:=fun z=>(n6 c z).2.2.1 x c e rfl
  by_cases hc:c∈X.fs
  .obtain ⟨sl,q⟩:=slot c o (I.cne x c e) hc nch ho (I.freeC x c e);exact ⟨_,q,hd⟩
  .exact ⟨o,keep c o (I.cne x c e) hc nch ho (I.freeC x c e),hd⟩
 refine ⟨I.ok,I.os,hg,⟨fun b o e n hb hx=>?_,fun b o e n hb hx=>?_,fun b o e n hx=>?_,fun b o e hx=>?_,fun b xs e=>tups b xs (I.base.tups b xs e),fun b o xs e=>frzs b o xs (I.base.frzs b o xs e),fun b ps e=>?_⟩,?_,fun x c e=>?_,?_,fun x c e=>?_,fun p hp=>?_,hok,I.len⟩
 .exact keep b o (neL b o e) hb (neC b o e hx) (I.base.keep b o e n hb hx) (I.base.free b o e n hx)
 .obtain ⟨sl,e1⟩:=I.base.slot b o e n hb hx;obtain ⟨sl',e2⟩:=slot b _ (neL b o e) hb (neC b o e hx) e1 (I.base.free b o e n hx);exact ⟨sl',e2⟩
 .obtain ⟨o',e1⟩:=I.base.there b o e hx;exact free b o' (neC b o e hx) e1 (I.base.free b o e n hx)
 .obtain ⟨o',e1⟩:=I.base.there b o e hx;exact there b o' (neC b o e hx) e1
 .obtain ⟨m1,e1⟩:=I.base.tbls b ps e;obtain ⟨m2,e2⟩:=tbls b _ e1;exact ⟨m1++m2,by rw [e2,Array.append_assoc]⟩
 .obtain ⟨m,hn,hl⟩:=I.loc;refine ⟨m,ns m hn,fun i x v e1 e2 e3=>?_⟩;obtain ⟨u,r,l⟩:=hl i x v e1 e2 e3;refine ⟨u,r,?_⟩
  rcases l with l | ⟨k,c,e,z⟩
  .exact .inl l
  .exact .inr ⟨k,c,e,cellK x c e _ z⟩
 .obtain ⟨v,z⟩:=I.cell x c e;exact ⟨v,cellK x c e v z⟩
 .obtain ⟨m,⟨o,_,_,ho,_⟩,_⟩:=I.loc;exact free _ o (fun z=>(n6 _ z).2.1 rfl) ho I.free
 .obtain ⟨v,o,ho,hd⟩:=I.cell x c e;exact free c o (fun z=>(n6 c z).2.2.1 x c e rfl) ho (I.freeC x c e)
 .obtain ⟨e,n,ne,nf,d⟩:=I.pin p hp;have nch:p.1∉ch:=fun z=>(n6 p.1 z).2.2.2 p hp rfl
  exact ⟨keep p.1 p.2 ne nf nch e n,free p.1 p.2 nch e n,ne,nf,d⟩
theorem Inv.un{t':Nat}(I:Inv X pins Y H s)(u:Un X.fs [] H H' s.heap h')(hok:L8 X.prog X.w H' h'):Inv X pins Y H' { s with heap:=h',toks:=t' }:=by
 obtain ⟨m,⟨o,es,ep,ho,r⟩,_⟩:=id I.loc;obtain ⟨sl,hL⟩:=u.any ho I.free (by simp);exact I.step (g':=s.gens) (d':=s.drawn) (ch:=[]) (fun _ z=>nomatch z) (fun b o _ hb _ e n=>u.keep b o e n hb (by simp)) (fun b o _ hb _ e n=>u.slot b o e n hb (by simp)) (fun b o _ e n=>u.free b o e n (by simp)) (fun b o _ e=>u.there b o e (by simp)) u.tups u.frzs u.tbls (fun m' hm=>by
  obtain ⟨o',es',ep',i6,r'⟩:=hm;rw [ho] at i6;cases i6;exact ⟨_,es',ep',hL,r'⟩) hok I.bare
theorem Inv.call{g':Array GenState}{t':Nat}{d':Drawn}{ch:List Addr}(I:Inv X pins Y H s)(u:Un (g3 X.stack) ch H H' s.heap h')(hok:L8 X.prog X.w H' h')(hg:AllBare g')(n6:∀ b∈ch,(b∈X.ex\/X.s₀.heap.objs.size<=b)/\b≠X.env.locals/\(∀ x c,X.env.cells.lookup x=some c->c≠b)/\∀ p∈X.pn++pins,p.1≠b) :
  Inv X pins Y H' { s with heap:=h',gens:=g',drawn:=d',toks:=t' }:=by
 obtain ⟨m,⟨o,es,ep,ho,r⟩,_⟩:=id I.loc;obtain ⟨sl,hL⟩:=u.any ho I.free fun z=>(n6 _ z).2.1 rfl
 exact I.step (ch:=ch) n6 (fun b o hL hb hc e n=>u.keep b o e n (fun z=>(E7.mp (I.stkSub b z)).elim hL hb) hc) (fun b o _ _ hc e n=>u.any e n hc) (fun b o hc e n=>u.free b o e n hc) (fun b o hc e=>u.there b o e hc) u.tups u.frzs u.tbls (fun m' hm=>by
  obtain ⟨o',es',ep',i6,r'⟩:=hm;rw [ho] at i6;cases i6;exact ⟨_,es',ep',hL,r'⟩) hok hg
theorem Inv.turned{t':Nat}{it:Addr}(I:Inv X pins Y H s)(k:∀ b o,b≠it->s.heap.get? b=some o->h'.get? b=some o)(hn:H it=none)(hL:it≠X.env.locals)(h1:it∈X.ex\/X.s₀.heap.objs.size<=it)(h2:∀ x c,X.env.cells.lookup x=some c->c≠it)(h3:∀ p∈X.pn++pins,p.1≠it):Inv X pins Y H { s with heap:=h',toks:=t' }:=by
 have nit:∀ b u,H b=some u->b≠it:=fun b u e z=>by rw [z,hn] at e;cases e
 refine I.step (g':=s.gens) (d':=s.drawn) (ch:=[it]) (fun b hb=>?_) (fun b o _ _ hc e _=>k b o (fun z=>hc (by simp [z])) e) (fun b o _ _ hc e _=>⟨o.slots,k b o (fun z=>hc (by simp [z])) e⟩) (fun _ _ _ _ n=>n)
  (fun b o hc e=>⟨o,k b o (fun z=>hc (by simp [z])) e⟩) (fun _ _ e=>e) (fun _ _ _ e=>e) (fun b ps e=>⟨#[],by rw [e];simp⟩) (fun m hm=>?_) (fun b u e=>?_) I.bare
 .have e:b=it:=by simpa using hb
  subst e;exact ⟨h1,hL,h2,h3⟩
 .obtain ⟨o,es,ep,ho,r⟩:=hm;exact ⟨o,es,ep,k _ o (Ne.symm hL) ho,r⟩
 .refine (I.hok b u e).stay (fun c v hc q=>k c v ?_ q) (fun _ q=>q) fun _ _ q=>q
  rcases hc with z | z
  .rw [z];exact nit b u e
  .exact nit c _ z
theorem Inv.tok(I:Inv X pins Y H s)(t:Nat):Inv X pins Y H { s with toks:=t }:=I.un (h':=s.heap) (t':=t) ual I.hok
theorem Inv.kept{t':Nat}(I:Inv X pins Y H s)(k:∀ b u,s.heap.get? b=some u->h'.get? b=some u):Inv X pins Y H { s with heap:=h',toks:=t' }:=I.un (Un.kept k) (I.hok.kept k)
theorem Inv.laid{a:Addr}{o:HO}{t':Nat}(I:Inv X pins Y H s)(k:∀ b u,s.heap.get? b=some u->h'.get? b=some u)(hp:s.heap.objs.size<=a)(new:ObjOk X.prog X.w (A0 H a o) h' a o) :
  Inv X pins Y (A0 H a o) { s with heap:=h',toks:=t' }:=I.un (Un.laid k hp (I.hok.fresh hp)) (I.hok.laid k hp new)
theorem Inv.write{x e:Addr}{o:HO}{t':Nat}(I:Inv X pins Y H s)(mu:gM (H x))(he:e=x\/H e=some (.own x))(k:∀ b u,b≠e->s.heap.get? b=some u->h'.get? b=some u)(fH:∃ u,h'.get? e=some u)(new:ObjOk X.prog X.w (A0 H x o) h' x o):Inv X pins Y (A0 H x o) { s with heap:=h',toks:=t' }:=I.un (Un.write mu he k fH) (I.hok.write mu he k fH new)
theorem Inv.pins_of{pins':List (Addr×Obj)}(I:Inv X pins Y H s)(h:∀ p∈pins',s.heap.get? p.1=some p.2/\H p.1=none/\p.1≠X.env.locals/\p.1∉X.fs/\∀ v,p.2.data≠.cell v):Inv X pins' Y H s:=
 ⟨I.ok,I.os,I.bare,I.base,I.loc,I.cell,I.free,I.freeC,fun p hp=>(K5.mp hp).elim (fun z=>I.pin p (R4 _ z)) (h p),I.hok,I.len⟩
theorem uG{N:List Str}(hN:N.Nodup){i j:Nat}{x:Str}(a:N[i]?=some x)(b:N[j]?=some x):i=j:=by
 obtain ⟨h1,e1⟩:=J8.mp a;obtain ⟨h2,e2⟩:=J8.mp b;exact (List.getElem_inj hN).mp (e1.trans e2.symm)
theorem ah3{M:Model}{A:Around}{E:Value->Shared->Prop}{i:Nat}{x:Str}{v:V}{u:Value}{Q:Unit->Shared->Prop}(I:Inv X pins Y H s)(hN:X.N.Nodup)(hi:X.N[i]?=some x)(hx:g4 X.env.scope x)(r:RelV v u)(h:∀ s',Inv X pins (Y.set i (some v)) H s'->(∃ a,Heap.SameBut a s.heap s'.heap/\(a=X.env.locals\/X.env.cells.lookup x=some a))->Q () s')(hf:X.fn x=true\/X.env.scope.names.lookup x=some .local:=by first | exact .inl rfl | exact .inr rfl | assumption):wpAny M A (storeName X.env x u) Q E s:=by
 obtain ⟨m,hn,hl⟩:=id I.loc;have sB:(X.env.scope.kind == .class || (X.env.scope.kind == .module&&X.env.locals != X.env.globals))=false:=by rw [I.ok.kind];rfl
 have hiσ:i<Y.length:=by rw [I.len];exact (J8.mp hi).1
 have cne:=I.cne;have tracked:∀ {a:Addr} {h':Heap},(∃ o,s.heap.get? a=some o/\H a=none)->Heap.SameBut a s.heap h'->L8 X.prog X.w H h':=fun {a h'} ha hs b ob e=>by
  obtain ⟨_,_,bC⟩:=ha;refine (I.hok b ob e).stay (fun c w' hc q=>(hs.2 c ?_).trans q) (fun _ q=>q) fun _ _ q=>q
  rintro rfl
  rcases hc with rfl | hc
  .rw [bC] at e;cases e
  .rw [bC] at hc;cases hc
 rcases hx with hk | hk
 .refine wpAny_storeName_local hk hn (fun h' hn' hs=>?_) sB;obtain ⟨oL,_,_,hoL,_⟩:=id hn;refine h _ ⟨I.ok,I.os,I.bare,⟨fun b o e n hb hx=>?_,fun b o e n hb hx=>?_,I.base.free,fun b o e hx=>?_,I.base.tups,I.base.frzs,I.base.tbls⟩,⟨_,hn',fun j y v' e1 e2 e3=>?_⟩,fun y c e=>?_,I.free,I.freeC,fun p hp=>?_,tracked ⟨oL,hoL,I.free⟩ hs,by simpa using I.len⟩ ⟨_,hs,.inl rfl⟩
  .exact (hs.2 b (M8 (P3 (Heap.lt_size e) I.ok.above))).trans (I.base.keep b o e n hb hx)
  .obtain ⟨sl,e1⟩:=I.base.slot b o e n hb hx;exact ⟨sl,(hs.2 b (M8 (P3 (Heap.lt_size e) I.ok.above))).trans e1⟩
  .obtain ⟨o',e1⟩:=I.base.there b o e hx;exact ⟨o',(hs.2 b (M8 (P3 (Heap.lt_size e) I.ok.above))).trans e1⟩
  .by_cases hj:j=i
   .subst hj;rw [hi] at e1;cases e1;rw [List.getElem?_set_self hiσ] at e2;cases e2;exact ⟨u,r,.inl ⟨hk,by simp⟩⟩
   .rw [List.getElem?_set_ne (Ne.symm hj)] at e2;obtain ⟨u',r',q⟩:=hl j y v' e1 e2 e3;refine ⟨u',r',?_⟩
    rcases q with ⟨k,e⟩ | ⟨k,c,e,z⟩
    .refine .inl ⟨k,?_⟩
     have:y≠x:=fun e=>hj (uG hN e1 (e ▸ hi))
     simp [this,e]
    .exact .inr ⟨k,c,e,z.sameBut hs (cne y c e)⟩
  .obtain ⟨w',z⟩:=I.cell y c e;exact ⟨w',z.sameBut hs (cne y c e)⟩
  .obtain ⟨e,n,ne,nf,d⟩:=I.pin p hp;exact ⟨(hs.2 p.1 ne).trans e,n,ne,nf,d⟩
 .have sC:X.fn x=true:=by
   rcases hf with z | z
   .exact z
   .rw [z] at hk;cases hk
  obtain ⟨c,hc⟩:=I.ok.has x (.inl hk);obtain ⟨w',z⟩:=I.cell x c hc;refine wpAny_storeName_cell I.ok.kind hk hc z (fun h' n8 hs=>?_);obtain ⟨oc,sD,sE⟩:=id z;refine h { s with heap:=h' } ⟨I.ok,I.os,I.bare,⟨fun b o e n hb hx=>?_,fun b o e n hb hx=>?_,I.base.free,fun b o e hx=>?_,I.base.tups,I.base.frzs,I.base.tbls⟩,⟨m,hn.sameBut hs (Ne.symm (cne x c hc)),fun j y v' e1 e2 e3=>?_⟩,fun y c' e=>?_,I.free,I.freeC,fun p hp=>?_,tracked ⟨oc,sD,I.freeC x c hc⟩ hs,by simpa using I.len⟩ ⟨c,hs,.inr hc⟩
  .exact (hs.2 b (M8 (P3 (Heap.lt_size e) (I.ok.cab x c sC hc)))).trans (I.base.keep b o e n hb hx)
  .obtain ⟨sl,e1⟩:=I.base.slot b o e n hb hx;exact ⟨sl,(hs.2 b (M8 (P3 (Heap.lt_size e) (I.ok.cab x c sC hc)))).trans e1⟩
  .obtain ⟨o',e1⟩:=I.base.there b o e hx;exact ⟨o',(hs.2 b (M8 (P3 (Heap.lt_size e) (I.ok.cab x c sC hc)))).trans e1⟩
  .by_cases hj:j=i
   .subst hj;rw [hi] at e1;cases e1;rw [List.getElem?_set_self hiσ] at e2;cases e2;exact ⟨u,r,.inr ⟨.inl hk,c,hc,n8⟩⟩
   .rw [List.getElem?_set_ne (Ne.symm hj)] at e2;obtain ⟨u',r',q⟩:=hl j y v' e1 e2 e3;refine ⟨u',r',?_⟩
    rcases q with q | ⟨k,c',e,z'⟩
    .exact .inl q
    .refine .inr ⟨k,c',e,z'.sameBut hs ?_⟩;rintro rfl;exact hj (uG hN e1 (I.ok.inj _ _ _ e hc ▸ hi))
  .by_cases hcc:c'=c
   .subst hcc;exact ⟨_,n8⟩
   .obtain ⟨w2,z2⟩:=I.cell y c' e;exact ⟨w2,z2.sameBut hs hcc⟩
  .obtain ⟨e,n,ne,nf,d⟩:=I.pin p hp;refine ⟨(hs.2 p.1 ?_).trans e,n,ne,nf,d⟩;intro q;rw [q,sD] at e;have q':oc=p.2:=Option.some.inj e;exact d w' (by rw [<- q'];exact sE)
theorem kT{M:Model}{A:Around}{E:Value->Shared->Prop}{i:Nat}{x:Str}{v:V}{u:Value}{Q:Unit->Shared->Prop}(I:Inv X pins Y H s)(hN:X.N.Nodup)(hi:X.N[i]?=some x)(hx:g4 X.env.scope x)(r:RelV v u)(h:∀ s',Inv X pins (Y.set i (some v)) H s'->Q () s')(hf:X.fn x=true\/X.env.scope.names.lookup x=some .local:=by first | exact .inl rfl | exact .inr rfl | assumption):wpAny M A (storeName X.env x u) Q E s:=
 ah3 I hN hi hx r (fun s' I' _=>h s' I') hf
theorem Inv.call'{s':Shared}{ch:List Addr}(I:Inv X pins Y H s)(ho:s'.os=s.os)(u:Un (g3 X.stack) ch H H' s.heap s'.heap)(hok:L8 X.prog X.w H' s'.heap)(hg:AllBare s'.gens)(n6:∀ b∈ch,(b∈X.ex\/X.s₀.heap.objs.size<=b)/\b≠X.env.locals/\(∀ x c,X.env.cells.lookup x=some c->c≠b)/\∀ p∈X.pn++pins,p.1≠b):Inv X pins Y H' s':=by
 obtain ⟨h',g',d',t',o'⟩:=s';have e:o'=s.os:=ho;subst e;exact I.call (g':=g') (t':=t') (d':=d') u hok hg n6
end
abbrev XK:=Value->Option Addr->Hp->Prop
abbrev St:=List (Option V)
abbrev VK:=V->Hp->Prop
abbrev TE:=St->Hp->VK->Prop
abbrev TT:=St->Hp->(Bool->Hp->Prop)->Prop
abbrev TA:=St->Hp->(List V->Hp->Prop)->Prop
structure Ends where
 nx:St->Hp->Prop
 rt:VK
 bk:St->Hp->Prop:=fun _ _=>False
 ct:St->Hp->Prop:=fun _ _=>False
abbrev TS:=Ends->St->Hp->Prop
def EP(X:Cx)(pins:List (Addr×Obj))(Y:St)(Q:VK)(u:Value)(s':Shared):Prop:=∃ v H',Inv X pins Y H' s'/\RelV v u/\Q v H'
def TP(X:Cx)(pins:List (Addr×Obj))(Y:St)(Q:Bool->Hp->Prop)(b:Bool)(s':Shared):Prop:=∃ H',Inv X pins Y H' s'/\Q b H'
def AP(X:Cx)(pins:List (Addr×Obj))(Y:St)(Q:List V->Hp->Prop)(us:List Value)(s':Shared):Prop:=∃ vs H',Inv X pins Y H' s'/\Vals vs us/\Q vs H'
def SP(X:Cx)(pins:List (Addr×Obj))(D:Ends)(f:Flow)(s':Shared):Prop:=
 match f with
 | .next=>∃ σ' H',Inv X pins σ' H' s'/\D.nx σ' H'
 | .brk=>∃ σ' H',Inv X pins σ' H' s'/\D.bk σ' H'
 | .cont=>∃ σ' H',Inv X pins σ' H' s'/\D.ct σ' H'
 | .ret u=>∃ v σ' H',Inv X pins σ' H' s'/\RelV v u/\D.rt v H'
def PE(X:Cx)(e:Expr)(t:TE):Prop:=
 ∀ (pins:List (Addr×Obj)) (s:Shared) (Y:St) (H:Hp) (Q:VK),Inv X pins Y H s->t Y H Q->wpAny (model X.prog X.w) X.A (eval e X.env) (EP X pins Y Q) X.xe s
def PT(X:Cx)(e:Expr)(t:TT):Prop:=
 ∀ (pins:List (Addr×Obj)) (s:Shared) (Y:St) (H:Hp) (Q:Bool->Hp->Prop),Inv X pins Y H s->t Y H Q->wpAny (model X.prog X.w) X.A (isTrue e X.env (eval e X.env)) (TP X pins Y Q) X.xe s
def PW(X:Cx)(e:Expr)(t:TT):Prop:=
 ∀ (whole:Sem Value) (pins:List (Addr×Obj)) (s:Shared) (Y:St) (H:Hp) (Q:Bool->Hp->Prop),Inv X pins Y H s->t Y H Q->wpAny (model X.prog X.w) X.A (isTrue e X.env whole) (TP X pins Y Q) X.xe s
theorem PW.pt{X:Cx}{e:Expr}{t:TT}(h:PW X e t):PT X e t:=h _
def PA(X:Cx)(es:List Expr)(t:TA):Prop:=
 ∀ (pos:Pos) (pins:List (Addr×Obj)) (s:Shared) (Y:St) (H:Hp) (Q:List V->Hp->Prop),Inv X pins Y H s->t Y H Q->wpAny (model X.prog X.w) X.A (spliced (backTo pos (starEach es X.env))) (AP X pins Y Q) X.xe s
def PS(X:Cx)(st:Stmt)(t:TS):Prop:=
 ∀ (pins:List (Addr×Obj)) (s:Shared) (Y:St) (H:Hp) (D:Ends),Inv X pins Y H s->t D Y H->wpAny (model X.prog X.w) X.A (exec st X.env) (SP X pins D) X.xe s
def V4(X:Cx)(st:List Stmt)(t:TS):Prop:=
 ∀ (pins:List (Addr×Obj)) (s:Shared) (Y:St) (H:Hp) (D:Ends),Inv X pins Y H s->t D Y H->wpAny (model X.prog X.w) X.A (execs st X.env) (SP X pins D) X.xe s
theorem B5{α:Type}{t:Sem α}{Q Q':α->Shared->Prop}{M:Model}{A:Around}{E:Value->Shared->Prop}{s:Shared}(h:wpAny M A t Q E s)(hQ:∀ a s,Q a s->Q' a s):wpAny M A t Q' E s:=wpAny_mono h hQ fun _ _ x=>x
end L2
namespace L2
open PySem PySem.Spec PyProof.Rows
section
variable {X:Cx}
def tVar(i:Nat):TE:=fun Y H Q=>∃ v,Y[i]?=some (some v)/\Q v H
def tC(v:V):TE:=fun _ H Q=>Q v H
theorem uH{i:Nat}{x:Str}{pos:Pos}(hN:X.N[i]?=some x)(hv:gN X.env.scope x)(hd:(x==("__debug__" : Str))=false:=by decide)(a0:(x==("__classdict__" : Str))=false:=by decide):PE X (.Name x pos) (tVar i):=by
 intro pins s Y H Q I h;obtain ⟨v,e,h⟩:=h;obtain ⟨m,hn,hl⟩:=I.loc;obtain ⟨u,r,l⟩:=hl i x v hN e hv;have fin:EP X pins Y Q u s:=⟨v,H,I,r,h⟩
 rcases l with ⟨hk,hm⟩ | ⟨hk,c,hc,K9⟩
 .exact wpAny_Name (wpAny_loadName_local I.ok.kind hk hn hm fin) hd
 .rcases hk with hk | hk
  .exact wpAny_Name (wpAny_loadName_cell I.ok.kind hk hc K9 fin) hd
  .exact wpAny_Name (wpAny_loadName_free I.ok.kind hk hc K9 fin a0) hd
theorem uI{i j pos} : PE X (.Constant (.int i) j pos) (tC (.int i)):=fun _ _ _ H _ I h=>wpAny_Constant_int ⟨.int i,H,I.tok _,⟨_,rfl⟩,h⟩
theorem pe_bl{b j pos} : PE X (.Constant (.bool b) j pos) (tC (.bl b)):=fun _ _ _ H _ I h=>Constant_bool ⟨.bl b,H,I,rfl,h⟩
theorem amN{x j pos} : PE X (.Constant (.str x) j pos) (tC (.str x)):=fun _ _ _ H _ I h=>Calls.Constant_str ⟨.str x,H,I.tok _,⟨_,rfl⟩,h⟩
def Gl(X:Cx)(x:Str):Prop:=X.env.kindOf x=some .globalImplicit
theorem oA{E:Value->Shared->Prop}{pins:List (Addr×Obj)}{s:Shared}{Y:St}{H:Hp}{x:Str}{u:Value}{pos:Pos}{Q:Value->Shared->Prop}(I:Inv X pins Y H s)(hg:Gl X x)(hm:X.mg x=some u)(h:Q u s)(hd:(x==("__debug__" : Str))=false:=by decide):wpAny (model X.prog X.w) X.A (eval (.Name x pos) X.env) Q E s:=
 Calls.Name_function_global I.ok.kind hg (Calls.loadGlobal_global (by rw [I.ok.glob];exact I.mod.glob.keeps I.bk) hm h) hd
theorem gO{E:Value->Shared->Prop}{pins:List (Addr×Obj)}{s:Shared}{Y:St}{H:Hp}{x:Str}{u:Value}{pos:Pos}{Q:Value->Shared->Prop}(I:Inv X pins Y H s)(hg:Gl X x)(hm:X.mg x=none)(hv:bootBuiltins x=some u)(h:Q u s)(hn:x≠"__name__":=by decide)(hd:(x==("__debug__" : Str))=false:=by decide):wpAny (model X.prog X.w) X.A (eval (.Name x pos) X.env) Q E s:=by
 obtain ⟨mb,h1,h2⟩:=I.mod.blt;exact Calls.Name_function_global I.ok.kind hg (Calls.loadGlobal_builtin (by rw [I.ok.glob];exact I.mod.glob.keeps I.bk) hm (by rw [I.ok.blt];exact h1.keeps I.bk) ((h2 x hn).trans hv) h) hd
theorem uJ{x:Str}{v:V}{u:Value}{pos:Pos}(hg:Gl X x)(hm:X.mg x=some u)(r:RelV v u)(hd:(x==("__debug__" : Str))=false:=by decide):PE X (.Name x pos) (tC v):=
 fun _ _ _ H _ I h=>oA I hg hm ⟨v,H,I,r,h⟩ hd
variable {a b:Expr} {ta tb:TE} {pos:Pos}
def tB(t:TE):TT:=fun Y H Q=>t Y H fun x H1=>∃ c,x=.bl c/\Q c H1
variable {tA tB':TT} {rest:List Expr}
def tAnd(t u:TT):TT:=fun Y H Q=>t Y H fun c H1=>if c=true then u Y H1 Q else Q false H1
def oB(t u:TT):TT:=fun Y H Q=>t Y H fun c H1=>if c=true then Q true H1 else u Y H1 Q
def tNot(t:TT):TT:=fun Y H Q=>t Y H fun c H1=>Q (!c) H1
theorem alc(ha:PT X a tA):PW X (.BoolOp .And [a] pos) tA:=by
 intro wh pins s Y H Q I h;refine isTrue_and (B5 (ha pins s Y H Q I h) fun c s1 e=>?_)
 cases c with
 | true=>exact isTrue_and_nil e
 | false=>exact e
theorem amO(ha:PT X a tA):PW X (.BoolOp .Or [a] pos) tA:=by
 intro wh pins s Y H Q I h;refine isTrue_or (B5 (ha pins s Y H Q I h) fun c s1 e=>?_)
 cases c with
 | false=>exact isTrue_or_nil e
 | true=>exact e
theorem amP(ha:PT X a tA)(hb:PW X (.BoolOp .And (b::rest) pos) tB'):PW X (.BoolOp .And (a::b::rest) pos) (tAnd tA tB'):=by
 intro wh pins s Y H Q I h;refine isTrue_and (B5 (ha pins s Y H _ I h) fun c s1 ⟨H1,I1,q1⟩=>?_)
 cases c with
 | true=>exact hb wh pins s1 Y H1 Q I1 q1
 | false=>exact ⟨H1,I1,q1⟩
theorem pw_or(ha:PT X a tA)(hb:PW X (.BoolOp .Or (b::rest) pos) tB'):PW X (.BoolOp .Or (a::b::rest) pos) (oB tA tB'):=by
 intro wh pins s Y H Q I h;refine isTrue_or (B5 (ha pins s Y H _ I h) fun c s1 ⟨H1,I1,q1⟩=>?_)
 cases c with
 | true=>exact ⟨H1,I1,q1⟩
 | false=>exact hb wh pins s1 Y H1 Q I1 q1
theorem amQ(ha:PT X a tA):PT X (.UnaryOp .Not a pos) (tNot tA):=by
 intro pins s Y H Q I h;exact isTrue_not (ha pins s Y H (fun c H1=>Q (!c) H1) I h)
def tAndV(ta tb:TE):TE:=fun Y H Q=>ta Y H fun x H1=>∃ c,x=.bl c/\if c=true then tb Y H1 Q else Q (.bl false) H1
def tOrV(ta tb:TE):TE:=fun Y H Q=>ta Y H fun x H1=>∃ c,x=.bl c/\if c=true then Q (.bl true) H1 else tb Y H1 Q
def tNotV(ta:TE):TE:=fun Y H Q=>ta Y H fun x H1=>∃ c,x=.bl c/\Q (.bl (!c)) H1
theorem amR{op}{t:TE}(h:PE X a t):PE X (.BoolOp op [a] pos) t:=fun pins s Y H Q I hw=>BoolOp_one (h pins s Y H Q I hw)
theorem amS(ha:PE X a ta)(hb:PE X (.BoolOp .And (b::rest) pos) tb):PE X (.BoolOp .And (a::b::rest) pos) (tAndV ta tb):=by
 intro pins s Y H Q I h;refine BoolOp_and (B5 (ha pins s Y H _ I h) fun v s1 ⟨x,H1,I1,r1,q1⟩=>?_);obtain ⟨c,rfl,q1⟩:=q1
 cases r1
 refine wpAny_truthy_bool ?_
 cases c with
 | true=>exact hb pins s1 Y H1 Q I1 q1
 | false=>exact ⟨.bl false,H1,I1,rfl,q1⟩
def oC(t:TT)(ta tb:TE):TE:=fun Y H Q=>t Y H fun c H1=>if c=true then ta Y H1 Q else tb Y H1 Q
theorem aju{c:Expr}(hc:PT X c tA)(ha:PE X a ta)(hb:PE X b tb):PE X (.IfExp c a b pos) (oC tA ta tb):=by
 intro pins s Y H Q I h;refine wpAny_IfExp (B5 (hc pins s Y H _ I h) fun d s1 ⟨H1,I1,q1⟩=>?_)
 cases d with
 | true=>exact ha pins s1 Y H1 Q I1 q1
 | false=>exact hb pins s1 Y H1 Q I1 q1
end
end L2
namespace L2
open PySem PySem.Spec PyProof.Rows
def C9(K:PySem.W.Frag)(H:Hp)(a:Addr)(xs:List V):Prop:=
 Rd H a (.lst xs)\/
  ∃ (o:Obj) (its:Array Value) (n:Nat),K.lookup a=some o/\o.cls=.type "list"/\o.dict=none/\o.data=.seq its n/\its.size<=sizeLine/\Vals xs its.toList
def C7(K:PySem.W.Frag)(H:Hp)(a:Addr)(xs:List V):Prop:=
 Rd H a (.tup xs)\/
  ∃ (o:Obj) (its:Array Value) (n:Nat),K.lookup a=some o/\o.cls=.type "tuple"/\o.data=.seq its n/\its.size<=sizeLine/\Vals xs its.toList
def absV:Value->Option V
 | .none=>some .non
 | .bool b=>some (.bl b)
 | .int i _=>some (.int i)
 | .str x _=>some (.str x)
 | .bytes b _=>some (.byt b)
 | .float b _=>some (.flt b)
 | .ref a=>some (.ref a)
 | .type n=>some (.ty n)
 | _=>none
theorem RelV.abs{x:V}{u:Value}(r:RelV x u):absV u=some x:=by
 cases x with
 | non=>cases r;rfl
 | bl _=>cases r;rfl
 | int _=>obtain ⟨t,rfl⟩:=r;rfl
 | str _=>obtain ⟨t,rfl⟩:=r;rfl
 | byt _=>obtain ⟨t,rfl⟩:=r;rfl
 | flt _=>obtain ⟨t,rfl⟩:=r;rfl
 | ref _=>cases r;rfl
 | ty _=>cases r;rfl
theorem RelV.inj{x y:V}{u:Value}(r:RelV x u)(q:RelV y u):x=y:=Option.some.inj (r.abs.symm.trans q.abs)
theorem Vals.inj:∀ {xs ys:List V} {us:List Value},Vals xs us->Vals ys us->xs=ys
 | _,_,_,.nil,.nil=>rfl
 | _,_,_,.cons r t,.cons r' t'=>by rw [r.inj r',Vals.inj t t']
section
variable {X:Cx} {pins:List (Addr×Obj)} {Y:St} {H:Hp} {s:Shared} {a:Addr} {xs ys:List V}
theorem C9.of{K:PySem.W.Frag}(h:H a=some (.lst xs)):C9 K H a xs:=.inl (.inl h)
theorem C7.of{K:PySem.W.Frag}(h:H a=some (.tup xs)):C7 K H a xs:=.inl (.inl h)
theorem Inv.list(I:Inv X pins Y H s)(h:C9 X.K H a xs):∃ its:List Value,Vals xs its/\PlainL s.heap a its.toArray/\xs.length<=sizeLine:=by
 rcases h with h | ⟨o,its,n,hk,hc,hd,hs,hz,r⟩
 .obtain ⟨z,its,n,r,e⟩:=h.ok I.hok;exact ⟨its,r,⟨_,n,e,rfl,rfl,rfl⟩,z⟩
 .refine ⟨its.toList,r,⟨o,n,I.kIn a o hk,hc,hd,by simpa using hs⟩,?_⟩;have e:=r.length;simp only [bU] at e;lia
theorem Inv.tuple(I:Inv X pins Y H s)(h:C7 X.K H a xs):∃ its:List Value,Vals xs its/\IsTup s.heap a its.toArray/\xs.length<=sizeLine:=by
 rcases h with h | ⟨o,its,n,hk,hc,hs,hz,r⟩
 .obtain ⟨z,its,r,p⟩:=h.ok I.hok;exact ⟨its,r,p,z⟩
 .refine ⟨its.toList,r,⟨o,I.kIn a o hk,hc,n,by simpa using hs⟩,?_⟩;have e:=r.length;simp only [bU] at e;lia
theorem Inv.list_inj(I:Inv X pins Y H s)(h:C9 X.K H a xs)(h':C9 X.K H a ys):xs=ys:=by
 obtain ⟨its,r,⟨o,n,e,_,_,d⟩,_⟩:=I.list h;obtain ⟨its',r',⟨o',n',e',_,_,d'⟩,_⟩:=I.list h';rw [e] at e';cases e';rw [d] at d'
 injection d' with d1 _
 have:its=its':=by simpa using congrArg Array.toList d1
 subst this;exact r.inj r'
theorem Inv.tuple_inj(I:Inv X pins Y H s)(h:C7 X.K H a xs)(h':C7 X.K H a ys):xs=ys:=by
 obtain ⟨its,r,⟨o,e,_,n,d⟩,_⟩:=I.tuple h;obtain ⟨its',r',⟨o',e',_,n',d'⟩,_⟩:=I.tuple h';rw [e] at e';cases e';rw [d] at d'
 injection d' with d1 _
 have:its=its':=by simpa using congrArg Array.toList d1
 subst this;exact r.inj r'
end
abbrev Cx.wish(X:Cx)(E:Value->Shared->Prop):Cx:={ X with xe:=E }
abbrev Cx.nox(X:Cx):Cx:=X.wish fun _ _=>False
theorem Cx.Ok.wish{X:Cx}(ok:X.Ok)(E:Value->Shared->Prop):(X.wish E).Ok:=
 ⟨ok.mod,ok.kind,ok.glob,ok.blt,ok.above,ok.inj,ok.has,ok.cab,ok.hd,ok.frames,ok.stk,ok.exf,ok.bs,ok.bsz,ok.noex,ok.exfs,ok.funs,ok.frf⟩
theorem Cx.Ok.unwish{X:Cx}{E:Value->Shared->Prop}(ok:(X.wish E).Ok):X.Ok:=
 ⟨ok.mod,ok.kind,ok.glob,ok.blt,ok.above,ok.inj,ok.has,ok.cab,ok.hd,ok.frames,ok.stk,ok.exf,ok.bs,ok.bsz,ok.noex,ok.exfs,ok.funs,ok.frf⟩
section
variable {X:Cx} {pins:List (Addr×Obj)} {Y:St} {H:Hp} {s:Shared} {E:Value->Shared->Prop}
theorem Inv.wish(I:Inv X pins Y H s)(E:Value->Shared->Prop):Inv (X.wish E) pins Y H s:=⟨I.ok.wish E,I.os,I.bare,I.base,I.loc,I.cell,I.free,I.freeC,I.pin,I.hok,I.len⟩
theorem Inv.unwish(I:Inv (X.wish E) pins Y H s):Inv X pins Y H s:=⟨I.ok.unwish,I.os,I.bare,I.base,I.loc,I.cell,I.free,I.freeC,I.pin,I.hok,I.len⟩
theorem SP.unwish{D:Ends}{f:Flow}{s':Shared}(h:SP (X.wish E) pins D f s'):SP X pins D f s':=by
 cases f with
 | next=>obtain ⟨σ',H',I,q⟩:=h;exact ⟨σ',H',I.unwish,q⟩
 | brk=>obtain ⟨σ',H',I,q⟩:=h;exact ⟨σ',H',I.unwish,q⟩
 | cont=>obtain ⟨σ',H',I,q⟩:=h;exact ⟨σ',H',I.unwish,q⟩
 | ret u=>obtain ⟨v,σ',H',I,r,q⟩:=h;exact ⟨v,σ',H',I.unwish,r,q⟩
theorem V4.nox{st:List Stmt}{t:TS}(h:V4 X.nox st t):V4 X st t:=fun pins s Y H D I hw=>
 wpAny_mono (h pins s Y H D (I.wish _) hw) (fun _ _ q=>q.unwish) fun _ _ z=>False.elim z
end
section
variable {X:Cx} {st:Stmt} {rest:List Stmt} {t u:TS} {e:Expr} {te:TE} {pos:Pos}
def tNext:TS:=fun D Y H=>D.nx Y H
def tSeq(t u:TS):TS:=fun D Y H=>t { D with nx:=u D } Y H
theorem ald:V4 X [] tNext:=fun _ _ Y H _ I h=>wpAny_execs_nil ⟨Y,H,I,h⟩
theorem ajv(h1:PS X st t)(h2:V4 X rest u):V4 X (st::rest) (tSeq t u):=by
 intro pins s Y H D I h;refine wpAny_execs_cons (B5 (h1 pins s Y H { D with nx:=u D } I h) fun f s1 q=>?_)
 cases f with
 | next=>
  obtain ⟨σ',H',I',q⟩:=q;exact h2 pins s1 σ' H' D I' q
 | ret v=>exact q
 | brk=>exact q
 | cont=>exact q
theorem ale(h1:PS X st t):V4 X [st] t:=by
 intro pins s Y H D I h;refine wpAny_execs_cons (B5 (h1 pins s Y H D I h) fun f s1 q=>?_)
 cases f with
 | next=>exact wpAny_execs_nil q
 | ret v=>exact q
 | brk=>exact q
 | cont=>exact q
def amT:TS:=fun D Y H=>D.bk Y H
def tCont:TS:=fun D Y H=>D.ct Y H
theorem Inv.quiet{pins:List (Addr×Obj)}{Y:St}{H:Hp}{s:Shared}(I:Inv X pins Y H s):interactive X.env=false:=by simp [interactive,I.ok.kind]
def tDrop(te:TE):TS:=fun D Y H=>te Y H fun _ H1=>D.nx Y H1
theorem alf(he:PE X e te)(hs:swapsWith e none pos.line X.env=pure false:=by rfl):PS X (.Expr e pos) (tDrop te):=by
 intro pins s Y H D I h;exact wpAny_Expr_any (B5 (he pins s Y H _ I h) fun v s1 ⟨x,H1,I1,r1,q1⟩=>⟨Y,H1,I1,q1⟩) I.quiet hs
def tRet(te:TE):TS:=fun D Y H=>te Y H D.rt
theorem amU(he:PE X e te):PS X (.Return (some e) pos) (tRet te):=by
 intro pins s Y H D I h;exact wpAny_Return_some (B5 (he pins s Y H _ I h) fun v s1 ⟨x,H1,I1,r1,q1⟩=>⟨x,Y,H1,I1,r1,q1⟩)
def tRetN:TS:=fun D _ H=>D.rt .non H
def tIfS(c:TT)(t u:TS):TS:=fun D Y H=>c Y H fun b H1=>if b=true then t D Y H1 else u D Y H1
theorem ps_if{c:Expr}{a b:List Stmt}{tc:TT}(hc:PT X c tc)(ha:V4 X a t)(hb:V4 X b u):PS X (.If c a b pos) (tIfS tc t u):=by
 intro pins s Y H D I h;refine wpAny_If (B5 (hc pins s Y H _ I h) fun d s1 ⟨H1,I1,q1⟩=>?_)
 cases d with
 | true=>exact ha pins s1 Y H1 D I1 q1
 | false=>exact hb pins s1 Y H1 D I1 q1
def oE:TS:=fun _ _ _=>False
theorem ajw:PS X st oE:=fun _ _ _ _ _ _ h=>h.elim
end
abbrev TG:=V->St->Hp->(St->Hp->Prop)->Prop
abbrev Z4:=List V->St->Hp->(St->Hp->Prop)->Prop
def PG(X:Cx)(target:Expr)(t:TG):Prop:=
 ∀ (pins:List (Addr×Obj)) (s:Shared) (Y:St) (H:Hp) (v:V) (u:Value) (Q:St->Hp->Prop),Inv X pins Y H s->RelV v u->t v Y H Q->
  wpAny (model X.prog X.w) X.A (assign target X.env u) (fun _ s'=>∃ σ' H',Inv X pins σ' H' s'/\Q σ' H') X.xe s
def gP(X:Cx)(ts:List Expr)(t:Z4):Prop:=
 ∀ (pins:List (Addr×Obj)) (s:Shared) (Y:St) (H:Hp) (vs:List V) (us:List Value) (Q:St->Hp->Prop),Inv X pins Y H s->Vals vs us->t vs Y H Q->
  wpAny (model X.prog X.w) X.A (assignInOrder ((assignEach ts X.env).map (·.2)) us) (fun _ s'=>∃ σ' H',Inv X pins σ' H' s'/\Q σ' H') X.xe s
abbrev TSet:=V->V->V->Hp->(Hp->Prop)->Prop
abbrev bV:=V->V->Hp->VK->Prop
def oF(X:Cx)(op:Operator)(t:bV):Prop:=
 ∀ (pins:List (Addr×Obj)) (s:Shared) (Y:St) (H:Hp) (x y:V) (v u:Value) (Q:VK),Inv X pins Y H s->RelV x v->RelV y u->t x y H Q->
  wpAny (model X.prog X.w) X.A (inplaceOp op v u) (EP X pins Y Q) X.xe s
section
variable {X:Cx} {pos:Pos}
def gName(i:Nat):TG:=fun v Y H Q=>Q (Y.set i (some v)) H
theorem alg{i:Nat}{x:Str}(hN:X.N.Nodup)(hi:X.N[i]?=some x)(hx:g4 X.env.scope x)(hf:X.fn x=true\/X.env.scope.names.lookup x=some .local:=by first | exact .inl rfl | exact .inr rfl | assumption):PG X (.Name x pos) (gName i):=by
 intro pins s Y H v u Q I r h;exact wpAny_assign_Name (kT I hN hi hx r (fun s' I'=>⟨_,H,I',h⟩) hf)
def gNil:Z4:=fun vs Y H Q=>vs=[]/\Q Y H
def gCons(t:TG)(u:Z4):Z4:=fun vs Y H Q=>∃ v r,vs=v::r/\t v Y H fun σ' H'=>u r σ' H' Q
theorem alh:gP X [] gNil:=by
 intro pins s Y H vs us Q I r h;obtain ⟨e,h⟩:=h;subst e
 cases r
 exact assignInOrder_nil ⟨Y,H,I,h⟩
theorem ajx{e:Expr}{es:List Expr}{t:TG}{u:Z4}(h1:PG X e t)(h2:gP X es u)(hs:(assignEach (e::es) X.env).map (·.2)=assign e X.env::(assignEach es X.env).map (·.2):=by rfl):gP X (e::es) (gCons t u):=by
 intro pins s Y H vs us Q I r h;obtain ⟨v,vr,e1,h⟩:=h;subst e1
 cases r with
 | cons r rr=>
  rw [hs];refine assignInOrder_cons (B5 (h1 pins s Y H _ _ _ I r h) fun _ s1 ⟨σ1,H1,I1,q1⟩=>?_);exact h2 pins s1 σ1 H1 _ _ Q I1 rr q1
def gTup(K:PySem.W.Frag)(n:Nat)(t:Z4):TG:=fun v Y H Q=>∃ a xs,v=.ref a/\C7 K H a xs/\xs.length=n/\t xs Y H Q
theorem amV{es:List Expr}{k:Nat}{t:Z4}{n:Nat}(hc:X.calm=true)(h:gP X es t)(hn:(assignEach es X.env).length=n:=by rfl)(V9:(assignEach es X.env).findIdx? (·.1)=none:=by rfl):PG X (.Tuple es k pos) (gTup X.K n t):=by
 intro pins s Y H v u Q I r hw;obtain ⟨a,xs,e1,hq,hl,hw⟩:=hw;subst e1
 cases r
 obtain ⟨its,rv,ht,hz⟩:=I.tuple hq;refine assign_Tuple_tuple (I.ok.hd hc) ht (by simp [hn,<- hl,rv.length]) V9 fun h' hx=>?_
 have I1:Inv X pins Y H { s with heap:=h' }:=I.kept (t':=s.toks) fun b o e=>hx b o (M8 (Heap.lt_size e)) e
 exact h pins _ Y H xs _ Q I1 (by simpa using rv) hw
def gSub(to ti:TE)(t:TSet):TG:=fun v Y H Q=>to Y H fun o H1=>ti Y H1 fun i H2=>t o i v H2 fun H3=>Q Y H3
def tAsg(te:TE)(g:TG):TS:=fun D Y H=>te Y H fun x H1=>g x Y H1 D.nx
theorem amW{tg e:Expr}{te:TE}{g:TG}(he:PE X e te)(hg:PG X tg g)(hs:swapsWithSole [tg] e pos.line X.env=pure false:=by rfl)(hw:swappedStores [tg] e X.env=pure none:=by rfl)(h1:(assignEach [tg] X.env).map (·.2)=[assign tg X.env]:=by rfl):PS X (.Assign [tg] e pos) (tAsg te g):=by
 intro pins s Y H D I h;refine wpAny_Assign_stores (B5 (he pins s Y H _ I h) fun v s1 ⟨x,H1,I1,r1,q1⟩=>?_) hs hw;rw [h1];exact B5 (hg pins s1 Y H1 x v _ I1 r1 q1) fun _ s2 q=>q
theorem amX{i:Nat}{x:Str}{e:Expr}{te:TE}{pos':Pos}(hN:X.N.Nodup)(hi:X.N[i]?=some x)(hx:g4 X.env.scope x)(he:PE X e te)(hs:swapsWith e (some (.Name x pos')) pos.line X.env=pure false:=by rfl)(hf:X.fn x=true\/X.env.scope.names.lookup x=some .local:=by first | exact .inl rfl | exact .inr rfl | assumption) :
  PS X (.Assign [.Name x pos'] e pos) (tAsg te (gName i)):=by
 intro pins s Y H D I h;refine wpAny_Assign_Name (B5 (he pins s Y H _ I h) fun v s1 ⟨y,H1,I1,r1,q1⟩=>?_) hs;exact kT I1 hN hi hx r1 (fun s2 I2=>⟨_,H1,I2,q1⟩) hf
def tAug(i:Nat)(te:TE)(ti:bV):TS:=fun D Y H=>∃ x,Y[i]?=some (some x)/\te Y H fun y H1=>ti x y H1 fun z H2=>D.nx (Y.set i (some z)) H2
theorem amY{i:Nat}{x:Str}{e:Expr}{te:TE}{op:Operator}{ti:bV}{pos':Pos}(hN:X.N.Nodup)(hi:X.N[i]?=some x)(hx:g4 X.env.scope x)(he:PE X e te)(ho:oF X op ti)(hf:X.fn x=true\/X.env.scope.names.lookup x=some .local:=by first | exact .inl rfl | exact .inr rfl | assumption) :
  PS X (.AugAssign (.Name x pos') op e pos) (tAug i te ti):=by
 intro pins s Y H D I h;obtain ⟨v,e1,h⟩:=h;obtain ⟨m,hn,hl⟩:=I.loc;have vis:gN X.env.scope x:=by rcases hx with k | k;exact .inl k;exact .inr (.inl k)
 obtain ⟨u,r,l⟩:=hl i x v hi e1 vis;refine wpAny_AugAssign_Name ?_;have go:wpAny (model X.prog X.w) X.A (eval e X.env) (fun w zx=>wpAny (model X.prog X.w) X.A (inplaceOp op u w) (fun r zw=>wpAny (model X.prog X.w) X.A (storeName X.env x r) (fun _=>SP X pins D .next) X.xe zw) X.xe zx) X.xe s:=by
  refine B5 (he pins s Y H _ I h) fun w s1 ⟨y,H1,I1,r1,q1⟩=>?_
  refine B5 (ho pins s1 Y H1 v y u w _ I1 r r1 q1) fun z s2 ⟨zv,H2,I2,r2,q2⟩=>?_
  exact kT I2 hN hi hx r2 (fun s3 I3=>⟨_,H2,I3,q2⟩) hf
 rcases l with ⟨hk,hm⟩ | ⟨hk,c,hc,K9⟩
 .exact wpAny_loadName_local I.ok.kind hk hn hm go
 .rcases hk with hk | hk
  .exact wpAny_loadName_cell I.ok.kind hk hc K9 go
  .rcases hx with k | k
   .have:X.env.scope.names.lookup x=some .free:=hk
    rw [k] at this;cases this
   .have:X.env.scope.names.lookup x=some .free:=hk
    rw [k] at this;cases this
def oG(f:Int->Int->Int):bV:=fun x y H Q=>∃ i j,x=.int i/\y=.int j/\Q (.int (f i j)) H
theorem amZ:oF X .Add (oG fun i j=>i+j):=by
 intro pins s Y H x y v u Q I r1 r2 h;obtain ⟨i,j,e1,e2,q⟩:=h;subst e1;subst e2;obtain ⟨t,rfl⟩:=r1;obtain ⟨t',rfl⟩:=r2;exact iadd_int ⟨.int _,H,I.tok _,⟨_,rfl⟩,q⟩
end
section
variable {X:Cx} {pos:Pos}
def kU(c:TT)(tb:TS):TS:=fun D Y H=>∃ W:Nat->St->Hp->Prop,(∃ m,W m Y H)/\∀ m Y H,W m Y H->
 c Y H fun b H1=>if b=true then ∃ N:St->Hp->Prop,(∀ σ' H',N σ' H'->∃ m',m'<m/\W m' σ' H')/\tb { D with nx:=N,ct:=N,bk:=D.nx } Y H1 else D.nx Y H1
theorem ajy{c:Expr}{body:List Stmt}{tc:TT}{tb:TS}(hp:PassesOwn (model X.prog X.w) X.A X.env X.xe)(hc:PT X c tc)(hb:V4 X body tb):PS X (.While c body [] pos) (kU tc tb):=by
 intro pins s Y H D I h;obtain ⟨W,⟨m0,w0⟩,turn⟩:=h;refine wpAny_While (codeAny_whileLoop (fun n s'=>∃ σ' H',Inv X pins σ' H' s'/\W n σ' H') ?_ m0 ⟨Y,H,I,w0⟩);rintro n s1 ⟨σ1,H1,I1,w1⟩;refine wpAny_passesOwn hp (B5 (hc pins s1 σ1 H1 _ I1 (turn n σ1 H1 w1)) fun b s2 ⟨H2,I2,q2⟩=>?_)
 cases b with
 | true=>
  obtain ⟨N,hN,q2⟩:=q2;rw [if_pos rfl];refine wpAny_passesOwn hp (B5 (hb pins s2 σ1 H2 _ I2 q2) fun f s3 q3=>?_)
  cases f with
  | next=>
   obtain ⟨σ3,H3,I3,n3⟩:=q3;obtain ⟨m',hm,w3⟩:=hN σ3 H3 n3;exact ⟨m',hm,σ3,H3,I3,w3⟩
  | cont=>
   obtain ⟨σ3,H3,I3,n3⟩:=q3;obtain ⟨m',hm,w3⟩:=hN σ3 H3 n3;exact ⟨m',hm,σ3,H3,I3,w3⟩
  | brk=>exact q3
  | ret v=>exact q3
 | false=>
  rw [if_neg K3];exact wpAny_execs_nil ⟨σ1,H2,I2,q2⟩
end
structure It where
 go:Nat->Hp->Prop
 yld:Nat->Hp->V->Hp->Prop
 stop:Nat->Hp->Prop
def FpOk(X:Cx)(pins:List (Addr×Obj))(H:Hp)(b:Addr):Prop:=
 H b=none/\b≠X.env.locals/\b∉X.fs/\(b∈X.ex\/X.s₀.heap.objs.size<=b)/\(∀ x c,X.env.cells.lookup x=some c->c≠b)/\∀ p∈X.pn++pins,p.1≠b
theorem Inv.fpOk{X:Cx}{pins:List (Addr×Obj)}{Y:St}{H H':Hp}{s:Shared}{b:Addr}(I:Inv X pins Y H s)(hb:s.heap.objs.size<=b)(hn:H' b=none):FpOk X pins H' b:=by
 refine ⟨hn,Nat.ne_of_gt (P3 I.lt hb),I.nofs hb,.inr (M6 I.sz hb),fun x c e z=>?_,fun p hp z=>?_⟩
 .obtain ⟨v,q⟩:=I.cell x c e;exact absurd (P3 q.lt (by rw [z];exact hb)) (k6 _)
 .exact absurd (P3 (Heap.lt_size (I.pin p hp).1) (by rw [z];exact hb)) (k6 _)
structure Turn(P:Program)(w:World)(K:PySem.W.Frag)(tg:Expr)(J:It)(fp:List Addr)(it:Addr)(tn:Nat->Heap->Prop):Prop where
 mem:it∈fp
 obj:∀ i h,tn i h->∀ b∈fp,∃ o,h.get? b=some o/\∀ v,o.data≠.cell v
 keep:∀ i h h',tn i h->(∀ b∈fp,∀ o,h.get? b=some o->h'.get? b=some o)->tn i h'
 item:∀ (X:Cx),X.prog=P->X.w=w->X.K=K->X.calm=true->∀ (i:Nat) (pins:List (Addr×Obj)) (s:Shared) (Y:St) (H:Hp) (E:Value->Shared->Prop),Inv X pins Y H s->(∀ b∈fp,FpOk X pins H b)->tn i s.heap->J.go i H->
  wpAny (model P w) X.A (pyNext (.ref it)) (fun r s1=>∃ u,r=some u/\
   wpAny (model P w) X.A (letOwnedTupleGo tg (.ref it) u) (fun _ s2=>∃ x H',Inv X pins Y H' s2/\RelV x u/\J.yld i H x H'/\tn (i+1) s2.heap/\∀ b∈fp,H' b=none) E s1) E s
 done:∀ (X:Cx),X.prog=P->X.w=w->X.K=K->X.calm=true->∀ (i:Nat) (pins:List (Addr×Obj)) (s:Shared) (Y:St) (H:Hp) (E:Value->Shared->Prop),Inv X pins Y H s->(∀ b∈fp,FpOk X pins H b)->tn i s.heap->J.stop i H->
  wpAny (model P w) X.A (pyNext (.ref it)) (fun r s1=>r=none/\Inv X pins Y H s1) E s
 self:∀ (A:Around) (i:Nat) (s:Shared) (Q:Value->Shared->Prop) (E:Value->Shared->Prop),tn i s.heap->Q (.ref it) s->wpAny (model P w) A (pyIter (.ref it)) Q E s
abbrev TI:=St->Hp->(It->Hp->Prop)->Prop
def uK(X:Cx)(pins:List (Addr×Obj))(Y:St)(tg:Expr)(R:It->Hp->Prop)(itv:Value)(s2:Shared):Prop:=
 ∃ (it:Addr) (fp:List Addr) (tn:Nat->Heap->Prop) (J:It) (H':Hp),itv=.ref it/\Inv X pins Y H' s2/\Turn X.prog X.w X.K tg J fp it tn/\tn 0 s2.heap/\(∀ b∈fp,FpOk X pins H' b)/\R J H'
def PI(X:Cx)(tg iter:Expr)(wi:TI):Prop:=
 ∀ (pins:List (Addr×Obj)) (s:Shared) (Y:St) (H:Hp) (R:It->Hp->Prop),Inv X pins Y H s->wi Y H R->
  wpAny (model X.prog X.w) X.A (eval iter X.env) (fun v s1=>wpAny (model X.prog X.w) X.A (pyIter v) (uK X pins Y tg R) X.xe s1) X.xe s
theorem go_of{M : Model}{A : Around}{E : Value -> Shared -> Prop}{s : Shared}{tg : Expr}{it : Addr}{u : Value}{o : Obj}{n : String}{vs : Array Value}{Q : Unit -> Shared -> Prop}(ho : s.heap.get? it = some o)(hc : o.cls = .type n)(hd : o.data = .fields vs)(hn : ["enumerate", "zip", "dict_itemiterator", "dict_reverseitemiterator", "odict_iterator", "itertools.zip_longest", "itertools.pairwise"].contains n = false)(hQ : Q () s) : wpAny M A (letOwnedTupleGo tg (.ref it) u) Q E s := by
  unfold letOwnedTupleGo
  cases tg <;> first
    | exact wpAny_pure hQ
    | (cases u <;> first
        | exact wpAny_pure hQ
        | (refine wpAny_bind (wpAny_load ho ?_)
           rw [hc, hd];show wpAny M A (if (["enumerate", "zip", "dict_itemiterator", "dict_reverseitemiterator", "odict_iterator", "itertools.zip_longest", "itertools.pairwise"].contains n&&vs[0]? == some (rawInt _)) = true then _ else _) Q E s;rw [if_neg (by intro h; rw [hn, Bool.false_and] at h; cases h)];exact wpAny_pure hQ))
def k8(K:PySem.W.Frag)(a:Addr):It:=
 ⟨fun i H=>∃ xs x,C9 K H a xs/\xs[i]?=some x,fun i H x H'=>H'=H/\∀ xs,C9 K H a xs->xs[i]?=some x,fun i H=>∃ xs,C9 K H a xs/\xs.length<=i⟩
def aK(K:PySem.W.Frag)(a:Addr):It:=
 ⟨fun i H=>∃ xs x,C7 K H a xs/\xs[i]?=some x,fun i H x H'=>H'=H/\∀ xs,C7 K H a xs->xs[i]?=some x,fun i H=>∃ xs,C7 K H a xs/\xs.length<=i⟩
def kW(lo:Int)(n:Nat):It:=⟨fun i _=>i<n,fun i H x H'=>H'=H/\x=.int (lo+i),fun i _=>n<=i⟩
theorem ah6{P:Program}{w:World}{K:PySem.W.Frag}{tg:Expr}(a it:Addr):Turn P w K tg (k8 K a) [it] it (fun i h=>h.IsListIter it a i) where
 mem:=by simp
 obj:=fun i h st b hb=>by
  have e:b=it:=by simpa using hb
  subst e;obtain ⟨o,e,c,d⟩:=st;exact ⟨o,e,fun v z=>by rw [d] at z;cases z⟩
 keep:=fun i h h' st k=>st.at fun o e=>k it (by simp) o e
 item:=by
  intro X hP hw hK hc i pins s Y H E I hf st hg;subst hP hw hK;obtain ⟨xs,x,hq,hx⟩:=hg;obtain ⟨its,rv,p,hz⟩:=I.list hq;obtain ⟨u,hu,ru⟩:=rv.get hx;obtain ⟨f0,f1,f2,f3,f4,f5⟩:=hf it (by simp);refine wpAny_pyNext_list_item st p.isList (x:=u) (by simpa using hu) fun h' st' sb=>?_
  have I1:Inv X pins Y H { s with heap:=h' }:=I.turned (t':=s.toks) (fun b o hb e=>(sb.2 b hb).trans e) f0 f1 f3 f4 f5;obtain ⟨o,e,c,d⟩:=id st';exact ⟨u,rfl,go_of (s:={ s with heap:=h' }) e c d (by decide) ⟨x,H,I1,ru,⟨rfl,fun ys hy=>by rw [I.list_inj hy hq];exact hx⟩,st',fun b hb=>(hf b hb).1⟩⟩
 done:=by
  intro X hP hw hK hc i pins s Y H E I hf st hg;subst hP hw hK;obtain ⟨xs,hq,hx⟩:=hg;obtain ⟨its,rv,p,hz⟩:=I.list hq;obtain ⟨f0,f1,f2,f3,f4,f5⟩:=hf it (by simp);have hl:=rv.length;exact wpAny_pyNext_list_end (I.ok.hd hc) st p.isList (by simp;lia) fun h' eb=>⟨rfl,I.turned (t':=s.toks) (fun b o hb e=>eb b o hb e) f0 f1 f3 f4 f5⟩
 self:=fun _ _ _ _ _ st h=>wpAny_pyIter_listiter st h
theorem ahr{P:Program}{w:World}{K:PySem.W.Frag}{tg:Expr}(a it:Addr):Turn P w K tg (aK K a) [it] it (fun i h=>h.IsTupleIter it a i) where
 mem:=by simp
 obj:=fun i h st b hb=>by
  have e:b=it:=by simpa using hb
  subst e;obtain ⟨o,e,c,d⟩:=st;exact ⟨o,e,fun v z=>by rw [d] at z;cases z⟩
 keep:=fun i h h' st k=>st.at fun o e=>k it (by simp) o e
 item:=by
  intro X hP hw hK hc i pins s Y H E I hf st hg;subst hP hw hK;obtain ⟨xs,x,hq,hx⟩:=hg;obtain ⟨its,rv,p,hz⟩:=I.tuple hq;obtain ⟨u,hu,ru⟩:=rv.get hx;obtain ⟨f0,f1,f2,f3,f4,f5⟩:=hf it (by simp);refine wpAny_pyNext_tuple_item st (show s.heap.IsTuple a its.toArray from p) (x:=u) (by simpa using hu) fun h' st' sb=>?_
  have I1:Inv X pins Y H { s with heap:=h' }:=I.turned (t':=s.toks) (fun b o hb e=>(sb.2 b hb).trans e) f0 f1 f3 f4 f5;obtain ⟨o,e,c,d⟩:=id st';exact ⟨u,rfl,go_of (s:={ s with heap:=h' }) e c d (by decide) ⟨x,H,I1,ru,⟨rfl,fun ys hy=>by rw [I.tuple_inj hy hq];exact hx⟩,st',fun b hb=>(hf b hb).1⟩⟩
 done:=by
  intro X hP hw hK hc i pins s Y H E I hf st hg;subst hP hw hK;obtain ⟨xs,hq,hx⟩:=hg;obtain ⟨its,rv,p,hz⟩:=I.tuple hq;obtain ⟨f0,f1,f2,f3,f4,f5⟩:=hf it (by simp);have hl:=rv.length;exact wpAny_pyNext_tuple_end (I.ok.hd hc) st (show s.heap.IsTuple a its.toArray from p) (by simp;lia) fun h' eb=>⟨rfl,I.turned (t':=s.toks) (fun b o hb e=>eb b o hb e) f0 f1 f3 f4 f5⟩
 self:=fun _ _ _ _ _ st h=>wpAny_pyIter_tupleiter st h
end L2
namespace L2
open PySem PySem.Spec PyProof.Rows
section
variable {X:Cx} {tg:Expr}
def iList(K:PySem.W.Frag)(tl:TE):TI:=fun Y H R=>tl Y H fun x H1=>∃ a,x=.ref a/\(∃ xs,C9 K H1 a xs)/\R (k8 K a) H1
def iTup(K:PySem.W.Frag)(tl:TE):TI:=fun Y H R=>tl Y H fun x H1=>∃ a,x=.ref a/\(∃ xs,C7 K H1 a xs)/\R (aK K a) H1
theorem ali{l:Expr}{tl:TE}(hl:PE X l tl):PI X tg l (iList X.K tl):=by
 intro pins s Y H R I h;refine B5 (hl pins s Y H _ I h) fun v s1 ⟨x,H1,I1,r1,q1⟩=>?_
 obtain ⟨a,e,⟨xs,hq⟩,q⟩:=q1;subst e
 cases r1
 obtain ⟨its,rv,p,hz⟩:=I1.list hq;refine wpAny_pyIter_list p.isList ?_;refine ⟨s1.heap.objs.size,[s1.heap.objs.size],_,_,H1,rfl,I1.kept (t':=s1.toks) fun b o e=>Heap.get?_push_of_some _ e,ah6 a _,⟨_,Heap.get?_push_size _ rfl,rfl,rfl⟩,fun b hb=>?_,q⟩;have e:b=s1.heap.objs.size:=by simpa using hb
 subst e;exact I1.fpOk (C4 _) (I1.hok.fresh (C4 _))
theorem am0{l:Expr}{tl:TE}(hl:PE X l tl):PI X tg l (iTup X.K tl):=by
 intro pins s Y H R I h;refine B5 (hl pins s Y H _ I h) fun v s1 ⟨x,H1,I1,r1,q1⟩=>?_
 obtain ⟨a,e,⟨xs,hq⟩,q⟩:=q1;subst e
 cases r1
 obtain ⟨its,rv,p,hz⟩:=I1.tuple hq;refine wpAny_pyIter_tuple (show s1.heap.IsTuple a its.toArray from p) ?_;refine ⟨s1.heap.objs.size,[s1.heap.objs.size],_,_,H1,rfl,I1.kept (t':=s1.toks) fun b o e=>Heap.get?_push_of_some _ e,ahr a _,⟨_,Heap.get?_push_size _ rfl,rfl,rfl⟩,fun b hb=>?_,q⟩;have e:b=s1.heap.objs.size:=by simpa using hb
 subst e;exact I1.fpOk (C4 _) (I1.hok.fresh (C4 _))
def iRng1(ta:TA):TI:=fun Y H R=>ta Y H fun vs H1=>∃ j:Int,vs=[.int j]/\-(2 ^ 62)<=j/\j<2 ^ 62/\R (kW 0 j.toNat) H1
def iRng2(ta:TA):TI:=fun Y H R=>ta Y H fun vs H1=>∃ i j:Int,vs=[.int i,.int j]/\(-(2 ^ 62)<=i/\i<2 ^ 62/\-(2 ^ 62)<=j/\j<2 ^ 62)/\R (kW i (j-i).toNat) H1
def tFor(wi:TI)(g:TG)(tb:TS):TS:=fun D Y H=>wi Y H fun J H1=>∃ W:Nat->Nat->St->Hp->Prop,(∃ m,W 0 m Y H1)/\∀ i m Y H,W i m Y H->
 (J.stop i H/\D.nx Y H)\/(J.go i H/\∃ N:St->Hp->Prop,(∀ σ' H',N σ' H'->∃ m',m'<m/\W (i+1) m' σ' H')/\∀ x H',J.yld i H x H'->g x Y H' fun σ2 H2=>tb { D with nx:=N,ct:=N,bk:=D.nx } σ2 H2)
def dS(fp:List Addr)(h:Heap):List (Addr×Obj):=fp.filterMap fun b=>(h.get? b).map fun o=>(b,o)
theorem dU{fp:List Addr}{h:Heap}{b:Addr}{o:Obj}(hb:b∈fp)(e:h.get? b=some o):(b,o)∈dS fp h:=gF.mpr ⟨b,hb,by rw [e];rfl⟩
theorem ah7{fp:List Addr}{h:Heap}{p:Addr×Obj}(hp:p∈dS fp h):p.1∈fp/\h.get? p.1=some p.2:=by
 obtain ⟨b,hb,e⟩:=gF.mp hp
 cases q:h.get? b with
 | none=>rw [q] at e;cases e
 | some o=>
  rw [q] at e;have e':(b,o)=p:=Option.some.inj e;subst e';exact ⟨hb,q⟩
theorem Inv.pinned{pins:List (Addr×Obj)}{Y:St}{H:Hp}{s:Shared}{fp:List Addr}(I:Inv X pins Y H s)(hf:∀ b∈fp,FpOk X pins H b)(ho:∀ b∈fp,∃ o,s.heap.get? b=some o/\∀ v,o.data≠.cell v):Inv X (pins++dS fp s.heap) Y H s:=
 I.pins_of fun p hp=>(K5.mp hp).elim (fun z=>I.pin p (O5 _ z)) fun z=>by
  obtain ⟨hb,e⟩:=ah7 z;obtain ⟨f0,f1,f2,_⟩:=hf p.1 hb;obtain ⟨o,e',d⟩:=ho p.1 hb;rw [e] at e';cases e';exact ⟨e,f0,f1,f2,d⟩
theorem Inv.unpinned{pins pl:List (Addr×Obj)}{Y:St}{H:Hp}{s:Shared}(I:Inv X (pins++pl) Y H s):Inv X pins Y H s:=I.pins_of fun p hp=>I.pin p (O5 _ (R4 _ hp))
theorem am1{iter:Expr}{body:List Stmt}{wi:TI}{g:TG}{tb:TS}{pos:Pos}(hp:PassesOwn (model X.prog X.w) X.A X.env X.xe)(hc:X.calm=true)(hi:PI X tg iter wi)(hg:PG X tg g)(hb:V4 X body tb)(hs:∀ x,foldedSetIterable iter X.env x=pure x:=by intro _;rfl):PS X (.For tg iter body [] pos) (tFor wi g tb):=by
 intro pins s Y H D I h;refine wpAny_For (B5 (hi pins s Y H _ I h) fun v s1 h1=>B5 h1 fun itv s2 h2=>?_) hs;obtain ⟨it,fp,tn,J,H2,e,I2,T,jE,f2,W,⟨m0,w0⟩,turn⟩:=h2;subst e;have stat:∀ {H':Hp},(∀ b∈fp,H' b=none)->∀ b∈fp,FpOk X pins H' b:=fun hn b hb=>⟨hn b hb,(f2 b hb).2⟩
 refine codeAny_forLoop_any (fun n s'=>∃ i σ' H',Inv X pins σ' H' s'/\tn i s'.heap/\(∀ b∈fp,H' b=none)/\W i n σ' H') ?_ m0 ⟨0,Y,H2,I2,jE,fun b hb=>(f2 b hb).1,w0⟩;rintro n s3 ⟨i,σ3,H3,I3,bD,jF,w3⟩
 rcases turn i n σ3 H3 w3 with ⟨stop,qn⟩ | ⟨go,N,hN,step⟩
 .refine wpAny_passesOwn hp (B5 (T.done X rfl rfl rfl hc i pins s3 σ3 H3 X.xe I3 (stat jF) bD stop) fun r s4 ⟨hr,I4⟩=>?_);subst hr;exact wpAny_execs_nil ⟨σ3,H3,I4,qn⟩
 .refine wpAny_passesOwn hp (B5 (T.item X rfl rfl rfl hc i pins s3 σ3 H3 X.xe I3 (stat jF) bD go) fun r s4 ⟨u,hr,h4⟩=>?_);subst hr;refine wpAny_passesOwn hp (B5 h4 fun _ s5 ⟨x,H5,I5,r5,y5,cT,sF⟩=>?_);have I5':=I5.pinned (stat sF) (T.obj _ _ cT);refine wpAny_passesOwn hp (B5 (hg _ s5 σ3 H5 x u _ I5' r5 (step x H5 y5)) fun _ s6 ⟨σ6,H6,I6,q6⟩=>?_);refine wpAny_passesOwn hp (B5 (hb _ s6 σ6 H6 _ I6 q6) fun f s7 q7=>?_);have again:∀ {σ7:St} {H7:Hp},Inv X (pins++dS fp s5.heap) σ7 H7 s7->N σ7 H7->∃ m,m<n/\∃ i σ' H',Inv X pins σ' H' s7/\tn i s7.heap/\(∀ b∈fp,H' b=none)/\W i m σ' H':=fun {σ7 H7} I7 n7=>by
   obtain ⟨m',hm,w7⟩:=hN σ7 H7 n7;refine ⟨m',hm,i+1,σ7,H7,I7.unpinned,T.keep _ _ _ cT fun b hb o e=>(I7.pin (b,o) (O5 _ (O5 _ (dU hb e)))).1,fun b hb=>?_,w7⟩;obtain ⟨o,e,d⟩:=T.obj _ _ cT b hb;exact (I7.pin (b,o) (O5 _ (O5 _ (dU hb e)))).2.1
  cases f with
  | next=>obtain ⟨σ7,H7,I7,n7⟩:=q7;exact again I7 n7
  | cont=>obtain ⟨σ7,H7,I7,n7⟩:=q7;exact again I7 n7
  | brk=>obtain ⟨σ7,H7,I7,q7⟩:=q7;exact ⟨σ7,H7,I7.unpinned,q7⟩
  | ret v=>obtain ⟨x7,σ7,H7,I7,r7,q7⟩:=q7;exact ⟨x7,σ7,H7,I7.unpinned,r7,q7⟩
end
theorem ajz{K:PySem.W.Frag}{a:Addr}{xs:List V}{g:TG}{tb:TS}{D:Ends}{Y:St}{H:Hp}(Pv:Nat->St->Hp->Prop)(h0:Pv 0 Y H)(hl:∀ i Y H,i<=xs.length->Pv i Y H->C9 K H a xs)(hs:∀ i x Y H,xs[i]?=some x->Pv i Y H->g x Y H fun σ2 H2=>tb { D with nx:=Pv (i+1),ct:=Pv (i+1),bk:=D.nx } σ2 H2)(hd:∀ Y H,Pv xs.length Y H->D.nx Y H) :
  ∃ W:Nat->Nat->St->Hp->Prop,(∃ m,W 0 m Y H)/\∀ i m Y H,W i m Y H->
   ((k8 K a).stop i H/\D.nx Y H)\/((k8 K a).go i H/\∃ N:St->Hp->Prop,(∀ σ' H',N σ' H'->∃ m',m'<m/\W (i+1) m' σ' H')/\∀ x H',(k8 K a).yld i H x H'->g x Y H' fun σ2 H2=>tb { D with nx:=N,ct:=N,bk:=D.nx } σ2 H2):=by
 refine ⟨fun i m Y H=>m=xs.length-i/\i<=xs.length/\Pv i Y H,⟨xs.length,by simp,J5 _,h0⟩,?_⟩;rintro i m Y H ⟨rfl,hi,p⟩;have q:=hl i Y H hi p
 by_cases D0:i<xs.length
 .refine .inr ⟨⟨xs,xs[i],q,by simp [D0]⟩,Pv (i+1),fun σ' H' p'=>⟨xs.length-(i+1),by lia,rfl,D0,p'⟩,fun x H' y=>?_⟩;obtain ⟨e,y⟩:=y;subst e;exact hs i x Y _ (y xs q) p
 .have e:i=xs.length:=by lia
  subst e;exact .inl ⟨⟨xs,q,C4 _⟩,hd Y H p⟩
theorem alj{K:PySem.W.Frag}{a:Addr}{xs:List V}{g:TG}{tb:TS}{D:Ends}{Y:St}{H:Hp}(Pv:Nat->St->Hp->Prop)(h0:Pv 0 Y H)(hl:∀ i Y H,i<=xs.length->Pv i Y H->C7 K H a xs)(hs:∀ i x Y H,xs[i]?=some x->Pv i Y H->g x Y H fun σ2 H2=>tb { D with nx:=Pv (i+1),ct:=Pv (i+1),bk:=D.nx } σ2 H2)(hd:∀ Y H,Pv xs.length Y H->D.nx Y H) :
  ∃ W:Nat->Nat->St->Hp->Prop,(∃ m,W 0 m Y H)/\∀ i m Y H,W i m Y H->
   ((aK K a).stop i H/\D.nx Y H)\/((aK K a).go i H/\∃ N:St->Hp->Prop,(∀ σ' H',N σ' H'->∃ m',m'<m/\W (i+1) m' σ' H')/\∀ x H',(aK K a).yld i H x H'->g x Y H' fun σ2 H2=>tb { D with nx:=N,ct:=N,bk:=D.nx } σ2 H2):=by
 refine ⟨fun i m Y H=>m=xs.length-i/\i<=xs.length/\Pv i Y H,⟨xs.length,by simp,J5 _,h0⟩,?_⟩;rintro i m Y H ⟨rfl,hi,p⟩;have q:=hl i Y H hi p
 by_cases D0:i<xs.length
 .refine .inr ⟨⟨xs,xs[i],q,by simp [D0]⟩,Pv (i+1),fun σ' H' p'=>⟨xs.length-(i+1),by lia,rfl,D0,p'⟩,fun x H' y=>?_⟩;obtain ⟨e,y⟩:=y;subst e;exact hs i x Y _ (y xs q) p
 .have e:i=xs.length:=by lia
  subst e;exact .inl ⟨⟨xs,q,C4 _⟩,hd Y H p⟩
end L2
namespace L2
open PySem PySem.Spec PyProof.Rows
abbrev R2:=V->V->Hp->VK->Prop
def F9(X:Cx)(f:Value->Value->Sem Value)(r:R2):Prop:=
 ∀ (pins:List (Addr×Obj)) (s:Shared) (Y:St) (H:Hp) (x y:V) (v u:Value) (Q:VK),Inv X pins Y H s->RelV x v->RelV y u->r x y H Q->
  wpAny (model X.prog X.w) X.A (f v u) (EP X pins Y Q) X.xe s
def kX(X:Cx)(f:Value->Sem Value)(r:V->Hp->VK->Prop):Prop:=
 ∀ (pins:List (Addr×Obj)) (s:Shared) (Y:St) (H:Hp) (x:V) (v:Value) (Q:VK),Inv X pins Y H s->RelV x v->r x H Q->
  wpAny (model X.prog X.w) X.A (f v) (EP X pins Y Q) X.xe s
def CallR(X:Cx)(f:Value)(r:List V->Hp->VK->Prop):Prop:=
 ∀ (pins:List (Addr×Obj)) (s:Shared) (Y:St) (H:Hp) (xs:List V) (us:List Value) (Q:VK),Inv X pins Y H s->Vals xs us->r xs H Q->
  wpAny (model X.prog X.w) X.A (call f us) (EP X pins Y Q) X.xe s
def TruR(X:Cx)(r:V->Hp->(Bool->Hp->Prop)->Prop):Prop:=
 ∀ (pins:List (Addr×Obj)) (s:Shared) (Y:St) (H:Hp) (x:V) (v:Value) (Q:Bool->Hp->Prop),Inv X pins Y H s->RelV x v->r x H Q->
  wpAny (model X.prog X.w) X.A (truthy v) (TP X pins Y Q) X.xe s
def g6(r:R2)(ta tb:TE):TE:=fun Y H Q=>ta Y H fun x H1=>tb Y H1 fun y H2=>r x y H2 Q
def oH(r:V->Hp->VK->Prop)(ta:TE):TE:=fun Y H Q=>ta Y H fun x H1=>r x H1 Q
def rI(C:Int->Int->Prop)(g:Int->Int->V):R2:=fun x y H Q=>∃ i j,x=.int i/\y=.int j/\C i j/\Q (g i j) H
def t8(g:Int->Int->V):R2:=fun x y H Q=>∃ i j,x=.int i/\y=.int j/\Q (g i j) H
def rU(g:Int->V):V->Hp->VK->Prop:=fun x H Q=>∃ i,x=.int i/\Q (g i) H
section
variable {X:Cx} {a b c:Expr} {ta tb tc:TE} {pos:Pos}
theorem binT(ha:PE X a ta)(hb:PE X b tb){pins:List (Addr×Obj)}{s:Shared}{Y:St}{H:Hp}{R:V->V->Hp->Prop}(I:Inv X pins Y H s)(h:ta Y H fun x H1=>tb Y H1 fun y H2=>R x y H2){Q:Value->Shared->Prop}{f:Value->Value->Sem Value}(hf:∀ v u s2 x y H2,Inv X pins Y H2 s2->RelV x v->RelV y u->R x y H2->wpAny (model X.prog X.w) X.A (f v u) Q X.xe s2) :
  wpAny (model X.prog X.w) X.A (eval a X.env) (fun v zu=>wpAny (model X.prog X.w) X.A (eval b X.env) (fun u zx=>wpAny (model X.prog X.w) X.A (f v u) Q X.xe zx) X.xe zu) X.xe s:=by
 refine B5 (ha pins s Y H _ I h) fun v s1 ⟨x,H1,I1,r1,q1⟩=>?_
 refine B5 (hb pins s1 Y H1 _ I1 q1) fun u s2 ⟨y,H2,I2,r2,q2⟩=>?_
 exact hf v u s2 x y H2 I2 r1 r2 q2
theorem pe_op{op:Operator}{r:R2}(ho:F9 X (binaryOp op) r)(ha:PE X a ta)(hb:PE X b tb):PE X (.BinOp a op b pos) (g6 r ta tb):=by
 intro pins s Y H Q I h;exact wpAny_BinOp (binT ha hb I h fun v u s2 x y H2 I2 rx ry q=>ho pins s2 Y H2 x y v u Q I2 rx ry q)
theorem pe_un{op:UnaryOp}{r:V->Hp->VK->Prop}(ho:kX X (unaryOp op) r)(ha:PE X a ta):PE X (.UnaryOp op a pos) (oH r ta):=by
 intro pins s Y H Q I h;exact UnaryOp_ (B5 (ha pins s Y H _ I h) fun v s1 ⟨x,H1,I1,r1,q1⟩=>ho pins s1 Y H1 x v Q I1 r1 q1)
theorem kY{f:Value->Value->Sem Value}{C:Int->Int->Prop}{g:Int->Int->Int}(rule:∀ (i j:Int) (t u:Tok) (s:Shared) (Q:Value->Shared->Prop) (E:Value->Shared->Prop),C i j->Q (.int (g i j) s.toks) { s with toks:=s.toks+1 }->wpAny (model X.prog X.w) X.A (f (.int i t) (.int j u)) Q E s) :
  F9 X f (rI C fun i j=>.int (g i j)):=by
 intro pins s Y H x y v u Q I rx ry h;obtain ⟨i,j,rfl,rfl,hc,q⟩:=h;obtain ⟨t,rfl⟩:=rx;obtain ⟨t',rfl⟩:=ry;exact rule i j t t' s _ _ hc ⟨.int (g i j),H,I.tok _,⟨_,rfl⟩,q⟩
theorem opI0{f:Value->Value->Sem Value}{g:Int->Int->Int}(rule:∀ (i j:Int) (t u:Tok) (s:Shared) (Q:Value->Shared->Prop) (E:Value->Shared->Prop),Q (.int (g i j) s.toks) { s with toks:=s.toks+1 }->wpAny (model X.prog X.w) X.A (f (.int i t) (.int j u)) Q E s) :
  F9 X f (t8 fun i j=>.int (g i j)):=by
 intro pins s Y H x y v u Q I rx ry h;obtain ⟨i,j,rfl,rfl,q⟩:=h;obtain ⟨t,rfl⟩:=rx;obtain ⟨t',rfl⟩:=ry;exact rule i j t t' s _ _ ⟨.int (g i j),H,I.tok _,⟨_,rfl⟩,q⟩
theorem opB0{f:Value->Value->Sem Value}{g:Int->Int->Bool}(rule:∀ (i j:Int) (t u:Tok) (s:Shared) (Q:Value->Shared->Prop) (E:Value->Shared->Prop),Q (.bool (g i j)) s->wpAny (model X.prog X.w) X.A (f (.int i t) (.int j u)) Q E s) :
  F9 X f (t8 fun i j=>.bl (g i j)):=by
 intro pins s Y H x y v u Q I rx ry h;obtain ⟨i,j,rfl,rfl,q⟩:=h;obtain ⟨t,rfl⟩:=rx;obtain ⟨t',rfl⟩:=ry;exact rule i j t t' s _ _ ⟨.bl (g i j),H,I,rfl,q⟩
def CDiv(i j:Int):Prop:=0<j/\j<1073741824
def CPow(i j:Int):Prop:=0<=j/\j<=1000000/\i.natAbs<2 ^ 64
def CMul(i j:Int):Prop:=(-(2 ^ 64)<i/\i<2 ^ 64)\/(-(2 ^ 64)<j/\j<2 ^ 64)
theorem CMul.ok{i j:Int}(h:CMul i j):IntMulOk i j:=by
 rcases h with ⟨h1,h2⟩ | ⟨h1,h2⟩
 .exact .of_left (intBits_le_64 h1 h2)
 .exact .of_right (intBits_le_64 h1 h2)
theorem am2:F9 X (binaryOp .Add) (t8 fun i j=>.int (i+j)):=opI0 fun _ _ _ _ _ _ _ q=>add_int q
theorem am3:F9 X (binaryOp .Sub) (t8 fun i j=>.int (i-j)):=opI0 fun _ _ _ _ _ _ _ q=>sub_int q
theorem am4:F9 X (binaryOp .Mult) (rI CMul fun i j=>.int (i*j)):=kY fun _ _ _ _ _ _ _ hc q=>mul_int q hc.ok
theorem alk:F9 X (binaryOp .FloorDiv) (rI CDiv fun i j=>.int (i / j)):=kY fun i j _ _ _ _ _ hc q=>by
 have h1:(0:Int)<j:=hc.1;have h2:j<1073741824:=hc.2;exact floordiv_int (by lia) (by rw [Int.fdiv_eq_ediv_of_nonneg i (by lia)];exact q) (.inl (PyProof.noPylong_small (by lia)))
theorem am5:F9 X (binaryOp .Mod) (rI (fun _ j=>0<j) fun i j=>.int (i % j)):=kY fun i j _ _ _ _ _ hc q=>by
 have h1:(0:Int)<j:=hc;exact mod_int' (by lia) (by rw [Int.fmod_eq_emod_of_nonneg i (by lia)];exact q)
theorem am6:F9 X (binaryOp .Pow) (rI CPow fun i j=>.int (i ^ j.toNat)):=kY fun _ _ _ _ _ _ _ hc q=>pow_int_small hc.1 hc.2.1 hc.2.2 q
theorem unI{f:Value->Sem Value}{g:Int->Int}(rule:∀ (i:Int) (t:Tok) (s:Shared) (Q:Value->Shared->Prop) (E:Value->Shared->Prop),Q (.int (g i) s.toks) { s with toks:=s.toks+1 }->wpAny (model X.prog X.w) X.A (f (.int i t)) Q E s) :
  kX X f (rU fun i=>.int (g i)):=by
 intro pins s Y H x v Q I rx h;obtain ⟨i,rfl,q⟩:=h;obtain ⟨t,rfl⟩:=rx;exact rule i t s _ _ ⟨.int (g i),H,I.tok _,⟨_,rfl⟩,q⟩
theorem am7:kX X (unaryOp .USub) (rU fun i=>.int (-i)):=unI fun _ _ _ _ _ q=>neg_int q
end
def scal:V->V->Bool
 | .non,.non=>true | .non,.int _=>true | .int _,.non=>true | .non,.bl _=>true | .bl _,.non=>true | .non,.str _=>true | .str _,.non=>true
 | .int _,.int _=>true | .bl _,.bl _=>true | .str _,.str _=>true | .byt _,.byt _=>true
 | .int _,.str _=>true | .str _,.int _=>true | .bl _,.str _=>true | .str _,.bl _=>true
 | _,_=>false
def uL:R2:=fun x y H Q=>scal x y=true/\Q (.bl (decide (x=y))) H
def uM:R2:=fun x y H Q=>scal x y=true/\Q (.bl (!decide (x=y))) H
theorem uN{i j:Int} : decide (V.int i=V.int j)=(i==j):=by
 rw [Bool.eq_iff_iff]
 simp
theorem uO{i j:Bool} : decide (V.bl i=V.bl j)=(i==j):=by
 rw [Bool.eq_iff_iff]
 simp
theorem uP{i j:Str} : decide (V.str i=V.str j)=(i==j):=by
 rw [Bool.eq_iff_iff]
 simp
theorem uQ{i j:Array UInt8} : decide (V.byt i=V.byt j)=(i.toList==j.toList):=by
 rw [Bool.eq_iff_iff]
 cases i
 cases j
 simp
section
variable {X:Cx} {a b c:Expr} {ta tb tc:TE} {pos:Pos}
theorem K6{pins:List (Addr×Obj)}{Y:St}{H:Hp}{s:Shared}{Q:VK}{k k':Bool}(I:Inv X pins Y H s)(q:Q (.bl k) H)(e:k=k'):EP X pins Y Q (.bool k') s:=by
 subst e;exact ⟨.bl k,H,I,rfl,q⟩
theorem op_eq:F9 X (compareOp .Eq) uL:=by
 intro pins s Y H x y v u Q I rx ry h;obtain ⟨hs,q⟩:=h
 cases x with
 | non=>
  cases rx
  cases y with
  | non=>cases ry;exact PySem.EqNone.eq_none_none (K6 I q (by simp))
  | bl j=>cases ry;exact PySem.EqNone.eq_none_bool (K6 I q (by simp))
  | int j=>obtain ⟨t',rfl⟩:=ry;exact PySem.EqNone.eq_none_int (K6 I q (by simp))
  | str j=>obtain ⟨t',rfl⟩:=ry;exact PySem.EqNone.eq_none_str (K6 I q (by simp))
  | _=>exact absurd (show false=true from hs) K3
 | bl i=>
  cases rx
  cases y with
  | non=>cases ry;exact PySem.EqNone.eq_bool_none (K6 I q (by simp))
  | bl j=>cases ry;exact eq_bool (K6 I q uO)
  | str j=>obtain ⟨t',rfl⟩:=ry;exact PySem.EqMixed.eq_bool_str (K6 I q (by simp))
  | _=>exact absurd (show false=true from hs) K3
 | int i=>
  obtain ⟨t,rfl⟩:=rx
  cases y with
  | non=>cases ry;exact PySem.EqNone.eq_int_none (K6 I q (by simp))
  | int j=>obtain ⟨t',rfl⟩:=ry;exact eq_int (K6 I q uN)
  | str j=>obtain ⟨t',rfl⟩:=ry;exact PySem.EqMixed.eq_int_str (K6 I q (by simp))
  | _=>exact absurd (show false=true from hs) K3
 | str i=>
  obtain ⟨t,rfl⟩:=rx
  cases y with
  | non=>cases ry;exact PySem.EqNone.eq_str_none (K6 I q (by simp))
  | bl j=>cases ry;exact PySem.EqMixed.eq_str_bool (K6 I q (by simp))
  | int j=>obtain ⟨t',rfl⟩:=ry;exact PySem.EqMixed.eq_str_int (K6 I q (by simp))
  | str j=>obtain ⟨t',rfl⟩:=ry;exact eq_str (K6 I q uP)
  | _=>exact absurd (show false=true from hs) K3
 | byt i=>
  obtain ⟨t,rfl⟩:=rx
  cases y with
  | byt j=>obtain ⟨t',rfl⟩:=ry;exact PySem.W.eq_bytes (K6 I q uQ)
  | _=>exact absurd (show false=true from hs) K3
 | _=>cases y <;> exact absurd (show false=true from hs) K3
theorem op_ne:F9 X (compareOp .NotEq) uM:=by
 intro pins s Y H x y v u Q I rx ry h;obtain ⟨hs,q⟩:=h
 cases x with
 | non=>
  cases rx
  cases y with
  | non=>cases ry;exact PySem.EqNone.ne_none_none (K6 I q (by simp))
  | bl j=>cases ry;exact PySem.EqNone.ne_none_bool (K6 I q (by simp))
  | int j=>obtain ⟨t',rfl⟩:=ry;exact PySem.EqNone.ne_none_int (K6 I q (by simp))
  | str j=>obtain ⟨t',rfl⟩:=ry;exact PySem.EqNone.ne_none_str (K6 I q (by simp))
  | _=>exact absurd (show false=true from hs) K3
 | bl i=>
  cases rx
  cases y with
  | non=>cases ry;exact PySem.EqNone.ne_bool_none (K6 I q (by simp))
  | bl j=>cases ry;exact ne_bool (K6 I q (congrArg not uO))
  | str j=>obtain ⟨t',rfl⟩:=ry;exact PySem.EqMixed.ne_bool_str (K6 I q (by simp))
  | _=>exact absurd (show false=true from hs) K3
 | int i=>
  obtain ⟨t,rfl⟩:=rx
  cases y with
  | non=>cases ry;exact PySem.EqNone.ne_int_none (K6 I q (by simp))
  | int j=>obtain ⟨t',rfl⟩:=ry;exact ne_int (K6 I q (congrArg not uN))
  | str j=>obtain ⟨t',rfl⟩:=ry;exact PySem.EqMixed.ne_int_str (K6 I q (by simp))
  | _=>exact absurd (show false=true from hs) K3
 | str i=>
  obtain ⟨t,rfl⟩:=rx
  cases y with
  | non=>cases ry;exact PySem.EqNone.ne_str_none (K6 I q (by simp))
  | bl j=>cases ry;exact PySem.EqMixed.ne_str_bool (K6 I q (by simp))
  | int j=>obtain ⟨t',rfl⟩:=ry;exact PySem.EqMixed.ne_str_int (K6 I q (by simp))
  | str j=>obtain ⟨t',rfl⟩:=ry;exact ne_str (K6 I q (congrArg not uP))
  | _=>exact absurd (show false=true from hs) K3
 | byt i=>
  obtain ⟨t,rfl⟩:=rx
  cases y with
  | byt j=>obtain ⟨t',rfl⟩:=ry;exact PySem.W.ne_bytes (K6 I q (congrArg not uQ))
  | _=>exact absurd (show false=true from hs) K3
 | _=>cases y <;> exact absurd (show false=true from hs) K3
theorem op_lt:F9 X (compareOp .Lt) (t8 fun i j=>.bl (decide (i<j))):=opB0 fun _ _ _ _ _ _ _ q=>lt_int q
theorem op_le:F9 X (compareOp .LtE) (t8 fun i j=>.bl (decide (i<=j))):=opB0 fun _ _ _ _ _ _ _ q=>le_int q
theorem uR:F9 X (compareOp .Lt) (fun x y H Q=>∃ i j,x=.str i/\y=.str j/\Q (.bl (decide (i.cps.toList<j.cps.toList))) H):=by
 intro pins s Y H x y v u Q I rx ry h;obtain ⟨i,j,rfl,rfl,q⟩:=h;obtain ⟨t,rfl⟩:=rx;obtain ⟨t',rfl⟩:=ry;exact lt_str (K6 I q rfl)
theorem aib:F9 X (compareOp .In) (fun x y H Q=>∃ i j,x=.str i/\y=.str j/\Q (.bl (!(Builtin.Str.occurrences j i 0 j.length 1).isEmpty)) H):=by
 intro pins s Y H x y v u Q I rx ry h;obtain ⟨i,j,rfl,rfl,q⟩:=h;obtain ⟨t,rfl⟩:=rx;obtain ⟨t',rfl⟩:=ry;exact in_str (K6 I q rfl)
theorem uS(b:Expr){op:CmpOp}(h:op≠.In:=by decide)(h2:op≠.NotIn:=by decide):behindInMarks op b=false:=by
 have e1:(op==CmpOp.In)=false:=by cases op <;> first | rfl | exact absurd rfl h
 have e2:(op==CmpOp.NotIn)=false:=by cases op <;> first | rfl | exact absurd rfl h2
 cases b <;> simp [behindInMarks,e1,e2]
theorem alm{op:CmpOp}{r:R2}(ho:F9 X (compareOp op) r)(ha:PE X a ta)(hb:PE X b tb)(hm:behindInMarks op b=false):PE X (.Compare a [op] [b] pos) (g6 r ta tb):=by
 intro pins s Y H Q I h;exact wpAny_Compare1 (binT ha hb I h fun v u s2 x y H2 I2 rx ry q=>ho pins s2 Y H2 x y v u Q I2 rx ry q) hm
def tTest(t:TE):TT:=fun Y H Q=>t Y H fun x H'=>∃ k,x=.bl k/\Q k H'
theorem aln{op:CmpOp}{r:R2}(ho:F9 X (compareOp op) r)(ha:PE X a ta)(hb:PE X b tb)(hm:behindInMarks op b=false):PT X (.Compare a [op] [b] pos) (tTest (g6 r ta tb)):=by
 intro pins s Y H Q I h;refine wpAny_isTrue_Compare1 (B5 (ha pins s Y H _ I h) fun v s1 ⟨x,H1,I1,r1,q1⟩=>B5 (hb pins s1 Y H1 _ I1 q1) fun u s2 ⟨y,H2,I2,r2,q2⟩=>
  B5 (ho pins s2 Y H2 x y v u _ I2 r1 r2 q2) fun c s3 ⟨z,H3,I3,r3,k,e,q3⟩=>?_) hm
 subst e
 cases r3
 exact wpAny_truthy_bool ⟨H3,I3,q3⟩
def oI(r r':R2)(ta tb tc:TE):TE:=fun Y H Q=>ta Y H fun x H1=>tb Y H1 fun y H2=>r x y H2 fun z H3=>∃ k,z=.bl k/\
 (if k=true then tc Y H3 fun w' H4=>r' y w' H4 Q else Q (.bl false) H3)
theorem ajA{op op':CmpOp}{r r':R2}(ho:F9 X (compareOp op) r)(i6:F9 X (compareOp op') r')(ha:PE X a ta)(hb:PE X b tb)(hc:PE X c tc)(hm:lastMarks [op,op'] [b,c]=false:=by with_unfolding_all rfl):PE X (.Compare a [op,op'] [b,c] pos) (oI r r' ta tb tc):=by
 intro pins s Y H Q I h;refine Compare_chain (B5 (ha pins s Y H _ I h) fun v s1 ⟨x,H1,I1,r1,q1⟩=>chain_link (B5 (hb pins s1 Y H1 _ I1 q1) fun u s2 ⟨y,H2,I2,r2,q2⟩=>
  B5 (ho pins s2 Y H2 x y v u _ I2 r1 r2 q2) fun d s3 ⟨z,H3,I3,r3,k,e,q3⟩=>?_)) hm
 subst e
 cases r3
 refine wpAny_truthy_bool ?_
 cases k with
 | false=>exact ite_ff ⟨.bl false,H3,I3,rfl,q3⟩
 | true=>exact ite_tt (chain_last (B5 (hc pins s3 Y H3 _ I3 q3) fun w' s4 ⟨z',H4,I4,r4,q4⟩=>i6 pins s4 Y H4 y z' u w' Q I4 r2 r4 q4))
def TruV(K:PySem.W.Frag)(x:V)(H:Hp)(k:Bool):Prop:=
 match x with
 | .non=>k=false
 | .bl b=>k=b
 | .int i=>k=(i != 0)
 | .str y=>y.length<=sizeLine/\k=((y.length:Int) != 0)
 | .byt y=>y.size<=sizeLine/\k=((y.size:Int) != 0)
 | .ref p=>(∃ xs,C9 K H p xs/\k=!xs.isEmpty)\/(∃ xs,C7 K H p xs/\k=!xs.isEmpty)\/∃ kvs,H p=some (.dK kvs)/\k=!kvs.isEmpty
 | _=>False
theorem ahs{κ:Type}{kvs:List (κ×V)}{vs:List (κ×Value)}(r:KV kvs vs):(!vs.isEmpty)=!kvs.isEmpty:=by
 cases r <;> rfl
theorem uT{xs:List V}{its:List Value}(r:Vals xs its):(!its.toArray.isEmpty)=!xs.isEmpty:=by
 cases r <;> simp
theorem gQ:(sizeLine:Nat)<2 ^ 63:=by rw [sizeLine_eq];decide
theorem am8:TruR X (fun x H Q=>∃ k,TruV X.K x H k/\Q k H):=by
 intro pins s Y H x v Q I rx h;obtain ⟨k,e,q⟩:=h;have hl:=gQ;have hs:sizeLine=16777216:=sizeLine_eq
 cases x with
 | non=>
  cases rx
  have e':k=false:=e;subst e';exact truthy_none ⟨H,I,q⟩
 | bl b=>
  cases rx
  have e':k=b:=e;subst e';exact wpAny_truthy_bool ⟨H,I,q⟩
 | int i=>
  obtain ⟨t,rfl⟩:=rx;have e':k=(i != 0):=e;subst e';exact PySem.P.truthy_int ⟨H,I,q⟩
 | str y=>
  obtain ⟨t,rfl⟩:=rx;obtain ⟨hy,e'⟩:y.length<=sizeLine/\k=((y.length:Int) != 0):=e;subst e';exact PySem.P.truthy_str (by lia) ⟨H,I.tok _,q⟩
 | byt y=>
  obtain ⟨t,rfl⟩:=rx;obtain ⟨hy,e'⟩:y.size<=sizeLine/\k=((y.size:Int) != 0):=e;subst e';exact PySem.W.truthy_bytes (by lia) ⟨H,I.tok _,q⟩
 | ref p=>
  cases rx
  have e':(∃ xs,C9 X.K H p xs/\k=!xs.isEmpty)\/(∃ xs,C7 X.K H p xs/\k=!xs.isEmpty)\/∃ kvs,H p=some (.dK kvs)/\k=!kvs.isEmpty:=e
  rcases e' with ⟨xs,hx,e'⟩ | ⟨xs,hx,e'⟩ | ⟨kvs,hx,e'⟩
  .subst e';obtain ⟨its,r,pl,hz⟩:=I.list hx;have A9:=r.length;exact wpAny_truthy_list pl.isList (by simp only [J9];lia) ⟨H,I.tok _,by rw [uT r];exact q⟩
  .subst e';obtain ⟨its,r,pl,hz⟩:=I.tuple hx;have A9:=r.length;exact truthy_tuple pl (by simp only [J9];lia) ⟨H,I.tok _,by rw [uT r];exact q⟩
  .subst e';obtain ⟨hz,hS,vs,r,m⟩:kvs.length<=sizeLine/\(p==sysModules)=false/\∃ vs,KV kvs vs/\s.heap.DictOf (M9 X.prog X.w) p vs:=I.hok p _ hx;have A9:kvs.length=vs.length:=Paired.length r;exact wpAny_truthy_dict hS m (by lia) ⟨H,I.tok _,by rw [ahs r];exact q⟩
 | _=>exact (show False from e).elim
theorem ajB(ha:PE X a ta)(he:∀ whole,isTrue a X.env whole=(do let v <- whole;standAt a.pos;holding [v] (truthy v))) :
  PT X a (fun Y H Q=>ta Y H fun x H'=>∃ k,TruV X.K x H' k/\Q k H'):=by
 intro pins s Y H Q I h;exact isTrue_plain (B5 (ha pins s Y H _ I h) fun v s1 ⟨x,H1,I1,r1,q1⟩=>am8 pins s1 Y H1 x v Q I1 r1 q1) (he _)
theorem aht:F9 X (binaryOp .Add) (fun x y H Q=>∃ i j,x=.str i/\y=.str j/\i.length+j.length<=sizeLine/\Q (.str (i++j)) H):=by
 intro pins s Y H x y v u Q I rx ry h;obtain ⟨i,j,rfl,rfl,hz,q⟩:=h;obtain ⟨t,rfl⟩:=rx;obtain ⟨t',rfl⟩:=ry;exact add_str (fun t' tk=>⟨.str (i++j),H,I.tok _,⟨_,rfl⟩,q⟩) hz
theorem vals1{x:V}{us:List Value}(r:Vals [x] us):∃ u,us=[u]/\RelV x u:=by
 cases r with
 | cons r1 r2=>cases r2;exact ⟨_,rfl,r1⟩
theorem vals2{x y:V}{us:List Value}(r:Vals [x,y] us):∃ u w',us=[u,w']/\RelV x u/\RelV y w':=by
 cases r with
 | cons r1 r2=>
  cases r2 with
  | cons r3 r4=>cases r4;exact ⟨_,_,rfl,r1,r3⟩
theorem aid:CallR X (.type "int") (fun xs H Q=>(∃ i,xs=[.int i]/\Q (.int i) H)\/∃ k,xs=[.bl k]/\Q (.int (if k then 1 else 0)) H):=by
 intro pins s Y H xs us Q I r h
 rcases h with ⟨i,rfl,q⟩ | ⟨k,rfl,q⟩
 .obtain ⟨u,rfl,t,rfl⟩:=vals1 r;exact call_int_int ⟨.int i,H,I,⟨_,rfl⟩,q⟩
 .obtain ⟨u,rfl,r1⟩:=vals1 r
  cases r1
  exact call_int_bool ⟨.int (if k then 1 else 0),H,I.tok _,⟨_,rfl⟩,q⟩
theorem ajC:CallR X (.builtin "ord") (fun xs H Q=>∃ x,xs=[.str x]/\x.length=1/\Q (.int (x.cps.getD 0 0:Nat)) H):=by
 intro pins s Y H xs us Q I r h;obtain ⟨x,rfl,hz,q⟩:=h;obtain ⟨u,rfl,t,rfl⟩:=vals1 r;exact ord_of_one hz ⟨.int _,H,I.tok _,⟨_,rfl⟩,q⟩
def LenV(K:PySem.W.Frag)(x:V)(H:Hp)(n:Nat):Prop:=
 match x with
 | .str y=>y.length<=sizeLine/\n=y.length
 | .byt y=>y.size<=sizeLine/\n=y.size
 | .ref p=>(∃ xs,C9 K H p xs/\n=xs.length)\/∃ xs,C7 K H p xs/\n=xs.length
 | _=>False
theorem oJ:CallR X (.builtin "len") (fun xs H Q=>∃ x n,xs=[x]/\LenV X.K x H n/\Q (.int n) H):=by
 intro pins s Y H xs us Q I r h;obtain ⟨x,n,rfl,e,q⟩:=h;obtain ⟨u,rfl,rx⟩:=vals1 r;have hl:=gQ;have hs:sizeLine=16777216:=sizeLine_eq
 cases x with
 | str y=>
  obtain ⟨t,rfl⟩:=rx;obtain ⟨hy,e'⟩:y.length<=sizeLine/\n=y.length:=e;subst e';exact len_str (by lia) ⟨.int _,H,I.tok _,⟨_,rfl⟩,q⟩
 | byt y=>
  obtain ⟨t,rfl⟩:=rx;obtain ⟨hy,e'⟩:y.size<=sizeLine/\n=y.size:=e;subst e';exact PySem.W.len_bytes (by lia) ⟨.int _,H,I.tok _,⟨_,rfl⟩,q⟩
 | ref p=>
  cases rx
  have e':(∃ xs,C9 X.K H p xs/\n=xs.length)\/∃ xs,C7 X.K H p xs/\n=xs.length:=e
  rcases e' with ⟨xs,hx,e'⟩ | ⟨xs,hx,e'⟩
  .subst e';obtain ⟨its,r',pl,hz⟩:=I.list hx;have A9:=r'.length;exact Calls.call_len_list pl.isList (by simp only [J9];lia) ⟨.int xs.length,H,I.tok _,⟨_,by simp only [J9];rw [A9]⟩,q⟩
  .subst e';obtain ⟨its,r',pl,hz⟩:=I.tuple hx;have A9:=r'.length;exact len_tuple pl (by simp only [J9];lia) ⟨.int xs.length,H,I.tok _,⟨_,by simp only [J9];rw [A9]⟩,q⟩
 | _=>exact (show False from e).elim
end
end L2
namespace L2
open PySem PySem.Spec PyProof.Rows
structure ObjM(h:Heap)(x dx C:Addr)(mA:Str->Option Value):Prop where
 obj:h.get? x=some (aJ C dx)
 ns:h.Ns1 dx mA
 ne:dx≠x
theorem aie{h:Heap}{dx:Addr}{mA:Str->Option Value}(n:h.Ns1 dx mA):∃ od,h.get? dx=some od/\∀ name,PySem.W.lookIn name od=some (mA name):=by
 obtain ⟨o,es,ep,ho,hd,hk,_,hm⟩:=n;refine ⟨o,ho,fun name=>?_⟩;have e:=hm name;unfold nsFind findBy at e;rw [<- Array.find?_toList] at e;unfold PySem.W.lookIn;rw [hd]
 dsimp only
 split
 .rename_i y q
  rw [q] at e;exact congrArg some e
 .rename_i q
  rw [q] at e;have a:es.toList.any (·.refKey)=false:=by
   rw [List.any_eq_false];intro y hy;obtain ⟨z,t,Y5⟩:=hk y (Array.mem_toList_iff.mp hy);simp [DictEntry.refKey,Y5]
  have a':¬ es.toList.any (·.refKey)=true:=by rw [a];exact K3
  rw [if_neg a'];exact congrArg some e
theorem ObjM.look{h:Heap}{x dx C:Addr}{mA:Str->Option Value}(I:ObjM h x dx C mA):∃ od,PySem.W.InstAt h x (aJ C dx) C (some od)/\∀ name,PySem.W.lookIn name od=some (mA name):=
 let ⟨od,ho,hl⟩:=aie I.ns
 ⟨od,⟨I.obj,rfl,rfl,ho⟩,hl⟩
section
variable {prog:Program} {w:World} {A:Around} {E:Value->Shared->Prop} {s:Shared} {K:PySem.W.Frag} {x dx C f:Addr} {mA:Str->Option Value} {name:Str} {v:Value}
theorem alo{expr:Bool}{Q:Value->Shared->Prop}(X:K.In s.heap)(I:ObjM s.heap x dx C mA)(hg:gL K C name=true)(hh:PySem.W.hasDictIn K C=true)(ha:O6 K (.ref C) name=some none)(hv:mA name=some v)(nC:PySem.W.handedIn v=true)(h:Q v { s with toks:=s.toks+1 }) :
  wpAny (model prog w) A (getAttr (.ref x) name expr) Q E s:=by
 obtain ⟨od,J,hl⟩:=I.look;exact PySem.W.get_value X J (PySem.W.plainGet_of hg).1 (PySem.W.findObj_own hh ha rfl (by rw [hl,hv])) nC h
theorem ajD{pl:Sem Bool}{Q:Value×List Value->Shared->Prop}(X:K.In s.heap)(I:ObjM s.heap x dx C mA)(hg:gL K C name=true)(hf:O6 K (.ref C) name=some (some (.ref f)))(ht:t6 K (.ref f)=true)(hv:mA name=none)(h:Q (.ref f,[.ref x]) s) :
  wpAny (model prog w) A (getMethod (.ref x) name pl) Q E s:=by
 obtain ⟨od,J,hl⟩:=I.look;exact PySem.W.method_fn X J (PySem.W.plainGet_of hg).1 (PySem.W.plainGet_of hg).2 hf (beq_iff_eq.mp ht) (by show (PySem.W.lookIn name od).map (·.isSome)=some false;rw [hl,hv];rfl) h
theorem alp{ns:List Str}{Q:Unit->Shared->Prop}(X:K.In s.heap)(I:ObjM s.heap x dx C mA)(hs:O6 K (.ref C) "__setattr__"=some (some (.builtin "object.__setattr__")))(hp:PySem.W.plainOver K C=true)(ht:PySem.W.takerIn K C name=some none)(hh:PySem.W.hasDictIn K C=true)(hw:PySem.Within mA ns)(hsz:ns.length<=sizeLine)(h:∀ h',ObjM h' x dx C (fun y=>if y=name then some v else mA y)->Heap.SameBut dx s.heap h'->Q () { s with heap:=h',toks:=s.toks+2 }) :
  wpAny (model prog w) A (setAttr (.ref x) name v) Q E s:=by
 obtain ⟨od,J,hl⟩:=I.look;refine PySem.W.set_plain X J hs (PySem.W.osa_open (s:={ s with toks:=s.toks+1 }) (r:=none) X J hp ht fun b=>?_);obtain ⟨cd,hc,sA⟩:=PySem.W.any_some hh;have hx:s.heap.get? x=some ⟨.ref C,some dx,.plain,#[]⟩:=I.obj;refine wpAny_bind (wpAny_pure (wpAny_bind (wpAny_bind (wpAny_loadPart hx (wpAny_bind (PySem.W.Looks.here (s:={ s with toks:=s.toks+1 }) (PySem.W.looks_clsIn X hc) ?_))))));rw [sA];refine wpAny_pure (a:=some dx) (wpAny_bind (wpAny_pure (wpAny_bind ?_)));refine wpAny_nsSet1 (s:={ s with toks:=s.toks+1 }) I.ns fun h' nE fI=>?_
 obtain ⟨oD,esD,epD,hoD,hdD,hcD⟩:=nE.count (PySem.Within.cons name v hw);refine wpAny_bind (wpAny_lookBehind hoD (by rw [hdD];exact pastItsLine_dict (M6 hcD (by rw [J7];lia))) ?_);exact wpAny_pure (h _ ⟨(fI.2 _ (Ne.symm I.ne)).trans I.obj,nE,I.ne⟩ fI)
theorem ajE{R:Result->Shared->Prop}{vs:List Value}{kw:List (Str×Value)}(X:K.In s.heap)(hm:PySem.W.makesIn K C=true)(hi:O6 K (.ref C) "__init__"=some (some (.ref f)))(hf:PySem.W.typeIn K (.ref f)=some (.type "function"))(h:codeAny (model prog w) (A.under (.builtin "type.__call__" ⟨.ref C::vs,kw⟩)) (.call (.ref f) ⟨.ref (s.heap.objs.size+1)::vs,kw⟩) (PySem.W.InitBack (s.heap.objs.size+1) R)
   { s with heap:=(s.heap.push r8).push (aJ C s.heap.objs.size) }) :
  codeAny (model prog w) A (.call (.ref C) ⟨vs,kw⟩) R s:=by
 obtain ⟨hh,g,d,t,os⟩:=s;exact PySem.W.make_core (PySem.W.makes_of X hm) (PySem.W.looks_findIn X hi) (fun self=>PySem.W.bind_fn X self hf) (.inl rfl) h
end
def putF(f:Str)(v:V):List (Str×V)->List (Str×V)
 | []=>[(f,v)]
 | (g,x)::r=>if g=f then (g,v)::r else (g,x)::putF f v r
theorem K4(f g:Str)(v:V):∀ fs:List (Str×V),(putF f v fs).lookup g=if g=f then some v else fs.lookup g
 | []=>by
  show aH g [(f,v)]=_
  by_cases h:g=f
  .have hb:(g==f)=true:=beq_iff_eq.mpr h;simp only [aH,hb,if_pos h]
  .have hb:(g==f)=false:=beq_eq_false_iff_ne.mpr h;simp only [aH,hb,if_neg h]
 | (k,x)::r=>by
  have ih:=K4 f g v r;rw [show putF f v ((k,x)::r)=(if k=f then (k,v)::r else (k,x)::putF f v r) from rfl]
  by_cases hk:k=f
  .rw [if_pos hk]
   by_cases h:g=k
   .have hb:(g==k)=true:=beq_iff_eq.mpr h;simp only [aH,hb,if_pos (h.trans hk)]
   .have hb:(g==k)=false:=beq_eq_false_iff_ne.mpr h;simp only [aH,hb,if_neg (fun e:g=f=>h (e.trans hk.symm))]
  .rw [if_neg hk]
   by_cases h:g=k
   .have hb:(g==k)=true:=beq_iff_eq.mpr h;simp only [aH,hb,if_neg (fun e:g=f=>hk (h.symm.trans e))]
   .have hb:(g==k)=false:=beq_eq_false_iff_ne.mpr h;simp only [aH,hb];exact ih
theorem oK(f:Str)(v:V):∀ fs:List (Str×V),f∈(putF f v fs).map (·.1)/\∀ g,g∈fs.map (·.1)->g∈(putF f v fs).map (·.1)
 | []=>⟨by simp [putF],fun g h=>by simp at h⟩
 | (k,x)::r=>by
  obtain ⟨i1,i2⟩:=oK f v r;rw [show putF f v ((k,x)::r)=(if k=f then (k,v)::r else (k,x)::putF f v r) from rfl]
  by_cases hk:k=f
  .rw [if_pos hk];subst hk;exact ⟨by simp,fun g h=>by simpa using h⟩
  .rw [if_neg hk];refine ⟨?_,fun g h=>?_⟩
   .rw [E8];exact N7 _ i1
   .rw [E8] at h ⊢
    rcases E7.mp h with e | e
    .exact E7.mpr (.inl e)
    .exact N7 _ (i2 g e)
theorem oM(f:Str)(v:V):∀ fs:List (Str×V),(putF f v fs).length<=fs.length+1
 | []=>by simp [putF]
 | (k,x)::r=>by
  have ih:=oM f v r;rw [show putF f v ((k,x)::r)=(if k=f then (k,v)::r else (k,x)::putF f v r) from rfl]
  by_cases hk:k=f
  .rw [if_pos hk,J7,J7];lia
  .rw [if_neg hk,J7,J7];lia
theorem kZ{v:V}{o:Option Value}(r:RelO (some v) o):∃ u,o=some u/\RelV v u:=by
 cases o with
 | none=>exact (show False from r).elim
 | some u=>exact ⟨u,rfl,r⟩
theorem RelO.none_of{o:Option Value}(r:RelO none o):o=none:=by
 cases o with
 | none=>rfl
 | some u=>exact (show False from r).elim
theorem aif{v:V}{u:Value}(r:RelV v u):PySem.W.handedIn u=true:=by
 cases v with
 | non=>cases (show u=Value.none from r);rfl
 | bl b=>cases (show u=Value.bool b from r);rfl
 | int i=>obtain ⟨t,e⟩:=(show ∃ t,u=Value.int i t from r);cases e;rfl
 | str x=>obtain ⟨t,e⟩:=(show ∃ t,u=Value.str x t from r);cases e;rfl
 | byt b=>obtain ⟨t,e⟩:=(show ∃ t,u=Value.bytes b t from r);cases e;rfl
 | flt b=>obtain ⟨t,e⟩:=(show ∃ t,u=Value.float b t from r);cases e;rfl
 | ref a=>cases (show u=Value.ref a from r);rfl
 | ty n=>cases (show u=Value.type n from r);rfl
section
variable {P:Program} {w:World} {H H':Hp} {h h':Heap} {a C dx:Addr} {fs fs':List (Str×V)}
theorem oN(hok:L8 P w H h)(e:H a=some (.ins C dx fs)):∃ mA,ObjM h a dx C mA/\(∀ f,RelO (fs.lookup f) (mA f))/\PySem.Within mA (fs.map (·.1))/\fs.length<=1000/\H dx=some (.own a):=by
 obtain ⟨d,z,ne,ob,mA,n,r,q⟩:=(show ObjOk P w H h a (.ins C dx fs) from hok a _ e)
 exact ⟨mA,⟨ob,n,ne⟩,r,q,z,d⟩
end
structure Cls(K:PySem.W.Frag)(C:Addr):Prop where
 pg:gL K C Str.empty=true
 hd:PySem.W.hasDictIn K C=true
 po:PySem.W.plainOver K C=true
 sa:O6 K (.ref C) "__setattr__"=some (some (.builtin "object.__setattr__"))
theorem Cls.get{K:PySem.W.Frag}{C:Addr}(c:Cls K C)(f:Str):gL K C f=true:=c.pg
def NoAttr(K:PySem.W.Frag)(C:Addr)(f:Str):Prop:=O6 K (.ref C) f=some none
theorem NoAttr.taker{K:PySem.W.Frag}{C:Addr}{f:Str}(n:NoAttr K C f):PySem.W.takerIn K C f=some none:=by
 unfold PySem.W.takerIn;rw [show O6 K (.ref C) f=some none from n];rfl
structure Meth(K:PySem.W.Frag)(C:Addr)(m:Str)(f:Addr):Prop where
 at_:O6 K (.ref C) m=some (some (.ref f))
 fn:t6 K (.ref f)=true
 kp:R6 K (.ref f)=true
section
variable {X:Cx} {pins:List (Addr×Obj)} {Y:St} {H:Hp} {s:Shared} {a C dx:Addr} {fs:List (Str×V)} {f:Str} {v:V} {A:Around} {E:Value->Shared->Prop}
theorem ahu{b:Bool}{Q:Value->Shared->Prop}(I:Inv X pins Y H s)(e:H a=some (.ins C dx fs))(c:Cls X.K C)(n:NoAttr X.K C f)(l:fs.lookup f=some v)(h:∀ u s',Inv X pins Y H s'->RelV v u->Q u s'):wpAny (model X.prog X.w) A (getAttr (.ref a) f b) Q E s:=by
 obtain ⟨mA,O,r,_,_,_⟩:=oN I.hok e;obtain ⟨u,hu,ru⟩:=kZ (v:=v) (o:=mA f) (by rw [<- l];exact r f);exact alo I.kIn O (c.get f) c.hd n hu (aif ru) (h u _ (I.tok _) ru)
theorem uU{m:Str}{g:Addr}{pl:Sem Bool}{Q:Value×List Value->Shared->Prop}(I:Inv X pins Y H s)(e:H a=some (.ins C dx fs))(c:Cls X.K C)(k:Meth X.K C m g)(l:fs.lookup m=none)(h:Q (.ref g,[.ref a]) s):wpAny (model X.prog X.w) A (getMethod (.ref a) m pl) Q E s:=by
 obtain ⟨mA,O,r,_,_,_⟩:=oN I.hok e;have hn:mA m=none:=RelO.none_of (by rw [<- l];exact r m);exact ajD I.kIn O (c.get m) k.at_ k.fn hn h
theorem ahv{y:V}{u:Value}{Q:Unit->Shared->Prop}(I:Inv X pins Y H s)(e:H a=some (.ins C dx fs))(c:Cls X.K C)(n:NoAttr X.K C f)(hl:fs.length<1000)(ry:RelV y u)(h:∀ s',Inv X pins Y (A0 H a (.ins C dx (putF f y fs))) s'->Q () s'):wpAny (model X.prog X.w) A (setAttr (.ref a) f u) Q E s:=by
 obtain ⟨mA,O,r,wi,_,ho⟩:=oN I.hok e;have hz:(fs.map (·.1)).length<=sizeLine:=by rw [A8,sizeLine_eq];lia
 refine alp I.kIn O c.sa c.po n.taker c.hd wi hz fun h' O' sb=>h _ ?_
 have hd:∃ o,h'.get? dx=some o:=let ⟨o,_,_,e',_⟩:=O'.ns;⟨o,e'⟩
 refine I.write (x:=a) (e:=dx) (by rw [e];exact True.intro) (.inr ho) (fun b q hb z=>(sb.2 b hb).trans z) hd ?_;refine ⟨by rw [B3 O.ne];exact ho,?_,O.ne,O'.obj,_,O'.ns,fun g=>?_,fun g hg=>?_⟩
 .have:=oM f y fs;lia
 .show RelO ((putF f y fs).lookup g) (if g=f then some u else mA g);rw [K4]
  by_cases q:g=f
  .rw [if_pos q,if_pos q];exact ry
  .rw [if_neg q,if_neg q];exact r g
 .by_cases q:g=f
  .rw [q];exact (oK f y fs).1
  .refine (oK f y fs).2 g (wi g fun z=>hg ?_);show (if g=f then some u else mA g)=none;rw [if_neg q];exact z
theorem Inv.made(I:Inv X pins Y H s):Inv X pins Y (A0 (A0 H s.heap.objs.size (.own (s.heap.objs.size+1))) (s.heap.objs.size+1) (.ins C s.heap.objs.size []))
  { s with heap:=(s.heap.push r8).push (aJ C s.heap.objs.size) }:=by
 have e1:(s.heap.push r8).get? s.heap.objs.size=some r8:=Heap.get?_push_size s.heap rfl;have e2:((s.heap.push r8).push (aJ C s.heap.objs.size)).get? (s.heap.objs.size+1)=some (aJ C s.heap.objs.size):=by
  have:=Heap.get?_push_size (s.heap.push r8) (o:=aJ C s.heap.objs.size) rfl
  rwa [Heap.size_push] at this
 have e3:(s.heap.push r8).Ns s.heap.objs.size (fun _=>none):=⟨r8,#[],_,e1,rfl,(fun e he=>absurd he (by simp)),fun _=>rfl⟩
 have I1:=I.laid (a:=s.heap.objs.size) (o:=.own (s.heap.objs.size+1)) (h':=s.heap.push r8) (t':=s.toks) (fun b u q=>Heap.get?_push_of_some _ q) (C4 _) ⟨_,e1⟩;refine I1.laid (a:=s.heap.objs.size+1) (o:=.ins C s.heap.objs.size []) (t':=s.toks) (fun b u q=>Heap.get?_push_of_some _ q) (Nat.le_of_eq (Heap.size_push _ _)) ?_;have ne:s.heap.objs.size≠s.heap.objs.size+1:=M8 (Nat.lt_succ_self _);refine ⟨by rw [B3 ne,A4],J5 _,ne,e2,fun _=>none,(Heap.Ns1.of_empty e3).at fun o q=>Heap.get?_push_of_some _ q,fun _=>True.intro,fun y hy=>absurd rfl hy⟩
theorem alq{prog:Program}{w:World}{env:Env}{e:Expr}{f:Str}{pos:Pos}{s:Shared}{Q:Value->Shared->Prop}(hb:attributeBase e f env (eval e env)=eval e env)(h:wpAny (model prog w) A (eval e env) (fun o zu=>wpAny (model prog w) A (getAttr o f true) Q E zu) E s):wpAny (model prog w) A (eval (.Attribute e f pos) env) Q E s:=
 Attribute_any_ h (by rw [arm_eval_Attribute,hb])
end
def tFld(K:PySem.W.Frag)(ta:TE)(f:Str):TE:=fun Y H Q=>ta Y H fun x H1=>∃ a C dx fs v,x=.ref a/\H1 a=some (.ins C dx fs)/\Cls K C/\NoAttr K C f/\fs.lookup f=some v/\Q v H1
def sFld(K:PySem.W.Frag)(ta tv:TE)(f:Str):TS:=fun D Y H=>tv Y H fun y H1=>ta Y H1 fun x H2=>∃ a C dx fs,x=.ref a/\H2 a=some (.ins C dx fs)/\Cls K C/\NoAttr K C f/\fs.length<1000/\
 D.nx Y (A0 H2 a (.ins C dx (putF f y fs)))
def InOp(X:Cx)(op:Operator)(rd:V->V->Hp->VK->Prop):Prop:=
 ∀ (pins:List (Addr×Obj)) (s:Shared) (Y:St) (H:Hp) (x y:V) (u v:Value) (Q:VK),Inv X pins Y H s->RelV x u->RelV y v->rd x y H Q->wpAny (model X.prog X.w) X.A (inplaceOp op u v) (EP X pins Y Q) X.xe s
section
variable {X:Cx} {o e value:Expr} {f:Str} {pos pos' tpos:Pos} {ta tv:TE}
theorem am9(he:PE X e ta)(hb:attributeBase e f X.env (eval e X.env)=eval e X.env):PE X (.Attribute e f pos) (tFld X.K ta f):=by
 intro pins s Y H Q I h;refine alq hb (B5 (he pins s Y H _ I h) fun u s1 ⟨x,H1,I1,rx,a,C,dx,fs,v,ex,ea,c,n,l,q⟩=>?_);subst ex;obtain rfl:u=Value.ref a:=rx;exact ahu I1 ea c n l fun u' s2 I2 ru=>⟨v,H1,I2,ru,q⟩
theorem ana(ha:PE X o ta)(hv:PE X value tv)(hs:swapsWith value (some (.Attribute o f pos')) pos.line X.env=pure false):PS X (.Assign [.Attribute o f pos'] value pos) (sFld X.K ta tv f):=by
 intro pins s Y H D I h;refine plainObj_wpAny_Assign_Attribute (B5 (hv pins s Y H _ I h) fun u s1 ⟨y,H1,I1,ry,q⟩=>B5 (ha pins s1 Y H1 _ I1 q) fun ov s2 ⟨x,H2,I2,rx,a,C,dx,fs,ex,ea,c,n,l,q2⟩=>?_) hs;subst ex;obtain rfl:ov=Value.ref a:=rx;exact ahv I2 ea c n l ry fun s3 I3=>⟨Y,_,I3,q2⟩
def rAdd:V->V->Hp->VK->Prop:=fun x y H Q=>∃ i j,x=.int i/\y=.int j/\Q (.int (i+j)) H
def rSub:V->V->Hp->VK->Prop:=fun x y H Q=>∃ i j,x=.int i/\y=.int j/\Q (.int (i-j)) H
theorem anb:InOp X .Add rAdd:=by
 rintro pins s Y H x y u v Q I rx ry ⟨i,j,rfl,rfl,q⟩;obtain ⟨t,rfl⟩:=(show ∃ t,u=Value.int i t from rx)
 obtain ⟨t',rfl⟩:=(show ∃ t',v=Value.int j t' from ry)
 exact PyProof.Rows.iadd_int ⟨.int (i+j),H,I.tok _,⟨_,rfl⟩,q⟩
theorem anc:InOp X .Sub rSub:=by
 rintro pins s Y H x y u v Q I rx ry ⟨i,j,rfl,rfl,q⟩;obtain ⟨t,rfl⟩:=(show ∃ t,u=Value.int i t from rx)
 obtain ⟨t',rfl⟩:=(show ∃ t',v=Value.int j t' from ry)
 exact PyProof.Rows.isub_int ⟨.int (i-j),H,I.tok _,⟨_,rfl⟩,q⟩
end
section
variable {X:Cx} {pins:List (Addr×Obj)} {Y:St} {H:Hp} {s:Shared} {A:Around} {E:Value->Shared->Prop} {Q:Value->Shared->Prop} {c:Value} {b:Bool}
end
end L2
namespace L2
open PySem PySem.Spec PyProof.Rows
structure Room(k:Nat)(A:Around):Prop where
 hd:A.handled=none
 dp:A.depth+3*k+5<recursionLimit
 un:A.units+16*k+200<cLine
 gd:A.guards=some []
theorem Room.mono{j k:Nat}{A:Around}(r:Room k A)(h:j<=k):Room j A:=⟨r.hd,by have:=r.dp;lia,by have:=r.un;lia,r.gd⟩
theorem Room.deeper{k:Nat}{A:Around}(r:Room (k+1) A)(env:Env):Room k (A.deeper env):=
 ⟨r.hd,by have:=r.dp;show A.depth+1+3*k+5<_;lia,by have:=r.un;show A.units+3+16*k+200<_;lia,r.gd⟩
theorem ahw{A:Around}{C:Addr}{us:List Value}{kw:List (Str×Value)} : (A.under (.builtin "type.__call__" ⟨.ref C::us,kw⟩)).depth=A.depth+1:=by
 first | rfl | simp [Around.under,Code.weight,Code.isCreation,Code.isGuard,Code.isCaller,Code.frames,Code.isFrame,guardIds]
theorem ahx{A:Around}{C:Addr}{us:List Value}{kw:List (Str×Value)} : (A.under (.builtin "type.__call__" ⟨.ref C::us,kw⟩)).units=A.units+1:=by
 first | rfl | simp [Around.under,Code.cUnits,Code.frames,Code.isFrame]
theorem Room.make{k:Nat}{A:Around}(r:Room (k+1) A)(C:Addr)(us:List Value)(kw:List (Str×Value)):Room k (A.under (.builtin "type.__call__" ⟨.ref C::us,kw⟩)):=
 ⟨r.hd,by have:=r.dp;rw [ahw];lia,by have:=r.un;rw [ahx];lia,r.gd⟩
theorem Room.depth{k:Nat}{A:Around}(r:Room k A):A.depth<recursionLimit:=by have:=r.dp;lia
theorem Room.units{k:Nat}{A:Around}(r:Room k A):A.units+64<cLine:=by have:=r.un;lia
def tNil:TA:=fun _ H Q=>Q [] H
def tCons(ta:TE)(tr:TA):TA:=fun Y H Q=>ta Y H fun x H1=>tr Y H1 fun xs H2=>Q (x::xs) H2
section
variable {X:Cx} {e:Expr} {es:List Expr} {te:TE} {t:TA} {pos:Pos}
theorem ane:PA X [] tNil:=fun _ _ _ _ H Q I h=>Calls.spliced_nil ⟨[],H,I,.nil,h⟩
theorem alr(ha:PE X e te)(hr:PA X es t)(hs:starEach (e::es) X.env=(false,eval e X.env)::starEach es X.env:=by rfl):PA X (e::es) (tCons te t):=by
 intro pos pins s Y H Q I h;rw [hs];show wpAny _ _ (spliced ((false,eval e X.env)::backTo pos (starEach es X.env))) _ _ s;refine Calls.spliced_cons (B5 (ha pins s Y H _ I h) fun u s1 ⟨x,H1,I1,r1,q1⟩=>?_);exact B5 (hr pos pins s1 Y H1 _ I1 q1) fun us s2 ⟨xs,H2,I2,r2,q2⟩=>⟨x::xs,H2,I2,.cons r1 r2,q2⟩
def tTup(t:TA):TE:=fun Y H Q=>t Y H fun xs H1=>xs.length<=sizeLine/\∀ p,H1 p=none->Q (.ref p) (A0 H1 p (.tup xs))
def tLst(t:TA):TE:=fun Y H Q=>t Y H fun xs H1=>xs.length<=sizeLine/\∀ p,H1 p=none->Q (.ref p) (A0 H1 p (.lst xs))
theorem anf{x1}(h:PA X es t):PE X (.Tuple es x1 pos) (tTup t):=by
 intro pins s Y H Q I hq;refine wpAny_Tuple_spliced (B5 (h pos pins s Y H _ I hq) fun us s1 ⟨xs,H1,I1,r,z,q⟩=>⟨by rw [<- r.length];exact z,?_⟩);have hf:H1 s1.heap.objs.size=none:=I1.hok.fresh (C4 _);refine ⟨.ref s1.heap.objs.size,A0 H1 s1.heap.objs.size (.tup xs),I1.laid (t':=s1.toks) (fun b u e=>Heap.get?_push_of_some _ e) (C4 _) ?_,rfl,q _ hf⟩;exact ⟨z,us,r,⟨_,Heap.get?_push_size _ rfl,rfl,_,rfl⟩⟩
theorem ang(h:PA X es t):PE X (.List es pos) (tLst t):=by
 intro pins s Y H Q I hq;refine wpAny_List_spliced (B5 (h pos pins s Y H _ I hq) fun us s1 ⟨xs,H1,I1,r,z,q⟩=>⟨by rw [<- r.length];exact z,?_⟩);have hf:H1 s1.heap.objs.size=none:=I1.hok.fresh (C4 _);refine ⟨.ref s1.heap.objs.size,A0 H1 s1.heap.objs.size (.lst xs),I1.laid (t':=s1.toks) (fun b u e=>Heap.get?_push_of_some _ e) (C4 _) ?_,rfl,q _ hf⟩;exact ⟨z,us,0,r,Heap.get?_push_size _ rfl⟩
end
abbrev Sp:=List V->Hp->VK->XK->Prop
abbrev Y1:=List Env->Hp->Shared->XK->Value->Shared->Prop
structure Env0(P:Program)(w:World)(K:PySem.W.Frag)(mg:Str->Option Value)(base:Heap)(A:Around)(outer:List Env)(s:Shared)(H:Hp):Prop where
 frames:A.frames=some outer
 mod:Mod K mg base
 bs:∀ b o,base.get? b=some o->s.heap.get? b=some o/\H b=none
 bsz:base.objs.size<=s.heap.objs.size
 funs:s.heap.FunFrames base outer
 frf:∀ b∈g3 outer,H b=none
 hok:L8 P w H s.heap
 bare:AllBare s.gens
def CE(outer:List Env)(P:Program)(w:World)(H:Hp)(s:Shared)(Q:VK)(u:Value)(s':Shared):Prop:=
 ∃ v H',s'.os=s.os/\AllBare s'.gens/\Un (g3 outer) [] H H' s.heap s'.heap/\L8 P w H' s'.heap/\RelV v u/\Q v H'
def CR(CX:Y1)(outer:List Env)(P:Program)(w:World)(H:Hp)(s:Shared)(Q:VK)(E:XK)(r:Result)(s':Shared):Prop:=
 match r with
 | .ok (.ret u)=>CE outer P w H s Q u s'
 | .ok _=>False
 | .error e=>CX outer H s E e s'
structure FnOk(P:Program)(w:World)(K:PySem.W.Frag)(mg:Str->Option Value)(base:Heap)(CX:Y1)(k:Nat)(f:Addr)(fd:FuncData)(ps:List Str)(sp:Sp):Prop where
 len:∀ vs H Q E,sp vs H Q E->vs.length=ps.length
 run:∀ (A:Around) (outer:List Env) (s:Shared) (H:Hp) (args:Args) (us:List Value) (vs:List V) (Q:VK) (E:XK),Room k A->Env0 P w K mg base A outer s H->BindsTo s fd args (ps.zip us)->Vals vs us->sp vs H Q E->
  codeAny (model P w) A (.call (.ref f) args) (CR CX outer P w H s Q E) s
theorem Env0.make{P:Program}{w:World}{K:PySem.W.Frag}{mg:Str->Option Value}{base:Heap}{A:Around}{outer:List Env}{s:Shared}{H:Hp}(e:Env0 P w K mg base A outer s H)(C:Addr)(us:List Value)(kw:List (Str×Value)) :
  Env0 P w K mg base (A.under (.builtin "type.__call__" ⟨.ref C::us,kw⟩)) outer s H:=⟨by first | exact e.frames | (simpa [Around.under,Code.envs,Code.isFrame,pushEnvs] using e.frames),e.mod,e.bs,e.bsz,e.funs,e.frf,e.hok,e.bare⟩
section
variable {X:Cx} {pins:List (Addr×Obj)} {Y:St} {H:Hp} {s s':Shared}
theorem Inv.env0(I:Inv X pins Y H s):Env0 X.prog X.w X.K X.mg X.base X.A X.stack s H:=
 ⟨I.ok.frames,I.ok.mod,I.bs,M6 I.ok.bsz I.sz,I.stack,I.stkFree,I.hok,I.bare⟩
theorem Inv.after{Q:VK}{u:Value}(I:Inv X pins Y H s)(h:CE X.stack X.prog X.w H s Q u s'):EP X pins Y Q u s':=by
 obtain ⟨v,H',os,bare,un,hok,r,q⟩:=h;obtain ⟨hh,g,d,t,os'⟩:=s';obtain rfl:os'=s.os:=os;exact ⟨v,H',I.call (h':=hh) (g':=g) (d':=d) (t':=t) (ch:=[]) un hok bare (fun b z=>absurd z (by simp)),r,q⟩
end
def tCall(sp:Sp)(dvs:List V)(E:XK)(t:TA):TE:=fun Y H Q=>t Y H fun vs H1=>sp (vs++dvs) H1 Q E
def tMeth(C:Addr)(m:Str)(sp:Sp)(dvs:List V)(E:XK)(ta:TE)(t:TA):TE:=fun Y H Q=>ta Y H fun x H1=>∃ a dx fs,x=.ref a/\H1 a=some (.ins C dx fs)/\fs.lookup m=none/\
 t Y H1 fun vs H2=>sp (x::(vs++dvs)) H2 Q E
def tMake(C:Addr)(sp:Sp)(dvs:List V)(E:XK)(t:TA):TE:=fun Y H Q=>t Y H fun vs H1=>∀ x dx,H1 x=none->H1 dx=none->dx≠x->
 sp (.ref x::(vs++dvs)) (A0 (A0 H1 dx (.own x)) x (.ins C dx [])) (fun v H2=>v=.non/\Q (.ref x) H2) E
def Binds(K:PySem.W.Frag)(fd:FuncData)(ps:List Str)(ds:List Value):Prop:=
 ∀ (s:Shared) (us:List Value),K.In s.heap->(us++ds).length=ps.length->BindsTo s fd ⟨us,[]⟩ (ps.zip (us++ds))
theorem Binds.all{K:PySem.W.Frag}{fd:FuncData}{ps:List Str}(h:∀ us:List Value,us.length=ps.length->bindArgs fd ⟨us,[]⟩=pure (ps.zip us)):Binds K fd ps []:=fun s us _ hl=>by
 rw [L3] at hl ⊢
 exact .of_eq (h us hl)
def bW(CX:Y1)(X:Cx)(E:XK):Prop:=∀ (pins:List (Addr×Obj)) (Y:St) (H:Hp) (s:Shared) (e:Value) (s':Shared),Inv X pins Y H s->CX X.stack H s E e s'->X.xe e s'
section
variable {X:Cx} {CX:Y1} {k:Nat} {f C:Addr} {fd:FuncData} {ps:List Str} {sp:Sp} {dvs:List V} {ds:List Value} {E:XK} {x m:Str} {p pos apos:Pos} {e o:Expr} {es:List Expr} {ta:TE} {t:TA}
theorem oO{pins:List (Addr×Obj)}{Y:St}{H:Hp}{s:Shared}{Q:VK}{us:List Value}{vs:List V}(F:FnOk X.prog X.w X.K X.mg X.base CX k f fd ps sp)(hr:Room k X.A)(hb:Binds X.K fd ps ds)(hd:Vals dvs ds)(hx:bW CX X E)(I:Inv X pins Y H s)(r:Vals vs us)(h:sp (vs++dvs) H Q E):wpAny (model X.prog X.w) X.A (call (.ref f) us) (EP X pins Y Q) X.xe s:=by
 have r2:Vals (vs++dvs) (us++ds):=r.append hd;have hl:(us++ds).length=ps.length:=by rw [<- r2.length];exact F.len _ _ _ _ h
 refine wpAny_call (codeAny_mono (F.run X.A X.stack s H ⟨us,[]⟩ (us++ds) (vs++dvs) Q E hr I.env0 (hb s us I.kIn hl) r2 h) fun r s' hq=>?_)
 cases r with
 | error e=>exact hx pins Y H s e s' I hq
 | ok fl=>
  cases fl with
  | ret u=>exact I.after hq
  | next=>exact False.elim hq
  | brk=>exact False.elim hq
  | cont=>exact False.elim hq
theorem als(F:FnOk X.prog X.w X.K X.mg X.base CX k f fd ps sp)(hr:Room k X.A)(hg:Gl X x)(hm:X.mg x=some (.ref f))(hk:R6 X.K (.ref f)=true)(hb:Binds X.K fd ps ds)(hd:Vals dvs ds)(hx:bW CX X E)(ha:PA X (e::es) t)(P5:(x==("__debug__" : Str))=false:=by decide)(he:starEach (e::es) X.env=(false,eval e X.env)::starEach es X.env:=by rfl)(X2:(backTo pos (starEach es X.env)).any (·.1)=false:=by rfl) :
  PE X (.Call (.Name x p) (e::es) [] pos) (tCall sp dvs E t):=by
 intro pins s Y H Q I h;refine wpAny_Call_Name_kw (oA I hg hm ?_ P5);refine PySem.W.callWith_K (h₀:=X.base) I.ok.mod.kin hk (B5 (ha pos pins s Y H _ I h) fun us s1 ⟨vs,H1,I1,r,q⟩=>⟨I1.kIn,?_⟩) he X2;exact oO F hr hb hd hx I1 r q
theorem alt{pl:Sem Bool}(he:PE X o ta)(c:Cls X.K C)(hm:Meth X.K C m f)(F:FnOk X.prog X.w X.K X.mg X.base CX k f fd ps sp)(hr:Room k X.A)(hb:Binds X.K fd ps ds)(hd:Vals dvs ds)(hx:bW CX X E)(ha:PA X (e::es) t)(V9:starEach (e::es) X.env=(false,eval e X.env)::starEach es X.env:=by rfl)(X2:(backTo pos (starEach es X.env)).any (·.1)=false:=by rfl)(ht:eval (.Call (.Attribute o m apos) (e::es) [] pos) X.env=(do
   let ov <- eval o X.env
   standAt apos.atName
   let (f,first) <- holding [ov] (getMethod ov m pl)
   callWith pos f first (backTo pos (starEach (e::es) X.env)) (backToKw pos (keywordEach [] X.env))):=by rfl) :
  PE X (.Call (.Attribute o m apos) (e::es) [] pos) (tMeth C m sp dvs E ta t):=by
 intro pins s Y H Q I h;refine PySem.W.methodCall_KW (pl:=pl) (B5 (he pins s Y H _ I h) fun u s1 ⟨x,H1,I1,rx,a,dx,fs,ex,ea,l,q⟩=>?_) ht;subst ex;obtain rfl:u=Value.ref a:=rx;refine uU I1 ea c hm l ?_;refine PySem.W.callWith_K (first:=[.ref a]) (h₀:=X.base) I.ok.mod.kin hm.kp (B5 (ha pos pins s1 Y H1 _ I1 q) fun us s2 ⟨vs,H2,I2,r,q2⟩=>⟨I2.kIn,?_⟩) V9 X2;exact oO (us:=.ref a::us) (vs:=.ref a::vs) F hr hb hd hx I2 (.cons rfl r) q2
theorem ajF{pl:Sem Bool}(he:PE X o ta)(c:Cls X.K C)(hm:Meth X.K C m f)(F:FnOk X.prog X.w X.K X.mg X.base CX k f fd ps sp)(hr:Room k X.A)(hb:Binds X.K fd ps ds)(hd:Vals dvs ds)(hx:bW CX X E)(ht:eval (.Call (.Attribute o m apos) [] [] pos) X.env=(do
   let ov <- eval o X.env
   standAt apos.atName
   let (f,first) <- holding [ov] (getMethod ov m pl)
   callWith pos f first (backTo pos (starEach [] X.env)) (backToKw pos (keywordEach [] X.env))):=by rfl) :
  PE X (.Call (.Attribute o m apos) [] [] pos) (tMeth C m sp dvs E ta tNil):=by
 intro pins s Y H Q I h;refine PySem.W.methodCall_KW (pl:=pl) (B5 (he pins s Y H _ I h) fun u s1 ⟨x,H1,I1,rx,a,dx,fs,ex,ea,l,q⟩=>?_) ht;subst ex;obtain rfl:u=Value.ref a:=rx;refine uU I1 ea c hm l ?_;exact PySem.W.callWith_K0 (first:=[.ref a]) I1.kIn hm.kp (oO (us:=[.ref a]) (vs:=[.ref a]) F hr hb hd hx I1 (.cons rfl .nil) q)
structure Mk(K:PySem.W.Frag)(C f:Addr):Prop where
 makes:PySem.W.makesIn K C=true
 init:O6 K (.ref C) "__init__"=some (some (.ref f))
 fn:t6 K (.ref f)=true
 kp:R6 K (.ref C)=true
theorem ajG{pins:List (Addr×Obj)}{Y:St}{H:Hp}{s:Shared}{Q:VK}{us:List Value}{vs:List V}(M:Mk X.K C f)(F:FnOk X.prog X.w X.K X.mg X.base CX k f fd ps sp)(hr:Room (k+1) X.A)(hb:Binds X.K fd ps ds)(hd:Vals dvs ds)(hx:bW CX X E)(I:Inv X pins Y H s)(r:Vals vs us)(h:∀ x dx,H x=none->H dx=none->dx≠x->sp (.ref x::(vs++dvs)) (A0 (A0 H dx (.own x)) x (.ins C dx [])) (fun v H2=>v=.non/\Q (.ref x) H2) E) :
  wpAny (model X.prog X.w) X.A (call (.ref C) us) (EP X pins Y Q) X.xe s:=by
 have hq:=h (s.heap.objs.size+1) s.heap.objs.size (I.hok.fresh (Nat.le_succ _)) (I.hok.fresh (C4 _)) (M8 (Nat.lt_succ_self _));have I2:=Inv.made (C:=C) I;have r2:Vals (V.ref (s.heap.objs.size+1)::(vs++dvs)) (Value.ref (s.heap.objs.size+1)::(us++ds)):=.cons rfl (r.append hd);have hl:(Value.ref (s.heap.objs.size+1)::us++ds).length=ps.length:=by
  have e:=r2.length;rw [F.len _ _ _ _ hq] at e;exact e.symm
 refine wpAny_call (ajE (f:=f) I.kIn M.makes M.init (beq_iff_eq.mp M.fn) (codeAny_mono (F.run _ X.stack _ _ ⟨Value.ref (s.heap.objs.size+1)::us,[]⟩ (Value.ref (s.heap.objs.size+1)::(us++ds)) _ _ E (hr.make C us [])
  (I2.env0.make C us []) (hb _ (Value.ref (s.heap.objs.size+1)::us) I2.kIn hl) r2 hq) fun r s' cU=>?_))
 cases r with
 | error e=>exact hx pins Y _ _ e s' I2 cU
 | ok fl=>
  cases fl with
  | ret u=>
   obtain ⟨v,H',I3,rv,ev,q3⟩:=I2.after cU;subst ev;exact ⟨rv,⟨V.ref (s.heap.objs.size+1),H',I3,rfl,q3⟩⟩
  | next=>exact False.elim cU
  | brk=>exact False.elim cU
  | cont=>exact False.elim cU
theorem alu(M:Mk X.K C f)(F:FnOk X.prog X.w X.K X.mg X.base CX k f fd ps sp)(hr:Room (k+1) X.A)(hg:Gl X x)(hm:X.mg x=some (.ref C))(hb:Binds X.K fd ps ds)(hd:Vals dvs ds)(hx:bW CX X E)(ha:PA X (e::es) t)(P5:(x==("__debug__" : Str))=false:=by decide)(he:starEach (e::es) X.env=(false,eval e X.env)::starEach es X.env:=by rfl)(X2:(backTo pos (starEach es X.env)).any (·.1)=false:=by rfl) :
  PE X (.Call (.Name x p) (e::es) [] pos) (tMake C sp dvs E t):=by
 intro pins s Y H Q I h;refine wpAny_Call_Name_kw (oA I hg hm ?_ P5);refine PySem.W.callWith_K (h₀:=X.base) I.ok.mod.kin M.kp (B5 (ha pos pins s Y H _ I h) fun us s1 ⟨vs,H1,I1,r,q⟩=>⟨I1.kIn,?_⟩) he X2;exact ajG M F hr hb hd hx I1 r q
end
def PK(X:Cx)(kws:List Keyword)(t:TA):Prop:=
 ∀ (pos:Pos) (pins:List (Addr×Obj)) (s:Shared) (Y:St) (H:Hp) (Q:List V->Hp->Prop),Inv X pins Y H s->t Y H Q->wpAny (model X.prog X.w) X.A (evalAll ((backToKw pos (keywordEach kws X.env)).map (·.2))) (AP X pins Y Q) X.xe s
section
variable {X:Cx} {CX:Y1} {k:Nat} {f C:Addr} {fd:FuncData} {ps ks:List Str} {sp:Sp} {E:XK} {x m:Str} {p pos apos kpos:Pos} {e o:Expr} {es:List Expr} {kws:List Keyword} {te ta:TE} {t tk:TA} {nm:Option Str}
theorem anh:PK X [] tNil:=fun _ _ _ _ H Q I h=>wpAny_evalAll_nil ⟨[],H,I,.nil,h⟩
theorem alv(ha:PE X e te)(hr:PK X kws t):PK X (⟨nm,e,kpos⟩::kws) (tCons te t):=by
 intro pos pins s Y H Q I h;show wpAny _ _ (evalAll ((do let v <- eval e X.env;standAt pos;pure v)::(backToKw pos (keywordEach kws X.env)).map (·.2))) _ _ s;refine wpAny_evalAll_cons (wpAny_bind (B5 (ha pins s Y H _ I h) fun u s1 ⟨x,H1,I1,r1,q1⟩=>wpAny_bind (wpAny_standAt (wpAny_pure ?_))));exact B5 (hr pos pins s1 Y H1 _ I1 q1) fun us s2 ⟨xs,H2,I2,r2,q2⟩=>⟨x::xs,H2,I2,.cons r1 r2,q2⟩
variable {g:List Value->List Value->List Value} {gV:List V->List V->List V}
end
structure FnScope(N P:List Str)(sc:Scope):Prop where
 kind:sc.kind=.function
 co:sc.isCoroutine=false
 gen:sc.isGenerator=false
 nd:N.Nodup
 pre:N.take P.length=P
 par:∀ x∈P,sc.names.lookup x=some .local\/sc.names.lookup x=some .cell
 nofree:∀ y∈sc.names,y.2≠.free
theorem uV{kindOf:Str->Option NameKind}{x:Str} : ∀ {binds:List (Str×Value)} {m:Str->Option Value},(∀ v,(x,v)∉binds)->bindL kindOf binds m x=m x
 | [],_,_=>rfl
 | (n,v)::r,m,h=>by
  unfold bindL;rw [uV fun w hw=>h w (N7 _ hw)]
  split
  .have:x≠n:=by rintro rfl;exact h v N8
   simp [this]
  .rfl
theorem uW{kindOf:Str->Option NameKind}{x:Str} : ∀ {binds:List (Str×Value)} {m:Str->Option Value},(∀ v,(x,v)∉binds)->bindC kindOf binds m x=m x
 | [],_,_=>rfl
 | (n,v)::r,m,h=>by
  unfold bindC;rw [uW fun w hw=>h w (N7 _ hw)]
  split
  .rfl
  .have:x≠n:=by rintro rfl;exact h v N8
   simp [this]
theorem uX{kindOf:Str->Option NameKind}{x:Str}{v:Value} : ∀ {P:List Str} {vs:List Value} {i:Nat} {m:Str->Option Value},P.Nodup->P[i]?=some x->vs[i]?=some v->kindOf x=some .local->
  bindL kindOf (P.zip vs) m x=some v
 | [],_,_,_,_,h,_,_=>by simp at h
 | _::_,[],_,_,_,_,h,_=>by simp at h
 | p::P,w::vs,0,m,nd,h1,h2,hk=>by
  simp at h1 h2;subst h1;subst h2;show bindL kindOf ((p,w)::P.zip vs) m p=_;unfold bindL;rw [uV fun v hv=>(R5.mp nd).1 (List.of_mem_zip hv).1,if_pos hk]
  simp
 | p::P,w::vs,i+1,m,nd,h1,h2,hk=>by
  show bindL kindOf ((p,w)::P.zip vs) m x=_;unfold bindL;exact uX (i:=i) (R5.mp nd).2 (by simpa using h1) (by simpa using h2) hk
theorem uY{kindOf:Str->Option NameKind}{x:Str}{v:Value} : ∀ {P:List Str} {vs:List Value} {i:Nat} {m:Str->Option Value},P.Nodup->P[i]?=some x->vs[i]?=some v->kindOf x≠some .local->
  bindC kindOf (P.zip vs) m x=some v
 | [],_,_,_,_,h,_,_=>by simp at h
 | _::_,[],_,_,_,_,h,_=>by simp at h
 | p::P,w::vs,0,m,nd,h1,h2,hk=>by
  simp at h1 h2;subst h1;subst h2;show bindC kindOf ((p,w)::P.zip vs) m p=_;unfold bindC;rw [uW fun v hv=>(R5.mp nd).1 (List.of_mem_zip hv).1,if_neg hk]
  simp
 | p::P,w::vs,i+1,m,nd,h1,h2,hk=>by
  show bindC kindOf ((p,w)::P.zip vs) m x=_;unfold bindC;exact uY (i:=i) (R5.mp nd).2 (by simpa using h1) (by simpa using h2) hk
def start(N:List Str)(vs:List V):St:=vs.map some++P1 (N.length-vs.length) none
def cxOf(CX:Y1)(P:Program)(w:World)(K:PySem.W.Frag)(mg:Str->Option Value)(base:Heap)(N:List Str)(qual:Str)(scope:Scope)(f:Addr)(cd:Value)(A:Around)(outer:List Env)(s:Shared)(H:Hp)(E:XK):Cx where
 prog:=P
 w:=w
 K:=K
 mg:=mg
 base:=base
 A:=A.deeper (envOfC qual scope s.heap.objs.size f cd)
 N:=N
 s₀:=s
 H₀:=H
 env:=envOfC qual scope s.heap.objs.size f cd
 outer:=outer
 stack:=envOfC qual scope s.heap.objs.size f cd::outer
 ex:=[]
 calm:=true
 fn:=fun _=>true
 pn:=[]
 xe:=fun e s'=>wpAny (model P w) (A.deeper (envOfC qual scope s.heap.objs.size f cd)) (leaving (envOfC qual scope s.heap.objs.size f cd) e) (fun _ s''=>CX outer H s E e s'') (fun e' s''=>CX outer H s E e' s'') s'
theorem uZ{sc:Scope}{n:Nat}{x:Str}(h:sc.names.lookup x=some .cell):∃ c,(cellsFrom n sc.names []).lookup x=some c:=by
 have q:=PySem.W.cellsFrom_some sc.names n [] (.inl h);exact Option.isSome_iff_exists.mp q
theorem aih{CX:Y1}{P:Program}{w:World}{K:PySem.W.Frag}{mg:Str->Option Value}{base:Heap}{N ps:List Str}{qual:Str}{scope:Scope}{f:Addr}{cd:Value}{A:Around}{outer:List Env}{s s1:Shared}{H:Hp}{E:XK}{us:List Value}{vs:List V}(S:FnScope N ps scope)(hd:A.handled=none)(e0:Env0 P w K mg base A outer s H)(hl:vs.length=ps.length)(r:Vals vs us)(x:InCallC s s.heap.objs.size (bindL (envOfC qual scope s.heap.objs.size f cd).kindOf (ps.zip us) fun _=>none) (cellsFrom (s.heap.objs.size+1) scope.names []) (bindC (envOfC qual scope s.heap.objs.size f cd).kindOf (ps.zip us) fun _=>none) s1) :
  Inv (cxOf CX P w K mg base N qual scope f cd A outer s H E) [] (start N vs) H s1:=by
 have X2:ps.length<=N.length:=by have:=congrArg f8 S.pre;rw [M5] at this;lia
 obtain ⟨h1,tk,rfl,hk⟩:=x.done;have noA:∀ b:Addr,b∉(cxOf CX P w K mg base N qual scope f cd A outer s H E).ex:=fun b z=>absurd (show b∈([]:List Addr) from z) (by simp)
 refine ⟨⟨e0.mod,S.kind,rfl,rfl,C4 _,fun y z c h1 h2=>?_,fun y hy=>?_,fun y c _ h=>?_,fun _=>hd,Around.frames_deeper e0.frames,.inr ⟨rfl,rfl⟩,fun b z=>absurd z (noA b),e0.bs,e0.bsz,fun b _ _=>noA b,fun b z=>absurd z (noA b),e0.funs,e0.frf⟩,
  rfl,e0.bare,Un.kept hk,⟨_,x.toInCall.ns,fun i y v h1 h2 h3=>?_⟩,fun y c h=>⟨_,x.cell y c h⟩,e0.hok.fresh (C4 _),fun y c h=>?_,fun p hp=>absurd (show p∈([]:List (Addr×Obj)) from hp) (by simp),e0.hok.kept hk,?_⟩
 .exact name_of_addr x.apart (PySem.mem_of_lookup h1) (PySem.mem_of_lookup h2)
 .have hy:scope.names.lookup y=some .cell\/scope.names.lookup y=some .free:=hy
  rcases hy with hy | hy
  .exact uZ hy
  .exact absurd rfl (S.nofree _ (PySem.mem_of_lookup hy))
 .exact Nat.le_of_lt (x.above y c (PySem.mem_of_lookup h))
 .have hi:i<vs.length:=by
   unfold start at h2
   by_cases hi:i<vs.length
   .exact hi
   .rw [fX (by simpa using hi)] at h2;rw [List.getElem?_replicate] at h2
    split at h2 <;> cases h2
  have ha:vs[i]?=some v:=by
   unfold start at h2;rw [kO (by simpa using hi),c9] at h2;cases e:vs[i]? with
   | none=>rw [e] at h2;cases h2
   | some a=>rw [e] at h2;cases h2;rfl
  obtain ⟨u,hu,rv⟩:=r.get ha;have hp:ps[i]?=some y:=by
   rw [<- S.pre,List.getElem?_take_of_lt (by lia)];exact h1
  have ndP:ps.Nodup:=by rw [<- S.pre];exact S.nd.sublist (List.take_sublist _ _)
  refine ⟨u,rv,?_⟩
  rcases S.par y (O1 hp) with k | k
  .exact .inl ⟨k,uX ndP hp hu k⟩
  .obtain ⟨c,e⟩:=uZ (n:=s.heap.objs.size+1) k;refine .inr ⟨.inl k,c,e,?_⟩;have q:=x.cell y c e;rw [uY ndP hp hu (by show scope.names.lookup y≠_;rw [k];decide)] at q;exact q
 .exact e0.hok.fresh (Nat.le_of_lt (x.above y c (PySem.mem_of_lookup h)))
 .unfold start;show _=N.length;rw [D4,A8,List.length_replicate];lia
theorem fn_of{CX:Y1}{P:Program}{w:World}{K:PySem.W.Frag}{mg:Str->Option Value}{base:Heap}{k:Nat}{f:Addr}{name qual:Str}{params:Arguments}{body:List Stmt}{scope:Scope}{dV kV doc pm cdv ct oc:Value}{an od:Option Addr}{osl:Array (Option Value)}{N ps:List Str}{sp:Sp}(lk:K.lookup f=some ⟨oc,od,.func (Q5 name qual params body scope dV kV doc pm an cdv ct),osl⟩)(a0:V3 K cdv qual=true)(S:FnScope N ps scope)(len:∀ vs H Q E,sp vs H Q E->vs.length=ps.length)(i7:∀ (A:Around) (outer:List Env) (s:Shared) (H:Hp) (vs:List V) (Q:VK) (E:XK),Room k (A.deeper (envOfC qual scope s.heap.objs.size f cdv))->sp vs H Q E->
   ∃ t,V4 (cxOf CX P w K mg base N qual scope f cdv A outer s H E) body t/\t { nx:=fun _ H'=>Q .non H',rt:=Q } (start N vs) H) :
  FnOk P w K mg base CX (k+1) f (Q5 name qual params body scope dV kV doc pm an cdv ct) ps sp:=by
 refine ⟨len,fun A outer s H args us vs Q E hr e0 hb r bE=>?_⟩;have hl:=len _ _ _ _ bE;have KX:K.In s.heap:=e0.mod.kin.keeps fun b o e=>(e0.bs b o e).1
 have lim:s.heap.NoLimit:=e0.mod.nolimit.keeps fun b o e=>(e0.bs b o e).1
 have jG:∀ y∈ps.zip us,scope.names.lookup y.1=some .local\/(scope.names.lookup y.1=some .cell/\((cellsFrom (s.heap.objs.size+1) scope.names []).lookup y.1).isSome=true):=fun ⟨n,v⟩ hy=>by
  rcases S.par n (List.of_mem_zip hy).1 with q | q
  .exact .inl q
  .exact .inr ⟨q,PySem.W.cellsFrom_some _ _ _ (.inl q)⟩
 refine codeAny_call_function hr.depth (KX _ _ lk) rfl S.co S.gen rfl (PySem.W.codeRec_of KX a0) (hb _ _ _ _ ?_);refine wpAny_newFunctionEnv_cells S.kind jG fun env he s1 x=>?_
 subst he;refine ⟨lim.keeps x.toInCall.keep,codeAny_func ?_⟩;obtain ⟨t,ht,hq⟩:=i7 A outer s H vs Q E (hr.deeper _) bE;have I:Inv (cxOf CX P w K mg base N qual scope f cdv A outer s H E) [] (start N vs) H s1:=aih S hr.hd e0 hl r x;refine wpAny_mono (ht [] s1 (start N vs) H _ I hq) (fun fl s' hs=>?_) fun e s' hs=>hs
 have fin:∀ {σ':St} {H':Hp} {v:V} {u:Value},Inv (cxOf CX P w K mg base N qual scope f cdv A outer s H E) [] σ' H' s'->RelV v u->Q v H'->CE outer P w H s Q u s':=
  fun {σ' H' v u} J rv q=>⟨v,H',J.os,J.bare,J.base,J.hok,rv,q⟩
 cases fl with
 | ret u=>
  obtain ⟨v,σ',H',J,rv,q⟩:=hs;exact fin J rv q
 | next=>
  obtain ⟨σ',H',J,q⟩:=hs;exact fin (v:=V.non) (u:=Value.none) J rfl q
 | brk=>
  obtain ⟨_,_,_,q⟩:=hs;exact False.elim q
 | cont=>
  obtain ⟨_,_,_,q⟩:=hs;exact False.elim q
end L2
section
variable {C a b f fa it p r sl t:PySem.Addr}{dvs vs xs ys:List L2.V}{Q:L2.VK}{cd ct oc pm u v vl vu:PySem.Value}{c0 c1 c2 ck i j k m n t' x1:Nat}{items items2:Array PySem.Value}{fr ns:List Int}{its us:List PySem.Value}{A:PySem.Around}{s zw:PySem.Shared}{q qual y z:PySem.Str}{x:L2.V}{pins:List (PySem.Addr×PySem.Obj)}{Y:L2.St}{H H' H0 H1 H2 H3 zt:L2.Hp}{h h':PySem.Heap}{L M N N' S acc bad g' ks line loose ps ts zs:List PySem.Str}{K:PySem.W.Frag}{mg:PySem.Str->Option PySem.Value}{fd:PySem.FuncData}{sp:L2.Sp}{X:L2.Cx}{kvs:List (L2.B1×L2.V)}{prog:PySem.Program}{E:PySem.Value->PySem.Shared->Prop}{td te tk tl tv tx ty:L2.TE}{elts ifs values:List PySem.Expr}{B ixs pre:List Nat}{e elt iter target tg:PySem.Expr}{g:L2.TG}{c:L2.TT}{fp rs:List PySem.Addr}{apos cpos kpos p2 spos tpos:PySem.Pos}{calm fg neg:Bool}{st:PySem.Stmt}{an od:Option PySem.Addr}{tb:L2.TS}{D:L2.Ends}{o:PySem.Obj}{ta:L2.TA}{ss:Array (Option PySem.Value)}
namespace L2
open PySem PySem.Spec PyProof.Rows
section
variable {X:Cx} {x:Str} {p pos:Pos} {e:Expr} {es:List Expr} {t:TA} {id T:String} {r:List V->Hp->VK->Prop}
def bX(r:List V->Hp->VK->Prop)(t:TA):TE:=fun Y H Q=>t Y H fun vs H1=>r vs H1 Q
theorem ajH(hc:CallR X (.builtin id) r)(hg:Gl X x)(hm:X.mg x=none)(hv:bootBuiltins x=some (.builtin id))(ha:PA X (e::es) t)(hn:x≠"__name__":=by decide)(P5:(x==("__debug__" : Str))=false:=by decide)(he:starEach (e::es) X.env=(false,eval e X.env)::starEach es X.env:=by rfl)(X2:(backTo pos (starEach es X.env)).any (·.1)=false:=by rfl):PE X (.Call (.Name x p) (e::es) [] pos) (bX r t):=by
 intro pins s Y H Q I h;refine wpAny_Call_Name_kw (gO I hg hm hv ?_ hn P5);exact PyProof.Rows.callWith_builtin1 (B5 (ha pos pins s Y H _ I h) fun us s1 ⟨vs,H1,I1,r1,q1⟩=>hc pins s1 Y H1 vs us Q I1 r1 q1) he X2
theorem aii(hc:CallR X (.type T) r)(hg:Gl X x)(hm:X.mg x=none)(hv:bootBuiltins x=some (.type T))(ha:PA X (e::es) t)(hn:x≠"__name__":=by decide)(P5:(x==("__debug__" : Str))=false:=by decide)(he:starEach (e::es) X.env=(false,eval e X.env)::starEach es X.env:=by rfl)(X2:(backTo pos (starEach es X.env)).any (·.1)=false:=by rfl):PE X (.Call (.Name x p) (e::es) [] pos) (bX r t):=by
 intro pins s Y H Q I h;refine wpAny_Call_Name_kw (gO I hg hm hv ?_ hn P5);exact PyProof.Rows.callWith_type1 (B5 (ha pos pins s Y H _ I h) fun us s1 ⟨vs,H1,I1,r1,q1⟩=>hc pins s1 Y H1 vs us Q I1 r1 q1) he X2
end
end L2
namespace HT
open PySem PyProof.Rows
section
open PySem.SeqAt
open PySem.AutoSeq1 (wpAny_loadPart')
open PySem.MeetsSeq PySem.MeetsSeq2 PySem.MeetsSeq3
end
section
variable {prog:Program} {w:World} {A:Around} {E:Value->Shared->Prop} {s:Shared}
theorem cat_tup{vs ws:List Value}{Q:Value->Shared->Prop}(ht:IsTup s.heap t vs.toArray)(hb:IsTup s.heap b ws.toArray)(hv:vs≠[])(h1:ws=[]->Q (.ref t) s)(h2:ws≠[]->Q (.ref s.heap.objs.size) { s with heap:=s.heap.push { cls:=.type "tuple",data:=.seq (vs++ws).toArray } })(hsz:vs.length+ws.length<=sizeLine):wpAny (model prog w) A (binaryOp .Add (.ref t) (.ref b)) Q E s:=by
 obtain ⟨⟨cls,dd,data,sl⟩,ho,hc,n,hd⟩:=id ht;obtain ⟨⟨cls2,Y6,data2,W6⟩,n9,U9,n2,Q8⟩:=id hb;simp only at hc hd U9 Q8;subst hc hd U9 Q8;have e:vs.toArray++ws.toArray=(vs++ws).toArray:=by simp
 by_cases hw:ws=[]
 .exact concat_meets ⟨_,ho,rfl⟩ ⟨_,n9,rfl⟩ noFill_tuple_add seq_tuple_add PySem.F.slot_tuple_add PySem.F.entry_tuple_add (PySem.F.args_tuple_add_2 _ _)
   (tuple_addW1 t b vs.toArray ws.toArray n n2 dd Y6 sl W6 (by simpa using hv) (by simp [hw])) ⟨ho,n9,h1 hw⟩
 .refine concat_meets ⟨_,ho,rfl⟩ ⟨_,n9,rfl⟩ noFill_tuple_add seq_tuple_add PySem.F.slot_tuple_add PySem.F.entry_tuple_add (PySem.F.args_tuple_add_2 _ _)
   (tuple_addW2 t b vs.toArray ws.toArray n n2 dd Y6 sl W6 (by simpa using hv) (by simpa using hw) (by rw [J9,J9];exact hsz)) ⟨ho,n9,?_⟩
  rw [e];exact h2 hw
def sIx(n d:Nat):Option Int->Nat
 | none=>d
 | some v=>if v<0 then (v+(n:Int)).toNat else min v.toNat n
theorem sIx_nat(n d k:Nat):sIx n d (some (k:Int))=min k n:=by
 show (if (k:Int)<0 then ((k:Int)+(n:Int)).toNat else min (k:Int).toNat n)=min k n;rw [if_neg (by lia),Int.toNat_natCast]
theorem sIx_le(n d:Nat)(hd:d<=n)(o:Option Int):sIx n d o<=n:=by
 cases o with
 | none=>exact hd
 | some v=>
  show (if v<0 then (v+(n:Int)).toNat else min v.toNat n)<=n
  by_cases hv:v<0
  .rw [if_pos hv];lia
  .rw [if_neg hv];exact Nat.min_le_right _ _
theorem clip_eq(v:Int)(n d:Nat):(if v<0 then max (v+(n:Int)) 0 else min v (n:Int))=((sIx n d (some v):Nat):Int):=by
 show (if v<0 then max (v+(n:Int)) 0 else min v (n:Int))=(((if v<0 then (v+(n:Int)).toNat else min v.toNat n):Nat):Int)
 by_cases hv:v<0
 .simp only [if_pos hv];lia
 .simp only [if_neg hv];lia
theorem ahy(lo hi:Option Int)(n:Nat):Builtin.Slice.sliceAdjust lo hi 1 (n:Int)=(((sIx n 0 lo:Nat):Int),((sIx n n hi:Nat):Int)):=by
 have h1:¬ ((1:Int)<0):=by lia
 unfold Builtin.Slice.sliceAdjust;simp only [h1,if_false];refine Prod.ext ?_ ?_
 .cases lo with
  | none=>rfl
  | some v=>exact clip_eq v n 0
 .cases hi with
  | none=>rfl
  | some v=>exact clip_eq v n n
theorem ahz(i j:Nat):Builtin.Slice.slicePlaces (i:Int) (j:Int) 1=j-i:=by
 unfold Builtin.Slice.slicePlaces;have h1:(1:Int) > 0:=by lia
 simp only [h1,if_true,Int.ediv_one]
 split <;> lia
theorem vC{o:Option Int}{Q:Option Int->Shared->Prop}(p:IsPart v o)(h:Q o s):wpAny (model prog w) A (Builtin.Slice.slicePartIndex v) Q E s:=by
 cases p with
 | none=>exact slicePart_none h
 | int i t=>exact slicePart_int h
theorem sliceApplied_gen{lo hi:Option Int}{Q:Int×Int×Nat->Shared->Prop}(hs:s.heap.IsSliceOf sl vl vu .none)(pl:IsPart vl lo)(pu:IsPart vu hi)(h:Q (((sIx n 0 lo:Nat):Int),1,sIx n n hi-sIx n 0 lo) s):wpAny (model prog w) A (Builtin.Slice.sliceApplied (.ref sl) (pure (n:Int))) Q E s:=by
 obtain ⟨os,cV,nF,jH⟩:=id hs;unfold Builtin.Slice.sliceApplied Builtin.Slice.sliceFields;refine wpAny_bind (wpAny_bind (wpAny_field cV jH (x:=vl) rfl (wpAny_bind (wpAny_field cV jH (x:=vu) rfl (wpAny_bind (wpAny_field cV jH (x:=.none) rfl (wpAny_pure ?_)))))));refine wpAny_bind (slicePart_none ?_);show wpAny _ _ (if ((1:Int)==0)=true then _ else _) _ _ s;rw [if_neg (by decide)];refine wpAny_bind (vC pl (wpAny_bind (vC pu (wpAny_bind (wpAny_pure ?_)))));show wpAny _ _ (match Builtin.Slice.sliceAdjust lo hi 1 (n:Int) with | (lo,hi)=>pure (lo,(1:Int),Builtin.Slice.slicePlaces lo hi 1)) _ _ s;rw [ahy lo hi n];show wpAny _ _ (pure (((sIx n 0 lo:Nat):Int),(1:Int),Builtin.Slice.slicePlaces ((sIx n 0 lo:Nat):Int) ((sIx n n hi:Nat):Int) 1)) _ _ s;rw [ahz];exact wpAny_pure h
theorem ajI(xs:Array Value)(i k:Nat):((List.range k).filterMap fun (m:Nat)=>xs[((i:Int)+(m:Int)*1).toNat]?).toArray=((xs.toList.drop i).take k).toArray:=by
 have e:(fun (m:Nat)=>xs[((i:Int)+(m:Int)*1).toNat]?)=fun m=>xs[i+m]?:=by
  funext m
  have:((i:Int)+(m:Int)*1).toNat=i+m:=by lia
  rw [this]
 rw [e]
 have:=pick_run xs i k
 rw [List.filterMap_map] at this;have e2:((fun x=>xs[x]?)∘fun x=>i+x)=fun m=>xs[i+m]?:=rfl
 rw [e2] at this;rw [this]
theorem getItem_tuple_cut{lo hi:Option Int}{Q:Value->Shared->Prop}(ht:IsTup s.heap t items)(hs:s.heap.IsSliceOf sl vl vu .none)(pl:IsPart vl lo)(pu:IsPart vu hi)(hw:¬ (sIx items.size 0 lo=0/\sIx items.size items.size hi=items.size))(h:Q (.ref s.heap.objs.size) { s with heap:=s.heap.push { cls:=.type "tuple",data:=.seq ((items.toList.drop (sIx items.size 0 lo)).take (sIx items.size items.size hi-sIx items.size 0 lo)).toArray } })(hsz:items.size<=sizeLine):wpAny (model prog w) A (getItem (.ref t) (.ref sl)) Q E s:=by
 have X3:sizeOk (.seq ((items.toList.drop (sIx items.size 0 lo)).take (sIx items.size items.size hi-sIx items.size 0 lo)).toArray):=by
  show ((items.toList.drop (sIx items.size 0 lo)).take (sIx items.size items.size hi-sIx items.size 0 lo)).toArray.size<=sizeLine;rw [J9,M5,aE,bU];lia
 have hj:sIx items.size items.size hi<=items.size:=sIx_le _ _ (C4 _) hi;obtain ⟨os,cV,nF,jH⟩:=id hs;have hTs:s.TypeIs (.ref sl) "slice":=⟨os,cV,nF⟩
 unfold getItem
 try with_reducible refine wpAny_holding ?_
 first | refine wpAny_bind (wpAny_pure ?_) | skip
 refine wpAny_bind (wpAny_sequenceKey ht.typeIs (by decide) ?_);refine wpAny_bind (wpAny_callSpecial?_slot (name:=Str.ofString "__getitem__") ht.typeIs PyProof.Rows.slot_tuple_getitem
  (wpAny_call_entry PyProof.Rows.slot_tuple_getitem ht.typeIs entry_tuple_getitem ?_ (args_tuple_getitem _ _)))
 show wpAny _ _ (Builtin.Tuple.tupleItemsOf (.ref t) >>= _) _ _ s;refine wpAny_bind (tupleItemsOf_ ht ?_);refine wpAny_bind (wpAny_typeOf hTs ?_);rw [if_pos (by decide)];refine wpAny_bind (sliceApplied_gen hs pl pu ?_);have jI:¬ ((((sIx items.size 0 lo:Nat):Int)==0&&(1:Int)==1&&(sIx items.size items.size hi-sIx items.size 0 lo)==items.size)=true):=by
  intro q;rw [W4,W4] at q;have q1:((sIx items.size 0 lo:Nat):Int)=0:=eq_of_beq q.1.1;have q2:sIx items.size items.size hi-sIx items.size 0 lo=items.size:=eq_of_beq q.2;exact hw ⟨by lia,by lia⟩
 show wpAny _ _ (if (((sIx items.size 0 lo:Nat):Int)==0&&(1:Int)==1&&(sIx items.size items.size hi-sIx items.size 0 lo)==items.size)=true then _ else _) _ _ s;rw [if_neg jI,ajI]
 first
  | exact wpAny_bind (m:=Builtin.Tuple.tupleExact _) (wpAny_newObj_type (wpAny_pure ⟨_,rfl,wpAny_pure h⟩) X3)
  | exact wpAny_bind (m:=Builtin.Tuple.tupleExact _) (wpAny_newObj_type (wpAny_bind (wpAny_pure (wpAny_pure ⟨_,rfl,wpAny_pure h⟩))) X3)
  | exact wpAny_bind (wpAny_bind (m:=Builtin.Tuple.tupleExact _) (wpAny_newObj_type (wpAny_pure (wpAny_pure ⟨_,rfl,wpAny_pure h⟩)) X3))
  | exact wpAny_bind (wpAny_bind (m:=Builtin.Tuple.tupleExact _) (wpAny_newObj_type (wpAny_pure ⟨_,rfl,wpAny_pure h⟩) X3))
end
end HT
namespace L2
open PySem PySem.Spec PyProof.Rows
abbrev TO:=St->Hp->(Option Int->Hp->Prop)->Prop
def PO(X:Cx)(e:Option Expr)(t:TO):Prop:=
 ∀ (pins:List (Addr×Obj)) (s:Shared) (Y:St) (H:Hp) (Q:Option Int->Hp->Prop),Inv X pins Y H s->t Y H Q->
  wpAny (model X.prog X.w) X.A (evalPart e X.env) (fun u s'=>∃ o H',Inv X pins Y H' s'/\IsPart u o/\Q o H') X.xe s
def oP:TO:=fun _ H Q=>Q none H
def tPart(t:TE):TO:=fun Y H Q=>t Y H fun x H1=>∃ i,x=.int i/\Q (some i) H1
theorem lC : ∀ {us:List Value},Vals (ns.map V.int) us->IntsAre us ns:=by
 induction ns with
 | nil=>intro us r;rw [p7] at r;cases r;exact .nil
 | cons n ns ih=>
  intro us r;rw [E8] at r
  cases r with
  | cons r1 r2=>
   obtain ⟨t,e⟩:=r1;subst e;exact .cons n t (ih r2)
section
variable {X:Cx} {e:Expr} {te:TE} {lo hi:Option Expr} {tl th:TO} {pos p2:Pos}
theorem alw:PO X none oP:=by
 intro pins s Y H Q I h;rw [evalPart_none];exact wpAny_pure ⟨none,H,I,.none,h⟩
theorem alx(h:PE X e te):PO X (some e) (tPart te):=by
 intro pins s Y H Q I hw;rw [evalPart_some];refine B5 (h pins s Y H _ I hw) fun u s1 ⟨x,H1,I1,r1,q1⟩=>?_
 obtain ⟨i,rfl,q⟩:=q1;obtain ⟨t,rfl⟩:=r1;exact ⟨some i,H1,I1,.int i t,q⟩
def dW(X:Cx)(r:V->Option Int->Option Int->Hp->VK->Prop):Prop:=
 ∀ (pins:List (Addr×Obj)) (s:Shared) (Y:St) (H:Hp) (x:V) (v vl vu:Value) (lo hi:Option Int) (sl:Addr) (Q:VK),Inv X pins Y H s->RelV x v->s.heap.IsSliceOf sl vl vu .none->IsPart vl lo->IsPart vu hi->r x lo hi H Q->
  ∃ T id,typeLookup (.type T) "__getitem__"=pure (some (.builtin id))/\s.TypeIs v T/\wpAny (model X.prog X.w) X.A (getItem v (.ref sl)) (EP X pins Y Q) X.xe s
def oQ(r:V->Option Int->Option Int->Hp->VK->Prop)(te:TE)(tl th:TO):TE:=fun Y H Q=>te Y H fun x H1=>tl Y H1 fun l H2=>th Y H2 fun u H3=>r x l u H3 Q
theorem ajJ{r:V->Option Int->Option Int->Hp->VK->Prop}(hr:dW X r)(he:PE X e te)(hl:PO X lo tl)(hu:PO X hi th):PE X (.Subscript e (.Slice lo hi none p2) pos) (oQ r te tl th):=by
 intro pins s Y H Q I h;refine Subscript_ (B5 (he pins s Y H _ I h) fun v s1 ⟨x,H1,I1,r1,q1⟩=>?_);refine wpAny_Slice (B5 (hl pins s1 Y H1 _ I1 q1) fun vl s2 ⟨l,H2,I2,pl,q2⟩=>B5 (hu pins s2 Y H2 _ I2 q2) fun vu s3 ⟨u,H3,I3,pu,q3⟩=>?_);rw [evalPart_none];refine wpAny_pure ?_;have I4:Inv X pins Y H3 { s3 with heap:=s3.heap.push { cls:=.type "slice",data:=.fields #[vl,vu,.none] } }:=I3.kept (t':=s3.toks) fun b ob q=>Heap.get?_push_of_some _ q
 obtain ⟨T,id,hT,ht,hg⟩:=hr pins { s3 with heap:=s3.heap.push { cls:=.type "slice",data:=.fields #[vl,vu,.none] } } Y H3 x v vl vu l u s3.heap.objs.size Q I4 r1 (Heap.IsSliceOf.new ..) pl pu q3;show wpAny (model X.prog X.w) X.A (subscriptTail e (.Slice lo hi none p2) v (.ref s3.heap.objs.size)) (EP X pins Y Q) X.xe { s3 with heap:=s3.heap.push { cls:=.type "slice",data:=.fields #[vl,vu,.none] } };exact tail_any (ops:=[.ref s3.heap.objs.size,v]) ht hT hg (by with_unfolding_all rfl)
def cutV(xs:List V)(lo hi:Option Int):List V:=(xs.drop (HT.sIx xs.length 0 lo)).take (HT.sIx xs.length xs.length hi-HT.sIx xs.length 0 lo)
theorem vD(xs:List V)(lo hi:Option Int):(cutV xs lo hi).length<=xs.length:=by
 unfold cutV;rw [M5,aE];lia
def rSlT(K:PySem.W.Frag):V->Option Int->Option Int->Hp->VK->Prop:=fun x lo hi H Q=>∃ a xs,x=.ref a/\C7 K H a xs/\
 ¬ (HT.sIx xs.length 0 lo=0/\HT.sIx xs.length xs.length hi=xs.length)/\∀ p,H p=none->Q (.ref p) (A0 H p (.tup (cutV xs lo hi)))
theorem ani:dW X (rSlT X.K):=by
 intro pins s Y H x v vl vu lo hi sl Q I rx hs pl pu h;obtain ⟨a,xs,rfl,hx,hw,q⟩:=h
 cases rx
 obtain ⟨its,r,ht,hz⟩:=I.tuple hx;have A9:its.toArray.size=xs.length:=by rw [J9];exact r.length.symm
 refine ⟨"tuple",_,PyProof.Rows.slot_tuple_getitem.lookup,ht.typeIs,?_⟩;refine HT.getItem_tuple_cut ht hs pl pu (by rw [A9];exact hw) ?_ (by rw [A9];exact hz);rw [A9];refine ⟨.ref s.heap.objs.size,_,I.laid (t':=s.toks) (o:=.tup (cutV xs lo hi)) (fun b ob q=>Heap.get?_push_of_some _ q) (C4 _) ?_,rfl,q _ (I.hok.fresh (C4 _))⟩;exact ⟨M6 (vD xs lo hi) hz,_,(r.drop (HT.sIx xs.length 0 lo)).take (HT.sIx xs.length xs.length hi-HT.sIx xs.length 0 lo),IsTup.new _ _⟩
def rCatT(K:PySem.W.Frag):R2:=fun x y H Q=>∃ a b xs ys,x=.ref a/\y=.ref b/\C7 K H a xs/\C7 K H b ys/\xs≠[]/\xs.length+ys.length<=sizeLine/\
 (ys=[]->Q (.ref a) H)/\(ys≠[]->∀ p,H p=none->Q (.ref p) (A0 H p (.tup (xs++ys))))
theorem Vals.nil_iff(r:Vals xs us):us=[]↔xs=[]:=by
 cases r with
 | nil=>simp
 | cons _ _=>simp
theorem aly:F9 X (binaryOp .Add) (rCatT X.K):=by
 intro pins s Y H x y v u Q I rx ry h;obtain ⟨a,b,xs,ys,rfl,rfl,ha,hb,hx,hz,q1,q2⟩:=h
 cases rx
 cases ry
 obtain ⟨its,r1,p1,_⟩:=I.tuple ha;obtain ⟨its2,r2,p2,_⟩:=I.tuple hb;refine HT.cat_tup p1 p2 (fun z=>hx (r1.nil_iff.mp z)) (fun z=>⟨.ref a,H,I,rfl,q1 (r2.nil_iff.mp z)⟩) (fun z=>?_) (by rw [<- r1.length,<- r2.length];exact hz);refine ⟨.ref s.heap.objs.size,_,I.laid (t':=s.toks) (o:=.tup (xs++ys)) (fun b ob q=>Heap.get?_push_of_some _ q) (C4 _) ?_,rfl,q2 (fun w=>z (r2.nil_iff.mpr w)) _ (I.hok.fresh (C4 _))⟩;exact ⟨by rw [D4];exact hz,_,r1.append r2,IsTup.new _ _⟩
end
end L2
namespace L2
open PySem PySem.Spec PyProof.Rows
def Y2(n:Nat)(i:Int):Option Nat:=if 0<=i then (if i<n then some i.toNat else none) else if -(n:Int)<=i then some (i+n).toNat else none
def F8{α:Type}(xs:List α)(i:Int):Option α:=(Y2 xs.length i).bind fun j=>xs[j]?
theorem alz{i:Int}(h:Y2 n i=some j):seqIndex? i n=some j/\j<n/\-(n:Int)<=i/\i<n:=by
 unfold Y2 at h
 by_cases h0:0<=i
 .rw [if_pos h0] at h
  by_cases h1:i<n
  .rw [if_pos h1] at h;have e:i.toNat=j:=Option.some.inj h;exact ⟨by rw [seqIndex_of h0 h1,e],by lia,by lia,h1⟩
  .rw [if_neg h1] at h;cases h
 .rw [if_neg h0] at h
  by_cases h1:-(n:Int)<=i
  .rw [if_pos h1] at h;have e:(i+n).toNat=j:=Option.some.inj h;exact ⟨by rw [seqIndex_neg (by lia) h1,e],by lia,h1,by lia⟩
  .rw [if_neg h1] at h;cases h
theorem oR{α:Type}{xs:List α}{i:Int}{v:α}(h:F8 xs i=some v):∃ j,seqIndex? i xs.length=some j/\xs[j]?=some v/\j<xs.length/\-(xs.length:Int)<=i/\i<xs.length:=by
 unfold F8 at h;cases e:Y2 xs.length i with
 | none=>rw [e] at h;cases h
 | some j=>
  rw [e] at h;obtain ⟨h1,h2,h3,h4⟩:=alz e;exact ⟨j,h1,h,h2,h3,h4⟩
theorem O3{α:Type}{xs:List α}{v:α}(h:xs[j]?=some v):F8 xs (j:Int)=some v:=by
 have hj:j<xs.length:=(J8.mp h).1;have e:Y2 xs.length (j:Int)=some j:=by
  unfold Y2;rw [if_pos (by lia),if_pos (by lia)];simp
 unfold F8;rw [e];exact h
theorem ajK{α:Type}(xs:List α)(v:α):F8 (xs++[v]) (-1)=some v:=by
 have hl:(xs++[v]).length=xs.length+1:=by simp
 have e:Y2 (xs++[v]).length (-1)=some xs.length:=by
  unfold Y2;rw [hl,if_neg (by decide),if_pos (by lia)]
  congr 1
  lia
 unfold F8;rw [e];show (xs++[v])[xs.length]?=some v
 simp
def vE(b:Expr):Prop:=∀ o i,subscripted b false o i=operate [o,i] (getItem o i)
def t9(X:Cx)(r:R2):Prop:=
 ∀ (value slice:Expr) (pins:List (Addr×Obj)) (s:Shared) (Y:St) (H:Hp) (x y:V) (v u:Value) (Q:VK),Inv X pins Y H s->RelV x v->RelV y u->r x y H Q->
  subscripted slice false v u=operate [v,u] (getItem v u)->wpAny (model X.prog X.w) X.A (subscriptTail value slice v u) (EP X pins Y Q) X.xe s
def oS(X:Cx)(id:String)(r:V->List V->Hp->VK->Prop):Prop:=
 ∀ (pins:List (Addr×Obj)) (s:Shared) (Y:St) (H:Hp) (x:V) (xs:List V) (v:Value) (us:List Value) (Q:VK),Inv X pins Y H s->RelV x v->Vals xs us->r x xs H Q->
  wpAny (model X.prog X.w) X.A (call (.builtin id) (v::us)) (EP X pins Y Q) X.xe s
section
variable {X:Cx} {a b:Expr} {ta tb:TE} {pos:Pos}
theorem t9.or{r r':R2}(h:t9 X r)(h':t9 X r'):t9 X (fun x y H Q=>r x y H Q\/r' x y H Q):=by
 intro value slice pins s Y H x y v u Q I rx ry q hs
 rcases q with q | q
 .exact h value slice pins s Y H x y v u Q I rx ry q hs
 .exact h' value slice pins s Y H x y v u Q I rx ry q hs
theorem pe_ix{r:R2}(hr:t9 X r)(ha:PE X a ta)(hb:PE X b tb)(hs:vE b):PE X (.Subscript a b pos) (g6 r ta tb):=by
 intro pins s Y H Q I h;exact Subscript_ (binT ha hb I h fun v u s2 x y H2 I2 rx ry q=>hr a b pins s2 Y H2 x y v u Q I2 rx ry q (hs _ _))
def rIxL(K:PySem.W.Frag):R2:=fun x y H Q=>∃ p xs i v,x=.ref p/\y=.int i/\C9 K H p xs/\F8 xs i=some v/\Q v H
def rIxT(K:PySem.W.Frag):R2:=fun x y H Q=>∃ p xs i v,x=.ref p/\y=.int i/\C7 K H p xs/\F8 xs i=some v/\Q v H
def rIxS:R2:=fun x y H Q=>∃ z i c,x=.str z/\y=.int i/\z.length<=sizeLine/\F8 z.cps.toList i=some c/\Q (.str ⟨#[c]⟩) H
theorem ix_list:t9 X (rIxL X.K):=by
 intro value slice pins s Y H x y v u Q I rx ry h hs;obtain ⟨p,xs,i,z,rfl,rfl,hq,he,q⟩:=h
 cases rx
 obtain ⟨t,rfl⟩:=ry;obtain ⟨its,r,pl,hz⟩:=I.list hq;obtain ⟨j,h1,h2,h3,h4,h5⟩:=oR he;obtain ⟨w,ew,rw'⟩:=r.get h2;have hl:=r.length;have hn:=gQ;have fin:EP X pins Y Q w s:=⟨z,H,I,rw',q⟩
 by_cases h0:0<=i
 .have hj:i.toNat=j:=by
   rw [seqIndex_of h0 h5] at h1;exact Option.some.inj h1
  exact item_listR pl.isList h0 (by lia) (by rw [hj];simpa using ew) fin hs
 .have hj:(i+(its.toArray.size:Int)).toNat=j:=by
   rw [seqIndex_neg (by lia) h4] at h1;rw [J9,<- hl];exact Option.some.inj h1
  exact subscriptTail_builtinR (x:=w) pl.isList.typeIs slot_list_getitem.lookup
   (wpAny_getItem_list_neg (Q:=fun r s'=>r=w/\EP X pins Y Q r s') pl.isList (by lia) (by rw [J9] <;> lia) (by lia) (by rw [hj];simpa using ew) ⟨rfl,fin⟩) hs
theorem ix_tup:t9 X (rIxT X.K):=by
 intro value slice pins s Y H x y v u Q I rx ry h hs;obtain ⟨p,xs,i,z,rfl,rfl,hq,he,q⟩:=h
 cases rx
 obtain ⟨t,rfl⟩:=ry;obtain ⟨its,r,pl,hz⟩:=I.tuple hq;obtain ⟨j,h1,h2,h3,h4,h5⟩:=oR he;obtain ⟨w,ew,rw'⟩:=r.get h2;have hl:=r.length;have hn:=gQ;have fin:EP X pins Y Q w s:=⟨z,H,I,rw',q⟩
 exact subscriptTail_builtinR (x:=w) pl.typeIs slot_tuple_getitem.lookup
  (getItem_tuple (j:=j) (Q:=fun r s'=>r=w/\EP X pins Y Q r s') pl (by lia) (by lia) (by rw [J9,<- hl];exact h1) (by simpa using ew) ⟨rfl,fin⟩) hs
theorem anj:t9 X rIxS:=by
 intro value slice pins s Y H x y v u Q I rx ry h hs;obtain ⟨z,i,c,rfl,rfl,hz,he,q⟩:=h;obtain ⟨t,rfl⟩:=rx;obtain ⟨t',rfl⟩:=ry;obtain ⟨j,h1,h2,h3,h4,h5⟩:=oR he;have hl:z.cps.toList.length=z.length:=by simp [Str.length]
 rw [hl] at h1 h4 h5;have hn:=gQ;exact tail_any (typeIs_str s z t) slot_str_getitem.lookup (getItem_str (c:=c) (by
  have e1:decide (i < -(2 ^ 63:Int))=false:=decide_eq_false (by lia);have e2:decide (i≥2 ^ 63)=false:=decide_eq_false (by lia);rw [e1,e2,Bool.or_false]) (by rw [h1];simpa using h2) ⟨.str ⟨#[c]⟩,H,I.tok _,⟨_,rfl⟩,q⟩) hs
def bY(K:PySem.W.Frag):R2:=fun x y H Q=>rIxL K x y H Q\/rIxT K x y H Q\/rIxS x y H Q
theorem ank:t9 X (bY X.K):=ix_list.or (ix_tup.or anj)
def rSetL:V->V->V->Hp->(Hp->Prop)->Prop:=fun o i v H Q=>∃ p xs k j,o=.ref p/\i=.int k/\H p=some (.lst xs)/\Y2 xs.length k=some j/\Q (A0 H p (.lst (xs.set j v)))
theorem afj(lo hi:Option Int)(n:Nat):(sliceBounds lo hi none n).1=((HT.sIx n 0 lo:Nat):Int)/\(sliceBounds lo hi none n).2.1=((HT.sIx n n hi:Nat):Int)/\(sliceBounds lo hi none n).2.2=1:=by
 refine ⟨?_,?_,rfl⟩
 .cases lo with
  | none=>simp [sliceBounds,HT.sIx]
  | some i=>
   simp only [sliceBounds,HT.sIx,Option.getD_none,show (1:Int) > 0 by decide,if_true]
   by_cases h:i<0
   .simp only [h,if_true] <;> lia
   .simp only [h,if_false] <;> lia
 .cases hi with
  | none=>simp [sliceBounds,HT.sIx]
  | some i=>
   simp only [sliceBounds,HT.sIx,Option.getD_none,show (1:Int) > 0 by decide,if_true]
   by_cases h:i<0
   .simp only [h,if_true] <;> lia
   .simp only [h,if_false] <;> lia
theorem aeL(its:List Value)(lo hi:Option Int):slicePick its.toArray lo hi none=((its.drop (HT.sIx its.length 0 lo)).take (HT.sIx its.length its.length hi-HT.sIx its.length 0 lo)).toArray:=by
 obtain ⟨h1,h2,h3⟩:=afj lo hi its.toArray.size;unfold slicePick;rw [h1,h2,h3];simp only [sliceRange_one,pick_run,J9] <;> rfl
def rSlL(K:PySem.W.Frag):V->Option Int->Option Int->Hp->VK->Prop:=fun x lo hi H Q=>∃ a xs,x=.ref a/\C9 K H a xs/\∀ p,H p=none->Q (.ref p) (A0 H p (.lst (cutV xs lo hi)))
theorem alA:dW X (rSlL X.K):=by
 intro pins s Y H x v vl vu lo hi sl Q I rx hs pl pu h;obtain ⟨a,xs,rfl,hx,q⟩:=h
 cases rx
 obtain ⟨its,r,ht,hz⟩:=I.list hx;have A9:=r.length;refine ⟨"list",_,slot_list_getitem.lookup,ht.isList.typeIs,?_⟩;refine wpAny_getItem_list_slice ht.isList hs pl pu .none (by simp) ?_ (by rw [J9] <;> lia);rw [aeL,<- A9];refine ⟨.ref s.heap.objs.size,_,I.laid (t':=s.toks) (o:=.lst (cutV xs lo hi)) (fun b ob q=>Heap.get?_push_of_some _ q) (C4 _) ?_,rfl,q _ (I.hok.fresh (C4 _))⟩;exact ⟨M6 (vD xs lo hi) hz,_,0,(r.drop (HT.sIx xs.length 0 lo)).take (HT.sIx xs.length xs.length hi-HT.sIx xs.length 0 lo),Heap.get?_push_size _ rfl⟩
def flatV:V->Bool
 | .non=>true
 | .bl _=>true
 | .int _=>true
 | .str _=>true
 | _=>false
def aL:V->V->Bool
 | .non,.non=>true
 | .bl a,.bl b=>a==b
 | .bl a,.int b=>(if a then 1 else 0)==b
 | .int a,.bl b=>a==(if b then 1 else 0)
 | .int a,.int b=>a==b
 | .str a,.str b=>a==b
 | _,_=>false
theorem anl{y:V}(ry:RelV y u)(rx:RelV x v)(fy:flatV y=true)(fx:flatV x=true):SeqAt.EqAt A s u v (aL y x):=by
 cases y with
 | non=>
  cases ry
  cases x with
  | non=>cases rx;exact SeqAt.EqAt.same _
  | bl b=>cases rx;exact SeqAt.EqAt.none_bool b
  | int b=>obtain ⟨t,rfl⟩:=rx;exact SeqAt.EqAt.none_int b t
  | str b=>obtain ⟨t,rfl⟩:=rx;exact SeqAt.EqAt.none_str b t
  | _=>exact absurd (show false=true from fx) K3
 | bl a=>
  cases ry
  cases x with
  | non=>cases rx;exact SeqAt.EqAt.bool_none a
  | bl b=>cases rx;exact SeqAt.EqAt.bool_bool a b
  | int b=>obtain ⟨t,rfl⟩:=rx;exact SeqAt.EqAt.bool_int a b t
  | str b=>obtain ⟨t,rfl⟩:=rx;exact SeqAt.EqAt.bool_str a b t
  | _=>exact absurd (show false=true from fx) K3
 | int a=>
  obtain ⟨t',rfl⟩:=ry
  cases x with
  | non=>cases rx;exact SeqAt.EqAt.int_none a t'
  | bl b=>cases rx;exact SeqAt.EqAt.int_bool a t' b
  | int b=>obtain ⟨t,rfl⟩:=rx;exact SeqAt.EqAt.int_int a t' b t
  | str b=>obtain ⟨t,rfl⟩:=rx;exact SeqAt.EqAt.int_str a t' b t
  | _=>exact absurd (show false=true from fx) K3
 | str a=>
  obtain ⟨t',rfl⟩:=ry
  cases x with
  | non=>cases rx;exact SeqAt.EqAt.str_none a t'
  | bl b=>cases rx;exact SeqAt.EqAt.str_bool a t' b
  | int b=>obtain ⟨t,rfl⟩:=rx;exact SeqAt.EqAt.str_int a t' b t
  | str b=>obtain ⟨t,rfl⟩:=rx;exact SeqAt.EqAt.str_str a t' b t
  | _=>exact absurd (show false=true from fx) K3
 | _=>exact absurd (show false=true from fy) K3
def V5(x:V)(u:Value):Bool:=match u with
 | .none=>aL .non x
 | .bool b=>aL (.bl b) x
 | .int i _=>aL (.int i) x
 | .str z _=>aL (.str z) x
 | _=>false
theorem vF{y:V}(r:RelV y u)(f:flatV y=true):V5 x u=aL y x:=by
 cases y with
 | non=>cases r;rfl
 | bl b=>cases r;rfl
 | int i=>obtain ⟨t,rfl⟩:=r;rfl
 | str z=>obtain ⟨t,rfl⟩:=r;rfl
 | _=>exact absurd (show false=true from f) K3
theorem gR : ∀ {xs:List V} {us:List Value},Vals xs us->xs.all flatV=true->us.any (V5 x)=xs.any fun y=>aL y x
 | _,_,.nil,_=>rfl
 | y::xs,u::us,.cons r t,f=>by
  rw [List.all_cons,W4] at f;rw [Z0,Z0,vF r f.1,gR t f.2]
theorem gS(rx:RelV x v)(fx:flatV x=true):∀ {xs:List V} {us:List Value},Vals xs us->xs.all flatV=true->∀ u∈us,SeqAt.EqAt A s u v (V5 x u)
 | _,_,.nil,_=>fun u hu=>by cases hu
 | y::xs,u::us,.cons r t,f=>fun u' hu=>by
  rw [List.all_cons,W4] at f
  rcases E7.mp hu with rfl | hu
  .rw [vF r f.1];exact anl r rx f.1 fx
  .exact gS rx fx t f.2 u' hu
def aM(x:V)(xs:List V):Bool:=xs.any fun y=>aL y x
def oT(K:PySem.W.Frag)(neg:Bool):R2:=fun x y H Q=>∃ p xs,y=.ref p/\(C9 K H p xs\/C7 K H p xs)/\flatV x=true/\xs.all flatV=true/\Q (.bl (if neg then !aM x xs else aM x xs)) H
theorem aik:F9 X (compareOp .In) (oT X.K false):=by
 intro pins s Y H x y v u Q I rx ry h;obtain ⟨p,xs,rfl,hq,fx,fs,q⟩:=h
 cases ry
 rcases hq with hq | hq
 .obtain ⟨its,r,pl,hz⟩:=I.list hq;refine SeqAt.in_listAt (V5 x) pl.isList (fun w hw=>gS rx fx r fs w (by simpa using hw)) ⟨.bl _,H,I,rfl,?_⟩;rw [show its.toArray.any (V5 x)=its.any (V5 x) by simp,gR r fs];exact q
 .obtain ⟨its,r,pl,hz⟩:=I.tuple hq;refine SeqAt.in_tupleAt (V5 x) pl (fun w hw=>gS rx fx r fs w (by simpa using hw)) ⟨.bl _,H,I,rfl,?_⟩;rw [show its.toArray.any (V5 x)=its.any (V5 x) by simp,gR r fs];exact q
theorem afk:F9 X (compareOp .NotIn) (oT X.K true):=by
 intro pins s Y H x y v u Q I rx ry h;obtain ⟨p,xs,rfl,hq,fx,fs,q⟩:=h
 cases ry
 rcases hq with hq | hq
 .obtain ⟨its,r,pl,hz⟩:=I.list hq;refine SeqAt.notIn_listAt (V5 x) pl.isList (fun w hw=>gS rx fx r fs w (by simpa using hw)) ⟨.bl _,H,I,rfl,?_⟩;rw [show its.toArray.any (V5 x)=its.any (V5 x) by simp,gR r fs];exact q
 .obtain ⟨its,r,pl,hz⟩:=I.tuple hq;refine SeqAt.notIn_tupleAt (V5 x) pl (fun w hw=>gS rx fx r fs w (by simpa using hw)) ⟨.bl _,H,I,rfl,?_⟩;rw [show its.toArray.any (V5 x)=its.any (V5 x) by simp,gR r fs];exact q
theorem afl:F9 X (compareOp .NotIn) (fun x y H Q=>∃ i j,x=.str i/\y=.str j/\Q (.bl (!(!(Builtin.Str.occurrences j i 0 j.length 1).isEmpty))) H):=by
 intro pins s Y H x y v u Q I rx ry h;obtain ⟨i,j,rfl,rfl,q⟩:=h;obtain ⟨t,rfl⟩:=rx;obtain ⟨t',rfl⟩:=ry;exact notIn_str ⟨.bl _,H,I,rfl,q⟩
theorem afm:CallR X (.type "list") (fun xs H Q=>∃ p ys,xs=[.ref p]/\(C9 X.K H p ys\/C7 X.K H p ys)/\∀ l,H l=none->Q (.ref l) (A0 H l (.lst ys))):=by
 intro pins s Y H xs us Q I r h;obtain ⟨p,ys,rfl,hq,q⟩:=h;obtain ⟨u,rfl,rx⟩:=vals1 r
 cases rx
 have fin:∀ (its:List Value),Vals ys its->ys.length<=sizeLine->∀ (h':Heap) (c':Nat),(∀ b o',s.heap.get? b=some o'->h'.get? b=some o')->
   h'.get? s.heap.objs.size=some { cls:=.type "list",dict:=none,data:=.seq its.toArray c',slots:=#[] }->EP X pins Y Q (.ref s.heap.objs.size) { s with heap:=h' }:=fun its r' hz h' c' kp e=>
  ⟨.ref s.heap.objs.size,_,I.laid (t':=s.toks) kp (C4 _) (show ObjOk X.prog X.w _ h' _ (.lst ys) from ⟨hz,its,c',r',e⟩),rfl,q _ (I.hok.fresh (C4 _))⟩
 rcases hq with hq | hq
 .obtain ⟨its,r',pl,hz⟩:=I.list hq;have A9:=r'.length;obtain ⟨o,ho,hc,n,hd⟩:=pl.isList;exact call_list_seq p (.inl rfl) ho hc hd (fun h' c' kp e=>fin its r' hz h' c' kp e) (by simp only [J9] <;> lia)
 .obtain ⟨its,r',pl,hz⟩:=I.tuple hq;have A9:=r'.length;obtain ⟨o,ho,hc,n,hd⟩:=pl;exact call_list_seq p (.inr rfl) ho hc hd (fun h' c' kp e=>fin its r' hz h' c' kp e) (by simp only [J9] <;> lia)
theorem aeM:CallR X (.type "tuple") (fun xs H Q=>∃ p ys,xs=[.ref p]/\((C9 X.K H p ys/\∀ l,H l=none->Q (.ref l) (A0 H l (.tup ys)))\/(C7 X.K H p ys/\Q (.ref p) H))):=by
 intro pins s Y H xs us Q I r h;obtain ⟨p,ys,rfl,h⟩:=h;obtain ⟨u,rfl,rx⟩:=vals1 r
 cases rx
 rcases h with ⟨hq,q⟩ | ⟨hq,q⟩
 .obtain ⟨its,r',pl,hz⟩:=I.list hq;have A9:=r'.length;refine call_tuple_list pl.isList (fun h' kp=>?_) (by simp only [J9] <;> lia);have I1:Inv X pins Y H { s with heap:=h' }:=I.kept (t':=s.toks) kp;have I2:Inv X pins Y (A0 H h'.objs.size (.tup ys)) { s with heap:=h'.push { cls:=.type "tuple",data:=.seq its.toArray } }:=
   I1.laid (t':=s.toks) (fun b o e=>Heap.get?_push_of_some _ e) (C4 _) (show ObjOk X.prog X.w _ _ _ (.tup ys) from ⟨hz,its,r',IsTup.new _ _⟩)
  exact ⟨.ref h'.objs.size,_,I2,rfl,q _ (I1.hok.fresh (C4 _))⟩
 .obtain ⟨its,r',pl,hz⟩:=I.tuple hq;exact call_tuple_same pl ⟨.ref p,H,I,rfl,q⟩
def aN(K:PySem.W.Frag)(T:String)(x:V)(H:Hp):Prop:=match x with
 | .str _=>T="str"
 | .int _=>T="int"
 | .ref p=>(T="list"/\∃ xs,C9 K H p xs)\/(T="tuple"/\∃ o,K.lookup p=some o/\o.cls=.type "tuple"/\o.dict=none)\/
   (T="dict"/\((∃ kvs,H p=some (.dK kvs))\/∃ kvs,H p=some (.dT kvs)))\/(T="set"/\∃ S n,H p=some (.set S n))
 | _=>False
theorem anm{T:String}(I:Inv X pins Y H s)(r:RelV x v)(ty:aN X.K T x H) :
  s.TypeIs v T/\∀ a,v=.ref a->∃ ob,s.heap.get? a=some ob/\ob.dict=none:=by
 cases x with
 | str z=>
  obtain ⟨t,rfl⟩:=r
  cases (show T="str" from ty)
  exact ⟨typeIs_str s z t,fun _ e=>nomatch e⟩
 | int i=>
  obtain ⟨t,rfl⟩:=r
  cases (show T="int" from ty)
  exact ⟨typeIs_int s i t,fun _ e=>nomatch e⟩
 | ref p=>
  cases r
  rcases ty with ⟨rfl,xs,hq⟩ | ⟨rfl,o,hk,hc,hd⟩ | ⟨rfl,hk⟩ | ⟨rfl,S,n,hk⟩
  .obtain ⟨its,_,pl,_⟩:=I.list hq;refine ⟨pl.isList.typeIs,fun a e=>?_⟩;cases e;obtain ⟨o,n,e,c,hd,_⟩:=pl;exact ⟨o,e,hd⟩
  .refine ⟨⟨o,I.kIn p o hk,hc⟩,fun a e=>?_⟩;cases e;exact ⟨o,I.kIn _ o hk,hd⟩
  .have z:∃ o,s.heap.get? p=some o/\o.ExactDict:=by
    rcases hk with ⟨kvs,hk⟩ | ⟨kvs,hk⟩
    .obtain ⟨_,_,_,_,o,_,_,e,ex,_⟩:=I.hok p _ hk;exact ⟨o,e,ex⟩
    .obtain ⟨_,_,_,_,o,_,_,e,ex,_⟩:=I.hok p _ hk;exact ⟨o,e,ex⟩
   obtain ⟨o,e,ex⟩:=z;refine ⟨⟨o,e,ex.1⟩,fun a e2=>?_⟩;cases e2;exact ⟨o,e,ex.2.1⟩
  .obtain ⟨o,_,_,_,e,ex,_⟩:=I.hok p _ hk;refine ⟨⟨o,e,ex.1⟩,fun a e2=>?_⟩;cases e2;exact ⟨o,e,ex.2.1⟩
 | _=>exact False.elim ty
def tBM0(K:PySem.W.Frag)(T:String)(r:V->List V->Hp->VK->Prop)(to:TE):TE:=fun Y H Q=>to Y H fun x H1=>aN K T x H1/\r x [] H1 Q
def dX(K:PySem.W.Frag)(T:String)(r:V->List V->Hp->VK->Prop)(to:TE)(t:TA):TE:=fun Y H Q=>to Y H fun x H1=>aN K T x H1/\t Y H1 fun xs H2=>r x xs H2 Q
variable {o e:Expr} {es:List Expr} {to:TE} {t:TA} {name:Str} {apos cpos:Pos} {T id:String} {r:V->List V->Hp->VK->Prop}
theorem pe_bm(pa:PlainAttrs T)(slot:Slot T name id)(Y7:typeOf (.builtin id)=pure (.type "method_descriptor"))(hm:oS X id r)(ho:PE X o to)(ha:PA X (e::es) t)(K1:attributeBase o name X.env (eval o X.env)=eval o X.env:=by rfl)(sG:((backTo cpos (starEach (e::es) X.env)).all (fun x=>!x.1)&&(backToKw cpos (keywordEach [] X.env)).all (fun x=>x.1.isSome)
   && decide ((e::es).length+([]:List Keyword).length+(if ([]:List Keyword).isEmpty then 0 else 1)<30))=true:=by rfl)(K2:(apos.endLine==cpos.line)=true:=by rfl)(hs:starEach (e::es) X.env=(false,eval e X.env)::starEach es X.env:=by rfl)(hplain:(backTo cpos (starEach es X.env)).any (·.1)=false:=by rfl) :
  PE X (.Call (.Attribute o name apos) (e::es) [] cpos) (dX X.K T r to t):=by
 intro pins s Y H Q I h;refine wpAny_Call_method_late K1 sG K2 rfl (B5 (ho pins s Y H _ I h) fun v s1 ⟨x,H1,I1,r1,ty,q1⟩=>?_);obtain ⟨h1,h2⟩:=anm I1 r1 ty;refine ⟨T,id,pa,slot,Y7,h1,h2,?_⟩;have hA:=ha cpos pins s1 Y H1 _ I1 q1;rw [hs] at hA ⊢
 refine Calls.callWith_builtin (by show (false || (backTo cpos (starEach es X.env)).any (·.1))=false;rw [hplain] <;> rfl) (Calls.evalArgs_plain ?_);exact B5 hA fun us s2 ⟨vs,H2,I2,r2,q2⟩=>hm pins s2 Y H2 x vs v us Q I2 r1 r2 q2
end
end L2
namespace L2
open PySem PySem.Spec PyProof.Rows
def lD(X:Cx)(id:String)(r:V->List V->Hp->VK->Prop):Prop:=
 ∀ (pins:List (Addr×Obj)) (s:Shared) (Y:St) (H:Hp) (x:V) (xs:List V) (v:Value) (us:List Value) (Q:VK),Inv X pins Y H s->RelV x v->Vals xs us->r x xs H Q->
  wpAny (model X.prog X.w) X.A (call (.builtin id) (v::us)) (EP X pins Y Q) X.xe s
theorem Vals.one:∀ {x:V} {us:List Value},Vals [x] us->∃ u,us=[u]/\RelV x u
 | _,_,.cons r .nil=>⟨_,rfl,r⟩
theorem Vals.eraseIdx:∀ {xs:List V} {us:List Value} (i:Nat),Vals xs us->Vals (xs.eraseIdx i) (us.eraseIdx i)
 | _,_,_,.nil=>.nil
 | _,_,0,.cons _ t=>t
 | _,_,i+1,.cons r t=>.cons r (Vals.eraseIdx i t)
theorem Vals.rep(h:Vals xs us):∀ k:Nat,Vals (P1 k xs).flatten (P1 k us).flatten
 | 0=>.nil
 | k+1=>by
  rw [bR,bR,dN,dN];exact Vals.append h (Vals.rep h k)
theorem vG(its:List Value):∀ (k:Nat) (acc:List Value),
  List.foldl (fun x1 x2=>x1++x2) acc.toArray (P1 k its.toArray)=(acc++(P1 k its).flatten).toArray
 | 0,acc=>by simp
 | k+1,acc=>by
  have e:acc.toArray++its.toArray=(acc++its).toArray:=by simp
  have e2:(acc++its)++(P1 k its).flatten=acc++(P1 (k+1) its).flatten:=by
   rw [bR,dN,V2]
  rw [<- e2,<- vG its k (acc++its),<- e,bR,List.foldl_cons]
section
variable {X:Cx} {pins:List (Addr×Obj)} {Y:St} {H:Hp} {s:Shared} {l b:Addr} {xs ys zs:List V}
theorem Inv.lset{its':List Value}{f:Array Value->Array Value}(I:Inv X pins Y H s)(hH:H l=some (.lst xs))(e:s.heap.get? l=some { cls:=.type "list",data:=.seq its.toArray n })(hf:f its.toArray=its'.toArray)(hv:Vals ys its')(hz:ys.length<=sizeLine) :
  Inv X pins Y (A0 H l (.lst ys)) { s with heap:=s.heap.update l (Obj.mapSeq f),toks:=t' }:=by
 have q:=PySem.IsL.update e f;rw [hf] at q;refine I.write (x:=l) (e:=l) (by rw [hH];exact trivial) (.inl rfl) (fun b' u hb hu=>(Heap.get?_update_other s.heap (Obj.mapSeq f) (Ne.symm hb)).trans hu) ⟨_,q⟩ ?_;exact ⟨hz,its',_,hv,q⟩
theorem Inv.lnew(I:Inv X pins Y H s)(hv:Vals ys its)(hz:ys.length<=sizeLine) :
  Inv X pins Y (A0 H s.heap.objs.size (.lst ys)) { s with heap:=s.heap.push { cls:=.type "list",data:=.seq its.toArray },toks:=t' }:=
 I.laid (fun _ _ q=>Heap.get?_push_of_some _ q) (C4 _) ⟨hz,its,0,hv,Heap.get?_push_size _ rfl⟩
theorem Inv.fresh(I:Inv X pins Y H s):H s.heap.objs.size=none:=I.hok.fresh (C4 _)
theorem Inv.lstM(I:Inv X pins Y H s)(hH:H l=some (.lst xs)):xs.length<=sizeLine/\∃ (its:List Value) (n:Nat),Vals xs its/\xs.length=its.length/\s.heap.get? l=some { cls:=.type "list",data:=.seq its.toArray n }:=by
 obtain ⟨z,its,n,r,e⟩:=I.hok l _ hH;exact ⟨z,its,n,r,r.length,e⟩
theorem oU(h:n<=sizeLine):Builtin.List.listTooLong n=false:=by
 unfold Builtin.List.listTooLong;exact decide_eq_false (by lia)
end
section
variable {X:Cx}
def lE:V->List V->Hp->VK->Prop:=fun x vs H Q=>∃ l xs y,x=.ref l/\vs=[y]/\H l=some (.lst xs)/\xs.length<sizeLine/\Q .non (A0 H l (.lst (xs++[y])))
theorem vH:lD X "list.append" lE:=by
 intro pins s Y H x vs v us Q I rx rv h;obtain ⟨l,xs,y,rfl,rfl,hH,hz,q⟩:=h
 cases rx
 obtain ⟨u,rfl,ru⟩:=rv.one;obtain ⟨z,its,n,r,hl,e⟩:=I.lstM hH;refine call_meets F.slot_list_append ⟨_,e,rfl⟩ F.entry_list_append (F.args_list_append_2 _ _) (PySem.list_append l its.toArray n u (by rw [J9];lia)) ⟨e,?_⟩;refine ⟨.non,_,I.lset (its':=its++[u]) hH e (by simp) (r.append (.cons ru .nil)) ?_,rfl,q⟩;rw [D4,b8];lia
def oV:V->List V->Hp->VK->Prop:=fun x vs H Q=>∃ l b xs zs,x=.ref l/\vs=[.ref b]/\H l=some (.lst xs)/\H b=some (.lst zs)/\xs.length+zs.length<=sizeLine/\Q .non (A0 H l (.lst (xs++zs)))
theorem ail:lD X "list.extend" oV:=by
 intro pins s Y H x vs v us Q I rx rv h;obtain ⟨l,b,xs,zs,rfl,rfl,hH,hB,hz,q⟩:=h
 cases rx
 obtain ⟨u,rfl,ru⟩:=rv.one
 cases ru
 obtain ⟨z,its,n,r,hl,e⟩:=I.lstM hH;obtain ⟨z2,its2,n2,r2,i8,e2⟩:=I.lstM hB;have hsz:its.toArray.size+its2.toArray.size<=sizeLine:=by rw [J9,J9];lia
 have U3:¬ (!its.toArray.isEmpty&&Builtin.List.listTooLong (its.toArray.size+its2.toArray.size))=true:=by
  rw [oU hsz,Bool.and_false];exact K3
 refine call_meets F.slot_list_extend ⟨_,e,rfl⟩ F.entry_list_extend (F.args_list_extend_2 _ _)
  (AutoSeq1.list_extend_list_list_0 l its.toArray n b its2.toArray n2 U3 (by rw [J9];lia) (by lia)) ⟨e,e2,?_⟩
 refine ⟨.non,_,I.lset (its':=its++its2) hH e (by simp) (r.append r2) ?_,rfl,q⟩;rw [D4];lia
def rCat:R2:=fun x y H Q=>∃ l b xs zs,x=.ref l/\y=.ref b/\H l=some (.lst xs)/\H b=some (.lst zs)/\xs.length+zs.length<=sizeLine/\∀ p,H p=none->Q (.ref p) (A0 H p (.lst (xs++zs)))
theorem ann:F9 X (binaryOp .Add) rCat:=by
 intro pins s Y H x y v u Q I rx ry h;obtain ⟨l,b,xs,zs,rfl,rfl,hH,hB,hz,q⟩:=h
 cases rx
 cases ry
 obtain ⟨z,its,n,r,hl,e⟩:=I.lstM hH;obtain ⟨z2,its2,n2,r2,i8,e2⟩:=I.lstM hB;refine PySem.P.add_list e e2 ?_ (by rw [J9,J9];lia);have ea:its.toArray++its2.toArray=(its++its2).toArray:=by simp
 rw [ea];exact ⟨.ref _,_,I.lnew (t':=s.toks) (r.append r2) (by rw [D4];lia),rfl,q _ I.fresh⟩
def rRep:R2:=fun x y H Q=>∃ l k xs,x=.ref l/\y=.int k/\H l=some (.lst xs)/\-(2 ^ 63)<=k/\k<2 ^ 63/\xs.length*k.toNat<=sizeLine/\
 ∀ p,H p=none->Q (.ref p) (A0 H p (.lst (P1 k.toNat xs).flatten))
theorem alB{α:Type}(xs:List α)(k:Nat):(P1 k xs).flatten.length=k*xs.length:=by
 induction k with
 | zero=>simp
 | succ k ih=>rw [bR,dN,D4,ih,Nat.succ_mul,Nat.add_comm]
theorem ano:F9 X (binaryOp .Mult) rRep:=by
 intro pins s Y H x y v u Q I rx ry h;obtain ⟨l,k,xs,rfl,rfl,hH,h1,h2,hz,q⟩:=h
 cases rx
 obtain ⟨t,rfl⟩:=ry;obtain ⟨z,its,n,r,hl,e⟩:=I.lstM hH;have A9:its.toArray.size*k.toNat<=sizeLine:=by rw [J9,<- hl];exact hz
 have sH:¬ its.toArray.size*k.toNat > (2 ^ 63-1) / 8:=by
  have:(sizeLine:Nat)<=(2 ^ 63-1) / 8:=by decide
  lia
 have sI:¬ (!Builtin.List.listFitsIndex k)=true:=by
  rw [fitsIndex_both h1 h2];exact K3
 have U3:¬ Builtin.List.listTooLong (its.toArray.size*k.toNat)=true:=by
  rw [oU A9];exact K3
 have P6:List.foldl (fun x1 x2=>x1++x2) #[] (P1 (if its.toArray.isEmpty=true then 0 else k.toNat) its.toArray)=(P1 k.toNat its).flatten.toArray:=by
  have f0:∀ m:Nat,List.foldl (fun x1 x2=>x1++x2) #[] (P1 m its.toArray)=(P1 m its).flatten.toArray:=fun m=>by
   have:=vG its m []
   rw [f6] at this;exact this
  rw [f0]
  cases its with
  | nil=>simp
  | cons a r'=>rw [if_neg (by simp)]
 refine wpAny_binaryOp_repeat_ref (T:="list") (U:="int") (by decide) ⟨_,e,rfl⟩ (fun s'=>typeIs_int s' k t) noFill_list_mul F.fills_int_mul F.slot_int_rmul repeat_list F.slot_int_index.lookup
  (call_meets F.slot_int_rmul (typeIs_int s k t) F.entry_int_rmul (F.args_int_rmul_2 _ _) (int___rmul___int_list k t l its.toArray n)
   ⟨e,rfl,⟨_,e,rfl⟩,call_meets F.slot_list_mul ⟨_,e,rfl⟩ F.entry_list_mul (F.args_list_mul_2 _ _) (AutoListH.list___mul___list_int_3 l its.toArray n k t sI sH U3) ⟨e,?_⟩⟩)
 rw [P6];exact ⟨.ref _,_,I.lnew (t':=s.toks) (r.rep k.toNat) (by rw [alB,Nat.mul_comm];exact hz),rfl,q _ I.fresh⟩
end
section
variable {prog:Program} {w:World} {A:Around} {E:Value->Shared->Prop} {s:Shared}
end
section
variable {X:Cx}
end
end L2
namespace Att
open PySem PySem.W PySem.Calls PyProof.Rows
theorem adB{P:Params} : ∀ (ns:List Int) (vs:List Value),WellAll P h vs (ns.map WData.int)->IntsAre vs ns:=by
 intro ns
 induction ns with
 | nil=>
  intro vs w;rw [p7] at w
  cases w
  exact .nil
 | cons n ns ih=>
  intro vs w;rw [E8] at w
  cases w with
  | cons a b=>
   cases a
   exact .cons _ _ (ih _ b)
theorem aim{l:OpenLaw}(hn:l.most=some n){P:Params}{args:List WData}{vals:List Value}(x3:l.row.toRowW.claim.pre args=true)(sJ:WellAll P h vals args) :
  ∃ a vs ns,vals=[Value.ref a]/\args=[WData.list (ns.map WData.int)]/\h.get? a=some { cls:=.type "list",data:=.seq vs.toArray }/\IntsAre vs ns/\ns.length<=n:=by
 have hsh:WShape.hasAll [] args [.list .int]=true:=(pre_splitW x3).1;have hc:l.pre.holds [] { args:=args }=true:=(pre_splitW x3).2;obtain ⟨d,r,rfl,h1,h2⟩:=hasAllW_cons hsh;obtain rfl:=hasAllW_nil h2;obtain ⟨xs,rfl,h3⟩:=hasW_list h1;obtain ⟨ns,rfl⟩:=items_int h3;have A9:ns.length<=n:=by
  unfold OpenLaw.pre at hc;have h4:(WTm.not (.lt (.lit (.int (n:Int))) (.len (.arg 0)))).holds [] { args:=[.list (ns.map .int)] }=true:=by
   have h4:=(holds_andW hc).1;rw [hn] at h4;exact h4
  have h5:=condW_of h4 (w_not (w_lt w_lit (w_len_list (w_arg rfl))));rw [A8] at h5;refine Nat.le_of_not_lt fun q=>?_
  have q':(n:Int)<((ns.length:Nat):Int):=by lia
  first
   | (rw [decide_eq_true q'] at h5;exact absurd h5 (by decide))
   | (simp at h5;lia)
 cases sJ with
 | cons w1 w2=>
  cases w2
  cases w1 with
  | list ho U4=>exact ⟨_,_,ns,rfl,rfl,ho,adB ns _ U4,A9⟩
theorem ain(l:OpenLaw)(args:List WData):l.row.toRowW.claim.post args (.bool true) args=true:=
 postW_of (r:=l.row.toRowW) (X:=(true==true))
  (show WShape.has [] (.bool true) .bool=true by first | rfl | decide | simp [WShape.has,WShape.arms,WShape.armsAll])
  (show (WTm.eq .res (.lit (.bool true))).value [] { args:=args,res:=some (.bool true),after:=args }=some (.bool (true==true)) from w_eq_bool (w_res rfl) w_lit) rfl
theorem attach_call{l:OpenLaw}{q:Program}{XP:(Str->Option Value)->Heap->Prop}{YP:World->Heap->Prop}{d:DefRec}(hn:l.most=some n)(o0:d.params.defaults=[])(call:∀ (w:World) (s₀ zu:Shared) (mg mb:Str->Option Value) (fa:Addr) (o:Obj) (pm cd doc:Value) (a:Addr) (vs:List Value) (ns:List Int),
   Ground q loose [] XP w s₀ mg mb zu.heap->YP w zu.heap->
   zu.heap.get? fa=some o->o.data=.func (docDef d.name d.params d.body d.scope pm cd doc)->zu.heap.CodeRec cd d.name->mg d.name=some (.ref fa)->
   zu.heap.get? a=some { cls:=.type "list",data:=.seq vs.toArray }->IntsAre vs ns->ns.length<=n->zu.gens=#[]->
   codeAny (model l.prog w) callerA (.call (.ref fa) ⟨[.ref a],[]⟩) (fun r s'=>r=.ok (.ret (.bool true))/\OldK zu.heap s'.heap/\s'.os=zu.os/\AllBare s'.gens) zu) :
  WalkO q loose XP YP l.row.toRowW d [] (fun f vs=>PySem.call f vs):=by
 intro w s₀ zu mg mb G zy fa o pm cd doc dV kV ho hd a0 hD jJ hg args vals as x3 hlay hrd sJ hlo;obtain rfl:dV=.none:=Dflts.none hD o0;obtain rfl:kV=.none:=Dflts.noKw hD;obtain ⟨a,vs,ns,rfl,rfl,cW,i9,A9⟩:=aim hn x3 sJ;refine enter_call (codeAny_mono (call w s₀ zu mg mb fa o pm cd doc a vs ns G zy ho (fd_plain hd) a0 jJ cW i9 A9 hg) fun r s' hq=>?_);obtain ⟨rfl,h2,h3,h4⟩:=hq;exact ⟨.inl ⟨.bool true,.bool true,[],rfl,fun _=>rfl,.bool true,ain l _,fun _=>⟨List.Pairwise.nil,fun _ hm=>(nomatch hm)⟩⟩,h2,h3,h4⟩
section
variable {prog:Program} {w:World} {A:Around} {E:Value->Shared->Prop} {s:Shared} {K:Frag}
end
end Att
namespace L2
open PySem PySem.Spec PyProof.Rows
theorem vI:∀ {vs:List Value} {ns:List Int},IntsAre vs ns->Vals (ns.map V.int) vs
 | _,_,.nil=>.nil
 | _,_,.cons n t h=>.cons ⟨t,rfl⟩ (vI h)
def Only(H:Hp):Prop:=∀ b,H b=none\/∃ o xs,H b=some (.frz o (.lst xs))
theorem ajL{P:Program}{w:World}{mb:Str->Option Value}{CX:Y1}{x:Str}{zu:Shared}{vs:List Value}(KX:K.In zu.heap)(bF:zu.heap.Ns mainGlobals mg)(hb:zu.heap.Ns builtinsNs mb)(hbb:∀ x:Str,x≠"__name__"->mb x=bootBuiltins x)(sK:zu.heap.NoLimit)(hg:zu.gens=#[])(ha:zu.heap.get? a=some { cls:=.type "list",data:=.seq vs.toArray })(hi:IntsAre vs ns)(hl:ns.length<=sizeLine)(hr:Room k callerA)(F:∀ base:Heap,K.In base->base.Ns mainGlobals mg->FnOk P w K mg base CX k fa fd [x] sp)(jK:∀ (s:Shared) (u:Value),BindsTo s fd ⟨[u],[]⟩ [(x,u)])(bE:∀ H:Hp,Only H->C9 K H a (ns.map V.int)->sp [.ref a] H (fun v _=>v=.bl true) fun _ _ _=>False)(hCX:∀ H e s',CX [] H zu (fun _ _ _=>False) e s'->False) :
  codeAny (model P w) callerA (.call (.ref fa) ⟨[.ref a],[]⟩) (fun r s'=>r=.ok (.ret (.bool true))/\OldK zu.heap s'.heap/\s'.os=zu.os/\AllBare s'.gens) zu:=by
 have rv:=vI hi;have lenV:=hi.length;have core:∀ H:Hp,Only H->C9 K H a (ns.map V.int)->L8 P w H zu.heap->(∀ b,H b≠none->b=a)->(H a≠none->K.lookup a=none)->
   codeAny (model P w) callerA (.call (.ref fa) ⟨[.ref a],[]⟩) (fun r s'=>r=.ok (.ret (.bool true))/\OldK zu.heap s'.heap/\s'.os=zu.os/\AllBare s'.gens) zu:=by
  intro H hO hS hok hA hK;have base_of:∀ {b:Addr} {o:Obj},zu.heap.get? b=some o->H b=none->(hidT zu.heap H).get? b=some o:=fun e n=>ajt e n
  have noA:∀ {b:Addr} {o:Obj} {es:Array DictEntry} {ep:Nat},zu.heap.get? b=some o->o.data=.dict es ep->H b=none:=fun {b o es ep} e d=>by
   cases q:H b with
   | none=>rfl
   | some u=>
    have e':b=a:=hA b (by rw [q];simp);subst e';rw [ha] at e;cases e;have d':Data.seq vs.toArray _=Data.dict es ep:=d
    cases d'
  have nsK:∀ {b:Addr} {m:Str->Option Value},zu.heap.Ns b m->(hidT zu.heap H).Ns b m:=fun {b m} ⟨o,es,ep,e,d,r⟩=>⟨o,es,ep,base_of e (noA e d),d,r⟩
  have hKb:K.In (hidT zu.heap H):=fun b o e=>base_of (KX b o e) (by
   cases q:H b with
   | none=>rfl
   | some u=>
    have e':b=a:=hA b (by rw [q];simp);subst e';rw [hK (by rw [q];simp)] at e;cases e)
  have hM:Mod K mg (hidT zu.heap H):=⟨hKb,nsK bF,⟨mb,nsK hb,hbb⟩,let ⟨mc,h1,h2⟩:=sK;⟨mc,nsK h1,h2⟩⟩
  have e0:Env0 P w K mg (hidT zu.heap H) callerA [] zu H:=⟨rfl,hM,fun b o e=>ala e,Nat.le_of_eq (ah2 _ _),trivial,fun b hb=>absurd (show b∈([]:List Addr) from hb) (by simp),hok,.of_eq hg⟩
  refine codeAny_mono ((F _ hKb (nsK bF)).run callerA [] zu H ⟨[.ref a],[]⟩ [.ref a] [.ref a] _ _ hr e0 (jK zu (.ref a)) (.cons rfl .nil) (bE H hO hS)) fun r s' h=>?_
  cases r with
  | error e=>exact (hCX H e s' h).elim
  | ok fl=>
   cases fl with
   | next=>exact False.elim h
   | brk=>exact False.elim h
   | cont=>exact False.elim h
   | ret u=>
    obtain ⟨v,H',os,bare,un,sL,r',q⟩:=h;have q':v=.bl true:=q;subst q';obtain rfl:u=Value.bool true:=r';refine ⟨rfl,OldK.of_keep fun b o e=>?_,os,bare⟩
    cases q:H b with
    | none=>exact un.keep b o e q (by intro z;exact absurd (show b∈([]:List Addr) from z) (by simp)) (by simp)
    | some u=>
     rcases hO b with z | ⟨ob,xs,z⟩
     .rw [q] at z;cases z
     .have z2:=un.frzs b ob _ z;obtain ⟨e1,_⟩:=hok b _ z;obtain ⟨e2,_⟩:=sL b _ z2;rw [e] at e1;cases e1;exact e2
 cases hk:K.lookup a with
 | some o=>
  have e:=KX a o hk;rw [ha] at e;cases e;refine core (fun _=>none) (fun _=>.inl rfl) (.inr ⟨_,vs.toArray,_,hk,rfl,rfl,rfl,by rw [J9,lenV];exact hl,by simpa using rv⟩) (fun b u z=>by have z':(none:Option HO)=some u:=z;cases z') (fun b z=>absurd rfl z) fun z=>absurd rfl z
 | none=>
  refine core (fun b=>if b=a then some (.frz { cls:=.type "list",data:=.seq vs.toArray } (.lst (ns.map V.int))) else none) (fun b=>?_) (.inl (.inr ⟨{ cls:=.type "list",data:=.seq vs.toArray },if_pos rfl⟩)) (fun b u z=>?_) (fun b z=>?_) fun _=>hk
  .by_cases hb:b=a
   .exact .inr ⟨_,_,if_pos hb⟩
   .exact .inl (if_neg hb)
  .by_cases hb:b=a
   .have z':=(if_pos hb).symm.trans z
    cases z'
    subst hb;exact ⟨ha,by rw [A8];exact hl,vs,_,rv,ha⟩
   .have z':=(if_neg hb).symm.trans z
    cases z'
  .by_cases hb:b=a
   .exact hb
   .exact absurd (if_neg hb) z
end L2
namespace L2
open PySem PySem.Spec PyProof.Rows
theorem walk_of{l:PySem.W.OpenLaw}{q:Program}{XP:(Str->Option Value)->Heap->Prop}{YP:World->Heap->Prop}{d:DefRec}{K:Params->PySem.W.Frag}{CX:World->Y1}{sp:World->Sp}{x:Str}(hn:l.most=some n)(nE:n<=sizeLine)(o0:d.params.defaults=[])(hr:Room k callerA)(hY:∀ (w:World) (h:Heap),YP w h->(K w.params).In h)(F:∀ (w:World) (mg:Str->Option Value) (fa:Addr) (h:Heap),(K w.params).In h->h.Ns mainGlobals mg->mg d.name=some (.ref fa)->
   ∃ fd:FuncData,(∀ (s:Shared) (u:Value),BindsTo s fd ⟨[u],[]⟩ [(x,u)])/\
    ∀ base:Heap,(K w.params).In base->base.Ns mainGlobals mg->FnOk l.prog w (K w.params) mg base (CX w) k fa fd [x] (sp w))(bE:∀ (w:World) (H:Hp) (a:Addr) (ns:List Int),ns.length<=n->Only H->C9 (K w.params) H a (ns.map V.int)->sp w [.ref a] H (fun v _=>v=.bl true) fun _ _ _=>False)(hCX:∀ (w:World) (H:Hp) (s:Shared) (e:Value) (s':Shared),CX w [] H s (fun _ _ _=>False) e s'->False) :
  PySem.W.WalkO q loose XP YP l.row.toRowW d [] (fun f vs=>PySem.call f vs):=by
 refine Att.attach_call hn o0 fun w s₀ zu mg mb fa o pm cd doc a vs ns G zy ho hd a0 jJ cW i9 A9 hg=>?_
 have KX:=hY w _ zy;obtain ⟨fd,hb,hF⟩:=F w mg fa _ KX G.T.g jJ;exact ajL KX G.T.g G.T.b G.T.builtins G.T.nolimit hg cW i9 (M6 A9 nE) hr hF hb (fun H hO hS=>bE w H a ns A9 hO hS) fun H e s'=>hCX w H zu e s'
end L2
namespace L2
open PySem PySem.Spec PyProof.Rows
def dY(s:Stmt)(j:Nat):Stmt:=match s with
 | .ClassDef _ _ _ body _ _ _ _ _ _ _=>body.getD j (.Pass ⟨0,0,0,0⟩)
 | _=>.Pass ⟨0,0,0,0⟩
def R8(s:Stmt):Arguments:=match s with
 | .FunctionDef _ a _ _ _ _ _ _ _ _=>a
 | _=>{ posonlyargs:=[],args:=[],vararg:=none,kwonlyargs:=[],kw_defaults:=[],kwarg:=none,defaults:=[] }
def R0(s:Stmt):List Stmt:=match s with
 | .FunctionDef _ _ b _ _ _ _ _ _ _=>b
 | _=>[]
def C6(s:Stmt):Scope:=match s with
 | .FunctionDef _ _ _ _ _ _ sc _ _ _=>sc
 | _=>{ kind:=.function,names:=[],isGenerator:=false,isCoroutine:=false }
abbrev E1:Y1:=fun _ _ _ _ _ _=>False
abbrev E0:XK:=fun _ _ _=>False
theorem pass0 : bW E1 X E0:=fun _ _ _ _ _ _ _ h=>h.elim
structure Fun(K:PySem.W.Frag)(x qual:Str)(st:Stmt)(f:Addr)(fd:FuncData):Prop where
 ex:∃ (oc:Value) (od:Option Addr) (kV doc pm:Value) (an:Option Addr) (cdv ct:Value) (osl:Array (Option Value)),
  fd=Q5 x qual (R8 st) (R0 st) (C6 st) .none kV doc pm an cdv ct/\K.lookup f=some ⟨oc,od,.func fd,osl⟩/\V3 K cdv qual=true
 kp:R6 K (.ref f)=true
section
variable {P:Program} {w:World} {K:PySem.W.Frag} {mg:Str->Option Value} {base:Heap}
end
theorem hu_of(hr:Room k A):A.units+1<cLine:=Nat.lt_of_le_of_lt (Nat.add_le_add_left (by decide:1<=64) _) hr.units
section
variable {X:Cx}
end
theorem iteF{A B:Prop}(h:B):if false=true then A else B:=by
 rw [if_neg K3];exact h
theorem iteT{A B:Prop}(h:A):if true=true then A else B:=by
 rw [if_pos rfl];exact h
def Same(H H':Hp):Prop:=∀ b o,H b=some o->H' b=some o
theorem lF(H:Hp):Same H H:=fun _ _ h=>h
theorem Same.trans(a:Same H H1)(b:Same H1 H2):Same H H2:=fun c o h=>b c o (a c o h)
theorem Same.free(e:Same H H'){l:Addr}(h:H' l=Option.none):H l=Option.none:=by
 cases q:H l with
 | none=>rfl
 | some o=>
  rw [e l o q] at h;cases h
theorem Same.seq(e:Same H H')(h:C9 K H a xs):C9 K H' a xs:=by
 rcases h with (h | ⟨o,h⟩) | h
 .exact .inl (.inl (e _ _ h))
 .exact .inl (.inr ⟨o,e _ _ h⟩)
 .exact .inr h
end L2
set_option maxRecDepth 100000
namespace L2
open PySem PySem.Spec PyProof.Rows
section
variable {κ:Type} [DecidableEq κ]
def valV(kvs:List (κ×V))(k:κ):Option V:=(kvs.find? fun kv=>decide (kv.1=k)).map (·.2)
def putK(kvs:List (κ×V))(k:κ)(v:V):List (κ×V):=
 if (kvs.any fun kv=>decide (kv.1=k))=true then kvs.map (fun kv=>if kv.1=k then (kv.1,v) else kv) else kvs++[(k,v)]
theorem Z5{p:κ×V}{r:List (κ×V)}{k:κ}(e:p.1=k):valV (p::r) k=some p.2:=by simp [valV,k5,e]
theorem R9{p:κ×V}{r:List (κ×V)}{k:κ}(e:¬ p.1=k):valV (p::r) k=valV r k:=by simp [valV,k5,e]
theorem gT(k:κ):∀ kvs:List (κ×V),(kvs.any fun kv=>decide (kv.1=k))=(valV kvs k).isSome
 | []=>rfl
 | p::r=>by
  rw [Z0]
  by_cases e:p.1=k
  .simp only [Z5 e,decide_eq_true e,Bool.true_or,Option.isSome_some]
  .rw [R9 e,decide_eq_false e,Bool.false_or];exact gT k r
theorem vJ(k j:κ)(y:V):∀ kvs:List (κ×V),valV (kvs.map fun kv=>if kv.1=k then (kv.1,y) else kv) j=(valV kvs j).map fun x=>if j=k then y else x
 | []=>rfl
 | p::r=>by
  have ih:=vJ k j y r;rw [E8]
  by_cases h:p.1=k
  .rw [if_pos h]
   by_cases e:p.1=j
   .rw [Z5 (p:=(p.1,y)) e,Z5 e,Option.map_some,if_pos (e.symm.trans h)]
   .rw [R9 (p:=(p.1,y)) e,R9 e,ih]
  .rw [if_neg h]
   by_cases e:p.1=j
   .rw [Z5 (p:=p) e,Z5 e,Option.map_some,if_neg (fun z=>h (e.trans z))]
   .rw [R9 (p:=p) e,R9 e,ih]
theorem vK(k j:κ)(y:V):∀ kvs:List (κ×V),valV kvs k=none->valV (kvs++[(k,y)]) j=if j=k then some y else valV kvs j
 | [],_=>by
  by_cases e:k=j
  .rw [if_pos e.symm];exact Z5 (p:=(k,y)) e
  .rw [if_neg (fun z=>e z.symm)];exact R9 (p:=(k,y)) e
 | p::r,hn=>by
  rw [W3];have hk:¬ p.1=k:=fun z=>by rw [Z5 z] at hn;cases hn
  rw [R9 hk] at hn;have ih:=vK k j y r hn
  by_cases e:p.1=j
  .rw [Z5 e,Z5 e,if_neg (fun z=>hk (e.trans z))]
  .rw [R9 e,R9 e,ih]
theorem oW(kvs:List (κ×V))(k j:κ)(y:V):valV (putK kvs k y) j=if j=k then some y else valV kvs j:=by
 unfold putK
 by_cases a:(kvs.any fun kv=>decide (kv.1=k))=true
 .rw [if_pos a,vJ];rw [gT] at a
  by_cases e:j=k
  .obtain ⟨x,hx⟩:=Option.isSome_iff_exists.mp a;rw [if_pos e,e,hx,Option.map_some,if_pos rfl]
  .rw [if_neg e]
   cases valV kvs j with
   | none=>rfl
   | some x=>rw [Option.map_some,if_neg e]
 .rw [if_neg a];refine vK k j y kvs ?_;rw [gT] at a
  cases q:valV kvs k with
  | none=>rfl
  | some x=>rw [q] at a;exact (a rfl).elim
theorem oX(kvs:List (κ×V))(k:κ)(v:V):(putK kvs k v).length<=kvs.length+1:=by
 unfold putK
 split
 .rw [A8];lia
 .rw [D4,J7,f7];lia
theorem ajM{kvs:List (κ×V)}{k:κ}(v:V)(h:valV kvs k=none):putK kvs k v=kvs++[(k,v)]:=by
 unfold putK;rw [gT,h];exact if_neg (by decide)
theorem RelO.isSome_eq{o:Option V}{u:Option Value}(r:RelO o u):o.isSome=u.isSome:=by
 cases o with
 | none=>cases u with
  | none=>rfl
  | some _=>exact (show False from r).elim
 | some _=>cases u with
  | none=>exact (show False from r).elim
  | some _=>rfl
theorem RelO.getD{o:Option V}{u:Option Value}{d:V}{d':Value}(r:RelO o u)(rd:RelV d d'):RelV (o.getD d) (u.getD d'):=by
 cases o with
 | none=>cases u with
  | none=>exact rd
  | some _=>exact (show False from r).elim
 | some _=>cases u with
  | none=>exact (show False from r).elim
  | some _=>exact r
theorem KV.val{kvs:List (κ×V)}{vs:List (κ×Value)}(r:KV kvs vs)(k:κ):RelO (valV kvs k) (valueAt vs k):=by
 unfold KV at r
 induction r with
 | nil=>exact True.intro
 | @cons p q ps qs h t ih=>
  obtain ⟨h1,h2⟩:=h
  by_cases e:p.1=k
  .have e':q.1=k:=h1.symm.trans e;have b:valueAt (q::qs) k=some q.2:=by simp [valueAt,k5,e']
   rw [Z5 e,b];exact h2
  .have e':¬ q.1=k:=fun z=>e (h1.trans z)
   have b:valueAt (q::qs) k=valueAt qs k:=by simp [valueAt,k5,e']
   rw [R9 e,b];exact ih
theorem KV.any{kvs:List (κ×V)}{vs:List (κ×Value)}(r:KV kvs vs)(k:κ):(kvs.any fun kv=>decide (kv.1=k))=vs.any fun kv=>decide (kv.1=k):=by
 unfold KV at r
 induction r with
 | nil=>rfl
 | cons h t ih=>rw [Z0,Z0,ih,h.1]
theorem KV.repl{kvs:List (κ×V)}{vs:List (κ×Value)}(r:KV kvs vs)(k:κ){y:V}(ry:RelV y u) :
  KV (kvs.map fun kv=>if kv.1=k then (kv.1,y) else kv) (vs.map fun kv=>if kv.1=k then (kv.1,u) else kv):=by
 unfold KV at r ⊢
 induction r with
 | nil=>exact .nil
 | @cons p q ps qs h t ih=>
  rw [E8,E8];refine .cons ?_ ih;obtain ⟨h1,h2⟩:=h
  by_cases e:p.1=k
  .rw [if_pos e,if_pos (h1.symm.trans e)];exact ⟨h1,ry⟩
  .rw [if_neg e,if_neg (fun z=>e (h1.trans z))];exact ⟨h1,h2⟩
theorem KV.put{kvs:List (κ×V)}{vs:List (κ×Value)}(r:KV kvs vs)(k:κ){y:V}(ry:RelV y u):KV (putK kvs k y) (stored vs k u):=by
 unfold putK stored;rw [r.any k]
 by_cases e:(vs.any fun kv=>decide (kv.1=k))=true
 .rw [if_pos e,if_pos e];exact r.repl k ry
 .rw [if_neg e,if_neg e];exact Paired.snoc r ⟨rfl,ry⟩
theorem KV.keys{kvs:List (κ×V)}{vs:List (κ×Value)}(r:KV kvs vs):kvs.map (·.1)=vs.map (·.1):=by
 unfold KV at r
 induction r with
 | nil=>rfl
 | cons h t ih=>rw [E8,E8,ih,h.1]
theorem KV.length{kvs:List (κ×V)}{vs:List (κ×Value)}(r:KV kvs vs):kvs.length=vs.length:=Paired.length r
end
theorem kV_is{P:Program}{w:World}{k:B1}(r:RelV (kV k) u):(M9 P w).is k u=true:=by
 cases k with
 | inl i=>obtain ⟨t,e⟩:=(show ∃ t,u=Value.int i t from r);subst e;exact agc P w i t
 | inr x=>obtain ⟨t,e⟩:=(show ∃ t,u=Value.str x t from r);subst e;exact agd P w x t
theorem vL{P:Program}{w:World} : ∀ {ks:List B1} {us:List Value},Vals (ks.map kV) us->ItemsAre (M9 P w) ks us
 | [],_,r=>by rw [p7] at r;cases r;exact .nil
 | k::ks,_,r=>by
  rw [E8] at r
  cases r with
  | cons h t=>exact .cons (kV_is h) (vL t)
abbrev KT(H:Hp):List (List B1×V)->List (List B1×Addr×Value)->Prop:=Paired fun p q=>p.1=q.1/\H q.2.1=some (.tup (p.1.map kV))/\RelV p.2 q.2.2
theorem KT.val{kvs:List (List B1×V)}{xs:List (List B1×Addr×Value)}(r:KT H kvs xs)(k:List B1):RelO (valV kvs k) ((atKey xs k).map (·.2)):=by
 induction r with
 | nil=>exact True.intro
 | @cons p q ps qs h t ih=>
  obtain ⟨h1,_,h2⟩:=h
  by_cases e:p.1=k
  .have e':q.1=k:=h1.symm.trans e;have b:atKey (q::qs) k=some q.2:=by simp [atKey,k5,e']
   rw [Z5 e,b];exact h2
  .have e':¬ q.1=k:=fun z=>e (h1.trans z)
   have b:atKey (q::qs) k=atKey qs k:=by simp [atKey,k5,e']
   rw [R9 e,b];exact ih
theorem KT.repl{kvs:List (List B1×V)}{xs:List (List B1×Addr×Value)}(r:KT H kvs xs)(k:List B1){y:V}(ry:RelV y u) :
  KT H (kvs.map fun kv=>if kv.1=k then (kv.1,y) else kv) (xs.map (putAt k u)):=by
 induction r with
 | nil=>exact .nil
 | @cons p q ps qs h t ih=>
  rw [E8,E8];refine .cons ?_ ih;obtain ⟨h1,h2,h3⟩:=h;unfold putAt
  by_cases e:p.1=k
  .rw [if_pos e,if_pos (h1.symm.trans e)];exact ⟨h1,h2,ry⟩
  .rw [if_neg e,if_neg (fun z=>e (h1.trans z))];exact ⟨h1,h2,h3⟩
theorem KT.put{kvs:List (List B1×V)}{xs:List (List B1×Addr×Value)}(r:KT H kvs xs)(k:List B1){y:V}(hb:H b=some (.tup (k.map kV)))(ry:RelV y u) :
  KT H (putK kvs k y) (storedH xs k b u):=by
 have e:(kvs.any fun kv=>decide (kv.1=k))=(atKey xs k).isSome:=by
  rw [gT,(r.val k).isSome_eq,Option.isSome_map]
 unfold putK storedH;rw [e]
 by_cases q:(atKey xs k).isSome=true
 .rw [if_pos q,if_pos q];exact r.repl k ry
 .rw [if_neg q,if_neg q];exact Paired.snoc r ⟨rfl,hb,ry⟩
theorem KT.keeps{kvs:List (List B1×V)}{xs:List (List B1×Addr×Value)}(r:KT H kvs xs)(ht:∀ b ys,H b=some (.tup ys)->H' b=some (.tup ys)):KT H' kvs xs:=
 R7 r fun _ _ z=>⟨z.1,ht _ _ z.2.1,z.2.2⟩
section
variable {P:Program} {w:World} {H:Hp} {h:Heap} {a:Addr}
theorem rd_of{u:HO}(ok:L8 P w H h)(e:Rd H a u):ObjOk P w H h a u:=e.ok ok
theorem dk_rd(ok:L8 P w H h)(e:Rd H a (.dK kvs)):kvs.length<=sizeLine/\(a==sysModules)=false/\∃ vs,KV kvs vs/\h.DictOf (M9 P w) a vs:=
 show ObjOk P w H h a (.dK kvs) from rd_of ok e
theorem dk_of(ok:L8 P w H h)(e:H a=some (.dK kvs)):kvs.length<=sizeLine/\(a==sysModules)=false/\∃ vs,KV kvs vs/\h.DictOf (M9 P w) a vs:=dk_rd ok (.inl e)
theorem bZ{ks:List B1}(ok:L8 P w H h)(e:H a=some (.tup (ks.map kV))):(tupleKind (M9 P w)).is h ks a:=by
 obtain ⟨_,its,r,o,h1,h2,n,h3⟩:=(show ObjOk P w H h a (.tup (ks.map kV)) from ok a _ e)
 exact ⟨o,its.toArray,n,h1,h2,h3,by simpa using vL r⟩
theorem dt_rd{kvs:List (List B1×V)}(ok:L8 P w H h)(e:Rd H a (.dT kvs)):kvs.length<=sizeLine/\(a==sysModules)=false/\
  ∃ xs,KT H kvs xs/\h.DictOfH (tupleKind (M9 P w)) a xs:=by
 obtain ⟨z,y,xs,r,o,es,ep,h1,h2,h3,h4,h5⟩:=(show ObjOk P w H h a (.dT kvs) from rd_of ok e)
 refine ⟨z,y,xs,r,o,es,ep,h1,h2,h3,h4,fun x hx=>?_,h5⟩;have all:∀ {l:List (List B1×V)} {m:List (List B1×Addr×Value)},KT H l m->∀ x∈m,(tupleKind (M9 P w)).is h x.1 x.2.1:=by
  intro l m q
  induction q with
  | nil=>intro x hx;exact nomatch hx
  | @cons p q ps qs hq t ih=>
   intro x hx
   rcases E7.mp hx with e | hx
   .subst e;exact bZ ok (by rw [<- hq.1];exact hq.2.1)
   .exact ih x hx
 exact all r x hx
theorem dt_of{kvs:List (List B1×V)}(ok:L8 P w H h)(e:H a=some (.dT kvs)):kvs.length<=sizeLine/\(a==sysModules)=false/\
  ∃ xs,KT H kvs xs/\h.DictOfH (tupleKind (M9 P w)) a xs:=dt_rd ok (.inl e)
end
def DGet(H:Hp)(a:Addr)(y:V)(r:Option V):Prop:=
 (∃ kvs k,Rd H a (.dK kvs)/\y=kV k/\r=valV kvs k)\/∃ kvs k b,Rd H a (.dT kvs)/\y=.ref b/\H b=some (.tup (k.map kV))/\r=valV kvs k
def DPut(H:Hp)(a:Addr)(y v:V)(H':Hp):Prop:=
 (∃ kvs k,H a=some (.dK kvs)/\y=kV k/\kvs.length<sizeLine/\H'=A0 H a (.dK (putK kvs k v)))\/
 ∃ kvs k b,H a=some (.dT kvs)/\y=.ref b/\H b=some (.tup (k.map kV))/\kvs.length<sizeLine/\H'=A0 H a (.dT (putK kvs k v))
theorem V6{k:B1}(e:H a=some (.dK kvs)):DGet H a (kV k) (valV kvs k):=.inl ⟨kvs,k,.inl e,rfl,rfl⟩
theorem aO{k:B1}{v:V}(e:H a=some (.dK kvs))(hl:kvs.length<sizeLine):DPut H a (kV k) v (A0 H a (.dK (putK kvs k v))):=.inl ⟨kvs,k,e,rfl,hl,rfl⟩
section
variable {X:Cx} {pins:List (Addr×Obj)} {Y:St} {H:Hp} {s:Shared} {a:Addr} {y v:V} {u r:Value} {o:Option V} {A:Around} {E:Value->Shared->Prop}
theorem Inv.big(I:Inv X pins Y H s):sysModules<s.heap.objs.size:=by
 have h:mainGlobals<s.heap.objs.size:=(I.mod.glob.keeps I.bk).lt;exact Nat.lt_trans (by decide) h
theorem vM{Q:Value->Shared->Prop}(hu:A.units+1<cLine)(I:Inv X pins Y H s)(g:DGet H a y (some v))(ry:RelV y u)(h:∀ w' s',Inv X pins Y H s'->RelV v w'->Q w' s') :
  wpAny (model X.prog X.w) A (getItem (.ref a) u) Q E s:=by
 rcases g with ⟨kvs,k,e,ey,l⟩ | ⟨kvs,k,b,e,ey,eb,l⟩
 .subst ey;obtain ⟨z,hd,vs,rel,dd⟩:=dk_rd I.hok e;obtain ⟨w',hw,rw'⟩:=kZ (v:=v) (o:=valueAt vs k) (by rw [l];exact rel.val k);exact wpAny_getItem_of (kV_is ry) dd.mapOf hw (h w' _ (I.tok _) rw')
 .subst ey
  cases (show u=Value.ref b from ry)
  obtain ⟨z,hd,xs,rel,dd⟩:=dt_rd I.hok e;obtain ⟨w',hw,rw'⟩:=kZ (v:=v) (o:=(atKey xs k).map (·.2)) (by rw [l];exact rel.val k);obtain ⟨p,hp,fJ⟩:=Option.map_eq_some_iff.mp hw;refine wpAny_getItem_heap (tupleKind_room_in1 hu) (bZ I.hok eb) dd hp ?_;rw [fJ];exact h w' _ (I.tok _) rw'
theorem d_in{Q:Value->Shared->Prop}(hu:A.units+1<cLine)(I:Inv X pins Y H s)(g:DGet H a y o)(ry:RelV y u)(h:∀ s',Inv X pins Y H s'->Q (.bool o.isSome) s') :
  wpAny (model X.prog X.w) A (compareOp .In u (.ref a)) Q E s:=by
 rcases g with ⟨kvs,k,e,ey,l⟩ | ⟨kvs,k,b,e,ey,eb,l⟩
 .subst ey;obtain ⟨z,hd,vs,rel,dd⟩:=dk_rd I.hok e;refine wpAny_in_of (kV_is ry) hd dd.mapOf ?_;rw [<- (rel.val k).isSome_eq,<- l];exact h _ (I.tok _)
 .subst ey
  cases (show u=Value.ref b from ry)
  obtain ⟨z,hd,xs,rel,dd⟩:=dt_rd I.hok e;refine wpAny_in_heap (tupleKind_room_in1 hu) (bZ I.hok eb) hd dd ?_;have q:=(rel.val k).isSome_eq;rw [Option.isSome_map] at q;rw [<- q,<- l];exact h _ (I.tok _)
theorem alC{Q:Value->Shared->Prop}(hu:A.units+1<cLine)(I:Inv X pins Y H s)(g:DGet H a y o)(ry:RelV y u)(h:∀ s',Inv X pins Y H s'->Q (.bool (!o.isSome)) s') :
  wpAny (model X.prog X.w) A (compareOp .NotIn u (.ref a)) Q E s:=by
 rcases g with ⟨kvs,k,e,ey,l⟩ | ⟨kvs,k,b,e,ey,eb,l⟩
 .subst ey;obtain ⟨z,hd,vs,rel,dd⟩:=dk_rd I.hok e;refine wpAny_notIn_of (kV_is ry) hd dd.mapOf ?_;rw [<- (rel.val k).isSome_eq,<- l];exact h _ (I.tok _)
 .subst ey
  cases (show u=Value.ref b from ry)
  obtain ⟨z,hd,xs,rel,dd⟩:=dt_rd I.hok e;refine wpAny_notIn_heap (tupleKind_room_in1 hu) (bZ I.hok eb) hd dd ?_;have q:=(rel.val k).isSome_eq;rw [Option.isSome_map] at q;rw [<- q,<- l];exact h _ (I.tok _)
theorem lG{ob:HO}(I:Inv X pins Y H s)(mu:gM (H a))(hs:Heap.SameBut a s.heap h')(he:∃ q,h'.get? a=some q)(new:ObjOk X.prog X.w (A0 H a ob) h' a ob) :
  Inv X pins Y (A0 H a ob) { s with heap:=h',toks:=t' }:=
 I.write (x:=a) (e:=a) mu (.inl rfl) (fun b q hb z=>(hs.2 b hb).trans z) he new
theorem lH{P:Program}{w:World}{vs:List (B1×Value)}(z:kvs.length<=sizeLine)(hd:(a==sysModules)=false)(rel:KV kvs vs)(dd:h'.DictOf (M9 P w) a vs) :
  ObjOk P w H' h' a (.dK kvs):=⟨z,hd,vs,rel,dd⟩
theorem vN{Q:Unit->Shared->Prop}(hu:A.units+1<cLine)(I:Inv X pins Y H s)(g:DPut H a y v H')(ry:RelV y u)(rv:RelV v r)(h:∀ s',Inv X pins Y H' s'->Q () s') :
  wpAny (model X.prog X.w) A (setItem (.ref a) u r) Q E s:=by
 rcases g with ⟨kvs,k,e,ey,l,eH⟩ | ⟨kvs,k,b,e,ey,eb,l,eH⟩
 .subst ey eH;obtain ⟨z,hd,vs,rel,dd⟩:=dk_of I.hok e;have hz:vs.length<=sizeLine:=by rw [<- rel.length];exact z
  have hl:(putK kvs k v).length<=sizeLine:=by have:=oX kvs k v;lia
  refine wpAny_setItem_pairs (hsz:=hz) (kV_is ry) dd fun h' dd' hs=>h _ ?_
  have he:∃ q,h'.get? a=some q:=let ⟨q,_,_,hq,_⟩:=dd';⟨q,hq⟩
  exact lG I (by rw [e];exact True.intro) hs he (lH hl hd (rel.put k rv) dd')
 .subst ey eH
  cases (show u=Value.ref b from ry)
  obtain ⟨z,hd,xs,rel,dd⟩:=dt_of I.hok e;have hz:xs.length<=sizeLine:=by rw [<- Paired.length rel];exact z
  have hl:(putK kvs k v).length<=sizeLine:=by have:=oX kvs k v;lia
  refine wpAny_setItem_heap (hsz:=hz) (tupleKind_room_in1 hu) (bZ I.hok eb) dd fun h' dd' hs=>h _ ?_
  obtain ⟨q,es,ep,hq,h2,h3,h4,_,h5⟩:=dd';refine lG I (by rw [e];exact True.intro) hs ⟨q,hq⟩ ⟨hl,hd,_,(rel.put k eb rv).keeps fun c ys ec=>?_,q,es,ep,hq,h2,h3,h4,h5⟩;rw [B3 (ne_of ec e (fun z=>nomatch z))];exact ec
end
section
variable {X:Cx} {pins:List (Addr×Obj)} {Y:St} {H:Hp} {s:Shared} {a:Addr} {kvs:List (B1×V)} {k:B1} {u:Value} {A:Around} {E:Value->Shared->Prop}
theorem d_len{Q:Value->Shared->Prop}(I:Inv X pins Y H s)(e:Rd H a (.dK kvs))(h:∀ t s',Inv X pins Y H s'->Q (.int kvs.length t) s'):wpAny (model X.prog X.w) A (call (.builtin "len") [.ref a]) Q E s:=by
 obtain ⟨z,hd,vs,rel,dd⟩:=dk_rd I.hok e;refine call_len_dict hd dd (by rw [<- rel.length];rw [sizeLine_eq] at z;lia) ?_;rw [<- rel.length];exact h _ _ (I.tok _)
end
def NoSl(i:Expr):Prop:=∀ ov iv,subscripted i false ov iv=operate [ov,iv] (getItem ov iv)
theorem vO{w:World}{env:Env}{value slice:Expr}{pos:Pos}{T id:String}{Q:Value->Shared->Prop}(hl:typeLookup (.type T) "__getitem__"=pure (some (.builtin id)))(hs:NoSl slice)(h:wpAny (model prog w) A (eval value env) (fun o zu=>wpAny (model prog w) A (eval slice env) (fun i zx=>zx.TypeIs o T/\wpAny (model prog w) A (getItem o i) Q E zx) E zu) E s) :
  wpAny (model prog w) A (eval (.Subscript value slice pos) env) Q E s:=by
 refine Subscript_ (wpAny_mono h (fun o zu zr=>wpAny_mono zr (fun i zx zq=>?_) fun _ _ x=>x) fun _ _ x=>x);obtain ⟨hT,zq⟩:=zq;unfold subscriptTail;refine wpAny_bind ?_;rw [getitemInPython_of_ne hT.not_modules];refine wpAny_bind (wpAny_specialOf hT hl ?_);have fin:wpAny (model prog w) A (subscripted slice false o i) (fun r zw=>wpAny (model prog w) A (letTemporaryGo value o r >>= fun _=>pure r) Q E zw) E zx:=by
  rw [hs o i];exact wpAny_operating (wpAny_mono zq (fun r zw zp=>wpAny_bind (wpAny_letTemporaryGo (wpAny_pure zp))) fun _ _ x=>x)
 first
  | exact wpAny_pure (wpAny_bind fin)
  | exact wpAny_bind (wpAny_pure (wpAny_bind fin))
  | exact wpAny_bind fin
theorem agj{y:V}{o:Option V}(I:Inv X pins Y H s)(g:DGet H a y o):s.TypeIs (.ref a) "dict":=by
 rcases g with ⟨kvs,k,e,_,_⟩ | ⟨kvs,k,b,e,_,_,_⟩
 .obtain ⟨_,_,vs,_,dd⟩:=dk_rd I.hok e;exact dd.typeIs
 .obtain ⟨_,_,xs,_,dd⟩:=dt_rd I.hok e;exact dd.typeIs
def tDGet(td ty:TE):TE:=fun Y H Q=>td Y H fun x H1=>ty Y H1 fun y H2=>∃ a v,x=.ref a/\DGet H2 a y (some v)/\Q v H2
def sDPut(td ty tv:TE):TS:=fun D Y H=>tv Y H fun v H1=>td Y H1 fun x H2=>ty Y H2 fun y H3=>∃ a H4,x=.ref a/\DPut H3 a y v H4/\D.nx Y H4
def sDAug(td ty tv:TE)(rd:V->V->Hp->VK->Prop):TS:=fun D Y H=>td Y H fun x H1=>ty Y H1 fun y H2=>∃ a v,x=.ref a/\DGet H2 a y (some v)/\
 tv Y H2 fun y2 H3=>rd v y2 H3 fun z H4=>∃ H5,DPut H4 a y z H5/\D.nx Y H5
section
variable {X:Cx} {o i e value:Expr} {pos pos' tpos:Pos} {td ty tv:TE}
theorem alD(hu:X.A.units+1<cLine)(ho:PE X o td)(hi:PE X i ty)(hs:NoSl i):PE X (.Subscript o i pos) (tDGet td ty):=by
 intro pins s Y H Q I h;refine vO PySem.F.slot_dict_getitem.lookup hs (B5 (ho pins s Y H _ I h) fun u s1 ⟨x,H1,I1,rx,q1⟩=>B5 (hi pins s1 Y H1 _ I1 q1) fun iv s2 ⟨y,H2,I2,ry,a,v,ex,g,q2⟩=>?_);subst ex;obtain rfl:u=Value.ref a:=rx;exact ⟨agj I2 g,vM hu I2 g ry fun w' s3 I3 rw'=>⟨v,H2,I3,rw',q2⟩⟩
theorem alE(hu:X.A.units+1<cLine)(ho:PE X o td)(hi:PE X i ty)(hv:PE X value tv)(hs:swapsWith value (some (.Subscript o i pos')) pos.line X.env=pure false) :
  PS X (.Assign [.Subscript o i pos'] value pos) (sDPut td ty tv):=by
 intro pins s Y H D I h;refine wpAny_Assign_Subscript (B5 (hv pins s Y H _ I h) fun r s1 ⟨v,H1,I1,rv,q1⟩=>B5 (ho pins s1 Y H1 _ I1 q1) fun u s2 ⟨x,H2,I2,rx,q2⟩=>B5 (hi pins s2 Y H2 _ I2 q2) fun iv s3 ⟨y,H3,I3,ry,a,H4,ex,g,q3⟩=>?_) hs;subst ex;obtain rfl:u=Value.ref a:=rx;exact vN hu I3 g ry rv fun s4 I4=>⟨Y,H4,I4,q3⟩
theorem alF{op:Operator}{rd:V->V->Hp->VK->Prop}(hu:X.A.units+1<cLine)(ho:PE X o td)(hi:PE X i ty)(hv:PE X value tv)(sM:InOp X op rd)(ha:∀ ov iv new,augStore i ov iv new=(do holding [new,ov,iv] (setItem ov iv new);release [new,ov,iv] [];pure .next)):PS X (.AugAssign (.Subscript o i tpos) op value pos) (sDAug td ty tv rd):=by
 intro pins s Y H D I h;refine wpAny_AugAssign_SubscriptAny (B5 (ho pins s Y H _ I h) fun u s1 ⟨x,H1,I1,rx,q1⟩=>B5 (hi pins s1 Y H1 _ I1 q1) fun iv s2 ⟨y,H2,I2,ry,a,v,ex,g,q2⟩=>?_) ha;subst ex;obtain rfl:u=Value.ref a:=rx;refine vM hu I2 g ry fun w' s3 I3 rw'=>B5 (hv pins s3 Y H2 _ I3 q2) fun w2 s4 ⟨y2,H3,I4,ry2,q3⟩=>B5 (sM pins s4 Y H3 v y2 w' w2 _ I4 rw' ry2 q3) fun w3 s5 ⟨z,H4,I5,rz,H5,g5,q4⟩=>?_
 exact vN hu I5 g5 ry rz fun s6 I6=>⟨Y,H5,I6,q4⟩
end
theorem vP{P:Program}{w:World}(h:Heap)(hb:sysModules<h.objs.size):ObjOk P w H (h.push { cls:=.type "dict",data:=.dict #[] }) h.objs.size (.dK []):=
 ⟨J5 _,beq_eq_false_iff_ne.mpr (Ne.symm (M8 hb)),[],.nil,Heap.DictOf.new h⟩
def oY:TE:=fun _ H Q=>∀ p,H p=none->Q (.ref p) (A0 H p (.dK []))
section
variable {X:Cx} {pos:Pos}
theorem ajN:PE X (.Dict [] [] pos) oY:=fun pins s Y H Q I h=>
 wpAny_Dict_empty ⟨.ref s.heap.objs.size,_,I.laid (a:=s.heap.objs.size) (o:=.dK []) (t':=s.toks) (fun _ _ q=>Heap.get?_push_of_some _ q) (C4 _) (vP s.heap I.big),rfl,h _ (I.hok.fresh (C4 _))⟩
end
def cC:List (TE×TE)->St->Hp->(List (V×V)->Hp->Prop)->Prop
 | [],_,H,Q=>Q [] H
 | (tk,tv)::r,Y,H,Q=>tk Y H fun x H1=>tv Y H1 fun y H2=>cC r Y H2 fun ps H3=>Q ((x,y)::ps) H3
abbrev VV:List (V×V)->List (Value×Value)->Prop:=Paired fun p q=>RelV p.1 q.1/\RelV p.2 q.2
def gU(X:Cx)(pos:Pos)(keys:List (Option Expr))(values:List Expr)(trs:List (TE×TE)):Prop:=
 ∀ (pins:List (Addr×Obj)) (s:Shared) (Y:St) (H:Hp) (Q:List (V×V)->Hp->Prop),Inv X pins Y H s->cC trs Y H Q->
  wpAny (model X.prog X.w) X.A (evalPairs (pairTrees keys values X.env pos)) (fun vs s'=>∃ ps H',Inv X pins Y H' s'/\VV ps vs/\Q ps H') X.xe s
theorem alG{pos:Pos} : gU X pos [] [] []:=fun pins s Y H Q I h=>pairTrees_nil_walk ⟨[],H,I,.nil,h⟩
theorem ajO{pos:Pos}{k v:Expr}{ks:List (Option Expr)}{vs:List Expr}{trs:List (TE×TE)}(hk:PE X k tk)(hv:PE X v tv)(hr:gU X pos ks vs trs) :
  gU X pos (some k::ks) (v::vs) ((tk,tv)::trs):=fun pins s Y H Q I h=>
 pairTrees_cons_walk (B5 (hk pins s Y H _ I h) fun u s1 ⟨x,H1,I1,rx,q1⟩=>B5 (hv pins s1 Y H1 _ I1 q1) fun w2 s2 ⟨y,H2,I2,ry,q2⟩=>
  B5 (hr pins s2 Y H2 _ I2 q2) fun ws s3 ⟨ps,H3,I3,rel,q3⟩=>⟨(x,y)::ps,H3,I3,.cons ⟨rx,ry⟩ rel,q3⟩)
def N6(kvs more:List (B1×V)):List (B1×V):=more.foldl (fun acc kv=>putK acc kv.1 kv.2) kvs
theorem KV.merge:∀ {more:List (B1×V)} {rs:List (B1×Value)} {kvs:List (B1×V)} {vs:List (B1×Value)},KV more rs->KV kvs vs->KV (N6 kvs more) (merged vs rs):=by
 intro more rs kvs vs r;unfold KV at r
 induction r generalizing kvs vs with
 | nil=>intro q;exact q
 | @cons p q ps qs h t ih=>
  intro r0;have e:KV (putK kvs p.1 p.2) (stored vs q.1 q.2):=by
   have:=r0.put p.1 h.2
   rw [<- h.1];exact this
  exact ih e
theorem oZ:∀ (more kvs:List (B1×V)),(N6 kvs more).length<=kvs.length+more.length
 | [],kvs=>by show kvs.length<=kvs.length+0;lia
 | p::r,kvs=>by
  have h1:=oZ r (putK kvs p.1 p.2);have h2:=oX kvs p.1 p.2;show (N6 (putK kvs p.1 p.2) r).length<=_;rw [J7];lia
theorem vQ{P:Program}{w:World} : ∀ {kvs:List (B1×V)} {ws:List (Value×Value)},VV (kvs.map fun kv=>(kV kv.1,kv.2)) ws->∃ rs,Carries (M9 P w) ws rs/\KV kvs rs
 | [],_,r=>by rw [p7] at r;cases r;exact ⟨[],True.intro,.nil⟩
 | p::kvs,_,r=>by
  rw [E8] at r
  cases r with
  | @cons a b as bs h t=>
   obtain ⟨rs,c,q⟩:=vQ (P:=P) (w:=w) t;obtain ⟨b1,b2⟩:=b;exact ⟨(p.1,b2)::rs,⟨kV_is h.1,rfl,c⟩,.cons ⟨rfl,h.2⟩ q⟩
def tDisp(trs:List (TE×TE)):TE:=fun Y H Q=>∀ p,H p=none->cC trs Y (A0 H p (.dK [])) fun ps H2=>H2 p=some (.dK [])/\∃ kvs:List (B1×V),ps=kvs.map (fun kv=>(kV kv.1,kv.2))/\kvs.length<=15/\Q (.ref p) (A0 H2 p (.dK (N6 [] kvs)))
theorem alH{pos:Pos}{keys:List (Option Expr)}{trs:List (TE×TE)}(h:gU X pos keys values trs)(U4:keys.all (·.isSome)=true)(hl:keys.length=values.length)(h0:keys≠[])(h15:keys.length<=15):PE X (.Dict keys values pos) (tDisp trs):=by
 intro pins s Y H Q I q;have hn:=I.hok.fresh (C4 s.heap.objs.size);have I1:=I.laid (a:=s.heap.objs.size) (o:=.dK []) (h':=s.heap.push { cls:=.type "dict",data:=.dict #[] }) (t':=s.toks) (fun _ _ q=>Heap.get?_push_of_some _ q) (C4 _) (vP s.heap I.big);refine wpAny_Dict_walk (knd:=M9 X.prog X.w) U4 hl h0 h15 (B5 (h pins _ Y _ _ I1 (q _ hn)) fun ws s2 ⟨ps,H2,I2,rel,e,kvs,ep,lk,q2⟩=>?_);subst ep;obtain ⟨rs,c,rk⟩:=vQ (P:=X.prog) (w:=X.w) rel;obtain ⟨z,hd,vs0,r0,dd⟩:=dk_of I2.hok e
 cases r0
 refine ⟨rs,c,dd,fun h' dd' hs=>⟨.ref s.heap.objs.size,_,?_,rfl,q2⟩⟩;have hz:(N6 [] kvs).length<=sizeLine:=by
  have h1:=oZ kvs [];rw [f7] at h1;rw [sizeLine_eq];lia
 have he:∃ q,h'.get? s.heap.objs.size=some q:=let ⟨q,_,_,hq,_⟩:=dd';⟨q,hq⟩
 exact lG I2 (by rw [e];exact True.intro) hs he (lH hz hd (rk.merge .nil) dd')
structure M1(X:Cx)(o:Expr)(m:Str)(apos:Pos)(e:Expr)(cpos:Pos):Prop where
 base:attributeBase o m X.env (eval o X.env)=eval o X.env
 few:((backTo cpos (starEach [e] X.env)).all (fun x=>!x.1)&&(backToKw cpos (keywordEach [] X.env)).all (fun x=>x.1.isSome)
  && decide (([e]:List Expr).length+([]:List Keyword).length+(if ([]:List Keyword).isEmpty then 0 else 1)<30))=true
 line:(apos.endLine==cpos.line)=true
 trees:backTo cpos (starEach [e] X.env)=[(false,eval e X.env)]
structure M2(X:Cx)(o:Expr)(m:Str)(apos:Pos)(e f:Expr)(cpos:Pos):Prop where
 base:attributeBase o m X.env (eval o X.env)=eval o X.env
 few:((backTo cpos (starEach [e,f] X.env)).all (fun x=>!x.1)&&(backToKw cpos (keywordEach [] X.env)).all (fun x=>x.1.isSome)
  && decide (([e,f]:List Expr).length+([]:List Keyword).length+(if ([]:List Keyword).isEmpty then 0 else 1)<30))=true
 line:(apos.endLine==cpos.line)=true
 trees:backTo cpos (starEach [e,f] X.env)=[(false,eval e X.env),(false,eval f X.env)]
def cD(H:Hp)(a:Addr):Prop:=(∃ kvs,Rd H a (.dK kvs))\/∃ kvs,Rd H a (.dT kvs)
theorem pA(I:Inv X pins Y H s)(d:cD H a) :
  s.TypeIs (.ref a) "dict"/\(∀ b,Value.ref a=.ref b->∃ ob,s.heap.get? b=some ob/\ob.dict=none)/\(a==sysModules)=false:=by
 rcases d with ⟨kvs,e⟩ | ⟨kvs,e⟩
 .obtain ⟨_,hd,vs,_,dd⟩:=dk_rd I.hok e;refine ⟨dd.typeIs,fun b q=>?_,hd⟩
  cases q
  obtain ⟨ob,_,_,h1,h2,_⟩:=dd;exact ⟨ob,h1,h2.2.1⟩
 .obtain ⟨_,hd,xs,_,dd⟩:=dt_rd I.hok e;refine ⟨dd.typeIs,fun b q=>?_,hd⟩
  cases q
  obtain ⟨ob,_,_,h1,h2,_⟩:=dd;exact ⟨ob,h1,h2.2.1⟩
section
variable {X:Cx} {pins:List (Addr×Obj)} {Y:St} {H:Hp} {s:Shared} {a:Addr} {y d:V} {u r:Value} {o:Option V} {A:Around} {E:Value->Shared->Prop}
theorem anp{Q:Value->Shared->Prop}(hu:A.units+1<cLine)(I:Inv X pins Y H s)(g:DGet H a y o)(ry:RelV y u)(h:∀ w' s',Inv X pins Y H s'->RelV (o.getD .non) w'->Q w' s') :
  wpAny (model X.prog X.w) A (call (.builtin "dict.get") [.ref a,u]) Q E s:=by
 rcases g with ⟨kvs,k,e,ey,l⟩ | ⟨kvs,k,b,e,ey,eb,l⟩
 .subst ey;obtain ⟨z,hd,vs,rel,dd⟩:=dk_rd I.hok e;refine call_meetsIn dQ dd.typeIs kR (PySem.F.args_dict_get_2 _ _) (meets_dict_get (M9 X.prog X.w) a (kV_is ry) hd) ⟨_,dd.mapOf,h _ _ (I.tok _) ?_⟩;rw [l];exact (rel.val k).getD rfl
 .subst ey
  cases (show u=Value.ref b from ry)
  obtain ⟨z,hd,xs,rel,dd⟩:=dt_rd I.hok e;refine call_meetsIn dQ dd.typeIs kR (PySem.F.args_dict_get_2 _ _) (meetsH_dict_get (tupleKind (M9 X.prog X.w)) a b hd) ⟨tupleKind_room_in1 hu,k,xs,bZ I.hok eb,dd,h _ _ (I.tok _) ?_⟩;rw [l];exact (rel.val k).getD rfl
theorem anq{Q:Value->Shared->Prop}(hu:A.units+1<cLine)(I:Inv X pins Y H s)(g:DGet H a y o)(ry:RelV y u)(rd:RelV d r)(h:∀ w' s',Inv X pins Y H s'->RelV (o.getD d) w'->Q w' s') :
  wpAny (model X.prog X.w) A (call (.builtin "dict.get") [.ref a,u,r]) Q E s:=by
 rcases g with ⟨kvs,k,e,ey,l⟩ | ⟨kvs,k,b,e,ey,eb,l⟩
 .subst ey;obtain ⟨z,hd,vs,rel,dd⟩:=dk_rd I.hok e;refine call_meetsIn dQ dd.typeIs kR (PySem.F.args_dict_get_3 _ _ _) (meets_dict_get_default (M9 X.prog X.w) a (kV_is ry) hd r) ⟨_,dd.mapOf,h _ _ (I.tok _) ?_⟩;rw [l];exact (rel.val k).getD rd
 .subst ey
  cases (show u=Value.ref b from ry)
  obtain ⟨z,hd,xs,rel,dd⟩:=dt_rd I.hok e;refine call_meetsIn dQ dd.typeIs kR (PySem.F.args_dict_get_3 _ _ _) (meetsH_dict_get_default (tupleKind (M9 X.prog X.w)) a b hd r) ⟨tupleKind_room_in1 hu,k,xs,bZ I.hok eb,dd,h _ _ (I.tok _) ?_⟩;rw [l];exact (rel.val k).getD rd
end
def pB(td ty:TE):TE:=fun Y H Q=>td Y H fun x H1=>∃ a,x=.ref a/\cD H1 a/\ty Y H1 fun y H2=>∃ o,DGet H2 a y o/\Q (o.getD .non) H2
def pC(td ty tx:TE):TE:=fun Y H Q=>td Y H fun x H1=>∃ a,x=.ref a/\cD H1 a/\ty Y H1 fun y H2=>tx Y H2 fun z H3=>∃ o,DGet H3 a y o/\Q (o.getD z) H3
section
variable {X:Cx} {o e f:Expr} {apos cpos:Pos} {td ty tx:TE}
theorem ajP(hu:X.A.units+1<cLine)(ho:PE X o td)(he:PE X e ty)(m:M1 X o "get" apos e cpos):PE X (.Call (.Attribute o "get" apos) [e] [] cpos) (pB td ty):=by
 intro pins s Y H Q I h;refine wpAny_Call_method m.base m.few m.line PySem.F.plainAttrs_dict dQ PySem.F.type_dict_get (B5 (ho pins s Y H _ I h) fun u s1 ⟨x,H1,I1,rx,a,ex,d,q1⟩=>?_);subst ex;obtain rfl:u=Value.ref a:=rx;obtain ⟨t1,t2,_⟩:=pA I1 d;refine ⟨t1,t2,?_⟩;rw [m.trees];refine Calls.callWith_builtin rfl (Calls.evalArgs_plain (Calls.spliced_cons (B5 (he pins s1 Y H1 _ I1 q1) fun iv s2 ⟨y,H2,I2,ry,ov,g,q2⟩=>Calls.spliced_nil ?_)));exact anp hu I2 g ry fun w' s3 I3 rw'=>⟨_,H2,I3,rw',q2⟩
theorem ajQ(hu:X.A.units+1<cLine)(ho:PE X o td)(he:PE X e ty)(hf:PE X f tx)(m:M2 X o "get" apos e f cpos):PE X (.Call (.Attribute o "get" apos) [e,f] [] cpos) (pC td ty tx):=by
 intro pins s Y H Q I h;refine wpAny_Call_method m.base m.few m.line PySem.F.plainAttrs_dict dQ PySem.F.type_dict_get (B5 (ho pins s Y H _ I h) fun u s1 ⟨x,H1,I1,rx,a,ex,d,q1⟩=>?_);subst ex;obtain rfl:u=Value.ref a:=rx;obtain ⟨t1,t2,_⟩:=pA I1 d;refine ⟨t1,t2,?_⟩;rw [m.trees];refine Calls.callWith_builtin rfl (Calls.evalArgs_plain (Calls.spliced_cons (B5 (he pins s1 Y H1 _ I1 q1) fun iv s2 ⟨y,H2,I2,ry,q2⟩=>
  Calls.spliced_cons (B5 (hf pins s2 Y H2 _ I2 q2) fun fv s3 ⟨z,H3,I3,rz,ov,g,q3⟩=>Calls.spliced_nil ?_))))
 exact anq hu I3 g ry rz fun w' s4 I4 rw'=>⟨_,H3,I4,rw',q3⟩
end
section
variable {X:Cx} {pins:List (Addr×Obj)} {Y:St} {H:Hp} {s:Shared} {a:Addr} {kvs:List (B1×V)} {A:Around} {E:Value->Shared->Prop}
end
section
variable {X:Cx} {pins:List (Addr×Obj)} {Y:St} {H:Hp} {s:Shared} {a:Addr} {y:V} {u:Value} {A:Around} {E:Value->Shared->Prop}
end
end L2
namespace L2
open PySem PySem.Spec PyProof.Rows
section
variable {X:Cx}
end
section
variable {κ:Type} [DecidableEq κ]
theorem pD:∀ {l:List κ} {k:κ},l.Nodup->¬ k∈l->(l++[k]).Nodup
 | [],k,_,_=>by simp
 | a::r,k,h,hk=>by
  obtain ⟨h1,h2⟩:=R5.mp h;show (a::(r++[k])).Nodup;refine R5.mpr ⟨fun m=>?_,pD h2 fun m=>hk (E7.mpr (Or.inr m))⟩
  rcases K5.mp m with q | q
  .exact h1 q
  .exact hk (E7.mpr (Or.inl (M4.mp q).symm))
end
end L2
set_option maxRecDepth 100000
namespace L2
open PySem PySem.Spec PyProof.Rows
def cloOf(cells:List (Str×Addr)):List (Str×NameKind)->List (Str×Addr)->List (Str×Addr)
 | [],acc=>acc
 | (n,k)::r,acc=>if k=.free then cloOf cells r ((n,(cells.lookup n).getD 0)::acc) else cloOf cells r acc
theorem pE{env:Env} : ∀ (names:List (Str×NameKind)) (acc:List (Str×Addr)),(∀ x∈names,x.2=.free->∃ c,env.cells.lookup x.1=some c)->
  (forIn names acc fun (x:Str×NameKind) (cs:List (Str×Addr))=>(if (x.2==NameKind.free)=true then do
   let c <- cellOf env x.1
   pure (ForInStep.yield ((x.1,c)::cs)) else pure (ForInStep.yield cs):Sem (ForInStep (List (Str×Addr)))))=(pure (cloOf env.cells names acc):Sem (List (Str×Addr)))
 | [],acc,_=>rfl
 | (n,k)::r,acc,h=>by
  rw [List.forIn_cons];have hr:∀ x∈r,x.2=.free->∃ c,env.cells.lookup x.1=some c:=fun x hx=>h x (N7 _ hx)
  by_cases hk:k=.free
  .subst hk;obtain ⟨c,hc⟩:=h (n,.free) N8 rfl;have e1:cellOf env n=pure c:=by unfold cellOf;rw [show env.cells.lookup n=some c from hc]
   simp only [beq_self_eq_true,if_true];rw [e1];show (forIn r ((n,c)::acc) _:Sem _)=_;rw [pE r _ hr];show _=pure (if NameKind.free=.free then cloOf env.cells r ((n,(env.cells.lookup n).getD 0)::acc) else _);rw [if_pos rfl,show env.cells.lookup n=some c from hc];rfl
  .have hb:(k==NameKind.free)=false:=by simpa using hk
   simp only [hb,Bool.false_eq_true,if_false];show (forIn r acc _:Sem _)=_;rw [pE r _ hr];show _=pure (if k=.free then _ else cloOf env.cells r acc);rw [if_neg hk]
theorem vR{scope:Scope}{env:Env}(h:∀ x∈scope.names,x.2=.free->∃ c,env.cells.lookup x.1=some c):closureFor scope env=pure (cloOf env.cells scope.names []):=by
 simp only [closureFor];have e:=pE (env:=env) scope.names [] h;rw [e];rfl
theorem lI{cells:List (Str×Addr)}{x:Str} : ∀ (names:List (Str×NameKind)) (acc:List (Str×Addr)),
  (cloOf cells names acc).lookup x=if (x,NameKind.free)∈names then some ((cells.lookup x).getD 0) else acc.lookup x
 | [],acc=>by simp [cloOf]
 | (n,k)::r,acc=>by
  show (if k=.free then cloOf cells r ((n,(cells.lookup n).getD 0)::acc) else cloOf cells r acc).lookup x=_
  by_cases hk:k=.free
  .subst hk;rw [if_pos rfl,lI r]
   by_cases hm:(x,NameKind.free)∈r
   .rw [if_pos hm,if_pos (N7 _ hm)]
   .rw [if_neg hm,gI]
    by_cases hx:x=n
    .subst hx;rw [if_pos N8]
     simp
    .have e:(x==n)=false:=by simpa using hx
     rw [e,if_neg];intro z
     rcases E7.mp z with z | z
     .exact hx (Prod.mk.inj z).1
     .exact hm z
  .rw [if_neg hk,lI r]
   by_cases hm:(x,NameKind.free)∈r
   .rw [if_pos hm,if_pos (N7 _ hm)]
   .rw [if_neg hm,if_neg];intro z
    rcases E7.mp z with z | z
    .exact hk (Prod.mk.inj z).2.symm
    .exact hm z
theorem pF{α:Type}{x:Str} : ∀ {l:List (Str×α)} {k:α},l.lookup x=some k->(x,k)∈l
 | [],_,h=>by simp at h
 | (n,a)::r,k,h=>by
  rw [gI] at h
  by_cases hx:x=n
  .subst hx;simp at h;subst h;exact N8
  .have e:(x==n)=false:=by simpa using hx
   rw [e] at h;exact N7 _ (pF h)
theorem vS{sc:Scope}{env:Env}{x:Str}{k:NameKind}(hc:∀ y∈sc.names,y.2≠.cell)(h:(relabel sc env).names.lookup x=some k)(hk:k=.cell\/k=.free):(x,NameKind.free)∈sc.names:=by
 have m:=pF h;unfold relabel at m;obtain ⟨⟨n,k'⟩,hm,e⟩:=E9.mp m;have N0:=hc _ hm
 by_cases hf:k'=.free
 .subst hf
  have:n=x:=by
   dsimp only at e
   split at e
   .exact (Prod.mk.inj e).1
   .exact (Prod.mk.inj e).1
  subst this;exact hm
 .have hb:(k'==NameKind.free)=false:=by simpa using hf
  simp only [hb,Bool.false_and,Bool.false_eq_true,if_false] at e;obtain ⟨e1,e2⟩:=Prod.mk.inj e;subst e1 e2
  rcases hk with z | z
  .exact absurd z N0
  .subst z;exact absurd rfl hf
structure CompOk(N:List Str)(kn:List (Str×NameKind))(sc:Scope)(N':List Str)(k:Nat)(ixs:List Nat):Prop where
 kind:sc.kind=.function
 cell:∀ x∈sc.names,x.2≠.cell
 names:∀ x∈sc.names,x.2=.local->sc.names.lookup x.1=some .local
 free:∀ x∈sc.names,x.2=.free->kn.lookup x.1=some .cell\/kn.lookup x.1=some .free
 clean:∀ x∈sc.names,x.2=.free->sc.names.lookup x.1=some .free
 len:N'.length=k+ixs.length
 at_:ixs.map (fun i=>N[i]?)=(N'.drop k).map some
 fr:∀ x∈N'.drop k,(x,NameKind.free)∈sc.names
def L9(X:Cx)(sc:Scope)(N':List Str)(C:Addr)(zw:Shared)(zt:Hp)(fp:List Addr)(pins:List (Addr×Obj)):Cx:=
 {prog:=X.prog,w:=X.w,K:=X.K,mg:=X.mg,base:=X.base,A:=X.A,N:=N',s₀:=zw,H₀:=zt,
  env:=compEnvC sc (cloOf X.env.cells sc.names []) C X.env,outer:=X.stack,stack:=X.stack,ex:=fp,fn:=fun _=>false,calm:=X.calm,
  pn:=X.pn++pins,xe:=fun _ _=>False }
def compStart(k:Nat)(ixs:List Nat)(Y:St):St:=P1 k none++ixs.map fun i=>(Y[i]?).join
theorem aeR : (compStart k ixs Y).length=k+ixs.length:=by simp [compStart]
section
variable {X:Cx} {sc:Scope} {N':List Str} {k:Nat} {ixs:List Nat} {pins:List (Addr×Obj)} {Y:St} {H:Hp} {s:Shared} {fp:List Addr}
theorem dZ(C:CompOk X.N X.env.scope.names sc N' k ixs)(I:Inv X pins Y H s){x:Str}{c:Addr}(e:(cloOf X.env.cells sc.names []).lookup x=some c):X.env.cells.lookup x=some c/\(x,NameKind.free)∈sc.names:=by
 rw [lI] at e
 by_cases hm:(x,NameKind.free)∈sc.names
 .rw [if_pos hm] at e;obtain ⟨c',n8⟩:=I.ok.has x (C.free _ hm rfl);rw [n8] at e;exact ⟨n8.trans e,hm⟩
 .rw [if_neg hm] at e;cases e
theorem vT(C:CompOk X.N X.env.scope.names sc N' k ixs)(I:Inv X pins Y H s){x:Str}(hm:(x,NameKind.free)∈sc.names):∃ c,(cloOf X.env.cells sc.names []).lookup x=some c/\X.env.cells.lookup x=some c:=by
 obtain ⟨c',n8⟩:=I.ok.has x (C.free _ hm rfl);refine ⟨c',?_,n8⟩;rw [lI,if_pos hm,n8];rfl
theorem anr(C:CompOk X.N X.env.scope.names sc N' k ixs)(I:Inv X pins Y H s)(hf:∀ b∈fp,FpOk X pins H b)(ho:∀ b∈fp,∃ o,s.heap.get? b=some o):(L9 X sc N' s.heap.objs.size s H fp pins).Ok where
 mod:=I.ok.mod
 kind:=C.kind
 glob:=I.ok.glob
 blt:=I.ok.blt
 above:=C4 _
 inj:=fun x y c e1 e2=>I.ok.inj x y c (dZ C I e1).1 (dZ C I e2).1
 has:=fun x hx=>by
  have hm:(x,NameKind.free)∈sc.names:=by
   rcases hx with z | z
   .exact vS C.cell z (.inl rfl)
   .exact vS C.cell z (.inr rfl)
  obtain ⟨c,h1,_⟩:=vT C I hm;exact ⟨c,h1⟩
 cab:=fun x c h _=>by cases h
 hd:=I.ok.hd
 frames:=I.ok.frames
 stk:=.inl rfl
 exf:=fun b hb=>by
  obtain ⟨o,e⟩:=ho b hb;exact ⟨M8 (Heap.lt_size e),fun x c e1=>(hf b hb).2.2.2.2.1 x c (dZ C I e1).1⟩
 bs:=I.bs
 bsz:=M6 I.ok.bsz I.sz
 noex:=fun b o e hb=>by
  rcases (hf b hb).2.2.2.1 with z | z
  .exact I.ok.noex b o e z
  .exact absurd (P3 (Heap.lt_size e) (M6 I.ok.bsz z)) (k6 _)
 exfs:=fun b hb hm=>by
  rcases E7.mp (I.stkSub b hm) with z | z
  .exact (hf b hb).2.1 z
  .exact (hf b hb).2.2.1 z
 funs:=I.stack
 frf:=I.stkFree
theorem alI(C:CompOk X.N X.env.scope.names sc N' k ixs)(I:Inv X pins Y H s)(hf:∀ b∈fp,FpOk X pins H b)(ho:∀ b∈fp,∃ o,s.heap.get? b=some o){m:Str->Option Value}(hn:h'.Ns s.heap.objs.size m)(hk:∀ b o,s.heap.get? b=some o->h'.get? b=some o):Inv (L9 X sc N' s.heap.objs.size s H fp pins) [] (compStart k ixs Y) H { s with heap:=h',toks:=t' } where
 ok:=anr C I hf ho
 os:=rfl
 bare:=I.bare
 base:=Un.kept hk
 loc:=by
  refine ⟨m,hn,fun i x v e1 e2 e3=>?_⟩;unfold compStart at e2
  by_cases hi:i<k
  .rw [kO (by simpa using hi)] at e2;rw [List.getElem?_replicate_of_lt hi] at e2;cases e2
  .rw [fX (by simpa using hi),List.length_replicate] at e2;rw [c9] at e2;cases e4:ixs[i-k]? with
   | none=>rw [e4] at e2;cases e2
   | some j=>
    rw [e4] at e2;have e5:(Y[j]?).join=some v:=Option.some.inj e2;have e6:Y[j]?=some (some v):=by
     cases e7:Y[j]? with
     | none=>rw [e7] at e5;cases e5
     | some o=>rw [e7] at e5;exact congrArg some e5
    have e1':N'[i]?=some x:=e1;have ed:(N'.drop k)[i-k]?=some x:=by rw [List.getElem?_drop,show k+(i-k)=i by lia];exact e1'
    have n3:(x,NameKind.free)∈sc.names:=C.fr x (O1 ed);have n2:X.N[j]?=some x:=by
     have q:=congrArg (fun l=>l[i-k]?) C.at_;simp only [c9,e4,ed,Option.map_some] at q;exact Option.some.inj q
    obtain ⟨m0,hn0,jL⟩:=I.loc;have jM:X.env.scope.names.lookup x=some .cell\/X.env.scope.names.lookup x=some .free:=C.free _ n3 rfl;obtain ⟨u,r,l⟩:=jL j x v n2 e6 (.inr jM);refine ⟨u,r,.inr ?_⟩
    rcases l with ⟨l,_⟩ | ⟨_,c,hc,K9⟩
    .have l':X.env.scope.names.lookup x=some .local:=l
     rcases jM with z | z
     .rw [l'] at z;cases z
     .rw [l'] at z;cases z
    .obtain ⟨c',h1,h2⟩:=vT C I n3;rw [hc] at h2;cases h2;refine ⟨?_,c,h1,?_⟩
     .have e3':(relabel sc X.env).names.lookup x=some .local\/(relabel sc X.env).names.lookup x=some .cell\/(relabel sc X.env).names.lookup x=some .free:=e3
      rcases e3' with z | z
      .exfalso
       have mm:=pF z;unfold relabel at mm;obtain ⟨⟨n,k'⟩,hm,e⟩:=E9.mp mm;have o3:k'=.local/\n=x:=by
        dsimp only at e
        split at e
        .obtain ⟨_,q⟩:=Prod.mk.inj e
         cases q
        .exact ⟨(Prod.mk.inj e).2,(Prod.mk.inj e).1⟩
       obtain ⟨z1,z2⟩:=o3;subst z1 z2;have q1:=C.names _ hm rfl;rw [C.clean _ n3 rfl] at q1
       cases q1
      .exact z
     .exact K9.keeps hk
 cell:=fun x c e=>by
  obtain ⟨v,z⟩:=I.cell x c (dZ C I e).1;exact ⟨v,z.keeps hk⟩
 free:=I.hok.fresh (C4 _)
 freeC:=fun x c e=>I.freeC x c (dZ C I e).1
 pin:=fun p hp=>by
  have hp':p∈X.pn++pins:=by simpa [L9] using hp
  obtain ⟨e,n,ne,nf,d⟩:=I.pin p hp';refine ⟨hk _ _ e,n,M8 (Heap.lt_size e),fun hm=>?_,d⟩
  rcases E7.mp (I.stkSub _ hm) with z | z
  .exact ne z
  .exact nf z
 hok:=I.hok.kept hk
 len:=by rw [aeR];exact C.len.symm
end
section
variable {prog:Program} {w:World} {A:Around} {R:Result->Shared->Prop} {s:Shared}
theorem afu{scope:Scope}{pos:Pos}{it acc:Value}{env:Env}(I:Nat->Shared->Prop)(turn:∀ n s,I n s->wpAny (model prog w) A (pyNext it) (fun r zu=>match r with
   | none=>R (.ok .next) zu
   | some v=>wpAny (model prog w) A (letOwnedTupleGo target it v) (fun _ zu=>wpAny (model prog w) A (assign target env v) (fun _ zx=>
     wpAny (model prog w) A (forIn ifs true fun c r=>if r=true then do let ok <- isTrue c env (eval c env);pure (ForInStep.yield ok) else pure (ForInStep.yield r)) (fun ok zw=>
      if ok=true then wpAny (model prog w) A (eval elt env) (fun x zo=>
       wpAny (model prog w) A (call (.builtin "list.append") [acc,x]) (fun _ zn=>∃ m,m<n/\I m zn) (notedBy (model prog w) A env fun e s'=>R (.error e) s') zo) (notedBy (model prog w) A env fun e s'=>R (.error e) s') zw
      else ∃ m,m<n/\I m zw) (notedBy (model prog w) A env fun e s'=>R (.error e) s') zx) (notedBy (model prog w) A env fun e s'=>R (.error e) s') zu) (notedBy (model prog w) A env fun e s'=>R (.error e) s') zu) (notedBy (model prog w) A env fun e s'=>R (.error e) s') s)(n:Nat)(h:I n s) :
  codeAny (model prog w) A (.compLoop (.ListComp elt [⟨target,iter,ifs,0⟩] scope pos) 0 it acc env) R s:=by
 refine codeAny_loop rfl I (fun n s hI=>?_) n h;show wpAny _ A ((compTurn (.ListComp elt [⟨target,iter,ifs,0⟩] scope pos) 0 it acc env).onRaise (fun x=>do noteFrame x env;theTreesLotGoes x)) _ _ s;refine wpAny_noted ?_;rw [compTurn_list];refine wpAny_bind (wpAny_standAt (wpAny_bind (wpAny_mono (turn n s hI) (fun r zu zr=>?_) fun _ _ h'=>h')))
 cases r with
 | none=>exact wpAny_pure zr
 | some v=>
  refine wpAny_bind (wpAny_mono zr (fun _ zu zr=>?_) fun _ _ h'=>h');refine wpAny_bind (wpAny_mono zr (fun _ zx zq=>wpAny_bind (wpAny_mono zq (fun ok zw zp=>?_) fun _ _ h'=>h')) fun _ _ h'=>h')
  cases ok with
  | false=>exact wpAny_pure ⟨rfl,zp⟩
  | true=>
   exact wpAny_bind (wpAny_bind (wpAny_mono zp (fun x zo zm=>wpAny_bind (wpAny_mono zm (fun _ zn zk=>wpAny_pure (wpAny_pure ⟨rfl,zk⟩)) fun _ _ h'=>h')) fun _ _ h'=>h'))
end
def PIfs(X:Cx)(ifs:List Expr)(t:TT):Prop:=
 ∀ (pins:List (Addr×Obj)) (s:Shared) (Y:St) (H:Hp) (Q:Bool->Hp->Prop),Inv X pins Y H s->t Y H Q->
  wpAny (model X.prog X.w) X.A (forIn ifs true fun c r=>if r=true then do let ok <- isTrue c X.env (eval c X.env);pure (ForInStep.yield ok) else pure (ForInStep.yield r)) (TP X pins Y Q) X.xe s
def tYes:TT:=fun _ H Q=>Q true H
theorem ajR : PIfs X [] tYes:=fun _ _ _ H _ I h=>wpAny_tests_nil ⟨H,I,h⟩
theorem ajS{c:Expr}{t:TT}(hc:PT X c t):PIfs X [c] t:=fun pins s Y H Q I h=>wpAny_tests_one (hc pins s Y H Q I h)
def tComp(wi:TI)(k:Nat)(ixs:List Nat)(g:TG)(c:TT)(te:TE):TE:=fun Y H Q=>wi Y H fun J H1=>∀ D,H1 D=none->
 ∃ (n:Nat) (W:Nat->List V->St->Hp->Prop),W 0 [] (compStart k ixs Y) (A0 H1 D (.lst []))/\∀ i ys σ2 H2,W i ys σ2 H2->H2 D=some (.lst ys)->
  (J.stop i H2/\Q (.ref D) H2)\/
  (i<n/\J.go i H2/\∀ x H',J.yld i H2 x H'->g x σ2 H' fun σ3 H3=>c σ3 H3 fun b H4=>
   if b=true then te σ3 H4 fun y H5=>H5 D=some (.lst ys)/\ys.length<sizeLine/\W (i+1) (ys++[y]) σ3 (A0 H5 D (.lst (ys++[y])))
   else H4 D=some (.lst ys)/\W (i+1) ys σ3 H4)
section
variable {X:Cx} {sc:Scope} {N':List Str} {k:Nat} {ixs:List Nat}
theorem vU{pos:Pos}{J:It}(C:CompOk X.N X.env.scope.names sc N' k ixs)(L0:X.calm=true)(hg:∀ C zw zt fp pins,PG (L9 X sc N' C zw zt fp pins) target g)(hc:∀ C zw zt fp pins,PIfs (L9 X sc N' C zw zt fp pins) ifs c)(he:∀ C zw zt fp pins,PE (L9 X sc N' C zw zt fp pins) elt te){tn:Nat->Heap->Prop}(I:Inv X pins Y H s)(T:Turn X.prog X.w X.K target J fp it tn)(st:tn 0 s.heap)(hf:∀ b∈fp,FpOk X pins H b)(h:∀ D,H D=none->∃ (n:Nat) (W:Nat->List V->St->Hp->Prop),W 0 [] (compStart k ixs Y) (A0 H D (.lst []))/\∀ i ys σ2 H2,W i ys σ2 H2->H2 D=some (.lst ys)->
   (J.stop i H2/\Q (.ref D) H2)\/
   (i<n/\J.go i H2/\∀ x H',J.yld i H2 x H'->g x σ2 H' fun σ3 H3=>c σ3 H3 fun b H4=>
    if b=true then te σ3 H4 fun y H5=>H5 D=some (.lst ys)/\ys.length<sizeLine/\W (i+1) (ys++[y]) σ3 (A0 H5 D (.lst (ys++[y])))
    else H4 D=some (.lst ys)/\W (i+1) ys σ3 H4)){RR:Value->Addr->Result->Shared->Prop}(hRR:∀ D Cc (H':Hp) (s':Shared) (o:Obj) m,Inv X pins Y H' s'->Inv X (pins++[(Cc,o)]) Y H' s'->s'.heap.get? Cc=some o->s'.heap.Ns Cc m->H' Cc=none->Cc≠X.env.locals->X.s₀.heap.objs.size<=Cc->
   (∀ x c,X.env.cells.lookup x=some c->c≠Cc)->(∀ p∈X.pn++pins,p.1≠Cc)->Q (.ref D) H'->RR (.ref D) Cc (.ok .next) s') :
  wpAny (model X.prog X.w) X.A (newList []) (fun acc zw=>wpAny (model X.prog X.w) X.A (newFunctionEnv sc X.env.globals (cloOf X.env.cells sc.names []) [] X.env.qual none .none (some X.env)) (fun cenv zo=>
   codeAny (model X.prog X.w) X.A (.compStart (.ListComp elt [⟨target,iter,ifs,0⟩] sc pos) 0 (.ref it) acc { cenv with scope:=relabel sc X.env }) (RR acc cenv.locals) zo) E zw) E s:=by
 have fresh:=I.hok.fresh (C4 s.heap.objs.size);obtain ⟨n,W,w0,turn⟩:=h s.heap.objs.size fresh;have hfD:∀ b∈fp,b≠s.heap.objs.size:=fun b hb z=>by
  obtain ⟨o,e,_⟩:=T.obj _ _ st b hb;rw [z] at e;exact absurd (Heap.lt_size e) (k6 _)
 have hf3:∀ b∈fp,FpOk X pins (A0 H s.heap.objs.size (.lst [])) b:=fun b hb=>⟨by rw [B3 (hfD b hb)];exact (hf b hb).1,(hf b hb).2⟩
 have main:∀ (s3:Shared) (zr:Heap) (t1:Nat),Inv X pins Y (A0 H s.heap.objs.size (.lst [])) s3->(∀ b o,s.heap.get? b=some o->s3.heap.get? b=some o)->zr.Ns s3.heap.objs.size (fun x=>([]:List (Str×Value)).reverse.lookup x)->
   (∀ b o,s3.heap.get? b=some o->zr.get? b=some o)->
   tn 0 zr/\codeAny (model X.prog X.w) X.A (.compLoop (.ListComp elt [⟨target,iter,ifs,0⟩] sc pos) 0 (.ref it) (.ref s.heap.objs.size) (L9 X sc N' s3.heap.objs.size s3 (A0 H s.heap.objs.size (.lst [])) fp pins).env) (RR (.ref s.heap.objs.size) s3.heap.objs.size) { s3 with heap:=zr,toks:=t1 }:=by
  intro s3 zr t1 I3 k3 bF keep3;have bD:tn 0 s3.heap:=T.keep _ _ _ st fun b hb o e=>k3 b o e
  have ho3:∀ b∈fp,∃ o,s3.heap.get? b=some o:=fun b hb=>let ⟨o,e,_⟩:=T.obj _ _ bD b hb;⟨o,e⟩
  have nG:tn 0 zr:=T.keep _ _ _ bD fun b hb o e=>keep3 b o e
  have B0:Inv (L9 X sc N' s3.heap.objs.size s3 (A0 H s.heap.objs.size (.lst [])) fp pins) [] (compStart k ixs Y) (A0 H s.heap.objs.size (.lst [])) { s3 with heap:=zr,toks:=t1 }:=alI C I3 hf3 ho3 bF keep3;refine ⟨nG,?_⟩;have fpX:∀ {H':Hp},(∀ b∈fp,H' b=none)->∀ b∈fp,FpOk (L9 X sc N' s3.heap.objs.size s3 (A0 H s.heap.objs.size (.lst [])) fp pins) [] H' b:=fun {H'} hn b hb=>by
   obtain ⟨o,eo⟩:=ho3 b hb;refine ⟨hn b hb,M8 (Heap.lt_size eo),?_,.inl hb,?_,?_⟩
   .intro hm
    rcases E7.mp (I3.stkSub b hm) with z | z
    .exact (hf b hb).2.1 z
    .exact (hf b hb).2.2.1 z
   .intro x cc ec;exact (hf b hb).2.2.2.2.1 x cc (dZ C I3 ec).1
   .intro p hp;exact (hf b hb).2.2.2.2.2 p (by simpa [L9] using hp)
  refine afu (fun m s'=>∃ i ys σ' H',m=n-i/\Inv (L9 X sc N' s3.heap.objs.size s3 (A0 H s.heap.objs.size (.lst [])) fp pins) [] σ' H' s'/\tn i s'.heap/\(∀ b∈fp,H' b=none)/\H' s.heap.objs.size=some (.lst ys)/\W i ys σ' H') ?_ n ⟨0,[],_,_,rfl,B0,nG,fun b hb=>(hf3 b hb).1,A4,w0⟩;rintro m s4 ⟨i,ys,σ4,H4,rfl,I4,st4,fr4,hD4,w4⟩;have again:∀ {i':Nat} {ys':List V} {σ7:St} {H7:Hp} {s6 s7:Shared},i<n->i'=i+1->tn i' s6.heap->Inv (L9 X sc N' s3.heap.objs.size s3 (A0 H s.heap.objs.size (.lst [])) fp pins) ([]++dS fp s6.heap) σ7 H7 s7->H7 s.heap.objs.size=some (.lst ys')->W i' ys' σ7 H7->
    ∃ m,m<n-i/\∃ i ys σ' H',m=n-i/\Inv (L9 X sc N' s3.heap.objs.size s3 (A0 H s.heap.objs.size (.lst [])) fp pins) [] σ' H' s7/\tn i s7.heap/\(∀ b∈fp,H' b=none)/\H' s.heap.objs.size=some (.lst ys)/\W i ys σ' H':=fun {i' ys' σ7 H7 s6 s7} D0 ei fK I7 hD w=>by
   subst ei;refine ⟨n-(i+1),by lia,i+1,ys',σ7,H7,rfl,I7.unpinned,T.keep _ _ _ fK fun b hb o e=>(I7.pin (b,o) (O5 _ (O5 _ (dU hb e)))).1,fun b hb=>?_,hD,w⟩;obtain ⟨o,e,_⟩:=T.obj _ _ fK b hb;exact (I7.pin (b,o) (O5 _ (O5 _ (dU hb e)))).2.1
  rcases turn i ys σ4 H4 w4 hD4 with ⟨stop,q⟩ | ⟨D0,go,step⟩
  .refine B5 (T.done (L9 X sc N' s3.heap.objs.size s3 (A0 H s.heap.objs.size (.lst [])) fp pins) rfl rfl rfl L0 i [] s4 σ4 H4 _ I4 (fpX fr4) st4 stop) fun r s5 fL=>?_
   obtain ⟨hr,I5⟩:=fL;subst hr;have back:Inv X pins Y H4 s5:=I3.call' (ch:=fp) I5.os I5.base I5.hok I5.bare fun b hb=>⟨(hf b hb).2.2.2.1,(hf b hb).2.1,(hf b hb).2.2.2.2.1,(hf b hb).2.2.2.2.2⟩
   obtain ⟨mm,hn5,_⟩:=I5.loc;obtain ⟨o,es,ep,ho,hd,X4⟩:=id hn5;have hC:s3.heap.objs.size≠X.env.locals:=Nat.ne_of_gt I3.lt;refine hRR s.heap.objs.size s3.heap.objs.size H4 s5 o mm back ?_ ho hn5 I5.free hC I3.sz ?_ ?_ q
   .refine back.pins_of fun p hp=>?_
    rcases K5.mp hp with z | z
    .exact back.pin p (O5 _ z)
    .have e:p=(s3.heap.objs.size,o):=by simpa using z
     subst e;exact ⟨ho,I5.free,hC,I3.nofs (C4 _),fun v z=>by rw [hd] at z;cases z⟩
   .intro x c e z;obtain ⟨v,q⟩:=I3.cell x c e
    have:=q.lt
    rw [z] at this;exact k6 _ this
   .intro p hp z
    have:=Heap.lt_size (I3.pin p hp).1
    rw [z] at this;exact k6 _ this
  .refine B5 (T.item (L9 X sc N' s3.heap.objs.size s3 (A0 H s.heap.objs.size (.lst [])) fp pins) rfl rfl rfl L0 i [] s4 σ4 H4 _ I4 (fpX fr4) st4 go) fun r s5 fL=>?_
   obtain ⟨u,hr,h5⟩:=fL;subst hr;refine B5 h5 fun _ s6 h6=>?_
   obtain ⟨x,H6,I6,r6,y6,fK,fr6⟩:=h6;have I6':=I6.pinned (fpX fr6) (T.obj _ _ fK);refine wpAny_mono (hg _ _ _ _ _ _ s6 σ4 H6 x u _ I6' r6 (step x H6 y6)) (fun _ s7 h7=>?_) fun _ _ z=>False.elim z
   obtain ⟨σ7,H7,I7,q7⟩:=h7;refine wpAny_mono (hc _ _ _ _ _ _ s7 σ7 H7 _ I7 q7) (fun ok s8 h8=>?_) fun _ _ z=>False.elim z
   obtain ⟨H8,I8,q8⟩:=h8
   cases ok with
   | false=>
    rw [if_neg K3] at q8 ⊢
    exact again D0 rfl fK I8 q8.1 q8.2
   | true=>
    rw [if_pos rfl] at q8 ⊢
    refine wpAny_mono (he _ _ _ _ _ _ s8 σ7 H8 _ I8 q8) (fun y s9 h9=>?_) fun _ _ z=>False.elim z
    obtain ⟨yv,H9,I9,r9,hD9,hz9,w9⟩:=h9;refine wpAny_mono (vH (X:=(L9 X sc N' s3.heap.objs.size s3 (A0 H s.heap.objs.size (.lst [])) fp pins)) _ s9 σ7 H9 (.ref s.heap.objs.size) [yv] (.ref s.heap.objs.size) [y] (fun _ H'=>H'=A0 H9 s.heap.objs.size (.lst (ys++[yv]))) I9 rfl (.cons r9 .nil) ⟨_,ys,yv,rfl,rfl,hD9,hz9,rfl⟩) (fun _ s10 h10=>?_) fun _ _ z=>False.elim z
    obtain ⟨_,X5,I10,_,e10⟩:=h10;subst e10;exact again D0 rfl fK I10 A4 w9
 have I3:=I.lnew (ys:=[]) (its:=[]) (t':=s.toks) .nil (J5 _);refine wpAny_newObj_type (wpAny_newFunctionEnv C.cell (by intro y hy;simp at hy) (fun zr zj zi=>?_) C.kind);obtain ⟨nG,loop⟩:=main _ zr (s.toks+([]:List (Str×Value)).length) I3 (fun b o e=>Heap.get?_push_of_some _ e) zj fun b o e=>zi.extBut b o (M8 (Heap.lt_size e)) (Heap.get?_push_of_some _ e)
 exact codeAny_compStart_list loop (T.self X.A 0 _ _ _ nG loop)
theorem alJ{pos:Pos}{wi:TI}(C:CompOk X.N X.env.scope.names sc N' k ixs)(L0:X.calm=true)(hi:PI X target iter wi)(hg:∀ C zw zt fp pins,PG (L9 X sc N' C zw zt fp pins) target g)(hc:∀ C zw zt fp pins,PIfs (L9 X sc N' C zw zt fp pins) ifs c)(he:∀ C zw zt fp pins,PE (L9 X sc N' C zw zt fp pins) elt te)(hs:∀ x,foldedSetIterable iter X.env x=pure x:=by intro _;rfl):PE X (.ListComp elt [⟨target,iter,ifs,0⟩] sc pos) (tComp wi k ixs g c te):=by
 intro pins s Y H Q I h;rw [eval_ListComp];refine wpAny_comprehension_free (use:=none) rfl hs (vR fun x hx hf=>I.ok.has x.1 (C.free x hx hf)) C.kind C.names (B5 (hi pins s Y H _ I h) fun v s1 h1=>B5 h1 fun itv s2 h2=>?_);obtain ⟨it,fp,tn,J,H2,e,I2,T,jE,f2,q2⟩:=h2;subst e;refine vU (RR:=fun acc C=>compPost (model X.prog X.w) X.A X.xe none (EP X pins Y Q) acc C) C L0 hg hc he I2 T jE f2 q2 ?_;intro D Cc H' s' o m I' _ ho hn hC hL bG K9 cX q;exact ⟨m,hn,fun h'' hs''=>⟨.ref D,H',I'.turned (t':=s'.toks) (fun b o hb e=>hs''.extBut b o hb e) hC hL (.inr bG) K9 cX,rfl,q⟩⟩
theorem ahA{pos py:Pos}{wi:TI}(hN:X.N.Nodup)(hiN:X.N[i]?=some y)(hx:g4 X.env.scope y)(C:CompOk X.N X.env.scope.names sc N' k ixs)(L0:X.calm=true)(hi:PI X target iter wi)(hg:∀ C zw zt fp pins,PG (L9 X sc N' C zw zt fp pins) target g)(hc:∀ C zw zt fp pins,PIfs (L9 X sc N' C zw zt fp pins) ifs c)(he:∀ C zw zt fp pins,PE (L9 X sc N' C zw zt fp pins) elt te)(sN:swapsWith (.ListComp elt [⟨target,iter,ifs,0⟩] sc pos) (some (.Name y py)) spos.line X.env=pure true:=by rfl)(hf:X.fn y=true\/X.env.scope.names.lookup y=some .local:=by first | exact .inl rfl | exact .inr rfl | assumption)(hs:∀ x,foldedSetIterable iter X.env x=pure x:=by intro _;rfl):PS X (.Assign [.Name y py] (.ListComp elt [⟨target,iter,ifs,0⟩] sc pos) spos) (tAsg (tComp wi k ixs g c te) (gName i)):=by
 intro pins s Y H D I h;rw [exec_Assign_Name_used _ _ _ _ sN];refine wpAny_bind (wpAny_standAt (wpAny_bind ?_));show wpAny _ X.A (do let _ <- comprehension (.ListComp elt [⟨target,iter,ifs,0⟩] sc pos) sc X.env _ (newList []) false (eval iter X.env) (some (assign (.Name y py) X.env))) _ _ s;refine wpAny_bind (wpAny_mono (wpAny_comprehension_free (use:=some (assign (.Name y py) X.env)) (Q:=fun _ s'=>SP X pins D .next s') rfl hs (vR fun x hx hf=>I.ok.has x.1 (C.free x hx hf)) C.kind C.names
  (B5 (hi pins s Y H _ I h) fun v s1 h1=>B5 h1 fun itv s2 h2=>?_)) (fun _ s' hq=>wpAny_pure (wpAny_pure hq)) fun _ _ e=>e)
 obtain ⟨it,fp,tn,J,H2,e,I2,T,jE,f2,q2⟩:=h2;subst e;refine vU (Q:=fun x H1=>gName i x Y H1 D.nx) (RR:=fun acc C=>compPost (model X.prog X.w) X.A X.xe (some (assign (.Name y py) X.env)) (fun _ s'=>SP X pins D .next s') acc C) C L0 hg hc he I2 T jE f2 q2 ?_;intro Da Cc H' s' o m _ Ip ho hn hC hL bG K9 cX q;show wpAny _ X.A (assign (.Name y py) X.env (.ref Da)) _ _ _;refine wpAny_assign_Name (kT (v:=.ref Da) Ip hN hiN hx rfl (fun s'' I''=>?_) hf);have hC2:=(I''.pin (Cc,o) (O5 _ (O5 _ (M4.mpr rfl)))).1;refine ⟨m,hn.at' fun o' e'=>?_,fun h'' hs''=>?_⟩
 .rw [ho] at e';cases e';exact hC2
 .have I3:Inv X pins (Y.set i (some (.ref Da))) H' s'':=I''.unpinned;exact ⟨_,H',I3.turned (t':=s''.toks) (fun b o hb e=>hs''.extBut b o hb e) hC hL (.inr bG) K9 cX,q⟩
end
end L2
end
set_option maxRecDepth 100000
namespace L2
open PySem PySem.Spec PyProof.Rows
section
variable {X:Cx} {a b:Expr} {ta tb:TE} {pos:Pos} {rest:List Expr}
def tTru(K:PySem.W.Frag)(te:TE):TT:=fun Y H Q=>te Y H fun x H1=>∃ k,TruV K x H1 k/\Q k H1
theorem ans(ha:PE X a ta)(he:∀ whole,isTrue a X.env whole=(do let v <- whole;standAt a.pos;holding [v] (truthy v)):=by intro _;rfl):PT X a (tTru X.K ta):=ajB ha he
def tNotT(K:PySem.W.Frag)(te:TE):TE:=fun Y H Q=>te Y H fun x H1=>∃ k,TruV K x H1 k/\Q (.bl (!k)) H1
end
mutual
inductive Dn (K:PySem.W.Frag) (H:Hp):V->PyData->Prop
 | non:Dn K H .non .none
 | bl (b):Dn K H (.bl b) (.bool b)
 | int (i):Dn K H (.int i) (.int i)
 | str (x):PyData.strOk x=true->Dn K H (.str x) (.str x)
 | lst {a xs ds} : C9 K H a xs->DnAll K H xs ds->Dn K H (.ref a) (.list ds)
 | tup {a xs ds} : C7 K H a xs->DnAll K H xs ds->Dn K H (.ref a) (.tuple ds)
inductive DnAll (K:PySem.W.Frag) (H:Hp):List V->List PyData->Prop
 | nil:DnAll K H [] []
 | cons {x xs d ds} : Dn K H x d->DnAll K H xs ds->DnAll K H (x::xs) (d::ds)
end
section
variable {X:Cx} {pins:List (Addr×Obj)} {Y:St} {H:Hp} {s:Shared}
mutual
theorem Dn.reads{K:PySem.W.Frag}{x:V}{d:PyData}(I:Inv X pins Y H s)(hK:X.K=K):Dn K H x d->∀ {u:Value},RelV x u->d.canLay0=true/\∃ as,Reads s.heap u d as
 | .non,u,r=>by cases r;exact ⟨rfl,_,.none⟩
 | .bl b,u,r=>by cases r;exact ⟨rfl,_,.bool b⟩
 | .int i,u,r=>by obtain ⟨t,rfl⟩:=r;exact ⟨rfl,_,.int i t⟩
 | .str x hx,u,r=>by obtain ⟨t,rfl⟩:=r;exact ⟨hx,_,.str x t⟩
 | .lst (a:=a) q hs,u,r=>by
  cases r
  subst hK;obtain ⟨its,rv,⟨o,n,e,c,_,dd⟩,_⟩:=I.list q;obtain ⟨h1,as,h2⟩:=DnAll.reads I rfl hs rv;exact ⟨h1,_,.list e c dd (by simpa using h2)⟩
 | .tup (a:=a) q hs,u,r=>by
  cases r
  subst hK;obtain ⟨its,rv,⟨o,e,c,n,dd⟩,_⟩:=I.tuple q;obtain ⟨h1,as,h2⟩:=DnAll.reads I rfl hs rv;exact ⟨h1,_,.tuple e c dd (by simpa using h2)⟩
theorem DnAll.reads{K:PySem.W.Frag}{xs:List V}{ds:List PyData}(I:Inv X pins Y H s)(hK:X.K=K):DnAll K H xs ds->∀ {us:List Value},Vals xs us->PyData.canLayAll0 ds=true/\∃ as,ReadsAll s.heap us ds as
 | .nil,us,r=>by cases r;exact ⟨rfl,_,.nil⟩
 | .cons h t,us,r=>by
  cases r with
  | cons r1 r2=>
   obtain ⟨c1,a1,q1⟩:=Dn.reads I hK h r1;obtain ⟨c2,a2,q2⟩:=DnAll.reads I hK t r2;exact ⟨by simp [PyData.canLayAll0,c1,c2],_,.cons q1 q2⟩
end
end
mutual
theorem Dn.same{K:PySem.W.Frag}{H H':Hp}(hs:Same H H'){x:V}{d:PyData} : Dn K H x d->Dn K H' x d
 | .non=>.non
 | .bl b=>.bl b
 | .int i=>.int i
 | .str x h=>.str x h
 | .lst q h=>.lst (hs.seq q) (DnAll.same hs h)
 | .tup (a:=a) (xs:=xs) q h=>.tup (by
   rcases q with (q | ⟨o,q⟩) | q
   .exact .inl (.inl (hs _ _ q))
   .exact .inl (.inr ⟨o,hs _ _ q⟩)
   .exact .inr q) (DnAll.same hs h)
theorem DnAll.same{K:PySem.W.Frag}{H H':Hp}(hs:Same H H'){xs:List V}{ds:List PyData} : DnAll K H xs ds->DnAll K H' xs ds
 | .nil=>.nil
 | .cons h t=>.cons (Dn.same hs h) (DnAll.same hs t)
end
theorem u6{K:PySem.W.Frag}{H:Hp} : ∀ {zs:List Int},DnAll K H (zs.map V.int) (zs.map PyData.int)
 | []=>.nil
 | z::zs=>.cons (.int z) u6
theorem gW:∀ (xs ys:List Int),PyData.eqvAll (xs.map PyData.int) (ys.map PyData.int)=decide (xs=ys)
 | [],[]=>by simp [PyData.eqvAll]
 | [],_::_=>by simp [PyData.eqvAll]
 | _::_,[]=>by simp [PyData.eqvAll]
 | x::xs,y::ys=>by
  rw [E8,E8,PyData.eqvAll,gW xs ys];rw [show Z3 (.int x) (.int y)=(x==y) by simp [Z3]]
  by_cases h1:x=y
  .subst h1;simp
  .simp [h1]
def rAddR(K:PySem.W.Frag)(a b:Addr)(H:Hp)(Q:VK):Prop:=rCat (.ref a) (.ref b) H Q\/rCatT K (.ref a) (.ref b) H Q
theorem rAddR.l{K:PySem.W.Frag}{a b:Addr}{H:Hp}{Q:VK}{xs ys:List V}(h1:H a=some (.lst xs))(h2:H b=some (.lst ys))(h3:xs.length+ys.length<=sizeLine)(h:∀ p,H p=none->Q (.ref p) (A0 H p (.lst (xs++ys)))):rAddR K a b H Q:=.inl ⟨a,b,xs,ys,rfl,rfl,h1,h2,h3,h⟩
def rAddU(K:PySem.W.Frag):V->V->Hp->VK->Prop
 | .int i,.int j,H,Q=>Q (.int (i+j)) H
 | .str i,.str j,H,Q=>i.length+j.length<=sizeLine/\Q (.str (i++j)) H
 | .ref a,.ref b,H,Q=>rAddR K a b H Q
 | _,_,_,_=>False
def rMulU:V->V->Hp->VK->Prop
 | .int i,.int j,H,Q=>CMul i j/\Q (.int (i*j)) H
 | .ref a,.int j,H,Q=>rRep (.ref a) (.int j) H Q
 | _,_,_,_=>False
def rEqU(K:PySem.W.Frag):V->V->Hp->VK->Prop
 | .int i,.int j,H,Q=>Q (.bl (decide (i=j))) H
 | .str i,.str j,H,Q=>Q (.bl (decide (i=j))) H
 | .bl i,.bl j,H,Q=>Q (.bl (decide (i=j))) H
 | x,y,H,Q=>∃ d e,Dn K H x d/\Dn K H y e/\min d.depth e.depth<=60/\Q (.bl (Z3 d e)) H
def rNeU(K:PySem.W.Frag):V->V->Hp->VK->Prop
 | .int i,.int j,H,Q=>Q (.bl (!decide (i=j))) H
 | .str i,.str j,H,Q=>Q (.bl (!decide (i=j))) H
 | .bl i,.bl j,H,Q=>Q (.bl (!decide (i=j))) H
 | x,y,H,Q=>∃ d e,Dn K H x d/\Dn K H y e/\min d.depth e.depth<=60/\Q (.bl (!PyData.eqv d e)) H
def rLtU:V->V->Hp->VK->Prop
 | .int i,.int j,H,Q=>Q (.bl (decide (i<j))) H
 | .str i,.str j,H,Q=>Q (.bl (decide (i.cps.toList<j.cps.toList))) H
 | _,_,_,_=>False
def rLeU:V->V->Hp->VK->Prop
 | .int i,.int j,H,Q=>Q (.bl (decide (i<=j))) H
 | .str i,.str j,H,Q=>Q (.bl (!decide (j.cps.toList<i.cps.toList))) H
 | _,_,_,_=>False
def rGtU:V->V->Hp->VK->Prop
 | .int i,.int j,H,Q=>Q (.bl (decide (j<i))) H
 | .str i,.str j,H,Q=>Q (.bl (decide (j.cps.toList<i.cps.toList))) H
 | _,_,_,_=>False
def rGeU:V->V->Hp->VK->Prop
 | .int i,.int j,H,Q=>Q (.bl (decide (j<=i))) H
 | .str i,.str j,H,Q=>Q (.bl (!decide (i.cps.toList<j.cps.toList))) H
 | _,_,_,_=>False
def rInR(K:PySem.W.Frag)(neg:Bool)(x:V)(p:Addr)(H:Hp)(Q:VK):Prop:=oT K neg x (.ref p) H Q\/∃ o,DGet H p x o/\Q (.bl (neg.xor o.isSome)) H
theorem rInR.l{K:PySem.W.Frag}{neg:Bool}{x:V}{p:Addr}{H:Hp}{Q:VK}{xs:List V}(h1:C9 K H p xs\/C7 K H p xs)(h2:flatV x=true)(h3:xs.all flatV=true)(h:Q (.bl (neg.xor (aM x xs))) H):rInR K neg x p H Q:=.inl ⟨p,xs,rfl,h1,h2,h3,by cases neg <;> simpa using h⟩
theorem rInR.d{K:PySem.W.Frag}{neg:Bool}{x:V}{p:Addr}{H:Hp}{Q:VK}{o:Option V}(h1:DGet H p x o)(h:Q (.bl (neg.xor o.isSome)) H):rInR K neg x p H Q:=.inr ⟨o,h1,h⟩
def rInU(K:PySem.W.Frag)(neg:Bool)(x:V):V->Hp->VK->Prop
 | .str j,H,Q=>∃ i,x=.str i/\Q (.bl (neg.xor (!(Builtin.Str.occurrences j i 0 j.length 1).isEmpty))) H
 | .ref p,H,Q=>rInR K neg x p H Q
 | _,_,_=>False
section
variable {X:Cx} {pins:List (Addr×Obj)} {Y:St} {H:Hp} {s:Shared}
theorem p_add:F9 X (binaryOp .Add) (rAddU X.K):=by
 intro pins s Y H x y v u Q I rx ry h
 cases x <;> cases y <;> try exact h.elim
 .exact am2 pins s Y H _ _ v u Q I rx ry ⟨_,_,rfl,rfl,h⟩
 .exact aht pins s Y H _ _ v u Q I rx ry ⟨_,_,rfl,rfl,h⟩
 .rcases h with h | h
  .exact ann pins s Y H _ _ v u Q I rx ry h
  .exact aly pins s Y H _ _ v u Q I rx ry h
theorem p_sub:F9 X (binaryOp .Sub) (t8 fun i j=>.int (i-j)):=am3
theorem p_mul:F9 X (binaryOp .Mult) rMulU:=by
 intro pins s Y H x y v u Q I rx ry h
 cases x <;> cases y <;> try exact h.elim
 .exact am4 pins s Y H _ _ v u Q I rx ry ⟨_,_,rfl,rfl,h⟩
 .exact ano pins s Y H _ _ v u Q I rx ry h
theorem ant:F9 X (binaryOp .FloorDiv) (rI CDiv fun i j=>.int (i / j)):=alk
theorem p_mod:F9 X (binaryOp .Mod) (rI (fun _ j=>0<j) fun i j=>.int (i % j)):=am5
theorem lJ(hu:X.A.units+64<cLine){x y:V}{v u:Value}{Q:VK}(I:Inv X pins Y H s)(rx:RelV x v)(ry:RelV y u)(h:∃ d e,Dn X.K H x d/\Dn X.K H y e/\min d.depth e.depth<=60/\Q (.bl (Z3 d e)) H):wpAny (model X.prog X.w) X.A (compareOp .Eq v u) (EP X pins Y Q) X.xe s:=by
 obtain ⟨d,e,h1,h2,hd,q⟩:=h;obtain ⟨c1,as,r1⟩:=h1.reads I rfl rx;obtain ⟨c2,bs,r2⟩:=h2.reads I rfl ry;exact SeqAt.compareEq_reads r1 r2 c1 c2 (by lia) ⟨.bl _,H,I,rfl,q⟩
theorem lK(hu:X.A.units+64<cLine){x y:V}{v u:Value}{Q:VK}(I:Inv X pins Y H s)(rx:RelV x v)(ry:RelV y u)(h:∃ d e,Dn X.K H x d/\Dn X.K H y e/\min d.depth e.depth<=60/\Q (.bl (!PyData.eqv d e)) H):wpAny (model X.prog X.w) X.A (compareOp .NotEq v u) (EP X pins Y Q) X.xe s:=by
 obtain ⟨d,e,h1,h2,hd,q⟩:=h;obtain ⟨c1,as,r1⟩:=h1.reads I rfl rx;obtain ⟨c2,bs,r2⟩:=h2.reads I rfl ry;exact SeqAt.compareNe_reads r1 r2 c1 c2 (by lia) ⟨.bl _,H,I,rfl,q⟩
theorem p_eq(hu:X.A.units+64<cLine):F9 X (compareOp .Eq) (rEqU X.K):=by
 intro pins s Y H x y v u Q I rx ry h;have sc:∀ {x y:V},uL x y H Q->RelV x v->RelV y u->wpAny (model X.prog X.w) X.A (compareOp .Eq v u) (EP X pins Y Q) X.xe s:=fun {x y} h rx ry=>op_eq pins s Y H x y v u Q I rx ry h
 cases x with
 | int i=>cases y with
  | int j=>exact sc (x:=.int i) (y:=.int j) ⟨rfl,by simpa using (show Q (.bl (decide (i=j))) H from h)⟩ rx ry
  | _=>exact lJ hu I rx ry h
 | str i=>cases y with
  | str j=>exact sc (x:=.str i) (y:=.str j) ⟨rfl,by simpa using (show Q (.bl (decide (i=j))) H from h)⟩ rx ry
  | _=>exact lJ hu I rx ry h
 | bl i=>cases y with
  | bl j=>exact sc (x:=.bl i) (y:=.bl j) ⟨rfl,by simpa using (show Q (.bl (decide (i=j))) H from h)⟩ rx ry
  | _=>exact lJ hu I rx ry h
 | _=>cases y <;> exact lJ hu I rx ry h
theorem p_ne(hu:X.A.units+64<cLine):F9 X (compareOp .NotEq) (rNeU X.K):=by
 intro pins s Y H x y v u Q I rx ry h;have sc:∀ {x y:V},uM x y H Q->RelV x v->RelV y u->wpAny (model X.prog X.w) X.A (compareOp .NotEq v u) (EP X pins Y Q) X.xe s:=fun {x y} h rx ry=>op_ne pins s Y H x y v u Q I rx ry h
 cases x with
 | int i=>cases y with
  | int j=>exact sc (x:=.int i) (y:=.int j) ⟨rfl,by simpa using (show Q (.bl (!decide (i=j))) H from h)⟩ rx ry
  | _=>exact lK hu I rx ry h
 | str i=>cases y with
  | str j=>exact sc (x:=.str i) (y:=.str j) ⟨rfl,by simpa using (show Q (.bl (!decide (i=j))) H from h)⟩ rx ry
  | _=>exact lK hu I rx ry h
 | bl i=>cases y with
  | bl j=>exact sc (x:=.bl i) (y:=.bl j) ⟨rfl,by simpa using (show Q (.bl (!decide (i=j))) H from h)⟩ rx ry
  | _=>exact lK hu I rx ry h
 | _=>cases y <;> exact lK hu I rx ry h
theorem p_lt:F9 X (compareOp .Lt) rLtU:=by
 intro pins s Y H x y v u Q I rx ry h
 cases x <;> cases y <;> try exact h.elim
 .exact op_lt pins s Y H _ _ v u Q I rx ry ⟨_,_,rfl,rfl,h⟩
 .exact uR pins s Y H _ _ v u Q I rx ry ⟨_,_,rfl,rfl,h⟩
theorem p_le:F9 X (compareOp .LtE) rLeU:=by
 intro pins s Y H x y v u Q I rx ry h
 cases x <;> cases y <;> try exact h.elim
 .exact op_le pins s Y H _ _ v u Q I rx ry ⟨_,_,rfl,rfl,h⟩
 .obtain ⟨t,rfl⟩:=rx;obtain ⟨t',rfl⟩:=ry;exact PySem.P.le_str ⟨.bl _,H,I,by simp [RelV],h⟩
theorem p_in(hu:X.A.units+64<cLine):F9 X (compareOp .In) (rInU X.K false):=by
 intro pins s Y H x y v u Q I rx ry h
 cases y with
 | str j=>
  obtain ⟨i,rfl,q⟩:=h;exact aib pins s Y H _ _ v u Q I rx ry ⟨i,j,rfl,rfl,by simpa using q⟩
 | ref p=>
  rcases h with h | ⟨o,g,q⟩
  .exact aik pins s Y H _ _ v u Q I rx ry h
  .obtain rfl:u=Value.ref p:=ry;exact d_in (by lia) I g rx fun s3 I3=>⟨.bl o.isSome,H,I3,rfl,by simpa using q⟩
 | _=>exact h.elim
theorem alK(hu:X.A.units+64<cLine):F9 X (compareOp .NotIn) (rInU X.K true):=by
 intro pins s Y H x y v u Q I rx ry h
 cases y with
 | str j=>
  obtain ⟨i,rfl,q⟩:=h;exact afl pins s Y H _ _ v u Q I rx ry ⟨i,j,rfl,rfl,by simpa using q⟩
 | ref p=>
  rcases h with h | ⟨o,g,q⟩
  .exact afk pins s Y H _ _ v u Q I rx ry h
  .obtain rfl:u=Value.ref p:=ry;exact alC (by lia) I g rx fun s3 I3=>⟨.bl (!o.isSome),H,I3,rfl,by simpa using q⟩
 | _=>exact h.elim
def cutS(x:Str)(lo hi:Option Int):Str:=⟨((x.cps.toList.drop (HT.sIx x.length 0 lo)).take (HT.sIx x.length x.length hi-HT.sIx x.length 0 lo)).toArray⟩
def rSlS:V->Option Int->Option Int->Hp->VK->Prop:=fun x lo hi H Q=>∃ z,x=.str z/\z.length<=sizeLine/\Q (.str (cutS z lo hi)) H
end
end L2
variable {C a b f fa it p r sl t:PySem.Addr}{dvs vs xs ys:List L2.V}{Q:L2.VK}{cd ct oc pm u v vl vu:PySem.Value}{c0 c1 c2 ck i j k m n t' x1:Nat}{items items2:Array PySem.Value}{fr ns:List Int}{its us:List PySem.Value}{A:PySem.Around}{s zw:PySem.Shared}{q qual y z:PySem.Str}{x:L2.V}{pins:List (PySem.Addr×PySem.Obj)}{Y:L2.St}{H H' H0 H1 H2 H3 zt:L2.Hp}{h h':PySem.Heap}{L M N N' S acc bad g' ks line loose ps ts zs:List PySem.Str}{K:PySem.W.Frag}{mg:PySem.Str->Option PySem.Value}{fd:PySem.FuncData}{sp:L2.Sp}{X:L2.Cx}{kvs:List (L2.B1×L2.V)}{prog:PySem.Program}{E:PySem.Value->PySem.Shared->Prop}{td te tk tl tv tx ty:L2.TE}{elts ifs values:List PySem.Expr}{B ixs pre:List Nat}{e elt iter target tg:PySem.Expr}{g:L2.TG}{c:L2.TT}{fp rs:List PySem.Addr}{apos cpos kpos p2 spos tpos:PySem.Pos}{calm fg neg:Bool}{st:PySem.Stmt}{an od:Option PySem.Addr}{tb:L2.TS}{D:L2.Ends}{o:PySem.Obj}{ta:L2.TA}{ss:Array (Option PySem.Value)}
set_option maxRecDepth 100000
namespace L2
open PySem PySem.Spec PyProof.Rows
section
variable {X:Cx}
theorem aiu(x:Str)(lo hi:Option Int):Txt.slice x lo hi=cutS x lo hi:=by
 have c1:∀ (o:Option Int) (d:Nat),(match o with | none=>(d:Int) | some i=>if (1:Int) > 0 then max 0 (min (if i<0 then i+(x.length:Int) else i) (x.length:Int)) else max (-1) (min (if i<0 then i+(x.length:Int) else i) ((x.length:Int)-1)))=((HT.sIx x.length d o:Nat):Int):=by
  intro o d
  cases o with
  | none=>rfl
  | some i=>
   rw [<- HT.clip_eq i x.length d];simp only [show ((1:Int) > 0)=True by simp,if_true]
   split <;> lia
 have h2:Builtin.Str.strSliceIndices lo hi 1 x.length=Builtin.Str.strSliceIndices (some ((HT.sIx x.length 0 lo:Nat):Int)) (some ((HT.sIx x.length x.length hi:Nat):Int)) 1 x.length:=by
  have e1:=c1 lo 0;have e2:=c1 hi x.length;have e3:=c1 (some ((HT.sIx x.length 0 lo:Nat):Int)) 0;have e4:=c1 (some ((HT.sIx x.length x.length hi:Nat):Int)) x.length;have l1:=HT.sIx_le x.length 0 (J5 _) lo;have l2:=HT.sIx_le x.length x.length (C4 _) hi;rw [HT.sIx_nat,dP l1] at e3;rw [HT.sIx_nat,dP l2] at e4;unfold Builtin.Str.strSliceIndices
  dsimp only at e3 e4 ⊢
  rw [e3,e4];clear e3 e4 l1 l2;refine congr (congr (congrArg sliceRange ?_) ?_) rfl
  .cases lo with
   | none=>exact e1
   | some i=>exact e1
  .cases hi with
   | none=>exact e2
   | some i=>exact e2
 have l1:=HT.sIx_le x.length 0 (J5 _) lo;have l2:=HT.sIx_le x.length x.length (C4 _) hi;unfold Txt.slice cutS;rw [h2];generalize HT.sIx x.length 0 lo=a at *;generalize HT.sIx x.length x.length hi=b at *;have len:x.length=x.cps.toList.length:=by simp [Str.length]
 by_cases bG:a<=b
 .rw [StrLaws.sliced_plain x bG l2,StrLaws.strSliceIndices_plain bG l2]
  split
  .rename_i hc
   have n8:b-a=x.length:=by simpa using hc
   have ha:a=0:=by lia
   subst ha;rw [List.drop_zero,b0 (by lia)]
  .rfl
 .have e:Builtin.Str.strSliceIndices (some (a:Int)) (some (b:Int)) 1 x.length=[]:=by
   have h1:¬ ((a:Int)<0):=by lia
   have h2:¬ ((b:Int)<0):=by lia
   have e1:max (0:Int) (min (a:Int) (x.length:Int))=a:=by lia
   have e2:max (0:Int) (min (b:Int) (x.length:Int))=b:=by lia
   simp only [Builtin.Str.strSliceIndices,sliceRange,h1,h2,if_false,e1,e2,show ((1:Int) > 0)=True from by simp,if_true];rw [if_neg (by lia)];rfl
  rw [e,show b-a=0 by lia,aG]
  split
  .rename_i hc
   have n8:0=x.length:=by simpa using hc
   have:x.cps.toList=[]:=List.eq_nil_of_length_eq_zero (by lia)
   obtain ⟨⟨l⟩⟩:=x;simp at this;subst this;rfl
  .rfl
theorem anu:dW X rSlS:=by
 intro pins s Y H x v vl vu lo hi sl Q I rx hs pl pu h;obtain ⟨z,rfl,hz,q⟩:=h;obtain ⟨t,rfl⟩:=rx;refine ⟨"str",_,F.slot_str_getitem.lookup,typeIs_str _ _ _,?_⟩;rw [<- aiu] at q;have part:∀ {u:Value} {o:Option Int},IsPart u o->∃ l:Option (Int×Tok),u=partValue l/\l.map (·.1)=o:=fun {u o} p=>by
  cases p with
  | none=>exact ⟨none,rfl,rfl⟩
  | int i t=>exact ⟨some (i,t),rfl,rfl⟩
 obtain ⟨l,rfl,el⟩:=part pl;obtain ⟨u,rfl,eu⟩:=part pu;subst el eu;refine wpAny_getItem_str_slice (l:=l) (u:=u) (st:=none) hs rfl ?_;exact post_val_or_str ⟨M6 (Txt.slice_le z _ _) hz,fun t' k=>⟨.str _,H,I.tok _,⟨t',rfl⟩,q⟩⟩
theorem ac2{w:World}{lo hi:Option Int}{Q:Value->Shared->Prop}(ht:IsTup s.heap t items)(hs:s.heap.IsSliceOf sl vl vu .none)(pl:IsPart vl lo)(pu:IsPart vu hi)(hw:HT.sIx items.size 0 lo=0/\HT.sIx items.size items.size hi=items.size)(h:Q (.ref t) s):wpAny (model prog w) A (getItem (.ref t) (.ref sl)) Q E s:=by
 obtain ⟨os,cV,nF,jH⟩:=id hs;have hTs:s.TypeIs (.ref sl) "slice":=⟨os,cV,nF⟩
 unfold getItem
 try with_reducible refine wpAny_holding ?_
 first | refine wpAny_bind (wpAny_pure ?_) | skip
 refine wpAny_bind (wpAny_sequenceKey ht.typeIs (by decide) ?_);refine wpAny_bind (wpAny_callSpecial?_slot (name:=Str.ofString "__getitem__") ht.typeIs PyProof.Rows.slot_tuple_getitem
  (wpAny_call_entry PyProof.Rows.slot_tuple_getitem ht.typeIs PyProof.Rows.entry_tuple_getitem ?_ (PyProof.Rows.args_tuple_getitem _ _)))
 show wpAny _ _ (Builtin.Tuple.tupleItemsOf (.ref t) >>= _) _ _ s;refine wpAny_bind (PyProof.Rows.tupleItemsOf_ ht ?_);refine wpAny_bind (wpAny_typeOf hTs ?_);rw [if_pos (by decide)];refine wpAny_bind (HT.sliceApplied_gen hs pl pu ?_);have sO:((((HT.sIx items.size 0 lo:Nat):Int)==0&&(1:Int)==1&&(HT.sIx items.size items.size hi-HT.sIx items.size 0 lo)==items.size)=true):=by
  rw [hw.1,hw.2]
  simp
 show wpAny _ _ (if (((HT.sIx items.size 0 lo:Nat):Int)==0&&(1:Int)==1&&(HT.sIx items.size items.size hi-HT.sIx items.size 0 lo)==items.size)=true then _ else _) _ _ s;rw [if_pos sO];refine wpAny_bind ?_;show wpAny _ _ (typeOf (.ref t) >>= fun v=>pure (v == .type "tuple")) _ _ s;refine wpAny_bind (wpAny_typeOf ht.typeIs (wpAny_pure ?_));rw [if_pos (by decide)];refine wpAny_bind (wpAny_rule ?_);exact wpAny_pure ⟨_,rfl,wpAny_pure h⟩
def rSlW(K:PySem.W.Frag):V->Option Int->Option Int->Hp->VK->Prop:=fun x lo hi H Q=>∃ a xs,x=.ref a/\C7 K H a xs/\(HT.sIx xs.length 0 lo=0/\HT.sIx xs.length xs.length hi=xs.length)/\Q (.ref a) H
theorem anv:dW X (rSlW X.K):=by
 intro pins s Y H x v vl vu lo hi sl Q I rx hs pl pu h;obtain ⟨a,xs,rfl,hx,hw,q⟩:=h
 cases rx
 obtain ⟨its,r,ht,hz⟩:=I.tuple hx;have A9:its.toArray.size=xs.length:=by rw [J9];exact r.length.symm
 refine ⟨"tuple",_,PyProof.Rows.slot_tuple_getitem.lookup,ht.typeIs,?_⟩;exact ac2 ht hs pl pu (by rw [A9];exact hw) ⟨.ref a,H,I,rfl,q⟩
def rSlR(K:PySem.W.Frag)(a:Addr)(lo hi:Option Int)(H:Hp)(Q:VK):Prop:=rSlL K (.ref a) lo hi H Q\/rSlT K (.ref a) lo hi H Q\/rSlW K (.ref a) lo hi H Q
theorem rSlR.l{lo hi:Option Int}(h1:C9 K H a xs)(h:∀ p,H p=none->Q (.ref p) (A0 H p (.lst (cutV xs lo hi)))):rSlR K a lo hi H Q:=.inl ⟨a,xs,rfl,h1,h⟩
theorem g7{lo hi:Option Int}(h1:C7 K H a xs)(h2:¬ (HT.sIx xs.length 0 lo=0/\HT.sIx xs.length xs.length hi=xs.length))(h:∀ p,H p=none->Q (.ref p) (A0 H p (.tup (cutV xs lo hi)))):rSlR K a lo hi H Q:=.inr (.inl ⟨a,xs,rfl,h1,h2,h⟩)
theorem rSlR.w{lo hi:Option Int}(h1:C7 K H a xs)(h2:HT.sIx xs.length 0 lo=0/\HT.sIx xs.length xs.length hi=xs.length)(h:Q (.ref a) H):rSlR K a lo hi H Q:=.inr (.inr ⟨a,xs,rfl,h1,h2,h⟩)
def rSlU(K:PySem.W.Frag):V->Option Int->Option Int->Hp->VK->Prop
 | .str z,lo,hi,H,Q=>z.length<=sizeLine/\Q (.str (cutS z lo hi)) H
 | .ref a,lo,hi,H,Q=>rSlR K a lo hi H Q
 | _,_,_,_,_=>False
theorem p_sl:dW X (rSlU X.K):=by
 intro pins s Y H x v vl vu lo hi sl Q I rx hs pl pu h
 cases x with
 | str z=>exact anu pins s Y H _ v vl vu lo hi sl Q I rx hs pl pu ⟨z,rfl,h⟩
 | ref a=>
  rcases h with h | h | h
  .exact alA pins s Y H _ v vl vu lo hi sl Q I rx hs pl pu h
  .exact ani pins s Y H _ v vl vu lo hi sl Q I rx hs pl pu h
  .exact anv pins s Y H _ v vl vu lo hi sl Q I rx hs pl pu h
 | _=>exact h.elim
def LenR(K:PySem.W.Frag)(H:Hp)(p:Addr)(n:Nat):Prop:=(∃ xs,C9 K H p xs/\n=xs.length)\/(∃ xs,C7 K H p xs/\n=xs.length)\/∃ kvs,Rd H p (.dK kvs)/\n=kvs.length
def rLenU(K:PySem.W.Frag):List V->Hp->VK->Prop
 | [.str z],H,Q=>z.length<=sizeLine/\Q (.int z.length) H
 | [.ref p],H,Q=>∃ n:Nat,LenR K H p n/\Q (.int n) H
 | _,_,_=>False
theorem p_len:CallR X (.builtin "len") (rLenU X.K):=by
 intro pins s Y H xs us Q I r h
 match xs,h with
 | [.str z],h=>exact oJ pins s Y H _ us Q I r ⟨.str z,z.length,rfl,⟨h.1,rfl⟩,h.2⟩
 | [.ref p],⟨n,l,q⟩=>
  rcases l with ⟨xs,l,rfl⟩ | ⟨xs,l,rfl⟩ | ⟨kvs,l,rfl⟩
  .exact oJ pins s Y H _ us Q I r ⟨.ref p,_,rfl,.inl ⟨xs,l,rfl⟩,q⟩
  .exact oJ pins s Y H _ us Q I r ⟨.ref p,_,rfl,.inr ⟨xs,l,rfl⟩,q⟩
  .obtain ⟨u,rfl,ru⟩:=vals1 r
   cases ru
   exact d_len I l fun t s' I'=>⟨.int kvs.length,H,I',⟨t,rfl⟩,q⟩
theorem ad3(hc:X.calm=true):CallR X (.type "list") (fun xs H Q=>∃ d kvs,xs=[.ref d]/\Rd H d (.dK kvs)/\∀ l,H l=none->Q (.ref l) (A0 H l (.lst (kvs.map fun kv=>kV kv.1)))):=by
 intro pins s Y H xs us Q I r h;obtain ⟨d,kvs,rfl,e,q⟩:=h;obtain ⟨u,rfl,rx⟩:=vals1 r
 cases rx
 obtain ⟨z,hd,vs,rel,dd⟩:=dk_rd I.hok e;obtain ⟨ep,Q9⟩:=dd.dictAt;have hl:=rel.length;refine PySem.W.kdl_call (PySem.W.kdl_dict (knd:=M9 X.prog X.w) (kvs:=vs) (ep:=ep) hd) (I.ok.hd hc) Q9 (by lia) fun h' tk acc c' kp hD x4=>?_
 have hv:Vals (kvs.map fun kv=>kV kv.1) acc.toList:=by
  have hk:=rel.keys;have A9:acc.toList.length=kvs.length:=by rw [bU,x4.1,hl]
  have key:∀ (ks:List B1) (us:List Value),us.length=ks.length->(∀ (j:Nat) (v:Value),us[j]?=some v->∃ k,ks[j]?=some k/\keyIs k v=true)->Vals (ks.map kV) us:=by
   intro ks
   induction ks with
   | nil=>intro us h1 _;cases us with
    | nil=>exact .nil
    | cons _ _=>simp at h1
   | cons k ks ih=>
    intro us h1 h2
    cases us with
    | nil=>simp at h1
    | cons u us=>
     obtain ⟨k',e1,e2⟩:=h2 0 u rfl;simp at e1;subst e1;refine .cons ?_ (ih us (by simpa using h1) fun j v hj=>by simpa using h2 (j+1) v (by simpa using hj))
     rcases g0 e2 with ⟨i,t,rfl,rfl⟩ | ⟨x,t,rfl,rfl⟩
     .exact ⟨t,rfl⟩
     .exact ⟨t,rfl⟩
  rw [show (kvs.map fun kv=>kV kv.1)=(kvs.map (·.1)).map kV by rw [q0];rfl];refine key _ _ (by rw [A9,A8]) fun j v hj=>?_
  obtain ⟨k,x,hx,sP⟩:=x4.2 j v (by rw [<- Array.getElem?_toList];exact hj);refine ⟨k,?_,sP⟩;rw [hk,c9,hx];rfl
 refine ⟨.ref s.heap.objs.size,_,I.laid (t':=tk) kp (C4 _) (show ObjOk X.prog X.w _ h' _ (.lst (kvs.map fun kv=>kV kv.1)) from ⟨by rw [A8];exact z,acc.toList,c',hv,by simpa using hD⟩),rfl,q _ (I.hok.fresh (C4 _))⟩
def rListR(K:PySem.W.Frag)(calm:Bool)(p:Addr)(H:Hp)(Q:VK):Prop:=(∃ ys,(C9 K H p ys\/C7 K H p ys)/\∀ l,H l=none->Q (.ref l) (A0 H l (.lst ys)))\/(calm=true/\∃ kvs,Rd H p (.dK kvs)/\∀ l,H l=none->Q (.ref l) (A0 H l (.lst (kvs.map fun kv=>kV kv.1))))
theorem rListR.l(h1:C9 K H p ys\/C7 K H p ys)(h:∀ l,H l=none->Q (.ref l) (A0 H l (.lst ys))):rListR K calm p H Q:=.inl ⟨ys,h1,h⟩
theorem rListR.d(h1:Rd H p (.dK kvs))(h:∀ l,H l=none->Q (.ref l) (A0 H l (.lst (kvs.map fun kv=>kV kv.1)))):rListR K true p H Q:=.inr ⟨rfl,kvs,h1,h⟩
def pG(K:PySem.W.Frag)(calm:Bool):List V->Hp->VK->Prop
 | [.ref p],H,Q=>rListR K calm p H Q
 | _,_,_=>False
theorem anw:CallR X (.type "list") (pG X.K X.calm):=by
 intro pins s Y H xs us Q I r h
 match xs,h with
 | [.ref p],h=>
  rcases h with ⟨ys,h1,h2⟩ | ⟨hc,kvs,h1,h2⟩
  .exact afm pins s Y H _ us Q I r ⟨p,ys,rfl,h1,h2⟩
  .exact ad3 hc pins s Y H _ us Q I r ⟨p,kvs,rfl,h1,h2⟩
def rAllB(calm:Bool):List V->Hp->VK->Prop
 | [.ref p],H,Q=>∃ bs:List Bool,calm=true/\H p=some (.lst (bs.map V.bl))/\Q (.bl (bs.all id)) H
 | _,_,_=>False
def vV(H:Hp):V->Option String
 | .non=>some "NoneType"
 | .bl _=>some "bool"
 | .int _=>some "int"
 | .str _=>some "str"
 | .ref a=>match H a with
  | some (.lst _)=>some "list"
  | some (.frz _ (.lst _))=>some "list"
  | some (.tup _)=>some "tuple"
  | some (.dK _)=>some "dict"
  | _=>none
 | _=>none
def vW(T n:String):Bool:=T==n || (T == "bool" && n == "int")
def isTys:List String:=["str", "int", "bool", "list", "tuple", "dict"]
def rIsi:List V->Hp->VK->Prop
 | [x,.ty n],H,Q=>∃ T,vV H x=some T/\isTys.contains n=true/\Q (.bl (vW T n)) H
 | _,_,_=>False
def rOrd:List V->Hp->VK->Prop
 | [.str z],H,Q=>z.length=1/\Q (.int (z.cps.getD 0 0:Nat)) H
 | _,_,_=>False
theorem p_ord:CallR X (.builtin "ord") rOrd:=by
 intro pins s Y H xs us Q I r h
 match xs,h with
 | [.str z],h=>exact ajC pins s Y H _ us Q I r ⟨z,rfl,h⟩
def eC(x:Str):It:=⟨fun i _=>i<x.cps.size,fun i H v H'=>H'=H/\∃ c,x.cps.toList[i]?=some c/\v=.str ⟨#[c]⟩,fun i _=>x.cps.size<=i⟩
theorem ajT{P:Program}{w:World}{ty:String}(Y7:ty="str_ascii_iterator"\/ty="str_iterator")(it:Addr)(x:Str)(t:Tok):Turn P w K tg (eC x) [it] it (fun i h=>h.IsStrIter it ty x t i) where
 mem:=by simp
 obj:=fun i h st b hb=>by
  have e:b=it:=by simpa using hb
  subst e;obtain ⟨o,e,c,d⟩:=st;exact ⟨o,e,fun v z=>by rw [d] at z;cases z⟩
 keep:=fun i h h' st k=>let ⟨o,e,r⟩:=st;⟨o,k it (by simp) o e,r⟩
 item:=by
  intro X hP hw hK hc i pins s Y H E I hf st hg;subst hP hw hK;obtain ⟨f0,f1,f2,f3,f4,f5⟩:=hf it (by simp);have fM:i<x.cps.size:=hg;have go:∀ h',h'.IsStrIter it ty x t (i+1)->Heap.SameBut it s.heap h'->∃ u,some (Value.str ⟨#[x.cps[i]]⟩ s.toks)=some u/\
    wpAny (model X.prog X.w) X.A (letOwnedTupleGo tg (.ref it) u) (fun _ s2=>∃ y H',Inv X pins Y H' s2/\RelV y u/\(eC x).yld i H y H'/\s2.heap.IsStrIter it ty x t (i+1)/\∀ b∈[it],H' b=none) E { s with heap:=h',toks:=s.toks+1 }:=by
   intro h' st' sb;have I1:Inv X pins Y H { s with heap:=h',toks:=s.toks+1 }:=I.turned (t':=s.toks+1) (fun b o hb e=>(sb.2 b hb).trans e) f0 f1 f3 f4 f5;obtain ⟨o,e,c,d⟩:=id st';refine ⟨_,rfl,go_of (s:={ s with heap:=h',toks:=s.toks+1 }) e c d (by rcases Y7 with rfl | rfl <;> decide) ⟨.str ⟨#[x.cps[i]]⟩,H,I1,⟨_,rfl⟩,⟨rfl,x.cps[i],?_,rfl⟩,st',fun b hb=>(hf b hb).1⟩⟩;simp [fM]
  rcases Y7 with rfl | rfl
  .exact wpAny_pyNext_ascii_item st (c:=x.cps[i]) (by simp [fM]) go
  .exact wpAny_pyNext_wide_item st (c:=x.cps[i]) (by simp [fM]) go
 done:=by
  intro X hP hw hK hc i pins s Y H E I hf st hg;subst hP hw hK;obtain ⟨f0,f1,f2,f3,f4,f5⟩:=hf it (by simp);have fM:x.cps.size<=i:=hg;have fin:∀ h',Heap.ExtBut it s.heap h'->(none:Option Value)=none/\Inv X pins Y H { s with heap:=h' }:=fun h' eb=>⟨rfl,I.turned (t':=s.toks) (fun b o hb e=>eb b o hb e) f0 f1 f3 f4 f5⟩
  rcases Y7 with rfl | rfl
  .exact wpAny_pyNext_ascii_end (I.ok.hd hc) st (by simp [fM]) fin
  .exact wpAny_pyNext_wide_end (I.ok.hd hc) st (by simp [fM]) fin
 self:=fun A i s Q E st h=>by
  rcases Y7 with rfl | rfl
  .exact wpAny_pyIter_striter_ascii st h
  .exact wpAny_pyIter_striter_wide st h
def iStr(tl:TE):TI:=fun Y H R=>tl Y H fun x H1=>∃ z,x=.str z/\R (eC z) H1
variable {tg:Expr}
theorem anx{l:Expr}(hl:PE X l tl):PI X tg l (iStr tl):=by
 intro pins s Y H R I h;refine B5 (hl pins s Y H _ I h) fun v s1 ⟨x,H1,I1,r1,q1⟩=>?_
 obtain ⟨z,rfl,q⟩:=q1;obtain ⟨t,rfl⟩:=r1;have fin:∀ (ty:String) (Y7:ty="str_ascii_iterator"\/ty="str_iterator"),uK X pins Y tg R (.ref s1.heap.objs.size) { s1 with heap:=s1.heap.push { cls:=.type ty,data:=.fields #[.str z t,.int 0 0] } }:=fun ty Y7=>by
  refine ⟨s1.heap.objs.size,[s1.heap.objs.size],_,_,H1,rfl,I1.kept (t':=s1.toks) fun b o e=>Heap.get?_push_of_some _ e,ajT Y7 s1.heap.objs.size z t,⟨_,Heap.get?_push_size _ rfl,rfl,rfl⟩,fun b hb=>?_,q⟩;have e:b=s1.heap.objs.size:=by simpa using hb
  subst e;exact I1.fpOk (C4 _) (I1.hok.fresh (C4 _))
 cases ha:z.cps.all (· < 128)
 .exact wpAny_pyIter_wide ha (fin _ (.inr rfl))
 .exact wpAny_pyIter_ascii ha (fin _ (.inl rfl))
end
end L2
set_option maxRecDepth 100000
namespace L2
open PySem PySem.Spec PyProof.Rows
def M0:Expr->Bool
 | .Starred _ _=>true
 | _=>false
def U8(es:List Expr):Bool:=es.all fun e=>!M0 e
theorem N9{es:List Expr}{env:Env}(h:M0 e=false):starEach (e::es) env=(false,eval e env)::starEach es env:=by
 cases e <;> first | rfl | cases h
theorem cE{pos:Pos}{env:Env} : ∀ {es:List Expr},U8 es=true->(backTo pos (starEach es env)).any (·.1)=false
 | [],_=>rfl
 | e::es,h=>by
  have h':(!M0 e&&U8 es)=true:=h;rw [W4] at h';rw [N9 (by simpa using h'.1)];have ih:=cE (pos:=pos) (env:=env) h'.2;unfold backTo at ih ⊢
  rw [E8,Z0,ih];rfl
theorem vX{pos:Pos}{env:Env} : ∀ {es:List Expr},U8 es=true->(backTo pos (starEach es env)).all (fun x=>!x.1)=true
 | [],_=>rfl
 | e::es,h=>by
  have h':(!M0 e&&U8 es)=true:=h;rw [W4] at h';rw [N9 (by simpa using h'.1)];have ih:=vX (pos:=pos) (env:=env) h'.2;unfold backTo at ih ⊢
  rw [E8,List.all_cons,ih];rfl
section
variable {X:Cx} {e:Expr} {es:List Expr} {te:TE} {t:TA} {x:Str} {p pos:Pos} {id T:String} {r:List V->Hp->VK->Prop}
theorem pa_c(ha:PE X e te)(hr:PA X es t)(h:M0 e=false:=by rfl):PA X (e::es) (tCons te t):=alr ha hr (N9 h)
theorem pe_cB(hc:CallR X (.builtin id) r)(hg:Gl X x)(hm:X.mg x=none)(hv:bootBuiltins x=some (.builtin id))(ha:PA X (e::es) t)(h1:M0 e=false:=by rfl)(h2:U8 es=true:=by rfl)(hn:x≠"__name__":=by decide)(P5:(x==("__debug__" : Str))=false:=by decide) :
  PE X (.Call (.Name x p) (e::es) [] pos) (bX r t):=ajH hc hg hm hv ha hn P5 (N9 h1) (cE h2)
theorem pe_cT(hc:CallR X (.type T) r)(hg:Gl X x)(hm:X.mg x=none)(hv:bootBuiltins x=some (.type T))(ha:PA X (e::es) t)(h1:M0 e=false:=by rfl)(h2:U8 es=true:=by rfl)(hn:x≠"__name__":=by decide)(P5:(x==("__debug__" : Str))=false:=by decide) :
  PE X (.Call (.Name x p) (e::es) [] pos) (bX r t):=aii hc hg hm hv ha hn P5 (N9 h1) (cE h2)
variable {o:Expr} {to:TE} {name:Str} {apos cpos:Pos} {rm:V->List V->Hp->VK->Prop}
theorem pe_mB(pa:PlainAttrs T)(slot:Slot T name id)(Y7:typeOf (.builtin id)=pure (.type "method_descriptor"))(hm:oS X id rm)(ho:PE X o to)(ha:PA X (e::es) t)(h1:M0 e=false:=by rfl)(h2:U8 es=true:=by rfl)(h3:decide ((e::es).length<30)=true:=by rfl)(K1:attributeBase o name X.env (eval o X.env)=eval o X.env:=by rfl)(K2:(apos.endLine==cpos.line)=true:=by rfl):PE X (.Call (.Attribute o name apos) (e::es) [] cpos) (dX X.K T rm to t):=
 pe_bm pa slot Y7 hm ho ha K1 (by
  rw [vX (show U8 (e::es)=true by show (!M0 e&&U8 es)=true;rw [h1,h2];rfl)];have h3':(e::es).length<30:=of_decide_eq_true h3;simp only [List.isEmpty_nil,if_true,f7,Nat.add_zero,Bool.true_and];rw [decide_eq_true h3'];rfl) K2 (N9 h1) (cE h2)
variable {tg a b:Expr} {ta:TA}
end
def FO(P:Program)(w:World)(K:PySem.W.Frag)(mg:Str->Option Value)(base:Heap)(k:Nat)(x:Str)(ps:List Str)(dvs:List V)(sp:Sp):Prop:=
 ∃ f fd,FnOk P w K mg base E1 k f fd ps sp/\mg x=some (.ref f)/\R6 K (.ref f)=true/\∃ ds,Binds K fd ps ds/\Vals dvs ds
structure FunD(K:PySem.W.Frag)(x qual:Str)(st:Stmt)(f:Addr)(fd:FuncData):Prop where
 ex:∃ (oc:Value) (od:Option Addr) (dV kV doc pm:Value) (an:Option Addr) (cdv ct:Value) (osl:Array (Option Value)),
  fd=Q5 x qual (R8 st) (R0 st) (C6 st) dV kV doc pm an cdv ct/\K.lookup f=some ⟨oc,od,.func fd,osl⟩/\V3 K cdv qual=true
section
variable {P:Program} {w:World} {K:PySem.W.Frag} {mg:Str->Option Value} {base:Heap}
theorem FunD.ok{x:Str}(F:FunD K x qual st f fd)(S:FnScope N ps (C6 st))(len:∀ vs H Q E,sp vs H Q E->vs.length=ps.length)(i7:∀ (cdv:Value) (A:Around) (outer:List Env) (s:Shared) (H:Hp) (vs:List V) (Q:VK) (E:XK),Room k (A.deeper (envOfC qual (C6 st) s.heap.objs.size f cdv))->sp vs H Q E->
   ∃ t,V4 (cxOf E1 P w K mg base N qual (C6 st) f cdv A outer s H E).nox (R0 st) t/\t { nx:=fun _ H'=>Q .non H',rt:=Q } (start N vs) H):FnOk P w K mg base E1 (k+1) f fd ps sp:=by
 obtain ⟨oc,od,dV,kV,doc,pm,an,cdv,ct,osl,rfl,lk,a0⟩:=F.ex;refine fn_of lk a0 S len fun A outer s H vs Q E hr bE=>?_
 obtain ⟨t,h,q⟩:=i7 cdv A outer s H vs Q E hr bE;exact ⟨t,h.nox,q⟩
theorem k9{x:Str}{osl:Array (Option Value)}{dV kV doc cdv:Value}(l:K.lookup f=some ⟨oc,od,.func (Q5 x qual (R8 st) (R0 st) (C6 st) dV kV doc pm an cdv ct),osl⟩)(c:V3 K cdv qual=true):FunD K x qual st f (Q5 x qual (R8 st) (R0 st) (C6 st) dV kV doc pm an cdv ct):=⟨oc,od,dV,kV,doc,pm,an,cdv,ct,osl,rfl,l,c⟩
end
section
variable {X:Cx} {k:Nat} {ps:List Str} {sp:Sp} {dvs:List V} {x:Str} {p pos:Pos} {e:Expr} {es:List Expr} {t:TA}
theorem ajU(G:FO X.prog X.w X.K X.mg X.base k x ps dvs sp)(hr:Room k X.A)(ha:PA X (e::es) t)(hg:Gl X x:=by rfl)(h1:M0 e=false:=by rfl)(h2:U8 es=true:=by rfl)(P5:(x==("__debug__" : Str))=false:=by decide):PE X (.Call (.Name x p) (e::es) [] pos) (tCall sp dvs E0 t):=by
 obtain ⟨f,fd,F,hm,hk,ds,hb,hd⟩:=G;exact als F hr hg hm hk hb hd pass0 ha P5 (N9 h1) (cE h2)
theorem ajV{i:Int}(h:∃ t,X.mg x=some (.int i t))(hg:Gl X x:=by rfl)(hd:(x==("__debug__" : Str))=false:=by decide):PE X (.Name x p) (tC (.int i)):=by
 obtain ⟨t,h⟩:=h;exact uJ hg h ⟨t,rfl⟩ hd
theorem ajW(h:X.mg x=some (.ref a))(hg:Gl X x:=by rfl)(hd:(x==("__debug__" : Str))=false:=by decide):PE X (.Name x p) (tC (.ref a)):=uJ hg h rfl hd
end
section
variable {Y:St} {H:Hp} {Q:VK} {B:Bool->Hp->Prop} {ta tb tc te:TE} {t u:TS} {tt uu:TT} {D:Ends} {i:Nat} {v:V} {r r':R2} {K:PySem.W.Frag} {taa:TA} {R:List V->Hp->Prop} {g:TG}
theorem vY:tVar i Y H Q=∃ v,(Y[i]?).join=some v/\Q v H:=by
 unfold tVar;refine propext ⟨fun ⟨v,h,q⟩=>⟨v,by rw [h];rfl,q⟩,fun ⟨v,h,q⟩=>⟨v,?_,q⟩⟩;cases e:Y[i]? with
 | none=>rw [e] at h;cases h
 | some o=>rw [e] at h;exact congrArg some h
theorem ap_c:tC v Y H Q=Q v H:=rfl
theorem ap_op:g6 r ta tb Y H Q=ta Y H fun x H1=>tb Y H1 fun y H2=>r x y H2 Q:=rfl
theorem ap_un{ru:V->Hp->VK->Prop} : oH ru ta Y H Q=ta Y H fun x H1=>ru x H1 Q:=rfl
theorem ap_rU{f:Int->V} : rU f x H Q=∃ i,x=.int i/\Q (f i) H:=rfl
theorem alL:tTest ta Y H B=ta Y H fun x H'=>∃ k,x=.bl k/\B k H':=rfl
theorem ap_tB:tB ta Y H B=ta Y H fun x H'=>∃ k,x=.bl k/\B k H':=rfl
theorem alM:tTru K ta Y H B=ta Y H fun x H'=>∃ k,TruV K x H' k/\B k H':=rfl
theorem alN:tNotT K ta Y H Q=ta Y H fun x H'=>∃ k,TruV K x H' k/\Q (.bl (!k)) H':=rfl
theorem ajX:oI r r' ta tb tc Y H Q=ta Y H fun x H1=>tb Y H1 fun y H2=>r x y H2 fun z H3=>∃ k,z=.bl k/\(if k=true then tc Y H3 fun w' H4=>r' y w' H4 Q else Q (.bl false) H3):=rfl
theorem anz:tAnd tt uu Y H B=tt Y H fun c H1=>if c=true then uu Y H1 B else B false H1:=rfl
theorem ap_or:oB tt uu Y H B=tt Y H fun c H1=>if c=true then B true H1 else uu Y H1 B:=rfl
theorem anA:tNot tt Y H B=tt Y H fun c H1=>B (!c) H1:=rfl
theorem alO:tAndV ta tb Y H Q=ta Y H fun x H1=>∃ c,x=.bl c/\if c=true then tb Y H1 Q else Q (.bl false) H1:=rfl
theorem anB:tOrV ta tb Y H Q=ta Y H fun x H1=>∃ c,x=.bl c/\if c=true then Q (.bl true) H1 else tb Y H1 Q:=rfl
theorem alP:tNotV ta Y H Q=ta Y H fun x H1=>∃ c,x=.bl c/\Q (.bl (!c)) H1:=rfl
theorem ap_if:oC tt ta tb Y H Q=tt Y H fun c H1=>if c=true then ta Y H1 Q else tb Y H1 Q:=rfl
theorem alQ:tNext D Y H=D.nx Y H:=rfl
theorem anC:tSeq t u D Y H=t { D with nx:=u D } Y H:=rfl
theorem ajY:amT D Y H=D.bk Y H:=rfl
theorem alR:tCont D Y H=D.ct Y H:=rfl
theorem alS:tDrop te D Y H=te Y H fun _ H1=>D.nx Y H1:=rfl
theorem anD:tRet te D Y H=te Y H D.rt:=rfl
theorem alT:tRetN D Y H=D.rt .non H:=rfl
theorem anE:tIfS tt t u D Y H=tt Y H fun b H1=>if b=true then t D Y H1 else u D Y H1:=rfl
theorem ajZ:oE D Y H=False:=rfl
theorem alU{Z:St->Hp->Prop} : gName i v Y H Z=Z (Y.set i (some v)) H:=rfl
theorem alV{Z:St->Hp->Prop} : gNil vs Y H Z=(vs=[]/\Z Y H):=rfl
theorem aj0{us:Z4}{Z:St->Hp->Prop} : gCons g us vs Y H Z=∃ v r,vs=v::r/\g v Y H fun σ' H'=>us r σ' H' Z:=rfl
theorem alW{us:Z4}{Z:St->Hp->Prop} : gTup K n us v Y H Z=∃ a xs,v=.ref a/\C7 K H a xs/\xs.length=n/\us xs Y H Z:=rfl
theorem alX{ts:TSet}{Z:St->Hp->Prop} : gSub ta tb ts v Y H Z=ta Y H fun o H1=>tb Y H1 fun i H2=>ts o i v H2 fun H3=>Z Y H3:=rfl
theorem anF:tAsg te g D Y H=te Y H fun x H1=>g x Y H1 D.nx:=rfl
theorem anG{ti:bV} : tAug i te ti D Y H=∃ x,(Y[i]?).join=some x/\te Y H fun y H1=>ti x y H1 fun z H2=>D.nx (Y.set i (some z)) H2:=vY (Q:=fun x H=>te Y H fun y H1=>ti x y H1 fun z H2=>D.nx (Y.set i (some z)) H2)
theorem anH{f:Int->Int->Int}{y:V} : oG f x y H Q=∃ i j,x=.int i/\y=.int j/\Q (.int (f i j)) H:=rfl
theorem alY:tCons te taa Y H R=te Y H fun x H1=>taa Y H1 fun xs H2=>R (x::xs) H2:=rfl
theorem anI:tNil Y H R=R [] H:=rfl
theorem alZ{E:XK} : tCall sp dvs E taa Y H Q=taa Y H fun vs H1=>sp (vs++dvs) H1 Q E:=rfl
theorem ap_cb{rc:List V->Hp->VK->Prop} : bX rc taa Y H Q=taa Y H fun vs H1=>rc vs H1 Q:=rfl
theorem anJ:tTup taa Y H Q=taa Y H fun xs H1=>xs.length<=sizeLine/\∀ p,H1 p=none->Q (.ref p) (A0 H1 p (.tup xs)):=rfl
theorem anK:tLst taa Y H Q=taa Y H fun xs H1=>xs.length<=sizeLine/\∀ p,H1 p=none->Q (.ref p) (A0 H1 p (.lst xs)):=rfl
theorem ap_sl{rs:V->Option Int->Option Int->Hp->VK->Prop}{tl th:TO} : oQ rs te tl th Y H Q=te Y H fun x H1=>tl Y H1 fun l H2=>th Y H2 fun u H3=>rs x l u H3 Q:=rfl
theorem aiw{O:Option Int->Hp->Prop} : oP Y H O=O none H:=rfl
theorem al0{O:Option Int->Hp->Prop} : tPart te Y H O=te Y H fun x H1=>∃ i,x=.int i/\O (some i) H1:=rfl
theorem ap_bm{T:String}{rm:V->List V->Hp->VK->Prop} : dX K T rm te taa Y H Q=te Y H fun x H1=>aN K T x H1/\taa Y H1 fun xs H2=>rm x xs H2 Q:=rfl
theorem anL{T:String}{rm:V->List V->Hp->VK->Prop} : tBM0 K T rm te Y H Q=te Y H fun x H1=>aN K T x H1/\rm x [] H1 Q:=rfl
theorem anM:tYes Y H B=B true H:=rfl
theorem al1:oY Y H Q=∀ p,H p=none->Q (.ref p) (A0 H p (.dK [])):=rfl
theorem al2:tDGet ta tb Y H Q=ta Y H fun x H1=>tb Y H1 fun y H2=>∃ a v,x=.ref a/\DGet H2 a y (some v)/\Q v H2:=rfl
theorem al3:sDPut ta tb tc D Y H=tc Y H fun v H1=>ta Y H1 fun x H2=>tb Y H2 fun y H3=>∃ a H4,x=.ref a/\DPut H3 a y v H4/\D.nx Y H4:=rfl
theorem al4{rd:V->V->Hp->VK->Prop} : sDAug ta tb tc rd D Y H=ta Y H fun x H1=>tb Y H1 fun y H2=>∃ a v,x=.ref a/\DGet H2 a y (some v)/\tc Y H2 fun y2 H3=>rd v y2 H3 fun z H4=>∃ H5,DPut H4 a y z H5/\D.nx Y H5:=rfl
theorem al5{y:V} : t8 (fun i j=>V.int (i-j)) x y H Q=∃ i j,x=.int i/\y=.int j/\Q (.int (i-j)) H:=rfl
theorem aj1{y:V} : rI CDiv (fun i j=>V.int (i / j)) x y H Q=∃ i j,x=.int i/\y=.int j/\(0<j/\j<1073741824)/\Q (.int (i / j)) H:=rfl
theorem al6{y:V} : rI (fun _ j=>0<j) (fun i j=>V.int (i % j)) x y H Q=∃ i j,x=.int i/\y=.int j/\0<j/\Q (.int (i % j)) H:=rfl
theorem al7 : aN K "str" (.str z) H=True:=by simp [aN]
def ForIt(J:It)(g:TG)(tb:TS)(D:Ends)(Y:St)(H1:Hp):Prop:=∃ W:Nat->Nat->St->Hp->Prop,(∃ m,W 0 m Y H1)/\∀ i m Y H,W i m Y H->
 (J.stop i H/\D.nx Y H)\/(J.go i H/\∃ N:St->Hp->Prop,(∀ σ' H',N σ' H'->∃ m',m'<m/\W (i+1) m' σ' H')/\∀ x H',J.yld i H x H'->g x Y H' fun σ2 H2=>tb { D with nx:=N,ct:=N,bk:=D.nx } σ2 H2)
theorem anN{wi:TI}{tbs:TS} : tFor wi g tbs D Y H=wi Y H fun J H1=>ForIt J g tbs D Y H1:=rfl
theorem aj2{Z:It->Hp->Prop} : iList K te Y H Z=te Y H fun x H1=>∃ a,x=.ref a/\(∃ xs,C9 K H1 a xs)/\Z (k8 K a) H1:=rfl
theorem al8{Z:It->Hp->Prop} : iTup K te Y H Z=te Y H fun x H1=>∃ a,x=.ref a/\(∃ xs,C7 K H1 a xs)/\Z (aK K a) H1:=rfl
theorem al9{Z:It->Hp->Prop} : iStr te Y H Z=te Y H fun x H1=>∃ z,x=.str z/\Z (eC z) H1:=rfl
theorem aj3{Z:It->Hp->Prop} : iRng1 taa Y H Z=taa Y H fun vs H1=>∃ j:Int,vs=[.int j]/\-(2 ^ 62)<=j/\j<2 ^ 62/\Z (kW 0 j.toNat) H1:=rfl
theorem aj4{Z:It->Hp->Prop} : iRng2 taa Y H Z=taa Y H fun vs H1=>∃ i j:Int,vs=[.int i,.int j]/\(-(2 ^ 62)<=i/\i<2 ^ 62/\-(2 ^ 62)<=j/\j<2 ^ 62)/\Z (kW i (j-i).toNat) H1:=rfl
def cF(J:It)(k:Nat)(ixs:List Nat)(g:TG)(c:TT)(te:TE)(Y:St)(Q:VK)(H1:Hp):Prop:=∀ D,H1 D=none->
 ∃ (n:Nat) (W:Nat->List V->St->Hp->Prop),W 0 [] (compStart k ixs Y) (A0 H1 D (.lst []))/\∀ i ys σ2 H2,W i ys σ2 H2->H2 D=some (.lst ys)->
  (J.stop i H2/\Q (.ref D) H2)\/
  (i<n/\J.go i H2/\∀ x H',J.yld i H2 x H'->g x σ2 H' fun σ3 H3=>c σ3 H3 fun b H4=>
   if b=true then te σ3 H4 fun y H5=>H5 D=some (.lst ys)/\ys.length<sizeLine/\W (i+1) (ys++[y]) σ3 (A0 H5 D (.lst (ys++[y])))
   else H4 D=some (.lst ys)/\W (i+1) ys σ3 H4)
theorem ama{wi:TI} : tComp wi k ixs g tt te Y H Q=wi Y H fun J H1=>cF J k ixs g tt te Y Q H1:=rfl
end
theorem amb{b k:Bool} : TruV K (.bl b) H k=(k=b):=rfl
theorem aj5{i:Int}{k:Bool} : TruV K (.int i) H k=(k=(i != 0)):=rfl
theorem aj6{k:Bool} : TruV K (.str z) H k=(z.length<=sizeLine/\k=((z.length:Int) != 0)):=rfl
theorem aj7{k:Bool} : TruV K .non H k=(k=false):=rfl
theorem aj8 : start N vs=vs.map some++P1 (N.length-vs.length) none:=rfl
theorem afv : compStart k ixs Y=P1 k none++ixs.map fun i=>(Y[i]?).join:=rfl
theorem amc{i:Int} : bY K (.str z) (.int i) H Q=∃ c,z.length<=sizeLine/\F8 z.cps.toList i=some c/\Q (.str ⟨#[c]⟩) H:=by
 simp only [bY,rIxL,rIxT,rIxS];refine propext ⟨fun h=>?_,fun ⟨c,h⟩=>.inr (.inr ⟨z,i,c,rfl,rfl,h⟩)⟩
 rcases h with ⟨p,xs,j,v,e,_⟩ | ⟨p,xs,j,v,e,_⟩ | ⟨z',i',c,e1,e2,h⟩
 .cases e
 .cases e
 .cases e1;cases e2;exact ⟨c,h⟩
theorem amd{i:Int} : bY K (.ref p) (.int i) H Q=∃ xs v,(C9 K H p xs\/C7 K H p xs)/\F8 xs i=some v/\Q v H:=by
 simp only [bY,rIxL,rIxT,rIxS];refine propext ⟨fun h=>?_,fun ⟨xs,v,h,r⟩=>?_⟩
 .rcases h with ⟨p',xs,j,v,e1,e2,h1,h2⟩ | ⟨p',xs,j,v,e1,e2,h1,h2⟩ | ⟨z',i',c,e1,e2,h⟩
  .cases e1;cases e2;exact ⟨xs,v,.inl h1,h2⟩
  .cases e1;cases e2;exact ⟨xs,v,.inr h1,h2⟩
  .cases e1
 .rcases h with h | h
  .exact .inl ⟨p,xs,i,v,rfl,rfl,h,r⟩
  .exact .inr (.inl ⟨p,xs,i,v,rfl,rfl,h,r⟩)
theorem eD{α:Type}{xs:List α}{i:Int}(h0:0<=i)(h1:i<xs.length):∃ v,F8 xs i=some v/\v∈xs:=by
 have D0:i.toNat<xs.length:=by lia
 refine ⟨xs[i.toNat],?_,List.getElem_mem D0⟩;unfold F8 Y2;rw [if_pos h0,if_pos h1];simp [D0]
theorem eE:bootBuiltins "len"=some (.builtin "len"):=by decide +kernel
theorem vZ:bootBuiltins "any"=some (.builtin "any"):=by decide +kernel
theorem anO:bootBuiltins "ord"=some (.builtin "ord"):=by decide +kernel
theorem anP:bootBuiltins "min"=some (.builtin "min"):=by decide +kernel
theorem eF:bootBuiltins "list"=some (.type "list"):=by decide +kernel
theorem wA:bootBuiltins "tuple"=some (.type "tuple"):=by decide +kernel
theorem wB:bootBuiltins "dict"=some (.type "dict"):=by decide +kernel
theorem wC:bootBuiltins "str"=some (.type "str"):=by decide +kernel
theorem wD:bootBuiltins "int"=some (.type "int"):=by decide +kernel
section
variable {K:PySem.W.Frag} {H:Hp} {Q:VK} {i j:Int} {x y:Str} {u v:V} {b c:Bool} {p q:Addr} {lo hi:Option Int} {cm:Bool}
theorem ad_ii:rAddU K (.int i) (.int j) H Q=Q (.int (i+j)) H:=rfl
theorem ad_ss:rAddU K (.str x) (.str y) H Q=(x.length+y.length<=sizeLine/\Q (.str (x++y)) H):=rfl
theorem ad_rr:rAddU K (.ref p) (.ref q) H Q=rAddR K p q H Q:=rfl
theorem mu_ii:rMulU (.int i) (.int j) H Q=(CMul i j/\Q (.int (i*j)) H):=rfl
theorem mu_ri:rMulU (.ref p) (.int j) H Q=rRep (.ref p) (.int j) H Q:=rfl
theorem eq_ii:rEqU K (.int i) (.int j) H Q=Q (.bl (decide (i=j))) H:=rfl
theorem eq_ss:rEqU K (.str x) (.str y) H Q=Q (.bl (decide (x=y))) H:=rfl
theorem eq_bb:rEqU K (.bl b) (.bl c) H Q=Q (.bl (decide (b=c))) H:=rfl
theorem eq_rx:rEqU K (.ref p) v H Q=∃ d e,Dn K H (.ref p) d/\Dn K H v e/\min d.depth e.depth<=60/\Q (.bl (Z3 d e)) H:=by cases v <;> rfl
theorem eq_xr:rEqU K v (.ref p) H Q=∃ d e,Dn K H v d/\Dn K H (.ref p) e/\min d.depth e.depth<=60/\Q (.bl (Z3 d e)) H:=by cases v <;> rfl
theorem ne_ii:rNeU K (.int i) (.int j) H Q=Q (.bl (!decide (i=j))) H:=rfl
theorem ne_ss:rNeU K (.str x) (.str y) H Q=Q (.bl (!decide (x=y))) H:=rfl
theorem ne_bb:rNeU K (.bl b) (.bl c) H Q=Q (.bl (!decide (b=c))) H:=rfl
theorem ne_rx:rNeU K (.ref p) v H Q=∃ d e,Dn K H (.ref p) d/\Dn K H v e/\min d.depth e.depth<=60/\Q (.bl (!PyData.eqv d e)) H:=by cases v <;> rfl
theorem ne_xr:rNeU K v (.ref p) H Q=∃ d e,Dn K H v d/\Dn K H (.ref p) e/\min d.depth e.depth<=60/\Q (.bl (!PyData.eqv d e)) H:=by cases v <;> rfl
theorem lt_ii:rLtU (.int i) (.int j) H Q=Q (.bl (decide (i<j))) H:=rfl
theorem lt_ss:rLtU (.str x) (.str y) H Q=Q (.bl (decide (x.cps.toList<y.cps.toList))) H:=rfl
theorem le_ii:rLeU (.int i) (.int j) H Q=Q (.bl (decide (i<=j))) H:=rfl
theorem le_ss:rLeU (.str x) (.str y) H Q=Q (.bl (!decide (y.cps.toList<x.cps.toList))) H:=rfl
theorem gt_ii:rGtU (.int i) (.int j) H Q=Q (.bl (decide (j<i))) H:=rfl
theorem gt_ss:rGtU (.str x) (.str y) H Q=Q (.bl (decide (y.cps.toList<x.cps.toList))) H:=rfl
theorem ge_ii:rGeU (.int i) (.int j) H Q=Q (.bl (decide (j<=i))) H:=rfl
theorem ge_ss:rGeU (.str x) (.str y) H Q=Q (.bl (!decide (x.cps.toList<y.cps.toList))) H:=rfl
theorem in_xs:rInU K b u (.str x) H Q=∃ i,u=.str i/\Q (.bl (b.xor (!(Builtin.Str.occurrences x i 0 x.length 1).isEmpty))) H:=rfl
theorem in_xr:rInU K b u (.ref p) H Q=rInR K b u p H Q:=rfl
theorem sl_s:rSlU K (.str x) lo hi H Q=(x.length<=sizeLine/\Q (.str (cutS x lo hi)) H):=rfl
theorem sl_r:rSlU K (.ref p) lo hi H Q=rSlR K p lo hi H Q:=rfl
theorem len_s:rLenU K [.str x] H Q=(x.length<=sizeLine/\Q (.int x.length) H):=rfl
theorem len_r:rLenU K [.ref p] H Q=∃ n:Nat,LenR K H p n/\Q (.int n) H:=rfl
theorem anQ:pG K cm [.ref p] H Q=rListR K cm p H Q:=rfl
theorem all_r:rAllB cm [.ref p] H Q=∃ bs:List Bool,cm=true/\H p=some (.lst (bs.map V.bl))/\Q (.bl (bs.all id)) H:=rfl
theorem isi_t{n:String} : rIsi [u,.ty n] H Q=∃ T,vV H u=some T/\isTys.contains n=true/\Q (.bl (vW T n)) H:=rfl
theorem ord_s:rOrd [.str x] H Q=(x.length=1/\Q (.int (x.cps.getD 0 0:Nat)) H):=rfl
end
theorem forL(Pv:Nat->St->Hp->Prop)(h0:Pv 0 Y H)(hl:∀ i Y H,i<=xs.length->Pv i Y H->C9 K H a xs)(hs:∀ i x Y H,xs[i]?=some x->Pv i Y H->g x Y H fun σ2 H2=>tb { D with nx:=Pv (i+1),ct:=Pv (i+1),bk:=D.nx } σ2 H2)(hd:∀ Y H,Pv xs.length Y H->D.nx Y H):ForIt (k8 K a) g tb D Y H:=ajz Pv h0 hl hs hd
theorem forT(Pv:Nat->St->Hp->Prop)(h0:Pv 0 Y H)(hl:∀ i Y H,i<=xs.length->Pv i Y H->C7 K H a xs)(hs:∀ i x Y H,xs[i]?=some x->Pv i Y H->g x Y H fun σ2 H2=>tb { D with nx:=Pv (i+1),ct:=Pv (i+1),bk:=D.nx } σ2 H2)(hd:∀ Y H,Pv xs.length Y H->D.nx Y H):ForIt (aK K a) g tb D Y H:=alj Pv h0 hl hs hd
def CW(n:Nat)(fr:St)(Pv:Nat->List V->Hp->Prop)(i:Nat)(ys:List V)(σ2:St)(H2:Hp):Prop:=i<=n/\ys.length<=i/\(∃ v,σ2=v::fr)/\Pv i ys H2
theorem CW.put{fr:St}{Pv:Nat->List V->Hp->Prop}{y:V}{o:Option V}(hi:i<n)(hy:ys.length<=i)(p:Pv (i+1) (ys++[y]) H):CW n fr Pv (i+1) (ys++[y]) (o::fr) H:=
 ⟨hi,by rw [D4,b8];lia,⟨_,rfl⟩,p⟩
theorem wE{fr:St}{Pv:Nat->List V->Hp->Prop}{o:Option V}(hi:i<n)(hy:ys.length<=i)(p:Pv (i+1) ys H):CW n fr Pv (i+1) ys (o::fr) H:=⟨hi,Nat.le_succ_of_le hy,⟨_,rfl⟩,p⟩
theorem compL(fr:St)(j0:compStart 1 ixs Y=none::fr)(Pv:Addr->Nat->List V->Hp->Prop)(h0:∀ D,H1 D=none->Pv D 0 [] (A0 H1 D (.lst [])))(hl:∀ D i ys H,H1 D=none->i<=xs.length->Pv D i ys H->C9 K H a xs)(hs:∀ D i x ys H,H1 D=none->i<xs.length->xs[i]?=some x->Pv D i ys H->H D=some (.lst ys)->ys.length<=i->c (some x::fr) H fun b H4=>
   if b=true then te (some x::fr) H4 fun y H5=>H5 D=some (.lst ys)/\ys.length<sizeLine/\CW xs.length fr (Pv D) (i+1) (ys++[y]) (some x::fr) (A0 H5 D (.lst (ys++[y])))
   else H4 D=some (.lst ys)/\CW xs.length fr (Pv D) (i+1) ys (some x::fr) H4)(hd:∀ D ys H,H1 D=none->Pv D xs.length ys H->H D=some (.lst ys)->ys.length<=xs.length->Q (.ref D) H):cF (k8 K a) 1 ixs (gName 0) c te Y Q H1:=by
 intro D hD;refine ⟨xs.length,CW xs.length fr (Pv D),⟨J5 _,J5 _,⟨none,j0⟩,h0 D hD⟩,?_⟩;rintro i ys σ2 H2 ⟨hi,hy,⟨v,rfl⟩,p⟩ hDy;have q:=hl D i ys H2 hD hi p
 by_cases D0:i<xs.length
 .refine .inr ⟨D0,⟨xs,xs[i],q,by simp [D0]⟩,fun x H' y=>?_⟩;obtain ⟨e,y⟩:=y;subst e;exact hs D i x ys _ hD D0 (y xs q) p hDy hy
 .have e:i=xs.length:=by lia
  subst e;exact .inl ⟨⟨xs,q,C4 _⟩,hd D ys H2 hD p hDy hy⟩
theorem compT(fr:St)(j0:compStart 1 ixs Y=none::fr)(Pv:Addr->Nat->List V->Hp->Prop)(h0:∀ D,H1 D=none->Pv D 0 [] (A0 H1 D (.lst [])))(hl:∀ D i ys H,H1 D=none->i<=xs.length->Pv D i ys H->C7 K H a xs)(hs:∀ D i x ys H,H1 D=none->i<xs.length->xs[i]?=some x->Pv D i ys H->H D=some (.lst ys)->ys.length<=i->c (some x::fr) H fun b H4=>
   if b=true then te (some x::fr) H4 fun y H5=>H5 D=some (.lst ys)/\ys.length<sizeLine/\CW xs.length fr (Pv D) (i+1) (ys++[y]) (some x::fr) (A0 H5 D (.lst (ys++[y])))
   else H4 D=some (.lst ys)/\CW xs.length fr (Pv D) (i+1) ys (some x::fr) H4)(hd:∀ D ys H,H1 D=none->Pv D xs.length ys H->H D=some (.lst ys)->ys.length<=xs.length->Q (.ref D) H):cF (aK K a) 1 ixs (gName 0) c te Y Q H1:=by
 intro D hD;refine ⟨xs.length,CW xs.length fr (Pv D),⟨J5 _,J5 _,⟨none,j0⟩,h0 D hD⟩,?_⟩;rintro i ys σ2 H2 ⟨hi,hy,⟨v,rfl⟩,p⟩ hDy;have q:=hl D i ys H2 hD hi p
 by_cases D0:i<xs.length
 .refine .inr ⟨D0,⟨xs,xs[i],q,by simp [D0]⟩,fun x H' y=>?_⟩;obtain ⟨e,y⟩:=y;subst e;exact hs D i x ys _ hD D0 (y xs q) p hDy hy
 .have e:i=xs.length:=by lia
  subst e;exact .inl ⟨⟨xs,q,C4 _⟩,hd D ys H2 hD p hDy hy⟩
theorem compS(fr:St)(j0:compStart 1 ixs Y=none::fr)(Pv:Addr->Nat->List V->Hp->Prop)(h0:∀ D,H1 D=none->Pv D 0 [] (A0 H1 D (.lst [])))(hs:∀ D i x ys H,H1 D=none->i<z.cps.size->z.cps.toList[i]?=some x->Pv D i ys H->H D=some (.lst ys)->ys.length<=i->c (some (.str ⟨#[x]⟩)::fr) H fun b H4=>
   if b=true then te (some (.str ⟨#[x]⟩)::fr) H4 fun y H5=>H5 D=some (.lst ys)/\ys.length<sizeLine/\CW z.cps.size fr (Pv D) (i+1) (ys++[y]) (some (.str ⟨#[x]⟩)::fr) (A0 H5 D (.lst (ys++[y])))
   else H4 D=some (.lst ys)/\CW z.cps.size fr (Pv D) (i+1) ys (some (.str ⟨#[x]⟩)::fr) H4)(hd:∀ D ys H,H1 D=none->Pv D z.cps.size ys H->H D=some (.lst ys)->ys.length<=z.cps.size->Q (.ref D) H):cF (eC z) 1 ixs (gName 0) c te Y Q H1:=by
 intro D hD;refine ⟨z.cps.size,CW z.cps.size fr (Pv D),⟨J5 _,J5 _,⟨none,j0⟩,h0 D hD⟩,?_⟩;rintro i ys σ2 H2 ⟨hi,hy,⟨v,rfl⟩,p⟩ hDy
 by_cases D0:i<z.cps.size
 .refine .inr ⟨D0,D0,fun x H' y=>?_⟩;obtain ⟨e,c,hc,rfl⟩:=y;subst e;exact hs D i c ys _ hD D0 hc p hDy hy
 .have e:i=z.cps.size:=by lia
  subst e;exact .inl ⟨C4 _,hd D ys H2 hD p hDy hy⟩
theorem C8{q:Addr}{o u:HO}(h:H p=some o)(n:H q=none):A0 H q u p=some o:=by rw [B3 (t7 h n)];exact h
theorem Same.new{q:Addr}{u:HO}(n:H q=none):Same H (A0 H q u):=fun _ _ h=>C8 h n
theorem Same.put{q:Addr}{u:HO}(s:Same H0 H)(n:H0 q=none):Same H0 (A0 H q u):=fun b o h=>by rw [B3 (t7 h n)];exact s b o h
end L2
set_option maxRecDepth 100000
namespace L2
open PySem PySem.Spec PyProof.Rows
theorem cxK{CX:Y1}{P:Program}{w:World}{base:Heap}{sc:Scope}{o:List Env}{E:XK} : (cxOf CX P w K mg base N q sc f cd A o s H E).K=K:=rfl
theorem cxKn : X.nox.K=X.K:=rfl
theorem cxKb{sc:Scope} : (L9 X sc N' C zw zt fp pins).K=X.K:=rfl
theorem cxC{CX:Y1}{P:Program}{w:World}{base:Heap}{sc:Scope}{o:List Env}{E:XK} : (cxOf CX P w K mg base N q sc f cd A o s H E).calm=true:=rfl
theorem cxCn : X.nox.calm=X.calm:=rfl
theorem cxCb{sc:Scope} : (L9 X sc N' C zw zt fp pins).calm=X.calm:=rfl
theorem iteD{c A B:Prop}[Decidable c](h1:c->A)(h2:¬ c->B):if decide c=true then A else B:=by
 by_cases h:c
 .rw [decide_eq_true h,if_pos rfl];exact h1 h
 .rw [decide_eq_false h,if_neg K3];exact h2 h
theorem iteN{c A B:Prop}[Decidable c](h1:¬ c->A)(h2:c->B):if (!decide c)=true then A else B:=by
 by_cases h:c
 .rw [decide_eq_true h];exact iteF (h2 h)
 .rw [decide_eq_false h];exact iteT (h1 h)
theorem V7(h:H p=some (.lst xs)):aN K "list" (.ref p) H:=.inl ⟨rfl,_,C9.of h⟩
theorem appOk{l:Addr}{y:V}(h:H l=some (.lst xs))(hz:xs.length<sizeLine)(q:Q .non (A0 H l (.lst (xs++[y])))):lE (.ref l) [y] H Q:=⟨l,xs,y,rfl,rfl,h,hz,q⟩
theorem L4(h:n<=1000000):n<sizeLine:=Nat.lt_of_le_of_lt h (by decide)
theorem T0(h:n<=1000000):n<=sizeLine:=Nat.le_of_lt (L4 h)
def signB(c:Nat):Bool:=decide (33<=c)&&decide (c<=126)&&decide (c≠37)
theorem pH(x:Str):x.length=x.cps.toList.length:=by simp [Str.length]
def SG:List Nat:=[33,34,35,36]++(List.range 89).map (· + 38)
theorem ame:∀ c∈SG,signB c=true:=by decide +kernel
theorem pI:SG.length=93:=by decide +kernel
structure IsRows(H:Hp)(a:Addr)(rs:List Addr)(zss:List (List Str)):Prop where
 top:H a=some (.lst (rs.map V.ref))
 row:Paired (fun r (zs:List Str)=>H r=some (.lst (zs.map V.str))) rs zss
theorem IsRows.same{zss:List (List Str)}(R:IsRows H a rs zss)(s:Same H H'):IsRows H' a rs zss:=⟨s _ _ R.top,R7 R.row fun _ _ h=>s _ _ h⟩
theorem Paired.at{α β:Type}{F:α->β->Prop} : ∀ {l₁:List α} {l₂:List β} {i:Nat} {a:α},Paired F l₁ l₂->l₁[i]?=some a->∃ b,l₂[i]?=some b/\F a b
 | _,_,_,_,.nil,h=>by simp at h
 | _,_,0,_,.cons h t,e=>by simp at e;subst e;exact ⟨_,rfl,h⟩
 | _,_,i+1,_,.cons h t,e=>by
  obtain ⟨b,h1,h2⟩:=Paired.at (i:=i) t (by simpa using e);exact ⟨b,by simpa using h1,h2⟩
theorem gX:∀ zs:List Int,PyData.depthAll (zs.map PyData.int)=0
 | []=>rfl
 | z::zs=>by rw [E8,PyData.depthAll,gX zs,PyData.depth];rfl
def dd(acc:List Str)(z:Str):List Str:=if z∈acc then acc else acc++[z]
def F6(acc zs:List Str):List Str:=zs.foldl dd acc
def toldL(zss:List (List Str)):List Str:=zss.foldl F6 []
theorem gY(zs:List Str):∀ acc:List Str,(F6 acc zs).length<=acc.length+zs.length:=by
 induction zs with
 | nil=>intro acc;exact C4 _
 | cons z zs ih=>
  intro acc;have h1:=ih (dd acc z);have h2:(dd acc z).length<=acc.length+1:=by
   unfold dd
   split
   .lia
   .simp
  show (F6 (dd acc z) zs).length<=_;rw [J7];lia
theorem aj9(h:zs[j]?=some z):F6 acc (zs.take (j+1))=dd (F6 acc (zs.take j)) z:=by
 rw [b9,h];simp [F6,p0]
theorem aiz{zss:List (List Str)}(h:zss[i]?=some zs):toldL (zss.take (i+1))=F6 (toldL (zss.take i)) zs:=by
 rw [b9,h];simp [toldL,p0]
theorem lL(zss:List (List Str)):∀ acc,zss.foldl F6 acc=F6 acc zss.flatten:=by
 induction zss with
 | nil=>intro acc;rfl
 | cons zs zss ih=>
  intro acc;rw [List.foldl_cons,ih,dN];unfold F6;rw [p0]
theorem gZ(zss:List (List Str)):(toldL zss).length<=zss.flatten.length:=by
 unfold toldL;rw [lL]
 have:=gY zss.flatten []
 simpa using this
def kvOf(zs:List Str):List (B1×V):=zs.map fun z=>(Sum.inr z,V.bl true)
theorem pJ(z:Str):∀ acc:List Str,((kvOf acc).any fun kv=>decide (kv.1=(Sum.inr z:B1)))=decide (z∈acc)
 | []=>by simp [kvOf]
 | y::acc=>by
  have ih:=pJ z acc;unfold kvOf at ih ⊢
  rw [E8,Z0,ih]
  by_cases e:y=z
  .subst e
   simp
  .have e1:decide ((Sum.inr y:B1)=Sum.inr z)=false:=decide_eq_false fun q=>e (Sum.inr.inj q)
   have e2:decide (z∈y::acc)=decide (z∈acc):=by
    by_cases h:z∈acc
    .rw [decide_eq_true h,decide_eq_true (N7 _ h)]
    .rw [decide_eq_false h,decide_eq_false];intro q
     rcases E7.mp q with q | q
     .exact e q.symm
     .exact h q
   rw [e2];simp only [e1,Bool.false_or]
theorem wF(acc:List Str)(z:Str):putK (kvOf acc) (Sum.inr z:B1) (.bl true)=kvOf (dd acc z):=by
 unfold putK dd;rw [pJ]
 by_cases h:z∈acc
 .rw [decide_eq_true h,if_pos rfl,if_pos h];unfold kvOf;rw [q0];refine gE fun y _=>?_
  show (if (Sum.inr y:B1)=Sum.inr z then ((Sum.inr y:B1),V.bl true) else (Sum.inr y,V.bl true))=_
  split <;> rfl
 .rw [decide_eq_false h,if_neg K3,if_neg h];unfold kvOf;rw [E4];rfl
theorem aiA(acc:List Str):((kvOf acc).map fun kv=>kV kv.1)=acc.map V.str:=by
 unfold kvOf;rw [q0];rfl
theorem wG(z:Str):∀ acc:List Str,aM (.str z) (acc.map V.str)=decide (z∈acc)
 | []=>by simp [aM]
 | y::acc=>by
  have ih:=wG z acc;unfold aM at ih ⊢
  rw [E8,Z0,ih];show ((y==z) || decide (z∈acc))=_
  by_cases e:y=z
  .subst e
   simp
  .have e1:(y==z)=false:=by simpa using e
   rw [e1,Bool.false_or]
   by_cases h:z∈acc
   .rw [decide_eq_true h,decide_eq_true (N7 _ h)]
   .rw [decide_eq_false h,decide_eq_false];intro q
    rcases E7.mp q with q | q
    .exact e q.symm
    .exact h q
theorem K0{α β:Type}{f:α->β}{l:List α}{y:β}(h:(l.map f)[i]?=some y):∃ x,l[i]?=some x/\y=f x:=by
 rw [c9] at h;cases e:l[i]? with
 | none=>rw [e] at h;cases h
 | some x=>rw [e] at h;exact ⟨x,rfl,(Option.some.inj h).symm⟩
def SS:Str:=Str.ofString "!\"#$&'()*+,-./0123456789:;<=>?@ABCDEFGHIJKLMNOPQRSTUVWXYZ[\\]^_`"++Str.ofString "abcdefghijklmnopqrstuvwxyz{|}~"
theorem SS_eq:SS.cps.toList=SG:=by decide +kernel
theorem SS_at{i:Int}(h0:0<=i)(h1:i<93):∃ c,F8 SS.cps.toList i=some c/\signB c=true:=by
 rw [SS_eq];obtain ⟨c,h2,h3⟩:=eD (xs:=SG) h0 (by rw [pI];exact h1);exact ⟨c,h2,ame c h3⟩
theorem drawn{i:Int}(hx:∀ x∈xs,∃ n,x=V.int n)(h0:0<=i)(h1:i<xs.length):∃ n,F8 xs i=some (V.int n):=by
 obtain ⟨v,h2,h3⟩:=eD h0 h1;obtain ⟨n,rfl⟩:=hx v h3;exact ⟨n,h2⟩
theorem pK{α β:Type}{F:α->β->Prop}{a:α}{b:β} : ∀ {l₁:List α} {l₂:List β},Paired F (l₁++[a]) (l₂++[b])->Paired F l₁ l₂/\F a b
 | [],[],.cons h _=>⟨.nil,h⟩
 | [],y::l₂,h=>by
  have:=Paired.length h
  simp at this
 | x::l₁,[],h=>by
  have:=Paired.length h
  simp at this
 | x::l₁,y::l₂,.cons h t=>by
  obtain ⟨h1,h2⟩:=pK (l₁:=l₁) (l₂:=l₂) t;exact ⟨.cons h h1,h2⟩
theorem lN{α β:Type}{F G:α->β->Prop} : ∀ {l₁:List α} {l₂:List β},Paired F l₁ l₂->(∀ a∈l₁,∀ b,F a b->G a b)->Paired G l₁ l₂
 | _,_,.nil,_=>.nil
 | _,_,.cons h t,k=>.cons (k _ N8 _ h) (lN t fun a ha b hb=>k a (N7 _ ha) b hb)
structure RowsAt(H0 H:Hp)(a:Addr)(rs:List Addr)(zss:List (List Str)):Prop where
 rows:IsRows H a rs zss
 nd:(a::rs).Nodup
 new:∀ r∈a::rs,H0 r=none
 same:Same H0 H
theorem RowsAt.live{zss:List (List Str)}(R:RowsAt H0 H a rs zss)(h:r∈a::rs):∃ o,H r=some o:=by
 rcases E7.mp h with h | h
 .subst h;exact ⟨_,R.rows.top⟩
 .obtain ⟨i,hi,rfl⟩:=Y9.mp h;obtain ⟨zs,_,h2⟩:=Paired.at R.rows.row (i:=i) (a:=rs[i]) (by simp [hi]);exact ⟨_,h2⟩
theorem pL(x:Str)(lo hi:Option Int):(cutS x lo hi).cps.toList=(x.cps.toList.drop (HT.sIx x.length 0 lo)).take (HT.sIx x.length x.length hi-HT.sIx x.length 0 lo):=by
 unfold cutS
 simp
end L2
set_option maxRecDepth 100000
namespace L2
open PySem PySem.Spec PyProof.Rows
structure QE(X:Cx)(e:Expr)(t:TE):Prop where
 out:PE X e t
structure QT(X:Cx)(e:Expr)(t:TT):Prop where
 out:PT X e t
structure QW(X:Cx)(e:Expr)(t:TT):Prop where
 out:PW X e t
structure QA(X:Cx)(es:List Expr)(t:TA):Prop where
 out:PA X es t
structure QS(X:Cx)(st:Stmt)(t:TS):Prop where
 out:PS X st t
structure QSs(X:Cx)(st:List Stmt)(t:TS):Prop where
 out:V4 X st t
structure QG(X:Cx)(tg:Expr)(t:TG):Prop where
 out:PG X tg t
structure QGs(X:Cx)(tg:List Expr)(t:Z4):Prop where
 out:gP X tg t
structure QI(X:Cx)(tg iter:Expr)(wi:TI):Prop where
 out:PI X tg iter wi
structure QO(X:Cx)(e:Option Expr)(t:TO):Prop where
 out:PO X e t
structure QIfs(X:Cx)(ifs:List Expr)(t:TT):Prop where
 out:PIfs X ifs t
structure QOp(X:Cx)(f:Value->Value->Sem Value)(r:R2):Prop where
 out:F9 X f r
structure QUn(X:Cx)(f:Value->Sem Value)(r:V->Hp->VK->Prop):Prop where
 out:kX X f r
structure QCall(X:Cx)(f:Value)(r:List V->Hp->VK->Prop):Prop where
 out:CallR X f r
structure QMt(X:Cx)(id:String)(r:V->List V->Hp->VK->Prop):Prop where
 out:oS X id r
structure QIp(X:Cx)(op:Operator)(t:bV):Prop where
 out:oF X op t
structure QIn(X:Cx)(op:Operator)(t:V->V->Hp->VK->Prop):Prop where
 out:InOp X op t
section
variable {X:Cx} {a b c e o i value:Expr} {es:List Expr} {ta tb tc te to ti tv:TE} {tA tB':TT} {t u:TS} {tl:TA} {pos p pos' tpos:Pos} {rest:List Expr} {r r':R2} {x:Str}
theorem A6{i j} : QE X (.Constant (.int i) j pos) (tC (.int i)):=⟨uI⟩
theorem qe_bl{b j} : QE X (.Constant (.bool b) j pos) (tC (.bl b)):=⟨pe_bl⟩
theorem M3{x j} : QE X (.Constant (.str x) j pos) (tC (.str x)):=⟨amN⟩
theorem qe_v(hN:X.N[n]?=some x)(hv:gN X.env.scope x)(hd:(x==("__debug__" : Str))=false)(a0:(x==("__classdict__" : Str))=false):QE X (.Name x pos) (tVar n):=⟨uH hN hv hd a0⟩
theorem qv(n:Nat)(hN:X.N[n]?=some x:=by rfl)(hv:gN X.env.scope x:=by first | exact Or.inl rfl | exact Or.inr (Or.inl rfl) | exact Or.inr (Or.inr rfl))(hd:(x==("__debug__" : Str))=false:=by decide)(a0:(x==("__classdict__" : Str))=false:=by decide):QE X (.Name x pos) (tVar n):=⟨uH hN hv hd a0⟩
theorem aP{i:Int}(h:∃ t,X.mg x=some (.int i t))(hg:Gl X x:=by rfl)(hd:(x==("__debug__" : Str))=false:=by decide):QE X (.Name x p) (tC (.int i)):=⟨ajV h hg hd⟩
theorem lO{a:Addr}(h:X.mg x=some (.ref a))(hg:Gl X x:=by rfl)(hd:(x==("__debug__" : Str))=false:=by decide):QE X (.Name x p) (tC (.ref a)):=⟨ajW h hg hd⟩
theorem qe_op{op:Operator}(ho:QOp X (binaryOp op) r)(ha:QE X a ta)(hb:QE X b tb):QE X (.BinOp a op b pos) (g6 r ta tb):=⟨pe_op ho.out ha.out hb.out⟩
theorem qe_un{op:UnaryOp}{r:V->Hp->VK->Prop}(ho:QUn X (unaryOp op) r)(ha:QE X a ta):QE X (.UnaryOp op a pos) (oH r ta):=⟨pe_un ho.out ha.out⟩
theorem wH{op}(ha:QE X a ta):QE X (.BoolOp op [a] pos) ta:=⟨amR ha.out⟩
theorem wI(ha:QE X a ta)(hb:QE X (.BoolOp .And (b::rest) pos) tb):QE X (.BoolOp .And (a::b::rest) pos) (tAndV ta tb):=⟨amS ha.out hb.out⟩
theorem u7{op:CmpOp}(ho:QOp X (compareOp op) r)(ha:QE X a ta)(hb:QE X b tb)(hm:behindInMarks op b=false:=by first | exact uS _ | rfl):QE X (.Compare a [op] [b] pos) (g6 r ta tb):=⟨alm ho.out ha.out hb.out hm⟩
theorem aka{op op':CmpOp}(ho:QOp X (compareOp op) r)(i6:QOp X (compareOp op') r')(ha:QE X a ta)(hb:QE X b tb)(hc:QE X c tc)(hm:lastMarks [op,op'] [b,c]=false:=by with_unfolding_all rfl):QE X (.Compare a [op,op'] [b,c] pos) (oI r r' ta tb tc):=⟨ajA ho.out i6.out ha.out hb.out hc.out hm⟩
theorem wJ(hc:QT X c tA)(ha:QE X a ta)(hb:QE X b tb):QE X (.IfExp c a b pos) (oC tA ta tb):=⟨aju hc.out ha.out hb.out⟩
theorem A2:QA X [] tNil:=⟨ane⟩
theorem qa_c(ha:QE X e te)(hr:QA X es tl)(h:M0 e=false:=by rfl):QA X (e::es) (tCons te tl):=⟨pa_c ha.out hr.out h⟩
theorem N3(h:QA X es tl):QE X (.List es pos) (tLst tl):=⟨ang h.out⟩
theorem O7{x1}(h:QA X es tl):QE X (.Tuple es x1 pos) (tTup tl):=⟨anf h.out⟩
theorem eG:QE X (.Dict [] [] pos) oY:=⟨ajN⟩
theorem u8:QO X none oP:=⟨alw⟩
theorem P7(h:QE X e te):QO X (some e) (tPart te):=⟨alx h.out⟩
theorem W7{lo hi:Option Expr}{tlo thi:TO}(he:QE X e te)(hl:QO X lo tlo)(hu:QO X hi thi)(hK:X.K=K:=by rfl):QE X (.Subscript e (.Slice lo hi none p2) pos) (oQ (rSlU K) te tlo thi):=by subst hK;exact ⟨ajJ p_sl he.out hl.out hu.out⟩
theorem Y3(hu:X.A.units+1<cLine)(ho:QE X o to)(hi:QE X i ti)(hs:NoSl i:=by exact fun _ _=>rfl):QE X (.Subscript o i pos) (tDGet to ti):=⟨alD hu ho.out hi.out hs⟩
theorem qe_ix(ha:QE X a ta)(hb:QE X b tb)(hs:vE b:=by exact fun _ _=>rfl)(hK:X.K=K:=by rfl):QE X (.Subscript a b pos) (g6 (bY K) ta tb):=by subst hK;exact ⟨pe_ix ank ha.out hb.out hs⟩
theorem qe_cB{id:String}{rc:List V->Hp->VK->Prop}(hc:QCall X (.builtin id) rc)(hm:X.mg x=none)(hv:bootBuiltins x=some (.builtin id))(ha:QA X (e::es) tl)(hg:Gl X x:=by rfl)(h1:M0 e=false:=by rfl)(h2:U8 es=true:=by rfl)(hn:x≠"__name__":=by decide)(P5:(x==("__debug__" : Str))=false:=by decide) :
  QE X (.Call (.Name x p) (e::es) [] pos) (bX rc tl):=⟨pe_cB hc.out hg hm hv ha.out h1 h2 hn P5⟩
theorem qe_cT{T:String}{rc:List V->Hp->VK->Prop}(hc:QCall X (.type T) rc)(hm:X.mg x=none)(hv:bootBuiltins x=some (.type T))(ha:QA X (e::es) tl)(hg:Gl X x:=by rfl)(h1:M0 e=false:=by rfl)(h2:U8 es=true:=by rfl)(hn:x≠"__name__":=by decide)(P5:(x==("__debug__" : Str))=false:=by decide) :
  QE X (.Call (.Name x p) (e::es) [] pos) (bX rc tl):=⟨pe_cT hc.out hg hm hv ha.out h1 h2 hn P5⟩
theorem qe_mB{T id:String}{name:Str}{rm:V->List V->Hp->VK->Prop}(pa:PlainAttrs T)(slot:Slot T name id)(Y7:typeOf (.builtin id)=pure (.type "method_descriptor"))(hm:QMt X id rm)(ho:QE X o to)(ha:QA X (e::es) tl)(h1:M0 e=false:=by rfl)(h2:U8 es=true:=by rfl)(h3:decide ((e::es).length<30)=true:=by rfl)(K1:attributeBase o name X.env (eval o X.env)=eval o X.env:=by rfl)(K2:(apos.endLine==cpos.line)=true:=by rfl)(hK:X.K=K:=by rfl):QE X (.Call (.Attribute o name apos) (e::es) [] cpos) (dX K T rm to tl):=by subst hK;exact ⟨pe_mB pa slot Y7 hm.out ho.out ha.out h1 h2 h3 K1 K2⟩
theorem D7(G:FO X.prog X.w X.K X.mg X.base k x ps dvs sp)(hr:Room k X.A)(ha:QA X (e::es) tl)(hg:Gl X x:=by rfl)(h1:M0 e=false:=by rfl)(h2:U8 es=true:=by rfl)(P5:(x==("__debug__" : Str))=false:=by decide) :
  QE X (.Call (.Name x p) (e::es) [] pos) (tCall sp dvs E0 tl):=⟨ajU G hr ha.out hg h1 h2 P5⟩
theorem L5{op:CmpOp}(ho:QOp X (compareOp op) r)(ha:QE X a ta)(hb:QE X b tb)(hm:behindInMarks op b=false:=by first | exact uS _ | rfl):QT X (.Compare a [op] [b] pos) (tTest (g6 r ta tb)):=⟨aln ho.out ha.out hb.out hm⟩
theorem anR(ha:QT X a tA):QT X (.UnaryOp .Not a pos) (tNot tA):=⟨amQ ha.out⟩
theorem lP(ha:QT X a tA):QW X (.BoolOp .And [a] pos) tA:=⟨alc ha.out⟩
theorem anS(ha:QT X a tA):QW X (.BoolOp .Or [a] pos) tA:=⟨amO ha.out⟩
theorem lQ(ha:QT X a tA)(hb:QW X (.BoolOp .And (b::rest) pos) tB'):QW X (.BoolOp .And (a::b::rest) pos) (tAnd tA tB'):=⟨amP ha.out hb.out⟩
theorem qw_or(ha:QT X a tA)(hb:QW X (.BoolOp .Or (b::rest) pos) tB'):QW X (.BoolOp .Or (a::b::rest) pos) (oB tA tB'):=⟨pw_or ha.out hb.out⟩
theorem QW.pt(h:QW X a tA):QT X a tA:=⟨h.out.pt⟩
theorem g8(ha:QE X a ta)(he:∀ whole,isTrue a X.env whole=(do let v <- whole;standAt a.pos;holding [v] (truthy v)):=by intro _;rfl)(hK:X.K=K:=by rfl):QT X a (tTru K ta):=by subst hK;exact ⟨ans ha.out he⟩
variable {st:Stmt} {sts:List Stmt}
theorem N4:QSs X [] tNext:=⟨ald⟩
theorem C3(h:QS X st t):QSs X [st] t:=⟨ale h.out⟩
theorem C1(h:QS X st t)(h2:QSs X sts u):QSs X (st::sts) (tSeq t u):=⟨ajv h.out h2.out⟩
theorem D9(he:QE X e te):QS X (.Return (some e) pos) (tRet te):=⟨amU he.out⟩
theorem lR:QS X st oE:=⟨ajw⟩
theorem F7(hN:X.N.Nodup)(hi:X.N[n]?=some x)(hx:g4 X.env.scope x)(he:QE X e te)(hs:swapsWith e (some (.Name x pos')) pos.line X.env=pure false:=by rfl)(hf:X.fn x=true:=by rfl):QS X (.Assign [.Name x pos'] e pos) (tAsg te (gName n)):=⟨amX hN hi hx he.out hs (.inl hf)⟩
theorem eI{f:Str}(ho:QE X o to)(hv:QE X value tv)(hs:swapsWith value (some (.Attribute o f pos')) pos.line X.env=pure false:=by rfl)(hK:X.K=K:=by rfl):QS X (.Assign [.Attribute o f pos'] value pos) (sFld K to tv f):=by subst hK;exact ⟨ana ho.out hv.out hs⟩
theorem g9{f:Str}(ho:QE X o to)(hb:attributeBase o f X.env (eval o X.env)=eval o X.env:=by rfl)(hK:X.K=K:=by rfl):QE X (.Attribute o f pos) (tFld K to f):=by subst hK;exact ⟨am9 ho.out hb⟩
theorem u9(hu:X.A.units+1<cLine)(ho:QE X o to)(hi:QE X i ti)(hv:QE X value tv)(hs:swapsWith value (some (.Subscript o i pos')) pos.line X.env=pure false:=by rfl):QS X (.Assign [.Subscript o i pos'] value pos) (sDPut to ti tv):=⟨alE hu ho.out hi.out hv.out hs⟩
theorem wK{op:Operator}{rd:V->V->Hp->VK->Prop}(hu:X.A.units+1<cLine)(ho:QE X o to)(hi:QE X i ti)(hv:QE X value tv)(sM:QIn X op rd)(ha:∀ ov iv new,augStore i ov iv new=(do holding [new,ov,iv] (setItem ov iv new);release [new,ov,iv] [];pure .next):=by exact fun _ _ _=>rfl) :
  QS X (.AugAssign (.Subscript o i tpos) op value pos) (sDAug to ti tv rd):=⟨alF hu ho.out hi.out hv.out sM.out ha⟩
theorem anT(he:QE X e te)(hg:QG X tg g)(hs:swapsWithSole [tg] e pos.line X.env=pure false:=by rfl)(hw:swappedStores [tg] e X.env=pure none:=by rfl)(h1:(assignEach [tg] X.env).map (·.2)=[assign tg X.env]:=by rfl):QS X (.Assign [tg] e pos) (tAsg te g):=⟨amW he.out hg.out hs hw h1⟩
theorem wL{op:Operator}{tip:bV}(hN:X.N.Nodup)(hi:X.N[n]?=some x)(hx:g4 X.env.scope x)(he:QE X e te)(ho:QIp X op tip)(hf:X.fn x=true:=by rfl):QS X (.AugAssign (.Name x pos') op e pos) (tAug n te tip):=⟨amY hN hi hx he.out ho.out (.inl hf)⟩
theorem U0(he:QE X e te)(hs:swapsWith e none pos.line X.env=pure false:=by rfl):QS X (.Expr e pos) (tDrop te):=⟨alf he.out hs⟩
theorem qs_if{sa sb:List Stmt}(hc:QT X c tA)(ha:QSs X sa t)(hb:QSs X sb u):QS X (.If c sa sb pos) (tIfS tA t u):=⟨ps_if hc.out ha.out hb.out⟩
theorem pM{body:List Stmt}(hp:PassesOwn (model X.prog X.w) X.A X.env X.xe)(hc:QT X c tA)(hb:QSs X body t):QS X (.While c body [] pos) (kU tA t):=⟨ajy hp hc.out hb.out⟩
theorem P8{body:List Stmt}{wi:TI}(hp:PassesOwn (model X.prog X.w) X.A X.env X.xe)(hi:QI X tg iter wi)(hg:QG X tg g)(hb:QSs X body t)(hc:X.calm=true:=by rfl)(hs:∀ x,foldedSetIterable iter X.env x=pure x:=by intro _;rfl):QS X (.For tg iter body [] pos) (tFor wi g t):=⟨am1 hp hc hi.out hg.out hb.out hs⟩
theorem E2(hN:X.N.Nodup)(hi:X.N[n]?=some x)(hx:g4 X.env.scope x)(hf:X.fn x=true\/X.env.scope.names.lookup x=some .local:=by first | exact .inl rfl | exact .inr rfl | assumption):QG X (.Name x pos) (gName n):=⟨alg hN hi hx hf⟩
theorem aQ:QGs X [] gNil:=⟨alh⟩
theorem Q6{gs:Z4}(h1:QG X e g)(h2:QGs X es gs)(hs:(assignEach (e::es) X.env).map (·.2)=assign e X.env::(assignEach es X.env).map (·.2):=by rfl):QGs X (e::es) (gCons g gs):=⟨ajx h1.out h2.out hs⟩
theorem aR{gs:Z4}(h:QGs X es gs)(hc:X.calm=true:=by rfl)(hn:(assignEach es X.env).length=n:=by rfl)(V9:(assignEach es X.env).findIdx? (·.1)=none:=by rfl)(hK:X.K=K:=by rfl):QG X (.Tuple es k pos) (gTup K n gs):=by subst hK;exact ⟨amV hc h.out hn V9⟩
variable {tg:Expr}
theorem P9(h:QE X e te)(hK:X.K=K:=by rfl):QI X tg e (iList K te):=by subst hK;exact ⟨ali h.out⟩
theorem cG(h:QE X e te)(hK:X.K=K:=by rfl):QI X tg e (iTup K te):=by subst hK;exact ⟨am0 h.out⟩
theorem wM(h:QE X e te):QI X tg e (iStr te):=⟨anx h.out⟩
theorem v4:QIfs X [] tYes:=⟨ajR⟩
theorem hG(h:QT X c tA):QIfs X [c] tA:=⟨ajS h.out⟩
variable {sc:Scope} {N':List Str} {k:Nat} {ixs:List Nat} {ifs:List Expr} {wi:TI} {g:TG} {elt:Expr}
theorem Z6(C:CompOk X.N X.env.scope.names sc N' k ixs)(hi:QI X tg e wi)(hg:∀ C zw zt fp pins,QG (L9 X sc N' C zw zt fp pins) tg g)(hc:∀ C zw zt fp pins,QIfs (L9 X sc N' C zw zt fp pins) ifs tA)(he:∀ C zw zt fp pins,QE (L9 X sc N' C zw zt fp pins) elt te)(L0:X.calm=true:=by rfl)(hs:∀ x,foldedSetIterable e X.env x=pure x:=by intro _;rfl):QE X (.ListComp elt [⟨tg,e,ifs,0⟩] sc pos) (tComp wi k ixs g tA te):=
 ⟨alJ C L0 hi.out (fun _ _ _ _ _=>(hg _ _ _ _ _).out) (fun _ _ _ _ _=>(hc _ _ _ _ _).out) (fun _ _ _ _ _=>(he _ _ _ _ _).out) hs⟩
theorem wN(hN:X.N.Nodup)(hiN:X.N[n]?=some x)(hx:g4 X.env.scope x)(C:CompOk X.N X.env.scope.names sc N' k ixs)(hi:QI X tg e wi)(hg:∀ C zw zt fp pins,QG (L9 X sc N' C zw zt fp pins) tg g)(hc:∀ C zw zt fp pins,QIfs (L9 X sc N' C zw zt fp pins) ifs tA)(he:∀ C zw zt fp pins,QE (L9 X sc N' C zw zt fp pins) elt te)(sN:swapsWith (.ListComp elt [⟨tg,e,ifs,0⟩] sc pos) (some (.Name x pos')) spos.line X.env=pure true:=by rfl)(L0:X.calm=true:=by rfl)(hf:X.fn x=true:=by rfl)(hs:∀ x,foldedSetIterable e X.env x=pure x:=by intro _;rfl) :
  QS X (.Assign [.Name x pos'] (.ListComp elt [⟨tg,e,ifs,0⟩] sc pos) spos) (tAsg (tComp wi k ixs g tA te) (gName n)):=
 ⟨ahA hN hiN hx C L0 hi.out (fun _ _ _ _ _=>(hg _ _ _ _ _).out) (fun _ _ _ _ _=>(hc _ _ _ _ _).out) (fun _ _ _ _ _=>(he _ _ _ _ _).out) sN (.inl hf) hs⟩
theorem q_add(hK:X.K=K:=by rfl):QOp X (binaryOp .Add) (rAddU K):=by subst hK;exact ⟨p_add⟩
theorem q_sub:QOp X (binaryOp .Sub) (t8 fun i j=>.int (i-j)):=⟨p_sub⟩
theorem q_mul:QOp X (binaryOp .Mult) rMulU:=⟨p_mul⟩
theorem cH:QOp X (binaryOp .FloorDiv) (rI CDiv fun i j=>.int (i / j)):=⟨ant⟩
theorem q_mod:QOp X (binaryOp .Mod) (rI (fun _ j=>0<j) fun i j=>.int (i % j)):=⟨p_mod⟩
theorem q_eq(hu:X.A.units+64<cLine)(hK:X.K=K:=by rfl):QOp X (compareOp .Eq) (rEqU K):=by subst hK;exact ⟨p_eq hu⟩
theorem q_ne(hu:X.A.units+64<cLine)(hK:X.K=K:=by rfl):QOp X (compareOp .NotEq) (rNeU K):=by subst hK;exact ⟨p_ne hu⟩
theorem q_lt:QOp X (compareOp .Lt) rLtU:=⟨p_lt⟩
theorem q_le:QOp X (compareOp .LtE) rLeU:=⟨p_le⟩
theorem q_in(hu:X.A.units+64<cLine)(hK:X.K=K:=by rfl):QOp X (compareOp .In) (rInU K false):=by subst hK;exact ⟨p_in hu⟩
theorem wO(hu:X.A.units+64<cLine)(hK:X.K=K:=by rfl):QOp X (compareOp .NotIn) (rInU K true):=by subst hK;exact ⟨alK hu⟩
theorem q_neg:QUn X (unaryOp .USub) (rU fun i=>.int (-i)):=⟨am7⟩
theorem q_len(hK:X.K=K:=by rfl):QCall X (.builtin "len") (rLenU K):=by subst hK;exact ⟨p_len⟩
theorem q_ord:QCall X (.builtin "ord") rOrd:=⟨p_ord⟩
theorem eJ(hK:X.K=K:=by rfl)(jN:X.calm=calm:=by rfl):QCall X (.type "list") (pG K calm):=by subst hK;subst jN;exact ⟨anw⟩
theorem v6:QMt X "list.append" lE:=⟨fun pins s Y H x xs v us Q I rx rv h=>vH pins s Y H x xs v us Q I rx rv h⟩
theorem pN:QMt X "list.extend" oV:=⟨fun pins s Y H x xs v us Q I rx rv h=>ail pins s Y H x xs v us Q I rx rv h⟩
theorem wP:QIp X .Add (oG fun i j=>i+j):=⟨amZ⟩
theorem anU:QIn X .Add rAdd:=⟨anb⟩
theorem anV:QIn X .Sub rSub:=⟨anc⟩
end
end L2
set_option maxRecDepth 100000
namespace L2
open PySem PySem.Spec PyProof.Rows
def ModD(P:Program)(w:World)(K:PySem.W.Frag)(a:Addr)(kvs:List (B1×V)):Prop:=(a==sysModules)=false/\∀ h:Heap,K.In h->∃ vs,KV kvs vs/\h.DictOf (M9 P w) a vs
abbrev ModE(w:World):List DictEntry->List (B1×V)->Prop:=Paired fun e kv=>keyIs kv.1 e.key=true/\e.hash=keyH w kv.1/\RelV kv.2 e.val
theorem ModE.pairs{P:Program}{w:World} : ∀ {es:List DictEntry} {kvs:List (B1×V)},ModE w es kvs->∃ vs:List (B1×Value),KV kvs vs/\Pairs (M9 P w) es vs/\(∀ e∈es,∃ k,(M9 P w).is k e.key=true/\e.hash=(M9 P w).hash k)/\vs.map (·.1)=kvs.map (·.1)
 | _,_,.nil=>⟨[],.nil,.nil,fun e h=>(nomatch h),rfl⟩
 | e::es,kv::kvs,.cons ⟨h1,h2,h3⟩ t=>by
  obtain ⟨vs,a1,a2,a3,a4⟩:=ModE.pairs (P:=P) t;refine ⟨(kv.1,e.val)::vs,.cons ⟨rfl,h3⟩ a1,.cons h1 rfl a2,fun e' he=>?_,by rw [E8,E8,a4]⟩
  rcases E7.mp he with z | z
  .rw [z];exact ⟨kv.1,h1,h2⟩
  .exact a3 e' z
theorem amf{P:Program}{w:World}{es:Array DictEntry}{ep:Nat}(l:K.lookup a=some { cls:=.type "dict",dict:=none,data:=.dict es ep,slots:=#[] })(hs:(a==sysModules)=false)(he:ModE w es.toList kvs)(hn:(kvs.map (·.1)).Nodup):ModD P w K a kvs:=by
 refine ⟨hs,fun h X=>?_⟩;obtain ⟨vs,a1,a2,a3,a4⟩:=he.pairs (P:=P);exact ⟨vs,a1,_,es,ep,X a _ l,⟨rfl,rfl,rfl⟩,rfl,fun e h=>a3 e (Array.mem_toList_iff.mpr h),a2,by rw [a4];exact hn⟩
def rInM(neg:Bool)(a:Addr)(kvs:List (B1×V)):R2:=fun x y H Q=>y=.ref a/\∃ k,x=kV k/\Q (.bl (neg.xor (valV kvs k).isSome)) H
def wQ(a:Addr)(kvs:List (B1×V))(to ti:TE):TE:=fun Y H Q=>to Y H fun x H1=>ti Y H1 fun y H2=>x=.ref a/\∃ k v,y=kV k/\valV kvs k=some v/\Q v H2
section
variable {X:Cx} {a:Addr} {kvs:List (B1×V)} {o i:Expr} {to ti:TE} {pos:Pos}
theorem q_inM(M:ModD X.prog X.w X.K a kvs):QOp X (compareOp .In) (rInM false a kvs):=⟨by
 intro pins s Y H x y v u Q I rx ry h;obtain ⟨rfl,k,rfl,q⟩:=h;obtain rfl:u=Value.ref a:=ry;obtain ⟨hd,M⟩:=M;obtain ⟨vs,rel,dd⟩:=M s.heap I.kIn;refine wpAny_in_of (kV_is rx) hd dd.mapOf ?_;rw [<- (rel.val k).isSome_eq];exact ⟨.bl _,H,I.tok _,rfl,by simpa using q⟩⟩
theorem wR(M:ModD X.prog X.w X.K a kvs)(ho:QE X o to)(hi:QE X i ti)(hs:NoSl i:=by exact fun _ _=>rfl):QE X (.Subscript o i pos) (wQ a kvs to ti):=⟨by
 intro pins s Y H Q I h;refine vO PySem.F.slot_dict_getitem.lookup hs (B5 (ho.out pins s Y H _ I h) fun u s1 ⟨x,H1,I1,rx,q1⟩=>B5 (hi.out pins s1 Y H1 _ I1 q1) fun iv s2 ⟨y,H2,I2,ry,ex,k,v,ey,l,q2⟩=>?_);subst ex ey;obtain rfl:u=Value.ref a:=rx;obtain ⟨hd,M⟩:=M;obtain ⟨vs,rel,dd⟩:=M s2.heap I2.kIn;obtain ⟨w',hw,rw'⟩:=kZ (v:=v) (o:=valueAt vs k) (by rw [<- l];exact rel.val k);exact ⟨dd.typeIs,wpAny_getItem_of (kV_is ry) dd.mapOf hw ⟨v,H2,I2.tok _,rw',q2⟩⟩⟩
end
theorem wS{k:B1} : (V.str z=kV k)=(k=Sum.inr z):=by
 cases k with
 | inl i=>exact propext ⟨fun h=>(by cases h),fun h=>(by cases h)⟩
 | inr x=>exact propext ⟨fun h=>(by cases h;rfl),fun h=>(by cases h;rfl)⟩
theorem anW : rInM neg a kvs (.str z) (.ref b) H Q=(V.ref b=V.ref a/\Q (.bl (neg.xor (valV kvs (Sum.inr z)).isSome)) H):=by
 unfold rInM;simp only [wS,exists_eq_left]
theorem akb{to ti:TE} : wQ a kvs to ti Y H Q=to Y H fun x H1=>ti Y H1 fun y H2=>x=.ref a/\∃ k v,y=kV k/\valV kvs k=some v/\Q v H2:=rfl
def wT(c:TT)(tb:TS)(D:Ends)(Y:St)(H:Hp):Prop:=kU c tb D Y H
theorem akc : kU c tb D Y H=wT c tb D Y H:=rfl
theorem pO(Pv:Nat->St->Hp->Prop)(m:Nat)(h0:Pv m Y H)(hs:∀ m Y H,Pv m Y H->c Y H fun b H1=>if b=true then ∃ N:St->Hp->Prop,(∀ σ' H',N σ' H'->∃ m',m'<m/\Pv m' σ' H')/\tb { D with nx:=N,ct:=N,bk:=D.nx } Y H1 else D.nx Y H1):wT c tb D Y H:=⟨Pv,⟨m,h0⟩,hs⟩
def rTupR(K:PySem.W.Frag)(p:Addr)(H:Hp)(Q:VK):Prop:=∃ ys,(C9 K H p ys/\∀ l,H l=none->Q (.ref l) (A0 H l (.tup ys)))\/(C7 K H p ys/\Q (.ref p) H)
theorem rTupR.l(h1:C9 K H p ys)(h:∀ l,H l=none->Q (.ref l) (A0 H l (.tup ys))):rTupR K p H Q:=⟨ys,.inl ⟨h1,h⟩⟩
def rTupU(K:PySem.W.Frag):List V->Hp->VK->Prop
 | [.ref p],H,Q=>rTupR K p H Q
 | _,_,_=>False
theorem tup_r : rTupU K [.ref p] H Q=rTupR K p H Q:=rfl
theorem wU(hK:X.K=K:=by rfl):QCall X (.type "tuple") (rTupU K):=by
 subst hK;refine ⟨fun pins s Y H xs us Q I r h=>?_⟩
 match xs,h with
 | [.ref p],⟨ys,h⟩=>exact aeM pins s Y H _ us Q I r ⟨p,ys,rfl,h⟩
def rMin:List V->Hp->VK->Prop:=fun xs H Q=>∃ i j,xs=[.int i,.int j]/\Q (.int (if j<i then j else i)) H
def rMax:List V->Hp->VK->Prop:=fun xs H Q=>∃ i j,xs=[.int i,.int j]/\Q (.int (if j > i then j else i)) H
theorem anX{i j:Int} : rMin [.int i,.int j] H Q=Q (.int (if j<i then j else i)) H:=propext ⟨fun ⟨_,_,e,q⟩=>(by cases e;exact q),fun q=>⟨_,_,rfl,q⟩⟩
theorem anY{i j:Int} : rMax [.int i,.int j] H Q=Q (.int (if j > i then j else i)) H:=propext ⟨fun ⟨_,_,e,q⟩=>(by cases e;exact q),fun q=>⟨_,_,rfl,q⟩⟩
def rCalm(calm:Bool)(r:List V->Hp->VK->Prop):List V->Hp->VK->Prop:=fun xs H Q=>calm=true/\r xs H Q
theorem amg{r:List V->Hp->VK->Prop} : rCalm true r xs H Q=r xs H Q:=propext ⟨fun h=>h.2,fun h=>⟨rfl,h⟩⟩
end L2
set_option maxRecDepth 100000
namespace L2
open PySem PySem.Spec PyProof.Rows
open PySem.Builtin PySem.Builtin.Str PySem.StrLaws
def tSeqM(t u:TS):TS:=fun D Y H=>∃ M:St->Hp->Prop,t { D with nx:=M } Y H/\∀ σ' H',M σ' H'->u D σ' H'
theorem aiG{rest:List Stmt}{t u:TS}(h1:QS X st t)(h2:QSs X rest u):QSs X (st::rest) (tSeqM t u):=⟨by
 intro pins s Y H D I h;obtain ⟨M,h,hm⟩:=h;refine wpAny_execs_cons (B5 (h1.out pins s Y H { D with nx:=M } I h) fun f s1 q=>?_)
 cases f with
 | next=>
  obtain ⟨σ',H',I',q⟩:=q;exact h2.out pins s1 σ' H' D I' (hm _ _ q)
 | ret v=>exact q
 | brk=>exact q
 | cont=>exact q⟩
theorem mid{t u:TS}(M:St->Hp->Prop)(h:t { D with nx:=M } Y H)(h2:∀ σ' H',M σ' H'->u D σ' H'):tSeqM t u D Y H:=⟨M,h,h2⟩
theorem pP(h:H p=some (.lst xs)):TruV K (.ref p) H (!xs.isEmpty):=.inl ⟨xs,.of h,rfl⟩
theorem eK(xs:List V)(k:Nat):cutV xs (some (k:Int)) none=xs.drop k:=by
 unfold cutV;have e1:HT.sIx xs.length 0 (some (k:Int))=min k xs.length:=by unfold HT.sIx;simp;lia
 have e2:HT.sIx xs.length xs.length none=xs.length:=rfl;rw [e1,e2,b0 (by rw [aE];exact C4 _)]
 by_cases h:k<=xs.length
 .rw [dP h]
 .rw [Nat.min_eq_right (by lia),gC (C4 _),gC (by lia)]
theorem wV(xs:List V)(k:Nat):cutV xs none (some (k:Int))=xs.take k:=by
 unfold cutV;have e1:HT.sIx xs.length xs.length (some (k:Int))=min k xs.length:=by unfold HT.sIx;simp;lia
 have e2:HT.sIx xs.length 0 none=0:=rfl;rw [e1,e2,List.drop_zero,Nat.sub_zero]
 by_cases h:k<=xs.length
 .rw [dP h]
 .rw [Nat.min_eq_right (by lia),b0 (C4 _),b0 (by lia)]
theorem wW(x:V)(xs:List V):cutV (x::xs) (some 1) none=xs:=eK (x::xs) 1
theorem R1{α:Type}(x:α)(xs:List α):F8 (x::xs) 0=some x:=by
 have e:Y2 (x::xs).length 0=some 0:=by unfold Y2;rw [if_pos (Int.le_refl 0),if_pos (by rw [J7];lia)];rfl
 unfold F8;rw [e];rfl
structure QPs(X:Cx)(pos:Pos)(keys:List (Option Expr))(values:List Expr)(trs:List (TE×TE)):Prop where
 out:gU X pos keys values trs
theorem amh{pos:Pos} : QPs X pos [] [] []:=⟨alG⟩
theorem pQ{pos:Pos}{k v:Expr}{ks:List (Option Expr)}{vs:List Expr}{trs:List (TE×TE)}(hk:QE X k tk)(hv:QE X v tv)(hr:QPs X pos ks vs trs):QPs X pos (some k::ks) (v::vs) ((tk,tv)::trs):=⟨ajO hk.out hv.out hr.out⟩
theorem ami{pos:Pos}{keys:List (Option Expr)}{trs:List (TE×TE)}(h:QPs X pos keys values trs)(U4:keys.all (·.isSome)=true:=by rfl)(hl:keys.length=values.length:=by rfl)(h0:keys≠[]:=by simp)(h15:decide (keys.length<=15)=true:=by rfl):QE X (.Dict keys values pos) (tDisp trs):=⟨alH h.out U4 hl h0 (of_decide_eq_true h15)⟩
theorem akd{o f:Expr}(hu:X.A.units+1<cLine)(ho:QE X o td)(he:QE X e ty)(hf:QE X f tx)(h1:M0 e=false:=by rfl)(h2:M0 f=false:=by rfl)(K1:attributeBase o "get" X.env (eval o X.env)=eval o X.env:=by rfl)(K2:(apos.endLine==cpos.line)=true:=by rfl):QE X (.Call (.Attribute o "get" apos) [e,f] [] cpos) (pC td ty tx):=
 ⟨ajQ hu ho.out he.out hf.out ⟨K1,by rw [N9 h1,N9 h2];rfl,K2,by rw [N9 h1,N9 h2];rfl⟩⟩
theorem amj{trs:List (TE×TE)} : tDisp trs Y H Q=∀ p,H p=none->cC trs Y (A0 H p (.dK [])) fun ps H2=>H2 p=some (.dK [])/\∃ kvs:List (B1×V),ps=kvs.map (fun kv=>(kV kv.1,kv.2))/\kvs.length<=15/\Q (.ref p) (A0 H2 p (.dK (N6 [] kvs))):=rfl
theorem amk{Q:List (V×V)->Hp->Prop} : cC [] Y H Q=Q [] H:=rfl
theorem ake{r:List (TE×TE)}{Q:List (V×V)->Hp->Prop} : cC ((tk,tv)::r) Y H Q=tk Y H fun x H1=>tv Y H1 fun y H2=>cC r Y H2 fun ps H3=>Q ((x,y)::ps) H3:=rfl
theorem akf : pC td ty tx Y H Q=td Y H fun x H1=>∃ a,x=.ref a/\cD H1 a/\ty Y H1 fun y H2=>tx Y H2 fun z H3=>∃ o,DGet H3 a y o/\Q (o.getD z) H3:=rfl
end L2
set_option maxRecDepth 100000
namespace L2
open PySem PySem.Spec PyProof.Rows
theorem wX:entryFor table "dict.update.loop"=some Builtin.«dict.update.loop»:=entryFor_of_tree (by kernel_rfl)
theorem lS:plainId "dict.update.loop"=true:=by decide +kernel
section
variable {prog:Program} {w:World} {A:Around} {R:Result->Shared->Prop} {I:Addr} {fp wr:List Addr} {G:Array GenState->Array GenState->Prop} {n:Nat} {P:Nat->Value->Prop} {St:Nat->Shared->Prop}
variable {K:Type} [DecidableEq K] {knd:KeyKind prog w K}
def i0(ks:Nat->K)(vl:Nat->Value):Nat->List (K×Value)
 | 0=>[]
 | i+1=>stored (i0 ks vl i) (ks i) (vl i)
theorem wY(ks:Nat->K)(vl:Nat->Value):∀ i,(i0 ks vl i).length<=i
 | 0=>C4 _
 | i+1=>by
  have h1:=wY ks vl i;have h2:(stored (i0 ks vl i) (ks i) (vl i)).length<=(i0 ks vl i).length+1:=by
   unfold stored
   split
   .rw [A8];lia
   .rw [D4];exact C4 _
  show (stored (i0 ks vl i) (ks i) (vl i)).length<=i+1;lia
theorem aiI(W:WalksS prog w A.in1 I fp wr G n P St)(d:Addr)(o0:d∉fp)(tp:Nat->Addr)(ky vl:Nat->Value)(ks:Nat->K)(hP:∀ i v,P i v->v=.ref (tp i))(hk:∀ i,i<n->knd.is (ks i) (ky i)=true)(ht:∀ i,i<n->tp i≠d/\tp i∉wr)(hn:n<=sizeLine) :
  ∀ (k i:Nat) (s:Shared) (j:Int) (t:Tok),n-i=k->i<=n->St i s->(∀ i,i<n->IsTup s.heap (tp i) #[ky i,vl i])->s.heap.DictOf knd d (i0 ks vl i)->
   (∀ s',Moved (d::wr) G s s'->s'.heap.DictOf knd d (i0 ks vl n)->R (.ok (.ret .none)) s')->
   codeAny (model prog w) A (.builtin "dict.update.loop" ⟨[.ref d,.ref I,.int j t,.none],[]⟩) R s:=by
 have hdw:d∉wr:=fun h=>o0 (W.sub _ h)
 have jO:∀ b∈wr,b∈d::wr:=fun b hb=>N7 _ hb
 intro k
 induction k with
 | zero=>
  intro i s j t sP hi V9 hT hD hR;have L6:i=n:=by lia
  subst L6;refine codeAny_builtin wX ?_;rw [Around.under_plainId lS _];show wpAny _ A.in1 (pyNext (.ref I) >>= _) _ _ s;refine wpAny_bind (W.done s _ _ V9 fun s' hm=>?_);have e0:Builtin.Dict.addKeywords d []=pure ():=rfl;show wpAny _ A.in1 (Builtin.Dict.addKeywords d [] >>= fun _=>ret Value.none) _ _ s';rw [e0];refine wpAny_bind (wpAny_pure (wpAny_pure (hR s' (hm.mono jO) ?_)));obtain ⟨o,es,ep,ho,rest⟩:=hD;exact ⟨o,es,ep,hm.heap d _ hdw ho,rest⟩
 | succ k ih=>
  intro i s j t sP hi V9 hT hD hR;have D0:i<n:=by lia
  refine codeAny_builtin wX ?_;rw [Around.under_plainId lS _];show wpAny _ A.in1 (pyNext (.ref I) >>= _) _ _ s;refine wpAny_bind (W.item i s _ _ D0 V9 fun v s' hv sQ hm=>?_);obtain rfl:=hP i v hv;have hD':s'.heap.DictOf knd d (i0 ks vl i):=by
   obtain ⟨o,es,ep,ho,rest⟩:=hD;exact ⟨o,es,ep,hm.heap d _ hdw ho,rest⟩
  have hT':∀ i,i<n->IsTup s'.heap (tp i) #[ky i,vl i]:=fun i hi=>by
   obtain ⟨o,ho,rest⟩:=hT i hi;exact ⟨o,hm.heap _ _ (ht i hi).2 ho,rest⟩
  have hTi:=hT' i D0;obtain ⟨o,ho,sD,n0,nH⟩:=id hTi;refine wpAny_bind (wpAny_holding (wpAny_bind (wpAny_tryCatch ?_)));unfold Builtin.Dict.pairItems;refine wpAny_bind (wpAny_typeOf hTi.typeIs ?_);rw [if_pos (by decide)];refine wpAny_bind (wpAny_seqItems ho nH ?_);refine wpAny_pure ?_;show wpAny _ _ (holding [ky i,vl i] (dictSet d (ky i) (vl i))) _ _ s';have hl:=wY ks vl i;refine wpAny_holding (wpAny_dictSet_pairs (hk i D0) hD' (fun h' hD2 sR=>?_) (by lia));refine wpAny_pure ⟨plainId_quiet lS _,ih (i+1) _ (j+1) 0 (by lia) D0 (W.frame _ s' _ _ sQ (Nat.le_succ _) fun b hb o e=>?_) (fun i hi=>?_) hD2 fun s'' hm'' hD''=>?_⟩
  .rw [sR.2 b (fun h:b=d=>o0 (by rw [<- h];exact hb))];exact e
  .obtain ⟨o,ho,rest⟩:=hT' i hi;exact ⟨o,(sR.2 _ (ht i hi).1).trans ho,rest⟩
  .refine hR s'' (Moved.trans W.gtrans ((hm.mono jO).then_heap (Nat.le_succ _) fun b o hb e=>?_) hm'') hD'';rw [sR.2 b (fun h:b=d=>hb (by rw [h];exact N8))];exact e
end
theorem ahB:typeLookup (.type "list") "__getattribute__"=pure (some (.builtin "list.__getattribute__")):=by rw [typeLookup_type,builtinLookup_eq_fast];kernel_rfl
theorem afy:typeLookup (.type "list") "keys"=pure none:=by rw [typeLookup_type,builtinLookup_eq_fast];kernel_rfl
theorem afz:typeLookup (.type "list") "__getattr__"=pure none:=by rw [typeLookup_type,builtinLookup_eq_fast];kernel_rfl
theorem afA{w:World}{l:Addr}{xs:Array Value}{Q:Option Value->Shared->Prop}(hx:s.heap.get? l=some o)(hc:o.cls=.type "list")(jP:o.data=.seq xs k)(hd:o.dict=none)(hA:A.handled=none)(h:∀ h' tk,(∀ b o,s.heap.get? b=some o->h'.get? b=some o)->Q none { s with heap:=h',toks:=tk }):wpAny (model prog w) A (getAttr? (.ref l) "keys") Q E s:=by
 obtain ⟨c,dct,dat,sl⟩:=o;simp only at hc jP hd;subst hc jP hd;obtain ⟨hp,g,d,tk,os⟩:=s;have hT:∀ tk',(⟨hp,g,d,tk',os⟩:Shared).TypeIs (.ref l) "list":=fun _=>⟨_,hx,rfl⟩
 have f4:=F.slot_list_getattribute.bind (.ref l);unfold getAttr? getAttrBy? getAttrBy;refine wpAny_bind (wpAny_mkText (wpAny_bind (wpAny_attempt (wpAny_holding (wpAny_bind (wpAny_typeOf (hT _) ?_))))));rw [ahB];refine wpAny_bind (wpAny_pure ?_);show wpAny _ _ (getAttrByItsOwn _ _ _ _ _ _) _ _ _;unfold getAttrByItsOwn;refine wpAny_bind (wpAny_pure ?_);refine wpAny_bind (wpAny_attempt (wpAny_holding ?_));show wpAny _ _ (boundAndCalled _ _ _) _ _ _;unfold boundAndCalled;rw [f4];refine wpAny_bind (wpAny_pure ?_);refine call_meets F.slot_list_getattribute (hT _) am_entry_list_getattribute (F.args_list_getattribute_2 _ _) (meets_getattribute_miss_list l xs k sl "keys" _ afy (by decide +kernel) (by decide +kernel)) ⟨hx,hA,fun h' tk' e new=>?_⟩;obtain ⟨t',u',he⟩:=new.there;have hTe:∀ tk',(⟨h',g,d,tk',os⟩:Shared).TypeIs (.ref e) "AttributeError":=fun _=>⟨_,he,rfl⟩
 show wpAny _ _ (getattributeRaised _ _ _ _ _ _ _) _ _ _;unfold getattributeRaised;refine wpAny_bind (wpAny_isInstance (hTe _) sub_AttributeError ?_);rw [if_pos rfl];show wpAny _ _ (hookBehind _ _ >>= _) _ _ _;unfold hookBehind;rw [if_neg (by decide),afz];refine wpAny_bind (wpAny_pure ?_);unfold hookOrError attributeErrorLeaves;show wpAny _ _ (if (!false)=true then _ else _) _ _ _;rw [if_pos (by decide)];refine wpAny_bind (wpAny_throw ?_);show wpAny _ _ (isInstance _ _ >>= _) _ _ _;refine wpAny_bind (wpAny_isInstance (hTe _) sub_AttributeError ?_);rw [if_pos rfl];exact wpAny_pure (h h' tk' new.keeps)
section
variable {prog:Program} {w:World} {A:Around} {E:Value->Shared->Prop} {s:Shared} {K:Type} [DecidableEq K] {knd:KeyKind prog w K}
theorem adL{l:Addr}{Q:Value->Shared->Prop}(hl:PlainL s.heap l items)(hA:A.handled=none)(tp:Nat->Addr)(ky vl:Nat->Value)(ks:Nat->K)(hP:∀ (i:Nat) (v:Value),items[i]?=some v->v=Value.ref (tp i))(hk:∀ i,i<items.size->knd.is (ks i) (ky i)=true)(hT:∀ i,i<items.size->IsTup s.heap (tp i) #[ky i,vl i])(hn:items.size<=sizeLine)(h:∀ h' tk,(∀ b o,s.heap.get? b=some o->h'.get? b=some o)->h'.DictOf knd s.heap.objs.size (i0 ks vl items.size)->Q (.ref s.heap.objs.size) { s with heap:=h',toks:=tk }) :
  wpAny (model prog w) A (call (.type "dict") [.ref l]) Q E s:=by
 refine callType_codes (Q₁:=fun obj zu=>obj=.ref s.heap.objs.size/\zu={ s with heap:=s.heap.push { cls:=.type "dict",data:=.dict #[] } }) F.kt_called_dict (F.kt_typeCall_dict_1 _) F.entry_dict_init (kt_code_dict_new _ ⟨rfl,rfl⟩) ?_;rintro obj zu ⟨rfl,rfl⟩;have P6:(s.heap.push { cls:=.type "dict",data:=.dict #[] }).DictOf knd s.heap.objs.size []:=Heap.DictOf.new s.heap;obtain ⟨ol,nl,hol,sS,hld,bH⟩:=hl;have cY:(s.heap.push { cls:=.type "dict",data:=.dict #[] }).get? l=some ol:=Heap.get?_push_of_some _ hol;have D0:l<s.heap.objs.size:=Heap.lt_size hol;refine ⟨P6.typeIs,F.args_dict_init_2 _ _,?_⟩;unfold Builtin.«dict.__init__»;refine wpAny_bind ?_;unfold Builtin.Dict.selfAndRest;refine wpAny_bind (wpAny_notOrdered_dict P6.typeIs ?_);show wpAny _ _ (pure (s.heap.objs.size,[Value.ref l])) _ _ _;refine wpAny_pure ?_;show wpAny _ _ (Builtin.Dict.updateFrom "dict.__init__" s.heap.objs.size (.ref l) [] .none) _ _ _;unfold Builtin.Dict.updateFrom;refine wpAny_bind (wpAny_typeOf (T:="list") ⟨_,cY,sS⟩ ?_);rw [if_pos (by decide)];refine wpAny_bind (afA cY sS bH hld (by simp [hA]) fun h2 tk2 keep2=>?_);rw [if_pos (show (none:Option Value).isNone=true from rfl)];refine wpAny_bind (wpAny_rule ?_);have i8:h2.IsList l items:=⟨ol,keep2 _ _ cY,sS,nl,bH⟩
 refine wpAny_bind (wpAny_pyIter_list i8 ?_);obtain ⟨od,es,ep,nH,restd⟩:=P6;have x5:s.heap.objs.size<h2.objs.size:=Heap.lt_size (keep2 _ _ nH);have N0:l≠h2.objs.size:=M8 (Nat.lt_trans D0 x5);have hh:A.in1.in1.handled=none:=by simp [hA]
 have o0:s.heap.objs.size∉[h2.objs.size,l]:=by
  simp only [E7,e8,or_false,not_or];exact ⟨M8 x5,Nat.ne_of_gt D0⟩
 have htl:∀ i,i<items.size->tp i<s.heap.objs.size:=fun i hi=>by
  obtain ⟨o,ho,_⟩:=hT i hi;exact Heap.lt_size ho
 refine wpAny_pure ⟨plainId_quiet lS _,aiI ((Walks.list hh _ l N0 items).toS) s.heap.objs.size o0 tp ky vl ks hP hk (fun i hi=>⟨M8 (htl i hi),?_⟩) hn (items.size-0) 0 _ 0 0 (by lia) (J5 _) ⟨⟨_,Heap.get?_push_size _ rfl,rfl,rfl⟩,i8.push _⟩ (fun i hi=>?_) ?_ fun s' hm hD'=>?_⟩
 .simp only [E7,e8,or_false];exact M8 (Nat.lt_trans (htl i hi) x5)
 .obtain ⟨o,ho,rest⟩:=hT i hi;exact ⟨o,Heap.get?_push_of_some _ (keep2 _ _ (Heap.get?_push_of_some _ ho)),rest⟩
 .exact ⟨od,es,ep,Heap.get?_push_of_some _ (keep2 _ _ nH),restd⟩
 .obtain ⟨h',g',d',tk',os'⟩:=s';have eg:g'=s.gens:=hm.gens;have ed:d'=s.drawn:=hm.drawn;have eo:os'=s.os:=hm.os;subst eg ed eo;refine ⟨rfl,h h' tk' (fun b o hb=>hm.heap b o ?_ (Heap.get?_push_of_some _ (keep2 _ _ (Heap.get?_push_of_some _ hb)))) hD'⟩;have jQ:b<s.heap.objs.size:=Heap.lt_size hb;simp only [E7,e8,or_false,not_or];exact ⟨M8 jQ,M8 (Nat.lt_trans jQ x5)⟩
end
def anZ(K:PySem.W.Frag)(calm:Bool):List V->Hp->VK->Prop:=fun xs H Q=>calm=true/\∃ (p:Addr) (ts:List Addr) (kxs:List (B1×V)),xs=[.ref p]/\C9 K H p (ts.map V.ref)/\Paired (fun t kx=>C7 K H t [kV kx.1,kx.2]) ts kxs/\∀ d,H d=none->Q (.ref d) (A0 H d (.dK (N6 [] kxs)))
theorem wZ(I:Inv X pins Y H s):∀ {ts:List Addr} {kxs:List (B1×V)},Paired (fun t kx=>C7 X.K H t [kV kx.1,kx.2]) ts kxs->
  ∃ ws:List (Value×Value),Paired (fun t w=>IsTup s.heap t #[w.1,w.2]) ts ws/\Paired (fun (kx:B1×V) (w:Value×Value)=>keyIs kx.1 w.1=true/\RelV kx.2 w.2) kxs ws
 | _,_,.nil=>⟨[],.nil,.nil⟩
 | _,_,.cons h t=>by
  obtain ⟨ws,h1,h2⟩:=wZ I t;obtain ⟨its,r,ht,_⟩:=I.tuple h;obtain ⟨u1,u2,rfl,r1,r2⟩:=vals2 r;exact ⟨(u1,u2)::ws,.cons ht h1,.cons ⟨kV_is (P:=X.prog) (w:=X.w) r1,r2⟩ h2⟩
theorem xA:∀ {ts:List Addr} {us:List Value},Vals (ts.map V.ref) us->us=ts.map Value.ref
 | [],_,.nil=>rfl
 | t::ts,_::_,.cons h r=>by
  rw [E8,<- xA r];cases h;rfl
theorem xB(hK:X.K=K:=by rfl)(hc:X.calm=calm:=by rfl):QCall X (.type "dict") (anZ K calm):=⟨by
 subst hK;intro pins s Y H xs us Q I r h;obtain ⟨jN,p,ts,kxs,rfl,hp,hP,q⟩:=h;obtain ⟨u,rfl,rx⟩:=vals1 r
 cases rx
 obtain ⟨its,r',pl,hz⟩:=I.list hp;have jR:=xA r';obtain ⟨ws,h1,h2⟩:=wZ I hP;have fN:ts.length=ws.length:=Paired.length h1;have i8:kxs.length=ws.length:=Paired.length h2;rw [A8] at hz;have hsz:its.toArray.size=ts.length:=by rw [J9,jR,A8]
 have sT:∀ i,i<=ts.length->KV (N6 [] (kxs.take i)) (i0 (fun i=>(kxs.getD i (Sum.inl 0,.non)).1) (fun i=>(ws.getD i (.none,.none)).2) i):=by
  intro i
  induction i with
  | zero=>intro _;exact .nil
  | succ i ih=>
   intro hi;have x6:i<kxs.length:=by lia
   obtain ⟨w',hw,hr⟩:=Paired.at h2 (N1 x6);have e1:N6 [] (kxs.take (i+1))=putK (N6 [] (kxs.take i)) kxs[i].1 kxs[i].2:=by
    unfold N6;rw [b9,N1 x6,Option.toList_some,p0];rfl
   rw [e1];show KV _ (stored _ (kxs.getD i (Sum.inl 0,.non)).1 (ws.getD i (.none,.none)).2);have e2:(kxs.getD i (Sum.inl 0,.non))=kxs[i]:=by rw [z9,N1 x6];rfl
   have e3:(ws.getD i (.none,.none))=w':=by rw [z9,hw];rfl
   rw [e2,e3];exact (ih (by lia)).put _ hr.2
 refine adL (knd:=M9 X.prog X.w) pl (I.ok.hd (hc.trans jN)) (fun i=>ts.getD i 0) (fun i=>(ws.getD i (.none,.none)).1) (fun i=>(ws.getD i (.none,.none)).2) (fun i=>(kxs.getD i (Sum.inl 0,.non)).1) (fun i v hv=>?_) (fun i hi=>?_) (fun i hi=>?_) (by lia) fun h' tk keep hD=>?_
 .rw [<- Array.getElem?_toList,jR,c9] at hv;rw [z9];cases e:ts[i]? with
  | none=>rw [e] at hv;cases hv
  | some t=>rw [e] at hv;cases hv;rfl
 .obtain ⟨w',hw,hr⟩:=Paired.at h2 (N1 (show i<kxs.length by lia));have e2:(kxs.getD i (Sum.inl 0,.non))=kxs[i]'(by lia):=by rw [z9,N1 (show i<kxs.length by lia)];rfl
  have e3:(ws.getD i (.none,.none))=w':=by rw [z9,hw];rfl
  rw [e2,e3];exact hr.1
 .have hi':i<ts.length:=by lia
  obtain ⟨w',hw,hr⟩:=Paired.at h1 (N1 hi');have e3:(ws.getD i (.none,.none))=w':=by rw [z9,hw];rfl
  have e4:ts.getD i 0=ts[i]:=by rw [z9,N1 hi'];rfl
  rw [e3,e4];exact hr
 .have hD2:KV (N6 [] kxs) (i0 (fun i=>(kxs.getD i (Sum.inl 0,.non)).1) (fun i=>(ws.getD i (.none,.none)).2) its.toArray.size):=by
   have:=sT ts.length (C4 _)
   rw [b0 (by lia)] at this;rw [hsz];exact this
  have A9:=oZ kxs [];rw [f7] at A9;exact ⟨.ref s.heap.objs.size,_,I.laid (t':=tk) keep (C4 _) (lH (by lia) (beq_eq_false_iff_ne.mpr (Ne.symm (M8 I.big))) hD2 hD),rfl,q _ (I.hok.fresh (C4 _))⟩⟩
end L2
set_option maxRecDepth 100000
namespace L2
open PySem PySem.Spec PyProof.Rows
section
variable {X:Cx} {pins:List (Addr×Obj)} {Y:St} {H:Hp} {s:Shared} {h':Heap}
theorem Inv.turnNew{ch:List Addr}{T:Addr}{o:HO}(I:Inv X pins Y H s)(hf:∀ b∈ch,FpOk X pins H b)(k:∀ b u,b∉ch->s.heap.get? b=some u->h'.get? b=some u)(hT:s.heap.objs.size<=T)(new:ObjOk X.prog X.w (A0 H T o) h' T o):Inv X pins Y (A0 H T o) { s with heap:=h',toks:=t' }:=by
 have hn:H T=none:=I.hok.fresh hT;have nch:∀ b u,H b=some u->b∉ch:=fun b u e z=>by rw [(hf b z).1] at e;cases e
 have neT:∀ b u,s.heap.get? b=some u->b≠T:=fun b u e=>M8 (P3 (Heap.lt_size e) hT)
 refine I.step (g':=s.gens) (d':=s.drawn) (ch:=ch) (fun b hb=>?_) (fun b u _ _ hc e _=>k b u hc e) (fun b u _ _ hc e _=>⟨u.slots,k b u hc e⟩) (fun b u _ e n=>by rw [B3 (neT b u e)];exact n)
  (fun b u hc e=>⟨u,k b u hc e⟩) (fun b xs e=>C8 e hn) (fun b ob u e=>C8 e hn) (fun b ps e=>⟨#[],by rw [C8 e hn];simp⟩) (fun m hm=>?_) (fun b u e=>?_) I.bare
 .obtain ⟨f0,f1,f2,f3,f4,f5⟩:=hf b hb;exact ⟨f3,f1,f4,f5⟩
 .obtain ⟨ob,es,ep,ho,r⟩:=hm;exact ⟨ob,es,ep,k _ ob (fun z=>(hf _ z).2.1 rfl) ho,r⟩
 .by_cases hb:b=T
  .subst hb;rw [A4] at e;cases e;exact new
  .rw [B3 hb] at e;refine (I.hok b u e).stay (fun c v hc q=>k c v ?_ q) (fun c q=>C8 q hn) fun c xs q=>C8 q hn
   rcases hc with z | z
   .rw [z];exact nch b u e
   .exact nch c _ z
end
theorem Z7{a b:Nat}(h:a<b\/b<a):(show Addr from a)≠(show Addr from b):=fun e=>by
 have e:a=b:=e;lia
def lT(l1 l2 : Addr) : It :=
  ⟨fun i H => ∃ xs ys x y, H l1 = some (.lst xs) /\ H l2 = some (.lst ys) /\ xs[i]? = some x /\ ys[i]? = some y,
   fun i H v H' => ∃ t xs ys x y, H l1 = some (.lst xs) /\ H l2 = some (.lst ys) /\ xs[i]? = some x /\ ys[i]? = some y /\ H t = none /\ v = .ref t /\ H' = A0 H t (.tup [x, y]),
   fun i H => ∃ xs ys, H l1 = some (.lst xs) /\ H l2 = some (.lst ys) /\ (xs.length <= i \/ ys.length <= i)⟩
theorem akg{P:Program}{w:World}{pos:Pos}(z TI TO i1 i2 l1 l2:Addr)(a1:TI≠z)(a2:TO≠z)(a3:i1≠z)(a4:i2≠z)(a5:TI≠TO)(a6:TI≠i1)(a7:TI≠i2)(a8:TO≠i1)(a9:TO≠i2)(a10:i1≠i2) :
  Turn P w K (.Tuple elts x1 pos) (lT l1 l2) [z,TO,i1,i2,TI] z (fun i h=>IsZip h z TI TO .none/\IsPair h TI (.ref i1) (.ref i2)/\(∃ a b,IsPair h TO a b)/\h.IsListIter i1 l1 i/\h.IsListIter i2 l2 i) where
 mem:=by simp
 obj:=fun i h ⟨hz,hTI,⟨a,b,hTO⟩,h1,h2⟩ c hc=>by
  have e:c=z\/c=TO\/c=i1\/c=i2\/c=TI:=by simpa using hc
  rcases e with rfl | rfl | rfl | rfl | rfl
  .exact ⟨_,hz,fun v q=>by cases q⟩
  .exact ⟨_,hTO,fun v q=>by cases q⟩
  .obtain ⟨o,e,c,d⟩:=h1;exact ⟨o,e,fun v z=>by rw [d] at z;cases z⟩
  .obtain ⟨o,e,c,d⟩:=h2;exact ⟨o,e,fun v z=>by rw [d] at z;cases z⟩
  .exact ⟨_,hTI,fun v q=>by cases q⟩
 keep:=fun i h h' ⟨hz,hTI,⟨a,b,hTO⟩,h1,h2⟩ k=>⟨k z (by simp) _ hz,k TI (by simp) _ hTI,⟨a,b,k TO (by simp) _ hTO⟩,h1.at fun o e=>k i1 (by simp) o e,h2.at fun o e=>k i2 (by simp) o e⟩
 item:=by
  intro X hP hw hK hc i pins s Y H E I hf ⟨hz,hTI,⟨a,b,hTO⟩,h1,h2⟩ hg;subst hP hw hK;obtain ⟨xs,ys,x,y,e1,e2,hx,hy⟩:=hg;obtain ⟨its1,X6,p1,_⟩:=I.list (C9.of (K:=X.K) e1);obtain ⟨its2,nI,p2,_⟩:=I.list (C9.of (K:=X.K) e2);obtain ⟨u1,C5,r1⟩:=X6.get hx;obtain ⟨u2,x8,r2⟩:=nI.get hy;have nl:∀ c∈[z,TO,i1,i2,TI],l1≠c/\l2≠c:=fun c hc=>⟨fun q=>(by rw [q,(hf c hc).1] at e1;cases e1),fun q=>(by rw [q,(hf c hc).1] at e2;cases e2)⟩
  have D:ZipApart z TI TO i1 i2 l1 l2:=⟨a1,a2,a3,a4,a5,a6,a7,a8,a9,a10,(nl z (by simp)).1,(nl TO (by simp)).1,(nl i1 (by simp)).1,(nl i2 (by simp)).1,(nl z (by simp)).2,(nl TO (by simp)).2,(nl i1 (by simp)).2,(nl i2 (by simp)).2⟩
  refine wpAny_pyNext_zip_item D hz hTI hTO h1 h2 p1.isList p2.isList (x:=u1) (y:=u2) (by simpa using C5) (by simpa using x8) fun h' b1 b2 b3 b4 b5 b6 b7=>⟨_,rfl,wpAny_letOwnedTupleGo_zip b1 fun h2' c1 c2=>?_⟩
  have U5:z<s.heap.objs.size:=Heap.lt_size hz;have up:∀ c o,c≠z->h'.get? c=some o->h2'.get? c=some o:=fun c o hc e=>(c2.2 c hc).trans e
  have nT:∀ c∈[z,TO,i1,i2,TI],c≠s.heap.objs.size:=fun c hc=>by
   have e:c=z\/c=TO\/c=i1\/c=i2\/c=TI:=by simpa using hc
   refine M8 ?_
   rcases e with rfl | rfl | rfl | rfl | rfl
   .exact Heap.lt_size hz
   .exact Heap.lt_size hTO
   .obtain ⟨o,e,_⟩:=h1;exact Heap.lt_size e
   .obtain ⟨o,e,_⟩:=h2;exact Heap.lt_size e
   .exact Heap.lt_size hTI
  have hT:=up _ _ (Nat.ne_of_gt U5) b5;refine ⟨.ref s.heap.objs.size,A0 H s.heap.objs.size (.tup [x,y]),I.turnNew (t':=s.toks) (ch:=[z,TO,i1,i2,TI]) hf (fun c u hc e=>?_) (C4 _) ⟨by show 2<=sizeLine;decide,[u1,u2],.cons r1 (.cons r2 .nil),?_⟩,rfl,⟨_,xs,ys,x,y,e1,e2,hx,hy,I.fresh,rfl,rfl⟩,
   ⟨c1,up _ _ a1 (b7 _ _ a1 a5 a6 a7 hTI),⟨_,_,up _ _ a2 b2⟩,b3.at fun o e=>up _ o a3 e,b4.at fun o e=>up _ o a4 e⟩,fun c hc=>by rw [B3 (nT c hc)];exact (hf c hc).1⟩
  .have q:c≠z/\c≠TO/\c≠i1/\c≠i2:=by
    refine ⟨fun q=>hc (by simp [q]),fun q=>hc (by simp [q]),fun q=>hc (by simp [q]),fun q=>hc (by simp [q])⟩
   exact up c u q.1 (b7 c u q.1 q.2.1 q.2.2.1 q.2.2.2 e)
  .exact ⟨_,hT,rfl,_,rfl⟩
 done:=by
  intro X hP hw hK hc i pins s Y H E I hf ⟨hz,hTI,⟨a,b,hTO⟩,h1,h2⟩ hg;subst hP hw hK;obtain ⟨xs,ys,e1,e2,cZ⟩:=hg;obtain ⟨its1,X6,p1,_⟩:=I.list (C9.of (K:=X.K) e1);obtain ⟨its2,nI,p2,_⟩:=I.list (C9.of (K:=X.K) e2);have q1:=X6.length;have q2:=nI.length;have nl:∀ c∈[z,TO,i1,i2,TI],l1≠c/\l2≠c:=fun c hc=>⟨fun q=>(by rw [q,(hf c hc).1] at e1;cases e1),fun q=>(by rw [q,(hf c hc).1] at e2;cases e2)⟩
  have D:ZipApart z TI TO i1 i2 l1 l2:=⟨a1,a2,a3,a4,a5,a6,a7,a8,a9,a10,(nl z (by simp)).1,(nl TO (by simp)).1,(nl i1 (by simp)).1,(nl i2 (by simp)).1,(nl z (by simp)).2,(nl TO (by simp)).2,(nl i1 (by simp)).2,(nl i2 (by simp)).2⟩
  refine wpAny_pyNext_zip_end (I.ok.hd hc) D hz hTI hTO h1 h2 p1.isList p2.isList (by rcases cZ with q | q <;> simp <;> lia) fun h' k=>⟨rfl,?_⟩
  refine I.step (h':=h') (t':=s.toks) (g':=s.gens) (d':=s.drawn) (ch:=[z,TO,i1,i2,TI]) (fun b hb=>?_) (fun b u _ _ hc e _=>?_) (fun b u _ _ hc e _=>⟨u.slots,?_⟩) (fun b u _ e n=>n)
   (fun b u hc e=>⟨u,?_⟩) (fun b xs e=>e) (fun b ob u e=>e) (fun b ps e=>⟨#[],by rw [e];simp⟩) (fun m hm=>?_) (fun b u e=>?_) I.bare
  .obtain ⟨f0,f1,f2,f3,f4,f5⟩:=hf b hb;exact ⟨f3,f1,f4,f5⟩
  .exact k b u (fun q=>hc (by simp [q])) (fun q=>hc (by simp [q])) (fun q=>hc (by simp [q])) (fun q=>hc (by simp [q])) e
  .exact k b u (fun q=>hc (by simp [q])) (fun q=>hc (by simp [q])) (fun q=>hc (by simp [q])) (fun q=>hc (by simp [q])) e
  .exact k b u (fun q=>hc (by simp [q])) (fun q=>hc (by simp [q])) (fun q=>hc (by simp [q])) (fun q=>hc (by simp [q])) e
  .obtain ⟨ob,es,ep,ho,r⟩:=hm;have nL:∀ c∈[z,TO,i1,i2,TI],X.env.locals≠c:=fun c hc q=>(hf c hc).2.1 q.symm
   exact ⟨ob,es,ep,k _ ob (nL z (by simp)) (nL TO (by simp)) (nL i1 (by simp)) (nL i2 (by simp)) ho,r⟩
  .have nch:∀ b u,H b=some u->∀ c∈[z,TO,i1,i2,TI],b≠c:=fun b u e c hc q=>by rw [q,(hf c hc).1] at e;cases e
   refine (I.hok b u e).stay (fun c v hc q=>?_) (fun c q=>q) fun c xs q=>q
   have:∀ d∈[z,TO,i1,i2,TI],c≠d:=by
    rcases hc with z | z
    .rw [z];exact nch b u e
    .exact nch c _ z
   exact k c v (this z (by simp)) (this TO (by simp)) (this i1 (by simp)) (this i2 (by simp)) q
 self:=fun _ _ _ _ _ st h=>wpAny_pyIter_zip st.1 h
section
variable {X:Cx}
def iZip(ta:TA):TI:=fun Y H R=>ta Y H fun vs H1=>∃ (l1 l2:Addr) (xs ys:List V),vs=[.ref l1,.ref l2]/\H1 l1=some (.lst xs)/\H1 l2=some (.lst ys)/\R (lT l1 l2) H1
theorem an0{a b:Expr}{p pos:Pos}(hg:Gl X "zip")(hm:X.mg "zip"=none)(ha:PA X [a,b] ta)(h1:M0 a=false:=by rfl)(h2:M0 b=false:=by rfl) :
  PI X (.Tuple elts x1 tpos) (.Call (.Name "zip" p) [a,b] [] pos) (iZip ta):=by
 intro pins s Y H R I h;refine Call_ (gO I hg hm boot_zip (PyProof.Rows.callWith_type1 (B5 (ha pos pins s Y H _ I h) fun us s1 ⟨vs,H1,I1,r1,q1⟩=>?_) (N9 h1) (by rw [N9 h2];rfl)));obtain ⟨l1,l2,xs,ys,rfl,e1,e2,q⟩:=q1;obtain ⟨u1,u2,rfl,jS,sU⟩:=vals2 r1
 cases jS
 cases sU
 obtain ⟨its1,X6,p1,_⟩:=I1.list (C9.of (K:=X.K) e1);obtain ⟨its2,nI,p2,_⟩:=I1.list (C9.of (K:=X.K) e2);refine call_zip_2 p1.isList p2.isList fun h' z1 z2 z3 z4 z5 z6 z7=>wpAny_pyIter_zip z1 ?_
 refine ⟨s1.heap.objs.size+4,[s1.heap.objs.size+4,s1.heap.objs.size+3,s1.heap.objs.size,s1.heap.objs.size+1,s1.heap.objs.size+2],_,_,H1,rfl,I1.kept (t':=s1.toks) z7,
  akg _ (s1.heap.objs.size+2) (s1.heap.objs.size+3) s1.heap.objs.size (s1.heap.objs.size+1) l1 l2 (Z7 (by lia)) (Z7 (by lia)) (Z7 (by lia)) (Z7 (by lia)) (Z7 (by lia)) (Z7 (by lia)) (Z7 (by lia)) (Z7 (by lia)) (Z7 (by lia)) (Z7 (by lia)),⟨z1,z2,⟨_,_,z3⟩,z4,z5⟩,fun b hb=>?_,q⟩
 have W0:s1.heap.objs.size<=b:=by
  have e:b=s1.heap.objs.size+4\/b=s1.heap.objs.size+3\/b=s1.heap.objs.size\/b=s1.heap.objs.size+1\/b=s1.heap.objs.size+2:=by simpa using hb
  rcases e with rfl | rfl | rfl | rfl | rfl
  .exact aI _ _
  .exact aI _ _
  .exact C4 _
  .exact aI _ _
  .exact aI _ _
 exact I1.fpOk W0 (I1.hok.fresh W0)
theorem an1{a b:Expr}{p pos:Pos}(hm:X.mg "zip"=none)(ha:QA X [a,b] ta)(hg:Gl X "zip":=by rfl)(h1:M0 a=false:=by rfl)(h2:M0 b=false:=by rfl) :
  QI X (.Tuple elts x1 tpos) (.Call (.Name "zip" p) [a,b] [] pos) (iZip ta):=⟨an0 hg hm ha.out h1 h2⟩
end
theorem aml{R:It->Hp->Prop} : iZip ta Y H R=ta Y H fun vs H1=>∃ (l1 l2:Addr) (xs ys:List V),vs=[.ref l1,.ref l2]/\H1 l1=some (.lst xs)/\H1 l2=some (.lst ys)/\R (lT l1 l2) H1:=rfl
theorem forZ{l1 l2:Addr}(Pv:Nat->St->Hp->Prop)(h0:Pv 0 Y H)(hl:∀ i Y H,Pv i Y H->H l1=some (.lst xs)/\H l2=some (.lst ys))(hs:∀ i x y t Y H,xs[i]?=some x->ys[i]?=some y->Pv i Y H->H t=none->g (.ref t) Y (A0 H t (.tup [x,y])) fun σ2 H2=>tb { D with nx:=Pv (i+1),ct:=Pv (i+1),bk:=D.nx } σ2 H2)(hd:∀ Y H,Pv (min xs.length ys.length) Y H->D.nx Y H):ForIt (lT l1 l2) g tb D Y H:=by
 refine ⟨fun i m Y H=>m=min xs.length ys.length-i/\i<=min xs.length ys.length/\Pv i Y H,⟨min xs.length ys.length,by simp,J5 _,h0⟩,?_⟩;rintro i m Y H ⟨rfl,hi,p⟩;obtain ⟨e1,e2⟩:=hl i Y H p
 by_cases D0:i<min xs.length ys.length
 .refine .inr ⟨⟨xs,ys,xs[i]'(by lia),ys[i]'(by lia),e1,e2,by simp,by simp⟩,Pv (i+1),fun σ' H' p'=>⟨_,by lia,rfl,D0,p'⟩,fun v H' y=>?_⟩;obtain ⟨t,xs',ys',x,y',f1,f2,hx,hy,ht,rfl,rfl⟩:=y;rw [e1] at f1;cases f1;rw [e2] at f2;cases f2;exact hs i x y' t Y H hx hy p ht
 .have e:i=min xs.length ys.length:=by lia
  subst e;exact .inl ⟨⟨xs,ys,e1,e2,by lia⟩,hd Y H p⟩
def Itr3(lo st:Int)(n:Nat):It:=⟨fun i _=>i<n,fun i H x H'=>H'=H/\x=.int (lo+i*st),fun i _=>n<=i⟩
theorem xC{α β:Type}(f:α->β):∀ (l:List α) (i:Nat),(l.eraseIdx i).map f=(l.map f).eraseIdx i
 | [],_=>rfl
 | _::_,0=>rfl
 | x::l,i+1=>by
  show f x::(l.eraseIdx i).map f=f x::(l.map f).eraseIdx i;rw [xC f l i]
def pR(td ty tx:TE):TE:=fun Y H Q=>td Y H fun x H1=>∃ a,x=.ref a/\cD H1 a/\ty Y H1 fun y H2=>tx Y H2 fun z H3=>∃ kvs k,H3 a=some (.dK kvs)/\kvs.length<sizeLine/\y=kV k/\
 (∀ v,valV kvs k=some v->Q v H3)/\(valV kvs k=none->Q z (A0 H3 a (.dK (putK kvs k z))))
section
variable {X:Cx} {o e f:Expr} {apos cpos:Pos} {td ty tx:TE} {pins:List (Addr×Obj)} {Y:St} {H:Hp} {s:Shared} {a:Addr} {A:Around} {E:Value->Shared->Prop}
theorem an2{k:B1}{z:V}{r:Value}{Q:Value->Shared->Prop}(I:Inv X pins Y H s)(e:H a=some (.dK kvs))(hl:kvs.length<sizeLine)(ry:RelV (kV k) u)(rz:RelV z r)(h1:∀ v w' s',valV kvs k=some v->Inv X pins Y H s'->RelV v w'->Q w' s')(h2:∀ s',valV kvs k=none->Inv X pins Y (A0 H a (.dK (putK kvs k z))) s'->Q r s') :
  wpAny (model X.prog X.w) A (call (.builtin "dict.setdefault") [.ref a,u,r]) Q E s:=by
 obtain ⟨hz,hd,vs,rel,dd⟩:=dk_of I.hok e;have A9:=rel.length;refine call_meetsIn PySem.F.slot_dict_setdefault dd.typeIs PySem.F.entry_dict_setdefault (PySem.F.args_dict_setdefault_3 _ _ _) (kt_meets_setdefault (M9 X.prog X.w) a (kV_is ry) hd r) ⟨vs,dd,by lia,fun v hv=>?_,fun hn h' hm hs=>?_⟩
 .have:=rel.val k
  rw [hv] at this;cases dC:valV kvs k with
  | none=>rw [dC] at this;exact this.elim
  | some x=>rw [dC] at this;exact h1 x v _ dC (I.tok _) this
 .have:=rel.val k
  rw [hn] at this;cases dC:valV kvs k with
  | some x=>rw [dC] at this;exact this.elim
  | none=>
   have X2:(putK kvs k z).length<=sizeLine:=by rw [ajM z dC,D4,b8];lia
   obtain ⟨ob,_,_,ho,_⟩:=id hm;exact h2 _ dC (lG (t':=s.toks+1) I (by rw [e];exact trivial) hs ⟨ob,ho⟩ (lH X2 hd (rel.put k rz) hm))
theorem akh(ho:PE X o td)(he:PE X e ty)(hf:PE X f tx)(m:M2 X o "setdefault" apos e f cpos):PE X (.Call (.Attribute o "setdefault" apos) [e,f] [] cpos) (pR td ty tx):=by
 intro pins s Y H Q I h;refine wpAny_Call_method m.base m.few m.line PySem.F.plainAttrs_dict PySem.F.slot_dict_setdefault PySem.F.type_dict_setdefault (B5 (ho pins s Y H _ I h) fun u s1 ⟨x,H1,I1,rx,a,ex,d,q1⟩=>?_);subst ex;obtain rfl:u=Value.ref a:=rx;obtain ⟨t1,t2,_⟩:=pA I1 d;refine ⟨t1,t2,?_⟩;rw [m.trees];refine Calls.callWith_builtin rfl (Calls.evalArgs_plain (Calls.spliced_cons (B5 (he pins s1 Y H1 _ I1 q1) fun iv s2 ⟨y,H2,I2,ry,q2⟩=>
  Calls.spliced_cons (B5 (hf pins s2 Y H2 _ I2 q2) fun fv s3 ⟨z,H3,I3,rz,kvs,k,e3,hl,ey,q3,q4⟩=>Calls.spliced_nil ?_))))
 subst ey;exact an2 I3 e3 hl ry rz (fun v w' s4 hv I4 rw'=>⟨v,H3,I4,rw',q3 v hv⟩) fun s4 hn I4=>⟨z,_,I4,rz,q4 hn⟩
theorem aki(ho:QE X o td)(he:QE X e ty)(hf:QE X f tx)(h1:M0 e=false:=by rfl)(h2:M0 f=false:=by rfl)(K1:attributeBase o "setdefault" X.env (eval o X.env)=eval o X.env:=by rfl)(K2:(apos.endLine==cpos.line)=true:=by rfl):QE X (.Call (.Attribute o "setdefault" apos) [e,f] [] cpos) (pR td ty tx):=
 ⟨akh ho.out he.out hf.out ⟨K1,by rw [N9 h1,N9 h2];rfl,K2,by rw [N9 h1,N9 h2];rfl⟩⟩
theorem akj:pR td ty tx Y H Q=td Y H fun x H1=>∃ a,x=.ref a/\cD H1 a/\ty Y H1 fun y H2=>tx Y H2 fun z H3=>∃ kvs k,H3 a=some (.dK kvs)/\kvs.length<sizeLine/\y=kV k/\
 (∀ v,valV kvs k=some v->Q v H3)/\(valV kvs k=none->Q z (A0 H3 a (.dK (putK kvs k z)))):=rfl
end
section
variable {X:Cx} {tg:Expr}
def xD(i j k:Int):Nat:=(if i<j then (j-i-1) / k+1 else 0).toNat
def iRng3(ta:TA):TI:=fun Y H R=>ta Y H fun vs H1=>∃ i j k:Int,vs=[.int i,.int j,.int k]/\(-(2 ^ 60)<=i/\i<2 ^ 60/\-(2 ^ 60)<=j/\j<2 ^ 60/\0<k/\k<1000000)/\R (Itr3 i k (xD i j k)) H1
end
theorem akk{R:It->Hp->Prop} : iRng3 ta Y H R=ta Y H fun vs H1=>∃ i j k:Int,vs=[.int i,.int j,.int k]/\(-(2 ^ 60)<=i/\i<2 ^ 60/\-(2 ^ 60)<=j/\j<2 ^ 60/\0<k/\k<1000000)/\R (Itr3 i k (xD i j k)) H1:=rfl
section
variable {X:Cx} {pins:List (Addr×Obj)} {Y:St} {H:Hp} {s:Shared} {a:Addr}
theorem Inv.swap{u u':HO}(I:Inv X pins Y H s)(e:H a=some u)(n1:∀ xs,u≠.tup xs)(n2:∀ x,u≠.own x)(n3:∀ ps,u≠.tbl ps)(n4:∀ o v,X.H₀ a≠some (.frz o v))(new:ObjOk X.prog X.w H s.heap a u'):Inv X pins Y (A0 H a u') s:=by
 have ne:∀ b,H b=none->b≠a:=fun b h q=>by rw [q,e] at h;cases h
 have own:∀ c x,H c=some (.own x)->A0 H a u' c=some (.own x):=fun c x q=>by
  rw [B3 (fun z=>by rw [z,e] at q;exact n2 x (Option.some.inj q))];exact q
 have tup:∀ c xs,H c=some (.tup xs)->A0 H a u' c=some (.tup xs):=fun c x q=>by
  rw [B3 (fun z=>by rw [z,e] at q;exact n1 x (Option.some.inj q))];exact q
 refine ⟨I.ok,I.os,I.bare,⟨I.base.keep,I.base.slot,fun b o h1 h2 h3=>?_,I.base.there,fun b xs h=>tup b xs (I.base.tups b xs h),fun b o v h=>?_,fun b ps h=>?_⟩,I.loc,I.cell,?_,fun x c h=>?_,fun p hp=>?_,fun b v h=>?_,I.len⟩
 .have:=I.base.free b o h1 h2 h3
  rw [B3 (ne b this)];exact this
 .rw [B3 (fun z=>n4 o v (by rw [<- z];exact h))];exact I.base.frzs b o v h
 .obtain ⟨m,q⟩:=I.base.tbls b ps h;exact ⟨m,by rw [B3 (fun z=>by rw [z,e] at q;exact n3 _ (Option.some.inj q))];exact q⟩
 .rw [B3 (ne _ I.free)];exact I.free
 .rw [B3 (ne _ (I.freeC x c h))];exact I.freeC x c h
 .obtain ⟨h1,h2,h3⟩:=I.pin p hp;exact ⟨h1,by rw [B3 (ne _ h2)];exact h2,h3⟩
 .by_cases hb:b=a
  .subst hb;rw [A4] at h;cases h;exact new.stay (fun _ _ _ q=>q) (fun c q=>own c _ q) fun c xs q=>tup c xs q
  .rw [B3 hb] at h;exact (I.hok b v h).stay (fun _ _ _ q=>q) (fun c q=>own c _ q) fun c xs q=>tup c xs q
end
def hJ(a:Addr)(o:Obj)(kvs:List (B1×V)):It:=
 ⟨fun i H=>H a=some (.frz o (.dK kvs))/\i<kvs.length,fun i H x H'=>H'=H/\∃ k v,kvs[i]?=some (k,v)/\x=kV k,fun i H=>H a=some (.frz o (.dK kvs))/\kvs.length<=i⟩
theorem aiM{P:Program}{w:World}(a it:Addr)(o:Obj)(kvs:List (B1×V))(vs:List (B1×Value))(ep:Nat)(Q9:∀ h:Heap,h.get? a=some o->h.DictAt (M9 P w) a vs ep)(rel:KV kvs vs):Turn P w K tg (hJ a o kvs) [it] it (fun i h=>h.IsKeyIter it a i vs.length ep) where
 mem:=by simp
 obj:=fun i h st b hb=>by
  have e:b=it:=by simpa using hb
  subst e;obtain ⟨o,e,c,d⟩:=st;exact ⟨o,e,fun v z=>by rw [d] at z;cases z⟩
 keep:=fun i h h' st k=>st.at fun o e=>k it (by simp) o e
 item:=by
  intro X hP hw hK hc i pins s Y H E I hf st hg;subst hP hw hK;obtain ⟨f0,f1,f2,f3,f4,f5⟩:=hf it (by simp);obtain ⟨sV,jT⟩:=hg;have hd:=Q9 s.heap (I.hok a _ sV).1;have hvl:i<vs.length:=by rw [<- rel.length];exact jT
  refine wpAny_pyNext_dict_item st hd (k:=vs[i].1) (v:=vs[i].2) (by rw [N1 hvl]) fun key h' Y5 jU nJ=>?_
  have I1:Inv X pins Y H { s with heap:=h' }:=I.turned (t':=s.toks) (fun b o hb e=>(nJ.2 b hb).trans e) f0 f1 f3 f4 f5;obtain ⟨oi,e,c,d⟩:=id jU;have hk:kvs[i].1=vs[i].1:=by
   have:=congrArg (·[i]?) rel.keys
   simpa [jT,hvl] using this
  have rk:RelV (kV kvs[i].1) key:=by
   rw [hk];have Y5:keyIs vs[i].1 key=true:=Y5;generalize vs[i].1=kk at Y5
   rcases g0 Y5 with ⟨j,t,rfl,rfl⟩ | ⟨x,t,rfl,rfl⟩
   .exact ⟨t,rfl⟩
   .exact ⟨t,rfl⟩
  exact ⟨key,rfl,go_of (s:={ s with heap:=h' }) e c d (by decide) ⟨kV kvs[i].1,H,I1,rk,⟨rfl,kvs[i].1,kvs[i].2,by rw [N1 jT],rfl⟩,jU,fun b hb=>(hf b hb).1⟩⟩
 done:=by
  intro X hP hw hK hc i pins s Y H E I hf st hg;subst hP hw hK;obtain ⟨f0,f1,f2,f3,f4,f5⟩:=hf it (by simp);obtain ⟨sV,jT⟩:=hg;have hd:=Q9 s.heap (I.hok a _ sV).1;exact wpAny_pyNext_dict_end (I.ok.hd hc) st hd (by rw [List.getElem?_eq_none_iff,<- rel.length];exact jT) fun h' eb=>⟨rfl,I.turned (t':=s.toks) (fun b o hb e=>eb b o hb e) f0 f1 f3 f4 f5⟩
 self:=fun _ _ _ _ _ st h=>wpAny_pyIter_keyiter st h
def Ends.thaw(D:Ends)(a:Addr)(kvs:List (B1×V)):Ends where
 nx:=fun Y H=>(∃ o,H a=some (.frz o (.dK kvs)))/\D.nx Y (A0 H a (.dK kvs))
 rt:=fun v H=>(∃ o,H a=some (.frz o (.dK kvs)))/\D.rt v (A0 H a (.dK kvs))
def tForD(tl:TE)(g:TG)(tb:TS):TS:=fun D Y H=>tl Y H fun x H1=>∃ a kvs,x=.ref a/\H1 a=some (.dK kvs)/\∀ o,ForIt (hJ a o kvs) g tb (D.thaw a kvs) Y (A0 H1 a (.frz o (.dK kvs)))
theorem amm{l:Expr}{body:List Stmt}{pos:Pos}(hp:PassesOwn (model X.prog X.w) X.A X.env X.xe)(hc:X.calm=true)(hl:PE X l tl)(hg:PG X tg g)(hb:V4 X body tb)(hs:∀ x,foldedSetIterable l X.env x=pure x):PS X (.For tg l body [] pos) (tForD tl g tb):=by
 intro pins s Y H D I h;refine wpAny_For (B5 (hl pins s Y H _ I h) fun v s1 ⟨x,H1,I1,r1,q1⟩=>?_) hs;obtain ⟨a,kvs,rfl,e,q⟩:=q1
 cases r1
 obtain ⟨z,hd,vs,rel,dd⟩:=dk_of I1.hok e;obtain ⟨ep,Q9⟩:=dd.dictAt;obtain ⟨o,es,ho,X4⟩:=id Q9;refine wpAny_pyIter_dict hd Q9 ?_;have NF:∀ o' v',X.H₀ a≠some (.frz o' v'):=fun o' v' z=>by
  have:=I1.base.frzs _ _ _ z
  rw [e] at this;cases this
 have I1':Inv X pins Y H1 { s1 with heap:=s1.heap.push { cls:=.type "dict_keyiterator",data:=.fields #[.ref a,.int 0 0,.int vs.length 0,.int ep 0] } }:=I1.kept (t':=s1.toks) fun b u e=>Heap.get?_push_of_some _ e
 have I2:=I1'.swap (u':=.frz o (.dK kvs)) e (fun _ q=>by cases q) (fun _ q=>by cases q) (fun _ q=>by cases q) NF ⟨Heap.get?_push_of_some _ ho,I1'.hok a _ e⟩;have thaw:∀ {σ':St} {H':Hp} {s':Shared},Inv X pins σ' H' s'->(∃ o,H' a=some (.frz o (.dK kvs)))->Inv X pins σ' (A0 H' a (.dK kvs)) s':=fun {σ' H' s'} I' ⟨o',e'⟩=>
  I'.swap e' (fun _ q=>by cases q) (fun _ q=>by cases q) (fun _ q=>by cases q) NF (I'.hok a _ e').2
 have T:Turn X.prog X.w X.K tg (hJ a o kvs) [s1.heap.objs.size] s1.heap.objs.size (fun i h=>h.IsKeyIter s1.heap.objs.size a i vs.length ep):=aiM a _ o kvs vs ep (fun h e=>⟨o,es,e,X4⟩) rel;have j0:A0 H1 a (.frz o (.dK kvs)) s1.heap.objs.size=none:=by rw [B3 (fun q=>by rw [<- q,I1.fresh] at e;cases e)];exact I1.fresh
 have f2:∀ b∈[s1.heap.objs.size],FpOk X pins (A0 H1 a (.frz o (.dK kvs))) b:=fun b hb=>by
  have e:b=s1.heap.objs.size:=by simpa using hb
  subst e;exact I1.fpOk (C4 _) j0
 obtain ⟨W,⟨m0,w0⟩,turn⟩:=q o;have stat:∀ {H':Hp},(∀ b∈[s1.heap.objs.size],H' b=none)->∀ b∈[s1.heap.objs.size],FpOk X pins H' b:=fun hn b hb=>⟨hn b hb,(f2 b hb).2⟩
 refine codeAny_forLoop_any (fun n s'=>∃ i σ' H',Inv X pins σ' H' s'/\s'.heap.IsKeyIter s1.heap.objs.size a i vs.length ep/\(∀ b∈[s1.heap.objs.size],H' b=none)/\W i n σ' H') ?_ m0 ⟨0,Y,_,I2,⟨_,Heap.get?_push_size _ rfl,rfl,rfl⟩,fun b hb=>(f2 b hb).1,w0⟩;rintro n s3 ⟨i,σ3,H3,I3,bD,jF,w3⟩
 rcases turn i n σ3 H3 w3 with ⟨stop,qn⟩ | ⟨go,N,hN,step⟩
 .refine wpAny_passesOwn hp (B5 (T.done X rfl rfl rfl hc i pins s3 σ3 H3 X.xe I3 (stat jF) bD stop) fun r s4 ⟨hr,I4⟩=>?_);subst hr;exact wpAny_execs_nil ⟨σ3,_,thaw I4 qn.1,qn.2⟩
 .refine wpAny_passesOwn hp (B5 (T.item X rfl rfl rfl hc i pins s3 σ3 H3 X.xe I3 (stat jF) bD go) fun r s4 ⟨u,hr,h4⟩=>?_);subst hr;refine wpAny_passesOwn hp (B5 h4 fun _ s5 ⟨x,H5,I5,r5,y5,cT,sF⟩=>?_);have I5':=I5.pinned (stat sF) (T.obj _ _ cT);refine wpAny_passesOwn hp (B5 (hg _ s5 σ3 H5 x u _ I5' r5 (step x H5 y5)) fun _ s6 ⟨σ6,H6,I6,q6⟩=>?_);refine wpAny_passesOwn hp (B5 (hb _ s6 σ6 H6 _ I6 q6) fun f s7 q7=>?_);have again:∀ {σ7:St} {H7:Hp},Inv X (pins++dS [s1.heap.objs.size] s5.heap) σ7 H7 s7->N σ7 H7->∃ m,m<n/\∃ i σ' H',Inv X pins σ' H' s7/\s7.heap.IsKeyIter s1.heap.objs.size a i vs.length ep/\(∀ b∈[s1.heap.objs.size],H' b=none)/\W i m σ' H':=fun {σ7 H7} I7 n7=>by
   obtain ⟨m',hm,w7⟩:=hN σ7 H7 n7;refine ⟨m',hm,i+1,σ7,H7,I7.unpinned,T.keep _ _ _ cT fun b hb o e=>(I7.pin (b,o) (O5 _ (O5 _ (dU hb e)))).1,fun b hb=>?_,w7⟩;obtain ⟨o,e,d⟩:=T.obj _ _ cT b hb;exact (I7.pin (b,o) (O5 _ (O5 _ (dU hb e)))).2.1
  cases f with
  | next=>obtain ⟨σ7,H7,I7,n7⟩:=q7;exact again I7 n7
  | cont=>obtain ⟨σ7,H7,I7,n7⟩:=q7;exact again I7 n7
  | brk=>obtain ⟨σ7,H7,I7,q7⟩:=q7;exact ⟨σ7,_,thaw I7.unpinned q7.1,q7.2⟩
  | ret v=>obtain ⟨x7,σ7,H7,I7,r7,q7⟩:=q7;exact ⟨x7,σ7,_,thaw I7.unpinned q7.1,r7,q7.2⟩
theorem pS{l:Expr}{body:List Stmt}{pos:Pos}(hp:PassesOwn (model X.prog X.w) X.A X.env X.xe)(hl:QE X l tl)(hg:QG X tg g)(hb:QSs X body tb)(hc:X.calm=true:=by rfl)(hs:∀ x,foldedSetIterable l X.env x=pure x:=by intro _;rfl):QS X (.For tg l body [] pos) (tForD tl g tb):=⟨amm hp hc hl.out hg.out hb.out hs⟩
theorem amn : tForD tl g tb D Y H=tl Y H fun x H1=>∃ a kvs,x=.ref a/\H1 a=some (.dK kvs)/\∀ o,ForIt (hJ a o kvs) g tb (D.thaw a kvs) Y (A0 H1 a (.frz o (.dK kvs))):=rfl
theorem forD(Pv:Nat->St->Hp->Prop)(h0:Pv 0 Y H)(hl:∀ i Y H,Pv i Y H->H a=some (.frz o (.dK kvs)))(hs:∀ i k v Y H,kvs[i]?=some (k,v)->Pv i Y H->g (kV k) Y H fun σ2 H2=>tb { D.thaw a kvs with nx:=Pv (i+1),ct:=Pv (i+1),bk:=(D.thaw a kvs).nx } σ2 H2)(hd:∀ Y H,Pv kvs.length Y H->D.nx Y (A0 H a (.dK kvs))):ForIt (hJ a o kvs) g tb (D.thaw a kvs) Y H:=by
 refine ⟨fun i m Y H=>m=kvs.length-i/\i<=kvs.length/\Pv i Y H,⟨kvs.length,by simp,J5 _,h0⟩,?_⟩;rintro i m Y H ⟨rfl,hi,p⟩;have e:=hl i Y H p
 by_cases D0:i<kvs.length
 .refine .inr ⟨⟨e,D0⟩,Pv (i+1),fun σ' H' p'=>⟨_,by lia,rfl,D0,p'⟩,fun v H' y=>?_⟩;obtain ⟨rfl,k,v',hk,rfl⟩:=y;exact hs i k v' Y _ hk p
 .have e2:i=kvs.length:=by lia
  subst e2;exact .inl ⟨⟨e,C4 _⟩,⟨o,e⟩,hd Y H p⟩
end L2
set_option maxRecDepth 100000
namespace L2
open PySem PySem.Spec PyProof.Rows
def R3(row:List Str):List (Str×Str):=row.zip row.tail
def edges(rows:List (List Str)):List (Str×Str):=rows.flatMap R3
def E3(E:List (Str×Str))(p:Str):List Str:=(E.filter fun e=>decide (e.1=p)).map (·.2)
def E6(E:List (Str×Str))(line:List Str)(q:Str):Nat:=E.countP fun e=>decide (e.2=q) && !decide (e.1∈line)
def cntIn(E:List (Str×Str))(S:List Str)(q:Str):Nat:=E.countP fun e=>decide (e.2=q)&&decide (e.1∈S)
theorem akl(E:List (Str×Str))(a b p:Str):E3 (E++[(a,b)]) p=if a=p then E3 E p++[b] else E3 E p:=by
 unfold E3;rw [gH,E4]
 by_cases h:a=p
 .rw [if_pos h,fY (by simpa using h)];rfl
 .rw [if_neg h,fZ (by simpa using h)];simp
theorem xE(E:List (Str×Str))(p q:Str):(E3 E p).count q=E.countP fun e=>decide (e.2=q)&&decide (e.1=p):=by
 induction E with
 | nil=>rfl
 | cons e E ih=>
  unfold E3 at ih ⊢
  by_cases h:e.1=p
  .rw [fY (by simpa using h),E8,List.count_cons,ih,aF]
   by_cases h2:e.2=q
   .simp [h,h2]
   .simp [h,h2]
  .rw [fZ (by simpa using h),ih,aF];simp [h]
theorem ahC{E:List (Str×Str)}{p:Str}(h:p∉S):cntIn E (S++[p]) q=cntIn E S q+(E3 E p).count q:=by
 rw [xE];unfold cntIn
 induction E with
 | nil=>rfl
 | cons e E ih=>
  rw [aF,aF,aF,ih]
  by_cases h2:e.2=q
  .by_cases h1:e.1=p
   .have:e.1∉S:=by rw [h1];exact h
    simp [h2,h1,h];lia
   .by_cases h3:e.1∈S
    .simp [h2,h1,h3];lia
    .simp [h2,h1,h3]
  .simp [h2]
theorem xF{E:List (Str×Str)}{p:Str}(h:p∉line):E6 E line q=E6 E (line++[p]) q+(E3 E p).count q:=by
 rw [xE];unfold E6
 induction E with
 | nil=>rfl
 | cons e E ih=>
  rw [aF,aF,aF,ih]
  by_cases h2:e.2=q
  .by_cases h1:e.1=p
   .simp [h2,h1,h];lia
   .by_cases h3:e.1∈line
    .simp [h2,h1,h3]
    .simp [h2,h1,h3];lia
  .simp [h2]
theorem aiN{E:List (Str×Str)}(h:∀ e∈E,e.1∈S)(q:Str):cntIn E S q=E6 E [] q:=by
 unfold cntIn E6;refine List.countP_congr fun e he=>?_
 simp [h e he]
theorem aiO(E:List (Str×Str))(q:Str):cntIn E [] q=0:=by
 unfold cntIn
 simp
theorem cnt_zero{E:List (Str×Str)} : E6 E line q=0↔∀ e∈E,e.2=q->e.1∈line:=by
 unfold E6;rw [List.countP_eq_zero]
 constructor
 .intro h e he h2
  have:=h e he
  simpa [h2] using this
 .intro h e he
  by_cases h2:e.2=q
  .simp [h2,h e he h2]
  .simp [h2]
def nextP(E:List (Str×Str))(ts pre:List Str):Option Str:=(ts.filter fun p=>!decide (p∈pre)).find? fun p=>decide (E6 E pre p=0)
def Q7(E:List (Str×Str))(ts line:List Str):Prop:=∀ pre q post,line=pre++q::post->nextP E ts pre=some q
theorem Q7.nil(E:List (Str×Str))(ts:List Str):Q7 E ts []:=fun pre q post h=>by
 have:=congrArg f8 h
 simp at this
theorem Q7.snoc{E:List (Str×Str)}{p:Str}(r:Q7 E ts line)(h:nextP E ts line=some p):Q7 E ts (line++[p]):=fun pre q post e=>by
 rcases List.append_eq_append_iff.mp e with ⟨m,h1,h2⟩ | ⟨m,h1,h2⟩
 .cases m with
  | nil=>
   rw [L3] at h1;rw [f6] at h2
   cases (List.cons.inj h2).1
   rw [h1];exact h
  | cons a m=>
   have:=congrArg f8 h2
   simp at this
 .cases m with
  | nil=>
   rw [L3] at h1;rw [f6] at h2
   cases (List.cons.inj h2).1
   rw [<- h1];exact h
  | cons a m=>
   rw [W3] at h2;have h3:=(List.cons.inj h2).1;exact r pre q m (by rw [h1,h3])
theorem eN{E:List (Str×Str)}{pre:List Str}(h:nextP E ts pre=some q):q∈ts/\q∉pre/\E6 E pre q=0:=by
 have h1:=List.mem_of_find?_eq_some h;have h2:=List.find?_some h;rw [U7] at h1;exact ⟨h1.1,by simpa using h1.2,by simpa using h2⟩
theorem Q7.nodup{E:List (Str×Str)} : ∀ {line:List Str},Q7 E ts line->line.Nodup:=by
 intro line r;rw [o8,aA];intro i j hi hj hij e;have e1:line=line.take j++line[j]::line.drop (j+1):=by rw [<- dL hj,o9]
 have:=(eN (r _ _ _ e1)).2.1
 exact this (Y9.mpr ⟨i,by rw [M5];lia,by rw [List.getElem_take];exact e⟩)
theorem Q7.sub{E:List (Str×Str)}(r:Q7 E ts line)(h:q∈line):q∈ts:=by
 obtain ⟨pre,post,e⟩:=List.append_of_mem h;exact (eN (r pre q post e)).1
theorem akm{E:List (Str×Str)}{rank:Str->Nat}(hr:∀ e∈E,rank e.1<rank e.2)(hE:∀ e∈E,e.1∈ts)(hw:∃ p∈ts,p∉line):∃ q,nextP E ts line=some q:=by
 have key:∀ n p,rank p<=n->p∈ts->p∉line->∃ q∈ts,q∉line/\E6 E line q=0:=by
  intro n
  induction n with
  | zero=>
   intro p hp ht hl;refine ⟨p,ht,hl,cnt_zero.mpr fun e he h2=>?_⟩
   have:=hr e he
   rw [h2] at this;lia
  | succ n ih=>
   intro p hp ht hl
   by_cases hc:E6 E line p=0
   .exact ⟨p,ht,hl,hc⟩
   .have:∃ e∈E,e.2=p/\e.1∉line:=by
     refine Classical.byContradiction fun hn=>hc (cnt_zero.mpr fun e he h2=>Classical.byContradiction fun h3=>hn ⟨e,he,h2,h3⟩)
    obtain ⟨e,he,h2,h3⟩:=this;have h4:=hr e he;rw [h2] at h4;exact ih e.1 (by lia) (hE e he) h3
 obtain ⟨p,hp,hl⟩:=hw;obtain ⟨q,h1,h2,h3⟩:=key (rank p) p (C4 _) hp hl;cases h:nextP E ts line with
 | some q=>exact ⟨q,rfl⟩
 | none=>
  have:=List.find?_eq_none.mp h q (U7.mpr ⟨h1,by simpa using h2⟩)
  simp [h3] at this
theorem lU{E:List (Str×Str)}(nd:ts.Nodup)(r:Q7 E ts line)(h:∀ p∈ts,p∈line):line.length=ts.length:=
 ((List.perm_ext_iff_of_nodup r.nodup nd).mpr fun a=>⟨r.sub,h a⟩).length_eq
theorem xG(E:List (Str×Str))(pre:List Str):∀ ts:List Str,nextP E ts pre=ts.find? fun p=>!decide (p∈pre)&&decide (∀ e∈E,e.2=p->e.1∈pre)
 | []=>rfl
 | t::ts=>by
  have ih:=xG E pre ts;unfold nextP at ih ⊢
  by_cases h:t∈pre
  .rw [fZ (by simpa using h),k5,ih];simp [h]
  .rw [fY (by simpa using h),k5,k5,ih]
   by_cases h2:E6 E pre t=0
   .have:=cnt_zero.mp h2
    rw [decide_eq_true h2,decide_eq_true this];simp [h]
   .have:¬ ∀ e∈E,e.2=t->e.1∈pre:=fun z=>h2 (cnt_zero.mpr z)
    rw [decide_eq_false h2,decide_eq_false this];simp [h]
theorem ahD{row:List Str}{e:Str×Str}(h:e∈R3 row):e.1∈row/\e.2∈row:=by
 unfold R3 at h;exact ⟨(List.of_mem_zip h).1,List.mem_of_mem_tail (List.of_mem_zip h).2⟩
theorem xH{rows:List (List Str)}{e:Str×Str}(h:e∈edges rows):e.1∈rows.flatten/\e.2∈rows.flatten:=by
 unfold edges at h;obtain ⟨row,h1,h2⟩:=p6.mp h
 have:=ahD h2
 exact ⟨List.mem_flatten.mpr ⟨row,h1,this.1⟩,List.mem_flatten.mpr ⟨row,h1,this.2⟩⟩
def C2(ts:List Str)(f:Str->V):List (B1×V):=ts.map fun t=>(Sum.inr t,f t)
theorem pT(f:Str->V)(z:Str):∀ ts:List Str,((C2 ts f).any fun kv=>decide (kv.1=(Sum.inr z:B1)))=decide (z∈ts)
 | []=>by simp [C2]
 | y::ts=>by
  have ih:=pT f z ts;unfold C2 at ih ⊢
  rw [E8,Z0,ih]
  by_cases e:y=z
  .subst e
   simp
  .have e1:decide ((Sum.inr y:B1)=Sum.inr z)=false:=decide_eq_false fun q=>e (Sum.inr.inj q)
   rw [e1,Bool.false_or]
   by_cases h:z∈ts
   .rw [decide_eq_true h,decide_eq_true (N7 _ h)]
   .rw [decide_eq_false h,decide_eq_false];intro q
    rcases E7.mp q with q | q
    .exact e q.symm
    .exact h q
theorem O8(f:Str->V)(z:Str):∀ ts:List Str,valV (C2 ts f) (Sum.inr z)=if z∈ts then some (f z) else none
 | []=>rfl
 | y::ts=>by
  have ih:=O8 f z ts;unfold C2 at ih ⊢
  rw [E8]
  by_cases e:y=z
  .subst e;rw [Z5 rfl,if_pos N8]
  .rw [R9 (fun q=>e (Sum.inr.inj q)),ih]
   by_cases h:z∈ts
   .rw [if_pos h,if_pos (N7 _ h)]
   .rw [if_neg h,if_neg];intro q
    rcases E7.mp q with q | q
    .exact e q.symm
    .exact h q
theorem lV{f:Str->V}(v:V)(h:z∈ts):putK (C2 ts f) (Sum.inr z:B1) v=C2 ts fun t=>if t=z then v else f t:=by
 unfold putK;rw [pT,decide_eq_true h,if_pos rfl];unfold C2;rw [q0];refine gE fun y _=>?_
 show (if (Sum.inr y:B1)=Sum.inr z then ((Sum.inr y:B1),v) else (Sum.inr y,f y))=((Sum.inr y:B1),if y=z then v else f y)
 by_cases e:y=z
 .rw [if_pos (by rw [e]),if_pos e]
 .rw [if_neg (fun q=>e (Sum.inr.inj q)),if_neg e]
theorem cI{f:Str->V}(v:V)(h:z∉ts):putK (C2 ts f) (Sum.inr z:B1) v=C2 (ts++[z]) fun t=>if t=z then v else f t:=by
 unfold putK;rw [pT,decide_eq_false h,if_neg K3];unfold C2;rw [E4]
 congr 1
 .refine gE fun y hy=>?_
  show _=((Sum.inr y:B1),if y=z then v else f y);rw [if_neg (fun e:y=z=>h (by rw [<- e];exact hy))]
 .simp
theorem U1{f g:Str->V}(h:∀ t∈ts,f t=g t):C2 ts f=C2 ts g:=by
 unfold C2;exact gE fun t ht=>by rw [h t ht]
theorem i3(f:Str->V)(ts:List Str):(C2 ts f).length=ts.length:=by unfold C2;rw [A8]
theorem xI{f:Str->V}{k:B1}{v:V}(h:(C2 ts f)[i]?=some (k,v)):∃ t,ts[i]?=some t/\k=Sum.inr t/\v=f t:=by
 unfold C2 at h;obtain ⟨t,h1,h2⟩:=K0 h;cases h2;exact ⟨t,h1,rfl,rfl⟩
theorem akn(f:Str->V)(ts:List Str):((C2 ts f).map fun kv=>kV kv.1)=ts.map V.str:=by
 unfold C2;rw [q0];rfl
structure DL(H0 H:Hp)(ts:List Str)(ad:Str->Addr)(F:Str->List Str):Prop where
 row:∀ t∈ts,H (ad t)=some (.lst ((F t).map V.str))
 inj:∀ t∈ts,∀ u∈ts,ad t=ad u->t=u
 new:∀ t∈ts,H0 (ad t)=none
theorem DL.same{ad:Str->Addr}{F:Str->List Str}(x:DL H0 H ts ad F)(s:Same H H'):DL H0 H' ts ad F:=⟨fun t h=>s _ _ (x.row t h),x.inj,x.new⟩
theorem DL.app{ad:Str->Addr}{F:Str->List Str}(x:DL H0 H ts ad F)(hz:z∈ts)(ys:List Str):DL H0 (A0 H (ad z) (.lst (ys.map V.str))) ts ad fun t=>if t=z then ys else F t:=by
 refine ⟨fun t ht=>?_,x.inj,x.new⟩;show _=some (HO.lst ((if t=z then ys else F t).map V.str))
 by_cases e:t=z
 .subst e;rw [A4,if_pos rfl]
 .rw [B3 (fun q=>e (x.inj t ht z hz q)),if_neg e];exact x.row t ht
theorem DL.more{ad:Str->Addr}{F:Str->List Str}(x:DL H0 H ts ad F)(hz:z∉ts)(np:H p=none)(n0:H0 p=none):DL H0 (A0 H p (.lst [])) (ts++[z]) (fun t=>if t=z then p else ad t) fun t=>if t=z then [] else F t:=by
 have ne:∀ t∈ts,t≠z:=fun t ht e=>hz (by rw [<- e];exact ht)
 have nad:∀ t∈ts,ad t≠p:=fun t ht e=>by have:=x.row t ht;rw [e,np] at this;cases this
 have cases':∀ t,t∈ts++[z]->(t∈ts/\t≠z)\/t=z:=fun t ht=>by
  rcases K5.mp ht with h | h
  .exact .inl ⟨h,ne t h⟩
  .exact .inr (M4.mp h)
 refine ⟨fun t ht=>?_,fun t ht u hu e=>?_,fun t ht=>?_⟩
 .show A0 H p (.lst []) (if t=z then p else ad t)=some (.lst ((if t=z then [] else F t).map V.str))
  rcases cases' t ht with ⟨h1,h2⟩ | rfl
  .rw [if_neg h2,if_neg h2,B3 (nad t h1)];exact x.row t h1
  .rw [if_pos rfl,if_pos rfl,A4];rfl
 .have e:(if t=z then p else ad t)=(if u=z then p else ad u):=e
  rcases cases' t ht with ⟨h1,h2⟩ | rfl <;> rcases cases' u hu with ⟨h3,h4⟩ | rfl
  .rw [if_neg h2,if_neg h4] at e;exact x.inj t h1 u h3 e
  .rw [if_neg h2,if_pos rfl] at e;exact absurd e (nad t h1)
  .rw [if_pos rfl,if_neg h4] at e;exact absurd e.symm (nad u h3)
  .rfl
 .show H0 (if t=z then p else ad t)=none
  rcases cases' t ht with ⟨h1,h2⟩ | rfl
  .rw [if_neg h2];exact x.new t h1
  .rw [if_pos rfl];exact n0
theorem ako(h:acc.Nodup)(z:Str):(dd acc z).Nodup:=by
 unfold dd
 split
 .exact h
 .rename_i hz
  rw [aD];refine ⟨h,by simp,fun a ha b hb e=>hz ?_⟩;rw [<- M4.mp hb,<- e];exact ha
theorem pU:∀ {zs acc:List Str},acc.Nodup->(F6 acc zs).Nodup
 | [],_,h=>h
 | z::zs,acc,h=>pU (zs:=zs) (ako h z)
theorem eO(zss:List (List Str)):(toldL zss).Nodup:=by
 unfold toldL;rw [lL];exact pU (by simp)
theorem m3(x:Str):∀ (zs acc:List Str),x∈F6 acc zs↔x∈acc\/x∈zs
 | [],acc=>by simp [F6]
 | z::zs,acc=>by
  show x∈F6 (dd acc z) zs↔_;rw [m3 x zs];unfold dd
  by_cases h:z∈acc
  .rw [if_pos h,E7]
   constructor
   .rintro (h1 | h1)
    .exact .inl h1
    .exact .inr (.inr h1)
   .rintro (h1 | rfl | h1)
    .exact .inl h1
    .exact .inl h
    .exact .inr h1
  .rw [if_neg h,K5,M4,E7,or_assoc]
theorem pV(x:Str)(zss:List (List Str)):x∈toldL zss↔x∈zss.flatten:=by
 unfold toldL;rw [lL,m3]
 simp
theorem ahE{zss:List (List Str)}{e:Str×Str}(h:e∈edges zss):e.1∈toldL zss/\e.2∈toldL zss:=⟨(pV _ _).mpr (xH h).1,(pV _ _).mpr (xH h).2⟩
theorem ahF{zss:List (List Str)}(h:zss[i]?=some zs):edges (zss.take (i+1))=edges (zss.take i)++R3 zs:=by
 rw [b9,h];unfold edges;rw [V0]
 simp
theorem pW(zs:List Str):(R3 zs).length=min zs.length zs.tail.length:=by unfold R3;rw [List.length_zip]
theorem xJ{x:Str}(h1:zs[j]?=some x)(h2:zs.tail[j]?=some y):(R3 zs)[j]?=some (x,y):=by
 unfold R3;rw [List.getElem?_zip_eq_some];exact ⟨h1,h2⟩
theorem xK(zss:List (List Str)):(edges zss).length<=zss.flatten.length:=by
 induction zss with
 | nil=>exact C4 _
 | cons zs zss ih=>
  unfold edges at ih ⊢
  rw [V1,D4,dN,D4,pW];lia
theorem DL.put{ad:Str->Addr}{F:Str->List Str}(x:DL H0 H ts ad F){o u:HO}(hb:H0 b=some u):DL H0 (A0 H b o) ts ad F:=
 ⟨fun t ht=>by rw [B3 (fun e=>by have:=x.new t ht;rw [e,hb] at this;cases this)];exact x.row t ht,x.inj,x.new⟩
theorem DL.congr{ad:Str->Addr}{F G:Str->List Str}(x:DL H0 H ts ad F)(h:∀ t∈ts,F t=G t):DL H0 H ts ad G:=⟨fun t ht=>by rw [<- h t ht];exact x.row t ht,x.inj,x.new⟩
theorem DL.old{H00:Hp}{ad:Str->Addr}{F:Str->List Str}(x:DL H0 H ts ad F)(s:Same H00 H0):DL H00 H ts ad F:=⟨x.row,x.inj,fun t ht=>s.free (x.new t ht)⟩
theorem pX(nd:ts.Nodup)(h:ts[i]?=some z):z∉ts.take i:=fun hm=>by
 obtain ⟨hi,e⟩:=J8.mp h;obtain ⟨j,hj,e2⟩:=Y9.mp hm;rw [M5] at hj;rw [List.getElem_take] at e2
 have:=(o8.mp nd)
 rw [aA] at this;exact this j i (by lia) hi (by lia) (e2.trans e.symm)
theorem M7{α:Type}{ts:List α}{z:α}(h:ts[i]?=some z):ts.take (i+1)=ts.take i++[z]:=by rw [b9,h];rfl
def SameBut(d:Addr)(H H':Hp):Prop:=∀ b o,b≠d->H b=some o->H' b=some o
theorem SameBut.put{d q:Addr}{u:HO}(s:SameBut d H0 H)(n:H0 q=none):SameBut d H0 (A0 H q u):=fun b o hb h=>by rw [B3 (t7 h n)];exact s b o hb h
theorem SameBut.thaw{d:Addr}{u:HO}(s:SameBut d H0 H)(h:H0 d=some u):Same H0 (A0 H d u):=fun b o hb=>by
 by_cases e:b=d
 .subst e;rw [A4,<- hb,h]
 .rw [B3 e];exact s b o e hb
theorem RowsAt.grow{q:Addr}{zss:List (List Str)}(R:RowsAt H0 H a rs zss)(S:Same H H')(hq:H q=none)(cU:H' q=some (.lst (zs.map V.str))):RowsAt H0 (A0 H' a (.lst (rs.map V.ref++[V.ref q]))) a (rs++[q]) (zss++[zs]):=by
 have nq:∀ r∈a::rs,r≠q:=fun r hr z=>by
  obtain ⟨o,e⟩:=R.live hr;rw [z,hq] at e;cases e
 obtain ⟨na,_⟩:=R5.mp R.nd;refine ⟨⟨by rw [A4,E4];rfl,?_⟩,?_,?_,?_⟩
 .refine Paired.snoc (lN R.rows.row fun r hr zs h=>?_) ?_
  .rw [B3 (fun z:r=a=>na (by rw [<- z];exact hr))];exact S _ _ h
  .rw [B3 (nq a N8).symm];exact cU
 .show (a::(rs++[q])).Nodup;exact pD R.nd fun h=>nq q h rfl
 .intro r hr
  rcases E7.mp hr with h | h
  .exact R.new r (by rw [h];exact N8)
  .rcases K5.mp h with h | h
   .exact R.new r (N7 _ h)
   .rw [M4.mp h];exact R.same.free hq
 .exact (R.same.trans S).put (R.new a N8)
def spFol:Sp:=fun vs H Q _=>∃ (a:Addr) (rs:List Addr) (zss:List (List Str)),vs=[.ref a]/\IsRows H a rs zss/\zss.flatten.length<=100000/\
 ∀ (d:Addr) (ad:Str->Addr) (H':Hp),H d=none->Same H H'->H' d=some (.dK (C2 (toldL zss) fun t=>.ref (ad t)))->DL H H' (toldL zss) ad (E3 (edges zss))->Q (.ref d) H'
def xL:Sp:=fun vs H Q _=>∃ (d:Addr) (ts:List Str) (ad:Str->Addr) (E:List (Str×Str)),vs=[.ref d]/\H d=some (.dK (C2 ts fun t=>.ref (ad t)))/\ts.Nodup/\ts.length<=100000/\E.length<=100000/\
 (∀ t∈ts,H (ad t)=some (.lst ((E3 E t).map V.str)))/\(∀ e∈E,e.1∈ts/\e.2∈ts)/\∀ c H',H c=none->Same H H'->H' c=some (.dK (C2 ts fun t=>.int (E6 E [] t:Nat)))->Q (.ref c) H'
theorem xM:∀ {l m:List Str},l.Nodup->(∀ x∈l,x∈m)->l.length<=m.length
 | [],_,_,_=>J5 _
 | x::l,m,nd,h=>by
  obtain ⟨n1,n2⟩:=R5.mp nd;have hx:=h x N8
  have:=xM (l:=l) (m:=m.erase x) n2 fun y hy=>(List.mem_erase_of_ne (fun e=>n1 (by rw [<- e];exact hy))).mpr (h y (N7 _ hy))
  rw [List.length_erase_of_mem hx] at this;have dD:=List.length_pos_of_mem hx;rw [J7];lia
def xN:Sp:=fun vs H Q _=>∃ (a:Addr) (rs:List Addr) (zss:List (List Str)) (rank:Str->Nat),vs=[.ref a]/\IsRows H a rs zss/\zss.flatten.length<=100000/\(∀ e∈edges zss,rank e.1<rank e.2)/\
 ∀ (l:Addr) (line:List Str) (H':Hp),H l=none->Same H H'->H' l=some (.lst (line.map V.str))->Q7 (edges zss) (toldL zss) line->(∀ p∈toldL zss,p∈line)->Q (.ref l) H'
theorem SameBut.free{d:Addr}(s:SameBut d H0 H)(n:H p=none)(h:p≠d):H0 p=none:=by
 cases e:H0 p with
 | none=>rfl
 | some o=>
  have:=s p o h e
  rw [n] at this;cases this
theorem SameBut.same{d:Addr}(s:SameBut d H1 H2)(S:Same H H1)(n:H d=none):Same H H2:=fun b o h=>s b o (t7 h n) (S b o h)
theorem xO(d:Addr)(H:Hp):SameBut d H H:=fun _ _ _ h=>h
theorem SameBut.at{d:Addr}{o:HO}(s:SameBut d H H'):SameBut d H (A0 H' d o):=fun b u hb h=>by rw [B3 hb];exact s b u hb h
def one(c:Nat):Str:=⟨#[c]⟩
def V8(c d:Nat):Str:=⟨#[c,d]⟩
def Q0(i:Int):Nat:=(F8 SG i).getD 33
theorem SG_nd:SG.Nodup:=by decide +kernel
theorem hW{i:Int}(h0:0<=i)(h1:i<93):F8 SS.cps.toList i=some (Q0 i)/\signB (Q0 i)=true:=by
 obtain ⟨c,h2,h3⟩:=SS_at h0 h1;unfold Q0;rw [SS_eq] at h2 ⊢
 rw [h2];exact ⟨rfl,h3⟩
theorem lW{i j:Int}(h0:0<=i)(h1:i<93)(h2:0<=j)(h3:j<93)(h:Q0 i=Q0 j):i=j:=by
 have ei:((i.toNat:Nat):Int)=i:=by lia
 have ej:((j.toNat:Nat):Int)=j:=by lia
 have li:i.toNat<SG.length:=by rw [pI];lia
 have lj:j.toNat<SG.length:=by rw [pI];lia
 have a1:F8 SG i=some SG[i.toNat]:=by
  have:=O3 (xs:=SG) (j:=i.toNat) (v:=SG[i.toNat]) (by simp)
  rw [ei] at this;exact this
 have a2:F8 SG j=some SG[j.toNat]:=by
  have:=O3 (xs:=SG) (j:=j.toNat) (v:=SG[j.toNat]) (by simp)
  rw [ej] at this;exact this
 unfold Q0 at h;rw [a1,a2] at h
 have:=(o8.mp SG_nd)
 rw [aA] at this
 rcases gJ i.toNat j.toNat with z | z | z
 .exact absurd h (this _ _ li lj z)
 .lia
 .exact absurd h.symm (this _ _ lj li z)
end L2
set_option maxRecDepth 100000
namespace L2
open PySem PySem.Spec PyProof.Rows
section
variable {X:Cx}
def rAnyB(calm:Bool):List V->Hp->VK->Prop
 | [.ref p],H,Q=>∃ bs:List Bool,calm=true/\H p=some (.lst (bs.map V.bl))/\Q (.bl (bs.any id)) H
 | _,_,_=>False
theorem p_any:CallR X (.builtin "any") (rAnyB X.calm):=by
 intro pins s Y H xs us Q I r h
 match xs,h with
 | [.ref p],⟨bs,hc,hp,q⟩=>
  obtain ⟨u,rfl,rx⟩:=vals1 r
  cases rx
  obtain ⟨z,its,n,rv,hl,e⟩:=I.lstM hp;have pl:s.heap.IsList p its.toArray:=⟨_,e,rfl,n,rfl⟩
  refine call_any_walk (wpAny_pyIter_list pl ?_);have N0:p≠s.heap.objs.size:=M8 (Heap.lt_size e);have hk:∀ b o,s.heap.get? b=some o->(s.heap.push { cls:=.type "list_iterator",data:=.fields #[.ref p,.int 0 0] }).get? b=some o:=fun b o q=>Heap.get?_push_of_some _ q
  refine ⟨_,_,_,_,_,_,fun i=>(bs[i]?).getD false,rfl,Walks.list (show X.A.in1.handled=none from I.ok.hd hc) s.heap.objs.size p N0 its.toArray,⟨⟨_,Heap.get?_push_size _ rfl,rfl,rfl⟩,pl.at fun o q=>hk p o q⟩,?_,?_⟩
  .intro i v s' Q' E' hv hq;have nC:its[i]?=some v:=by simpa using hv
   have hb:∃ b,bs[i]?=some b/\v=.bool b:=by
    cases eb:(bs.map V.bl)[i]? with
    | none=>
     have:=rv.none_of eb
     rw [nC] at this
     cases this
    | some y=>
     obtain ⟨u,h1,h2⟩:=rv.get eb;rw [nC] at h1;cases h1;rw [c9] at eb;cases e3:bs[i]? with
     | none=>rw [e3] at eb;cases eb
     | some b=>
      rw [e3] at eb;cases eb;exact ⟨b,rfl,h2⟩
   obtain ⟨b,e1,rfl⟩:=hb;have hq:Q' ((bs[i]?).getD false) s':=hq;rw [e1] at hq;exact wpAny_truthy_bool hq
  .intro h' tk jV;have e1:(List.range its.toArray.size).any (fun i=>(bs[i]?).getD false)=bs.any id:=by
    have A9:its.toArray.size=bs.length:=by
     rw [J9,<- hl,A8]
    rw [A9,Bool.eq_iff_iff,List.any_eq_true,List.any_eq_true]
    constructor
    .rintro ⟨i,hi,hb⟩;rw [List.mem_range] at hi;rw [N1 hi,Option.getD_some] at hb;exact ⟨bs[i],List.getElem_mem hi,hb⟩
    .rintro ⟨b,hb,ht⟩;obtain ⟨i,hi,rfl⟩:=Y9.mp hb;exact ⟨i,List.mem_range.mpr hi,by rw [N1 hi];exact ht⟩
   rw [e1];have I1:Inv X pins Y H { s with heap:=h',toks:=tk }:=I.kept fun b o q=>jV b o (by
    intro hm
    have:b=s.heap.objs.size:=by simpa using hm
    rw [this] at q;exact absurd (Heap.lt_size q) (k6 _)) (hk b o q)
   exact ⟨.bl _,H,I1,rfl,q⟩
theorem q_any(jN:X.calm=calm:=by rfl):QCall X (.builtin "any") (rAnyB calm):=by subst jN;exact ⟨p_any⟩
theorem any_r{cm:Bool} : rAnyB cm [.ref p] H Q=∃ bs:List Bool,cm=true/\H p=some (.lst (bs.map V.bl))/\Q (.bl (bs.any id)) H:=rfl
end
def hX(l : Addr) : It :=
  ⟨fun i H => ∃ xs x, H l = some (.lst xs) /\ xs[i]? = some x,
   fun i H v H' => ∃ t xs x, H l = some (.lst xs) /\ xs[i]? = some x /\ H t = none /\ v = .ref t /\ H' = A0 H t (.tup [.int i, x]),
   fun i H => ∃ xs, H l = some (.lst xs) /\ xs.length <= i⟩
theorem aiR{P:Program}{w:World}{pos:Pos}(e it l:Addr)(N0:e≠it) :
  Turn P w K (.Tuple elts x1 pos) (hX l) [e,it] e (fun i h=>(∃ old,IsEnum h e it ((i:Nat):Int) old)/\h.IsListIter it l i) where
 mem:=by simp
 obj:=fun i h ⟨⟨old,he⟩,hi⟩ c hc=>by
  have q:c=e\/c=it:=by simpa using hc
  rcases q with rfl | rfl
  .exact ⟨_,he,fun v q=>by cases q⟩
  .obtain ⟨o,e,c,d⟩:=hi;exact ⟨o,e,fun v z=>by rw [d] at z;cases z⟩
 keep:=fun i h h' ⟨⟨old,he⟩,hi⟩ k=>⟨⟨old,k e (by simp) _ he⟩,hi.at fun o q=>k it (by simp) o q⟩
 item:=by
  intro X hP hw hK hc i pins s Y H E I hf ⟨⟨old,he⟩,hi⟩ hg;subst hP hw hK;obtain ⟨xs,x,e1,hx⟩:=hg;obtain ⟨its1,X6,p1,_⟩:=I.list (C9.of (K:=X.K) e1);obtain ⟨u1,C5,r1⟩:=X6.get hx;refine wpAny_pyNext_enum_item he hi p1.isList (x:=u1) (by simpa using C5) N0 fun h' b1 b2 b3 b4 b5=>⟨_,rfl,wpAny_letOwnedTupleGo_enum b1 fun h2' c1 c2=>?_⟩
  have bI:e<s.heap.objs.size:=Heap.lt_size he;have up:∀ c o,c≠e->h'.get? c=some o->h2'.get? c=some o:=fun c o hc q=>(c2.2 c hc).trans q
  have hT:=up _ _ (Nat.ne_of_gt bI) b3;have nT:∀ c∈[e,it],c≠s.heap.objs.size:=fun c hc=>by
   have q:c=e\/c=it:=by simpa using hc
   refine M8 ?_
   rcases q with rfl | rfl
   .exact bI
   .obtain ⟨o,q,_⟩:=hi;exact Heap.lt_size q
  refine ⟨.ref s.heap.objs.size,A0 H s.heap.objs.size (.tup [.int i,x]),I.turnNew (t':=s.toks+1) (ch:=[e,it]) hf (fun c u hc q=>?_) (C4 _) ⟨by show 2<=sizeLine;decide,[.int i s.toks,u1],.cons ⟨_,rfl⟩ (.cons r1 .nil),?_⟩,rfl,⟨_,xs,x,e1,hx,I.fresh,rfl,rfl⟩,
   ⟨⟨_,c1⟩,b2.at fun o q=>up _ o N0.symm q⟩,fun c hc=>by rw [B3 (nT c hc)];exact (hf c hc).1⟩
  .have q1:c≠e/\c≠it:=⟨fun q=>hc (by simp [q]),fun q=>hc (by simp [q])⟩
   exact up c u q1.1 (b5 c u q1.1 q1.2 q)
  .exact ⟨_,hT,rfl,_,rfl⟩
 done:=by
  intro X hP hw hK hc i pins s Y H E I hf ⟨⟨old,he⟩,hi⟩ hg;subst hP hw hK;obtain ⟨xs,e1,cZ⟩:=hg;obtain ⟨its1,X6,p1,_⟩:=I.list (C9.of (K:=X.K) e1);have q1:=X6.length;obtain ⟨f0,f1,f2,f3,f4,f5⟩:=hf it (by simp);exact wpAny_pyNext_enum_end (I.ok.hd hc) he hi p1.isList (by simp;lia) fun h' eb=>⟨rfl,I.turned (t':=s.toks) (fun b o hb q=>eb b o hb q) f0 f1 f3 f4 f5⟩
 self:=fun _ _ _ _ _ st h=>by
  obtain ⟨⟨old,he⟩,_⟩:=st;exact wpAny_pyIter_enum he h
section
variable {X:Cx}
def iEnum(ta:TA):TI:=fun Y H R=>ta Y H fun vs H1=>∃ (l:Addr) (xs:List V),vs=[.ref l]/\H1 l=some (.lst xs)/\R (hX l) H1
theorem amo{a:Expr}{p pos:Pos}(hg:Gl X "enumerate")(hm:X.mg "enumerate"=none)(ha:PA X [a] ta)(h1:M0 a=false:=by rfl) :
  PI X (.Tuple elts x1 tpos) (.Call (.Name "enumerate" p) [a] [] pos) (iEnum ta):=by
 intro pins s Y H R I h;refine Call_ (gO I hg hm boot_enumerate (PyProof.Rows.callWith_type1 (B5 (ha pos pins s Y H _ I h) fun us s1 ⟨vs,H1,I1,r1,q1⟩=>?_) (N9 h1) rfl));obtain ⟨l,xs,rfl,e1,q⟩:=q1;obtain ⟨u1,rfl,jS⟩:=vals1 r1
 cases jS
 obtain ⟨its1,X6,p1,_⟩:=I1.list (C9.of (K:=X.K) e1);refine call_enumerate_list p1.isList fun h' z1 z2 z3 z4=>wpAny_pyIter_enum z1 ?_
 refine ⟨s1.heap.objs.size+1,[s1.heap.objs.size+1,s1.heap.objs.size],_,_,H1,rfl,I1.kept (t':=s1.toks) z4,aiR _ s1.heap.objs.size l (Z7 (by lia)),⟨⟨_,z1⟩,z2⟩,fun b hb=>?_,q⟩;have W0:s1.heap.objs.size<=b:=by
  have e:b=s1.heap.objs.size+1\/b=s1.heap.objs.size:=by simpa using hb
  rcases e with rfl | rfl
  .exact aI _ _
  .exact C4 _
 exact I1.fpOk W0 (I1.hok.fresh W0)
theorem pY{a:Expr}{p pos:Pos}(hm:X.mg "enumerate"=none)(ha:QA X [a] ta)(hg:Gl X "enumerate":=by rfl)(h1:M0 a=false:=by rfl) :
  QI X (.Tuple elts x1 tpos) (.Call (.Name "enumerate" p) [a] [] pos) (iEnum ta):=⟨amo hg hm ha.out h1⟩
end
theorem akp{R:It->Hp->Prop} : iEnum ta Y H R=ta Y H fun vs H1=>∃ (l:Addr) (xs:List V),vs=[.ref l]/\H1 l=some (.lst xs)/\R (hX l) H1:=rfl
theorem forE{l:Addr}(Pv:Nat->St->Hp->Prop)(h0:Pv 0 Y H)(hl:∀ i Y H,Pv i Y H->H l=some (.lst xs))(hs:∀ i x t Y H,xs[i]?=some x->Pv i Y H->H t=none->g (.ref t) Y (A0 H t (.tup [.int i,x])) fun σ2 H2=>tb { D with nx:=Pv (i+1),ct:=Pv (i+1),bk:=D.nx } σ2 H2)(hd:∀ Y H,Pv xs.length Y H->D.nx Y H):ForIt (hX l) g tb D Y H:=by
 refine ⟨fun i m Y H=>m=xs.length-i/\i<=xs.length/\Pv i Y H,⟨xs.length,by simp,J5 _,h0⟩,?_⟩;rintro i m Y H ⟨rfl,hi,p⟩;have e1:=hl i Y H p
 by_cases D0:i<xs.length
 .refine .inr ⟨⟨xs,xs[i],e1,by simp⟩,Pv (i+1),fun σ' H' p'=>⟨_,by lia,rfl,D0,p'⟩,fun v H' y=>?_⟩;obtain ⟨t,xs',x,f1,hx,ht,rfl,rfl⟩:=y;rw [e1] at f1;cases f1;exact hs i x t Y H hx p ht
 .have e:i=xs.length:=by lia
  subst e;exact .inl ⟨⟨xs,e1,by lia⟩,hd Y H p⟩
def MO(P:Program)(w:World)(K:PySem.W.Frag)(mg:Str->Option Value)(base:Heap)(k:Nat)(C:Addr)(m:Str)(ps:List Str)(sp:Sp):Prop:=
 ∃ f fd,FnOk P w K mg base E1 k f fd ps sp/\Cls K C/\Meth K C m f/\Binds K fd ps []
def KO(P:Program)(w:World)(K:PySem.W.Frag)(mg:Str->Option Value)(base:Heap)(k:Nat)(C:Addr)(x:Str)(ps:List Str)(sp:Sp):Prop:=
 ∃ f fd,FnOk P w K mg base E1 k f fd ps sp/\Mk K C f/\mg x=some (.ref C)/\Binds K fd ps []
section
variable {X:Cx} {k:Nat} {C:Addr} {ps:List Str} {sp:Sp} {x m:Str} {p pos apos:Pos} {e o:Expr} {es:List Expr} {ta:TE} {t:TA}
theorem amp(G:KO X.prog X.w X.K X.mg X.base k C x ps sp)(hr:Room (k+1) X.A)(ha:QA X (e::es) t)(hg:Gl X x:=by rfl)(h1:M0 e=false:=by rfl)(h2:U8 es=true:=by rfl)(P5:(x==("__debug__" : Str))=false:=by decide) :
  QE X (.Call (.Name x p) (e::es) [] pos) (tMake C sp [] E0 t):=by
 obtain ⟨f,fd,F,M,hm,hb⟩:=G;exact ⟨alu M F hr hg hm hb .nil pass0 ha.out P5 (N9 h1) (cE h2)⟩
theorem amq(ho:QE X o ta)(G:MO X.prog X.w X.K X.mg X.base k C m ps sp)(hr:Room k X.A)(ha:QA X (e::es) t)(h1:M0 e=false:=by rfl)(h2:U8 es=true:=by rfl){pl:Sem Bool}(ht:eval (.Call (.Attribute o m apos) (e::es) [] pos) X.env=(do
   let ov <- eval o X.env
   standAt apos.atName
   let (f,first) <- holding [ov] (getMethod ov m pl)
   callWith pos f first (backTo pos (starEach (e::es) X.env)) (backToKw pos (keywordEach [] X.env))):=by rfl) :
  QE X (.Call (.Attribute o m apos) (e::es) [] pos) (tMeth C m sp [] E0 ta t):=by
 obtain ⟨f,fd,F,c,hm,hb⟩:=G;exact ⟨alt ho.out c hm F hr hb .nil pass0 ha.out (N9 h1) (cE h2) ht⟩
theorem akq(ho:QE X o ta)(G:MO X.prog X.w X.K X.mg X.base k C m ps sp)(hr:Room k X.A){pl:Sem Bool}(ht:eval (.Call (.Attribute o m apos) [] [] pos) X.env=(do
   let ov <- eval o X.env
   standAt apos.atName
   let (f,first) <- holding [ov] (getMethod ov m pl)
   callWith pos f first (backTo pos (starEach [] X.env)) (backToKw pos (keywordEach [] X.env))):=by rfl) :
  QE X (.Call (.Attribute o m apos) [] [] pos) (tMeth C m sp [] E0 ta tNil):=by
 obtain ⟨f,fd,F,c,hm,hb⟩:=G;exact ⟨ajF ho.out c hm F hr hb .nil pass0 ht⟩
end
section
variable {C:Addr} {m f:Str} {sp:Sp} {K:PySem.W.Frag} {ta tv:TE} {t:TA} {Y:St} {H:Hp} {Q:VK} {D:Ends}
theorem amr:tMake C sp [] E0 t Y H Q=t Y H fun vs H1=>∀ x dx,H1 x=none->H1 dx=none->dx≠x->sp (.ref x::(vs++[])) (A0 (A0 H1 dx (.own x)) x (.ins C dx [])) (fun v H2=>v=.non/\Q (.ref x) H2) E0:=rfl
theorem ams:tMeth C m sp [] E0 ta t Y H Q=ta Y H fun x H1=>∃ a dx fs,x=.ref a/\H1 a=some (.ins C dx fs)/\fs.lookup m=none/\t Y H1 fun vs H2=>sp (x::(vs++[])) H2 Q E0:=rfl
theorem an3:tFld K ta f Y H Q=ta Y H fun x H1=>∃ a C dx fs v,x=.ref a/\H1 a=some (.ins C dx fs)/\Cls K C/\NoAttr K C f/\fs.lookup f=some v/\Q v H1:=rfl
theorem amt:sFld K ta tv f D Y H=tv Y H fun y H1=>ta Y H1 fun x H2=>∃ a C dx fs,x=.ref a/\H2 a=some (.ins C dx fs)/\Cls K C/\NoAttr K C f/\fs.length<1000/\D.nx Y (A0 H2 a (.ins C dx (putF f y fs))):=rfl
end
section
variable {X:Cx} {o e:Expr} {apos cpos:Pos} {td ty:TE}
theorem lX(hu:X.A.units+1<cLine)(ho:QE X o td)(he:QE X e ty)(h1:M0 e=false:=by rfl)(K1:attributeBase o "get" X.env (eval o X.env)=eval o X.env:=by rfl)(K2:(apos.endLine==cpos.line)=true:=by rfl):QE X (.Call (.Attribute o "get" apos) [e] [] cpos) (pB td ty):=
 ⟨ajP hu ho.out he.out ⟨K1,by rw [N9 h1];rfl,K2,by rw [N9 h1];rfl⟩⟩
theorem akr : pB td ty Y H Q=td Y H fun x H1=>∃ a,x=.ref a/\cD H1 a/\ty Y H1 fun y H2=>∃ o,DGet H2 a y o/\Q (o.getD .non) H2:=rfl
end
end L2
set_option maxRecDepth 100000
namespace L2
open PySem PySem.Spec PyProof.Rows
abbrev Rl:=Str×List Str
def tupR(z:Rl):HO:=.tup ((z.1::z.2).map V.str)
structure IsRules(H:Hp)(a:Addr)(rs:List Addr)(R:List Rl):Prop where
 top:H a=some (.lst (rs.map V.ref))
 row:Paired (fun r z=>H r=some (tupR z)) rs R
theorem IsRules.same{R:List Rl}(h:IsRules H a rs R)(s:Same H H'):IsRules H' a rs R:=⟨s _ _ h.top,R7 h.row fun _ _ e=>s _ _ e⟩
theorem IsRules.len{R:List Rl}(h:IsRules H a rs R):rs.length=R.length:=Paired.length h.row
def N5(z:Rl):List Str:=if z.1=("great" : Str) then z.2.drop 1 else if z.1=("as" : Str) then z.2.take 1 else if z.1=("row" : Str)\/z.1=("marks" : Str)\/z.1=("over" : Str) then z.2 else []
def jobD(w:Str):Str:=if w=("row" : Str) then "letter" else if w=("marks" : Str) then "mark" else w
def D1(R:List Rl):List (Str×Str):=R.flatMap fun z=>(N5 z).map fun p=>(p,jobD z.1)
def hasW(R:List Rl)(w:Str):Bool:=R.any fun z=>decide (z.1=w)
def figO(c:Nat):Bool:=decide (48<=c)&&decide (c<=57)
def iC:List Str:=["letter", "mark", "over"]
def NC(figs:Bool)(g:Str->Str)(PL:List (Str×Str)):Prop:=∀ i p j,PL[i]?=some (p,j)->j=g p/\(p∈(PL.take i).map (·.1)->j∈iC)/\(figs=true->∀ c∈p.cps.toList,figO c=false)/\p.length<=1000
def keysP(PL:List (Str×Str)):List Str:=F6 [] (PL.map (·.1))
theorem xP{R:List Rl}{z:Rl}(h:R[i]?=some z):D1 (R.take (i+1))=D1 (R.take i)++(N5 z).map fun p=>(p,jobD z.1):=by
 rw [b9,h];unfold D1;rw [V0]
 simp
theorem xQ(R:List Rl)(i:Nat):∃ more,D1 R=D1 (R.take i)++more:=⟨D1 (R.drop i),by
 unfold D1;rw [<- V0,o9]⟩
theorem ahG(PL:List (Str×Str))(p j:Str):keysP (PL++[(p,j)])=dd (keysP PL) p:=by
 unfold keysP F6;rw [E4,p0];rfl
theorem lY(x:Str)(PL:List (Str×Str)):x∈keysP PL↔x∈PL.map (·.1):=by
 unfold keysP;rw [m3]
 simp
theorem pZ(PL:List (Str×Str)):(keysP PL).length<=PL.length:=by
 have:=gY (PL.map (·.1)) []
 rw [A8] at this
 simpa [keysP] using this
def rowsW(R:List Rl)(w:Str):List (List Str):=(R.filter fun z=>decide (z.1=w)).map (·.2)
theorem xR{R:List Rl}{z:Rl}{w:Str}(h:R[i]?=some z):rowsW (R.take (i+1)) w=if z.1=w then rowsW (R.take i) w++[z.2] else rowsW (R.take i) w:=by
 rw [b9,h];unfold rowsW;rw [gH,E4]
 by_cases e:z.1=w
 .rw [if_pos e,Option.toList_some,fY (by simpa using e)];rfl
 .rw [if_neg e,Option.toList_some,fZ (by simpa using e)];simp
theorem m4{hi:Option Int}(hk:1<=k)(hn:1<=n):¬ (HT.sIx n 0 (some (k:Int))=0/\HT.sIx n n hi=n):=fun h=>by
 have:=h.1
 rw [HT.sIx_nat] at this;lia
abbrev jobsL:List (B1×V):=[((Sum.inr ("row" : Str):B1),V.str "letter"),(Sum.inr ("marks" : Str),V.str "mark"),(Sum.inr ("great" : Str),V.str "great"),(Sum.inr ("as" : Str),V.str "as"),(Sum.inr ("over" : Str),V.str "over")]
def cJ(w:Str):Prop:=w=("row" : Str)\/w=("marks" : Str)\/w=("great" : Str)\/w=("as" : Str)\/w=("over" : Str)
theorem qC{w:Str}(h:cJ w):valV jobsL (Sum.inr w)=some (.str (jobD w)):=by
 rcases h with rfl | rfl | rfl | rfl | rfl <;> decide +kernel
theorem aks{w:Str}(h:¬ cJ w):valV jobsL (Sum.inr w)=none:=by
 unfold cJ at h;have n:∀ u:Str,w≠u->¬ ((Sum.inr u:B1)=Sum.inr w):=fun u hu e=>hu (Sum.inr.inj e).symm
 rw [R9 (n _ (fun e=>h (.inl e))),R9 (n _ (fun e=>h (.inr (.inl e)))),R9 (n _ (fun e=>h (.inr (.inr (.inl e))))),R9 (n _ (fun e=>h (.inr (.inr (.inr (.inl e)))))),R9 (n _ (fun e=>h (.inr (.inr (.inr (.inr e))))))];rfl
theorem iD{z:Rl}{p:Str}(h:p∈N5 z):cJ z.1:=by
 unfold N5 at h;unfold cJ
 split at h
 .rename_i e;exact .inr (.inr (.inl e))
 .split at h
  .rename_i e;exact .inr (.inr (.inr (.inl e)))
  .split at h
   .rename_i e
    rcases e with e | e | e
    .exact .inl e
    .exact .inr (.inl e)
    .exact .inr (.inr (.inr (.inr e)))
   .cases h
theorem an4{R:List Rl}{z:Rl}{p:Str}(hz:R[i]?=some z)(hp:(N5 z)[j]?=some p) :
  (D1 R)[(D1 (R.take i)).length+j]?=some (p,jobD z.1)/\(D1 R).take ((D1 (R.take i)).length+j)=D1 (R.take i)++((N5 z).take j).map fun p=>(p,jobD z.1):=by
 obtain ⟨more,e⟩:=xQ R (i+1);rw [xP hz,V2] at e;have hj:j<(N5 z).length:=(J8.mp hp).1;rw [e]
 constructor
 .rw [fX (aI _ _),Nat.add_sub_cancel_left,kO (by rw [A8];exact hj),c9,hp];rfl
 .rw [List.take_append,b0 (aI _ _),Nat.add_sub_cancel_left,List.take_append_of_le_length (by rw [A8];lia),List.map_take]
theorem an5{c d:Nat} : (([c]:List Nat)<[d])↔c<d:=by
 constructor
 .intro h;cases h with
  | rel h=>exact h
  | cons h=>cases h
 .intro h;exact List.Lex.rel h
theorem C7.same(e:Same H H')(h:C7 K H a xs):C7 K H' a xs:=by
 rcases h with (h | ⟨o,h⟩) | h
 .exact .inl (.inl (e _ _ h))
 .exact .inl (.inr ⟨o,e _ _ h⟩)
 .exact .inr h
theorem C7.dput{d:Addr}{o:HO}(hd:H d=some (.dK kvs))(h:C7 K H a xs):C7 K (A0 H d o) a xs:=by
 rcases h with (h | ⟨o,h⟩) | h
 .exact .inl (.inl (by rw [B3 (fun e=>by rw [e,hd] at h;cases h)];exact h))
 .exact .inl (.inr ⟨o,by rw [B3 (fun e=>by rw [e,hd] at h;cases h)];exact h⟩)
 .exact .inr h
def spHas(K:PySem.W.Frag):Sp:=fun vs H Q _=>∃ (a:Addr) (ts:List Addr) (R:List Rl) (w:Str),vs=[.ref a,.str w]/\IsRules H a ts R/\R.length<=1000/\∀ H',Same H H'->Q (.bl (hasW R w)) H'
def xS(K:PySem.W.Frag):Sp:=fun vs H Q _=>∃ (t:Addr) (z:Rl),vs=[.ref t]/\H t=some (tupR z)/\∀ p H',Same H H'->C7 K H' p ((N5 z).map V.str)->Q (.ref p) H'
def xT:Sp:=fun vs H Q _=>∃ (d:Addr) (p j:Str) (fg:Bool) (ks:List Str) (g:Str->Str),vs=[.ref d,.str p,.str j,.bl fg]/\H d=some (.dK (C2 ks fun t=>.str (g t)))/\p.length<=1000/\(p∈ks->g p=j/\j∈iC)/\(fg=true->∀ c∈p.cps.toList,figO c=false)/\
 ∀ H',Same H H'->Q (.bl false) H'
def W8(R:List Rl):List Str:=if hasW R "blanks"=true then [" "] else []
def jobG(g:Str->Str):Str->V:=fun t=>if t=(" " : Str) then .str "over" else .str (g t)
def xU(K:PySem.W.Frag):Sp:=fun vs H Q _=>∃ (a:Addr) (ts:List Addr) (R:List Rl) (g:Str->Str),vs=[.ref a]/\IsRules H a ts R/\R.length<=1000/\(D1 R).length<=10000/\NC (hasW R "figures") g (D1 R)/\(" " : Str)∉(D1 R).map (·.1)/\
 ∀ d H',H d=none->Same H H'->H' d=some (.dK (C2 (keysP (D1 R)++W8 R) (jobG g)))->Q (.ref d) H'
def ordF(f b:Bool)(j ll ml md:Addr):List (Str×V):=putF "made" (.ref md) (putF "mark_line" (.ref ml) (putF "letter_line" (.ref ll) (putF "jobs" (.ref j) (putF "behind" (.bl b) (putF "figures" (.bl f) [])))))
theorem xV(f b:Bool)(j ll ml md:Addr):(ordF f b j ll ml md).lookup ("figures" : Str)=some (V.bl f):=by
 unfold ordF;rw [K4,if_neg (by decide +kernel),K4,if_neg (by decide +kernel),K4,if_neg (by decide +kernel),K4,if_neg (by decide +kernel),K4,if_neg (by decide +kernel),K4,if_pos rfl]
theorem agr(f b:Bool)(j ll ml md:Addr):(ordF f b j ll ml md).lookup ("behind" : Str)=some (V.bl b):=by
 unfold ordF;rw [K4,if_neg (by decide +kernel),K4,if_neg (by decide +kernel),K4,if_neg (by decide +kernel),K4,if_neg (by decide +kernel),K4,if_pos rfl]
theorem xW(f b:Bool)(j ll ml md:Addr):(ordF f b j ll ml md).lookup ("jobs" : Str)=some (V.ref j):=by
 unfold ordF;rw [K4,if_neg (by decide +kernel),K4,if_neg (by decide +kernel),K4,if_neg (by decide +kernel),K4,if_pos rfl]
theorem afL(f b:Bool)(j ll ml md:Addr):(ordF f b j ll ml md).lookup ("letter_line" : Str)=some (V.ref ll):=by
 unfold ordF;rw [K4,if_neg (by decide +kernel),K4,if_neg (by decide +kernel),K4,if_pos rfl]
theorem ahH(f b:Bool)(j ll ml md:Addr):(ordF f b j ll ml md).lookup ("mark_line" : Str)=some (V.ref ml):=by
 unfold ordF;rw [K4,if_neg (by decide +kernel),K4,if_pos rfl]
theorem xX(f b:Bool)(j ll ml md:Addr){m:Str}(h:m∉(["made", "mark_line", "letter_line", "jobs", "behind", "figures"]:List Str)):(ordF f b j ll ml md).lookup m=none:=by
 unfold ordF;have n:∀ u∈(["made", "mark_line", "letter_line", "jobs", "behind", "figures"]:List Str),¬ m=u:=fun u hu e=>h (by rw [e];exact hu)
 rw [K4,if_neg (n _ (by simp)),K4,if_neg (n _ (by simp)),K4,if_neg (n _ (by simp)),K4,if_neg (n _ (by simp)),K4,if_neg (n _ (by simp)),K4,if_neg (n _ (by simp))];rfl
theorem IsRules.but{x:Addr}{R:List Rl}(h:IsRules H a rs R)(s:SameBut x H H'){dx:Addr}{fs:List (Str×V)}(hx:H x=some (.ins C dx fs)):IsRules H' a rs R:=
 ⟨s _ _ (fun e=>by have:=h.top;rw [e,hx] at this;cases this) h.top,R7 h.row fun t z e=>s _ _ (fun q=>by rw [q,hx] at e;cases e) e⟩
theorem SameBut.trans{x:Addr}(a:SameBut x H H1)(b:SameBut x H1 H2):SameBut x H H2:=fun c o hc h=>b c o hc (a c o hc h)
theorem Same.but{x:Addr}(a:Same H H1):SameBut x H H1:=fun c o _ h=>a c o h
def Q1(R:List Rl)(w:Str)(L:List Str):Prop:=Q7 (edges (rowsW R w)) (toldL (rowsW R w)) L/\∀ p∈toldL (rowsW R w),p∈L
structure IsOrder(C:Addr)(H:Hp)(x:Addr)(g:Str->Str)(R:List Rl)(L M:List Str):Prop where
 ob:∃ dx j ll ml md,H x=some (.ins C dx (ordF (hasW R "figures") (hasW R "behind") j ll ml md))/\H j=some (.dK (C2 (keysP (D1 R)++W8 R) (jobG g)))/\H ll=some (.lst (L.map V.str))/\H ml=some (.lst (M.map V.str))
 l1:Q1 R "row" L
 l2:Q1 R "marks" M
def xY(K:PySem.W.Frag):Sp:=fun vs H Q _=>∃ (a:Addr) (ts:List Addr) (R:List Rl) (w:Str) (rank:Str->Nat),vs=[.ref a,.str w]/\IsRules H a ts R/\R.length<=1000/\(rowsW R w).flatten.length<=100000/\(∀ e∈edges (rowsW R w),rank e.1<rank e.2)/\
 ∀ (l:Addr) (line:List Str) (H':Hp),H l=none->Same H H'->H' l=some (.lst (line.map V.str))->Q7 (edges (rowsW R w)) (toldL (rowsW R w)) line->(∀ p∈toldL (rowsW R w),p∈line)->Q (.ref l) H'
def cellF(ns:List Int)(k:Int):Int:=if k<(ns.length:Int) then ns.getD k.toNat 0 else 0
def lZ(K:PySem.W.Frag):Sp:=fun vs H Q _=>∃ (a:Addr) (ns:List Int) (k:Int),vs=[.ref a,.int k]/\C9 K H a (ns.map V.int)/\0<=k/\Q (.int (cellF ns k)) H
def SA:Str:=Str.ofString "!\"#$&'()*+,-./:;<=>?@ABCDEFGHIJKLMNOPQRSTUVWXYZ[\\]^_`abcdefghijklmnopqrstuvwxyz{|}~"
def LA:List Nat:=SG.filter fun c=>!figO c
def LB:List Nat:=LA++[48,49,50,51,52,53,54,55,56,57]
theorem SA_eq:SA.cps.toList=LA:=by decide +kernel
theorem xZ:LA.length=83:=by decide +kernel
theorem LA_nd:LA.Nodup:=by decide +kernel
theorem LA_ok:∀ c∈LA,signB c=true/\figO c=false:=by decide +kernel
def listF(d:Bool):List Nat:=if d=true then LB else LA
def lenF(d:Bool):Int:=if d=true then 93 else 83
def qD(ns:List Int):Bool:=decide (cellF ns 1 / 12 % 2=0)
def stepO:List Int:=[1,2,4,5,7,8,10,11,13,23,44,80]
def Y4(ns:List Int):Int:=(F8 stepO (cellF ns 1 % 12)).getD 0
def eP(ns:List Int)(k:Int):Nat:=(F8 (listF (qD ns)) ((cellF ns 0+k*Y4 ns) % lenF (qD ns))).getD 33
theorem qE(ns:List Int):F8 (stepO.map V.int) (cellF ns 1 % 12)=some (.int (Y4 ns))/\Y4 ns∈stepO:=by
 obtain ⟨v,h1,h2⟩:=eD (xs:=stepO) (i:=cellF ns 1 % 12) (by lia) (by show _<((12:Nat):Int);lia);have e:Y4 ns=v:=by unfold Y4;rw [h1];rfl
 rw [e];refine ⟨?_,h2⟩;obtain ⟨u,h3,h4⟩:=eD (xs:=stepO.map V.int) (i:=cellF ns 1 % 12) (by lia) (by show _<((12:Nat):Int);lia);have ei:(((cellF ns 1 % 12).toNat:Nat):Int)=cellF ns 1 % 12:=by lia
 have hi:(cellF ns 1 % 12).toNat<stepO.length:=by show _<12;lia
 have a1:=O3 (xs:=stepO) (j:=(cellF ns 1 % 12).toNat) (v:=stepO[(cellF ns 1 % 12).toNat]) (N1 hi);rw [ei,h1] at a1;have a2:=O3 (xs:=stepO.map V.int) (j:=(cellF ns 1 % 12).toNat) (v:=V.int stepO[(cellF ns 1 % 12).toNat]) (by rw [c9,N1 hi];rfl);rw [ei] at a2;rw [a2,<- Option.some.inj a1]
theorem amu(ns:List Int):0<Y4 ns/\Y4 ns<=80:=by
 have:=(qE ns).2
 simp only [stepO,E7,e8,or_false] at this;omega
theorem an6{l:List Nat}(nd:l.Nodup){i j:Int}(h0:0<=i)(h1:i<l.length)(h2:0<=j)(h3:j<l.length)(h:(F8 l i).getD 33=(F8 l j).getD 33):i=j:=by
 have li:i.toNat<l.length:=by lia
 have lj:j.toNat<l.length:=by lia
 have a1:F8 l i=some l[i.toNat]:=by
  have:=O3 (xs:=l) (j:=i.toNat) (v:=l[i.toNat]) (N1 li)
  rw [show ((i.toNat:Nat):Int)=i by lia] at this;exact this
 have a2:F8 l j=some l[j.toNat]:=by
  have:=O3 (xs:=l) (j:=j.toNat) (v:=l[j.toNat]) (N1 lj)
  rw [show ((j.toNat:Nat):Int)=j by lia] at this;exact this
 rw [a1,a2] at h
 have:=(o8.mp nd)
 rw [aA] at this
 rcases gJ i.toNat j.toNat with z | z | z
 .exact absurd h (this _ _ li lj z)
 .lia
 .exact absurd h.symm (this _ _ lj li z)
theorem ahI{m s t b k l:Int}(ht:s*t % m=1)(e:(b+k*s) % m=(b+l*s) % m)(h0:0<=k)(h1:k<m)(h2:0<=l)(h3:l<m):k=l:=by
 have d1:m ∣ (k-l)*s:=by
  have:=Int.dvd_of_emod_eq_zero (Int.emod_eq_emod_iff_emod_sub_eq_zero.mp e)
  rwa [show (b+k*s)-(b+l*s)=(k-l)*s by rw [Int.sub_mul];lia] at this
 have d3:m ∣ (k-l)*(s*t):=by rw [<- Int.mul_assoc];exact Int.dvd_mul_of_dvd_left d1
 have d4:m ∣ s*t-1:=⟨s*t / m,by have:=Int.emod_add_mul_ediv (s*t) m;lia⟩
 have d5:m ∣ (k-l)*(s*t-1):=Int.dvd_mul_of_dvd_right d4;have d6:=Int.dvd_sub d3 d5;rw [show (k-l)*(s*t)-(k-l)*(s*t-1)=k-l by rw [Int.mul_sub,Int.mul_one];lia] at d6;have d7:=Int.emod_eq_emod_iff_emod_sub_eq_zero.mpr (Int.emod_eq_zero_of_dvd d6)
 rwa [Int.emod_eq_of_lt h0 h1,Int.emod_eq_of_lt h2 h3] at d7
theorem akt(d:Bool):∀ s∈stepO,∃ t∈(List.range 93).map Int.ofNat,s*t % lenF d=1:=by cases d <;> decide +kernel
end L2
set_option maxRecDepth 100000
namespace L2
open PySem PySem.Spec PyProof.Rows
open AutoSeq1 (wpAny_loadPart' idx_int)
abbrev bareL(ys:Array Value)(k:Nat):Obj:=⟨.type "list",none,.seq ys k,#[]⟩
abbrev anyT(dd:Option Addr)(ys:Array Value)(k:Nat)(ss:Array (Option Value)):Obj:=⟨.type "tuple",dd,.seq ys k,ss⟩
theorem adO{l:Addr}{ys zs:Array Value}{k2:Nat}{dd:Option Addr}(short:¬ (!ys.isEmpty&&Builtin.List.listTooLong (ys.size+zs.size))=true)(h1:ys.size<=sizeLine)(h2:ys.size+zs.size<=sizeLine+1) :
  Meets (Builtin.«list.extend» ⟨[.ref l,.ref b],[]⟩) (fun _ R s=>s.heap.get? l=some (bareL ys k)/\s.heap.get? b=some (anyT dd zs k2 ss)/\R (.ok (.ret .none)) { s with heap:=s.heap.update l (Obj.mapSeq (·++zs)),toks:=s.toks }):=by
 refine .of_wp fun _ _ _ R s ⟨gl,gb,fin⟩=>?_
 rcases s with ⟨hp,gens,dr,tk,sys⟩
 have c1:=idx_int;have c2:=AutoSeq1.sub_tuple_tuple;have c3:=AutoSeq1.sub_list_list;have c4:=AutoSeq1.sub_tuple_list;have c5:=AutoSeq1.sub_list_tuple;have room:(ys++zs).size<=sizeLine+1:=Array.size_append ▸ h2
 wp_walk using (wpAny_updateSeq gl rfl (hz:=h1) (_hz':=room)),wpAny_loadPart' gl,wpAny_loadPart' gb
 exact ⟨_,rfl,fin⟩
section
variable {X:Cx}
def yA(K:PySem.W.Frag):V->List V->Hp->VK->Prop:=fun x vs H Q=>∃ l b xs zs,x=.ref l/\vs=[.ref b]/\H l=some (.lst xs)/\C7 K H b zs/\xs.length+zs.length<=sizeLine/\Q .non (A0 H l (.lst (xs++zs)))
theorem ahJ:lD X "list.extend" (yA X.K):=by
 intro pins s Y H x vs v us Q I rx rv h;obtain ⟨l,b,xs,zs,rfl,rfl,hH,hB,hz,q⟩:=h
 cases rx
 obtain ⟨u,rfl,ru⟩:=rv.one
 cases ru
 obtain ⟨z,its,n,r,hl,e⟩:=I.lstM hH;obtain ⟨its2,r2,⟨⟨c,dct,dt,sl⟩,e2,hc,n2,hd⟩,i8⟩:=I.tuple hB
 replace hc:c=.type "tuple":=hc
 replace hd:dt=.seq its2.toArray n2:=hd
 subst hc hd;have q1:=r2.length;have hsz:its.toArray.size+its2.toArray.size<=sizeLine:=by rw [J9,J9];lia
 have U3:¬ (!its.toArray.isEmpty&&Builtin.List.listTooLong (its.toArray.size+its2.toArray.size))=true:=by
  rw [oU hsz,Bool.and_false];exact K3
 refine call_meets F.slot_list_extend ⟨_,e,rfl⟩ F.entry_list_extend (F.args_list_extend_2 _ _)
  (adO (k:=n) (k2:=n2) (dd:=dct) (ss:=sl) U3 (by rw [J9];lia) (by lia)) ⟨e,e2,?_⟩
 refine ⟨.non,_,I.lset (its':=its++its2) hH e (by simp) (r.append r2) ?_,rfl,q⟩;rw [D4];lia
theorem aiW(hK:X.K=K:=by rfl):QMt X "list.extend" (yA K):=by subst hK;exact ⟨fun pins s Y H x xs v us Q I rx rv h=>ahJ pins s Y H x xs v us Q I rx rv h⟩
def rMulS:V->V->Hp->VK->Prop:=fun x y H Q=>∃ z n,x=.str z/\y=.int n/\MulOk z n/\Q (.str (Txt.mul z n)) H
theorem an7:F9 X (binaryOp .Mult) rMulS:=by
 intro pins s Y H x y v u Q I rx ry h;obtain ⟨z,n,rfl,rfl,h1,q⟩:=h;obtain ⟨t,rfl⟩:=rx;obtain ⟨t2,rfl⟩:=ry;exact SB.mul h1 fun t' k=>⟨.str _,H,I.tok k,⟨_,rfl⟩,q⟩
theorem an8:QOp X (binaryOp .Mult) rMulS:=⟨an7⟩
end
def yB(l : Addr)(n : Nat) : It :=
  ⟨fun i H => ∃ xs x, H l = some (.lst xs) /\ i<n /\ xs[n-1-i]? = some x,
   fun i H v H' => H' = H /\ ∀ xs, H l = some (.lst xs) -> xs[n-1-i]? = some v,
   fun i H => ∃ xs, H l = some (.lst xs) /\ n <= i⟩
section
variable {X:Cx}
def iRev(ta:TA):TI:=fun Y H R=>ta Y H fun vs H1=>∃ (l:Addr) (xs:List V),vs=[.ref l]/\H1 l=some (.lst xs)/\R (yB l xs.length) H1
end
theorem amv{R:It->Hp->Prop} : iRev ta Y H R=ta Y H fun vs H1=>∃ (l:Addr) (xs:List V),vs=[.ref l]/\H1 l=some (.lst xs)/\R (yB l xs.length) H1:=rfl
abbrev aS(l:Addr):Obj:={ cls:=.type "list_iterator",data:=.fields #[.ref l,.int 0 0] }
abbrev eQ(it:Addr)(i:Int):Obj:={ cls:=.type "enumerate",data:=.fields #[.none,.bool false,.ref it,rawInt i,.none,.none] }
abbrev anyL(dd:Option Addr)(ys:Array Value)(k:Nat)(ss:Array (Option Value)):Obj:=⟨.type "list",dd,.seq ys k,ss⟩
set_option maxHeartbeats 4000000 in
theorem ad4{l:Addr}{ys:Array Value}{dd:Option Addr}{i:Int}{t:Tok}(fits:Builtin.SmallTypes.fitsIndex i=true) :
  Meets (Builtin.«enumerate.__new__» ⟨[.type "enumerate",.ref l],[("start",.int i t)]⟩) (fun _ R s=>s.heap.get? l=some (anyL dd ys k ss)/\
   R (.ok (.ret (.ref (s.heap.push (aS l)).objs.size))) { s with heap:=(s.heap.push (aS l)).push (eQ s.heap.objs.size i) }):=by
 refine .of_wp fun _ _ _ R s ⟨gl,fin⟩=>?_
 rcases s with ⟨hp,gens,dr,tk,sys⟩
 have c1:=sub_enumerate;have isl:Heap.IsList (Shared.heap ⟨hp,gens,dr,tk,sys⟩) l ys:=⟨_,gl,rfl,k,rfl⟩
 wp_walk using wpAny_loadPart' gl
 refine wpAny_stack_any fun _=>wpAny_pure ?_
 split
 case h_1 c _ _ _ _ _=>
  generalize (c==Value.type "enumerate")=truth
  cases truth <;> (wp_walk using wpAny_loadPart' gl,wpAny_pyIter_list isl;exact ⟨_,rfl,fin⟩)
 case h_2=>(wp_walk using wpAny_loadPart' gl,wpAny_pyIter_list isl;exact ⟨_,rfl,fin⟩)
theorem ahK(a b:Value):checkTypeCall "enumerate" ⟨[a],[("start",b)]⟩=pure ():=by kernel_rfl
theorem aiX(a b:Value):checkBuiltinCall "enumerate.__new__" ⟨[.type "enumerate",a],[("start",b)]⟩=pure ():=by kernel_rfl
theorem ahL(a b c:Value):argsOk "object.__init__" ⟨[a,b],[("start",c)]⟩:=by
 unfold argsOk;rw [signature?_of (id:="object.__init__") (n:="__init__".toList.reverse) (o:="object".toList.reverse) (by kernel_rfl) F.owner_object]
 kernel_rfl
theorem aiY{self b c:Value} : Meets (Builtin.«object.__init__» ⟨[self,b],[("start",c)]⟩) (fun _ R s=>s.TypeIs self "enumerate"/\R (.ok (.ret .none)) s):=by
 have c1:=F.called_enumerate.init.lookup;have c2:=F.called_enumerate.made;refine .of_wp fun _ _ _ R s ⟨isT,fin⟩=>?_
 repeat (any_goals (first | assumption | wp_step))
 exact ⟨_,rfl,fin⟩
section
variable {prog:Program} {w:World} {A:Around} {E:Value->Shared->Prop} {s:Shared}
theorem adP{l:Addr}{ys:Array Value}{i:Int}{t:Tok}{Q:Value->Shared->Prop}(isl:s.heap.IsList l ys)(fits:Builtin.SmallTypes.fitsIndex i=true)(fin:∀ h',IsEnum h' (s.heap.objs.size+1) s.heap.objs.size i .none->h'.IsListIter s.heap.objs.size l 0->(∀ b o,s.heap.get? b=some o->h'.get? b=some o)->Q (.ref (s.heap.objs.size+1)) { s with heap:=h' }) :
  wpAny (model prog w) A (call (.type "enumerate") [.ref l] [("start",.int i t)]) Q E s:=by
 obtain ⟨⟨c,dd,dt,ss⟩,gl,hc,k,hd⟩:=isl;obtain rfl:c=.type "list":=hc;obtain rfl:dt=.seq ys k:=hd;obtain ⟨hd0,tl,c1⟩:=F.called_enumerate.mro;have c2:=F.called_enumerate.made;have c3:=F.called_enumerate.sub;have c4:=F.called_enumerate.notType;have c5:=F.called_enumerate.canCreate;have c6:=F.called_enumerate.init.lookup;have c7:=ahK (.ref l) (.int i t);refine wpAny_call (codeAny_of_tree (show wpAny _ _ (callAny (.type "enumerate") _) _ _ _ from wpAny_pure ⟨Code.quiet_builtin _ (by decide +kernel),codeAny_builtin F.entry_type_call ?_⟩));rw [Around.under_plain (weight_type_call_type "enumerate" [.ref l] [("start",.int i t)]) (units_type_call_type "enumerate" [.ref l] [("start",.int i t)])]
 repeat (any_goals (first | assumption | wp_step))
 have z:(s.heap.push (aS l)).objs.size=s.heap.objs.size+1:=Heap.size_push ..;have made:IsEnum ((s.heap.push (aS l)).push (eQ s.heap.objs.size i)) (s.heap.objs.size+1) s.heap.objs.size i .none:=by
  have g:=Heap.get?_push_size (s.heap.push (aS l)) (o:=eQ s.heap.objs.size i) rfl;rw [z] at g;exact g
 have done:=fin _ made ⟨_,Heap.get?_push_of_some _ (Heap.get?_push_size _ rfl),rfl,rfl⟩ fun b o g=>Heap.get?_push_of_some _ (Heap.get?_push_of_some _ g)
 refine codeAny_mono (codeAny_call_builtin F.called_enumerate.plain F.entry_enumerate_new (wpAny_of_eq (aiX _ _) (ad4 (dd:=dd) (k:=k) (ss:=ss) fits prog w A.in1 (wants (fun v s2=>v=.ref (s.heap.objs.size+1)/\s2={ s with heap:=(s.heap.push (aS l)).push (eQ s.heap.objs.size i) }) E) s ⟨gl,?_,?_⟩))) ?_
 .rw [z]
 .rfl
 .intro r s1 hr
  rcases r with e | fl
  .exact hr
  .cases fl with
   | ret v=>
    obtain ⟨rfl,rfl⟩:=hr;have isT:Shared.TypeIs { s with heap:=(s.heap.push (aS l)).push (eQ s.heap.objs.size i) } (.ref (s.heap.objs.size+1)) "enumerate":=⟨_,made,rfl⟩
    have c8:=F.called_enumerate.init.bind (.ref (s.heap.objs.size+1))
    repeat (any_goals (first | assumption | wp_step))
    have ran:=aiY (self:=.ref (s.heap.objs.size+1)) (b:=.ref l) (c:=.int i t) prog w A.in1 (wants (fun v s2=>v=.none/\s2={ s with heap:=(s.heap.push (aS l)).push (eQ s.heap.objs.size i) }) E) _ ⟨isT,rfl,rfl⟩;refine codeAny_mono (codeAny_call_builtin F.called_enumerate.init.plain F.entry_object_init (F.called_enumerate.init.check _ _ _ _ _ _ _ _ isT (ahL _ _ _) ran)) fun r s2 hr=>?_
    rcases r with e | fl
    .exact hr
    .cases fl with
     | ret v=>
      obtain ⟨rfl,rfl⟩:=hr
      repeat (any_goals (first | assumption | wp_step))
     | next=>exact hr.elim
     | brk=>exact hr.elim
     | cont=>exact hr.elim
   | next=>exact hr.elim
   | brk=>exact hr.elim
   | cont=>exact hr.elim
end
theorem an9{w:World}(calm:A.handled=none){l:Addr}(apart:l≠it)(ys:Array Value) :
  Draws prog w A it [it,l] (ys.size+1) (fun i v=>1<=i/\ys[i-1]?=some v) (fun i h=>1<=i/\h.IsListIter it l (i-1)/\h.IsList l ys):=by
 have D:=Draws.list (prog:=prog) (w:=w) calm it l apart ys;refine ⟨fun i h st=>D.live (i-1) h st.2,fun i h h' st same=>⟨st.1,D.frame (i-1) h h' st.2 same⟩,fun i s Q E hi st fin=>?_,fun s Q E st fin=>D.done s Q E st.2 fin⟩;refine D.item (i-1) s Q E (by have:=st.1;lia) st.2 fun x h' tk px st' sb=>fin x h' tk ⟨st.1,px⟩ ⟨by lia,?_⟩ sb
 rw [show i+1-1=i-1+1 by have:=st.1;lia];exact st'
theorem aoa{w : World}(calm : A.handled = none){l: Addr}{ys : Array Value}(none : ys[i]? = none) :
    Draws prog w A it [it, l] (i+1) (fun _ _ => True) (fun k h => k = i+1 /\ h.IsListIter it l i /\ h.IsList l ys) :=
  ⟨fun _ _ st => let ⟨o, ho, _⟩ := st.2.1; ⟨o, ho⟩, fun _ _ _ st same => ⟨st.1, st.2.1.at fun o g => same it (by simp) o g, st.2.2.at fun o g => same l (by simp) o g⟩,
   fun k s Q E hk st => absurd st.1 (by lia), fun s Q E st fin => wpAny_nextOf_list_end calm st.2.1 st.2.2 none fin⟩
def Ite1(l : Addr) : It :=
  ⟨fun i H => ∃ xs x, H l = some (.lst xs) /\ xs[i]? = some x,
   fun i H v H' => ∃ t xs x, H l = some (.lst xs) /\ xs[i]? = some x /\ H t = none /\ v = .ref t /\ H' = A0 H t (.tup [.int (i+1 : Nat), x]),
   fun i H => ∃ xs, H l = some (.lst xs) /\ xs.length <= i⟩
theorem ahM{P:Program}{w:World}{pos:Pos}(e it l:Addr)(N0:e≠it) :
  Turn P w K (.Tuple elts x1 pos) (Ite1 l) [e,it] e (fun i h=>(∃ old,IsEnum h e it ((i+1:Nat):Int) old)/\h.IsListIter it l i) where
 mem:=by simp
 obj:=fun i h ⟨⟨old,he⟩,hi⟩ c hc=>by
  have q:c=e\/c=it:=by simpa using hc
  rcases q with rfl | rfl
  .exact ⟨_,he,fun v q=>by cases q⟩
  .obtain ⟨o,e,c,d⟩:=hi;exact ⟨o,e,fun v z=>by rw [d] at z;cases z⟩
 keep:=fun i h h' ⟨⟨old,he⟩,hi⟩ k=>⟨⟨old,k e (by simp) _ he⟩,hi.at fun o q=>k it (by simp) o q⟩
 item:=by
  intro X hP hw hK hc i pins s Y H E I hf ⟨⟨old,he⟩,hi⟩ hg;subst hP hw hK;obtain ⟨xs,x,e1,hx⟩:=hg;obtain ⟨its1,X6,p1,_⟩:=I.list (C9.of (K:=X.K) e1);obtain ⟨u1,C5,r1⟩:=X6.get hx;have D0:i<its1.length:=(J8.mp C5).1;obtain ⟨ol,gl,cl,_⟩:=p1.isList;have nli:l≠it:=fun q=>by
   obtain ⟨oi,gi,ci,_⟩:=hi;rw [q,gi] at gl
   cases gl
   rw [ci] at cl;exact absurd cl (by decide)
  have nle:e≠l:=fun q=>by
   rw [<- q,he] at gl
   cases gl
   exact absurd (show Value.type "enumerate"=Value.type "list" from cl) (by decide)
  refine wpAny_pyNext_enum_itemD (i:=i+1) (an9 (A:=X.A.in1) (show X.A.in1.handled=none from I.ok.hd hc) nli its1.toArray) he ⟨by lia,by simpa using hi,p1.isList⟩ (by simp;lia) N0 (by simp [N0,nle]) fun y h' tk py b1 b2 b3 b4 b5=>?_
  obtain rfl:u1=y:=by
   have:=py.2
   simp [C5] at this;exact this
  refine ⟨_,rfl,wpAny_letOwnedTupleGo_enum b1 fun h2' c1 c2=>?_⟩;have bI:e<s.heap.objs.size:=Heap.lt_size he;have up:∀ c o,c≠e->h'.get? c=some o->h2'.get? c=some o:=fun c o hc q=>(c2.2 c hc).trans q
  have hT:=up _ _ (Nat.ne_of_gt bI) b3;have nT:∀ c∈[e,it],c≠s.heap.objs.size:=fun c hc=>by
   have q:c=e\/c=it:=by simpa using hc
   refine M8 ?_
   rcases q with rfl | rfl
   .exact bI
   .obtain ⟨o,q,_⟩:=hi;exact Heap.lt_size q
  refine ⟨.ref s.heap.objs.size,A0 H s.heap.objs.size (.tup [.int (i+1:Nat),x]),I.turnNew (t':=tk+1) (ch:=[e,it]) hf (fun c u hc q=>?_) (C4 _) ⟨by show 2<=sizeLine;decide,[.int (i+1:Nat) tk,u1],.cons ⟨_,rfl⟩ (.cons r1 .nil),?_⟩,rfl,⟨_,xs,x,e1,hx,I.fresh,rfl,rfl⟩,
   ⟨⟨_,c1⟩,(show h'.IsListIter it l (i+1) by simpa using b2.2.1).at fun o q=>up _ o N0.symm q⟩,fun c hc=>by rw [B3 (nT c hc)];exact (hf c hc).1⟩
  .have q1:c≠e/\c≠it:=⟨fun q=>hc (by simp [q]),fun q=>hc (by simp [q])⟩
   exact up c u q1.1 (b5 c u q1.1 q1.2 q)
  .exact ⟨_,hT,rfl,_,rfl⟩
 done:=by
  intro X hP hw hK hc i pins s Y H E I hf ⟨⟨old,he⟩,hi⟩ hg;subst hP hw hK;obtain ⟨xs,e1,cZ⟩:=hg;obtain ⟨its1,X6,p1,_⟩:=I.list (C9.of (K:=X.K) e1);have q1:=X6.length;obtain ⟨f0,f1,f2,f3,f4,f5⟩:=hf it (by simp);exact wpAny_pyNext_enum_endD (aoa (A:=X.A.in1) (show X.A.in1.handled=none from I.ok.hd hc) (ys:=its1.toArray) (i:=i) (by simp;lia)) he ⟨rfl,hi,p1.isList⟩ fun h' eb=>⟨rfl,I.turned (t':=s.toks) (fun b o hb q=>eb b o hb q) f0 f1 f3 f4 f5⟩
 self:=fun _ _ _ _ _ st h=>by
  obtain ⟨⟨old,he⟩,_⟩:=st;exact wpAny_pyIter_enum he h
theorem aiZ:bootBuiltins "enumerate"=some (.type "enumerate"):=by decide +kernel
section
variable {X:Cx}
def qF(ta:TA):TI:=fun Y H R=>ta Y H fun vs H1=>∃ (l:Addr) (xs:List V),vs=[.ref l]/\H1 l=some (.lst xs)/\R (Ite1 l) H1
theorem aku{a:Expr}{p pos:Pos}(hg:Gl X "enumerate")(hm:X.mg "enumerate"=none)(ha:PA X [a] ta)(h1:M0 a=false:=by rfl) :
  PI X (.Tuple elts x1 tpos) (.Call (.Name "enumerate" p) [a] [⟨some "start",.Constant (.int 1) ck cpos,kpos⟩] pos) (qF ta):=by
 intro pins s Y H R I h;refine wpAny_Call_Name_kw (gO I hg hm aiZ (PySem.W.callWith_of (P:=fun _=>True) ?_ (fun _ _=>⟨_,.inr (.inl rfl),PySem.W.Looks.of_pure rfl⟩) (PyProof.Rows.evalArgs_kw2 rfl (B5 (ha pos pins s Y H _ I h) fun us s1 ⟨vs,H1,I1,r1,q1⟩=>?_) (N9 h1))))
 .rw [N9 h1];rfl
 have kw:PK X [⟨some "start",.Constant (.int 1) ck cpos,kpos⟩] (tCons (tC (.int 1)) tNil):=alv uI anh;refine B5 (kw pos pins s1 Y H1 (fun zs H2=>zs=[.int 1]/\H2=H1) I1 ⟨rfl,rfl⟩) fun ws s2 ⟨zs,H2,I2,rz,e1,e2⟩=>⟨trivial,?_⟩
 subst e1 e2;obtain ⟨l,xs,rfl,e1,q⟩:=q1;obtain ⟨u1,rfl,jS⟩:=vals1 r1
 cases jS
 obtain ⟨u2,rfl,sU⟩:=vals1 rz;obtain ⟨t,rfl⟩:=sU;obtain ⟨its1,X6,p1,_⟩:=I2.list (C9.of (K:=X.K) e1);refine adP p1.isList (by decide) fun h' z1 z2 z4=>wpAny_pyIter_enum z1 ?_
 refine ⟨s2.heap.objs.size+1,[s2.heap.objs.size+1,s2.heap.objs.size],_,_,H2,rfl,I2.kept (t':=s2.toks) z4,ahM _ s2.heap.objs.size l (Z7 (by lia)),⟨⟨_,z1⟩,z2⟩,fun b hb=>?_,q⟩;have W0:s2.heap.objs.size<=b:=by
  have e:b=s2.heap.objs.size+1\/b=s2.heap.objs.size:=by simpa using hb
  rcases e with rfl | rfl
  .exact aI _ _
  .exact C4 _
 exact I2.fpOk W0 (I2.hok.fresh W0)
theorem akv{a:Expr}{p pos:Pos}(hm:X.mg "enumerate"=none)(ha:QA X [a] ta)(hg:Gl X "enumerate":=by rfl)(h1:M0 a=false:=by rfl) :
  QI X (.Tuple elts x1 tpos) (.Call (.Name "enumerate" p) [a] [⟨some "start",.Constant (.int 1) ck cpos,kpos⟩] pos) (qF ta):=⟨aku hg hm ha.out h1⟩
end
theorem ai1{R:It->Hp->Prop} : qF ta Y H R=ta Y H fun vs H1=>∃ (l:Addr) (xs:List V),vs=[.ref l]/\H1 l=some (.lst xs)/\R (Ite1 l) H1:=rfl
theorem forE1{l:Addr}(Pv:Nat->St->Hp->Prop)(h0:Pv 0 Y H)(hl:∀ i Y H,Pv i Y H->H l=some (.lst xs))(hs:∀ i x t Y H,xs[i]?=some x->Pv i Y H->H t=none->g (.ref t) Y (A0 H t (.tup [.int (i+1:Nat),x])) fun σ2 H2=>tb { D with nx:=Pv (i+1),ct:=Pv (i+1),bk:=D.nx } σ2 H2)(hd:∀ Y H,Pv xs.length Y H->D.nx Y H):ForIt (Ite1 l) g tb D Y H:=by
 refine ⟨fun i m Y H=>m=xs.length-i/\i<=xs.length/\Pv i Y H,⟨xs.length,by simp,J5 _,h0⟩,?_⟩;rintro i m Y H ⟨rfl,hi,p⟩;have e1:=hl i Y H p
 by_cases D0:i<xs.length
 .refine .inr ⟨⟨xs,xs[i],e1,by simp⟩,Pv (i+1),fun σ' H' p'=>⟨_,by lia,rfl,D0,p'⟩,fun v H' y=>?_⟩;obtain ⟨t,xs',x,f1,hx,ht,rfl,rfl⟩:=y;rw [e1] at f1;cases f1;exact hs i x t Y H hx p ht
 .have e:i=xs.length:=by lia
  subst e;exact .inl ⟨⟨xs,e1,by lia⟩,hd Y H p⟩
end L2
set_option maxRecDepth 100000
namespace L2
open PySem PySem.Spec PyProof.Rows
def qG:V->List V->Hp->VK->Prop:=fun x vs H Q=>∃ (l:Addr) (zs:List Int) (z:Int),x=.ref l/\vs=[.int z]/\H l=some (.lst (zs.map V.int))/\z∈zs/\Q .non (A0 H l (.lst ((zs.erase z).map V.int)))
theorem mB:∀ {vs:List Value} {zs:List Int},IntsAre vs zs->∀ {j:Nat} {z:Int},zs[j]?=some z->∃ t,vs[j]?=some (.int z t)
 | _,_,.nil,_,_,h=>by simp at h
 | _,_,.cons _ _ _,0,_,h=>by simp at h;subst h;exact ⟨_,rfl⟩
 | _,_,.cons _ _ r,j+1,z,h=>by
  obtain ⟨t,q⟩:=mB r (j:=j) (z:=z) (by simpa using h);exact ⟨t,by simpa using q⟩
theorem ahN : lD X "list.remove" qG:=by
 intro pins s Y H x vs v us Q I rx rv h;obtain ⟨l,zs,zz,rfl,rfl,hH,hm,q⟩:=h
 cases rx
 obtain ⟨u,rfl,ru⟩:=rv.one;obtain ⟨t,rfl⟩:=ru;obtain ⟨z,its,n,r,hl,e⟩:=I.lstM hH;have sa:=lC r;have hj:zs.idxOf zz<zs.length:=dM.mpr hm;rw [A8] at hl;have Q9:∀ (j:Nat) (hj:j<its.toArray.size),∃ y t',zs[j]?=some y/\its.toArray[j]=.int y t':=fun j hj'=>by
  have hj2:j<zs.length:=by rw [hl];simpa using hj'
  obtain ⟨t',ht⟩:=mB sa (j:=j) (z:=zs[j]) (by simp);refine ⟨zs[j],t',by simp,?_⟩
  have:=(J8.mp ht).2
  simpa using this
 have hsz:zs.idxOf zz<its.toArray.size:=by rw [J9,<- hl];exact hj
 refine call_meets F.slot_list_remove ⟨_,e,rfl⟩ F.entry_list_remove (F.args_list_remove_2 _ _)
  (MeetsSeq.list_remove l its.toArray n (.int zz t) (isInt zz) (fun y hy=>eq_isInt zz t sa y (by simpa using hy)) (zs.idxOf zz) hsz ?_ (fun m dE D0=>?_) (by rw [J9,<- hl];rw [A8] at z;exact z)) ⟨e,?_⟩
 .obtain ⟨y,t',h1,h2⟩:=Q9 _ hsz;rw [h2]
  have:y=zz:=by
   have:=gG hj
   rw [N1 hj,this] at h1;exact (Option.some.inj h1).symm
  subst this;simp [isInt]
 .obtain ⟨y,t',h1,h2⟩:=Q9 _ dE;rw [h2]
  have:y≠zz:=fun q=>by
   obtain ⟨h3,h4⟩:=J8.mp h1
   have:=List.not_of_lt_findIdx (show m<zs.findIdx (· == zz) from D0)
   rw [h4] at this;simp [q] at this
  simp [isInt,this]
 .refine ⟨.non,_,I.lset (its':=its.eraseIdx (zs.idxOf zz)) hH e ?_ ?_ ?_,rfl,q⟩
  .show its.toArray.eraseIdxIfInBounds (zs.idxOf zz)=_;rw [List.eraseIdxIfInBounds_toArray]
  .rw [List.erase_eq_eraseIdx_of_idxOf (l:=zs) (a:=zz) (w:=rfl),xC];exact r.eraseIdx _
  .rw [A8,List.length_erase_of_mem hm];rw [A8] at z;lia
theorem ai2 : QMt X "list.remove" qG:=⟨fun pins s Y H x xs v us Q I rx rv h=>ahN pins s Y H x xs v us Q I rx rv h⟩
theorem aob{l:Addr}{zs:List Int}{z:Int}(h:H l=some (.lst (zs.map V.int)))(hm:z∈zs)(q:Q .non (A0 H l (.lst ((zs.erase z).map V.int)))):qG (.ref l) [.int z] H Q:=⟨l,zs,z,rfl,rfl,h,hm,q⟩
def rMinL:List V->Hp->VK->Prop:=fun xs H Q=>∃ (p:Addr) (ns:List Int),xs=[.ref p]/\H p=some (.lst (ns.map V.int))/\ns≠[]/\∀ M:Int,M∈ns->(∀ a∈ns,M<=a)->Q (.int M) H
theorem ai3(hc:X.calm=true):CallR X (.builtin "min") rMinL:=by
 intro pins s Y H xs us Q I r h;obtain ⟨p,ns,rfl,hH,N0,q⟩:=h;obtain ⟨u,rfl,ru⟩:=vals1 r
 cases ru
 obtain ⟨z,its,n,rr,hl,e⟩:=I.lstM hH;have hi:=lC rr;have hL:s.heap.IsList p its.toArray:=⟨_,e,rfl,n,rfl⟩
 obtain ⟨ys,e2⟩:=hi.allInts.items;have bF:ns=ys.toList.map (·.1):=by rw [<- hi.numsOf,<- nums_intItems,<- e2]
 have hsz:0<ys.size:=by
  have h3:=List.length_pos_iff.mpr N0;rw [bF,A8,bU] at h3;exact h3
 rw [e2] at hL;refine min_intList (I.ok.hd hc) hL hsz fun v h' tk hv hk=>?_
 obtain ⟨t,rfl⟩:=intItems_at hv;obtain ⟨h1,h2⟩:=argBest_lt (numAt ys) (ys.size-1);refine ⟨.int _,H,I.kept hk,⟨t,rfl⟩,q _ ?_ fun a ha=>?_⟩
 .rw [bF,numAt_eq];exact getD_mem (by rw [A8,bU];lia)
 .rw [bF] at ha;obtain ⟨j,hj,rfl⟩:=mem_getD ha;rw [A8,bU] at hj;rw [<- numAt_eq];exact h2 j (by lia)
theorem aoc(hc:X.calm=calm:=by rfl):QCall X (.builtin "min") (rCalm calm rMinL):=⟨fun pins s Y H xs us Q I r h=>ai3 (hc.trans h.1) pins s Y H xs us Q I r h.2⟩
theorem aod : rMinL [.ref p] H Q=∃ ns:List Int,H p=some (.lst (ns.map V.int))/\ns≠[]/\∀ M:Int,M∈ns->(∀ a∈ns,M<=a)->Q (.int M) H:=
 propext ⟨fun ⟨_,ns,e,h⟩=>(by cases e;exact ⟨ns,h⟩),fun ⟨ns,h⟩=>⟨p,ns,rfl,h⟩⟩
def eR(n:Nat)(fr:St)(Pv:Nat->List V->Hp->Prop)(i:Nat)(ys:List V)(σ2:St)(H2:Hp):Prop:=i<=n/\ys.length<=i/\(∃ v w,σ2=v::w::fr)/\Pv i ys H2
theorem eR.put{fr:St}{Pv:Nat->List V->Hp->Prop}{y:V}{o o2:Option V}(hi:i<n)(hy:ys.length<=i)(p:Pv (i+1) (ys++[y]) H):eR n fr Pv (i+1) (ys++[y]) (o::o2::fr) H:=
 ⟨hi,by rw [D4,b8];lia,⟨_,_,rfl⟩,p⟩
theorem compE{l:Addr}(fr:St)(j0:compStart 2 ixs Y=none::none::fr)(Pv:Addr->Nat->List V->Hp->Prop)(h0:∀ D,H1 D=none->Pv D 0 [] (A0 H1 D (.lst [])))(hl:∀ D i ys H,H1 D=none->i<=xs.length->Pv D i ys H->H l=some (.lst xs))(hs:∀ D i x t ys H,H1 D=none->i<xs.length->xs[i]?=some x->Pv D i ys H->H D=some (.lst ys)->ys.length<=i->H t=none->c (some (.int i)::some x::fr) (A0 H t (.tup [.int i,x])) fun b H4=>
   if b=true then te (some (.int i)::some x::fr) H4 fun y H5=>H5 D=some (.lst ys)/\ys.length<sizeLine/\eR xs.length fr (Pv D) (i+1) (ys++[y]) (some (.int i)::some x::fr) (A0 H5 D (.lst (ys++[y])))
   else H4 D=some (.lst ys)/\eR xs.length fr (Pv D) (i+1) ys (some (.int i)::some x::fr) H4)(hd:∀ D ys H,H1 D=none->Pv D xs.length ys H->H D=some (.lst ys)->ys.length<=xs.length->Q (.ref D) H):cF (hX l) 2 ixs (gTup K 2 (gCons (gName 0) (gCons (gName 1) gNil))) c te Y Q H1:=by
 intro D hD;refine ⟨xs.length,eR xs.length fr (Pv D),⟨J5 _,J5 _,⟨none,none,j0⟩,h0 D hD⟩,?_⟩;rintro i ys σ2 H2 ⟨hi,hy,⟨v,w,rfl⟩,p⟩ hDy;have q:=hl D i ys H2 hD hi p
 by_cases D0:i<xs.length
 .refine .inr ⟨D0,⟨xs,xs[i],q,by simp [D0]⟩,fun x H' y=>?_⟩;obtain ⟨t,xs',x',f1,hx,ht,rfl,rfl⟩:=y;rw [q] at f1;cases f1;exact ⟨t,_,rfl,C7.of A4,rfl,_,_,rfl,_,_,rfl,rfl,hs D i x' t ys H2 hD D0 hx p hDy hy ht⟩
 .have e:i=xs.length:=by lia
  subst e;exact .inl ⟨⟨xs,q,C4 _⟩,hd D ys H2 hD p hDy hy⟩
end L2
set_option maxRecDepth 100000
namespace L2
open PySem PySem.Spec PyProof.Rows
section
variable {X:Cx} {o value:Expr} {to tv:TE} {pos tpos:Pos} {st:Stmt} {t:TS} {h₀:ExceptHandler} {hs:List ExceptHandler}
end
end L2
set_option maxRecDepth 100000
namespace L2
open PySem PySem.Spec PyProof.Rows
theorem aoe{k:Int}{v:V}{Q:Hp->Prop} : rSetL (.ref p) (.int k) v H Q=∃ xs j,H p=some (.lst xs)/\Y2 xs.length k=some j/\Q (A0 H p (.lst (xs.set j v))):=
 propext ⟨fun ⟨_,xs,_,j,e1,e2,h⟩=>(by cases e1;cases e2;exact ⟨xs,j,h⟩),fun ⟨xs,j,h⟩=>⟨p,xs,k,j,rfl,rfl,h⟩⟩
end L2
set_option maxRecDepth 100000
namespace L2
open PySem PySem.Spec PyProof.Rows
def FS(ts bad:List Str)(z:Str->Prop)(fr:List Int):Prop:=fr.Nodup/\∀ n:Int,n∈fr↔∃ (m:Nat) (q:Str),n=(m:Int)/\ts[m]?=some q/\q∉bad/\z q
theorem FS.nil(z:Str->Prop):FS [] [] z []:=⟨by simp,fun n=>by simp⟩
theorem FS.snoc{z:Str->Prop}(h:FS ts bad z fr)(hi:i=ts.length)(hb:q∉bad):(z q->FS (ts++[q]) bad z (fr++[(i:Int)]))/\(¬ z q->FS (ts++[q]) bad z fr):=by
 have L6:∀ (m:Nat) (x:Str),(ts++[q])[m]?=some x↔(ts[m]?=some x\/(m=i/\x=q)):=fun m x=>by
  rcases gJ m ts.length with hm | hm | hm
  .rw [kO hm]
   constructor
   .exact .inl
   .rintro (h | ⟨h,_⟩)
    .exact h
    .lia
  .subst hm;rw [fX (C4 _),Nat.sub_self]
   have:ts[ts.length]?=none:=by simp
   rw [this];simp [hi,eq_comm]
  .have h1:ts[m]?=none:=by simp;lia
   have h2:(ts++[q])[m]?=none:=by simp;lia
   rw [h1,h2]
   simp
   lia
 have jI:(i:Int)∉fr:=fun hm=>by
  obtain ⟨m,x,e,h1,_⟩:=(h.2 _).mp hm
  have:=(J8.mp h1).1
  lia
 refine ⟨fun hz=>⟨?_,fun n=>?_⟩,fun hz=>⟨h.1,fun n=>?_⟩⟩
 .rw [aD];refine ⟨h.1,by simp,fun x hx y hy e=>jI ?_⟩;rw [<- M4.mp hy,<- e];exact hx
 .rw [K5,h.2,M4]
  constructor
  .rintro (⟨m,x,e,h1,h2,h3⟩ | rfl)
   .exact ⟨m,x,e,(L6 m x).mpr (.inl h1),h2,h3⟩
   .exact ⟨i,q,rfl,(L6 i q).mpr (.inr ⟨rfl,rfl⟩),hb,hz⟩
  .rintro ⟨m,x,e,h1,h2,h3⟩
   rcases (L6 m x).mp h1 with h1 | ⟨rfl,rfl⟩
   .exact .inl ⟨m,x,e,h1,h2,h3⟩
   .exact .inr e
 .rw [h.2]
  constructor
  .rintro ⟨m,x,e,h1,h2,h3⟩;exact ⟨m,x,e,(L6 m x).mpr (.inl h1),h2,h3⟩
  .rintro ⟨m,x,e,h1,h2,h3⟩
   rcases (L6 m x).mp h1 with h1 | ⟨rfl,rfl⟩
   .exact ⟨m,x,e,h1,h2,h3⟩
   .exact absurd h3 hz
theorem yC(nd:ts.Nodup)(h1:ts[i]?=some q)(h2:ts[j]?=some q):i=j:=by
 obtain ⟨a1,b1⟩:=J8.mp h1;obtain ⟨a2,b2⟩:=J8.mp h2
 have:=o8.mp nd
 rw [aA] at this
 rcases gJ i j with hl | hl | hl
 .exact absurd (b1.trans b2.symm) (this i j a1 a2 hl)
 .exact hl
 .exact absurd (b2.trans b1.symm) (this j i a2 a1 hl)
theorem FS.take{z:Str->Prop}(nd:ts.Nodup)(h:FS ts bad z fr){M:Nat}{p:Str}(hp:ts[M]?=some p):FS ts (bad++[p]) z (fr.erase (M:Int)):=by
 refine ⟨h.1.erase _,fun n=>?_⟩;rw [h.1.mem_erase_iff,h.2]
 constructor
 .rintro ⟨N0,m,x,e,h1,h2,h3⟩;refine ⟨m,x,e,h1,fun hm=>?_,h3⟩
  rcases K5.mp hm with hm | hm
  .exact h2 hm
  .rw [M4.mp hm] at h1;exact N0 (by rw [e,yC nd h1 hp])
 .rintro ⟨m,x,e,h1,h2,h3⟩;refine ⟨fun e2=>h2 ?_,m,x,e,h1,fun hm=>h2 (R4 _ hm),h3⟩
  have:m=M:=by lia
  subst this;rw [hp] at h1;cases h1
  simp
theorem FS.turn{z z':Str->Prop}(nd:ts.Nodup)(h:FS ts bad z fr)(N0:∀ q,q≠y->(z' q↔z q))(hy:¬ z y)(hm:ts[m]?=some y)(hb:y∉bad):(z' y->FS ts bad z' (fr++[(m:Int)]))/\(¬ z' y->FS ts bad z' fr):=by
 have jI:(m:Int)∉fr:=fun h1=>by
  obtain ⟨k,x,e,h2,_,h3⟩:=(h.2 _).mp h1
  have:k=m:=by lia
  subst this;rw [hm] at h2;cases h2;exact hy h3
 have X7:∀ (k:Nat) (x:Str),ts[k]?=some x->x≠y\/(k=m/\x=y):=fun k x hk=>by
  by_cases e:x=y
  .subst e;exact .inr ⟨yC nd hk hm,rfl⟩
  .exact .inl e
 refine ⟨fun hz=>⟨?_,fun n=>?_⟩,fun hz=>⟨h.1,fun n=>?_⟩⟩
 .rw [aD];refine ⟨h.1,by simp,fun x hx w hw e=>jI ?_⟩;rw [<- M4.mp hw,<- e];exact hx
 .rw [K5,h.2,M4]
  constructor
  .rintro (⟨k,x,e,h1,h2,h3⟩ | rfl)
   .rcases X7 k x h1 with c | ⟨_,rfl⟩
    .exact ⟨k,x,e,h1,h2,(N0 x c).mpr h3⟩
    .exact absurd h3 hy
   .exact ⟨m,y,rfl,hm,hb,hz⟩
  .rintro ⟨k,x,e,h1,h2,h3⟩
   rcases X7 k x h1 with c | ⟨rfl,rfl⟩
   .exact .inl ⟨k,x,e,h1,h2,(N0 x c).mp h3⟩
   .exact .inr e
 .rw [h.2]
  constructor
  .rintro ⟨k,x,e,h1,h2,h3⟩
   rcases X7 k x h1 with c | ⟨_,rfl⟩
   .exact ⟨k,x,e,h1,h2,(N0 x c).mpr h3⟩
   .exact absurd h3 hy
  .rintro ⟨k,x,e,h1,h2,h3⟩
   rcases X7 k x h1 with c | ⟨_,rfl⟩
   .exact ⟨k,x,e,h1,h2,(N0 x c).mp h3⟩
   .exact absurd h3 hz
theorem FS.congr{z z':Str->Prop}(h:FS ts bad z fr)(e:∀ q,z' q↔z q):FS ts bad z' fr:=⟨h.1,fun n=>by rw [h.2];exact ⟨fun ⟨m,x,a,b,c,d⟩=>⟨m,x,a,b,c,(e x).mpr d⟩,fun ⟨m,x,a,b,c,d⟩=>⟨m,x,a,b,c,(e x).mp d⟩⟩⟩
theorem ags{E:List (Str×Str)}(h:FS ts line (fun q=>E6 E line q=0) fr){M:Int}(hM:M∈fr)(dF:∀ a∈fr,M<=a):∃ (m:Nat) (p:Str),M=(m:Int)/\ts[m]?=some p/\nextP E ts line=some p:=by
 obtain ⟨m,p,e,h1,h2,h3⟩:=(h.2 M).mp hM;refine ⟨m,p,e,h1,?_⟩;rw [xG];obtain ⟨hm,rfl⟩:=J8.mp h1;have e1:ts=ts.take m++ts[m]::ts.drop (m+1):=by rw [<- dL hm,o9]
 generalize hP:(fun p=>!decide (p∈line)&&decide (∀ e∈E,e.2=p->e.1∈line))=P;have hp:P ts[m]=true:=by
  rw [<- hP];simp only [W4,Bool.not_eq_true',decide_eq_false_iff_not,decide_eq_true_eq];exact ⟨h2,cnt_zero.mp h3⟩
 have jW:(ts.take m).find? P=none:=by
  rw [List.find?_eq_none];intro x hx hxP;obtain ⟨k,hk,rfl⟩:=Y9.mp hx;rw [M5] at hk;rw [List.getElem_take,<- hP] at hxP;simp only [W4,Bool.not_eq_true',decide_eq_false_iff_not,decide_eq_true_eq] at hxP
  have:=dF (k:Int) ((h.2 _).mpr ⟨k,ts[k],rfl,by simp,hxP.1,cnt_zero.mpr hxP.2⟩)
  lia
 conv=>lhs;rw [e1]
 rw [List.find?_append,jW,k5,hp];rfl
theorem akw{E:List (Str×Str)}(r:Q7 E ts line)(h:q∈line):E6 E line q=0:=by
 obtain ⟨pre,post,rfl⟩:=List.append_of_mem h
 have:=(eN (r pre q post rfl)).2.2
 rw [cnt_zero] at this ⊢
 intro e he h2;exact R4 _ (this e he h2)
theorem yD{f:Str->V} : ∀ {ts pre:List Str},(pre++ts).Nodup->N6 (C2 pre f) (C2 ts f)=C2 (pre++ts) f
 | [],pre,_=>by rw [L3];rfl
 | t::ts,pre,h=>by
  have ht:t∉pre:=fun hm=>(aD.mp h).2.2 t hm t N8 rfl
  show N6 (putK (C2 pre f) (Sum.inr t) (f t)) (C2 ts f)=_;rw [cI _ ht,show C2 (pre++[t]) (fun x=>if x=t then f t else f x)=C2 (pre++[t]) f from U1 fun x _=>by
   by_cases e:x=t
   .rw [if_pos e,e]
   .rw [if_neg e]]
  rw [yD (pre:=pre++[t]) (by simpa using h)]
  simp
theorem yE:∀ {l m:List Int},l.Nodup->(∀ x∈l,x∈m)->l.length<=m.length
 | [],_,_,_=>J5 _
 | x::l,m,nd,h=>by
  obtain ⟨n1,n2⟩:=R5.mp nd;have hx:=h x N8
  have:=yE (l:=l) (m:=m.erase x) n2 fun y hy=>(List.mem_erase_of_ne (fun e=>n1 (by rw [<- e];exact hy))).mpr (h y (N7 _ hy))
  rw [List.length_erase_of_mem hx] at this;have dD:=List.length_pos_of_mem hx;rw [J7];lia
theorem yF{f:Str->V} : ∀ {qs:List Addr} {ts:List Str},Paired (fun q t=>H q=some (.tup [.str t,f t])) qs ts->Paired (fun q (kx:B1×V)=>C7 K H q [kV kx.1,kx.2]) qs (C2 ts f)
 | _,_,.nil=>.nil
 | _,_,.cons h t=>.cons (.of h) (yF t)
def yG:Sp:=fun vs H Q _=>∃ (a:Addr) (rs:List Addr) (zss:List (List Str)),vs=[.ref a]/\IsRows H a rs zss/\zss.flatten.length<=100000/\
 ∀ l H',H l=none->Same H H'->H' l=some (.lst ((toldL zss).map V.str))->Q (.ref l) H'
def eS:Sp:=fun vs H Q _=>∃ c,vs=[.str ⟨#[c]⟩]/\Q (.bl (figO c)) H
def K7(R:List Rl):List (Str×List Str):=R.filterMap fun z=>if z.1=("great" : Str) then z.2.head?.map fun y=>(y,z.2.drop 1) else none
def D6(R:List Rl):List Str:=F6 [] ((K7 R).map (·.1))
def E5(R:List Rl)(y:Str):List Str:=((K7 R).filter fun e=>decide (e.1=y)).flatMap (·.2)
theorem mC(A B:List Rl):K7 (A++B)=K7 A++K7 B:=by
 unfold K7;rw [List.filterMap_append]
theorem qH{R:List Rl}{z:Rl}(h:R[i]?=some z):K7 (R.take (i+1))=K7 (R.take i)++K7 [z]:=by
 rw [M7 h,mC]
theorem mD{z:Rl}(h:z.1≠("great" : Str)):K7 [z]=[]:=by
 unfold K7;rw [bS,if_neg h];rfl
theorem qI{fs:List Str} : K7 [(("great" : Str),y::fs)]=[(y,fs)]:=by
 unfold K7;rw [bS,if_pos rfl];rfl
theorem qJ{A:List Rl}{fs:List Str}(x:Str):E5 (A++[(("great" : Str),y::fs)]) x=if x=y then E5 A x++fs else E5 A x:=by
 unfold E5;rw [mC,qI,gH,V0]
 by_cases h:x=y
 .subst h;simp
 .have:¬ (y=x):=fun e=>h e.symm
  simp [this,h]
theorem mE{A:List Rl}{fs:List Str} : D6 (A++[(("great" : Str),y::fs)])=dd (D6 A) y:=by
 unfold D6 F6;rw [mC,qI,E4,p0];rfl
def yH(K:PySem.W.Frag):Sp:=fun vs H Q _=>∃ (a:Addr) (ts:List Addr) (R:List Rl),vs=[.ref a]/\IsRules H a ts R/\(∀ z∈R,z.1=("great" : Str)->z.2≠[])/\R.length<=1000/\(∀ i y,(E5 (R.take i) y).length<=10000)/\
 ∀ d ad H',H d=none->Same H H'->H' d=some (.dK (C2 (D6 R) fun y=>.ref (ad y)))->DL H H' (D6 R) ad (E5 R)->Q (.ref d) H'
theorem yI(xs:List V)(h:i<=j):cutV xs (some (i:Int)) (some (j:Int))=(xs.drop i).take (j-i):=by
 unfold cutV;rw [HT.sIx_nat,HT.sIx_nat]
 by_cases hi:i<=xs.length
 .rw [dP hi]
  by_cases hj:j<=xs.length
  .rw [dP hj]
  .rw [Nat.min_eq_right (by lia),b0 (by rw [aE];exact C4 _),b0 (by rw [aE];lia)]
 .rw [Nat.min_eq_right (by lia:xs.length<=i),gC (C4 _),gC (by lia),List.take_nil,List.take_nil]
structure Used(ks:List Str)(g:Str->V)(z:Rl):Prop where
 gr:z.1=("great" : Str)->∀ p∈z.2.take 1,p∈ks/\g p=.str "letter"
 a1:z.1=("as" : Str)->∀ p∈(z.2.drop 1).take 1,p∈ks/\g p=.str "letter"
 a2:z.1=("as" : Str)->∀ p∈z.2.drop 2,p∈ks/\(g p=.str "letter"\/g p=.str "mark")
def yJ(K:PySem.W.Frag):Sp:=fun vs H Q _=>∃ (t d:Addr) (z:Rl) (ks:List Str) (g:Str->V),vs=[.ref t,.ref d]/\H t=some (tupR z)/\H d=some (.dK (C2 ks g))/\Used ks g z/\z.2.length<=1000/\∀ p H',H p=none->Same H H'->H' p=some (.lst [])->Q (.ref p) H'
def yK(K:PySem.W.Frag):Sp:=fun vs H Q _=>∃ (a d:Addr) (ts:List Addr) (R:List Rl) (ks:List Str) (g:Str->V),vs=[.ref a,.ref d]/\IsRules H a ts R/\H d=some (.dK (C2 ks g))/\(∀ z∈R,Used ks g z/\z.2.length<=1000)/\∀ H',Same H H'->Q .non H'
abbrev Tr:=Int×Int×Int
def tupT(s:Tr):HO:=.tup [.int s.1,.int s.2.1,.int s.2.2]
structure StepAt(H:Hp)(r:Addr)(ss:List Tr):Prop where
 ex:∃ ts:List Addr,H r=some (.tup (ts.map V.ref))/\Paired (fun t s=>H t=some (tupT s)) ts ss
theorem StepAt.same{ss:List Tr}(h:StepAt H r ss)(S:Same H H'):StepAt H' r ss:=
 let ⟨ts,h1,h2⟩:=h.ex
 ⟨ts,S _ _ h1,R7 h2 fun _ _ e=>S _ _ e⟩
theorem StepAt.put{d:Addr}{ss:List Tr}{o o':HO}(h:StepAt H r ss)(hd:H d=some o')(hn:∀ xs,o'≠.tup xs):StepAt (A0 H d o) r ss:=by
 obtain ⟨ts,h1,h2⟩:=h.ex;refine ⟨ts,?_,R7 h2 fun t s e=>?_⟩
 .rw [B3 (fun e=>by rw [e,hd] at h1;exact hn _ (Option.some.inj h1))];exact h1
 .rw [B3 (fun q=>by rw [q,hd] at e;exact hn _ (Option.some.inj e))];exact e
theorem StepAt.one{s:Tr}(h1:H r=some (.tup [.ref t]))(h2:H t=some (tupT s)):StepAt H r [s]:=⟨[t],h1,.cons h2 .nil⟩
def IsMade(H:Hp)(d:Addr)(ks:List Str)(F:Str->List Tr):Prop:=∃ ad:Str->Addr,H d=some (.dK (C2 ks fun y=>.ref (ad y)))/\∀ y∈ks,StepAt H (ad y) (F y)
theorem IsMade.same{d:Addr}{F:Str->List Tr}(h:IsMade H d ks F)(S:Same H H'):IsMade H' d ks F:=
 let ⟨ad,h1,h2⟩:=h
 ⟨ad,S _ _ h1,fun y hy=>(h2 y hy).same S⟩
theorem IsMade.put{d:Addr}{F:Str->List Tr}{ad:Str->Addr}(h1:H d=some (.dK (C2 ks fun y=>.ref (ad y))))(h2:∀ y∈ks,StepAt H (ad y) (F y)){l:Str}(hp:StepAt H p (F l)) :
  IsMade (A0 H d (.dK (putK (C2 ks fun y=>.ref (ad y)) (Sum.inr l) (.ref p)))) d (dd ks l) F:=by
 refine ⟨fun y=>if y=l then p else ad y,?_,fun y hy=>?_⟩
 .rw [A4];have e:∀ t,(if t=l then V.ref p else V.ref (ad t))=V.ref (if t=l then p else ad t):=fun t=>by
   by_cases h:t=l
   .rw [if_pos h,if_pos h]
   .rw [if_neg h,if_neg h]
  unfold dd
  by_cases hl:l∈ks
  .rw [if_pos hl,lV _ hl];exact congrArg (fun x=>some (HO.dK x)) (U1 fun t _=>e t)
  .rw [if_neg hl,cI _ hl];exact congrArg (fun x=>some (HO.dK x)) (U1 fun t _=>e t)
 .by_cases h:y=l
  .subst h;show StepAt _ (if y=y then p else ad y) _;rw [if_pos rfl];exact hp.put h1 (by intro xs e;cases e)
  .show StepAt _ (if y=l then p else ad y) _;rw [if_neg h];refine (h2 y ?_).put h1 (by intro xs e;cases e);unfold dd at hy
   by_cases hl:l∈ks
   .rw [if_pos hl] at hy;exact hy
   .rw [if_neg hl] at hy
    rcases K5.mp hy with q | q
    .exact q
    .exact absurd (M4.mp q) h
structure StI(H H2:Hp)(d:Addr)(P:List Str)(F:Str->List Tr):Prop where
 same:Same H H2
 made:IsMade H2 d (F6 [] P) F
theorem akx(P:List Str)(x:Str):F6 [] (P++[x])=dd (F6 [] P) x:=by
 unfold F6;rw [p0];rfl
theorem StI.putX{d:Addr}{P:List Str}{F:Str->List Tr}(nd:H d=none)(h:StI H H2 d P F)(hP:P.length<100000){l:Str}(hp:StepAt H2 p (F l)) :
  ∃ kvs o,H2 d=some (.dK kvs)/\DPut H2 d (V.str l) (V.ref p) (A0 H2 d o)/\StI H (A0 H2 d o) d (P++[l]) F:=by
 obtain ⟨ad,h1,h2⟩:=h.made;have hl:=gY P [];rw [f7,Nat.zero_add] at hl;refine ⟨_,_,h1,aO (k:=Sum.inr l) h1 (by rw [i3];exact L4 (by lia)),h.same.put nd,?_⟩;rw [akx];exact IsMade.put h1 h2 hp
theorem StI.put{d:Addr}{P:List Str}{F:Str->List Tr}(nd:H d=none)(h:StI H H2 d P F)(hP:P.length<100000){l:Str}(hp:StepAt H2 p (F l)) :
  ∃ x,DPut H2 d (V.str l) (V.ref p) x/\StI H x d (P++[l]) F:=
 let ⟨_,_,_,h1,h2⟩:=h.putX nd hP hp
 ⟨_,h1,h2⟩
theorem StI.more{d:Addr}{P:List Str}{F:Str->List Tr}(h:StI H H2 d P F)(S:Same H2 H3):StI H H3 d P F:=⟨h.same.trans S,h.made.same S⟩
theorem StI.frz{d:Addr}{P:List Str}{F:Str->List Tr}{o:HO}(h:StI H H2 d P F)(hf:H2 f=some (.dK kvs))(n:H f=none)(nf:f≠d):StI H (A0 H2 f o) d P F:=
 let ⟨ad,h1,h2⟩:=h.made
 ⟨h.same.put n,ad,by rw [B3 nf.symm];exact h1,fun y hy=>(h2 y hy).put hf (by intro xs e;cases e)⟩
theorem StI.thaw{d:Addr}{P:List Str}{F:Str->List Tr}{q:Obj}{o o':HO}(h:StI H H2 d P F)(hf:H2 f=some (.frz q o'))(n:H f=none)(nf:f≠d):StI H (A0 H2 f o) d P F:=
 let ⟨ad,h1,h2⟩:=h.made
 ⟨h.same.put n,ad,by rw [B3 nf.symm];exact h1,fun y hy=>(h2 y hy).put hf (by intro xs e;cases e)⟩
structure FoI(H H2:Hp)(d f:Addr)(o:Obj)(ts:List Str)(af:Str->Addr)(G:Str->List Str)(P:List Str)(F:Str->List Tr):Prop where
 frz:H2 f=some (.frz o (.dK (C2 ts fun y=>.ref (af y))))
 rows:∀ y∈ts,H2 (af y)=some (.lst ((G y).map V.str))
 st:StI H H2 d P F
theorem FoI.more{d:Addr}{af:Str->Addr}{G:Str->List Str}{P:List Str}{F:Str->List Tr}(h:FoI H H2 d f o ts af G P F)(S:Same H2 H3):FoI H H3 d f o ts af G P F:=⟨S _ _ h.frz,fun y hy=>S _ _ (h.rows y hy),h.st.more S⟩
theorem FoI.put{d:Addr}{af:Str->Addr}{G:Str->List Str}{P:List Str}{F:Str->List Tr}(nd:H d=none)(h:FoI H H2 d f o ts af G P F)(hP:P.length<100000){l:Str}(hp:StepAt H2 p (F l)) :
  ∃ x,DPut H2 d (V.str l) (V.ref p) x/\FoI H x d f o ts af G (P++[l]) F:=by
 obtain ⟨kvs,o',h0,h1,h2⟩:=h.st.putX nd hP hp;refine ⟨_,h1,?_,fun y hy=>?_,h2⟩
 .rw [B3 (fun e=>by have:=h.frz;rw [e,h0] at this;cases this)];exact h.frz
 .rw [B3 (fun e=>by have:=h.rows y hy;rw [e,h0] at this;cases this)];exact h.rows y hy
theorem StI.putL{d:Addr}{P:List Str}{F:Str->List Tr}{o:HO}(h:StI H H2 d P F)(hf:H2 f=some (.lst xs))(n:H f=none):StI H (A0 H2 f o) d P F:=
 let ⟨ad,h1,h2⟩:=h.made
 ⟨h.same.put n,ad,by rw [B3 (fun e=>by rw [e,hf] at h1;cases h1)];exact h1,fun y hy=>(h2 y hy).put hf (by intro xs e;cases e)⟩
structure AsI(H H7 H2:Hp)(d:Addr)(P:List Str)(F:Str->List Tr)(ts:List Addr)(ss:List Tr):Prop where
 st:StI H H2 d P F
 pr:Paired (fun t s=>H2 t=some (tupT s)) ts ss
 sm:Same H7 H2
theorem AsI.putL{H7:Hp}{d:Addr}{P:List Str}{F:Str->List Tr}{ts:List Addr}{ss:List Tr}{o:HO}(h:AsI H H7 H2 d P F ts ss)(hf:H2 f=some (.lst xs))(n:H f=none)(n7:H7 f=none):AsI H H7 (A0 H2 f o) d P F ts ss:=
 ⟨h.st.putL hf n,R7 h.pr fun t s e=>by rw [B3 (fun q=>by rw [q,hf] at e;cases e)];exact e,h.sm.put n7⟩
def asKs(R:List Rl):List Str:=R.filterMap fun z=>if z.1=("as" : Str) then z.2.head? else none
theorem yL{R:List Rl}{z:Rl}(h:R[i]?=some z):asKs (R.take (i+1))=asKs (R.take i)++asKs [z]:=by
 rw [M7 h];unfold asKs;rw [List.filterMap_append]
theorem yM{z:Rl}(h:z.1≠("as" : Str)):asKs [z]=[]:=by
 unfold asKs;rw [bS,if_neg h];rfl
theorem yN{fs:List Str} : asKs [(("as" : Str),y::fs)]=[y]:=by
 unfold asKs;rw [bS,if_pos rfl];rfl
theorem aky(R:List Rl):(asKs R).length<=R.length:=List.length_filterMap_le _ _
structure Made(R:List Rl)(L M:List Str)(F:Str->List Tr):Prop where
 lt:∀ (i:Nat) y,L[i]?=some y->F y=[(2,(i:Int),0)]
 mr:∀ (i:Nat) y,M[i]?=some y->F y=[(0,(i:Int),0)]
 gl:∀ y∈D6 R,y∈L
 gr:∀ y∈D6 R,∀ (c:Nat) f,(E5 R y)[c]?=some f->F f=[(2,(L.idxOf y:Int),((c+1:Nat):Int))]
 ne:∀ z∈R,z.1=("as" : Str)\/z.1=("great" : Str)->z.2≠[]
 pt:∀ z∈R,z.1=("as" : Str)->∀ q∈z.2.drop 1,q∈L\/q∈M
 as:∀ z∈R,z.1=("as" : Str)->∀ p qs,z.2=p::qs->F p=qs.map fun q=>(F q).headD (0,0,0)
def allKs(R:List Rl)(L M:List Str):List Str:=L++M++(D6 R).flatMap (E5 R)++asKs R
theorem Made.base{R:List Rl}{F:Str->List Tr}(m:Made R L M F)(h:q∈L\/q∈M):∃ s,F q=[s]:=by
 rcases h with h | h
 .obtain ⟨i,hi,e⟩:=Y9.mp h;exact ⟨_,m.lt i q (by rw [N1 hi,e])⟩
 .obtain ⟨i,hi,e⟩:=Y9.mp h;exact ⟨_,m.mr i q (by rw [N1 hi,e])⟩
theorem Made.letter{R:List Rl}{F:Str->List Tr}(m:Made R L M F)(h:q∈L):F q=[(2,(L.idxOf q:Int),0)]:=by
 have hi:=dM.mpr h;exact m.lt (L.idxOf q) q (by rw [N1 hi,gG])
def yO(K:PySem.W.Frag):Sp:=fun vs H Q _=>∃ (a b c:Addr) (ts:List Addr) (R:List Rl) (L M:List Str) (F:Str->List Tr),vs=[.ref a,.ref b,.ref c]/\IsRules H a ts R/\Made R L M F/\H b=some (.lst (L.map V.str))/\H c=some (.lst (M.map V.str))/\(∀ z∈R,z.2.length<=1000)/\R.length<=1000/\(∀ i y,(E5 (R.take i) y).length<=10000)/\(allKs R L M).length<=50000/\
 ∀ d H',H d=none->Same H H'->IsMade H' d (F6 [] (allKs R L M)) F->Q (.ref d) H'
def baseT(L M:List Str)(q:Str):Tr:=if q∈L then (2,(L.idxOf q:Int),0) else (0,(M.idxOf q:Int),0)
def mF(L M:List Str)(R:List Rl):List (Str×List Tr):=R.filterMap fun z=>if z.1=("as" : Str) then z.2.head?.map fun p=>(p,(z.2.drop 1).map (baseT L M)) else none
def putsL(R:List Rl)(L M:List Str):List (Str×List Tr):=
 (L.zipIdx.map fun e=>(e.1,[((2:Int),(e.2:Int),(0:Int))]))++(M.zipIdx.map fun e=>(e.1,[((0:Int),(e.2:Int),(0:Int))]))++((D6 R).flatMap fun y=>(E5 R y).zipIdx.map fun e=>(e.1,[((2:Int),(L.idxOf y:Int),((e.2+1:Nat):Int))]))++mF L M R
def stepF(R:List Rl)(L M:List Str)(p:Str):List Tr:=((putsL R L M).lookup p).getD []
theorem yP{p:Str}{s:List Tr} : ∀ {l:List (Str×List Tr)},(l.map (·.1)).Nodup->(p,s)∈l->l.lookup p=some s
 | [],_,h=>by cases h
 | (y,t)::l,nd,h=>by
  rw [E8,R5] at nd;rw [gI]
  rcases E7.mp h with h | h
  .obtain ⟨rfl,rfl⟩:=Prod.mk.inj h
   simp
  .have:p≠y:=fun e=>nd.1 (E9.mpr ⟨_,h,e⟩)
   have e:(p==y)=false:=by simpa using this
   rw [e];exact yP nd.2 h
theorem yQ(R:List Rl)(L M:List Str):(putsL R L M).map (·.1)=allKs R L M:=by
 have z:∀ (l:List Str) (f:Nat->List Tr),(l.zipIdx.map fun e=>(e.1,f e.2)).map (·.1)=l:=fun l f=>by
  rw [q0];exact List.zipIdx_map_fst 0 l
 have a:(mF L M R).map (·.1)=asKs R:=by
  unfold mF asKs;rw [List.map_filterMap]
  congr 1
  funext z
  by_cases h:z.1=("as" : Str)
  .rw [if_pos h,if_pos h]
   cases z.2 <;> rfl
  .rw [if_neg h,if_neg h];rfl
 unfold putsL allKs;rw [E4,E4,E4,z L fun i=>[(2,(i:Int),0)],z M fun i=>[(0,(i:Int),0)],a,List.map_flatMap]
 congr 2
 congr 1
 funext y
 exact z (E5 R y) fun i=>[(2,(L.idxOf y:Int),((i+1:Nat):Int))]
theorem eT{R:List Rl}(nd:(allKs R L M).Nodup){p:Str}{s:List Tr}(h:(p,s)∈putsL R L M):stepF R L M p=s:=by
 unfold stepF;rw [yP (by rw [yQ];exact nd) h];rfl
theorem amw{R:List Rl}(nd:(allKs R L M).Nodup)(gl:∀ y∈D6 R,y∈L)(ne:∀ z∈R,z.1=("as" : Str)\/z.1=("great" : Str)->z.2≠[])(pt:∀ z∈R,z.1=("as" : Str)->∀ q∈z.2.drop 1,q∈L\/q∈M):Made R L M (stepF R L M):=by
 have m1:∀ (i:Nat) y,L[i]?=some y->(y,[((2:Int),(i:Int),(0:Int))])∈putsL R L M:=fun i y h=>by
  refine R4 _ (R4 _ (R4 _ (E9.mpr ⟨(y,i),?_,rfl⟩)));rw [List.mem_zipIdx_iff_getElem?];exact h
 have m2:∀ (i:Nat) y,M[i]?=some y->(y,[((0:Int),(i:Int),(0:Int))])∈putsL R L M:=fun i y h=>by
  refine R4 _ (R4 _ (O5 _ (E9.mpr ⟨(y,i),?_,rfl⟩)));rw [List.mem_zipIdx_iff_getElem?];exact h
 have hb:∀ q,q∈L\/q∈M->stepF R L M q=[baseT L M q]:=fun q hq=>by
  unfold baseT
  by_cases h:q∈L
  .rw [if_pos h];have hi:=dM.mpr h;exact eT nd (m1 (L.idxOf q) q (by rw [N1 hi,gG]))
  .rw [if_neg h];have hm:=hq.resolve_left h;have hi:=dM.mpr hm;exact eT nd (m2 (M.idxOf q) q (by rw [N1 hi,gG]))
 refine ⟨fun i y h=>eT nd (m1 i y h),fun i y h=>eT nd (m2 i y h),gl,fun y hy c f h=>eT nd ?_,ne,pt,fun z hz e p qs ez=>?_⟩
 .refine R4 _ (O5 _ (p6.mpr ⟨y,hy,E9.mpr ⟨(f,c),?_,rfl⟩⟩));rw [List.mem_zipIdx_iff_getElem?];exact h
 .have:(p,qs.map (baseT L M))∈putsL R L M:=O5 _ (gF.mpr ⟨z,hz,by rw [if_pos e,ez];rfl⟩)
  rw [eT nd this];refine gE fun q hq=>?_
  rw [hb q (pt z hz e q (by rw [ez];exact hq))];rfl
theorem amx{g:Str->Str}{PL:List (Str×Str)}(nc:NC fg g PL):PL.Pairwise fun a b=>a.1=b.1->b.2∈iC:=by
 rw [aA];intro i j hi hj hij e;refine (nc j PL[j].1 PL[j].2 (by rw [N1 hj])).2.1 ?_;rw [<- e];refine E9.mpr ⟨PL[i],?_,rfl⟩;rw [List.mem_take_iff_getElem];exact ⟨i,by lia,rfl⟩
theorem iE{g:Str->Str}{PL:List (Str×Str)}(nc:NC fg g PL){p j:Str}(h:(p,j)∈PL):g p=j:=by
 obtain ⟨i,hi,e⟩:=Y9.mp h;exact (nc i p j (by rw [N1 hi,e])).1.symm
theorem yR{g:Str->Str}{PL:List (Str×Str)}(nc:NC fg g PL){j:Str}(hj:j∉iC):((PL.filter fun e=>decide (e.2=j)).map (·.1)).Nodup:=by
 rw [o8,List.pairwise_map];refine List.Pairwise.imp_of_mem ?_ ((amx nc).filter _);intro a b _ hb h e
 have:=h e
 have hb2:b.2=j:=by simpa using (U7.mp hb).2
 rw [hb2] at this;exact hj this
theorem mG{w:Str}(h:cJ w):(jobD w=("great" : Str)↔w="great")/\(jobD w=("as" : Str)↔w="as")/\(jobD w=("letter" : Str)↔w="row")/\(jobD w=("mark" : Str)↔w="marks")/\(jobD w=("over" : Str)↔w="over"):=by
 rcases h with rfl | rfl | rfl | rfl | rfl <;> decide +kernel
theorem yS{R:List Rl}{p j:Str} : (p,j)∈D1 R↔∃ z∈R,p∈N5 z/\jobD z.1=j:=by
 unfold D1;rw [p6]
 constructor
 .rintro ⟨z,hz,h⟩;obtain ⟨q,hq,e⟩:=E9.mp h;obtain ⟨rfl,rfl⟩:=Prod.mk.inj e;exact ⟨z,hz,hq,rfl⟩
 .rintro ⟨z,hz,hp,rfl⟩;exact ⟨z,hz,E9.mpr ⟨p,hp,rfl⟩⟩
theorem iF(z:Rl)(R:List Rl):D1 (z::R)=((N5 z).map fun p=>(p,jobD z.1))++D1 R:=by
 unfold D1;rw [V1]
theorem aT{z:Rl} : (z.1=("great" : Str)->N5 z=z.2.drop 1)/\(z.1=("as" : Str)->N5 z=z.2.take 1)/\(z.1=("row" : Str)\/z.1=("marks" : Str)\/z.1=("over" : Str)->N5 z=z.2):=by
 unfold N5;refine ⟨fun h=>by rw [if_pos h],fun h=>?_,fun h=>?_⟩
 .rw [if_neg (by rw [h];decide +kernel),if_pos h]
 .rw [if_neg,if_neg,if_pos h]
  .rcases h with h | h | h <;> rw [h] <;> decide +kernel
  .rcases h with h | h | h <;> rw [h] <;> decide +kernel
theorem iG:∀ R:List Rl,((D1 R).filter fun e=>decide (e.2=("great" : Str))).map (·.1)=(K7 R).flatMap (·.2)
 | []=>rfl
 | z::R=>by
  rw [iF,gH,E4,iG R];have e:K7 (z::R)=K7 [z]++K7 R:=mC [z] R;rw [e,V0]
  congr 1
  by_cases h:z.1=("great" : Str)
  .obtain ⟨w,ps⟩:=z;obtain rfl:w=("great" : Str):=h;rw [aT.1 rfl,List.filter_eq_self.mpr,q0]
   .cases ps with
    | nil=>simp [K7]
    | cons y fs=>
     rw [qI];show L7 _ fs=_;simp [Function.comp_def]
   .intro a ha;obtain ⟨q,_,rfl⟩:=E9.mp ha;exact decide_eq_true (show jobD "great"=("great" : Str) by decide +kernel)
  .rw [mD h,List.filter_eq_nil_iff.mpr]
   .rfl
   .intro a ha;obtain ⟨q,hq,rfl⟩:=E9.mp ha
    have:=(mG (iD hq)).1
    simp only [decide_eq_true_eq];exact fun e=>h (this.mp e)
theorem mH:∀ R:List Rl,((D1 R).filter fun e=>decide (e.2=("as" : Str))).map (·.1)=asKs R
 | []=>rfl
 | z::R=>by
  rw [iF,gH,E4,mH R];have e:asKs (z::R)=asKs [z]++asKs R:=by unfold asKs;rw [<- List.filterMap_append];rfl
  rw [e]
  congr 1
  by_cases h:z.1=("as" : Str)
  .obtain ⟨w,ps⟩:=z;obtain rfl:w=("as" : Str):=h;rw [aT.2.1 rfl,List.filter_eq_self.mpr,q0]
   .cases ps with
    | nil=>simp [asKs]
    | cons y fs=>
     rw [yN];rfl
   .intro a ha;obtain ⟨q,_,rfl⟩:=E9.mp ha;exact decide_eq_true (show jobD "as"=("as" : Str) by decide +kernel)
  .rw [yM h,List.filter_eq_nil_iff.mpr]
   .rfl
   .intro a ha;obtain ⟨q,hq,rfl⟩:=E9.mp ha
    have:=(mG (iD hq)).2.1
    simp only [decide_eq_true_eq];exact fun e=>h (this.mp e)
theorem yT{R:List Rl}{w p:Str} : p∈(rowsW R w).flatten↔∃ z∈R,z.1=w/\p∈z.2:=by
 unfold rowsW;rw [List.mem_flatten]
 constructor
 .rintro ⟨l,hl,hp⟩;obtain ⟨z,hz,rfl⟩:=E9.mp hl;obtain ⟨h1,h2⟩:=U7.mp hz;exact ⟨z,h1,by simpa using h2,hp⟩
 .rintro ⟨z,hz,e,hp⟩;exact ⟨z.2,E9.mpr ⟨z,U7.mpr ⟨hz,by simpa using e⟩,rfl⟩,hp⟩
theorem mem_letter{R:List Rl}{p:Str} : (p,("letter" : Str))∈D1 R↔p∈(rowsW R "row").flatten:=by
 rw [yS,yT]
 constructor
 .rintro ⟨z,hz,hp,e⟩
  have:=(mG (iD hp)).2.2.1.mp e
  exact ⟨z,hz,this,by rw [aT.2.2 (.inl this)] at hp;exact hp⟩
 .rintro ⟨z,hz,e,hp⟩;exact ⟨z,hz,by rw [aT.2.2 (.inl e)];exact hp,by rw [e];decide +kernel⟩
theorem mem_mark{R:List Rl}{p:Str} : (p,("mark" : Str))∈D1 R↔p∈(rowsW R "marks").flatten:=by
 rw [yS,yT]
 constructor
 .rintro ⟨z,hz,hp,e⟩
  have:=(mG (iD hp)).2.2.2.1.mp e
  exact ⟨z,hz,this,by rw [aT.2.2 (.inr (.inl this))] at hp;exact hp⟩
 .rintro ⟨z,hz,e,hp⟩;exact ⟨z,hz,by rw [aT.2.2 (.inr (.inl e))];exact hp,by rw [e];decide +kernel⟩
theorem qK{zss:List (List Str)}{p:Str} : p∈toldL zss↔p∈zss.flatten:=by
 unfold toldL;rw [lL,m3]
 simp
theorem aU{R:List Rl}{w:Str}(h:Q1 R w L){p:Str} : p∈L↔p∈(rowsW R w).flatten:=by
 rw [<- qK];exact ⟨h.1.sub,h.2 p⟩
structure GoodR(g:Str->Str)(r1 r2:Str->Nat)(R:List Rl):Prop where
 len:R.length<=1000
 plen:(D1 R).length<=10000
 nc:NC (hasW R "figures") g (D1 R)
 nb:(" " : Str)∉(D1 R).map (·.1)
 zl:∀ z∈R,z.2.length<=1000
 ne:∀ z∈R,z.1=("as" : Str)\/z.1=("great" : Str)->z.2≠[]
 gl:∀ z∈R,z.1=("great" : Str)->∀ p∈z.2.take 1,(p,("letter" : Str))∈D1 R
 al:∀ z∈R,z.1=("as" : Str)->∀ p∈(z.2.drop 1).take 1,(p,("letter" : Str))∈D1 R
 am:∀ z∈R,z.1=("as" : Str)->∀ p∈z.2.drop 2,(p,("letter" : Str))∈D1 R\/(p,("mark" : Str))∈D1 R
 f1:(rowsW R "row").flatten.length<=10000
 f2:(rowsW R "marks").flatten.length<=10000
 a1:∀ e∈edges (rowsW R "row"),r1 e.1<r1 e.2
 a2:∀ e∈edges (rowsW R "marks"),r2 e.1<r2 e.2
theorem GoodR.job{g:Str->Str}{r1 r2:Str->Nat}{R:List Rl}(h:GoodR g r1 r2 R){p j:Str}(hp:(p,j)∈D1 R):p∈keysP (D1 R)++W8 R/\jobG g p=.str j:=by
 have hm:p∈(D1 R).map (·.1):=E9.mpr ⟨_,hp,rfl⟩;refine ⟨R4 _ ((lY _ _).mpr hm),?_⟩;unfold jobG;rw [if_neg (fun e=>h.nb (by rw [<- e];exact hm)),iE h.nc hp]
theorem GoodR.used{g:Str->Str}{r1 r2:Str->Nat}{R:List Rl}(h:GoodR g r1 r2 R){z:Rl}(hz:z∈R):Used (keysP (D1 R)++W8 R) (jobG g) z:=
 ⟨fun e p hp=>h.job (h.gl z hz e p hp),fun e p hp=>h.job (h.al z hz e p hp),fun e p hp=>(h.am z hz e p hp).elim (fun q=>⟨(h.job q).1,.inl (h.job q).2⟩) fun q=>⟨(h.job q).1,.inr (h.job q).2⟩⟩
theorem forms_mem{R:List Rl}{f:Str} : f∈E5 R y↔∃ e∈K7 R,e.1=y/\f∈e.2:=by
 unfold E5;rw [p6]
 constructor
 .rintro ⟨e,he,hf⟩;obtain ⟨h1,h2⟩:=U7.mp he;exact ⟨e,h1,by simpa using h2,hf⟩
 .rintro ⟨e,he,h,hf⟩;exact ⟨e,U7.mpr ⟨he,by simpa using h⟩,hf⟩
theorem mem_formKs{R:List Rl} : y∈D6 R↔∃ e∈K7 R,e.1=y:=by
 unfold D6;rw [m3,E9]
 simp
theorem yU{g:Str->Str}{r1 r2:Str->Nat}{R:List Rl}(h:GoodR g r1 r2 R)(hL:Q1 R "row" L)(hM:Q1 R "marks" M):(allKs R L M).Nodup:=by
 have Z:((K7 R).flatMap (·.2)).Nodup:=by rw [<- iG];exact yR h.nc (by decide +kernel)
 have jl:∀ p∈L,g p="letter":=fun p hp=>iE h.nc (mem_letter.mpr ((aU hL).mp hp))
 have jm:∀ p∈M,g p="mark":=fun p hp=>iE h.nc (mem_mark.mpr ((aU hM).mp hp))
 have jf:∀ p∈(D6 R).flatMap (E5 R),g p="great":=fun p hp=>by
  obtain ⟨y,_,hp⟩:=p6.mp hp;obtain ⟨e,he,_,hf⟩:=forms_mem.mp hp
  have:p∈(K7 R).flatMap (·.2):=p6.mpr ⟨e,he,hf⟩
  rw [<- iG] at this;obtain ⟨⟨q,j⟩,hq,rfl⟩:=E9.mp this;obtain ⟨h1,h2⟩:=U7.mp hq;have h2:j=("great" : Str):=by simpa using h2
  subst h2;exact iE h.nc h1
 have ja:∀ p∈asKs R,g p="as":=fun p hp=>by
  rw [<- mH] at hp;obtain ⟨⟨q,j⟩,hq,rfl⟩:=E9.mp hp;obtain ⟨h1,h2⟩:=U7.mp hq;have h2:j=("as" : Str):=by simpa using h2
  subst h2;exact iE h.nc h1
 have nf:((D6 R).flatMap (E5 R)).Nodup:=by
  rw [o8,List.pairwise_flatMap] at Z ⊢
  obtain ⟨z1,z2⟩:=Z;refine ⟨fun y _=>?_,?_⟩
  .unfold E5;rw [List.pairwise_flatMap];exact ⟨fun e he=>z1 e (U7.mp he).1,z2.filter _⟩
  .have nk:(D6 R).Nodup:=by unfold D6;exact pU (by simp)
   refine List.Pairwise.imp ?_ (o8.mp nk);intro y y' hyy f hf f' hf' e;subst e;obtain ⟨e1,h1,r1,f1⟩:=forms_mem.mp hf;obtain ⟨e2,h2,r2,f2⟩:=forms_mem.mp hf';obtain ⟨i,hi,q1⟩:=Y9.mp h1;obtain ⟨j,hj,q2⟩:=Y9.mp h2;rw [aA] at z2
   rcases gJ i j with c | c | c
   .exact z2 i j hi hj c f (by rw [q1];exact f1) f (by rw [q2];exact f2) rfl
   .subst c;exact hyy (by rw [<- r1,<- r2,<- q1,<- q2])
   .exact z2 j i hj hi c f (by rw [q2];exact f2) f (by rw [q1];exact f1) rfl
 have na:(asKs R).Nodup:=by rw [<- mH];exact yR h.nc (by decide +kernel)
 have n1:("letter" : Str)≠"mark"/\("letter" : Str)≠"great"/\("letter" : Str)≠"as"/\("mark" : Str)≠"great"/\("mark" : Str)≠"as"/\("great" : Str)≠"as":=by decide +kernel
 unfold allKs;rw [aD,aD,aD];refine ⟨⟨⟨hL.1.nodup,hM.1.nodup,fun a ha b hb e=>?_⟩,nf,fun a ha b hb e=>?_⟩,na,fun a ha b hb e=>?_⟩
 .subst e;exact n1.1 ((jl a ha).symm.trans (jm a hb))
 .subst e
  rcases K5.mp ha with ha | ha
  .exact n1.2.1 ((jl a ha).symm.trans (jf a hb))
  .exact n1.2.2.2.1 ((jm a ha).symm.trans (jf a hb))
 .subst e
  rcases K5.mp ha with ha | ha
  .rcases K5.mp ha with ha | ha
   .exact n1.2.2.1 ((jl a ha).symm.trans (ja a hb))
   .exact n1.2.2.2.2.1 ((jm a ha).symm.trans (ja a hb))
  .exact n1.2.2.2.2.2 ((jf a ha).symm.trans (ja a hb))
theorem yV{g:Str->Str}{r1 r2:Str->Nat}{R:List Rl}(h:GoodR g r1 r2 R)(hL:Q1 R "row" L)(hM:Q1 R "marks" M):Made R L M (stepF R L M):=by
 refine amw (yU h hL hM) (fun y hy=>?_) h.ne fun z hz e q hq=>?_
 .obtain ⟨e,he,rfl⟩:=mem_formKs.mp hy;unfold K7 at he;obtain ⟨z,hz,hh⟩:=gF.mp he
  by_cases hg:z.1=("great" : Str)
  .rw [if_pos hg] at hh;obtain ⟨w,ps⟩:=z
   cases ps with
   | nil=>cases hh
   | cons y fs=>
    have hh:=Option.some.inj hh;rw [<- hh];exact (aU hL).mpr (mem_letter.mp (h.gl _ hz hg y (by simp)))
  .rw [if_neg hg] at hh;cases hh
 .rw [<- o9 1 (z.2.drop 1)] at hq
  rcases K5.mp hq with hq | hq
  .exact .inl ((aU hL).mpr (mem_letter.mp (h.al z hz e q hq)))
  .rw [List.drop_drop] at hq
   rcases h.am z hz e q hq with h1 | h1
   .exact .inl ((aU hL).mpr (mem_letter.mp h1))
   .exact .inr ((aU hM).mpr (mem_mark.mp h1))
theorem amy{g:Str->Str}{r1 r2:Str->Nat}{R:List Rl}(h:GoodR g r1 r2 R)(hL:Q1 R "row" L)(hM:Q1 R "marks" M):(allKs R L M).length<=10000:=by
 refine M6 ?_ h.plen
 have:=List.Nodup.length_le_of_subset (l₂:=(D1 R).map (·.1)) (yU h hL hM) fun p hp=>by
  unfold allKs at hp
  rcases K5.mp hp with hp | hp
  .rcases K5.mp hp with hp | hp
   .rcases K5.mp hp with hp | hp
    .exact E9.mpr ⟨_,mem_letter.mpr ((aU hL).mp hp),rfl⟩
    .exact E9.mpr ⟨_,mem_mark.mpr ((aU hM).mp hp),rfl⟩
   .obtain ⟨y,_,hp⟩:=p6.mp hp;obtain ⟨e,he,_,hf⟩:=forms_mem.mp hp
    have:p∈(K7 R).flatMap (·.2):=p6.mpr ⟨e,he,hf⟩
    rw [<- iG] at this;obtain ⟨q,hq,rfl⟩:=E9.mp this;exact E9.mpr ⟨q,(U7.mp hq).1,rfl⟩
  .rw [<- mH] at hp;obtain ⟨q,hq,rfl⟩:=E9.mp hp;exact E9.mpr ⟨q,(U7.mp hq).1,rfl⟩
 rw [A8] at this;exact this
theorem ai8{g:Str->Str}{r1 r2:Str->Nat}{R:List Rl}(h:GoodR g r1 r2 R)(i:Nat)(y:Str):(E5 (R.take i) y).length<=10000:=by
 refine M6 ?_ h.plen;have h1:(E5 (R.take i) y).length<=((K7 (R.take i)).flatMap (·.2)).length:=by
  unfold E5;generalize K7 (R.take i)=E
  induction E with
  | nil=>exact C4 _
  | cons e E ih=>
   rw [List.filter_cons]
   split
   .rw [V1,V1,D4,D4];lia
   .rw [V1,D4];lia
 have h2:((K7 (R.take i)).flatMap (·.2)).length<=(D1 (R.take i)).length:=by
  rw [<- iG,A8];exact List.length_filter_le _ _
 obtain ⟨more,e⟩:=xQ R i;rw [e,D4];lia
theorem IsMade.mod{d:Addr}{F:Str->List Tr}{o o':HO}(h:IsMade H d ks F)(ha:H a=some o')(hn:∀ xs,o'≠.tup xs)(nd:d≠a):IsMade (A0 H a o) d ks F:=
 let ⟨ad,h1,h2⟩:=h
 ⟨ad,by rw [B3 nd];exact h1,fun y hy=>(h2 y hy).put ha hn⟩
structure IsOrd(C:Addr)(H:Hp)(x j ll ml md:Addr)(g:Str->Str)(R:List Rl)(L M:List Str):Prop where
 ob:∃ dx,H x=some (.ins C dx (ordF (hasW R "figures") (hasW R "behind") j ll ml md))
 jobs:H j=some (.dK (C2 (keysP (D1 R)++W8 R) (jobG g)))
 lets:H ll=some (.lst (L.map V.str))
 mrks:H ml=some (.lst (M.map V.str))
 made:IsMade H md (F6 [] (allKs R L M)) (stepF R L M)
 l1:Q1 R "row" L
 l2:Q1 R "marks" M
theorem IsOrd.same{x j ll ml md:Addr}{g:Str->Str}{R:List Rl}(h:IsOrd C H x j ll ml md g R L M)(s:Same H H'):IsOrd C H' x j ll ml md g R L M:=
 ⟨let ⟨dx,e⟩:=h.ob;⟨dx,s _ _ e⟩,s _ _ h.jobs,s _ _ h.lets,s _ _ h.mrks,h.made.same s,h.l1,h.l2⟩
def qL(C:Addr):Sp:=fun vs H Q _=>∃ (x dx a:Addr) (ts:List Addr) (R:List Rl) (g:Str->Str) (r1 r2:Str->Nat),vs=[.ref x,.ref a]/\H x=some (.ins C dx [])/\IsRules H a ts R/\GoodR g r1 r2 R/\
 ∀ j ll ml md L M H',H j=none->H ll=none->H ml=none->H md=none->SameBut x H H'->IsOrd C H' x j ll ml md g R L M->Q .non H'
def yW(C:Addr):Sp:=fun vs H Q _=>∃ (x j ll ml md:Addr) (g:Str->Str) (R:List Rl) (L M:List Str),vs=[.ref x]/\IsOrd C H x j ll ml md g R L M/\∀ l,H l=none->Q (.ref l) (A0 H l (.lst (L.map V.str)))
def yX(C:Addr):Sp:=fun vs H Q _=>∃ (x j ll ml md:Addr) (g:Str->Str) (R:List Rl) (L M:List Str),vs=[.ref x]/\IsOrd C H x j ll ml md g R L M/\∀ l,H l=none->Q (.ref l) (A0 H l (.lst (M.map V.str)))
def yY(C:Addr):Sp:=fun vs H Q _=>∃ (x j ll ml md:Addr) (p:Str) (g:Str->Str) (R:List Rl) (L M:List Str),vs=[.ref x,.str p]/\IsOrd C H x j ll ml md g R L M/\Q (if p∈keysP (D1 R)++W8 R then jobG g p else .non) H
end L2
set_option maxRecDepth 100000
namespace L2
open PySem PySem.Spec PyProof.Rows
structure RulesAt(H0 H:Hp)(a:Addr)(ts:List Addr)(R:List Rl):Prop where
 rows:IsRules H a ts R
 nd:(a::ts).Nodup
 new:∀ r∈a::ts,H0 r=none
 same:Same H0 H
theorem ahO{E:List (Str×Str)}(r:Q7 E ts line){e:Str×Str}(he:e∈E)(h2:e.2∈line):line.idxOf e.1<line.idxOf e.2:=by
 obtain ⟨pre,post,el⟩:=List.append_of_mem h2;obtain ⟨h3,h4,h5⟩:=eN (r pre e.2 post el);have h6:=cnt_zero.mp h5 e he rfl;rw [el,List.idxOf_append,if_pos h6,List.idxOf_append,if_neg h4]
 have:=dM.mpr h6
 lia
theorem yZ{E:List (Str×Str)}(nd:ps.Nodup)(tnd:ts.Nodup)(r:Q7 E ts line)(cov:∀ p∈ts,p∈line)(hm:∀ p,p∈ts↔p∈ps)(hE:∀ e∈R3 ps,e∈E):line=ps:=by
 have hl:line.length=ps.length:=by
  rw [lU tnd r cov];exact ((List.perm_ext_iff_of_nodup tnd nd).mpr fun a=>hm a).length_eq
 have L6:∀ p∈ps,p∈line:=fun p hp=>cov p ((hm p).mpr hp)
 have D0:∀ i (h:i<ps.length),line.idxOf ps[i]<ps.length:=fun i h=>by
  rw [<- hl];exact dM.mpr (L6 _ (List.getElem_mem h))
 have step:∀ i (h:i+1<ps.length),line.idxOf ps[i]<line.idxOf ps[i+1]:=fun i h=>by
  have he:(ps[i],ps[i+1])∈R3 ps:=by
   have:=xJ (zs:=ps) (j:=i) (x:=ps[i]) (y:=ps[i+1]) (N1 (by lia)) (by rw [List.getElem?_tail];exact N1 h)
   exact O1 this
  exact ahO r (hE _ he) (L6 _ (List.getElem_mem h))
 have up:∀ i (h:i<ps.length),i<=line.idxOf ps[i]:=by
  intro i
  induction i with
  | zero=>intro h;exact J5 _
  | succ i ih=>
   intro h
   have:=ih (by lia)
   have:=step i h
   lia
 have down:∀ d i (h:i<ps.length),ps.length-1-i=d->line.idxOf ps[i]<=i:=by
  intro d
  induction d with
  | zero=>
   intro i h e
   have:=D0 i h
   lia
  | succ d ih=>
   intro i h e;have h1:=ih (i+1) (by lia) (by lia);have h2:=step i (by lia);lia
 refine List.ext_getElem hl fun i h1 h2=>?_
 have e:line.idxOf ps[i]=i:=Nat.le_antisymm (down _ i h2 rfl) (up i h2)
 have:=gG (x:=ps[i]) (xs:=line) (by rw [e];exact h1)
 simp only [e] at this;exact this
def qM(ns:List Int)(k:Int)(p:Str):Prop:=∃ rest:List Nat,p.cps.toList=eP ns k::rest/\rest.length<=1/\∀ c∈rest,∃ m:Int,c=eP ns m
def zC(ns:List Int)(S:Int->Prop)(p:Str):Prop:=∃ k,S k/\qM ns k p
structure Dis(ns:List Int)(S:Int->Prop)(ps:List Str):Prop where
 nd:ps.Nodup
 pc:∀ p∈ps,zC ns S p
 uq:∀ p∈ps,∀ q∈ps,∀ k:Int,20<=k->k<83->qM ns k p->qM ns k q->p=q
def LetS(k:Int):Prop:=0<=k/\k<16
structure LetW(ns:List Int)(n:Int)(ps:List Str):Prop where
 n0:2<=n
 n1:n<=16
 all:∀ k:Int,0<=k->k<n->one (eP ns k)∈ps
 each:∀ p∈ps,∃ k:Int,0<=k/\k<n/\(p=one (eP ns k)\/∃ m:Int,0<=m/\m<n/\p=one (eP ns k)++one (eP ns m))
theorem pickL{u:Addr}{n:Int}(h:H u=some (.lst (zs.map V.str)))(h1:1<=zs.length)(q:∀ p∈zs,Q (.str p) H) :
  ∃ m:Nat,LenR K H u m/\0<(m:Int)/\∃ xs,(C9 K H u xs\/C7 K H u xs)/\∃ x,F8 xs (n % (m:Int))=some x/\Q x H:=by
 obtain ⟨v,e,hm⟩:=eD (xs:=zs.map V.str) (i:=n % (zs.length:Int)) (Int.emod_nonneg _ (by lia)) (by rw [A8];exact Int.emod_lt_of_pos _ (by lia));obtain ⟨p,hp,rfl⟩:=E9.mp hm;exact ⟨zs.length,.inl ⟨_,.of h,by rw [A8]⟩,by lia,_,.inl (.of h),_,e,q p hp⟩
def OthZ(ls ms:List Str)(z:Rl):Prop:=(z.1=("great" : Str)/\∃ l fs,z.2=l::fs/\l∈ls/\1<=fs.length/\fs.length<=2)\/(z.1=("as" : Str)/\∃ p q qs,z.2=p::q::qs/\q∈ls/\(∀ r∈qs,r∈ls\/r∈ms)/\qs.length<=2)\/(z.1=("over" : Str)/\z.2.length<=2)
def GS(i:Nat)(k:Int):Prop:=(30<=k/\k<30+(i:Int))\/(34<=k/\k<34+(i:Int))
def AS(i:Nat)(k:Int):Prop:=GS 3 k\/(40<=k/\k<40+(i:Int))
def OS(k:Int):Prop:=AS 3 k\/(50<=k/\k<52)
def MarkS(k:Int):Prop:=20<=k/\k<25
def flagW(w:Str):Prop:=w=("figures" : Str)\/w=("behind" : Str)\/w=("blanks" : Str)
structure RulP(ns:List Int)(ls ms:List Str)(b:Bool)(n:Nat)(R:List Rl):Prop where
 dis:Dis ns (fun k=>LetS k\/OS k\/(b=true/\MarkS k)) ((D1 R).map (·.1))
 row:rowsW R "row"=[ls]
 mrk:rowsW R "marks"=if b=true then [ms] else []
 each:∀ z∈R,z=(("row" : Str),ls)\/(z=(("marks" : Str),ms)/\b=true)\/OthZ ls ms z\/(z.2=[]/\flagW z.1)
 len:R.length<=n
 fig:hasW R "figures"=true->qD ns=false
 oi:∀ z∈R,OthZ ls ms z->∀ p∈N5 z,zC ns OS p
def qN(R:List Rl)(p:Str):Str:=((D1 R).lookup p).getD ""
theorem zD(nd:ps.Nodup){e:Str×Str}(he:e∈R3 ps):ps.idxOf e.1<ps.idxOf e.2:=by
 unfold R3 at he;obtain ⟨i,hi,e1⟩:=Y9.mp he;rw [List.getElem_zip] at e1;have o4:i+1<ps.length:=by rw [List.length_zip,List.length_tail] at hi;lia
 have hi3:i<ps.tail.length:=by rw [List.length_tail];lia
 have e3:ps.tail[i]'hi3=ps[i+1]:=List.getElem_tail hi3;have f1:ps[i]=e.1:=congrArg Prod.fst e1;have f2:ps[i+1]=e.2:=e3.symm.trans (congrArg Prod.snd e1);have a1:ps.idxOf ps[i]=i:=List.Nodup.idxOf_getElem nd i (by lia);have a2:ps.idxOf ps[i+1]=i+1:=List.Nodup.idxOf_getElem nd (i+1) o4;rw [<- f1,<- f2,a1,a2];lia
structure RulG(ns:List Int)(ls ms:List Str)(R:List Rl):Prop where
 p:∃ b,RulP ns ls ms b 12 R/\(b=false->ms=[])
 l0:2<=ls.length
 l1:ls.length<=19
 ld:Dis ns LetS ls
 lw:∃ n,LetW ns n ls
 m1:ms.length<=4
 md:Dis ns MarkS ms
theorem amz(c d:Nat):(V8 c d).cps.toList=[c,d]:=rfl
theorem zE(c:Nat):(one c).cps.toList=[c]:=rfl
def spLaw(K:PySem.W.Frag):Sp:=fun vs H Q _=>∃ (a:Addr) (ns:List Int),vs=[.ref a]/\C9 K H a (ns.map V.int)/\ns.length<=63/\∀ H',Q (.bl true) H'
end L2
set_option maxRecDepth 100000
namespace L2
open PySem PySem.Spec PyProof.Rows
def rIntU:List V->Hp->VK->Prop
 | [.bl b],H,Q=>Q (.int (if b then 1 else 0)) H
 | [.str x],H,Q=>PySem.NumText.AllDigits x.cps.toList/\1<=x.length/\x.length<=640/\Q (.int ((k7 x.cps.toList:Nat):Int)) H
 | _,_,_=>False
theorem zF : QCall X (.type "int") rIntU:=⟨by
 intro pins s Y H xs us Q I r h
 match xs,h with
 | [.bl b],h=>exact aid pins s Y H _ us Q I r (.inr ⟨b,rfl,h⟩)
 | [.str x],h=>
  obtain ⟨h1,h2,h3,q⟩:=h;obtain ⟨u,rfl,r1⟩:=vals1 r;obtain ⟨t,rfl⟩:=r1;have N0:x.cps.toList≠[]:=fun e=>by
   have:x.cps.toList.length=x.length:=by simp [Str.length]
   rw [e] at this;simp at this;lia
  exact PySem.W.KIN.call_text (PySem.intText_digits h1 N0 (by lia)) h3 ⟨V.int ((k7 x.cps.toList:Nat):Int),H,I.tok _,⟨_,rfl⟩,q⟩⟩
theorem aof{b:Bool} : rIntU [.bl b] H Q=Q (.int (if b then 1 else 0)) H:=rfl
theorem aog{x:Str} : rIntU [.str x] H Q=(PySem.NumText.AllDigits x.cps.toList/\1<=x.length/\x.length<=640/\Q (.int ((k7 x.cps.toList:Nat):Int)) H):=rfl
def rInD(K:PySem.W.Frag)(x y:V)(H:Hp)(Q:VK):Prop:=∃ (d:PyData) (ds:List PyData),Dn K H x d/\Dn K H y (.list ds)/\min (PyData.depthAll ds) d.depth<=60/\Q (.bl (ds.any fun e=>Z3 e d)) H
theorem aoh{y:V} : rInD K x y H Q=∃ (d:PyData) (ds:List PyData),Dn K H x d/\Dn K H y (.list ds)/\min (PyData.depthAll ds) d.depth<=60/\Q (.bl (ds.any fun e=>Z3 e d)) H:=rfl
end L2
set_option maxRecDepth 100000
namespace L2
open PySem PySem.Spec PyProof.Rows
open PySem.Builtin PySem.Builtin.Str PySem.StrLaws
def aoi:List V->Hp->VK->Prop:=fun xs H Q=>∃ n,xs=[.int n]/\n.natAbs.log2<1920/\Q (.str (Str.ofString (toString n))) H
theorem zG : QCall X (.type "str") aoi:=⟨by
 intro pins s Y H xs us Q I r h;obtain ⟨n,rfl,hn,q⟩:=h
 cases r with
 | cons r1 r2=>
  cases r2
  obtain ⟨t,rfl⟩:=r1;exact PySem.P.str_of_int hn ⟨.str _,H,I.tok _,⟨_,rfl⟩,q⟩⟩
theorem zH:∀ (k fuel n:Nat) (ds:List Char),n<10 ^ (k+1)->(Nat.toDigitsCore 10 fuel n ds).length<=k+1+ds.length
 | k,0,n,ds,_=>by simp [Nat.toDigitsCore]
 | 0,fuel+1,n,ds,h=>by
  unfold Nat.toDigitsCore
  have:n / 10=0:=by lia
  simp only [this,if_true,J7];lia
 | k+1,fuel+1,n,ds,h=>by
  unfold Nat.toDigitsCore;simp only
  split
  .simp;lia
  .have:=zH k fuel (n / 10) (Nat.digitChar (n % 10)::ds) (by rw [Nat.div_lt_iff_lt_mul (by decide)];rw [Nat.pow_succ] at h;exact h)
   simp at this ⊢
   lia
def rTupA(K:PySem.W.Frag):R2:=fun x y H Q=>∃ a b xs ys,x=.ref a/\y=.ref b/\C7 K H a xs/\C7 K H b ys/\ys≠[]/\xs.length+ys.length<=sizeLine/\∀ p H',Same H H'->C7 K H' p (xs++ys)->(H' p=some (.tup (xs++ys))\/xs=[]/\p=b)->Q (.ref p) H'
theorem aoj : rTupA K (.ref a) (.ref b) H Q=∃ xs ys,C7 K H a xs/\C7 K H b ys/\ys≠[]/\xs.length+ys.length<=sizeLine/\∀ p H',Same H H'->C7 K H' p (xs++ys)->(H' p=some (.tup (xs++ys))\/xs=[]/\p=b)->Q (.ref p) H':=
 propext ⟨fun ⟨_,_,xs,ys,e1,e2,h⟩=>(by cases e1;cases e2;exact ⟨xs,ys,h⟩),fun ⟨xs,ys,h⟩=>⟨a,b,xs,ys,rfl,rfl,h⟩⟩
end L2
set_option maxRecDepth 100000
namespace L2
open PySem PySem.Spec PyProof.Rows
theorem zI{d:Value}(h:(us++[d]).length=3):∃ u1 u2,us=[u1,u2]:=by
 match us,h with
 | [a,b],_=>exact ⟨a,b,rfl⟩
 | [],h=>simp at h
 | [_],h=>simp at h
 | _::_::_::r,h=>simp at h
theorem eU(g:List Str)(z:Str):(valV (kvOf g) (Sum.inr z)).isSome=decide (z∈g):=by
 rw [<- pJ];unfold valV;rw [Option.isSome_map,List.isSome_find?]
theorem qO{y rest:List Nat}(h:z.cps.toList=pre++(y++rest)):cutS z (some (pre.length:Int)) (some ((pre.length:Int)+(y.length:Int)))=⟨y.toArray⟩:=by
 have hl:z.length=pre.length+(y.length+rest.length):=by
  have:=congrArg f8 h
  simp [Str.length] at this ⊢
  lia
 apply Str.ext'
 apply Array.toList_inj.mp
 rw [pL,h];have e1:HT.sIx z.length 0 (some (pre.length:Int))=pre.length:=by rw [HT.sIx_nat];lia
 have e2:HT.sIx z.length z.length (some ((pre.length:Int)+(y.length:Int)))=pre.length+y.length:=by
  rw [show (pre.length:Int)+(y.length:Int)=((pre.length+y.length:Nat):Int) by lia,HT.sIx_nat];lia
 rw [e1,e2,List.drop_left,show pre.length+y.length-pre.length=y.length by lia,List.take_left]
theorem zJ{c:Nat}(h:z.cps.toList=pre++[c]):cutS z (some (pre.length:Int)) (some ((pre.length:Int)+2))=one c:=by
 have hl:z.length=pre.length+1:=by
  have:=congrArg f8 h
  simp [Str.length] at this ⊢
  lia
 apply Str.ext'
 apply Array.toList_inj.mp
 rw [pL,h];have e1:HT.sIx z.length 0 (some (pre.length:Int))=pre.length:=by rw [HT.sIx_nat];lia
 have e2:HT.sIx z.length z.length (some ((pre.length:Int)+2))=pre.length+1:=by
  rw [show (pre.length:Int)+2=((pre.length+2:Nat):Int) by lia,HT.sIx_nat];lia
 rw [e1,e2,List.drop_left,show pre.length+1-pre.length=1 by lia];rfl
theorem zK{r:List Nat}{c:Nat} : F8 (pre++c::r) (pre.length:Int)=some c:=O3 (by rw [fX (C4 _),Nat.sub_self];rfl)
theorem zL:∀ (zs acc:List Str),N6 (kvOf acc) (kvOf zs)=kvOf (F6 acc zs)
 | [],acc=>rfl
 | z::zs,acc=>by
  show N6 (putK (kvOf acc) (Sum.inr z) (.bl true)) (kvOf zs)=kvOf (F6 (dd acc z) zs);rw [wF,zL zs]
def zN:Sp:=fun vs H Q _=>∃ (z:Str) (pre rest:List Nat),vs=[.str z,.int pre.length]/\z.length<=1000/\z.cps.toList=pre++rest/\Q (.str ⟨(rest.takeWhile figO).toArray⟩) H
theorem zO(h:(us++[]).length=3):∃ u1 u2 u3,us=[u1,u2,u3]:=by
 match us,h with
 | [a,b,c],_=>exact ⟨a,b,c,rfl⟩
 | [],h=>simp at h
 | [_],h=>simp at h
 | [_,_],h=>simp at h
 | _::_::_::_::r,h=>simp at h
theorem lenL(z:Str):z.cps.toList.length=z.length:=by simp [Str.length]
def partG(g:List Str):List Nat->Option Str
 | []=>none
 | [c]=>if one c∈g then some (one c) else none
 | c::d::_=>if V8 c d∈g then some (V8 c d) else if one c∈g then some (one c) else none
theorem eV(g:List Str)(c:Nat):partG g [c]=if one c∈g then some (one c) else none:=rfl
theorem eW(g:List Str)(c d:Nat)(r:List Nat):partG g (c::d::r)=if V8 c d∈g then some (V8 c d) else if one c∈g then some (one c) else none:=rfl
def partF(w:Bool)(g:List Str):List Nat->Option Str
 | []=>none
 | c::r=>if (w&&figO c)=true then some ⟨((c::r).takeWhile figO).toArray⟩ else partG g (c::r)
theorem cK(w:Bool)(g:List Str)(c:Nat)(r:List Nat):partF w g (c::r)=if (w&&figO c)=true then some ⟨((c::r).takeWhile figO).toArray⟩ else partG g (c::r):=rfl
theorem zP{g:List Str} : ∀ {l:List Nat},partG g l=some y->∃ rest,l=y.cps.toList++rest/\1<=y.length
 | [],h=>by cases h
 | [c],h=>by
  rw [eV] at h
  by_cases hc:one c∈g
  .rw [if_pos hc] at h;cases h;exact ⟨[],rfl,by show 1<=1;decide⟩
  .rw [if_neg hc] at h;cases h
 | c::d::r,h=>by
  rw [eW] at h
  by_cases h2:V8 c d∈g
  .rw [if_pos h2] at h;cases h;exact ⟨r,rfl,by show 1<=2;decide⟩
  .rw [if_neg h2] at h
   by_cases hc:one c∈g
   .rw [if_pos hc] at h;cases h;exact ⟨d::r,rfl,by show 1<=1;decide⟩
   .rw [if_neg hc] at h;cases h
theorem agv{g:List Str}(h:∀ x,x∈g↔x∈g'):∀ l,partG g l=partG g' l
 | []=>rfl
 | [c]=>by
  rw [eV,eV]
  by_cases hc:one c∈g
  .rw [if_pos hc,if_pos ((h _).mp hc)]
  .rw [if_neg hc,if_neg (fun z=>hc ((h _).mpr z))]
 | c::d::r=>by
  rw [eW,eW]
  by_cases h2:V8 c d∈g
  .rw [if_pos h2,if_pos ((h _).mp h2)]
  .rw [if_neg h2,if_neg (fun z=>h2 ((h _).mpr z))]
   by_cases hc:one c∈g
   .rw [if_pos hc,if_pos ((h _).mp hc)]
   .rw [if_neg hc,if_neg (fun z=>hc ((h _).mpr z))]
theorem agw{w:Bool}{g:List Str}(h:∀ x,x∈g↔x∈g')(l:List Nat):partF w g l=partF w g' l:=by
 cases l with
 | nil=>rfl
 | cons c r=>rw [cK,cK,agv h]
theorem zQ{w:Bool}{g:List Str}{l:List Nat}(h:partF w g l=some y):∃ rest,l=y.cps.toList++rest/\1<=y.length:=by
 cases l with
 | nil=>cases h
 | cons c r=>
  rw [cK] at h
  by_cases hw:(w&&figO c)=true
  .rw [if_pos hw] at h;cases h;rw [W4] at hw;refine ⟨(c::r).dropWhile figO,(List.takeWhile_append_dropWhile).symm,?_⟩;show 1<=((c::r).takeWhile figO).length;rw [List.takeWhile_cons_of_pos hw.2]
   simp
  .rw [if_neg hw] at h;exact zP h
def cutFn(w:Bool)(g:List Str):Nat->List Nat->Nat×List Str
 | 0,_=>(0,[])
 | n+1,l=>match partF w g l with
  | none=>(0,[])
  | some y=>((cutFn w g n (l.drop y.length)).1+y.length,y::(cutFn w g n (l.drop y.length)).2)
def cutF(w:Bool)(g:List Str)(l:List Nat):Nat×List Str:=cutFn w g l.length l
theorem zR(w:Bool)(g:List Str):∀ (n m:Nat) (l:List Nat),l.length<=n->l.length<=m->cutFn w g n l=cutFn w g m l
 | 0,0,_,_,_=>rfl
 | 0,m+1,l,h,_=>by
  have:l=[]:=aB.mp (by lia)
  subst this;rfl
 | n+1,0,l,_,h=>by
  have:l=[]:=aB.mp (by lia)
  subst this;rfl
 | n+1,m+1,l,h1,h2=>by
  cases e:partF w g l with
  | none=>show (match partF w g l with | none=>_ | some y=>_)=(match partF w g l with | none=>_ | some y=>_);rw [e]
  | some y=>
   obtain ⟨rest,e1,e2⟩:=zQ e;have hd:(l.drop y.length).length=l.length-y.length:=aE
   have:=zR w g n m (l.drop y.length) (by lia) (by lia)
   show (match partF w g l with | none=>_ | some y=>_)=(match partF w g l with | none=>_ | some y=>_);rw [e]
   dsimp only
   rw [this]
theorem iH{w:Bool}{g:List Str}{l:List Nat}(h:partF w g l=none):cutF w g l=(0,[]):=by
 unfold cutF;cases hl:l.length with
 | zero=>rfl
 | succ n=>
  show (match partF w g l with | none=>_ | some y=>_)=_;rw [h]
theorem eX(w:Bool)(g:List Str):cutF w g []=(0,[]):=rfl
theorem cL{w:Bool}{g:List Str}{l:List Nat}(h:partF w g l=some y):∃ rest,l=y.cps.toList++rest/\cutF w g l=((cutF w g rest).1+y.length,y::(cutF w g rest).2)/\1<=y.length:=by
 obtain ⟨rest,e1,e2⟩:=zQ h;refine ⟨rest,e1,?_,e2⟩;have el:l.length=y.length+rest.length:=by rw [e1,D4,lenL]
 have ed:l.drop y.length=rest:=by rw [e1,<- lenL,List.drop_left]
 unfold cutF;cases hl:l.length with
 | zero=>lia
 | succ k=>
  show (match partF w g l with | none=>_ | some y=>_)=_;rw [h]
  dsimp only
  rw [ed,zR w g k rest.length rest (by lia) (C4 _)]
theorem ahP{w:Bool}{g:List Str}(h:∀ x,x∈g↔x∈g')(l:List Nat):cutF w g l=cutF w g' l:=by
 have:∀ n l,cutFn w g n l=cutFn w g' n l:=by
  intro n
  induction n with
  | zero=>intro l;rfl
  | succ n ih=>
   intro l;show (match partF w g l with | none=>_ | some y=>_)=(match partF w g' l with | none=>_ | some y=>_);rw [agw h]
   cases partF w g' l with
   | none=>rfl
   | some y=>dsimp only;rw [ih]
 exact this _ _
theorem qP{w:Bool}{g:List Str} : ∀ (n:Nat) (l:List Nat),l.length<=n->(cutF w g l).1<=l.length/\(cutF w g l).2.length<=l.length/\∀ y∈(cutF w g l).2,∀ c∈y.cps.toList,c∈l
 | 0,l,h=>by
  have:l=[]:=aB.mp (by lia)
  subst this;rw [eX];exact ⟨C4 _,C4 _,by simp⟩
 | n+1,l,h=>by
  cases e:partF w g l with
  | none=>rw [iH e];exact ⟨J5 _,J5 _,by simp⟩
  | some y=>
   obtain ⟨rest,e1,e2,e3⟩:=cL e;have hl:l.length=y.length+rest.length:=by rw [e1,D4,lenL]
   obtain ⟨a,b,c⟩:=qP (w:=w) (g:=g) n rest (by lia);rw [e2];refine ⟨by dsimp only;lia,by dsimp only;rw [J7];lia,fun z hz x hx=>?_⟩;rw [e1]
   rcases E7.mp hz with r | r
   .rw [r] at hx;exact K5.mpr (.inl hx)
   .exact K5.mpr (.inr (c z r x hx))
def m5(w:Bool)(g:List Str)(z:Str):Prop:=(cutF w g z.cps.toList).1=z.length
def zS:Sp:=fun vs H Q _=>∃ (d:Addr) (z:Str) (g:List Str) (pre:List Nat) (c:Nat) (r:List Nat) (w:Bool) (y:Str),vs=[.ref d,.str z,.int pre.length,.bl w]/\H d=some (.dK (kvOf g))/\z.length<=1000/\z.cps.toList=pre++c::r/\partF w g (c::r)=some y/\Q (.str y) H
def mI(K:PySem.W.Frag):Sp:=fun vs H Q _=>∃ (a:Addr) (z:Str) (ks:List Str) (w:Bool),vs=[.ref a,.str z,.bl w]/\C9 K H a (ks.map V.str)/\ks.length<=1000/\z.length<=1000/\m5 w ks z/\
 ∀ l H',H l=none->Same H H'->H' l=some (.lst ((cutF w ks z.cps.toList).2.map V.str))->Q (.ref l) H'
abbrev D8:=Int×Int×List Int×Int
def addM(U:List D8)(p:Int):List D8:=match U.getLast? with
 | none=>[(0,0,[p],0)]
 | some u=>U.dropLast++[(u.1,u.2.1,u.2.2.1++[p],u.2.2.2)]
def addS(U:List D8)(s:Tr):List D8:=if s.1=0 then addM U s.2.1 else U++[(s.1,s.2.1,[],s.2.2)]
def UnAt(H:Hp)(e:Addr×Addr)(u:D8):Prop:=H e.1=some (.tup [.int u.1,.int u.2.1,.ref e.2,.int u.2.2.2])/\H e.2=some (.lst (u.2.2.1.map V.int))
structure UnI(H0 H:Hp)(l:Addr)(es:List (Addr×Addr))(U:List D8):Prop where
 top:H l=some (.lst (es.map fun e=>V.ref e.1))
 row:Paired (UnAt H) es U
 nd:(l::es.map (·.2)).Nodup
 new:∀ a∈l::es.map (·.2),H0 a=none
 same:Same H0 H
theorem UnI.more{l:Addr}{es:List (Addr×Addr)}{U:List D8}(h:UnI H0 H l es U)(S:Same H H'):UnI H0 H' l es U:=⟨S _ _ h.top,R7 h.row fun _ _ e=>⟨S _ _ e.1,S _ _ e.2⟩,h.nd,h.new,h.same.trans S⟩
theorem UnI.live{l:Addr}{es:List (Addr×Addr)}{U:List D8}(h:UnI H0 H l es U)(ha:a∈es.map (·.2)):∃ xs,H a=some (.lst xs):=by
 obtain ⟨e,he,rfl⟩:=E9.mp ha;obtain ⟨i,hi,q⟩:=Y9.mp he;obtain ⟨u,_,hu⟩:=Paired.at h.row (i:=i) (a:=e) (by rw [N1 hi,q]);exact ⟨_,hu.2⟩
theorem UnI.push{l m:Addr}{es:List (Addr×Addr)}{U:List D8}(h:UnI H0 H l es U)(nm:H m=none){k w c:Int}(nt:A0 H m (.lst []) t=none) :
  UnI H0 (A0 (A0 (A0 H m (.lst [])) t (.tup [.int k,.int w,.ref m,.int c])) l (.lst ((es.map fun e=>V.ref e.1)++[V.ref t]))) l (es++[(t,m)]) (U++[(k,w,[],c)]):=by
 have nlm:l≠m:=fun e=>by have:=h.top;rw [e,nm] at this;cases this
 have nmt:m≠t:=fun e=>by rw [<- e,A4] at nt;cases nt
 have S:Same H (A0 (A0 H m (.lst [])) t (.tup [.int k,.int w,.ref m,.int c])):=(Same.new nm).trans (Same.new nt);have hl:=S _ _ h.top;have nlt:l≠t:=fun e=>by rw [<- e,(Same.new nm) _ _ h.top] at nt;cases nt
 have nK:=R5.mp h.nd;refine ⟨by rw [A4,E4];rfl,Paired.snoc (lN h.row fun e he u hu=>⟨?_,?_⟩) ⟨?_,?_⟩,?_,fun a ha=>?_,(h.same.trans S).put (h.new l N8)⟩
 .rw [B3 (fun q=>by have:=S _ _ hu.1;rw [q,hl] at this;cases this)];exact S _ _ hu.1
 .rw [B3 (fun q=>nK.1 (by rw [<- q];exact E9.mpr ⟨e,he,rfl⟩))];exact S _ _ hu.2
 .rw [B3 nlt.symm,A4]
 .rw [B3 nlm.symm,B3 nmt,A4];rfl
 .rw [E4];exact pD h.nd fun q=>by
   rcases E7.mp q with q | q
   .exact nlm q.symm
   .obtain ⟨xs,hx⟩:=h.live q;rw [nm] at hx;cases hx
 .rw [E4] at ha
  rcases E7.mp ha with q | q
  .rw [q];exact h.new l N8
  .rcases K5.mp q with q | q
   .exact h.new a (N7 _ q)
   .rw [M4.mp q];exact h.same.free nm
theorem UnI.mark{l:Addr}{es:List (Addr×Addr)}{e:Addr×Addr}{U:List D8}{u:D8}(h:UnI H0 H l (es++[e]) (U++[u]))(p:Int) :
  UnI H0 (A0 H e.2 (.lst (u.2.2.1.map V.int++[V.int p]))) l (es++[e]) (U++[(u.1,u.2.1,u.2.2.1++[p],u.2.2.2)]):=by
 obtain ⟨hr,he⟩:=pK h.row;have nK:=h.nd;have nl:l≠e.2:=fun q=>(R5.mp nK).1 (by rw [q];simp)
 have nn:∀ x∈es,x.2≠e.2:=fun x hx q=>by
  have:=(R5.mp nK).2
  rw [E4,aD] at this;exact this.2.2 x.2 (E9.mpr ⟨x,hx,rfl⟩) e.2 (by simp) q
 have nt:∀ {x:Addr×Addr} {v:D8},UnAt H x v->x.1≠e.2:=fun {x v} hx q=>by
  have:=hx.1;rw [q,he.2] at this;cases this
 refine ⟨by rw [B3 nl];exact h.top,Paired.snoc (lN hr fun x hx v hv=>⟨?_,?_⟩) ⟨?_,?_⟩,h.nd,h.new,h.same.put (h.new _ (N7 _ (by simp)))⟩
 .rw [B3 (nt hv)];exact hv.1
 .rw [B3 (nn x hx)];exact hv.2
 .rw [B3 (nt he)];exact he.1
 .rw [A4,E4];rfl
def IsUn(H:Hp)(l:Addr)(U:List D8):Prop:=∃ es:List (Addr×Addr),H l=some (.lst (es.map fun e=>V.ref e.1))/\Paired (fun e (u:D8)=>H e.1=some (.tup [.int u.1,.int u.2.1,.ref e.2,.int u.2.2.2])/\H e.2=some (.tup (u.2.2.1.map V.int))) es U
theorem IsUn.same{l:Addr}{U:List D8}(h:IsUn H l U)(S:Same H H'):IsUn H' l U:=
 let ⟨es,h1,h2⟩:=h
 ⟨es,S _ _ h1,R7 h2 fun _ _ e=>⟨S _ _ e.1,S _ _ e.2⟩⟩
def I0(R:List Rl):List Str:=keysP (D1 R)++W8 R
def Q2(S:Str->List Tr)(ps:List Str):List D8:=(ps.flatMap S).foldl addS []
def qQ(C:Addr):Sp:=fun vs H Q _=>∃ (x j ll ml md:Addr) (g:Str->Str) (R:List Rl) (L M:List Str),vs=[.ref x]/\IsOrd C H x j ll ml md g R L M/\∀ l,H l=none->Q (.ref l) (A0 H l (.lst ((I0 R).map V.str)))
def mJ(C:Addr):Sp:=fun vs H Q _=>∃ (x j ll ml md:Addr) (p:Str) (g:Str->Str) (R:List Rl) (L M:List Str),vs=[.ref x,.str p]/\IsOrd C H x j ll ml md g R L M/\∀ r H',Same H H'->StepAt H' r (stepF R L M p)->Q (.ref r) H'
def zT(C:Addr):Sp:=fun vs H Q _=>∃ (x j ll ml md:Addr) (z:Str) (g:Str->Str) (R:List Rl) (L M:List Str),vs=[.ref x,.str z]/\IsOrd C H x j ll ml md g R L M/\(I0 R).length<=1000/\z.length<=1000/\m5 (hasW R "figures") (I0 R) z/\
 ∀ l H',H l=none->Same H H'->H' l=some (.lst ((cutF (hasW R "figures") (I0 R) z.cps.toList).2.map V.str))->Q (.ref l) H'
theorem ahQ{R:List Rl}{p:Str}(h:p∉allKs R L M):stepF R L M p=[]:=by
 unfold stepF
 have:(putsL R L M).lookup p=none:=by
  rw [List.lookup_eq_none_iff];intro e he
  have:e.1∈allKs R L M:=by rw [<- yQ];exact E9.mpr ⟨e,he,rfl⟩
  have ne:p≠e.1:=fun q=>h (by rw [q];exact this)
  simpa using ne
 rw [this];rfl
def stepY(R:List Rl)(L M:List Str)(y:Str):List Tr:=if (hasW R "figures" && figO (y.cps.toList.headD 0))=true then [(1,((k7 y.cps.toList:Nat):Int),0)] else stepF R L M y
theorem akz{R:List Rl}(h:hasW R "figures"=false)(L M:List Str):stepY R L M=stepF R L M:=by
 funext y
 unfold stepY;rw [h,Bool.false_and,if_neg K3]
def FigR(y:Str):Prop:=figO (y.cps.toList.headD 0)=true->PySem.NumText.AllDigits y.cps.toList
def zU(C:Addr):Sp:=fun vs H Q _=>∃ (x j ll ml md:Addr) (c:Nat) (r:List Nat) (y:Str) (g:Str->Str) (R:List Rl) (L M:List Str),vs=[.ref x,.str y]/\y.cps.toList=c::r/\y.length<=640/\IsOrd C H x j ll ml md g R L M/\(hasW R "figures"=true->FigR y)/\∀ r H',Same H H'->StepAt H' r (stepY R L M y)->Q (.ref r) H'
def zV(K:PySem.W.Frag):Sp:=fun vs H Q _=>∃ (l:Addr) (p:Int) (H0:Hp) (es:List (Addr×Addr)) (U:List D8),vs=[.ref l,.int p]/\UnI H0 H l es U/\U.length<=10000/\(∀ u∈U,u.2.2.1.length<=10000)/\∀ es' H',UnI H0 H' l es' (addM U p)->Q .non H'
def zW(C:Addr):Sp:=fun vs H Q _=>∃ (x l j ll ml md:Addr) (c:Nat) (r:List Nat) (y:Str) (g:Str->Str) (R:List Rl) (L M:List Str) (H0:Hp) (es:List (Addr×Addr)) (U:List D8),vs=[.ref x,.ref l,.str y]/\y.cps.toList=c::r/\y.length<=640/\IsOrd C H0 x j ll ml md g R L M/\(hasW R "figures"=true->FigR y)/\UnI H0 H l es U/\(stepY R L M y).length<=1000/\U.length<=9000/\(∀ u∈U,u.2.2.1.length<=9000)/\
 ∀ es' H',UnI H0 H' l es' ((stepY R L M y).foldl addS U)->Q .non H'
theorem akA{U:List D8}{p:Int} : (addM U p).length<=U.length+1:=by
 unfold addM;cases e:U.getLast? with
 | none=>simp
 | some u=>simp only [D4,List.length_dropLast,b8];lia
theorem ahR{U:List D8}{p:Int}(h:∀ u∈U,u.2.2.1.length<=n):∀ u∈addM U p,u.2.2.1.length<=n+1:=by
 unfold addM;cases e:U.getLast? with
 | none=>intro u hu;rw [M4.mp hu];simp
 | some v=>
  intro u hu
  rcases K5.mp hu with q | q
  .have:=h u ((List.dropLast_sublist U).subset q);lia
  .rw [M4.mp q]
   have:=h v (List.mem_of_getLast? e)
   simp only [D4,b8];lia
theorem akB{U:List D8}{s:Tr} : (addS U s).length<=U.length+1:=by
 unfold addS
 split
 .exact akA
 .simp
theorem ahS{U:List D8}{s:Tr}(h:∀ u∈U,u.2.2.1.length<=n):∀ u∈addS U s,u.2.2.1.length<=n+1:=by
 unfold addS
 split
 .exact ahR h
 .intro u hu
  rcases K5.mp hu with q | q
  .have:=h u q;lia
  .rw [M4.mp q];exact J5 _
theorem qR:∀ (ss:List Tr) (U:List D8),(ss.foldl addS U).length<=U.length+ss.length
 | [],U=>C4 _
 | s::ss,U=>by
  rw [List.foldl_cons,J7];have h1:=qR ss (addS U s);have h2:=akB (U:=U) (s:=s);lia
theorem qS:∀ (ss:List Tr) (U:List D8) (n:Nat),(∀ u∈U,u.2.2.1.length<=n)->∀ u∈ss.foldl addS U,u.2.2.1.length<=n+ss.length
 | [],U,n,h=>h
 | s::ss,U,n,h=>by
  intro u hu
  have:=qS ss (addS U s) (n+1) (ahS h) u hu
  rw [J7];lia
theorem ajg(f b:Bool)(j ll ml md:Addr):(ordF f b j ll ml md).lookup ("made" : Str)=some (V.ref md):=by
 unfold ordF;rw [K4,if_pos rfl]
def cutH(H:Hp)(as:List Addr):Hp:=fun a=>if a∈as then none else H a
theorem mK(H:Hp)(as:List Addr):Same (cutH H as) H:=fun a o h=>by
 unfold cutH at h
 by_cases q:a∈as
 .rw [if_pos q] at h;cases h
 .rw [if_neg q] at h;exact h
theorem UnI.base{l:Addr}{es:List (Addr×Addr)}{U:List D8}(S:Same H0 H1)(h:UnI H1 H l es U):UnI H0 H l es U:=⟨h.top,h.row,h.nd,fun a ha=>S.free (h.new a ha),S.trans h.same⟩
theorem UnI.cut{l:Addr}{es:List (Addr×Addr)}{U:List D8}(h:UnI H0 H l es U):∃ H1,Same H0 H1/\UnI H1 H l es U/\∀ a xs,H a=some (.tup xs)->H1 a=some (.tup xs):=by
 refine ⟨cutH H (l::es.map (fun e=>e.2)),fun a o ha=>?_,⟨h.top,h.row,h.nd,fun a ha=>by unfold cutH;exact if_pos ha,mK _ _⟩,fun a xs ha=>?_⟩
 .unfold cutH;rw [if_neg (fun q=>by rw [h.new a q] at ha;cases ha)];exact h.same _ _ ha
 .unfold cutH;rw [if_neg fun q=>?_]
  .exact ha
  .rcases E7.mp q with q | q
   .rw [q,h.top] at ha;cases ha
   .obtain ⟨ys,hy⟩:=h.live q;rw [hy] at ha;cases ha
theorem ahT{α β:Type}{F:α->β->Prop}{m:List β}(h:Paired F [] m):m=[]:=by cases h;rfl
theorem qT{α:Type}{l:List α}(h:l≠[]):∃ l' x,l=l'++[x]:=⟨l.dropLast,l.getLast h,(List.dropLast_concat_getLast h).symm⟩
def zX(C:Addr):Sp:=fun vs H Q _=>∃ (x j ll ml md:Addr) (z:Str) (g:Str->Str) (R:List Rl) (L M:List Str),vs=[.ref x,.str z]/\IsOrd C H x j ll ml md g R L M/\(I0 R).length<=1000/\z.length<=500/\m5 (hasW R "figures") (I0 R) z/\(∀ y,(stepY R L M y).length<=15)/\
 ∀ l H',H l=none->Same H H'->IsUn H' l (Q2 (stepY R L M) (cutF (hasW R "figures") (I0 R) z.cps.toList).2)->Q (.ref l) H'
def qU(n:Nat)(fr:St)(Pv:Nat->List V->Hp->Prop)(i:Nat)(ys:List V)(σ2:St)(H2:Hp):Prop:=i<=n/\ys.length<=i/\(∃ v0 v1 v2 v3,σ2=v0::v1::v2::v3::fr)/\Pv i ys H2
theorem aok(fr:St)(j0:compStart 4 ixs Y=none::none::none::none::fr)(Pv:Addr->Nat->List V->Hp->Prop)(h0:∀ D,H1 D=none->Pv D 0 [] (A0 H1 D (.lst [])))(hl:∀ D i ys H,H1 D=none->i<=xs.length->Pv D i ys H->C9 K H a xs)(hs:∀ D i x ys H,H1 D=none->i<xs.length->xs[i]?=some x->Pv D i ys H->H D=some (.lst ys)->ys.length<=i->∃ t v0 v1 v2 v3,x=.ref t/\C7 K H t [v0,v1,v2,v3]/\c (some v0::some v1::some v2::some v3::fr) H fun b H4=>
   if b=true then te (some v0::some v1::some v2::some v3::fr) H4 fun y H5=>H5 D=some (.lst ys)/\ys.length<sizeLine/\qU xs.length fr (Pv D) (i+1) (ys++[y]) (some v0::some v1::some v2::some v3::fr) (A0 H5 D (.lst (ys++[y])))
   else H4 D=some (.lst ys)/\qU xs.length fr (Pv D) (i+1) ys (some v0::some v1::some v2::some v3::fr) H4)(hd:∀ D ys H,H1 D=none->Pv D xs.length ys H->H D=some (.lst ys)->ys.length<=xs.length->Q (.ref D) H):cF (k8 K a) 4 ixs (gTup K 4 (gCons (gName 0) (gCons (gName 1) (gCons (gName 2) (gCons (gName 3) gNil))))) c te Y Q H1:=by
 intro D hD;refine ⟨xs.length,qU xs.length fr (Pv D),⟨J5 _,J5 _,⟨none,none,none,none,j0⟩,h0 D hD⟩,?_⟩;rintro i ys σ2 H2 ⟨hi,hy,⟨w0,w1,w2,w3,rfl⟩,p⟩ hDy;have q:=hl D i ys H2 hD hi p
 by_cases D0:i<xs.length
 .refine .inr ⟨D0,⟨xs,xs[i],q,by simp [D0]⟩,fun x H' y=>?_⟩;obtain ⟨e,y⟩:=y;subst e;obtain ⟨t,v0,v1,v2,v3,rfl,ht,z⟩:=hs D i x ys _ hD D0 (y xs q) p hDy hy;exact ⟨t,_,rfl,ht,rfl,_,_,rfl,_,_,rfl,_,_,rfl,_,_,rfl,rfl,z⟩
 .have e:i=xs.length:=by lia
  subst e;exact .inl ⟨⟨xs,q,C4 _⟩,hd D ys H2 hD p hDy hy⟩
theorem zY{w:Bool}{g:List Str} : ∀ (n:Nat) (l:List Nat),l.length<=n->∀ y∈(cutF w g l).2,1<=y.length
 | 0,l,h,y,hy=>by
  have:l=[]:=aB.mp (by lia)
  subst this;rw [eX] at hy;cases hy
 | n+1,l,h,y,hy=>by
  cases e:partF w g l with
  | none=>rw [iH e] at hy;cases hy
  | some x=>
   obtain ⟨rest,e1,e2,e3⟩:=cL e;rw [e2] at hy
   rcases E7.mp hy with q | q
   .rw [q];exact e3
   .refine zY n rest ?_ y q
    have:=congrArg f8 e1
    rw [D4,lenL] at this;lia
theorem agy{S:Str->List Tr}(h:ps[i]?=some y):Q2 S (ps.take (i+1))=(S y).foldl addS (Q2 S (ps.take i)):=by
 unfold Q2;rw [M7 h,V0,p0,V1,dO,L3]
theorem qV{S:Str->List Tr}(hs:∀ y,(S y).length<=15):∀ (ps:List Str),(Q2 S ps).length<=15*ps.length/\∀ u∈Q2 S ps,u.2.2.1.length<=15*ps.length:=fun ps=>by
 have h0:(ps.flatMap S).length<=15*ps.length:=by
  induction ps with
  | nil=>exact C4 _
  | cons p ps ih=>
   rw [V1,D4,J7]
   have:=hs p
   lia
 have h1:=qR (ps.flatMap S) [];have h2:=qS (ps.flatMap S) [] 0 (by simp);unfold Q2;rw [f7] at h1;exact ⟨by lia,fun u hu=>by have:=h2 u hu;lia⟩
theorem zZ{w:Bool}{g:List Str} : ∀ (n:Nat) (l:List Nat),l.length<=n->∀ y∈(cutF w g l).2,y.length<=l.length
 | 0,l,h,y,hy=>by
  have:l=[]:=aB.mp (by lia)
  subst this;rw [eX] at hy;cases hy
 | n+1,l,h,y,hy=>by
  cases e:partF w g l with
  | none=>rw [iH e] at hy;cases hy
  | some x=>
   obtain ⟨rest,e1,e2,e3⟩:=cL e;rw [e2] at hy;have hl:=congrArg f8 e1;rw [D4,lenL] at hl
   rcases E7.mp hy with q | q
   .rw [q];lia
   .have:=zZ n rest (by lia) y q
    lia
theorem ak6{p:Nat->Bool}{d:Nat} : ∀ {l:List Nat},d∈l.takeWhile p->p d=true
 | [],h=>by cases h
 | c::r,h=>by
  rw [List.takeWhile_cons] at h
  by_cases hc:p c=true
  .rw [if_pos hc] at h
   rcases E7.mp h with q | q
   .rw [q];exact hc
   .exact ak6 q
  .rw [if_neg hc] at h;cases h
theorem ajj{w:Bool}{g:List Str}{l:List Nat}(h:partF w g l=some y):w=true->FigR y:=by
 intro hw hf
 cases l with
 | nil=>cases h
 | cons c r=>
  rw [cK,hw,Bool.true_and] at h
  by_cases hc:figO c=true
  .rw [if_pos hc] at h;obtain rfl:=Option.some.inj h;intro d hd;have hd:d∈(c::r).takeWhile figO:=by simpa using hd
   have:=ak6 hd
   unfold figO at this;rw [W4,decide_eq_true_eq,decide_eq_true_eq] at this;exact this
  .exfalso
   rw [if_neg hc] at h;obtain ⟨rest,e,hl⟩:=zP h
   have:y.cps.toList.headD 0=c:=by
    cases hy:y.cps.toList with
    | nil=>rw [<- lenL,hy] at hl;simp at hl
    | cons d t=>rw [hy] at e;exact (List.cons.inj e).1.symm
   rw [this] at hf;exact hc hf
theorem ahk{w:Bool}{g:List Str} : ∀ (n:Nat) (l:List Nat),l.length<=n->∀ y∈(cutF w g l).2,w=true->FigR y
 | 0,l,h,y,hy=>by
  have:l=[]:=aB.mp (by lia)
  subst this;rw [eX] at hy;cases hy
 | n+1,l,h,y,hy=>by
  cases e:partF w g l with
  | none=>rw [iH e] at hy;cases hy
  | some x=>
   obtain ⟨rest,e1,e2,e3⟩:=cL e;rw [e2] at hy;have hl:=congrArg f8 e1;rw [D4,lenL] at hl
   rcases E7.mp hy with q | q
   .rw [q];exact ajj e
   .exact ahk n rest (by lia) y q
end L2
variable {R:List L2.Rl}
set_option maxRecDepth 100000
namespace L2
open PySem PySem.Spec PyProof.Rows
structure StepL(H:Hp)(r:Addr)(ss:List Tr):Prop where
 ex:∃ ts:List Addr,H r=some (.lst (ts.map V.ref))/\Paired (fun t s=>H t=some (tupT s)) ts ss
def IsMk(H:Hp)(d:Addr)(ks:List Str)(F:Str->List Tr):Prop:=∃ ad:Str->Addr,H d=some (.dK (C2 ks fun y=>.ref (ad y)))/\∀ y∈ks,StepL H (ad y) (F y)
structure MkI(H H2:Hp)(d:Addr)(P:List Str)(F:Str->List Tr):Prop where
 same:Same H H2
 made:IsMk H2 d (F6 [] P) F
theorem W6(hT:C7 K H t xs)(q:∀ p H',Same H H'->C7 K H' p (xs.take 2)->Q (.ref p) H'):rSlR K t none (some 2) H Q:=by
 by_cases h:xs.length<=2
 .refine rSlR.w hT ⟨rfl,?_⟩ (q t H (lF H) (by rw [b0 h];exact hT));rw [show ((2:Int))=((2:Nat):Int) from rfl,HT.sIx_nat];lia
 .refine g7 hT (fun e=>?_) fun p np=>q p _ (Same.new np) (.of ?_)
  .have:=e.2
   rw [show ((2:Int))=((2:Nat):Int) from rfl,HT.sIx_nat] at this;lia
  .rw [A4,show cutV xs none (some 2)=_ from wV xs 2]
def UnT(H:Hp)(e:Addr×Addr)(u:D8):Prop:=H e.1=some (.tup [.int u.1,.int u.2.1,.ref e.2,.int u.2.2.2])/\H e.2=some (.tup (u.2.2.1.map V.int))
structure UnJ(H0 H:Hp)(l:Addr)(es:List (Addr×Addr))(U:List D8):Prop where
 same:Same H0 H
 new:H0 l=none
 top:H l=some (.lst (es.map fun e=>V.ref e.1))
 row:Paired (UnT H) es U
theorem q_pow : QOp X (binaryOp .Pow) (rI CPow fun i j=>.int (i ^ j.toNat)):=⟨am6⟩
end L2
set_option maxRecDepth 100000
namespace L2
open PySem PySem.Spec PyProof.Rows
def tRev(K:PySem.W.Frag)(te:TE)(tk:TO):TE:=fun Y H Q=>te Y H fun x H1=>tk Y H1 fun k H2=>k=some (-1)/\∃ a xs,x=.ref a/\C9 K H2 a xs/\∀ p,H2 p=none->Q (.ref p) (A0 H2 p (.lst xs.reverse))
theorem uaj(r:Vals xs us):Vals xs.reverse us.reverse:=by
 induction r with
 | nil=>exact .nil
 | cons h t ih=>
  rw [List.reverse_cons,List.reverse_cons];exact ih.append (.cons h .nil)
theorem aol{k:Expr}{tk:TO}{pos:Pos}(he:PE X e te)(hk:PO X (some k) tk):PE X (.Subscript e (.Slice none none (some k) p2) pos) (tRev X.K te tk):=by
 intro pins s Y H Q I h;refine Subscript_ (B5 (he pins s Y H _ I h) fun v s1 ⟨x,H1,I1,r1,q1⟩=>?_);refine wpAny_Slice ?_;rw [evalPart_none];refine wpAny_pure ?_;refine wpAny_pure ?_;refine B5 (hk pins s1 Y H1 _ I1 q1) fun vk s3 ⟨kk,H3,I3,pk,q3⟩=>?_
 obtain ⟨rfl,a,xs,rfl,hx,q⟩:=q3;have I4:Inv X pins Y H3 { s3 with heap:=s3.heap.push { cls:=.type "slice",data:=.fields #[.none,.none,vk] } }:=I3.kept (t':=s3.toks) fun b ob q=>Heap.get?_push_of_some _ q
 cases r1
 obtain ⟨its,r,ht,hz⟩:=I4.list hx;have A9:=r.length;show wpAny (model X.prog X.w) X.A (subscriptTail e (.Slice none none (some k) p2) (.ref a) (.ref s3.heap.objs.size)) (EP X pins Y Q) X.xe { s3 with heap:=s3.heap.push { cls:=.type "slice",data:=.fields #[.none,.none,vk] } };refine tail_any (ops:=[.ref a,.ref s3.heap.objs.size]) ht.isList.typeIs slot_list_getitem.lookup ?_ (by with_unfolding_all rfl);refine wpAny_getItem_list_slice ht.isList (Heap.IsSliceOf.new ..) .none .none pk (by simp) ?_ (by rw [J9] <;> lia);rw [PySem.W.krv_pick];refine ⟨.ref _,_,I4.laid (o:=.lst xs.reverse) (fun b ob q=>Heap.get?_push_of_some _ q) (C4 _) ?_,rfl,q _ (I4.hok.fresh (C4 _))⟩;exact ⟨by rw [List.length_reverse];exact hz,_,0,uaj r,Heap.get?_push_size _ rfl⟩
theorem aom{k:Expr}{tk:TO}{pos:Pos}(he:QE X e te)(hk:QO X (some k) tk)(hK:X.K=K:=by rfl):QE X (.Subscript e (.Slice none none (some k) p2) pos) (tRev K te tk):=by subst hK;exact ⟨aol he.out hk.out⟩
theorem amA{tk:TO} : tRev K te tk Y H Q=te Y H fun x H1=>tk Y H1 fun k H2=>k=some (-1)/\∃ a xs,x=.ref a/\C9 K H2 a xs/\∀ p,H2 p=none->Q (.ref p) (A0 H2 p (.lst xs.reverse)):=rfl
end L2
set_option maxRecDepth 100000
namespace PySem
section
variable {prog:Program} {w:World} {A:Around} {E:Value->Shared->Prop} {s:Shared}
end
end PySem
namespace L2
open PySem PySem.Spec PyProof.Rows
def tLRev(ta:TA):TE:=fun Y H Q=>ta Y H fun vs H1=>∃ (l:Addr) (xs:List V),vs=[.ref l]/\H1 l=some (.lst xs)/\∀ p,H1 p=none->Q (.ref p) (A0 H1 p (.lst xs.reverse))
theorem amB : tLRev ta Y H Q=ta Y H fun vs H1=>∃ (l:Addr) (xs:List V),vs=[.ref l]/\H1 l=some (.lst xs)/\∀ p,H1 p=none->Q (.ref p) (A0 H1 p (.lst xs.reverse)):=rfl
end L2
set_option maxRecDepth 100000
namespace L2
open PySem PySem.Spec PyProof.Rows
def W9(k w:Int):List Int:=if k=0 then [1] else if k=1 then [2,w+1] else [w+3]
def O0(U:List D8):List Int:=U.flatMap fun u=>W9 u.1 u.2.1
theorem aeC(k w:Int):(W9 k w).length<=2:=by
 unfold W9
 split
 .simp
 .split <;> simp
theorem qW:∀ U:List D8,(O0 U).length<=2*U.length
 | []=>C4 _
 | u::U=>by
  have h1:=qW U;have h2:=aeC u.1 u.2.1;show (W9 u.1 u.2.1++O0 U).length<=_;rw [D4,J7];lia
theorem agz{U:List D8}{u:D8}(h:U[i]?=some u):O0 (U.take (i+1))=O0 (U.take i)++W9 u.1 u.2.1:=by
 unfold O0;rw [M7 h,V0]
 simp
def ahl:Sp:=fun vs H Q _=>∃ (k w:Int),vs=[.int k,.int w]/\∀ l,H l=none->Q (.ref l) (A0 H l (.lst ((W9 k w).map V.int)))
def ahm:Sp:=fun vs H Q _=>∃ (a:Addr) (U:List D8),vs=[.ref a]/\IsUn H a U/\U.length<=10000/\∀ l H',H l=none->Same H H'->H' l=some (.lst ((O0 U).map V.int))->Q (.ref l) H'
def Q3(U:List D8):List Int:=U.flatMap fun u=>(u.2.2.1.map fun p=>p+2)++[1]
def afY:Sp:=fun vs H Q _=>∃ (z:Str),vs=[.str z]/\z.length<=1000/\∀ l H',H l=none->Same H H'->H' l=some (.lst ((z.cps.toList.map fun c:Nat=>(c:Int)).map V.int))->Q (.ref l) H'
def O9(U:List D8):Nat:=(U.map fun u=>u.2.2.1.length).sum
theorem agA(U:List D8)(s:Tr):O9 (addS U s)<=O9 U+1:=by
 unfold addS
 by_cases h:s.1=0
 .rw [if_pos h]
  by_cases hU:U=[]
  .subst hU;unfold addM O9
   simp
  .obtain ⟨U',u,rfl⟩:=qT hU;unfold addM;rw [List.getLast?_append,List.getLast?_singleton];simp [O9];lia
 .rw [if_neg h];simp [O9]
theorem adS:∀ (ss:List Tr) (U:List D8),O9 (ss.foldl addS U)<=O9 U+ss.length
 | [],U=>C4 _
 | s::ss,U=>by
  rw [List.foldl_cons,J7];have h1:=adS ss (addS U s);have h2:=agA U s;lia
theorem afZ{S:Str->List Tr}(hs:∀ y,(S y).length<=15)(ps:List Str):O9 (Q2 S ps)<=15*ps.length:=by
 have h0:(ps.flatMap S).length<=15*ps.length:=by
  induction ps with
  | nil=>exact C4 _
  | cons p ps ih=>
   rw [V1,D4,J7]
   have:=hs p
   lia
 have h1:=adS (ps.flatMap S) [];unfold Q2;have h2:O9 []=0:=rfl;lia
theorem adT(U:List D8):(Q3 U).length=O9 U+U.length:=by
 unfold Q3 O9
 induction U with
 | nil=>rfl
 | cons u U ih=>
  rw [V1,D4,ih,E8,List.sum_cons,J7]
  simp
  lia
theorem aeD(U:List D8):O9 U.reverse=O9 U:=by
 unfold O9;rw [List.map_reverse,List.sum_reverse]
def af0:Sp:=fun vs H Q _=>∃ (a:Addr) (b:Bool) (U:List D8),vs=[.ref a,.bl b]/\IsUn H a U/\U.length<=10000/\(∀ u∈U,u.2.2.1.length<=10000)/\O9 U<=100000/\∀ l H',H l=none->Same H H'->H' l=some (.lst ((Q3 (if b=true then U.reverse else U)).map V.int))->Q (.ref l) H'
theorem aeE{α β:Type}{F:α->β->Prop} : ∀ {as:List α} {bs:List β},Paired F as bs->Paired F as.reverse bs.reverse
 | _,_,.nil=>.nil
 | _,_,.cons h t=>by
  rw [List.reverse_cons,List.reverse_cons];exact Paired.snoc (aeE t) h
theorem adj{α β:Type}{F:α->β->Prop} : ∀ {as:List α} {bs:List β} (h:Paired F as bs) (n:Nat),Paired F (as.take n) (bs.take n)
 | _,_,.nil,n=>by rw [List.take_nil,List.take_nil];exact .nil
 | _,_,.cons h t,0=>.nil
 | _,_,.cons h t,n+1=>.cons h (adj t n)
def iI(b:Bool)(U:List D8)(z:Str):List (List Int):=[O0 U,Q3 (if b=true then U.reverse else U),U.map fun u=>u.2.2.2+1,z.cps.toList.map fun c:Nat=>(c:Int)]
def keyF(n:Nat)(b:Bool)(U:List D8)(z:Str):List Int:=((iI b U z).take n).flatMap fun l=>l++[0]
def spKey(C:Addr):Sp:=fun vs H Q _=>∃ (x j ll ml md:Addr) (z:Str) (n:Nat) (g:Str->Str) (R:List Rl) (L M:List Str),vs=[.ref x,.str z,.int n]/\n<=4/\IsOrd C H x j ll ml md g R L M/\(I0 R).length<=1000/\z.length<=500/\m5 (hasW R "figures") (I0 R) z/\(∀ y,(stepY R L M y).length<=15)/\
 ∀ l H',H l=none->Same H H'->H' l=some (.lst ((keyF n (hasW R "behind") (Q2 (stepY R L M) (cutF (hasW R "figures") (I0 R) z.cps.toList).2) z).map V.int))->Q (.ref l) H'
def ahn:Sp:=fun vs H Q _=>∃ (a:Addr) (U:List D8),vs=[.ref a]/\IsUn H a U/\U.length<=10000/\∀ l H',H l=none->Same H H'->H' l=some (.lst ((U.map fun u=>u.2.2.2+1).map V.int))->Q (.ref l) H'
end L2
set_option maxRecDepth 100000
namespace PySem.SeqAt
open AutoSeq1 (wpAny_loadPart')
open MeetsSeq MeetsSeq2 MeetsSeq3 SeqRoads2
def RcLt(A:Around)(s:Shared)(y x:Value)(b:Bool):Prop:=
 ∀ (prog:Program) (w:World) (E:Value->Shared->Prop) (Q:Value->Shared->Prop),Q (.bool b) s->wpAny (model prog w) A (richCompare .Lt y x) Q E s
theorem ajk{α:Type}[DecidableEq α][LT α][DecidableLT α](j3:∀ a:α,¬ a<a){xs ys:List α}(h1:i<xs.length)(h2:i<ys.length) :
  decide (xs.drop i<ys.drop i)=if decide (xs[i]=ys[i])=true then decide (xs.drop (i+1)<ys.drop (i+1)) else decide (xs[i]<ys[i]):=by
 rw [dL h1,dL h2]
 by_cases e:xs[i]=ys[i]
 .rw [if_pos (decide_eq_true e)];refine decide_eq_decide.mpr ?_;rw [bQ,e];exact ⟨fun h=>h.elim (fun h=>absurd h (j3 _)) (fun h=>h.2),fun h=>.inr ⟨rfl,h⟩⟩
 .rw [if_neg (by simpa using e)];refine decide_eq_decide.mpr ?_;rw [bQ];exact ⟨fun h=>h.elim id fun h=>absurd h.1 e,.inl⟩
theorem ak7{α:Type}[LT α][DecidableEq α][DecidableLT α]{ys:List α}{m':Nat}(hx:m=m')(hy:n=ys.length)(hi:i=m):decide ([]<ys.drop i)=decide (m<n):=by
 refine decide_eq_decide.mpr ?_;cases e:ys.drop i with
 | nil=>
  have:=List.drop_eq_nil_iff.mp e
  exact ⟨fun h=>absurd h (List.not_lt_nil _),fun h=>by lia⟩
 | cons a r=>
  have:i<ys.length:=by
   rcases Nat.lt_or_ge i ys.length with h | h
   .exact h
   .rw [gD h] at e;cases e
  exact ⟨fun _=>by lia,fun _=>List.nil_lt_cons _ _⟩
theorem ajl{α:Type}[DecidableEq α][LT α][DecidableLT α](j3:∀ a:α,¬ a<a)(l b:Addr)(items items2:Array Value)(n n2:Nat)(dd Y6:Option Addr)(sl W6:Array (Option Value))(xs ys:List α)(hx:items.size=xs.length)(hy:items2.size=ys.length)(k:Nat) :
  ∀ i:Nat,items.size-i=k->i<=items.size->i<=items2.size->Meets (Builtin.«list.__eq__.loop» ⟨[.ref l,.ref b,rawInt i,rawInt 0],[]⟩)
   (fun A R s=>s.heap.get? l=some { cls:=.type "list",dict:=dd,data:=.seq items n,slots:=sl }/\s.heap.get? b=some { cls:=.type "list",dict:=Y6,data:=.seq items2 n2,slots:=W6 }/\
    (∀ j (h1:j<items.size) (h2:j<items2.size) (g1:j<xs.length) (g2:j<ys.length),EqAt A.in1 s items[j] items2[j] (decide (xs[j]=ys[j]))/\RcLt A.in1 s items[j] items2[j] (decide (xs[j]<ys[j])))/\
    R (.ok (.ret (.bool (decide (xs.drop i<ys.drop i))))) s):=by
 induction k with
 | zero=>
  intro i hk l1 l2 prog w A R s h;obtain ⟨hp,g,d,tk,os⟩:=s;obtain ⟨hl,hb,he,h⟩:=h
  wp_walk using wpAny_loadPart' hl,wpAny_loadPart' hb
  have x6:items[((i:Nat):Int).toNat]?=none:=by simp;lia
  rw [x6]
  wp_walk using wpAny_loadPart' hl,wpAny_loadPart' hb
  show R (.ok (.ret (.bool (decide (items.size<items2.size))))) _;have e:decide (xs.drop i<ys.drop i)=decide (items.size<items2.size):=by
   rw [gD (as:=xs) (by lia)];exact ak7 hx hy (by lia)
  rw [e] at h;exact h
 | succ k ih=>
  intro i hk l1 l2 prog w A R s h;obtain ⟨hp,g,d,tk,os⟩:=s;obtain ⟨hl,hb,he,h⟩:=h
  wp_walk using wpAny_loadPart' hl,wpAny_loadPart' hb
  have D0:i<items.size:=by lia
  have x6:items[((i:Nat):Int).toNat]?=some items[i]:=by simp [D0]
  by_cases jX:i<items2.size
  .have o4:items2[((i:Nat):Int).toNat]?=some items2[i]:=by simp [jX]
   have hc:((i:Int)+1)=((i+1:Nat):Int):=by push_cast;rfl
   rw [x6,o4];obtain ⟨h1,h2⟩:=he i D0 jX (by lia) (by lia);rw [ajk j3 (by lia) (by lia)] at h;refine wpAny_bind (h1 prog w _ _ ?_);cases W0:decide (xs[i]'(by lia)=ys[i]'(by lia)) with
   | true=>
    rw [W0,if_pos rfl] at h
    wp_walk
    rw [hc];exact ⟨plainId_quiet plain_eq_loop _,codeAny_builtin entry_eq_loop (by
     rw [Around.under_plainId plain_eq_loop _];exact ih (i+1) (by lia) (by lia) (by lia) prog w A R _ ⟨hl,hb,he,h⟩)⟩
   | false=>
    rw [W0,if_neg (by decide)] at h
    wp_walk using wpAny_loadPart' hl,wpAny_loadPart' hb
    rw [x6,o4];refine wpAny_bind (h2 prog w _ _ ?_)
    wp_walk
    exact h
  .have o4:items2[((i:Nat):Int).toNat]?=none:=by simp;lia
   rw [x6,o4]
   wp_walk using wpAny_loadPart' hl,wpAny_loadPart' hb
   show R (.ok (.ret (.bool (decide (items.size<items2.size))))) _;have e:decide (xs.drop i<ys.drop i)=decide (items.size<items2.size):=by
    rw [gD (as:=ys) (by lia)];refine decide_eq_decide.mpr ?_;exact ⟨fun h=>absurd h (List.not_lt_nil _),fun h=>by lia⟩
   rw [e] at h;exact h
theorem ajm{α:Type}[DecidableEq α][LT α][DecidableLT α](j3:∀ a:α,¬ a<a)(l b:Addr)(items items2:Array Value)(n n2:Nat)(dd Y6:Option Addr)(sl W6:Array (Option Value))(xs ys:List α)(hx:items.size=xs.length)(hy:items2.size=ys.length) :
  Meets (Builtin.«list.__lt__» ⟨[.ref l,.ref b],[]⟩)
   (fun A R s=>s.heap.get? l=some { cls:=.type "list",dict:=dd,data:=.seq items n,slots:=sl }/\s.heap.get? b=some { cls:=.type "list",dict:=Y6,data:=.seq items2 n2,slots:=W6 }/\
    (∀ j (h1:j<items.size) (h2:j<items2.size) (g1:j<xs.length) (g2:j<ys.length),EqAt A.in1 s items[j] items2[j] (decide (xs[j]=ys[j]))/\RcLt A.in1 s items[j] items2[j] (decide (xs[j]<ys[j])))/\
    R (.ok (.ret (.bool (decide (xs<ys))))) s):=by
 intro prog w A R s h;obtain ⟨hp,g,d,tk,os⟩:=s;obtain ⟨hl,hb,he,h⟩:=h;have f3:=AutoSeq1.sub_list_list
 wp_walk using wpAny_loadPart' hl,wpAny_loadPart' hb
 exact ⟨plainId_quiet plain_eq_loop _,codeAny_builtin entry_eq_loop (by
  rw [Around.under_plainId plain_eq_loop _];exact ajl j3 l b items items2 n n2 dd Y6 sl W6 xs ys hx hy _ 0 rfl (J5 _) (J5 _) prog w A R _ ⟨hl,hb,he,h⟩)⟩
theorem ahU{α:Type}[DecidableEq α][LT α][DecidableLT α](j3:∀ a:α,¬ a<a)(l b:Addr)(items items2:Array Value)(n n2:Nat)(dd Y6:Option Addr)(sl W6:Array (Option Value))(xs ys:List α)(hx:items.size=xs.length)(hy:items2.size=ys.length) :
  Meets (Builtin.«tuple.__lt__» ⟨[.ref l,.ref b],[]⟩)
   (fun A R s=>s.heap.get? l=some { cls:=.type "tuple",dict:=dd,data:=.seq items n,slots:=sl }/\s.heap.get? b=some { cls:=.type "tuple",dict:=Y6,data:=.seq items2 n2,slots:=W6 }/\
    (∀ j (h1:j<items.size) (h2:j<items2.size) (g1:j<xs.length) (g2:j<ys.length),EqAt A.in1 s items[j] items2[j] (decide (xs[j]=ys[j]))/\RcLt A.in1 s items[j] items2[j] (decide (xs[j]<ys[j])))/\
    R (.ok (.ret (.bool (decide (xs<ys))))) s):=
 .of_wp fun prog w A R s h=>by
  obtain ⟨hp,g,d,tk,os⟩:=s;obtain ⟨hl,hb,he,h⟩:=h;have f2:=AutoSeq1.sub_tuple_tuple;have hZ:(items.toList.zip items2.toList).length=min items.size items2.size:=by simp
  wp_walk using wpAny_loadPart' hl,wpAny_loadPart' hb,wpAny_forIn_list _ (fun rest b s'=>b.1=none/\s'=⟨hp,g,d,tk,os⟩/\∃ i,rest=(items.toList.zip items2.toList).drop i/\i<=min items.size items2.size/\
   R (.ok (.ret (.bool (decide (xs.drop i<ys.drop i))))) ⟨hp,g,d,tk,os⟩) _
  case turn=>
   rintro ⟨y,x⟩ rest b s' ⟨W0,rfl,i,hz,hi,hR⟩;have D0:i<(items.toList.zip items2.toList).length:=by
    rcases Nat.lt_or_ge i (items.toList.zip items2.toList).length with h' | h'
    .exact h'
    .rw [gC h'] at hz;cases hz
   have hm:i<min items.size items2.size:=hZ ▸ D0;have h1:i<items.size:=P3 hm (Nat.min_le_left _ _);have h2:i<items2.size:=P3 hm (Nat.min_le_right _ _);rw [dL D0] at hz
   injection hz with hyx X4
   have nM:y=items[i]:=by have:=congrArg Prod.fst hyx;simpa using this
   have hx':x=items2[i]:=by have:=congrArg Prod.snd hyx;simpa using this
   subst nM hx';rw [ajk j3 (by lia) (by lia)] at hR;obtain ⟨q1,q2⟩:=he i h1 h2 (by lia) (by lia);refine wpAny_bind (q1 prog w _ _ ?_);cases nM:decide (xs[i]'(by lia)=ys[i]'(by lia)) with
   | true=>
    rw [nM,if_pos rfl] at hR
    wp_walk
    exact ⟨rfl,rfl,i+1,X4,hm,hR⟩
   | false=>
    rw [nM,if_neg (by decide)] at hR;refine wpAny_ite_split (fun _=>?_) (fun bG=>absurd rfl bG);refine wpAny_bind (wpAny_rule ?_);refine wpAny_bind (q2 prog w _ _ ?_)
    wp_walk
    exact ⟨_,rfl,hR⟩
  case fin=>
   rintro ⟨b1,b2⟩ s' ⟨W0,rfl,i,hz,hi,hR⟩;simp only at W0;subst W0;have nN:min items.size items2.size<=i:=by
    rcases Nat.lt_or_ge i (items.toList.zip items2.toList).length with h' | h'
    .rw [dL h'] at hz;cases hz
    .exact hZ ▸ h'
   have e:decide (xs.drop i<ys.drop i)=decide (items.size<items2.size):=by
    by_cases hc:items.size<=i
    .rw [gD (as:=xs) (by lia)];exact ak7 hx hy (by lia)
    .rw [gD (as:=ys) (by lia)];refine decide_eq_decide.mpr ?_;exact ⟨fun h=>absurd h (List.not_lt_nil _),fun h=>by lia⟩
   rw [e] at hR
   wp_walk
   exact ⟨_,rfl,by simpa [Builtin.Tuple.tupleCompareSizes] using hR⟩
  case h=>
   exact ⟨rfl,rfl,0,rfl,J5 _,h⟩
section
variable {A:Around} {s:Shared}
theorem RcLt.lists{α:Type}[DecidableEq α][LT α][DecidableLT α](j3:∀ a:α,¬ a<a){l:Addr}{xs ys:List α}(hl:s.heap.IsList l items)(hb:s.heap.IsList b items2)(hx:items.size=xs.length)(hy:items2.size=ys.length)(hu:A.units<cLine)(he:∀ j (h1:j<items.size) (h2:j<items2.size) (g1:j<xs.length) (g2:j<ys.length),EqAt A.in1 s items[j] items2[j] (decide (xs[j]=ys[j]))/\RcLt A.in1 s items[j] items2[j] (decide (xs[j]<ys[j]))):RcLt A s (.ref l) (.ref b) (decide (xs<ys)):=fun prog w E Q h=>by
 obtain ⟨⟨cls,dd,data,sl⟩,ho,hc,n,hd⟩:=id hl;obtain ⟨⟨cls2,Y6,data2,W6⟩,n9,U9,n2,Q8⟩:=id hb;simp only at hc hd U9 Q8;subst hc hd U9 Q8;exact richCompare_meets_room (op:=.Lt) ⟨_,ho,rfl⟩ ⟨_,n9,rfl⟩ F.slot_list_lt F.entry_list_lt (F.args_list_lt_2 _ _) (ajm j3 l b items items2 n n2 dd Y6 sl W6 xs ys hx hy)
  ⟨ho,n9,he,show Value.bool (decide (xs<ys))≠Value.notImplemented/\Q (.bool (decide (xs<ys))) s from ⟨(fun x=>nomatch x),h⟩⟩ hu
theorem RcLt.tuples{α:Type}[DecidableEq α][LT α][DecidableLT α](j3:∀ a:α,¬ a<a){l:Addr}{xs ys:List α}(hl:s.heap.IsTuple l items)(hb:s.heap.IsTuple b items2)(hx:items.size=xs.length)(hy:items2.size=ys.length)(hu:A.units<cLine)(he:∀ j (h1:j<items.size) (h2:j<items2.size) (g1:j<xs.length) (g2:j<ys.length),EqAt A.in1 s items[j] items2[j] (decide (xs[j]=ys[j]))/\RcLt A.in1 s items[j] items2[j] (decide (xs[j]<ys[j]))):RcLt A s (.ref l) (.ref b) (decide (xs<ys)):=fun prog w E Q h=>by
 obtain ⟨⟨cls,dd,data,sl⟩,ho,hc,n,hd⟩:=id hl;obtain ⟨⟨cls2,Y6,data2,W6⟩,n9,U9,n2,Q8⟩:=id hb;simp only at hc hd U9 Q8;subst hc hd U9 Q8;exact richCompare_meets_room (op:=.Lt) ⟨_,ho,rfl⟩ ⟨_,n9,rfl⟩ F.slot_tuple_lt F.entry_tuple_lt (F.args_tuple_lt_2 _ _) (ahU j3 l b items items2 n n2 dd Y6 sl W6 xs ys hx hy)
  ⟨ho,n9,he,show Value.bool (decide (xs<ys))≠Value.notImplemented/\Q (.bool (decide (xs<ys))) s from ⟨(fun x=>nomatch x),h⟩⟩ hu
theorem RcLt.int_int(a:Int)(t:Tok)(b:Int)(u:Tok):RcLt A s (.int a t) (.int b u) (decide (a<b)):=fun prog w E Q h=>PySem.P.lt_int h
end
end PySem.SeqAt
namespace L2
open PySem PySem.Spec PyProof.Rows
theorem qX{its2:List Value}{xs ys:List Int}(r1:Vals (xs.map V.int) its)(r2:Vals (ys.map V.int) its2) :
  ∀ j (h1:j<its.toArray.size) (h2:j<its2.toArray.size) (g1:j<xs.length) (g2:j<ys.length),SeqAt.EqAt A s its.toArray[j] its2.toArray[j] (decide (xs[j]=ys[j]))/\SeqAt.RcLt A s its.toArray[j] its2.toArray[j] (decide (xs[j]<ys[j])):=by
 intro j h1 h2 g1 g2;obtain ⟨t,e1⟩:=mB (lC r1) (j:=j) (z:=xs[j]) (by simp);obtain ⟨u,e2⟩:=mB (lC r2) (j:=j) (z:=ys[j]) (by simp);have q1:its.toArray[j]=.int xs[j] t:=by have:=(J8.mp e1).2;simpa using this
 have q2:its2.toArray[j]=.int ys[j] u:=by have:=(J8.mp e2).2;simpa using this
 rw [q1,q2];refine ⟨?_,SeqAt.RcLt.int_int _ _ _ _⟩
 have:=SeqAt.EqAt.int_int (A:=A) (s:=s) xs[j] t ys[j] u
 rwa [show (xs[j]==ys[j])=decide (xs[j]=ys[j]) by rw [Bool.beq_eq_decide_eq]] at this
def rLtR(K:PySem.W.Frag)(a b:Addr)(H:Hp)(Q:VK):Prop:=
 (∃ xs ys:List Int,C9 K H a (xs.map V.int)/\C9 K H b (ys.map V.int)/\Q (.bl (decide (xs<ys))) H)\/
 (∃ xs ys:List Int,C7 K H a (xs.map V.int)/\C7 K H b (ys.map V.int)/\Q (.bl (decide (xs<ys))) H)\/
 ∃ (as bs:List Addr) (xs ys:List (List Int)),C9 K H a (as.map V.ref)/\C9 K H b (bs.map V.ref)/\Paired (fun c x=>C7 K H c (x.map V.int)) as xs/\Paired (fun c x=>C7 K H c (x.map V.int)) bs ys/\Q (.bl (decide (xs<ys))) H
def rLtK(K:PySem.W.Frag):V->V->Hp->VK->Prop
 | .int i,.int j,H,Q=>Q (.bl (decide (i<j))) H
 | .str i,.str j,H,Q=>Q (.bl (decide (i.cps.toList<j.cps.toList))) H
 | .ref a,.ref b,H,Q=>rLtR K a b H Q
 | _,_,_,_=>False
theorem q_ltK(hu:X.A.units+64<cLine)(hK:X.K=K:=by rfl):QOp X (compareOp .Lt) (rLtK K):=⟨by
 subst hK;intro pins s Y H x y v u Q I rx ry h;have u0:X.A.units<cLine:=by lia
 have u1:X.A.in1.units<cLine:=by rw [show X.A.in1.units=X.A.units+1 from rfl];lia
 have u2:X.A.in1.in1.units<cLine:=by rw [show X.A.in1.in1.units=X.A.units+2 from rfl];lia
 cases x <;> cases y <;> try exact h.elim
 .exact op_lt pins s Y H _ _ v u Q I rx ry ⟨_,_,rfl,rfl,h⟩
 .exact uR pins s Y H _ _ v u Q I rx ry ⟨_,_,rfl,rfl,h⟩
 cases rx
 cases ry
 rcases h with ⟨xs,ys,h1,h2,q⟩ | ⟨xs,ys,h1,h2,q⟩ | ⟨as,bs,xs,ys,h1,h2,p1,p2,q⟩
 .obtain ⟨its,r1,l1,_⟩:=I.list h1;obtain ⟨its2,r2,l2,_⟩:=I.list h2;have e1:=r1.length;have e2:=r2.length;rw [A8] at e1 e2;exact SeqAt.RcLt.lists Int.lt_irrefl l1.isList l2.isList (by simpa using e1.symm) (by simpa using e2.symm) u0 (qX r1 r2) _ _ _ _ ⟨.bl _,H,I,rfl,q⟩
 .obtain ⟨its,r1,l1,_⟩:=I.tuple h1;obtain ⟨its2,r2,l2,_⟩:=I.tuple h2;have e1:=r1.length;have e2:=r2.length;rw [A8] at e1 e2;exact SeqAt.RcLt.tuples Int.lt_irrefl l1 l2 (by simpa using e1.symm) (by simpa using e2.symm) u0 (qX r1 r2) _ _ _ _ ⟨.bl _,H,I,rfl,q⟩
 .obtain ⟨its,r1,l1,_⟩:=I.list h1;obtain ⟨its2,r2,l2,_⟩:=I.list h2;have e1:=r1.length;have e2:=r2.length;rw [A8] at e1 e2;have f1:=Paired.length p1;have f2:=Paired.length p2;refine SeqAt.RcLt.lists (xs:=xs) (ys:=ys) (fun a=>List.lt_irrefl a) l1.isList l2.isList (by simp;lia) (by simp;lia) u0 (fun j h1 h2 g1 g2=>?_) _ _ _ _ ⟨.bl _,H,I,rfl,q⟩;have j1:j<as.length:=by lia
  have j2:j<bs.length:=by lia
  obtain ⟨v1,w1,z1⟩:=Vals.get (i:=j) (x:=.ref as[j]) r1 (by simp [j1]);obtain ⟨v2,w2,z2⟩:=Vals.get (i:=j) (x:=.ref bs[j]) r2 (by simp [j2]);have q1:its.toArray[j]=v1:=by have:=(J8.mp w1).2;simpa using this
  have q2:its2.toArray[j]=v2:=by have:=(J8.mp w2).2;simpa using this
  rw [q1,q2];obtain ⟨x1,y1,t1⟩:=Paired.at p1 (i:=j) (a:=as[j]) (by simp [j1]);obtain ⟨x2,y2,t2⟩:=Paired.at p2 (i:=j) (a:=bs[j]) (by simp [j2]);have o1:xs[j]=x1:=(J8.mp y1).2;have o2:ys[j]=x2:=(J8.mp y2).2;rw [o1,o2]
  constructor
  .obtain ⟨c1,us1,d1⟩:=(Dn.tup t1 u6).reads I rfl z1;obtain ⟨c2,us2,d2⟩:=(Dn.tup t2 u6).reads I rfl z2
   have:=SeqAt.eqAt_reads _ _ X.A.in1 s v1 v2 _ _ d1 d2 c1 c2 (by
    have hd:∀ zs:List Int,(PyData.tuple (zs.map PyData.int)).depth=1:=fun zs=>by rw [PyData.depth,gX]
    have ui:X.A.in1.units=X.A.units+1:=rfl;rw [hd,hd];lia)
   rwa [Z3,gW] at this
  .cases z1
   cases z2
   obtain ⟨i1,s1,m1,_⟩:=I.tuple t1;obtain ⟨i2,s2,m2,_⟩:=I.tuple t2;have k1:=s1.length;have k2:=s2.length;rw [A8] at k1 k2;exact SeqAt.RcLt.tuples Int.lt_irrefl m1 m2 (by simpa using k1.symm) (by simpa using k2.symm) u1 (qX s1 s2)⟩
section
variable {K:PySem.W.Frag} {H:Hp} {Q:VK}
theorem aon{i j:Int} : rLtK K (.int i) (.int j) H Q=Q (.bl (decide (i<j))) H:=rfl
theorem aoo{i j:Str} : rLtK K (.str i) (.str j) H Q=Q (.bl (decide (i.cps.toList<j.cps.toList))) H:=rfl
theorem aop : rLtK K (.ref a) (.ref b) H Q=rLtR K a b H Q:=rfl
end
end L2
set_option maxRecDepth 100000
namespace L2
open PySem PySem.Spec PyProof.Rows
def rAbs:List V->Hp->VK->Prop:=fun xs H Q=>∃ n,xs=[.int n]/\Q (.int (if n<0 then -n else n)) H
theorem q_abs : QCall X (.builtin "abs") rAbs:=⟨by
 intro pins s Y H xs us Q I r h;obtain ⟨n,rfl,q⟩:=h
 cases r with
 | cons r1 r2=>
  cases r2
  obtain ⟨t,rfl⟩:=r1;exact call_abs_int fun u tk=>⟨.int _,H,I.tok _,⟨_,rfl⟩,q⟩⟩
theorem aoq:bootBuiltins "abs"=some (.builtin "abs"):=by decide +kernel
theorem aor{n:Int} : rAbs [.int n] H Q=Q (.int (if n<0 then -n else n)) H:=by
 unfold rAbs;refine propext ⟨?_,fun h=>⟨n,rfl,h⟩⟩;rintro ⟨m,e,q⟩;cases e;exact q
end L2
open L2 in
local macro_rules | `(tactic| walk_at "rd")=>`(tactic| simp only [↓vY,↓ap_c,↓alQ,↓anC,↓ajY,↓alR,↓alS,↓anD,↓alT,↓anE,↓anF,↓alU,↓ap_op,↓alL,↓ap_tB,↓anA,↓anz,↓ap_or,↓alO,↓anB,↓alP,↓alN,↓ap_if,↓ajX,↓ap_cb,↓alY,↓anI,↓alZ,↓anJ,↓anK,↓ap_sl,↓aiw,↓al0,↓anN,↓ama,↓aj2,↓al8,↓al9,↓aj3,↓aj4,↓ap_bm,↓anL,↓anG,↓alW,↓alV,↓aj0,↓alX,↓ap_un,↓ap_rU,↓anH,↓anM,↓al1,↓al2,↓al3,↓al4,↓ajZ,↓al5,↓aj1,↓al6,↓alM,al7,amb,aj5,aj6,aj7,↓ad_ii,↓ad_ss,↓ad_rr,↓mu_ii,↓mu_ri,↓eq_ii,↓eq_ss,↓eq_bb,↓eq_rx,↓eq_xr,↓ne_ii,↓ne_ss,↓ne_bb,↓ne_rx,↓ne_xr,↓L2.lt_ii,↓L2.lt_ss,↓le_ii,↓le_ss,↓gt_ii,↓gt_ss,↓ge_ii,↓ge_ss,↓in_xs,↓in_xr,↓sl_s,↓sl_r,↓len_s,↓len_r,↓anQ,↓all_r,↓isi_t,↓ord_s,↓anW,↓akb,wS,↓akc,↓tup_r,↓amg,↓anX,↓anY,↓amj,↓amk,↓ake,↓akf,↓amc,↓amd,↓amA,↓amB,↓aor,↓aon,↓aoo,↓aop,↓aoj,↓aoe,↓aod,↓amv,↓ai1,↓aof,↓aog,↓aoh,↓any_r,↓akp,↓amr,↓ams,↓an3,↓amt,↓akr,↓aml,↓akk,↓amn,↓akj,aj8,afv,cxK,cxKn,cxKb,cxC,cxCn,cxCb,E8,p7,J7,f7,Nat.sub_self,Nat.reduceAdd,Nat.reduceSub,Nat.zero_add,Nat.add_one_sub_one,List.replicate_zero,bR,L3,f6,W3,List.getElem?_cons_zero,List.getElem?_cons_succ,List.set_cons_zero,List.set_cons_succ,Option.some.injEq,Option.join_some,Option.join_none,exists_eq_left',exists_eq_left,exists_eq',exists_eq,reduceCtorEq,false_and,and_false,exists_false,exists_const,false_or,or_false,true_and,and_true,V.str.injEq,V.int.injEq,V.bl.injEq,V.ref.injEq,V.ty.injEq,List.cons.injEq,exists_and_left,exists_and_right,and_assoc,if_true,if_false,Bool.false_eq_true,Bool.not_true,Bool.not_false,ite_true,ite_false,Int.reduceLT,Int.reduceLE,J5])
namespace K35
open PySem PySem.Spec PyProof.Rows L2
set_option maxRecDepth 100000
set_option maxHeartbeats 4000000
def top(i:Nat):Stmt:=PySem.Challenge.pw_sortlore_k35_worth_of_figures.main.body.getD i (.Pass ⟨0,0,0,0⟩)
abbrev m6:Stmt:=top 7
abbrev X0:Stmt:=top 8
abbrev m7:Stmt:=top 11
abbrev P0:Stmt:=top 14
abbrev mL:Stmt:=top 16
abbrev iJ:Stmt:=top 26
abbrev mM:Stmt:=top 27
abbrev aV:Stmt:=top 28
abbrev Z8:Stmt:=top 29
abbrev v7:Stmt:=top 30
abbrev v8:Stmt:=top 31
abbrev iK:Stmt:=top 32
abbrev aW:Stmt:=top 33
abbrev O4:Stmt:=top 34
abbrev aX:Stmt:=dY (top 35) 0
abbrev cM:Stmt:=dY (top 35) 1
abbrev cN:Stmt:=dY (top 35) 2
abbrev aY:Stmt:=dY (top 35) 3
abbrev cO:Stmt:=top 17
abbrev w5:Stmt:=top 18
abbrev s_cut:Stmt:=top 19
abbrev cP:Stmt:=dY (top 35) 4
abbrev aZ:Stmt:=dY (top 35) 5
abbrev iN:Stmt:=top 43
abbrev iO:Stmt:=top 44
abbrev iP:Stmt:=top 45
abbrev Z9:Stmt:=top 46
abbrev m8:Stmt:=top 47
abbrev iQ:Stmt:=top 37
abbrev bA:Stmt:=top 38
abbrev m9:Stmt:=top 39
abbrev iR:Stmt:=top 40
abbrev iS:Stmt:=top 41
abbrev s_key:Stmt:=top 49
abbrev iT:Stmt:=top 51
abbrev w6:Stmt:=top 52
abbrev bB:Stmt:=top 53
abbrev iU:Stmt:=top 54
abbrev s_law:Stmt:=top 55
def visB(S:Scope)(x:Str):Bool:=decide (S.names.lookup x=some .local) || decide (S.names.lookup x=some .cell) || decide (S.names.lookup x=some .free)
theorem qvd{pos:Pos}{S:Scope}{x:Str}(hN:X.N=N)(hs:X.env.scope=S)(h:(decide (N[n]?=some x)&&visB S x && !(x==("__debug__" : Str)) && !(x==("__classdict__" : Str)))=true):QE X (.Name x pos) (tVar n):=by
 subst hN hs;simp only [visB,W4,Bool.or_eq_true,decide_eq_true_eq,Bool.not_eq_true'] at h;exact qe_v h.1.1.1 (h.1.1.2.elim (fun z=>z.elim .inl fun z=>.inr (.inl z)) fun z=>.inr (.inr z)) h.1.2 h.2
theorem len1{α:Type}{F:List α->Prop}(h:∀ a,F [a]):∀ us:List α,us.length=1->F us
 | [a],_=>h a
theorem len2{α:Type}{F:List α->Prop}(h:∀ a b,F [a,b]):∀ us:List α,us.length=2->F us
 | [a,b],_=>h a b
theorem len3{α:Type}{F:List α->Prop}(h:∀ a b c,F [a,b,c]):∀ us:List α,us.length=3->F us
 | [a,b,c],_=>h a b c
theorem len4{α:Type}{F:List α->Prop}(h:∀ a b c d,F [a,b,c,d]):∀ us:List α,us.length=4->F us
 | [a,b,c,d],_=>h a b c d
theorem len5{α:Type}{F:List α->Prop}(h:∀ a b c d e,F [a,b,c,d,e]):∀ us:List α,us.length=5->F us
 | [a,b,c,d,e],_=>h a b c d e
theorem G0{Q:List Str}{sc:Scope}(h1:sc.kind=.function:=by rfl)(h2:sc.isCoroutine=false:=by rfl)(h3:sc.isGenerator=false:=by rfl)(h4:N.Nodup:=by decide +kernel)(h5:N.take Q.length=Q:=by rfl)(h6:∀ x∈Q,sc.names.lookup x=some .local\/sc.names.lookup x=some .cell:=by decide +kernel)(h7:∀ y∈sc.names,y.2≠.free:=by decide +kernel):FnScope N Q sc:=⟨h1,h2,h3,h4,h5,h6,h7⟩
theorem X1{kn:List (Str×NameKind)}{sc:Scope}(h1:sc.kind=.function:=by rfl)(h2:∀ x∈sc.names,x.2≠.cell:=by decide +kernel)(h3:∀ x∈sc.names,x.2=.local->sc.names.lookup x.1=some .local:=by decide +kernel)(h4:∀ x∈sc.names,x.2=.free->kn.lookup x.1=some .cell\/kn.lookup x.1=some .free:=by decide +kernel)(h5:∀ x∈sc.names,x.2=.free->sc.names.lookup x.1=some .free:=by decide +kernel)(h6:N'.length=k+ixs.length:=by rfl)(h7:ixs.map (fun i=>N[i]?)=(N'.drop k).map some:=by decide +kernel)(h8:∀ x∈N'.drop k,(x,NameKind.free)∈sc.names:=by decide +kernel):CompOk N kn sc N' k ixs:=⟨h1,h2,h3,h4,h5,h6,h7,h8⟩
theorem hm(r:Room k A)(h:j<=k:=by decide):Room j A:=r.mono h
structure DF(K:PySem.W.Frag)(n:Str)(s:Stmt):Prop where
 ex:∃ (f:Addr) (oc:Value) (od:Option Addr) (kV dc pm:Value) (an:Option Addr) (cd ct:Value) (sl:Array (Option Value)),O2 K mainGlobals n=some (some (.ref f))/\K.lookup f=some ⟨oc,od,.func (Q5 n n (R8 s) (R0 s) (C6 s) .none kV dc pm an cd ct),sl⟩/\V3 K cd n=true/\R6 K (.ref f)=true
theorem df_mk{n:Str}{s:Stmt}{kV dc:Value}{sl:Array (Option Value)}(a:O2 K mainGlobals n=some (some (.ref f)))(l:K.lookup f=some ⟨oc,od,.func (Q5 n n (R8 s) (R0 s) (C6 s) .none kV dc pm an cd ct),sl⟩)(c:V3 K cd n=true)(k:R6 K (.ref f)=true):DF K n s:=⟨f,oc,od,kV,dc,pm,an,cd,ct,sl,a,l,c,k⟩
theorem DF.go{P:Program}{w:World}{base:Heap}{n:Str}{s:Stmt}(d:DF K n s)(X:K.In h)(G:h.Ns mainGlobals mg)(_:K.In base)(ok:∀ {f fd},FunD K n n s f fd->FnOk P w K mg base E1 k f fd ps sp)(hl:∀ (kV dc pm:Value) (an:Option Addr) (cd ct:Value) (us:List Value),us.length=ps.length->bindArgs (Q5 n n (R8 s) (R0 s) (C6 s) .none kV dc pm an cd ct) ⟨us,[]⟩=pure (ps.zip us):=by first | exact fun _ _ _ _ _ _=>len1 fun _=>rfl | exact fun _ _ _ _ _ _=>len2 fun _ _=>rfl | exact fun _ _ _ _ _ _=>len3 fun _ _ _=>rfl | exact fun _ _ _ _ _ _=>len4 fun _ _ _ _=>rfl | exact fun _ _ _ _ _ _=>len5 fun _ _ _ _ _=>rfl):FO P w K mg base k n ps [] sp:=by
 obtain ⟨f,oc,od,kV,dc,pm,an,cd,ct,sl,a,l,c,kp⟩:=d.ex;exact ⟨_,_,ok (k9 (st:=s) l c),Z2 X G a,kp,[],.all (hl kV dc pm an cd ct),.nil⟩
structure Txt(P:Program)(w:World)(K:PySem.W.Frag)(mg:Str->Option Value)(C:Addr):Prop where
 cl:Cls K C
 na_figures:NoAttr K C "figures"
 na_behind:NoAttr K C "behind"
 na_jobs:NoAttr K C "jobs"
 na_letter_line:NoAttr K C "letter_line"
 na_mark_line:NoAttr K C "mark_line"
 na_made:NoAttr K C "made"
 b_abs:mg "abs"=none
 b_any:mg "any"=none
 b_dict:mg "dict"=none
 b_enumerate:mg "enumerate"=none
 b_int:mg "int"=none
 b_len:mg "len"=none
 b_list:mg "list"=none
 b_min:mg "min"=none
 b_ord:mg "ord"=none
 b_str:mg "str"=none
 b_tuple:mg "tuple"=none
 b_zip:mg "zip"=none
 g_MARK:∃ t,mg "MARK"=some (.int 0 t)
 g_LETTER:∃ t,mg "LETTER"=some (.int 2 t)
 g_FIGURES:∃ t,mg "FIGURES"=some (.int 1 t)
 x_JOBS:∃ a,mg "JOBS"=some (.ref a)/\ModD P w K a [((Sum.inr ("row" : Str):B1),V.str "letter"),((Sum.inr ("marks" : Str):B1),V.str "mark"),((Sum.inr ("great" : Str):B1),V.str "great"),((Sum.inr ("as" : Str):B1),V.str "as"),((Sum.inr ("over" : Str):B1),V.str "over")]
 x_AGAIN:∃ a,mg "AGAIN"=some (.ref a)/\∀ H:Hp,C7 K H a [V.str "letter",V.str "mark",V.str "over"]
theorem amC(ls:List Str)(R:List Rl):D1 ((("row" : Str),ls)::R)=(ls.map fun p=>(p,("letter" : Str)))++D1 R:=by
 rw [iF,aT.2.2 (.inl rfl)];rfl
theorem ajn(ls:List Str)(R:List Rl):D1 ((("marks" : Str),ls)::R)=(ls.map fun p=>(p,("mark" : Str)))++D1 R:=by
 rw [iF,aT.2.2 (.inr (.inl rfl))];rfl
theorem aho{α:Type} : ∀ {l:List (Str×α)} {p:Str} {j:α},(l.map (·.1)).Nodup->(p,j)∈l->l.lookup p=some j
 | [],_,_,_,h=>by cases h
 | (y,t)::l,p,j,nd,h=>by
  rw [E8,R5] at nd;rw [gI]
  rcases E7.mp h with h | h
  .obtain ⟨rfl,rfl⟩:=Prod.mk.inj h
   simp
  .have:p≠y:=fun e=>nd.1 (E9.mpr ⟨_,h,e⟩)
   have e:(p==y)=false:=by simpa using this
   rw [e];exact aho nd.2 h
def Q0(ns:List Int)(k:Int):Nat:=(F8 LA ((cellF ns 0+k*Y4 ns) % 83)).getD 33
theorem hW(ns:List Int)(k:Int):F8 LA ((cellF ns 0+k*Y4 ns) % 83)=some (Q0 ns k)/\Q0 ns k∈LA:=by
 obtain ⟨v,h1,h2⟩:=eD (xs:=LA) (i:=(cellF ns 0+k*Y4 ns) % 83) (by first | lia | omega) (by rw [xZ];lia);have e:Q0 ns k=v:=by unfold Q0;rw [h1];rfl
 rw [e];exact ⟨h1,h2⟩
theorem lW{k l:Int}(h0:0<=k)(h1:k<83)(h2:0<=l)(h3:l<83)(h:Q0 ns k=Q0 ns l):k=l:=by
 have hl:((LA.length:Nat):Int)=83:=by rw [xZ];rfl
 have e:=an6 LA_nd (i:=(cellF ns 0+k*Y4 ns) % 83) (j:=(cellF ns 0+l*Y4 ns) % 83) (by first | lia | omega) (by first | lia | omega) (by first | lia | omega) (by first | lia | omega) h;obtain ⟨t,_,ht⟩:=akt false _ (qE ns).2;exact ahI ht e h0 h1 h2 h3
def spSgA(K:PySem.W.Frag):Sp:=fun vs H Q _=>∃ (a:Addr) (ns:List Int) (k:Int),vs=[.ref a,.int k]/\C9 K H a (ns.map V.int)/\0<=k/\∀ H',Same H H'->Q (.str (one (Q0 ns k))) H'
structure D3(c0 c1 c2:Nat):Prop where
 n01:c0≠c1
 n02:c0≠c2
 n12:c1≠c2
 ok:∀ c∈[c2,c0,c1],signB c=true/\figO c=false
theorem d3_of(ns:List Int):D3 (Q0 ns 0) (Q0 ns 1) (Q0 ns 2):=
 ⟨fun e=>by have:=lW (by decide) (by decide) (by decide) (by decide) e;lia,fun e=>by have:=lW (by decide) (by decide) (by decide) (by decide) e;lia,fun e=>by have:=lW (by decide) (by decide) (by decide) (by decide) e;lia,fun c hc=>by
  have hm:c∈LA:=by
   rcases E7.mp hc with rfl | hc
   .exact (hW ns 2).2
   rcases E7.mp hc with rfl | hc
   .exact (hW ns 0).2
   rw [M4.mp hc];exact (hW ns 1).2
  exact LA_ok c hm⟩
def R35(c0 c1 c2:Nat):List Rl:=[(("marks" : Str),[one c2]),(("figures" : Str),[]),(("row" : Str),[one c0,one c1])]
theorem eY{c d:Nat}(h:one c=one d):c=d:=List.singleton_inj.mp (congrArg (fun z:Str=>z.cps.toList) h)
theorem prs35(c0 c1 c2:Nat):D1 (R35 c0 c1 c2)=[(one c2,("mark" : Str)),(one c0,("letter" : Str)),(one c1,("letter" : Str))]:=by
 unfold R35;rw [ajn,iF,amC,show N5 (("figures" : Str),[])=[] by decide +kernel];rfl
theorem rw_ne{w u:Str}(n:u≠w):rowsW ((u,zs)::R) w=rowsW R w:=by
 unfold rowsW;rw [fZ (by simpa using n)]
theorem rw_eq{w:Str} : rowsW ((w,zs)::R) w=zs::rowsW R w:=by
 unfold rowsW;rw [fY (by simp)];rfl
theorem eZ(c0 c1 c2:Nat):rowsW (R35 c0 c1 c2) "row"=[[one c0,one c1]]/\rowsW (R35 c0 c1 c2) "marks"=[[one c2]]:=by
 unfold R35;rw [rw_ne (by decide +kernel),rw_ne (by decide +kernel),rw_eq,rw_eq,rw_ne (by decide +kernel),rw_ne (by decide +kernel)];exact ⟨rfl,rfl⟩
theorem has35(c0 c1 c2:Nat)(w:Str):hasW (R35 c0 c1 c2) w=(decide (("marks" : Str)=w) || (decide (("figures" : Str)=w) || decide (("row" : Str)=w))):=by
 unfold hasW R35;rw [Z0,Z0,Z0,List.any_nil,Bool.or_false]
theorem fig35(c0 c1 c2:Nat):hasW (R35 c0 c1 c2) "figures"=true:=by rw [has35];decide +kernel
theorem bh35(c0 c1 c2:Nat):hasW (R35 c0 c1 c2) "behind"=false:=by rw [has35];decide +kernel
theorem bl35(c0 c1 c2:Nat):hasW (R35 c0 c1 c2) "blanks"=false:=by rw [has35];decide +kernel
theorem D3.nd(h:D3 c0 c1 c2):((D1 (R35 c0 c1 c2)).map (·.1)).Nodup:=by
 rw [prs35];have a:=fun e=>h.n02 (eY e)
 have b:=fun e=>h.n12 (eY e)
 have c:=fun e=>h.n01 (eY e)
 show [one c2,one c0,one c1].Nodup;simp only [R5,E7,e8,or_false,not_or,List.nodup_nil,and_true,not_false_eq_true];exact ⟨⟨fun e=>a e.symm,fun e=>b e.symm⟩,c⟩
theorem D3.good(h:D3 c0 c1 c2):GoodR (qN (R35 c0 c1 c2)) ([one c0,one c1].idxOf ·) ([one c2].idxOf ·) (R35 c0 c1 c2):=by
 have nd:=h.nd;have sW:∀ p j,(p,j)∈D1 (R35 c0 c1 c2)->∃ c,c∈[c2,c0,c1]/\p=one c:=fun p j hm=>by
  rw [prs35] at hm;simp only [E7,e8,or_false,Prod.mk.injEq] at hm
  rcases hm with ⟨e,_⟩ | ⟨e,_⟩ | ⟨e,_⟩
  .exact ⟨c2,by simp,e⟩
  .exact ⟨c0,by simp,e⟩
  .exact ⟨c1,by simp,e⟩
 have each:∀ z∈R35 c0 c1 c2,z.2.length<=2/\z.1≠("as" : Str)/\z.1≠("great" : Str):=fun z hz=>by
  simp only [R35,E7,e8,or_false] at hz
  rcases hz with rfl | rfl | rfl
  .exact ⟨by simp,(by decide +kernel:Str.ofString "marks"≠Str.ofString "as"),(by decide +kernel:Str.ofString "marks"≠Str.ofString "great")⟩
  .exact ⟨by simp,by decide +kernel,by decide +kernel⟩
  .exact ⟨by simp,(by decide +kernel:Str.ofString "row"≠Str.ofString "as"),(by decide +kernel:Str.ofString "row"≠Str.ofString "great")⟩
 refine ⟨by simp [R35],by rw [prs35];simp,fun i p j hi=>?_,fun hb=>?_,fun z hz=>by have:=(each z hz).1;lia,fun z hz hw=>?_,fun z hz hw=>absurd hw (each z hz).2.2,fun z hz hw=>absurd hw (each z hz).2.1,fun z hz hw=>absurd hw (each z hz).2.1,?_,?_,fun e he=>?_,fun e he=>?_⟩
 .have hm:=O1 hi;obtain ⟨c,hc,rfl⟩:=sW p j hm;refine ⟨?_,fun hq=>?_,fun _ d hd=>?_,by show 1<=1000;decide⟩
  .unfold qN;rw [aho nd hm];rfl
  .exfalso
   obtain ⟨⟨p',j'⟩,hm',e0⟩:=E9.mp hq;obtain ⟨m,hmk,e⟩:=List.mem_take_iff_getElem.mp hm';obtain ⟨o4,e2⟩:=J8.mp hi;rw [o8,List.pairwise_map,aA] at nd;refine nd m i (by first | lia | omega) o4 (by first | lia | omega) ?_;rw [e,e2];exact e0
  .rw [M4.mp (show d∈[c] from hd)];exact (h.ok c hc).2
 .obtain ⟨⟨p,j⟩,hm,e⟩:=E9.mp hb;obtain ⟨c,hc,rfl⟩:=sW p j hm;have e1:[c]=[32]:=congrArg (fun z:Str=>z.cps.toList) e
  have:=(h.ok c hc).1
  rw [List.singleton_inj.mp e1] at this
  cases this
 .rcases hw with hw | hw
  .exact absurd hw (each z hz).2.1
  .exact absurd hw (each z hz).2.2
 .rw [(eZ c0 c1 c2).1];simp
 .rw [(eZ c0 c1 c2).2];simp
 .rw [(eZ c0 c1 c2).1] at he;exact zD (by simp only [R5,M4,e8,not_false_eq_true,List.nodup_nil,and_true];exact fun e=>h.n01 (eY e)) (by simpa [edges] using he)
 .rw [(eZ c0 c1 c2).2] at he;exact zD (by simp) (by simpa [edges] using he)
theorem D3.lets(h:D3 c0 c1 c2)(hL:Q1 (R35 c0 c1 c2) "row" L)(hM:Q1 (R35 c0 c1 c2) "marks" M):L=[one c0,one c1]/\M=[one c2]:=by
 unfold Q1 at hL hM;rw [(eZ c0 c1 c2).1] at hL;rw [(eZ c0 c1 c2).2] at hM;refine ⟨yZ (by simp only [R5,M4,e8,not_false_eq_true,List.nodup_nil,and_true];exact fun e=>h.n01 (eY e)) (eO _) hL.1 hL.2 (fun p=>?_) fun e he=>?_,yZ (by simp) (eO _) hM.1 hM.2 (fun p=>?_) fun e he=>?_⟩
 .rw [qK];simp
 .simpa [edges] using he
 .rw [qK];simp
 .simpa [edges] using he
theorem ajo(c0 c1 c2:Nat)(p:Str):p∈I0 (R35 c0 c1 c2)↔p=one c2\/p=one c0\/p=one c1:=by
 unfold I0 W8;rw [bl35,if_neg (by decide),L3,lY,prs35]
 simp
theorem akC(c0 c1 c2:Nat):(I0 (R35 c0 c1 c2)).length<=1000:=by
 unfold I0 W8;rw [bl35,if_neg (by decide),L3]
 have:=pZ (D1 (R35 c0 c1 c2))
 rw [prs35] at *;exact M6 this (by simp)
theorem D3.steps(h:D3 c0 c1 c2)(hL:Q1 (R35 c0 c1 c2) "row" [one c0,one c1])(hM:Q1 (R35 c0 c1 c2) "marks" [one c2]) :
  stepY (R35 c0 c1 c2) [one c0,one c1] [one c2] (one c0)=[(2,0,0)]/\stepY (R35 c0 c1 c2) [one c0,one c1] [one c2] (one c1)=[(2,1,0)]/\stepY (R35 c0 c1 c2) [one c0,one c1] [one c2] (one c2)=[(0,0,0)]:=by
 have m:=yV h.good hL hM;have e:∀ c∈[c2,c0,c1],stepY (R35 c0 c1 c2) [one c0,one c1] [one c2] (one c)=stepF (R35 c0 c1 c2) [one c0,one c1] [one c2] (one c):=fun c hc=>by
  unfold stepY;rw [if_neg];rw [show (one c).cps.toList.headD 0=c from rfl,(h.ok c hc).2,Bool.and_false];decide
 rw [e c0 (by simp),e c1 (by simp),e c2 (by simp)];exact ⟨m.lt 0 _ rfl,m.lt 1 _ rfl,m.mr 0 _ rfl⟩
theorem amD(L M:List Str)(y:Str):(stepY (R35 c0 c1 c2) L M y).length<=15:=by
 unfold stepY
 split
 .exact Nat.le_add_left 1 14
 unfold stepF;cases e:(putsL (R35 c0 c1 c2) L M).lookup y with
 | none=>simp
 | some s=>
  have hm:∃ p,(p,s)∈putsL (R35 c0 c1 c2) L M:=by
   generalize putsL (R35 c0 c1 c2) L M=l at e
   induction l with
   | nil=>cases e
   | cons x l ih=>
    rw [gI] at e
    split at e
    .obtain rfl:=Option.some.inj e;exact ⟨x.1,N8⟩
    .obtain ⟨p,hp⟩:=ih e;exact ⟨p,N7 _ hp⟩
  obtain ⟨p,hp⟩:=hm;show s.length<=15;unfold putsL at hp
  rcases K5.mp hp with hp | hp
  .rcases K5.mp hp with hp | hp
   .rcases K5.mp hp with hp | hp
    .obtain ⟨e,_,q⟩:=E9.mp hp;rw [<- (Prod.mk.inj q).2];exact Nat.le_add_left 1 14
    .obtain ⟨e,_,q⟩:=E9.mp hp;rw [<- (Prod.mk.inj q).2];exact Nat.le_add_left 1 14
   .obtain ⟨w,_,hp⟩:=p6.mp hp;obtain ⟨e,_,q⟩:=E9.mp hp;rw [<- (Prod.mk.inj q).2];exact Nat.le_add_left 1 14
  .unfold mF at hp;obtain ⟨z,hz,q⟩:=gF.mp hp;rw [if_neg] at q
   .cases q
   .simp only [R35,E7,e8,or_false] at hz
    rcases hz with rfl | rfl | rfl
    .exact (by decide +kernel:¬ Str.ofString "marks"=Str.ofString "as")
    .decide +kernel
    .exact (by decide +kernel:¬ Str.ofString "row"=Str.ofString "as")
theorem aos(h2:∀ c d,V8 c d∉ks){c:Nat}(h1:one c∈ks)(hf:figO c=false)(r:List Nat):cutF true ks (c::r)=((cutF true ks r).1+1,one c::(cutF true ks r).2):=by
 have hp:partF true ks (c::r)=some (one c):=by
  rw [cK,if_neg (by rw [hf];decide)]
  cases r with
  | nil=>rw [eV,if_pos h1]
  | cons d r=>rw [eW,if_neg (h2 c d),if_pos h1]
 obtain ⟨rest,e1,e2,_⟩:=cL hp
 have:r=rest:=List.tail_eq_of_cons_eq e1
 rw [e2,this];rfl
theorem mN(h2:∀ c d,V8 c d∉ks)(r:List Nat):∀ A:List Nat,(∀ c∈A,one c∈ks/\figO c=false)->cutF true ks (A++r)=((cutF true ks r).1+A.length,A.map one++(cutF true ks r).2)
 | [],_=>rfl
 | c::A,h=>by
  rw [W3,aos h2 (h c N8).1 (h c N8).2,mN h2 r A fun d hd=>h d (N7 _ hd)];rfl
theorem amE(hy:y.cps.toList≠[])(hf:∀ c∈y.cps.toList,figO c=true){r:List Nat}(hr:∀ c∈r,figO c=false):cutF true ks (y.cps.toList++r)=((cutF true ks r).1+y.length,y::(cutF true ks r).2):=by
 have ht:(y.cps.toList++r).takeWhile figO=y.cps.toList:=by
  rw [List.takeWhile_append_of_pos hf]
  cases r with
  | nil=>simp
  | cons d r=>rw [List.takeWhile_cons_of_neg (by rw [hr d N8];decide),L3]
 have hp:partF true ks (y.cps.toList++r)=some y:=by
  cases e:y.cps.toList with
  | nil=>exact absurd e hy
  | cons c l=>
   rw [W3,cK,if_pos (by rw [hf c (by rw [e];exact N8)];rfl),<- W3,<- e,ht]
 obtain ⟨rest,e1,e2,_⟩:=cL hp;rw [e2,<- List.append_cancel_left e1]
def mO(A M B:List Nat)(y:Str):List Str:=A.map one++(y::(M.map one++B.map one))
theorem amF(h2:∀ c d,V8 c d∉ks){A M:List Nat}(hy:y.cps.toList≠[])(hf:∀ c∈y.cps.toList,figO c=true)(hk:∀ c∈A++(M++B),one c∈ks/\figO c=false):cutF true ks (A++(y.cps.toList++(M++B)))=((A++(y.cps.toList++(M++B))).length,mO A M B y):=by
 rw [mN h2 _ A fun c hc=>hk c (R4 _ hc),amE hy hf fun c hc=>(hk c (O5 _ hc)).2];have e:=mN h2 [] (M++B) fun c hc=>hk c (O5 _ hc)
 rw [L3,eX] at e;rw [e];simp only [L3,D4,lenL,mO,E4];rw [show 0+(M.length+B.length)+y.length+A.length=A.length+(y.length+(M.length+B.length)) by first | lia | omega]
def K8(c0 c:Nat):Int:=if c=c0 then 0 else 1
def U35(c0:Nat)(A M B:List Nat)(v:Int):List D8:=(A.map fun c=>((2:Int),K8 c0 c,([]:List Int),(0:Int)))++(((1:Int),v,(M.map fun _=>(0:Int)),(0:Int))::(B.map fun c=>((2:Int),K8 c0 c,([]:List Int),(0:Int))))
theorem amG{S:Str->List Tr}{v:Int}(n:c1≠c0)(s0:S (one c0)=[(2,0,0)])(s1:S (one c1)=[(2,1,0)])(s2:S (one c2)=[(0,0,0)])(sy:S y=[(1,v,0)]){A M:List Nat}(hA:A=[]\/A=[c0]\/A=[c1])(hM:M=[]\/M=[c2])(hB:B=[]\/B=[c0]\/B=[c1]):Q2 S (mO A M B y)=U35 c0 A M B v:=by
 have e0:K8 c0 c0=0:=if_pos rfl;have e1:K8 c0 c1=1:=if_neg n;unfold Q2 mO U35
 rcases hA with rfl | rfl | rfl <;> rcases hM with rfl | rfl <;> rcases hB with rfl | rfl | rfl <;>
  (simp only [p7,E8,f6,W3,V1,dO,s0,s1,s2,sy,e0,e1,L3];rfl)
theorem cQ(c0:Nat)(A M B:List Nat)(v:Int)(b:Bool)(z:Str):keyF 1 b (U35 c0 A M B v) z=(A.map fun c=>K8 c0 c+3)++(2::(v+1)::((B.map fun c=>K8 c0 c+3)++[0])):=by
 have e:∀ A:List Nat,O0 (A.map fun c=>((2:Int),K8 c0 c,([]:List Int),(0:Int)))=A.map fun c=>K8 c0 c+3:=fun A=>by
  induction A with
  | nil=>rfl
  | cons c A ih=>rw [E8,E8,<- ih];rfl
 have ea:∀ X zy:List D8,O0 (X++zy)=O0 X++O0 zy:=fun X zy=>V0
 show O0 (U35 c0 A M B v)++[0]++[]=_;unfold U35;rw [ea,e,show ∀ (u:D8) (X:List D8),O0 (u::X)=W9 u.1 u.2.1++O0 X from fun _ _=>rfl,e];simp [W9]
theorem aot(P T:List Int)(a b:Int):(P++(2::a::T)<P++(2::b::T))↔a<b:=by
 induction P with
 | nil=>
  rw [f6,f6,bQ,bQ]
  constructor
  .rintro (h | ⟨_,h | ⟨_,h⟩⟩)
   .lia
   .exact h
   .exact absurd h (List.lt_irrefl T)
  .intro h;exact .inr ⟨rfl,.inl h⟩
 | cons p P ih=>
  rw [W3,W3,bQ]
  constructor
  .rintro (h | ⟨_,h⟩)
   .lia
   .exact ih.mp h
  .intro h;exact .inr ⟨rfl,ih.mpr h⟩
theorem af1(P T T':List Int){a:Int}(h:2<a):P++(2::T)<P++(a::T'):=by
 induction P with
 | nil=>rw [f6,f6,bQ];exact .inl h
 | cons p P ih=>rw [W3,W3,bQ];exact .inr ⟨rfl,ih⟩
theorem eq3(c0:Nat)(A M B:List Nat)(v w:Int)(z z':Str):keyF 3 false (U35 c0 A M B v) z=keyF 3 false (U35 c0 A M B w) z'↔v=w:=by
 constructor
 .intro h;have e:∀ u z,∃ r,keyF 3 false (U35 c0 A M B u) z=(A.map fun c=>K8 c0 c+3)++(2::(u+1)::r):=fun u z=>by
   have f:O0 (U35 c0 A M B u)++[0]++[]=_:=cQ c0 A M B u false z;rw [L3] at f;refine ⟨((B.map fun c=>K8 c0 c+3)++[0])++((Q3 (U35 c0 A M B u)++[0])++(((U35 c0 A M B u).map fun u=>u.2.2.2+1)++[0]++[])),?_⟩;show (O0 (U35 c0 A M B u)++[0])++((Q3 (U35 c0 A M B u)++[0])++(((U35 c0 A M B u).map fun u=>u.2.2.2+1)++[0]++[]))=_;rw [f];simp only [V2,W3]
  obtain ⟨r,er⟩:=e v z;obtain ⟨r',er'⟩:=e w z';rw [er,er'] at h
  have:=List.append_cancel_left h
  injection this with _ this
  injection this with this _
  lia
 .rintro rfl;rfl
theorem lenK3(c0:Nat)(A M B:List Nat)(v w:Int)(z z':Str):(keyF 3 false (U35 c0 A M B v) z).length=(keyF 3 false (U35 c0 A M B w) z').length:=by
 have e:∀ u z,(keyF 3 false (U35 c0 A M B u) z).length=(keyF 3 false (U35 c0 A M B 0) z).length:=fun u z=>by
  have f:∀ u,(O0 (U35 c0 A M B u)).length+1=((A.map fun c=>K8 c0 c+3)++(2::(u+1)::((B.map fun c=>K8 c0 c+3)++[0]))).length:=fun u=>by
   rw [<- cQ c0 A M B u false z];show _=(O0 _++[0]++[]).length
   simp
  have f1:=f u;have f2:=f 0;have g:∀ u,(Q3 (U35 c0 A M B u))=Q3 (U35 c0 A M B 0):=fun u=>by
   unfold U35 Q3;rw [V0,V1,V0,V1]
  have k:∀ u,((U35 c0 A M B u).map fun u=>u.2.2.2+1)=((U35 c0 A M B 0).map fun u=>u.2.2.2+1):=fun u=>by
   unfold U35;rw [E4,E8,E4,E8]
  show ((O0 _++[0])++((Q3 _++[0])++((L7 _ _++[0])++[]))).length=((O0 _++[0])++((Q3 _++[0])++((L7 _ _++[0])++[]))).length;rw [show (if false=true then (U35 c0 A M B u).reverse else U35 c0 A M B u)=U35 c0 A M B u from rfl,show (if false=true then (U35 c0 A M B 0).reverse else U35 c0 A M B 0)=U35 c0 A M B 0 from rfl,g u,k u];simp only [D4,J7,f7,A8] at *;lia
 rw [e v z,e w z',show keyF 3 false (U35 c0 A M B 0) z=keyF 3 false (U35 c0 A M B 0) z' from rfl]
theorem eq4{U:Str->List D8}(c0:Nat)(A M B:List Nat)(v w:Int)(z z':Str)(h1:U z=U35 c0 A M B v)(h2:U z'=U35 c0 A M B w):keyF 4 false (U z) z=keyF 4 false (U z') z'↔z=z':=by
 constructor
 .intro h;have e:∀ (X:List D8) (z:Str),keyF 4 false X z=keyF 3 false X z++((z.cps.toList.map fun c:Nat=>(c:Int))++[0]):=fun X z=>by
   show (O0 X++[0])++((Q3 _++[0])++((L7 _ _++[0])++((L7 _ _++[0])++[])))=((O0 X++[0])++((Q3 _++[0])++((L7 _ _++[0])++[])))++_
   simp
  rw [e,e,h1,h2] at h
  have:=(List.append_inj h (lenK3 c0 A M B v w z z')).2
  have:=List.append_cancel_right this
  have:z.cps.toList=z'.cps.toList:=(List.map_inj_right fun a b e=>Int.ofNat.inj e).mp this
  cases z
  cases z'
  exact congrArg Str.mk (Array.toList_inj.mp this)
 .rintro rfl;rfl
def RunV(y:Str)(n:Int):Prop:=y.cps.toList≠[]/\(∀ c∈y.cps.toList,figO c=true)/\y.length<=80/\((k7 y.cps.toList:Nat):Int)=n
theorem af2(cs:List Nat):∀ k:Nat,k7 (P1 k 48++cs)=k7 cs
 | 0=>rfl
 | k+1=>by rw [bR,W3,PySem.NumText.digitsVal_zero,af2 cs k]
theorem iV(n:Nat):(Str.ofString (toString (n:Int))).cps.toList=(Nat.toDigits 10 n).map Char.toNat:=by
 rw [Str.ofString_eq_toList];show (toString (n:Int)).toList.map Char.toNat=_
 have:toString (n:Int)=Nat.repr n:=rfl
 rw [this];unfold Nat.repr;rw [String.toList_ofList]
theorem ahp(n:Nat):∀ c∈(Str.ofString (toString (n:Int))).cps.toList,figO c=true:=by
 intro c hc;rw [iV] at hc;obtain ⟨x,hx,rfl⟩:=E9.mp hc;have hd:=Nat.isDigit_of_mem_toDigits (by decide) (by decide) hx;unfold Char.isDigit at hd;unfold figO;simp only [W4,decide_eq_true_eq,ge_iff_le] at hd ⊢
 exact ⟨hd.1,hd.2⟩
theorem pH(h:n<10 ^ (k+1)):(Str.ofString (toString (n:Int))).length<=k+1:=by
 rw [<- lenL,iV,A8]
 have:=zH k (n+1) n [] h
 simpa [Nat.toDigits] using this
theorem aeG(h:n<10 ^ 61):n.log2<1920:=by
 by_cases h0:n=0
 .rw [h0];decide
 .exact (Nat.log2_lt h0).mpr (P3 h (by decide +kernel))
theorem aou:∀ cs:List Nat,(∀ c∈cs,figO c=true)->k7 cs<10 ^ cs.length:=by
 intro cs;have go:∀ (cs:List Nat) (a:Nat),(∀ c∈cs,figO c=true)->cs.foldl (fun acc c=>acc*10+(c-48)) a<(a+1)*10 ^ cs.length:=by
  intro cs
  induction cs with
  | nil=>intro a _;simp
  | cons c cs ih=>
   intro a h;have hc:=h c N8;unfold figO at hc;simp only [W4,decide_eq_true_eq] at hc
   have:=ih (a*10+(c-48)) fun d hd=>h d (N7 _ hd)
   rw [List.foldl_cons,J7,Nat.pow_succ];refine P3 this ?_;rw [Nat.mul_comm (10 ^ cs.length) 10,<- Nat.mul_assoc];exact Nat.mul_le_mul_right _ (by first | lia | omega)
 intro h
 have:=go cs 0 h
 simpa [k7] using this
theorem mulJ:∀ j<10,MulOk (Str.ofString "0") ((j:Nat):Int)/\(Txt.mul (Str.ofString "0") ((j:Nat):Int)).cps.toList=P1 j 48:=by
 unfold MulOk;decide +kernel
theorem mul0{k:Int}(h0:0<=k)(h1:k<10):MulOk (Str.ofString "0") k/\(Txt.mul (Str.ofString "0") k).cps.toList=P1 k.toNat 48:=by
 have:=mulJ k.toNat (by first | lia | omega)
 rwa [Int.toNat_of_nonneg h0] at this
theorem amH{w:Str}(hk:k<=9)(hw:w.cps.toList=P1 k 48)(hn:n<10 ^ 61):RunV (w++Str.ofString (toString (n:Int))) n:=by
 have e:(w++Str.ofString (toString (n:Int))).cps.toList=P1 k 48++(Nat.toDigits 10 n).map Char.toNat:=by
  rw [Str.cps_append,Array.toList_append,hw,iV]
 refine ⟨fun h=>?_,fun c hc=>?_,?_,?_⟩
 .rw [e] at h;exact absurd (List.map_eq_nil_iff.mp (List.append_eq_nil_iff.mp h).2) Nat.toDigits_ne_nil
 .rw [e] at hc
  rcases K5.mp hc with hc | hc
  .rw [List.eq_of_mem_replicate hc];decide
  .exact ahp n c (by rw [iV];exact hc)
 .have h1:=pH (k:=60) hn;have h2:w.length=k:=by rw [<- lenL,hw,List.length_replicate]
  rw [Str.length_append];lia
 .rw [e,af2,PySem.W.KIN.val_back]
theorem ajp(h:k<=z.length):(cutS z (some (k:Int)) none).cps.toList=z.cps.toList.drop k:=by
 rw [pL];have e1:HT.sIx z.length 0 (some (k:Int))=k:=by rw [HT.sIx_nat];lia
 have e2:HT.sIx z.length z.length none=z.length:=rfl;rw [e1,e2,b0 (by rw [aE,lenL];exact C4 _)]
theorem pick3(c0 c1:Nat)(k:Int):∃ (z:Str) (A:List Nat),((A=[]/\z=Str.ofString "")\/(A=[c0]/\z=one c0)\/(A=[c1]/\z=one c1))/\z.cps.toList=A/\F8 [V.str (Str.ofString ""),V.str (one c0),V.str (one c1)] (k % 3)=some (V.str z):=by
 rcases (show k % 3=0\/k % 3=1\/k % 3=2 by first | lia | omega) with e | e | e <;> rw [e]
 .exact ⟨_,[],.inl ⟨rfl,rfl⟩,rfl,rfl⟩
 .exact ⟨_,[c0],.inr (.inl ⟨rfl,rfl⟩),rfl,rfl⟩
 .exact ⟨_,[c1],.inr (.inr ⟨rfl,rfl⟩),rfl,rfl⟩
theorem pick2(c2:Nat)(k:Int):∃ (z:Str) (M:List Nat),(M=[]\/M=[c2])/\z.cps.toList=M/\F8 [V.str (Str.ofString ""),V.str (one c2)] (k % 2)=some (V.str z):=by
 rcases (show k % 2=0\/k % 2=1 by first | lia | omega) with e | e <;> rw [e]
 .exact ⟨_,[],.inl rfl,rfl,rfl⟩
 .exact ⟨_,[c2],.inr rfl,rfl,rfl⟩
theorem uak : ∀ c d,V8 c d∉I0 (R35 c0 c1 c2):=fun c d hm=>by
 rcases (ajo c0 c1 c2 _).mp hm with e | e | e <;> (have:=congrArg (fun z:Str=>z.cps.toList.length) e;simp [zE,amz] at this)
theorem D3.kn(h:D3 c0 c1 c2){c:Nat}(hc:c=c2\/c=c0\/c=c1):one c∈I0 (R35 c0 c1 c2)/\figO c=false:=by
 refine ⟨(ajo c0 c1 c2 _).mpr (hc.imp (congrArg one) (Or.imp (congrArg one) (congrArg one))),(h.ok c ?_).2⟩
 rcases hc with rfl | rfl | rfl <;> simp
theorem D3.txt(h:D3 c0 c1 c2)(hL:Q1 (R35 c0 c1 c2) "row" [one c0,one c1])(hM:Q1 (R35 c0 c1 c2) "marks" [one c2]){A M:List Nat}{v:Int}(hA:A=[]\/A=[c0]\/A=[c1])(hM':M=[]\/M=[c2])(hB:B=[]\/B=[c0]\/B=[c1])(hy:RunV y v)(hz:z.cps.toList=A++(y.cps.toList++(M++B))) :
  m5 (hasW (R35 c0 c1 c2) "figures") (I0 (R35 c0 c1 c2)) z/\Q2 (stepY (R35 c0 c1 c2) [one c0,one c1] [one c2]) (cutF (hasW (R35 c0 c1 c2) "figures") (I0 (R35 c0 c1 c2)) z.cps.toList).2=U35 c0 A M B v:=by
 have hk:∀ c∈A++(M++B),one c∈I0 (R35 c0 c1 c2)/\figO c=false:=fun c hc=>h.kn (by
  rcases K5.mp hc with hc | hc
  .rcases hA with rfl | rfl | rfl <;> simp at hc <;> simp [hc]
  .rcases K5.mp hc with hc | hc
   .rcases hM' with rfl | rfl <;> simp at hc <;> simp [hc]
   .rcases hB with rfl | rfl | rfl <;> simp at hc <;> simp [hc])
 have e:=amF uak hy.1 hy.2.1 hk;have sy:stepY (R35 c0 c1 c2) [one c0,one c1] [one c2] y=[(1,v,0)]:=by
  unfold stepY;have hh:figO (y.cps.toList.headD 0)=true:=by
   cases e:y.cps.toList with
   | nil=>exact absurd e hy.1
   | cons c r=>exact hy.2.1 c (by rw [e];exact N8)
  rw [fig35,hh,if_pos (by rfl),hy.2.2.2]
 obtain ⟨s0,s1,s2⟩:=h.steps hL hM;unfold m5;rw [fig35,hz,e];exact ⟨by rw [<- hz,lenL],amG h.n01.symm s0 s1 s2 sy hA hM' hB⟩
theorem D3.txt2(h:D3 c0 c1 c2)(hL:Q1 (R35 c0 c1 c2) "row" [one c0,one c1])(hM:Q1 (R35 c0 c1 c2) "marks" [one c2]){A:List Nat}{c:Nat}(hA:A=[]\/A=[c0]\/A=[c1])(hc:c=c0\/c=c1)(hz:z.cps.toList=A++[c]) :
  m5 (hasW (R35 c0 c1 c2) "figures") (I0 (R35 c0 c1 c2)) z/\∃ a,2<a/\keyF 1 false (Q2 (stepY (R35 c0 c1 c2) [one c0,one c1] [one c2]) (cutF (hasW (R35 c0 c1 c2) "figures") (I0 (R35 c0 c1 c2)) z.cps.toList).2) z=(A.map fun c=>K8 c0 c+3)++(a::[0]):=by
 have hk:∀ d∈A++[c],one d∈I0 (R35 c0 c1 c2)/\figO d=false:=fun d hd=>h.kn (by
  rcases K5.mp hd with hd | hd
  .rcases hA with rfl | rfl | rfl <;> simp at hd <;> simp [hd]
  .rw [M4.mp hd];exact .inr hc)
 have e:=mN uak [] (A++[c]) hk;rw [L3,eX] at e;obtain ⟨s0,s1,s2⟩:=h.steps hL hM;have e0:K8 c0 c0=0:=if_pos rfl;have e1:K8 c0 c1=1:=if_neg h.n01.symm;unfold m5;rw [fig35,hz,e];refine ⟨by rw [<- lenL,hz,Nat.zero_add],?_⟩
 rcases hA with rfl | rfl | rfl <;> rcases hc with rfl | rfl <;>
  (unfold Q2;simp only [p7,E8,f6,W3,V1,dO,s0,s1,e0,e1,L3]) <;>
  first
   | exact ⟨3,by decide,rfl⟩
   | exact ⟨4,by decide,rfl⟩
theorem beg35(n:c0≠c1){q1 q2 q3:Addr}{A:List Nat}(hA:(A=[]/\z=Str.ofString "")\/(A=[c0]/\z=one c0)\/(A=[c1]/\z=one c1))(h1:H q1=some (.lst []))(h2:H q2=some (.lst [V.int 3]))(h3:H q3=some (.lst [V.int 4])) :
  ∃ q,valV (N6 [] [((Sum.inr (Str.ofString ""):B1),V.ref q1),(Sum.inr (one c0),V.ref q2),(Sum.inr (one c1),V.ref q3)]) (Sum.inr z)=some (V.ref q)/\H q=some (.lst ((A.map fun c=>K8 c0 c+3).map V.int)):=by
 have e0:K8 c0 c0=0:=if_pos rfl;have e1:K8 c0 c1=1:=if_neg n.symm;have ne:∀ c,Str.ofString ""≠one c:=fun c e=>by
  have:=congrArg (fun z:Str=>z.cps.toList.length) e
  simp [zE] at this;exact absurd this (by decide +kernel)
 have ni:∀ {x y:Str},x≠y->¬ (Sum.inr x:B1)=Sum.inr y:=fun h e=>h (Sum.inr.inj e)
 show ∃ q,valV (putK (putK (putK [] (Sum.inr (Str.ofString ""):B1) (V.ref q1)) (Sum.inr (one c0)) (V.ref q2)) (Sum.inr (one c1)) (V.ref q3)) (Sum.inr z)=some (V.ref q)/\_;rw [oW,oW,oW]
 rcases hA with ⟨rfl,rfl⟩ | ⟨rfl,rfl⟩ | ⟨rfl,rfl⟩
 .rw [if_neg (ni (ne c1)),if_neg (ni (ne c0)),if_pos rfl];exact ⟨q1,rfl,h1⟩
 .rw [if_neg (ni fun e=>n (eY e)),if_pos rfl];exact ⟨q2,rfl,by rw [E8,e0];exact h2⟩
 .rw [if_pos rfl];exact ⟨q3,rfl,by rw [E8,e1];exact h3⟩
theorem pickL(c0 c1 c2:Nat)(k:Int):∃ c,(c=c0\/c=c1)/\F8 [V.str (one c0),V.str (one c1),V.str (one c2)] (k % 2)=some (V.str (one c)):=by
 rcases (show k % 2=0\/k % 2=1 by first | lia | omega) with e | e <;> rw [e]
 .exact ⟨c0,.inl rfl,rfl⟩
 .exact ⟨c1,.inr rfl,rfl⟩
def spNum(K:PySem.W.Frag):Sp:=fun vs H Q _=>∃ (a:Addr) (ns:List Int),vs=[.ref a]/\C9 K H a (ns.map V.int)/\∀ p (m n:Nat) H',H p=none->Same H H'->H' p=some (.tup [.int m,.int n])->m<10 ^ 61->n<10 ^ 61->Q (.ref p) H'
def spRun:Sp:=fun vs H Q _=>∃ (n:Nat) (c:Int),vs=[.int n,.int c]/\n<10 ^ 61/\∀ y,RunV y n->Q (.str y) H
section
variable {P:Program} {w:World} {K:PySem.W.Frag} {mg:Str->Option Value} {base:Heap} {C:Addr}
theorem sc_told:FnScope ["rows", "seen", "row", "piece"] ["rows"] (C6 m6):=G0
abbrev VS(N:List Str)(s:Stmt)(x:Str)(n:Nat):Prop:=∀ {X:Cx} {pos:Pos},X.N=N->X.env.scope=C6 s->QE X (.Name x pos) (tVar n)
theorem vq{s:Stmt}{x:Str}(h:(decide (N[n]?=some x)&&visB (C6 s) x && !(x==("__debug__" : Str)) && !(x==("__classdict__" : Str)))=true:=by decide +kernel):VS N s x n:=fun hN hs=>qvd hN hs h
theorem vi{s:Stmt}{x:Str}{pos:Pos}(h:VS N s x n)(h1:X.N=N:=by rfl)(h2:X.env.scope=C6 s:=by rfl):QE X (.Name x pos) (tVar n):=h h1 h2
abbrev LS(s:Stmt)(x:Str):Prop:=g4 (C6 s) x
theorem lq{s:Stmt}{x:Str}(h:(C6 s).names.lookup x=some .local\/(C6 s).names.lookup x=some .cell:=by decide +kernel):LS s x:=h
abbrev mP:List Str:=["rows", "seen", "row", "piece"]
theorem vaa:VS mP m6 "rows" 0:=vq
theorem vab:VS mP m6 "seen" 1:=vq
theorem vac:VS mP m6 "row" 2:=vq
theorem vad:VS mP m6 "piece" 3:=vq
theorem vae:LS m6 "seen":=lq
theorem vaf:LS m6 "row":=lq
theorem vag:LS m6 "piece":=lq
theorem amI(F:FunD K "told" "told" m6 f fd)(T:Txt P w K mg C):FnOk P w K mg base E1 1 f fd ["rows"] yG:=by
 refine F.ok sc_told ?_ ?_
 .rintro _ _ _ _ ⟨a,rs,zss,rfl,_⟩;rfl
 .intro cdv A outer s H vs Q E hr h;have C5:=hu_of hr;have hu:=hr.units;refine ⟨_,QSs.out (C1 (F7 (n:=1) sc_told.nd rfl vae eG)
   (C1 (P8 PassesOwn.never (P9 (K:=K) (vi vaa)) (E2 (n:=2) sc_told.nd rfl vaf (.inl rfl)) (C3 (P8 PassesOwn.never (P9 (K:=K) (vi vac)) (E2 (n:=3) sc_told.nd rfl vag (.inl rfl)) (C3 (u9 C5 (vi vab) (vi vad) qe_bl)))))
   (C3 (D9 (qe_cT (eJ (K:=K) (calm:=true)) T.b_list eF (qa_c (vi vab) A2)))))),?_⟩
  obtain ⟨a,rs,zss,rfl,hR,hz,q⟩:=h;walk_at "rd";intro d nd;have hlz:∀ n:Nat,n<=100000->n<sizeLine:=fun n h=>L4 (by first | lia | omega)
  refine ⟨⟨_,.of (C8 hR.top nd)⟩,forL (xs:=rs.map V.ref) (fun i Y H2=>∃ (u v:Option V),Y=[some (.ref a),some (.ref d),u,v]/\Same H H2/\H2 d=some (.dK (kvOf (toldL (zss.take i)))))
   ⟨none,none,rfl,Same.new nd,by rw [A4];rfl⟩ (by rintro i Y H2 _ ⟨_,_,_,S,_⟩;exact .of (S _ _ hR.top)) ?_ ?_⟩
  .rintro i x Y H2 hx ⟨u,v,rfl,S,hd⟩;obtain ⟨r,hr,rfl⟩:=K0 hx;obtain ⟨zs,fO,D5⟩:=Paired.at hR.row hr;have hcount:(toldL (zss.take i)).length+zs.length<=100000:=by
    have h1:zss.take (i+1)=zss.take i++[zs]:=by rw [b9,fO];rfl
    have h2:=gZ (zss.take i);have h3:(zss.take (i+1)).flatten.length<=zss.flatten.length:=by
     conv=>rhs;rw [<- o9 (i+1) zss]
     rw [List.flatten_append,D4];lia
    rw [h1,List.flatten_append,D4] at h3;simp at h3;simp at h2 hz h3 ⊢
    lia
   walk_at "rd";refine ⟨⟨_,.of (S _ _ D5)⟩,forL (xs:=zs.map V.str) (fun j Y H3=>∃ (v:Option V),Y=[some (.ref a),some (.ref d),some (.ref r),v]/\Same H H3/\H3 d=some (.dK (kvOf (F6 (toldL (zss.take i)) (zs.take j)))))
    ⟨v,rfl,S,hd⟩ (by rintro j Y H3 _ ⟨_,_,S3,_⟩;exact .of (S3 _ _ D5)) ?_ ?_⟩
   .rintro j y Y H3 hy ⟨v,rfl,S3,W1⟩;obtain ⟨z,hz',rfl⟩:=K0 hy;walk_at "rd";refine ⟨_,aO (k:=Sum.inr z) W1 ?_,S3.put nd,?_⟩
    .unfold kvOf;rw [A8];refine hlz _ ?_
     have:=gY (zs.take j) (toldL (zss.take i))
     rw [M5] at this;lia
    .rw [A4,wF,aj9 hz']
   .rintro Y H3 ⟨v,rfl,S3,W1⟩;walk_at "rd";refine ⟨S3,?_⟩;rw [W1,aiz fO,A8,L1]
  .rintro Y H2 ⟨u,v,rfl,S,hd⟩;walk_at "rd";refine rListR.d (.of hd) fun l nl=>?_
   refine q l _ (S.free nl) (fun b o h=>C8 (S b o h) nl) ?_;rw [A4,aiA,A8];rw [show rs.length=zss.length from Paired.length hR.row,L1]
theorem sc_followers:FnScope ["rows", "after", "piece", "row", "one", "other"] ["rows"] (C6 X0):=G0
abbrev fA:List Str:=["rows", "after", "piece", "row", "one", "other"]
theorem vah:VS fA X0 "rows" 0:=vq
theorem qY:VS fA X0 "after" 1:=vq
theorem vaj:VS fA X0 "piece" 2:=vq
theorem vak:VS fA X0 "row" 3:=vq
theorem vam:VS fA X0 "one" 4:=vq
theorem van:VS fA X0 "other" 5:=vq
theorem vao:LS X0 "after":=lq
theorem vap:LS X0 "piece":=lq
theorem vaq:LS X0 "row":=lq
theorem var:LS X0 "one":=lq
theorem vas:LS X0 "other":=lq
theorem af3(F:FunD K "followers" "followers" X0 f fd)(T:Txt P w K mg C)(G_told:FO P w K mg base 1 "told" ["rows"] [] yG):FnOk P w K mg base E1 2 f fd ["rows"] spFol:=by
 refine F.ok sc_followers ?_ ?_
 .rintro _ _ _ _ ⟨a,rs,zss,rfl,_⟩;rfl
 .intro cdv A outer s H vs Q E hr h;have C5:=hu_of hr;have hu:=hr.units;refine ⟨_,QSs.out (C1 (F7 (n:=1) sc_followers.nd rfl vao eG)
   (C1 (P8 PassesOwn.never (P9 (K:=K) (D7 G_told (hm hr) (qa_c (vi vah) A2))) (E2 (n:=2) sc_followers.nd rfl vap (.inl rfl)) (C3 (u9 C5 (vi qY) (vi vaj) (N3 A2))))
   (C1 (P8 PassesOwn.never (P9 (K:=K) (vi vah)) (E2 (n:=3) sc_followers.nd rfl vaq (.inl rfl)) (C3 (P8 PassesOwn.never (an1 T.b_zip (qa_c (vi vak) (qa_c (W7 (K:=K) (vi vak) (P7 A6) u8) A2))) (aR (K:=K) (n:=2) (Q6 ((E2 (n:=4) sc_followers.nd rfl var (.inl rfl))) (Q6 ((E2 (n:=5) sc_followers.nd rfl vas (.inl rfl))) aQ))) (C3 (U0 (qe_mB (K:=K) W5 q9 q5 v6 (Y3 C5 (vi qY) (vi vam)) (qa_c (vi van) A2)))))))
   (C3 (D9 (vi qY)))))),?_⟩
  obtain ⟨a,rs,zss,rfl,hR,hz,q⟩:=h;walk_at "rd";intro d nd;have S0:Same H (A0 H d (.dK [])):=Same.new nd;refine ⟨a,rs,zss,rfl,hR.same S0,hz,fun l H1 nl S1 hl=>?_⟩;have sX:H1 d=some (.dK []):=S1 _ _ A4;have S01:=S0.trans S1;have A9:(toldL zss).length<=100000:=M6 (gZ zss) hz;have tnd:=eO zss;refine ⟨l,rfl,⟨_,.of hl⟩,forL (xs:=(toldL zss).map V.str) (fun i Y H2=>∃ (u v w x:Option V) (ad:Str->Addr),Y=[some (.ref a),some (.ref d),u,v,w,x]/\SameBut d H1 H2/\H2 d=some (.dK (C2 ((toldL zss).take i) fun t=>.ref (ad t)))/\DL H1 H2 ((toldL zss).take i) ad fun _=>[])
   ⟨none,none,none,none,fun _=>0,rfl,xO _ _,sX,⟨fun t h=>by simp at h,fun t h=>by simp at h,fun t h=>by simp at h⟩⟩ (fun i Y H2 _ ⟨_,_,_,_,_,_,S,_⟩=>.of (S _ _ (fun e=>by rw [e,sX] at hl;cases hl) hl)) ?_ ?_⟩
  .rintro i x Y H2 hx ⟨u,v,w,y,ad,rfl,S,hd,dl⟩;obtain ⟨z,hk,rfl⟩:=K0 hx;have hi:i<(toldL zss).length:=(J8.mp hk).1;have P6:=pX tnd hk;walk_at "rd";refine fun p np=>⟨_,aO (k:=Sum.inr z) (C8 hd np) (by rw [i3,M5];exact L4 (by first | lia | omega)),?_⟩
   have n1:H1 p=none:=S.free np (fun e=>by rw [e,hd] at np;cases np);refine ⟨(S.put n1).at,fun t=>if t=z then p else ad t,?_,?_⟩
   .rw [A4,cI _ P6,M7 hk];have e:(fun t=>if t=z then V.ref p else V.ref (ad t))=fun t=>V.ref (if t=z then p else ad t):=by funext t;split <;> rfl
    rw [e]
   .rw [M7 hk];exact ((dl.more P6 np n1).congr fun t _=>by split <;> rfl).put sX
  .rintro Y H2 ⟨u,v,w,y,ad,rfl,S,hd,dl⟩;rw [A8,L1] at hd dl;have S2:Same H H2:=S.same S01 nd;walk_at "rd";have dl0:DL H H2 (toldL zss) ad fun _=>[]:=dl.old S01
   refine ⟨⟨_,.of (S2 _ _ hR.top)⟩,forL (xs:=rs.map V.ref) (fun i Y H3=>∃ (v w x:Option V),Y=[some (.ref a),some (.ref d),u,v,w,x]/\Same H H3/\H3 d=some (.dK (C2 (toldL zss) fun t=>.ref (ad t)))/\DL H H3 (toldL zss) ad (E3 (edges (zss.take i))))
    ⟨v,w,y,rfl,S2,hd,dl0⟩ (by rintro i Y H3 _ ⟨_,_,_,_,S,_⟩;exact .of (S _ _ hR.top)) ?_ ?_⟩
   .rintro i x Y H3 hx ⟨v,w,y,rfl,S3,W1,o5⟩;obtain ⟨r,hr,rfl⟩:=K0 hx;obtain ⟨zs,fO,D5⟩:=Paired.at hR.row hr;have bJ:=S3 _ _ D5;have L6:∀ x∈zs,x∈toldL zss:=fun x hx=>(pV _ _).mpr (List.mem_flatten.mpr ⟨zs,O1 fO,hx⟩)
    walk_at "rd";refine rSlR.l (.of bJ) fun p np=>?_
    have ecut:cutV (zs.map V.str) (some 1) none=zs.tail.map V.str:=by
     have:=eK (zs.map V.str) 1
     rw [show ((1:Nat):Int)=1 from rfl] at this;rw [this,<- List.map_drop,List.drop_one]
    rw [ecut];have np0:H p=none:=S3.free np;have nad:∀ t∈toldL zss,ad t≠p:=fun t ht e=>by have:=o5.row t ht;rw [e,np] at this;cases this
    have nadr:∀ t∈toldL zss,ad t≠r:=fun t ht e=>by have:=o5.new t ht;rw [e,D5] at this;cases this
    have ndp:d≠p:=fun e=>by rw [<- e,W1] at np;cases np
    have nadd:∀ t∈toldL zss,ad t≠d:=fun t ht e=>by have:=o5.row t ht;rw [e,W1] at this;cases this
    refine ⟨p,rfl,⟨_,C8 bJ np⟩,⟨_,A4⟩,forZ (xs:=zs.map V.str) (ys:=zs.tail.map V.str) (fun j Y H4=>∃ (w x:Option V),Y=[some (.ref a),some (.ref d),u,some (.ref r),w,x]/\Same H H4/\H4 p=some (.lst (zs.tail.map V.str))/\H4 d=some (.dK (C2 (toldL zss) fun t=>.ref (ad t)))/\DL H H4 (toldL zss) ad (E3 (edges (zss.take i)++(R3 zs).take j)))
     ⟨w,y,rfl,S3.put np0,A4,C8 W1 np,?_⟩ (by rintro j Y H4 ⟨_,_,_,S,hp,_⟩;exact ⟨S _ _ D5,hp⟩) ?_ ?_⟩
    .rw [aG,L3];exact o5.same (Same.new np)
    .rintro j xv yv t Y H4 hxv hyv ⟨w,v,rfl,S4,jY,X8,fP⟩ nt;obtain ⟨x,hx,rfl⟩:=K0 hxv;obtain ⟨y,hy,rfl⟩:=K0 hyv;have fQ:=L6 x (O1 hx);have nt0:H t=none:=S4.free nt;have hlx:=fP.row x fQ;have hE:(R3 zs)[j]?=some (x,y):=xJ hx hy;walk_at "rd";refine ⟨_,.of A4,rfl,_,_,rfl,_,_,rfl,rfl,V.ref (ad x),.inl ⟨_,Sum.inr x,.inl (C8 X8 nt),rfl,by rw [O8,if_pos fQ]⟩,V7 (C8 hlx nt),appOk (C8 hlx nt) ?_ ⟨(S4.put nt0).put (fP.new x fQ),?_,?_,?_⟩⟩
     .rw [A8];refine L4 ?_;have h1:(E3 (edges (zss.take i)++(R3 zs).take j) x).length<=(edges (zss.take i)++(R3 zs).take j).length:=by
       unfold E3;rw [A8];exact List.length_filter_le _ _
      have h2:=xK (zss.take i);have h3:(zss.take i).flatten.length<=zss.flatten.length:=by
       conv=>rhs;rw [<- o9 i zss]
       rw [List.flatten_append,D4];lia
      have h4:zs.length<=zss.flatten.length:=List.Sublist.length_le (List.sublist_flatten_of_mem (O1 fO));rw [D4,M5,pW] at h1;lia
     .rw [B3 (nad x fQ).symm];exact C8 jY nt
     .rw [B3 (nadd x fQ).symm];exact C8 X8 nt
     .have h1:=(fP.same (Same.new (u:=.tup [V.str x,V.str y]) nt)).app fQ (E3 (edges (zss.take i)++(R3 zs).take j) x++[y]);rw [E4] at h1;refine h1.congr fun t _=>?_
      rw [M7 hE,<- V2,akl]
      by_cases e:t=x
      .rw [if_pos e,if_pos e.symm,e]
      .rw [if_neg e,if_neg (fun z=>e z.symm)]
    .rintro Y H4 ⟨w,x,rfl,S4,jY,X8,fP⟩;walk_at "rd";refine ⟨S4,X8,?_⟩;rw [ahF fO];rw [b0 (l:=R3 zs) (by rw [pW,A8,A8];exact C4 _)] at fP;exact fP
   .rintro Y H3 ⟨v,w,y,rfl,S3,W1,o5⟩;rw [A8,show rs.length=zss.length from Paired.length hR.row,L1] at o5;walk_at "rd";exact q d ad H3 nd S3 W1 o5
theorem sc_count_ahead:FnScope ["after", "ahead", "piece", "other"] ["after"] (C6 m7):=G0
abbrev mQ:List Str:=["after", "ahead", "piece", "other"]
theorem qZ:VS mQ m7 "after" 0:=vq
theorem rA:VS mQ m7 "ahead" 1:=vq
theorem vav:VS mQ m7 "piece" 2:=vq
theorem vaw:VS mQ m7 "other" 3:=vq
theorem vax:LS m7 "ahead":=lq
theorem vay:LS m7 "piece":=lq
theorem vaz:LS m7 "other":=lq
theorem ad5(F:FunD K "count_ahead" "count_ahead" m7 f fd)(T:Txt P w K mg C):FnOk P w K mg base E1 1 f fd ["after"] xL:=by
 refine F.ok sc_count_ahead ?_ ?_
 .rintro _ _ _ _ ⟨d,ts,ad,E,rfl,_⟩;rfl
 .intro cdv A outer s H vs Q E hr h;have C5:=hu_of hr;have hu:=hr.units;refine ⟨_,QSs.out (C1 (F7 (n:=1) sc_count_ahead.nd rfl vax eG)
   (C1 (pS PassesOwn.never (vi qZ) (E2 (n:=2) sc_count_ahead.nd rfl vay (.inl rfl)) (C3 (u9 C5 (vi rA) (vi vav) A6)))
   (C1 (pS PassesOwn.never (vi qZ) (E2 (n:=2) sc_count_ahead.nd rfl vay (.inl rfl)) (C3 (P8 PassesOwn.never (P9 (K:=K) (Y3 C5 (vi qZ) (vi vav))) (E2 (n:=3) sc_count_ahead.nd rfl vaz (.inl rfl)) (C3 (wK C5 (vi rA) (vi vaw) A6 anU)))))
   (C3 (D9 (vi rA)))))),?_⟩
  obtain ⟨d,ts,ad,E,rfl,hd,tnd,A9,hElen,D5,hE,q⟩:=h;walk_at "rd";intro c nc;have ndc:d≠c:=fun e=>by rw [e,nc] at hd;cases hd
  refine ⟨_,C8 hd nc,fun o=>forD (fun i Y H2=>∃ (u v:Option V),Y=[some (.ref d),some (.ref c),u,v]/\H2 d=some (.frz o (.dK (C2 ts fun t=>.ref (ad t))))/\SameBut d H H2/\H2 c=some (.dK (C2 (ts.take i) fun _=>.int 0)))
   ⟨none,none,rfl,A4,(SameBut.put (xO _ _) nc).at,by rw [B3 ndc.symm,A4];rfl⟩ (by rintro i Y H2 ⟨_,_,_,h,_⟩;exact h) ?_ ?_⟩
  .rintro i k v Y H2 hk ⟨u,w,rfl,hf,S,hc⟩;obtain ⟨t,ht,rfl,rfl⟩:=xI hk;have hi:i<ts.length:=(J8.mp ht).1;walk_at "rd";refine ⟨_,aO (k:=Sum.inr t) hc (by rw [i3,M5];exact L4 (by first | lia | omega)),?_,S.put nc,?_⟩
   .rw [B3 ndc];exact hf
   .rw [A4,cI _ (pX tnd ht),M7 ht];exact congrArg (fun x=>some (HO.dK x)) (U1 fun t _=>by split <;> rfl)
  .rintro Y H2 ⟨u,w,rfl,hf,S,hc⟩;rw [i3,L1] at hc;have S2:Same H (A0 H2 d (.dK (C2 ts fun t=>.ref (ad t)))):=S.thaw hd;have Q8:A0 H2 d (.dK (C2 ts fun t=>.ref (ad t))) d=some (.dK (C2 ts fun t=>.ref (ad t))):=A4;have U9:A0 H2 d (.dK (C2 ts fun t=>.ref (ad t))) c=some (.dK (C2 ts fun _=>.int 0)):=by rw [B3 ndc.symm];exact hc
   generalize A0 H2 d (.dK (C2 ts fun t=>.ref (ad t)))=H3 at S2 Q8 U9;walk_at "rd";refine ⟨_,Q8,fun o=>forD (fun i Y H4=>∃ (u v:Option V),Y=[some (.ref d),some (.ref c),u,v]/\H4 d=some (.frz o (.dK (C2 ts fun t=>.ref (ad t))))/\SameBut d H H4/\H4 c=some (.dK (C2 ts fun t=>.int (cntIn E (ts.take i) t:Nat))))
    ⟨u,w,rfl,A4,fun b o hb h=>by rw [B3 hb];exact S2 b o h,?_⟩ (by rintro i Y H2 ⟨_,_,_,h,_⟩;exact h) ?_ ?_⟩
   .rw [B3 ndc.symm,U9];exact congrArg (fun x=>some (HO.dK x)) (U1 fun t _=>by rw [aG,aiO];rfl)
   .rintro i k v Y H4 hk ⟨u,w,rfl,hf,S4,fR⟩;obtain ⟨t,ht,rfl,rfl⟩:=xI hk;have jZ:t∈ts:=O1 ht;have sY:H4 (ad t)=some (.lst ((E3 E t).map V.str)):=S4 _ _ (fun e=>by have:=D5 t jZ;rw [e,hd] at this;cases this) (D5 t jZ);walk_at "rd";refine ⟨V.ref (ad t),.inl ⟨_,Sum.inr t,.inr ⟨o,hf⟩,rfl,by rw [O8,if_pos jZ]⟩,ad t,rfl,⟨_,.of sY⟩,forL (xs:=(E3 E t).map V.str) (fun j Y H5=>∃ (v:Option V),Y=[some (.ref d),some (.ref c),some (kV (Sum.inr t)),v]/\H5 d=some (.frz o (.dK (C2 ts fun t=>.ref (ad t))))/\SameBut d H H5/\
     H5 c=some (.dK (C2 ts fun q=>.int (cntIn E (ts.take i) q+((E3 E t).take j).count q:Nat)))) ⟨w,rfl,hf,S4,by rw [fR];rfl⟩ (fun j Y H5 _ ⟨_,_,_,S5,_⟩=>.of (S5 _ _ (fun e=>by have:=D5 t jZ;rw [e,hd] at this;cases this) (D5 t jZ))) ?_ ?_⟩
    .rintro j v5 Y H5 sZ ⟨v,rfl,tD,S5,X9⟩;obtain ⟨y,kA,rfl⟩:=K0 sZ;have bK:y∈ts:=by
      have:=O1 kA
      unfold E3 at this;obtain ⟨e,he,rfl⟩:=E9.mp this;exact (hE e (U7.mp he).1).2
     walk_at "rd";refine ⟨V.int (cntIn E (ts.take i) y+((E3 E t).take j).count y:Nat),.inl ⟨_,Sum.inr y,.inl X9,rfl,by rw [O8,if_pos bK]⟩,_,_,rfl,rfl,_,aO (k:=Sum.inr y) X9 (by rw [i3];exact L4 (by first | lia | omega)),?_,S5.put nc,?_⟩
     .rw [B3 ndc];exact tD
     .rw [A4,lV _ bK];refine congrArg (fun x=>some (HO.dK x)) (U1 fun q _=>?_);rw [M7 kA,List.count_append,List.count_singleton]
      by_cases e:q=y
      .rw [if_pos e,e,if_pos (by simp)];exact congrArg V.int (by first | lia | omega)
      .rw [if_neg e,if_neg (by simpa using fun z:y=q=>e z.symm)];rfl
    .rintro Y H5 ⟨v,rfl,tD,S5,X9⟩;walk_at "rd";refine ⟨tD,S5,?_⟩;rw [A8,L1] at X9;rw [X9];refine congrArg (fun x=>some (HO.dK x)) (U1 fun q _=>?_);rw [M7 ht,ahC (pX tnd ht)]
   .rintro Y H4 ⟨u,w,rfl,hf,S4,fR⟩;rw [i3,L1] at fR;walk_at "rd";refine q c _ nc (S4.thaw hd) ?_;rw [B3 ndc.symm,fR];exact congrArg (fun x=>some (HO.dK x)) (U1 fun t _=>by rw [aiN (fun e he=>(hE e he).1)])
theorem sc_lined_up:FnScope ["rows", "after", "ahead", "pieces", "numbers", "free", "line", "number", "other"] ["rows"] (C6 P0):=G0
abbrev w8:List Str:=["rows", "after", "ahead", "pieces", "numbers", "free", "line", "number", "other"]
theorem vaA:VS w8 P0 "rows" 0:=vq
theorem rB:VS w8 P0 "after" 1:=vq
theorem vaC:VS w8 P0 "ahead" 2:=vq
theorem iW:VS w8 P0 "pieces" 3:=vq
theorem vaE:VS w8 P0 "numbers" 4:=vq
theorem mR:VS w8 P0 "free" 5:=vq
theorem rC:VS w8 P0 "line" 6:=vq
theorem rD:VS w8 P0 "number" 7:=vq
theorem rE:VS w8 P0 "other" 8:=vq
theorem vaJ:LS P0 "after":=lq
theorem vaK:LS P0 "ahead":=lq
theorem vaL:LS P0 "pieces":=lq
theorem vaM:LS P0 "numbers":=lq
theorem vaN:LS P0 "free":=lq
theorem vaO:LS P0 "line":=lq
theorem vaP:LS P0 "number":=lq
theorem vaQ:LS P0 "other":=lq
theorem agC(F:FunD K "lined_up" "lined_up" P0 f fd)(T:Txt P w K mg C)(G_followers:FO P w K mg base 2 "followers" ["rows"] [] spFol)(G_count_ahead:FO P w K mg base 1 "count_ahead" ["after"] [] xL):FnOk P w K mg base E1 3 f fd ["rows"] xN:=by
 refine F.ok sc_lined_up ?_ ?_
 .rintro _ _ _ _ ⟨a,rs,zss,rank,rfl,_⟩;rfl
 .intro cdv A outer s H vs Q E hr h;have C5:=hu_of hr;have hu:=hr.units;refine ⟨_,QSs.out (C1 (F7 (n:=1) sc_lined_up.nd rfl vaJ (D7 G_followers (hm hr) (qa_c (vi vaA) A2)))
   (C1 (F7 (n:=2) sc_lined_up.nd rfl vaK (D7 G_count_ahead (hm hr) (qa_c (vi rB) A2)))
   (C1 (F7 (n:=3) sc_lined_up.nd rfl vaL (qe_cT (eJ (K:=K) (calm:=true)) T.b_list eF (qa_c (vi rB) A2)))
   (C1 (F7 (n:=4) sc_lined_up.nd rfl vaM (qe_cT (xB (K:=K) (calm:=true)) T.b_dict wB (qa_c (Z6  (X1:CompOk ["rows", "after", "ahead", "pieces", "numbers", "free", "line", "number", "other"] (C6 P0).names _ ["number", "piece"] 2 []) (pY T.b_enumerate (qa_c (vi iW) A2)) (fun _ _ _ _ _=>(aR (K:=K) (n:=2) (Q6 (E2 (n:=0) (show List.Nodup (["number", "piece"]:List Str) by decide +kernel) rfl (Or.inl rfl)) (Q6 (E2 (n:=1) (show List.Nodup (["number", "piece"]:List Str) by decide +kernel) rfl (Or.inl rfl)) aQ)))) (fun _ _ _ _ _=>v4) (fun _ _ _ _ _=>(O7 (qa_c (qv 1) (qa_c (qv 0) A2))))) A2)))
   (C1 (wN (n:=5) sc_lined_up.nd rfl vaN (X1:CompOk ["rows", "after", "ahead", "pieces", "numbers", "free", "line", "number", "other"] (C6 P0).names _ ["piece", "numbers", "ahead"] 1 [4,2]) (P9 (K:=K) (vi iW)) (fun _ _ _ _ _=>E2 (n:=0) (show List.Nodup (["piece", "numbers", "ahead"]:List Str) by decide +kernel) rfl (Or.inl rfl)) (fun _ _ _ _ _=>(hG (L5 (q_eq (K:=K) hu) (Y3 C5 (qv 2) (qv 0)) A6))) (fun _ _ _ _ _=>(Y3 C5 (qv 1) (qv 0))))
   (C1 (F7 (n:=6) sc_lined_up.nd rfl vaO (N3 A2))
   (C1 (pM PassesOwn.never (g8 (K:=K) (vi mR)) (C1 (F7 (n:=7) sc_lined_up.nd rfl vaP (qe_cB (aoc (calm:=true)) T.b_min anP (qa_c (vi mR) A2)))
   (C1 (U0 (qe_mB (K:=K) W5 PySem.F.slot_list_remove PySem.F.type_list_remove ai2 (vi mR) (qa_c (vi rD) A2)))
   (C1 (U0 (qe_mB (K:=K) W5 q9 q5 v6 (vi rC) (qa_c (qe_ix (K:=K) (vi iW) (vi rD)) A2)))
   (C3 (P8 PassesOwn.never (P9 (K:=K) (Y3 C5 (vi rB) (qe_ix (K:=K) (vi iW) (vi rD)))) (E2 (n:=8) sc_lined_up.nd rfl vaQ (.inl rfl)) (C1 (wK C5 (vi vaC) (vi rE) A6 anV)
   (C3 (qs_if (L5 (q_eq (K:=K) hu) (Y3 C5 (vi vaC) (vi rE)) A6) (C3 (U0 (qe_mB (K:=K) W5 q9 q5 v6 (vi mR) (qa_c (Y3 C5 (vi vaE) (vi rE)) A2)))) N4)))))))))
   (C1 (qs_if (L5 q_lt (qe_cB (q_len (K:=K)) T.b_len eE (qa_c (vi rC) A2)) (qe_cB (q_len (K:=K)) T.b_len eE (qa_c (vi iW) A2))) (C3 lR) N4)
   (C3 (D9 (vi rC))))))))))),?_⟩
  obtain ⟨a,rs,zss,rank,rfl,hR,hz,j4,q⟩:=h;walk_at "rd";have A9:(toldL zss).length<=100000:=M6 (gZ zss) hz;have hElen:(edges zss).length<=100000:=M6 (xK zss) hz;have tnd:=eO zss;have etold:∀ e∈edges zss,e.1∈toldL zss/\e.2∈toldL zss:=fun e he=>ahE he
  refine ⟨a,rs,zss,rfl,hR,hz,fun d ad H1 nd S1 hd dl=>?_⟩;generalize hts:toldL zss=ts at *;generalize hEE:edges zss=E at *;refine ⟨d,ts,ad,E,rfl,hd,tnd,A9,hElen,dl.row,etold,fun c H2 nc S2 hc=>?_⟩;walk_at "rd";refine rListR.d (.of (S2 _ _ hd)) fun w nw=>?_
  rw [akn];have bL:=S1.trans S2;have ncH:H c=none:=S1.free nc;have Q8:=S2 _ _ hd;have ncd:c≠d:=fun e=>by rw [e,hd] at nc;cases nc
  have nac:∀ t∈ts,ad t≠c:=fun t ht e=>by have:=dl.row t ht;rw [e,nc] at this;cases this
  have nO:A0 H2 w (.lst (ts.map V.str)) w=some (.lst (ts.map V.str)):=A4;have Sw:Same H2 (A0 H2 w (.lst (ts.map V.str))):=Same.new nw;generalize A0 H2 w (.lst (ts.map V.str))=H3 at nO Sw ⊢
  have idx:∀ {i:Nat} {z:Str},ts[i]?=some z->ts.idxOf z=i:=fun {i z} h=>by
   obtain ⟨hi,rfl⟩:=J8.mp h;exact List.Nodup.idxOf_getElem tnd i hi
  refine ⟨w,rfl,⟨_,nO⟩,compE (xs:=ts.map V.str) [] rfl (fun D i ys H4=>∃ qs:List Addr,ys=qs.map V.ref/\Same H3 H4/\Paired (fun q t=>H4 q=some (.tup [.str t,.int (ts.idxOf t:Nat)])) qs (ts.take i)) (fun D nD=>⟨[],rfl,Same.new nD,.nil⟩) (by rintro D i ys H4 nD _ ⟨_,_,S,_⟩;exact S _ _ nO) ?_ ?_⟩
  .rintro D i x t ys H4 nD hi hx ⟨qs,rfl,S,P4⟩ hD hy nt;obtain ⟨z,hz,rfl⟩:=K0 hx;rw [A8] at hi hy;walk_at "rd";refine ⟨by decide,fun p np=>⟨C8 (C8 hD nt) np,by rw [A8];exact L4 (by first | lia | omega),eR.put (by rw [A8];exact hi) (by rw [A8];exact hy) ⟨qs++[p],by rw [E4];rfl,((S.trans (Same.new nt)).trans (Same.new np)).put nD,?_⟩⟩⟩;rw [M7 hz];refine Paired.snoc (R7 P4 fun q t' h=>?_) ?_
   .rw [B3 (fun e=>by rw [e,hD] at h;cases h)];exact C8 (C8 h nt) np
   .rw [B3 (fun e=>by rw [e,C8 hD nt] at np;cases np),A4,idx hz]
  rintro D ys H4 nD ⟨qs,rfl,tE,P4⟩ hD hy;rw [A8,L1] at P4;refine ⟨rfl,D,qs,_,rfl,.of hD,yF (f:=fun t=>.int (ts.idxOf t:Nat)) P4,fun nm nnm=>?_⟩;rw [show N6 [] (C2 ts fun t=>V.int (ts.idxOf t:Nat))=C2 ts fun t=>V.int (ts.idxOf t:Nat) from yD (pre:=[]) (by simpa using tnd)];have S5:Same H2 (A0 H4 nm (.dK (C2 ts fun t=>V.int (ts.idxOf t:Nat)))):=(Sw.trans tE).trans (Same.new nnm);have x9:A0 H4 nm (.dK (C2 ts fun t=>V.int (ts.idxOf t:Nat))) w=some (.lst (ts.map V.str)):=C8 (tE _ _ nO) nnm;have tF:A0 H4 nm (.dK (C2 ts fun t=>V.int (ts.idxOf t:Nat))) nm=some (.dK (C2 ts fun t=>V.int (ts.idxOf t:Nat))):=A4;have fR:H4 c=some (.dK (C2 ts fun t=>.int (E6 E [] t:Nat))):=tE _ _ (Sw _ _ hc);have ncn:c≠nm:=fun e=>by rw [<- e,fR] at nnm;cases nnm
  generalize A0 H4 nm (.dK (C2 ts fun t=>V.int (ts.idxOf t:Nat)))=H5 at S5 x9 tF ⊢
  have X9:=S5 _ _ hc;have hd5:=S5 _ _ Q8;have fL:∀ t∈ts,H5 (ad t)=some (.lst ((E3 E t).map V.str)):=fun t ht=>S5 _ _ (S2 _ _ (dl.row t ht))
  have S05:=bL.trans S5;have ncw:c≠w:=fun e=>by rw [e,x9] at X9;cases X9
  refine ⟨w,rfl,⟨_,.of x9⟩,compL (xs:=ts.map V.str) [some (.ref nm),some (.ref c)] rfl (fun D i ys H6=>∃ fr:List Int,ys=fr.map V.int/\Same H5 H6/\FS (ts.take i) [] (fun q=>E6 E [] q=0) fr) (fun D nD=>⟨[],rfl,Same.new nD,FS.nil _⟩) (by rintro D i ys H6 nD _ ⟨_,_,S,_⟩;exact .of (S _ _ x9)) ?_ ?_⟩
  .rintro D i x ys H6 nD hi hx ⟨fr,rfl,S,F⟩ hD hy;obtain ⟨z,hz,rfl⟩:=K0 hx;have hzt:z∈ts:=O1 hz;have hil:i<ts.length:=(J8.mp hz).1;rw [A8] at hy;have hs:=F.snoc (i:=i) (q:=z) (by rw [M5];lia) (by simp);rw [<- M7 hz] at hs;walk_at "rd";refine ⟨V.int (E6 E [] z:Nat),.inl ⟨_,Sum.inr z,.inl (S _ _ X9),rfl,by rw [O8,if_pos hzt]⟩,?_⟩
   try walk_at "rd"
   refine iteD (fun h0=>⟨V.int (ts.idxOf z:Nat),.inl ⟨_,Sum.inr z,.inl (S _ _ tF),rfl,by rw [O8,if_pos hzt]⟩,hD,by rw [A8];exact L4 (by first | lia | omega),CW.put hi (by rw [A8];exact hy) ⟨fr++[(i:Int)],by rw [E4,idx hz];rfl,S.put nD,hs.1 (by first | lia | omega)⟩⟩) fun h0=>⟨hD,wE hi (by rw [A8];exact hy) ⟨fr,rfl,S,hs.2 (by first | lia | omega)⟩⟩
  rintro f ys H6 nf ⟨fr,rfl,tG,F0⟩ tH hy;rw [A8,L1] at F0;intro ln nln;have nln5:H5 ln=none:=tG.free nln;have j5:f≠ln:=fun e=>by rw [e,nln] at tH;cases tH
  have frlen:∀ {line fr z},FS ts line z fr->fr.length<=ts.length:=fun {line fr z} F=>by
   have h1:∀ n∈fr,n∈(List.range ts.length).map fun (n:Nat)=>(n:Int):=fun n hn=>by
    obtain ⟨m,q,e,h2,_⟩:=(F.2 n).mp hn;exact E9.mpr ⟨m,List.mem_range.mpr (J8.mp h2).1,e.symm⟩
   have:=yE F.1 h1
   simpa using this
  refine pO (fun m Y H7=>∃ (u v:Option V) (line:List Str) (fr:List Int),Y=[some (.ref a),some (.ref d),some (.ref c),some (.ref w),some (.ref nm),some (.ref f),some (.ref ln),u,v]/\SameBut c H5 H7/\
    H7 c=some (.dK (C2 ts fun t=>.int (E6 E line t:Nat)))/\H7 f=some (.lst (fr.map V.int))/\FS ts line (fun q=>E6 E line q=0) fr/\H7 ln=some (.lst (line.map V.str))/\Q7 E ts line/\m=ts.length-line.length) ts.length
   ⟨none,none,[],fr,rfl,fun b o _ h=>C8 (tG _ _ h) nln,C8 (tG _ _ X9) nln,C8 tH nln,F0,A4,Q7.nil _ _,rfl⟩ ?_
  rintro m Y H7 ⟨u,v,line,fr,rfl,B7,hc7,nP,F,kB,run,rfl⟩;have S07:Same H H7:=B7.same S05 ncH;walk_at "rd";refine ⟨_,pP nP,?_⟩
  by_cases y0:fr=[]
  .have U4:∀ p∈ts,p∈line:=fun p hp=>Classical.byContradiction fun hn=>by
    obtain ⟨q',hq⟩:=akm (line:=line) j4 (fun e he=>(etold e he).1) ⟨p,hp,hn⟩;obtain ⟨h1,h2,h3⟩:=eN hq;obtain ⟨k,hk⟩:=List.mem_iff_getElem?.mp h1
    have:=(F.2 (k:Int)).mpr ⟨k,q',rfl,hk,h2,h3⟩
    rw [y0] at this
    cases this
   have hsl:=lU tnd run U4;rw [y0];refine iteF ?_
   try walk_at "rd"
   refine ⟨line.length,.inl ⟨_,.of kB,by rw [A8]⟩,ts.length,.inl ⟨_,.of (B7 _ _ ncw.symm x9),by rw [A8]⟩,?_⟩
   try walk_at "rd"
   exact iteD (fun h=>absurd h (by first | lia | omega)) fun _=>q ln line H7 (S05.free nln5) S07 kB run U4
  rw [show (!(fr.map V.int).isEmpty)=true by cases fr with | nil=>exact absurd rfl y0 | cons=>rfl];refine iteT ⟨fun σ' H'=>∃ (u v:Option V) (line':List Str) (fr:List Int),σ'=[some (.ref a),some (.ref d),some (.ref c),some (.ref w),some (.ref nm),some (.ref f),some (.ref ln),u,v]/\SameBut c H5 H'/\
    H' c=some (.dK (C2 ts fun t=>.int (E6 E line' t:Nat)))/\H' f=some (.lst (fr.map V.int))/\FS ts line' (fun q=>E6 E line' q=0) fr/\H' ln=some (.lst (line'.map V.str))/\Q7 E ts line'/\ts.length-line'.length<ts.length-line.length,?_,?_⟩
  .rintro σ' H' ⟨u,v,line',fr',rfl,h1,h2,h3,h4,h5,h6,h7⟩;exact ⟨_,h7,⟨_,_,rfl⟩,h1,line',h2,fr',h3,h4,h5,h6,rfl⟩
  try walk_at "rd"
  refine ⟨fr,nP,y0,fun M hM dF=>?_⟩;obtain ⟨mm,p,rfl,hpm,Y0⟩:=ags F hM dF;obtain ⟨y3,fJ,nQ⟩:=eN Y0;have tI:line.length<ts.length:=by
   have h1:(line++[p]).Nodup:=(run.snoc Y0).nodup;have h3:=xM h1 fun x hx=>(run.snoc Y0).sub hx
   rw [D4,b8] at h3;lia
  have F1:=F.take tnd hpm
  try walk_at "rd"
  refine ⟨V7 nP,aob nP hM ?_⟩;have hwf:w≠f:=fun e=>by rw [e,nf] at x9;cases x9
  have tJ:c≠f:=fun e=>by rw [e,nf] at X9;cases X9
  have hcl:c≠ln:=fun e=>by rw [e,nln5] at X9;cases X9
  have B8:SameBut c H5 (A0 H7 f (.lst ((fr.erase (mm:Int)).map V.int))):=B7.put nf;have bM:A0 H7 f (.lst ((fr.erase (mm:Int)).map V.int)) ln=some (.lst (line.map V.str)):=by rw [B3 j5.symm];exact kB
  have hf8:A0 H7 f (.lst ((fr.erase (mm:Int)).map V.int)) f=some (.lst ((fr.erase (mm:Int)).map V.int)):=A4;have hc8:A0 H7 f (.lst ((fr.erase (mm:Int)).map V.int)) c=some (.dK (C2 ts fun t=>.int (E6 E line t:Nat))):=by rw [B3 tJ];exact hc7
  generalize A0 H7 f (.lst ((fr.erase (mm:Int)).map V.int))=H8 at B8 bM hf8 hc8 ⊢
  have atp:F8 (ts.map V.str) (mm:Int)=some (V.str p):=O3 (by rw [c9,hpm];rfl);refine ⟨V7 bM,_,.inl (.of (B8 _ _ ncw.symm x9)),V.str p,atp,appOk bM (by rw [A8];exact L4 (by first | lia | omega)) ?_⟩;have B9:SameBut c H5 (A0 H8 ln (.lst (line.map V.str++[V.str p]))):=B8.put nln5;have fS:A0 H8 ln (.lst (line.map V.str++[V.str p])) ln=some (.lst ((line++[p]).map V.str)):=by rw [A4,E4];rfl
  have hf9:A0 H8 ln (.lst (line.map V.str++[V.str p])) f=some (.lst ((fr.erase (mm:Int)).map V.int)):=by rw [B3 j5];exact hf8
  have hc9:A0 H8 ln (.lst (line.map V.str++[V.str p])) c=some (.dK (C2 ts fun t=>.int (E6 E line t:Nat))):=by rw [B3 hcl];exact hc8
  generalize A0 H8 ln (.lst (line.map V.str++[V.str p]))=H9 at B9 fS hf9 hc9 ⊢
  refine ⟨_,.inl (.of (B9 _ _ ncw.symm x9)),V.str p,atp,V.ref (ad p),.inl ⟨_,Sum.inr p,.inl (B9 _ _ ncd.symm hd5),rfl,by rw [O8,if_pos y3]⟩,ad p,rfl,⟨_,.of (B9 _ _ (nac p y3) (fL p y3))⟩,
   forL (xs:=(E3 E p).map V.str) (fun j Y H7=>∃ (x:Option V) (fr:List Int),Y=[some (.ref a),some (.ref d),some (.ref c),some (.ref w),some (.ref nm),some (.ref f),some (.ref ln),some (.int (mm:Int)),x]/\SameBut c H5 H7/\
    H7 c=some (.dK (C2 ts fun t=>.int ((E6 E line t:Nat)-(((E3 E p).take j).count t:Nat))))/\H7 f=some (.lst (fr.map V.int))/\FS ts (line++[p]) (fun q=>E6 E line q=((E3 E p).take j).count q) fr/\H7 ln=some (.lst ((line++[p]).map V.str)))
   ⟨v,_,rfl,B9,?_,hf9,F1.congr fun q=>(by simp),fS⟩ (by rintro j Y H7 _ ⟨_,_,_,B,_⟩;exact .of (B _ _ (nac p y3) (fL p y3))) ?_ ?_⟩
  .rw [hc9];exact congrArg (fun x=>some (HO.dK x)) (U1 fun t _=>congrArg V.int (by simp))
  .rintro j v5 Y X5 sZ ⟨x,fr,rfl,B,j6,dG,F,j7⟩;obtain ⟨y,hy,rfl⟩:=K0 sZ;have bK:y∈ts:=by
    have:=O1 hy
    unfold E3 at this;obtain ⟨e,he,rfl⟩:=E9.mp this;exact (etold e (U7.mp he).1).2
   have dD:((E3 E p).take j).count y<E6 E line y:=by
    have h1:=xF (E:=E) (q:=y) fJ;have h2:(E3 E p).count y=((E3 E p).take (j+1)).count y+((E3 E p).drop (j+1)).count y:=by rw [<- List.count_append,o9]
    rw [M7 hy,List.count_append,List.count_singleton,if_pos (by simp)] at h2;lia
   have hyb:y∉line++[p]:=fun hm=>by
    rcases K5.mp hm with hm | hm
    .have:=akw run hm;lia
    .rw [M4.mp hm] at dD;lia
   obtain ⟨my,hmy⟩:=List.mem_iff_getElem?.mp bK;have kC:∀ q,((E3 E p).take (j+1)).count q=((E3 E p).take j).count q+if y=q then 1 else 0:=fun q=>by
    rw [M7 hy,List.count_append,List.count_singleton]
    by_cases e:y=q
    .rw [if_pos e,if_pos (by simpa using e)]
    .rw [if_neg e,if_neg (by simpa using e)]
   have turn:=F.turn (z':=fun q=>E6 E line q=((E3 E p).take (j+1)).count q) tnd (y:=y) (fun q hq=>by rw [kC,if_neg (fun e=>hq e.symm),Nat.add_zero]) (by first | lia | omega) hmy hyb;have P6:C2 ts (fun t=>V.int (if t=y then (E6 E line y:Nat)-(((E3 E p).take j).count y:Nat)-1 else (E6 E line t:Nat)-(((E3 E p).take j).count t:Nat)))=C2 ts (fun t=>V.int ((E6 E line t:Nat)-(((E3 E p).take (j+1)).count t:Nat))):=U1 fun q _=>by
    rw [kC]
    by_cases e:q=y
    .rw [if_pos e,e,if_pos rfl];exact congrArg V.int (by first | lia | omega)
    .rw [if_neg e,if_neg (fun z=>e z.symm)];exact congrArg V.int (by first | lia | omega)
   walk_at "rd";refine ⟨_,.inl ⟨_,Sum.inr y,.inl j6,rfl,by rw [O8,if_pos bK]⟩,_,_,rfl,rfl,_,aO (k:=Sum.inr y) j6 (by rw [i3];exact L4 (by first | lia | omega)),?_⟩;have y4:A0 X5 c (.dK (putK (C2 ts fun t=>V.int ((E6 E line t:Nat)-(((E3 E p).take j).count t:Nat))) (Sum.inr y) (V.int ((E6 E line y:Nat)-(((E3 E p).take j).count y:Nat)-1)))) c=some (.dK (C2 ts (fun t=>V.int ((E6 E line t:Nat)-(((E3 E p).take (j+1)).count t:Nat))))):=by
    rw [A4,lV _ bK,<- P6];refine congrArg (fun x=>some (HO.dK x)) (U1 fun q _=>?_)
    by_cases e:q=y
    .rw [if_pos e,if_pos e]
    .rw [if_neg e,if_neg e]
   have B11:SameBut c H5 (A0 X5 c (.dK (putK (C2 ts fun t=>V.int ((E6 E line t:Nat)-(((E3 E p).take j).count t:Nat))) (Sum.inr y) (V.int ((E6 E line y:Nat)-(((E3 E p).take j).count y:Nat)-1))))):=B.at;have y7:A0 X5 c (.dK (putK (C2 ts fun t=>V.int ((E6 E line t:Nat)-(((E3 E p).take j).count t:Nat))) (Sum.inr y) (V.int ((E6 E line y:Nat)-(((E3 E p).take j).count y:Nat)-1)))) f=some (.lst (fr.map V.int)):=by rw [B3 tJ.symm];exact dG
   have dH:A0 X5 c (.dK (putK (C2 ts fun t=>V.int ((E6 E line t:Nat)-(((E3 E p).take j).count t:Nat))) (Sum.inr y) (V.int ((E6 E line y:Nat)-(((E3 E p).take j).count y:Nat)-1)))) ln=some (.lst ((line++[p]).map V.str)):=by rw [B3 hcl.symm];exact j7
   generalize A0 X5 c (.dK (putK (C2 ts fun t=>V.int ((E6 E line t:Nat)-(((E3 E p).take j).count t:Nat))) (Sum.inr y) (V.int ((E6 E line y:Nat)-(((E3 E p).take j).count y:Nat)-1))))=H11 at y4 B11 y7 dH ⊢
   refine ⟨V.int ((E6 E line y:Nat)-(((E3 E p).take (j+1)).count y:Nat)),.inl ⟨_,Sum.inr y,.inl y4,rfl,by rw [O8,if_pos bK]⟩,?_⟩
   try walk_at "rd"
   have tK:=frlen F;refine iteD (fun h0=>⟨V7 y7,V.int (ts.idxOf y:Nat),.inl ⟨_,Sum.inr y,.inl (B11 _ _ ncn.symm tF),rfl,by rw [O8,if_pos bK]⟩,appOk y7 (by rw [A8];exact L4 (by first | lia | omega)) ?_⟩) fun h0=>?_
   .refine ⟨B11.put nf,?_,fr++[(my:Int)],?_,turn.1 (by first | lia | omega),?_⟩
    .rw [B3 tJ];exact y4
    .rw [A4,E4,idx hmy];rfl
    .rw [B3 j5.symm];exact dH
   .exact ⟨B11,y4,fr,y7,turn.2 (by first | lia | omega),dH⟩
  .rintro Y X5 ⟨x,fr,rfl,B,j6,dG,F,j7⟩;rw [A8,L1] at j6 F;have bN:∀ q,E6 E line q=E6 E (line++[p]) q+(E3 E p).count q:=fun q=>xF (E:=E) (q:=q) fJ
   refine ⟨⟨_,_,rfl⟩,B,line++[p],?_,fr,dG,F.congr fun q=>?_,j7,run.snoc Y0,by rw [D4,b8];lia⟩
   .rw [j6];exact congrArg (fun x=>some (HO.dK x)) (U1 fun q _=>congrArg V.int (by have:=bN q;lia))
   .have:=bN q
    lia
theorem af4:FnScope ["sign"] ["sign"] (C6 mL):=G0
abbrev agD:List Str:=["sign"]
theorem vaR:VS agD mL "sign" 0:=vq
theorem af5(F:FunD K "is_figure" "is_figure" mL f fd)(T:Txt P w K mg C):FnOk P w K mg base E1 1 f fd ["sign"] eS:=by
 refine F.ok af4 ?_ ?_
 .rintro _ _ _ _ ⟨c,rfl,_⟩;rfl
 .intro cdv A outer s H vs Q E hr h;have C5:=hu_of hr;have hu:=hr.units;refine ⟨_,QSs.out (C3 (D9 (aka q_le q_le M3 (vi vaR) M3))),?_⟩;obtain ⟨c,rfl,q⟩:=h;walk_at "rd";have e1:(Str.ofString "0").cps.toList=[48]:=by decide +kernel
  have e2:(Str.ofString "9").cps.toList=[57]:=by decide +kernel
  rw [e1,e2];simp only [an5];refine iteN (fun h1=>?_) fun h1=>?_
  .have e:figO c=!decide (57<c):=by
    unfold figO;rw [decide_eq_true (by first | lia | omega:48<=c)]
    by_cases h2:c<=57
    .rw [decide_eq_true h2,decide_eq_false (by first | lia | omega:¬ 57<c)];rfl
    .rw [decide_eq_false h2,decide_eq_true (by first | lia | omega:57<c)];rfl
   rw [e] at q;exact q
  .have e:figO c=false:=by unfold figO;rw [decide_eq_false (by first | lia | omega:¬ 48<=c)];rfl
   rw [e] at q;exact q
theorem agE:FnScope ["rules", "word"] ["rules", "word"] (C6 iJ):=G0
abbrev ahV:List Str:=["rules", "word"]
theorem vaS:VS ahV iJ "rules" 0:=vq
theorem agF(F:FunD K "has_rule" "has_rule" iJ f fd)(T:Txt P w K mg C):FnOk P w K mg base E1 1 f fd ["rules", "word"] (spHas K):=by
 refine F.ok agE ?_ ?_
 .rintro _ _ _ _ ⟨a,ts,R,w,rfl,_⟩;rfl
 .intro cdv A outer s H vs Q E hr h;have C5:=hu_of hr;have hu:=hr.units;refine ⟨_,QSs.out (C3 (D9 (qe_cB (q_any (calm:=true)) T.b_any vZ (qa_c (Z6  (X1:CompOk ["rules", "word"] (C6 iJ).names _ ["rule", "word"] 1 [1]) (P9 (K:=K) (vi vaS)) (fun _ _ _ _ _=>E2 (n:=0) (show List.Nodup (["rule", "word"]:List Str) by decide +kernel) rfl (Or.inl rfl)) (fun _ _ _ _ _=>v4) (fun _ _ _ _ _=>(u7 (q_eq (K:=K) hu) (qe_ix (K:=K) (qv 0) A6) (qv 1)))) A2)))),?_⟩;obtain ⟨a,ts,R,w,rfl,hR,hl,q⟩:=h;walk_at "rd";refine ⟨⟨_,.of hR.top⟩,compL (xs:=ts.map V.ref) [some (.str w)] rfl (fun D i ys H4=>ys=((R.take i).map fun z=>decide (z.1=w)).map V.bl/\Same H H4) (fun D nD=>⟨rfl,Same.new nD⟩) (by rintro D i ys H4 nD _ ⟨_,S⟩;exact .of (S _ _ hR.top)) ?_ ?_⟩
  .rintro D i x ys H4 nD hi hx ⟨rfl,S⟩ hD hy;obtain ⟨t,ht,rfl⟩:=K0 hx;obtain ⟨z,hz,D5⟩:=Paired.at hR.row ht;have o4:i<R.length:=(J8.mp hz).1;walk_at "rd";refine ⟨_,.inr (.of (S _ _ D5)),V.str z.1,R1 _ _,?_⟩;walk_at "rd";refine ⟨hD,by rw [A8,A8,M5];exact L4 (by first | lia | omega),CW.put hi hy ⟨?_,S.put nD⟩⟩;rw [b9,hz]
   simp
  rintro D ys H4 nD ⟨rfl,S⟩ hD hy;rw [A8,hR.len,L1] at hD;refine ⟨_,rfl,hD,?_⟩;have e:((R.map fun z=>decide (z.1=w)).any id)=hasW R w:=by
   unfold hasW;rw [List.any_map];rfl
  rw [e];exact q H4 S
theorem ad6:FnScope ["rule"] ["rule"] (C6 mM):=G0
abbrev ae6:List Str:=["rule"]
theorem fB:VS ae6 mM "rule" 0:=vq
theorem ad7(F:FunD K "pieces_told" "pieces_told" mM f fd)(T:Txt P w K mg C):FnOk P w K mg base E1 1 f fd ["rule"] (xS K):=by
 refine F.ok ad6 ?_ ?_
 .rintro _ _ _ _ ⟨t,z,rfl,_⟩;rfl
 .intro cdv A outer s H vs Q E hr h;have C5:=hu_of hr;have hu:=hr.units;obtain ⟨a_JOBS,m_JOBS,M_JOBS⟩:=T.x_JOBS;refine ⟨_,QSs.out (C1 (qs_if (L5 (q_eq (K:=K) hu) (qe_ix (K:=K) (vi fB) A6) M3) (C3 (D9 (W7 (K:=K) (vi fB) (P7 A6) u8))) N4)
   (C1 (qs_if (L5 (q_eq (K:=K) hu) (qe_ix (K:=K) (vi fB) A6) M3) (C3 (D9 (W7 (K:=K) (vi fB) (P7 A6) (P7 A6)))) N4)
   (C3 (D9 (wJ (L5 (q_inM M_JOBS) (qe_ix (K:=K) (vi fB) A6) (lO m_JOBS)) (W7 (K:=K) (vi fB) (P7 A6) u8) (O7 A2)))))),?_⟩
  obtain ⟨t,z,rfl,ht,q⟩:=h;have hT:C7 K H t ((z.1::z.2).map V.str):=.of ht;have A9:1<=((z.1::z.2).map V.str).length:=by rw [A8,J7];lia
  walk_at "rd";refine ⟨_,.inr hT,V.str z.1,R1 _ _,?_⟩;walk_at "rd";refine iteD (fun e=>?_) fun n1=>⟨_,.inr hT,V.str z.1,R1 _ _,?_⟩
  .refine g7 hT (m4 (k:=2) (by decide) A9) fun p np=>q p _ (Same.new np) (.of ?_)
   rw [A4,show ((2:Int))=((2:Nat):Int) from rfl,eK,E8,List.drop_succ_cons,<- List.map_drop];unfold N5;rw [if_pos e]
  walk_at "rd";refine iteD (fun e=>?_) fun n2=>⟨_,.inr hT,V.str z.1,R1 _ _,?_⟩
  .refine g7 hT (m4 (k:=1) (by decide) A9) fun p np=>q p _ (Same.new np) (.of ?_)
   have ecut:cutV ((z.1::z.2).map V.str) (some 1) (some 2)=(z.2.take 1).map V.str:=by
    unfold cutV
    cases z.2 with
    | nil=>rfl
    | cons y r=>
     have e1:HT.sIx ((z.1::y::r).map V.str).length 0 (some 1)=1:=by
      rw [show ((1:Int))=((1:Nat):Int) from rfl,HT.sIx_nat,A8,J7,J7];lia
     have e2:HT.sIx ((z.1::y::r).map V.str).length ((z.1::y::r).map V.str).length (some 2)=2:=by
      rw [show ((2:Int))=((2:Nat):Int) from rfl,HT.sIx_nat,A8,J7,J7];lia
     rw [e1,e2];rfl
   rw [A4,ecut];unfold N5;rw [if_neg n1,if_pos e]
  walk_at "rd"
  by_cases hj:cJ z.1
  .rw [qC hj];refine iteT (g7 hT (m4 (k:=1) (by decide) A9) fun p np=>q p _ (Same.new np) (.of ?_));rw [A4,E8,wW];unfold N5;have h3:z.1=("row" : Str)\/z.1=("marks" : Str)\/z.1=("over" : Str):=by
    rcases hj with h | h | h | h | h
    .exact .inl h
    .exact .inr (.inl h)
    .exact absurd h n1
    .exact absurd h n2
    .exact .inr (.inr h)
   rw [if_neg n1,if_neg n2,if_pos h3]
  .rw [aks hj];refine iteF fun p np=>q p _ (Same.new np) (.of ?_)
   rw [A4];unfold N5;rw [if_neg n1,if_neg n2,if_neg (fun h=>hj (by
    rcases h with h | h | h
    .exact .inl h
    .exact .inr (.inl h)
    .exact .inr (.inr (.inr (.inr h)))))]
   rfl
theorem agG:FnScope ["jobs", "piece", "job", "figures"] ["jobs", "piece", "job", "figures"] (C6 aV):=G0
abbrev mS:List Str:=["jobs", "piece", "job", "figures"]
theorem vaU:VS mS aV "jobs" 0:=vq
theorem rF:VS mS aV "piece" 1:=vq
theorem vaW:VS mS aV "job" 2:=vq
theorem vaX:VS mS aV "figures" 3:=vq
theorem agH(F:FunD K "is_clash" "is_clash" aV f fd)(T:Txt P w K mg C)(G_is_figure:FO P w K mg base 1 "is_figure" ["sign"] [] eS):FnOk P w K mg base E1 2 f fd ["jobs", "piece", "job", "figures"] xT:=by
 refine F.ok agG ?_ ?_
 .rintro _ _ _ _ ⟨d,p,j,fg,ks,g,rfl,_⟩;rfl
 .intro cdv A outer s H vs Q E hr h;have C5:=hu_of hr;have hu:=hr.units;obtain ⟨a_AGAIN,m_AGAIN,M_AGAIN⟩:=T.x_AGAIN;refine ⟨_,QSs.out (C1 (qs_if (QW.pt (lQ (L5 (q_in (K:=K) hu) (vi rF) (vi vaU)) (lP (QW.pt (qw_or (L5 (q_ne (K:=K) hu) (Y3 C5 (vi vaU) (vi rF)) (vi vaW)) (anS (L5 (wO (K:=K) hu) (vi vaW) (lO m_AGAIN)))))))) (C3 (D9 qe_bl)) N4)
   (C3 (D9 (wI (vi vaX) (wH (qe_cB (q_any (calm:=true)) T.b_any vZ (qa_c (Z6  (X1:CompOk ["jobs", "piece", "job", "figures"] (C6 aV).names _ ["sign"] 1 []) (wM (vi rF)) (fun _ _ _ _ _=>E2 (n:=0) (show List.Nodup (["sign"]:List Str) by decide +kernel) rfl (Or.inl rfl)) (fun _ _ _ _ _=>v4) (fun _ _ _ _ _=>(D7 G_is_figure (hm hr) (qa_c (qv 0) A2)))) A2))))))),?_⟩
  obtain ⟨d,p,j,fg,ks,g,rfl,hd,hp,h1,h2,q⟩:=h;walk_at "rd";have tail:(if fg=true then cF (eC p) 1 [] (gName 0) tYes (tCall eS [] E0 (tCons (tVar 0) tNil)) [some (V.ref d),some (V.str p),some (V.str j),some (V.bl fg)] (fun x H1=>rAnyB true [x] H1 Q) H else Q (V.bl false) H):=by
   by_cases hf:fg=true
   .rw [if_pos hf];refine compS [] rfl (fun D i ys H4=>ys=((p.cps.toList.take i).map figO).map V.bl/\Same H H4) (fun D nD=>⟨rfl,Same.new nD⟩) ?_ ?_
    .rintro D i x ys H4 nD hi hx ⟨rfl,S⟩ hD hy;walk_at "rd";refine ⟨x,rfl,hD,?_,CW.put hi hy ⟨?_,S.put nD⟩⟩
     .rw [A8,A8,M5];exact L4 (by have:p.cps.size=p.length:=rfl;lia)
     .rw [b9,hx]
      simp
    .rintro D ys H4 nD ⟨rfl,S⟩ hD hy;walk_at "rd";refine ⟨_,hD,?_⟩;have e:((p.cps.toList.take p.cps.size).map figO).any id=false:=by
      rw [List.any_eq_false];intro b hb;obtain ⟨c,hc,rfl⟩:=E9.mp hb;rw [h2 hf c (List.mem_of_mem_take hc)];decide
     rw [e];exact q H4 S
   .rw [if_neg hf];exact q H (lF H)
  refine rInR.d (V6 (k:=Sum.inr p) hd) ⟨_,rfl,?_⟩;rw [O8,bT]
  by_cases hk:p∈ks
  .obtain ⟨e1,e2⟩:=h1 hk;rw [if_pos hk];refine iteT ⟨V.str (g p),.inl ⟨_,Sum.inr p,.inl hd,rfl,by rw [O8,if_pos hk]⟩,?_⟩;walk_at "rd";rw [decide_eq_true e1];refine iteF (rInR.l (.inr (M_AGAIN _)) rfl rfl ⟨_,rfl,?_⟩);have e3:aM (.str j) [V.str "letter",V.str "mark",V.str "over"]=true:=by
    have:=wG j iC
    rw [decide_eq_true e2] at this;exact this
   rw [e3];exact iteF tail
  .rw [if_neg hk];exact iteF tail
theorem sc_jobs_of:FnScope ["rules", "figures", "jobs", "rule", "piece"] ["rules"] (C6 Z8):=G0
abbrev iX:List Str:=["rules", "figures", "jobs", "rule", "piece"]
theorem rG:VS iX Z8 "rules" 0:=vq
theorem vaZ:VS iX Z8 "figures" 1:=vq
theorem mT:VS iX Z8 "jobs" 2:=vq
theorem rH:VS iX Z8 "rule" 3:=vq
theorem va2:VS iX Z8 "piece" 4:=vq
theorem va3:LS Z8 "figures":=lq
theorem va4:LS Z8 "jobs":=lq
theorem va5:LS Z8 "rule":=lq
theorem va6:LS Z8 "piece":=lq
theorem ahW(F:FunD K "jobs_of" "jobs_of" Z8 f fd)(T:Txt P w K mg C)(G_has_rule:FO P w K mg base 1 "has_rule" ["rules", "word"] [] (spHas K))(G_pieces_told:FO P w K mg base 1 "pieces_told" ["rule"] [] (xS K))(G_is_clash:FO P w K mg base 2 "is_clash" ["jobs", "piece", "job", "figures"] [] xT):FnOk P w K mg base E1 3 f fd ["rules"] (xU K):=by
 refine F.ok sc_jobs_of ?_ ?_
 .rintro _ _ _ _ ⟨a,ts,R,g,rfl,_⟩;rfl
 .intro cdv A outer s H vs Q E hr h;have C5:=hu_of hr;have hu:=hr.units;obtain ⟨a_JOBS,m_JOBS,M_JOBS⟩:=T.x_JOBS;refine ⟨_,QSs.out (C1 (F7 (n:=1) sc_jobs_of.nd rfl va3 (D7 G_has_rule (hm hr) (qa_c (vi rG) (qa_c M3 A2))))
   (C1 (F7 (n:=2) sc_jobs_of.nd rfl va4 eG)
   (C1 (P8 PassesOwn.never (P9 (K:=K) (vi rG)) (E2 (n:=3) sc_jobs_of.nd rfl va5 (.inl rfl)) (C3 (P8 PassesOwn.never (cG (K:=K) (D7 G_pieces_told (hm hr) (qa_c (vi rH) A2))) (E2 (n:=4) sc_jobs_of.nd rfl va6 (.inl rfl)) (C1 (qs_if (g8 (K:=K) (D7 G_is_clash (hm hr) (qa_c (vi mT) (qa_c (vi va2) (qa_c (wR M_JOBS (lO m_JOBS) (qe_ix (K:=K) (vi rH) A6)) (qa_c (vi vaZ) A2)))))) (C3 lR) N4)
   (C3 (u9 C5 (vi mT) (vi va2) (wR M_JOBS (lO m_JOBS) (qe_ix (K:=K) (vi rH) A6))))))))
   (C1 (qs_if (g8 (K:=K) (D7 G_has_rule (hm hr) (qa_c (vi rG) (qa_c M3 A2)))) (C3 (u9 C5 (vi mT) M3 M3)) N4)
   (C3 (D9 (vi mT))))))),?_⟩
  obtain ⟨a,ts,R,g,rfl,hR,hl,X2,hnc,hbl,q⟩:=h;walk_at "rd";refine ⟨a,ts,R, "figures",rfl,hR,hl,fun H1 S1=>?_⟩;generalize hasW R "figures"=fg at hnc;intro d nd;have nR:H d=none:=S1.free nd;have S2:Same H (A0 H1 d (.dK [])):=fun b o h=>C8 (S1 b o h) nd
  refine ⟨⟨_,.of (S2 _ _ hR.top)⟩,forL (xs:=ts.map V.ref) (fun i Y H2=>∃ (u v:Option V),Y=[some (.ref a),some (.bl fg),some (.ref d),u,v]/\Same H H2/\H2 d=some (.dK (C2 (keysP (D1 (R.take i))) fun t=>.str (g t))))
   ⟨none,none,rfl,S2,by rw [A4];rfl⟩ (by rintro i Y H2 _ ⟨_,_,_,S,_⟩;exact .of (S _ _ hR.top)) ?_ ?_⟩
  .rintro i x Y H2 hx ⟨u,v,rfl,S,hd⟩;obtain ⟨t,ht,rfl⟩:=K0 hx;obtain ⟨z,hz,D5⟩:=Paired.at hR.row ht;walk_at "rd";refine ⟨t,z,rfl,S _ _ D5,fun p H3 S3 hp=>⟨p,rfl,⟨_,hp⟩,forT (xs:=(N5 z).map V.str) (fun j Y H4=>∃ (v:Option V),Y=[some (.ref a),some (.bl fg),some (.ref d),some (.ref t),v]/\C7 K H4 p ((N5 z).map V.str)/\Same H H4/\H4 d=some (.dK (C2 (keysP (D1 (R.take i)++((N5 z).take j).map fun p=>(p,jobD z.1))) fun t=>.str (g t))))
    ⟨v,rfl,hp,S.trans S3,by rw [aG,p7,L3];exact S3 _ _ hd⟩ (by rintro j Y H4 _ ⟨_,_,h,_⟩;exact h) ?_ ?_⟩⟩
   .rintro j x Y H4 fT ⟨v,rfl,jY,S4,X8⟩;obtain ⟨pc,tL,rfl⟩:=K0 fT;obtain ⟨e1,e2⟩:=an4 hz tL;obtain ⟨n1,n2,n3,n4⟩:=hnc _ _ _ e1;rw [e2] at n2;have hw:=iD (O1 tL);have U6:C7 K H4 t ((z.1::z.2).map V.str):=.of (S4 _ _ D5);have o3:(keysP (D1 (R.take i)++((N5 z).take j).map fun p=>(p,jobD z.1))).length<=10000:=by
     have h1:=pZ (D1 (R.take i)++((N5 z).take j).map fun p=>(p,jobD z.1));have h2:=congrArg f8 e2;rw [M5] at h2;lia
    walk_at "rd";refine ⟨_,.inr U6,V.str z.1,R1 _ _,Sum.inr z.1,rfl,V.str (jobD z.1),qC hw,d,pc,jobD z.1,fg,_,g,rfl,X8,n4,fun hk=>⟨n1.symm,n2 ((lY _ _).mp hk)⟩,n3,fun H5 S5=>⟨false,rfl,iteF ⟨_,.inr (U6.same S5),V.str z.1,R1 _ _,Sum.inr z.1,rfl,V.str (jobD z.1),qC hw,_,aO (k:=Sum.inr pc) (S5 _ _ X8) (by rw [i3];exact L4 (by first | lia | omega)),(jY.same S5).dput (S5 _ _ X8),(S4.trans S5).put nR,?_⟩⟩⟩;rw [A4,M7 tL,E4,<- V2];rw [show ([pc].map fun p=>(p,jobD z.1))=[(pc,jobD z.1)] from rfl,ahG];unfold dd
    by_cases L6:pc∈keysP (D1 (R.take i)++((N5 z).take j).map fun p=>(p,jobD z.1))
    .rw [if_pos L6,lV _ L6];refine congrArg (fun x=>some (HO.dK x)) (U1 fun t _=>?_)
     by_cases e:t=pc
     .rw [if_pos e,e,n1]
     .rw [if_neg e]
    .rw [if_neg L6,cI _ L6];refine congrArg (fun x=>some (HO.dK x)) (U1 fun t _=>?_)
     by_cases e:t=pc
     .rw [if_pos e,e,n1]
     .rw [if_neg e]
   .rintro Y H4 ⟨v,rfl,jY,S4,X8⟩;walk_at "rd";refine ⟨S4,?_⟩;rw [xP hz];rw [A8,L1] at X8;exact X8
  .rintro Y H2 ⟨u,v,rfl,S,hd⟩;rw [A8,hR.len,L1] at hd;walk_at "rd";refine ⟨a,ts,R, "blanks",rfl,hR.same S,hl,fun H3 S3=>⟨hasW R "blanks",rfl,?_⟩⟩;have W1:=S3 _ _ hd;have hkn:(" " : Str)∉keysP (D1 R):=fun h=>hbl ((lY _ _).mp h)
   have o3:=pZ (D1 R);have hg:∀ t∈keysP (D1 R),V.str (g t)=jobG g t:=fun t ht=>by
    unfold jobG;rw [if_neg (fun e=>hkn (by rw [<- e];exact ht))]
   by_cases hb:hasW R "blanks"=true
   .rw [hb];refine iteT ⟨_,aO (k:=Sum.inr (" " : Str)) W1 (by rw [i3];exact L4 (by first | lia | omega)),q d _ nR ((S.trans S3).put nR) ?_⟩;rw [A4,cI _ hkn];unfold W8;rw [if_pos hb];refine congrArg (fun x=>some (HO.dK x)) (U1 fun t ht=>?_);unfold jobG
    by_cases e:t=(" " : Str)
    .simp only [if_pos e]
    .simp only [if_neg e]
   .rw [gK] at hb;rw [hb];refine iteF (q d _ nR (S.trans S3) ?_);unfold W8;rw [hb,if_neg K3,L3,W1];exact congrArg (fun x=>some (HO.dK x)) (U1 hg)
theorem sc_misused:FnScope ["rule", "jobs", "first"] ["rule", "jobs"] (C6 v7):=G0
abbrev af6:List Str:=["rule", "jobs", "first"]
theorem iY:VS af6 v7 "rule" 0:=vq
theorem va8:VS af6 v7 "first" 2:=vq
theorem va9:LS v7 "first":=lq
theorem ahX(F:FunD K "misused" "misused" v7 f fd)(T:Txt P w K mg C):FnOk P w K mg base E1 1 f fd ["rule", "jobs"] (yJ K):=by
 refine F.ok sc_misused ?_ ?_
 .rintro _ _ _ _ ⟨t,d,z,ks,g,rfl,_⟩;rfl
 .intro cdv A outer s H vs Q E hr h;have C5:=hu_of hr;have hu:=hr.units;refine ⟨_,QSs.out (C1 (qs_if (L5 (q_eq (K:=K) hu) (qe_ix (K:=K) (vi iY) A6) M3) (C3 (D9 (Z6  (X1:CompOk ["rule", "jobs", "first"] (C6 v7).names _ ["piece", "jobs"] 1 [1]) (cG (K:=K) (W7 (K:=K) (vi iY) (P7 A6) (P7 A6))) (fun _ _ _ _ _=>E2 (n:=0) (show List.Nodup (["piece", "jobs"]:List Str) by decide +kernel) rfl (Or.inl rfl)) (fun _ _ _ _ _=>(hG (L5 (q_ne (K:=K) hu) (lX C5 (qv 1) (qv 0)) M3))) (fun _ _ _ _ _=>(qv 0))))) N4)
   (C1 (qs_if (L5 (q_eq (K:=K) hu) (qe_ix (K:=K) (vi iY) A6) M3) (C1 (wN (n:=2) sc_misused.nd rfl va9 (X1:CompOk ["rule", "jobs", "first"] (C6 v7).names _ ["piece", "jobs"] 1 [1]) (cG (K:=K) (W7 (K:=K) (vi iY) (P7 A6) (P7 A6))) (fun _ _ _ _ _=>E2 (n:=0) (show List.Nodup (["piece", "jobs"]:List Str) by decide +kernel) rfl (Or.inl rfl)) (fun _ _ _ _ _=>(hG (L5 (q_ne (K:=K) hu) (lX C5 (qv 1) (qv 0)) M3))) (fun _ _ _ _ _=>(qv 0)))
   (C3 (D9 (qe_op (q_add (K:=K)) (vi va8) (Z6  (X1:CompOk ["rule", "jobs", "first"] (C6 v7).names _ ["piece", "jobs"] 1 [1]) (cG (K:=K) (W7 (K:=K) (vi iY) (P7 A6) u8)) (fun _ _ _ _ _=>E2 (n:=0) (show List.Nodup (["piece", "jobs"]:List Str) by decide +kernel) rfl (Or.inl rfl)) (fun _ _ _ _ _=>(hG (L5 (wO (K:=K) hu) (lX C5 (qv 1) (qv 0)) (O7 (qa_c M3 (qa_c M3 A2)))))) (fun _ _ _ _ _=>(qv 0))))))) N4)
   (C3 (D9 (N3 A2))))),?_⟩
  obtain ⟨t,d,z,ks,g,rfl,ht,hd,us,hl,q⟩:=h;have hT:C7 K H t ((z.1::z.2).map V.str):=.of ht;walk_at "rd";refine ⟨_,.inr hT,V.str z.1,R1 _ _,?_⟩;walk_at "rd"
  by_cases h1:z.1=("great" : Str)
  .rw [decide_eq_true h1];have A9:1<=((z.1::z.2).map V.str).length:=by rw [A8,J7];lia
   refine iteT (g7 hT (m4 (k:=1) (by decide) A9) fun s ns=>?_);have ecut:cutV ((z.1::z.2).map V.str) (some 1) (some 2)=(z.2.take 1).map V.str:=by
    rw [show cutV ((z.1::z.2).map V.str) (some 1) (some 2)=_ from yI ((z.1::z.2).map V.str) (i:=1) (j:=2) (by decide),E8,List.drop_succ_cons,List.drop_zero,<- List.map_take]
   rw [ecut];have S1:Same H (A0 H s (.tup ((z.2.take 1).map V.str))):=Same.new ns;have hs:A0 H s (.tup ((z.2.take 1).map V.str)) s=some (.tup ((z.2.take 1).map V.str)):=A4;generalize A0 H s (.tup ((z.2.take 1).map V.str))=H1 at S1 hs;refine ⟨s,rfl,⟨_,.of hs⟩,compT (xs:=(z.2.take 1).map V.str) [some (.ref d)] rfl (fun D i ys H2=>ys=[]/\Same H1 H2) (fun D nD=>⟨rfl,Same.new nD⟩) (by rintro D i ys H2 nD _ ⟨_,S⟩;exact .of (S _ _ hs)) ?_ ?_⟩
   .rintro D i y ys H2 nD hi hy ⟨rfl,S⟩ hD Q4;obtain ⟨p,hp,rfl⟩:=K0 hy;obtain ⟨m1,m2⟩:=us.gr h1 p (O1 hp);have Q8:=S _ _ (S1 _ _ hd);walk_at "rd";refine ⟨.inl ⟨_,.inl Q8⟩,_,V6 (k:=Sum.inr p) Q8,?_⟩;rw [O8,if_pos m1,Option.getD_some,m2];refine ⟨_,rfl,?_⟩;rw [show ∀ v:Str,(!decide (v=v))=false by intro v;simp];exact iteF ⟨hD,hi,J5 _,⟨_,rfl⟩,rfl,S⟩
   .rintro D ys H2 nD ⟨rfl,S⟩ hD Q4;exact q D H2 (S1.free nD) (S1.trans S) hD
  rw [decide_eq_false h1];refine iteF ⟨_,.inr hT,V.str z.1,R1 _ _,?_⟩;walk_at "rd"
  by_cases h2:z.1=("as" : Str)
  .rw [decide_eq_true h2];have A9:1<=((z.1::z.2).map V.str).length:=by rw [A8,J7];lia
   refine iteT (g7 hT (m4 (k:=2) (by decide) A9) fun s ns=>?_);have ecut:cutV ((z.1::z.2).map V.str) (some 2) (some 3)=((z.2.drop 1).take 1).map V.str:=by
    rw [show cutV ((z.1::z.2).map V.str) (some 2) (some 3)=_ from yI ((z.1::z.2).map V.str) (i:=2) (j:=3) (by decide),E8,List.drop_succ_cons,<- List.map_drop,<- List.map_take]
   rw [ecut];have S1:Same H (A0 H s (.tup (((z.2.drop 1).take 1).map V.str))):=Same.new ns;have hs:A0 H s (.tup (((z.2.drop 1).take 1).map V.str)) s=some (.tup (((z.2.drop 1).take 1).map V.str)):=A4;generalize A0 H s (.tup (((z.2.drop 1).take 1).map V.str))=H1 at S1 hs;refine ⟨s,rfl,⟨_,.of hs⟩,compT (xs:=((z.2.drop 1).take 1).map V.str) [some (.ref d)] rfl (fun D i ys H2=>ys=[]/\Same H1 H2) (fun D nD=>⟨rfl,Same.new nD⟩) (by rintro D i ys H2 nD _ ⟨_,S⟩;exact .of (S _ _ hs)) ?_ ?_⟩
   .rintro D i y ys H2 nD hi hy ⟨rfl,S⟩ hD Q4;obtain ⟨p,hp,rfl⟩:=K0 hy;obtain ⟨m1,m2⟩:=us.a1 h2 p (O1 hp);have Q8:=S _ _ (S1 _ _ hd);walk_at "rd";refine ⟨.inl ⟨_,.inl Q8⟩,_,V6 (k:=Sum.inr p) Q8,?_⟩;rw [O8,if_pos m1,Option.getD_some,m2];refine ⟨_,rfl,?_⟩;rw [show ∀ v:Str,(!decide (v=v))=false by intro v;simp];exact iteF ⟨hD,hi,J5 _,⟨_,rfl⟩,rfl,S⟩
   rintro D ys H2 nD ⟨rfl,S⟩ hD Q4;have S2:=S1.trans S;have hT2:C7 K H2 t ((z.1::z.2).map V.str):=.of (S2 _ _ ht);refine g7 hT2 (m4 (k:=3) (by decide) A9) fun s2 ns2=>?_
   have ecut2:cutV ((z.1::z.2).map V.str) (some 3) none=(z.2.drop 2).map V.str:=by
    rw [show cutV ((z.1::z.2).map V.str) (some 3) none=_ from eK ((z.1::z.2).map V.str) 3,E8,List.drop_succ_cons,<- List.map_drop]
   rw [ecut2];have S3:Same H2 (A0 H2 s2 (.tup ((z.2.drop 2).map V.str))):=Same.new ns2;have fI:A0 H2 s2 (.tup ((z.2.drop 2).map V.str)) s2=some (.tup ((z.2.drop 2).map V.str)):=A4;generalize A0 H2 s2 (.tup ((z.2.drop 2).map V.str))=H3 at S3 fI;refine ⟨s2,rfl,⟨_,.of fI⟩,compT (xs:=(z.2.drop 2).map V.str) [some (.ref d)] rfl (fun D i ys H4=>ys=[]/\Same H3 H4) (fun D nD=>⟨rfl,Same.new nD⟩) (by rintro D i ys H4 nD _ ⟨_,S⟩;exact .of (S _ _ fI)) ?_ ?_⟩
   .rintro D2 i y ys H4 nD2 hi hy ⟨rfl,S4⟩ hD2 tM;obtain ⟨p,hp,rfl⟩:=K0 hy;obtain ⟨m1,m2⟩:=us.a2 h2 p (O1 hp);have X8:=S4 _ _ (S3 _ _ (S2 _ _ hd));walk_at "rd";refine ⟨.inl ⟨_,.inl X8⟩,_,V6 (k:=Sum.inr p) X8,?_⟩;rw [O8,if_pos m1,Option.getD_some];refine ⟨by decide,fun v nv=>?_⟩;have fin:aM (g p) [V.str (Str.ofString "letter"),V.str (Str.ofString "mark")]=true/\flatV (g p)=true:=by
     rcases m2 with m2 | m2 <;> rw [m2] <;> exact ⟨by decide +kernel,rfl⟩
    refine rInR.l (.inr (.of A4)) fin.2 rfl ?_;rw [fin.1,Bool.true_xor];exact ⟨_,rfl,iteF ⟨C8 hD2 nv,hi,J5 _,⟨_,rfl⟩,rfl,S4.trans (Same.new nv)⟩⟩
   rintro D2 ys H4 nD2 ⟨rfl,S4⟩ hD2 tM;have hD4:=S4 _ _ (S3 _ _ hD);refine rAddR.l hD4 hD2 (by decide) fun l nl=>?_
   exact q l _ ((S2.trans (S3.trans S4)).free nl) ((S2.trans (S3.trans S4)).trans (Same.new nl)) A4
  rw [decide_eq_false h2];exact iteF fun p np=>q p _ np (Same.new np) A4
theorem sc_check_letters:FnScope ["rules", "jobs", "rule", "wrong"] ["rules", "jobs"] (C6 v8):=G0
abbrev mU:List Str:=["rules", "jobs", "rule", "wrong"]
theorem vba:VS mU v8 "rules" 0:=vq
theorem vbb:VS mU v8 "jobs" 1:=vq
theorem vbc:VS mU v8 "rule" 2:=vq
theorem vbd:VS mU v8 "wrong" 3:=vq
theorem vbe:LS v8 "rule":=lq
theorem vbf:LS v8 "wrong":=lq
theorem adk(F:FunD K "check_letters" "check_letters" v8 f fd)(T:Txt P w K mg C)(G_misused:FO P w K mg base 1 "misused" ["rule", "jobs"] [] (yJ K)):FnOk P w K mg base E1 2 f fd ["rules", "jobs"] (yK K):=by
 refine F.ok sc_check_letters ?_ ?_
 .rintro _ _ _ _ ⟨a,d,ts,R,ks,g,rfl,_⟩;rfl
 .intro cdv A outer s H vs Q E hr h;have C5:=hu_of hr;have hu:=hr.units;refine ⟨_,QSs.out (C3 (P8 PassesOwn.never (P9 (K:=K) (vi vba)) (E2 (n:=2) sc_check_letters.nd rfl vbe (.inl rfl)) (C1 (F7 (n:=3) sc_check_letters.nd rfl vbf (D7 G_misused (hm hr) (qa_c (vi vbc) (qa_c (vi vbb) A2))))
   (C3 (qs_if (g8 (K:=K) (vi vbd)) (C3 lR) N4))))),?_⟩
  obtain ⟨a,d,ts,R,ks,g,rfl,hR,hd,hw,q⟩:=h;walk_at "rd";refine ⟨⟨_,.of hR.top⟩,forL (xs:=ts.map V.ref) (fun i Y H2=>∃ (u v:Option V),Y=[some (.ref a),some (.ref d),u,v]/\Same H H2) ⟨none,none,rfl,lF H⟩ (by rintro i Y H2 _ ⟨_,_,_,S⟩;exact .of (S _ _ hR.top)) ?_ ?_⟩
  .rintro i x Y H2 hx ⟨u,v,rfl,S⟩;obtain ⟨t,ht,rfl⟩:=K0 hx;obtain ⟨z,hz,D5⟩:=Paired.at hR.row ht;obtain ⟨n1,n2⟩:=hw z (O1 hz);walk_at "rd";refine ⟨t,d,z,ks,g,rfl,S _ _ D5,S _ _ hd,n1,n2,fun p H3 np S3 hp=>⟨_,pP hp,iteF (S.trans S3)⟩⟩
  .rintro Y H2 ⟨u,v,rfl,S⟩;exact q H2 S
theorem ahY:FnScope ["rules", "word"] ["rules", "word"] (C6 iK):=G0
abbrev ajq:List Str:=["rules", "word"]
theorem vbg:VS ajq iK "rules" 0:=vq
theorem ahZ(F:FunD K "line_of" "line_of" iK f fd)(T:Txt P w K mg C)(G_lined_up:FO P w K mg base 3 "lined_up" ["rows"] [] xN):FnOk P w K mg base E1 4 f fd ["rules", "word"] (xY K):=by
 refine F.ok ahY ?_ ?_
 .rintro _ _ _ _ ⟨a,ts,R,w,rank,rfl,_⟩;rfl
 .intro cdv A outer s H vs Q E hr h;have C5:=hu_of hr;have hu:=hr.units;refine ⟨_,QSs.out (C3 (D9 (D7 G_lined_up (hm hr) (qa_c (Z6  (X1:CompOk ["rules", "word"] (C6 iK).names _ ["rule", "word"] 1 [1]) (P9 (K:=K) (vi vbg)) (fun _ _ _ _ _=>E2 (n:=0) (show List.Nodup (["rule", "word"]:List Str) by decide +kernel) rfl (Or.inl rfl)) (fun _ _ _ _ _=>(hG (L5 (q_eq (K:=K) hu) (qe_ix (K:=K) (qv 0) A6) (qv 1)))) (fun _ _ _ _ _=>(qe_cT (eJ (K:=K) (calm:=true)) T.b_list eF (qa_c (W7 (K:=K) (qv 0) (P7 A6) u8) A2)))) A2)))),?_⟩;obtain ⟨a,ts,R,w,rank,rfl,hR,hl,j5,j4,q⟩:=h;walk_at "rd";refine ⟨⟨_,.of hR.top⟩,compL (xs:=ts.map V.ref) [some (.str w)] rfl (fun D i ys H4=>∃ qs:List Addr,ys=qs.map V.ref/\RowsAt H H4 D qs (rowsW (R.take i) w)) (fun D nD=>⟨[],rfl,⟨⟨A4,.nil⟩,by simp,fun r hr=>by rw [M4.mp hr];exact nD,Same.new nD⟩⟩)
   (by rintro D i ys H4 nD _ ⟨qs,_,RA⟩;exact .of (RA.same _ _ hR.top)) ?_ ?_⟩
  .rintro D i x ys H4 nD hi hx ⟨qs,rfl,RA⟩ hD hy;obtain ⟨t,ht,rfl⟩:=K0 hx;obtain ⟨z,hz,D5⟩:=Paired.at hR.row ht;have o4:i<R.length:=(J8.mp hz).1;have U6:C7 K H4 t ((z.1::z.2).map V.str):=.of (RA.same _ _ D5);have A9:1<=((z.1::z.2).map V.str).length:=by rw [A8,J7];lia
   walk_at "rd";refine ⟨_,.inr U6,V.str z.1,R1 _ _,?_⟩;walk_at "rd";refine iteD (fun e=>g7 U6 (m4 (k:=1) (by decide) A9) fun p np=>?_) fun e=>⟨hD,wE hi hy ⟨qs,rfl,?_⟩⟩
   .rw [E8,wW];walk_at "rd";refine rListR.l (.inr (.of A4)) fun p2 y8=>⟨C8 (C8 hD np) y8,?_,CW.put hi hy ⟨qs++[p2],by rw [E4];rfl,?_⟩⟩
    .rw [A8] at hy;rw [A8];exact L4 (by first | lia | omega)
    .rw [xR hz,if_pos e];have n2:H4 p2=none:=(Same.new np).free y8;exact RA.grow (fun b o h=>C8 (C8 h np) y8) n2 A4
   .rw [xR hz,if_neg e];exact RA
  rintro D ys H4 nD ⟨qs,rfl,RA⟩ hD hy;rw [A8,hR.len,L1] at RA;refine ⟨D,qs,rowsW R w,rank,rfl,RA.rows,j5,j4,fun l line H5 nl S5 tN run cov=>?_⟩;exact q l line H5 (RA.same.free nl) (RA.same.trans S5) tN run cov
theorem sc_forms_of:FnScope ["rules", "forms", "rule"] ["rules"] (C6 aW):=G0
abbrev rJ:List Str:=["rules", "forms", "rule"]
theorem vbh:VS rJ aW "rules" 0:=vq
theorem vbi:VS rJ aW "forms" 1:=vq
theorem rK:VS rJ aW "rule" 2:=vq
theorem vbk:LS aW "forms":=lq
theorem vbl:LS aW "rule":=lq
theorem agI(F:FunD K "forms_of" "forms_of" aW f fd)(T:Txt P w K mg C):FnOk P w K mg base E1 1 f fd ["rules"] (yH K):=by
 refine F.ok sc_forms_of ?_ ?_
 .rintro _ _ _ _ ⟨a,ts,R,rfl,_⟩;rfl
 .intro cdv A outer s H vs Q E hr h;have C5:=hu_of hr;have hu:=hr.units;refine ⟨_,QSs.out (C1 (F7 (n:=1) sc_forms_of.nd rfl vbk eG)
   (C1 (P8 PassesOwn.never (P9 (K:=K) (vi vbh)) (E2 (n:=2) sc_forms_of.nd rfl vbl (.inl rfl)) (C3 (qs_if (L5 (q_eq (K:=K) hu) (qe_ix (K:=K) (vi rK) A6) M3) (C3 (U0 (qe_mB (K:=K) W5 kQ kP (aiW (K:=K)) (aki (vi vbi) (qe_ix (K:=K) (vi rK) A6) (N3 A2)) (qa_c (W7 (K:=K) (vi rK) (P7 A6) u8) A2)))) N4)))
   (C3 (D9 (vi vbi))))),?_⟩
  obtain ⟨a,ts,R,rfl,hR,hg,hl,hf,q⟩:=h;walk_at "rd";intro d nd;refine ⟨⟨_,.of (C8 hR.top nd)⟩,forL (xs:=ts.map V.ref) (fun i Y H2=>∃ (u:Option V) (ad:Str->Addr),Y=[some (.ref a),some (.ref d),u]/\Same H H2/\H2 d=some (.dK (C2 (D6 (R.take i)) fun y=>.ref (ad y)))/\DL (A0 H d (.dK [])) H2 (D6 (R.take i)) ad (E5 (R.take i))) ⟨none,fun _=>d,rfl,Same.new nd,A4,⟨by simp [D6,K7,F6],by simp [D6,K7,F6],by simp [D6,K7,F6]⟩⟩ (by rintro i Y H2 _ ⟨_,_,_,S,_⟩;exact .of (S _ _ hR.top)) ?_ ?_⟩
  .rintro i x Y H2 hx ⟨u,ad,rfl,S,hd,dl⟩;obtain ⟨t,ht,rfl⟩:=K0 hx;obtain ⟨z,hz,D5⟩:=Paired.at hR.row ht;have hT:C7 K H2 t ((z.1::z.2).map V.str):=.of (S _ _ D5);walk_at "rd";refine ⟨_,.inr hT,V.str z.1,R1 _ _,?_⟩;walk_at "rd"
   by_cases fU:z.1=("great" : Str)
   .rw [decide_eq_true fU];refine iteT ?_;obtain ⟨w,ps⟩:=z;obtain rfl:w=("great" : Str):=fU;obtain ⟨y,fs,rfl⟩:∃ y fs,ps=y::fs:=by
     cases ps with
     | nil=>exact absurd rfl (hg _ (O1 hz) rfl)
     | cons y fs=>exact ⟨y,fs,rfl⟩
    have etk:R.take (i+1)=R.take i++[(("great" : Str),y::fs)]:=M7 hz;have j5:(E5 (R.take i) y).length+fs.length<=10000:=by
     have:=hf (i+1) y
     rw [etk,qJ,if_pos rfl,D4] at this;exact this
    have o3:(C2 (D6 (R.take i)) fun y=>V.ref (ad y)).length<=1000:=by
     rw [i3];unfold D6;have h1:=gY ((K7 (R.take i)).map (·.1)) [];have h2:(K7 (R.take i)).length<=(R.take i).length:=List.length_filterMap_le _ _;rw [A8,f7] at h1;rw [M5] at h2;lia
    have Q9:F8 (((("great" : Str),y::fs).1::(("great" : Str),y::fs).2).map V.str) 1=some (V.str y):=O3 (j:=1) rfl;have y9:cutV (((("great" : Str),y::fs).1::(("great" : Str),y::fs).2).map V.str) (some 2) none=fs.map V.str:=eK _ 2;refine ⟨.inl ⟨_,.inl hd⟩,_,.inr hT,V.str y,Q9,fun p np=>⟨_,C8 hd np,Nat.lt_of_le_of_lt o3 (by decide),Sum.inr y,rfl,fun v hv=>?_,fun hn=>?_⟩⟩
    .rw [O8] at hv
     by_cases hy:y∈D6 (R.take i)
     .rw [if_pos hy] at hv;cases hv;have bO:=dl.row y hy;have ndy:ad y≠d:=fun e=>by have:=dl.new y hy;rw [e,A4] at this;cases this
      have nHy:H (ad y)=none:=by have:=dl.new y hy;rw [B3 ndy] at this;exact this
      have T1:Same H2 (A0 H2 p (.lst [])):=Same.new np;generalize A0 H2 p (.lst [])=H3 at T1;refine ⟨V7 (T1 _ _ bO),g7 (hT.same T1) (m4 (k:=2) (by decide) (by simp)) fun s ns=>?_⟩;rw [y9];have T2:Same H3 (A0 H3 s (.tup (fs.map V.str))):=Same.new ns;have hs:A0 H3 s (.tup (fs.map V.str)) s=some (.tup (fs.map V.str)):=A4;generalize A0 H3 s (.tup (fs.map V.str))=H4 at T2 hs;have T:=T1.trans T2;refine ⟨ad y,s,_,_,rfl,rfl,T _ _ bO,.of hs,by rw [A8,A8];exact T0 (by first | lia | omega),(S.trans T).put nHy,ad,?_,?_⟩
      .rw [B3 ndy.symm,T _ _ hd,etk,mE];unfold dd;rw [if_pos hy]
      .rw [etk,mE];unfold dd;rw [if_pos hy,<- E4];refine ((dl.same T).app hy (E5 (R.take i) y++fs)).congr fun x _=>?_
       rw [qJ]
       by_cases o6:x=y
       .subst o6;simp
       .simp [o6]
     .rw [if_neg hy] at hv;cases hv
    .have hy:y∉D6 (R.take i):=fun hy=>by rw [O8,if_pos hy] at hn;cases hn
     have ndp:d≠p:=fun e=>by rw [<- e,hd] at np;cases np
     have n0:A0 H d (.dK []) p=none:=by rw [B3 ndp.symm];exact S.free np
     have dl2:=dl.more hy np n0;have o5:=dl2.put (b:=d) (o:=.dK (C2 (D6 (R.take i)++[y]) fun t=>if t=y then V.ref p else V.ref (ad t))) (u:=.dK []) A4;rw [cI (V.ref p) hy];have nQ:A0 (A0 H2 p (.lst [])) d (.dK (C2 (D6 (R.take i)++[y]) fun t=>if t=y then V.ref p else V.ref (ad t))) p=some (.lst []):=by rw [B3 ndp.symm,A4]
     have W1:A0 (A0 H2 p (.lst [])) d (.dK (C2 (D6 (R.take i)++[y]) fun t=>if t=y then V.ref p else V.ref (ad t))) d=some (.dK (C2 (D6 (R.take i)++[y]) fun t=>if t=y then V.ref p else V.ref (ad t))):=A4;have S3:Same H (A0 (A0 H2 p (.lst [])) d (.dK (C2 (D6 (R.take i)++[y]) fun t=>if t=y then V.ref p else V.ref (ad t)))):=(S.trans (Same.new np)).put nd;generalize A0 (A0 H2 p (.lst [])) d (.dK (C2 (D6 (R.take i)++[y]) fun t=>if t=y then V.ref p else V.ref (ad t)))=H3 at o5 nQ W1 S3;have hT3:C7 K H3 t (((("great" : Str),y::fs).1::(("great" : Str),y::fs).2).map V.str):=.of (S3 _ _ D5);refine ⟨V7 nQ,g7 hT3 (m4 (k:=2) (by decide) (by simp)) fun s ns=>?_⟩;rw [y9];have T2:Same H3 (A0 H3 s (.tup (fs.map V.str))):=Same.new ns;have hs:A0 H3 s (.tup (fs.map V.str)) s=some (.tup (fs.map V.str)):=A4;generalize A0 H3 s (.tup (fs.map V.str))=H4 at T2 hs;refine ⟨p,s,_,_,rfl,rfl,T2 _ _ nQ,.of hs,by rw [A8];exact T0 (by simp;lia),(S3.trans T2).put (S.free np),fun t=>if t=y then p else ad t,?_,?_⟩
     .rw [B3 ndp,T2 _ _ W1,etk,mE];unfold dd;rw [if_neg hy];refine congrArg (fun z=>some (HO.dK z)) (U1 fun x _=>?_);show (if x=y then V.ref p else V.ref (ad x))=V.ref (if x=y then p else ad x)
      by_cases o6:x=y
      .rw [if_pos o6,if_pos o6]
      .rw [if_neg o6,if_neg o6]
     .rw [etk,mE];unfold dd;rw [if_neg hy,f6]
      have:=((o5.same T2).app (z:=y) (by simp) fs).congr (G:=E5 (R.take i++[(("great" : Str),y::fs)])) fun x _=>by
       rw [qJ]
       by_cases o6:x=y
       .subst o6;have e0:E5 (R.take i) x=[]:=by
         unfold E5;rw [List.filter_eq_nil_iff.mpr fun e he=>?_]
         .rfl
         .intro h;have h:e.1=x:=by simpa using h
          refine hy ?_;unfold D6;rw [m3];exact .inr (E9.mpr ⟨e,he,h⟩)
        simp [e0]
       .simp [o6]
      rw [if_pos rfl] at this;exact this
   .rw [decide_eq_false fU];refine iteF ⟨S,ad,?_,?_⟩
    .rw [show D6 (R.take (i+1))=D6 (R.take i) by unfold D6;rw [qH hz,mD fU,L3]];exact hd
    .rw [show D6 (R.take (i+1))=D6 (R.take i) by unfold D6;rw [qH hz,mD fU,L3]];refine dl.congr fun x _=>?_
     unfold E5;rw [qH hz,mD fU,L3]
  .rintro Y H2 ⟨u,ad,rfl,S,hd,dl⟩;walk_at "rd";rw [A8,hR.len,L1] at hd dl;exact q d ad H2 nd S hd (dl.old (Same.new nd))
theorem sc_steps_of:FnScope ["rules", "letters", "marks", "steps", "place", "letter", "mark", "forms", "case", "form", "rule"] ["rules", "letters", "marks"] (C6 O4):=G0
abbrev i4:List Str:=["rules", "letters", "marks", "steps", "place", "letter", "mark", "forms", "case", "form", "rule"]
theorem vbm:VS i4 O4 "rules" 0:=vq
theorem vbn:VS i4 O4 "letters" 1:=vq
theorem vbo:VS i4 O4 "marks" 2:=vq
theorem fC:VS i4 O4 "steps" 3:=vq
theorem vbq:VS i4 O4 "place" 4:=vq
theorem rL:VS i4 O4 "letter" 5:=vq
theorem vbs:VS i4 O4 "mark" 6:=vq
theorem vbt:VS i4 O4 "forms" 7:=vq
theorem vbu:VS i4 O4 "case" 8:=vq
theorem vbv:VS i4 O4 "form" 9:=vq
theorem rM:VS i4 O4 "rule" 10:=vq
theorem vbx:LS O4 "steps":=lq
theorem vby:LS O4 "place":=lq
theorem vbz:LS O4 "letter":=lq
theorem vbA:LS O4 "mark":=lq
theorem vbB:LS O4 "forms":=lq
theorem vbC:LS O4 "case":=lq
theorem vbD:LS O4 "form":=lq
theorem vbE:LS O4 "rule":=lq
theorem agJ(F:FunD K "steps_of" "steps_of" O4 f fd)(T:Txt P w K mg C)(G_forms_of:FO P w K mg base 1 "forms_of" ["rules"] [] (yH K)):FnOk P w K mg base E1 2 f fd ["rules", "letters", "marks"] (yO K):=by
 refine F.ok sc_steps_of ?_ ?_
 .rintro _ _ _ _ ⟨a,b,c,ts,R,L,M,F,rfl,_⟩;rfl
 .intro cdv A outer s H vs Q E hr h;have C5:=hu_of hr;have hu:=hr.units;refine ⟨_,QSs.out (C1 (F7 (n:=3) sc_steps_of.nd rfl vbx eG)
   (C1 (P8 PassesOwn.never (pY T.b_enumerate (qa_c (vi vbn) A2)) (aR (K:=K) (n:=2) (Q6 ((E2 (n:=4) sc_steps_of.nd rfl vby (.inl rfl))) (Q6 ((E2 (n:=5) sc_steps_of.nd rfl vbz (.inl rfl))) aQ))) (C3 (u9 C5 (vi fC) (vi rL) (O7 (qa_c (O7 (qa_c (aP T.g_LETTER) (qa_c (vi vbq) (qa_c A6 A2)))) A2)))))
   (C1 (P8 PassesOwn.never (pY T.b_enumerate (qa_c (vi vbo) A2)) (aR (K:=K) (n:=2) (Q6 ((E2 (n:=4) sc_steps_of.nd rfl vby (.inl rfl))) (Q6 ((E2 (n:=6) sc_steps_of.nd rfl vbA (.inl rfl))) aQ))) (C3 (u9 C5 (vi fC) (vi vbs) (O7 (qa_c (O7 (qa_c (aP T.g_MARK) (qa_c (vi vbq) (qa_c A6 A2)))) A2)))))
   (C1 (F7 (n:=7) sc_steps_of.nd rfl vbB (D7 G_forms_of (hm hr) (qa_c (vi vbm) A2)))
   (C1 (pS PassesOwn.never (vi vbt) (E2 (n:=5) sc_steps_of.nd rfl vbz (.inl rfl)) (C3 (P8 PassesOwn.never (akv T.b_enumerate (qa_c (Y3 C5 (vi vbt) (vi rL)) A2)) (aR (K:=K) (n:=2) (Q6 ((E2 (n:=8) sc_steps_of.nd rfl vbC (.inl rfl))) (Q6 ((E2 (n:=9) sc_steps_of.nd rfl vbD (.inl rfl))) aQ))) (C3 (u9 C5 (vi fC) (vi vbv) (O7 (qa_c (O7 (qa_c (aP T.g_LETTER) (qa_c (qe_ix (K:=K) (qe_ix (K:=K) (Y3 C5 (vi fC) (vi rL)) A6) A6) (qa_c (vi vbu) A2)))) A2)))))))
   (C1 (P8 PassesOwn.never (P9 (K:=K) (vi vbm)) (E2 (n:=10) sc_steps_of.nd rfl vbE (.inl rfl)) (C3 (qs_if (L5 (q_eq (K:=K) hu) (qe_ix (K:=K) (vi rM) A6) M3) (C3 (u9 C5 (vi fC) (qe_ix (K:=K) (vi rM) A6) (qe_cT (wU (K:=K)) T.b_tuple wA (qa_c (Z6  (X1:CompOk ["rules", "letters", "marks", "steps", "place", "letter", "mark", "forms", "case", "form", "rule"] (C6 O4).names _ ["part", "steps"] 1 [3]) (cG (K:=K) (W7 (K:=K) (vi rM) (P7 A6) u8)) (fun _ _ _ _ _=>E2 (n:=0) (show List.Nodup (["part", "steps"]:List Str) by decide +kernel) rfl (Or.inl rfl)) (fun _ _ _ _ _=>v4) (fun _ _ _ _ _=>(qe_ix (K:=K) (Y3 C5 (qv 1) (qv 0)) A6))) A2)))) N4)))
   (C3 (D9 (vi fC))))))))),?_⟩
  obtain ⟨a,b,c,ts,R,L,M,F,rfl,hR,md,hb,hc,U5,hRl,j5,kD,q⟩:=h;have A9:L.length+M.length+((D6 R).flatMap (E5 R)).length+(asKs R).length<=50000:=by
   unfold allKs at kD;simp only [D4] at kD;exact kD
  walk_at "rd";intro d nd;have ndR:∀ {x:Addr} {o:HO},H x=some o->x≠d:=fun h e=>by rw [e,nd] at h;cases h
  refine ⟨⟨_,C8 hb nd⟩,forE (xs:=L.map V.str) (fun i Y H2=>∃ (u v w x y z r:Option V),Y=[some (.ref a),some (.ref b),some (.ref c),some (.ref d),u,v,w,x,y,z,r]/\StI H H2 d (L.take i) F)
   ⟨none,none,none,none,none,none,none,rfl,Same.new nd,fun _=>d,A4,by simp [F6]⟩ (by rintro i Y H2 ⟨_,_,_,_,_,_,_,_,S⟩;exact S.same _ _ hb) ?_ ?_⟩
  .rintro i x t Y H2 hx ⟨u,v,w,x',y,z,r,rfl,S⟩ nt;obtain ⟨l,hl,rfl⟩:=K0 hx;have hi:i<L.length:=(J8.mp hl).1;walk_at "rd";refine ⟨_,.of A4,rfl,_,_,rfl,_,_,rfl,rfl,by decide,fun p np=>⟨by decide,fun p1 N2=>?_⟩⟩;rw [M7 hl];exact StI.put nd (((S.more (Same.new nt)).more (Same.new np)).more (Same.new N2)) (by rw [M5];lia) (by
    rw [md.lt i l hl];exact StepAt.one A4 (C8 A4 N2))
  rintro Y H2 ⟨u,v,w,x',y,z,r,rfl,S⟩;rw [A8,L1] at S;walk_at "rd";refine ⟨⟨_,S.same _ _ hc⟩,forE (xs:=M.map V.str) (fun i Y H2=>∃ (u v w x y z r:Option V),Y=[some (.ref a),some (.ref b),some (.ref c),some (.ref d),u,v,w,x,y,z,r]/\StI H H2 d (L++M.take i) F)
   ⟨u,v,w,x',y,z,r,rfl,by rw [aG,L3];exact S⟩ (by rintro i Y H2 ⟨_,_,_,_,_,_,_,_,S⟩;exact S.same _ _ hc) ?_ ?_⟩
  .clear S;rintro i x t Y H2 hx ⟨u,v,w,x',y,z,r,rfl,S⟩ nt;obtain ⟨l,hl,rfl⟩:=K0 hx;have hi:i<M.length:=(J8.mp hl).1;walk_at "rd";refine ⟨_,.of A4,rfl,_,_,rfl,_,_,rfl,rfl,by decide,fun p np=>⟨by decide,fun p1 N2=>?_⟩⟩;rw [M7 hl,<- V2];exact StI.put nd (((S.more (Same.new nt)).more (Same.new np)).more (Same.new N2)) (by rw [D4,M5];lia) (by
    rw [md.mr i l hl];exact StepAt.one A4 (C8 A4 N2))
  clear S H2 u v w x' y z r;rintro Y H2 ⟨u,v,w,x',y,z,r,rfl,S⟩;rw [A8,L1] at S;walk_at "rd";refine ⟨a,ts,R,rfl,hR.same S.same,fun z hz e=>md.ne z hz (.inr e),hRl,j5,fun fd af H3 nfd S3 nS dl=>?_⟩;have nf0:H fd=none:=S.same.free nfd;have nf1:fd≠d:=fun e=>by
   obtain ⟨ad,h1,_⟩:=S.made;rw [<- e,nfd] at h1;cases h1
  have S':=S.more S3;have D5:=dl.row;clear S S3 dl nfd H2;refine ⟨fd,rfl,_,nS,fun o=>forD (fun i Y H4=>∃ (u v w y z r:Option V),Y=[some (.ref a),some (.ref b),some (.ref c),some (.ref d),u,v,w,some (.ref fd),y,z,r]/\FoI H H4 d fd o (D6 R) af (E5 R) (L++M++((D6 R).take i).flatMap (E5 R)) F)
   ⟨u,v,w,y,z,r,rfl,⟨A4,fun y hy=>by rw [B3 (fun e=>by have:=D5 y hy;rw [e,nS] at this;cases this)];exact D5 y hy,by rw [aG,dO,L3];exact S'.frz nS nf0 nf1⟩⟩ (by rintro i Y H4 ⟨_,_,_,_,_,_,_,h⟩;exact h.frz) ?_ ?_⟩
  .rintro i k v' Y H4 hk ⟨u,v,w,y,z,r,rfl,J⟩;obtain ⟨l,hl,e⟩:=K0 (f:=fun t=>((Sum.inr t:B1),V.ref (af t))) hk;obtain ⟨rfl,rfl⟩:=Prod.mk.inj e;have kE:l∈D6 R:=O1 hl;have hlL:=md.gl l kE;have tK:(((D6 R).take i).flatMap (E5 R)).length+(E5 R l).length<=((D6 R).flatMap (E5 R)).length:=by
    have e:(D6 R).flatMap (E5 R)=((D6 R).take i).flatMap (E5 R)++E5 R l++((D6 R).drop (i+1)).flatMap (E5 R):=by
     have:=o9 (i+1) (D6 R)
     rw [M7 hl] at this;rw [<- this,V0,V0,V1,dO,L3];rw [this]
    rw [e,D4,D4];lia
   walk_at "rd";refine ⟨V.ref (af l),.inl ⟨_,Sum.inr l,.inr ⟨o,J.frz⟩,rfl,by rw [O8,if_pos kE]⟩,af l,rfl,⟨_,J.rows l kE⟩,forE1 (xs:=(E5 R l).map V.str) (fun j Y H5=>∃ (y z r:Option V),Y=[some (.ref a),some (.ref b),some (.ref c),some (.ref d),u,some (kV (Sum.inr l)),w,some (.ref fd),y,z,r]/\FoI H H5 d fd o (D6 R) af (E5 R) (L++M++((D6 R).take i).flatMap (E5 R)++(E5 R l).take j) F) ⟨y,z,r,rfl,by rw [aG,L3];exact J⟩ (by rintro j Y H5 ⟨_,_,_,_,h⟩;exact h.rows l kE) ?_ ?_⟩
   .clear J y z r;rintro j x t Y H5 hx ⟨y,z,r,rfl,J⟩ nt;obtain ⟨f,hf,rfl⟩:=K0 hx;have hj:j<(E5 R l).length:=(J8.mp hf).1;have T1:Same H5 (A0 H5 t (.tup [.int ((j+1:Nat):Int),.str f])):=Same.new nt;have ht:A0 H5 t (.tup [.int ((j+1:Nat):Int),.str f]) t=some (.tup [.int ((j+1:Nat):Int),.str f]):=A4;generalize A0 H5 t (.tup [.int ((j+1:Nat):Int),.str f])=H6 at T1 ht ⊢
    have J6:=J.more T1;obtain ⟨ad,h1,h2⟩:=J6.st.made;have L6:l∈F6 [] (L++M++((D6 R).take i).flatMap (E5 R)++(E5 R l).take j):=by
     rw [m3];exact .inr (R4 _ (R4 _ (R4 _ hlL)))
    obtain ⟨tt,e1,e2⟩:=(h2 l L6).ex;rw [md.letter hlL] at e2;obtain ⟨t0,rfl,e3⟩:∃ t0,tt=[t0]/\H6 t0=some (tupT (2,(L.idxOf l:Int),0)):=by
     cases e2 with
     | cons h t=>cases t;exact ⟨_,rfl,h⟩
    walk_at "rd";refine ⟨_,.of ht,rfl,_,_,rfl,_,_,rfl,rfl,V.ref (ad l),.inl ⟨_,Sum.inr l,.inl h1,rfl,by rw [O8,if_pos L6]⟩,?_⟩;walk_at "rd";refine ⟨_,.inr (.of e1),V.ref t0,R1 _ _,?_⟩;walk_at "rd";refine ⟨_,.inr (.of e3),V.int (L.idxOf l:Int),O3 (j:=1) rfl,by decide,fun p np=>⟨by decide,fun p1 N2=>?_⟩⟩;rw [M7 hf,<- V2];exact FoI.put nd ((J6.more (Same.new np)).more (Same.new N2)) (by simp only [D4,M5];lia) (by
     rw [md.gr l kE j f hf];exact StepAt.one A4 (C8 A4 N2))
   .rintro Y H5 ⟨y,z,r,rfl,J⟩;rw [A8,L1] at J;refine ⟨⟨_,_,_,_,_,_,rfl⟩,?_⟩;rw [M7 hl,V0,V1,dO,L3,<- V2];exact J
  rintro Y H4 ⟨u,v,w,y,z,r,rfl,J⟩;rw [i3,L1] at J;have S5:=J.st.thaw (o:=.dK (C2 (D6 R) fun y=>V.ref (af y))) J.frz nf0 nf1;generalize A0 H4 fd (.dK (C2 (D6 R) fun y=>V.ref (af y)))=H5 at S5 ⊢
  clear J nS D5;walk_at "rd";refine ⟨⟨_,.of (S5.same _ _ hR.top)⟩,forL (xs:=ts.map V.ref) (fun i Y H6=>∃ (r:Option V),Y=[some (.ref a),some (.ref b),some (.ref c),some (.ref d),u,v,w,some (.ref fd),y,z,r]/\StI H H6 d (L++M++(D6 R).flatMap (E5 R)++asKs (R.take i)) F) ⟨r,rfl,by rw [aG];rw [show asKs []=[] from rfl,L3];exact S5⟩ (by rintro i Y H6 _ ⟨_,_,S⟩;exact .of (S.same _ _ hR.top)) ?_ ?_⟩
  .clear S5 r;rintro i x Y H6 hx ⟨r,rfl,S⟩;obtain ⟨t,ht,rfl⟩:=K0 hx;obtain ⟨zz,hz,D5⟩:=Paired.at hR.row ht;have nU:=O1 hz;have hT:C7 K H6 t ((zz.1::zz.2).map V.str):=.of (S.same _ _ D5);walk_at "rd";refine ⟨_,.inr hT,V.str zz.1,R1 _ _,?_⟩;walk_at "rd"
   by_cases has:zz.1=("as" : Str)
   .rw [decide_eq_true has];refine iteT ?_;obtain ⟨w1,ps⟩:=zz;obtain rfl:w1=("as" : Str):=has;obtain ⟨p,qs,rfl⟩:∃ p qs,ps=p::qs:=by
     cases ps with
     | nil=>exact absurd rfl (md.ne _ nU (.inl rfl))
     | cons p qs=>exact ⟨p,qs,rfl⟩
    have y9:cutV (((("as" : Str),p::qs).1::(("as" : Str),p::qs).2).map V.str) (some 2) none=qs.map V.str:=eK _ 2;have hql:qs.length<=1000:=by have:=U5 _ nU;simp only [J7] at this;lia
    have tO:=aky (R.take i);rw [M5] at tO;refine g7 hT (m4 (k:=2) (by decide) (by simp)) fun s ns=>?_
    rw [y9];have T1:Same H6 (A0 H6 s (.tup (qs.map V.str))):=Same.new ns;have hs:A0 H6 s (.tup (qs.map V.str)) s=some (.tup (qs.map V.str)):=A4;generalize A0 H6 s (.tup (qs.map V.str))=H7 at T1 hs;have S7:=S.more T1;have hT7:C7 K H7 t (((("as" : Str),p::qs).1::(("as" : Str),p::qs).2).map V.str):=C7.same T1 hT;clear hT S;refine ⟨s,rfl,⟨_,.of hs⟩,compT (xs:=qs.map V.str) [some (.ref d)] rfl (fun D j ys H8=>∃ bP:List Addr,ys=bP.map V.ref/\AsI H H7 H8 d (L++M++(D6 R).flatMap (E5 R)++asKs (R.take i)) F bP ((qs.take j).map fun q=>(F q).headD (0,0,0))) (fun D nD=>⟨[],rfl,S7.more (Same.new nD),.nil,Same.new nD⟩) (by rintro D j ys H8 nD _ ⟨_,_,h⟩;exact .of (h.sm _ _ hs)) ?_ ?_⟩
    .rintro D j yv ys H8 nD hi hy ⟨bP,rfl,J⟩ hD Q4;obtain ⟨qq,hq,rfl⟩:=K0 hy;have hqb:=md.pt _ nU rfl qq (O1 hq);obtain ⟨st,V9⟩:=md.base hqb;obtain ⟨ad,h1,h2⟩:=J.st.made;have L6:qq∈F6 [] (L++M++(D6 R).flatMap (E5 R)++asKs (R.take i)):=by
      rw [m3];refine .inr (R4 _ (R4 _ (K5.mpr hqb)))
     obtain ⟨tt,e1,e2⟩:=(h2 qq L6).ex;rw [V9] at e2;obtain ⟨t0,rfl,e3⟩:∃ t0,tt=[t0]/\H8 t0=some (tupT st):=by
      cases e2 with
      | cons h t=>cases t;exact ⟨_,rfl,h⟩
     walk_at "rd";refine ⟨V.ref (ad qq),.inl ⟨_,Sum.inr qq,.inl h1,rfl,by rw [O8,if_pos L6]⟩,?_⟩;walk_at "rd";have bM:bP.length<=1000:=by
      have:=Paired.length J.pr
      rw [A8,M5] at this;lia
     refine ⟨_,.inr (.of e1),V.ref t0,R1 _ _,hD,by rw [A8];exact L4 (by first | lia | omega),CW.put hi Q4 ⟨bP++[t0],by rw [E4];rfl,?_⟩⟩;refine AsI.putL (f:=D) ⟨J.st,?_,J.sm⟩ hD (S7.same.free nD) nD;rw [M7 hq,E4];refine Paired.snoc J.pr ?_;show H8 t0=some (tupT ((F qq).headD (0,0,0)));rw [V9];exact e3
    rintro D ys H8 nD ⟨bP,rfl,J⟩ hD Q4;rw [A8,L1] at J;rw [tup_r];refine rTupR.l (.of hD) fun p1 N2=>?_
    have Q9:F8 (((("as" : Str),p::qs).1::(("as" : Str),p::qs).2).map V.str) 1=some (V.str p):=O3 (j:=1) rfl;have S8:Same H8 (A0 H8 p1 (.tup (bP.map V.ref))):=Same.new N2;refine ⟨_,.inr (C7.same (J.sm.trans S8) hT7),V.str p,Q9,?_⟩;rw [yL hz,yN,<- V2];refine StI.put nd (J.st.more S8) (by simp only [D4];lia) ?_;rw [md.as _ nU rfl p qs rfl];exact ⟨bP,A4,R7 J.pr fun t s e=>S8 _ _ e⟩
   .rw [decide_eq_false has];refine iteF ?_;rw [yL hz,yM has,L3];exact S
  rintro Y H6 ⟨r,rfl,S⟩;rw [A8,hR.len,L1] at S;walk_at "rd";exact q d H6 nd S.same S.made
theorem ade:FnScope ["self", "rules"] ["self", "rules"] (C6 aX):=G0
abbrev ack:List Str:=["self", "rules"]
theorem x0:VS ack aX "self" 0:=vq
theorem cR:VS ack aX "rules" 1:=vq
theorem adf(F:FunD K "__init__" "Order.__init__" aX f fd)(T:Txt P w K mg C)(G_has_rule:FO P w K mg base 1 "has_rule" ["rules", "word"] [] (spHas K))(G_jobs_of:FO P w K mg base 3 "jobs_of" ["rules"] [] (xU K))(G_check_letters:FO P w K mg base 2 "check_letters" ["rules", "jobs"] [] (yK K))(G_line_of:FO P w K mg base 4 "line_of" ["rules", "word"] [] (xY K))(G_steps_of:FO P w K mg base 2 "steps_of" ["rules", "letters", "marks"] [] (yO K)):FnOk P w K mg base E1 5 f fd ["self", "rules"] (qL C):=by
 refine F.ok ade ?_ ?_
 .rintro _ _ _ _ ⟨x,dx,a,ts,R,g,r1,r2,rfl,_⟩;rfl
 .intro cdv A outer s H vs Q E hr h;have C5:=hu_of hr;have hu:=hr.units;refine ⟨_,QSs.out (C1 (eI (K:=K) (vi x0) (D7 G_has_rule (hm hr) (qa_c (vi cR) (qa_c M3 A2))))
   (C1 (eI (K:=K) (vi x0) (D7 G_has_rule (hm hr) (qa_c (vi cR) (qa_c M3 A2))))
   (C1 (eI (K:=K) (vi x0) (D7 G_jobs_of (hm hr) (qa_c (vi cR) A2)))
   (C1 (U0 (D7 G_check_letters (hm hr) (qa_c (vi cR) (qa_c (g9 (K:=K) (vi x0)) A2))))
   (C1 (eI (K:=K) (vi x0) (D7 G_line_of (hm hr) (qa_c (vi cR) (qa_c M3 A2))))
   (C1 (eI (K:=K) (vi x0) (D7 G_line_of (hm hr) (qa_c (vi cR) (qa_c M3 A2))))
   (C3 (eI (K:=K) (vi x0) (D7 G_steps_of (hm hr) (qa_c (vi cR) (qa_c (g9 (K:=K) (vi x0)) (qa_c (g9 (K:=K) (vi x0)) A2)))))))))))),?_⟩
  obtain ⟨x,dx,a,ts,R,g,r1,r2,rfl,hx,hR,pl,q⟩:=h;have lp:∀ (f:Str) (y:V) (fs:List (Str×V)),(putF f y fs).length<=fs.length+1:=oM;walk_at "rd";refine ⟨a,ts,R, "figures",rfl,hR,pl.len,fun H1 S1=>⟨C,dx,[],S1 _ _ hx,T.cl,T.na_figures,by decide,?_⟩⟩;generalize hF1:putF (Str.ofString "figures") (V.bl (hasW R (Str.ofString "figures"))) []=F1;have l1:F1.length<=1:=by rw [<- hF1];exact lp _ _ _
  have B2:SameBut x H (A0 H1 x (.ins C dx F1)):=(Same.but S1).at;have tP:A0 H1 x (.ins C dx F1) x=some (.ins C dx F1):=A4;generalize A0 H1 x (.ins C dx F1)=H2 at B2 tP;have hR2:=hR.but B2 hx;refine ⟨a,ts,R, "behind",rfl,hR2,pl.len,fun H3 S3=>⟨C,dx,F1,S3 _ _ tP,T.cl,T.na_behind,by first | lia | omega,?_⟩⟩;generalize hF2:putF (Str.ofString "behind") (V.bl (hasW R (Str.ofString "behind"))) F1=F2;have l2:F2.length<=2:=by rw [<- hF2];exact M6 (lp _ _ _) (by first | lia | omega)
  have B4:SameBut x H2 (A0 H3 x (.ins C dx F2)):=(Same.but S3).at;have fT:A0 H3 x (.ins C dx F2) x=some (.ins C dx F2):=A4;generalize A0 H3 x (.ins C dx F2)=H4 at B4 fT;have hR4:=hR2.but B4 tP;refine ⟨a,ts,R,g,rfl,hR4,pl.len,pl.plen,pl.nc,pl.nb,fun j H5 nj S5 hj=>?_⟩;have njx:j≠x:=fun e=>by rw [e,fT] at nj;cases nj
  generalize hF3:putF (Str.ofString "jobs") (V.ref j) F2=F3;have l3:F3.length<=3:=by rw [<- hF3];exact M6 (lp _ _ _) (by first | lia | omega)
  have k3:F3.lookup (Str.ofString "jobs")=some (V.ref j):=by rw [<- hF3,K4,if_pos rfl]
  refine ⟨C,dx,F2,S5 _ _ fT,T.cl,T.na_jobs,by first | lia | omega,?_⟩;rw [hF3];have B6:SameBut x H4 (A0 H5 x (.ins C dx F3)):=(Same.but S5).at;have kF:A0 H5 x (.ins C dx F3) x=some (.ins C dx F3):=A4;have tQ:A0 H5 x (.ins C dx F3) j=some (.dK (C2 (keysP (D1 R)++W8 R) (jobG g))):=by rw [B3 njx];exact hj
  generalize A0 H5 x (.ins C dx F3)=H6 at B6 kF tQ;have hR6:=hR4.but B6 fT;refine ⟨C,dx,F3,kF,T.cl,T.na_jobs,_,k3,a,j,ts,R,_,_,rfl,hR6,tQ,fun z hz=>⟨pl.used hz,pl.zl z hz⟩,fun H7 S7=>?_⟩;refine ⟨a,ts,R, "row",r1,rfl,hR6.same S7,pl.len,M6 pl.f1 (by decide),pl.a1,fun ll L H8 nll S8 tI run cov=>?_⟩;have kG:=S8 _ _ (S7 _ _ kF);have nlx:ll≠x:=fun e=>by rw [e,S7 _ _ kF] at nll;cases nll
  have llen:L.length<=10000:=by
   rw [lU (eO _) run cov];exact M6 (gZ _) pl.f1
  generalize hF4:putF (Str.ofString "letter_line") (V.ref ll) F3=F4;have l4:F4.length<=4:=by rw [<- hF4];exact M6 (lp _ _ _) (by first | lia | omega)
  refine ⟨C,dx,F3,kG,T.cl,T.na_letter_line,by first | lia | omega,?_⟩;rw [hF4];have B9:SameBut x H6 (A0 H8 x (.ins C dx F4)):=(Same.but (S7.trans S8)).at;have nV:A0 H8 x (.ins C dx F4) x=some (.ins C dx F4):=A4;have kH:A0 H8 x (.ins C dx F4) ll=some (.lst (L.map V.str)):=by rw [B3 nlx];exact tI
  generalize A0 H8 x (.ins C dx F4)=H9 at B9 nV kH;have hR9:=hR6.but B9 kF;refine ⟨a,ts,R, "marks",r2,rfl,hR9,pl.len,M6 pl.f2 (by decide),pl.a2,fun ml M X5 nml fV tR run2 cov2=>?_⟩;have nmx:ml≠x:=fun e=>by rw [e,nV] at nml;cases nml
  have mlen:M.length<=10000:=by
   rw [lU (eO _) run2 cov2];exact M6 (gZ _) pl.f2
  generalize hF5:putF (Str.ofString "mark_line") (V.ref ml) F4=F5;have l5:F5.length<=5:=by rw [<- hF5];exact M6 (lp _ _ _) (by first | lia | omega)
  refine ⟨C,dx,F4,fV _ _ nV,T.cl,T.na_mark_line,by first | lia | omega,?_⟩;rw [hF5];have B11:SameBut x H9 (A0 X5 x (.ins C dx F5)):=(Same.but fV).at;have Y8:A0 X5 x (.ins C dx F5) x=some (.ins C dx F5):=A4;have j8:A0 X5 x (.ins C dx F5) ml=some (.lst (M.map V.str)):=by rw [B3 nmx];exact tR
  have j9:A0 X5 x (.ins C dx F5) ll=some (.lst (L.map V.str)):=by rw [B3 nlx];exact fV _ _ kH
  generalize A0 X5 x (.ins C dx F5)=H11 at B11 Y8 j8 j9;have hR11:=hR9.but B11 nV;have kl:F5.lookup (Str.ofString "letter_line")=some (V.ref ll):=by rw [<- hF5,K4,if_neg (by decide +kernel),<- hF4,K4,if_pos rfl]
  have km:F5.lookup (Str.ofString "mark_line")=some (V.ref ml):=by rw [<- hF5,K4,if_pos rfl]
  refine ⟨C,dx,F5,Y8,T.cl,T.na_letter_line,_,kl,C,dx,F5,Y8,T.cl,T.na_mark_line,_,km,a,ll,ml,ts,R,L,M,stepF R L M,rfl,hR11,yV pl ⟨run,cov⟩ ⟨run2,cov2⟩,j9,j8,pl.zl,pl.len,ai8 pl,M6 (amy pl ⟨run,cov⟩ ⟨run2,cov2⟩) (by decide),fun md H12 nmd bL hmd=>⟨C,dx,F5,bL _ _ Y8,T.cl,T.na_made,by first | lia | omega,?_⟩⟩;have nmdx:md≠x:=fun e=>by rw [e,Y8] at nmd;cases nmd
  have B:SameBut x H (A0 H12 x (.ins C dx (putF (Str.ofString "made") (V.ref md) F5))):=((B2.trans B4).trans ((B6.trans B9).trans (B11.trans (Same.but bL)))).at;have fr:∀ {H':Hp} {y:Addr},SameBut x H H'->H' y=none->y≠x->H y=none:=fun {H' y} b n nx=>by
   cases e:H y with
   | none=>rfl
   | some o=>have:=b _ _ nx e;rw [n] at this;cases this
  have B44:=B2.trans B4;refine q j ll ml md L M _ (fr B44 nj njx) (fr ((B44.trans B6).trans (Same.but S7)) nll nlx) (fr ((B44.trans B6).trans B9) nml nmx) (fr (((B44.trans B6).trans B9).trans B11) nmd nmdx) B ⟨⟨dx,?_⟩,?_,?_,?_,hmd.mod (bL _ _ Y8) (by intro xs e;cases e) nmdx,⟨run,cov⟩,⟨run2,cov2⟩⟩
  .rw [A4,<- hF5,<- hF4,<- hF3,<- hF2,<- hF1];rfl
  .rw [B3 njx];exact bL _ _ (B11 _ _ njx (B9 _ _ njx tQ))
  .rw [B3 nlx];exact bL _ _ j9
  .rw [B3 nmx];exact bL _ _ j8
theorem adl:FnScope ["self"] ["self"] (C6 cM):=G0
abbrev adX:List Str:=["self"]
theorem vbH:VS adX cM "self" 0:=vq
theorem adm(F:FunD K "letters" "Order.letters" cM f fd)(T:Txt P w K mg C):FnOk P w K mg base E1 1 f fd ["self"] (yW C):=by
 refine F.ok adl ?_ ?_
 .rintro _ _ _ _ ⟨x,j,ll,ml,md,g,R,L,M,rfl,_⟩;rfl
 .intro cdv A outer s H vs Q E hr h;have C5:=hu_of hr;have hu:=hr.units;refine ⟨_,QSs.out (C3 (D9 (qe_cT (eJ (K:=K) (calm:=true)) T.b_list eF (qa_c (g9 (K:=K) (vi vbH)) A2)))),?_⟩;obtain ⟨x,j,ll,ml,md,g,R,L,M,rfl,hO,q⟩:=h;obtain ⟨dx,h1⟩:=hO.ob;walk_at "rd";refine ⟨_,_,_,h1,T.cl,T.na_letter_line,_,afL _ _ _ _ _ _,?_⟩;walk_at "rd";exact rListR.l (.inl (.of hO.lets)) fun l nl=>q l nl
theorem ad8:FnScope ["self"] ["self"] (C6 cN):=G0
abbrev ae7:List Str:=["self"]
theorem vbI:VS ae7 cN "self" 0:=vq
theorem ad9(F:FunD K "marks" "Order.marks" cN f fd)(T:Txt P w K mg C):FnOk P w K mg base E1 1 f fd ["self"] (yX C):=by
 refine F.ok ad8 ?_ ?_
 .rintro _ _ _ _ ⟨x,j,ll,ml,md,g,R,L,M,rfl,_⟩;rfl
 .intro cdv A outer s H vs Q E hr h;have C5:=hu_of hr;have hu:=hr.units;refine ⟨_,QSs.out (C3 (D9 (qe_cT (eJ (K:=K) (calm:=true)) T.b_list eF (qa_c (g9 (K:=K) (vi vbI)) A2)))),?_⟩;obtain ⟨x,j,ll,ml,md,g,R,L,M,rfl,hO,q⟩:=h;obtain ⟨dx,h1⟩:=hO.ob;walk_at "rd";refine ⟨_,_,_,h1,T.cl,T.na_mark_line,_,ahH _ _ _ _ _ _,?_⟩;walk_at "rd";exact rListR.l (.inl (.of hO.mrks)) fun l nl=>q l nl
theorem af7:FnScope ["self", "piece"] ["self", "piece"] (C6 aY):=G0
abbrev adY:List Str:=["self", "piece"]
theorem vbJ:VS adY aY "self" 0:=vq
theorem vbK:VS adY aY "piece" 1:=vq
theorem af8(F:FunD K "job" "Order.job" aY f fd)(T:Txt P w K mg C):FnOk P w K mg base E1 1 f fd ["self", "piece"] (yY C):=by
 refine F.ok af7 ?_ ?_
 .rintro _ _ _ _ ⟨x,j,ll,ml,md,p,g,R,L,M,rfl,_⟩;rfl
 .intro cdv A outer s H vs Q E hr h;have C5:=hu_of hr;have hu:=hr.units;refine ⟨_,QSs.out (C3 (D9 (lX C5 (g9 (K:=K) (vi vbJ)) (vi vbK)))),?_⟩;obtain ⟨x,j,ll,ml,md,p,g,R,L,M,rfl,hO,q⟩:=h;obtain ⟨dx,h1⟩:=hO.ob;walk_at "rd";refine ⟨_,_,_,h1,T.cl,T.na_jobs,_,xW _ _ _ _ _ _,j,rfl,.inl ⟨_,.inl hO.jobs⟩,_,V6 (k:=Sum.inr p) hO.jobs,?_⟩;rw [O8]
  by_cases hp:p∈keysP (D1 R)++W8 R
  .rw [if_pos hp] at q ⊢
   exact q
  .rw [if_neg hp] at q ⊢
   exact q
theorem sc_figures_at:FnScope ["text", "at", "end"] ["text", "at"] (C6 cO):=G0
abbrev rN:List Str:=["text", "at", "end"]
theorem rO:VS rN cO "text" 0:=vq
theorem vbM:VS rN cO "at" 1:=vq
theorem rP:VS rN cO "end" 2:=vq
theorem vbO:LS cO "end":=lq
theorem ae8(F:FunD K "figures_at" "figures_at" cO f fd)(T:Txt P w K mg C)(G_is_figure:FO P w K mg base 1 "is_figure" ["sign"] [] eS):FnOk P w K mg base E1 2 f fd ["text", "at"] zN:=by
 refine F.ok sc_figures_at ?_ ?_
 .rintro _ _ _ _ ⟨z,pre,rest,rfl,_⟩;rfl
 .intro cdv A outer s H vs Q E hr h;have C5:=hu_of hr;have hu:=hr.units;refine ⟨_,QSs.out (C1 (F7 (n:=2) sc_figures_at.nd rfl vbO (vi vbM))
   (C1 (pM PassesOwn.never (QW.pt (lQ (L5 q_lt (vi rP) (qe_cB (q_len (K:=K)) T.b_len eE (qa_c (vi rO) A2))) (lP (g8 (K:=K) (D7 G_is_figure (hm hr) (qa_c (qe_ix (K:=K) (vi rO) (vi rP)) A2)))))) (C3 (wL (n:=2) sc_figures_at.nd rfl vbO A6 wP)))
   (C3 (D9 (W7 (K:=K) (vi rO) (P7 (vi vbM)) (P7 (vi rP))))))),?_⟩
  obtain ⟨z,pre,rest,rfl,hz,U5,q⟩:=h;walk_at "rd";have A9:z.length=pre.length+rest.length:=by
   have:=congrArg f8 U5
   simp [Str.length] at this ⊢
   lia
  have hsz:z.length<=sizeLine:=T0 (by first | lia | omega);refine pO (fun m Y H2=>∃ (run left:List Nat),Y=[some (.str z),some (.int pre.length),some (.int ((pre++run).length:Nat))]/\H2=H/\rest=run++left/\rest.takeWhile figO=run++left.takeWhile figO/\m=left.length) rest.length ⟨[],rest,by simp,rfl,rfl,rfl,rfl⟩ ?_;rintro m Y H2 ⟨run,left,rfl,rfl,hr,tS,rfl⟩;have kI:z.cps.toList=pre++(run++left):=by rw [U5,hr]
  have hrl:rest.length=run.length+left.length:=by rw [hr,D4]
  have ecut:cutS z (some (pre.length:Int)) (some (((pre++run).length:Nat):Int))=⟨run.toArray⟩:=by
   have:=qO (y:=run) (rest:=left) kI
   rw [show (((pre++run).length:Nat):Int)=(pre.length:Int)+(run.length:Int) by rw [D4];lia];exact this
  have sW:(pre++run).length=pre.length+run.length:=D4;walk_at "rd";refine ⟨hsz,iteD (fun D0=>⟨hsz,?_⟩) fun nN=>⟨hsz,?_⟩⟩
  .cases left with
   | nil=>simp at hrl;lia
   | cons c l2=>
    refine ⟨c,?_,c,rfl,figO c,rfl,?_⟩
    .rw [kI,<- V2];exact zK
    by_cases hf:figO c=true
    .rw [hf];refine iteT ⟨_,fun _ _ h=>h,l2.length,by simp,run++[c],by simp;lia,rfl,l2,by rw [hr];simp,?_,rfl⟩;rw [tS,List.takeWhile_cons_of_pos hf]
     simp
    .rw [gK] at hf;rw [hf];refine iteF ⟨hsz,?_⟩;rw [ecut];rw [tS,List.takeWhile_cons_of_neg (by simp [hf]),L3] at q;exact q
  .have jL:left=[]:=aB.mp (by first | lia | omega);rw [tS,jL,List.takeWhile_nil,L3] at q;rw [ecut];exact q
theorem sc_part_at:FnScope ["known", "text", "at", "figures", "two"] ["known", "text", "at", "figures"] (C6 w5):=G0
abbrev iZ:List Str:=["known", "text", "at", "figures", "two"]
theorem vbP:VS iZ w5 "known" 0:=vq
theorem jA:VS iZ w5 "text" 1:=vq
theorem fD:VS iZ w5 "at" 2:=vq
theorem vbS:VS iZ w5 "figures" 3:=vq
theorem vbT:VS iZ w5 "two" 4:=vq
theorem vbU:LS w5 "two":=lq
theorem ah0(F:FunD K "part_at" "part_at" w5 f fd)(T:Txt P w K mg C)(G_is_figure:FO P w K mg base 1 "is_figure" ["sign"] [] eS)(G_figures_at:FO P w K mg base 2 "figures_at" ["text", "at"] [] zN):FnOk P w K mg base E1 3 f fd ["known", "text", "at", "figures"] zS:=by
 refine F.ok sc_part_at ?_ ?_
 .rintro _ _ _ _ ⟨d,z,g,pre,c,r,w,y,rfl,_⟩;rfl
 .intro cdv A outer s H vs Q E hr h;have C5:=hu_of hr;have hu:=hr.units;refine ⟨_,QSs.out (C1 (qs_if (QW.pt (lQ (g8 (K:=K) (vi vbS)) (lP (g8 (K:=K) (D7 G_is_figure (hm hr) (qa_c (qe_ix (K:=K) (vi jA) (vi fD)) A2)))))) (C3 (D9 (D7 G_figures_at (hm hr) (qa_c (vi jA) (qa_c (vi fD) A2))))) N4)
   (C1 (F7 (n:=4) sc_part_at.nd rfl vbU (W7 (K:=K) (vi jA) (P7 (vi fD)) (P7 (qe_op (q_add (K:=K)) (vi fD) A6))))
   (C1 (qs_if (L5 (q_in (K:=K) hu) (vi vbT) (vi vbP)) (C3 (D9 (vi vbT))) N4)
   (C1 (qs_if (L5 (q_in (K:=K) hu) (qe_ix (K:=K) (vi jA) (vi fD)) (vi vbP)) (C3 (D9 (qe_ix (K:=K) (vi jA) (vi fD)))) N4)
   (C3 lR))))),?_⟩
  obtain ⟨d,z,g,pre,c,r,w,y,rfl,hd,hz,U5,hp,q⟩:=h;have hsz:z.length<=sizeLine:=T0 (by first | lia | omega);have ha:F8 z.cps.toList (pre.length:Int)=some c:=by rw [U5];exact zK
  rw [cK] at hp
  cases w with
  | false=>
   rw [Bool.false_and,if_neg K3] at hp;walk_at "rd"
   cases r with
   | nil=>
    rw [eV] at hp
    by_cases h1:one c∈g
    .rw [if_pos h1] at hp;obtain rfl:=Option.some.inj hp;rw [zJ U5];refine ⟨hsz,rInR.d (V6 (k:=Sum.inr (one c)) hd) ⟨_,rfl,?_⟩⟩;rw [eU,bT,decide_eq_true h1];exact iteT q
    .rw [if_neg h1] at hp;cases hp
   | cons e r=>
    rw [eW] at hp;have ec:cutS z (some (pre.length:Int)) (some ((pre.length:Int)+2))=V8 c e:=qO (y:=[c,e]) (rest:=r) U5;rw [ec];refine ⟨hsz,rInR.d (V6 (k:=Sum.inr (V8 c e)) hd) ⟨_,rfl,?_⟩⟩;rw [eU,bT];refine iteD (fun h=>?_) fun h=>⟨hsz,c,ha,rInR.d (V6 (k:=Sum.inr (one c)) hd) ⟨_,rfl,?_⟩⟩
    .rw [if_pos h] at hp;obtain rfl:=Option.some.inj hp;exact q
    .rw [if_neg h] at hp
     by_cases h1:one c∈g
     .rw [if_pos h1] at hp;obtain rfl:=Option.some.inj hp;rw [eU,bT,decide_eq_true h1];exact iteT ⟨hsz,c,ha,q⟩
     .rw [if_neg h1] at hp;cases hp
  | true=>
   rw [Bool.true_and] at hp;walk_at "rd";refine ⟨hsz,c,ha,c,rfl,figO c,rfl,?_⟩
   by_cases hf:figO c=true
   .rw [hf];rw [if_pos hf] at hp;obtain rfl:=Option.some.inj hp;exact iteT ⟨z,pre,c::r,rfl,hz,U5,q⟩
   rw [if_neg hf] at hp;rw [gK] at hf;rw [hf];refine iteF ?_
   cases r with
   | nil=>
    rw [eV] at hp
    by_cases h1:one c∈g
    .rw [if_pos h1] at hp;obtain rfl:=Option.some.inj hp;rw [zJ U5];refine ⟨hsz,rInR.d (V6 (k:=Sum.inr (one c)) hd) ⟨_,rfl,?_⟩⟩;rw [eU,bT,decide_eq_true h1];exact iteT q
    .rw [if_neg h1] at hp;cases hp
   | cons e r=>
    rw [eW] at hp;have ec:cutS z (some (pre.length:Int)) (some ((pre.length:Int)+2))=V8 c e:=qO (y:=[c,e]) (rest:=r) U5;rw [ec];refine ⟨hsz,rInR.d (V6 (k:=Sum.inr (V8 c e)) hd) ⟨_,rfl,?_⟩⟩;rw [eU,bT];refine iteD (fun h=>?_) fun h=>⟨hsz,c,ha,rInR.d (V6 (k:=Sum.inr (one c)) hd) ⟨_,rfl,?_⟩⟩
    .rw [if_pos h] at hp;obtain rfl:=Option.some.inj hp;exact q
    .rw [if_neg h] at hp
     by_cases h1:one c∈g
     .rw [if_pos h1] at hp;obtain rfl:=Option.some.inj hp;rw [eU,bT,decide_eq_true h1];exact iteT ⟨hsz,c,ha,q⟩
     .rw [if_neg h1] at hp;cases hp
theorem sc_cut:FnScope ["known", "text", "figures", "pieces", "parts", "at", "part"] ["known", "text", "figures"] (C6 s_cut):=G0
abbrev n_cut:List Str:=["known", "text", "figures", "pieces", "parts", "at", "part"]
theorem vbV:VS n_cut s_cut "known" 0:=vq
theorem vbW:VS n_cut s_cut "text" 1:=vq
theorem vbX:VS n_cut s_cut "figures" 2:=vq
theorem vbY:VS n_cut s_cut "pieces" 3:=vq
theorem vbZ:VS n_cut s_cut "parts" 4:=vq
theorem vb0:VS n_cut s_cut "at" 5:=vq
theorem vb1:VS n_cut s_cut "part" 6:=vq
theorem vb2:LS s_cut "pieces":=lq
theorem vb3:LS s_cut "parts":=lq
theorem vb4:LS s_cut "at":=lq
theorem vb5:LS s_cut "part":=lq
theorem ak8(F:FunD K "cut" "cut" s_cut f fd)(T:Txt P w K mg C)(G_part_at:FO P w K mg base 3 "part_at" ["known", "text", "at", "figures"] [] zS):FnOk P w K mg base E1 4 f fd ["known", "text", "figures"] (mI K):=by
 refine F.ok sc_cut ?_ ?_
 .rintro _ _ _ _ ⟨a,z,ks,w,rfl,_⟩;rfl
 .intro cdv A outer s H vs Q E hr h;have C5:=hu_of hr;have hu:=hr.units;refine ⟨_,QSs.out (C1 (F7 (n:=3) sc_cut.nd rfl vb2 (qe_cT (xB (K:=K) (calm:=true)) T.b_dict wB (qa_c (Z6  (X1:CompOk ["known", "text", "figures", "pieces", "parts", "at", "part"] (C6 s_cut).names _ ["piece"] 1 []) (P9 (K:=K) (vi vbV)) (fun _ _ _ _ _=>E2 (n:=0) (show List.Nodup (["piece"]:List Str) by decide +kernel) rfl (Or.inl rfl)) (fun _ _ _ _ _=>v4) (fun _ _ _ _ _=>(O7 (qa_c (qv 0) (qa_c qe_bl A2))))) A2)))
   (C1 (F7 (n:=4) sc_cut.nd rfl vb3 (N3 A2))
   (C1 (F7 (n:=5) sc_cut.nd rfl vb4 A6)
   (C1 (pM PassesOwn.never (L5 q_lt (vi vb0) (qe_cB (q_len (K:=K)) T.b_len eE (qa_c (vi vbW) A2))) (C1 (F7 (n:=6) sc_cut.nd rfl vb5 (D7 G_part_at (hm hr) (qa_c (vi vbY) (qa_c (vi vbW) (qa_c (vi vb0) (qa_c (vi vbX) A2))))))
   (C1 (U0 (qe_mB (K:=K) W5 q9 q5 v6 (vi vbZ) (qa_c (vi vb1) A2)))
   (C3 (wL (n:=5) sc_cut.nd rfl vb4 (qe_cB (q_len (K:=K)) T.b_len eE (qa_c (vi vb1) A2)) wP)))))
   (C3 (D9 (vi vbZ))))))),?_⟩
  obtain ⟨a,z,ks,w,rfl,hS,o3,hz,hw,q⟩:=h;walk_at "rd";refine ⟨⟨_,hS⟩,compL (xs:=ks.map V.str) [] rfl (fun D i ys H4=>∃ ts:List Addr,ys=ts.map V.ref/\Paired (fun t k=>H4 t=some (.tup [V.str k,V.bl true])) ts (ks.take i)/\Same H H4) (fun D nD=>⟨[],rfl,.nil,Same.new nD⟩) (by rintro D i ys H4 nD _ ⟨_,_,_,S⟩;exact S.seq hS) ?_ ?_⟩
  .rintro D i x ys H4 nD hi hx ⟨ts,rfl,P,S⟩ hD hy;obtain ⟨k,hk,rfl⟩:=K0 hx;rw [A8] at hi;walk_at "rd";refine ⟨by decide,fun t nt=>⟨C8 hD nt,L4 (by first | lia | omega),CW.put (by rw [A8];exact hi) hy ⟨ts++[t],by rw [E4];rfl,?_,Same.put (fun b o h=>C8 (S b o h) nt) nD⟩⟩⟩;have hDt:D≠t:=fun e=>by rw [e,nt] at hD;cases hD
   rw [b9,hk,Option.toList_some];refine Paired.snoc (R7 P fun r k h=>?_) (by rw [B3 hDt.symm,A4]);rw [B3 (fun e=>by rw [e,hD] at h;cases h)];exact C8 h nt
  rintro D ys H4 nD ⟨ts,rfl,P,S⟩ hD hy;rw [A8,L1] at P;have P2:Paired (fun t (kx:B1×V)=>C7 K H4 t [kV kx.1,kx.2]) ts (kvOf ks):=by
   clear hD hy nD S o3 hS q hw
   induction P with
   | nil=>exact .nil
   | cons h t ih=>exact .cons (.of h) ih
  refine ⟨rfl,D,ts,kvOf ks,rfl,.of hD,P2,fun d nd=>?_⟩;rw [show N6 [] (kvOf ks)=kvOf (F6 [] ks) from zL ks []];have S1:Same H (A0 H4 d (.dK (kvOf (F6 [] ks)))):=fun b o h=>C8 (S b o h) nd
  have hd:A0 H4 d (.dK (kvOf (F6 [] ks))) d=some (.dK (kvOf (F6 [] ks))):=A4;generalize A0 H4 d (.dK (kvOf (F6 [] ks)))=H5 at S1 hd;have tT:∀ l,cutF w (F6 [] ks) l=cutF w ks l:=ahP fun x=>by rw [m3];simp
  generalize F6 [] ks=g at hd tT;refine fun p np=>pO (fun m Y H6=>∃ (pre rest:List Nat) (ps:List Str) (u:Option V),Y=[some (.ref a),some (.str z),some (.bl w),some (.ref d),some (.ref p),some (.int pre.length),u]/\Same H5 H6/\H6 p=some (.lst (ps.map V.str))/\z.cps.toList=pre++rest/\(cutF w g z.cps.toList).1=pre.length+(cutF w g rest).1/\(cutF w g z.cps.toList).2=ps++(cutF w g rest).2/\ps.length<=pre.length/\m=rest.length) z.cps.toList.length
   ⟨[],z.cps.toList,[],none,rfl,Same.new np,A4,rfl,by simp,rfl,J5 _,rfl⟩ ?_
  rintro m Y H6 ⟨pre,rest,ps,u,rfl,S6,h6,U5,kJ,U9,X2,rfl⟩;have A9:z.length=pre.length+rest.length:=by
   have:=congrArg f8 U5
   simp [Str.length] at this ⊢
   lia
  walk_at "rd";refine ⟨T0 (by first | lia | omega),iteD (fun D0=>?_) fun nN=>?_⟩
  .cases rest with
   | nil=>simp at A9;lia
   | cons c r=>
    cases hy:partF w g (c::r) with
    | none=>
     exfalso
     rw [iH hy] at kJ;have tU:=hw;unfold m5 at tU;rw [<- tT,kJ] at tU;simp at A9 tU;lia
    | some y=>
     refine ⟨_,fun _ _ h=>h,d,z,g,pre,c,r,w,y,rfl,S6 _ _ hd,hz,U5,hy,?_⟩;obtain ⟨rest',e1,e2,e3⟩:=cL hy;rw [e2] at kJ U9;have el:y.cps.toList.length=y.length:=by simp [Str.length]
     have erl:(c::r).length=y.length+rest'.length:=by rw [e1,D4,el]
     refine ⟨V7 h6,appOk h6 (by rw [A8];exact L4 (by first | lia | omega)) ?_⟩;walk_at "rd";refine ⟨T0 (by first | lia | omega),rest'.length,by rw [J7] at erl;lia,pre++y.cps.toList,by rw [D4,el];lia,S6.put np,rest',ps++[y],by rw [A4,E4];rfl,U5.trans (by rw [V2];exact congrArg (pre++·) e1),by rw [D4,el,kJ];dsimp only;lia,by rw [U9,V2];rfl,by rw [D4,D4,el,b8];lia,rfl⟩
  .have hr:rest=[]:=aB.mp (by first | lia | omega);rw [hr] at kJ U9;refine q p H6 (S1.free np) (S1.trans S6) ?_;rw [h6,<- tT,U9];show some (HO.lst (ps.map V.str))=some (HO.lst ((ps++[]).map V.str));rw [L3]
theorem aea:FnScope ["self"] ["self"] (C6 cP):=G0
abbrev ae9:List Str:=["self"]
theorem vb6:VS ae9 cP "self" 0:=vq
theorem aeb(F:FunD K "known" "Order.known" cP f fd)(T:Txt P w K mg C):FnOk P w K mg base E1 1 f fd ["self"] (qQ C):=by
 refine F.ok aea ?_ ?_
 .rintro _ _ _ _ ⟨x,j,ll,ml,md,g,R,L,M,rfl,_⟩;rfl
 .intro cdv A outer s H vs Q E hr h;have C5:=hu_of hr;have hu:=hr.units;refine ⟨_,QSs.out (C3 (D9 (qe_cT (eJ (K:=K) (calm:=true)) T.b_list eF (qa_c (g9 (K:=K) (vi vb6)) A2)))),?_⟩;obtain ⟨x,j,ll,ml,md,g,R,L,M,rfl,hO,q⟩:=h;obtain ⟨dx,h1⟩:=hO.ob;walk_at "rd";refine ⟨_,_,_,h1,T.cl,T.na_jobs,_,xW _ _ _ _ _ _,?_⟩;walk_at "rd";refine rListR.d (.of hO.jobs) fun l nl=>?_
  rw [show (C2 (keysP (D1 R)++W8 R) (jobG g)).map (fun kv=>kV kv.1)=(I0 R).map V.str by unfold C2 I0;rw [q0];rfl];exact q l nl
theorem aec:FnScope ["self", "piece"] ["self", "piece"] (C6 aZ):=G0
abbrev ac0:List Str:=["self", "piece"]
theorem vb7:VS ac0 aZ "self" 0:=vq
theorem vb8:VS ac0 aZ "piece" 1:=vq
theorem aed(F:FunD K "steps" "Order.steps" aZ f fd)(T:Txt P w K mg C):FnOk P w K mg base E1 1 f fd ["self", "piece"] (mJ C):=by
 refine F.ok aec ?_ ?_
 .rintro _ _ _ _ ⟨x,j,ll,ml,md,p,g,R,L,M,rfl,_⟩;rfl
 .intro cdv A outer s H vs Q E hr h;have C5:=hu_of hr;have hu:=hr.units;refine ⟨_,QSs.out (C3 (D9 (akd C5 (g9 (K:=K) (vi vb7)) (vi vb8) (O7 A2)))),?_⟩;obtain ⟨x,j,ll,ml,md,p,g,R,L,M,rfl,hO,q⟩:=h;obtain ⟨dx,h1⟩:=hO.ob;obtain ⟨ad,a1,a2⟩:=hO.made;walk_at "rd";refine ⟨_,_,_,h1,T.cl,T.na_made,_,ajg _ _ _ _ _ _,md,rfl,.inl ⟨_,.inl a1⟩,fun e ne=>⟨_,V6 (k:=Sum.inr p) (C8 a1 ne),?_⟩⟩;rw [O8];have S:Same H (A0 H e (.tup [])):=Same.new ne
  by_cases hp:p∈F6 [] (allKs R L M)
  .rw [if_pos hp];exact q _ _ S ((a2 p hp).same S)
  .rw [if_neg hp];refine q _ _ S ⟨[],A4,?_⟩;rw [ahQ fun h=>hp ((m3 _ _ _).mpr (.inr h))];exact .nil
theorem agK:FnScope ["order", "text"] ["order", "text"] (C6 iN):=G0
abbrev aeH:List Str:=["order", "text"]
theorem vb9:VS aeH iN "order" 0:=vq
theorem vca:VS aeH iN "text" 1:=vq
theorem agL(F:FunD K "parts_of" "parts_of" iN f fd)(T:Txt P w K mg C)(G3_cut:FO P w K mg base 4 "cut" ["known", "text", "figures"] [] (mI K))(G_Order_known:MO P w K mg base 1 C "known" ["self"] (qQ C)):FnOk P w K mg base E1 5 f fd ["order", "text"] (zT C):=by
 refine F.ok agK ?_ ?_
 .rintro _ _ _ _ ⟨x,j,ll,ml,md,z,g,R,L,M,rfl,_⟩;rfl
 .intro cdv A outer s H vs Q E hr h;have C5:=hu_of hr;have hu:=hr.units;refine ⟨_,QSs.out (C3 (D9 (D7 G3_cut (hm hr) (qa_c (akq (vi vb9) G_Order_known (hm hr)) (qa_c (vi vca) (qa_c (g9 (K:=K) (vi vb9)) A2)))))),?_⟩;obtain ⟨x,j,ll,ml,md,z,g,R,L,M,rfl,hO,hk,hz,hw,q⟩:=h;obtain ⟨dx,h1⟩:=hO.ob;walk_at "rd";refine ⟨_,_,h1,xX _ _ _ _ _ _ (by decide +kernel),x,j,ll,ml,md,g,R,L,M,rfl,hO,fun l nl=>?_⟩;have S:Same H (A0 H l (.lst ((I0 R).map V.str))):=Same.new nl;exact ⟨_,_,_,S _ _ h1,T.cl,T.na_figures,_,xV _ _ _ _ _ _,l,z,I0 R,_,rfl,.of A4,hk,hz,hw,fun l2 H2 n2 S2 h2=>q l2 H2 (S.free n2) (S.trans S2) h2⟩
theorem agM:FnScope ["order", "part"] ["order", "part"] (C6 iO):=G0
abbrev aeI:List Str:=["order", "part"]
theorem vcb:VS aeI iO "order" 0:=vq
theorem rQ:VS aeI iO "part" 1:=vq
theorem agN(F:FunD K "steps_by" "steps_by" iO f fd)(T:Txt P w K mg C)(G_is_figure:FO P w K mg base 1 "is_figure" ["sign"] [] eS)(G_Order_steps:MO P w K mg base 1 C "steps" ["self", "piece"] (mJ C)):FnOk P w K mg base E1 2 f fd ["order", "part"] (zU C):=by
 refine F.ok agM ?_ ?_
 .rintro _ _ _ _ ⟨x,j,ll,ml,md,c,r,y,g,R,L,M,rfl,_⟩;rfl
 .intro cdv A outer s H vs Q E hr h;have C5:=hu_of hr;have hu:=hr.units;refine ⟨_,QSs.out (C1 (qs_if (QW.pt (lQ (g8 (K:=K) (g9 (K:=K) (vi vcb))) (lP (g8 (K:=K) (D7 G_is_figure (hm hr) (qa_c (qe_ix (K:=K) (vi rQ) A6) A2)))))) (C3 (D9 (O7 (qa_c (O7 (qa_c (aP T.g_FIGURES) (qa_c (qe_cT zF T.b_int wD (qa_c (vi rQ) A2)) (qa_c A6 A2)))) A2)))) N4)
   (C3 (D9 (amq (vi vcb) G_Order_steps (hm hr) (qa_c (vi rQ) A2))))),?_⟩
  obtain ⟨x,j,ll,ml,md,c,r,y,g,R,L,M,rfl,hy,Q4,hO,hf,q⟩:=h;obtain ⟨dx,h1⟩:=hO.ob;have tV:y.cps.toList.headD 0=c:=by rw [hy];rfl
  walk_at "rd";refine ⟨_,_,_,h1,T.cl,T.na_figures,_,xV _ _ _ _ _ _,?_⟩;walk_at "rd";have fin:stepY R L M y=stepF R L M y->∃ x_5 x_6,H x=some (HO.ins C x_5 x_6)/\aH (Str.ofString "steps") x_6=none/\mJ C [V.ref x,V.str y] H Q E0:=fun e=>⟨_,_,h1,xX _ _ _ _ _ _ (by decide +kernel),x,j,ll,ml,md,y,g,R,L,M,rfl,hO,by rw [<- e];exact q⟩
  by_cases hw:hasW R "figures"=true
  .rw [if_pos hw];refine ⟨T0 (by first | lia | omega),c,by rw [hy];exact R1 _ _,c,rfl,?_⟩
   by_cases hc:figO c=true
   .have hsy:stepY R L M y=[(1,((k7 y.cps.toList:Nat):Int),0)]:=by unfold stepY;rw [hw,tV,hc];rfl
    have hAD:=hf hw (by rw [tV];exact hc);rw [hc];walk_at "rd";refine ⟨hAD,by rw [<- lenL,hy];simp,Q4,by decide,fun p np=>⟨by decide,fun p1 N2=>?_⟩⟩;refine q p1 _ ((Same.new np).trans (Same.new N2)) ?_;rw [hsy];exact StepAt.one A4 (C8 A4 N2)
   .rw [gK] at hc;rw [hc];walk_at "rd";exact fin (by unfold stepY;rw [tV,hc,Bool.and_false,if_neg K3])
  .rw [if_neg hw];rw [gK] at hw;exact fin (by rw [akz hw])
theorem agO:FnScope ["made", "place"] ["made", "place"] (C6 iP):=G0
abbrev aeJ:List Str:=["made", "place"]
theorem rR:VS aeJ iP "made" 0:=vq
theorem vce:VS aeJ iP "place" 1:=vq
theorem agP(F:FunD K "add_mark" "add_mark" iP f fd)(T:Txt P w K mg C):FnOk P w K mg base E1 1 f fd ["made", "place"] (zV K):=by
 refine F.ok agO ?_ ?_
 .rintro _ _ _ _ ⟨l,p,H0,es,U,rfl,_⟩;rfl
 .intro cdv A outer s H vs Q E hr h;have C5:=hu_of hr;have hu:=hr.units;refine ⟨_,QSs.out (aiG (qs_if (anR (g8 (K:=K) (vi rR))) (C3 (U0 (qe_mB (K:=K) W5 q9 q5 v6 (vi rR) (qa_c (O7 (qa_c (aP T.g_MARK) (qa_c A6 (qa_c (N3 A2) (qa_c A6 A2))))) A2)))) N4)
   (C3 (U0 (qe_mB (K:=K) W5 q9 q5 v6 (qe_ix (K:=K) (qe_ix (K:=K) (vi rR) (qe_un q_neg A6)) A6) (qa_c (vi vce) A2))))),?_⟩
  obtain ⟨l,p,H0,es,U,rfl,J,hU,hM,q⟩:=h;walk_at "rd";refine mid (fun Y H1=>∃ (es':List (Addr×Addr)) (e:Addr×Addr) (U':List D8) (u:D8),Y=[some (.ref l),some (.int p)]/\UnI H0 H1 l (es'++[e]) (U'++[u])/\addM U p=U'++[(u.1,u.2.1,u.2.2.1++[p],u.2.2.2)]/\u.2.2.1.length<=10000) ?_ ?_
  .walk_at "rd";refine ⟨_,pP J.top,?_⟩
   by_cases he:es=[]
   .subst he;have hU0:=ahT J.row;subst hU0;simp only [p7,List.isEmpty_nil,Bool.not_true,Bool.not_false,if_true];refine ⟨V7 J.top,fun m nm=>⟨by decide,fun t nt=>appOk ((Same.new nm).trans (Same.new nt) _ _ J.top) (by decide) ⟨[],(t,m),[],(0,0,[],0),?_,rfl,by decide⟩⟩⟩;exact J.push nm nt
   .obtain ⟨es',e,rfl⟩:=qT he;have hUn:U≠[]:=fun h=>by subst h;have:=Paired.length J.row;simp at this
    obtain ⟨U',u,rfl⟩:=qT hUn;have N0:((es'++[e]).map fun e=>V.ref e.1).isEmpty=false:=by simp
    rw [N0];simp only [Bool.not_false,Bool.not_true,Bool.false_eq_true,if_false];refine ⟨es',e,U',u,J,?_,hM u (by simp)⟩;unfold addM;rw [List.getLast?_append,List.getLast?_singleton]
    simp
  rintro Y H1 ⟨es',e,U',u,rfl,J1,ea,hul⟩;obtain ⟨hr,hu⟩:=pK J1.row;have Q9:F8 ((es'++[e]).map fun e=>V.ref e.1) (-1)=some (V.ref e.1):=by rw [E4];exact ajK _ _
  walk_at "rd";refine ⟨_,.inl (.of J1.top),_,Q9,?_⟩;walk_at "rd";refine ⟨_,.inr (.of hu.1),V.ref e.2,O3 (j:=2) rfl,V7 hu.2,appOk hu.2 (by rw [A8];exact L4 (by first | lia | omega)) ?_⟩;refine q (es'++[e]) _ ?_;rw [ea];exact J1.mark p
theorem sc_add_part:FnScope ["order", "made", "part", "kind", "worth", "case"] ["order", "made", "part"] (C6 Z9):=G0
abbrev fE:List Str:=["order", "made", "part", "kind", "worth", "case"]
theorem vcf:VS fE Z9 "order" 0:=vq
theorem vcg:VS fE Z9 "made" 1:=vq
theorem vch:VS fE Z9 "part" 2:=vq
theorem vci:VS fE Z9 "kind" 3:=vq
theorem vcj:VS fE Z9 "worth" 4:=vq
theorem vck:VS fE Z9 "case" 5:=vq
theorem vcl:LS Z9 "kind":=lq
theorem vcm:LS Z9 "worth":=lq
theorem vcn:LS Z9 "case":=lq
theorem agQ(F:FunD K "add_part" "add_part" Z9 f fd)(T:Txt P w K mg C)(G_steps_by:FO P w K mg base 2 "steps_by" ["order", "part"] [] (zU C))(G_add_mark:FO P w K mg base 1 "add_mark" ["made", "place"] [] (zV K)):FnOk P w K mg base E1 3 f fd ["order", "made", "part"] (zW C):=by
 refine F.ok sc_add_part ?_ ?_
 .rintro _ _ _ _ ⟨x,l,j,ll,ml,md,c,r,y,g,R,L,M,H0,es,U,rfl,_⟩;rfl
 .intro cdv A outer s H vs Q E hr h;have C5:=hu_of hr;have hu:=hr.units;refine ⟨_,QSs.out (C3 (P8 PassesOwn.never (cG (K:=K) (D7 G_steps_by (hm hr) (qa_c (vi vcf) (qa_c (vi vch) A2)))) (aR (K:=K) (n:=3) (Q6 ((E2 (n:=3) sc_add_part.nd rfl vcl (.inl rfl))) (Q6 ((E2 (n:=4) sc_add_part.nd rfl vcm (.inl rfl))) (Q6 ((E2 (n:=5) sc_add_part.nd rfl vcn (.inl rfl))) aQ)))) (C3 (qs_if (L5 (q_eq (K:=K) hu) (vi vci) (aP T.g_MARK)) (C3 (U0 (D7 G_add_mark (hm hr) (qa_c (vi vcg) (qa_c (vi vcj) A2))))) (C3 (U0 (qe_mB (K:=K) W5 q9 q5 v6 (vi vcg) (qa_c (O7 (qa_c (vi vci) (qa_c (vi vcj) (qa_c (N3 A2) (qa_c (vi vck) A2))))) A2)))))))),?_⟩;obtain ⟨x,l,j,ll,ml,md,c,r,y,g,R,L,M,H0,es,U,rfl,hy,Q4,hO,hf,J,hs,hU,hM,q⟩:=h;walk_at "rd";refine ⟨x,j,ll,ml,md,c,r,y,g,R,L,M,rfl,hy,Q4,hO.same J.same,hf,fun a H1 S1 V9=>?_⟩;obtain ⟨ts,e1,e2⟩:=V9.ex;obtain ⟨H0',B0,J0,tp⟩:=(J.more S1).cut;have e1':=tp _ _ e1;have e2':=R7 e2 fun t s (e:H1 t=some (tupT s))=>(show H0' t=some (tupT s) from tp _ _ e)
  generalize stepY R L M y=ss at hs e2 e2' q;refine ⟨a,rfl,⟨_,.of e1⟩,forT (xs:=ts.map V.ref) (fun i Y H2=>∃ (u v w:Option V) (es:List (Addr×Addr)),Y=[some (.ref x),some (.ref l),some (.str y),u,v,w]/\UnI H0' H2 l es ((ss.take i).foldl addS U)) ⟨none,none,none,es,rfl,J0⟩ (by rintro i Y H2 _ ⟨_,_,_,_,_,h⟩;exact .of (h.same _ _ e1')) ?_ ?_⟩
  .rintro i v Y H2 hv ⟨u1,u2,u3,es,rfl,J2⟩;obtain ⟨t,ht,rfl⟩:=K0 hv;obtain ⟨s',nJ,hts⟩:=Paired.at e2' ht;have hi:i<ss.length:=(J8.mp nJ).1;have i8:=qR (ss.take i) U;have dE:=qS (ss.take i) U 9000 hM;rw [M5] at i8 dE;have et:(ss.take (i+1)).foldl addS U=addS ((ss.take i).foldl addS U) s':=by rw [M7 nJ,p0];rfl
   have htt:C7 K H2 t [V.int s'.1,V.int s'.2.1,V.int s'.2.2]:=.of (J2.same _ _ hts);walk_at "rd";refine ⟨_,htt,rfl,_,_,rfl,_,_,rfl,_,_,rfl,rfl,?_⟩;walk_at "rd";rw [et];generalize (ss.take i).foldl addS U=U2 at J2 i8 dE;refine iteD (fun e=>⟨l,s'.2.1,H0',es,U2,rfl,J2,by first | lia | omega,fun u hu=>by have:=dE u hu;lia,fun es' H3 J3=>?_⟩) fun e=>⟨V7 J2.top,fun m nm=>⟨by decide,fun t2 nt2=>appOk ((Same.new nm).trans (Same.new nt2) _ _ J2.top) (by rw [A8,Paired.length J2.row];exact L4 (by first | lia | omega)) ?_⟩⟩
   .unfold addS;rw [if_pos e];exact ⟨es',J3⟩
   .unfold addS;rw [if_neg e];exact ⟨_,J2.push nm nt2⟩
  rintro Y H2 ⟨u1,u2,u3,es,rfl,J2⟩;rw [A8,Paired.length e2,L1] at J2;exact q es H2 (J2.base B0)
theorem sc_units:FnScope ["order", "text", "made", "part"] ["order", "text"] (C6 m8):=G0
abbrev mV:List Str:=["order", "text", "made", "part"]
theorem vco:VS mV m8 "order" 0:=vq
theorem vcp:VS mV m8 "text" 1:=vq
theorem vcq:VS mV m8 "made" 2:=vq
theorem vcr:VS mV m8 "part" 3:=vq
theorem vcs:LS m8 "made":=lq
theorem vct:LS m8 "part":=lq
theorem akD(F:FunD K "units" "units" m8 f fd)(T:Txt P w K mg C)(G_parts_of:FO P w K mg base 5 "parts_of" ["order", "text"] [] (zT C))(G_add_part:FO P w K mg base 3 "add_part" ["order", "made", "part"] [] (zW C)):FnOk P w K mg base E1 6 f fd ["order", "text"] (zX C):=by
 refine F.ok sc_units ?_ ?_
 .rintro _ _ _ _ ⟨x,j,ll,ml,md,z,g,R,L,M,rfl,_⟩;rfl
 .intro cdv A outer s H vs Q E hr h;have C5:=hu_of hr;have hu:=hr.units;refine ⟨_,QSs.out (C1 (F7 (n:=2) sc_units.nd rfl vcs (N3 A2))
   (C1 (P8 PassesOwn.never (P9 (K:=K) (D7 G_parts_of (hm hr) (qa_c (vi vco) (qa_c (vi vcp) A2)))) (E2 (n:=3) sc_units.nd rfl vct (.inl rfl)) (C3 (U0 (D7 G_add_part (hm hr) (qa_c (vi vco) (qa_c (vi vcq) (qa_c (vi vcr) A2)))))))
   (C3 (D9 (Z6  (X1:CompOk ["order", "text", "made", "part"] (C6 m8).names _ ["kind", "worth", "marks", "case"] 4 []) (P9 (K:=K) (vi vcq)) (fun _ _ _ _ _=>(aR (K:=K) (n:=4) (Q6 (E2 (n:=0) (show List.Nodup (["kind", "worth", "marks", "case"]:List Str) by decide +kernel) rfl (Or.inl rfl)) (Q6 (E2 (n:=1) (show List.Nodup (["kind", "worth", "marks", "case"]:List Str) by decide +kernel) rfl (Or.inl rfl)) (Q6 (E2 (n:=2) (show List.Nodup (["kind", "worth", "marks", "case"]:List Str) by decide +kernel) rfl (Or.inl rfl)) (Q6 (E2 (n:=3) (show List.Nodup (["kind", "worth", "marks", "case"]:List Str) by decide +kernel) rfl (Or.inl rfl)) aQ)))))) (fun _ _ _ _ _=>v4) (fun _ _ _ _ _=>(O7 (qa_c (qv 0) (qa_c (qv 1) (qa_c (qe_cT (wU (K:=K)) T.b_tuple wA (qa_c (qv 2) A2)) (qa_c (qv 3) A2))))))))))),?_⟩
  obtain ⟨x,j,ll,ml,md,z,g,R,L,M,rfl,hO,hk,hz,hw,hs,q⟩:=h;have hf:=ahk (w:=hasW R "figures") (g:=I0 R) _ z.cps.toList (C4 _);have N0:=zY (w:=hasW R "figures") (g:=I0 R) _ z.cps.toList (C4 _);have nW:=(qP (w:=hasW R "figures") (g:=I0 R) _ z.cps.toList (C4 _)).2.1;rw [lenL] at nW;have k0:=zZ (w:=hasW R "figures") (g:=I0 R) _ z.cps.toList (C4 _);rw [lenL] at k0;walk_at "rd";intro l nl;have S1:Same H (A0 H l (.lst [])):=Same.new nl;have fN:A0 H l (.lst []) l=some (.lst []):=A4;generalize A0 H l (.lst [])=H1 at S1 fN;refine ⟨x,j,ll,ml,md,z,g,R,L,M,rfl,hO.same S1,hk,by first | lia | omega,hw,fun a H2 na S2 ha=>?_⟩;generalize (cutF (hasW R "figures") (I0 R) z.cps.toList).2=ps at ha hf N0 nW k0 q;have nal:a≠l:=fun e=>by rw [e,fN] at na;cases na
  have C0:UnI (cutH H2 [l]) H2 l [] []:=⟨S2 _ _ fN,.nil,by simp,fun b hb=>by unfold cutH;exact if_pos (by simpa using hb),mK _ _⟩
  have S0:Same H (cutH H2 [l]):=fun b o hb=>by
   unfold cutH;rw [if_neg (fun e=>by rw [M4.mp e,nl] at hb;cases hb)];exact S2 _ _ (S1 _ _ hb)
  have ha0:cutH H2 [l] a=some (.lst (ps.map V.str)):=by
   unfold cutH;rw [if_neg (fun e=>nal (M4.mp e))];exact ha
  have hO0:=hO.same S0;generalize cutH H2 [l]=H0 at C0 S0 ha0 hO0;refine ⟨a,rfl,⟨_,.of ha⟩,forL (xs:=ps.map V.str) (fun i Y H3=>∃ (u:Option V) (es:List (Addr×Addr)),Y=[some (.ref x),some (.str z),some (.ref l),u]/\UnI H0 H3 l es (Q2 (stepY R L M) (ps.take i))) ⟨none,[],rfl,C0⟩ (by rintro i Y H3 _ ⟨_,_,_,h⟩;exact .of (h.same _ _ ha0)) ?_ ?_⟩
  .rintro i v Y H3 hv ⟨u,es,rfl,J⟩;obtain ⟨y,hy,rfl⟩:=K0 hv;have hi:i<ps.length:=(J8.mp hy).1;have tW:=O1 hy;obtain ⟨C5,x8⟩:=qV (S:=stepY R L M) hs (ps.take i);rw [M5] at C5 x8;obtain ⟨c,r,hcr⟩:∃ c r,y.cps.toList=c::r:=by
    have:=N0 y tW
    rw [<- lenL] at this;cases e:y.cps.toList with
    | nil=>rw [e] at this;simp at this
    | cons c r=>exact ⟨c,r,rfl⟩
   have Q4:y.length<=640:=by have:=k0 y tW;lia
   walk_at "rd";refine ⟨x,l,j,ll,ml,md,c,r,y,g,R,L,M,H0,es,_,rfl,hcr,Q4,hO0,hf y tW,J,by have:=hs y;lia,by first | lia | omega,fun v hv=>by have:=x8 v hv;lia,fun es' H4 J4=>?_⟩;rw [<- agy hy] at J4;exact ⟨es',J4⟩
  rintro Y H3 ⟨u,es,rfl,J⟩;rw [A8,L1] at J;obtain ⟨C5,x8⟩:=qV (S:=stepY R L M) hs ps;have bI:=Paired.length J.row;generalize Q2 (stepY R L M) ps=U at J C5 x8 bI q;walk_at "rd";refine ⟨⟨_,.of J.top⟩,aok (xs:=es.map fun e=>V.ref e.1) [] rfl (fun D i ys H4=>∃ fs:List (Addr×Addr),ys=fs.map (fun e=>V.ref e.1)/\Same H3 H4/\Paired (fun e (u:D8)=>H4 e.1=some (.tup [.int u.1,.int u.2.1,.ref e.2,.int u.2.2.2])/\H4 e.2=some (.tup (u.2.2.1.map V.int))) fs (U.take i)) (fun D nD=>⟨[],rfl,Same.new nD,.nil⟩) (by rintro D i ys H4 nD _ ⟨_,_,S,_⟩;exact .of (S _ _ J.top)) ?_ ?_⟩
  .rintro D i v ys H4 nD hi hv ⟨fs,rfl,S4,P⟩ hD Q4;obtain ⟨e,he,rfl⟩:=K0 hv;obtain ⟨w,hw,z0⟩:=Paired.at J.row he;have j5:fs.length<=7500:=by
    have:=Paired.length P
    rw [M5] at this;lia
   refine ⟨e.1,_,_,_,_,rfl,.of (S4 _ _ z0.1),?_⟩;walk_at "rd";refine rTupR.l (.of (S4 _ _ z0.2)) fun m nm=>⟨by decide,fun t nt=>?_⟩
   have S5:Same H4 (A0 (A0 H4 m (.tup (w.2.2.1.map V.int))) t (.tup [V.int w.1,V.int w.2.1,V.ref m,V.int w.2.2.2])):=(Same.new nm).trans (Same.new nt);have tX:A0 (A0 H4 m (.tup (w.2.2.1.map V.int))) t (.tup [V.int w.1,V.int w.2.1,V.ref m,V.int w.2.2.2]) m=some (.tup (w.2.2.1.map V.int)):=C8 A4 nt;have tY:A0 (A0 H4 m (.tup (w.2.2.1.map V.int))) t (.tup [V.int w.1,V.int w.2.1,V.ref m,V.int w.2.2.2]) t=some (.tup [V.int w.1,V.int w.2.1,V.ref m,V.int w.2.2.2]):=A4;generalize A0 (A0 H4 m (.tup (w.2.2.1.map V.int))) t (.tup [V.int w.1,V.int w.2.1,V.ref m,V.int w.2.2.2])=H5 at S5 tX tY;have hD5:=S5 _ _ hD;have dn:∀ {b:Addr} {xs:List V},H5 b=some (.tup xs)->b≠D:=fun h q=>by rw [q,hD5] at h;cases h
   refine ⟨hD5,by rw [A8];exact L4 (by first | lia | omega),hi,by rw [D4,b8];lia,⟨_,_,_,_,rfl⟩,fs++[(t,m)],by rw [E4];rfl,(S4.trans S5).put nD,?_⟩;rw [M7 hw];refine Paired.snoc (R7 P fun f w h=>⟨?_,?_⟩) ⟨?_,?_⟩
   .rw [B3 (dn (S5 _ _ h.1))];exact S5 _ _ h.1
   .rw [B3 (dn (S5 _ _ h.2))];exact S5 _ _ h.2
   .rw [B3 (dn tY)];exact tY
   .rw [B3 (dn tX)];exact tX
  rintro D ys H4 nD ⟨fs,rfl,S4,P⟩ hD Q4;rw [A8,bI,L1] at P;have SS:Same H H3:=S0.trans J.same;exact q D H4 (SS.free nD) (SS.trans S4) ⟨fs,hD,P⟩
theorem adn:FnScope ["kind", "worth"] ["kind", "worth"] (C6 iQ):=G0
abbrev acu:List Str:=["kind", "worth"]
theorem vcu:VS acu iQ "kind" 0:=vq
theorem vcv:VS acu iQ "worth" 1:=vq
theorem ado(F:FunD K "first_numbers" "first_numbers" iQ f fd)(T:Txt P w K mg C):FnOk P w K mg base E1 1 f fd ["kind", "worth"] ahl:=by
 refine F.ok adn ?_ ?_
 .rintro _ _ _ _ ⟨k,w,rfl,_⟩;rfl
 .intro cdv A outer s H vs Q E hr h;have C5:=hu_of hr;have hu:=hr.units;refine ⟨_,QSs.out (C1 (qs_if (L5 (q_eq (K:=K) hu) (vi vcu) (aP T.g_MARK)) (C3 (D9 (N3 (qa_c A6 A2)))) N4)
   (C1 (qs_if (L5 (q_eq (K:=K) hu) (vi vcu) (aP T.g_FIGURES)) (C3 (D9 (N3 (qa_c A6 (qa_c (qe_op (q_add (K:=K)) (vi vcv) A6) A2))))) N4)
   (C3 (D9 (N3 (qa_c (qe_op (q_add (K:=K)) (vi vcv) A6) A2)))))),?_⟩
  obtain ⟨k,w,rfl,q⟩:=h;unfold W9 at q;walk_at "rd";refine iteD (fun h0=>?_) fun h0=>iteD (fun h1=>?_) fun h1=>?_
  .rw [if_pos h0] at q;exact ⟨by decide,q⟩
  .rw [if_neg h0,if_pos h1] at q;exact ⟨by decide,q⟩
  .rw [if_neg h0,if_neg h1] at q;exact ⟨by decide,q⟩
theorem sc_first_level:FnScope ["made", "level", "unit"] ["made"] (C6 bA):=G0
abbrev rS:List Str:=["made", "level", "unit"]
theorem vcw:VS rS bA "made" 0:=vq
theorem vcx:VS rS bA "level" 1:=vq
theorem vcy:VS rS bA "unit" 2:=vq
theorem vcz:LS bA "level":=lq
theorem vcA:LS bA "unit":=lq
theorem aee(F:FunD K "first_level" "first_level" bA f fd)(T:Txt P w K mg C)(G_first_numbers:FO P w K mg base 1 "first_numbers" ["kind", "worth"] [] ahl):FnOk P w K mg base E1 2 f fd ["made"] ahm:=by
 refine F.ok sc_first_level ?_ ?_
 .rintro _ _ _ _ ⟨a,U,rfl,_⟩;rfl
 .intro cdv A outer s H vs Q E hr h;have C5:=hu_of hr;have hu:=hr.units;refine ⟨_,QSs.out (C1 (F7 (n:=1) sc_first_level.nd rfl vcz (N3 A2))
   (C1 (P8 PassesOwn.never (P9 (K:=K) (vi vcw)) (E2 (n:=2) sc_first_level.nd rfl vcA (.inl rfl)) (C3 (U0 (qe_mB (K:=K) W5 kQ kP pN (vi vcx) (qa_c (D7 G_first_numbers (hm hr) (qa_c (qe_ix (K:=K) (vi vcy) A6) (qa_c (qe_ix (K:=K) (vi vcy) A6) A2))) A2)))))
   (C3 (D9 (vi vcx))))),?_⟩
  obtain ⟨a,U,rfl,⟨es,e1,e2⟩,hl,q⟩:=h;walk_at "rd";intro p np;have S1:Same H (A0 H p (.lst [])):=Same.new np;refine ⟨⟨_,.of (S1 _ _ e1)⟩,forL (xs:=es.map fun e=>V.ref e.1) (fun i Y H2=>∃ (u:Option V),Y=[some (.ref a),some (.ref p),u]/\Same H H2/\H2 p=some (.lst ((O0 (U.take i)).map V.int))) ⟨none,rfl,S1,A4⟩ (by rintro i Y H2 _ ⟨_,_,S,_⟩;exact .of (S _ _ e1)) ?_ ?_⟩
  .rintro i x Y H2 hx ⟨u,rfl,S2,h2⟩;obtain ⟨e,he,rfl⟩:=K0 (f:=fun e:Addr×Addr=>V.ref e.1) hx;obtain ⟨w,hw,z0⟩:=Paired.at e2 he;have t1:=S2 _ _ z0.1;have hi:i<U.length:=(J8.mp hw).1;have j5:=qW (U.take i);have o3:=aeC w.1 w.2.1;rw [M5] at j5;walk_at "rd";refine ⟨V7 h2,_,.inr (.of t1),_,O3 (j:=0) rfl,_,.inr (.of t1),_,O3 (j:=1) rfl,_,_,rfl,fun l nl=>?_⟩;have S3:Same H2 (A0 H2 l (.lst ((W9 w.1 w.2.1).map V.int))):=Same.new nl;have nX:A0 H2 l (.lst ((W9 w.1 w.2.1).map V.int)) l=some (.lst ((W9 w.1 w.2.1).map V.int)):=A4;generalize A0 H2 l (.lst ((W9 w.1 w.2.1).map V.int))=H3 at S3 nX;refine ⟨p,l,_,_,rfl,rfl,S3 _ _ h2,nX,by rw [A8,A8];have:=L4 (n:=(O0 (U.take i)).length+(W9 w.1 w.2.1).length) (by first | lia | omega);lia,(S2.trans S3).put np,?_⟩;rw [A4,agz hw,E4]
  rintro Y H2 ⟨u,rfl,S2,h2⟩;rw [A8,Paired.length e2,L1] at h2;walk_at "rd";exact q p H2 np S2 h2
theorem sc_second_level:FnScope ["made", "behind", "level", "unit"] ["made", "behind"] (C6 m9):=G0
abbrev mW:List Str:=["made", "behind", "level", "unit"]
theorem vcB:VS mW m9 "made" 0:=vq
theorem vcC:VS mW m9 "behind" 1:=vq
theorem rT:VS mW m9 "level" 2:=vq
theorem vcE:VS mW m9 "unit" 3:=vq
theorem vcF:LS m9 "level":=lq
theorem vcG:LS m9 "unit":=lq
theorem adZ(F:FunD K "second_level" "second_level" m9 f fd)(T:Txt P w K mg C):FnOk P w K mg base E1 1 f fd ["made", "behind"] af0:=by
 refine F.ok sc_second_level ?_ ?_
 .rintro _ _ _ _ ⟨a,b,U,rfl,_⟩;rfl
 .intro cdv A outer s H vs Q E hr h;have C5:=hu_of hr;have hu:=hr.units;refine ⟨_,QSs.out (C1 (F7 (n:=2) sc_second_level.nd rfl vcF (N3 A2))
   (C1 (P8 PassesOwn.never (P9 (K:=K) (wJ (g8 (K:=K) (vi vcC)) (aom (K:=K) (vi vcB) (P7 (qe_un q_neg A6))) (vi vcB))) (E2 (n:=3) sc_second_level.nd rfl vcG (.inl rfl)) (C1 (U0 (qe_mB (K:=K) W5 kQ kP pN (vi rT) (qa_c (Z6  (X1:CompOk ["made", "behind", "level", "unit"] (C6 m9).names _ ["place"] 1 []) (cG (K:=K) (qe_ix (K:=K) (vi vcE) A6)) (fun _ _ _ _ _=>E2 (n:=0) (show List.Nodup (["place"]:List Str) by decide +kernel) rfl (Or.inl rfl)) (fun _ _ _ _ _=>v4) (fun _ _ _ _ _=>(qe_op (q_add (K:=K)) (qv 0) A6))) A2)))
   (C3 (U0 (qe_mB (K:=K) W5 q9 q5 v6 (vi rT) (qa_c A6 A2))))))
   (C3 (D9 (vi rT))))),?_⟩
  obtain ⟨a,b,U,rfl,⟨es,e1,e2⟩,hl,hm,hs,q⟩:=h;walk_at "rd";intro p np;have S1:Same H (A0 H p (.lst [])):=Same.new np;have y3:A0 H p (.lst []) p=some (.lst []):=A4;generalize A0 H p (.lst [])=H1 at S1 y3;have go:∀ (l0:Addr) (fs:List (Addr×Addr)) (V':List D8) (H2:Hp),Same H1 H2->H2 l0=some (.lst (fs.map fun e=>V.ref e.1))->l0≠p->Paired (fun e (u:D8)=>H e.1=some (.tup [.int u.1,.int u.2.1,.ref e.2,.int u.2.2.2])/\H e.2=some (.tup (u.2.2.1.map V.int))) fs V'->V'.length<=10000->(∀ u∈V',u.2.2.1.length<=10000)->O9 V'<=100000->(∀ H',Same H H'->H' p=some (.lst ((Q3 V').map V.int))->Q (.ref p) H')->
    ForIt (k8 K l0) (gName 3) (tSeq (tDrop (dX K "list" oV (tVar 2) (tCons (tComp (iTup K (g6 (bY K) (tVar 3) (tC (V.int 2)))) 1 [] (gName 0) tYes (g6 (rAddU K) (tVar 0) (tC (V.int 2)))) tNil))) (tDrop (dX K "list" lE (tVar 2) (tCons (tC (V.int 1)) tNil)))) { nx:=tRet (tVar 2) { nx:=fun x H'=>Q V.non H',rt:=Q },rt:=Q } [some (V.ref a),some (V.bl b),some (V.ref p),none] H2:=by
   intro l0 fs V' H2 S2 jL nl0 hP hV hVm hVn q;have fJ:=S2 _ _ y3;have SB:Same H (cutH H2 [p]):=fun c o hc=>by
    unfold cutH;rw [if_neg (fun e=>by rw [M4.mp e,np] at hc;cases hc)];exact S2 _ _ (S1 _ _ hc)
   have hlB:cutH H2 [p] l0=some (.lst (fs.map fun e=>V.ref e.1)):=by
    unfold cutH;rw [if_neg (fun e=>nl0 (M4.mp e))];exact jL
   have nB:cutH H2 [p] p=none:=by unfold cutH;exact if_pos (by simp)
   have hB2:=mK H2 [p];generalize cutH H2 [p]=B at SB hlB nB hB2;refine forL (xs:=fs.map fun e=>V.ref e.1) (fun i Y H3=>∃ (v:Option V),Y=[some (.ref a),some (.bl b),some (.ref p),v]/\Same B H3/\H3 p=some (.lst ((Q3 (V'.take i)).map V.int))) ⟨none,rfl,hB2,fJ⟩ (by rintro i Y H3 _ ⟨_,_,S,_⟩;exact .of (S _ _ hlB)) ?_ ?_
   .rintro i x Y H3 hx ⟨v,rfl,S3,h3⟩;obtain ⟨e,he,rfl⟩:=K0 (f:=fun e:Addr×Addr=>V.ref e.1) hx;obtain ⟨u,hu,z0⟩:=Paired.at hP he;have hum:=hVm u (O1 hu);have t1:=S3 _ _ (SB _ _ z0.1);have t2:=S3 _ _ (SB _ _ z0.2);have ea:Q3 (V'.take (i+1))=Q3 (V'.take i)++(u.2.2.1.map fun p=>p+2)++[1]:=by
     unfold Q3;rw [M7 hu,V0,V2]
     simp
    have x4:(Q3 (V'.take i)).length<=110000:=by
     rw [adT,M5]
     have:O9 (V'.take i)<=O9 V':=by
      have e2:O9 V'=O9 (V'.take i)+O9 (V'.drop i):=by
       unfold O9;rw [<- List.sum_append,<- E4,o9]
      lia
     lia
    generalize Q3 (V'.take i)=acc at h3 ea x4;walk_at "rd";refine ⟨V7 h3,_,.inr (.of t1),_,O3 (j:=2) rfl,e.2,rfl,⟨_,.of t2⟩,compT (xs:=u.2.2.1.map V.int) [] rfl (fun D k ys H4=>Same H3 H4/\ys=((u.2.2.1.take k).map fun p=>p+2).map V.int) (fun D nD=>⟨Same.new nD,rfl⟩) (by rintro D k ys H4 nD _ ⟨S,_⟩;exact .of (S _ _ t2)) ?_ ?_⟩
    .rintro D k y ys H4 nD hk hy ⟨S4,rfl⟩ hD Q4;obtain ⟨m,dE,rfl⟩:=K0 hy;walk_at "rd";refine ⟨hD,by simp only [A8,M5];exact L4 (by first | lia | omega),CW.put hk Q4 ⟨S4.put nD,?_⟩⟩;rw [M7 dE,E4,E4];rfl
    rintro D ys H4 nD ⟨S4,rfl⟩ hD _;rw [A8,L1] at hD;refine ⟨p,D,_,_,rfl,rfl,S4 _ _ h3,hD,by simp only [A8];have:=L4 (n:=acc.length+u.2.2.1.length) (by first | lia | omega);lia,?_⟩;have h5:A0 H4 p (.lst (acc.map V.int++(u.2.2.1.map fun p=>p+2).map V.int)) p=some (.lst (acc.map V.int++(u.2.2.1.map fun p=>p+2).map V.int)):=A4;have S5:Same B (A0 H4 p (.lst (acc.map V.int++(u.2.2.1.map fun p=>p+2).map V.int))):=(S3.trans S4).put nB;generalize A0 H4 p (.lst (acc.map V.int++(u.2.2.1.map fun p=>p+2).map V.int))=H5 at h5 S5;walk_at "rd";refine ⟨V7 h5,appOk h5 (by simp only [D4,A8];exact L4 (by first | lia | omega)) ⟨S5.put nB,?_⟩⟩;rw [A4,ea,E4,E4];rfl
   rintro Y H3 ⟨v,rfl,S3,h3⟩;rw [A8,Paired.length hP,L1] at h3;walk_at "rd";exact q H3 (SB.trans S3) h3
  by_cases hb:b=true
  .rw [if_pos hb] at q ⊢
   refine ⟨_,.of (S1 _ _ e1),fun p1 N2=>?_⟩;refine ⟨⟨_,.of A4⟩,go p1 es.reverse U.reverse _ (Same.new N2) (by rw [A4,List.map_reverse]) (fun e=>by rw [e,y3] at N2;cases N2) (aeE e2) (by rw [List.length_reverse];exact hl) (fun u hu=>hm u (List.mem_reverse.mp hu)) (by rw [aeD];exact hs) fun H' S h=>q p H' np S h⟩
  .rw [if_neg hb] at q ⊢
   exact ⟨⟨_,.of (S1 _ _ e1)⟩,go a es U _ (lF _) (S1 _ _ e1) (fun e=>by rw [e,np] at e1;cases e1) e2 hl hm hs fun H' S h=>q p H' np S h⟩
theorem aef:FnScope ["made"] ["made"] (C6 iR):=G0
abbrev afb:List Str:=["made"]
theorem vcH:VS afb iR "made" 0:=vq
theorem aeg(F:FunD K "third_level" "third_level" iR f fd)(T:Txt P w K mg C):FnOk P w K mg base E1 1 f fd ["made"] ahn:=by
 refine F.ok aef ?_ ?_
 .rintro _ _ _ _ ⟨a,U,rfl,_⟩;rfl
 .intro cdv A outer s H vs Q E hr h;have C5:=hu_of hr;have hu:=hr.units;refine ⟨_,QSs.out (C3 (D9 (Z6  (X1:CompOk ["made"] (C6 iR).names _ ["unit"] 1 []) (P9 (K:=K) (vi vcH)) (fun _ _ _ _ _=>E2 (n:=0) (show List.Nodup (["unit"]:List Str) by decide +kernel) rfl (Or.inl rfl)) (fun _ _ _ _ _=>v4) (fun _ _ _ _ _=>(qe_op (q_add (K:=K)) (qe_ix (K:=K) (qv 0) A6) A6))))),?_⟩;obtain ⟨a,U,rfl,⟨es,e1,e2⟩,hl,q⟩:=h;walk_at "rd";refine ⟨⟨_,.of e1⟩,compL (xs:=es.map fun e=>V.ref e.1) [] rfl (fun D i ys H2=>Same H H2/\ys=((U.take i).map fun u=>u.2.2.2+1).map V.int) (fun D nD=>⟨Same.new nD,rfl⟩) (by rintro D i ys H2 nD _ ⟨S,_⟩;exact .of (S _ _ e1)) ?_ ?_⟩
  .rintro D i x ys H2 nD hi hx ⟨S2,rfl⟩ hD Q4;obtain ⟨e,he,rfl⟩:=K0 (f:=fun e:Addr×Addr=>V.ref e.1) hx;obtain ⟨w,hw,z0⟩:=Paired.at e2 he;have hil:i<U.length:=(J8.mp hw).1;walk_at "rd";refine ⟨_,.inr (.of (S2 _ _ z0.1)),V.int w.2.2.2,O3 (j:=3) rfl,?_⟩;walk_at "rd";refine ⟨hD,by simp only [A8,M5];exact L4 (by first | lia | omega),CW.put hi Q4 ⟨S2.put nD,?_⟩⟩;rw [M7 hw,E4,E4];rfl
  rintro D ys H2 nD ⟨S2,rfl⟩ hD _;rw [A8,Paired.length e2,L1] at hD;exact q D H2 nD S2 hD
theorem ad0:FnScope ["text"] ["text"] (C6 iS):=G0
abbrev aeh:List Str:=["text"]
theorem vcI:VS aeh iS "text" 0:=vq
theorem ad1(F:FunD K "fourth_level" "fourth_level" iS f fd)(T:Txt P w K mg C):FnOk P w K mg base E1 1 f fd ["text"] afY:=by
 refine F.ok ad0 ?_ ?_
 .rintro _ _ _ _ ⟨z,rfl,_⟩;rfl
 .intro cdv A outer s H vs Q E hr h;have C5:=hu_of hr;have hu:=hr.units;refine ⟨_,QSs.out (C3 (D9 (Z6  (X1:CompOk ["text"] (C6 iS).names _ ["sign"] 1 []) (wM (vi vcI)) (fun _ _ _ _ _=>E2 (n:=0) (show List.Nodup (["sign"]:List Str) by decide +kernel) rfl (Or.inl rfl)) (fun _ _ _ _ _=>v4) (fun _ _ _ _ _=>(qe_cB q_ord T.b_ord anO (qa_c (qv 0) A2)))))),?_⟩;obtain ⟨z,rfl,hz,q⟩:=h;walk_at "rd";refine compS [] rfl (fun D i ys H2=>Same H H2/\ys=((z.cps.toList.take i).map fun c:Nat=>(c:Int)).map V.int) (fun D nD=>⟨Same.new nD,rfl⟩) ?_ ?_
  .rintro D i x ys H2 nD hi hx ⟨S2,rfl⟩ hD Q4;have hsz:z.cps.size=z.length:=rfl;walk_at "rd";refine ⟨rfl,hD,by simp only [A8,M5];exact L4 (by first | lia | omega),CW.put hi Q4 ⟨S2.put nD,?_⟩⟩;rw [M7 hx,E4,E4];rfl
  .rintro D ys H2 nD ⟨S2,rfl⟩ hD _;rw [show z.cps.size=z.cps.toList.length by simp,L1] at hD;exact q D H2 nD S2 hD
theorem sc_key:FnScope ["order", "text", "strength", "made", "levels", "numbers", "level"] ["order", "text", "strength"] (C6 s_key):=G0
abbrev n_key:List Str:=["order", "text", "strength", "made", "levels", "numbers", "level"]
theorem vcJ:VS n_key s_key "order" 0:=vq
theorem vcK:VS n_key s_key "text" 1:=vq
theorem vcL:VS n_key s_key "strength" 2:=vq
theorem rV:VS n_key s_key "made" 3:=vq
theorem vcN:VS n_key s_key "levels" 4:=vq
theorem rW:VS n_key s_key "numbers" 5:=vq
theorem vcP:VS n_key s_key "level" 6:=vq
theorem vcQ:LS s_key "made":=lq
theorem vcR:LS s_key "levels":=lq
theorem vcS:LS s_key "numbers":=lq
theorem vcT:LS s_key "level":=lq
theorem ak9(F:FunD K "key" "key" s_key f fd)(T:Txt P w K mg C)(G_units:FO P w K mg base 6 "units" ["order", "text"] [] (zX C))(G_first_level:FO P w K mg base 2 "first_level" ["made"] [] ahm)(G_second_level:FO P w K mg base 1 "second_level" ["made", "behind"] [] af0)(G_third_level:FO P w K mg base 1 "third_level" ["made"] [] ahn)(G_fourth_level:FO P w K mg base 1 "fourth_level" ["text"] [] afY):FnOk P w K mg base E1 7 f fd ["order", "text", "strength"] (spKey C):=by
 refine F.ok sc_key ?_ ?_
 .rintro _ _ _ _ ⟨x,j,ll,ml,md,z,n,g,R,L,M,rfl,_⟩;rfl
 .intro cdv A outer s H vs Q E hr h;have C5:=hu_of hr;have hu:=hr.units;refine ⟨_,QSs.out (C1 (F7 (n:=3) sc_key.nd rfl vcQ (D7 G_units (hm hr) (qa_c (vi vcJ) (qa_c (vi vcK) A2))))
   (C1 (F7 (n:=4) sc_key.nd rfl vcR (N3 (qa_c (D7 G_first_level (hm hr) (qa_c (vi rV) A2)) (qa_c (D7 G_second_level (hm hr) (qa_c (vi rV) (qa_c (g9 (K:=K) (vi vcJ)) A2))) (qa_c (D7 G_third_level (hm hr) (qa_c (vi rV) A2)) (qa_c (D7 G_fourth_level (hm hr) (qa_c (vi vcK) A2)) A2))))))
   (C1 (F7 (n:=5) sc_key.nd rfl vcS (N3 A2))
   (C1 (P8 PassesOwn.never (P9 (K:=K) (W7 (K:=K) (vi vcN) u8 (P7 (vi vcL)))) (E2 (n:=6) sc_key.nd rfl vcT (.inl rfl)) (C1 (U0 (qe_mB (K:=K) W5 kQ kP pN (vi rW) (qa_c (vi vcP) A2)))
   (C3 (U0 (qe_mB (K:=K) W5 q9 q5 v6 (vi rW) (qa_c A6 A2))))))
   (C3 (D9 (vi rW))))))),?_⟩
  obtain ⟨x,j,ll,ml,md,z,n,g,R,L,M,rfl,hn,hO,hk,hz,hw,hs,q⟩:=h;have hp:=(qP (w:=hasW R "figures") (g:=I0 R) _ z.cps.toList (C4 _)).2.1;rw [lenL] at hp;obtain ⟨C5,x8⟩:=qV hs (cutF (hasW R "figures") (I0 R) z.cps.toList).2;have hu3:=afZ hs (cutF (hasW R "figures") (I0 R) z.cps.toList).2;walk_at "rd";refine ⟨x,j,ll,ml,md,z,g,R,L,M,rfl,hO,hk,hz,hw,hs,fun u H1 nu S1 hU=>?_⟩;generalize Q2 (stepY R L M) (cutF (hasW R "figures") (I0 R) z.cps.toList).2=U at C5 x8 hu3 hU q;refine ⟨u,U,rfl,hU,by first | lia | omega,fun a1 H2 n1 S2 h1=>?_⟩;obtain ⟨dx,ho⟩:=hO.ob;refine ⟨_,_,_,S2 _ _ (S1 _ _ ho),T.cl,T.na_behind,_,agr _ _ _ _ _ _,?_⟩;refine ⟨u,_,U,rfl,hU.same S2,by first | lia | omega,fun v hv=>by have:=x8 v hv;lia,by first | lia | omega,fun a2 H3 n2 S3 h2=>?_⟩;refine ⟨u,U,rfl,hU.same (S2.trans S3),by first | lia | omega,fun a3 H4 n3 S4 h3=>?_⟩;refine ⟨z,rfl,by first | lia | omega,fun a4 H5 n4 S5 h4=>?_⟩;refine ⟨by decide,fun p np p1 N2=>?_⟩;have hLS:∀ l∈iI (hasW R "behind") U z,l.length<=20000:=fun l hl=>by
   unfold iI at hl;simp only [E7,e8,or_false] at hl
   rcases hl with rfl | rfl | rfl | rfl
   .have:=qW U;lia
   .rw [adT]
    by_cases hb:hasW R "behind"=true
    .rw [if_pos hb,aeD,List.length_reverse];lia
    .rw [if_neg hb];lia
   .rw [A8];lia
   .rw [A8,lenL];lia
  have hP:Paired (fun a (l:List Int)=>H5 a=some (.lst (l.map V.int))) [a1,a2,a3,a4] (iI (hasW R "behind") U z):=.cons ((S3.trans (S4.trans S5)) _ _ h1) (.cons ((S4.trans S5) _ _ h2) (.cons (S5 _ _ h3) (.cons h4 .nil)));unfold keyF at q;have S15:=S1.trans (S2.trans (S3.trans (S4.trans S5)));generalize iI (hasW R "behind") U z=LS at hLS hP q;have S6:Same H5 (A0 H5 p (.lst [V.ref a1,V.ref a2,V.ref a3,V.ref a4])):=Same.new np;have z8:A0 H5 p (.lst [V.ref a1,V.ref a2,V.ref a3,V.ref a4]) p=some (.lst (([a1,a2,a3,a4]:List Addr).map V.ref)):=A4;generalize A0 H5 p (.lst [V.ref a1,V.ref a2,V.ref a3,V.ref a4])=H6 at S6 z8 N2;have S7:Same H6 (A0 H6 p1 (.lst [])):=Same.new N2;have tZ:A0 H6 p1 (.lst []) p1=some (.lst []):=A4;generalize A0 H6 p1 (.lst [])=H7 at S7 tZ;generalize [a1,a2,a3,a4]=as at hP z8;refine rSlR.l (.of (S7 _ _ z8)) fun s ns=>?_
  rw [wV,<- List.map_take];have hP2:Paired (fun a (l:List Int)=>H5 a=some (.lst (l.map V.int))) (as.take n) (LS.take n):=adj hP n;have hL2:(LS.take n).length<=4:=by rw [M5];lia
  have hLS2:∀ l∈LS.take n,l.length<=20000:=fun l hl=>hLS l (List.mem_of_mem_take hl)
  generalize as.take n=bs at hP2 ns;generalize LS.take n=MS at hP2 hL2 hLS2 q;have nsp:s≠p1:=fun e=>by rw [e,tZ] at ns;cases ns
  have S8:Same H7 (A0 H7 s (.lst (bs.map V.ref))):=Same.new ns;have uA:A0 H7 s (.lst (bs.map V.ref)) s=some (.lst (bs.map V.ref)):=A4;generalize A0 H7 s (.lst (bs.map V.ref))=H8 at S8 uA;have hp8:=S8 _ _ tZ;have SB:Same H6 (cutH H8 [p1]):=fun a o ha=>by
   unfold cutH;rw [if_neg (fun e=>by rw [M4.mp e,N2] at ha;cases ha)];exact S8 _ _ (S7 _ _ ha)
  have hsB:cutH H8 [p1] s=some (.lst (bs.map V.ref)):=by
   unfold cutH;rw [if_neg (fun e=>nsp (M4.mp e))];exact uA
  have nB:cutH H8 [p1] p1=none:=by unfold cutH;exact if_pos (by simp)
  have hB8:=mK H8 [p1];generalize cutH H8 [p1]=B at SB hsB nB hB8;have hPB:=R7 hP2 fun a l (e:H5 a=some (.lst (l.map V.int)))=>(show B a=some (.lst (l.map V.int)) from SB _ _ (S6 _ _ e))
  have A9:=Paired.length hPB;refine ⟨s,rfl,⟨_,.of uA⟩,forL (xs:=bs.map V.ref) (fun i Y H9=>∃ (v:Option V),Y=[some (.ref x),some (.str z),some (.int n),some (.ref u),some (.ref p),some (.ref p1),v]/\Same B H9/\H9 p1=some (.lst (((MS.take i).flatMap fun l=>l++[0]).map V.int))/\((MS.take i).flatMap fun l=>l++[0]).length<=20001*i) ⟨none,rfl,hB8,hp8,J5 _⟩ (by rintro i Y H9 _ ⟨_,_,S,_⟩;exact .of (S _ _ hsB)) ?_ ?_⟩
  .rintro i v Y H9 hv ⟨w,rfl,S9,h9,fS⟩;obtain ⟨a,ha,rfl⟩:=K0 hv;obtain ⟨l,hl,kD⟩:=Paired.at hPB ha;have hi:i<MS.length:=(J8.mp hl).1;have tI:=hLS2 l (O1 hl);have ea:(MS.take (i+1)).flatMap (fun l=>l++[0])=(MS.take i).flatMap (fun l=>l++[0])++l++[0]:=by
    rw [M7 hl,V0,V2]
    simp
   generalize (MS.take i).flatMap (fun l=>l++[0])=acc at h9 fS ea;walk_at "rd";refine ⟨V7 h9,⟨p1,a,_,_,rfl,rfl,h9,S9 _ _ kD,by rw [A8,A8];have:=L4 (n:=acc.length+l.length) (by first | lia | omega);lia,?_⟩⟩;have h10:A0 H9 p1 (.lst (acc.map V.int++l.map V.int)) p1=some (.lst (acc.map V.int++l.map V.int)):=A4;have fV:Same B (A0 H9 p1 (.lst (acc.map V.int++l.map V.int))):=S9.put nB;generalize A0 H9 p1 (.lst (acc.map V.int++l.map V.int))=X5 at h10 fV;walk_at "rd";refine ⟨V7 h10,appOk h10 (by rw [D4,A8,A8];exact L4 (by first | lia | omega)) ⟨fV.put nB,?_,?_⟩⟩
   .rw [A4,ea,E4,E4];rfl
   .rw [ea,D4,D4,b8];lia
  rintro Y H9 ⟨w,rfl,S9,h9,_⟩;rw [A8,A9,L1] at h9;walk_at "rd";exact q p1 H9 ((S15.trans S6).free N2) (S15.trans (S6.trans (SB.trans S9))) h9
theorem af9:FnScope ["_law_script", "_law_k"] ["_law_script", "_law_k"] (C6 iT):=G0
abbrev ad2:List Str:=["_law_script", "_law_k"]
theorem vcU:VS ad2 iT "_law_script" 0:=vq
theorem vcV:VS ad2 iT "_law_k" 1:=vq
theorem aga(F:FunD K "_law_cell_at" "_law_cell_at" iT f fd)(T:Txt P w K mg C):FnOk P w K mg base E1 1 f fd ["_law_script", "_law_k"] (lZ K):=by
 refine F.ok af9 ?_ ?_
 .rintro _ _ _ _ ⟨a,ns,k,rfl,_⟩;rfl
 .intro cdv A outer s H vs Q E hr h;have C5:=hu_of hr;have hu:=hr.units;refine ⟨_,QSs.out (C1 (qs_if (L5 q_lt (vi vcV) (qe_cB (q_len (K:=K)) T.b_len eE (qa_c (vi vcU) A2))) (C3 (D9 (qe_ix (K:=K) (vi vcU) (vi vcV)))) N4)
   (C3 (D9 A6))),?_⟩
  obtain ⟨a,ns,k,rfl,hS,hk,q⟩:=h;walk_at "rd";unfold cellF at q;refine ⟨ns.length,.inl ⟨_,hS,by rw [A8]⟩,iteD (fun D0=>?_) fun nN=>?_⟩
  .rw [if_pos D0] at q;have hi:k.toNat<ns.length:=by first | lia | omega
   refine ⟨_,.inl hS,V.int (ns.getD k.toNat 0),?_,q⟩;have e:((k.toNat:Nat):Int)=k:=by first | lia | omega
   have h1:F8 (ns.map V.int) ((k.toNat:Nat):Int)=some (V.int (ns.getD k.toNat 0)):=O3 (by rw [c9,z9,N1 hi];rfl);rw [e] at h1;exact h1
  .rw [if_neg nN] at q;exact q
theorem sc_l_sign:FnScope ["_law_script", "_law_k", "_law_some", "_law_step"] ["_law_script", "_law_k"] (C6 w6):=G0
abbrev mX:List Str:=["_law_script", "_law_k", "_law_some", "_law_step"]
theorem vcW:VS mX w6 "_law_script" 0:=vq
theorem vcX:VS mX w6 "_law_k" 1:=vq
theorem vcY:VS mX w6 "_law_some" 2:=vq
theorem vcZ:VS mX w6 "_law_step" 3:=vq
theorem vc0:LS w6 "_law_some":=lq
theorem vc1:LS w6 "_law_step":=lq
theorem ajr(F:FunD K "_law_sign" "_law_sign" w6 f fd)(T:Txt P w K mg C)(G_l_cell_at:FO P w K mg base 1 "_law_cell_at" ["_law_script", "_law_k"] [] (lZ K)):FnOk P w K mg base E1 2 f fd ["_law_script", "_law_k"] (spSgA K):=by
 refine F.ok sc_l_sign ?_ ?_
 .rintro _ _ _ _ ⟨a,ns,k,rfl,_⟩;rfl
 .intro cdv A outer s H vs Q E hr h;have C5:=hu_of hr;have hu:=hr.units;refine ⟨_,QSs.out (C1 (F7 (n:=2) sc_l_sign.nd rfl vc0 M3)
   (C1 (F7 (n:=3) sc_l_sign.nd rfl vc1 (qe_ix (K:=K) (N3 (qa_c A6 (qa_c A6 (qa_c A6 (qa_c A6 (qa_c A6 (qa_c A6 (qa_c A6 (qa_c A6 (qa_c A6 (qa_c A6 (qa_c A6 (qa_c A6 A2))))))))))))) (qe_op q_mod (D7 G_l_cell_at (hm hr) (qa_c (vi vcW) (qa_c A6 A2))) A6)))
   (C3 (D9 (qe_ix (K:=K) (vi vcY) (qe_op q_mod (qe_op (q_add (K:=K)) (D7 G_l_cell_at (hm hr) (qa_c (vi vcW) (qa_c A6 A2))) (qe_op q_mul (vi vcX) (vi vcZ))) A6)))))),?_⟩
  obtain ⟨a,ns,k,rfl,hS,hk,q⟩:=h;walk_at "rd";have Q9:=(hW ns k).1;have V9:=amu ns;rw [<- SA_eq] at Q9;refine ⟨by decide,fun p np=>⟨a,ns,1,rfl,(Same.new np).seq hS,by decide,_,rfl,_,.inl (.of A4),V.int (Y4 ns),(qE ns).1,a,ns,0,rfl,(Same.new np).seq hS,by decide,?_⟩⟩;walk_at "rd";exact ⟨.inr ⟨by first | lia | omega,by first | lia | omega⟩,by decide +kernel,_,Q9,q _ (Same.new np)⟩
theorem sc_l_numbers:FnScope ["_law_script", "_law_one", "_law_cell"] ["_law_script"] (C6 bB):=G0
abbrev rX:List Str:=["_law_script", "_law_one", "_law_cell"]
theorem vc2:VS rX bB "_law_script" 0:=vq
theorem jB:VS rX bB "_law_one" 1:=vq
theorem mY:VS rX bB "_law_cell" 2:=vq
theorem vc5:LS bB "_law_one":=lq
theorem vc6:LS bB "_law_cell":=lq
theorem agb(F:FunD K "_law_numbers" "_law_numbers" bB f fd)(T:Txt P w K mg C)(G_l_cell_at:FO P w K mg base 1 "_law_cell_at" ["_law_script", "_law_k"] [] (lZ K)):FnOk P w K mg base E1 2 f fd ["_law_script"] (spNum K):=by
 refine F.ok sc_l_numbers ?_ ?_
 .rintro _ _ _ _ ⟨a,ns,rfl,_⟩;rfl
 .intro cdv A outer s H vs Q E hr h;have C5:=hu_of hr;have hu:=hr.units;refine ⟨_,QSs.out (C1 (F7 (n:=1) sc_l_numbers.nd rfl vc5 (qe_op q_mod (D7 G_l_cell_at (hm hr) (qa_c (vi vc2) (qa_c A6 A2))) (qe_op q_pow A6 A6)))
   (C1 (F7 (n:=2) sc_l_numbers.nd rfl vc6 (D7 G_l_cell_at (hm hr) (qa_c (vi vc2) (qa_c A6 A2))))
   (C1 (qs_if (L5 (q_eq (K:=K) hu) (qe_op q_mod (vi mY) A6) A6) (C3 (D9 (O7 (qa_c (vi jB) (qa_c (qe_op q_mod (qe_op cH (vi mY) A6) (qe_op q_pow A6 A6)) A2))))) N4)
   (C1 (qs_if (L5 (q_eq (K:=K) hu) (qe_op q_mod (vi mY) A6) A6) (C3 (D9 (O7 (qa_c (vi jB) (qa_c (qe_cB q_abs T.b_abs aoq (qa_c (qe_op q_sub (qe_op (q_add (K:=K)) (vi jB) (qe_op q_mod (qe_op cH (vi mY) A6) A6)) A6) A2)) A2))))) N4)
   (C3 (D9 (O7 (qa_c (vi jB) (qa_c (qe_cT zF T.b_int wD (qa_c (qe_op (q_add (K:=K)) M3 (W7 (K:=K) (qe_cT zG T.b_str wC (qa_c (vi jB) A2)) (P7 A6) u8)) A2)) A2))))))))),?_⟩
  obtain ⟨a,ns,rfl,hS,q⟩:=h;walk_at "rd";refine ⟨a,ns,2,rfl,hS,by decide,10,60,rfl,rfl,⟨by decide,by decide,by decide⟩,?_⟩;refine ⟨_,rfl,_,rfl,by decide,a,ns,3,rfl,hS,by decide,_,rfl,?_⟩;generalize cellF ns 3=c;rw [show (10:Int) ^ (60:Int).toNat=((10 ^ 60:Nat):Int) by decide +kernel];obtain ⟨m,hm,tR⟩:∃ m:Nat,cellF ns 2 % ((10 ^ 60:Nat):Int)=m/\m<10 ^ 60:=by
   refine ⟨(cellF ns 2 % ((10 ^ 60:Nat):Int)).toNat,?_,?_⟩
   .exact (Int.toNat_of_nonneg (Int.emod_nonneg _ (by decide))).symm
   .have h1:=Int.emod_lt_of_pos (cellF ns 2) (show (0:Int)<((10 ^ 60:Nat):Int) by decide);have h2:=Int.emod_nonneg (cellF ns 2) (show ((10 ^ 60:Nat):Int)≠0 by decide);lia
  rw [hm];have k4:m<10 ^ 61:=Nat.lt_trans tR (by decide);refine iteD (fun _=>⟨_,rfl,10,60,rfl,rfl,⟨by decide,by decide,by decide⟩,?_⟩) fun _=>⟨_,rfl,iteD (fun _=>⟨_,rfl,by decide,fun p np=>?_⟩) fun _=>?_⟩
  .refine ⟨_,rfl,by decide,by decide,fun p np=>?_⟩;rw [show (10:Int) ^ (60:Int).toNat=((10 ^ 60:Nat):Int) by decide +kernel] at *;obtain ⟨n,hn,uB⟩:∃ n:Nat,c / 3 % ((10 ^ 60:Nat):Int)=n/\n<10 ^ 61:=by
    refine ⟨(c / 3 % ((10 ^ 60:Nat):Int)).toNat,?_,?_⟩
    .exact (Int.toNat_of_nonneg (Int.emod_nonneg _ (by decide))).symm
    .have h1:=Int.emod_lt_of_pos (c / 3) (show (0:Int)<((10 ^ 60:Nat):Int) by decide);have h2:=Int.emod_nonneg (c / 3) (show ((10 ^ 60:Nat):Int)≠0 by decide);lia
   rw [hn];exact q p m n _ np (Same.new np) A4 k4 uB
  .obtain ⟨n,hn,uB⟩:∃ n:Nat,(if (m:Int)+c / 3 % 7-3<0 then -((m:Int)+c / 3 % 7-3) else (m:Int)+c / 3 % 7-3)=n/\n<10 ^ 61:=by
    generalize ht:(if (m:Int)+c / 3 % 7-3<0 then -((m:Int)+c / 3 % 7-3) else (m:Int)+c / 3 % 7-3)=t;refine ⟨t.toNat,?_,?_⟩ <;> (split at ht <;> lia)
   rw [hn];exact q p m n _ np (Same.new np) A4 k4 uB
  refine ⟨m,rfl,aeG k4,?_⟩;walk_at "rd";have hsl:=pH (k:=60) k4;have hsf:=ahp m;have hs1:1<=(Str.ofString (toString (m:Int))).length:=by
   rw [<- lenL,iV,A8];exact List.length_pos_iff.mpr Nat.toDigits_ne_nil
  have e9:(Str.ofString "9"++cutS (Str.ofString (toString (m:Int))) (some 1) none).cps.toList=57::(Str.ofString (toString (m:Int))).cps.toList.drop 1:=by
   rw [Str.cps_append,Array.toList_append,show cutS (Str.ofString (toString (m:Int))) (some 1) none=cutS (Str.ofString (toString (m:Int))) (some ((1:Nat):Int)) none from rfl,ajp hs1];rfl
  have l9:(Str.ofString "9"++cutS (Str.ofString (toString (m:Int))) (some 1) none).length=(Str.ofString (toString (m:Int))).length:=by
   rw [<- lenL,e9,J7,aE,lenL];lia
  have f9:∀ c∈(Str.ofString "9"++cutS (Str.ofString (toString (m:Int))) (some 1) none).cps.toList,figO c=true:=fun c hc=>by
   rw [e9] at hc
   rcases E7.mp hc with rfl | hc
   .decide
   .exact hsf c (List.mem_of_mem_drop hc)
  have v9:=aou _ f9;rw [lenL,l9] at v9;refine ⟨T0 (by first | lia | omega),?_,fun c hc=>?_,by first | lia | omega,by first | lia | omega,by decide,fun p np=>?_⟩
  .rw [<- Str.length_append,l9];exact T0 (by first | lia | omega)
  .have:=f9 c hc
   unfold figO at this;simp only [W4,decide_eq_true_eq] at this;exact this
  .exact q p m _ _ np (Same.new np) A4 k4 (P3 v9 (Nat.pow_le_pow_right (by decide) (by first | lia | omega)))
theorem akE:FnScope ["_law_number", "_law_cell"] ["_law_number", "_law_cell"] (C6 iU):=G0
abbrev ajs:List Str:=["_law_number", "_law_cell"]
theorem vc7:VS ajs iU "_law_number" 0:=vq
theorem vc8:VS ajs iU "_law_cell" 1:=vq
theorem akF(F:FunD K "_law_run" "_law_run" iU f fd)(T:Txt P w K mg C):FnOk P w K mg base E1 1 f fd ["_law_number", "_law_cell"] spRun:=by
 refine F.ok akE ?_ ?_
 .rintro _ _ _ _ ⟨n,c,rfl,_⟩;rfl
 .intro cdv A outer s H vs Q E hr h;have C5:=hu_of hr;have hu:=hr.units;refine ⟨_,QSs.out (C3 (D9 (qe_op (q_add (K:=K)) (qe_op an8 M3 (qe_op q_mod (vi vc8) A6)) (qe_cT zG T.b_str wC (qa_c (vi vc7) A2))))),?_⟩;obtain ⟨n,c,rfl,hn,q⟩:=h;walk_at "rd";obtain ⟨m1,m2⟩:=mul0 (k:=c % 10) (by first | lia | omega) (by first | lia | omega);refine ⟨_,_,rfl,rfl,m1,n,rfl,aeG hn,?_⟩;generalize Txt.mul (Str.ofString "0") (c % 10)=w at m2;have hv:=amH (k:=(c % 10).toNat) (by first | lia | omega) m2 hn;refine ⟨?_,q _ hv⟩
  have:=hv.2.2.1
  rw [Str.length_append] at this;exact T0 (by first | lia | omega)
theorem sc_law:FnScope ["_law_script", "_law_one", "_law_other", "_law_cell", "_law_signs", "_law_order", "_law_ahead", "_law_behind", "_law_mark", "_law_first", "_law_second", "_law_begin", "_law_due", "_law_letter"] ["_law_script"] (C6 s_law):=G0
abbrev n_law:List Str:=["_law_script", "_law_one", "_law_other", "_law_cell", "_law_signs", "_law_order", "_law_ahead", "_law_behind", "_law_mark", "_law_first", "_law_second", "_law_begin", "_law_due", "_law_letter"]
theorem jC:VS n_law s_law "_law_script" 0:=vq
theorem mZ:VS n_law s_law "_law_one" 1:=vq
theorem rY:VS n_law s_law "_law_other" 2:=vq
theorem fF:VS n_law s_law "_law_cell" 3:=vq
theorem i5:VS n_law s_law "_law_signs" 4:=vq
theorem n5:VS n_law s_law "_law_order" 5:=vq
theorem nA:VS n_law s_law "_law_ahead" 6:=vq
theorem rZ:VS n_law s_law "_law_behind" 7:=vq
theorem vdh:VS n_law s_law "_law_mark" 8:=vq
theorem fG:VS n_law s_law "_law_first" 9:=vq
theorem jD:VS n_law s_law "_law_second" 10:=vq
theorem vdk:VS n_law s_law "_law_begin" 11:=vq
theorem vdl:VS n_law s_law "_law_due" 12:=vq
theorem vdm:VS n_law s_law "_law_letter" 13:=vq
theorem vdn:LS s_law "_law_one":=lq
theorem vdo:LS s_law "_law_other":=lq
theorem vdp:LS s_law "_law_cell":=lq
theorem vdq:LS s_law "_law_signs":=lq
theorem vdr:LS s_law "_law_order":=lq
theorem vds:LS s_law "_law_ahead":=lq
theorem vdt:LS s_law "_law_behind":=lq
theorem vdu:LS s_law "_law_mark":=lq
theorem vdv:LS s_law "_law_first":=lq
theorem vdw:LS s_law "_law_second":=lq
theorem vdx:LS s_law "_law_begin":=lq
theorem vdy:LS s_law "_law_due":=lq
theorem vdz:LS s_law "_law_letter":=lq
theorem aov(F:FunD K "law" "law" s_law f fd)(T:Txt P w K mg C)(G_Order___init__:KO P w K mg base 5 C "Order" ["self", "rules"] (qL C))(G_key:FO P w K mg base 7 "key" ["order", "text", "strength"] [.int 4] (spKey C))(G3_key:FO P w K mg base 7 "key" ["order", "text", "strength"] [] (spKey C))(G_l_cell_at:FO P w K mg base 1 "_law_cell_at" ["_law_script", "_law_k"] [] (lZ K))(G_l_sign:FO P w K mg base 2 "_law_sign" ["_law_script", "_law_k"] [] (spSgA K))(G_l_numbers:FO P w K mg base 2 "_law_numbers" ["_law_script"] [] (spNum K))(G_l_run:FO P w K mg base 1 "_law_run" ["_law_number", "_law_cell"] [] spRun):FnOk P w K mg base E1 8 f fd ["_law_script"] (spLaw K):=by
 refine F.ok sc_law ?_ ?_
 .rintro _ _ _ _ ⟨a,ns,rfl,_⟩;rfl
 .intro cdv A outer s H vs Q E hr h;have C5:=hu_of hr;have hu:=hr.units;refine ⟨_,QSs.out (C1 (anT (D7 G_l_numbers (hm hr) (qa_c (vi jC) A2)) (aR (K:=K) (n:=2) (Q6 ((E2 (n:=1) sc_law.nd rfl vdn (.inl rfl))) (Q6 ((E2 (n:=2) sc_law.nd rfl vdo (.inl rfl))) aQ))))
   (C1 (F7 (n:=3) sc_law.nd rfl vdp (D7 G_l_cell_at (hm hr) (qa_c (vi jC) (qa_c A6 A2))))
   (C1 (F7 (n:=4) sc_law.nd rfl vdq (N3 (qa_c (D7 G_l_sign (hm hr) (qa_c (vi jC) (qa_c A6 A2))) (qa_c (D7 G_l_sign (hm hr) (qa_c (vi jC) (qa_c A6 A2))) (qa_c (D7 G_l_sign (hm hr) (qa_c (vi jC) (qa_c A6 A2))) A2)))))
   (C1 (F7 (n:=5) sc_law.nd rfl vdr (amp G_Order___init__ (hm hr) (qa_c (N3 (qa_c (O7 (qa_c M3 (qa_c (qe_ix (K:=K) (vi i5) A6) A2))) (qa_c (O7 (qa_c M3 A2)) (qa_c (O7 (qa_c M3 (qa_c (qe_ix (K:=K) (vi i5) A6) (qa_c (qe_ix (K:=K) (vi i5) A6) A2)))) A2)))) A2)))
   (C1 (F7 (n:=6) sc_law.nd rfl vds (qe_ix (K:=K) (N3 (qa_c M3 (qa_c (qe_ix (K:=K) (vi i5) A6) (qa_c (qe_ix (K:=K) (vi i5) A6) A2)))) (qe_op q_mod (qe_op cH (vi fF) A6) A6)))
   (C1 (F7 (n:=7) sc_law.nd rfl vdt (qe_ix (K:=K) (N3 (qa_c M3 (qa_c (qe_ix (K:=K) (vi i5) A6) (qa_c (qe_ix (K:=K) (vi i5) A6) A2)))) (qe_op q_mod (qe_op cH (vi fF) A6) A6)))
   (C1 (F7 (n:=8) sc_law.nd rfl vdu (qe_ix (K:=K) (N3 (qa_c M3 (qa_c (qe_ix (K:=K) (vi i5) A6) A2))) (qe_op q_mod (qe_op cH (vi fF) A6) A6)))
   (C1 (F7 (n:=9) sc_law.nd rfl vdv (qe_op (q_add (K:=K)) (qe_op (q_add (K:=K)) (qe_op (q_add (K:=K)) (vi nA) (D7 G_l_run (hm hr) (qa_c (vi mZ) (qa_c (vi fF) A2)))) (vi vdh)) (vi rZ)))
   (C1 (F7 (n:=10) sc_law.nd rfl vdw (qe_op (q_add (K:=K)) (qe_op (q_add (K:=K)) (qe_op (q_add (K:=K)) (vi nA) (D7 G_l_run (hm hr) (qa_c (vi rY) (qa_c (qe_op cH (vi fF) A6) A2)))) (vi vdh)) (vi rZ)))
   (C1 (F7 (n:=11) sc_law.nd rfl vdx (ami (pQ M3 (N3 A2) (pQ (qe_ix (K:=K) (vi i5) A6) (N3 (qa_c A6 A2)) (pQ (qe_ix (K:=K) (vi i5) A6) (N3 (qa_c A6 A2)) amh)))))
   (C1 (F7 (n:=12) sc_law.nd rfl vdy (qe_op (q_add (K:=K)) (qe_op (q_add (K:=K)) (qe_op (q_add (K:=K)) (Y3 C5 (vi vdk) (vi nA)) (N3 (qa_c A6 (qa_c (qe_op (q_add (K:=K)) (vi mZ) A6) A2)))) (Y3 C5 (vi vdk) (vi rZ))) (N3 (qa_c A6 A2))))
   (C1 (qs_if (L5 (q_ne (K:=K) hu) (D7 G3_key (hm hr) (qa_c (vi n5) (qa_c (vi fG) (qa_c A6 A2)))) (vi vdl)) (C3 (D9 qe_bl)) N4)
   (C1 (qs_if (L5 (q_ne (K:=K) hu) (u7 (q_ltK hu (K:=K)) (D7 G3_key (hm hr) (qa_c (vi n5) (qa_c (vi fG) (qa_c A6 A2)))) (D7 G3_key (hm hr) (qa_c (vi n5) (qa_c (vi jD) (qa_c A6 A2))))) (u7 q_lt (vi mZ) (vi rY))) (C3 (D9 qe_bl)) N4)
   (C1 (qs_if (L5 (q_ne (K:=K) hu) (u7 (q_eq (K:=K) hu) (D7 G3_key (hm hr) (qa_c (vi n5) (qa_c (vi fG) (qa_c A6 A2)))) (D7 G3_key (hm hr) (qa_c (vi n5) (qa_c (vi jD) (qa_c A6 A2))))) (u7 (q_eq (K:=K) hu) (vi mZ) (vi rY))) (C3 (D9 qe_bl)) N4)
   (C1 (qs_if (L5 (q_ne (K:=K) hu) (u7 (q_eq (K:=K) hu) (D7 G_key (hm hr) (qa_c (vi n5) (qa_c (vi fG) A2))) (D7 G_key (hm hr) (qa_c (vi n5) (qa_c (vi jD) A2)))) (u7 (q_eq (K:=K) hu) (vi fG) (vi jD))) (C3 (D9 qe_bl)) N4)
   (C1 (F7 (n:=13) sc_law.nd rfl vdz (D7 G3_key (hm hr) (qa_c (vi n5) (qa_c (qe_op (q_add (K:=K)) (vi nA) (qe_ix (K:=K) (vi i5) (qe_op q_mod (qe_op cH (vi fF) A6) A6))) (qa_c A6 A2)))))
   (C3 (D9 (wI (u7 (q_ltK hu (K:=K)) (D7 G3_key (hm hr) (qa_c (vi n5) (qa_c (vi fG) (qa_c A6 A2)))) (vi vdm)) (wH (u7 (q_ltK hu (K:=K)) (D7 G3_key (hm hr) (qa_c (vi n5) (qa_c (vi jD) (qa_c A6 A2)))) (vi vdm)))))))))))))))))))))),?_⟩
  obtain ⟨a,ns,rfl,hS,A9,q⟩:=h;walk_at "rd";refine ⟨a,ns,rfl,hS,fun pt m n H1 npt S1 hpt hm hn=>⟨_,rfl,_,.of hpt,rfl,_,_,rfl,_,_,rfl,rfl,a,ns,4,rfl,S1.seq hS,by decide,a,ns,0,rfl,S1.seq hS,by decide,fun H2 S2=>⟨a,ns,1,rfl,(S1.trans S2).seq hS,by decide,fun H3 S3=>⟨a,ns,2,rfl,(S1.trans (S2.trans S3)).seq hS,by decide,fun H4 S4=>⟨by decide,fun sg nsg=>?_⟩⟩⟩⟩⟩;have D:=d3_of ns;generalize Q0 ns 0=c0 at D;generalize Q0 ns 1=c1 at D;generalize Q0 ns 2=c2 at D;generalize cellF ns 4=c;have fW:A0 H4 sg (.lst [V.str (one c0),V.str (one c1),V.str (one c2)]) sg=some (.lst [V.str (one c0),V.str (one c1),V.str (one c2)]):=A4;generalize A0 H4 sg (.lst [V.str (one c0),V.str (one c1),V.str (one c2)])=H5 at fW;clear S1 S2 S3 S4 hpt npt nsg hS;refine ⟨_,.inl (.of fW),_,O3 (j:=2) rfl,by decide,fun p1 N2=>⟨by decide,fun p2 y8=>⟨_,.inl (.of (C8 (C8 fW N2) y8)),_,R1 _ _,_,.inl (.of (C8 (C8 fW N2) y8)),_,O3 (j:=1) rfl,by decide,fun p3 nY=>⟨by decide,fun rl nrl=>?_⟩⟩⟩⟩;have hR:IsRules (A0 (A0 (A0 (A0 H5 p1 (.tup [V.str (Str.ofString "marks"),V.str (one c2)])) p2 (.tup [V.str (Str.ofString "figures")])) p3 (.tup [V.str (Str.ofString "row"),V.str (one c0),V.str (one c1)])) rl (.lst [V.ref p1,V.ref p2,V.ref p3])) rl [p1,p2,p3] (R35 c0 c1 c2):=
   ⟨A4,.cons (C8 (C8 (C8 A4 y8) nY) nrl) (.cons (C8 (C8 A4 nY) nrl) (.cons (C8 A4 nrl) .nil))⟩
  have dI:=C8 (u:=HO.lst [V.ref p1,V.ref p2,V.ref p3]) (C8 (u:=HO.tup [V.str (Str.ofString "row"),V.str (one c0),V.str (one c1)]) (C8 (u:=HO.tup [V.str (Str.ofString "figures")]) (C8 (u:=HO.tup [V.str (Str.ofString "marks"),V.str (one c2)]) fW N2) y8) nY) nrl;generalize A0 (A0 (A0 (A0 H5 p1 (.tup [V.str (Str.ofString "marks"),V.str (one c2)])) p2 (.tup [V.str (Str.ofString "figures")])) p3 (.tup [V.str (Str.ofString "row"),V.str (one c0),V.str (one c1)])) rl (.lst [V.ref p1,V.ref p2,V.ref p3])=H6 at hR dI;clear fW N2 y8 nY nrl;intro x dx nx ndx ndxx;have S8:Same H6 (A0 (A0 H6 dx (.own x)) x (.ins C dx [])):=(Same.new ndx).trans (Same.new (by rw [B3 ndxx.symm];exact nx));have kG:A0 (A0 H6 dx (.own x)) x (.ins C dx []) x=some (.ins C dx []):=A4;generalize A0 (A0 H6 dx (.own x)) x (.ins C dx [])=H8 at S8 kG;refine ⟨x,dx,rl,_,R35 c0 c1 c2,qN (R35 c0 c1 c2),_,_,rfl,kG,hR.same S8,D.good,fun j ll ml md L M H9 nj nll nml nmd B9 hO=>⟨rfl,?_⟩⟩;obtain ⟨eL,eM⟩:=D.lets hO.l1 hO.l2;rw [eL,eM] at hO;have S9:Same H6 H9:=fun b o hb=>B9 _ _ (fun e=>by rw [e,nx] at hb;cases hb) (S8 _ _ hb)
  have W2:=S9 _ _ dI;clear B9 kG S8 hR nx ndx dI S9 eL eM nj nll nml nmd ndxx;obtain ⟨zA,A,hA,eA,iA⟩:=pick3 c0 c1 (c / 100);obtain ⟨zB,B,hB,eB,iB⟩:=pick3 c0 c1 (c / 300);obtain ⟨zM,M',hM',eM',iM⟩:=pick2 c2 (c / 900);refine ⟨_,.inl (.of W2),_,R1 _ _,_,.inl (.of W2),_,O3 (j:=1) rfl,by decide,fun p np=>⟨_,rfl,_,.inl (.of A4),_,iA,?_⟩⟩;have S1:Same H9 (A0 H9 p (.lst [V.str (Str.ofString ""),V.str (one c0),V.str (one c1)])):=Same.new np;generalize A0 H9 p (.lst [V.str (Str.ofString ""),V.str (one c0),V.str (one c1)])=H1 at S1;refine ⟨_,.inl (.of (S1 _ _ W2)),_,R1 _ _,_,.inl (.of (S1 _ _ W2)),_,O3 (j:=1) rfl,by decide,fun p np=>⟨_,rfl,_,.inl (.of A4),_,iB,?_⟩⟩;have S2:Same H9 (A0 H1 p (.lst [V.str (Str.ofString ""),V.str (one c0),V.str (one c1)])):=S1.trans (Same.new np);generalize A0 H1 p (.lst [V.str (Str.ofString ""),V.str (one c0),V.str (one c1)])=H2 at S2;refine ⟨_,.inl (.of (S2 _ _ W2)),_,O3 (j:=2) rfl,by decide,fun p np=>⟨_,rfl,_,.inl (.of A4),_,iM,?_⟩⟩;have S3:Same H9 (A0 H2 p (.lst [V.str (Str.ofString ""),V.str (one c2)])):=S2.trans (Same.new np);generalize A0 H2 p (.lst [V.str (Str.ofString ""),V.str (one c2)])=H3 at S3;refine ⟨m,c,rfl,hm,fun y1 hy1=>?_⟩;walk_at "rd";have hA':A=[]\/A=[c0]\/A=[c1]:=hA.imp And.left (Or.imp And.left And.left);have hB':B=[]\/B=[c0]\/B=[c1]:=hB.imp And.left (Or.imp And.left And.left);have lA:zA.length<=1:=by rw [<- lenL,eA];rcases hA' with rfl | rfl | rfl <;> simp
  have lB:zB.length<=1:=by rw [<- lenL,eB];rcases hB' with rfl | rfl | rfl <;> simp
  have lM:zM.length<=1:=by rw [<- lenL,eM'];rcases hM' with rfl | rfl <;> simp
  have tl:∀ {y:Str} {v:Int},RunV y v->zA.length+y.length<=sizeLine/\(zA++y).length+zM.length<=sizeLine/\(zA++y++zM).length+zB.length<=sizeLine/\(zA++y++zM++zB).length<=100/\(zA++y++zM++zB).cps.toList=A++(y.cps.toList++(M'++B)):=fun {y v} h=>by
   have:=h.2.2.1
   refine ⟨T0 (by first | lia | omega),?_,?_,?_,?_⟩
   .rw [Str.length_append];exact T0 (by first | lia | omega)
   .rw [Str.length_append,Str.length_append];exact T0 (by first | lia | omega)
   .rw [Str.length_append,Str.length_append,Str.length_append];lia
   .simp only [Str.cps_append,Array.toList_append,eA,eB,eM',V2]
  obtain ⟨t1,t2,t3,t4,t5⟩:=tl hy1;refine ⟨t1,t2,t3,n,_,rfl,hn,fun y2 kA=>?_⟩;obtain ⟨u1,u2,u3,u4,u5⟩:=tl kA;walk_at "rd";refine ⟨u1,u2,u3,?_⟩;obtain ⟨w1,k1⟩:=D.txt hO.l1 hO.l2 hA' hM' hB' hy1 t5;obtain ⟨w2,k2⟩:=D.txt hO.l1 hO.l2 hA' hM' hB' kA u5;generalize zA++y1++zM++zB=z1 at t4 t5 w1 k1;generalize zA++y2++zM++zB=z2 at u4 u5 w2 k2;clear tl t1 t2 t3 t5 u1 u2 u3 u5 iA iB iM;intro p np q1 kK;have S4:Same H3 (A0 (A0 H3 p (.dK [])) q1 (.lst [])):=(Same.new np).trans (Same.new kK);have uC:=S4 _ _ (S3 _ _ W2);refine ⟨_,.inl (.of uC),_,R1 _ _,by decide,fun q2 kL=>⟨_,.inl (.of (C8 uC kL)),_,O3 (j:=1) rfl,by decide,fun q3 kM=>?_⟩⟩;have e1:q1≠p:=fun e=>by rw [e,A4] at kK;cases kK
  have nZ:A0 (A0 (A0 (A0 H3 p (.dK [])) q1 (.lst [])) q2 (.lst [V.int 3])) q3 (.lst [V.int 4]) p=some (.dK []):=C8 (C8 (C8 A4 kK) kL) kM;have h15:A0 (A0 (A0 (A0 H3 p (.dK [])) q1 (.lst [])) q2 (.lst [V.int 3])) q3 (.lst [V.int 4]) q1=some (.lst []):=C8 (C8 A4 kL) kM;have h25:A0 (A0 (A0 (A0 H3 p (.dK [])) q1 (.lst [])) q2 (.lst [V.int 3])) q3 (.lst [V.int 4]) q2=some (.lst [V.int 3]):=C8 A4 kM;have h35:A0 (A0 (A0 (A0 H3 p (.dK [])) q1 (.lst [])) q2 (.lst [V.int 3])) q3 (.lst [V.int 4]) q3=some (.lst [V.int 4]):=A4;have S5:Same H3 (A0 (A0 (A0 (A0 H3 p (.dK [])) q1 (.lst [])) q2 (.lst [V.int 3])) q3 (.lst [V.int 4])):=S4.trans ((Same.new kL).trans (Same.new kM));generalize A0 (A0 (A0 (A0 H3 p (.dK [])) q1 (.lst [])) q2 (.lst [V.int 3])) q3 (.lst [V.int 4])=H5 at nZ h15 h25 h35 S5;have nl:∀ {q:Addr} {xs:List V},H5 q=some (.lst xs)->q≠p:=fun h e=>by rw [e,nZ] at h;cases h
  refine ⟨nZ,[((Sum.inr (Str.ofString ""):B1),V.ref q1),(Sum.inr (one c0),V.ref q2),(Sum.inr (one c1),V.ref q3)],rfl,Nat.le_add_left 3 12,?_⟩;have h16:=(B3 (o:=.dK (N6 [] [((Sum.inr (Str.ofString ""):B1),V.ref q1),(Sum.inr (one c0),V.ref q2),(Sum.inr (one c1),V.ref q3)])) (nl h15)).trans h15;have h26:=(B3 (o:=.dK (N6 [] [((Sum.inr (Str.ofString ""):B1),V.ref q1),(Sum.inr (one c0),V.ref q2),(Sum.inr (one c1),V.ref q3)])) (nl h25)).trans h25;have h36:=(B3 (o:=.dK (N6 [] [((Sum.inr (Str.ofString ""):B1),V.ref q1),(Sum.inr (one c0),V.ref q2),(Sum.inr (one c1),V.ref q3)])) (nl h35)).trans h35;obtain ⟨qA,vA,gA⟩:=beg35 D.n01 hA h16 h26 h36;obtain ⟨qB,vB,gB⟩:=beg35 D.n01 hB h16 h26 h36;have z8:A0 H5 p (.dK (N6 [] [((Sum.inr (Str.ofString ""):B1),V.ref q1),(Sum.inr (one c0),V.ref q2),(Sum.inr (one c1),V.ref q3)])) p=_:=A4;have S6:Same H3 (A0 H5 p (.dK (N6 [] [((Sum.inr (Str.ofString ""):B1),V.ref q1),(Sum.inr (one c0),V.ref q2),(Sum.inr (one c1),V.ref q3)]))):=S5.put np;have dA:=V6 (k:=Sum.inr zA) z8;have dB:=V6 (k:=Sum.inr zB) z8;rw [vA] at dA;generalize A0 H5 p (.dK (N6 [] [((Sum.inr (Str.ofString ""):B1),V.ref q1),(Sum.inr (one c0),V.ref q2),(Sum.inr (one c1),V.ref q3)]))=H6 at gA gB S6 dA z8;clear dB h16 h26 h36 h15 h25 h35 nZ nl S5 S4 uC np kK kL kM e1;refine ⟨_,dA,by decide,fun p4 uD=>?_⟩;walk_at "rd";refine rAddR.l (C8 gA uD) A4 (by rw [A8,A8];exact T0 (by rcases hA' with rfl | rfl | rfl <;> simp)) fun p5 np5=>?_
  have S7:Same H6 (A0 (A0 H6 p4 (.lst [V.int 2,V.int (↑m+1)])) p5 (.lst (L7 V.int (L7 (fun c=>K8 c0 c+3) A)++[V.int 2,V.int (↑m+1)]))):=(Same.new uD).trans (Same.new np5);have dJ:A0 (A0 H6 p4 (.lst [V.int 2,V.int (↑m+1)])) p5 (.lst (L7 V.int (L7 (fun c=>K8 c0 c+3) A)++[V.int 2,V.int (↑m+1)])) p5=some (.lst (L7 V.int (L7 (fun c=>K8 c0 c+3) A)++[V.int 2,V.int (↑m+1)])):=A4;generalize A0 (A0 H6 p4 (.lst [V.int 2,V.int (↑m+1)])) p5 (.lst (L7 V.int (L7 (fun c=>K8 c0 c+3) A)++[V.int 2,V.int (↑m+1)]))=H7 at S7 dJ;have dB:=V6 (k:=Sum.inr zB) (S7 _ _ z8);rw [vB] at dB;refine ⟨_,dB,?_⟩;walk_at "rd";have cA:A.length<=1:=by rcases hA' with rfl | rfl | rfl <;> simp
  have cB:B.length<=1:=by rcases hB' with rfl | rfl | rfl <;> simp
  refine rAddR.l dJ (S7 _ _ gB) (by simp only [A8,D4,J7,f7];exact T0 (by first | lia | omega)) fun p8 np8=>⟨by decide,fun p9 uE=>?_⟩
  walk_at "rd";refine rAddR.l (C8 A4 uE) A4 (by simp only [A8,D4,J7,f7];exact T0 (by first | lia | omega)) fun pd npd=>?_
  have kN:((L7 V.int (L7 (fun c=>K8 c0 c+3) A)++[V.int 2,V.int (↑m+1)])++L7 V.int (L7 (fun c=>K8 c0 c+3) B))++[V.int 0]=(keyF 1 false (U35 c0 A M' B m) z1).map V.int:=by
   rw [cQ]
   simp
  rw [kN];have S8:Same H7 (A0 (A0 (A0 H7 p8 (.lst ((L7 V.int (L7 (fun c=>K8 c0 c+3) A)++[V.int 2,V.int (↑m+1)])++L7 V.int (L7 (fun c=>K8 c0 c+3) B)))) p9 (.lst [V.int 0])) pd (.lst ((keyF 1 false (U35 c0 A M' B m) z1).map V.int))):=(Same.new np8).trans ((Same.new uE).trans (Same.new npd));have hd8:A0 (A0 (A0 H7 p8 (.lst ((L7 V.int (L7 (fun c=>K8 c0 c+3) A)++[V.int 2,V.int (↑m+1)])++L7 V.int (L7 (fun c=>K8 c0 c+3) B)))) p9 (.lst [V.int 0])) pd (.lst ((keyF 1 false (U35 c0 A M' B m) z1).map V.int)) pd=some (.lst ((keyF 1 false (U35 c0 A M' B m) z1).map V.int)):=A4;generalize A0 (A0 (A0 H7 p8 (.lst ((L7 V.int (L7 (fun c=>K8 c0 c+3) A)++[V.int 2,V.int (↑m+1)])++L7 V.int (L7 (fun c=>K8 c0 c+3) B)))) p9 (.lst [V.int 0])) pd (.lst ((keyF 1 false (U35 c0 A M' B m) z1).map V.int))=H8 at S8 hd8;have S38:Same H9 H8:=S3.trans (S6.trans (S7.trans S8));clear kN dB dJ S7 S8 np8 uE npd uD np5 gA gB dA vA vB z8 S6;have o3:=akC c0 c1 c2;have o7:∀ {z:Str} {U:List D8},m5 (hasW (R35 c0 c1 c2) "figures") (I0 (R35 c0 c1 c2)) z->z.length<=100->Q2 (stepY (R35 c0 c1 c2) [one c0,one c1] [one c2]) (cutF (hasW (R35 c0 c1 c2) "figures") (I0 (R35 c0 c1 c2)) z.cps.toList).2=U->∀ {H':Hp} {n:Nat} {Z:VK},Same H9 H'->n<=4->(∀ l H'',H' l=none->Same H' H''->H'' l=some (.lst ((keyF n false U z).map V.int))->Z (.ref l) H'')->spKey C [V.ref x,V.str z,V.int n] H' Z E0:=fun {z U} hw hz hU {H' n Z} S hn hZ=>
   ⟨x,j,ll,ml,md,_,_,_,_,_,_,rfl,hn,hO.same S,o3,by first | lia | omega,hw,amD _ _,by rw [hU,bh35];exact hZ⟩
  refine o7 w1 t4 k1 (n:=1) S38 (by decide) fun l1 G1 nl1 T1 fN=>?_
  walk_at "rd";refine ⟨_,.lst (.of fN) u6,_,.lst (.of (T1 _ _ hd8)) u6,by rw [PyData.depth,gX];decide,?_⟩;rw [Z3,gW,decide_eq_true rfl];refine iteF ?_;have A1:=S38.trans T1;refine o7 w1 t4 k1 (n:=1) A1 (by decide) fun l2 G2 nl2 T2 i8=>o7 w2 u4 k2 (n:=1) (A1.trans T2) (by decide) fun l3 G3 nl3 T3 nX=>?_
  have A3:=A1.trans (T2.trans T3);walk_at "rd";refine .inl ⟨_,_,.of (T3 _ _ i8),.of nX,?_⟩;rw [show decide (keyF 1 false (U35 c0 A M' B m) z1<keyF 1 false (U35 c0 A M' B n) z2)=decide ((m:Int)<n) by rw [decide_eq_decide,cQ,cQ,aot];lia];walk_at "rd";rw [if_neg (by decide)];refine o7 w1 t4 k1 (n:=3) A3 (by decide) fun l4 G4 nl4 T4 sY=>o7 w2 u4 k2 (n:=3) (A3.trans T4) (by decide) fun l5 G5 nl5 T5 tN=>?_
  have A5:=A3.trans (T4.trans T5);walk_at "rd";refine ⟨_,.lst (.of (T5 _ _ sY)) u6,_,.lst (.of tN) u6,M6 (Nat.min_le_left _ _) (by rw [PyData.depth,gX];decide),?_⟩;rw [Z3,gW,show decide (keyF 3 false (U35 c0 A M' B m) z1=keyF 3 false (U35 c0 A M' B n) z2)=decide ((m:Int)=n) from decide_eq_decide.mpr (eq3 c0 A M' B m n z1 z2)];rw [if_neg (by simp)];refine o7 w1 t4 k1 (n:=4) A5 (by decide) fun l6 G6 nl6 T6 hl6=>o7 w2 u4 k2 (n:=4) (A5.trans T6) (by decide) fun l7 G7 nl7 T7 kB=>?_
  have A7:=A5.trans (T6.trans T7);have e4:=eq4 (U:=fun z=>Q2 (stepY (R35 c0 c1 c2) [one c0,one c1] [one c2]) (cutF (hasW (R35 c0 c1 c2) "figures") (I0 (R35 c0 c1 c2)) z.cps.toList).2) c0 A M' B m n z1 z2 k1 k2;simp only [k1,k2] at e4;walk_at "rd";refine ⟨_,.lst (.of (T7 _ _ hl6)) u6,_,.lst (.of kB) u6,M6 (Nat.min_le_left _ _) (by rw [PyData.depth,gX];decide),?_⟩;rw [Z3,gW,show decide (keyF 4 false (U35 c0 A M' B m) z1=keyF 4 false (U35 c0 A M' B n) z2)=decide (z1=z2) from decide_eq_decide.mpr e4];rw [if_neg (by simp)];obtain ⟨d,hd,iL⟩:=pickL c0 c1 c2 (c / 1800);refine ⟨_,.inl (.of (A7 _ _ W2)),_,iL,?_⟩;have hz3:(zA++one d).cps.toList=A++[d]:=by rw [Str.cps_append,Array.toList_append,eA];rfl
  have uF:(zA++one d).length<=100:=by
   rw [Str.length_append];show zA.length+1<=100;lia
  obtain ⟨w3,a3,ha3,k3⟩:=D.txt2 hO.l1 hO.l2 hA' hd hz3;walk_at "rd";refine ⟨T0 (by show zA.length+1<=_;lia),?_⟩;refine o7 w3 uF rfl (n:=1) A7 (by decide) fun l8 G8 nl8 T8 bM=>?_
  rw [k3] at bM;refine o7 w1 t4 k1 (n:=1) (A7.trans T8) (by decide) fun l9 G9 nl9 T9 fS=>?_
  walk_at "rd";refine .inl ⟨_,_,.of fS,.of (T9 _ _ bM),?_⟩;rw [decide_eq_true (show keyF 1 false (U35 c0 A M' B m) z1<(A.map fun c=>K8 c0 c+3)++(a3::[0]) by rw [cQ];exact af1 _ _ _ ha3)];refine ⟨_,rfl,?_⟩;rw [if_pos rfl];refine o7 w2 u4 k2 (n:=1) (A7.trans (T8.trans T9)) (by decide) fun l10 G10 nl10 T10 j7=>?_
  walk_at "rd";refine .inl ⟨_,_,.of j7,.of (T10 _ _ (T9 _ _ bM)),?_⟩;rw [decide_eq_true (show keyF 1 false (U35 c0 A M' B n) z2<(A.map fun c=>K8 c0 c+3)++(a3::[0]) by rw [cQ];exact af1 _ _ _ ha3)];exact q _
end
theorem all_mk{l:PySem.W.OpenLaw}{w:World}(X:K.In h)(G:h.Ns mainGlobals mg)(nW:mg "law"=some (.ref fa))(d0:DF K "told" m6)(d1:DF K "followers" X0)(d2:DF K "count_ahead" m7)(d3:DF K "lined_up" P0)(d4:DF K "is_figure" mL)(d5:DF K "has_rule" iJ)(d6:DF K "pieces_told" mM)(d7:DF K "is_clash" aV)(d8:DF K "jobs_of" Z8)(d9:DF K "misused" v7)(d10:DF K "check_letters" v8)(d11:DF K "line_of" iK)(d12:DF K "forms_of" aW)(d13:DF K "steps_of" O4){f14:Addr}{od14 an14:Option Addr}{sl14:Array (Option Value)}{oc14 kV14 dc14 pm14 cd14 ct14:Value}(a14:O6 K (.ref C) "__init__"=some (some (.ref f14)))(i14:t6 K (.ref f14)=true)(l14:K.lookup f14=some ⟨oc14,od14,.func (Q5 "__init__" "Order.__init__" (R8 aX) (R0 aX) (C6 aX) .none kV14 dc14 pm14 an14 cd14 ct14),sl14⟩)(c14:V3 K cd14 "Order.__init__"=true)(k14:R6 K (.ref f14)=true){f15:Addr}{od15 an15:Option Addr}{sl15:Array (Option Value)}{oc15 kV15 dc15 pm15 cd15 ct15:Value}(a15:O6 K (.ref C) "letters"=some (some (.ref f15)))(i15:t6 K (.ref f15)=true)(l15:K.lookup f15=some ⟨oc15,od15,.func (Q5 "letters" "Order.letters" (R8 cM) (R0 cM) (C6 cM) .none kV15 dc15 pm15 an15 cd15 ct15),sl15⟩)(c15:V3 K cd15 "Order.letters"=true)(k15:R6 K (.ref f15)=true){f16:Addr}{od16 an16:Option Addr}{sl16:Array (Option Value)}{oc16 kV16 dc16 pm16 cd16 ct16:Value}(a16:O6 K (.ref C) "marks"=some (some (.ref f16)))(i16:t6 K (.ref f16)=true)(l16:K.lookup f16=some ⟨oc16,od16,.func (Q5 "marks" "Order.marks" (R8 cN) (R0 cN) (C6 cN) .none kV16 dc16 pm16 an16 cd16 ct16),sl16⟩)(c16:V3 K cd16 "Order.marks"=true)(k16:R6 K (.ref f16)=true){f17:Addr}{od17 an17:Option Addr}{sl17:Array (Option Value)}{oc17 kV17 dc17 pm17 cd17 ct17:Value}(a17:O6 K (.ref C) "job"=some (some (.ref f17)))(i17:t6 K (.ref f17)=true)(l17:K.lookup f17=some ⟨oc17,od17,.func (Q5 "job" "Order.job" (R8 aY) (R0 aY) (C6 aY) .none kV17 dc17 pm17 an17 cd17 ct17),sl17⟩)(c17:V3 K cd17 "Order.job"=true)(k17:R6 K (.ref f17)=true)(d18:DF K "figures_at" cO)(d19:DF K "part_at" w5){f20:Addr}{od20 an20:Option Addr}{sl20:Array (Option Value)}{oc20 kV20 dc20 pm20 cd20 ct20:Value}{tD20:Addr}{nD20:Nat}{cD20:Value}{oD20:Option Addr}{sD20:Array (Option Value)}(dl20:K.lookup tD20=some ⟨cD20,oD20,.seq #[.bool false] nD20,sD20⟩)(a20:O2 K mainGlobals "cut"=some (some (.ref f20)))(l20:K.lookup f20=some ⟨oc20,od20,.func (Q5 "cut" "cut" (R8 s_cut) (R0 s_cut) (C6 s_cut) (.ref tD20) kV20 dc20 pm20 an20 cd20 ct20),sl20⟩)(c20:V3 K cd20 "cut"=true)(k20:R6 K (.ref f20)=true){f21:Addr}{od21 an21:Option Addr}{sl21:Array (Option Value)}{oc21 kV21 dc21 pm21 cd21 ct21:Value}(a21:O6 K (.ref C) "known"=some (some (.ref f21)))(i21:t6 K (.ref f21)=true)(l21:K.lookup f21=some ⟨oc21,od21,.func (Q5 "known" "Order.known" (R8 cP) (R0 cP) (C6 cP) .none kV21 dc21 pm21 an21 cd21 ct21),sl21⟩)(c21:V3 K cd21 "Order.known"=true)(k21:R6 K (.ref f21)=true){f22:Addr}{od22 an22:Option Addr}{sl22:Array (Option Value)}{oc22 kV22 dc22 pm22 cd22 ct22:Value}(a22:O6 K (.ref C) "steps"=some (some (.ref f22)))(i22:t6 K (.ref f22)=true)(l22:K.lookup f22=some ⟨oc22,od22,.func (Q5 "steps" "Order.steps" (R8 aZ) (R0 aZ) (C6 aZ) .none kV22 dc22 pm22 an22 cd22 ct22),sl22⟩)(c22:V3 K cd22 "Order.steps"=true)(k22:R6 K (.ref f22)=true)(d23:DF K "parts_of" iN)(d24:DF K "steps_by" iO)(d25:DF K "add_mark" iP)(d26:DF K "add_part" Z9)(d27:DF K "units" m8)(d28:DF K "first_numbers" iQ)(d29:DF K "first_level" bA)(d30:DF K "second_level" m9)(d31:DF K "third_level" iR)(d32:DF K "fourth_level" iS){f33:Addr}{od33 an33:Option Addr}{sl33:Array (Option Value)}{oc33 kV33 dc33 pm33 cd33 ct33:Value}{kD33:Tok}{tD33:Addr}{nD33:Nat}{cD33:Value}{oD33:Option Addr}{sD33:Array (Option Value)}(dl33:K.lookup tD33=some ⟨cD33,oD33,.seq #[.int 4 kD33] nD33,sD33⟩)(a33:O2 K mainGlobals "key"=some (some (.ref f33)))(l33:K.lookup f33=some ⟨oc33,od33,.func (Q5 "key" "key" (R8 s_key) (R0 s_key) (C6 s_key) (.ref tD33) kV33 dc33 pm33 an33 cd33 ct33),sl33⟩)(c33:V3 K cd33 "key"=true)(k33:R6 K (.ref f33)=true)(d34:DF K "_law_cell_at" iT)(d35:DF K "_law_sign" w6)(d36:DF K "_law_numbers" bB)(d37:DF K "_law_run" iU){f38:Addr}{od38 an38:Option Addr}{sl38:Array (Option Value)}{oc38 kV38 dc38 pm38 cd38 ct38:Value}(a38:O2 K mainGlobals "law"=some (some (.ref f38)))(l38:K.lookup f38=some ⟨oc38,od38,.func (Q5 "law" "law" (R8 s_law) (R0 s_law) (C6 s_law) .none kV38 dc38 pm38 an38 cd38 ct38),sl38⟩)(c38:V3 K cd38 "law"=true)(k38:R6 K (.ref f38)=true)(aC:O2 K mainGlobals "Order"=some (some (.ref C)))(pgC:gL K C Str.empty=true)(hdC:PySem.W.hasDictIn K C=true)(poC:PySem.W.plainOver K C=true)(saC:O6 K (.ref C) "__setattr__"=some (some (.builtin "object.__setattr__")))(mkC:PySem.W.makesIn K C=true)(kcC:R6 K (.ref C)=true)(nC_figures:O6 K (.ref C) "figures"=some none)(nC_behind:O6 K (.ref C) "behind"=some none)(nC_jobs:O6 K (.ref C) "jobs"=some none)(nC_letter_line:O6 K (.ref C) "letter_line"=some none)(nC_mark_line:O6 K (.ref C) "mark_line"=some none)(nC_made:O6 K (.ref C) "made"=some none)(z_abs:O2 K mainGlobals "abs"=some none)(z_any:O2 K mainGlobals "any"=some none)(z_dict:O2 K mainGlobals "dict"=some none)(z_enumerate:O2 K mainGlobals "enumerate"=some none)(z_int:O2 K mainGlobals "int"=some none)(z_len:O2 K mainGlobals "len"=some none)(z_list:O2 K mainGlobals "list"=some none)(z_min:O2 K mainGlobals "min"=some none)(z_ord:O2 K mainGlobals "ord"=some none)(z_str:O2 K mainGlobals "str"=some none)(z_tuple:O2 K mainGlobals "tuple"=some none)(z_zip:O2 K mainGlobals "zip"=some none){a_JOBS:Addr}{ep_JOBS:Nat}{h_JOBS_0:Int}{t_JOBS_0 u_JOBS_0:Tok}{h_JOBS_1:Int}{t_JOBS_1 u_JOBS_1:Tok}{h_JOBS_2:Int}{t_JOBS_2 u_JOBS_2:Tok}{h_JOBS_3:Int}{t_JOBS_3 u_JOBS_3:Tok}{h_JOBS_4:Int}{t_JOBS_4 u_JOBS_4:Tok}(y_JOBS:O2 K mainGlobals "JOBS"=some (some (.ref a_JOBS)))(d_JOBS:K.lookup a_JOBS=some { cls:=.type "dict",dict:=none,data:=.dict #[⟨h_JOBS_0,.str "row" t_JOBS_0,.str "letter" u_JOBS_0⟩,⟨h_JOBS_1,.str "marks" t_JOBS_1,.str "mark" u_JOBS_1⟩,⟨h_JOBS_2,.str "great" t_JOBS_2,.str "great" u_JOBS_2⟩,⟨h_JOBS_3,.str "as" t_JOBS_3,.str "as" u_JOBS_3⟩,⟨h_JOBS_4,.str "over" t_JOBS_4,.str "over" u_JOBS_4⟩] ep_JOBS,slots:=#[] })(s_JOBS:(a_JOBS==sysModules)=false)(e_JOBS_0:h_JOBS_0=keyH w (Sum.inr ("row" : Str)))(e_JOBS_1:h_JOBS_1=keyH w (Sum.inr ("marks" : Str)))(e_JOBS_2:h_JOBS_2=keyH w (Sum.inr ("great" : Str)))(e_JOBS_3:h_JOBS_3=keyH w (Sum.inr ("as" : Str)))(e_JOBS_4:h_JOBS_4=keyH w (Sum.inr ("over" : Str))){a_AGAIN:Addr}{n_AGAIN:Nat}{od_AGAIN:Option Addr}{sl_AGAIN:Array (Option Value)}{t_AGAIN_0:Tok}{t_AGAIN_1:Tok}{t_AGAIN_2:Tok}(y_AGAIN:O2 K mainGlobals "AGAIN"=some (some (.ref a_AGAIN)))(d_AGAIN:K.lookup a_AGAIN=some ⟨.type "tuple",od_AGAIN,.seq #[.str "letter" t_AGAIN_0,.str "mark" t_AGAIN_1,.str "over" t_AGAIN_2] n_AGAIN,sl_AGAIN⟩){tMARK tLETTER tFIGURES:Tok}(y_MARK:O2 K mainGlobals "MARK"=some (some (.int 0 tMARK)))(y_LETTER:O2 K mainGlobals "LETTER"=some (some (.int 2 tLETTER)))(y_FIGURES:O2 K mainGlobals "FIGURES"=some (some (.int 1 tFIGURES)))
  : ∃ fd:FuncData,(∀ (s:Shared) (v:Value),BindsTo s fd ⟨[v],[]⟩ [("_law_script",v)])/\∀ base:Heap,K.In base->base.Ns mainGlobals mg->FnOk l.prog w K mg base E1 8 fa fd ["_law_script"] (spLaw K):=by
 have e:=nW.symm.trans (Z2 X G a38);cases e;have T:Txt l.prog w K mg C:=⟨⟨pgC,hdC,poC,saC⟩,nC_figures,nC_behind,nC_jobs,nC_letter_line,nC_mark_line,nC_made,Z1 X G z_abs,Z1 X G z_any,Z1 X G z_dict,Z1 X G z_enumerate,Z1 X G z_int,Z1 X G z_len,Z1 X G z_list,Z1 X G z_min,Z1 X G z_ord,Z1 X G z_str,Z1 X G z_tuple,Z1 X G z_zip,⟨_,Z2 X G y_MARK⟩,⟨_,Z2 X G y_LETTER⟩,⟨_,Z2 X G y_FIGURES⟩,⟨_,Z2 X G y_JOBS,amf d_JOBS s_JOBS (.cons ⟨dR _ _,e_JOBS_0,⟨_,rfl⟩⟩ ( .cons ⟨dR _ _,e_JOBS_1,⟨_,rfl⟩⟩ ( .cons ⟨dR _ _,e_JOBS_2,⟨_,rfl⟩⟩ ( .cons ⟨dR _ _,e_JOBS_3,⟨_,rfl⟩⟩ ( .cons ⟨dR _ _,e_JOBS_4,⟨_,rfl⟩⟩ ( .nil)))))) (by decide +kernel)⟩,⟨_,Z2 X G y_AGAIN,fun H=>.inr ⟨_,_,_,d_AGAIN,rfl,rfl,(by show 3<=sizeLine;decide),.cons ⟨_,rfl⟩ ( .cons ⟨_,rfl⟩ ( .cons ⟨_,rfl⟩ ( .nil)))⟩⟩⟩
 have F14:=k9 (st:=aX) l14 c14;have F15:=k9 (st:=cM) l15 c15;have F16:=k9 (st:=cN) l16 c16;have F17:=k9 (st:=aY) l17 c17;have F20:=k9 (st:=s_cut) l20 c20;have F21:=k9 (st:=cP) l21 c21;have F22:=k9 (st:=aZ) l22 c22;have F33:=k9 (st:=s_key) l33 c33;have F38:=k9 (st:=s_law) l38 c38;refine ⟨Q5 "law" "law" (R8 s_law) (R0 s_law) (C6 s_law) .none kV38 dc38 pm38 an38 cd38 ct38,fun s v=>.of_eq rfl,fun base hb hn=>?_⟩;have G_told:=d0.go X G hb fun F=>amI F T
 have G_followers:=d1.go X G hb fun F=>af3 F T G_told
 have G_count_ahead:=d2.go X G hb fun F=>ad5 F T
 have G_lined_up:=d3.go X G hb fun F=>agC F T G_followers G_count_ahead
 have G_is_figure:=d4.go X G hb fun F=>af5 F T
 have G_has_rule:=d5.go X G hb fun F=>agF F T
 have G_pieces_told:=d6.go X G hb fun F=>ad7 F T
 have G_is_clash:=d7.go X G hb fun F=>agH F T G_is_figure
 have G_jobs_of:=d8.go X G hb fun F=>ahW F T G_has_rule G_pieces_told G_is_clash
 have G_misused:=d9.go X G hb fun F=>ahX F T
 have G_check_letters:=d10.go X G hb fun F=>adk F T G_misused
 have G_line_of:=d11.go X G hb fun F=>ahZ F T G_lined_up
 have G_forms_of:=d12.go X G hb fun F=>agI F T
 have G_steps_of:=d13.go X G hb fun F=>agJ F T G_forms_of
 have G_Order___init__:KO l.prog w K mg base 5 C "Order" ["self", "rules"] (qL C):=⟨_,_,adf F14 T G_has_rule G_jobs_of G_check_letters G_line_of G_steps_of,⟨mkC,a14,i14,kcC⟩,Z2 X G aC,.all (len2 fun _ _=>rfl)⟩
 have G_Order_letters:MO l.prog w K mg base 1 C "letters" ["self"] (yW C):=⟨_,_,adm F15 T,T.cl,⟨a15,i15,k15⟩,.all (len1 fun _=>rfl)⟩
 have G_Order_marks:MO l.prog w K mg base 1 C "marks" ["self"] (yX C):=⟨_,_,ad9 F16 T,T.cl,⟨a16,i16,k16⟩,.all (len1 fun _=>rfl)⟩
 have G_Order_job:MO l.prog w K mg base 1 C "job" ["self", "piece"] (yY C):=⟨_,_,af8 F17 T,T.cl,⟨a17,i17,k17⟩,.all (len2 fun _ _=>rfl)⟩
 have G_figures_at:=d18.go X G hb fun F=>ae8 F T G_is_figure
 have G_part_at:=d19.go X G hb fun F=>ah0 F T G_is_figure G_figures_at
 have G_cut:FO l.prog w K mg base 4 "cut" ["known", "text", "figures"] [.bl false] (mI K):=⟨_,_,ak8 F20 T G_part_at,Z2 X G a20,k20,[.bool false],(fun s us L6 hl=>by obtain ⟨u1,u2,rfl⟩:=zI hl;exact PySem.W.binds_K L6 rfl dl20 rfl rfl rfl),.cons rfl .nil⟩
 have G3_cut:FO l.prog w K mg base 4 "cut" ["known", "text", "figures"] [] (mI K):=⟨_,_,ak8 F20 T G_part_at,Z2 X G a20,k20,[],(fun s us L6 hl=>by obtain ⟨u1,u2,u3,rfl⟩:=zO hl;exact PySem.W.binds_K L6 rfl dl20 rfl rfl rfl),.nil⟩
 have G_Order_known:MO l.prog w K mg base 1 C "known" ["self"] (qQ C):=⟨_,_,aeb F21 T,T.cl,⟨a21,i21,k21⟩,.all (len1 fun _=>rfl)⟩
 have G_Order_steps:MO l.prog w K mg base 1 C "steps" ["self", "piece"] (mJ C):=⟨_,_,aed F22 T,T.cl,⟨a22,i22,k22⟩,.all (len2 fun _ _=>rfl)⟩
 have G_parts_of:=d23.go X G hb fun F=>agL F T G3_cut G_Order_known
 have G_steps_by:=d24.go X G hb fun F=>agN F T G_is_figure G_Order_steps
 have G_add_mark:=d25.go X G hb fun F=>agP F T
 have G_add_part:=d26.go X G hb fun F=>agQ F T G_steps_by G_add_mark
 have G_units:=d27.go X G hb fun F=>akD F T G_parts_of G_add_part
 have G_first_numbers:=d28.go X G hb fun F=>ado F T
 have G_first_level:=d29.go X G hb fun F=>aee F T G_first_numbers
 have G_second_level:=d30.go X G hb fun F=>adZ F T
 have G_third_level:=d31.go X G hb fun F=>aeg F T
 have G_fourth_level:=d32.go X G hb fun F=>ad1 F T
 have G_key:FO l.prog w K mg base 7 "key" ["order", "text", "strength"] [.int 4] (spKey C):=⟨_,_,ak9 F33 T G_units G_first_level G_second_level G_third_level G_fourth_level,Z2 X G a33,k33,[.int 4 _],(fun s us L6 hl=>by obtain ⟨u1,u2,rfl⟩:=zI hl;exact PySem.W.binds_K L6 rfl dl33 rfl rfl rfl),.cons ⟨_,rfl⟩ .nil⟩
 have G3_key:FO l.prog w K mg base 7 "key" ["order", "text", "strength"] [] (spKey C):=⟨_,_,ak9 F33 T G_units G_first_level G_second_level G_third_level G_fourth_level,Z2 X G a33,k33,[],(fun s us L6 hl=>by obtain ⟨u1,u2,u3,rfl⟩:=zO hl;exact PySem.W.binds_K L6 rfl dl33 rfl rfl rfl),.nil⟩
 have G_l_cell_at:=d34.go X G hb fun F=>aga F T
 have G_l_sign:=d35.go X G hb fun F=>ajr F T G_l_cell_at
 have G_l_numbers:=d36.go X G hb fun F=>agb F T G_l_cell_at
 have G_l_run:=d37.go X G hb fun F=>akF F T
 exact aov F38 T G_Order___init__ G_key G3_key G_l_cell_at G_l_sign G_l_numbers G_l_run
theorem walk{l:PySem.W.OpenLaw}{q:Program}{XP:(Str->Option Value)->Heap->Prop}{YP:World->Heap->Prop}{d:DefRec}{K:Params->PySem.W.Frag}(hn:l.most=some 63)(o0:d.params.defaults=[])(hY:∀ (w:World) (h:Heap),YP w h->(K w.params).In h)(F:∀ (w:World) (mg:Str->Option Value) (fa:Addr) (h:Heap),(K w.params).In h->h.Ns mainGlobals mg->mg d.name=some (.ref fa)->
   ∃ fd:FuncData,(∀ (s:Shared) (u:Value),BindsTo s fd ⟨[u],[]⟩ [("_law_script",u)])/\∀ base:Heap,(K w.params).In base->base.Ns mainGlobals mg->FnOk l.prog w (K w.params) mg base E1 8 fa fd ["_law_script"] (spLaw (K w.params))) :
  PySem.W.WalkO q loose XP YP l.row.toRowW d [] (fun f vs=>PySem.call f vs):=
 L2.walk_of (n:=63) (k:=8) (x:="_law_script") (CX:=fun _=>E1) (sp:=fun w=>spLaw (K w.params)) hn (by decide) o0 ⟨rfl,by decide,by decide,rfl⟩ hY F (fun _ _ a ns hl _ hS=>⟨a,ns,rfl,hS,hl,fun _=>rfl⟩) fun _ _ _ _ _ z=>z
end K35
open PySem PySem.W PyProof.Rows
set_option maxRecDepth 100000 in
set_option maxHeartbeats 0 in
theorem PySem.Challenge.cw_sortlore_k35_worth_of_figures_holds : PySem.Challenge.rw_sortlore_k35_worth_of_figures.Holds := by
 w_on;o_law;k_head;(case hw=>w_witness2)
 k_fill
 refine K35.walk (l:=PySem.Challenge.rw_sortlore_k35_worth_of_figures) rfl rfl (fun w h zy=>PySem.W.kIn_of zy) ?F
 case F=>
  intro w mg fa h KX G jJ
  refine' K35.all_mk KX G jJ ?d0 ?d1 ?d2 ?d3 ?d4 ?d5 ?d6 ?d7 ?d8 ?d9 ?d10 ?d11 ?d12 ?d13 ?a14 ?i14 ?l14 ?c14 ?k14 ?a15 ?i15 ?l15 ?c15 ?k15 ?a16 ?i16 ?l16 ?c16 ?k16 ?a17 ?i17 ?l17 ?c17 ?k17 ?d18 ?d19 ?dl20 ?a20 ?l20 ?c20 ?k20 ?a21 ?i21 ?l21 ?c21 ?k21 ?a22 ?i22 ?l22 ?c22 ?k22 ?d23 ?d24 ?d25 ?d26 ?d27 ?d28 ?d29 ?d30 ?d31 ?d32 ?dl33 ?a33 ?l33 ?c33 ?k33 ?d34 ?d35 ?d36 ?d37 ?a38 ?l38 ?c38 ?k38 ?aC ?pgC ?hdC ?poC ?saC ?mkC ?kcC ?nC_figures ?nC_behind ?nC_jobs ?nC_letter_line ?nC_mark_line ?nC_made ?z_abs ?z_any ?z_dict ?z_enumerate ?z_int ?z_len ?z_list ?z_min ?z_ord ?z_str ?z_tuple ?z_zip ?y_JOBS ?d_JOBS ?s_JOBS ?e_JOBS_0 ?e_JOBS_1 ?e_JOBS_2 ?e_JOBS_3 ?e_JOBS_4 ?y_AGAIN ?d_AGAIN ?y_MARK ?y_LETTER ?y_FIGURES
  any_goals (refine' K35.df_mk ?da ?dl ?dc ?dk;(case da=>k_is);(case dl=>k_is);(case dc=>k_is);(case dk=>k_is))
  (case aC=>k_is)
  (case a14=>k_is)
  (case i14=>k_is)
  (case l14=>k_is)
  (case c14=>k_is)
  (case k14=>k_is)
  (case a15=>k_is)
  (case i15=>k_is)
  (case l15=>k_is)
  (case c15=>k_is)
  (case k15=>k_is)
  (case a16=>k_is)
  (case i16=>k_is)
  (case l16=>k_is)
  (case c16=>k_is)
  (case k16=>k_is)
  (case a17=>k_is)
  (case i17=>k_is)
  (case l17=>k_is)
  (case c17=>k_is)
  (case k17=>k_is)
  (case a20=>k_is)
  (case l20=>k_is)
  (case c20=>k_is)
  (case k20=>k_is)
  (case a21=>k_is)
  (case i21=>k_is)
  (case l21=>k_is)
  (case c21=>k_is)
  (case k21=>k_is)
  (case a22=>k_is)
  (case i22=>k_is)
  (case l22=>k_is)
  (case c22=>k_is)
  (case k22=>k_is)
  (case a33=>k_is)
  (case l33=>k_is)
  (case c33=>k_is)
  (case k33=>k_is)
  (case a38=>k_is)
  (case l38=>k_is)
  (case c38=>k_is)
  (case k38=>k_is)
  (case pgC=>k_is)
  (case hdC=>k_is)
  (case poC=>k_is)
  (case saC=>k_is)
  (case mkC=>k_is)
  (case kcC=>k_is)
  (case nC_figures=>k_is)
  (case nC_behind=>k_is)
  (case nC_jobs=>k_is)
  (case nC_letter_line=>k_is)
  (case nC_mark_line=>k_is)
  (case nC_made=>k_is)
  (case z_abs=>k_is)
  (case z_any=>k_is)
  (case z_dict=>k_is)
  (case z_enumerate=>k_is)
  (case z_int=>k_is)
  (case z_len=>k_is)
  (case z_list=>k_is)
  (case z_min=>k_is)
  (case z_ord=>k_is)
  (case z_str=>k_is)
  (case z_tuple=>k_is)
  (case z_zip=>k_is)
  (case y_JOBS=>k_is)
  (case d_JOBS=>k_is)
  (case s_JOBS=>rfl)
  (case e_JOBS_0=>rfl)
  (case e_JOBS_1=>rfl)
  (case e_JOBS_2=>rfl)
  (case e_JOBS_3=>rfl)
  (case e_JOBS_4=>rfl)
  (case y_AGAIN=>k_is)
  (case d_AGAIN=>k_is)
  (case y_MARK=>k_is)
  (case y_LETTER=>k_is)
  (case y_FIGURES=>k_is)
  (case dl20=>k_is)
  (case dl33=>k_is)
