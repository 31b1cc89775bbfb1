import PyProof.Rows.All
import Wide.All
import OpenK.AllK
import Wide.FinOn
import Lean
import PyProof.EqAt
import PyProof.EqKinds
import PyProof.TupleCall
import PySem.Challenge.RW_sortlore_k42_whole_keys_put_texts
set_option compiler.extract_closed false
local macro_rules | `(tactic| walk_at "o")=>`(tactic| first | lia | omega)
open List renaming length_map → A6, length_append → C5, getElem?_eq_some_iff → G1, mem_singleton → E6, map_append → D8, mem_append → E1, length_take → E7, getElem?_eq_getElem → K8, mem_map → D3, take_length → G4, mem_cons_of_mem → M3, mem_of_getElem? → M9, length_cons → K3, length_singleton → N5, mem_cons → F9, size_toArray → L5, mem_cons_self → M4, append_nil → L1, map_cons → K4, append_assoc → O3, mem_append_left → R7, take_append_drop → T9, mem_append_right → U0, mem_filter → Q0, flatMap_cons → U1, flatMap_append → X4, mem_iff_getElem → Y9, getElem?_map → V7, nodup_cons → U8, length_drop → W2, drop_eq_getElem_cons → y7, mem_flatMap → X5, cons_lt_cons_iff → p9, take_of_length_le → y8, replicate → X6, nodup_iff_pairwise_ne → cQ, getD_eq_getElem?_getD → cR, length_eq_zero_iff → aS, length_nil → b0, take_zero → b8, take_add_one → q0, getElem?_append_right → eW, map_map → X7, pairwise_iff_getElem → eX, getElem?_take_of_lt → eY, find?_cons → q9, nodup_append → aT, foldl_append → aU, map_take → k5, getElem?_append_left → iL, idxOf_lt_length_iff → iM, filter_append → cS, mem_of_mem_take → eZ, zipWith → k6, length → i3, filterMap_cons → fA, countP_cons → cT, mem_filterMap → fB, map_drop → y9, flatten_cons → fC, replicate_succ → iN, map_congr_left → iO, filter_cons_of_pos → lJ, filter_cons_of_neg → lK, any_cons → aV, cons_append → fD, cons → b9, filter_eq_nil_iff → lL, drop_of_length_le → lM, drop_eq_nil_of_le → lN, not_lt_nil → fE, length_filter_le → lO, reverse_cons → iP, mem_take_iff_getElem → qF, flatMap_nil → iQ, length_reverse → lP, length_pos_iff → lQ, flatten_append → lR, filter_eq_self → lS, getElem_idxOf → lT, lookup → cU, mem_range → iR, getElem?_eq_none → qG, not_mem_nil → lU, getElem_mem → lV, any_eq_true → lW
open Nat renaming le_refl → C2, zero_le → G2, le_trans → L3, lt_of_lt_of_le → R8, ne_of_lt → O6, le_add_right → z0, lt_irrefl → r0, min_eq_left → cV, lt_of_le_of_lt → iS, min_le_left → iT, lt_trichotomy → lX
open PySem.F renaming plainAttrs_list → Q1, type_list_append → U9, slot_list_append → V0, slot_dict_get → iU, type_list_extend → qH, slot_list_extend → qI, plainAttrs_str → qJ, entry_dict_get → qK, type_str_join → qL, slot_str_join → qM
open Bool renaming false_ne_true → N2, and_eq_true → T4, eq_iff_iff → fF, false_xor → fG, not_eq_true → lY
open PySem.W renaming findIn → R9, nsIn → Q7, keepIn → V8, fnOf → U3, mg_none_of → k7, codeIn → X8, mg_of → c0, emptyDict → aW, instObj → cW, isFn → aX, binds_K → iV, plainGet → lZ
open PySem.PyData renaming strOk → V1, eqv → Q9, eqvAll → X9, depthAll → z8, depth → k8, int → aY
open Int renaming emod_lt_of_pos → k9, emod_nonneg → i4, zero_add → i5, natCast_nonneg → fH, lt_irrefl → cX, le_refl → cY
open Array renaming length_toList → fI
open PySem.NumText renaming digitsVal → mB
set_option Elab.async false
set_option linter.all false
set_option maxRecDepth 100000
noncomputable section
set_option genInjectivity false in
set_option genSizeOf false in
structure PySem.W.Fast where (tw3838570984848328232 tw2115200684421324759 tw4362716870272813308 tw8506533105247421827 tw1504283077119025759 tw12893664019191741813 tw12396566086748828555 tw16455420845695542814 tw9195110639694256559 tw16040199723572834528 tw8585108766114259563 tw3684683323264503036 tw13716671514380718086 tw14246608621755974147 tw4783483694706759766 tw8111854468826928304 tw18153355923237521219 tw9023970949460049825 tw12040595532609625033 tw2616300503319256800 tw2971889888986774962 tw16122428406483681438 tw11156497314828057167 tw16235940285749954605 tw8293173011180120989 tw12293729744649505543 tw13461562145947226862 tw14447124129281639820 tw9992464894641246017 tw11780496888472333542 tw5081376385464194400 tw4755367005647206730 tw12448726284516634325 tw812611033829773059 tw10849734643481115232 tw13169285272450809751 tw15101421627689666354 tw17745388616872599760 tw4359242247724958677
tw17845549487502039019 tw14167017496459246666 tw9315896769500142063 tw6475637078930772774 tw13038546171580066350 tw4708748175811711136 tw18043780064550467927 tw7120599421813592727 tw4911238254217612581 tw5681367203541032399 tw1112686301760912662 tw16477496012864833312 tw7019638424698479042 tw9462809143267534982 tw14849753376428134095 tw8279087081385642451 tw9935158132535777978 tw6353284519483789805 tw4629531445939616951 tw3776384396931787208 tw9822016530537775121 tw7795709622657835936 tw3229389527709006003 tw4664458947261213031 tw3461213297039401678 tw2632130763893188892 tw2828768084068586695 tw17268422912934800101 tw4436420262925847256 tw8821936212193771311 tw18357708635407295295 tw13148521494322098451 tw4332626543744481596 tw15682530038640610253 tw14552658993758470251 tw7301833829729105142 tw2073193110787803287 tw3796750061945343310 tw9761397501475366502 tw11240839562655152656
tw4900312293380109382 tw12347356816550829755 tw14391923513119352928 tw1864570275070328022 tw9152145815243917473 tw4356325130608708805 tw12648721869676211726 tw8304642153376430348 tw17682041548156763443 tw15677127256500305325 tw2524353592335986966 tw10789402700005682323 tw17695467427982466958 tw55406138434063173 tw10939303432723192209 tw17860582152477376417 tw12517146625859001526 tw15224610310346910836 tw14604937085514386219 tw6517142986317262228 tw8199729650853292732 tw1039584267234697491 tw3199493038446496139 tw832019372180582331 tw6437903741562672775 tw6143106224946063003 tw13684906776283338382 tw1934478118783162622 tw11001763388420104347 tw9911708651686897750 tw10399951417057526081 tw6195435525720038533 tw8521027016920085158 tw17768761884591635778 tw628078493407387957 tw13036417845149689446 tw4585880541552590091 tw17650021942540518807 tw18341610009585657040 tw1170841781803216501
tw11503911728201424130 tw13824634034070517353 tw8181151333334544574 tw6239628551177489752 tw1597980384032932594 tw4244189310898522524 tw1046440985419854609 tw16888734317070082544 tw4966987492543027117 tw5379639006113243080 tw14266964332431288628 tw15422285308734435904 tw15184717531945288330 tw12112711443228932883 tw14344838443836348584 tw14535078618823225850 tw5493893755446713809 tw8803902613202893037 tw4216228603428045553 tw5728271580096784810 tw13329651378923628314 tw13227685942462172135 tw13605300864514560025 tw4708294774265019354 tw16123692746285496631 tw13611005250727558992 tw11015631089588850372 tw10451135313298366533 tw12276975347354351301 tw2343454659225529432 tw12099106545027658723 tw3090401971435369812 tw4014153352496209872 tw4206544203287454043 tw1862206061164474312 tw4291529131007498699 tw10565932388108007610 tw9494873958057101638 tw7057738533189838266 tw4175837707505355364
tw3439602725745384300 tw1895324775416781733 tw5510109267186049133 tw7120907113667441125 tw13275403780874522680 tw9060867484381171551 tw11459710753987790134 tw12562092158831387875 tw2380819643505027186 tw8291890937625266124 tw13130792522996841744 tw14799204692317846577 tw9674507920260738329 tw2659590790138678040 tw17528595075597228478 tw15911829673804814576 tw10516674262201047132 tw5418035234265508073 tw2867500937144928694 tw15007890869540282633 tw10761645324425134927 tw17564111235845521209 tw2031382130321682394 tw15225009248417119028 tw1042270830067460188 tw13805395595354182003 tw2976725739123553555 tw3554194974650565029 tw11747786254796635231 tw11164127814439049524 tw7376994632280897613 tw16973974244826443924 tw14228117453357742085 tw16698086883662730382 tw12710210159911136785 tw6832782905018641255 tw7729527491391645916 tw4982600615994363372 tw425052950166386703 tw4119550922522151111
tw5381330215165666039 tw7051609014602658769 tw11409697616012282606 tw15106519075127377705 tw16795371763866433469 tw15668793263232323431 tw14220355252313277789 tw14294237214266683077 tw3786191140685190027 tw18040219516371987790 tw15141325516058136896 tw8073319460787588090 tw15500072624492947438 tw18351304794715827745 tw14837533262204970309 tw4527167823359521998 tw9457370899734730493 tw13488562855408910393 tw15231384631566128713 tw9198821078569293678 tw5416350592445499629 tw5926830247628250300 tw6089740744392667785 tw18434810135048392775 tw3439280215177760271 tw3412027441105067619 tw15665222194961494681 tw10299443375857926647 tw6499497458254060508 tw17588382273766032823 tw4630305651682000652 tw10541979960502340174 tw615197051651767908 tw9363702273991012544 tw16925960761900527191 tw8628054807986611123 tw11290113000122582362 tw13205917213028553248 tw13432774803909376543 tw16234013627278364608
tw10743956610720203884 tw7578795540546407578 tw2294079290607989039 tw8983407419639556003 tw3098685664670272149 tw5208123878752556466 tw12766477115807263048 tw2051940613204028375 tw12457315517584551566 tw12333537555314694468 tw9170974774268402600 tw8078364004855232977 tw674245801487533977 tw427028475070844095 tw2790133592787695657 tw619443285081771028 tw589519345746246483 tw7899942575461370074 tw4897741898733372813 tw11293535822966151285 tw12188699657587395675 tw7201987620725223783 tw10669280642401271510 tw3859654321840515310 tw14339916874066828270 tw14240767692475922868 tw9598794264957849352 tw1306493306275395400 tw5939908633930996366 tw886034828504044274 tw3300036884606476472 tw10810022626541760067 tw9123156590458708581 tw16401223541594205927 tw14814451635256282895 tw17468462659044571823 tw3865961373256141408 tw13988136463772247743 tw11425757844157498016 tw2913761628047302820
tw6367039300675509631 tw12406321492070892561 tw8001178044653601958 tw14919836844886384605 tw6952921871730857075 tw10054588787817813978 tw3919082178421121132 tw4662086119522063439 tw11696630959803297285 tw17743793678692552154 tw7302058264622324108 tw17180590184409434450 tw11733538735728626627 tw4478560873152027907 tw10639558118066749342 tw17517092448876506343 tw14060715207993744188 tw3257428141443299573 tw9991705526285653024 tw11449560893650404567 tw4219466370458195231 tw13921285498793171290 tw2914126107581861212 tw4094252376306804383 tw5772603885125763935 tw14943779593391258592 tw17497068609368054157 tw10027861890594228308 tw10526207641730126956 tw1147922927663223702 tw2464637887786589950 tw17497048312598167575 tw17787845601922739918 tw5834915575604628893 tw14348214957789004511 tw17606520817923566538 tw8341836703573541128 tw9315602037594794575 tw5780340489882436939 tw3588291397419054205
tw10207364305070748784 tw17306688073989189982 tw9810686550599556901 tw15812419175974706278 tw7019682896270326440 tw429564925214403495 tw4608015437708737127 tw1290759788112443958 tw12960133975230678703 tw11077325581113987849 tw13591735298210736122 tw10849740739989118780 tw13578340351188760809 tw1286629144463015943 tw1742154493827567314 tw4899830053357238276 tw9911671067959418120 tw6284417413350081515 tw980548715353359739 tw14897706838473211902 tw7951293168748156522 tw2892435846050804946 tw18225732339339287920 tw15910431025923965061 tw11089868107263075808 tw4455659166300874427 tw10739979546304988450 tw14152514375320069929 tw6085791728253752655 tw4566051557299521882 tw13852529796034378488 tw15416356489771894816 tw7654271446595023682 tw5540046277597460991 tw15282114494995381955 tw9756295459308077937 tw17646555148837292513 tw11241239215244321660 tw3669895551890678470 tw1340097073852659376
tw12695141843086301754 tw9071561419381525027 tw14467867530196799622 tw135803100947955118 tw8548338869653273993 tw16594819667665841029 tw8211152846294472916 tw2663855765502785953 tw17585013151696284742 tw17983217900302981224 tw7882423743703108014 tw13296808808672040390 tw5035722716634426915 tw6862207268772626359 tw17658624794615066859 tw1311247257613127022 tw6403618896188717894 tw15794924300837433334 tw10086585467296108382 tw3521481988567992209 tw10927311241881957245 tw16233790676455664046 tw9020943524583451147 tw2466840300356511404 tw5506414574954415107 tw15944540524172162459 tw9303187047390231073 tw6851869862545263425 tw414471327383283777 tw9610899279451392800 tw13594379727554040814 tw3345960030810364490 tw13750428549076541570 tw10105812808527255406 tw7663619384041837026 tw11363825755995666044 tw14093050008187574947 tw11464030104254418109 tw2015255099326155069 tw6783200611033140721
tw3996607982307291647 tw11890684152573792735 tw5852562098536801441 tw12038019382622432560 tw14651506998955849310 tw9652175043588107169 tw13336496321465683925 tw16129208998403725289 tw14860218290627630629 tw1877757561102347738 tw11017001447505821411 tw16199884598553827361 tw5983150460392646750 tw13477176360096845367 tw2936600786693899042 tw17382461609373073800 tw4487962041279477339 tw9269071193687457630 tw11140507978186858021 tw1140246893033525392 tw11134113775877999373 tw1762657405357252088 tw15817774071764189060 tw14626911838028739763 tw6337993605803043891 tw6103008458617707027 tw10266787777382588315 tw14944223213604379259 tw13780179721977950206 tw13175138910272812263 tw7495895797607770052 tw12595880762900451950 tw17423820017072216182 tw16652327779100851349 tw8501374302884006754 tw2843042509170074872 tw9952682209839705353 tw7532986742335550867 tw16577967828874222761 tw13079468990285967950
tw13446245461969043256 tw11406418615127943157 tw6367954434230560071 tw12295212935098655766 tw10708175521164820716 tw6819043575403168931 tw11696808400878515199 tw18105860441232388131 tw16287940187750164659 tw5993384113259918993 tw14480057355080528061 tw5029546491379832599 tw2740865683157664529 tw1784340166415551859 tw7260353007302316726 tw4314336189219266595 tw13133592077251800439 tw12606712340809128292 tw15105226993949330069 tw2706187010489096446 tw5106453462342627715 tw12570339660134195910 tw7982819144542879359 tw12089076977702434127 tw1489113908844446621 tw6714287269340144373 tw7902757944845797490 tw16030553128610685187 tw64845484419165007 tw15321491160710551640 tw14403127062907116784 tw16736650955137417274 tw5792089160624419718 tw4699948884002058635 tw5934166613617701462 tw11035398878009501941 tw10283057039819938105 tw12638895916336040145 tw10594218196378574312 tw15396950865469558431
tw12821555605134092873 tw14915710201850567058 tw13325956399385911960 tw556051661855949329 tw6135317646381033200 tw15210869083016158786 tw7103144544505550144 tw16235090468181151286 tw3058260194351134011 tw9333719236657144090 tw2621123058091654758 tw8378048124216104668 tw355068425735424943 tw744438445091548816 tw14862662048485700961 tw971931318315835888 tw1271995140425121700 tw11120709630925780378 tw542869452886801309 tw5794940506076999497 tw13986985752226812803 tw9048856992653278747 tw6602545427034061763 tw5246458508836703353 tw9047237885713412484 tw5254269453049823194 tw796092035241948156 tw1822588197971898384 tw12464351198524742646 tw1228736453192141709 tw11819675663605361553 tw13867087914759167478 tw11182862363453610946 tw5980627981671558986 tw4786765248396269671 tw11751948901895476378 tw2599964704259609427 tw3226329670591551743 tw13892523367727049750 tw17877630707677551555
tw503909826263476810 tw13072401387980072921 tw5845725136729186043 tw8289563520377622009 tw9390746936107216730 tw12831377133692415944 tw5964900313655344909 tw14644185873675828478 tw18299235724704317738 tw9404248210982985610:Nat)
set_option maxRecDepth 100000
namespace L2
open PySem PySem.Spec PyProof.Rows
noncomputable abbrev C6:=Sum Int Str
noncomputable def keyIs:C6->Value->Bool
 | .inl k,v=>Value.isInt k v
 | .inr x,v=>Value.isStrOf x v
noncomputable def keyH (w:World):C6->Int
 | .inl k=>hashInt k
 | .inr x=>hashStr w x
theorem r8:∀ {k:C6} {v:Value},keyIs k v=true->(∃ i t,k=Sum.inl i/\v=Value.int i t)\/(∃ x t,k=Sum.inr x/\v=Value.str x t)
 | .inl i,v,h=>by
  obtain ⟨t,e⟩:=Value.isInt_shape (k:=i) (v:=v) h;exact .inl ⟨i,t,rfl,e⟩
 | .inr x,v,h=>by
  obtain ⟨t,e⟩:=Value.isStrOf_shape (x:=x) (v:=v) h;exact .inr ⟨x,t,rfl,e⟩
theorem ajY(i:Int)(t:Tok):keyIs (.inl i) (.int i t)=true:=by simp [keyIs,Value.isInt]
theorem iW(x:Str)(t:Tok):keyIs (.inr x) (.str x t)=true:=by simp [keyIs,Value.isStrOf]
theorem aqb(a b:Int):decide ((Sum.inl a:C6)=Sum.inl b)=(a==b):=by
 by_cases e:a=b
 ·subst e;simp
 ·have h:¬ (Sum.inl a:C6)=Sum.inl b:=fun q=>e (Sum.inl.inj q)
  rw [decide_eq_false h];exact (beq_eq_false_iff_ne.mpr e).symm
theorem aqc(a b:Str):decide ((Sum.inr a:C6)=Sum.inr b)=decide (a=b):=by
 by_cases e:a=b
 ·subst e;simp
 ·have h:¬ (Sum.inr a:C6)=Sum.inr b:=fun q=>e (Sum.inr.inj q)
  rw [decide_eq_false h,decide_eq_false e]
theorem aqd(a:Int)(b:Str):decide ((Sum.inl a:C6)=Sum.inr b)=false:=decide_eq_false (fun q=>nomatch q)
theorem aqe(a:Str)(b:Int):decide ((Sum.inr a:C6)=Sum.inl b)=false:=decide_eq_false (fun q=>nomatch q)
noncomputable def P3 (prog:Program) (w:World):PySem.KeyKind prog w C6 where
 is:=keyIs
 hash:=keyH w
 inj:=fun v a b ha hb=>by
  rcases r8 ha with ⟨i,t,rfl,rfl⟩ | ⟨x,t,rfl,rfl⟩
  ·rcases r8 hb with ⟨j,u,rfl,e⟩ | ⟨y,u,rfl,e⟩
   ·injection e with e1 _;rw [e1]
   ·exact nomatch e
  ·rcases r8 hb with ⟨j,u,rfl,e⟩ | ⟨y,u,rfl,e⟩
   ·exact nomatch e
   ·injection e with e1 _;rw [e1]
 byValue:=fun k v h=>by
  rcases r8 h with ⟨i,t,rfl,rfl⟩ | ⟨x,t,rfl,rfl⟩ <;> rfl
 pyHash:=fun hv h=>by
  rcases r8 hv with ⟨i,t,rfl,rfl⟩ | ⟨x,t,rfl,rfl⟩
  ·exact wpAny_pyHash_int h
  ·exact wpAny_pyHash_str h
 eqBool:=fun hu hv h=>by
  rcases r8 hu with ⟨i,t,rfl,rfl⟩ | ⟨x,t,rfl,rfl⟩
  ·rcases r8 hv with ⟨j,u,rfl,rfl⟩ | ⟨y,u,rfl,rfl⟩
   ·rw [aqb] at h;exact wpAny_eqBool_int h
   ·rw [aqd] at h;exact SeqAt.EqAt.int_str i t y u _ _ _ _ h
  ·rcases r8 hv with ⟨j,u,rfl,rfl⟩ | ⟨y,u,rfl,rfl⟩
   ·rw [aqe] at h;exact SeqAt.EqAt.str_int x t j u _ _ _ _ h
   ·rw [aqc] at h;exact wpAny_eqBool_str h
 «strs»:=fun k x t v h=>by
  rcases r8 h with ⟨i,u,rfl,e⟩ | ⟨y,u,rfl,e⟩
  ·exact nomatch e
  ·injection e with e1 _
   subst e1
   cases v <;> rfl
theorem ahB(prog:Program)(w:World)(i:Int)(t:Tok):(P3 prog w).is (.inl i) (.int i t)=true:=ajY i t
theorem ahC(prog:Program)(w:World)(x:Str)(t:Tok):(P3 prog w).is (.inr x) (.str x t)=true:=iW x t
end L2
namespace L2
open PySem PySem.Spec PyProof.Rows
inductive V where
 | non | bl (b:Bool) | int (i:Int) | str (x:Str) | byt (b:Array UInt8) | flt (b:UInt64) | ref (a:Addr) | ty (n:String)
 deriving DecidableEq
noncomputable def RelV:V->Value->Prop
 | .non,u=>u=Value.none
 | .bl b,u=>u=Value.bool b
 | .int i,u=>∃ t,u=Value.int i t
 | .str x,u=>∃ t,u=Value.str x t
 | .byt b,u=>∃ t,u=Value.bytes b t
 | .flt b,u=>∃ t,u=Value.float b t
 | .ref a,u=>u=Value.ref a
 | .ty n,u=>u=Value.type n
noncomputable abbrev Vals:List V->List Value->Prop:=Paired RelV
theorem Vals.length{xs:List V}{us:List Value}(r:Vals xs us):xs.length=us.length:=Paired.length r
theorem Vals.get:∀ {xs:List V} {us:List Value} {i:Nat} {x:V},Vals xs us->xs[i]?=some x->∃ u,us[i]?=some u/\RelV x u
 | _,_,_,_,.nil,e=>by simp at e
 | _,_,0,_,.cons r _,e=>by simp at e;subst e;exact ⟨_,rfl,r⟩
 | _,_,i+1,x,.cons _ t,e=>by
  obtain ⟨u,h1,h2⟩:=Vals.get (i:=i) (x:=x) t (by simpa using e);exact ⟨u,by simpa using h1,h2⟩
theorem Vals.set{x:V}{u:Value}(r:RelV x u):∀ {xs:List V} {us:List Value} (i:Nat),Vals xs us->Vals (xs.set i x) (us.set i u)
 | _,_,_,.nil=>.nil
 | _,_,0,.cons _ t=>.cons r t
 | _,_,i+1,.cons q t=>.cons q (Vals.set r i t)
theorem Vals.append:∀ {xs ys:List V} {us ws:List Value},Vals xs us->Vals ys ws->Vals (xs++ys) (us++ws)
 | _,_,_,_,.nil,s=>s
 | _,_,_,_,.cons r t,s=>.cons r (Vals.append t s)
theorem Vals.take:∀ {xs:List V} {us:List Value} (n:Nat),Vals xs us->Vals (xs.take n) (us.take n)
 | _,_,0,_=>.nil
 | _,_,_+1,.nil=>.nil
 | _,_,n+1,.cons r t=>.cons r (Vals.take n t)
theorem Vals.drop:∀ {xs:List V} {us:List Value} (n:Nat),Vals xs us->Vals (xs.drop n) (us.drop n)
 | _,_,0,r=>r
 | _,_,_+1,.nil=>.nil
 | _,_,n+1,.cons _ t=>Vals.drop n t
theorem Vals.none_of:∀ {xs:List V} {us:List Value} {i:Nat},Vals xs us->xs[i]?=none->us[i]?=none:=fun {xs us i} r e=>by
 have h1:=r.length;have h2:xs.length<=i:=List.getElem?_eq_none_iff.mp e;exact List.getElem?_eq_none_iff.mpr (by walk_at "o")
noncomputable def RelO:Option V->Option Value->Prop
 | some v,some u=>RelV v u
 | none,none=>True
 | _,_=>False
noncomputable def KV {κ:Type} : List (κ×V)->List (κ×Value)->Prop:=Paired fun (p:κ×V) (q:κ×Value)=>p.1=q.1/\RelV p.2 q.2
noncomputable def kV:C6->V
 | .inl i=>.int i
 | .inr x=>.str x
inductive HO where
 | lst (xs:List V)
 | tup (xs:List V)
 | dK (kvs:List (C6×V)) | dT (kvs:List (List C6×V))
 | set (S:Int->Bool) (n:Nat)
 | ins (C dx:Addr) (fs:List (Str×V))
 | own (x:Addr)
 | xd (fs:List (Str×V))
 | met (f x:Addr)
 | rng (lo hi:Int)
 | frz (o:Obj) (u:HO)
 | tbl (ps:Array Value)
 | ext (φ:Heap->Prop)
noncomputable abbrev Hp:=Addr->Option HO
noncomputable def A0 (H:Hp) (a:Addr) (o:HO):Hp:=fun b=>if b=a then some o else H b
theorem A5{H:Hp}{a:Addr}{o:HO} : A0 H a o a=some o:=by unfold A0;rw [if_pos rfl]
theorem B1{H:Hp}{a b:Addr}{o:HO}(h:b≠a):A0 H a o b=H b:=by unfold A0;rw [if_neg h]
theorem ne_of{H:Hp}{a b:Addr}{o u:HO}(h:H a=some o)(h':H b=some u)(d:o≠u):a≠b:=by
 intro e;subst e;rw [h] at h';exact d (Option.some.inj h')
theorem aZ{H:Hp}{a b:Addr}{o:HO}(h:H a=some o)(h':H b=none):a≠b:=by
 intro e;subst e;rw [h] at h';cases h'
section
variable (P:Program) (w:World)
noncomputable def ObjOk (H:Hp) (h:Heap) (a:Addr):HO->Prop
 | .lst xs=>xs.length<=sizeLine/\∃ (its:List Value) (n:Nat),Vals xs its/\h.get? a=some { cls:=.type "list",data:=.seq its.toArray n }
 | .tup xs=>xs.length<=sizeLine/\∃ its:List Value,Vals xs its/\IsTup h a its.toArray
 | .dK kvs=>kvs.length<=sizeLine/\(a==sysModules)=false/\∃ vs,KV kvs vs/\h.DictOf (P3 P w) a vs
 | .dT kvs=>kvs.length<=sizeLine/\(a==sysModules)=false/\∃ xs:List (List C6×Addr×Value),
   Paired (fun (p:List C6×V) (q:List C6×Addr×Value)=>p.1=q.1/\H q.2.1=some (.tup (p.1.map kV))/\RelV p.2 q.2.2) kvs xs/\
   ∃ o es ep,h.get? a=some o/\o.ExactDict/\o.data=.dict es ep/\es.toList=xs.map (entryOfKey (tupleKind (P3 P w)))/\(xs.map (·.1)).Nodup
 | .set S n=>h.SetOf (intKind P w) a S n
 | .ins C dx fs=>H dx=some (.own a)/\fs.length<=1000/\dx≠a/\h.get? a=some (cW C dx)/\
   ∃ mA,h.Ns1 dx mA/\(∀ f,RelO (fs.lookup f) (mA f))/\PySem.Within mA (fs.map (·.1))
 | .own _=>∃ o,h.get? a=some o
 | .xd fs=>∃ mA,h.Ns1 a mA/\∀ f,RelO (fs.lookup f) (mA f)
 | .rng lo hi=>∃ t u v,h.get? a=some { cls:=.type "range",data:=.fields #[.int lo t,.int hi u,.int 1 v] }
 | .frz o u=>h.get? a=some o/\ObjOk H h a u
 | .tbl ps=>h.get? a=some { cls:=.none,data:=.fields ps }
 | .met f x=>h.get? a=some (PySem.W.methodObj (.ref f) (.ref x))
 | .ext φ=>φ h/\(∃ o,h.get? a=some o)/\∀ h1 h2:Heap,φ h1->(∀ o,h1.get? a=some o->h2.get? a=some o)->φ h2
noncomputable def O0 (H:Hp) (h:Heap):Prop:=∀ a o,H a=some o->ObjOk P w H h a o
end
section
variable {P:Program} {w:World} {H H':Hp} {h h':Heap} {a:Addr} {o:HO}
theorem ObjOk.lt(x:ObjOk P w H h a o):a<h.objs.size:=by
 cases o with
 | lst xs=>obtain ⟨_,_,_,_,e⟩:=x;exact Heap.lt_size e
 | tup xs=>obtain ⟨_,_,_,p⟩:=x;exact p.lt
 | dK kvs=>obtain ⟨_,_,_,_,o,_,_,e,_⟩:=x;exact Heap.lt_size e
 | dT kvs=>obtain ⟨_,_,_,_,o,_,_,e,_⟩:=x;exact Heap.lt_size e
 | set S n=>obtain ⟨o,_,_,_,e,_⟩:=x;exact Heap.lt_size e
 | ins C dx fs=>obtain ⟨_,_,_,e,_⟩:=x;exact Heap.lt_size e
 | own y=>obtain ⟨_,e⟩:=x;exact Heap.lt_size e
 | xd fs=>obtain ⟨_,⟨_,_,_,e,_⟩,_⟩:=x;exact Heap.lt_size e
 | rng lo hi=>obtain ⟨_,_,_,e⟩:=x;exact Heap.lt_size e
 | frz ob u=>obtain ⟨e,_⟩:=x;exact Heap.lt_size e
 | tbl ps=>exact Heap.lt_size (show h.get? a=some _ from x)
 | met f y=>exact Heap.lt_size (show h.get? a=some _ from x)
 | ext φ=>obtain ⟨_,⟨_,e⟩,_⟩:=x;exact Heap.lt_size e
theorem N0{α β:Type}{F G:α->β->Prop} : ∀ {l₁:List α} {l₂:List β},Paired F l₁ l₂->(∀ a b,F a b->G a b)->Paired G l₁ l₂
 | _,_,.nil,_=>.nil
 | _,_,.cons r t,f=>.cons (f _ _ r) (N0 t f)
theorem ObjOk.stay(x:ObjOk P w H h a o)(k:∀ b u,(b=a\/H b=some (.own a))->h.get? b=some u->h'.get? b=some u)(ho:∀ b,H b=some (.own a)->H' b=some (.own a))(ht:∀ b xs,H b=some (.tup xs)->H' b=some (.tup xs)):ObjOk P w H' h' a o:=by
 induction o with
 | lst xs=>obtain ⟨z,its,n,r,e⟩:=x;exact ⟨z,its,n,r,k _ _ (.inl rfl) e⟩
 | tup xs=>obtain ⟨z,its,r,ob,e,c⟩:=x;exact ⟨z,its,r,ob,k _ _ (.inl rfl) e,c⟩
 | dK kvs=>obtain ⟨z,y,vs,r,ob,es,ep,e,c⟩:=x;exact ⟨z,y,vs,r,ob,es,ep,k _ _ (.inl rfl) e,c⟩
 | dT kvs=>
  obtain ⟨z,y,xs,r,ob,es,ep,e,c⟩:=x;exact ⟨z,y,xs,N0 r fun p q z=>⟨z.1,ht _ _ z.2.1,z.2.2⟩,ob,es,ep,k _ _ (.inl rfl) e,c⟩
 | set S n=>obtain ⟨ob,es,ep,t,e,c⟩:=x;exact ⟨ob,es,ep,t,k _ _ (.inl rfl) e,c⟩
 | ins C dx fs=>
  obtain ⟨d,z,ne,e,mA,⟨od,es,ep,e2,c⟩,r⟩:=x;exact ⟨ho _ d,z,ne,k _ _ (.inl rfl) e,mA,⟨od,es,ep,k _ _ (.inr d) e2,c⟩,r⟩
 | own y=>obtain ⟨ob,e⟩:=x;exact ⟨ob,k _ _ (.inl rfl) e⟩
 | xd fs=>obtain ⟨mA,⟨od,es,ep,e,c⟩,r⟩:=x;exact ⟨mA,⟨od,es,ep,k _ _ (.inl rfl) e,c⟩,r⟩
 | rng lo hi=>obtain ⟨t,u,v,e⟩:=x;exact ⟨t,u,v,k _ _ (.inl rfl) e⟩
 | frz ob u ih=>obtain ⟨e,q⟩:=x;exact ⟨k _ _ (.inl rfl) e,ih q⟩
 | tbl ps=>
  have e:h.get? a=some { cls:=.none,data:=.fields ps }:=x;show h'.get? a=some { cls:=.none,data:=.fields ps };exact k a _ (.inl rfl) e
 | met f y=>
  have e:h.get? a=some (PySem.W.methodObj (.ref f) (.ref y)):=x;show h'.get? a=some (PySem.W.methodObj (.ref f) (.ref y));exact k a _ (.inl rfl) e
 | ext φ=>obtain ⟨p,⟨o,e⟩,st⟩:=x;exact ⟨st _ _ p fun o q=>k _ _ (.inl rfl) q,⟨o,k _ _ (.inl rfl) e⟩,st⟩
theorem O0.lt(x:O0 P w H h)(e:H a=some o):a<h.objs.size:=(x a o e).lt
theorem O0.fresh(x:O0 P w H h)(e:h.objs.size<=a):H a=none:=by
 cases q:H a with
 | none=>rfl
 | some u=>exact absurd (R8 (x.lt q) e) (r0 _)
theorem O0.kept(x:O0 P w H h)(k:∀ b u,h.get? b=some u->h'.get? b=some u):O0 P w H h':=fun a o e=>
 (x a o e).stay (fun b u _ q=>k b u q) (fun _ q=>q) fun _ _ q=>q
theorem O0.laid(x:O0 P w H h)(k:∀ b u,h.get? b=some u->h'.get? b=some u)(hp:h.objs.size<=a)(new:ObjOk P w (A0 H a o) h' a o):O0 P w (A0 H a o) h':=fun b u e=>by
 have hn:=x.fresh hp
 by_cases hb:b=a
 ·subst hb;rw [A5] at e;cases e;exact new
 ·rw [B1 hb] at e;exact (x b u e).stay (fun c v _ q=>k c v q) (fun c q=>by rw [B1 (aZ q hn)];exact q) fun c xs q=>by rw [B1 (aZ q hn)];exact q
end
noncomputable def Rd (H:Hp) (a:Addr) (u:HO):Prop:=H a=some u\/∃ o,H a=some (.frz o u)
theorem Rd.of{H:Hp}{a:Addr}{u:HO}(h:H a=some u):Rd H a u:=.inl h
theorem Rd.ok{P:Program}{w:World}{H:Hp}{h:Heap}{a:Addr}{u:HO}(r:Rd H a u)(x:O0 P w H h):ObjOk P w H h a u:=by
 rcases r with r | ⟨o,r⟩
 ·exact x a u r
 ·obtain ⟨_,q⟩:=x a _ r;exact q
noncomputable def mC:Option HO->Prop
 | some (.lst _)=>True
 | some (.dK _)=>True
 | some (.dT _)=>True
 | some (.set _ _)=>True
 | some (.ins _ _ _)=>True
 | some (.ext _)=>True
 | _=>False
section
variable {P:Program} {w:World} {H:Hp} {h h':Heap} {x e:Addr} {o':HO}
theorem O0.write(ok:O0 P w H h)(mu:mC (H x))(he:e=x\/H e=some (.own x))(k:∀ b u,b≠e->h.get? b=some u->h'.get? b=some u)(kU:∃ u,h'.get? e=some u)(new:ObjOk P w (A0 H x o') h' x o'):O0 P w (A0 H x o') h':=fun b u q=>by
 have nown:∀ c y,H c=some (.own y)->c≠x:=fun c y r z=>by subst z;rw [r] at mu;exact mu
 have ntup:∀ c xs,H c=some (.tup xs)->c≠x:=fun c xs r z=>by subst z;rw [r] at mu;exact mu
 by_cases hb:b=x
 ·subst hb;rw [A5] at q;cases q;exact new
 ·rw [B1 hb] at q
  by_cases gQ:b=e
  ·have q':H b=some (.own x):=by
    rcases he with z | z
    ·exact absurd (gQ.trans z) hb
    ·rw [gQ];exact z
   rw [q] at q';cases q';obtain ⟨v,hv⟩:=kU;exact ⟨v,by rw [gQ];exact hv⟩
  ·refine (ok b u q).stay (fun c v hc r=>k c v ?_ r) (fun c r=>by rw [B1 (nown c b r)];exact r) fun c xs r=>by rw [B1 (ntup c xs r)];exact r
   rcases hc with rfl | hc
   ·exact gQ
   ·rintro rfl
    rcases he with z | z
    ·exact nown c b hc z
    ·rw [hc] at z;cases z;exact hb rfl
end
structure Un(fs ex:List Addr)(H H':Hp)(h h':Heap):Prop where
 keep:∀ b o,h.get? b=some o->H b=none->b∉fs->b∉ex->h'.get? b=some o
 slot:∀ b o,h.get? b=some o->H b=none->b∈fs->b∉ex->∃ sl,h'.get? b=some { o with slots:=sl }
 free:∀ b o,h.get? b=some o->H b=none->b∉ex->H' b=none
 there:∀ b o,h.get? b=some o->b∉ex->∃ o',h'.get? b=some o'
 tups:∀ b xs,H b=some (.tup xs)->H' b=some (.tup xs)
 frzs:∀ b o u,H b=some (.frz o u)->H' b=some (.frz o u)
 tbls:∀ b ps,H b=some (.tbl ps)->∃ more,H' b=some (.tbl (ps++more))
section
variable {fs fs' ex ex':List Addr} {H H1 H2:Hp} {h h1 h2 h':Heap} {a x e:Addr} {o:HO}
theorem Un.any(u:Un fs ex H H1 h h1){b:Addr}{ob:Obj}(q:h.get? b=some ob)(n:H b=none)(hx:b∉ex):∃ sl,h1.get? b=some { ob with slots:=sl }:=by
 by_cases hb:b∈fs
 ·exact u.slot b ob q n hb hx
 ·exact ⟨ob.slots,u.keep b ob q n hb hx⟩
theorem Un.kept(k:∀ b u,h.get? b=some u->h'.get? b=some u):Un fs ex H H h h':=
 ⟨fun b ob q _ _ _=>k b ob q,fun b ob q _ _ _=>⟨ob.slots,k b ob q⟩,fun _ _ _ n _=>n,fun b ob q _=>⟨ob,k b ob q⟩,fun _ _ q=>q,fun _ _ _ q=>q,fun _ ps q=>⟨#[],by rw [q];simp⟩⟩
theorem uaf:Un fs ex H H h h:=Un.kept fun _ _ q=>q
theorem Un.laid(k:∀ b u,h.get? b=some u->h'.get? b=some u)(hp:h.objs.size<=a)(hn:H a=none):Un fs ex H (A0 H a o) h h' where
 keep:=fun b u q _ _ _=>k b u q
 slot:=fun b u q _ _ _=>⟨u.slots,k b u q⟩
 free:=fun b u q n _=>by rw [B1 (O6 (R8 (Heap.lt_size q) hp))];exact n
 there:=fun b u q _=>⟨u,k b u q⟩
 tups:=fun b xs q=>by rw [B1 (aZ q hn)];exact q
 frzs:=fun b u xs q=>by rw [B1 (aZ q hn)];exact q
 tbls:=fun b ps q=>⟨#[],by rw [B1 (aZ q hn),q];simp⟩
theorem Un.write(mu:mC (H x))(he:e=x\/H e=some (.own x))(k:∀ b u,b≠e->h.get? b=some u->h'.get? b=some u)(kU:∃ u,h'.get? e=some u):Un fs ex H (A0 H x o) h h':=by
 have hx:∀ b,H b=none->b≠x:=fun b n z=>by subst z;rw [n] at mu;exact mu
 have hb:∀ b,H b=none->b≠e:=fun b n z=>by
  subst z
  rcases he with r | r
  ·exact hx b n r
  ·rw [n] at r;cases r
 have hm:∀ b u,H b=some u->¬ mC (some u)->b≠x:=fun b u q nm z=>by subst z;rw [q] at mu;exact nm mu
 refine ⟨fun b u q n _ _=>k b u (hb b n) q,fun b u q n _ _=>⟨u.slots,k b u (hb b n) q⟩,fun b u q n _=>by rw [B1 (hx b n)];exact n,fun b u q _=>?_,
  fun b xs q=>by rw [B1 (hm b _ q fun z=>z)];exact q,fun b u xs q=>by rw [B1 (hm b _ q fun z=>z)];exact q,fun b ps q=>⟨#[],by rw [B1 (hm b _ q fun z=>z),q];simp⟩⟩
 by_cases gQ:b=e
 ·subst gQ;exact kU
 ·exact ⟨u,k b u gQ q⟩
end
noncomputable def qN (h:Heap) (H:Hp):List Addr:=(List.range h.objs.size).filter fun a=>(H a).isSome
noncomputable def hidT (h:Heap) (H:Hp):Heap:=PySem.W.hideAll h (qN h H)
theorem ajZ(h:Heap)(H:Hp):(hidT h H).objs.size=h.objs.size:=PySem.W.hideAll_size _ _
theorem alM{h:Heap}{H:Hp}{b:Addr}{o:Obj}(e:h.get? b=some o)(n:H b=none):(hidT h H).get? b=some o:=
 PySem.W.hideAll_get _ e fun hm=>by
  have q:(H b).isSome=true:=(Q0.mp hm).2;rw [n] at q;simp at q
theorem anD{h:Heap}{H:Hp}{b:Addr}{o:Obj}(e:(hidT h H).get? b=some o):h.get? b=some o/\H b=none:=by
 have e':h.get? b=some o:=PySem.W.of_hideAll (qN h H) e;refine ⟨e',?_⟩
 cases q:H b with
 | none=>rfl
 | some x=>
  have hm:b∈qN h H:=Q0.mpr ⟨iR.mpr (Heap.lt_size e'),by simp [q]⟩;have z:(hidT h H).get? b=none:=PySem.W.hideAll_none (qN h H) hm;rw [z] at e;cases e
noncomputable def anE (g h:Heap) (L:Addr):List (Addr×Obj):=(List.range h.objs.size).filterMap fun a=>if a=L\/(g.get? a).isSome=true then none else (h.get? a).map fun o=>(a,o)
noncomputable def rest (g h:Heap) (L d:Addr):List (Addr×Obj):=(anE g h L).filter fun p=>decide (p.1≠d)
end L2
namespace L2
open PySem PySem.Spec PyProof.Rows
structure Mod(K:PySem.W.Frag)(mg:Str->Option Value)(base:Heap):Prop where
 kin:K.In base
 glob:base.Ns mainGlobals mg
 blt:∃ mb,base.Ns builtinsNs mb/\∀ x:Str,x≠"__name__"->mb x=bootBuiltins x
 nolimit:base.NoLimit
structure Cx where
 prog:Program
 w:World
 K:PySem.W.Frag
 mg:Str->Option Value
 base:Heap
 A:Around
 N:List Str
 s₀:Shared
 H₀:Hp
 env:Env
 outer:List Env
 stack:List Env
 ex:List Addr
 fn:Str->Bool
 calm:Bool
 pn:List (Addr×Obj)
 xe:Value->Shared->Prop
noncomputable def s0 (l:List Env):List Addr:=l.filterMap (·.frame)
noncomputable abbrev Cx.fs (X:Cx):List Addr:=s0 X.outer
noncomputable def mD (sc:Scope) (x:Str):Prop:=sc.names.lookup x=some .local\/sc.names.lookup x=some .cell\/sc.names.lookup x=some .free
noncomputable def l6 (sc:Scope) (x:Str):Prop:=sc.names.lookup x=some .local\/sc.names.lookup x=some .cell
noncomputable def Look (env:Env) (h:Heap) (m:Str->Option Value) (x:Str) (u:Value):Prop:=
 (env.kindOf x=some .local/\m x=some u)\/((env.kindOf x=some .cell\/env.kindOf x=some .free)/\∃ c,env.cells.lookup x=some c/\h.IsCell c (some u))
structure Cx.Ok(X:Cx):Prop where
 mod:Mod X.K X.mg X.base
 kind:X.env.scope.kind=.function
 glob:X.env.globals=mainGlobals
 blt:X.env.builtins=builtinsNs
 above:X.s₀.heap.objs.size<=X.env.locals
 inj:∀ x y c,X.env.cells.lookup x=some c->X.env.cells.lookup y=some c->x=y
 has:∀ x,(X.env.kindOf x=some .cell\/X.env.kindOf x=some .free)->∃ c,X.env.cells.lookup x=some c
 cab:∀ x c,X.fn x=true->X.env.cells.lookup x=some c->X.s₀.heap.objs.size<=c
 hd:X.calm=true->X.A.handled=none
 frames:X.A.frames=some X.stack
 stk:X.stack=X.outer\/(X.stack=X.env::X.outer/\X.env.frame=some X.env.locals)
 exf:∀ b∈X.ex,b≠X.env.locals/\∀ x c,X.env.cells.lookup x=some c->c≠b
 bs:∀ b o,X.base.get? b=some o->X.s₀.heap.get? b=some o/\X.H₀ b=none
 bsz:X.base.objs.size<=X.s₀.heap.objs.size
 noex:∀ b o,X.base.get? b=some o->b∉X.ex
 exfs:∀ b∈X.ex,b∉X.fs
 funs:X.s₀.heap.FunFrames X.base X.outer
 frf:∀ b∈X.fs,X.H₀ b=none
structure Inv(X:Cx)(pins:List (Addr×Obj))(σ:List (Option V))(H:Hp)(s:Shared):Prop where
 ok:X.Ok
 os:s.os=X.s₀.os
 bare:AllBare s.gens
 base:Un X.fs X.ex X.H₀ H X.s₀.heap s.heap
 loc:∃ m,s.heap.Ns X.env.locals m/\∀ (i:Nat) (x:Str) (v:V),X.N[i]?=some x->σ[i]?=some (some v)->mD X.env.scope x->∃ u,RelV v u/\Look X.env s.heap m x u
 cell:∀ x c,X.env.cells.lookup x=some c->∃ v,s.heap.IsCell c v
 free:H X.env.locals=none
 freeC:∀ x c,X.env.cells.lookup x=some c->H c=none
 pin:∀ p∈X.pn++pins,s.heap.get? p.1=some p.2/\H p.1=none/\p.1≠X.env.locals/\p.1∉X.fs/\∀ v,p.2.data≠.cell v
 hok:O0 X.prog X.w H s.heap
 len:σ.length=X.N.length
section
variable {X:Cx} {pins:List (Addr×Obj)} {σ:List (Option V)} {H H':Hp} {s:Shared} {h':Heap}
theorem Cx.Ok.nofr(ok:X.Ok){b:Addr}{o:Obj}(e:X.base.get? b=some o):b∉X.fs:=fun hb=>by
 have:=(ok.funs.mem hb).1
 rw [e] at this;cases this
theorem Inv.bs(I:Inv X pins σ H s):∀ b o,X.base.get? b=some o->s.heap.get? b=some o/\H b=none:=fun b o e=>
 ⟨I.base.keep b o (I.ok.bs b o e).1 (I.ok.bs b o e).2 (I.ok.nofr e) (I.ok.noex b o e),I.base.free b o (I.ok.bs b o e).1 (I.ok.bs b o e).2 (I.ok.noex b o e)⟩
theorem Inv.bk(I:Inv X pins σ H s):∀ b o,X.base.get? b=some o->s.heap.get? b=some o:=fun b o e=>(I.bs b o e).1
theorem Inv.mod(I:Inv X pins σ H s):Mod X.K X.mg X.base:=I.ok.mod
theorem Inv.kIn(I:Inv X pins σ H s):X.K.In s.heap:=I.ok.mod.kin.keeps I.bk
theorem Inv.lt(I:Inv X pins σ H s):X.env.locals<s.heap.objs.size:=let ⟨_,hn,_⟩:=I.loc;hn.lt
theorem Inv.sz(I:Inv X pins σ H s):X.s₀.heap.objs.size<=s.heap.objs.size:=L3 I.ok.above (Nat.le_of_lt I.lt)
theorem Inv.nofs(I:Inv X pins σ H s){a:Addr}(h:s.heap.objs.size<=a):a∉X.fs:=fun hb=>by
 obtain ⟨_,o,ho,_⟩:=I.ok.funs.mem hb;exact absurd (R8 (Heap.lt_size ho) (L3 I.sz h)) (r0 _)
theorem Inv.cne(I:Inv X pins σ H s):∀ x c,X.env.cells.lookup x=some c->c≠X.env.locals:=fun x c e z=>by
 obtain ⟨v,o,ho,hd⟩:=I.cell x c e;obtain ⟨m,⟨o',es,ep,v7,gR,_⟩,_⟩:=I.loc;rw [z,v7] at ho;cases ho;rw [gR] at hd;cases hd
theorem Inv.funs(I:Inv X pins σ H s):s.heap.FunFrames X.base X.outer:=by
 have all:∀ (l:List Env),(∀ b∈s0 l,b∈X.fs)->X.s₀.heap.FunFrames X.base l->s.heap.FunFrames X.base l:=by
  intro l
  induction l with
  | nil=>intro _ _;trivial
  | cons env r ih=>
   intro hs hl;obtain ⟨hk,⟨L,o,hf,hn,ho,hd⟩,hr⟩:=hl;have hL:L∈X.fs:=hs L (by unfold s0;rw [fA,hf];exact M4);obtain ⟨sl,e⟩:=I.base.slot L o ho (I.ok.frf L hL) hL fun z=>I.ok.exfs L z hL
   exact ⟨hk,⟨L,_,hf,hn,e,hd⟩,ih (fun b hb=>hs b (by unfold s0;rw [fA,hf];exact M3 _ hb)) hr⟩
 exact all X.outer (fun _ hb=>hb) I.ok.funs
theorem Inv.stack(I:Inv X pins σ H s):s.heap.FunFrames X.base X.stack:=by
 rcases I.ok.stk with e | ⟨e,hf⟩
 ·rw [e];exact I.funs
 ·rw [e];obtain ⟨m,hn,_⟩:=I.loc;refine .cons (by rw [I.ok.kind];decide) hf hn ?_ I.funs;exact Heap.get?_none_of_le (L3 I.ok.bsz I.ok.above)
theorem Inv.stkSub(I:Inv X pins σ H s):∀ b∈s0 X.stack,b∈X.env.locals::X.fs:=fun b hb=>by
 rcases I.ok.stk with e | ⟨e,hf⟩
 ·rw [e] at hb;exact M3 _ hb
 ·rw [e] at hb;unfold s0 at hb;rw [fA,hf] at hb;exact hb
theorem Inv.stkFree(I:Inv X pins σ H s):∀ b∈s0 X.stack,H b=none:=fun b hb=>by
 rcases F9.mp (I.stkSub b hb) with e | hb
 ·rw [e];exact I.free
 ·obtain ⟨_,o,ho,_⟩:=I.ok.funs.mem hb;exact I.base.free b o ho (I.ok.frf b hb) fun z=>I.ok.exfs b z hb
theorem Inv.step{g':Array GenState}{t':Nat}{d':Drawn}{ch:List Addr}(I:Inv X pins σ H s)(aL:∀ b∈ch,(b∈X.ex\/X.s₀.heap.objs.size<=b)/\b≠X.env.locals/\(∀ x c,X.env.cells.lookup x=some c->c≠b)/\∀ p∈X.pn++pins,p.1≠b)(keep:∀ b o,b≠X.env.locals->b∉X.fs->b∉ch->s.heap.get? b=some o->H b=none->h'.get? b=some o)(slot:∀ b o,b≠X.env.locals->b∈X.fs->b∉ch->s.heap.get? b=some o->H b=none->∃ sl,h'.get? b=some { o with slots:=sl })(free:∀ b o,b∉ch->s.heap.get? b=some o->H b=none->H' b=none)(there:∀ b o,b∉ch->s.heap.get? b=some o->∃ o',h'.get? b=some o')(tups:∀ b xs,H b=some (.tup xs)->H' b=some (.tup xs))(frzs:∀ b o u,H b=some (.frz o u)->H' b=some (.frz o u))(tbls:∀ b ps,H b=some (.tbl ps)->∃ more,H' b=some (.tbl (ps++more)))(ns:∀ m,s.heap.Ns X.env.locals m->h'.Ns X.env.locals m)(hok:O0 X.prog X.w H' h')(hg:AllBare g') :
  Inv X pins σ H' { s with heap:=h',gens:=g',drawn:=d',toks:=t' }:=by
 have neL:∀ b o,X.s₀.heap.get? b=some o->b≠X.env.locals:=fun b o e=>O6 (R8 (Heap.lt_size e) I.ok.above)
 have neC:∀ b o,X.s₀.heap.get? b=some o->b∉X.ex->b∉ch:=fun b o e hx hb=>by
  rcases (aL b hb).1 with z | z
  ·exact hx z
  ·exact absurd (R8 (Heap.lt_size e) z) (r0 _)
 have cellK:∀ x c,X.env.cells.lookup x=some c->∀ v,s.heap.IsCell c v->h'.IsCell c v:=fun x c e v ⟨o,ho,hd⟩=>by
  have nch:c∉ch:=fun z=>(aL c z).2.2.1 x c e rfl
  by_cases hc:c∈X.fs
  ·obtain ⟨sl,q⟩:=slot c o (I.cne x c e) hc nch ho (I.freeC x c e);exact ⟨_,q,hd⟩
  ·exact ⟨o,keep c o (I.cne x c e) hc nch ho (I.freeC x c e),hd⟩
 refine ⟨I.ok,I.os,hg,⟨fun b o e n hb hx=>?_,fun b o e n hb hx=>?_,fun b o e n hx=>?_,fun b o e hx=>?_,fun b xs e=>tups b xs (I.base.tups b xs e),fun b o xs e=>frzs b o xs (I.base.frzs b o xs e),fun b ps e=>?_⟩,?_,fun x c e=>?_,?_,fun x c e=>?_,fun p hp=>?_,hok,I.len⟩
 ·exact keep b o (neL b o e) hb (neC b o e hx) (I.base.keep b o e n hb hx) (I.base.free b o e n hx)
 ·obtain ⟨sl,e1⟩:=I.base.slot b o e n hb hx;obtain ⟨sl',e2⟩:=slot b _ (neL b o e) hb (neC b o e hx) e1 (I.base.free b o e n hx);exact ⟨sl',e2⟩
 ·obtain ⟨o',e1⟩:=I.base.there b o e hx;exact free b o' (neC b o e hx) e1 (I.base.free b o e n hx)
 ·obtain ⟨o',e1⟩:=I.base.there b o e hx;exact there b o' (neC b o e hx) e1
 ·obtain ⟨m1,e1⟩:=I.base.tbls b ps e;obtain ⟨m2,e2⟩:=tbls b _ e1;exact ⟨m1++m2,by rw [e2,Array.append_assoc]⟩
 ·obtain ⟨m,hn,hl⟩:=I.loc;refine ⟨m,ns m hn,fun i x v e1 e2 e3=>?_⟩;obtain ⟨u,r,l⟩:=hl i x v e1 e2 e3;refine ⟨u,r,?_⟩
  rcases l with l | ⟨k,c,e,z⟩
  ·exact .inl l
  ·exact .inr ⟨k,c,e,cellK x c e _ z⟩
 ·obtain ⟨v,z⟩:=I.cell x c e;exact ⟨v,cellK x c e v z⟩
 ·obtain ⟨m,⟨o,_,_,ho,_⟩,_⟩:=I.loc;exact free _ o (fun z=>(aL _ z).2.1 rfl) ho I.free
 ·obtain ⟨v,o,ho,hd⟩:=I.cell x c e;exact free c o (fun z=>(aL c z).2.2.1 x c e rfl) ho (I.freeC x c e)
 ·obtain ⟨e,n,ne,nf,d⟩:=I.pin p hp;have nch:p.1∉ch:=fun z=>(aL p.1 z).2.2.2 p hp rfl
  exact ⟨keep p.1 p.2 ne nf nch e n,free p.1 p.2 nch e n,ne,nf,d⟩
theorem Inv.un{t':Nat}(I:Inv X pins σ H s)(u:Un X.fs [] H H' s.heap h')(hok:O0 X.prog X.w H' h'):Inv X pins σ H' { s with heap:=h',toks:=t' }:=by
 obtain ⟨m,⟨o,es,ep,ho,r⟩,_⟩:=id I.loc;obtain ⟨sl,hL⟩:=u.any ho I.free (by simp);exact I.step (g':=s.gens) (d':=s.drawn) (ch:=[]) (fun _ z=>nomatch z) (fun b o _ hb _ e n=>u.keep b o e n hb (by simp)) (fun b o _ hb _ e n=>u.slot b o e n hb (by simp)) (fun b o _ e n=>u.free b o e n (by simp)) (fun b o _ e=>u.there b o e (by simp)) u.tups u.frzs u.tbls (fun m' hm=>by
  obtain ⟨o',es',ep',v7,r'⟩:=hm;rw [ho] at v7;cases v7;exact ⟨_,es',ep',hL,r'⟩) hok I.bare
theorem Inv.call{g':Array GenState}{t':Nat}{d':Drawn}{ch:List Addr}(I:Inv X pins σ H s)(u:Un (s0 X.stack) ch H H' s.heap h')(hok:O0 X.prog X.w H' h')(hg:AllBare g')(aL:∀ b∈ch,(b∈X.ex\/X.s₀.heap.objs.size<=b)/\b≠X.env.locals/\(∀ x c,X.env.cells.lookup x=some c->c≠b)/\∀ p∈X.pn++pins,p.1≠b) :
  Inv X pins σ H' { s with heap:=h',gens:=g',drawn:=d',toks:=t' }:=by
 obtain ⟨m,⟨o,es,ep,ho,r⟩,_⟩:=id I.loc;obtain ⟨sl,hL⟩:=u.any ho I.free fun z=>(aL _ z).2.1 rfl
 exact I.step (ch:=ch) aL (fun b o hL hb hc e n=>u.keep b o e n (fun z=>(F9.mp (I.stkSub b z)).elim hL hb) hc) (fun b o _ _ hc e n=>u.any e n hc) (fun b o hc e n=>u.free b o e n hc) (fun b o hc e=>u.there b o e hc) u.tups u.frzs u.tbls (fun m' hm=>by
  obtain ⟨o',es',ep',v7,r'⟩:=hm;rw [ho] at v7;cases v7;exact ⟨_,es',ep',hL,r'⟩) hok hg
theorem Inv.turned{t':Nat}{it:Addr}(I:Inv X pins σ H s)(k:∀ b o,b≠it->s.heap.get? b=some o->h'.get? b=some o)(hn:H it=none)(hL:it≠X.env.locals)(h1:it∈X.ex\/X.s₀.heap.objs.size<=it)(h2:∀ x c,X.env.cells.lookup x=some c->c≠it)(h3:∀ p∈X.pn++pins,p.1≠it):Inv X pins σ H { s with heap:=h',toks:=t' }:=by
 have nit:∀ b u,H b=some u->b≠it:=fun b u e z=>by rw [z,hn] at e;cases e
 refine I.step (g':=s.gens) (d':=s.drawn) (ch:=[it]) (fun b hb=>?_) (fun b o _ _ hc e _=>k b o (fun z=>hc (by simp [z])) e) (fun b o _ _ hc e _=>⟨o.slots,k b o (fun z=>hc (by simp [z])) e⟩) (fun _ _ _ _ n=>n)
  (fun b o hc e=>⟨o,k b o (fun z=>hc (by simp [z])) e⟩) (fun _ _ e=>e) (fun _ _ _ e=>e) (fun b ps e=>⟨#[],by rw [e];simp⟩) (fun m hm=>?_) (fun b u e=>?_) I.bare
 ·have e:b=it:=by simpa using hb
  subst e;exact ⟨h1,hL,h2,h3⟩
 ·obtain ⟨o,es,ep,ho,r⟩:=hm;exact ⟨o,es,ep,k _ o (Ne.symm hL) ho,r⟩
 ·refine (I.hok b u e).stay (fun c v hc q=>k c v ?_ q) (fun _ q=>q) fun _ _ q=>q
  rcases hc with z | z
  ·rw [z];exact nit b u e
  ·exact nit c _ z
theorem Inv.tok(I:Inv X pins σ H s)(t:Nat):Inv X pins σ H { s with toks:=t }:=I.un (h':=s.heap) (t':=t) uaf I.hok
theorem Inv.kept{t':Nat}(I:Inv X pins σ H s)(k:∀ b u,s.heap.get? b=some u->h'.get? b=some u):Inv X pins σ H { s with heap:=h',toks:=t' }:=I.un (Un.kept k) (I.hok.kept k)
theorem Inv.laid{a:Addr}{o:HO}{t':Nat}(I:Inv X pins σ H s)(k:∀ b u,s.heap.get? b=some u->h'.get? b=some u)(hp:s.heap.objs.size<=a)(new:ObjOk X.prog X.w (A0 H a o) h' a o) :
  Inv X pins σ (A0 H a o) { s with heap:=h',toks:=t' }:=I.un (Un.laid k hp (I.hok.fresh hp)) (I.hok.laid k hp new)
theorem Inv.write{x e:Addr}{o:HO}{t':Nat}(I:Inv X pins σ H s)(mu:mC (H x))(he:e=x\/H e=some (.own x))(k:∀ b u,b≠e->s.heap.get? b=some u->h'.get? b=some u)(kU:∃ u,h'.get? e=some u)(new:ObjOk X.prog X.w (A0 H x o) h' x o):Inv X pins σ (A0 H x o) { s with heap:=h',toks:=t' }:=I.un (Un.write mu he k kU) (I.hok.write mu he k kU new)
theorem Inv.pins_of{pins':List (Addr×Obj)}(I:Inv X pins σ H s)(h:∀ p∈pins',s.heap.get? p.1=some p.2/\H p.1=none/\p.1≠X.env.locals/\p.1∉X.fs/\∀ v,p.2.data≠.cell v):Inv X pins' σ H s:=
 ⟨I.ok,I.os,I.bare,I.base,I.loc,I.cell,I.free,I.freeC,fun p hp=>(E1.mp hp).elim (fun z=>I.pin p (R7 _ z)) (h p),I.hok,I.len⟩
theorem aiv{N:List Str}(hN:N.Nodup){i j:Nat}{x:Str}(a:N[i]?=some x)(b:N[j]?=some x):i=j:=by
 obtain ⟨h1,e1⟩:=G1.mp a;obtain ⟨h2,e2⟩:=G1.mp b;exact (List.getElem_inj hN).mp (e1.trans e2.symm)
theorem aj0{M:Model}{A:Around}{E:Value->Shared->Prop}{i:Nat}{x:Str}{v:V}{u:Value}{Q:Unit->Shared->Prop}(I:Inv X pins σ H s)(hN:X.N.Nodup)(hi:X.N[i]?=some x)(hx:l6 X.env.scope x)(r:RelV v u)(h:∀ s',Inv X pins (σ.set i (some v)) H s'->(∃ a,Heap.SameBut a s.heap s'.heap/\(a=X.env.locals\/X.env.cells.lookup x=some a))->Q () s')(hf:X.fn x=true\/X.env.scope.names.lookup x=some .local:=by first | exact .inl rfl | exact .inr rfl | assumption):wpAny M A (storeName X.env x u) Q E s:=by
 obtain ⟨m,hn,hl⟩:=id I.loc;have zJ:(X.env.scope.kind == .class || (X.env.scope.kind == .module&&X.env.locals != X.env.globals))=false:=by rw [I.ok.kind];rfl
 have hiσ:i<σ.length:=by rw [I.len];exact (G1.mp hi).1
 have cne:=I.cne;have tracked:∀ {a:Addr} {h':Heap},(∃ o,s.heap.get? a=some o/\H a=none)->Heap.SameBut a s.heap h'->O0 X.prog X.w H h':=fun {a h'} ha hs b ob e=>by
  obtain ⟨_,_,eA⟩:=ha;refine (I.hok b ob e).stay (fun c w' hc q=>(hs.2 c ?_).trans q) (fun _ q=>q) fun _ _ q=>q
  rintro rfl
  rcases hc with rfl | hc
  ·rw [eA] at e;cases e
  ·rw [eA] at hc;cases hc
 rcases hx with hk | hk
 ·refine wpAny_storeName_local hk hn (fun h' hn' hs=>?_) zJ;obtain ⟨oL,_,_,hoL,_⟩:=id hn;refine h _ ⟨I.ok,I.os,I.bare,⟨fun b o e n hb hx=>?_,fun b o e n hb hx=>?_,I.base.free,fun b o e hx=>?_,I.base.tups,I.base.frzs,I.base.tbls⟩,⟨_,hn',fun j y v' e1 e2 e3=>?_⟩,fun y c e=>?_,I.free,I.freeC,fun p hp=>?_,tracked ⟨oL,hoL,I.free⟩ hs,by simpa using I.len⟩ ⟨_,hs,.inl rfl⟩
  ·exact (hs.2 b (O6 (R8 (Heap.lt_size e) I.ok.above))).trans (I.base.keep b o e n hb hx)
  ·obtain ⟨sl,e1⟩:=I.base.slot b o e n hb hx;exact ⟨sl,(hs.2 b (O6 (R8 (Heap.lt_size e) I.ok.above))).trans e1⟩
  ·obtain ⟨o',e1⟩:=I.base.there b o e hx;exact ⟨o',(hs.2 b (O6 (R8 (Heap.lt_size e) I.ok.above))).trans e1⟩
  ·by_cases hj:j=i
   ·subst hj;rw [hi] at e1;cases e1;rw [List.getElem?_set_self hiσ] at e2;cases e2;exact ⟨u,r,.inl ⟨hk,by simp⟩⟩
   ·rw [List.getElem?_set_ne (Ne.symm hj)] at e2;obtain ⟨u',r',q⟩:=hl j y v' e1 e2 e3;refine ⟨u',r',?_⟩
    rcases q with ⟨k,e⟩ | ⟨k,c,e,z⟩
    ·refine .inl ⟨k,?_⟩
     have:y≠x:=fun e=>hj (aiv hN e1 (e ▸ hi))
     simp [this,e]
    ·exact .inr ⟨k,c,e,z.sameBut hs (cne y c e)⟩
  ·obtain ⟨w',z⟩:=I.cell y c e;exact ⟨w',z.sameBut hs (cne y c e)⟩
  ·obtain ⟨e,n,ne,nf,d⟩:=I.pin p hp;exact ⟨(hs.2 p.1 ne).trans e,n,ne,nf,d⟩
 ·have zK:X.fn x=true:=by
   rcases hf with z | z
   ·exact z
   ·rw [z] at hk;cases hk
  obtain ⟨c,hc⟩:=I.ok.has x (.inl hk);obtain ⟨w',z⟩:=I.cell x c hc;refine wpAny_storeName_cell I.ok.kind hk hc z (fun h' f9 hs=>?_);obtain ⟨oc,zL,zM⟩:=id z;refine h { s with heap:=h' } ⟨I.ok,I.os,I.bare,⟨fun b o e n hb hx=>?_,fun b o e n hb hx=>?_,I.base.free,fun b o e hx=>?_,I.base.tups,I.base.frzs,I.base.tbls⟩,⟨m,hn.sameBut hs (Ne.symm (cne x c hc)),fun j y v' e1 e2 e3=>?_⟩,fun y c' e=>?_,I.free,I.freeC,fun p hp=>?_,tracked ⟨oc,zL,I.freeC x c hc⟩ hs,by simpa using I.len⟩ ⟨c,hs,.inr hc⟩
  ·exact (hs.2 b (O6 (R8 (Heap.lt_size e) (I.ok.cab x c zK hc)))).trans (I.base.keep b o e n hb hx)
  ·obtain ⟨sl,e1⟩:=I.base.slot b o e n hb hx;exact ⟨sl,(hs.2 b (O6 (R8 (Heap.lt_size e) (I.ok.cab x c zK hc)))).trans e1⟩
  ·obtain ⟨o',e1⟩:=I.base.there b o e hx;exact ⟨o',(hs.2 b (O6 (R8 (Heap.lt_size e) (I.ok.cab x c zK hc)))).trans e1⟩
  ·by_cases hj:j=i
   ·subst hj;rw [hi] at e1;cases e1;rw [List.getElem?_set_self hiσ] at e2;cases e2;exact ⟨u,r,.inr ⟨.inl hk,c,hc,f9⟩⟩
   ·rw [List.getElem?_set_ne (Ne.symm hj)] at e2;obtain ⟨u',r',q⟩:=hl j y v' e1 e2 e3;refine ⟨u',r',?_⟩
    rcases q with q | ⟨k,c',e,z'⟩
    ·exact .inl q
    ·refine .inr ⟨k,c',e,z'.sameBut hs ?_⟩;rintro rfl;exact hj (aiv hN e1 (I.ok.inj _ _ _ e hc ▸ hi))
  ·by_cases hcc:c'=c
   ·subst hcc;exact ⟨_,f9⟩
   ·obtain ⟨w2,z2⟩:=I.cell y c' e;exact ⟨w2,z2.sameBut hs hcc⟩
  ·obtain ⟨e,n,ne,nf,d⟩:=I.pin p hp;refine ⟨(hs.2 p.1 ?_).trans e,n,ne,nf,d⟩;intro q;rw [q,zL] at e;have q':oc=p.2:=Option.some.inj e;exact d w' (by rw [<- q'];exact zM)
theorem qO{M:Model}{A:Around}{E:Value->Shared->Prop}{i:Nat}{x:Str}{v:V}{u:Value}{Q:Unit->Shared->Prop}(I:Inv X pins σ H s)(hN:X.N.Nodup)(hi:X.N[i]?=some x)(hx:l6 X.env.scope x)(r:RelV v u)(h:∀ s',Inv X pins (σ.set i (some v)) H s'->Q () s')(hf:X.fn x=true\/X.env.scope.names.lookup x=some .local:=by first | exact .inl rfl | exact .inr rfl | assumption):wpAny M A (storeName X.env x u) Q E s:=
 aj0 I hN hi hx r (fun s' I' _=>h s' I') hf
theorem Inv.call'{s':Shared}{ch:List Addr}(I:Inv X pins σ H s)(ho:s'.os=s.os)(u:Un (s0 X.stack) ch H H' s.heap s'.heap)(hok:O0 X.prog X.w H' s'.heap)(hg:AllBare s'.gens)(aL:∀ b∈ch,(b∈X.ex\/X.s₀.heap.objs.size<=b)/\b≠X.env.locals/\(∀ x c,X.env.cells.lookup x=some c->c≠b)/\∀ p∈X.pn++pins,p.1≠b):Inv X pins σ H' s':=by
 obtain ⟨h',g',d',t',o'⟩:=s';have e:o'=s.os:=ho;subst e;exact I.call (g':=g') (t':=t') (d':=d') u hok hg aL
end
noncomputable abbrev XK:=Value->Option Addr->Hp->Prop
noncomputable abbrev St:=List (Option V)
noncomputable abbrev VK:=V->Hp->Prop
noncomputable abbrev TE:=St->Hp->VK->Prop
noncomputable abbrev TT:=St->Hp->(Bool->Hp->Prop)->Prop
noncomputable abbrev TA:=St->Hp->(List V->Hp->Prop)->Prop
structure Ends where
 nx:St->Hp->Prop
 rt:VK
 bk:St->Hp->Prop:=fun _ _=>False
 ct:St->Hp->Prop:=fun _ _=>False
noncomputable abbrev TS:=Ends->St->Hp->Prop
noncomputable def EP (X:Cx) (pins:List (Addr×Obj)) (σ:St) (Q:VK) (u:Value) (s':Shared):Prop:=∃ v H',Inv X pins σ H' s'/\RelV v u/\Q v H'
noncomputable def TP (X:Cx) (pins:List (Addr×Obj)) (σ:St) (Q:Bool->Hp->Prop) (b:Bool) (s':Shared):Prop:=∃ H',Inv X pins σ H' s'/\Q b H'
noncomputable def AP (X:Cx) (pins:List (Addr×Obj)) (σ:St) (Q:List V->Hp->Prop) (us:List Value) (s':Shared):Prop:=∃ vs H',Inv X pins σ H' s'/\Vals vs us/\Q vs H'
noncomputable def SP (X:Cx) (pins:List (Addr×Obj)) (D:Ends) (f:Flow) (s':Shared):Prop:=
 match f with
 | .next=>∃ σ' H',Inv X pins σ' H' s'/\D.nx σ' H'
 | .brk=>∃ σ' H',Inv X pins σ' H' s'/\D.bk σ' H'
 | .cont=>∃ σ' H',Inv X pins σ' H' s'/\D.ct σ' H'
 | .ret u=>∃ v σ' H',Inv X pins σ' H' s'/\RelV v u/\D.rt v H'
noncomputable def PE (X:Cx) (e:Expr) (t:TE):Prop:=
 ∀ (pins:List (Addr×Obj)) (s:Shared) (σ:St) (H:Hp) (Q:VK),Inv X pins σ H s->t σ H Q->wpAny (model X.prog X.w) X.A (eval e X.env) (EP X pins σ Q) X.xe s
noncomputable def PT (X:Cx) (e:Expr) (t:TT):Prop:=
 ∀ (pins:List (Addr×Obj)) (s:Shared) (σ:St) (H:Hp) (Q:Bool->Hp->Prop),Inv X pins σ H s->t σ H Q->wpAny (model X.prog X.w) X.A (isTrue e X.env (eval e X.env)) (TP X pins σ Q) X.xe s
noncomputable def PW (X:Cx) (e:Expr) (t:TT):Prop:=
 ∀ (whole:Sem Value) (pins:List (Addr×Obj)) (s:Shared) (σ:St) (H:Hp) (Q:Bool->Hp->Prop),Inv X pins σ H s->t σ H Q->wpAny (model X.prog X.w) X.A (isTrue e X.env whole) (TP X pins σ Q) X.xe s
theorem PW.pt{X:Cx}{e:Expr}{t:TT}(h:PW X e t):PT X e t:=h _
noncomputable def PA (X:Cx) (es:List Expr) (t:TA):Prop:=
 ∀ (pos:Pos) (pins:List (Addr×Obj)) (s:Shared) (σ:St) (H:Hp) (Q:List V->Hp->Prop),Inv X pins σ H s->t σ H Q->wpAny (model X.prog X.w) X.A (spliced (backTo pos (starEach es X.env))) (AP X pins σ Q) X.xe s
noncomputable def PS (X:Cx) (st:Stmt) (t:TS):Prop:=
 ∀ (pins:List (Addr×Obj)) (s:Shared) (σ:St) (H:Hp) (D:Ends),Inv X pins σ H s->t D σ H->wpAny (model X.prog X.w) X.A (exec st X.env) (SP X pins D) X.xe s
noncomputable def Z0 (X:Cx) (st:List Stmt) (t:TS):Prop:=
 ∀ (pins:List (Addr×Obj)) (s:Shared) (σ:St) (H:Hp) (D:Ends),Inv X pins σ H s->t D σ H->wpAny (model X.prog X.w) X.A (execs st X.env) (SP X pins D) X.xe s
theorem B5{α:Type}{t:Sem α}{Q Q':α->Shared->Prop}{M:Model}{A:Around}{E:Value->Shared->Prop}{s:Shared}(h:wpAny M A t Q E s)(hQ:∀ a s,Q a s->Q' a s):wpAny M A t Q' E s:=wpAny_mono h hQ fun _ _ x=>x
end L2
namespace L2
open PySem PySem.Spec PyProof.Rows
section
variable {X:Cx}
noncomputable def tVar (i:Nat):TE:=fun σ H Q=>∃ v,σ[i]?=some (some v)/\Q v H
noncomputable def tC (v:V):TE:=fun _ H Q=>Q v H
theorem am5{i:Nat}{x:Str}{pos:Pos}(hN:X.N[i]?=some x)(hv:mD X.env.scope x)(hd:(x==("__debug__" : Str))=false:=by decide)(T6:(x==("__classdict__" : Str))=false:=by decide):PE X (.Name x pos) (tVar i):=by
 intro pins s σ H Q I h;obtain ⟨v,e,h⟩:=h;obtain ⟨m,hn,hl⟩:=I.loc;obtain ⟨u,r,l⟩:=hl i x v hN e hv;have fin:EP X pins σ Q u s:=⟨v,H,I,r,h⟩
 rcases l with ⟨hk,hm⟩ | ⟨hk,c,hc,N8⟩
 ·exact wpAny_Name (wpAny_loadName_local I.ok.kind hk hn hm fin) hd
 ·rcases hk with hk | hk
  ·exact wpAny_Name (wpAny_loadName_cell I.ok.kind hk hc N8 fin) hd
  ·exact wpAny_Name (wpAny_loadName_free I.ok.kind hk hc N8 fin T6) hd
theorem am6{i j pos} : PE X (.Constant (.int i) j pos) (tC (.int i)):=fun _ _ _ H _ I h=>wpAny_Constant_int ⟨.int i,H,I.tok _,⟨_,rfl⟩,h⟩
theorem pe_bl{b j pos} : PE X (.Constant (.bool b) j pos) (tC (.bl b)):=fun _ _ _ H _ I h=>Constant_bool ⟨.bl b,H,I,rfl,h⟩
theorem aqf{x j pos} : PE X (.Constant (.str x) j pos) (tC (.str x)):=fun _ _ _ H _ I h=>Calls.Constant_str ⟨.str x,H,I.tok _,⟨_,rfl⟩,h⟩
noncomputable def Gl (X:Cx) (x:Str):Prop:=X.env.kindOf x=some .globalImplicit
theorem uD{E:Value->Shared->Prop}{pins:List (Addr×Obj)}{s:Shared}{σ:St}{H:Hp}{x:Str}{u:Value}{pos:Pos}{Q:Value->Shared->Prop}(I:Inv X pins σ H s)(hg:Gl X x)(hm:X.mg x=some u)(h:Q u s)(hd:(x==("__debug__" : Str))=false:=by decide):wpAny (model X.prog X.w) X.A (eval (.Name x pos) X.env) Q E s:=
 Calls.Name_function_global I.ok.kind hg (Calls.loadGlobal_global (by rw [I.ok.glob];exact I.mod.glob.keeps I.bk) hm h) hd
theorem fJ{E:Value->Shared->Prop}{pins:List (Addr×Obj)}{s:Shared}{σ:St}{H:Hp}{x:Str}{u:Value}{pos:Pos}{Q:Value->Shared->Prop}(I:Inv X pins σ H s)(hg:Gl X x)(hm:X.mg x=none)(hv:bootBuiltins x=some u)(h:Q u s)(hn:x≠"__name__":=by decide)(hd:(x==("__debug__" : Str))=false:=by decide):wpAny (model X.prog X.w) X.A (eval (.Name x pos) X.env) Q E s:=by
 obtain ⟨mb,h1,h2⟩:=I.mod.blt;exact Calls.Name_function_global I.ok.kind hg (Calls.loadGlobal_builtin (by rw [I.ok.glob];exact I.mod.glob.keeps I.bk) hm (by rw [I.ok.blt];exact h1.keeps I.bk) ((h2 x hn).trans hv) h) hd
theorem aj1{x:Str}{v:V}{u:Value}{pos:Pos}(hg:Gl X x)(hm:X.mg x=some u)(r:RelV v u)(hd:(x==("__debug__" : Str))=false:=by decide):PE X (.Name x pos) (tC v):=
 fun _ _ _ H _ I h=>uD I hg hm ⟨v,H,I,r,h⟩ hd
variable {a b:Expr} {ta tb:TE} {pos:Pos}
noncomputable def tB (t:TE):TT:=fun σ H Q=>t σ H fun x H1=>∃ c,x=.bl c/\Q c H1
variable {tA tB':TT} {rest:List Expr}
noncomputable def tAnd (t u:TT):TT:=fun σ H Q=>t σ H fun c H1=>if c=true then u σ H1 Q else Q false H1
noncomputable def uE (t u:TT):TT:=fun σ H Q=>t σ H fun c H1=>if c=true then Q true H1 else u σ H1 Q
noncomputable def tNot (t:TT):TT:=fun σ H Q=>t σ H fun c H1=>Q (!c) H1
theorem anF(ha:PT X a tA):PW X (.BoolOp .And [a] pos) tA:=by
 intro wh pins s σ H Q I h;refine isTrue_and (B5 (ha pins s σ H Q I h) fun c s1 e=>?_)
 cases c with
 | true=>exact isTrue_and_nil e
 | false=>exact e
theorem aqg(ha:PT X a tA):PW X (.BoolOp .Or [a] pos) tA:=by
 intro wh pins s σ H Q I h;refine isTrue_or (B5 (ha pins s σ H Q I h) fun c s1 e=>?_)
 cases c with
 | false=>exact isTrue_or_nil e
 | true=>exact e
theorem aqh(ha:PT X a tA)(hb:PW X (.BoolOp .And (b::rest) pos) tB'):PW X (.BoolOp .And (a::b::rest) pos) (tAnd tA tB'):=by
 intro wh pins s σ H Q I h;refine isTrue_and (B5 (ha pins s σ H _ I h) fun c s1 ⟨H1,I1,q1⟩=>?_)
 cases c with
 | true=>exact hb wh pins s1 σ H1 Q I1 q1
 | false=>exact ⟨H1,I1,q1⟩
theorem pw_or(ha:PT X a tA)(hb:PW X (.BoolOp .Or (b::rest) pos) tB'):PW X (.BoolOp .Or (a::b::rest) pos) (uE tA tB'):=by
 intro wh pins s σ H Q I h;refine isTrue_or (B5 (ha pins s σ H _ I h) fun c s1 ⟨H1,I1,q1⟩=>?_)
 cases c with
 | true=>exact ⟨H1,I1,q1⟩
 | false=>exact hb wh pins s1 σ H1 Q I1 q1
theorem aqi(ha:PT X a tA):PT X (.UnaryOp .Not a pos) (tNot tA):=by
 intro pins s σ H Q I h;exact isTrue_not (ha pins s σ H (fun c H1=>Q (!c) H1) I h)
noncomputable def tAndV (ta tb:TE):TE:=fun σ H Q=>ta σ H fun x H1=>∃ c,x=.bl c/\if c=true then tb σ H1 Q else Q (.bl false) H1
noncomputable def tOrV (ta tb:TE):TE:=fun σ H Q=>ta σ H fun x H1=>∃ c,x=.bl c/\if c=true then Q (.bl true) H1 else tb σ H1 Q
noncomputable def tNotV (ta:TE):TE:=fun σ H Q=>ta σ H fun x H1=>∃ c,x=.bl c/\Q (.bl (!c)) H1
theorem aqj{op}{t:TE}(h:PE X a t):PE X (.BoolOp op [a] pos) t:=fun pins s σ H Q I hw=>BoolOp_one (h pins s σ H Q I hw)
theorem aqk(ha:PE X a ta)(hb:PE X (.BoolOp .And (b::rest) pos) tb):PE X (.BoolOp .And (a::b::rest) pos) (tAndV ta tb):=by
 intro pins s σ H Q I h;refine BoolOp_and (B5 (ha pins s σ H _ I h) fun v s1 ⟨x,H1,I1,r1,q1⟩=>?_);obtain ⟨c,rfl,q1⟩:=q1
 cases r1
 refine wpAny_truthy_bool ?_
 cases c with
 | true=>exact hb pins s1 σ H1 Q I1 q1
 | false=>exact ⟨.bl false,H1,I1,rfl,q1⟩
noncomputable def uF (t:TT) (ta tb:TE):TE:=fun σ H Q=>t σ H fun c H1=>if c=true then ta σ H1 Q else tb σ H1 Q
theorem alN{c:Expr}(hc:PT X c tA)(ha:PE X a ta)(hb:PE X b tb):PE X (.IfExp c a b pos) (uF tA ta tb):=by
 intro pins s σ H Q I h;refine wpAny_IfExp (B5 (hc pins s σ H _ I h) fun d s1 ⟨H1,I1,q1⟩=>?_)
 cases d with
 | true=>exact ha pins s1 σ H1 Q I1 q1
 | false=>exact hb pins s1 σ H1 Q I1 q1
end
end L2
namespace L2
open PySem PySem.Spec PyProof.Rows
noncomputable def E2 (K:PySem.W.Frag) (H:Hp) (a:Addr) (xs:List V):Prop:=
 Rd H a (.lst xs)\/
  ∃ (o:Obj) (its:Array Value) (n:Nat),K.lookup a=some o/\o.cls=.type "list"/\o.dict=none/\o.data=.seq its n/\its.size<=sizeLine/\Vals xs its.toList
noncomputable def C7 (K:PySem.W.Frag) (H:Hp) (a:Addr) (xs:List V):Prop:=
 Rd H a (.tup xs)\/
  ∃ (o:Obj) (its:Array Value) (n:Nat),K.lookup a=some o/\o.cls=.type "tuple"/\o.data=.seq its n/\its.size<=sizeLine/\Vals xs its.toList
noncomputable def absV:Value->Option V
 | .none=>some .non
 | .bool b=>some (.bl b)
 | .int i _=>some (.int i)
 | .str x _=>some (.str x)
 | .bytes b _=>some (.byt b)
 | .float b _=>some (.flt b)
 | .ref a=>some (.ref a)
 | .type n=>some (.ty n)
 | _=>none
theorem RelV.abs{x:V}{u:Value}(r:RelV x u):absV u=some x:=by
 cases x with
 | non=>cases r;rfl
 | bl _=>cases r;rfl
 | int _=>obtain ⟨t,rfl⟩:=r;rfl
 | str _=>obtain ⟨t,rfl⟩:=r;rfl
 | byt _=>obtain ⟨t,rfl⟩:=r;rfl
 | flt _=>obtain ⟨t,rfl⟩:=r;rfl
 | ref _=>cases r;rfl
 | ty _=>cases r;rfl
theorem RelV.inj{x y:V}{u:Value}(r:RelV x u)(q:RelV y u):x=y:=Option.some.inj (r.abs.symm.trans q.abs)
theorem Vals.inj:∀ {xs ys:List V} {us:List Value},Vals xs us->Vals ys us->xs=ys
 | _,_,_,.nil,.nil=>rfl
 | _,_,_,.cons r t,.cons r' t'=>by rw [r.inj r',Vals.inj t t']
section
variable {X:Cx} {pins:List (Addr×Obj)} {σ:St} {H:Hp} {s:Shared} {a:Addr} {xs ys:List V}
theorem E2.of{K:PySem.W.Frag}(h:H a=some (.lst xs)):E2 K H a xs:=.inl (.inl h)
theorem C7.of{K:PySem.W.Frag}(h:H a=some (.tup xs)):C7 K H a xs:=.inl (.inl h)
theorem Inv.list(I:Inv X pins σ H s)(h:E2 X.K H a xs):∃ its:List Value,Vals xs its/\PlainL s.heap a its.toArray/\xs.length<=sizeLine:=by
 rcases h with h | ⟨o,its,n,hk,hc,hd,hs,hz,r⟩
 ·obtain ⟨z,its,n,r,e⟩:=h.ok I.hok;exact ⟨its,r,⟨_,n,e,rfl,rfl,rfl⟩,z⟩
 ·refine ⟨its.toList,r,⟨o,n,I.kIn a o hk,hc,hd,by simpa using hs⟩,?_⟩;have e:=r.length;simp only [fI] at e;walk_at "o"
theorem Inv.tuple(I:Inv X pins σ H s)(h:C7 X.K H a xs):∃ its:List Value,Vals xs its/\IsTup s.heap a its.toArray/\xs.length<=sizeLine:=by
 rcases h with h | ⟨o,its,n,hk,hc,hs,hz,r⟩
 ·obtain ⟨z,its,r,p⟩:=h.ok I.hok;exact ⟨its,r,p,z⟩
 ·refine ⟨its.toList,r,⟨o,I.kIn a o hk,hc,n,by simpa using hs⟩,?_⟩;have e:=r.length;simp only [fI] at e;walk_at "o"
theorem Inv.list_inj(I:Inv X pins σ H s)(h:E2 X.K H a xs)(h':E2 X.K H a ys):xs=ys:=by
 obtain ⟨its,r,⟨o,n,e,_,_,d⟩,_⟩:=I.list h;obtain ⟨its',r',⟨o',n',e',_,_,d'⟩,_⟩:=I.list h';rw [e] at e';cases e';rw [d] at d'
 injection d' with d1 _
 have:its=its':=by simpa using congrArg Array.toList d1
 subst this;exact r.inj r'
theorem Inv.tuple_inj(I:Inv X pins σ H s)(h:C7 X.K H a xs)(h':C7 X.K H a ys):xs=ys:=by
 obtain ⟨its,r,⟨o,e,_,n,d⟩,_⟩:=I.tuple h;obtain ⟨its',r',⟨o',e',_,n',d'⟩,_⟩:=I.tuple h';rw [e] at e';cases e';rw [d] at d'
 injection d' with d1 _
 have:its=its':=by simpa using congrArg Array.toList d1
 subst this;exact r.inj r'
end
noncomputable abbrev Cx.wish (X:Cx) (E:Value->Shared->Prop):Cx:={ X with xe:=E }
noncomputable abbrev Cx.nox (X:Cx):Cx:=X.wish fun _ _=>False
theorem Cx.Ok.wish{X:Cx}(ok:X.Ok)(E:Value->Shared->Prop):(X.wish E).Ok:=
 ⟨ok.mod,ok.kind,ok.glob,ok.blt,ok.above,ok.inj,ok.has,ok.cab,ok.hd,ok.frames,ok.stk,ok.exf,ok.bs,ok.bsz,ok.noex,ok.exfs,ok.funs,ok.frf⟩
theorem Cx.Ok.unwish{X:Cx}{E:Value->Shared->Prop}(ok:(X.wish E).Ok):X.Ok:=
 ⟨ok.mod,ok.kind,ok.glob,ok.blt,ok.above,ok.inj,ok.has,ok.cab,ok.hd,ok.frames,ok.stk,ok.exf,ok.bs,ok.bsz,ok.noex,ok.exfs,ok.funs,ok.frf⟩
section
variable {X:Cx} {pins:List (Addr×Obj)} {σ:St} {H:Hp} {s:Shared} {E:Value->Shared->Prop}
theorem Inv.wish(I:Inv X pins σ H s)(E:Value->Shared->Prop):Inv (X.wish E) pins σ H s:=⟨I.ok.wish E,I.os,I.bare,I.base,I.loc,I.cell,I.free,I.freeC,I.pin,I.hok,I.len⟩
theorem Inv.unwish(I:Inv (X.wish E) pins σ H s):Inv X pins σ H s:=⟨I.ok.unwish,I.os,I.bare,I.base,I.loc,I.cell,I.free,I.freeC,I.pin,I.hok,I.len⟩
theorem SP.unwish{D:Ends}{f:Flow}{s':Shared}(h:SP (X.wish E) pins D f s'):SP X pins D f s':=by
 cases f with
 | next=>obtain ⟨σ',H',I,q⟩:=h;exact ⟨σ',H',I.unwish,q⟩
 | brk=>obtain ⟨σ',H',I,q⟩:=h;exact ⟨σ',H',I.unwish,q⟩
 | cont=>obtain ⟨σ',H',I,q⟩:=h;exact ⟨σ',H',I.unwish,q⟩
 | ret u=>obtain ⟨v,σ',H',I,r,q⟩:=h;exact ⟨v,σ',H',I.unwish,r,q⟩
theorem Z0.nox{st:List Stmt}{t:TS}(h:Z0 X.nox st t):Z0 X st t:=fun pins s σ H D I hw=>
 wpAny_mono (h pins s σ H D (I.wish _) hw) (fun _ _ q=>q.unwish) fun _ _ z=>False.elim z
end
section
variable {X:Cx} {st:Stmt} {rest:List Stmt} {t u:TS} {e:Expr} {te:TE} {pos:Pos}
noncomputable def tNext:TS:=fun D σ H=>D.nx σ H
noncomputable def tSeq (t u:TS):TS:=fun D σ H=>t { D with nx:=u D } σ H
theorem anG:Z0 X [] tNext:=fun _ _ σ H _ I h=>wpAny_execs_nil ⟨σ,H,I,h⟩
theorem alO(h1:PS X st t)(h2:Z0 X rest u):Z0 X (st::rest) (tSeq t u):=by
 intro pins s σ H D I h;refine wpAny_execs_cons (B5 (h1 pins s σ H { D with nx:=u D } I h) fun f s1 q=>?_)
 cases f with
 | next=>
  obtain ⟨σ',H',I',q⟩:=q;exact h2 pins s1 σ' H' D I' q
 | ret v=>exact q
 | brk=>exact q
 | cont=>exact q
theorem anH(h1:PS X st t):Z0 X [st] t:=by
 intro pins s σ H D I h;refine wpAny_execs_cons (B5 (h1 pins s σ H D I h) fun f s1 q=>?_)
 cases f with
 | next=>exact wpAny_execs_nil q
 | ret v=>exact q
 | brk=>exact q
 | cont=>exact q
noncomputable def aql:TS:=fun D σ H=>D.bk σ H
noncomputable def tCont:TS:=fun D σ H=>D.ct σ H
theorem Inv.quiet{pins:List (Addr×Obj)}{σ:St}{H:Hp}{s:Shared}(I:Inv X pins σ H s):interactive X.env=false:=by simp [interactive,I.ok.kind]
noncomputable def tDrop (te:TE):TS:=fun D σ H=>te σ H fun _ H1=>D.nx σ H1
theorem anI(he:PE X e te)(hs:swapsWith e none pos.line X.env=pure false:=by rfl):PS X (.Expr e pos) (tDrop te):=by
 intro pins s σ H D I h;exact wpAny_Expr_any (B5 (he pins s σ H _ I h) fun v s1 ⟨x,H1,I1,r1,q1⟩=>⟨σ,H1,I1,q1⟩) I.quiet hs
noncomputable def tRet (te:TE):TS:=fun D σ H=>te σ H D.rt
theorem aqm(he:PE X e te):PS X (.Return (some e) pos) (tRet te):=by
 intro pins s σ H D I h;exact wpAny_Return_some (B5 (he pins s σ H _ I h) fun v s1 ⟨x,H1,I1,r1,q1⟩=>⟨x,σ,H1,I1,r1,q1⟩)
noncomputable def tRetN:TS:=fun D _ H=>D.rt .non H
noncomputable def tIfS (c:TT) (t u:TS):TS:=fun D σ H=>c σ H fun b H1=>if b=true then t D σ H1 else u D σ H1
theorem ps_if{c:Expr}{a b:List Stmt}{tc:TT}(hc:PT X c tc)(ha:Z0 X a t)(hb:Z0 X b u):PS X (.If c a b pos) (tIfS tc t u):=by
 intro pins s σ H D I h;refine wpAny_If (B5 (hc pins s σ H _ I h) fun d s1 ⟨H1,I1,q1⟩=>?_)
 cases d with
 | true=>exact ha pins s1 σ H1 D I1 q1
 | false=>exact hb pins s1 σ H1 D I1 q1
noncomputable def uG:TS:=fun _ _ _=>False
theorem alP:PS X st uG:=fun _ _ _ _ _ _ h=>h.elim
end
noncomputable abbrev TG:=V->St->Hp->(St->Hp->Prop)->Prop
noncomputable abbrev l7:=List V->St->Hp->(St->Hp->Prop)->Prop
noncomputable def PG (X:Cx) (target:Expr) (t:TG):Prop:=
 ∀ (pins:List (Addr×Obj)) (s:Shared) (σ:St) (H:Hp) (v:V) (u:Value) (Q:St->Hp->Prop),Inv X pins σ H s->RelV v u->t v σ H Q->
  wpAny (model X.prog X.w) X.A (assign target X.env u) (fun _ s'=>∃ σ' H',Inv X pins σ' H' s'/\Q σ' H') X.xe s
noncomputable def mE (X:Cx) (ts:List Expr) (t:l7):Prop:=
 ∀ (pins:List (Addr×Obj)) (s:Shared) (σ:St) (H:Hp) (vs:List V) (us:List Value) (Q:St->Hp->Prop),Inv X pins σ H s->Vals vs us->t vs σ H Q->
  wpAny (model X.prog X.w) X.A (assignInOrder ((assignEach ts X.env).map (·.2)) us) (fun _ s'=>∃ σ' H',Inv X pins σ' H' s'/\Q σ' H') X.xe s
noncomputable abbrev TSet:=V->V->V->Hp->(Hp->Prop)->Prop
noncomputable def PSet (X:Cx) (t:TSet):Prop:=
 ∀ (pins:List (Addr×Obj)) (s:Shared) (σ:St) (H:Hp) (o i v:V) (ov iv u:Value) (Q:Hp->Prop),Inv X pins σ H s->RelV o ov->RelV i iv->RelV v u->t o i v H Q->
  wpAny (model X.prog X.w) X.A (setItem ov iv u) (fun _ s'=>∃ H',Inv X pins σ H' s'/\Q H') X.xe s
noncomputable abbrev fK:=V->V->Hp->VK->Prop
noncomputable def uH (X:Cx) (op:Operator) (t:fK):Prop:=
 ∀ (pins:List (Addr×Obj)) (s:Shared) (σ:St) (H:Hp) (x y:V) (v u:Value) (Q:VK),Inv X pins σ H s->RelV x v->RelV y u->t x y H Q->
  wpAny (model X.prog X.w) X.A (inplaceOp op v u) (EP X pins σ Q) X.xe s
section
variable {X:Cx} {pos:Pos}
noncomputable def gName (i:Nat):TG:=fun v σ H Q=>Q (σ.set i (some v)) H
theorem anJ{i:Nat}{x:Str}(hN:X.N.Nodup)(hi:X.N[i]?=some x)(hx:l6 X.env.scope x)(hf:X.fn x=true\/X.env.scope.names.lookup x=some .local:=by first | exact .inl rfl | exact .inr rfl | assumption):PG X (.Name x pos) (gName i):=by
 intro pins s σ H v u Q I r h;exact wpAny_assign_Name (qO I hN hi hx r (fun s' I'=>⟨_,H,I',h⟩) hf)
noncomputable def gNil:l7:=fun vs σ H Q=>vs=[]/\Q σ H
noncomputable def gCons (t:TG) (u:l7):l7:=fun vs σ H Q=>∃ v r,vs=v::r/\t v σ H fun σ' H'=>u r σ' H' Q
theorem anK:mE X [] gNil:=by
 intro pins s σ H vs us Q I r h;obtain ⟨e,h⟩:=h;subst e
 cases r
 exact assignInOrder_nil ⟨σ,H,I,h⟩
theorem alQ{e:Expr}{es:List Expr}{t:TG}{u:l7}(h1:PG X e t)(h2:mE X es u)(hs:(assignEach (e::es) X.env).map (·.2)=assign e X.env::(assignEach es X.env).map (·.2):=by rfl):mE X (e::es) (gCons t u):=by
 intro pins s σ H vs us Q I r h;obtain ⟨v,vr,e1,h⟩:=h;subst e1
 cases r with
 | cons r rr=>
  rw [hs];refine assignInOrder_cons (B5 (h1 pins s σ H _ _ _ I r h) fun _ s1 ⟨σ1,H1,I1,q1⟩=>?_);exact h2 pins s1 σ1 H1 _ _ Q I1 rr q1
noncomputable def gTup (K:PySem.W.Frag) (n:Nat) (t:l7):TG:=fun v σ H Q=>∃ a xs,v=.ref a/\C7 K H a xs/\xs.length=n/\t xs σ H Q
theorem aqn{es:List Expr}{k:Nat}{t:l7}{n:Nat}(hc:X.calm=true)(h:mE X es t)(hn:(assignEach es X.env).length=n:=by rfl)(T7:(assignEach es X.env).findIdx? (·.1)=none:=by rfl):PG X (.Tuple es k pos) (gTup X.K n t):=by
 intro pins s σ H v u Q I r hw;obtain ⟨a,xs,e1,hq,hl,hw⟩:=hw;subst e1
 cases r
 obtain ⟨its,rv,ht,hz⟩:=I.tuple hq;refine assign_Tuple_tuple (I.ok.hd hc) ht (by simp [hn,<- hl,rv.length]) T7 fun h' hx=>?_
 have I1:Inv X pins σ H { s with heap:=h' }:=I.kept (t':=s.toks) fun b o e=>hx b o (O6 (Heap.lt_size e)) e
 exact h pins _ σ H xs _ Q I1 (by simpa using rv) hw
noncomputable def gSub (to ti:TE) (t:TSet):TG:=fun v σ H Q=>to σ H fun o H1=>ti σ H1 fun i H2=>t o i v H2 fun H3=>Q σ H3
theorem aqo{o i:Expr}{to ti:TE}{t:TSet}(ho:PE X o to)(hi:PE X i ti)(hs:PSet X t)(ha:∀ v,assign (.Subscript o i pos) X.env v=(do
   let ov <- holding [v] (eval o X.env)
   let iv <- holding [v,ov] (eval i X.env)
   standAt pos
   holding [v,ov,iv] (setItem ov iv v)
   release [v,ov,iv] []):=by intro _;rfl):PG X (.Subscript o i pos) (gSub to ti t):=by
 intro pins s σ H v u Q I r h;rw [ha];refine wpAny_bind (wpAny_holding (B5 (ho pins s σ H _ I h) fun ov s1 ⟨x,H1,I1,r1,q1⟩=>?_));refine wpAny_bind (wpAny_holding (B5 (hi pins s1 σ H1 _ I1 q1) fun iv s2 ⟨y,H2,I2,r2,q2⟩=>?_));refine wpAny_bind (wpAny_standAt (wpAny_bind (wpAny_holding (B5 (hs pins s2 σ H2 x y v ov iv u _ I2 r1 r2 r q2) fun _ s3 ⟨H3,I3,q3⟩=>?_))));exact wpAny_release ⟨σ,H3,I3,q3⟩
noncomputable def tAsg (te:TE) (g:TG):TS:=fun D σ H=>te σ H fun x H1=>g x σ H1 D.nx
theorem aqp{tg e:Expr}{te:TE}{g:TG}(he:PE X e te)(hg:PG X tg g)(hs:swapsWithSole [tg] e pos.line X.env=pure false:=by rfl)(hw:swappedStores [tg] e X.env=pure none:=by rfl)(h1:(assignEach [tg] X.env).map (·.2)=[assign tg X.env]:=by rfl):PS X (.Assign [tg] e pos) (tAsg te g):=by
 intro pins s σ H D I h;refine wpAny_Assign_stores (B5 (he pins s σ H _ I h) fun v s1 ⟨x,H1,I1,r1,q1⟩=>?_) hs hw;rw [h1];exact B5 (hg pins s1 σ H1 x v _ I1 r1 q1) fun _ s2 q=>q
theorem aqq{i:Nat}{x:Str}{e:Expr}{te:TE}{pos':Pos}(hN:X.N.Nodup)(hi:X.N[i]?=some x)(hx:l6 X.env.scope x)(he:PE X e te)(hs:swapsWith e (some (.Name x pos')) pos.line X.env=pure false:=by rfl)(hf:X.fn x=true\/X.env.scope.names.lookup x=some .local:=by first | exact .inl rfl | exact .inr rfl | assumption) :
  PS X (.Assign [.Name x pos'] e pos) (tAsg te (gName i)):=by
 intro pins s σ H D I h;refine wpAny_Assign_Name (B5 (he pins s σ H _ I h) fun v s1 ⟨y,H1,I1,r1,q1⟩=>?_) hs;exact qO I1 hN hi hx r1 (fun s2 I2=>⟨_,H1,I2,q1⟩) hf
noncomputable def tAug (i:Nat) (te:TE) (ti:fK):TS:=fun D σ H=>∃ x,σ[i]?=some (some x)/\te σ H fun y H1=>ti x y H1 fun z H2=>D.nx (σ.set i (some z)) H2
theorem aqr{i:Nat}{x:Str}{e:Expr}{te:TE}{op:Operator}{ti:fK}{pos':Pos}(hN:X.N.Nodup)(hi:X.N[i]?=some x)(hx:l6 X.env.scope x)(he:PE X e te)(ho:uH X op ti)(hf:X.fn x=true\/X.env.scope.names.lookup x=some .local:=by first | exact .inl rfl | exact .inr rfl | assumption) :
  PS X (.AugAssign (.Name x pos') op e pos) (tAug i te ti):=by
 intro pins s σ H D I h;obtain ⟨v,e1,h⟩:=h;obtain ⟨m,hn,hl⟩:=I.loc;have vis:mD X.env.scope x:=by rcases hx with k | k;exact .inl k;exact .inr (.inl k)
 obtain ⟨u,r,l⟩:=hl i x v hi e1 vis;refine wpAny_AugAssign_Name ?_;have go:wpAny (model X.prog X.w) X.A (eval e X.env) (fun w s₂=>wpAny (model X.prog X.w) X.A (inplaceOp op u w) (fun r s₃=>wpAny (model X.prog X.w) X.A (storeName X.env x r) (fun _=>SP X pins D .next) X.xe s₃) X.xe s₂) X.xe s:=by
  refine B5 (he pins s σ H _ I h) fun w s1 ⟨y,H1,I1,r1,q1⟩=>?_
  refine B5 (ho pins s1 σ H1 v y u w _ I1 r r1 q1) fun z s2 ⟨zv,H2,I2,r2,q2⟩=>?_
  exact qO I2 hN hi hx r2 (fun s3 I3=>⟨_,H2,I3,q2⟩) hf
 rcases l with ⟨hk,hm⟩ | ⟨hk,c,hc,N8⟩
 ·exact wpAny_loadName_local I.ok.kind hk hn hm go
 ·rcases hk with hk | hk
  ·exact wpAny_loadName_cell I.ok.kind hk hc N8 go
  ·rcases hx with k | k
   ·have:X.env.scope.names.lookup x=some .free:=hk
    rw [k] at this;cases this
   ·have:X.env.scope.names.lookup x=some .free:=hk
    rw [k] at this;cases this
noncomputable def uI (f:Int->Int->Int):fK:=fun x y H Q=>∃ i j,x=.int i/\y=.int j/\Q (.int (f i j)) H
theorem aqs:uH X .Add (uI fun i j=>i+j):=by
 intro pins s σ H x y v u Q I r1 r2 h;obtain ⟨i,j,e1,e2,q⟩:=h;subst e1;subst e2;obtain ⟨t,rfl⟩:=r1;obtain ⟨t',rfl⟩:=r2;exact iadd_int ⟨.int _,H,I.tok _,⟨_,rfl⟩,q⟩
end
section
variable {X:Cx} {pos:Pos}
noncomputable def qP (c:TT) (tb:TS):TS:=fun D σ H=>∃ W:Nat->St->Hp->Prop,(∃ m,W m σ H)/\∀ m σ H,W m σ H->
 c σ H fun b H1=>if b=true then ∃ N:St->Hp->Prop,(∀ σ' H',N σ' H'->∃ m',m'<m/\W m' σ' H')/\tb { D with nx:=N,ct:=N,bk:=D.nx } σ H1 else D.nx σ H1
theorem alR{c:Expr}{body:List Stmt}{tc:TT}{tb:TS}(hp:PassesOwn (model X.prog X.w) X.A X.env X.xe)(hc:PT X c tc)(hb:Z0 X body tb):PS X (.While c body [] pos) (qP tc tb):=by
 intro pins s σ H D I h;obtain ⟨W,⟨m0,w0⟩,turn⟩:=h;refine wpAny_While (codeAny_whileLoop (fun n s'=>∃ σ' H',Inv X pins σ' H' s'/\W n σ' H') ?_ m0 ⟨σ,H,I,w0⟩);rintro n s1 ⟨σ1,H1,I1,w1⟩;refine wpAny_passesOwn hp (B5 (hc pins s1 σ1 H1 _ I1 (turn n σ1 H1 w1)) fun b s2 ⟨H2,I2,q2⟩=>?_)
 cases b with
 | true=>
  obtain ⟨N,hN,q2⟩:=q2;rw [if_pos rfl];refine wpAny_passesOwn hp (B5 (hb pins s2 σ1 H2 _ I2 q2) fun f s3 q3=>?_)
  cases f with
  | next=>
   obtain ⟨σ3,H3,I3,n3⟩:=q3;obtain ⟨m',hm,w3⟩:=hN σ3 H3 n3;exact ⟨m',hm,σ3,H3,I3,w3⟩
  | cont=>
   obtain ⟨σ3,H3,I3,n3⟩:=q3;obtain ⟨m',hm,w3⟩:=hN σ3 H3 n3;exact ⟨m',hm,σ3,H3,I3,w3⟩
  | brk=>exact q3
  | ret v=>exact q3
 | false=>
  rw [if_neg N2];exact wpAny_execs_nil ⟨σ1,H2,I2,q2⟩
end
structure It where
 go:Nat->Hp->Prop
 yld:Nat->Hp->V->Hp->Prop
 stop:Nat->Hp->Prop
noncomputable def FpOk (X:Cx) (pins:List (Addr×Obj)) (H:Hp) (b:Addr):Prop:=
 H b=none/\b≠X.env.locals/\b∉X.fs/\(b∈X.ex\/X.s₀.heap.objs.size<=b)/\(∀ x c,X.env.cells.lookup x=some c->c≠b)/\∀ p∈X.pn++pins,p.1≠b
theorem Inv.fpOk{X:Cx}{pins:List (Addr×Obj)}{σ:St}{H H':Hp}{s:Shared}{b:Addr}(I:Inv X pins σ H s)(hb:s.heap.objs.size<=b)(hn:H' b=none):FpOk X pins H' b:=by
 refine ⟨hn,Nat.ne_of_gt (R8 I.lt hb),I.nofs hb,.inr (L3 I.sz hb),fun x c e z=>?_,fun p hp z=>?_⟩
 ·obtain ⟨v,q⟩:=I.cell x c e;exact absurd (R8 q.lt (by rw [z];exact hb)) (r0 _)
 ·exact absurd (R8 (Heap.lt_size (I.pin p hp).1) (by rw [z];exact hb)) (r0 _)
structure Turn(P:Program)(w:World)(K:PySem.W.Frag)(tg:Expr)(J:It)(fp:List Addr)(it:Addr)(tn:Nat->Heap->Prop):Prop where
 mem:it∈fp
 obj:∀ i h,tn i h->∀ b∈fp,∃ o,h.get? b=some o/\∀ v,o.data≠.cell v
 keep:∀ i h h',tn i h->(∀ b∈fp,∀ o,h.get? b=some o->h'.get? b=some o)->tn i h'
 item:∀ (X:Cx),X.prog=P->X.w=w->X.K=K->X.calm=true->∀ (i:Nat) (pins:List (Addr×Obj)) (s:Shared) (σ:St) (H:Hp) (E:Value->Shared->Prop),Inv X pins σ H s->(∀ b∈fp,FpOk X pins H b)->tn i s.heap->J.go i H->
  wpAny (model P w) X.A (pyNext (.ref it)) (fun r s1=>∃ u,r=some u/\
   wpAny (model P w) X.A (letOwnedTupleGo tg (.ref it) u) (fun _ s2=>∃ x H',Inv X pins σ H' s2/\RelV x u/\J.yld i H x H'/\tn (i+1) s2.heap/\∀ b∈fp,H' b=none) E s1) E s
 done:∀ (X:Cx),X.prog=P->X.w=w->X.K=K->X.calm=true->∀ (i:Nat) (pins:List (Addr×Obj)) (s:Shared) (σ:St) (H:Hp) (E:Value->Shared->Prop),Inv X pins σ H s->(∀ b∈fp,FpOk X pins H b)->tn i s.heap->J.stop i H->
  wpAny (model P w) X.A (pyNext (.ref it)) (fun r s1=>r=none/\Inv X pins σ H s1) E s
 self:∀ (A:Around) (i:Nat) (s:Shared) (Q:Value->Shared->Prop) (E:Value->Shared->Prop),tn i s.heap->Q (.ref it) s->wpAny (model P w) A (pyIter (.ref it)) Q E s
noncomputable abbrev TI:=St->Hp->(It->Hp->Prop)->Prop
noncomputable def uJ (X:Cx) (pins:List (Addr×Obj)) (σ:St) (tg:Expr) (R:It->Hp->Prop) (itv:Value) (s2:Shared):Prop:=
 ∃ (it:Addr) (fp:List Addr) (tn:Nat->Heap->Prop) (J:It) (H':Hp),itv=.ref it/\Inv X pins σ H' s2/\Turn X.prog X.w X.K tg J fp it tn/\tn 0 s2.heap/\(∀ b∈fp,FpOk X pins H' b)/\R J H'
noncomputable def PI (X:Cx) (tg iter:Expr) (wi:TI):Prop:=
 ∀ (pins:List (Addr×Obj)) (s:Shared) (σ:St) (H:Hp) (R:It->Hp->Prop),Inv X pins σ H s->wi σ H R->
  wpAny (model X.prog X.w) X.A (eval iter X.env) (fun v s1=>wpAny (model X.prog X.w) X.A (pyIter v) (uJ X pins σ tg R) X.xe s1) X.xe s
theorem go_of{M : Model}{A : Around}{E : Value -> Shared -> Prop}{s : Shared}{tg : Expr}{it : Addr}{u : Value}{o : Obj}{n : String}{vs : Array Value}{Q : Unit -> Shared -> Prop}(ho : s.heap.get? it = some o)(hc : o.cls = .type n)(hd : o.data = .fields vs)(hn : ["enumerate", "zip", "dict_itemiterator", "dict_reverseitemiterator", "odict_iterator", "itertools.zip_longest", "itertools.pairwise"].contains n = false)(hQ : Q () s) : wpAny M A (letOwnedTupleGo tg (.ref it) u) Q E s := by
  unfold letOwnedTupleGo
  cases tg <;> first
    | exact wpAny_pure hQ
    | (cases u <;> first
        | exact wpAny_pure hQ
        | (refine wpAny_bind (wpAny_load ho ?_)
           rw [hc, hd];show wpAny M A (if (["enumerate", "zip", "dict_itemiterator", "dict_reverseitemiterator", "odict_iterator", "itertools.zip_longest", "itertools.pairwise"].contains n&&vs[0]? == some (rawInt _)) = true then _ else _) Q E s;rw [if_neg (by intro h; rw [hn, Bool.false_and] at h; cases h)];exact wpAny_pure hQ))
noncomputable def z9 (K:PySem.W.Frag) (a:Addr):It:=
 ⟨fun i H=>∃ xs x,E2 K H a xs/\xs[i]?=some x,fun i H x H'=>H'=H/\∀ xs,E2 K H a xs->xs[i]?=some x,fun i H=>∃ xs,E2 K H a xs/\xs.length<=i⟩
noncomputable def cZ (K:PySem.W.Frag) (a:Addr):It:=
 ⟨fun i H=>∃ xs x,C7 K H a xs/\xs[i]?=some x,fun i H x H'=>H'=H/\∀ xs,C7 K H a xs->xs[i]?=some x,fun i H=>∃ xs,C7 K H a xs/\xs.length<=i⟩
noncomputable def t5 (lo:Int) (n:Nat):It:=⟨fun i _=>i<n,fun i H x H'=>H'=H/\x=.int (lo+i),fun i _=>n<=i⟩
theorem aj3{P:Program}{w:World}{K:PySem.W.Frag}{tg:Expr}(a it:Addr):Turn P w K tg (z9 K a) [it] it (fun i h=>h.IsListIter it a i) where
 mem:=by simp
 obj:=fun i h st b hb=>by
  have e:b=it:=by simpa using hb
  subst e;obtain ⟨o,e,c,d⟩:=st;exact ⟨o,e,fun v z=>by rw [d] at z;cases z⟩
 keep:=fun i h h' st k=>st.at fun o e=>k it (by simp) o e
 item:=by
  intro X hP hw hK hc i pins s σ H E I hf st hg;subst hP hw hK;obtain ⟨xs,x,hq,hx⟩:=hg;obtain ⟨its,rv,p,hz⟩:=I.list hq;obtain ⟨u,hu,ru⟩:=rv.get hx;obtain ⟨f0,f1,f2,f3,f4,f5⟩:=hf it (by simp);refine wpAny_pyNext_list_item st p.isList (x:=u) (by simpa using hu) fun h' st' sb=>?_
  have I1:Inv X pins σ H { s with heap:=h' }:=I.turned (t':=s.toks) (fun b o hb e=>(sb.2 b hb).trans e) f0 f1 f3 f4 f5;obtain ⟨o,e,c,d⟩:=id st';exact ⟨u,rfl,go_of (s:={ s with heap:=h' }) e c d (by decide) ⟨x,H,I1,ru,⟨rfl,fun ys hy=>by rw [I.list_inj hy hq];exact hx⟩,st',fun b hb=>(hf b hb).1⟩⟩
 done:=by
  intro X hP hw hK hc i pins s σ H E I hf st hg;subst hP hw hK;obtain ⟨xs,hq,hx⟩:=hg;obtain ⟨its,rv,p,hz⟩:=I.list hq;obtain ⟨f0,f1,f2,f3,f4,f5⟩:=hf it (by simp);have hl:=rv.length;exact wpAny_pyNext_list_end (I.ok.hd hc) st p.isList (by simp;walk_at "o") fun h' eb=>⟨rfl,I.turned (t':=s.toks) (fun b o hb e=>eb b o hb e) f0 f1 f3 f4 f5⟩
 self:=fun _ _ _ _ _ st h=>wpAny_pyIter_listiter st h
theorem aje{P:Program}{w:World}{K:PySem.W.Frag}{tg:Expr}(a it:Addr):Turn P w K tg (cZ K a) [it] it (fun i h=>h.IsTupleIter it a i) where
 mem:=by simp
 obj:=fun i h st b hb=>by
  have e:b=it:=by simpa using hb
  subst e;obtain ⟨o,e,c,d⟩:=st;exact ⟨o,e,fun v z=>by rw [d] at z;cases z⟩
 keep:=fun i h h' st k=>st.at fun o e=>k it (by simp) o e
 item:=by
  intro X hP hw hK hc i pins s σ H E I hf st hg;subst hP hw hK;obtain ⟨xs,x,hq,hx⟩:=hg;obtain ⟨its,rv,p,hz⟩:=I.tuple hq;obtain ⟨u,hu,ru⟩:=rv.get hx;obtain ⟨f0,f1,f2,f3,f4,f5⟩:=hf it (by simp);refine wpAny_pyNext_tuple_item st (show s.heap.IsTuple a its.toArray from p) (x:=u) (by simpa using hu) fun h' st' sb=>?_
  have I1:Inv X pins σ H { s with heap:=h' }:=I.turned (t':=s.toks) (fun b o hb e=>(sb.2 b hb).trans e) f0 f1 f3 f4 f5;obtain ⟨o,e,c,d⟩:=id st';exact ⟨u,rfl,go_of (s:={ s with heap:=h' }) e c d (by decide) ⟨x,H,I1,ru,⟨rfl,fun ys hy=>by rw [I.tuple_inj hy hq];exact hx⟩,st',fun b hb=>(hf b hb).1⟩⟩
 done:=by
  intro X hP hw hK hc i pins s σ H E I hf st hg;subst hP hw hK;obtain ⟨xs,hq,hx⟩:=hg;obtain ⟨its,rv,p,hz⟩:=I.tuple hq;obtain ⟨f0,f1,f2,f3,f4,f5⟩:=hf it (by simp);have hl:=rv.length;exact wpAny_pyNext_tuple_end (I.ok.hd hc) st (show s.heap.IsTuple a its.toArray from p) (by simp;walk_at "o") fun h' eb=>⟨rfl,I.turned (t':=s.toks) (fun b o hb e=>eb b o hb e) f0 f1 f3 f4 f5⟩
 self:=fun _ _ _ _ _ st h=>wpAny_pyIter_tupleiter st h
theorem ajf{P:Program}{w:World}{K:PySem.W.Frag}{tg:Expr}(it:Addr)(lo:Int)(n:Nat):Turn P w K tg (t5 lo n) [it] it (fun i h=>IsRangeIter h it (lo+(i:Nat)*1) ((n:Int)-(i:Nat)) 1) where
 mem:=by simp
 obj:=fun i h st b hb=>by
  have e:b=it:=by simpa using hb
  subst e;exact ⟨_,st,fun v z=>by
   have z':Data.fields _=Data.cell v:=z
   cases z'⟩
 keep:=fun i h h' st k=>k it (by simp) _ st
 item:=by
  intro X hP hw hK hc i pins s σ H E I hf st hg;subst hP hw hK;obtain ⟨f0,f1,f2,f3,f4,f5⟩:=hf it (by simp);have W:=Walks.range (prog:=X.prog) (w:=X.w) (I.ok.hd hc) it lo 1 n;refine W.item i s _ _ hg st fun v h' tk hv st' kk=>?_
  obtain ⟨t,rfl⟩:=hv;have I1:Inv X pins σ H { s with heap:=h',toks:=tk }:=I.turned (fun b o hb e=>kk b o (by simpa using hb) e) f0 f1 f3 f4 f5;refine ⟨_,rfl,go_of (s:={ s with heap:=h',toks:=tk }) (n:="range_iterator") st' rfl rfl (by decide) ⟨.int (lo+i),H,I1,⟨t,?_⟩,⟨rfl,rfl⟩,st',fun b hb=>(hf b hb).1⟩⟩;rw [Int.mul_one]
 done:=by
  intro X hP hw hK hc i pins s σ H E I hf st hg;subst hP hw hK;obtain ⟨f0,f1,f2,f3,f4,f5⟩:=hf it (by simp);exact wpAny_pyNext_range_end (I.ok.hd hc) st (by have:n<=i:=hg;walk_at "o") fun h' eb=>⟨rfl,I.turned (t':=s.toks) (fun b o hb e=>eb b o hb e) f0 f1 f3 f4 f5⟩
 self:=fun _ _ _ _ _ st h=>wpAny_pyIter_rangeiter st h
end L2
namespace L2
open PySem PySem.Spec PyProof.Rows
section
variable {X:Cx} {tg:Expr}
noncomputable def iList (K:PySem.W.Frag) (tl:TE):TI:=fun σ H R=>tl σ H fun x H1=>∃ a,x=.ref a/\(∃ xs,E2 K H1 a xs)/\R (z9 K a) H1
noncomputable def iTup (K:PySem.W.Frag) (tl:TE):TI:=fun σ H R=>tl σ H fun x H1=>∃ a,x=.ref a/\(∃ xs,C7 K H1 a xs)/\R (cZ K a) H1
theorem anL{l:Expr}{tl:TE}(hl:PE X l tl):PI X tg l (iList X.K tl):=by
 intro pins s σ H R I h;refine B5 (hl pins s σ H _ I h) fun v s1 ⟨x,H1,I1,r1,q1⟩=>?_
 obtain ⟨a,e,⟨xs,hq⟩,q⟩:=q1;subst e
 cases r1
 obtain ⟨its,rv,p,hz⟩:=I1.list hq;refine wpAny_pyIter_list p.isList ?_;refine ⟨s1.heap.objs.size,[s1.heap.objs.size],_,_,H1,rfl,I1.kept (t':=s1.toks) fun b o e=>Heap.get?_push_of_some _ e,aj3 a _,⟨_,Heap.get?_push_size _ rfl,rfl,rfl⟩,fun b hb=>?_,q⟩;have e:b=s1.heap.objs.size:=by simpa using hb
 subst e;exact I1.fpOk (C2 _) (I1.hok.fresh (C2 _))
theorem aqt{l:Expr}{tl:TE}(hl:PE X l tl):PI X tg l (iTup X.K tl):=by
 intro pins s σ H R I h;refine B5 (hl pins s σ H _ I h) fun v s1 ⟨x,H1,I1,r1,q1⟩=>?_
 obtain ⟨a,e,⟨xs,hq⟩,q⟩:=q1;subst e
 cases r1
 obtain ⟨its,rv,p,hz⟩:=I1.tuple hq;refine wpAny_pyIter_tuple (show s1.heap.IsTuple a its.toArray from p) ?_;refine ⟨s1.heap.objs.size,[s1.heap.objs.size],_,_,H1,rfl,I1.kept (t':=s1.toks) fun b o e=>Heap.get?_push_of_some _ e,aje a _,⟨_,Heap.get?_push_size _ rfl,rfl,rfl⟩,fun b hb=>?_,q⟩;have e:b=s1.heap.objs.size:=by simpa using hb
 subst e;exact I1.fpOk (C2 _) (I1.hok.fresh (C2 _))
theorem aix{pins:List (Addr×Obj)}{σ:St}{H:Hp}{s:Shared}{R:It->Hp->Prop}{E:Value->Shared->Prop}{lo hi:Int}{t u v:Tok}{tk:Nat}(I:Inv X pins σ H s)(h1:-(2 ^ 62)<=lo)(h2:lo<2 ^ 62)(h3:-(2 ^ 62)<=hi)(h4:hi<2 ^ 62)(q:R (t5 lo (hi-lo).toNat) H):wpAny (model X.prog X.w) X.A (pyIter (.ref s.heap.objs.size)) (uJ X pins σ tg R) E { s with heap:=s.heap.push { cls:=.type "range",data:=.fields #[.int lo t,.int hi u,.int 1 v] },toks:=tk }:=by
 refine wpAny_pyIter_range (IsRange.new ..) (small_one h1 h2 h3 h4) ?_;have I1:Inv X pins σ H { s with heap:=s.heap.push { cls:=.type "range",data:=.fields #[.int lo t,.int hi u,.int 1 v] },toks:=tk }:=I.kept fun b o e=>Heap.get?_push_of_some _ e
 refine ⟨(s.heap.push { cls:=.type "range",data:=.fields #[.int lo t,.int hi u,.int 1 v] }).objs.size,[(s.heap.push { cls:=.type "range",data:=.fields #[.int lo t,.int hi u,.int 1 v] }).objs.size],_,_,H,rfl,
  I1.kept (t':=tk) fun b o e=>Heap.get?_push_of_some _ e,ajf _ lo (hi-lo).toNat,?_,fun b hb=>?_,q⟩
 ·have e1:lo+((0:Nat):Int)*1=lo:=by simp
  have e2:(((hi-lo).toNat:Nat):Int)-((0:Nat):Int)=Builtin.Range.rangeSize lo hi 1:=by rw [rangeSize_one];split <;> walk_at "o"
  show IsRangeIter _ _ (lo+((0:Nat):Int)*1) ((((hi-lo).toNat:Nat):Int)-((0:Nat):Int)) 1;rw [e1,e2];exact Heap.get?_push_size _ rfl
 ·have e:b=(s.heap.push { cls:=.type "range",data:=.fields #[.int lo t,.int hi u,.int 1 v] }).objs.size:=by simpa using hb
  subst e;exact I1.fpOk (C2 _) (I1.hok.fresh (C2 _))
noncomputable def iRng1 (ta:TA):TI:=fun σ H R=>ta σ H fun vs H1=>∃ j:Int,vs=[.int j]/\-(2 ^ 62)<=j/\j<2 ^ 62/\R (t5 0 j.toNat) H1
noncomputable def iRng2 (ta:TA):TI:=fun σ H R=>ta σ H fun vs H1=>∃ i j:Int,vs=[.int i,.int j]/\(-(2 ^ 62)<=i/\i<2 ^ 62/\-(2 ^ 62)<=j/\j<2 ^ 62)/\R (t5 i (j-i).toNat) H1
theorem aj4{a:Expr}{ta:TA}{p pos:Pos}(hg:Gl X "range")(hm:X.mg "range"=none)(ha:PA X [a] ta)(hs:starEach [a] X.env=[(false,eval a X.env)]:=by rfl):PI X tg (.Call (.Name "range" p) [a] [] pos) (iRng1 ta):=by
 intro pins s σ H R I h;refine Call_ (fJ I hg hm boot_range (PyProof.Rows.callWith_type1 (B5 (ha pos pins s σ H _ I h) fun us s1 ⟨vs,H1,I1,r1,q1⟩=>?_) hs rfl));obtain ⟨j,e,q1,q2,q⟩:=q1;subst e
 cases r1 with
 | cons r rr=>
  cases rr
  obtain ⟨t,rfl⟩:=r;exact call_range_1 (aix I1 (by walk_at "o") (by walk_at "o") q1 q2 (by simpa using q))
theorem aj5{a b:Expr}{ta:TA}{p pos:Pos}(hg:Gl X "range")(hm:X.mg "range"=none)(ha:PA X [a,b] ta)(hs:starEach [a,b] X.env=[(false,eval a X.env),(false,eval b X.env)]:=by rfl)(v8:starEach [b] X.env=[(false,eval b X.env)]:=by rfl) :
  PI X tg (.Call (.Name "range" p) [a,b] [] pos) (iRng2 ta):=by
 intro pins s σ H R I h;refine Call_ (fJ I hg hm boot_range (PyProof.Rows.callWith_type1 (B5 (ha pos pins s σ H _ I h) fun us s1 ⟨vs,H1,I1,r1,q1⟩=>?_) (by rw [hs,v8]) (by rw [v8];rfl)));obtain ⟨i,j,e,⟨q1,q2,q3,q4⟩,q⟩:=q1;subst e
 cases r1 with
 | cons r rr=>
  cases rr with
  | cons r' rr=>
   cases rr
   obtain ⟨t,rfl⟩:=r;obtain ⟨t',rfl⟩:=r';exact call_range_2 (aix I1 q1 q2 q3 q4 q)
noncomputable def tFor (wi:TI) (g:TG) (tb:TS):TS:=fun D σ H=>wi σ H fun J H1=>∃ W:Nat->Nat->St->Hp->Prop,(∃ m,W 0 m σ H1)/\∀ i m σ H,W i m σ H->
 (J.stop i H/\D.nx σ H)\/(J.go i H/\∃ N:St->Hp->Prop,(∀ σ' H',N σ' H'->∃ m',m'<m/\W (i+1) m' σ' H')/\∀ x H',J.yld i H x H'->g x σ H' fun σ2 H2=>tb { D with nx:=N,ct:=N,bk:=D.nx } σ2 H2)
noncomputable def iX (fp:List Addr) (h:Heap):List (Addr×Obj):=fp.filterMap fun b=>(h.get? b).map fun o=>(b,o)
theorem iY{fp:List Addr}{h:Heap}{b:Addr}{o:Obj}(hb:b∈fp)(e:h.get? b=some o):(b,o)∈iX fp h:=fB.mpr ⟨b,hb,by rw [e];rfl⟩
theorem aj6{fp:List Addr}{h:Heap}{p:Addr×Obj}(hp:p∈iX fp h):p.1∈fp/\h.get? p.1=some p.2:=by
 obtain ⟨b,hb,e⟩:=fB.mp hp
 cases q:h.get? b with
 | none=>rw [q] at e;cases e
 | some o=>
  rw [q] at e;have e':(b,o)=p:=Option.some.inj e;subst e';exact ⟨hb,q⟩
theorem Inv.pinned{pins:List (Addr×Obj)}{σ:St}{H:Hp}{s:Shared}{fp:List Addr}(I:Inv X pins σ H s)(hf:∀ b∈fp,FpOk X pins H b)(ho:∀ b∈fp,∃ o,s.heap.get? b=some o/\∀ v,o.data≠.cell v):Inv X (pins++iX fp s.heap) σ H s:=
 I.pins_of fun p hp=>(E1.mp hp).elim (fun z=>I.pin p (U0 _ z)) fun z=>by
  obtain ⟨hb,e⟩:=aj6 z;obtain ⟨f0,f1,f2,_⟩:=hf p.1 hb;obtain ⟨o,e',d⟩:=ho p.1 hb;rw [e] at e';cases e';exact ⟨e,f0,f1,f2,d⟩
theorem Inv.unpinned{pins pl:List (Addr×Obj)}{σ:St}{H:Hp}{s:Shared}(I:Inv X (pins++pl) σ H s):Inv X pins σ H s:=I.pins_of fun p hp=>I.pin p (U0 _ (R7 _ hp))
theorem aqu{iter:Expr}{body:List Stmt}{wi:TI}{g:TG}{tb:TS}{pos:Pos}(hp:PassesOwn (model X.prog X.w) X.A X.env X.xe)(hc:X.calm=true)(hi:PI X tg iter wi)(hg:PG X tg g)(hb:Z0 X body tb)(hs:∀ x,foldedSetIterable iter X.env x=pure x:=by intro _;rfl):PS X (.For tg iter body [] pos) (tFor wi g tb):=by
 intro pins s σ H D I h;refine wpAny_For (B5 (hi pins s σ H _ I h) fun v s1 h1=>B5 h1 fun itv s2 h2=>?_) hs;obtain ⟨it,fp,tn,J,H2,e,I2,T,oF,f2,W,⟨m0,w0⟩,turn⟩:=h2;subst e;have stat:∀ {H':Hp},(∀ b∈fp,H' b=none)->∀ b∈fp,FpOk X pins H' b:=fun hn b hb=>⟨hn b hb,(f2 b hb).2⟩
 refine codeAny_forLoop_any (fun n s'=>∃ i σ' H',Inv X pins σ' H' s'/\tn i s'.heap/\(∀ b∈fp,H' b=none)/\W i n σ' H') ?_ m0 ⟨0,σ,H2,I2,oF,fun b hb=>(f2 b hb).1,w0⟩;rintro n s3 ⟨i,σ3,H3,I3,eB,oG,w3⟩
 rcases turn i n σ3 H3 w3 with ⟨stop,qn⟩ | ⟨go,N,hN,step⟩
 ·refine wpAny_passesOwn hp (B5 (T.done X rfl rfl rfl hc i pins s3 σ3 H3 X.xe I3 (stat oG) eB stop) fun r s4 ⟨hr,I4⟩=>?_);subst hr;exact wpAny_execs_nil ⟨σ3,H3,I4,qn⟩
 ·refine wpAny_passesOwn hp (B5 (T.item X rfl rfl rfl hc i pins s3 σ3 H3 X.xe I3 (stat oG) eB go) fun r s4 ⟨u,hr,h4⟩=>?_);subst hr;refine wpAny_passesOwn hp (B5 h4 fun _ s5 ⟨x,H5,I5,r5,y5,gS,zN⟩=>?_);have I5':=I5.pinned (stat zN) (T.obj _ _ gS);refine wpAny_passesOwn hp (B5 (hg _ s5 σ3 H5 x u _ I5' r5 (step x H5 y5)) fun _ s6 ⟨σ6,H6,I6,q6⟩=>?_);refine wpAny_passesOwn hp (B5 (hb _ s6 σ6 H6 _ I6 q6) fun f s7 q7=>?_);have again:∀ {σ7:St} {H7:Hp},Inv X (pins++iX fp s5.heap) σ7 H7 s7->N σ7 H7->∃ m,m<n/\∃ i σ' H',Inv X pins σ' H' s7/\tn i s7.heap/\(∀ b∈fp,H' b=none)/\W i m σ' H':=fun {σ7 H7} I7 n7=>by
   obtain ⟨m',hm,w7⟩:=hN σ7 H7 n7;refine ⟨m',hm,i+1,σ7,H7,I7.unpinned,T.keep _ _ _ gS fun b hb o e=>(I7.pin (b,o) (U0 _ (U0 _ (iY hb e)))).1,fun b hb=>?_,w7⟩;obtain ⟨o,e,d⟩:=T.obj _ _ gS b hb;exact (I7.pin (b,o) (U0 _ (U0 _ (iY hb e)))).2.1
  cases f with
  | next=>obtain ⟨σ7,H7,I7,n7⟩:=q7;exact again I7 n7
  | cont=>obtain ⟨σ7,H7,I7,n7⟩:=q7;exact again I7 n7
  | brk=>obtain ⟨σ7,H7,I7,q7⟩:=q7;exact ⟨σ7,H7,I7.unpinned,q7⟩
  | ret v=>obtain ⟨x7,σ7,H7,I7,r7,q7⟩:=q7;exact ⟨x7,σ7,H7,I7.unpinned,r7,q7⟩
end
theorem alS{K:PySem.W.Frag}{a:Addr}{xs:List V}{g:TG}{tb:TS}{D:Ends}{σ:St}{H:Hp}(Pv:Nat->St->Hp->Prop)(h0:Pv 0 σ H)(hl:∀ i σ H,i<=xs.length->Pv i σ H->E2 K H a xs)(hs:∀ i x σ H,xs[i]?=some x->Pv i σ H->g x σ H fun σ2 H2=>tb { D with nx:=Pv (i+1),ct:=Pv (i+1),bk:=D.nx } σ2 H2)(hd:∀ σ H,Pv xs.length σ H->D.nx σ H) :
  ∃ W:Nat->Nat->St->Hp->Prop,(∃ m,W 0 m σ H)/\∀ i m σ H,W i m σ H->
   ((z9 K a).stop i H/\D.nx σ H)\/((z9 K a).go i H/\∃ N:St->Hp->Prop,(∀ σ' H',N σ' H'->∃ m',m'<m/\W (i+1) m' σ' H')/\∀ x H',(z9 K a).yld i H x H'->g x σ H' fun σ2 H2=>tb { D with nx:=N,ct:=N,bk:=D.nx } σ2 H2):=by
 refine ⟨fun i m σ H=>m=xs.length-i/\i<=xs.length/\Pv i σ H,⟨xs.length,by simp,G2 _,h0⟩,?_⟩;rintro i m σ H ⟨rfl,hi,p⟩;have q:=hl i σ H hi p
 by_cases C9:i<xs.length
 ·refine .inr ⟨⟨xs,xs[i],q,by simp [C9]⟩,Pv (i+1),fun σ' H' p'=>⟨xs.length-(i+1),by walk_at "o",rfl,C9,p'⟩,fun x H' y=>?_⟩;obtain ⟨e,y⟩:=y;subst e;exact hs i x σ _ (y xs q) p
 ·have e:i=xs.length:=by walk_at "o"
  subst e;exact .inl ⟨⟨xs,q,C2 _⟩,hd σ H p⟩
theorem anM{K:PySem.W.Frag}{a:Addr}{xs:List V}{g:TG}{tb:TS}{D:Ends}{σ:St}{H:Hp}(Pv:Nat->St->Hp->Prop)(h0:Pv 0 σ H)(hl:∀ i σ H,i<=xs.length->Pv i σ H->C7 K H a xs)(hs:∀ i x σ H,xs[i]?=some x->Pv i σ H->g x σ H fun σ2 H2=>tb { D with nx:=Pv (i+1),ct:=Pv (i+1),bk:=D.nx } σ2 H2)(hd:∀ σ H,Pv xs.length σ H->D.nx σ H) :
  ∃ W:Nat->Nat->St->Hp->Prop,(∃ m,W 0 m σ H)/\∀ i m σ H,W i m σ H->
   ((cZ K a).stop i H/\D.nx σ H)\/((cZ K a).go i H/\∃ N:St->Hp->Prop,(∀ σ' H',N σ' H'->∃ m',m'<m/\W (i+1) m' σ' H')/\∀ x H',(cZ K a).yld i H x H'->g x σ H' fun σ2 H2=>tb { D with nx:=N,ct:=N,bk:=D.nx } σ2 H2):=by
 refine ⟨fun i m σ H=>m=xs.length-i/\i<=xs.length/\Pv i σ H,⟨xs.length,by simp,G2 _,h0⟩,?_⟩;rintro i m σ H ⟨rfl,hi,p⟩;have q:=hl i σ H hi p
 by_cases C9:i<xs.length
 ·refine .inr ⟨⟨xs,xs[i],q,by simp [C9]⟩,Pv (i+1),fun σ' H' p'=>⟨xs.length-(i+1),by walk_at "o",rfl,C9,p'⟩,fun x H' y=>?_⟩;obtain ⟨e,y⟩:=y;subst e;exact hs i x σ _ (y xs q) p
 ·have e:i=xs.length:=by walk_at "o"
  subst e;exact .inl ⟨⟨xs,q,C2 _⟩,hd σ H p⟩
theorem aj7{lo:Int}{n:Nat}{g:TG}{tb:TS}{D:Ends}{σ:St}{H:Hp}(Pv:Nat->St->Hp->Prop)(h0:Pv 0 σ H)(hs:∀ i σ H,i<n->Pv i σ H->g (.int (lo+i)) σ H fun σ2 H2=>tb { D with nx:=Pv (i+1),ct:=Pv (i+1),bk:=D.nx } σ2 H2)(hd:∀ σ H,Pv n σ H->D.nx σ H) :
  ∃ W:Nat->Nat->St->Hp->Prop,(∃ m,W 0 m σ H)/\∀ i m σ H,W i m σ H->
   ((t5 lo n).stop i H/\D.nx σ H)\/((t5 lo n).go i H/\∃ N:St->Hp->Prop,(∀ σ' H',N σ' H'->∃ m',m'<m/\W (i+1) m' σ' H')/\∀ x H',(t5 lo n).yld i H x H'->g x σ H' fun σ2 H2=>tb { D with nx:=N,ct:=N,bk:=D.nx } σ2 H2):=by
 refine ⟨fun i m σ H=>m=n-i/\i<=n/\Pv i σ H,⟨n,by simp,G2 _,h0⟩,?_⟩;rintro i m σ H ⟨rfl,hi,p⟩
 by_cases C9:i<n
 ·refine .inr ⟨C9,Pv (i+1),fun σ' H' p'=>⟨n-(i+1),by walk_at "o",rfl,C9,p'⟩,fun x H' y=>?_⟩;obtain ⟨e,y⟩:=y;subst e y;exact hs i σ _ C9 p
 ·have e:i=n:=by walk_at "o"
  subst e;exact .inl ⟨C2 _,hd σ H p⟩
end L2
namespace L2
open PySem PySem.Spec PyProof.Rows
noncomputable abbrev R2:=V->V->Hp->VK->Prop
noncomputable def K9 (X:Cx) (f:Value->Value->Sem Value) (r:R2):Prop:=
 ∀ (pins:List (Addr×Obj)) (s:Shared) (σ:St) (H:Hp) (x y:V) (v u:Value) (Q:VK),Inv X pins σ H s->RelV x v->RelV y u->r x y H Q->
  wpAny (model X.prog X.w) X.A (f v u) (EP X pins σ Q) X.xe s
noncomputable def qQ (X:Cx) (f:Value->Sem Value) (r:V->Hp->VK->Prop):Prop:=
 ∀ (pins:List (Addr×Obj)) (s:Shared) (σ:St) (H:Hp) (x:V) (v:Value) (Q:VK),Inv X pins σ H s->RelV x v->r x H Q->
  wpAny (model X.prog X.w) X.A (f v) (EP X pins σ Q) X.xe s
noncomputable def CallR (X:Cx) (f:Value) (r:List V->Hp->VK->Prop):Prop:=
 ∀ (pins:List (Addr×Obj)) (s:Shared) (σ:St) (H:Hp) (xs:List V) (us:List Value) (Q:VK),Inv X pins σ H s->Vals xs us->r xs H Q->
  wpAny (model X.prog X.w) X.A (call f us) (EP X pins σ Q) X.xe s
noncomputable def TruR (X:Cx) (r:V->Hp->(Bool->Hp->Prop)->Prop):Prop:=
 ∀ (pins:List (Addr×Obj)) (s:Shared) (σ:St) (H:Hp) (x:V) (v:Value) (Q:Bool->Hp->Prop),Inv X pins σ H s->RelV x v->r x H Q->
  wpAny (model X.prog X.w) X.A (truthy v) (TP X pins σ Q) X.xe s
noncomputable def t6 (r:R2) (ta tb:TE):TE:=fun σ H Q=>ta σ H fun x H1=>tb σ H1 fun y H2=>r x y H2 Q
noncomputable def uK (r:V->Hp->VK->Prop) (ta:TE):TE:=fun σ H Q=>ta σ H fun x H1=>r x H1 Q
noncomputable def rI (C:Int->Int->Prop) (g:Int->Int->V):R2:=fun x y H Q=>∃ i j,x=.int i/\y=.int j/\C i j/\Q (g i j) H
noncomputable def aB (g:Int->Int->V):R2:=fun x y H Q=>∃ i j,x=.int i/\y=.int j/\Q (g i j) H
noncomputable def rU (g:Int->V):V->Hp->VK->Prop:=fun x H Q=>∃ i,x=.int i/\Q (g i) H
section
variable {X:Cx} {a b c:Expr} {ta tb tc:TE} {pos:Pos}
theorem binT(ha:PE X a ta)(hb:PE X b tb){pins:List (Addr×Obj)}{s:Shared}{σ:St}{H:Hp}{R:V->V->Hp->Prop}(I:Inv X pins σ H s)(h:ta σ H fun x H1=>tb σ H1 fun y H2=>R x y H2){Q:Value->Shared->Prop}{f:Value->Value->Sem Value}(hf:∀ v u s2 x y H2,Inv X pins σ H2 s2->RelV x v->RelV y u->R x y H2->wpAny (model X.prog X.w) X.A (f v u) Q X.xe s2) :
  wpAny (model X.prog X.w) X.A (eval a X.env) (fun v s₁=>wpAny (model X.prog X.w) X.A (eval b X.env) (fun u s₂=>wpAny (model X.prog X.w) X.A (f v u) Q X.xe s₂) X.xe s₁) X.xe s:=by
 refine B5 (ha pins s σ H _ I h) fun v s1 ⟨x,H1,I1,r1,q1⟩=>?_
 refine B5 (hb pins s1 σ H1 _ I1 q1) fun u s2 ⟨y,H2,I2,r2,q2⟩=>?_
 exact hf v u s2 x y H2 I2 r1 r2 q2
theorem pe_op{op:Operator}{r:R2}(ho:K9 X (binaryOp op) r)(ha:PE X a ta)(hb:PE X b tb):PE X (.BinOp a op b pos) (t6 r ta tb):=by
 intro pins s σ H Q I h;exact wpAny_BinOp (binT ha hb I h fun v u s2 x y H2 I2 rx ry q=>ho pins s2 σ H2 x y v u Q I2 rx ry q)
theorem pe_un{op:UnaryOp}{r:V->Hp->VK->Prop}(ho:qQ X (unaryOp op) r)(ha:PE X a ta):PE X (.UnaryOp op a pos) (uK r ta):=by
 intro pins s σ H Q I h;exact UnaryOp_ (B5 (ha pins s σ H _ I h) fun v s1 ⟨x,H1,I1,r1,q1⟩=>ho pins s1 σ H1 x v Q I1 r1 q1)
theorem qR{f:Value->Value->Sem Value}{C:Int->Int->Prop}{g:Int->Int->Int}(rule:∀ (i j:Int) (t u:Tok) (s:Shared) (Q:Value->Shared->Prop) (E:Value->Shared->Prop),C i j->Q (.int (g i j) s.toks) { s with toks:=s.toks+1 }->wpAny (model X.prog X.w) X.A (f (.int i t) (.int j u)) Q E s) :
  K9 X f (rI C fun i j=>.int (g i j)):=by
 intro pins s σ H x y v u Q I rx ry h;obtain ⟨i,j,rfl,rfl,hc,q⟩:=h;obtain ⟨t,rfl⟩:=rx;obtain ⟨t',rfl⟩:=ry;exact rule i j t t' s _ _ hc ⟨.int (g i j),H,I.tok _,⟨_,rfl⟩,q⟩
theorem opI0{f:Value->Value->Sem Value}{g:Int->Int->Int}(rule:∀ (i j:Int) (t u:Tok) (s:Shared) (Q:Value->Shared->Prop) (E:Value->Shared->Prop),Q (.int (g i j) s.toks) { s with toks:=s.toks+1 }->wpAny (model X.prog X.w) X.A (f (.int i t) (.int j u)) Q E s) :
  K9 X f (aB fun i j=>.int (g i j)):=by
 intro pins s σ H x y v u Q I rx ry h;obtain ⟨i,j,rfl,rfl,q⟩:=h;obtain ⟨t,rfl⟩:=rx;obtain ⟨t',rfl⟩:=ry;exact rule i j t t' s _ _ ⟨.int (g i j),H,I.tok _,⟨_,rfl⟩,q⟩
theorem opB0{f:Value->Value->Sem Value}{g:Int->Int->Bool}(rule:∀ (i j:Int) (t u:Tok) (s:Shared) (Q:Value->Shared->Prop) (E:Value->Shared->Prop),Q (.bool (g i j)) s->wpAny (model X.prog X.w) X.A (f (.int i t) (.int j u)) Q E s) :
  K9 X f (aB fun i j=>.bl (g i j)):=by
 intro pins s σ H x y v u Q I rx ry h;obtain ⟨i,j,rfl,rfl,q⟩:=h;obtain ⟨t,rfl⟩:=rx;obtain ⟨t',rfl⟩:=ry;exact rule i j t t' s _ _ ⟨.bl (g i j),H,I,rfl,q⟩
noncomputable def CDiv (i j:Int):Prop:=0<j/\j<1073741824
noncomputable def CPow (i j:Int):Prop:=0<=j/\j<=1000000/\i.natAbs<2 ^ 64
noncomputable def CMul (i j:Int):Prop:=(-(2 ^ 64)<i/\i<2 ^ 64)\/(-(2 ^ 64)<j/\j<2 ^ 64)
theorem CMul.ok{i j:Int}(h:CMul i j):IntMulOk i j:=by
 rcases h with ⟨h1,h2⟩ | ⟨h1,h2⟩
 ·exact .of_left (intBits_le_64 h1 h2)
 ·exact .of_right (intBits_le_64 h1 h2)
theorem aqv:K9 X (binaryOp .Add) (aB fun i j=>.int (i+j)):=opI0 fun _ _ _ _ _ _ _ q=>add_int q
theorem aqw:K9 X (binaryOp .Sub) (aB fun i j=>.int (i-j)):=opI0 fun _ _ _ _ _ _ _ q=>sub_int q
theorem aqx:K9 X (binaryOp .Mult) (rI CMul fun i j=>.int (i*j)):=qR fun _ _ _ _ _ _ _ hc q=>mul_int q hc.ok
theorem anN:K9 X (binaryOp .FloorDiv) (rI CDiv fun i j=>.int (i / j)):=qR fun i j _ _ _ _ _ hc q=>by
 have h1:(0:Int)<j:=hc.1;have h2:j<1073741824:=hc.2;exact floordiv_int (by walk_at "o") (by rw [Int.fdiv_eq_ediv_of_nonneg i (by walk_at "o")];exact q) (.inl (PyProof.noPylong_small (by walk_at "o")))
theorem aqy:K9 X (binaryOp .Mod) (rI (fun _ j=>0<j) fun i j=>.int (i % j)):=qR fun i j _ _ _ _ _ hc q=>by
 have h1:(0:Int)<j:=hc;exact mod_int' (by walk_at "o") (by rw [Int.fmod_eq_emod_of_nonneg i (by walk_at "o")];exact q)
theorem aqz:K9 X (binaryOp .Pow) (rI CPow fun i j=>.int (i ^ j.toNat)):=qR fun _ _ _ _ _ _ _ hc q=>pow_int_small hc.1 hc.2.1 hc.2.2 q
theorem unI{f:Value->Sem Value}{g:Int->Int}(rule:∀ (i:Int) (t:Tok) (s:Shared) (Q:Value->Shared->Prop) (E:Value->Shared->Prop),Q (.int (g i) s.toks) { s with toks:=s.toks+1 }->wpAny (model X.prog X.w) X.A (f (.int i t)) Q E s) :
  qQ X f (rU fun i=>.int (g i)):=by
 intro pins s σ H x v Q I rx h;obtain ⟨i,rfl,q⟩:=h;obtain ⟨t,rfl⟩:=rx;exact rule i t s _ _ ⟨.int (g i),H,I.tok _,⟨_,rfl⟩,q⟩
theorem aqA:qQ X (unaryOp .USub) (rU fun i=>.int (-i)):=unI fun _ _ _ _ _ q=>neg_int q
end
noncomputable def scal:V->V->Bool
 | .non,.non=>true | .non,.int _=>true | .int _,.non=>true | .non,.bl _=>true | .bl _,.non=>true | .non,.str _=>true | .str _,.non=>true
 | .int _,.int _=>true | .bl _,.bl _=>true | .str _,.str _=>true | .byt _,.byt _=>true
 | .int _,.str _=>true | .str _,.int _=>true | .bl _,.str _=>true | .str _,.bl _=>true
 | _,_=>false
noncomputable def rEq:R2:=fun x y H Q=>scal x y=true/\Q (.bl (decide (x=y))) H
noncomputable def rNe:R2:=fun x y H Q=>scal x y=true/\Q (.bl (!decide (x=y))) H
theorem aj8{i j:Int} : decide (V.int i=V.int j)=(i==j):=by
 rw [fF]
 simp
theorem am7{i j:Bool} : decide (V.bl i=V.bl j)=(i==j):=by
 rw [fF]
 simp
theorem aj9{i j:Str} : decide (V.str i=V.str j)=(i==j):=by
 rw [fF]
 simp
theorem aka{i j:Array UInt8} : decide (V.byt i=V.byt j)=(i.toList==j.toList):=by
 rw [fF]
 cases i
 cases j
 simp
section
variable {X:Cx} {a b c:Expr} {ta tb tc:TE} {pos:Pos}
theorem N6{pins:List (Addr×Obj)}{σ:St}{H:Hp}{s:Shared}{Q:VK}{k k':Bool}(I:Inv X pins σ H s)(q:Q (.bl k) H)(e:k=k'):EP X pins σ Q (.bool k') s:=by
 subst e;exact ⟨.bl k,H,I,rfl,q⟩
theorem op_eq:K9 X (compareOp .Eq) rEq:=by
 intro pins s σ H x y v u Q I rx ry h;obtain ⟨hs,q⟩:=h
 cases x with
 | non=>
  cases rx
  cases y with
  | non=>cases ry;exact PySem.EqNone.eq_none_none (N6 I q (by simp))
  | bl j=>cases ry;exact PySem.EqNone.eq_none_bool (N6 I q (by simp))
  | int j=>obtain ⟨t',rfl⟩:=ry;exact PySem.EqNone.eq_none_int (N6 I q (by simp))
  | str j=>obtain ⟨t',rfl⟩:=ry;exact PySem.EqNone.eq_none_str (N6 I q (by simp))
  | _=>exact absurd (show false=true from hs) N2
 | bl i=>
  cases rx
  cases y with
  | non=>cases ry;exact PySem.EqNone.eq_bool_none (N6 I q (by simp))
  | bl j=>cases ry;exact eq_bool (N6 I q am7)
  | str j=>obtain ⟨t',rfl⟩:=ry;exact PySem.EqMixed.eq_bool_str (N6 I q (by simp))
  | _=>exact absurd (show false=true from hs) N2
 | int i=>
  obtain ⟨t,rfl⟩:=rx
  cases y with
  | non=>cases ry;exact PySem.EqNone.eq_int_none (N6 I q (by simp))
  | int j=>obtain ⟨t',rfl⟩:=ry;exact eq_int (N6 I q aj8)
  | str j=>obtain ⟨t',rfl⟩:=ry;exact PySem.EqMixed.eq_int_str (N6 I q (by simp))
  | _=>exact absurd (show false=true from hs) N2
 | str i=>
  obtain ⟨t,rfl⟩:=rx
  cases y with
  | non=>cases ry;exact PySem.EqNone.eq_str_none (N6 I q (by simp))
  | bl j=>cases ry;exact PySem.EqMixed.eq_str_bool (N6 I q (by simp))
  | int j=>obtain ⟨t',rfl⟩:=ry;exact PySem.EqMixed.eq_str_int (N6 I q (by simp))
  | str j=>obtain ⟨t',rfl⟩:=ry;exact eq_str (N6 I q aj9)
  | _=>exact absurd (show false=true from hs) N2
 | byt i=>
  obtain ⟨t,rfl⟩:=rx
  cases y with
  | byt j=>obtain ⟨t',rfl⟩:=ry;exact PySem.W.eq_bytes (N6 I q aka)
  | _=>exact absurd (show false=true from hs) N2
 | _=>cases y <;> exact absurd (show false=true from hs) N2
theorem op_ne:K9 X (compareOp .NotEq) rNe:=by
 intro pins s σ H x y v u Q I rx ry h;obtain ⟨hs,q⟩:=h
 cases x with
 | non=>
  cases rx
  cases y with
  | non=>cases ry;exact PySem.EqNone.ne_none_none (N6 I q (by simp))
  | bl j=>cases ry;exact PySem.EqNone.ne_none_bool (N6 I q (by simp))
  | int j=>obtain ⟨t',rfl⟩:=ry;exact PySem.EqNone.ne_none_int (N6 I q (by simp))
  | str j=>obtain ⟨t',rfl⟩:=ry;exact PySem.EqNone.ne_none_str (N6 I q (by simp))
  | _=>exact absurd (show false=true from hs) N2
 | bl i=>
  cases rx
  cases y with
  | non=>cases ry;exact PySem.EqNone.ne_bool_none (N6 I q (by simp))
  | bl j=>cases ry;exact ne_bool (N6 I q (congrArg not am7))
  | str j=>obtain ⟨t',rfl⟩:=ry;exact PySem.EqMixed.ne_bool_str (N6 I q (by simp))
  | _=>exact absurd (show false=true from hs) N2
 | int i=>
  obtain ⟨t,rfl⟩:=rx
  cases y with
  | non=>cases ry;exact PySem.EqNone.ne_int_none (N6 I q (by simp))
  | int j=>obtain ⟨t',rfl⟩:=ry;exact ne_int (N6 I q (congrArg not aj8))
  | str j=>obtain ⟨t',rfl⟩:=ry;exact PySem.EqMixed.ne_int_str (N6 I q (by simp))
  | _=>exact absurd (show false=true from hs) N2
 | str i=>
  obtain ⟨t,rfl⟩:=rx
  cases y with
  | non=>cases ry;exact PySem.EqNone.ne_str_none (N6 I q (by simp))
  | bl j=>cases ry;exact PySem.EqMixed.ne_str_bool (N6 I q (by simp))
  | int j=>obtain ⟨t',rfl⟩:=ry;exact PySem.EqMixed.ne_str_int (N6 I q (by simp))
  | str j=>obtain ⟨t',rfl⟩:=ry;exact ne_str (N6 I q (congrArg not aj9))
  | _=>exact absurd (show false=true from hs) N2
 | byt i=>
  obtain ⟨t,rfl⟩:=rx
  cases y with
  | byt j=>obtain ⟨t',rfl⟩:=ry;exact PySem.W.ne_bytes (N6 I q (congrArg not aka))
  | _=>exact absurd (show false=true from hs) N2
 | _=>cases y <;> exact absurd (show false=true from hs) N2
theorem op_lt:K9 X (compareOp .Lt) (aB fun i j=>.bl (decide (i<j))):=opB0 fun _ _ _ _ _ _ _ q=>lt_int q
theorem op_le:K9 X (compareOp .LtE) (aB fun i j=>.bl (decide (i<=j))):=opB0 fun _ _ _ _ _ _ _ q=>le_int q
theorem op_gt:K9 X (compareOp .Gt) (aB fun i j=>.bl (decide (j<i))):=opB0 fun _ _ _ _ _ _ _ q=>gt_int q
theorem agv:K9 X (compareOp .Lt) (fun x y H Q=>∃ i j,x=.str i/\y=.str j/\Q (.bl (decide (i.cps.toList<j.cps.toList))) H):=by
 intro pins s σ H x y v u Q I rx ry h;obtain ⟨i,j,rfl,rfl,q⟩:=h;obtain ⟨t,rfl⟩:=rx;obtain ⟨t',rfl⟩:=ry;exact lt_str (N6 I q rfl)
theorem akb:K9 X (compareOp .In) (fun x y H Q=>∃ i j,x=.str i/\y=.str j/\Q (.bl (!(Builtin.Str.occurrences j i 0 j.length 1).isEmpty)) H):=by
 intro pins s σ H x y v u Q I rx ry h;obtain ⟨i,j,rfl,rfl,q⟩:=h;obtain ⟨t,rfl⟩:=rx;obtain ⟨t',rfl⟩:=ry;exact in_str (N6 I q rfl)
theorem am8(b:Expr){op:CmpOp}(h:op≠.In:=by decide)(h2:op≠.NotIn:=by decide):behindInMarks op b=false:=by
 have e1:(op==CmpOp.In)=false:=by cases op <;> first | rfl | exact absurd rfl h
 have e2:(op==CmpOp.NotIn)=false:=by cases op <;> first | rfl | exact absurd rfl h2
 cases b <;> simp [behindInMarks,e1,e2]
theorem anO{op:CmpOp}{r:R2}(ho:K9 X (compareOp op) r)(ha:PE X a ta)(hb:PE X b tb)(hm:behindInMarks op b=false):PE X (.Compare a [op] [b] pos) (t6 r ta tb):=by
 intro pins s σ H Q I h;exact wpAny_Compare1 (binT ha hb I h fun v u s2 x y H2 I2 rx ry q=>ho pins s2 σ H2 x y v u Q I2 rx ry q) hm
noncomputable def tTest (t:TE):TT:=fun σ H Q=>t σ H fun x H'=>∃ k,x=.bl k/\Q k H'
theorem anP{op:CmpOp}{r:R2}(ho:K9 X (compareOp op) r)(ha:PE X a ta)(hb:PE X b tb)(hm:behindInMarks op b=false):PT X (.Compare a [op] [b] pos) (tTest (t6 r ta tb)):=by
 intro pins s σ H Q I h;refine wpAny_isTrue_Compare1 (B5 (ha pins s σ H _ I h) fun v s1 ⟨x,H1,I1,r1,q1⟩=>B5 (hb pins s1 σ H1 _ I1 q1) fun u s2 ⟨y,H2,I2,r2,q2⟩=>
  B5 (ho pins s2 σ H2 x y v u _ I2 r1 r2 q2) fun c s3 ⟨z,H3,I3,r3,k,e,q3⟩=>?_) hm
 subst e
 cases r3
 exact wpAny_truthy_bool ⟨H3,I3,q3⟩
noncomputable def uL (r r':R2) (ta tb tc:TE):TE:=fun σ H Q=>ta σ H fun x H1=>tb σ H1 fun y H2=>r x y H2 fun z H3=>∃ k,z=.bl k/\
 (if k=true then tc σ H3 fun w' H4=>r' y w' H4 Q else Q (.bl false) H3)
theorem alT{op op':CmpOp}{r r':R2}(ho:K9 X (compareOp op) r)(v7:K9 X (compareOp op') r')(ha:PE X a ta)(hb:PE X b tb)(hc:PE X c tc)(hm:lastMarks [op,op'] [b,c]=false:=by with_unfolding_all rfl):PE X (.Compare a [op,op'] [b,c] pos) (uL r r' ta tb tc):=by
 intro pins s σ H Q I h;refine Compare_chain (B5 (ha pins s σ H _ I h) fun v s1 ⟨x,H1,I1,r1,q1⟩=>chain_link (B5 (hb pins s1 σ H1 _ I1 q1) fun u s2 ⟨y,H2,I2,r2,q2⟩=>
  B5 (ho pins s2 σ H2 x y v u _ I2 r1 r2 q2) fun d s3 ⟨z,H3,I3,r3,k,e,q3⟩=>?_)) hm
 subst e
 cases r3
 refine wpAny_truthy_bool ?_
 cases k with
 | false=>exact ite_ff ⟨.bl false,H3,I3,rfl,q3⟩
 | true=>exact ite_tt (chain_last (B5 (hc pins s3 σ H3 _ I3 q3) fun w' s4 ⟨z',H4,I4,r4,q4⟩=>v7 pins s4 σ H4 y z' u w' Q I4 r2 r4 q4))
noncomputable def TruV (K:PySem.W.Frag) (x:V) (H:Hp) (k:Bool):Prop:=
 match x with
 | .non=>k=false
 | .bl b=>k=b
 | .int i=>k=(i != 0)
 | .str y=>y.length<=sizeLine/\k=((y.length:Int) != 0)
 | .byt y=>y.size<=sizeLine/\k=((y.size:Int) != 0)
 | .ref p=>(∃ xs,E2 K H p xs/\k=!xs.isEmpty)\/(∃ xs,C7 K H p xs/\k=!xs.isEmpty)\/∃ kvs,H p=some (.dK kvs)/\k=!kvs.isEmpty
 | _=>False
theorem ajg{κ:Type}{kvs:List (κ×V)}{vs:List (κ×Value)}(r:KV kvs vs):(!vs.isEmpty)=!kvs.isEmpty:=by
 cases r <;> rfl
theorem afz{xs:List V}{its:List Value}(r:Vals xs its):(!its.toArray.isEmpty)=!xs.isEmpty:=by
 cases r <;> simp
theorem iZ:(sizeLine:Nat)<2 ^ 63:=by rw [sizeLine_eq];decide
theorem aqB:TruR X (fun x H Q=>∃ k,TruV X.K x H k/\Q k H):=by
 intro pins s σ H x v Q I rx h;obtain ⟨k,e,q⟩:=h;have hl:=iZ;have hs:sizeLine=16777216:=sizeLine_eq
 cases x with
 | non=>
  cases rx
  have e':k=false:=e;subst e';exact truthy_none ⟨H,I,q⟩
 | bl b=>
  cases rx
  have e':k=b:=e;subst e';exact wpAny_truthy_bool ⟨H,I,q⟩
 | int i=>
  obtain ⟨t,rfl⟩:=rx;have e':k=(i != 0):=e;subst e';exact PySem.P.truthy_int ⟨H,I,q⟩
 | str y=>
  obtain ⟨t,rfl⟩:=rx;obtain ⟨hy,e'⟩:y.length<=sizeLine/\k=((y.length:Int) != 0):=e;subst e';exact PySem.P.truthy_str (by walk_at "o") ⟨H,I.tok _,q⟩
 | byt y=>
  obtain ⟨t,rfl⟩:=rx;obtain ⟨hy,e'⟩:y.size<=sizeLine/\k=((y.size:Int) != 0):=e;subst e';exact PySem.W.truthy_bytes (by walk_at "o") ⟨H,I.tok _,q⟩
 | ref p=>
  cases rx
  have e':(∃ xs,E2 X.K H p xs/\k=!xs.isEmpty)\/(∃ xs,C7 X.K H p xs/\k=!xs.isEmpty)\/∃ kvs,H p=some (.dK kvs)/\k=!kvs.isEmpty:=e
  rcases e' with ⟨xs,hx,e'⟩ | ⟨xs,hx,e'⟩ | ⟨kvs,hx,e'⟩
  ·subst e';obtain ⟨its,r,pl,hz⟩:=I.list hx;have A9:=r.length;exact wpAny_truthy_list pl.isList (by simp only [L5];walk_at "o") ⟨H,I.tok _,by rw [afz r];exact q⟩
  ·subst e';obtain ⟨its,r,pl,hz⟩:=I.tuple hx;have A9:=r.length;exact truthy_tuple pl (by simp only [L5];walk_at "o") ⟨H,I.tok _,by rw [afz r];exact q⟩
  ·subst e';obtain ⟨hz,hS,vs,r,m⟩:kvs.length<=sizeLine/\(p==sysModules)=false/\∃ vs,KV kvs vs/\s.heap.DictOf (P3 X.prog X.w) p vs:=I.hok p _ hx;have A9:kvs.length=vs.length:=Paired.length r;exact wpAny_truthy_dict hS m (by walk_at "o") ⟨H,I.tok _,by rw [ajg r];exact q⟩
 | _=>exact (show False from e).elim
theorem alU(ha:PE X a ta)(he:∀ whole,isTrue a X.env whole=(do let v <- whole;standAt a.pos;holding [v] (truthy v))) :
  PT X a (fun σ H Q=>ta σ H fun x H'=>∃ k,TruV X.K x H' k/\Q k H'):=by
 intro pins s σ H Q I h;exact isTrue_plain (B5 (ha pins s σ H _ I h) fun v s1 ⟨x,H1,I1,r1,q1⟩=>aqB pins s1 σ H1 x v Q I1 r1 q1) (he _)
theorem ajh:K9 X (binaryOp .Add) (fun x y H Q=>∃ i j,x=.str i/\y=.str j/\i.length+j.length<=sizeLine/\Q (.str (i++j)) H):=by
 intro pins s σ H x y v u Q I rx ry h;obtain ⟨i,j,rfl,rfl,hz,q⟩:=h;obtain ⟨t,rfl⟩:=rx;obtain ⟨t',rfl⟩:=ry;exact add_str (fun t' tk=>⟨.str (i++j),H,I.tok _,⟨_,rfl⟩,q⟩) hz
theorem vals1{x:V}{us:List Value}(r:Vals [x] us):∃ u,us=[u]/\RelV x u:=by
 cases r with
 | cons r1 r2=>cases r2;exact ⟨_,rfl,r1⟩
theorem vals2{x y:V}{us:List Value}(r:Vals [x,y] us):∃ u w',us=[u,w']/\RelV x u/\RelV y w':=by
 cases r with
 | cons r1 r2=>
  cases r2 with
  | cons r3 r4=>cases r4;exact ⟨_,_,rfl,r1,r3⟩
theorem akd(hc:X.calm=true):CallR X (.builtin "min") (fun xs H Q=>∃ i j,xs=[.int i,.int j]/\Q (.int (if j<i then j else i)) H):=by
 intro pins s σ H xs us Q I r h;obtain ⟨i,j,rfl,q⟩:=h;obtain ⟨u,w',rfl,⟨t,rfl⟩,⟨t',rfl⟩⟩:=vals2 r;refine min_two_ints (I.ok.hd hc) fun h' tk k=>⟨_,H,I.kept k,?_,q⟩
 by_cases hj:j<i
 ·rw [if_pos hj,if_pos hj];exact ⟨_,rfl⟩
 ·rw [if_neg hj,if_neg hj];exact ⟨_,rfl⟩
theorem ake:CallR X (.type "int") (fun xs H Q=>(∃ i,xs=[.int i]/\Q (.int i) H)\/∃ k,xs=[.bl k]/\Q (.int (if k then 1 else 0)) H):=by
 intro pins s σ H xs us Q I r h
 rcases h with ⟨i,rfl,q⟩ | ⟨k,rfl,q⟩
 ·obtain ⟨u,rfl,t,rfl⟩:=vals1 r;exact call_int_int ⟨.int i,H,I,⟨_,rfl⟩,q⟩
 ·obtain ⟨u,rfl,r1⟩:=vals1 r
  cases r1
  exact call_int_bool ⟨.int (if k then 1 else 0),H,I.tok _,⟨_,rfl⟩,q⟩
theorem alV:CallR X (.builtin "ord") (fun xs H Q=>∃ x,xs=[.str x]/\x.length=1/\Q (.int (x.cps.getD 0 0:Nat)) H):=by
 intro pins s σ H xs us Q I r h;obtain ⟨x,rfl,hz,q⟩:=h;obtain ⟨u,rfl,t,rfl⟩:=vals1 r;exact ord_of_one hz ⟨.int _,H,I.tok _,⟨_,rfl⟩,q⟩
noncomputable def LenV (K:PySem.W.Frag) (x:V) (H:Hp) (n:Nat):Prop:=
 match x with
 | .str y=>y.length<=sizeLine/\n=y.length
 | .byt y=>y.size<=sizeLine/\n=y.size
 | .ref p=>(∃ xs,E2 K H p xs/\n=xs.length)\/∃ xs,C7 K H p xs/\n=xs.length
 | _=>False
theorem uM:CallR X (.builtin "len") (fun xs H Q=>∃ x n,xs=[x]/\LenV X.K x H n/\Q (.int n) H):=by
 intro pins s σ H xs us Q I r h;obtain ⟨x,n,rfl,e,q⟩:=h;obtain ⟨u,rfl,rx⟩:=vals1 r;have hl:=iZ;have hs:sizeLine=16777216:=sizeLine_eq
 cases x with
 | str y=>
  obtain ⟨t,rfl⟩:=rx;obtain ⟨hy,e'⟩:y.length<=sizeLine/\n=y.length:=e;subst e';exact len_str (by walk_at "o") ⟨.int _,H,I.tok _,⟨_,rfl⟩,q⟩
 | byt y=>
  obtain ⟨t,rfl⟩:=rx;obtain ⟨hy,e'⟩:y.size<=sizeLine/\n=y.size:=e;subst e';exact PySem.W.len_bytes (by walk_at "o") ⟨.int _,H,I.tok _,⟨_,rfl⟩,q⟩
 | ref p=>
  cases rx
  have e':(∃ xs,E2 X.K H p xs/\n=xs.length)\/∃ xs,C7 X.K H p xs/\n=xs.length:=e
  rcases e' with ⟨xs,hx,e'⟩ | ⟨xs,hx,e'⟩
  ·subst e';obtain ⟨its,r',pl,hz⟩:=I.list hx;have A9:=r'.length;exact Calls.call_len_list pl.isList (by simp only [L5];walk_at "o") ⟨.int xs.length,H,I.tok _,⟨_,by simp only [L5];rw [A9]⟩,q⟩
  ·subst e';obtain ⟨its,r',pl,hz⟩:=I.tuple hx;have A9:=r'.length;exact len_tuple pl (by simp only [L5];walk_at "o") ⟨.int xs.length,H,I.tok _,⟨_,by simp only [L5];rw [A9]⟩,q⟩
 | _=>exact (show False from e).elim
end
end L2
namespace L2
open PySem PySem.Spec PyProof.Rows
structure ObjM(h:Heap)(x dx C:Addr)(mA:Str->Option Value):Prop where
 obj:h.get? x=some (cW C dx)
 ns:h.Ns1 dx mA
 ne:dx≠x
theorem akf{h:Heap}{dx:Addr}{mA:Str->Option Value}(n:h.Ns1 dx mA):∃ od,h.get? dx=some od/\∀ name,PySem.W.lookIn name od=some (mA name):=by
 obtain ⟨o,es,ep,ho,hd,hk,_,hm⟩:=n;refine ⟨o,ho,fun name=>?_⟩;have e:=hm name;unfold nsFind findBy at e;rw [<- Array.find?_toList] at e;unfold PySem.W.lookIn;rw [hd]
 dsimp only
 split
 ·rename_i y q
  rw [q] at e;exact congrArg some e
 ·rename_i q
  rw [q] at e;have a:es.toList.any (·.refKey)=false:=by
   rw [List.any_eq_false];intro y hy;obtain ⟨z,t,j7⟩:=hk y (Array.mem_toList_iff.mp hy);simp [DictEntry.refKey,j7]
  have a':¬ es.toList.any (·.refKey)=true:=by rw [a];exact N2
  rw [if_neg a'];exact congrArg some e
theorem ObjM.look{h:Heap}{x dx C:Addr}{mA:Str->Option Value}(I:ObjM h x dx C mA):∃ od,PySem.W.InstAt h x (cW C dx) C (some od)/\∀ name,PySem.W.lookIn name od=some (mA name):=
 let ⟨od,ho,hl⟩:=akf I.ns
 ⟨od,⟨I.obj,rfl,rfl,ho⟩,hl⟩
section
variable {prog:Program} {w:World} {A:Around} {E:Value->Shared->Prop} {s:Shared} {K:PySem.W.Frag} {x dx C f:Addr} {mA:Str->Option Value} {name:Str} {v:Value}
theorem anQ{expr:Bool}{Q:Value->Shared->Prop}(X:K.In s.heap)(I:ObjM s.heap x dx C mA)(hg:lZ K C name=true)(hh:PySem.W.hasDictIn K C=true)(ha:R9 K (.ref C) name=some none)(hv:mA name=some v)(tE:PySem.W.handedIn v=true)(h:Q v { s with toks:=s.toks+1 }) :
  wpAny (model prog w) A (getAttr (.ref x) name expr) Q E s:=by
 obtain ⟨od,J,hl⟩:=I.look;exact PySem.W.get_value X J (PySem.W.plainGet_of hg).1 (PySem.W.findObj_own hh ha rfl (by rw [hl,hv])) tE h
theorem alW{pl:Sem Bool}{Q:Value×List Value->Shared->Prop}(X:K.In s.heap)(I:ObjM s.heap x dx C mA)(hg:lZ K C name=true)(hf:R9 K (.ref C) name=some (some (.ref f)))(ht:aX K (.ref f)=true)(hv:mA name=none)(h:Q (.ref f,[.ref x]) s) :
  wpAny (model prog w) A (getMethod (.ref x) name pl) Q E s:=by
 obtain ⟨od,J,hl⟩:=I.look;exact PySem.W.method_fn X J (PySem.W.plainGet_of hg).1 (PySem.W.plainGet_of hg).2 hf (beq_iff_eq.mp ht) (by show (PySem.W.lookIn name od).map (·.isSome)=some false;rw [hl,hv];rfl) h
theorem anR{ns:List Str}{Q:Unit->Shared->Prop}(X:K.In s.heap)(I:ObjM s.heap x dx C mA)(hs:R9 K (.ref C) "__setattr__"=some (some (.builtin "object.__setattr__")))(hp:PySem.W.plainOver K C=true)(ht:PySem.W.takerIn K C name=some none)(hh:PySem.W.hasDictIn K C=true)(hw:PySem.Within mA ns)(hsz:ns.length<=sizeLine)(h:∀ h',ObjM h' x dx C (fun y=>if y=name then some v else mA y)->Heap.SameBut dx s.heap h'->Q () { s with heap:=h',toks:=s.toks+2 }) :
  wpAny (model prog w) A (setAttr (.ref x) name v) Q E s:=by
 obtain ⟨od,J,hl⟩:=I.look;refine PySem.W.set_plain X J hs (PySem.W.osa_open (s:={ s with toks:=s.toks+1 }) (r:=none) X J hp ht fun b=>?_);obtain ⟨cd,hc,gR⟩:=PySem.W.any_some hh;have hx:s.heap.get? x=some ⟨.ref C,some dx,.plain,#[]⟩:=I.obj;refine wpAny_bind (wpAny_pure (wpAny_bind (wpAny_bind (wpAny_loadPart hx (wpAny_bind (PySem.W.Looks.here (s:={ s with toks:=s.toks+1 }) (PySem.W.looks_clsIn X hc) ?_))))));rw [gR];refine wpAny_pure (a:=some dx) (wpAny_bind (wpAny_pure (wpAny_bind ?_)));refine wpAny_nsSet1 (s:={ s with toks:=s.toks+1 }) I.ns fun h' tF v8=>?_
 obtain ⟨oD,esD,epD,hoD,hdD,hcD⟩:=tF.count (PySem.Within.cons name v hw);refine wpAny_bind (wpAny_lookBehind hoD (by rw [hdD];exact pastItsLine_dict (L3 hcD (by rw [K3];walk_at "o"))) ?_);exact wpAny_pure (h _ ⟨(v8.2 _ (Ne.symm I.ne)).trans I.obj,tF,I.ne⟩ v8)
theorem alX{R:Result->Shared->Prop}{vs:List Value}{kw:List (Str×Value)}(X:K.In s.heap)(hm:PySem.W.makesIn K C=true)(hi:R9 K (.ref C) "__init__"=some (some (.ref f)))(hf:PySem.W.typeIn K (.ref f)=some (.type "function"))(h:codeAny (model prog w) (A.under (.builtin "type.__call__" ⟨.ref C::vs,kw⟩)) (.call (.ref f) ⟨.ref (s.heap.objs.size+1)::vs,kw⟩) (PySem.W.InitBack (s.heap.objs.size+1) R)
   { s with heap:=(s.heap.push aW).push (cW C s.heap.objs.size) }) :
  codeAny (model prog w) A (.call (.ref C) ⟨vs,kw⟩) R s:=by
 obtain ⟨hh,g,d,t,os⟩:=s;exact PySem.W.make_core (PySem.W.makes_of X hm) (PySem.W.looks_findIn X hi) (fun self=>PySem.W.bind_fn X self hf) (.inl rfl) h
end
noncomputable def putF (f:Str) (v:V):List (Str×V)->List (Str×V)
 | []=>[(f,v)]
 | (g,x)::r=>if g=f then (g,v)::r else (g,x)::putF f v r
theorem N3(f g:Str)(v:V):∀ fs:List (Str×V),(putF f v fs).lookup g=if g=f then some v else fs.lookup g
 | []=>by
  show cU g [(f,v)]=_
  by_cases h:g=f
  ·have hb:(g==f)=true:=beq_iff_eq.mpr h;simp only [cU,hb,if_pos h]
  ·have hb:(g==f)=false:=beq_eq_false_iff_ne.mpr h;simp only [cU,hb,if_neg h]
 | (k,x)::r=>by
  have ih:=N3 f g v r;rw [show putF f v ((k,x)::r)=(if k=f then (k,v)::r else (k,x)::putF f v r) from rfl]
  by_cases hk:k=f
  ·rw [if_pos hk]
   by_cases h:g=k
   ·have hb:(g==k)=true:=beq_iff_eq.mpr h;simp only [cU,hb,if_pos (h.trans hk)]
   ·have hb:(g==k)=false:=beq_eq_false_iff_ne.mpr h;simp only [cU,hb,if_neg (fun e:g=f=>h (e.trans hk.symm))]
  ·rw [if_neg hk]
   by_cases h:g=k
   ·have hb:(g==k)=true:=beq_iff_eq.mpr h;simp only [cU,hb,if_neg (fun e:g=f=>hk (h.symm.trans e))]
   ·have hb:(g==k)=false:=beq_eq_false_iff_ne.mpr h;simp only [cU,hb];exact ih
theorem uN(f:Str)(v:V):∀ fs:List (Str×V),f∈(putF f v fs).map (·.1)/\∀ g,g∈fs.map (·.1)->g∈(putF f v fs).map (·.1)
 | []=>⟨by simp [putF],fun g h=>by simp at h⟩
 | (k,x)::r=>by
  obtain ⟨i1,i2⟩:=uN f v r;rw [show putF f v ((k,x)::r)=(if k=f then (k,v)::r else (k,x)::putF f v r) from rfl]
  by_cases hk:k=f
  ·rw [if_pos hk];subst hk;exact ⟨by simp,fun g h=>by simpa using h⟩
  ·rw [if_neg hk];refine ⟨?_,fun g h=>?_⟩
   ·rw [K4];exact M3 _ i1
   ·rw [K4] at h ⊢
    rcases F9.mp h with e | e
    ·exact F9.mpr (.inl e)
    ·exact M3 _ (i2 g e)
theorem uO(f:Str)(v:V):∀ fs:List (Str×V),(putF f v fs).length<=fs.length+1
 | []=>by simp [putF]
 | (k,x)::r=>by
  have ih:=uO f v r;rw [show putF f v ((k,x)::r)=(if k=f then (k,v)::r else (k,x)::putF f v r) from rfl]
  by_cases hk:k=f
  ·rw [if_pos hk,K3,K3];walk_at "o"
  ·rw [if_neg hk,K3,K3];walk_at "o"
theorem qS{v:V}{o:Option Value}(r:RelO (some v) o):∃ u,o=some u/\RelV v u:=by
 cases o with
 | none=>exact (show False from r).elim
 | some u=>exact ⟨u,rfl,r⟩
theorem RelO.none_of{o:Option Value}(r:RelO none o):o=none:=by
 cases o with
 | none=>rfl
 | some u=>exact (show False from r).elim
theorem akg{v:V}{u:Value}(r:RelV v u):PySem.W.handedIn u=true:=by
 cases v with
 | non=>cases (show u=Value.none from r);rfl
 | bl b=>cases (show u=Value.bool b from r);rfl
 | int i=>obtain ⟨t,e⟩:=(show ∃ t,u=Value.int i t from r);cases e;rfl
 | str x=>obtain ⟨t,e⟩:=(show ∃ t,u=Value.str x t from r);cases e;rfl
 | byt b=>obtain ⟨t,e⟩:=(show ∃ t,u=Value.bytes b t from r);cases e;rfl
 | flt b=>obtain ⟨t,e⟩:=(show ∃ t,u=Value.float b t from r);cases e;rfl
 | ref a=>cases (show u=Value.ref a from r);rfl
 | ty n=>cases (show u=Value.type n from r);rfl
section
variable {P:Program} {w:World} {H H':Hp} {h h':Heap} {a C dx:Addr} {fs fs':List (Str×V)}
theorem uP(hok:O0 P w H h)(e:H a=some (.ins C dx fs)):∃ mA,ObjM h a dx C mA/\(∀ f,RelO (fs.lookup f) (mA f))/\PySem.Within mA (fs.map (·.1))/\fs.length<=1000/\H dx=some (.own a):=by
 obtain ⟨d,z,ne,ob,mA,n,r,q⟩:=(show ObjOk P w H h a (.ins C dx fs) from hok a _ e)
 exact ⟨mA,⟨ob,n,ne⟩,r,q,z,d⟩
end
structure Cls(K:PySem.W.Frag)(C:Addr):Prop where
 pg:lZ K C Str.empty=true
 hd:PySem.W.hasDictIn K C=true
 po:PySem.W.plainOver K C=true
 sa:R9 K (.ref C) "__setattr__"=some (some (.builtin "object.__setattr__"))
theorem Cls.get{K:PySem.W.Frag}{C:Addr}(c:Cls K C)(f:Str):lZ K C f=true:=c.pg
noncomputable def NoAttr (K:PySem.W.Frag) (C:Addr) (f:Str):Prop:=R9 K (.ref C) f=some none
theorem NoAttr.taker{K:PySem.W.Frag}{C:Addr}{f:Str}(n:NoAttr K C f):PySem.W.takerIn K C f=some none:=by
 unfold PySem.W.takerIn;rw [show R9 K (.ref C) f=some none from n];rfl
structure Meth(K:PySem.W.Frag)(C:Addr)(m:Str)(f:Addr):Prop where
 at_:R9 K (.ref C) m=some (some (.ref f))
 fn:aX K (.ref f)=true
 kp:V8 K (.ref f)=true
section
variable {X:Cx} {pins:List (Addr×Obj)} {σ:St} {H:Hp} {s:Shared} {a C dx:Addr} {fs:List (Str×V)} {f:Str} {v:V} {A:Around} {E:Value->Shared->Prop}
theorem aji{b:Bool}{Q:Value->Shared->Prop}(I:Inv X pins σ H s)(e:H a=some (.ins C dx fs))(c:Cls X.K C)(n:NoAttr X.K C f)(l:fs.lookup f=some v)(h:∀ u s',Inv X pins σ H s'->RelV v u->Q u s'):wpAny (model X.prog X.w) A (getAttr (.ref a) f b) Q E s:=by
 obtain ⟨mA,O,r,_,_,_⟩:=uP I.hok e;obtain ⟨u,hu,ru⟩:=qS (v:=v) (o:=mA f) (by rw [<- l];exact r f);exact anQ I.kIn O (c.get f) c.hd n hu (akg ru) (h u _ (I.tok _) ru)
theorem afB{m:Str}{g:Addr}{pl:Sem Bool}{Q:Value×List Value->Shared->Prop}(I:Inv X pins σ H s)(e:H a=some (.ins C dx fs))(c:Cls X.K C)(k:Meth X.K C m g)(l:fs.lookup m=none)(h:Q (.ref g,[.ref a]) s):wpAny (model X.prog X.w) A (getMethod (.ref a) m pl) Q E s:=by
 obtain ⟨mA,O,r,_,_,_⟩:=uP I.hok e;have hn:mA m=none:=RelO.none_of (by rw [<- l];exact r m);exact alW I.kIn O (c.get m) k.at_ k.fn hn h
theorem ajj{y:V}{u:Value}{Q:Unit->Shared->Prop}(I:Inv X pins σ H s)(e:H a=some (.ins C dx fs))(c:Cls X.K C)(n:NoAttr X.K C f)(hl:fs.length<1000)(ry:RelV y u)(h:∀ s',Inv X pins σ (A0 H a (.ins C dx (putF f y fs))) s'->Q () s'):wpAny (model X.prog X.w) A (setAttr (.ref a) f u) Q E s:=by
 obtain ⟨mA,O,r,wi,_,ho⟩:=uP I.hok e;have hz:(fs.map (·.1)).length<=sizeLine:=by rw [A6,sizeLine_eq];walk_at "o"
 refine anR I.kIn O c.sa c.po n.taker c.hd wi hz fun h' O' sb=>h _ ?_
 have hd:∃ o,h'.get? dx=some o:=let ⟨o,_,_,e',_⟩:=O'.ns;⟨o,e'⟩
 refine I.write (x:=a) (e:=dx) (by rw [e];exact True.intro) (.inr ho) (fun b q hb z=>(sb.2 b hb).trans z) hd ?_;refine ⟨by rw [B1 O.ne];exact ho,?_,O.ne,O'.obj,_,O'.ns,fun g=>?_,fun g hg=>?_⟩
 ·have:=uO f y fs;walk_at "o"
 ·show RelO ((putF f y fs).lookup g) (if g=f then some u else mA g);rw [N3]
  by_cases q:g=f
  ·rw [if_pos q,if_pos q];exact ry
  ·rw [if_neg q,if_neg q];exact r g
 ·by_cases q:g=f
  ·rw [q];exact (uN f y fs).1
  ·refine (uN f y fs).2 g (wi g fun z=>hg ?_);show (if g=f then some u else mA g)=none;rw [if_neg q];exact z
theorem Inv.made(I:Inv X pins σ H s):Inv X pins σ (A0 (A0 H s.heap.objs.size (.own (s.heap.objs.size+1))) (s.heap.objs.size+1) (.ins C s.heap.objs.size []))
  { s with heap:=(s.heap.push aW).push (cW C s.heap.objs.size) }:=by
 have e1:(s.heap.push aW).get? s.heap.objs.size=some aW:=Heap.get?_push_size s.heap rfl;have e2:((s.heap.push aW).push (cW C s.heap.objs.size)).get? (s.heap.objs.size+1)=some (cW C s.heap.objs.size):=by
  have:=Heap.get?_push_size (s.heap.push aW) (o:=cW C s.heap.objs.size) rfl
  rwa [Heap.size_push] at this
 have e3:(s.heap.push aW).Ns s.heap.objs.size (fun _=>none):=⟨aW,#[],_,e1,rfl,(fun e he=>absurd he (by simp)),fun _=>rfl⟩
 have I1:=I.laid (a:=s.heap.objs.size) (o:=.own (s.heap.objs.size+1)) (h':=s.heap.push aW) (t':=s.toks) (fun b u q=>Heap.get?_push_of_some _ q) (C2 _) ⟨_,e1⟩;refine I1.laid (a:=s.heap.objs.size+1) (o:=.ins C s.heap.objs.size []) (t':=s.toks) (fun b u q=>Heap.get?_push_of_some _ q) (Nat.le_of_eq (Heap.size_push _ _)) ?_;have ne:s.heap.objs.size≠s.heap.objs.size+1:=O6 (Nat.lt_succ_self _);refine ⟨by rw [B1 ne,A5],G2 _,ne,e2,fun _=>none,(Heap.Ns1.of_empty e3).at fun o q=>Heap.get?_push_of_some _ q,fun _=>True.intro,fun y hy=>absurd rfl hy⟩
theorem anS{prog:Program}{w:World}{env:Env}{e:Expr}{f:Str}{pos:Pos}{s:Shared}{Q:Value->Shared->Prop}(hb:attributeBase e f env (eval e env)=eval e env)(h:wpAny (model prog w) A (eval e env) (fun o s₁=>wpAny (model prog w) A (getAttr o f true) Q E s₁) E s):wpAny (model prog w) A (eval (.Attribute e f pos) env) Q E s:=
 Attribute_any_ h (by rw [arm_eval_Attribute,hb])
end
noncomputable def tFld (K:PySem.W.Frag) (ta:TE) (f:Str):TE:=fun σ H Q=>ta σ H fun x H1=>∃ a C dx fs v,x=.ref a/\H1 a=some (.ins C dx fs)/\Cls K C/\NoAttr K C f/\fs.lookup f=some v/\Q v H1
noncomputable def sFld (K:PySem.W.Frag) (ta tv:TE) (f:Str):TS:=fun D σ H=>tv σ H fun y H1=>ta σ H1 fun x H2=>∃ a C dx fs,x=.ref a/\H2 a=some (.ins C dx fs)/\Cls K C/\NoAttr K C f/\fs.length<1000/\
 D.nx σ (A0 H2 a (.ins C dx (putF f y fs)))
noncomputable def InOp (X:Cx) (op:Operator) (rd:V->V->Hp->VK->Prop):Prop:=
 ∀ (pins:List (Addr×Obj)) (s:Shared) (σ:St) (H:Hp) (x y:V) (u v:Value) (Q:VK),Inv X pins σ H s->RelV x u->RelV y v->rd x y H Q->wpAny (model X.prog X.w) X.A (inplaceOp op u v) (EP X pins σ Q) X.xe s
section
variable {X:Cx} {o e value:Expr} {f:Str} {pos pos' tpos:Pos} {ta tv:TE}
theorem aqC(he:PE X e ta)(hb:attributeBase e f X.env (eval e X.env)=eval e X.env):PE X (.Attribute e f pos) (tFld X.K ta f):=by
 intro pins s σ H Q I h;refine anS hb (B5 (he pins s σ H _ I h) fun u s1 ⟨x,H1,I1,rx,a,C,dx,fs,v,ex,ea,c,n,l,q⟩=>?_);subst ex;obtain rfl:u=Value.ref a:=rx;exact aji I1 ea c n l fun u' s2 I2 ru=>⟨v,H1,I2,ru,q⟩
theorem aqD(ha:PE X o ta)(hv:PE X value tv)(hs:swapsWith value (some (.Attribute o f pos')) pos.line X.env=pure false):PS X (.Assign [.Attribute o f pos'] value pos) (sFld X.K ta tv f):=by
 intro pins s σ H D I h;refine plainObj_wpAny_Assign_Attribute (B5 (hv pins s σ H _ I h) fun u s1 ⟨y,H1,I1,ry,q⟩=>B5 (ha pins s1 σ H1 _ I1 q) fun ov s2 ⟨x,H2,I2,rx,a,C,dx,fs,ex,ea,c,n,l,q2⟩=>?_) hs;subst ex;obtain rfl:ov=Value.ref a:=rx;exact ajj I2 ea c n l ry fun s3 I3=>⟨σ,_,I3,q2⟩
noncomputable def rAdd:V->V->Hp->VK->Prop:=fun x y H Q=>∃ i j,x=.int i/\y=.int j/\Q (.int (i+j)) H
noncomputable def rSub:V->V->Hp->VK->Prop:=fun x y H Q=>∃ i j,x=.int i/\y=.int j/\Q (.int (i-j)) H
theorem aqE:InOp X .Add rAdd:=by
 rintro pins s σ H x y u v Q I rx ry ⟨i,j,rfl,rfl,q⟩;obtain ⟨t,rfl⟩:=(show ∃ t,u=Value.int i t from rx)
 obtain ⟨t',rfl⟩:=(show ∃ t',v=Value.int j t' from ry)
 exact PyProof.Rows.iadd_int ⟨.int (i+j),H,I.tok _,⟨_,rfl⟩,q⟩
theorem aqF:InOp X .Sub rSub:=by
 rintro pins s σ H x y u v Q I rx ry ⟨i,j,rfl,rfl,q⟩;obtain ⟨t,rfl⟩:=(show ∃ t,u=Value.int i t from rx)
 obtain ⟨t',rfl⟩:=(show ∃ t',v=Value.int j t' from ry)
 exact PyProof.Rows.isub_int ⟨.int (i-j),H,I.tok _,⟨_,rfl⟩,q⟩
end
section
variable {X:Cx} {pins:List (Addr×Obj)} {σ:St} {H:Hp} {s:Shared} {A:Around} {E:Value->Shared->Prop} {Q:Value->Shared->Prop} {c:Value} {b:Bool}
end
end L2
namespace L2
open PySem PySem.Spec PyProof.Rows
structure Room(k:Nat)(A:Around):Prop where
 hd:A.handled=none
 dp:A.depth+3*k+5<recursionLimit
 un:A.units+16*k+200<cLine
 gd:A.guards=some []
theorem Room.mono{j k:Nat}{A:Around}(r:Room k A)(h:j<=k):Room j A:=⟨r.hd,by have:=r.dp;walk_at "o",by have:=r.un;walk_at "o",r.gd⟩
theorem Room.deeper{k:Nat}{A:Around}(r:Room (k+1) A)(env:Env):Room k (A.deeper env):=
 ⟨r.hd,by have:=r.dp;show A.depth+1+3*k+5<_;walk_at "o",by have:=r.un;show A.units+3+16*k+200<_;walk_at "o",r.gd⟩
theorem ajk{A:Around}{C:Addr}{us:List Value}{kw:List (Str×Value)} : (A.under (.builtin "type.__call__" ⟨.ref C::us,kw⟩)).depth=A.depth+1:=by
 first | rfl | simp [Around.under,Code.weight,Code.isCreation,Code.isGuard,Code.isCaller,Code.frames,Code.isFrame,guardIds]
theorem ajl{A:Around}{C:Addr}{us:List Value}{kw:List (Str×Value)} : (A.under (.builtin "type.__call__" ⟨.ref C::us,kw⟩)).units=A.units+1:=by
 first | rfl | simp [Around.under,Code.cUnits,Code.frames,Code.isFrame]
theorem Room.make{k:Nat}{A:Around}(r:Room (k+1) A)(C:Addr)(us:List Value)(kw:List (Str×Value)):Room k (A.under (.builtin "type.__call__" ⟨.ref C::us,kw⟩)):=
 ⟨r.hd,by have:=r.dp;rw [ajk];walk_at "o",by have:=r.un;rw [ajl];walk_at "o",r.gd⟩
theorem Room.depth{k:Nat}{A:Around}(r:Room k A):A.depth<recursionLimit:=by have:=r.dp;walk_at "o"
theorem Room.units{k:Nat}{A:Around}(r:Room k A):A.units+64<cLine:=by have:=r.un;walk_at "o"
noncomputable def tNil:TA:=fun _ H Q=>Q [] H
noncomputable def tCons (ta:TE) (tr:TA):TA:=fun σ H Q=>ta σ H fun x H1=>tr σ H1 fun xs H2=>Q (x::xs) H2
section
variable {X:Cx} {e:Expr} {es:List Expr} {te:TE} {t:TA} {pos:Pos}
theorem aqG:PA X [] tNil:=fun _ _ _ _ H Q I h=>Calls.spliced_nil ⟨[],H,I,.nil,h⟩
theorem anT(ha:PE X e te)(hr:PA X es t)(hs:starEach (e::es) X.env=(false,eval e X.env)::starEach es X.env:=by rfl):PA X (e::es) (tCons te t):=by
 intro pos pins s σ H Q I h;rw [hs];show wpAny _ _ (spliced ((false,eval e X.env)::backTo pos (starEach es X.env))) _ _ s;refine Calls.spliced_cons (B5 (ha pins s σ H _ I h) fun u s1 ⟨x,H1,I1,r1,q1⟩=>?_);exact B5 (hr pos pins s1 σ H1 _ I1 q1) fun us s2 ⟨xs,H2,I2,r2,q2⟩=>⟨x::xs,H2,I2,.cons r1 r2,q2⟩
noncomputable def tTup (t:TA):TE:=fun σ H Q=>t σ H fun xs H1=>xs.length<=sizeLine/\∀ p,H1 p=none->Q (.ref p) (A0 H1 p (.tup xs))
noncomputable def tLst (t:TA):TE:=fun σ H Q=>t σ H fun xs H1=>xs.length<=sizeLine/\∀ p,H1 p=none->Q (.ref p) (A0 H1 p (.lst xs))
theorem aqH{x1}(h:PA X es t):PE X (.Tuple es x1 pos) (tTup t):=by
 intro pins s σ H Q I hq;refine wpAny_Tuple_spliced (B5 (h pos pins s σ H _ I hq) fun us s1 ⟨xs,H1,I1,r,z,q⟩=>⟨by rw [<- r.length];exact z,?_⟩);have hf:H1 s1.heap.objs.size=none:=I1.hok.fresh (C2 _);refine ⟨.ref s1.heap.objs.size,A0 H1 s1.heap.objs.size (.tup xs),I1.laid (t':=s1.toks) (fun b u e=>Heap.get?_push_of_some _ e) (C2 _) ?_,rfl,q _ hf⟩;exact ⟨z,us,r,⟨_,Heap.get?_push_size _ rfl,rfl,_,rfl⟩⟩
theorem aqI(h:PA X es t):PE X (.List es pos) (tLst t):=by
 intro pins s σ H Q I hq;refine wpAny_List_spliced (B5 (h pos pins s σ H _ I hq) fun us s1 ⟨xs,H1,I1,r,z,q⟩=>⟨by rw [<- r.length];exact z,?_⟩);have hf:H1 s1.heap.objs.size=none:=I1.hok.fresh (C2 _);refine ⟨.ref s1.heap.objs.size,A0 H1 s1.heap.objs.size (.lst xs),I1.laid (t':=s1.toks) (fun b u e=>Heap.get?_push_of_some _ e) (C2 _) ?_,rfl,q _ hf⟩;exact ⟨z,us,0,r,Heap.get?_push_size _ rfl⟩
end
noncomputable abbrev Sp:=List V->Hp->VK->XK->Prop
noncomputable abbrev i6:=List Env->Hp->Shared->XK->Value->Shared->Prop
structure Env0(P:Program)(w:World)(K:PySem.W.Frag)(mg:Str->Option Value)(base:Heap)(A:Around)(outer:List Env)(s:Shared)(H:Hp):Prop where
 frames:A.frames=some outer
 mod:Mod K mg base
 bs:∀ b o,base.get? b=some o->s.heap.get? b=some o/\H b=none
 bsz:base.objs.size<=s.heap.objs.size
 funs:s.heap.FunFrames base outer
 frf:∀ b∈s0 outer,H b=none
 hok:O0 P w H s.heap
 bare:AllBare s.gens
noncomputable def CE (outer:List Env) (P:Program) (w:World) (H:Hp) (s:Shared) (Q:VK) (u:Value) (s':Shared):Prop:=
 ∃ v H',s'.os=s.os/\AllBare s'.gens/\Un (s0 outer) [] H H' s.heap s'.heap/\O0 P w H' s'.heap/\RelV v u/\Q v H'
noncomputable def CR (CX:i6) (outer:List Env) (P:Program) (w:World) (H:Hp) (s:Shared) (Q:VK) (E:XK) (r:Result) (s':Shared):Prop:=
 match r with
 | .ok (.ret u)=>CE outer P w H s Q u s'
 | .ok _=>False
 | .error e=>CX outer H s E e s'
structure FnOk(P:Program)(w:World)(K:PySem.W.Frag)(mg:Str->Option Value)(base:Heap)(CX:i6)(k:Nat)(f:Addr)(fd:FuncData)(ps:List Str)(sp:Sp):Prop where
 len:∀ vs H Q E,sp vs H Q E->vs.length=ps.length
 run:∀ (A:Around) (outer:List Env) (s:Shared) (H:Hp) (args:Args) (us:List Value) (vs:List V) (Q:VK) (E:XK),Room k A->Env0 P w K mg base A outer s H->BindsTo s fd args (ps.zip us)->Vals vs us->sp vs H Q E->
  codeAny (model P w) A (.call (.ref f) args) (CR CX outer P w H s Q E) s
theorem Env0.make{P:Program}{w:World}{K:PySem.W.Frag}{mg:Str->Option Value}{base:Heap}{A:Around}{outer:List Env}{s:Shared}{H:Hp}(e:Env0 P w K mg base A outer s H)(C:Addr)(us:List Value)(kw:List (Str×Value)) :
  Env0 P w K mg base (A.under (.builtin "type.__call__" ⟨.ref C::us,kw⟩)) outer s H:=⟨by first | exact e.frames | (simpa [Around.under,Code.envs,Code.isFrame,pushEnvs] using e.frames),e.mod,e.bs,e.bsz,e.funs,e.frf,e.hok,e.bare⟩
section
variable {X:Cx} {pins:List (Addr×Obj)} {σ:St} {H:Hp} {s s':Shared}
theorem Inv.env0(I:Inv X pins σ H s):Env0 X.prog X.w X.K X.mg X.base X.A X.stack s H:=
 ⟨I.ok.frames,I.ok.mod,I.bs,L3 I.ok.bsz I.sz,I.stack,I.stkFree,I.hok,I.bare⟩
theorem Inv.after{Q:VK}{u:Value}(I:Inv X pins σ H s)(h:CE X.stack X.prog X.w H s Q u s'):EP X pins σ Q u s':=by
 obtain ⟨v,H',os,bare,un,hok,r,q⟩:=h;obtain ⟨hh,g,d,t,os'⟩:=s';obtain rfl:os'=s.os:=os;exact ⟨v,H',I.call (h':=hh) (g':=g) (d':=d) (t':=t) (ch:=[]) un hok bare (fun b z=>absurd z (by simp)),r,q⟩
end
noncomputable def tCall (sp:Sp) (dvs:List V) (E:XK) (t:TA):TE:=fun σ H Q=>t σ H fun vs H1=>sp (vs++dvs) H1 Q E
noncomputable def tMeth (C:Addr) (m:Str) (sp:Sp) (dvs:List V) (E:XK) (ta:TE) (t:TA):TE:=fun σ H Q=>ta σ H fun x H1=>∃ a dx fs,x=.ref a/\H1 a=some (.ins C dx fs)/\fs.lookup m=none/\
 t σ H1 fun vs H2=>sp (x::(vs++dvs)) H2 Q E
noncomputable def tMake (C:Addr) (sp:Sp) (dvs:List V) (E:XK) (t:TA):TE:=fun σ H Q=>t σ H fun vs H1=>∀ x dx,H1 x=none->H1 dx=none->dx≠x->
 sp (.ref x::(vs++dvs)) (A0 (A0 H1 dx (.own x)) x (.ins C dx [])) (fun v H2=>v=.non/\Q (.ref x) H2) E
noncomputable def Binds (K:PySem.W.Frag) (fd:FuncData) (ps:List Str) (ds:List Value):Prop:=
 ∀ (s:Shared) (us:List Value),K.In s.heap->(us++ds).length=ps.length->BindsTo s fd ⟨us,[]⟩ (ps.zip (us++ds))
theorem Binds.all{K:PySem.W.Frag}{fd:FuncData}{ps:List Str}(h:∀ us:List Value,us.length=ps.length->bindArgs fd ⟨us,[]⟩=pure (ps.zip us)):Binds K fd ps []:=fun s us _ hl=>by
 rw [L1] at hl ⊢
 exact .of_eq (h us hl)
noncomputable def fL (CX:i6) (X:Cx) (E:XK):Prop:=∀ (pins:List (Addr×Obj)) (σ:St) (H:Hp) (s:Shared) (e:Value) (s':Shared),Inv X pins σ H s->CX X.stack H s E e s'->X.xe e s'
section
variable {X:Cx} {CX:i6} {k:Nat} {f C:Addr} {fd:FuncData} {ps:List Str} {sp:Sp} {dvs:List V} {ds:List Value} {E:XK} {x m:Str} {p pos apos:Pos} {e o:Expr} {es:List Expr} {ta:TE} {t:TA}
theorem uQ{pins:List (Addr×Obj)}{σ:St}{H:Hp}{s:Shared}{Q:VK}{us:List Value}{vs:List V}(F:FnOk X.prog X.w X.K X.mg X.base CX k f fd ps sp)(hr:Room k X.A)(hb:Binds X.K fd ps ds)(hd:Vals dvs ds)(hx:fL CX X E)(I:Inv X pins σ H s)(r:Vals vs us)(h:sp (vs++dvs) H Q E):wpAny (model X.prog X.w) X.A (call (.ref f) us) (EP X pins σ Q) X.xe s:=by
 have r2:Vals (vs++dvs) (us++ds):=r.append hd;have hl:(us++ds).length=ps.length:=by rw [<- r2.length];exact F.len _ _ _ _ h
 refine wpAny_call (codeAny_mono (F.run X.A X.stack s H ⟨us,[]⟩ (us++ds) (vs++dvs) Q E hr I.env0 (hb s us I.kIn hl) r2 h) fun r s' hq=>?_)
 cases r with
 | error e=>exact hx pins σ H s e s' I hq
 | ok fl=>
  cases fl with
  | ret u=>exact I.after hq
  | next=>exact False.elim hq
  | brk=>exact False.elim hq
  | cont=>exact False.elim hq
theorem anU(F:FnOk X.prog X.w X.K X.mg X.base CX k f fd ps sp)(hr:Room k X.A)(hg:Gl X x)(hm:X.mg x=some (.ref f))(hk:V8 X.K (.ref f)=true)(hb:Binds X.K fd ps ds)(hd:Vals dvs ds)(hx:fL CX X E)(ha:PA X (e::es) t)(T8:(x==("__debug__" : Str))=false:=by decide)(he:starEach (e::es) X.env=(false,eval e X.env)::starEach es X.env:=by rfl)(M8:(backTo pos (starEach es X.env)).any (·.1)=false:=by rfl) :
  PE X (.Call (.Name x p) (e::es) [] pos) (tCall sp dvs E t):=by
 intro pins s σ H Q I h;refine wpAny_Call_Name_kw (uD I hg hm ?_ T8);refine PySem.W.callWith_K (h₀:=X.base) I.ok.mod.kin hk (B5 (ha pos pins s σ H _ I h) fun us s1 ⟨vs,H1,I1,r,q⟩=>⟨I1.kIn,?_⟩) he M8;exact uQ F hr hb hd hx I1 r q
theorem anV{pl:Sem Bool}(he:PE X o ta)(c:Cls X.K C)(hm:Meth X.K C m f)(F:FnOk X.prog X.w X.K X.mg X.base CX k f fd ps sp)(hr:Room k X.A)(hb:Binds X.K fd ps ds)(hd:Vals dvs ds)(hx:fL CX X E)(ha:PA X (e::es) t)(T7:starEach (e::es) X.env=(false,eval e X.env)::starEach es X.env:=by rfl)(M8:(backTo pos (starEach es X.env)).any (·.1)=false:=by rfl)(ht:eval (.Call (.Attribute o m apos) (e::es) [] pos) X.env=(do
   let ov <- eval o X.env
   standAt apos.atName
   let (f,first) <- holding [ov] (getMethod ov m pl)
   callWith pos f first (backTo pos (starEach (e::es) X.env)) (backToKw pos (keywordEach [] X.env))):=by rfl) :
  PE X (.Call (.Attribute o m apos) (e::es) [] pos) (tMeth C m sp dvs E ta t):=by
 intro pins s σ H Q I h;refine PySem.W.methodCall_KW (pl:=pl) (B5 (he pins s σ H _ I h) fun u s1 ⟨x,H1,I1,rx,a,dx,fs,ex,ea,l,q⟩=>?_) ht;subst ex;obtain rfl:u=Value.ref a:=rx;refine afB I1 ea c hm l ?_;refine PySem.W.callWith_K (first:=[.ref a]) (h₀:=X.base) I.ok.mod.kin hm.kp (B5 (ha pos pins s1 σ H1 _ I1 q) fun us s2 ⟨vs,H2,I2,r,q2⟩=>⟨I2.kIn,?_⟩) T7 M8;exact uQ (us:=.ref a::us) (vs:=.ref a::vs) F hr hb hd hx I2 (.cons rfl r) q2
theorem alY{pl:Sem Bool}(he:PE X o ta)(c:Cls X.K C)(hm:Meth X.K C m f)(F:FnOk X.prog X.w X.K X.mg X.base CX k f fd ps sp)(hr:Room k X.A)(hb:Binds X.K fd ps ds)(hd:Vals dvs ds)(hx:fL CX X E)(ht:eval (.Call (.Attribute o m apos) [] [] pos) X.env=(do
   let ov <- eval o X.env
   standAt apos.atName
   let (f,first) <- holding [ov] (getMethod ov m pl)
   callWith pos f first (backTo pos (starEach [] X.env)) (backToKw pos (keywordEach [] X.env))):=by rfl) :
  PE X (.Call (.Attribute o m apos) [] [] pos) (tMeth C m sp dvs E ta tNil):=by
 intro pins s σ H Q I h;refine PySem.W.methodCall_KW (pl:=pl) (B5 (he pins s σ H _ I h) fun u s1 ⟨x,H1,I1,rx,a,dx,fs,ex,ea,l,q⟩=>?_) ht;subst ex;obtain rfl:u=Value.ref a:=rx;refine afB I1 ea c hm l ?_;exact PySem.W.callWith_K0 (first:=[.ref a]) I1.kIn hm.kp (uQ (us:=[.ref a]) (vs:=[.ref a]) F hr hb hd hx I1 (.cons rfl .nil) q)
structure Mk(K:PySem.W.Frag)(C f:Addr):Prop where
 makes:PySem.W.makesIn K C=true
 init:R9 K (.ref C) "__init__"=some (some (.ref f))
 fn:aX K (.ref f)=true
 kp:V8 K (.ref C)=true
theorem alZ{pins:List (Addr×Obj)}{σ:St}{H:Hp}{s:Shared}{Q:VK}{us:List Value}{vs:List V}(M:Mk X.K C f)(F:FnOk X.prog X.w X.K X.mg X.base CX k f fd ps sp)(hr:Room (k+1) X.A)(hb:Binds X.K fd ps ds)(hd:Vals dvs ds)(hx:fL CX X E)(I:Inv X pins σ H s)(r:Vals vs us)(h:∀ x dx,H x=none->H dx=none->dx≠x->sp (.ref x::(vs++dvs)) (A0 (A0 H dx (.own x)) x (.ins C dx [])) (fun v H2=>v=.non/\Q (.ref x) H2) E) :
  wpAny (model X.prog X.w) X.A (call (.ref C) us) (EP X pins σ Q) X.xe s:=by
 have hq:=h (s.heap.objs.size+1) s.heap.objs.size (I.hok.fresh (Nat.le_succ _)) (I.hok.fresh (C2 _)) (O6 (Nat.lt_succ_self _));have I2:=Inv.made (C:=C) I;have r2:Vals (V.ref (s.heap.objs.size+1)::(vs++dvs)) (Value.ref (s.heap.objs.size+1)::(us++ds)):=.cons rfl (r.append hd);have hl:(Value.ref (s.heap.objs.size+1)::us++ds).length=ps.length:=by
  have e:=r2.length;rw [F.len _ _ _ _ hq] at e;exact e.symm
 refine wpAny_call (alX (f:=f) I.kIn M.makes M.init (beq_iff_eq.mp M.fn) (codeAny_mono (F.run _ X.stack _ _ ⟨Value.ref (s.heap.objs.size+1)::us,[]⟩ (Value.ref (s.heap.objs.size+1)::(us++ds)) _ _ E (hr.make C us [])
  (I2.env0.make C us []) (hb _ (Value.ref (s.heap.objs.size+1)::us) I2.kIn hl) r2 hq) fun r s' bU=>?_))
 cases r with
 | error e=>exact hx pins σ _ _ e s' I2 bU
 | ok fl=>
  cases fl with
  | ret u=>
   obtain ⟨v,H',I3,rv,ev,q3⟩:=I2.after bU;subst ev;exact ⟨rv,⟨V.ref (s.heap.objs.size+1),H',I3,rfl,q3⟩⟩
  | next=>exact False.elim bU
  | brk=>exact False.elim bU
  | cont=>exact False.elim bU
theorem anW(M:Mk X.K C f)(F:FnOk X.prog X.w X.K X.mg X.base CX k f fd ps sp)(hr:Room (k+1) X.A)(hg:Gl X x)(hm:X.mg x=some (.ref C))(hb:Binds X.K fd ps ds)(hd:Vals dvs ds)(hx:fL CX X E)(ha:PA X (e::es) t)(T8:(x==("__debug__" : Str))=false:=by decide)(he:starEach (e::es) X.env=(false,eval e X.env)::starEach es X.env:=by rfl)(M8:(backTo pos (starEach es X.env)).any (·.1)=false:=by rfl) :
  PE X (.Call (.Name x p) (e::es) [] pos) (tMake C sp dvs E t):=by
 intro pins s σ H Q I h;refine wpAny_Call_Name_kw (uD I hg hm ?_ T8);refine PySem.W.callWith_K (h₀:=X.base) I.ok.mod.kin M.kp (B5 (ha pos pins s σ H _ I h) fun us s1 ⟨vs,H1,I1,r,q⟩=>⟨I1.kIn,?_⟩) he M8;exact alZ M F hr hb hd hx I1 r q
end
noncomputable def PK (X:Cx) (kws:List Keyword) (t:TA):Prop:=
 ∀ (pos:Pos) (pins:List (Addr×Obj)) (s:Shared) (σ:St) (H:Hp) (Q:List V->Hp->Prop),Inv X pins σ H s->t σ H Q->wpAny (model X.prog X.w) X.A (evalAll ((backToKw pos (keywordEach kws X.env)).map (·.2))) (AP X pins σ Q) X.xe s
section
variable {X:Cx} {CX:i6} {k:Nat} {f C:Addr} {fd:FuncData} {ps ks:List Str} {sp:Sp} {E:XK} {x m:Str} {p pos apos kpos:Pos} {e o:Expr} {es:List Expr} {kws:List Keyword} {te ta:TE} {t tk:TA} {nm:Option Str}
theorem aqJ:PK X [] tNil:=fun _ _ _ _ H Q I h=>wpAny_evalAll_nil ⟨[],H,I,.nil,h⟩
theorem anX(ha:PE X e te)(hr:PK X kws t):PK X (⟨nm,e,kpos⟩::kws) (tCons te t):=by
 intro pos pins s σ H Q I h;show wpAny _ _ (evalAll ((do let v <- eval e X.env;standAt pos;pure v)::(backToKw pos (keywordEach kws X.env)).map (·.2))) _ _ s;refine wpAny_evalAll_cons (wpAny_bind (B5 (ha pins s σ H _ I h) fun u s1 ⟨x,H1,I1,r1,q1⟩=>wpAny_bind (wpAny_standAt (wpAny_pure ?_))));exact B5 (hr pos pins s1 σ H1 _ I1 q1) fun us s2 ⟨xs,H2,I2,r2,q2⟩=>⟨x::xs,H2,I2,.cons r1 r2,q2⟩
variable {g:List Value->List Value->List Value} {gV:List V->List V->List V}
end
structure FnScope(N P:List Str)(sc:Scope):Prop where
 kind:sc.kind=.function
 co:sc.isCoroutine=false
 gen:sc.isGenerator=false
 nd:N.Nodup
 pre:N.take P.length=P
 par:∀ x∈P,sc.names.lookup x=some .local\/sc.names.lookup x=some .cell
 nofree:∀ y∈sc.names,y.2≠.free
theorem agw{kindOf:Str->Option NameKind}{x:Str} : ∀ {binds:List (Str×Value)} {m:Str->Option Value},(∀ v,(x,v)∉binds)->bindL kindOf binds m x=m x
 | [],_,_=>rfl
 | (n,v)::r,m,h=>by
  unfold bindL;rw [agw fun w hw=>h w (M3 _ hw)]
  split
  ·have:x≠n:=by rintro rfl;exact h v M4
   simp [this]
  ·rfl
theorem agx{kindOf:Str->Option NameKind}{x:Str} : ∀ {binds:List (Str×Value)} {m:Str->Option Value},(∀ v,(x,v)∉binds)->bindC kindOf binds m x=m x
 | [],_,_=>rfl
 | (n,v)::r,m,h=>by
  unfold bindC;rw [agx fun w hw=>h w (M3 _ hw)]
  split
  ·rfl
  ·have:x≠n:=by rintro rfl;exact h v M4
   simp [this]
theorem agy{kindOf:Str->Option NameKind}{x:Str}{v:Value} : ∀ {P:List Str} {vs:List Value} {i:Nat} {m:Str->Option Value},P.Nodup->P[i]?=some x->vs[i]?=some v->kindOf x=some .local->
  bindL kindOf (P.zip vs) m x=some v
 | [],_,_,_,_,h,_,_=>by simp at h
 | _::_,[],_,_,_,_,h,_=>by simp at h
 | p::P,w::vs,0,m,nd,h1,h2,hk=>by
  simp at h1 h2;subst h1;subst h2;show bindL kindOf ((p,w)::P.zip vs) m p=_;unfold bindL;rw [agw fun v hv=>(U8.mp nd).1 (List.of_mem_zip hv).1,if_pos hk]
  simp
 | p::P,w::vs,i+1,m,nd,h1,h2,hk=>by
  show bindL kindOf ((p,w)::P.zip vs) m x=_;unfold bindL;exact agy (i:=i) (U8.mp nd).2 (by simpa using h1) (by simpa using h2) hk
theorem agz{kindOf:Str->Option NameKind}{x:Str}{v:Value} : ∀ {P:List Str} {vs:List Value} {i:Nat} {m:Str->Option Value},P.Nodup->P[i]?=some x->vs[i]?=some v->kindOf x≠some .local->
  bindC kindOf (P.zip vs) m x=some v
 | [],_,_,_,_,h,_,_=>by simp at h
 | _::_,[],_,_,_,_,h,_=>by simp at h
 | p::P,w::vs,0,m,nd,h1,h2,hk=>by
  simp at h1 h2;subst h1;subst h2;show bindC kindOf ((p,w)::P.zip vs) m p=_;unfold bindC;rw [agx fun v hv=>(U8.mp nd).1 (List.of_mem_zip hv).1,if_neg hk]
  simp
 | p::P,w::vs,i+1,m,nd,h1,h2,hk=>by
  show bindC kindOf ((p,w)::P.zip vs) m x=_;unfold bindC;exact agz (i:=i) (U8.mp nd).2 (by simpa using h1) (by simpa using h2) hk
noncomputable def start (N:List Str) (vs:List V):St:=vs.map some++X6 (N.length-vs.length) none
noncomputable def cxOf (CX:i6) (P:Program) (w:World) (K:PySem.W.Frag) (mg:Str->Option Value) (base:Heap) (N:List Str) (qual:Str) (scope:Scope) (f:Addr) (cd:Value) (A:Around) (outer:List Env) (s:Shared) (H:Hp) (E:XK):Cx where
 prog:=P
 w:=w
 K:=K
 mg:=mg
 base:=base
 A:=A.deeper (envOfC qual scope s.heap.objs.size f cd)
 N:=N
 s₀:=s
 H₀:=H
 env:=envOfC qual scope s.heap.objs.size f cd
 outer:=outer
 stack:=envOfC qual scope s.heap.objs.size f cd::outer
 ex:=[]
 calm:=true
 fn:=fun _=>true
 pn:=[]
 xe:=fun e s'=>wpAny (model P w) (A.deeper (envOfC qual scope s.heap.objs.size f cd)) (leaving (envOfC qual scope s.heap.objs.size f cd) e) (fun _ s''=>CX outer H s E e s'') (fun e' s''=>CX outer H s E e' s'') s'
theorem aiy{sc:Scope}{n:Nat}{x:Str}(h:sc.names.lookup x=some .cell):∃ c,(cellsFrom n sc.names []).lookup x=some c:=by
 have q:=PySem.W.cellsFrom_some sc.names n [] (.inl h);exact Option.isSome_iff_exists.mp q
theorem aki{CX:i6}{P:Program}{w:World}{K:PySem.W.Frag}{mg:Str->Option Value}{base:Heap}{N ps:List Str}{qual:Str}{scope:Scope}{f:Addr}{cd:Value}{A:Around}{outer:List Env}{s s1:Shared}{H:Hp}{E:XK}{us:List Value}{vs:List V}(S:FnScope N ps scope)(hd:A.handled=none)(e0:Env0 P w K mg base A outer s H)(hl:vs.length=ps.length)(r:Vals vs us)(x:InCallC s s.heap.objs.size (bindL (envOfC qual scope s.heap.objs.size f cd).kindOf (ps.zip us) fun _=>none) (cellsFrom (s.heap.objs.size+1) scope.names []) (bindC (envOfC qual scope s.heap.objs.size f cd).kindOf (ps.zip us) fun _=>none) s1) :
  Inv (cxOf CX P w K mg base N qual scope f cd A outer s H E) [] (start N vs) H s1:=by
 have M8:ps.length<=N.length:=by have:=congrArg i3 S.pre;rw [E7] at this;walk_at "o"
 obtain ⟨h1,tk,rfl,hk⟩:=x.done;have noA:∀ b:Addr,b∉(cxOf CX P w K mg base N qual scope f cd A outer s H E).ex:=fun b z=>absurd (show b∈([]:List Addr) from z) (by simp)
 refine ⟨⟨e0.mod,S.kind,rfl,rfl,C2 _,fun y z c h1 h2=>?_,fun y hy=>?_,fun y c _ h=>?_,fun _=>hd,Around.frames_deeper e0.frames,.inr ⟨rfl,rfl⟩,fun b z=>absurd z (noA b),e0.bs,e0.bsz,fun b _ _=>noA b,fun b z=>absurd z (noA b),e0.funs,e0.frf⟩,
  rfl,e0.bare,Un.kept hk,⟨_,x.toInCall.ns,fun i y v h1 h2 h3=>?_⟩,fun y c h=>⟨_,x.cell y c h⟩,e0.hok.fresh (C2 _),fun y c h=>?_,fun p hp=>absurd (show p∈([]:List (Addr×Obj)) from hp) (by simp),e0.hok.kept hk,?_⟩
 ·exact name_of_addr x.apart (PySem.mem_of_lookup h1) (PySem.mem_of_lookup h2)
 ·have hy:scope.names.lookup y=some .cell\/scope.names.lookup y=some .free:=hy
  rcases hy with hy | hy
  ·exact aiy hy
  ·exact absurd rfl (S.nofree _ (PySem.mem_of_lookup hy))
 ·exact Nat.le_of_lt (x.above y c (PySem.mem_of_lookup h))
 ·have hi:i<vs.length:=by
   unfold start at h2
   by_cases hi:i<vs.length
   ·exact hi
   ·rw [eW (by simpa using hi)] at h2;rw [List.getElem?_replicate] at h2
    split at h2 <;> cases h2
  have ha:vs[i]?=some v:=by
   unfold start at h2;rw [iL (by simpa using hi),V7] at h2;cases e:vs[i]? with
   | none=>rw [e] at h2;cases h2
   | some a=>rw [e] at h2;cases h2;rfl
  obtain ⟨u,hu,rv⟩:=r.get ha;have hp:ps[i]?=some y:=by
   rw [<- S.pre,eY (by walk_at "o")];exact h1
  have ndP:ps.Nodup:=by rw [<- S.pre];exact S.nd.sublist (List.take_sublist _ _)
  refine ⟨u,rv,?_⟩
  rcases S.par y (M9 hp) with k | k
  ·exact .inl ⟨k,agy ndP hp hu k⟩
  ·obtain ⟨c,e⟩:=aiy (n:=s.heap.objs.size+1) k;refine .inr ⟨.inl k,c,e,?_⟩;have q:=x.cell y c e;rw [agz ndP hp hu (by show scope.names.lookup y≠_;rw [k];decide)] at q;exact q
 ·exact e0.hok.fresh (Nat.le_of_lt (x.above y c (PySem.mem_of_lookup h)))
 ·unfold start;show _=N.length;rw [C5,A6,List.length_replicate];walk_at "o"
theorem fn_of{CX:i6}{P:Program}{w:World}{K:PySem.W.Frag}{mg:Str->Option Value}{base:Heap}{k:Nat}{f:Addr}{name qual:Str}{params:Arguments}{body:List Stmt}{scope:Scope}{dV kV doc pm cdv ct oc:Value}{an od:Option Addr}{osl:Array (Option Value)}{N ps:List Str}{sp:Sp}(lk:K.lookup f=some ⟨oc,od,.func (U3 name qual params body scope dV kV doc pm an cdv ct),osl⟩)(T6:X8 K cdv qual=true)(S:FnScope N ps scope)(len:∀ vs H Q E,sp vs H Q E->vs.length=ps.length)(v9:∀ (A:Around) (outer:List Env) (s:Shared) (H:Hp) (vs:List V) (Q:VK) (E:XK),Room k (A.deeper (envOfC qual scope s.heap.objs.size f cdv))->sp vs H Q E->
   ∃ t,Z0 (cxOf CX P w K mg base N qual scope f cdv A outer s H E) body t/\t { nx:=fun _ H'=>Q .non H',rt:=Q } (start N vs) H) :
  FnOk P w K mg base CX (k+1) f (U3 name qual params body scope dV kV doc pm an cdv ct) ps sp:=by
 refine ⟨len,fun A outer s H args us vs Q E hr e0 hb r eC=>?_⟩;have hl:=len _ _ _ _ eC;have KX:K.In s.heap:=e0.mod.kin.keeps fun b o e=>(e0.bs b o e).1
 have lim:s.heap.NoLimit:=e0.mod.nolimit.keeps fun b o e=>(e0.bs b o e).1
 have oH:∀ y∈ps.zip us,scope.names.lookup y.1=some .local\/(scope.names.lookup y.1=some .cell/\((cellsFrom (s.heap.objs.size+1) scope.names []).lookup y.1).isSome=true):=fun ⟨n,v⟩ hy=>by
  rcases S.par n (List.of_mem_zip hy).1 with q | q
  ·exact .inl q
  ·exact .inr ⟨q,PySem.W.cellsFrom_some _ _ _ (.inl q)⟩
 refine codeAny_call_function hr.depth (KX _ _ lk) rfl S.co S.gen rfl (PySem.W.codeRec_of KX T6) (hb _ _ _ _ ?_);refine wpAny_newFunctionEnv_cells S.kind oH fun env he s1 x=>?_
 subst he;refine ⟨lim.keeps x.toInCall.keep,codeAny_func ?_⟩;obtain ⟨t,ht,hq⟩:=v9 A outer s H vs Q E (hr.deeper _) eC;have I:Inv (cxOf CX P w K mg base N qual scope f cdv A outer s H E) [] (start N vs) H s1:=aki S hr.hd e0 hl r x;refine wpAny_mono (ht [] s1 (start N vs) H _ I hq) (fun fl s' hs=>?_) fun e s' hs=>hs
 have fin:∀ {σ':St} {H':Hp} {v:V} {u:Value},Inv (cxOf CX P w K mg base N qual scope f cdv A outer s H E) [] σ' H' s'->RelV v u->Q v H'->CE outer P w H s Q u s':=
  fun {σ' H' v u} J rv q=>⟨v,H',J.os,J.bare,J.base,J.hok,rv,q⟩
 cases fl with
 | ret u=>
  obtain ⟨v,σ',H',J,rv,q⟩:=hs;exact fin J rv q
 | next=>
  obtain ⟨σ',H',J,q⟩:=hs;exact fin (v:=V.non) (u:=Value.none) J rfl q
 | brk=>
  obtain ⟨_,_,_,q⟩:=hs;exact False.elim q
 | cont=>
  obtain ⟨_,_,_,q⟩:=hs;exact False.elim q
end L2
section
variable {C a b f fa it r sl:PySem.Addr}{dvs vs xs ys:List L2.V}{Q:L2.VK}{cd ct oc pm u v vl vu:PySem.Value}{ck i j k m n t' x1:Nat}{items items2:Array PySem.Value}{fr ns:List Int}{its its' us:List PySem.Value}{pins:List (PySem.Addr×PySem.Obj)}{σ:L2.St}{H H' H0 H1 H2 H3 H₃:L2.Hp}{s s₃:PySem.Shared}{name p q qual z z':PySem.Str}{A:PySem.Around}{v' x y:L2.V}{h h':PySem.Heap}{L M N N' acc bad g' ks line loose ls ms ps qs ts zs:List PySem.Str}{K:PySem.W.Frag}{mg:PySem.Str->Option PySem.Value}{fd:PySem.FuncData}{sp:L2.Sp}{X:L2.Cx}{kvs:List (L2.C6×L2.V)}{prog:PySem.Program}{E:PySem.Value->PySem.Shared->Prop}{ixs pre:List Nat}{e elt iter target tg:PySem.Expr}{elts ifs:List PySem.Expr}{g:L2.TG}{c:L2.TT}{td te ti tl to tx ty:L2.TE}{fp l₁ rs:List PySem.Addr}{apos cpos kpos p2 spos tpos:PySem.Pos}{calm fg neg:Bool}{st:PySem.Stmt}{an od:Option PySem.Addr}{tb:L2.TS}{D:L2.Ends}{lo:Int}{o:PySem.Obj}{ta:L2.TA}{ss:Array (Option PySem.Value)}
namespace L2
open PySem PySem.Spec PyProof.Rows
section
variable {X:Cx} {x:Str} {p pos:Pos} {e:Expr} {es:List Expr} {t:TA} {id T:String} {r:List V->Hp->VK->Prop}
noncomputable def fM (r:List V->Hp->VK->Prop) (t:TA):TE:=fun σ H Q=>t σ H fun vs H1=>r vs H1 Q
theorem al0(hc:CallR X (.builtin id) r)(hg:Gl X x)(hm:X.mg x=none)(hv:bootBuiltins x=some (.builtin id))(ha:PA X (e::es) t)(hn:x≠"__name__":=by decide)(T8:(x==("__debug__" : Str))=false:=by decide)(he:starEach (e::es) X.env=(false,eval e X.env)::starEach es X.env:=by rfl)(M8:(backTo pos (starEach es X.env)).any (·.1)=false:=by rfl):PE X (.Call (.Name x p) (e::es) [] pos) (fM r t):=by
 intro pins s σ H Q I h;refine wpAny_Call_Name_kw (fJ I hg hm hv ?_ hn T8);exact PyProof.Rows.callWith_builtin1 (B5 (ha pos pins s σ H _ I h) fun us s1 ⟨vs,H1,I1,r1,q1⟩=>hc pins s1 σ H1 vs us Q I1 r1 q1) he M8
theorem akj(hc:CallR X (.type T) r)(hg:Gl X x)(hm:X.mg x=none)(hv:bootBuiltins x=some (.type T))(ha:PA X (e::es) t)(hn:x≠"__name__":=by decide)(T8:(x==("__debug__" : Str))=false:=by decide)(he:starEach (e::es) X.env=(false,eval e X.env)::starEach es X.env:=by rfl)(M8:(backTo pos (starEach es X.env)).any (·.1)=false:=by rfl):PE X (.Call (.Name x p) (e::es) [] pos) (fM r t):=by
 intro pins s σ H Q I h;refine wpAny_Call_Name_kw (fJ I hg hm hv ?_ hn T8);exact PyProof.Rows.callWith_type1 (B5 (ha pos pins s σ H _ I h) fun us s1 ⟨vs,H1,I1,r1,q1⟩=>hc pins s1 σ H1 vs us Q I1 r1 q1) he M8
end
end L2
namespace HT
open PySem PyProof.Rows
section
open PySem.SeqAt
open PySem.AutoSeq1 (wpAny_loadPart')
open PySem.MeetsSeq PySem.MeetsSeq2 PySem.MeetsSeq3
end
section
variable {prog:Program} {w:World} {A:Around} {E:Value->Shared->Prop} {s:Shared}
theorem cat_tup{t:Addr}{vs ws:List Value}{Q:Value->Shared->Prop}(ht:IsTup s.heap t vs.toArray)(hb:IsTup s.heap b ws.toArray)(hv:vs≠[])(h1:ws=[]->Q (.ref t) s)(h2:ws≠[]->Q (.ref s.heap.objs.size) { s with heap:=s.heap.push { cls:=.type "tuple",data:=.seq (vs++ws).toArray } })(hsz:vs.length+ws.length<=sizeLine):wpAny (model prog w) A (binaryOp .Add (.ref t) (.ref b)) Q E s:=by
 obtain ⟨⟨cls,dd,data,sl⟩,ho,hc,n,hd⟩:=id ht;obtain ⟨⟨cls2,j8,data2,Y0⟩,aM,Y5,n2,R5⟩:=id hb;simp only at hc hd Y5 R5;subst hc hd Y5 R5;have e:vs.toArray++ws.toArray=(vs++ws).toArray:=by simp
 by_cases hw:ws=[]
 ·exact concat_meets ⟨_,ho,rfl⟩ ⟨_,aM,rfl⟩ noFill_tuple_add seq_tuple_add PySem.F.slot_tuple_add PySem.F.entry_tuple_add (PySem.F.args_tuple_add_2 _ _)
   (tuple_addW1 t b vs.toArray ws.toArray n n2 dd j8 sl Y0 (by simpa using hv) (by simp [hw])) ⟨ho,aM,h1 hw⟩
 ·refine concat_meets ⟨_,ho,rfl⟩ ⟨_,aM,rfl⟩ noFill_tuple_add seq_tuple_add PySem.F.slot_tuple_add PySem.F.entry_tuple_add (PySem.F.args_tuple_add_2 _ _)
   (tuple_addW2 t b vs.toArray ws.toArray n n2 dd j8 sl Y0 (by simpa using hv) (by simpa using hw) (by rw [L5,L5];exact hsz)) ⟨ho,aM,?_⟩
  rw [e];exact h2 hw
noncomputable def sIx (n d:Nat):Option Int->Nat
 | none=>d
 | some v=>if v<0 then (v+(n:Int)).toNat else min v.toNat n
theorem sIx_nat(n d k:Nat):sIx n d (some (k:Int))=min k n:=by
 show (if (k:Int)<0 then ((k:Int)+(n:Int)).toNat else min (k:Int).toNat n)=min k n;rw [if_neg (by walk_at "o"),Int.toNat_natCast]
theorem sIx_le(n d:Nat)(hd:d<=n)(o:Option Int):sIx n d o<=n:=by
 cases o with
 | none=>exact hd
 | some v=>
  show (if v<0 then (v+(n:Int)).toNat else min v.toNat n)<=n
  by_cases hv:v<0
  ·rw [if_pos hv];walk_at "o"
  ·rw [if_neg hv];exact Nat.min_le_right _ _
theorem clip_eq(v:Int)(n d:Nat):(if v<0 then max (v+(n:Int)) 0 else min v (n:Int))=((sIx n d (some v):Nat):Int):=by
 show (if v<0 then max (v+(n:Int)) 0 else min v (n:Int))=(((if v<0 then (v+(n:Int)).toNat else min v.toNat n):Nat):Int)
 by_cases hv:v<0
 ·simp only [if_pos hv];walk_at "o"
 ·simp only [if_neg hv];walk_at "o"
theorem ajm(lo hi:Option Int)(n:Nat):Builtin.Slice.sliceAdjust lo hi 1 (n:Int)=(((sIx n 0 lo:Nat):Int),((sIx n n hi:Nat):Int)):=by
 have h1:¬ ((1:Int)<0):=by walk_at "o"
 unfold Builtin.Slice.sliceAdjust;simp only [h1,if_false];refine Prod.ext ?_ ?_
 ·cases lo with
  | none=>rfl
  | some v=>exact clip_eq v n 0
 ·cases hi with
  | none=>rfl
  | some v=>exact clip_eq v n n
theorem ajn(i j:Nat):Builtin.Slice.slicePlaces (i:Int) (j:Int) 1=j-i:=by
 unfold Builtin.Slice.slicePlaces;have h1:(1:Int) > 0:=by walk_at "o"
 simp only [h1,if_true,Int.ediv_one]
 split <;> walk_at "o"
theorem afC{o:Option Int}{Q:Option Int->Shared->Prop}(p:IsPart v o)(h:Q o s):wpAny (model prog w) A (Builtin.Slice.slicePartIndex v) Q E s:=by
 cases p with
 | none=>exact slicePart_none h
 | int i t=>exact slicePart_int h
theorem sliceApplied_gen{lo hi:Option Int}{Q:Int×Int×Nat->Shared->Prop}(hs:s.heap.IsSliceOf sl vl vu .none)(pl:IsPart vl lo)(pu:IsPart vu hi)(h:Q (((sIx n 0 lo:Nat):Int),1,sIx n n hi-sIx n 0 lo) s):wpAny (model prog w) A (Builtin.Slice.sliceApplied (.ref sl) (pure (n:Int))) Q E s:=by
 obtain ⟨os,aN,tG,oI⟩:=id hs;unfold Builtin.Slice.sliceApplied Builtin.Slice.sliceFields;refine wpAny_bind (wpAny_bind (wpAny_field aN oI (x:=vl) rfl (wpAny_bind (wpAny_field aN oI (x:=vu) rfl (wpAny_bind (wpAny_field aN oI (x:=.none) rfl (wpAny_pure ?_)))))));refine wpAny_bind (slicePart_none ?_);show wpAny _ _ (if ((1:Int)==0)=true then _ else _) _ _ s;rw [if_neg (by decide)];refine wpAny_bind (afC pl (wpAny_bind (afC pu (wpAny_bind (wpAny_pure ?_)))));show wpAny _ _ (match Builtin.Slice.sliceAdjust lo hi 1 (n:Int) with | (lo,hi)=>pure (lo,(1:Int),Builtin.Slice.slicePlaces lo hi 1)) _ _ s;rw [ajm lo hi n];show wpAny _ _ (pure (((sIx n 0 lo:Nat):Int),(1:Int),Builtin.Slice.slicePlaces ((sIx n 0 lo:Nat):Int) ((sIx n n hi:Nat):Int) 1)) _ _ s;rw [ajn];exact wpAny_pure h
theorem al1(xs:Array Value)(i k:Nat):((List.range k).filterMap fun (m:Nat)=>xs[((i:Int)+(m:Int)*1).toNat]?).toArray=((xs.toList.drop i).take k).toArray:=by
 have e:(fun (m:Nat)=>xs[((i:Int)+(m:Int)*1).toNat]?)=fun m=>xs[i+m]?:=by
  funext m
  have:((i:Int)+(m:Int)*1).toNat=i+m:=by walk_at "o"
  rw [this]
 rw [e]
 have:=pick_run xs i k
 rw [List.filterMap_map] at this;have e2:((fun x=>xs[x]?)∘fun x=>i+x)=fun m=>xs[i+m]?:=rfl
 rw [e2] at this;rw [this]
theorem getItem_tuple_cut{t:Addr}{lo hi:Option Int}{Q:Value->Shared->Prop}(ht:IsTup s.heap t items)(hs:s.heap.IsSliceOf sl vl vu .none)(pl:IsPart vl lo)(pu:IsPart vu hi)(hw:¬ (sIx items.size 0 lo=0/\sIx items.size items.size hi=items.size))(h:Q (.ref s.heap.objs.size) { s with heap:=s.heap.push { cls:=.type "tuple",data:=.seq ((items.toList.drop (sIx items.size 0 lo)).take (sIx items.size items.size hi-sIx items.size 0 lo)).toArray } })(hsz:items.size<=sizeLine):wpAny (model prog w) A (getItem (.ref t) (.ref sl)) Q E s:=by
 have g0:sizeOk (.seq ((items.toList.drop (sIx items.size 0 lo)).take (sIx items.size items.size hi-sIx items.size 0 lo)).toArray):=by
  show ((items.toList.drop (sIx items.size 0 lo)).take (sIx items.size items.size hi-sIx items.size 0 lo)).toArray.size<=sizeLine;rw [L5,E7,W2,fI];walk_at "o"
 have hj:sIx items.size items.size hi<=items.size:=sIx_le _ _ (C2 _) hi;obtain ⟨os,aN,tG,oI⟩:=id hs;have hTs:s.TypeIs (.ref sl) "slice":=⟨os,aN,tG⟩
 unfold getItem
 try with_reducible refine wpAny_holding ?_
 first | refine wpAny_bind (wpAny_pure ?_) | skip
 refine wpAny_bind (wpAny_sequenceKey ht.typeIs (by decide) ?_);refine wpAny_bind (wpAny_callSpecial?_slot (name:=Str.ofString "__getitem__") ht.typeIs PyProof.Rows.slot_tuple_getitem
  (wpAny_call_entry PyProof.Rows.slot_tuple_getitem ht.typeIs entry_tuple_getitem ?_ (args_tuple_getitem _ _)))
 show wpAny _ _ (Builtin.Tuple.tupleItemsOf (.ref t) >>= _) _ _ s;refine wpAny_bind (tupleItemsOf_ ht ?_);refine wpAny_bind (wpAny_typeOf hTs ?_);rw [if_pos (by decide)];refine wpAny_bind (sliceApplied_gen hs pl pu ?_);have oJ:¬ ((((sIx items.size 0 lo:Nat):Int)==0&&(1:Int)==1&&(sIx items.size items.size hi-sIx items.size 0 lo)==items.size)=true):=by
  intro q;rw [T4,T4] at q;have q1:((sIx items.size 0 lo:Nat):Int)=0:=eq_of_beq q.1.1;have q2:sIx items.size items.size hi-sIx items.size 0 lo=items.size:=eq_of_beq q.2;exact hw ⟨by walk_at "o",by walk_at "o"⟩
 show wpAny _ _ (if (((sIx items.size 0 lo:Nat):Int)==0&&(1:Int)==1&&(sIx items.size items.size hi-sIx items.size 0 lo)==items.size)=true then _ else _) _ _ s;rw [if_neg oJ,al1]
 first
  | exact wpAny_bind (m:=Builtin.Tuple.tupleExact _) (wpAny_newObj_type (wpAny_pure ⟨_,rfl,wpAny_pure h⟩) g0)
  | exact wpAny_bind (m:=Builtin.Tuple.tupleExact _) (wpAny_newObj_type (wpAny_bind (wpAny_pure (wpAny_pure ⟨_,rfl,wpAny_pure h⟩))) g0)
  | exact wpAny_bind (wpAny_bind (m:=Builtin.Tuple.tupleExact _) (wpAny_newObj_type (wpAny_pure (wpAny_pure ⟨_,rfl,wpAny_pure h⟩)) g0))
  | exact wpAny_bind (wpAny_bind (m:=Builtin.Tuple.tupleExact _) (wpAny_newObj_type (wpAny_pure ⟨_,rfl,wpAny_pure h⟩) g0))
end
end HT
namespace L2
open PySem PySem.Spec PyProof.Rows
noncomputable abbrev TO:=St->Hp->(Option Int->Hp->Prop)->Prop
noncomputable def PO (X:Cx) (e:Option Expr) (t:TO):Prop:=
 ∀ (pins:List (Addr×Obj)) (s:Shared) (σ:St) (H:Hp) (Q:Option Int->Hp->Prop),Inv X pins σ H s->t σ H Q->
  wpAny (model X.prog X.w) X.A (evalPart e X.env) (fun u s'=>∃ o H',Inv X pins σ H' s'/\IsPart u o/\Q o H') X.xe s
noncomputable def uR:TO:=fun _ H Q=>Q none H
noncomputable def tPart (t:TE):TO:=fun σ H Q=>t σ H fun x H1=>∃ i,x=.int i/\Q (some i) H1
theorem qT : ∀ {us:List Value},Vals (ns.map V.int) us->IntsAre us ns:=by
 induction ns with
 | nil=>intro us r;rw [List.map_nil] at r;cases r;exact .nil
 | cons n ns ih=>
  intro us r;rw [K4] at r
  cases r with
  | cons r1 r2=>
   obtain ⟨t,e⟩:=r1;subst e;exact .cons n t (ih r2)
section
variable {X:Cx} {e:Expr} {te:TE} {lo hi:Option Expr} {tl th:TO} {pos p2:Pos}
theorem anY:PO X none uR:=by
 intro pins s σ H Q I h;rw [evalPart_none];exact wpAny_pure ⟨none,H,I,.none,h⟩
theorem anZ(h:PE X e te):PO X (some e) (tPart te):=by
 intro pins s σ H Q I hw;rw [evalPart_some];refine B5 (h pins s σ H _ I hw) fun u s1 ⟨x,H1,I1,r1,q1⟩=>?_
 obtain ⟨i,rfl,q⟩:=q1;obtain ⟨t,rfl⟩:=r1;exact ⟨some i,H1,I1,.int i t,q⟩
noncomputable def jA (X:Cx) (r:V->Option Int->Option Int->Hp->VK->Prop):Prop:=
 ∀ (pins:List (Addr×Obj)) (s:Shared) (σ:St) (H:Hp) (x:V) (v vl vu:Value) (lo hi:Option Int) (sl:Addr) (Q:VK),Inv X pins σ H s->RelV x v->s.heap.IsSliceOf sl vl vu .none->IsPart vl lo->IsPart vu hi->r x lo hi H Q->
  ∃ T id,typeLookup (.type T) "__getitem__"=pure (some (.builtin id))/\s.TypeIs v T/\wpAny (model X.prog X.w) X.A (getItem v (.ref sl)) (EP X pins σ Q) X.xe s
noncomputable def uS (r:V->Option Int->Option Int->Hp->VK->Prop) (te:TE) (tl th:TO):TE:=fun σ H Q=>te σ H fun x H1=>tl σ H1 fun l H2=>th σ H2 fun u H3=>r x l u H3 Q
theorem al2{r:V->Option Int->Option Int->Hp->VK->Prop}(hr:jA X r)(he:PE X e te)(hl:PO X lo tl)(hu:PO X hi th):PE X (.Subscript e (.Slice lo hi none p2) pos) (uS r te tl th):=by
 intro pins s σ H Q I h;refine Subscript_ (B5 (he pins s σ H _ I h) fun v s1 ⟨x,H1,I1,r1,q1⟩=>?_);refine wpAny_Slice (B5 (hl pins s1 σ H1 _ I1 q1) fun vl s2 ⟨l,H2,I2,pl,q2⟩=>B5 (hu pins s2 σ H2 _ I2 q2) fun vu s3 ⟨u,H3,I3,pu,q3⟩=>?_);rw [evalPart_none];refine wpAny_pure ?_;have I4:Inv X pins σ H3 { s3 with heap:=s3.heap.push { cls:=.type "slice",data:=.fields #[vl,vu,.none] } }:=I3.kept (t':=s3.toks) fun b ob q=>Heap.get?_push_of_some _ q
 obtain ⟨T,id,hT,ht,hg⟩:=hr pins { s3 with heap:=s3.heap.push { cls:=.type "slice",data:=.fields #[vl,vu,.none] } } σ H3 x v vl vu l u s3.heap.objs.size Q I4 r1 (Heap.IsSliceOf.new ..) pl pu q3;show wpAny (model X.prog X.w) X.A (subscriptTail e (.Slice lo hi none p2) v (.ref s3.heap.objs.size)) (EP X pins σ Q) X.xe { s3 with heap:=s3.heap.push { cls:=.type "slice",data:=.fields #[vl,vu,.none] } };exact tail_any (ops:=[.ref s3.heap.objs.size,v]) ht hT hg (by with_unfolding_all rfl)
noncomputable def cutV (xs:List V) (lo hi:Option Int):List V:=(xs.drop (HT.sIx xs.length 0 lo)).take (HT.sIx xs.length xs.length hi-HT.sIx xs.length 0 lo)
theorem aeJ(xs:List V)(lo hi:Option Int):(cutV xs lo hi).length<=xs.length:=by
 unfold cutV;rw [E7,W2];walk_at "o"
noncomputable def rSlT (K:PySem.W.Frag):V->Option Int->Option Int->Hp->VK->Prop:=fun x lo hi H Q=>∃ a xs,x=.ref a/\C7 K H a xs/\
 ¬ (HT.sIx xs.length 0 lo=0/\HT.sIx xs.length xs.length hi=xs.length)/\∀ p,H p=none->Q (.ref p) (A0 H p (.tup (cutV xs lo hi)))
theorem aqK:jA X (rSlT X.K):=by
 intro pins s σ H x v vl vu lo hi sl Q I rx hs pl pu h;obtain ⟨a,xs,rfl,hx,hw,q⟩:=h
 cases rx
 obtain ⟨its,r,ht,hz⟩:=I.tuple hx;have A9:its.toArray.size=xs.length:=by rw [L5];exact r.length.symm
 refine ⟨"tuple",_,PyProof.Rows.slot_tuple_getitem.lookup,ht.typeIs,?_⟩;refine HT.getItem_tuple_cut ht hs pl pu (by rw [A9];exact hw) ?_ (by rw [A9];exact hz);rw [A9];refine ⟨.ref s.heap.objs.size,_,I.laid (t':=s.toks) (o:=.tup (cutV xs lo hi)) (fun b ob q=>Heap.get?_push_of_some _ q) (C2 _) ?_,rfl,q _ (I.hok.fresh (C2 _))⟩;exact ⟨L3 (aeJ xs lo hi) hz,_,(r.drop (HT.sIx xs.length 0 lo)).take (HT.sIx xs.length xs.length hi-HT.sIx xs.length 0 lo),IsTup.new _ _⟩
noncomputable def rCatT (K:PySem.W.Frag):R2:=fun x y H Q=>∃ a b xs ys,x=.ref a/\y=.ref b/\C7 K H a xs/\C7 K H b ys/\xs≠[]/\xs.length+ys.length<=sizeLine/\
 (ys=[]->Q (.ref a) H)/\(ys≠[]->∀ p,H p=none->Q (.ref p) (A0 H p (.tup (xs++ys))))
theorem Vals.nil_iff(r:Vals xs us):us=[]↔xs=[]:=by
 cases r with
 | nil=>simp
 | cons _ _=>simp
theorem an0:K9 X (binaryOp .Add) (rCatT X.K):=by
 intro pins s σ H x y v u Q I rx ry h;obtain ⟨a,b,xs,ys,rfl,rfl,ha,hb,hx,hz,q1,q2⟩:=h
 cases rx
 cases ry
 obtain ⟨its,r1,p1,_⟩:=I.tuple ha;obtain ⟨its2,r2,p2,_⟩:=I.tuple hb;refine HT.cat_tup p1 p2 (fun z=>hx (r1.nil_iff.mp z)) (fun z=>⟨.ref a,H,I,rfl,q1 (r2.nil_iff.mp z)⟩) (fun z=>?_) (by rw [<- r1.length,<- r2.length];exact hz);refine ⟨.ref s.heap.objs.size,_,I.laid (t':=s.toks) (o:=.tup (xs++ys)) (fun b ob q=>Heap.get?_push_of_some _ q) (C2 _) ?_,rfl,q2 (fun w=>z (r2.nil_iff.mpr w)) _ (I.hok.fresh (C2 _))⟩;exact ⟨by rw [C5];exact hz,_,r1.append r2,IsTup.new _ _⟩
end
end L2
namespace L2
open PySem PySem.Spec PyProof.Rows
noncomputable def i7 (n:Nat) (i:Int):Option Nat:=if 0<=i then (if i<n then some i.toNat else none) else if -(n:Int)<=i then some (i+n).toNat else none
noncomputable def J8 {α:Type} (xs:List α) (i:Int):Option α:=(i7 xs.length i).bind fun j=>xs[j]?
theorem akk{i:Int}(h:i7 n i=some j):seqIndex? i n=some j/\j<n/\-(n:Int)<=i/\i<n:=by
 unfold i7 at h
 by_cases h0:0<=i
 ·rw [if_pos h0] at h
  by_cases h1:i<n
  ·rw [if_pos h1] at h;have e:i.toNat=j:=Option.some.inj h;exact ⟨by rw [seqIndex_of h0 h1,e],by walk_at "o",by walk_at "o",h1⟩
  ·rw [if_neg h1] at h;cases h
 ·rw [if_neg h0] at h
  by_cases h1:-(n:Int)<=i
  ·rw [if_pos h1] at h;have e:(i+n).toNat=j:=Option.some.inj h;exact ⟨by rw [seqIndex_neg (by walk_at "o") h1,e],by walk_at "o",h1,by walk_at "o"⟩
  ·rw [if_neg h1] at h;cases h
theorem uT{α:Type}{xs:List α}{i:Int}{v:α}(h:J8 xs i=some v):∃ j,seqIndex? i xs.length=some j/\xs[j]?=some v/\j<xs.length/\-(xs.length:Int)<=i/\i<xs.length:=by
 unfold J8 at h;cases e:i7 xs.length i with
 | none=>rw [e] at h;cases h
 | some j=>
  rw [e] at h;obtain ⟨h1,h2,h3,h4⟩:=akk e;exact ⟨j,h1,h,h2,h3,h4⟩
theorem O1{α:Type}{xs:List α}{v:α}(h:xs[j]?=some v):J8 xs (j:Int)=some v:=by
 have hj:j<xs.length:=(G1.mp h).1;have e:i7 xs.length (j:Int)=some j:=by
  unfold i7;rw [if_pos (by walk_at "o"),if_pos (by walk_at "o")];simp
 unfold J8;rw [e];exact h
theorem al3{α:Type}(xs:List α)(v:α):J8 (xs++[v]) (-1)=some v:=by
 have hl:(xs++[v]).length=xs.length+1:=by simp
 have e:i7 (xs++[v]).length (-1)=some xs.length:=by
  unfold i7;rw [hl,if_neg (by decide),if_pos (by walk_at "o")]
  congr 1
  walk_at "o"
 unfold J8;rw [e];show (xs++[v])[xs.length]?=some v
 simp
noncomputable def akl (b:Expr):Prop:=∀ o i,subscripted b false o i=operate [o,i] (getItem o i)
noncomputable def bA (X:Cx) (r:R2):Prop:=
 ∀ (value slice:Expr) (pins:List (Addr×Obj)) (s:Shared) (σ:St) (H:Hp) (x y:V) (v u:Value) (Q:VK),Inv X pins σ H s->RelV x v->RelV y u->r x y H Q->
  subscripted slice false v u=operate [v,u] (getItem v u)->wpAny (model X.prog X.w) X.A (subscriptTail value slice v u) (EP X pins σ Q) X.xe s
noncomputable def qU (X:Cx) (id:String) (r:V->List V->Hp->VK->Prop):Prop:=
 ∀ (pins:List (Addr×Obj)) (s:Shared) (σ:St) (H:Hp) (x:V) (xs:List V) (v:Value) (us:List Value) (Q:VK),Inv X pins σ H s->RelV x v->Vals xs us->r x xs H Q->
  wpAny (model X.prog X.w) X.A (call (.builtin id) (v::us)) (EP X pins σ Q) X.xe s
section
variable {X:Cx} {a b:Expr} {ta tb:TE} {pos:Pos}
theorem bA.or{r r':R2}(h:bA X r)(h':bA X r'):bA X (fun x y H Q=>r x y H Q\/r' x y H Q):=by
 intro value slice pins s σ H x y v u Q I rx ry q hs
 rcases q with q | q
 ·exact h value slice pins s σ H x y v u Q I rx ry q hs
 ·exact h' value slice pins s σ H x y v u Q I rx ry q hs
theorem pe_ix{r:R2}(hr:bA X r)(ha:PE X a ta)(hb:PE X b tb)(hs:akl b):PE X (.Subscript a b pos) (t6 r ta tb):=by
 intro pins s σ H Q I h;exact Subscript_ (binT ha hb I h fun v u s2 x y H2 I2 rx ry q=>hr a b pins s2 σ H2 x y v u Q I2 rx ry q (hs _ _))
noncomputable def rIxL (K:PySem.W.Frag):R2:=fun x y H Q=>∃ p xs i v,x=.ref p/\y=.int i/\E2 K H p xs/\J8 xs i=some v/\Q v H
noncomputable def rIxT (K:PySem.W.Frag):R2:=fun x y H Q=>∃ p xs i v,x=.ref p/\y=.int i/\C7 K H p xs/\J8 xs i=some v/\Q v H
noncomputable def rIxS:R2:=fun x y H Q=>∃ z i c,x=.str z/\y=.int i/\z.length<=sizeLine/\J8 z.cps.toList i=some c/\Q (.str ⟨#[c]⟩) H
theorem ix_list:bA X (rIxL X.K):=by
 intro value slice pins s σ H x y v u Q I rx ry h hs;obtain ⟨p,xs,i,z,rfl,rfl,hq,he,q⟩:=h
 cases rx
 obtain ⟨t,rfl⟩:=ry;obtain ⟨its,r,pl,hz⟩:=I.list hq;obtain ⟨j,h1,h2,h3,h4,h5⟩:=uT he;obtain ⟨w,ew,rw'⟩:=r.get h2;have hl:=r.length;have hn:=iZ;have fin:EP X pins σ Q w s:=⟨z,H,I,rw',q⟩
 by_cases h0:0<=i
 ·have hj:i.toNat=j:=by
   rw [seqIndex_of h0 h5] at h1;exact Option.some.inj h1
  exact item_listR pl.isList h0 (by walk_at "o") (by rw [hj];simpa using ew) fin hs
 ·have hj:(i+(its.toArray.size:Int)).toNat=j:=by
   rw [seqIndex_neg (by walk_at "o") h4] at h1;rw [L5,<- hl];exact Option.some.inj h1
  exact subscriptTail_builtinR (x:=w) pl.isList.typeIs slot_list_getitem.lookup
   (wpAny_getItem_list_neg (Q:=fun r s'=>r=w/\EP X pins σ Q r s') pl.isList (by walk_at "o") (by rw [L5] <;> walk_at "o") (by walk_at "o") (by rw [hj];simpa using ew) ⟨rfl,fin⟩) hs
theorem ix_tup:bA X (rIxT X.K):=by
 intro value slice pins s σ H x y v u Q I rx ry h hs;obtain ⟨p,xs,i,z,rfl,rfl,hq,he,q⟩:=h
 cases rx
 obtain ⟨t,rfl⟩:=ry;obtain ⟨its,r,pl,hz⟩:=I.tuple hq;obtain ⟨j,h1,h2,h3,h4,h5⟩:=uT he;obtain ⟨w,ew,rw'⟩:=r.get h2;have hl:=r.length;have hn:=iZ;have fin:EP X pins σ Q w s:=⟨z,H,I,rw',q⟩
 exact subscriptTail_builtinR (x:=w) pl.typeIs slot_tuple_getitem.lookup
  (getItem_tuple (j:=j) (Q:=fun r s'=>r=w/\EP X pins σ Q r s') pl (by walk_at "o") (by walk_at "o") (by rw [L5,<- hl];exact h1) (by simpa using ew) ⟨rfl,fin⟩) hs
theorem aqL:bA X rIxS:=by
 intro value slice pins s σ H x y v u Q I rx ry h hs;obtain ⟨z,i,c,rfl,rfl,hz,he,q⟩:=h;obtain ⟨t,rfl⟩:=rx;obtain ⟨t',rfl⟩:=ry;obtain ⟨j,h1,h2,h3,h4,h5⟩:=uT he;have hl:z.cps.toList.length=z.length:=by simp [Str.length]
 rw [hl] at h1 h4 h5;have hn:=iZ;exact tail_any (typeIs_str s z t) slot_str_getitem.lookup (getItem_str (c:=c) (by
  have e1:decide (i < -(2 ^ 63:Int))=false:=decide_eq_false (by walk_at "o");have e2:decide (i≥2 ^ 63)=false:=decide_eq_false (by walk_at "o");rw [e1,e2,Bool.or_false]) (by rw [h1];simpa using h2) ⟨.str ⟨#[c]⟩,H,I.tok _,⟨_,rfl⟩,q⟩) hs
noncomputable def fN (K:PySem.W.Frag):R2:=fun x y H Q=>rIxL K x y H Q\/rIxT K x y H Q\/rIxS x y H Q
theorem aqM:bA X (fN X.K):=ix_list.or (ix_tup.or aqL)
theorem ajo(its:List Value)(n j:Nat)(u:Value):Obj.mapSeq (·.setIfInBounds j u) { cls:=.type "list",data:=.seq its.toArray n }={ cls:=.type "list",data:=.seq (its.set j u).toArray n }:=by
 simp [Obj.mapSeq]
theorem Inv.lst{p:Addr}(I:Inv X pins σ H s)(h:H p=some (.lst xs)) :
  ∃ (its:List Value) (n:Nat),Vals xs its/\s.heap.get? p=some { cls:=.type "list",data:=.seq its.toArray n }/\xs.length<=sizeLine:=by
 obtain ⟨z,its,n,r,e⟩:=I.hok p _ h;exact ⟨its,n,r,e,z⟩
theorem Inv.lstUpd{p:Addr}{n':Nat}{f:Obj->Obj}(I:Inv X pins σ H s)(h:H p=some (.lst xs))(ho:s.heap.get? p=some { cls:=.type "list",data:=.seq its.toArray n })(hf:f { cls:=.type "list",data:=.seq its.toArray n }={ cls:=.type "list",data:=.seq its'.toArray n' })(r:Vals ys its')(hz:ys.length<=sizeLine)(t:Nat) :
  Inv X pins σ (A0 H p (.lst ys)) { s with heap:=s.heap.update p f,toks:=t }:=by
 have e:(s.heap.update p f).get? p=some { cls:=.type "list",data:=.seq its'.toArray n' }:=by
  rw [Heap.get?_update_self f ho (by rw [hf] <;> rfl),hf]
 refine I.write (x:=p) (e:=p) (by rw [h];trivial) (.inl rfl) (fun b u hb q=>(Heap.get?_update_other _ _ (Ne.symm hb)).trans q) ⟨_,e⟩ ?_;exact ⟨hz,its',n',r,e⟩
noncomputable def rSetL:V->V->V->Hp->(Hp->Prop)->Prop:=fun o i v H Q=>∃ p xs k j,o=.ref p/\i=.int k/\H p=some (.lst xs)/\i7 xs.length k=some j/\Q (A0 H p (.lst (xs.set j v)))
theorem al4:PSet X rSetL:=by
 intro pins s σ H o i v ov iv u Q I ro ri rv h;obtain ⟨p,xs,k,j,rfl,rfl,hp,hj,q⟩:=h
 cases ro
 obtain ⟨t,rfl⟩:=ri;obtain ⟨its,n,r,ho,hz⟩:=I.lst hp;obtain ⟨h1,h2,h3,h4⟩:=akk hj;have hl:=r.length;have hn:=iZ;have I':Inv X pins σ (A0 H p (.lst (xs.set j v))) { s with heap:=s.heap.update p (Obj.mapSeq (·.setIfInBounds j u)) }:=
  I.lstUpd hp ho (ajo its n j u) (r.set rv j) (by rw [List.length_set];exact hz) s.toks
 by_cases h0:0<=k
 ·have hk:k.toNat=j:=by
   rw [seqIndex_of h0 h4] at h1;exact Option.some.inj h1
  exact PySem.W.ki_setAt ho h0 (by walk_at "o") (by rw [L5,<- hl];exact h4) (by rw [hk];exact ⟨_,I',q⟩)
 ·have hk:(k+(its.toArray.size:Int)).toNat=j:=by
   rw [seqIndex_neg (by walk_at "o") h3] at h1;rw [L5,<- hl];exact Option.some.inj h1
  exact PySem.W.ki_setBack ho (by walk_at "o") (by rw [L5,<- hl];exact h3) (by walk_at "o") (by rw [hk];exact ⟨_,I',q⟩)
theorem agA(lo hi:Option Int)(n:Nat):(sliceBounds lo hi none n).1=((HT.sIx n 0 lo:Nat):Int)/\(sliceBounds lo hi none n).2.1=((HT.sIx n n hi:Nat):Int)/\(sliceBounds lo hi none n).2.2=1:=by
 refine ⟨?_,?_,rfl⟩
 ·cases lo with
  | none=>simp [sliceBounds,HT.sIx]
  | some i=>
   simp only [sliceBounds,HT.sIx,Option.getD_none,show (1:Int) > 0 by decide,if_true]
   by_cases h:i<0
   ·simp only [h,if_true] <;> walk_at "o"
   ·simp only [h,if_false] <;> walk_at "o"
 ·cases hi with
  | none=>simp [sliceBounds,HT.sIx]
  | some i=>
   simp only [sliceBounds,HT.sIx,Option.getD_none,show (1:Int) > 0 by decide,if_true]
   by_cases h:i<0
   ·simp only [h,if_true] <;> walk_at "o"
   ·simp only [h,if_false] <;> walk_at "o"
theorem af1(its:List Value)(lo hi:Option Int):slicePick its.toArray lo hi none=((its.drop (HT.sIx its.length 0 lo)).take (HT.sIx its.length its.length hi-HT.sIx its.length 0 lo)).toArray:=by
 obtain ⟨h1,h2,h3⟩:=agA lo hi its.toArray.size;unfold slicePick;rw [h1,h2,h3];simp only [sliceRange_one,pick_run,L5] <;> rfl
noncomputable def rSlL (K:PySem.W.Frag):V->Option Int->Option Int->Hp->VK->Prop:=fun x lo hi H Q=>∃ a xs,x=.ref a/\E2 K H a xs/\∀ p,H p=none->Q (.ref p) (A0 H p (.lst (cutV xs lo hi)))
theorem an1:jA X (rSlL X.K):=by
 intro pins s σ H x v vl vu lo hi sl Q I rx hs pl pu h;obtain ⟨a,xs,rfl,hx,q⟩:=h
 cases rx
 obtain ⟨its,r,ht,hz⟩:=I.list hx;have A9:=r.length;refine ⟨"list",_,slot_list_getitem.lookup,ht.isList.typeIs,?_⟩;refine wpAny_getItem_list_slice ht.isList hs pl pu .none (by simp) ?_ (by rw [L5] <;> walk_at "o");rw [af1,<- A9];refine ⟨.ref s.heap.objs.size,_,I.laid (t':=s.toks) (o:=.lst (cutV xs lo hi)) (fun b ob q=>Heap.get?_push_of_some _ q) (C2 _) ?_,rfl,q _ (I.hok.fresh (C2 _))⟩;exact ⟨L3 (aeJ xs lo hi) hz,_,0,(r.drop (HT.sIx xs.length 0 lo)).take (HT.sIx xs.length xs.length hi-HT.sIx xs.length 0 lo),Heap.get?_push_size _ rfl⟩
noncomputable def flatV:V->Bool
 | .non=>true
 | .bl _=>true
 | .int _=>true
 | .str _=>true
 | _=>false
noncomputable def dA:V->V->Bool
 | .non,.non=>true
 | .bl a,.bl b=>a==b
 | .bl a,.int b=>(if a then 1 else 0)==b
 | .int a,.bl b=>a==(if b then 1 else 0)
 | .int a,.int b=>a==b
 | .str a,.str b=>a==b
 | _,_=>false
theorem aqN(ry:RelV y u)(rx:RelV x v)(fy:flatV y=true)(fx:flatV x=true):SeqAt.EqAt A s u v (dA y x):=by
 cases y with
 | non=>
  cases ry
  cases x with
  | non=>cases rx;exact SeqAt.EqAt.same _
  | bl b=>cases rx;exact SeqAt.EqAt.none_bool b
  | int b=>obtain ⟨t,rfl⟩:=rx;exact SeqAt.EqAt.none_int b t
  | str b=>obtain ⟨t,rfl⟩:=rx;exact SeqAt.EqAt.none_str b t
  | _=>exact absurd (show false=true from fx) N2
 | bl a=>
  cases ry
  cases x with
  | non=>cases rx;exact SeqAt.EqAt.bool_none a
  | bl b=>cases rx;exact SeqAt.EqAt.bool_bool a b
  | int b=>obtain ⟨t,rfl⟩:=rx;exact SeqAt.EqAt.bool_int a b t
  | str b=>obtain ⟨t,rfl⟩:=rx;exact SeqAt.EqAt.bool_str a b t
  | _=>exact absurd (show false=true from fx) N2
 | int a=>
  obtain ⟨t',rfl⟩:=ry
  cases x with
  | non=>cases rx;exact SeqAt.EqAt.int_none a t'
  | bl b=>cases rx;exact SeqAt.EqAt.int_bool a t' b
  | int b=>obtain ⟨t,rfl⟩:=rx;exact SeqAt.EqAt.int_int a t' b t
  | str b=>obtain ⟨t,rfl⟩:=rx;exact SeqAt.EqAt.int_str a t' b t
  | _=>exact absurd (show false=true from fx) N2
 | str a=>
  obtain ⟨t',rfl⟩:=ry
  cases x with
  | non=>cases rx;exact SeqAt.EqAt.str_none a t'
  | bl b=>cases rx;exact SeqAt.EqAt.str_bool a t' b
  | int b=>obtain ⟨t,rfl⟩:=rx;exact SeqAt.EqAt.str_int a t' b t
  | str b=>obtain ⟨t,rfl⟩:=rx;exact SeqAt.EqAt.str_str a t' b t
  | _=>exact absurd (show false=true from fx) N2
 | _=>exact absurd (show false=true from fy) N2
noncomputable def Z1 (x:V) (u:Value):Bool:=match u with
 | .none=>dA .non x
 | .bool b=>dA (.bl b) x
 | .int i _=>dA (.int i) x
 | .str z _=>dA (.str z) x
 | _=>false
theorem am9(r:RelV y u)(f:flatV y=true):Z1 x u=dA y x:=by
 cases y with
 | non=>cases r;rfl
 | bl b=>cases r;rfl
 | int i=>obtain ⟨t,rfl⟩:=r;rfl
 | str z=>obtain ⟨t,rfl⟩:=r;rfl
 | _=>exact absurd (show false=true from f) N2
theorem mF : ∀ {xs:List V} {us:List Value},Vals xs us->xs.all flatV=true->us.any (Z1 x)=xs.any fun y=>dA y x
 | _,_,.nil,_=>rfl
 | y::xs,u::us,.cons r t,f=>by
  rw [List.all_cons,T4] at f;rw [aV,aV,am9 r f.1,mF t f.2]
theorem mG(rx:RelV x v)(fx:flatV x=true):∀ {xs:List V} {us:List Value},Vals xs us->xs.all flatV=true->∀ u∈us,SeqAt.EqAt A s u v (Z1 x u)
 | _,_,.nil,_=>fun u hu=>by cases hu
 | y::xs,u::us,.cons r t,f=>fun u' hu=>by
  rw [List.all_cons,T4] at f
  rcases F9.mp hu with rfl | hu
  ·rw [am9 r f.1];exact aqN r rx f.1 fx
  ·exact mG rx fx t f.2 u' hu
noncomputable def dB (x:V) (xs:List V):Bool:=xs.any fun y=>dA y x
noncomputable def uU (K:PySem.W.Frag) (neg:Bool):R2:=fun x y H Q=>∃ p xs,y=.ref p/\(E2 K H p xs\/C7 K H p xs)/\flatV x=true/\xs.all flatV=true/\Q (.bl (if neg then !dB x xs else dB x xs)) H
theorem akm:K9 X (compareOp .In) (uU X.K false):=by
 intro pins s σ H x y v u Q I rx ry h;obtain ⟨p,xs,rfl,hq,fx,fs,q⟩:=h
 cases ry
 rcases hq with hq | hq
 ·obtain ⟨its,r,pl,hz⟩:=I.list hq;refine SeqAt.in_listAt (Z1 x) pl.isList (fun w hw=>mG rx fx r fs w (by simpa using hw)) ⟨.bl _,H,I,rfl,?_⟩;rw [show its.toArray.any (Z1 x)=its.any (Z1 x) by simp,mF r fs];exact q
 ·obtain ⟨its,r,pl,hz⟩:=I.tuple hq;refine SeqAt.in_tupleAt (Z1 x) pl (fun w hw=>mG rx fx r fs w (by simpa using hw)) ⟨.bl _,H,I,rfl,?_⟩;rw [show its.toArray.any (Z1 x)=its.any (Z1 x) by simp,mF r fs];exact q
theorem agB:K9 X (compareOp .NotIn) (uU X.K true):=by
 intro pins s σ H x y v u Q I rx ry h;obtain ⟨p,xs,rfl,hq,fx,fs,q⟩:=h
 cases ry
 rcases hq with hq | hq
 ·obtain ⟨its,r,pl,hz⟩:=I.list hq;refine SeqAt.notIn_listAt (Z1 x) pl.isList (fun w hw=>mG rx fx r fs w (by simpa using hw)) ⟨.bl _,H,I,rfl,?_⟩;rw [show its.toArray.any (Z1 x)=its.any (Z1 x) by simp,mF r fs];exact q
 ·obtain ⟨its,r,pl,hz⟩:=I.tuple hq;refine SeqAt.notIn_tupleAt (Z1 x) pl (fun w hw=>mG rx fx r fs w (by simpa using hw)) ⟨.bl _,H,I,rfl,?_⟩;rw [show its.toArray.any (Z1 x)=its.any (Z1 x) by simp,mF r fs];exact q
theorem agC:K9 X (compareOp .NotIn) (fun x y H Q=>∃ i j,x=.str i/\y=.str j/\Q (.bl (!(!(Builtin.Str.occurrences j i 0 j.length 1).isEmpty))) H):=by
 intro pins s σ H x y v u Q I rx ry h;obtain ⟨i,j,rfl,rfl,q⟩:=h;obtain ⟨t,rfl⟩:=rx;obtain ⟨t',rfl⟩:=ry;exact notIn_str ⟨.bl _,H,I,rfl,q⟩
theorem agD:CallR X (.type "list") (fun xs H Q=>∃ p ys,xs=[.ref p]/\(E2 X.K H p ys\/C7 X.K H p ys)/\∀ l,H l=none->Q (.ref l) (A0 H l (.lst ys))):=by
 intro pins s σ H xs us Q I r h;obtain ⟨p,ys,rfl,hq,q⟩:=h;obtain ⟨u,rfl,rx⟩:=vals1 r
 cases rx
 have fin:∀ (its:List Value),Vals ys its->ys.length<=sizeLine->∀ (h':Heap) (c':Nat),(∀ b o',s.heap.get? b=some o'->h'.get? b=some o')->
   h'.get? s.heap.objs.size=some { cls:=.type "list",dict:=none,data:=.seq its.toArray c',slots:=#[] }->EP X pins σ Q (.ref s.heap.objs.size) { s with heap:=h' }:=fun its r' hz h' c' kp e=>
  ⟨.ref s.heap.objs.size,_,I.laid (t':=s.toks) kp (C2 _) (show ObjOk X.prog X.w _ h' _ (.lst ys) from ⟨hz,its,c',r',e⟩),rfl,q _ (I.hok.fresh (C2 _))⟩
 rcases hq with hq | hq
 ·obtain ⟨its,r',pl,hz⟩:=I.list hq;have A9:=r'.length;obtain ⟨o,ho,hc,n,hd⟩:=pl.isList;exact call_list_seq p (.inl rfl) ho hc hd (fun h' c' kp e=>fin its r' hz h' c' kp e) (by simp only [L5] <;> walk_at "o")
 ·obtain ⟨its,r',pl,hz⟩:=I.tuple hq;have A9:=r'.length;obtain ⟨o,ho,hc,n,hd⟩:=pl;exact call_list_seq p (.inr rfl) ho hc hd (fun h' c' kp e=>fin its r' hz h' c' kp e) (by simp only [L5] <;> walk_at "o")
theorem af2:CallR X (.type "tuple") (fun xs H Q=>∃ p ys,xs=[.ref p]/\((E2 X.K H p ys/\∀ l,H l=none->Q (.ref l) (A0 H l (.tup ys)))\/(C7 X.K H p ys/\Q (.ref p) H))):=by
 intro pins s σ H xs us Q I r h;obtain ⟨p,ys,rfl,h⟩:=h;obtain ⟨u,rfl,rx⟩:=vals1 r
 cases rx
 rcases h with ⟨hq,q⟩ | ⟨hq,q⟩
 ·obtain ⟨its,r',pl,hz⟩:=I.list hq;have A9:=r'.length;refine call_tuple_list pl.isList (fun h' kp=>?_) (by simp only [L5] <;> walk_at "o");have I1:Inv X pins σ H { s with heap:=h' }:=I.kept (t':=s.toks) kp;have I2:Inv X pins σ (A0 H h'.objs.size (.tup ys)) { s with heap:=h'.push { cls:=.type "tuple",data:=.seq its.toArray } }:=
   I1.laid (t':=s.toks) (fun b o e=>Heap.get?_push_of_some _ e) (C2 _) (show ObjOk X.prog X.w _ _ _ (.tup ys) from ⟨hz,its,r',IsTup.new _ _⟩)
  exact ⟨.ref h'.objs.size,_,I2,rfl,q _ (I1.hok.fresh (C2 _))⟩
 ·obtain ⟨its,r',pl,hz⟩:=I.tuple hq;exact call_tuple_same pl ⟨.ref p,H,I,rfl,q⟩
noncomputable def bB (K:PySem.W.Frag) (T:String) (x:V) (H:Hp):Prop:=match x with
 | .str _=>T="str"
 | .int _=>T="int"
 | .ref p=>(T="list"/\∃ xs,E2 K H p xs)\/(T="tuple"/\∃ o,K.lookup p=some o/\o.cls=.type "tuple"/\o.dict=none)\/
   (T="dict"/\((∃ kvs,H p=some (.dK kvs))\/∃ kvs,H p=some (.dT kvs)))\/(T="set"/\∃ S n,H p=some (.set S n))
 | _=>False
theorem ana{T:String}(I:Inv X pins σ H s)(r:RelV x v)(ty:bB X.K T x H) :
  s.TypeIs v T/\∀ a,v=.ref a->∃ ob,s.heap.get? a=some ob/\ob.dict=none:=by
 cases x with
 | str z=>
  obtain ⟨t,rfl⟩:=r
  cases (show T="str" from ty)
  exact ⟨typeIs_str s z t,fun _ e=>nomatch e⟩
 | int i=>
  obtain ⟨t,rfl⟩:=r
  cases (show T="int" from ty)
  exact ⟨typeIs_int s i t,fun _ e=>nomatch e⟩
 | ref p=>
  cases r
  rcases ty with ⟨rfl,xs,hq⟩ | ⟨rfl,o,hk,hc,hd⟩ | ⟨rfl,hk⟩ | ⟨rfl,S,n,hk⟩
  ·obtain ⟨its,_,pl,_⟩:=I.list hq;refine ⟨pl.isList.typeIs,fun a e=>?_⟩;cases e;obtain ⟨o,n,e,c,hd,_⟩:=pl;exact ⟨o,e,hd⟩
  ·refine ⟨⟨o,I.kIn p o hk,hc⟩,fun a e=>?_⟩;cases e;exact ⟨o,I.kIn _ o hk,hd⟩
  ·have z:∃ o,s.heap.get? p=some o/\o.ExactDict:=by
    rcases hk with ⟨kvs,hk⟩ | ⟨kvs,hk⟩
    ·obtain ⟨_,_,_,_,o,_,_,e,ex,_⟩:=I.hok p _ hk;exact ⟨o,e,ex⟩
    ·obtain ⟨_,_,_,_,o,_,_,e,ex,_⟩:=I.hok p _ hk;exact ⟨o,e,ex⟩
   obtain ⟨o,e,ex⟩:=z;refine ⟨⟨o,e,ex.1⟩,fun a e2=>?_⟩;cases e2;exact ⟨o,e,ex.2.1⟩
  ·obtain ⟨o,_,_,_,e,ex,_⟩:=I.hok p _ hk;refine ⟨⟨o,e,ex.1⟩,fun a e2=>?_⟩;cases e2;exact ⟨o,e,ex.2.1⟩
 | _=>exact False.elim ty
noncomputable def tBM0 (K:PySem.W.Frag) (T:String) (r:V->List V->Hp->VK->Prop) (to:TE):TE:=fun σ H Q=>to σ H fun x H1=>bB K T x H1/\r x [] H1 Q
noncomputable def jB (K:PySem.W.Frag) (T:String) (r:V->List V->Hp->VK->Prop) (to:TE) (t:TA):TE:=fun σ H Q=>to σ H fun x H1=>bB K T x H1/\t σ H1 fun xs H2=>r x xs H2 Q
variable {o e:Expr} {es:List Expr} {to:TE} {t:TA} {name:Str} {apos cpos:Pos} {T id:String} {r:V->List V->Hp->VK->Prop}
theorem aqO(pa:PlainAttrs T)(slot:Slot T name id)(W6:typeOf (.builtin id)=pure (.type "method_descriptor"))(hm:qU X id r)(ho:PE X o to)(G9:attributeBase o name X.env (eval o X.env)=eval o X.env:=by rfl)(I0:(apos.endLine==cpos.line)=true:=by rfl):PE X (.Call (.Attribute o name apos) [] [] cpos) (tBM0 X.K T r to):=by
 intro pins s σ H Q I h;refine wpAny_Call_method0_late G9 I0 (B5 (ho pins s σ H _ I h) fun v s1 ⟨x,H1,I1,r1,ty,q1⟩=>?_);obtain ⟨h1,h2⟩:=ana I1 r1 ty;exact ⟨T,id,pa,slot,W6,h1,h2,Calls.callWith_builtin rfl (PySem.evalArgs_none (hm pins s1 σ H1 x [] v [] Q I1 r1 .nil q1))⟩
theorem pe_bm(pa:PlainAttrs T)(slot:Slot T name id)(W6:typeOf (.builtin id)=pure (.type "method_descriptor"))(hm:qU X id r)(ho:PE X o to)(ha:PA X (e::es) t)(G9:attributeBase o name X.env (eval o X.env)=eval o X.env:=by rfl)(zO:((backTo cpos (starEach (e::es) X.env)).all (fun x=>!x.1)&&(backToKw cpos (keywordEach [] X.env)).all (fun x=>x.1.isSome)
   && decide ((e::es).length+([]:List Keyword).length+(if ([]:List Keyword).isEmpty then 0 else 1)<30))=true:=by rfl)(I0:(apos.endLine==cpos.line)=true:=by rfl)(hs:starEach (e::es) X.env=(false,eval e X.env)::starEach es X.env:=by rfl)(hplain:(backTo cpos (starEach es X.env)).any (·.1)=false:=by rfl) :
  PE X (.Call (.Attribute o name apos) (e::es) [] cpos) (jB X.K T r to t):=by
 intro pins s σ H Q I h;refine wpAny_Call_method_late G9 zO I0 rfl (B5 (ho pins s σ H _ I h) fun v s1 ⟨x,H1,I1,r1,ty,q1⟩=>?_);obtain ⟨h1,h2⟩:=ana I1 r1 ty;refine ⟨T,id,pa,slot,W6,h1,h2,?_⟩;have hA:=ha cpos pins s1 σ H1 _ I1 q1;rw [hs] at hA ⊢
 refine Calls.callWith_builtin (by show (false || (backTo cpos (starEach es X.env)).any (·.1))=false;rw [hplain] <;> rfl) (Calls.evalArgs_plain ?_);exact B5 hA fun us s2 ⟨vs,H2,I2,r2,q2⟩=>hm pins s2 σ H2 x vs v us Q I2 r1 r2 q2
end
end L2
namespace L2
open PySem PySem.Spec PyProof.Rows
noncomputable def mH (X:Cx) (id:String) (r:V->List V->Hp->VK->Prop):Prop:=
 ∀ (pins:List (Addr×Obj)) (s:Shared) (σ:St) (H:Hp) (x:V) (xs:List V) (v:Value) (us:List Value) (Q:VK),Inv X pins σ H s->RelV x v->Vals xs us->r x xs H Q->
  wpAny (model X.prog X.w) X.A (call (.builtin id) (v::us)) (EP X pins σ Q) X.xe s
theorem Vals.one:∀ {x:V} {us:List Value},Vals [x] us->∃ u,us=[u]/\RelV x u
 | _,_,.cons r .nil=>⟨_,rfl,r⟩
theorem Vals.zero:∀ {us:List Value},Vals [] us->us=[]
 | _,.nil=>rfl
theorem Vals.eraseIdx:∀ {xs:List V} {us:List Value} (i:Nat),Vals xs us->Vals (xs.eraseIdx i) (us.eraseIdx i)
 | _,_,_,.nil=>.nil
 | _,_,0,.cons _ t=>t
 | _,_,i+1,.cons r t=>.cons r (Vals.eraseIdx i t)
theorem Vals.reverse(h:Vals xs us):Vals xs.reverse us.reverse:=by
 induction h with
 | nil=>exact .nil
 | cons r t ih=>rw [iP,iP];exact Vals.append ih (.cons r .nil)
theorem Vals.rep(h:Vals xs us):∀ k:Nat,Vals (X6 k xs).flatten (X6 k us).flatten
 | 0=>.nil
 | k+1=>by
  rw [iN,iN,fC,fC];exact Vals.append h (Vals.rep h k)
theorem agE(its:List Value):∀ (k:Nat) (acc:List Value),
  List.foldl (fun x1 x2=>x1++x2) acc.toArray (X6 k its.toArray)=(acc++(X6 k its).flatten).toArray
 | 0,acc=>by simp
 | k+1,acc=>by
  have e:acc.toArray++its.toArray=(acc++its).toArray:=by simp
  have e2:(acc++its)++(X6 k its).flatten=acc++(X6 (k+1) its).flatten:=by
   rw [iN,fC,O3]
  rw [<- e2,<- agE its k (acc++its),<- e,iN,List.foldl_cons]
section
variable {X:Cx} {pins:List (Addr×Obj)} {σ:St} {H:Hp} {s:Shared} {l b:Addr} {xs ys zs:List V}
theorem Inv.lset{f:Array Value->Array Value}(I:Inv X pins σ H s)(hH:H l=some (.lst xs))(e:s.heap.get? l=some { cls:=.type "list",data:=.seq its.toArray n })(hf:f its.toArray=its'.toArray)(hv:Vals ys its')(hz:ys.length<=sizeLine) :
  Inv X pins σ (A0 H l (.lst ys)) { s with heap:=s.heap.update l (Obj.mapSeq f),toks:=t' }:=by
 have q:=PySem.IsL.update e f;rw [hf] at q;refine I.write (x:=l) (e:=l) (by rw [hH];exact trivial) (.inl rfl) (fun b' u hb hu=>(Heap.get?_update_other s.heap (Obj.mapSeq f) (Ne.symm hb)).trans hu) ⟨_,q⟩ ?_;exact ⟨hz,its',_,hv,q⟩
theorem Inv.lnew(I:Inv X pins σ H s)(hv:Vals ys its)(hz:ys.length<=sizeLine) :
  Inv X pins σ (A0 H s.heap.objs.size (.lst ys)) { s with heap:=s.heap.push { cls:=.type "list",data:=.seq its.toArray },toks:=t' }:=
 I.laid (fun _ _ q=>Heap.get?_push_of_some _ q) (C2 _) ⟨hz,its,0,hv,Heap.get?_push_size _ rfl⟩
theorem Inv.fresh(I:Inv X pins σ H s):H s.heap.objs.size=none:=I.hok.fresh (C2 _)
theorem Inv.lstM(I:Inv X pins σ H s)(hH:H l=some (.lst xs)):xs.length<=sizeLine/\∃ (its:List Value) (n:Nat),Vals xs its/\xs.length=its.length/\s.heap.get? l=some { cls:=.type "list",data:=.seq its.toArray n }:=by
 obtain ⟨z,its,n,r,e⟩:=I.hok l _ hH;exact ⟨z,its,n,r,r.length,e⟩
theorem uV(h:n<=sizeLine):Builtin.List.listTooLong n=false:=by
 unfold Builtin.List.listTooLong;exact decide_eq_false (by walk_at "o")
end
section
variable {X:Cx}
noncomputable def jC:V->List V->Hp->VK->Prop:=fun x vs H Q=>∃ l xs y,x=.ref l/\vs=[y]/\H l=some (.lst xs)/\xs.length<sizeLine/\Q .non (A0 H l (.lst (xs++[y])))
theorem agF:mH X "list.append" jC:=by
 intro pins s σ H x vs v us Q I rx rv h;obtain ⟨l,xs,y,rfl,rfl,hH,hz,q⟩:=h
 cases rx
 obtain ⟨u,rfl,ru⟩:=rv.one;obtain ⟨z,its,n,r,hl,e⟩:=I.lstM hH;refine call_meets F.slot_list_append ⟨_,e,rfl⟩ F.entry_list_append (F.args_list_append_2 _ _) (PySem.list_append l its.toArray n u (by rw [L5];walk_at "o")) ⟨e,?_⟩;refine ⟨.non,_,I.lset (its':=its++[u]) hH e (by simp) (r.append (.cons ru .nil)) ?_,rfl,q⟩;rw [C5,N5];walk_at "o"
noncomputable def uW:V->List V->Hp->VK->Prop:=fun x vs H Q=>∃ l b xs zs,x=.ref l/\vs=[.ref b]/\H l=some (.lst xs)/\H b=some (.lst zs)/\xs.length+zs.length<=sizeLine/\Q .non (A0 H l (.lst (xs++zs)))
theorem akn:mH X "list.extend" uW:=by
 intro pins s σ H x vs v us Q I rx rv h;obtain ⟨l,b,xs,zs,rfl,rfl,hH,hB,hz,q⟩:=h
 cases rx
 obtain ⟨u,rfl,ru⟩:=rv.one
 cases ru
 obtain ⟨z,its,n,r,hl,e⟩:=I.lstM hH;obtain ⟨z2,its2,n2,r2,T3,e2⟩:=I.lstM hB;have hsz:its.toArray.size+its2.toArray.size<=sizeLine:=by rw [L5,L5];walk_at "o"
 have W7:¬ (!its.toArray.isEmpty&&Builtin.List.listTooLong (its.toArray.size+its2.toArray.size))=true:=by
  rw [uV hsz,Bool.and_false];exact N2
 refine call_meets F.slot_list_extend ⟨_,e,rfl⟩ F.entry_list_extend (F.args_list_extend_2 _ _)
  (AutoSeq1.list_extend_list_list_0 l its.toArray n b its2.toArray n2 W7 (by rw [L5];walk_at "o") (by walk_at "o")) ⟨e,e2,?_⟩
 refine ⟨.non,_,I.lset (its':=its++its2) hH e (by simp) (r.append r2) ?_,rfl,q⟩;rw [C5];walk_at "o"
noncomputable def aiz:V->List V->Hp->VK->Prop:=fun x vs H Q=>∃ l xs,x=.ref l/\vs=[]/\H l=some (.lst xs)/\Q .non (A0 H l (.lst xs.reverse))
theorem ajp:mH X "list.reverse" aiz:=by
 intro pins s σ H x vs v us Q I rx rv h;obtain ⟨l,xs,rfl,rfl,hH,q⟩:=h
 cases rx
 have hus:=rv.zero;subst hus;obtain ⟨z,its,n,r,hl,e⟩:=I.lstM hH;refine call_meets F.slot_list_reverse ⟨_,e,rfl⟩ F.entry_list_reverse (F.args_list_reverse_1 _) (AutoSeq1.list_reverse_list_0 l its.toArray n (by rw [L5];walk_at "o")) ⟨e,?_⟩;refine ⟨.non,_,I.lset (its':=its.reverse) hH e (by simp) r.reverse ?_,rfl,q⟩;rw [lP];walk_at "o"
noncomputable def rCat:R2:=fun x y H Q=>∃ l b xs zs,x=.ref l/\y=.ref b/\H l=some (.lst xs)/\H b=some (.lst zs)/\xs.length+zs.length<=sizeLine/\∀ p,H p=none->Q (.ref p) (A0 H p (.lst (xs++zs)))
theorem aqP:K9 X (binaryOp .Add) rCat:=by
 intro pins s σ H x y v u Q I rx ry h;obtain ⟨l,b,xs,zs,rfl,rfl,hH,hB,hz,q⟩:=h
 cases rx
 cases ry
 obtain ⟨z,its,n,r,hl,e⟩:=I.lstM hH;obtain ⟨z2,its2,n2,r2,T3,e2⟩:=I.lstM hB;refine PySem.P.add_list e e2 ?_ (by rw [L5,L5];walk_at "o");have ea:its.toArray++its2.toArray=(its++its2).toArray:=by simp
 rw [ea];exact ⟨.ref _,_,I.lnew (t':=s.toks) (r.append r2) (by rw [C5];walk_at "o"),rfl,q _ I.fresh⟩
noncomputable def rRep:R2:=fun x y H Q=>∃ l k xs,x=.ref l/\y=.int k/\H l=some (.lst xs)/\-(2 ^ 63)<=k/\k<2 ^ 63/\xs.length*k.toNat<=sizeLine/\
 ∀ p,H p=none->Q (.ref p) (A0 H p (.lst (X6 k.toNat xs).flatten))
theorem an2{α:Type}(xs:List α)(k:Nat):(X6 k xs).flatten.length=k*xs.length:=by
 induction k with
 | zero=>simp
 | succ k ih=>rw [iN,fC,C5,ih,Nat.succ_mul,Nat.add_comm]
theorem aqQ:K9 X (binaryOp .Mult) rRep:=by
 intro pins s σ H x y v u Q I rx ry h;obtain ⟨l,k,xs,rfl,rfl,hH,h1,h2,hz,q⟩:=h
 cases rx
 obtain ⟨t,rfl⟩:=ry;obtain ⟨z,its,n,r,hl,e⟩:=I.lstM hH;have A9:its.toArray.size*k.toNat<=sizeLine:=by rw [L5,<- hl];exact hz
 have zP:¬ its.toArray.size*k.toNat > (2 ^ 63-1) / 8:=by
  have:(sizeLine:Nat)<=(2 ^ 63-1) / 8:=by decide
  walk_at "o"
 have zQ:¬ (!Builtin.List.listFitsIndex k)=true:=by
  rw [fitsIndex_both h1 h2];exact N2
 have W7:¬ Builtin.List.listTooLong (its.toArray.size*k.toNat)=true:=by
  rw [uV A9];exact N2
 have Q6:List.foldl (fun x1 x2=>x1++x2) #[] (X6 (if its.toArray.isEmpty=true then 0 else k.toNat) its.toArray)=(X6 k.toNat its).flatten.toArray:=by
  have f0:∀ m:Nat,List.foldl (fun x1 x2=>x1++x2) #[] (X6 m its.toArray)=(X6 m its).flatten.toArray:=fun m=>by
   have:=agE its m []
   rw [List.nil_append] at this;exact this
  rw [f0]
  cases its with
  | nil=>simp
  | cons a r'=>rw [if_neg (by simp)]
 refine wpAny_binaryOp_repeat_ref (T:="list") (U:="int") (by decide) ⟨_,e,rfl⟩ (fun s'=>typeIs_int s' k t) noFill_list_mul F.fills_int_mul F.slot_int_rmul repeat_list F.slot_int_index.lookup
  (call_meets F.slot_int_rmul (typeIs_int s k t) F.entry_int_rmul (F.args_int_rmul_2 _ _) (int___rmul___int_list k t l its.toArray n)
   ⟨e,rfl,⟨_,e,rfl⟩,call_meets F.slot_list_mul ⟨_,e,rfl⟩ F.entry_list_mul (F.args_list_mul_2 _ _) (AutoListH.list___mul___list_int_3 l its.toArray n k t zQ zP W7) ⟨e,?_⟩⟩)
 rw [Q6];exact ⟨.ref _,_,I.lnew (t':=s.toks) (r.rep k.toNat) (by rw [an2,Nat.mul_comm];exact hz),rfl,q _ I.fresh⟩
end
section
variable {prog:Program} {w:World} {A:Around} {E:Value->Shared->Prop} {s:Shared}
end
section
variable {X:Cx}
end
end L2
namespace Att
open PySem PySem.W PySem.Calls PyProof.Rows
theorem aeL{P:Params} : ∀ (ns:List Int) (vs:List Value),WellAll P h vs (ns.map WData.int)->IntsAre vs ns:=by
 intro ns
 induction ns with
 | nil=>
  intro vs w;rw [List.map_nil] at w
  cases w
  exact .nil
 | cons n ns ih=>
  intro vs w;rw [K4] at w
  cases w with
  | cons a b=>
   cases a
   exact .cons _ _ (ih _ b)
theorem ako{l:OpenLaw}(hn:l.most=some n){P:Params}{args:List WData}{vals:List Value}(bV:l.row.toRowW.claim.pre args=true)(zR:WellAll P h vals args) :
  ∃ a vs ns,vals=[Value.ref a]/\args=[WData.list (ns.map WData.int)]/\h.get? a=some { cls:=.type "list",data:=.seq vs.toArray }/\IntsAre vs ns/\ns.length<=n:=by
 have hsh:WShape.hasAll [] args [.list .int]=true:=(pre_splitW bV).1;have hc:l.pre.holds [] { args:=args }=true:=(pre_splitW bV).2;obtain ⟨d,r,rfl,h1,h2⟩:=hasAllW_cons hsh;obtain rfl:=hasAllW_nil h2;obtain ⟨xs,rfl,h3⟩:=hasW_list h1;obtain ⟨ns,rfl⟩:=items_int h3;have A9:ns.length<=n:=by
  unfold OpenLaw.pre at hc;have h4:(WTm.not (.lt (.lit (.int (n:Int))) (.len (.arg 0)))).holds [] { args:=[.list (ns.map .int)] }=true:=by
   have h4:=(holds_andW hc).1;rw [hn] at h4;exact h4
  have h5:=condW_of h4 (w_not (w_lt w_lit (w_len_list (w_arg rfl))));rw [A6] at h5;refine Nat.le_of_not_lt fun q=>?_
  have q':(n:Int)<((ns.length:Nat):Int):=by walk_at "o"
  first
   | (rw [decide_eq_true q'] at h5;exact absurd h5 (by decide))
   | (simp at h5;walk_at "o")
 cases zR with
 | cons w1 w2=>
  cases w2
  cases w1 with
  | list ho bW=>exact ⟨_,_,ns,rfl,rfl,ho,aeL ns _ bW,A9⟩
theorem akp(l:OpenLaw)(args:List WData):l.row.toRowW.claim.post args (.bool true) args=true:=
 postW_of (r:=l.row.toRowW) (X:=(true==true))
  (show WShape.has [] (.bool true) .bool=true by first | rfl | decide | simp [WShape.has,WShape.arms,WShape.armsAll])
  (show (WTm.eq .res (.lit (.bool true))).value [] { args:=args,res:=some (.bool true),after:=args }=some (.bool (true==true)) from w_eq_bool (w_res rfl) w_lit) rfl
theorem attach_call{l:OpenLaw}{q:Program}{XP:(Str->Option Value)->Heap->Prop}{YP:World->Heap->Prop}{d:DefRec}(hn:l.most=some n)(aO:d.params.defaults=[])(call:∀ (w:World) (s₀ s₁:Shared) (mg mb:Str->Option Value) (fa:Addr) (o:Obj) (pm cd doc:Value) (a:Addr) (vs:List Value) (ns:List Int),
   Ground q loose [] XP w s₀ mg mb s₁.heap->YP w s₁.heap->
   s₁.heap.get? fa=some o->o.data=.func (docDef d.name d.params d.body d.scope pm cd doc)->s₁.heap.CodeRec cd d.name->mg d.name=some (.ref fa)->
   s₁.heap.get? a=some { cls:=.type "list",data:=.seq vs.toArray }->IntsAre vs ns->ns.length<=n->s₁.gens=#[]->
   codeAny (model l.prog w) callerA (.call (.ref fa) ⟨[.ref a],[]⟩) (fun r s'=>r=.ok (.ret (.bool true))/\OldK s₁.heap s'.heap/\s'.os=s₁.os/\AllBare s'.gens) s₁) :
  WalkO q loose XP YP l.row.toRowW d [] (fun f vs=>PySem.call f vs):=by
 intro w s₀ s₁ mg mb G Y fa o pm cd doc dV kV ho hd T6 hD oK hg args vals as bV hlay hrd zR hlo;obtain rfl:dV=.none:=Dflts.none hD aO;obtain rfl:kV=.none:=Dflts.noKw hD;obtain ⟨a,vs,ns,rfl,rfl,gT,w5,A9⟩:=ako hn bV zR;refine enter_call (codeAny_mono (call w s₀ s₁ mg mb fa o pm cd doc a vs ns G Y ho (fd_plain hd) T6 oK gT w5 A9 hg) fun r s' hq=>?_);obtain ⟨rfl,h2,h3,h4⟩:=hq;exact ⟨.inl ⟨.bool true,.bool true,[],rfl,fun _=>rfl,.bool true,akp l _,fun _=>⟨List.Pairwise.nil,fun _ hm=>(nomatch hm)⟩⟩,h2,h3,h4⟩
section
variable {prog:Program} {w:World} {A:Around} {E:Value->Shared->Prop} {s:Shared} {K:Frag}
end
end Att
namespace L2
open PySem PySem.Spec PyProof.Rows
theorem agG:∀ {vs:List Value} {ns:List Int},IntsAre vs ns->Vals (ns.map V.int) vs
 | _,_,.nil=>.nil
 | _,_,.cons n t h=>.cons ⟨t,rfl⟩ (agG h)
noncomputable def Only (H:Hp):Prop:=∀ b,H b=none\/∃ o xs,H b=some (.frz o (.lst xs))
theorem al5{P:Program}{w:World}{mb:Str->Option Value}{CX:i6}{x:Str}{s₁:Shared}{vs:List Value}(KX:K.In s₁.heap)(eD:s₁.heap.Ns mainGlobals mg)(hb:s₁.heap.Ns builtinsNs mb)(zS:∀ x:Str,x≠"__name__"->mb x=bootBuiltins x)(zT:s₁.heap.NoLimit)(hg:s₁.gens=#[])(ha:s₁.heap.get? a=some { cls:=.type "list",data:=.seq vs.toArray })(hi:IntsAre vs ns)(hl:ns.length<=sizeLine)(hr:Room k callerA)(F:∀ base:Heap,K.In base->base.Ns mainGlobals mg->FnOk P w K mg base CX k fa fd [x] sp)(oM:∀ (s:Shared) (u:Value),BindsTo s fd ⟨[u],[]⟩ [(x,u)])(eC:∀ H:Hp,Only H->E2 K H a (ns.map V.int)->sp [.ref a] H (fun v _=>v=.bl true) fun _ _ _=>False)(hCX:∀ H e s',CX [] H s₁ (fun _ _ _=>False) e s'->False) :
  codeAny (model P w) callerA (.call (.ref fa) ⟨[.ref a],[]⟩) (fun r s'=>r=.ok (.ret (.bool true))/\OldK s₁.heap s'.heap/\s'.os=s₁.os/\AllBare s'.gens) s₁:=by
 have rv:=agG hi;have lenV:=hi.length;have core:∀ H:Hp,Only H->E2 K H a (ns.map V.int)->O0 P w H s₁.heap->(∀ b,H b≠none->b=a)->(H a≠none->K.lookup a=none)->
   codeAny (model P w) callerA (.call (.ref fa) ⟨[.ref a],[]⟩) (fun r s'=>r=.ok (.ret (.bool true))/\OldK s₁.heap s'.heap/\s'.os=s₁.os/\AllBare s'.gens) s₁:=by
  intro H hO hS hok hA hK;have base_of:∀ {b:Addr} {o:Obj},s₁.heap.get? b=some o->H b=none->(hidT s₁.heap H).get? b=some o:=fun e n=>alM e n
  have noA:∀ {b:Addr} {o:Obj} {es:Array DictEntry} {ep:Nat},s₁.heap.get? b=some o->o.data=.dict es ep->H b=none:=fun {b o es ep} e d=>by
   cases q:H b with
   | none=>rfl
   | some u=>
    have e':b=a:=hA b (by rw [q];simp);subst e';rw [ha] at e;cases e;have d':Data.seq vs.toArray _=Data.dict es ep:=d
    cases d'
  have nsK:∀ {b:Addr} {m:Str->Option Value},s₁.heap.Ns b m->(hidT s₁.heap H).Ns b m:=fun {b m} ⟨o,es,ep,e,d,r⟩=>⟨o,es,ep,base_of e (noA e d),d,r⟩
  have hKb:K.In (hidT s₁.heap H):=fun b o e=>base_of (KX b o e) (by
   cases q:H b with
   | none=>rfl
   | some u=>
    have e':b=a:=hA b (by rw [q];simp);subst e';rw [hK (by rw [q];simp)] at e;cases e)
  have hM:Mod K mg (hidT s₁.heap H):=⟨hKb,nsK eD,⟨mb,nsK hb,zS⟩,let ⟨mc,h1,h2⟩:=zT;⟨mc,nsK h1,h2⟩⟩
  have e0:Env0 P w K mg (hidT s₁.heap H) callerA [] s₁ H:=⟨rfl,hM,fun b o e=>anD e,Nat.le_of_eq (ajZ _ _),trivial,fun b hb=>absurd (show b∈([]:List Addr) from hb) (by simp),hok,.of_eq hg⟩
  refine codeAny_mono ((F _ hKb (nsK eD)).run callerA [] s₁ H ⟨[.ref a],[]⟩ [.ref a] [.ref a] _ _ hr e0 (oM s₁ (.ref a)) (.cons rfl .nil) (eC H hO hS)) fun r s' h=>?_
  cases r with
  | error e=>exact (hCX H e s' h).elim
  | ok fl=>
   cases fl with
   | next=>exact False.elim h
   | brk=>exact False.elim h
   | cont=>exact False.elim h
   | ret u=>
    obtain ⟨v,H',os,bare,un,zW,r',q⟩:=h;have q':v=.bl true:=q;subst q';obtain rfl:u=Value.bool true:=r';refine ⟨rfl,OldK.of_keep fun b o e=>?_,os,bare⟩
    cases q:H b with
    | none=>exact un.keep b o e q (by intro z;exact absurd (show b∈([]:List Addr) from z) (by simp)) (by simp)
    | some u=>
     rcases hO b with z | ⟨ob,xs,z⟩
     ·rw [q] at z;cases z
     ·have z2:=un.frzs b ob _ z;obtain ⟨e1,_⟩:=hok b _ z;obtain ⟨e2,_⟩:=zW b _ z2;rw [e] at e1;cases e1;exact e2
 cases hk:K.lookup a with
 | some o=>
  have e:=KX a o hk;rw [ha] at e;cases e;refine core (fun _=>none) (fun _=>.inl rfl) (.inr ⟨_,vs.toArray,_,hk,rfl,rfl,rfl,by rw [L5,lenV];exact hl,by simpa using rv⟩) (fun b u z=>by have z':(none:Option HO)=some u:=z;cases z') (fun b z=>absurd rfl z) fun z=>absurd rfl z
 | none=>
  refine core (fun b=>if b=a then some (.frz { cls:=.type "list",data:=.seq vs.toArray } (.lst (ns.map V.int))) else none) (fun b=>?_) (.inl (.inr ⟨{ cls:=.type "list",data:=.seq vs.toArray },if_pos rfl⟩)) (fun b u z=>?_) (fun b z=>?_) fun _=>hk
  ·by_cases hb:b=a
   ·exact .inr ⟨_,_,if_pos hb⟩
   ·exact .inl (if_neg hb)
  ·by_cases hb:b=a
   ·have z':=(if_pos hb).symm.trans z
    cases z'
    subst hb;exact ⟨ha,by rw [A6];exact hl,vs,_,rv,ha⟩
   ·have z':=(if_neg hb).symm.trans z
    cases z'
  ·by_cases hb:b=a
   ·exact hb
   ·exact absurd (if_neg hb) z
end L2
namespace L2
open PySem PySem.Spec PyProof.Rows
theorem walk_of{l:PySem.W.OpenLaw}{q:Program}{XP:(Str->Option Value)->Heap->Prop}{YP:World->Heap->Prop}{d:DefRec}{K:Params->PySem.W.Frag}{CX:World->i6}{sp:World->Sp}{x:Str}(hn:l.most=some n)(tF:n<=sizeLine)(aO:d.params.defaults=[])(hr:Room k callerA)(hY:∀ (w:World) (h:Heap),YP w h->(K w.params).In h)(F:∀ (w:World) (mg:Str->Option Value) (fa:Addr) (h:Heap),(K w.params).In h->h.Ns mainGlobals mg->mg d.name=some (.ref fa)->
   ∃ fd:FuncData,(∀ (s:Shared) (u:Value),BindsTo s fd ⟨[u],[]⟩ [(x,u)])/\
    ∀ base:Heap,(K w.params).In base->base.Ns mainGlobals mg->FnOk l.prog w (K w.params) mg base (CX w) k fa fd [x] (sp w))(eC:∀ (w:World) (H:Hp) (a:Addr) (ns:List Int),ns.length<=n->Only H->E2 (K w.params) H a (ns.map V.int)->sp w [.ref a] H (fun v _=>v=.bl true) fun _ _ _=>False)(hCX:∀ (w:World) (H:Hp) (s:Shared) (e:Value) (s':Shared),CX w [] H s (fun _ _ _=>False) e s'->False) :
  PySem.W.WalkO q loose XP YP l.row.toRowW d [] (fun f vs=>PySem.call f vs):=by
 refine Att.attach_call hn aO fun w s₀ s₁ mg mb fa o pm cd doc a vs ns G Y ho hd T6 oK gT w5 A9 hg=>?_
 have KX:=hY w _ Y;obtain ⟨fd,hb,hF⟩:=F w mg fa _ KX G.T.g oK;exact al5 KX G.T.g G.T.b G.T.builtins G.T.nolimit hg gT w5 (L3 A9 tF) hr hF hb (fun H hO hS=>eC w H a ns A9 hO hS) fun H e s'=>hCX w H s₁ e s'
end L2
namespace L2
open PySem PySem.Spec PyProof.Rows
noncomputable def jD (s:Stmt) (j:Nat):Stmt:=match s with
 | .ClassDef _ _ _ body _ _ _ _ _ _ _=>body.getD j (.Pass ⟨0,0,0,0⟩)
 | _=>.Pass ⟨0,0,0,0⟩
noncomputable def V9 (s:Stmt):Arguments:=match s with
 | .FunctionDef _ a _ _ _ _ _ _ _ _=>a
 | _=>{ posonlyargs:=[],args:=[],vararg:=none,kwonlyargs:=[],kw_defaults:=[],kwarg:=none,defaults:=[] }
noncomputable def V2 (s:Stmt):List Stmt:=match s with
 | .FunctionDef _ _ b _ _ _ _ _ _ _=>b
 | _=>[]
noncomputable def C3 (s:Stmt):Scope:=match s with
 | .FunctionDef _ _ _ _ _ _ sc _ _ _=>sc
 | _=>{ kind:=.function,names:=[],isGenerator:=false,isCoroutine:=false }
noncomputable abbrev E8:i6:=fun _ _ _ _ _ _=>False
noncomputable abbrev E0:XK:=fun _ _ _=>False
theorem pass0 : fL E8 X E0:=fun _ _ _ _ _ _ _ h=>h.elim
structure Fun(K:PySem.W.Frag)(x qual:Str)(st:Stmt)(f:Addr)(fd:FuncData):Prop where
 ex:∃ (oc:Value) (od:Option Addr) (kV doc pm:Value) (an:Option Addr) (cdv ct:Value) (osl:Array (Option Value)),
  fd=U3 x qual (V9 st) (V2 st) (C3 st) .none kV doc pm an cdv ct/\K.lookup f=some ⟨oc,od,.func fd,osl⟩/\X8 K cdv qual=true
 kp:V8 K (.ref f)=true
section
variable {P:Program} {w:World} {K:PySem.W.Frag} {mg:Str->Option Value} {base:Heap}
end
theorem hu_of(hr:Room k A):A.units+1<cLine:=iS (Nat.add_le_add_left (by decide:1<=64) _) hr.units
section
variable {X:Cx}
end
theorem iteF{A B:Prop}(h:B):if false=true then A else B:=by
 rw [if_neg N2];exact h
theorem iteT{A B:Prop}(h:A):if true=true then A else B:=by
 rw [if_pos rfl];exact h
noncomputable def Same (H H':Hp):Prop:=∀ b o,H b=some o->H' b=some o
theorem aD(H:Hp):Same H H:=fun _ _ h=>h
theorem Same.trans(a:Same H H1)(b:Same H1 H2):Same H H2:=fun c o h=>b c o (a c o h)
theorem Same.free(e:Same H H'){l:Addr}(h:H' l=Option.none):H l=Option.none:=by
 cases q:H l with
 | none=>rfl
 | some o=>
  rw [e l o q] at h;cases h
theorem Same.seq(e:Same H H')(h:E2 K H a xs):E2 K H' a xs:=by
 rcases h with (h | ⟨o,h⟩) | h
 ·exact .inl (.inl (e _ _ h))
 ·exact .inl (.inr ⟨o,e _ _ h⟩)
 ·exact .inr h
end L2
set_option maxRecDepth 100000
namespace L2
open PySem PySem.Spec PyProof.Rows
section
variable {κ:Type} [DecidableEq κ]
noncomputable def valV (kvs:List (κ×V)) (k:κ):Option V:=(kvs.find? fun kv=>decide (kv.1=k)).map (·.2)
noncomputable def putK (kvs:List (κ×V)) (k:κ) (v:V):List (κ×V):=
 if (kvs.any fun kv=>decide (kv.1=k))=true then kvs.map (fun kv=>if kv.1=k then (kv.1,v) else kv) else kvs++[(k,v)]
theorem qV{p:κ×V}{r:List (κ×V)}{k:κ}(e:p.1=k):valV (p::r) k=some p.2:=by simp [valV,q9,e]
theorem bC{p:κ×V}{r:List (κ×V)}{k:κ}(e:¬ p.1=k):valV (p::r) k=valV r k:=by simp [valV,q9,e]
theorem uX(k:κ):∀ kvs:List (κ×V),(kvs.any fun kv=>decide (kv.1=k))=(valV kvs k).isSome
 | []=>rfl
 | p::r=>by
  rw [aV]
  by_cases e:p.1=k
  ·simp only [qV e,decide_eq_true e,Bool.true_or,Option.isSome_some]
  ·rw [bC e,decide_eq_false e,Bool.false_or];exact uX k r
theorem uY(kvs:List (κ×V))(k:κ)(v:V):(putK kvs k v).length<=kvs.length+1:=by
 unfold putK
 split
 ·rw [A6];walk_at "o"
 ·rw [C5,K3,b0];walk_at "o"
theorem al6{kvs:List (κ×V)}{k:κ}(v:V)(h:valV kvs k=none):putK kvs k v=kvs++[(k,v)]:=by
 unfold putK;rw [uX,h];exact if_neg (by decide)
theorem RelO.isSome_eq{o:Option V}{u:Option Value}(r:RelO o u):o.isSome=u.isSome:=by
 cases o with
 | none=>cases u with
  | none=>rfl
  | some _=>exact (show False from r).elim
 | some _=>cases u with
  | none=>exact (show False from r).elim
  | some _=>rfl
theorem RelO.getD{o:Option V}{u:Option Value}{d:V}{d':Value}(r:RelO o u)(rd:RelV d d'):RelV (o.getD d) (u.getD d'):=by
 cases o with
 | none=>cases u with
  | none=>exact rd
  | some _=>exact (show False from r).elim
 | some _=>cases u with
  | none=>exact (show False from r).elim
  | some _=>exact r
theorem KV.val{kvs:List (κ×V)}{vs:List (κ×Value)}(r:KV kvs vs)(k:κ):RelO (valV kvs k) (valueAt vs k):=by
 unfold KV at r
 induction r with
 | nil=>exact True.intro
 | @cons p q ps qs h t ih=>
  obtain ⟨h1,h2⟩:=h
  by_cases e:p.1=k
  ·have e':q.1=k:=h1.symm.trans e;have b:valueAt (q::qs) k=some q.2:=by simp [valueAt,q9,e']
   rw [qV e,b];exact h2
  ·have e':¬ q.1=k:=fun z=>e (h1.trans z)
   have b:valueAt (q::qs) k=valueAt qs k:=by simp [valueAt,q9,e']
   rw [bC e,b];exact ih
theorem KV.any{kvs:List (κ×V)}{vs:List (κ×Value)}(r:KV kvs vs)(k:κ):(kvs.any fun kv=>decide (kv.1=k))=vs.any fun kv=>decide (kv.1=k):=by
 unfold KV at r
 induction r with
 | nil=>rfl
 | cons h t ih=>rw [aV,aV,ih,h.1]
theorem KV.repl{kvs:List (κ×V)}{vs:List (κ×Value)}(r:KV kvs vs)(k:κ)(ry:RelV y u) :
  KV (kvs.map fun kv=>if kv.1=k then (kv.1,y) else kv) (vs.map fun kv=>if kv.1=k then (kv.1,u) else kv):=by
 unfold KV at r ⊢
 induction r with
 | nil=>exact .nil
 | @cons p q ps qs h t ih=>
  rw [K4,K4];refine .cons ?_ ih;obtain ⟨h1,h2⟩:=h
  by_cases e:p.1=k
  ·rw [if_pos e,if_pos (h1.symm.trans e)];exact ⟨h1,ry⟩
  ·rw [if_neg e,if_neg (fun z=>e (h1.trans z))];exact ⟨h1,h2⟩
theorem KV.put{kvs:List (κ×V)}{vs:List (κ×Value)}(r:KV kvs vs)(k:κ)(ry:RelV y u):KV (putK kvs k y) (stored vs k u):=by
 unfold putK stored;rw [r.any k]
 by_cases e:(vs.any fun kv=>decide (kv.1=k))=true
 ·rw [if_pos e,if_pos e];exact r.repl k ry
 ·rw [if_neg e,if_neg e];exact Paired.snoc r ⟨rfl,ry⟩
theorem KV.keys{kvs:List (κ×V)}{vs:List (κ×Value)}(r:KV kvs vs):kvs.map (·.1)=vs.map (·.1):=by
 unfold KV at r
 induction r with
 | nil=>rfl
 | cons h t ih=>rw [K4,K4,ih,h.1]
theorem KV.length{kvs:List (κ×V)}{vs:List (κ×Value)}(r:KV kvs vs):kvs.length=vs.length:=Paired.length r
end
theorem kV_is{P:Program}{w:World}{k:C6}(r:RelV (kV k) u):(P3 P w).is k u=true:=by
 cases k with
 | inl i=>obtain ⟨t,e⟩:=(show ∃ t,u=Value.int i t from r);subst e;exact ahB P w i t
 | inr x=>obtain ⟨t,e⟩:=(show ∃ t,u=Value.str x t from r);subst e;exact ahC P w x t
theorem agH{P:Program}{w:World} : ∀ {ks:List C6} {us:List Value},Vals (ks.map kV) us->ItemsAre (P3 P w) ks us
 | [],_,r=>by rw [List.map_nil] at r;cases r;exact .nil
 | k::ks,_,r=>by
  rw [K4] at r
  cases r with
  | cons h t=>exact .cons (kV_is h) (agH t)
noncomputable abbrev KT (H:Hp):List (List C6×V)->List (List C6×Addr×Value)->Prop:=Paired fun p q=>p.1=q.1/\H q.2.1=some (.tup (p.1.map kV))/\RelV p.2 q.2.2
theorem KT.val{kvs:List (List C6×V)}{xs:List (List C6×Addr×Value)}(r:KT H kvs xs)(k:List C6):RelO (valV kvs k) ((atKey xs k).map (·.2)):=by
 induction r with
 | nil=>exact True.intro
 | @cons p q ps qs h t ih=>
  obtain ⟨h1,_,h2⟩:=h
  by_cases e:p.1=k
  ·have e':q.1=k:=h1.symm.trans e;have b:atKey (q::qs) k=some q.2:=by simp [atKey,q9,e']
   rw [qV e,b];exact h2
  ·have e':¬ q.1=k:=fun z=>e (h1.trans z)
   have b:atKey (q::qs) k=atKey qs k:=by simp [atKey,q9,e']
   rw [bC e,b];exact ih
theorem KT.repl{kvs:List (List C6×V)}{xs:List (List C6×Addr×Value)}(r:KT H kvs xs)(k:List C6)(ry:RelV y u) :
  KT H (kvs.map fun kv=>if kv.1=k then (kv.1,y) else kv) (xs.map (putAt k u)):=by
 induction r with
 | nil=>exact .nil
 | @cons p q ps qs h t ih=>
  rw [K4,K4];refine .cons ?_ ih;obtain ⟨h1,h2,h3⟩:=h;unfold putAt
  by_cases e:p.1=k
  ·rw [if_pos e,if_pos (h1.symm.trans e)];exact ⟨h1,h2,ry⟩
  ·rw [if_neg e,if_neg (fun z=>e (h1.trans z))];exact ⟨h1,h2,h3⟩
theorem KT.put{kvs:List (List C6×V)}{xs:List (List C6×Addr×Value)}(r:KT H kvs xs)(k:List C6)(hb:H b=some (.tup (k.map kV)))(ry:RelV y u) :
  KT H (putK kvs k y) (storedH xs k b u):=by
 have e:(kvs.any fun kv=>decide (kv.1=k))=(atKey xs k).isSome:=by
  rw [uX,(r.val k).isSome_eq,Option.isSome_map]
 unfold putK storedH;rw [e]
 by_cases q:(atKey xs k).isSome=true
 ·rw [if_pos q,if_pos q];exact r.repl k ry
 ·rw [if_neg q,if_neg q];exact Paired.snoc r ⟨rfl,hb,ry⟩
theorem KT.keeps{kvs:List (List C6×V)}{xs:List (List C6×Addr×Value)}(r:KT H kvs xs)(ht:∀ b ys,H b=some (.tup ys)->H' b=some (.tup ys)):KT H' kvs xs:=
 N0 r fun _ _ z=>⟨z.1,ht _ _ z.2.1,z.2.2⟩
section
variable {P:Program} {w:World} {H:Hp} {h:Heap} {a:Addr}
theorem rd_of{u:HO}(ok:O0 P w H h)(e:Rd H a u):ObjOk P w H h a u:=e.ok ok
theorem dk_rd(ok:O0 P w H h)(e:Rd H a (.dK kvs)):kvs.length<=sizeLine/\(a==sysModules)=false/\∃ vs,KV kvs vs/\h.DictOf (P3 P w) a vs:=
 show ObjOk P w H h a (.dK kvs) from rd_of ok e
theorem dk_of(ok:O0 P w H h)(e:H a=some (.dK kvs)):kvs.length<=sizeLine/\(a==sysModules)=false/\∃ vs,KV kvs vs/\h.DictOf (P3 P w) a vs:=dk_rd ok (.inl e)
theorem fO{ks:List C6}(ok:O0 P w H h)(e:H a=some (.tup (ks.map kV))):(tupleKind (P3 P w)).is h ks a:=by
 obtain ⟨_,its,r,o,h1,h2,n,h3⟩:=(show ObjOk P w H h a (.tup (ks.map kV)) from ok a _ e)
 exact ⟨o,its.toArray,n,h1,h2,h3,by simpa using agH r⟩
theorem dt_rd{kvs:List (List C6×V)}(ok:O0 P w H h)(e:Rd H a (.dT kvs)):kvs.length<=sizeLine/\(a==sysModules)=false/\
  ∃ xs,KT H kvs xs/\h.DictOfH (tupleKind (P3 P w)) a xs:=by
 obtain ⟨z,y,xs,r,o,es,ep,h1,h2,h3,h4,h5⟩:=(show ObjOk P w H h a (.dT kvs) from rd_of ok e)
 refine ⟨z,y,xs,r,o,es,ep,h1,h2,h3,h4,fun x hx=>?_,h5⟩;have all:∀ {l:List (List C6×V)} {m:List (List C6×Addr×Value)},KT H l m->∀ x∈m,(tupleKind (P3 P w)).is h x.1 x.2.1:=by
  intro l m q
  induction q with
  | nil=>intro x hx;exact nomatch hx
  | @cons p q ps qs hq t ih=>
   intro x hx
   rcases F9.mp hx with e | hx
   ·subst e;exact fO ok (by rw [<- hq.1];exact hq.2.1)
   ·exact ih x hx
 exact all r x hx
theorem dt_of{kvs:List (List C6×V)}(ok:O0 P w H h)(e:H a=some (.dT kvs)):kvs.length<=sizeLine/\(a==sysModules)=false/\
  ∃ xs,KT H kvs xs/\h.DictOfH (tupleKind (P3 P w)) a xs:=dt_rd ok (.inl e)
end
noncomputable def DGet (H:Hp) (a:Addr) (y:V) (r:Option V):Prop:=
 (∃ kvs k,Rd H a (.dK kvs)/\y=kV k/\r=valV kvs k)\/∃ kvs k b,Rd H a (.dT kvs)/\y=.ref b/\H b=some (.tup (k.map kV))/\r=valV kvs k
noncomputable def DPut (H:Hp) (a:Addr) (y v:V) (H':Hp):Prop:=
 (∃ kvs k,H a=some (.dK kvs)/\y=kV k/\kvs.length<sizeLine/\H'=A0 H a (.dK (putK kvs k v)))\/
 ∃ kvs k b,H a=some (.dT kvs)/\y=.ref b/\H b=some (.tup (k.map kV))/\kvs.length<sizeLine/\H'=A0 H a (.dT (putK kvs k v))
theorem i8{k:C6}(e:H a=some (.dK kvs)):DGet H a (kV k) (valV kvs k):=.inl ⟨kvs,k,.inl e,rfl,rfl⟩
theorem bD{k:C6}{v:V}(e:H a=some (.dK kvs))(hl:kvs.length<sizeLine):DPut H a (kV k) v (A0 H a (.dK (putK kvs k v))):=.inl ⟨kvs,k,e,rfl,hl,rfl⟩
section
variable {X:Cx} {pins:List (Addr×Obj)} {σ:St} {H:Hp} {s:Shared} {a:Addr} {y v:V} {u r:Value} {o:Option V} {A:Around} {E:Value->Shared->Prop}
theorem Inv.big(I:Inv X pins σ H s):sysModules<s.heap.objs.size:=by
 have h:mainGlobals<s.heap.objs.size:=(I.mod.glob.keeps I.bk).lt;exact Nat.lt_trans (by decide) h
theorem agI{Q:Value->Shared->Prop}(hu:A.units+1<cLine)(I:Inv X pins σ H s)(g:DGet H a y (some v))(ry:RelV y u)(h:∀ w' s',Inv X pins σ H s'->RelV v w'->Q w' s') :
  wpAny (model X.prog X.w) A (getItem (.ref a) u) Q E s:=by
 rcases g with ⟨kvs,k,e,ey,l⟩ | ⟨kvs,k,b,e,ey,eb,l⟩
 ·subst ey;obtain ⟨z,hd,vs,rel,dd⟩:=dk_rd I.hok e;obtain ⟨w',hw,rw'⟩:=qS (v:=v) (o:=valueAt vs k) (by rw [l];exact rel.val k);exact wpAny_getItem_of (kV_is ry) dd.mapOf hw (h w' _ (I.tok _) rw')
 ·subst ey
  cases (show u=Value.ref b from ry)
  obtain ⟨z,hd,xs,rel,dd⟩:=dt_rd I.hok e;obtain ⟨w',hw,rw'⟩:=qS (v:=v) (o:=(atKey xs k).map (·.2)) (by rw [l];exact rel.val k);obtain ⟨p,hp,R6⟩:=Option.map_eq_some_iff.mp hw;refine wpAny_getItem_heap (tupleKind_room_in1 hu) (fO I.hok eb) dd hp ?_;rw [R6];exact h w' _ (I.tok _) rw'
theorem d_in{Q:Value->Shared->Prop}(hu:A.units+1<cLine)(I:Inv X pins σ H s)(g:DGet H a y o)(ry:RelV y u)(h:∀ s',Inv X pins σ H s'->Q (.bool o.isSome) s') :
  wpAny (model X.prog X.w) A (compareOp .In u (.ref a)) Q E s:=by
 rcases g with ⟨kvs,k,e,ey,l⟩ | ⟨kvs,k,b,e,ey,eb,l⟩
 ·subst ey;obtain ⟨z,hd,vs,rel,dd⟩:=dk_rd I.hok e;refine wpAny_in_of (kV_is ry) hd dd.mapOf ?_;rw [<- (rel.val k).isSome_eq,<- l];exact h _ (I.tok _)
 ·subst ey
  cases (show u=Value.ref b from ry)
  obtain ⟨z,hd,xs,rel,dd⟩:=dt_rd I.hok e;refine wpAny_in_heap (tupleKind_room_in1 hu) (fO I.hok eb) hd dd ?_;have q:=(rel.val k).isSome_eq;rw [Option.isSome_map] at q;rw [<- q,<- l];exact h _ (I.tok _)
theorem an3{Q:Value->Shared->Prop}(hu:A.units+1<cLine)(I:Inv X pins σ H s)(g:DGet H a y o)(ry:RelV y u)(h:∀ s',Inv X pins σ H s'->Q (.bool (!o.isSome)) s') :
  wpAny (model X.prog X.w) A (compareOp .NotIn u (.ref a)) Q E s:=by
 rcases g with ⟨kvs,k,e,ey,l⟩ | ⟨kvs,k,b,e,ey,eb,l⟩
 ·subst ey;obtain ⟨z,hd,vs,rel,dd⟩:=dk_rd I.hok e;refine wpAny_notIn_of (kV_is ry) hd dd.mapOf ?_;rw [<- (rel.val k).isSome_eq,<- l];exact h _ (I.tok _)
 ·subst ey
  cases (show u=Value.ref b from ry)
  obtain ⟨z,hd,xs,rel,dd⟩:=dt_rd I.hok e;refine wpAny_notIn_heap (tupleKind_room_in1 hu) (fO I.hok eb) hd dd ?_;have q:=(rel.val k).isSome_eq;rw [Option.isSome_map] at q;rw [<- q,<- l];exact h _ (I.tok _)
theorem uZ{ob:HO}(I:Inv X pins σ H s)(mu:mC (H a))(hs:Heap.SameBut a s.heap h')(he:∃ q,h'.get? a=some q)(new:ObjOk X.prog X.w (A0 H a ob) h' a ob) :
  Inv X pins σ (A0 H a ob) { s with heap:=h',toks:=t' }:=
 I.write (x:=a) (e:=a) mu (.inl rfl) (fun b q hb z=>(hs.2 b hb).trans z) he new
theorem vA{P:Program}{w:World}{vs:List (C6×Value)}(z:kvs.length<=sizeLine)(hd:(a==sysModules)=false)(rel:KV kvs vs)(dd:h'.DictOf (P3 P w) a vs) :
  ObjOk P w H' h' a (.dK kvs):=⟨z,hd,vs,rel,dd⟩
theorem agJ{Q:Unit->Shared->Prop}(hu:A.units+1<cLine)(I:Inv X pins σ H s)(g:DPut H a y v H')(ry:RelV y u)(rv:RelV v r)(h:∀ s',Inv X pins σ H' s'->Q () s') :
  wpAny (model X.prog X.w) A (setItem (.ref a) u r) Q E s:=by
 rcases g with ⟨kvs,k,e,ey,l,eH⟩ | ⟨kvs,k,b,e,ey,eb,l,eH⟩
 ·subst ey eH;obtain ⟨z,hd,vs,rel,dd⟩:=dk_of I.hok e;have hz:vs.length<=sizeLine:=by rw [<- rel.length];exact z
  have hl:(putK kvs k v).length<=sizeLine:=by have:=uY kvs k v;walk_at "o"
  refine wpAny_setItem_pairs (hsz:=hz) (kV_is ry) dd fun h' dd' hs=>h _ ?_
  have he:∃ q,h'.get? a=some q:=let ⟨q,_,_,hq,_⟩:=dd';⟨q,hq⟩
  exact uZ I (by rw [e];exact True.intro) hs he (vA hl hd (rel.put k rv) dd')
 ·subst ey eH
  cases (show u=Value.ref b from ry)
  obtain ⟨z,hd,xs,rel,dd⟩:=dt_of I.hok e;have hz:xs.length<=sizeLine:=by rw [<- Paired.length rel];exact z
  have hl:(putK kvs k v).length<=sizeLine:=by have:=uY kvs k v;walk_at "o"
  refine wpAny_setItem_heap (hsz:=hz) (tupleKind_room_in1 hu) (fO I.hok eb) dd fun h' dd' hs=>h _ ?_
  obtain ⟨q,es,ep,hq,h2,h3,h4,_,h5⟩:=dd';refine uZ I (by rw [e];exact True.intro) hs ⟨q,hq⟩ ⟨hl,hd,_,(rel.put k eb rv).keeps fun c ys ec=>?_,q,es,ep,hq,h2,h3,h4,h5⟩;rw [B1 (ne_of ec e (fun z=>nomatch z))];exact ec
end
section
variable {X:Cx} {pins:List (Addr×Obj)} {σ:St} {H:Hp} {s:Shared} {a:Addr} {kvs:List (C6×V)} {k:C6} {u:Value} {A:Around} {E:Value->Shared->Prop}
theorem d_len{Q:Value->Shared->Prop}(I:Inv X pins σ H s)(e:Rd H a (.dK kvs))(h:∀ t s',Inv X pins σ H s'->Q (.int kvs.length t) s'):wpAny (model X.prog X.w) A (call (.builtin "len") [.ref a]) Q E s:=by
 obtain ⟨z,hd,vs,rel,dd⟩:=dk_rd I.hok e;refine call_len_dict hd dd (by rw [<- rel.length];rw [sizeLine_eq] at z;walk_at "o") ?_;rw [<- rel.length];exact h _ _ (I.tok _)
end
noncomputable def NoSl (i:Expr):Prop:=∀ ov iv,subscripted i false ov iv=operate [ov,iv] (getItem ov iv)
theorem akr{w:World}{env:Env}{value slice:Expr}{pos:Pos}{T id:String}{Q:Value->Shared->Prop}(hl:typeLookup (.type T) "__getitem__"=pure (some (.builtin id)))(hs:NoSl slice)(h:wpAny (model prog w) A (eval value env) (fun o s₁=>wpAny (model prog w) A (eval slice env) (fun i s₂=>s₂.TypeIs o T/\wpAny (model prog w) A (getItem o i) Q E s₂) E s₁) E s) :
  wpAny (model prog w) A (eval (.Subscript value slice pos) env) Q E s:=by
 refine Subscript_ (wpAny_mono h (fun o s₁ h₁=>wpAny_mono h₁ (fun i s₂ h₂=>?_) fun _ _ x=>x) fun _ _ x=>x);obtain ⟨hT,h₂⟩:=h₂;unfold subscriptTail;refine wpAny_bind ?_;rw [getitemInPython_of_ne hT.not_modules];refine wpAny_bind (wpAny_specialOf hT hl ?_);have fin:wpAny (model prog w) A (subscripted slice false o i) (fun r s₃=>wpAny (model prog w) A (letTemporaryGo value o r >>= fun _=>pure r) Q E s₃) E s₂:=by
  rw [hs o i];exact wpAny_operating (wpAny_mono h₂ (fun r s₃ h₃=>wpAny_bind (wpAny_letTemporaryGo (wpAny_pure h₃))) fun _ _ x=>x)
 first
  | exact wpAny_pure (wpAny_bind fin)
  | exact wpAny_bind (wpAny_pure (wpAny_bind fin))
  | exact wpAny_bind fin
theorem ahJ{o:Option V}(I:Inv X pins σ H s)(g:DGet H a y o):s.TypeIs (.ref a) "dict":=by
 rcases g with ⟨kvs,k,e,_,_⟩ | ⟨kvs,k,b,e,_,_,_⟩
 ·obtain ⟨_,_,vs,_,dd⟩:=dk_rd I.hok e;exact dd.typeIs
 ·obtain ⟨_,_,xs,_,dd⟩:=dt_rd I.hok e;exact dd.typeIs
noncomputable def tDGet (td ty:TE):TE:=fun σ H Q=>td σ H fun x H1=>ty σ H1 fun y H2=>∃ a v,x=.ref a/\DGet H2 a y (some v)/\Q v H2
noncomputable def sDPut (td ty tv:TE):TS:=fun D σ H=>tv σ H fun v H1=>td σ H1 fun x H2=>ty σ H2 fun y H3=>∃ a H4,x=.ref a/\DPut H3 a y v H4/\D.nx σ H4
noncomputable def sDAug (td ty tv:TE) (rd:V->V->Hp->VK->Prop):TS:=fun D σ H=>td σ H fun x H1=>ty σ H1 fun y H2=>∃ a v,x=.ref a/\DGet H2 a y (some v)/\
 tv σ H2 fun y2 H3=>rd v y2 H3 fun z H4=>∃ H5,DPut H4 a y z H5/\D.nx σ H5
section
variable {X:Cx} {o i e value:Expr} {pos pos' tpos:Pos} {td ty tv:TE}
theorem an4(hu:X.A.units+1<cLine)(ho:PE X o td)(hi:PE X i ty)(hs:NoSl i):PE X (.Subscript o i pos) (tDGet td ty):=by
 intro pins s σ H Q I h;refine akr PySem.F.slot_dict_getitem.lookup hs (B5 (ho pins s σ H _ I h) fun u s1 ⟨x,H1,I1,rx,q1⟩=>B5 (hi pins s1 σ H1 _ I1 q1) fun iv s2 ⟨y,H2,I2,ry,a,v,ex,g,q2⟩=>?_);subst ex;obtain rfl:u=Value.ref a:=rx;exact ⟨ahJ I2 g,agI hu I2 g ry fun w' s3 I3 rw'=>⟨v,H2,I3,rw',q2⟩⟩
theorem an5(hu:X.A.units+1<cLine)(ho:PE X o td)(hi:PE X i ty)(hv:PE X value tv)(hs:swapsWith value (some (.Subscript o i pos')) pos.line X.env=pure false) :
  PS X (.Assign [.Subscript o i pos'] value pos) (sDPut td ty tv):=by
 intro pins s σ H D I h;refine wpAny_Assign_Subscript (B5 (hv pins s σ H _ I h) fun r s1 ⟨v,H1,I1,rv,q1⟩=>B5 (ho pins s1 σ H1 _ I1 q1) fun u s2 ⟨x,H2,I2,rx,q2⟩=>B5 (hi pins s2 σ H2 _ I2 q2) fun iv s3 ⟨y,H3,I3,ry,a,H4,ex,g,q3⟩=>?_) hs;subst ex;obtain rfl:u=Value.ref a:=rx;exact agJ hu I3 g ry rv fun s4 I4=>⟨σ,H4,I4,q3⟩
theorem an6{op:Operator}{rd:V->V->Hp->VK->Prop}(hu:X.A.units+1<cLine)(ho:PE X o td)(hi:PE X i ty)(hv:PE X value tv)(zX:InOp X op rd)(ha:∀ ov iv new,augStore i ov iv new=(do holding [new,ov,iv] (setItem ov iv new);release [new,ov,iv] [];pure .next)):PS X (.AugAssign (.Subscript o i tpos) op value pos) (sDAug td ty tv rd):=by
 intro pins s σ H D I h;refine wpAny_AugAssign_SubscriptAny (B5 (ho pins s σ H _ I h) fun u s1 ⟨x,H1,I1,rx,q1⟩=>B5 (hi pins s1 σ H1 _ I1 q1) fun iv s2 ⟨y,H2,I2,ry,a,v,ex,g,q2⟩=>?_) ha;subst ex;obtain rfl:u=Value.ref a:=rx;refine agI hu I2 g ry fun w' s3 I3 rw'=>B5 (hv pins s3 σ H2 _ I3 q2) fun w2 s4 ⟨y2,H3,I4,ry2,q3⟩=>B5 (zX pins s4 σ H3 v y2 w' w2 _ I4 rw' ry2 q3) fun w3 s5 ⟨z,H4,I5,rz,H5,g5,q4⟩=>?_
 exact agJ hu I5 g5 ry rz fun s6 I6=>⟨σ,H5,I6,q4⟩
end
theorem al7{P:Program}{w:World}(h:Heap)(hb:sysModules<h.objs.size):ObjOk P w H (h.push { cls:=.type "dict",data:=.dict #[] }) h.objs.size (.dK []):=
 ⟨G2 _,beq_eq_false_iff_ne.mpr (Ne.symm (O6 hb)),[],.nil,Heap.DictOf.new h⟩
noncomputable def vB:TE:=fun _ H Q=>∀ p,H p=none->Q (.ref p) (A0 H p (.dK []))
section
variable {X:Cx} {pos:Pos}
theorem al8:PE X (.Dict [] [] pos) vB:=fun pins s σ H Q I h=>
 wpAny_Dict_empty ⟨.ref s.heap.objs.size,_,I.laid (a:=s.heap.objs.size) (o:=.dK []) (t':=s.toks) (fun _ _ q=>Heap.get?_push_of_some _ q) (C2 _) (al7 s.heap I.big),rfl,h _ (I.hok.fresh (C2 _))⟩
end
noncomputable def jE:List (TE×TE)->St->Hp->(List (V×V)->Hp->Prop)->Prop
 | [],_,H,Q=>Q [] H
 | (tk,tv)::r,σ,H,Q=>tk σ H fun x H1=>tv σ H1 fun y H2=>jE r σ H2 fun ps H3=>Q ((x,y)::ps) H3
noncomputable def Y1 (kvs more:List (C6×V)):List (C6×V):=more.foldl (fun acc kv=>putK acc kv.1 kv.2) kvs
theorem adR:∀ (more kvs:List (C6×V)),(Y1 kvs more).length<=kvs.length+more.length
 | [],kvs=>by show kvs.length<=kvs.length+0;walk_at "o"
 | p::r,kvs=>by
  have h1:=adR r (putK kvs p.1 p.2);have h2:=uY kvs p.1 p.2;show (Y1 (putK kvs p.1 p.2) r).length<=_;rw [K3];walk_at "o"
noncomputable def tDisp (trs:List (TE×TE)):TE:=fun σ H Q=>∀ p,H p=none->jE trs σ (A0 H p (.dK [])) fun ps H2=>H2 p=some (.dK [])/\∃ kvs:List (C6×V),ps=kvs.map (fun kv=>(kV kv.1,kv.2))/\kvs.length<=15/\Q (.ref p) (A0 H2 p (.dK (Y1 [] kvs)))
structure M1(X:Cx)(o:Expr)(m:Str)(apos:Pos)(e:Expr)(cpos:Pos):Prop where
 base:attributeBase o m X.env (eval o X.env)=eval o X.env
 few:((backTo cpos (starEach [e] X.env)).all (fun x=>!x.1)&&(backToKw cpos (keywordEach [] X.env)).all (fun x=>x.1.isSome)
  && decide (([e]:List Expr).length+([]:List Keyword).length+(if ([]:List Keyword).isEmpty then 0 else 1)<30))=true
 line:(apos.endLine==cpos.line)=true
 trees:backTo cpos (starEach [e] X.env)=[(false,eval e X.env)]
structure M2(X:Cx)(o:Expr)(m:Str)(apos:Pos)(e f:Expr)(cpos:Pos):Prop where
 base:attributeBase o m X.env (eval o X.env)=eval o X.env
 few:((backTo cpos (starEach [e,f] X.env)).all (fun x=>!x.1)&&(backToKw cpos (keywordEach [] X.env)).all (fun x=>x.1.isSome)
  && decide (([e,f]:List Expr).length+([]:List Keyword).length+(if ([]:List Keyword).isEmpty then 0 else 1)<30))=true
 line:(apos.endLine==cpos.line)=true
 trees:backTo cpos (starEach [e,f] X.env)=[(false,eval e X.env),(false,eval f X.env)]
noncomputable def fP (H:Hp) (a:Addr):Prop:=(∃ kvs,Rd H a (.dK kvs))\/∃ kvs,Rd H a (.dT kvs)
theorem vC(I:Inv X pins σ H s)(d:fP H a) :
  s.TypeIs (.ref a) "dict"/\(∀ b,Value.ref a=.ref b->∃ ob,s.heap.get? b=some ob/\ob.dict=none)/\(a==sysModules)=false:=by
 rcases d with ⟨kvs,e⟩ | ⟨kvs,e⟩
 ·obtain ⟨_,hd,vs,_,dd⟩:=dk_rd I.hok e;refine ⟨dd.typeIs,fun b q=>?_,hd⟩
  cases q
  obtain ⟨ob,_,_,h1,h2,_⟩:=dd;exact ⟨ob,h1,h2.2.1⟩
 ·obtain ⟨_,hd,xs,_,dd⟩:=dt_rd I.hok e;refine ⟨dd.typeIs,fun b q=>?_,hd⟩
  cases q
  obtain ⟨ob,_,_,h1,h2,_⟩:=dd;exact ⟨ob,h1,h2.2.1⟩
section
variable {X:Cx} {pins:List (Addr×Obj)} {σ:St} {H:Hp} {s:Shared} {a:Addr} {y d:V} {u r:Value} {o:Option V} {A:Around} {E:Value->Shared->Prop}
theorem aqR{Q:Value->Shared->Prop}(hu:A.units+1<cLine)(I:Inv X pins σ H s)(g:DGet H a y o)(ry:RelV y u)(h:∀ w' s',Inv X pins σ H s'->RelV (o.getD .non) w'->Q w' s') :
  wpAny (model X.prog X.w) A (call (.builtin "dict.get") [.ref a,u]) Q E s:=by
 rcases g with ⟨kvs,k,e,ey,l⟩ | ⟨kvs,k,b,e,ey,eb,l⟩
 ·subst ey;obtain ⟨z,hd,vs,rel,dd⟩:=dk_rd I.hok e;refine call_meetsIn iU dd.typeIs qK (PySem.F.args_dict_get_2 _ _) (meets_dict_get (P3 X.prog X.w) a (kV_is ry) hd) ⟨_,dd.mapOf,h _ _ (I.tok _) ?_⟩;rw [l];exact (rel.val k).getD rfl
 ·subst ey
  cases (show u=Value.ref b from ry)
  obtain ⟨z,hd,xs,rel,dd⟩:=dt_rd I.hok e;refine call_meetsIn iU dd.typeIs qK (PySem.F.args_dict_get_2 _ _) (meetsH_dict_get (tupleKind (P3 X.prog X.w)) a b hd) ⟨tupleKind_room_in1 hu,k,xs,fO I.hok eb,dd,h _ _ (I.tok _) ?_⟩;rw [l];exact (rel.val k).getD rfl
theorem aqS{Q:Value->Shared->Prop}(hu:A.units+1<cLine)(I:Inv X pins σ H s)(g:DGet H a y o)(ry:RelV y u)(rd:RelV d r)(h:∀ w' s',Inv X pins σ H s'->RelV (o.getD d) w'->Q w' s') :
  wpAny (model X.prog X.w) A (call (.builtin "dict.get") [.ref a,u,r]) Q E s:=by
 rcases g with ⟨kvs,k,e,ey,l⟩ | ⟨kvs,k,b,e,ey,eb,l⟩
 ·subst ey;obtain ⟨z,hd,vs,rel,dd⟩:=dk_rd I.hok e;refine call_meetsIn iU dd.typeIs qK (PySem.F.args_dict_get_3 _ _ _) (meets_dict_get_default (P3 X.prog X.w) a (kV_is ry) hd r) ⟨_,dd.mapOf,h _ _ (I.tok _) ?_⟩;rw [l];exact (rel.val k).getD rd
 ·subst ey
  cases (show u=Value.ref b from ry)
  obtain ⟨z,hd,xs,rel,dd⟩:=dt_rd I.hok e;refine call_meetsIn iU dd.typeIs qK (PySem.F.args_dict_get_3 _ _ _) (meetsH_dict_get_default (tupleKind (P3 X.prog X.w)) a b hd r) ⟨tupleKind_room_in1 hu,k,xs,fO I.hok eb,dd,h _ _ (I.tok _) ?_⟩;rw [l];exact (rel.val k).getD rd
end
noncomputable def vD (td ty:TE):TE:=fun σ H Q=>td σ H fun x H1=>∃ a,x=.ref a/\fP H1 a/\ty σ H1 fun y H2=>∃ o,DGet H2 a y o/\Q (o.getD .non) H2
noncomputable def vE (td ty tx:TE):TE:=fun σ H Q=>td σ H fun x H1=>∃ a,x=.ref a/\fP H1 a/\ty σ H1 fun y H2=>tx σ H2 fun z H3=>∃ o,DGet H3 a y o/\Q (o.getD z) H3
section
variable {X:Cx} {o e f:Expr} {apos cpos:Pos} {td ty tx:TE}
theorem al9(hu:X.A.units+1<cLine)(ho:PE X o td)(he:PE X e ty)(m:M1 X o "get" apos e cpos):PE X (.Call (.Attribute o "get" apos) [e] [] cpos) (vD td ty):=by
 intro pins s σ H Q I h;refine wpAny_Call_method m.base m.few m.line PySem.F.plainAttrs_dict iU PySem.F.type_dict_get (B5 (ho pins s σ H _ I h) fun u s1 ⟨x,H1,I1,rx,a,ex,d,q1⟩=>?_);subst ex;obtain rfl:u=Value.ref a:=rx;obtain ⟨t1,t2,_⟩:=vC I1 d;refine ⟨t1,t2,?_⟩;rw [m.trees];refine Calls.callWith_builtin rfl (Calls.evalArgs_plain (Calls.spliced_cons (B5 (he pins s1 σ H1 _ I1 q1) fun iv s2 ⟨y,H2,I2,ry,ov,g,q2⟩=>Calls.spliced_nil ?_)));exact aqR hu I2 g ry fun w' s3 I3 rw'=>⟨_,H2,I3,rw',q2⟩
theorem ama(hu:X.A.units+1<cLine)(ho:PE X o td)(he:PE X e ty)(hf:PE X f tx)(m:M2 X o "get" apos e f cpos):PE X (.Call (.Attribute o "get" apos) [e,f] [] cpos) (vE td ty tx):=by
 intro pins s σ H Q I h;refine wpAny_Call_method m.base m.few m.line PySem.F.plainAttrs_dict iU PySem.F.type_dict_get (B5 (ho pins s σ H _ I h) fun u s1 ⟨x,H1,I1,rx,a,ex,d,q1⟩=>?_);subst ex;obtain rfl:u=Value.ref a:=rx;obtain ⟨t1,t2,_⟩:=vC I1 d;refine ⟨t1,t2,?_⟩;rw [m.trees];refine Calls.callWith_builtin rfl (Calls.evalArgs_plain (Calls.spliced_cons (B5 (he pins s1 σ H1 _ I1 q1) fun iv s2 ⟨y,H2,I2,ry,q2⟩=>
  Calls.spliced_cons (B5 (hf pins s2 σ H2 _ I2 q2) fun fv s3 ⟨z,H3,I3,rz,ov,g,q3⟩=>Calls.spliced_nil ?_))))
 exact aqS hu I3 g ry rz fun w' s4 I4 rw'=>⟨_,H3,I4,rw',q3⟩
end
section
variable {X:Cx} {pins:List (Addr×Obj)} {σ:St} {H:Hp} {s:Shared} {a:Addr} {kvs:List (C6×V)} {A:Around} {E:Value->Shared->Prop}
end
section
variable {X:Cx} {pins:List (Addr×Obj)} {σ:St} {H:Hp} {s:Shared} {a:Addr} {y:V} {u:Value} {A:Around} {E:Value->Shared->Prop}
end
end L2
namespace L2
open PySem PySem.Spec PyProof.Rows
section
variable {X:Cx}
end
section
variable {κ:Type} [DecidableEq κ]
theorem qW:∀ {l:List κ} {k:κ},l.Nodup->¬ k∈l->(l++[k]).Nodup
 | [],k,_,_=>by simp
 | a::r,k,h,hk=>by
  obtain ⟨h1,h2⟩:=U8.mp h;show (a::(r++[k])).Nodup;refine U8.mpr ⟨fun m=>?_,qW h2 fun m=>hk (F9.mpr (Or.inr m))⟩
  rcases E1.mp m with q | q
  ·exact h1 q
  ·exact hk (F9.mpr (Or.inl (E6.mp q).symm))
end
end L2
set_option maxRecDepth 100000
namespace L2
open PySem PySem.Spec PyProof.Rows
noncomputable def cloOf (cells:List (Str×Addr)):List (Str×NameKind)->List (Str×Addr)->List (Str×Addr)
 | [],acc=>acc
 | (n,k)::r,acc=>if k=.free then cloOf cells r ((n,(cells.lookup n).getD 0)::acc) else cloOf cells r acc
theorem vF{env:Env} : ∀ (names:List (Str×NameKind)) (acc:List (Str×Addr)),(∀ x∈names,x.2=.free->∃ c,env.cells.lookup x.1=some c)->
  (forIn names acc fun (x:Str×NameKind) (cs:List (Str×Addr))=>(if (x.2==NameKind.free)=true then do
   let c <- cellOf env x.1
   pure (ForInStep.yield ((x.1,c)::cs)) else pure (ForInStep.yield cs):Sem (ForInStep (List (Str×Addr)))))=(pure (cloOf env.cells names acc):Sem (List (Str×Addr)))
 | [],acc,_=>rfl
 | (n,k)::r,acc,h=>by
  rw [List.forIn_cons];have hr:∀ x∈r,x.2=.free->∃ c,env.cells.lookup x.1=some c:=fun x hx=>h x (M3 _ hx)
  by_cases hk:k=.free
  ·subst hk;obtain ⟨c,hc⟩:=h (n,.free) M4 rfl;have e1:cellOf env n=pure c:=by unfold cellOf;rw [show env.cells.lookup n=some c from hc]
   simp only [beq_self_eq_true,if_true];rw [e1];show (forIn r ((n,c)::acc) _:Sem _)=_;rw [vF r _ hr];show _=pure (if NameKind.free=.free then cloOf env.cells r ((n,(env.cells.lookup n).getD 0)::acc) else _);rw [if_pos rfl,show env.cells.lookup n=some c from hc];rfl
  ·have hb:(k==NameKind.free)=false:=by simpa using hk
   simp only [hb,Bool.false_eq_true,if_false];show (forIn r acc _:Sem _)=_;rw [vF r _ hr];show _=pure (if k=.free then _ else cloOf env.cells r acc);rw [if_neg hk]
theorem adG{scope:Scope}{env:Env}(h:∀ x∈scope.names,x.2=.free->∃ c,env.cells.lookup x.1=some c):closureFor scope env=pure (cloOf env.cells scope.names []):=by
 simp only [closureFor];have e:=vF (env:=env) scope.names [] h;rw [e];rfl
theorem qX{cells:List (Str×Addr)}{x:Str} : ∀ (names:List (Str×NameKind)) (acc:List (Str×Addr)),
  (cloOf cells names acc).lookup x=if (x,NameKind.free)∈names then some ((cells.lookup x).getD 0) else acc.lookup x
 | [],acc=>by simp [cloOf]
 | (n,k)::r,acc=>by
  show (if k=.free then cloOf cells r ((n,(cells.lookup n).getD 0)::acc) else cloOf cells r acc).lookup x=_
  by_cases hk:k=.free
  ·subst hk;rw [if_pos rfl,qX r]
   by_cases hm:(x,NameKind.free)∈r
   ·rw [if_pos hm,if_pos (M3 _ hm)]
   ·rw [if_neg hm,List.lookup_cons]
    by_cases hx:x=n
    ·subst hx;rw [if_pos M4]
     simp
    ·have e:(x==n)=false:=by simpa using hx
     rw [e,if_neg];intro z
     rcases F9.mp z with z | z
     ·exact hx (Prod.mk.inj z).1
     ·exact hm z
  ·rw [if_neg hk,qX r]
   by_cases hm:(x,NameKind.free)∈r
   ·rw [if_pos hm,if_pos (M3 _ hm)]
   ·rw [if_neg hm,if_neg];intro z
    rcases F9.mp z with z | z
    ·exact hk (Prod.mk.inj z).2.symm
    ·exact hm z
theorem vG{α:Type}{x:Str} : ∀ {l:List (Str×α)} {k:α},l.lookup x=some k->(x,k)∈l
 | [],_,h=>by simp at h
 | (n,a)::r,k,h=>by
  rw [List.lookup_cons] at h
  by_cases hx:x=n
  ·subst hx;simp at h;subst h;exact M4
  ·have e:(x==n)=false:=by simpa using hx
   rw [e] at h;exact M3 _ (vG h)
theorem aek{sc:Scope}{env:Env}{x:Str}{k:NameKind}(hc:∀ y∈sc.names,y.2≠.cell)(h:(relabel sc env).names.lookup x=some k)(hk:k=.cell\/k=.free):(x,NameKind.free)∈sc.names:=by
 have m:=vG h;unfold relabel at m;obtain ⟨⟨n,k'⟩,hm,e⟩:=D3.mp m;have L0:=hc _ hm
 by_cases hf:k'=.free
 ·subst hf
  have:n=x:=by
   dsimp only at e
   split at e
   ·exact (Prod.mk.inj e).1
   ·exact (Prod.mk.inj e).1
  subst this;exact hm
 ·have hb:(k'==NameKind.free)=false:=by simpa using hf
  simp only [hb,Bool.false_and,Bool.false_eq_true,if_false] at e;obtain ⟨e1,e2⟩:=Prod.mk.inj e;subst e1 e2
  rcases hk with z | z
  ·exact absurd z L0
  ·subst z;exact absurd rfl hf
structure CompOk(N:List Str)(kn:List (Str×NameKind))(sc:Scope)(N':List Str)(k:Nat)(ixs:List Nat):Prop where
 kind:sc.kind=.function
 cell:∀ x∈sc.names,x.2≠.cell
 names:∀ x∈sc.names,x.2=.local->sc.names.lookup x.1=some .local
 free:∀ x∈sc.names,x.2=.free->kn.lookup x.1=some .cell\/kn.lookup x.1=some .free
 clean:∀ x∈sc.names,x.2=.free->sc.names.lookup x.1=some .free
 len:N'.length=k+ixs.length
 at_:ixs.map (fun i=>N[i]?)=(N'.drop k).map some
 fr:∀ x∈N'.drop k,(x,NameKind.free)∈sc.names
noncomputable def N4 (X:Cx) (sc:Scope) (N':List Str) (C:Addr) (s₃:Shared) (H₃:Hp) (fp:List Addr) (pins:List (Addr×Obj)):Cx:=
 {prog:=X.prog,w:=X.w,K:=X.K,mg:=X.mg,base:=X.base,A:=X.A,N:=N',s₀:=s₃,H₀:=H₃,
  env:=compEnvC sc (cloOf X.env.cells sc.names []) C X.env,outer:=X.stack,stack:=X.stack,ex:=fp,fn:=fun _=>false,calm:=X.calm,
  pn:=X.pn++pins,xe:=fun _ _=>False }
noncomputable def compStart (k:Nat) (ixs:List Nat) (σ:St):St:=X6 k none++ixs.map fun i=>(σ[i]?).join
theorem af6 : (compStart k ixs σ).length=k+ixs.length:=by simp [compStart]
section
variable {X:Cx} {sc:Scope} {N':List Str} {k:Nat} {ixs:List Nat} {pins:List (Addr×Obj)} {σ:St} {H:Hp} {s:Shared} {fp:List Addr}
theorem jF(C:CompOk X.N X.env.scope.names sc N' k ixs)(I:Inv X pins σ H s){x:Str}{c:Addr}(e:(cloOf X.env.cells sc.names []).lookup x=some c):X.env.cells.lookup x=some c/\(x,NameKind.free)∈sc.names:=by
 rw [qX] at e
 by_cases hm:(x,NameKind.free)∈sc.names
 ·rw [if_pos hm] at e;obtain ⟨c',f9⟩:=I.ok.has x (C.free _ hm rfl);rw [f9] at e;exact ⟨f9.trans e,hm⟩
 ·rw [if_neg hm] at e;cases e
theorem akw(C:CompOk X.N X.env.scope.names sc N' k ixs)(I:Inv X pins σ H s){x:Str}(hm:(x,NameKind.free)∈sc.names):∃ c,(cloOf X.env.cells sc.names []).lookup x=some c/\X.env.cells.lookup x=some c:=by
 obtain ⟨c',f9⟩:=I.ok.has x (C.free _ hm rfl);refine ⟨c',?_,f9⟩;rw [qX,if_pos hm,f9];rfl
theorem aqT(C:CompOk X.N X.env.scope.names sc N' k ixs)(I:Inv X pins σ H s)(hf:∀ b∈fp,FpOk X pins H b)(ho:∀ b∈fp,∃ o,s.heap.get? b=some o):(N4 X sc N' s.heap.objs.size s H fp pins).Ok where
 mod:=I.ok.mod
 kind:=C.kind
 glob:=I.ok.glob
 blt:=I.ok.blt
 above:=C2 _
 inj:=fun x y c e1 e2=>I.ok.inj x y c (jF C I e1).1 (jF C I e2).1
 has:=fun x hx=>by
  have hm:(x,NameKind.free)∈sc.names:=by
   rcases hx with z | z
   ·exact aek C.cell z (.inl rfl)
   ·exact aek C.cell z (.inr rfl)
  obtain ⟨c,h1,_⟩:=akw C I hm;exact ⟨c,h1⟩
 cab:=fun x c h _=>by cases h
 hd:=I.ok.hd
 frames:=I.ok.frames
 stk:=.inl rfl
 exf:=fun b hb=>by
  obtain ⟨o,e⟩:=ho b hb;exact ⟨O6 (Heap.lt_size e),fun x c e1=>(hf b hb).2.2.2.2.1 x c (jF C I e1).1⟩
 bs:=I.bs
 bsz:=L3 I.ok.bsz I.sz
 noex:=fun b o e hb=>by
  rcases (hf b hb).2.2.2.1 with z | z
  ·exact I.ok.noex b o e z
  ·exact absurd (R8 (Heap.lt_size e) (L3 I.ok.bsz z)) (r0 _)
 exfs:=fun b hb hm=>by
  rcases F9.mp (I.stkSub b hm) with z | z
  ·exact (hf b hb).2.1 z
  ·exact (hf b hb).2.2.1 z
 funs:=I.stack
 frf:=I.stkFree
theorem an7(C:CompOk X.N X.env.scope.names sc N' k ixs)(I:Inv X pins σ H s)(hf:∀ b∈fp,FpOk X pins H b)(ho:∀ b∈fp,∃ o,s.heap.get? b=some o){m:Str->Option Value}(hn:h'.Ns s.heap.objs.size m)(hk:∀ b o,s.heap.get? b=some o->h'.get? b=some o):Inv (N4 X sc N' s.heap.objs.size s H fp pins) [] (compStart k ixs σ) H { s with heap:=h',toks:=t' } where
 ok:=aqT C I hf ho
 os:=rfl
 bare:=I.bare
 base:=Un.kept hk
 loc:=by
  refine ⟨m,hn,fun i x v e1 e2 e3=>?_⟩;unfold compStart at e2
  by_cases hi:i<k
  ·rw [iL (by simpa using hi)] at e2;rw [List.getElem?_replicate_of_lt hi] at e2;cases e2
  ·rw [eW (by simpa using hi),List.length_replicate] at e2;rw [V7] at e2;cases e4:ixs[i-k]? with
   | none=>rw [e4] at e2;cases e2
   | some j=>
    rw [e4] at e2;have e5:(σ[j]?).join=some v:=Option.some.inj e2;have e6:σ[j]?=some (some v):=by
     cases e7:σ[j]? with
     | none=>rw [e7] at e5;cases e5
     | some o=>rw [e7] at e5;exact congrArg some e5
    have e1':N'[i]?=some x:=e1;have ed:(N'.drop k)[i-k]?=some x:=by rw [List.getElem?_drop,show k+(i-k)=i by walk_at "o"];exact e1'
    have n3:(x,NameKind.free)∈sc.names:=C.fr x (M9 ed);have n2:X.N[j]?=some x:=by
     have q:=congrArg (fun l=>l[i-k]?) C.at_;simp only [V7,e4,ed,Option.map_some] at q;exact Option.some.inj q
    obtain ⟨m0,zY,oN⟩:=I.loc;have oO:X.env.scope.names.lookup x=some .cell\/X.env.scope.names.lookup x=some .free:=C.free _ n3 rfl;obtain ⟨u,r,l⟩:=oN j x v n2 e6 (.inr oO);refine ⟨u,r,.inr ?_⟩
    rcases l with ⟨l,_⟩ | ⟨_,c,hc,N8⟩
    ·have l':X.env.scope.names.lookup x=some .local:=l
     rcases oO with z | z
     ·rw [l'] at z;cases z
     ·rw [l'] at z;cases z
    ·obtain ⟨c',h1,h2⟩:=akw C I n3;rw [hc] at h2;cases h2;refine ⟨?_,c,h1,?_⟩
     ·have e3':(relabel sc X.env).names.lookup x=some .local\/(relabel sc X.env).names.lookup x=some .cell\/(relabel sc X.env).names.lookup x=some .free:=e3
      rcases e3' with z | z
      ·exfalso
       have mm:=vG z;unfold relabel at mm;obtain ⟨⟨n,k'⟩,hm,e⟩:=D3.mp mm;have W1:k'=.local/\n=x:=by
        dsimp only at e
        split at e
        ·obtain ⟨_,q⟩:=Prod.mk.inj e
         cases q
        ·exact ⟨(Prod.mk.inj e).2,(Prod.mk.inj e).1⟩
       obtain ⟨z1,z2⟩:=W1;subst z1 z2;have q1:=C.names _ hm rfl;rw [C.clean _ n3 rfl] at q1
       cases q1
      ·exact z
     ·exact N8.keeps hk
 cell:=fun x c e=>by
  obtain ⟨v,z⟩:=I.cell x c (jF C I e).1;exact ⟨v,z.keeps hk⟩
 free:=I.hok.fresh (C2 _)
 freeC:=fun x c e=>I.freeC x c (jF C I e).1
 pin:=fun p hp=>by
  have tH:p∈X.pn++pins:=by simpa [N4] using hp
  obtain ⟨e,n,ne,nf,d⟩:=I.pin p tH;refine ⟨hk _ _ e,n,O6 (Heap.lt_size e),fun hm=>?_,d⟩
  rcases F9.mp (I.stkSub _ hm) with z | z
  ·exact ne z
  ·exact nf z
 hok:=I.hok.kept hk
 len:=by rw [af6];exact C.len.symm
end
section
variable {prog:Program} {w:World} {A:Around} {R:Result->Shared->Prop} {s:Shared}
theorem agK{scope:Scope}{pos:Pos}{it acc:Value}{env:Env}(I:Nat->Shared->Prop)(turn:∀ n s,I n s->wpAny (model prog w) A (pyNext it) (fun r s₁=>match r with
   | none=>R (.ok .next) s₁
   | some v=>wpAny (model prog w) A (letOwnedTupleGo target it v) (fun _ s₁=>wpAny (model prog w) A (assign target env v) (fun _ s₂=>
     wpAny (model prog w) A (forIn ifs true fun c r=>if r=true then do let ok <- isTrue c env (eval c env);pure (ForInStep.yield ok) else pure (ForInStep.yield r)) (fun ok s₃=>
      if ok=true then wpAny (model prog w) A (eval elt env) (fun x s₄=>
       wpAny (model prog w) A (call (.builtin "list.append") [acc,x]) (fun _ s₅=>∃ m,m<n/\I m s₅) (notedBy (model prog w) A env fun e s'=>R (.error e) s') s₄) (notedBy (model prog w) A env fun e s'=>R (.error e) s') s₃
      else ∃ m,m<n/\I m s₃) (notedBy (model prog w) A env fun e s'=>R (.error e) s') s₂) (notedBy (model prog w) A env fun e s'=>R (.error e) s') s₁) (notedBy (model prog w) A env fun e s'=>R (.error e) s') s₁) (notedBy (model prog w) A env fun e s'=>R (.error e) s') s)(n:Nat)(h:I n s) :
  codeAny (model prog w) A (.compLoop (.ListComp elt [⟨target,iter,ifs,0⟩] scope pos) 0 it acc env) R s:=by
 refine codeAny_loop rfl I (fun n s hI=>?_) n h;show wpAny _ A ((compTurn (.ListComp elt [⟨target,iter,ifs,0⟩] scope pos) 0 it acc env).onRaise (fun x=>do noteFrame x env;theTreesLotGoes x)) _ _ s;refine wpAny_noted ?_;rw [compTurn_list];refine wpAny_bind (wpAny_standAt (wpAny_bind (wpAny_mono (turn n s hI) (fun r s₁ h₁=>?_) fun _ _ h'=>h')))
 cases r with
 | none=>exact wpAny_pure h₁
 | some v=>
  refine wpAny_bind (wpAny_mono h₁ (fun _ s₁ h₁=>?_) fun _ _ h'=>h');refine wpAny_bind (wpAny_mono h₁ (fun _ s₂ h₂=>wpAny_bind (wpAny_mono h₂ (fun ok s₃ h₃=>?_) fun _ _ h'=>h')) fun _ _ h'=>h')
  cases ok with
  | false=>exact wpAny_pure ⟨rfl,h₃⟩
  | true=>
   exact wpAny_bind (wpAny_bind (wpAny_mono h₃ (fun x s₄ h₄=>wpAny_bind (wpAny_mono h₄ (fun _ s₅ h₅=>wpAny_pure (wpAny_pure ⟨rfl,h₅⟩)) fun _ _ h'=>h')) fun _ _ h'=>h'))
end
noncomputable def PIfs (X:Cx) (ifs:List Expr) (t:TT):Prop:=
 ∀ (pins:List (Addr×Obj)) (s:Shared) (σ:St) (H:Hp) (Q:Bool->Hp->Prop),Inv X pins σ H s->t σ H Q->
  wpAny (model X.prog X.w) X.A (forIn ifs true fun c r=>if r=true then do let ok <- isTrue c X.env (eval c X.env);pure (ForInStep.yield ok) else pure (ForInStep.yield r)) (TP X pins σ Q) X.xe s
noncomputable def tYes:TT:=fun _ H Q=>Q true H
theorem amb : PIfs X [] tYes:=fun _ _ _ H _ I h=>wpAny_tests_nil ⟨H,I,h⟩
theorem amc{c:Expr}{t:TT}(hc:PT X c t):PIfs X [c] t:=fun pins s σ H Q I h=>wpAny_tests_one (hc pins s σ H Q I h)
noncomputable def tComp (wi:TI) (k:Nat) (ixs:List Nat) (g:TG) (c:TT) (te:TE):TE:=fun σ H Q=>wi σ H fun J H1=>∀ D,H1 D=none->
 ∃ (n:Nat) (W:Nat->List V->St->Hp->Prop),W 0 [] (compStart k ixs σ) (A0 H1 D (.lst []))/\∀ i ys σ2 H2,W i ys σ2 H2->H2 D=some (.lst ys)->
  (J.stop i H2/\Q (.ref D) H2)\/
  (i<n/\J.go i H2/\∀ x H',J.yld i H2 x H'->g x σ2 H' fun σ3 H3=>c σ3 H3 fun b H4=>
   if b=true then te σ3 H4 fun y H5=>H5 D=some (.lst ys)/\ys.length<sizeLine/\W (i+1) (ys++[y]) σ3 (A0 H5 D (.lst (ys++[y])))
   else H4 D=some (.lst ys)/\W (i+1) ys σ3 H4)
section
variable {X:Cx} {sc:Scope} {N':List Str} {k:Nat} {ixs:List Nat}
theorem afE{pos:Pos}{J:It}(C:CompOk X.N X.env.scope.names sc N' k ixs)(L8:X.calm=true)(hg:∀ C s₃ H₃ fp pins,PG (N4 X sc N' C s₃ H₃ fp pins) target g)(hc:∀ C s₃ H₃ fp pins,PIfs (N4 X sc N' C s₃ H₃ fp pins) ifs c)(he:∀ C s₃ H₃ fp pins,PE (N4 X sc N' C s₃ H₃ fp pins) elt te){tn:Nat->Heap->Prop}(I:Inv X pins σ H s)(T:Turn X.prog X.w X.K target J fp it tn)(st:tn 0 s.heap)(hf:∀ b∈fp,FpOk X pins H b)(h:∀ D,H D=none->∃ (n:Nat) (W:Nat->List V->St->Hp->Prop),W 0 [] (compStart k ixs σ) (A0 H D (.lst []))/\∀ i ys σ2 H2,W i ys σ2 H2->H2 D=some (.lst ys)->
   (J.stop i H2/\Q (.ref D) H2)\/
   (i<n/\J.go i H2/\∀ x H',J.yld i H2 x H'->g x σ2 H' fun σ3 H3=>c σ3 H3 fun b H4=>
    if b=true then te σ3 H4 fun y H5=>H5 D=some (.lst ys)/\ys.length<sizeLine/\W (i+1) (ys++[y]) σ3 (A0 H5 D (.lst (ys++[y])))
    else H4 D=some (.lst ys)/\W (i+1) ys σ3 H4)){RR:Value->Addr->Result->Shared->Prop}(hRR:∀ D Cc (H':Hp) (s':Shared) (o:Obj) m,Inv X pins σ H' s'->Inv X (pins++[(Cc,o)]) σ H' s'->s'.heap.get? Cc=some o->s'.heap.Ns Cc m->H' Cc=none->Cc≠X.env.locals->X.s₀.heap.objs.size<=Cc->
   (∀ x c,X.env.cells.lookup x=some c->c≠Cc)->(∀ p∈X.pn++pins,p.1≠Cc)->Q (.ref D) H'->RR (.ref D) Cc (.ok .next) s') :
  wpAny (model X.prog X.w) X.A (newList []) (fun acc s₃=>wpAny (model X.prog X.w) X.A (newFunctionEnv sc X.env.globals (cloOf X.env.cells sc.names []) [] X.env.qual none .none (some X.env)) (fun cenv s₄=>
   codeAny (model X.prog X.w) X.A (.compStart (.ListComp elt [⟨target,iter,ifs,0⟩] sc pos) 0 (.ref it) acc { cenv with scope:=relabel sc X.env }) (RR acc cenv.locals) s₄) E s₃) E s:=by
 have fresh:=I.hok.fresh (C2 s.heap.objs.size);obtain ⟨n,W,w0,turn⟩:=h s.heap.objs.size fresh;have hfD:∀ b∈fp,b≠s.heap.objs.size:=fun b hb z=>by
  obtain ⟨o,e,_⟩:=T.obj _ _ st b hb;rw [z] at e;exact absurd (Heap.lt_size e) (r0 _)
 have hf3:∀ b∈fp,FpOk X pins (A0 H s.heap.objs.size (.lst [])) b:=fun b hb=>⟨by rw [B1 (hfD b hb)];exact (hf b hb).1,(hf b hb).2⟩
 have main:∀ (s3:Shared) (h₁:Heap) (t1:Nat),Inv X pins σ (A0 H s.heap.objs.size (.lst [])) s3->(∀ b o,s.heap.get? b=some o->s3.heap.get? b=some o)->h₁.Ns s3.heap.objs.size (fun x=>([]:List (Str×Value)).reverse.lookup x)->
   (∀ b o,s3.heap.get? b=some o->h₁.get? b=some o)->
   tn 0 h₁/\codeAny (model X.prog X.w) X.A (.compLoop (.ListComp elt [⟨target,iter,ifs,0⟩] sc pos) 0 (.ref it) (.ref s.heap.objs.size) (N4 X sc N' s3.heap.objs.size s3 (A0 H s.heap.objs.size (.lst [])) fp pins).env) (RR (.ref s.heap.objs.size) s3.heap.objs.size) { s3 with heap:=h₁,toks:=t1 }:=by
  intro s3 h₁ t1 I3 k3 eD keep3;have eB:tn 0 s3.heap:=T.keep _ _ _ st fun b hb o e=>k3 b o e
  have ho3:∀ b∈fp,∃ o,s3.heap.get? b=some o:=fun b hb=>let ⟨o,e,_⟩:=T.obj _ _ eB b hb;⟨o,e⟩
  have tI:tn 0 h₁:=T.keep _ _ _ eB fun b hb o e=>keep3 b o e
  have B0:Inv (N4 X sc N' s3.heap.objs.size s3 (A0 H s.heap.objs.size (.lst [])) fp pins) [] (compStart k ixs σ) (A0 H s.heap.objs.size (.lst [])) { s3 with heap:=h₁,toks:=t1 }:=an7 C I3 hf3 ho3 eD keep3;refine ⟨tI,?_⟩;have fpX:∀ {H':Hp},(∀ b∈fp,H' b=none)->∀ b∈fp,FpOk (N4 X sc N' s3.heap.objs.size s3 (A0 H s.heap.objs.size (.lst [])) fp pins) [] H' b:=fun {H'} hn b hb=>by
   obtain ⟨o,eo⟩:=ho3 b hb;refine ⟨hn b hb,O6 (Heap.lt_size eo),?_,.inl hb,?_,?_⟩
   ·intro hm
    rcases F9.mp (I3.stkSub b hm) with z | z
    ·exact (hf b hb).2.1 z
    ·exact (hf b hb).2.2.1 z
   ·intro x cc ec;exact (hf b hb).2.2.2.2.1 x cc (jF C I3 ec).1
   ·intro p hp;exact (hf b hb).2.2.2.2.2 p (by simpa [N4] using hp)
  refine agK (fun m s'=>∃ i ys σ' H',m=n-i/\Inv (N4 X sc N' s3.heap.objs.size s3 (A0 H s.heap.objs.size (.lst [])) fp pins) [] σ' H' s'/\tn i s'.heap/\(∀ b∈fp,H' b=none)/\H' s.heap.objs.size=some (.lst ys)/\W i ys σ' H') ?_ n ⟨0,[],_,_,rfl,B0,tI,fun b hb=>(hf3 b hb).1,A5,w0⟩;rintro m s4 ⟨i,ys,σ4,H4,rfl,I4,st4,fr4,hD4,w4⟩;have again:∀ {i':Nat} {ys':List V} {σ7:St} {H7:Hp} {s6 s7:Shared},i<n->i'=i+1->tn i' s6.heap->Inv (N4 X sc N' s3.heap.objs.size s3 (A0 H s.heap.objs.size (.lst [])) fp pins) ([]++iX fp s6.heap) σ7 H7 s7->H7 s.heap.objs.size=some (.lst ys')->W i' ys' σ7 H7->
    ∃ m,m<n-i/\∃ i ys σ' H',m=n-i/\Inv (N4 X sc N' s3.heap.objs.size s3 (A0 H s.heap.objs.size (.lst [])) fp pins) [] σ' H' s7/\tn i s7.heap/\(∀ b∈fp,H' b=none)/\H' s.heap.objs.size=some (.lst ys)/\W i ys σ' H':=fun {i' ys' σ7 H7 s6 s7} C9 ei kW I7 hD w=>by
   subst ei;refine ⟨n-(i+1),by walk_at "o",i+1,ys',σ7,H7,rfl,I7.unpinned,T.keep _ _ _ kW fun b hb o e=>(I7.pin (b,o) (U0 _ (U0 _ (iY hb e)))).1,fun b hb=>?_,hD,w⟩;obtain ⟨o,e,_⟩:=T.obj _ _ kW b hb;exact (I7.pin (b,o) (U0 _ (U0 _ (iY hb e)))).2.1
  rcases turn i ys σ4 H4 w4 hD4 with ⟨stop,q⟩ | ⟨C9,go,step⟩
  ·refine B5 (T.done (N4 X sc N' s3.heap.objs.size s3 (A0 H s.heap.objs.size (.lst [])) fp pins) rfl rfl rfl L8 i [] s4 σ4 H4 _ I4 (fpX fr4) st4 stop) fun r s5 o7=>?_
   obtain ⟨hr,I5⟩:=o7;subst hr;have back:Inv X pins σ H4 s5:=I3.call' (ch:=fp) I5.os I5.base I5.hok I5.bare fun b hb=>⟨(hf b hb).2.2.2.1,(hf b hb).2.1,(hf b hb).2.2.2.2.1,(hf b hb).2.2.2.2.2⟩
   obtain ⟨mm,hn5,_⟩:=I5.loc;obtain ⟨o,es,ep,ho,hd,U7⟩:=id hn5;have hC:s3.heap.objs.size≠X.env.locals:=Nat.ne_of_gt I3.lt;refine hRR s.heap.objs.size s3.heap.objs.size H4 s5 o mm back ?_ ho hn5 I5.free hC I3.sz ?_ ?_ q
   ·refine back.pins_of fun p hp=>?_
    rcases E1.mp hp with z | z
    ·exact back.pin p (U0 _ z)
    ·have e:p=(s3.heap.objs.size,o):=by simpa using z
     subst e;exact ⟨ho,I5.free,hC,I3.nofs (C2 _),fun v z=>by rw [hd] at z;cases z⟩
   ·intro x c e z;obtain ⟨v,q⟩:=I3.cell x c e
    have:=q.lt
    rw [z] at this;exact r0 _ this
   ·intro p hp z
    have:=Heap.lt_size (I3.pin p hp).1
    rw [z] at this;exact r0 _ this
  ·refine B5 (T.item (N4 X sc N' s3.heap.objs.size s3 (A0 H s.heap.objs.size (.lst [])) fp pins) rfl rfl rfl L8 i [] s4 σ4 H4 _ I4 (fpX fr4) st4 go) fun r s5 o7=>?_
   obtain ⟨u,hr,h5⟩:=o7;subst hr;refine B5 h5 fun _ s6 h6=>?_
   obtain ⟨x,H6,I6,r6,y6,kW,fr6⟩:=h6;have I6':=I6.pinned (fpX fr6) (T.obj _ _ kW);refine wpAny_mono (hg _ _ _ _ _ _ s6 σ4 H6 x u _ I6' r6 (step x H6 y6)) (fun _ s7 h7=>?_) fun _ _ z=>False.elim z
   obtain ⟨σ7,H7,I7,q7⟩:=h7;refine wpAny_mono (hc _ _ _ _ _ _ s7 σ7 H7 _ I7 q7) (fun ok s8 h8=>?_) fun _ _ z=>False.elim z
   obtain ⟨H8,I8,q8⟩:=h8
   cases ok with
   | false=>
    rw [if_neg N2] at q8 ⊢
    exact again C9 rfl kW I8 q8.1 q8.2
   | true=>
    rw [if_pos rfl] at q8 ⊢
    refine wpAny_mono (he _ _ _ _ _ _ s8 σ7 H8 _ I8 q8) (fun y s9 h9=>?_) fun _ _ z=>False.elim z
    obtain ⟨yv,H9,I9,r9,hD9,hz9,w9⟩:=h9;refine wpAny_mono (agF (X:=(N4 X sc N' s3.heap.objs.size s3 (A0 H s.heap.objs.size (.lst [])) fp pins)) _ s9 σ7 H9 (.ref s.heap.objs.size) [yv] (.ref s.heap.objs.size) [y] (fun _ H'=>H'=A0 H9 s.heap.objs.size (.lst (ys++[yv]))) I9 rfl (.cons r9 .nil) ⟨_,ys,yv,rfl,rfl,hD9,hz9,rfl⟩) (fun _ s10 h10=>?_) fun _ _ z=>False.elim z
    obtain ⟨_,W8,I10,_,e10⟩:=h10;subst e10;exact again C9 rfl kW I10 A5 w9
 have I3:=I.lnew (ys:=[]) (its:=[]) (t':=s.toks) .nil (G2 _);refine wpAny_newObj_type (wpAny_newFunctionEnv C.cell (by intro y hy;simp at hy) (fun h₁ hns₁ hsb₁=>?_) C.kind);obtain ⟨tI,loop⟩:=main _ h₁ (s.toks+([]:List (Str×Value)).length) I3 (fun b o e=>Heap.get?_push_of_some _ e) hns₁ fun b o e=>hsb₁.extBut b o (O6 (Heap.lt_size e)) (Heap.get?_push_of_some _ e)
 exact codeAny_compStart_list loop (T.self X.A 0 _ _ _ tI loop)
theorem an8{pos:Pos}{wi:TI}(C:CompOk X.N X.env.scope.names sc N' k ixs)(L8:X.calm=true)(hi:PI X target iter wi)(hg:∀ C s₃ H₃ fp pins,PG (N4 X sc N' C s₃ H₃ fp pins) target g)(hc:∀ C s₃ H₃ fp pins,PIfs (N4 X sc N' C s₃ H₃ fp pins) ifs c)(he:∀ C s₃ H₃ fp pins,PE (N4 X sc N' C s₃ H₃ fp pins) elt te)(hs:∀ x,foldedSetIterable iter X.env x=pure x:=by intro _;rfl):PE X (.ListComp elt [⟨target,iter,ifs,0⟩] sc pos) (tComp wi k ixs g c te):=by
 intro pins s σ H Q I h;rw [eval_ListComp];refine wpAny_comprehension_free (use:=none) rfl hs (adG fun x hx hf=>I.ok.has x.1 (C.free x hx hf)) C.kind C.names (B5 (hi pins s σ H _ I h) fun v s1 h1=>B5 h1 fun itv s2 h2=>?_);obtain ⟨it,fp,tn,J,H2,e,I2,T,oF,f2,q2⟩:=h2;subst e;refine afE (RR:=fun acc C=>compPost (model X.prog X.w) X.A X.xe none (EP X pins σ Q) acc C) C L8 hg hc he I2 T oF f2 q2 ?_;intro D Cc H' s' o m I' _ ho hn hC hL eE N8 gU q;exact ⟨m,hn,fun h'' hs''=>⟨.ref D,H',I'.turned (t':=s'.toks) (fun b o hb e=>hs''.extBut b o hb e) hC hL (.inr eE) N8 gU,rfl,q⟩⟩
theorem ajq{pos py:Pos}{wi:TI}{y:Str}(hN:X.N.Nodup)(hiN:X.N[i]?=some y)(hx:l6 X.env.scope y)(C:CompOk X.N X.env.scope.names sc N' k ixs)(L8:X.calm=true)(hi:PI X target iter wi)(hg:∀ C s₃ H₃ fp pins,PG (N4 X sc N' C s₃ H₃ fp pins) target g)(hc:∀ C s₃ H₃ fp pins,PIfs (N4 X sc N' C s₃ H₃ fp pins) ifs c)(he:∀ C s₃ H₃ fp pins,PE (N4 X sc N' C s₃ H₃ fp pins) elt te)(oP:swapsWith (.ListComp elt [⟨target,iter,ifs,0⟩] sc pos) (some (.Name y py)) spos.line X.env=pure true:=by rfl)(hf:X.fn y=true\/X.env.scope.names.lookup y=some .local:=by first | exact .inl rfl | exact .inr rfl | assumption)(hs:∀ x,foldedSetIterable iter X.env x=pure x:=by intro _;rfl):PS X (.Assign [.Name y py] (.ListComp elt [⟨target,iter,ifs,0⟩] sc pos) spos) (tAsg (tComp wi k ixs g c te) (gName i)):=by
 intro pins s σ H D I h;rw [exec_Assign_Name_used _ _ _ _ oP];refine wpAny_bind (wpAny_standAt (wpAny_bind ?_));show wpAny _ X.A (do let _ <- comprehension (.ListComp elt [⟨target,iter,ifs,0⟩] sc pos) sc X.env _ (newList []) false (eval iter X.env) (some (assign (.Name y py) X.env))) _ _ s;refine wpAny_bind (wpAny_mono (wpAny_comprehension_free (use:=some (assign (.Name y py) X.env)) (Q:=fun _ s'=>SP X pins D .next s') rfl hs (adG fun x hx hf=>I.ok.has x.1 (C.free x hx hf)) C.kind C.names
  (B5 (hi pins s σ H _ I h) fun v s1 h1=>B5 h1 fun itv s2 h2=>?_)) (fun _ s' hq=>wpAny_pure (wpAny_pure hq)) fun _ _ e=>e)
 obtain ⟨it,fp,tn,J,H2,e,I2,T,oF,f2,q2⟩:=h2;subst e;refine afE (Q:=fun x H1=>gName i x σ H1 D.nx) (RR:=fun acc C=>compPost (model X.prog X.w) X.A X.xe (some (assign (.Name y py) X.env)) (fun _ s'=>SP X pins D .next s') acc C) C L8 hg hc he I2 T oF f2 q2 ?_;intro Da Cc H' s' o m _ Ip ho hn hC hL eE N8 gU q;show wpAny _ X.A (assign (.Name y py) X.env (.ref Da)) _ _ _;refine wpAny_assign_Name (qO (v:=.ref Da) Ip hN hiN hx rfl (fun s'' I''=>?_) hf);have hC2:=(I''.pin (Cc,o) (U0 _ (U0 _ (E6.mpr rfl)))).1;refine ⟨m,hn.at' fun o' e'=>?_,fun h'' hs''=>?_⟩
 ·rw [ho] at e';cases e';exact hC2
 ·have I3:Inv X pins (σ.set i (some (.ref Da))) H' s'':=I''.unpinned;exact ⟨_,H',I3.turned (t':=s''.toks) (fun b o hb e=>hs''.extBut b o hb e) hC hL (.inr eE) N8 gU,q⟩
end
end L2
end
set_option maxRecDepth 100000
namespace L2
open PySem PySem.Spec PyProof.Rows
section
variable {X:Cx} {a b:Expr} {ta tb:TE} {pos:Pos} {rest:List Expr}
noncomputable def tTru (K:PySem.W.Frag) (te:TE):TT:=fun σ H Q=>te σ H fun x H1=>∃ k,TruV K x H1 k/\Q k H1
theorem aqU(ha:PE X a ta)(he:∀ whole,isTrue a X.env whole=(do let v <- whole;standAt a.pos;holding [v] (truthy v)):=by intro _;rfl):PT X a (tTru X.K ta):=alU ha he
noncomputable def tNotT (K:PySem.W.Frag) (te:TE):TE:=fun σ H Q=>te σ H fun x H1=>∃ k,TruV K x H1 k/\Q (.bl (!k)) H1
end
mutual
inductive Dn (K:PySem.W.Frag) (H:Hp):V->PyData->Prop
 | non:Dn K H .non .none
 | bl (b):Dn K H (.bl b) (.bool b)
 | int (i):Dn K H (.int i) (.int i)
 | str (x):V1 x=true->Dn K H (.str x) (.str x)
 | lst {a xs ds} : E2 K H a xs->DnAll K H xs ds->Dn K H (.ref a) (.list ds)
 | tup {a xs ds} : C7 K H a xs->DnAll K H xs ds->Dn K H (.ref a) (.tuple ds)
inductive DnAll (K:PySem.W.Frag) (H:Hp):List V->List PyData->Prop
 | nil:DnAll K H [] []
 | cons {x xs d ds} : Dn K H x d->DnAll K H xs ds->DnAll K H (x::xs) (d::ds)
end
section
variable {X:Cx} {pins:List (Addr×Obj)} {σ:St} {H:Hp} {s:Shared}
mutual
theorem Dn.reads{K:PySem.W.Frag}{x:V}{d:PyData}(I:Inv X pins σ H s)(hK:X.K=K):Dn K H x d->∀ {u:Value},RelV x u->d.canLay0=true/\∃ as,Reads s.heap u d as
 | .non,u,r=>by cases r;exact ⟨rfl,_,.none⟩
 | .bl b,u,r=>by cases r;exact ⟨rfl,_,.bool b⟩
 | .int i,u,r=>by obtain ⟨t,rfl⟩:=r;exact ⟨rfl,_,.int i t⟩
 | .str x hx,u,r=>by obtain ⟨t,rfl⟩:=r;exact ⟨hx,_,.str x t⟩
 | .lst (a:=a) q hs,u,r=>by
  cases r
  subst hK;obtain ⟨its,rv,⟨o,n,e,c,_,dd⟩,_⟩:=I.list q;obtain ⟨h1,as,h2⟩:=DnAll.reads I rfl hs rv;exact ⟨h1,_,.list e c dd (by simpa using h2)⟩
 | .tup (a:=a) q hs,u,r=>by
  cases r
  subst hK;obtain ⟨its,rv,⟨o,e,c,n,dd⟩,_⟩:=I.tuple q;obtain ⟨h1,as,h2⟩:=DnAll.reads I rfl hs rv;exact ⟨h1,_,.tuple e c dd (by simpa using h2)⟩
theorem DnAll.reads{K:PySem.W.Frag}{xs:List V}{ds:List PyData}(I:Inv X pins σ H s)(hK:X.K=K):DnAll K H xs ds->∀ {us:List Value},Vals xs us->PyData.canLayAll0 ds=true/\∃ as,ReadsAll s.heap us ds as
 | .nil,us,r=>by cases r;exact ⟨rfl,_,.nil⟩
 | .cons h t,us,r=>by
  cases r with
  | cons r1 r2=>
   obtain ⟨c1,a1,q1⟩:=Dn.reads I hK h r1;obtain ⟨c2,a2,q2⟩:=DnAll.reads I hK t r2;exact ⟨by simp [PyData.canLayAll0,c1,c2],_,.cons q1 q2⟩
end
end
mutual
theorem Dn.same{K:PySem.W.Frag}{H H':Hp}(hs:Same H H'){x:V}{d:PyData} : Dn K H x d->Dn K H' x d
 | .non=>.non
 | .bl b=>.bl b
 | .int i=>.int i
 | .str x h=>.str x h
 | .lst q h=>.lst (hs.seq q) (DnAll.same hs h)
 | .tup (a:=a) (xs:=xs) q h=>.tup (by
   rcases q with (q | ⟨o,q⟩) | q
   ·exact .inl (.inl (hs _ _ q))
   ·exact .inl (.inr ⟨o,hs _ _ q⟩)
   ·exact .inr q) (DnAll.same hs h)
theorem DnAll.same{K:PySem.W.Frag}{H H':Hp}(hs:Same H H'){xs:List V}{ds:List PyData} : DnAll K H xs ds->DnAll K H' xs ds
 | .nil=>.nil
 | .cons h t=>.cons (Dn.same hs h) (DnAll.same hs t)
end
theorem l8{K:PySem.W.Frag}{H:Hp} : ∀ {zs:List Str},(∀ z∈zs,V1 z=true)->DnAll K H (zs.map V.str) (zs.map PyData.str)
 | [],_=>.nil
 | z::zs,h=>.cons (.str z (h z M4)) (l8 fun y hy=>h y (M3 _ hy))
theorem bE{K:PySem.W.Frag}{H:Hp} : ∀ {zs:List Int},DnAll K H (zs.map V.int) (zs.map aY)
 | []=>.nil
 | z::zs=>.cons (.int z) bE
theorem vH:∀ (xs ys:List Str),X9 (xs.map PyData.str) (ys.map PyData.str)=decide (xs=ys)
 | [],[]=>by simp [X9]
 | [],_::_=>by simp [X9]
 | _::_,[]=>by simp [X9]
 | x::xs,y::ys=>by
  rw [K4,K4,X9,vH xs ys];rw [show Q9 (.str x) (.str y)=(x==y) by simp [Q9]]
  by_cases h1:x=y
  ·subst h1;simp
  ·simp [h1]
theorem qY:∀ (xs ys:List Int),X9 (xs.map aY) (ys.map aY)=decide (xs=ys)
 | [],[]=>by simp [X9]
 | [],_::_=>by simp [X9]
 | _::_,[]=>by simp [X9]
 | x::xs,y::ys=>by
  rw [K4,K4,X9,qY xs ys];rw [show Q9 (.int x) (.int y)=(x==y) by simp [Q9]]
  by_cases h1:x=y
  ·subst h1;simp
  ·simp [h1]
noncomputable def rAddR (K:PySem.W.Frag) (a b:Addr) (H:Hp) (Q:VK):Prop:=rCat (.ref a) (.ref b) H Q\/rCatT K (.ref a) (.ref b) H Q
theorem rAddR.l{K:PySem.W.Frag}{a b:Addr}{H:Hp}{Q:VK}{xs ys:List V}(h1:H a=some (.lst xs))(h2:H b=some (.lst ys))(h3:xs.length+ys.length<=sizeLine)(h:∀ p,H p=none->Q (.ref p) (A0 H p (.lst (xs++ys)))):rAddR K a b H Q:=.inl ⟨a,b,xs,ys,rfl,rfl,h1,h2,h3,h⟩
theorem rAddR.t{K:PySem.W.Frag}{a b:Addr}{H:Hp}{Q:VK}{xs ys:List V}(h1:C7 K H a xs)(h2:C7 K H b ys)(h0:xs≠[])(h3:xs.length+ys.length<=sizeLine)(he:ys=[]->Q (.ref a) H)(h:ys≠[]->∀ p,H p=none->Q (.ref p) (A0 H p (.tup (xs++ys)))):rAddR K a b H Q:=.inr ⟨a,b,xs,ys,rfl,rfl,h1,h2,h0,h3,he,h⟩
noncomputable def rAddU (K:PySem.W.Frag):V->V->Hp->VK->Prop
 | .int i,.int j,H,Q=>Q (.int (i+j)) H
 | .str i,.str j,H,Q=>i.length+j.length<=sizeLine/\Q (.str (i++j)) H
 | .ref a,.ref b,H,Q=>rAddR K a b H Q
 | _,_,_,_=>False
noncomputable def rMulU:V->V->Hp->VK->Prop
 | .int i,.int j,H,Q=>CMul i j/\Q (.int (i*j)) H
 | .ref a,.int j,H,Q=>rRep (.ref a) (.int j) H Q
 | _,_,_,_=>False
noncomputable def rEqU (K:PySem.W.Frag):V->V->Hp->VK->Prop
 | .int i,.int j,H,Q=>Q (.bl (decide (i=j))) H
 | .str i,.str j,H,Q=>Q (.bl (decide (i=j))) H
 | .bl i,.bl j,H,Q=>Q (.bl (decide (i=j))) H
 | x,y,H,Q=>∃ d e,Dn K H x d/\Dn K H y e/\min d.depth e.depth<=60/\Q (.bl (Q9 d e)) H
noncomputable def rNeU (K:PySem.W.Frag):V->V->Hp->VK->Prop
 | .int i,.int j,H,Q=>Q (.bl (!decide (i=j))) H
 | .str i,.str j,H,Q=>Q (.bl (!decide (i=j))) H
 | .bl i,.bl j,H,Q=>Q (.bl (!decide (i=j))) H
 | x,y,H,Q=>∃ d e,Dn K H x d/\Dn K H y e/\min d.depth e.depth<=60/\Q (.bl (!PyData.eqv d e)) H
noncomputable def rLtU:V->V->Hp->VK->Prop
 | .int i,.int j,H,Q=>Q (.bl (decide (i<j))) H
 | .str i,.str j,H,Q=>Q (.bl (decide (i.cps.toList<j.cps.toList))) H
 | _,_,_,_=>False
noncomputable def rLeU:V->V->Hp->VK->Prop
 | .int i,.int j,H,Q=>Q (.bl (decide (i<=j))) H
 | .str i,.str j,H,Q=>Q (.bl (!decide (j.cps.toList<i.cps.toList))) H
 | _,_,_,_=>False
noncomputable def rGtU:V->V->Hp->VK->Prop
 | .int i,.int j,H,Q=>Q (.bl (decide (j<i))) H
 | .str i,.str j,H,Q=>Q (.bl (decide (j.cps.toList<i.cps.toList))) H
 | _,_,_,_=>False
noncomputable def rGeU:V->V->Hp->VK->Prop
 | .int i,.int j,H,Q=>Q (.bl (decide (j<=i))) H
 | .str i,.str j,H,Q=>Q (.bl (!decide (i.cps.toList<j.cps.toList))) H
 | _,_,_,_=>False
noncomputable def rInR (K:PySem.W.Frag) (neg:Bool) (x:V) (p:Addr) (H:Hp) (Q:VK):Prop:=uU K neg x (.ref p) H Q\/∃ o,DGet H p x o/\Q (.bl (neg.xor o.isSome)) H
theorem rInR.l{K:PySem.W.Frag}{neg:Bool}{x:V}{p:Addr}{H:Hp}{Q:VK}{xs:List V}(h1:E2 K H p xs\/C7 K H p xs)(h2:flatV x=true)(h3:xs.all flatV=true)(h:Q (.bl (neg.xor (dB x xs))) H):rInR K neg x p H Q:=.inl ⟨p,xs,rfl,h1,h2,h3,by cases neg <;> simpa using h⟩
theorem rInR.d{K:PySem.W.Frag}{neg:Bool}{x:V}{p:Addr}{H:Hp}{Q:VK}{o:Option V}(h1:DGet H p x o)(h:Q (.bl (neg.xor o.isSome)) H):rInR K neg x p H Q:=.inr ⟨o,h1,h⟩
noncomputable def rInU (K:PySem.W.Frag) (neg:Bool) (x:V):V->Hp->VK->Prop
 | .str j,H,Q=>∃ i,x=.str i/\Q (.bl (neg.xor (!(Builtin.Str.occurrences j i 0 j.length 1).isEmpty))) H
 | .ref p,H,Q=>rInR K neg x p H Q
 | _,_,_=>False
section
variable {X:Cx} {pins:List (Addr×Obj)} {σ:St} {H:Hp} {s:Shared}
theorem p_add:K9 X (binaryOp .Add) (rAddU X.K):=by
 intro pins s σ H x y v u Q I rx ry h
 cases x <;> cases y <;> try exact h.elim
 ·exact aqv pins s σ H _ _ v u Q I rx ry ⟨_,_,rfl,rfl,h⟩
 ·exact ajh pins s σ H _ _ v u Q I rx ry ⟨_,_,rfl,rfl,h⟩
 ·rcases h with h | h
  ·exact aqP pins s σ H _ _ v u Q I rx ry h
  ·exact an0 pins s σ H _ _ v u Q I rx ry h
theorem p_sub:K9 X (binaryOp .Sub) (aB fun i j=>.int (i-j)):=aqw
theorem p_mul:K9 X (binaryOp .Mult) rMulU:=by
 intro pins s σ H x y v u Q I rx ry h
 cases x <;> cases y <;> try exact h.elim
 ·exact aqx pins s σ H _ _ v u Q I rx ry ⟨_,_,rfl,rfl,h⟩
 ·exact aqQ pins s σ H _ _ v u Q I rx ry h
theorem aqV:K9 X (binaryOp .FloorDiv) (rI CDiv fun i j=>.int (i / j)):=anN
theorem p_mod:K9 X (binaryOp .Mod) (rI (fun _ j=>0<j) fun i j=>.int (i % j)):=aqy
theorem qZ(hu:X.A.units+64<cLine){x y:V}{v u:Value}{Q:VK}(I:Inv X pins σ H s)(rx:RelV x v)(ry:RelV y u)(h:∃ d e,Dn X.K H x d/\Dn X.K H y e/\min d.depth e.depth<=60/\Q (.bl (Q9 d e)) H):wpAny (model X.prog X.w) X.A (compareOp .Eq v u) (EP X pins σ Q) X.xe s:=by
 obtain ⟨d,e,h1,h2,hd,q⟩:=h;obtain ⟨c1,as,r1⟩:=h1.reads I rfl rx;obtain ⟨c2,bs,r2⟩:=h2.reads I rfl ry;exact SeqAt.compareEq_reads r1 r2 c1 c2 (by walk_at "o") ⟨.bl _,H,I,rfl,q⟩
theorem rA(hu:X.A.units+64<cLine){x y:V}{v u:Value}{Q:VK}(I:Inv X pins σ H s)(rx:RelV x v)(ry:RelV y u)(h:∃ d e,Dn X.K H x d/\Dn X.K H y e/\min d.depth e.depth<=60/\Q (.bl (!PyData.eqv d e)) H):wpAny (model X.prog X.w) X.A (compareOp .NotEq v u) (EP X pins σ Q) X.xe s:=by
 obtain ⟨d,e,h1,h2,hd,q⟩:=h;obtain ⟨c1,as,r1⟩:=h1.reads I rfl rx;obtain ⟨c2,bs,r2⟩:=h2.reads I rfl ry;exact SeqAt.compareNe_reads r1 r2 c1 c2 (by walk_at "o") ⟨.bl _,H,I,rfl,q⟩
theorem p_eq(hu:X.A.units+64<cLine):K9 X (compareOp .Eq) (rEqU X.K):=by
 intro pins s σ H x y v u Q I rx ry h;have sc:∀ {x y:V},rEq x y H Q->RelV x v->RelV y u->wpAny (model X.prog X.w) X.A (compareOp .Eq v u) (EP X pins σ Q) X.xe s:=fun {x y} h rx ry=>op_eq pins s σ H x y v u Q I rx ry h
 cases x with
 | int i=>cases y with
  | int j=>exact sc (x:=.int i) (y:=.int j) ⟨rfl,by simpa using (show Q (.bl (decide (i=j))) H from h)⟩ rx ry
  | _=>exact qZ hu I rx ry h
 | str i=>cases y with
  | str j=>exact sc (x:=.str i) (y:=.str j) ⟨rfl,by simpa using (show Q (.bl (decide (i=j))) H from h)⟩ rx ry
  | _=>exact qZ hu I rx ry h
 | bl i=>cases y with
  | bl j=>exact sc (x:=.bl i) (y:=.bl j) ⟨rfl,by simpa using (show Q (.bl (decide (i=j))) H from h)⟩ rx ry
  | _=>exact qZ hu I rx ry h
 | _=>cases y <;> exact qZ hu I rx ry h
theorem p_ne(hu:X.A.units+64<cLine):K9 X (compareOp .NotEq) (rNeU X.K):=by
 intro pins s σ H x y v u Q I rx ry h;have sc:∀ {x y:V},rNe x y H Q->RelV x v->RelV y u->wpAny (model X.prog X.w) X.A (compareOp .NotEq v u) (EP X pins σ Q) X.xe s:=fun {x y} h rx ry=>op_ne pins s σ H x y v u Q I rx ry h
 cases x with
 | int i=>cases y with
  | int j=>exact sc (x:=.int i) (y:=.int j) ⟨rfl,by simpa using (show Q (.bl (!decide (i=j))) H from h)⟩ rx ry
  | _=>exact rA hu I rx ry h
 | str i=>cases y with
  | str j=>exact sc (x:=.str i) (y:=.str j) ⟨rfl,by simpa using (show Q (.bl (!decide (i=j))) H from h)⟩ rx ry
  | _=>exact rA hu I rx ry h
 | bl i=>cases y with
  | bl j=>exact sc (x:=.bl i) (y:=.bl j) ⟨rfl,by simpa using (show Q (.bl (!decide (i=j))) H from h)⟩ rx ry
  | _=>exact rA hu I rx ry h
 | _=>cases y <;> exact rA hu I rx ry h
theorem p_lt:K9 X (compareOp .Lt) rLtU:=by
 intro pins s σ H x y v u Q I rx ry h
 cases x <;> cases y <;> try exact h.elim
 ·exact op_lt pins s σ H _ _ v u Q I rx ry ⟨_,_,rfl,rfl,h⟩
 ·exact agv pins s σ H _ _ v u Q I rx ry ⟨_,_,rfl,rfl,h⟩
theorem p_le:K9 X (compareOp .LtE) rLeU:=by
 intro pins s σ H x y v u Q I rx ry h
 cases x <;> cases y <;> try exact h.elim
 ·exact op_le pins s σ H _ _ v u Q I rx ry ⟨_,_,rfl,rfl,h⟩
 ·obtain ⟨t,rfl⟩:=rx;obtain ⟨t',rfl⟩:=ry;exact PySem.P.le_str ⟨.bl _,H,I,by simp [RelV],h⟩
theorem p_gt:K9 X (compareOp .Gt) rGtU:=by
 intro pins s σ H x y v u Q I rx ry h
 cases x <;> cases y <;> try exact h.elim
 ·exact op_gt pins s σ H _ _ v u Q I rx ry ⟨_,_,rfl,rfl,h⟩
 ·obtain ⟨t,rfl⟩:=rx;obtain ⟨t',rfl⟩:=ry;exact PySem.P.gt_str ⟨.bl _,H,I,rfl,h⟩
theorem p_in(hu:X.A.units+64<cLine):K9 X (compareOp .In) (rInU X.K false):=by
 intro pins s σ H x y v u Q I rx ry h
 cases y with
 | str j=>
  obtain ⟨i,rfl,q⟩:=h;exact akb pins s σ H _ _ v u Q I rx ry ⟨i,j,rfl,rfl,by simpa using q⟩
 | ref p=>
  rcases h with h | ⟨o,g,q⟩
  ·exact akm pins s σ H _ _ v u Q I rx ry h
  ·obtain rfl:u=Value.ref p:=ry;exact d_in (by walk_at "o") I g rx fun s3 I3=>⟨.bl o.isSome,H,I3,rfl,by simpa using q⟩
 | _=>exact h.elim
theorem an9(hu:X.A.units+64<cLine):K9 X (compareOp .NotIn) (rInU X.K true):=by
 intro pins s σ H x y v u Q I rx ry h
 cases y with
 | str j=>
  obtain ⟨i,rfl,q⟩:=h;exact agC pins s σ H _ _ v u Q I rx ry ⟨i,j,rfl,rfl,by simpa using q⟩
 | ref p=>
  rcases h with h | ⟨o,g,q⟩
  ·exact agB pins s σ H _ _ v u Q I rx ry h
  ·obtain rfl:u=Value.ref p:=ry;exact an3 (by walk_at "o") I g rx fun s3 I3=>⟨.bl (!o.isSome),H,I3,rfl,by simpa using q⟩
 | _=>exact h.elim
noncomputable def cutS (x:Str) (lo hi:Option Int):Str:=⟨((x.cps.toList.drop (HT.sIx x.length 0 lo)).take (HT.sIx x.length x.length hi-HT.sIx x.length 0 lo)).toArray⟩
noncomputable def rSlS:V->Option Int->Option Int->Hp->VK->Prop:=fun x lo hi H Q=>∃ z,x=.str z/\z.length<=sizeLine/\Q (.str (cutS z lo hi)) H
end
end L2
variable {C a b f fa it r sl:PySem.Addr}{dvs vs xs ys:List L2.V}{Q:L2.VK}{cd ct oc pm u v vl vu:PySem.Value}{ck i j k m n t' x1:Nat}{items items2:Array PySem.Value}{fr ns:List Int}{its its' us:List PySem.Value}{pins:List (PySem.Addr×PySem.Obj)}{σ:L2.St}{H H' H0 H1 H2 H3 H₃:L2.Hp}{s s₃:PySem.Shared}{name p q qual z z':PySem.Str}{A:PySem.Around}{v' x y:L2.V}{h h':PySem.Heap}{L M N N' acc bad g' ks line loose ls ms ps qs ts zs:List PySem.Str}{K:PySem.W.Frag}{mg:PySem.Str->Option PySem.Value}{fd:PySem.FuncData}{sp:L2.Sp}{X:L2.Cx}{kvs:List (L2.C6×L2.V)}{prog:PySem.Program}{E:PySem.Value->PySem.Shared->Prop}{ixs pre:List Nat}{e elt iter target tg:PySem.Expr}{elts ifs:List PySem.Expr}{g:L2.TG}{c:L2.TT}{td te ti tl to tx ty:L2.TE}{fp l₁ rs:List PySem.Addr}{apos cpos kpos p2 spos tpos:PySem.Pos}{calm fg neg:Bool}{st:PySem.Stmt}{an od:Option PySem.Addr}{tb:L2.TS}{D:L2.Ends}{lo:Int}{o:PySem.Obj}{ta:L2.TA}{ss:Array (Option PySem.Value)}
set_option maxRecDepth 100000
namespace L2
open PySem PySem.Spec PyProof.Rows
section
variable {X:Cx}
theorem akx(x:Str)(lo hi:Option Int):Txt.slice x lo hi=cutS x lo hi:=by
 have c1:∀ (o:Option Int) (d:Nat),(match o with | none=>(d:Int) | some i=>if (1:Int) > 0 then max 0 (min (if i<0 then i+(x.length:Int) else i) (x.length:Int)) else max (-1) (min (if i<0 then i+(x.length:Int) else i) ((x.length:Int)-1)))=((HT.sIx x.length d o:Nat):Int):=by
  intro o d
  cases o with
  | none=>rfl
  | some i=>
   rw [<- HT.clip_eq i x.length d];simp only [show ((1:Int) > 0)=True by simp,if_true]
   split <;> walk_at "o"
 have h2:Builtin.Str.strSliceIndices lo hi 1 x.length=Builtin.Str.strSliceIndices (some ((HT.sIx x.length 0 lo:Nat):Int)) (some ((HT.sIx x.length x.length hi:Nat):Int)) 1 x.length:=by
  have e1:=c1 lo 0;have e2:=c1 hi x.length;have e3:=c1 (some ((HT.sIx x.length 0 lo:Nat):Int)) 0;have e4:=c1 (some ((HT.sIx x.length x.length hi:Nat):Int)) x.length;have l1:=HT.sIx_le x.length 0 (G2 _) lo;have l2:=HT.sIx_le x.length x.length (C2 _) hi;rw [HT.sIx_nat,cV l1] at e3;rw [HT.sIx_nat,cV l2] at e4;unfold Builtin.Str.strSliceIndices
  dsimp only at e3 e4 ⊢
  rw [e3,e4];clear e3 e4 l1 l2;refine congr (congr (congrArg sliceRange ?_) ?_) rfl
  ·cases lo with
   | none=>exact e1
   | some i=>exact e1
  ·cases hi with
   | none=>exact e2
   | some i=>exact e2
 have l1:=HT.sIx_le x.length 0 (G2 _) lo;have l2:=HT.sIx_le x.length x.length (C2 _) hi;unfold Txt.slice cutS;rw [h2];generalize HT.sIx x.length 0 lo=a at *;generalize HT.sIx x.length x.length hi=b at *;have len:x.length=x.cps.toList.length:=by simp [Str.length]
 by_cases eE:a<=b
 ·rw [StrLaws.sliced_plain x eE l2,StrLaws.strSliceIndices_plain eE l2]
  split
  ·rename_i hc
   have f9:b-a=x.length:=by simpa using hc
   have ha:a=0:=by walk_at "o"
   subst ha;rw [List.drop_zero,y8 (by walk_at "o")]
  ·rfl
 ·have e:Builtin.Str.strSliceIndices (some (a:Int)) (some (b:Int)) 1 x.length=[]:=by
   have h1:¬ ((a:Int)<0):=by walk_at "o"
   have h2:¬ ((b:Int)<0):=by walk_at "o"
   have e1:max (0:Int) (min (a:Int) (x.length:Int))=a:=by walk_at "o"
   have e2:max (0:Int) (min (b:Int) (x.length:Int))=b:=by walk_at "o"
   simp only [Builtin.Str.strSliceIndices,sliceRange,h1,h2,if_false,e1,e2,show ((1:Int) > 0)=True from by simp,if_true];rw [if_neg (by walk_at "o")];rfl
  rw [e,show b-a=0 by walk_at "o",b8]
  split
  ·rename_i hc
   have f9:0=x.length:=by simpa using hc
   have:x.cps.toList=[]:=List.eq_nil_of_length_eq_zero (by walk_at "o")
   obtain ⟨⟨l⟩⟩:=x;simp at this;subst this;rfl
  ·rfl
theorem aqW:jA X rSlS:=by
 intro pins s σ H x v vl vu lo hi sl Q I rx hs pl pu h;obtain ⟨z,rfl,hz,q⟩:=h;obtain ⟨t,rfl⟩:=rx;refine ⟨"str",_,F.slot_str_getitem.lookup,typeIs_str _ _ _,?_⟩;rw [<- akx] at q;have part:∀ {u:Value} {o:Option Int},IsPart u o->∃ l:Option (Int×Tok),u=partValue l/\l.map (·.1)=o:=fun {u o} p=>by
  cases p with
  | none=>exact ⟨none,rfl,rfl⟩
  | int i t=>exact ⟨some (i,t),rfl,rfl⟩
 obtain ⟨l,rfl,el⟩:=part pl;obtain ⟨u,rfl,eu⟩:=part pu;subst el eu;refine wpAny_getItem_str_slice (l:=l) (u:=u) (st:=none) hs rfl ?_;exact post_val_or_str ⟨L3 (Txt.slice_le z _ _) hz,fun t' k=>⟨.str _,H,I.tok _,⟨t',rfl⟩,q⟩⟩
theorem ad5{w:World}{t:Addr}{lo hi:Option Int}{Q:Value->Shared->Prop}(ht:IsTup s.heap t items)(hs:s.heap.IsSliceOf sl vl vu .none)(pl:IsPart vl lo)(pu:IsPart vu hi)(hw:HT.sIx items.size 0 lo=0/\HT.sIx items.size items.size hi=items.size)(h:Q (.ref t) s):wpAny (model prog w) A (getItem (.ref t) (.ref sl)) Q E s:=by
 obtain ⟨os,aN,tG,oI⟩:=id hs;have hTs:s.TypeIs (.ref sl) "slice":=⟨os,aN,tG⟩
 unfold getItem
 try with_reducible refine wpAny_holding ?_
 first | refine wpAny_bind (wpAny_pure ?_) | skip
 refine wpAny_bind (wpAny_sequenceKey ht.typeIs (by decide) ?_);refine wpAny_bind (wpAny_callSpecial?_slot (name:=Str.ofString "__getitem__") ht.typeIs PyProof.Rows.slot_tuple_getitem
  (wpAny_call_entry PyProof.Rows.slot_tuple_getitem ht.typeIs PyProof.Rows.entry_tuple_getitem ?_ (PyProof.Rows.args_tuple_getitem _ _)))
 show wpAny _ _ (Builtin.Tuple.tupleItemsOf (.ref t) >>= _) _ _ s;refine wpAny_bind (PyProof.Rows.tupleItemsOf_ ht ?_);refine wpAny_bind (wpAny_typeOf hTs ?_);rw [if_pos (by decide)];refine wpAny_bind (HT.sliceApplied_gen hs pl pu ?_);have zZ:((((HT.sIx items.size 0 lo:Nat):Int)==0&&(1:Int)==1&&(HT.sIx items.size items.size hi-HT.sIx items.size 0 lo)==items.size)=true):=by
  rw [hw.1,hw.2]
  simp
 show wpAny _ _ (if (((HT.sIx items.size 0 lo:Nat):Int)==0&&(1:Int)==1&&(HT.sIx items.size items.size hi-HT.sIx items.size 0 lo)==items.size)=true then _ else _) _ _ s;rw [if_pos zZ];refine wpAny_bind ?_;show wpAny _ _ (typeOf (.ref t) >>= fun v=>pure (v == .type "tuple")) _ _ s;refine wpAny_bind (wpAny_typeOf ht.typeIs (wpAny_pure ?_));rw [if_pos (by decide)];refine wpAny_bind (wpAny_rule ?_);exact wpAny_pure ⟨_,rfl,wpAny_pure h⟩
noncomputable def rSlW (K:PySem.W.Frag):V->Option Int->Option Int->Hp->VK->Prop:=fun x lo hi H Q=>∃ a xs,x=.ref a/\C7 K H a xs/\(HT.sIx xs.length 0 lo=0/\HT.sIx xs.length xs.length hi=xs.length)/\Q (.ref a) H
theorem aqX:jA X (rSlW X.K):=by
 intro pins s σ H x v vl vu lo hi sl Q I rx hs pl pu h;obtain ⟨a,xs,rfl,hx,hw,q⟩:=h
 cases rx
 obtain ⟨its,r,ht,hz⟩:=I.tuple hx;have A9:its.toArray.size=xs.length:=by rw [L5];exact r.length.symm
 refine ⟨"tuple",_,PyProof.Rows.slot_tuple_getitem.lookup,ht.typeIs,?_⟩;exact ad5 ht hs pl pu (by rw [A9];exact hw) ⟨.ref a,H,I,rfl,q⟩
noncomputable def rSlR (K:PySem.W.Frag) (a:Addr) (lo hi:Option Int) (H:Hp) (Q:VK):Prop:=rSlL K (.ref a) lo hi H Q\/rSlT K (.ref a) lo hi H Q\/rSlW K (.ref a) lo hi H Q
theorem rSlR.l{lo hi:Option Int}(h1:E2 K H a xs)(h:∀ p,H p=none->Q (.ref p) (A0 H p (.lst (cutV xs lo hi)))):rSlR K a lo hi H Q:=.inl ⟨a,xs,rfl,h1,h⟩
theorem rSlR.t{lo hi:Option Int}(h1:C7 K H a xs)(h2:¬ (HT.sIx xs.length 0 lo=0/\HT.sIx xs.length xs.length hi=xs.length))(h:∀ p,H p=none->Q (.ref p) (A0 H p (.tup (cutV xs lo hi)))):rSlR K a lo hi H Q:=.inr (.inl ⟨a,xs,rfl,h1,h2,h⟩)
theorem rSlR.w{lo hi:Option Int}(h1:C7 K H a xs)(h2:HT.sIx xs.length 0 lo=0/\HT.sIx xs.length xs.length hi=xs.length)(h:Q (.ref a) H):rSlR K a lo hi H Q:=.inr (.inr ⟨a,xs,rfl,h1,h2,h⟩)
noncomputable def rSlU (K:PySem.W.Frag):V->Option Int->Option Int->Hp->VK->Prop
 | .str z,lo,hi,H,Q=>z.length<=sizeLine/\Q (.str (cutS z lo hi)) H
 | .ref a,lo,hi,H,Q=>rSlR K a lo hi H Q
 | _,_,_,_,_=>False
theorem p_sl:jA X (rSlU X.K):=by
 intro pins s σ H x v vl vu lo hi sl Q I rx hs pl pu h
 cases x with
 | str z=>exact aqW pins s σ H _ v vl vu lo hi sl Q I rx hs pl pu ⟨z,rfl,h⟩
 | ref a=>
  rcases h with h | h | h
  ·exact an1 pins s σ H _ v vl vu lo hi sl Q I rx hs pl pu h
  ·exact aqK pins s σ H _ v vl vu lo hi sl Q I rx hs pl pu h
  ·exact aqX pins s σ H _ v vl vu lo hi sl Q I rx hs pl pu h
 | _=>exact h.elim
noncomputable def LenR (K:PySem.W.Frag) (H:Hp) (p:Addr) (n:Nat):Prop:=(∃ xs,E2 K H p xs/\n=xs.length)\/(∃ xs,C7 K H p xs/\n=xs.length)\/∃ kvs,Rd H p (.dK kvs)/\n=kvs.length
noncomputable def rLenU (K:PySem.W.Frag):List V->Hp->VK->Prop
 | [.str z],H,Q=>z.length<=sizeLine/\Q (.int z.length) H
 | [.ref p],H,Q=>∃ n:Nat,LenR K H p n/\Q (.int n) H
 | _,_,_=>False
theorem p_len:CallR X (.builtin "len") (rLenU X.K):=by
 intro pins s σ H xs us Q I r h
 match xs,h with
 | [.str z],h=>exact uM pins s σ H _ us Q I r ⟨.str z,z.length,rfl,⟨h.1,rfl⟩,h.2⟩
 | [.ref p],⟨n,l,q⟩=>
  rcases l with ⟨xs,l,rfl⟩ | ⟨xs,l,rfl⟩ | ⟨kvs,l,rfl⟩
  ·exact uM pins s σ H _ us Q I r ⟨.ref p,_,rfl,.inl ⟨xs,l,rfl⟩,q⟩
  ·exact uM pins s σ H _ us Q I r ⟨.ref p,_,rfl,.inr ⟨xs,l,rfl⟩,q⟩
  ·obtain ⟨u,rfl,ru⟩:=vals1 r
   cases ru
   exact d_len I l fun t s' I'=>⟨.int kvs.length,H,I',⟨t,rfl⟩,q⟩
theorem afj(hc:X.calm=true):CallR X (.type "list") (fun xs H Q=>∃ d kvs,xs=[.ref d]/\Rd H d (.dK kvs)/\∀ l,H l=none->Q (.ref l) (A0 H l (.lst (kvs.map fun kv=>kV kv.1)))):=by
 intro pins s σ H xs us Q I r h;obtain ⟨d,kvs,rfl,e,q⟩:=h;obtain ⟨u,rfl,rx⟩:=vals1 r
 cases rx
 obtain ⟨z,hd,vs,rel,dd⟩:=dk_rd I.hok e;obtain ⟨ep,K6⟩:=dd.dictAt;have hl:=rel.length;refine PySem.W.kdl_call (PySem.W.kdl_dict (knd:=P3 X.prog X.w) (kvs:=vs) (ep:=ep) hd) (I.ok.hd hc) K6 (by walk_at "o") fun h' tk acc c' kp hD bX=>?_
 have hv:Vals (kvs.map fun kv=>kV kv.1) acc.toList:=by
  have hk:=rel.keys;have A9:acc.toList.length=kvs.length:=by rw [fI,bX.1,hl]
  have key:∀ (ks:List C6) (us:List Value),us.length=ks.length->(∀ (j:Nat) (v:Value),us[j]?=some v->∃ k,ks[j]?=some k/\keyIs k v=true)->Vals (ks.map kV) us:=by
   intro ks
   induction ks with
   | nil=>intro us h1 _;cases us with
    | nil=>exact .nil
    | cons _ _=>simp at h1
   | cons k ks ih=>
    intro us h1 h2
    cases us with
    | nil=>simp at h1
    | cons u us=>
     obtain ⟨k',e1,e2⟩:=h2 0 u rfl;simp at e1;subst e1;refine .cons ?_ (ih us (by simpa using h1) fun j v hj=>by simpa using h2 (j+1) v (by simpa using hj))
     rcases r8 e2 with ⟨i,t,rfl,rfl⟩ | ⟨x,t,rfl,rfl⟩
     ·exact ⟨t,rfl⟩
     ·exact ⟨t,rfl⟩
  rw [show (kvs.map fun kv=>kV kv.1)=(kvs.map (·.1)).map kV by rw [X7];rfl];refine key _ _ (by rw [A9,A6]) fun j v hj=>?_
  obtain ⟨k,x,hx,hk'⟩:=bX.2 j v (by rw [<- Array.getElem?_toList];exact hj);refine ⟨k,?_,hk'⟩;rw [hk,V7,hx];rfl
 refine ⟨.ref s.heap.objs.size,_,I.laid (t':=tk) kp (C2 _) (show ObjOk X.prog X.w _ h' _ (.lst (kvs.map fun kv=>kV kv.1)) from ⟨by rw [A6];exact z,acc.toList,c',hv,by simpa using hD⟩),rfl,q _ (I.hok.fresh (C2 _))⟩
noncomputable def rListR (K:PySem.W.Frag) (calm:Bool) (p:Addr) (H:Hp) (Q:VK):Prop:=(∃ ys,(E2 K H p ys\/C7 K H p ys)/\∀ l,H l=none->Q (.ref l) (A0 H l (.lst ys)))\/(calm=true/\∃ kvs,Rd H p (.dK kvs)/\∀ l,H l=none->Q (.ref l) (A0 H l (.lst (kvs.map fun kv=>kV kv.1))))
theorem rListR.l{p:Addr}(h1:E2 K H p ys\/C7 K H p ys)(h:∀ l,H l=none->Q (.ref l) (A0 H l (.lst ys))):rListR K calm p H Q:=.inl ⟨ys,h1,h⟩
theorem rListR.d{p:Addr}(h1:Rd H p (.dK kvs))(h:∀ l,H l=none->Q (.ref l) (A0 H l (.lst (kvs.map fun kv=>kV kv.1)))):rListR K true p H Q:=.inr ⟨rfl,kvs,h1,h⟩
noncomputable def vI (K:PySem.W.Frag) (calm:Bool):List V->Hp->VK->Prop
 | [.ref p],H,Q=>rListR K calm p H Q
 | _,_,_=>False
theorem aqY:CallR X (.type "list") (vI X.K X.calm):=by
 intro pins s σ H xs us Q I r h
 match xs,h with
 | [.ref p],h=>
  rcases h with ⟨ys,h1,h2⟩ | ⟨hc,kvs,h1,h2⟩
  ·exact agD pins s σ H _ us Q I r ⟨p,ys,rfl,h1,h2⟩
  ·exact afj hc pins s σ H _ us Q I r ⟨p,kvs,rfl,h1,h2⟩
noncomputable def rAllB (calm:Bool):List V->Hp->VK->Prop
 | [.ref p],H,Q=>∃ bs:List Bool,calm=true/\H p=some (.lst (bs.map V.bl))/\Q (.bl (bs.all id)) H
 | _,_,_=>False
noncomputable def tyS (H:Hp):V->Option String
 | .non=>some "NoneType"
 | .bl _=>some "bool"
 | .int _=>some "int"
 | .str _=>some "str"
 | .ref a=>match H a with
  | some (.lst _)=>some "list"
  | some (.frz _ (.lst _))=>some "list"
  | some (.tup _)=>some "tuple"
  | some (.dK _)=>some "dict"
  | _=>none
 | _=>none
noncomputable def isB (T n:String):Bool:=T==n || (T == "bool" && n == "int")
noncomputable def isTys:List String:=["str", "int", "bool", "list", "tuple", "dict"]
noncomputable def rIsi:List V->Hp->VK->Prop
 | [x,.ty n],H,Q=>∃ T,tyS H x=some T/\isTys.contains n=true/\Q (.bl (isB T n)) H
 | _,_,_=>False
noncomputable def rOrd:List V->Hp->VK->Prop
 | [.str z],H,Q=>z.length=1/\Q (.int (z.cps.getD 0 0:Nat)) H
 | _,_,_=>False
theorem p_ord:CallR X (.builtin "ord") rOrd:=by
 intro pins s σ H xs us Q I r h
 match xs,h with
 | [.str z],h=>exact alV pins s σ H _ us Q I r ⟨z,rfl,h⟩
noncomputable def jG (x:Str):It:=⟨fun i _=>i<x.cps.size,fun i H v H'=>H'=H/\∃ c,x.cps.toList[i]?=some c/\v=.str ⟨#[c]⟩,fun i _=>x.cps.size<=i⟩
theorem amd{P:Program}{w:World}{ty:String}(W6:ty="str_ascii_iterator"\/ty="str_iterator")(it:Addr)(x:Str)(t:Tok):Turn P w K tg (jG x) [it] it (fun i h=>h.IsStrIter it ty x t i) where
 mem:=by simp
 obj:=fun i h st b hb=>by
  have e:b=it:=by simpa using hb
  subst e;obtain ⟨o,e,c,d⟩:=st;exact ⟨o,e,fun v z=>by rw [d] at z;cases z⟩
 keep:=fun i h h' st k=>let ⟨o,e,r⟩:=st;⟨o,k it (by simp) o e,r⟩
 item:=by
  intro X hP hw hK hc i pins s σ H E I hf st hg;subst hP hw hK;obtain ⟨f0,f1,f2,f3,f4,f5⟩:=hf it (by simp);have kX:i<x.cps.size:=hg;have go:∀ h',h'.IsStrIter it ty x t (i+1)->Heap.SameBut it s.heap h'->∃ u,some (Value.str ⟨#[x.cps[i]]⟩ s.toks)=some u/\
    wpAny (model X.prog X.w) X.A (letOwnedTupleGo tg (.ref it) u) (fun _ s2=>∃ y H',Inv X pins σ H' s2/\RelV y u/\(jG x).yld i H y H'/\s2.heap.IsStrIter it ty x t (i+1)/\∀ b∈[it],H' b=none) E { s with heap:=h',toks:=s.toks+1 }:=by
   intro h' st' sb;have I1:Inv X pins σ H { s with heap:=h',toks:=s.toks+1 }:=I.turned (t':=s.toks+1) (fun b o hb e=>(sb.2 b hb).trans e) f0 f1 f3 f4 f5;obtain ⟨o,e,c,d⟩:=id st';refine ⟨_,rfl,go_of (s:={ s with heap:=h',toks:=s.toks+1 }) e c d (by rcases W6 with rfl | rfl <;> decide) ⟨.str ⟨#[x.cps[i]]⟩,H,I1,⟨_,rfl⟩,⟨rfl,x.cps[i],?_,rfl⟩,st',fun b hb=>(hf b hb).1⟩⟩;simp [kX]
  rcases W6 with rfl | rfl
  ·exact wpAny_pyNext_ascii_item st (c:=x.cps[i]) (by simp [kX]) go
  ·exact wpAny_pyNext_wide_item st (c:=x.cps[i]) (by simp [kX]) go
 done:=by
  intro X hP hw hK hc i pins s σ H E I hf st hg;subst hP hw hK;obtain ⟨f0,f1,f2,f3,f4,f5⟩:=hf it (by simp);have kX:x.cps.size<=i:=hg;have fin:∀ h',Heap.ExtBut it s.heap h'->(none:Option Value)=none/\Inv X pins σ H { s with heap:=h' }:=fun h' eb=>⟨rfl,I.turned (t':=s.toks) (fun b o hb e=>eb b o hb e) f0 f1 f3 f4 f5⟩
  rcases W6 with rfl | rfl
  ·exact wpAny_pyNext_ascii_end (I.ok.hd hc) st (by simp [kX]) fin
  ·exact wpAny_pyNext_wide_end (I.ok.hd hc) st (by simp [kX]) fin
 self:=fun A i s Q E st h=>by
  rcases W6 with rfl | rfl
  ·exact wpAny_pyIter_striter_ascii st h
  ·exact wpAny_pyIter_striter_wide st h
noncomputable def iStr (tl:TE):TI:=fun σ H R=>tl σ H fun x H1=>∃ z,x=.str z/\R (jG z) H1
variable {tg:Expr}
theorem aqZ{l:Expr}(hl:PE X l tl):PI X tg l (iStr tl):=by
 intro pins s σ H R I h;refine B5 (hl pins s σ H _ I h) fun v s1 ⟨x,H1,I1,r1,q1⟩=>?_
 obtain ⟨z,rfl,q⟩:=q1;obtain ⟨t,rfl⟩:=r1;have fin:∀ (ty:String) (W6:ty="str_ascii_iterator"\/ty="str_iterator"),uJ X pins σ tg R (.ref s1.heap.objs.size) { s1 with heap:=s1.heap.push { cls:=.type ty,data:=.fields #[.str z t,.int 0 0] } }:=fun ty W6=>by
  refine ⟨s1.heap.objs.size,[s1.heap.objs.size],_,_,H1,rfl,I1.kept (t':=s1.toks) fun b o e=>Heap.get?_push_of_some _ e,amd W6 s1.heap.objs.size z t,⟨_,Heap.get?_push_size _ rfl,rfl,rfl⟩,fun b hb=>?_,q⟩;have e:b=s1.heap.objs.size:=by simpa using hb
  subst e;exact I1.fpOk (C2 _) (I1.hok.fresh (C2 _))
 cases ha:z.cps.all (· < 128)
 ·exact wpAny_pyIter_wide ha (fin _ (.inr rfl))
 ·exact wpAny_pyIter_ascii ha (fin _ (.inl rfl))
end
end L2
set_option maxRecDepth 100000
namespace L2
open PySem PySem.Spec PyProof.Rows
noncomputable def M5:Expr->Bool
 | .Starred _ _=>true
 | _=>false
noncomputable def Y2 (es:List Expr):Bool:=es.all fun e=>!M5 e
theorem O7{es:List Expr}{env:Env}(h:M5 e=false):starEach (e::es) env=(false,eval e env)::starEach es env:=by
 cases e <;> first | rfl | cases h
theorem fQ{pos:Pos}{env:Env} : ∀ {es:List Expr},Y2 es=true->(backTo pos (starEach es env)).any (·.1)=false
 | [],_=>rfl
 | e::es,h=>by
  have h':(!M5 e&&Y2 es)=true:=h;rw [T4] at h';rw [O7 (by simpa using h'.1)];have ih:=fQ (pos:=pos) (env:=env) h'.2;unfold backTo at ih ⊢
  rw [K4,aV,ih];rfl
theorem aiC{pos:Pos}{env:Env} : ∀ {es:List Expr},Y2 es=true->(backTo pos (starEach es env)).all (fun x=>!x.1)=true
 | [],_=>rfl
 | e::es,h=>by
  have h':(!M5 e&&Y2 es)=true:=h;rw [T4] at h';rw [O7 (by simpa using h'.1)];have ih:=aiC (pos:=pos) (env:=env) h'.2;unfold backTo at ih ⊢
  rw [K4,List.all_cons,ih];rfl
section
variable {X:Cx} {e:Expr} {es:List Expr} {te:TE} {t:TA} {x:Str} {p pos:Pos} {id T:String} {r:List V->Hp->VK->Prop}
theorem pa_c(ha:PE X e te)(hr:PA X es t)(h:M5 e=false:=by rfl):PA X (e::es) (tCons te t):=anT ha hr (O7 h)
theorem pe_cB(hc:CallR X (.builtin id) r)(hg:Gl X x)(hm:X.mg x=none)(hv:bootBuiltins x=some (.builtin id))(ha:PA X (e::es) t)(h1:M5 e=false:=by rfl)(h2:Y2 es=true:=by rfl)(hn:x≠"__name__":=by decide)(T8:(x==("__debug__" : Str))=false:=by decide) :
  PE X (.Call (.Name x p) (e::es) [] pos) (fM r t):=al0 hc hg hm hv ha hn T8 (O7 h1) (fQ h2)
theorem pe_cT(hc:CallR X (.type T) r)(hg:Gl X x)(hm:X.mg x=none)(hv:bootBuiltins x=some (.type T))(ha:PA X (e::es) t)(h1:M5 e=false:=by rfl)(h2:Y2 es=true:=by rfl)(hn:x≠"__name__":=by decide)(T8:(x==("__debug__" : Str))=false:=by decide) :
  PE X (.Call (.Name x p) (e::es) [] pos) (fM r t):=akj hc hg hm hv ha hn T8 (O7 h1) (fQ h2)
variable {o:Expr} {to:TE} {name:Str} {apos cpos:Pos} {rm:V->List V->Hp->VK->Prop}
theorem pe_mB(pa:PlainAttrs T)(slot:Slot T name id)(W6:typeOf (.builtin id)=pure (.type "method_descriptor"))(hm:qU X id rm)(ho:PE X o to)(ha:PA X (e::es) t)(h1:M5 e=false:=by rfl)(h2:Y2 es=true:=by rfl)(h3:decide ((e::es).length<30)=true:=by rfl)(G9:attributeBase o name X.env (eval o X.env)=eval o X.env:=by rfl)(I0:(apos.endLine==cpos.line)=true:=by rfl):PE X (.Call (.Attribute o name apos) (e::es) [] cpos) (jB X.K T rm to t):=
 pe_bm pa slot W6 hm ho ha G9 (by
  rw [aiC (show Y2 (e::es)=true by show (!M5 e&&Y2 es)=true;rw [h1,h2];rfl)];have h3':(e::es).length<30:=of_decide_eq_true h3;simp only [List.isEmpty_nil,if_true,b0,Nat.add_zero,Bool.true_and];rw [decide_eq_true h3'];rfl) I0 (O7 h1) (fQ h2)
variable {tg a b:Expr} {ta:TA}
theorem pi_r1(hg:Gl X "range")(hm:X.mg "range"=none)(ha:PA X [a] ta)(h1:M5 a=false:=by rfl):PI X tg (.Call (.Name "range" p) [a] [] pos) (iRng1 ta):=aj4 hg hm ha (by rw [O7 h1];rfl)
theorem pi_r2(hg:Gl X "range")(hm:X.mg "range"=none)(ha:PA X [a,b] ta)(h1:M5 a=false:=by rfl)(h2:M5 b=false:=by rfl):PI X tg (.Call (.Name "range" p) [a,b] [] pos) (iRng2 ta):=aj5 hg hm ha (by rw [O7 h1,O7 h2];rfl) (by rw [O7 h2];rfl)
end
noncomputable def FO (P:Program) (w:World) (K:PySem.W.Frag) (mg:Str->Option Value) (base:Heap) (k:Nat) (x:Str) (ps:List Str) (dvs:List V) (sp:Sp):Prop:=
 ∃ f fd,FnOk P w K mg base E8 k f fd ps sp/\mg x=some (.ref f)/\V8 K (.ref f)=true/\∃ ds,Binds K fd ps ds/\Vals dvs ds
structure FunD(K:PySem.W.Frag)(x qual:Str)(st:Stmt)(f:Addr)(fd:FuncData):Prop where
 ex:∃ (oc:Value) (od:Option Addr) (dV kV doc pm:Value) (an:Option Addr) (cdv ct:Value) (osl:Array (Option Value)),
  fd=U3 x qual (V9 st) (V2 st) (C3 st) dV kV doc pm an cdv ct/\K.lookup f=some ⟨oc,od,.func fd,osl⟩/\X8 K cdv qual=true
section
variable {P:Program} {w:World} {K:PySem.W.Frag} {mg:Str->Option Value} {base:Heap}
theorem FunD.ok{x:Str}(F:FunD K x qual st f fd)(S:FnScope N ps (C3 st))(len:∀ vs H Q E,sp vs H Q E->vs.length=ps.length)(v9:∀ (cdv:Value) (A:Around) (outer:List Env) (s:Shared) (H:Hp) (vs:List V) (Q:VK) (E:XK),Room k (A.deeper (envOfC qual (C3 st) s.heap.objs.size f cdv))->sp vs H Q E->
   ∃ t,Z0 (cxOf E8 P w K mg base N qual (C3 st) f cdv A outer s H E).nox (V2 st) t/\t { nx:=fun _ H'=>Q .non H',rt:=Q } (start N vs) H):FnOk P w K mg base E8 (k+1) f fd ps sp:=by
 obtain ⟨oc,od,dV,kV,doc,pm,an,cdv,ct,osl,rfl,lk,T6⟩:=F.ex;refine fn_of lk T6 S len fun A outer s H vs Q E hr eC=>?_
 obtain ⟨t,h,q⟩:=v9 cdv A outer s H vs Q E hr eC;exact ⟨t,h.nox,q⟩
theorem t7{x:Str}{osl:Array (Option Value)}{dV kV doc cdv:Value}(l:K.lookup f=some ⟨oc,od,.func (U3 x qual (V9 st) (V2 st) (C3 st) dV kV doc pm an cdv ct),osl⟩)(c:X8 K cdv qual=true):FunD K x qual st f (U3 x qual (V9 st) (V2 st) (C3 st) dV kV doc pm an cdv ct):=⟨oc,od,dV,kV,doc,pm,an,cdv,ct,osl,rfl,l,c⟩
end
section
variable {X:Cx} {k:Nat} {ps:List Str} {sp:Sp} {dvs:List V} {x:Str} {p pos:Pos} {e:Expr} {es:List Expr} {t:TA}
theorem ame(G:FO X.prog X.w X.K X.mg X.base k x ps dvs sp)(hr:Room k X.A)(ha:PA X (e::es) t)(hg:Gl X x:=by rfl)(h1:M5 e=false:=by rfl)(h2:Y2 es=true:=by rfl)(T8:(x==("__debug__" : Str))=false:=by decide):PE X (.Call (.Name x p) (e::es) [] pos) (tCall sp dvs E0 t):=by
 obtain ⟨f,fd,F,hm,hk,ds,hb,hd⟩:=G;exact anU F hr hg hm hk hb hd pass0 ha T8 (O7 h1) (fQ h2)
theorem amf{i:Int}(h:∃ t,X.mg x=some (.int i t))(hg:Gl X x:=by rfl)(hd:(x==("__debug__" : Str))=false:=by decide):PE X (.Name x p) (tC (.int i)):=by
 obtain ⟨t,h⟩:=h;exact aj1 hg h ⟨t,rfl⟩ hd
theorem amg(h:X.mg x=some (.ref a))(hg:Gl X x:=by rfl)(hd:(x==("__debug__" : Str))=false:=by decide):PE X (.Name x p) (tC (.ref a)):=aj1 hg h rfl hd
end
section
variable {σ:St} {H:Hp} {Q:VK} {B:Bool->Hp->Prop} {ta tb tc te:TE} {t u:TS} {tt uu:TT} {D:Ends} {i:Nat} {v:V} {r r':R2} {K:PySem.W.Frag} {taa:TA} {R:List V->Hp->Prop} {g:TG}
theorem anb:tVar i σ H Q=∃ v,(σ[i]?).join=some v/\Q v H:=by
 unfold tVar;refine propext ⟨fun ⟨v,h,q⟩=>⟨v,by rw [h];rfl,q⟩,fun ⟨v,h,q⟩=>⟨v,?_,q⟩⟩;cases e:σ[i]? with
 | none=>rw [e] at h;cases h
 | some o=>rw [e] at h;exact congrArg some h
theorem ap_c:tC v σ H Q=Q v H:=rfl
theorem ap_op:t6 r ta tb σ H Q=ta σ H fun x H1=>tb σ H1 fun y H2=>r x y H2 Q:=rfl
theorem ap_un{ru:V->Hp->VK->Prop} : uK ru ta σ H Q=ta σ H fun x H1=>ru x H1 Q:=rfl
theorem ap_rU{f:Int->V} : rU f x H Q=∃ i,x=.int i/\Q (f i) H:=rfl
theorem aoa:tTest ta σ H B=ta σ H fun x H'=>∃ k,x=.bl k/\B k H':=rfl
theorem ap_tB:tB ta σ H B=ta σ H fun x H'=>∃ k,x=.bl k/\B k H':=rfl
theorem aob:tTru K ta σ H B=ta σ H fun x H'=>∃ k,TruV K x H' k/\B k H':=rfl
theorem aoc:tNotT K ta σ H Q=ta σ H fun x H'=>∃ k,TruV K x H' k/\Q (.bl (!k)) H':=rfl
theorem amh:uL r r' ta tb tc σ H Q=ta σ H fun x H1=>tb σ H1 fun y H2=>r x y H2 fun z H3=>∃ k,z=.bl k/\(if k=true then tc σ H3 fun w' H4=>r' y w' H4 Q else Q (.bl false) H3):=rfl
theorem aq0:tAnd tt uu σ H B=tt σ H fun c H1=>if c=true then uu σ H1 B else B false H1:=rfl
theorem ap_or:uE tt uu σ H B=tt σ H fun c H1=>if c=true then B true H1 else uu σ H1 B:=rfl
theorem aq1:tNot tt σ H B=tt σ H fun c H1=>B (!c) H1:=rfl
theorem aod:tAndV ta tb σ H Q=ta σ H fun x H1=>∃ c,x=.bl c/\if c=true then tb σ H1 Q else Q (.bl false) H1:=rfl
theorem aq2:tOrV ta tb σ H Q=ta σ H fun x H1=>∃ c,x=.bl c/\if c=true then Q (.bl true) H1 else tb σ H1 Q:=rfl
theorem aoe:tNotV ta σ H Q=ta σ H fun x H1=>∃ c,x=.bl c/\Q (.bl (!c)) H1:=rfl
theorem ap_if:uF tt ta tb σ H Q=tt σ H fun c H1=>if c=true then ta σ H1 Q else tb σ H1 Q:=rfl
theorem aof:tNext D σ H=D.nx σ H:=rfl
theorem aq3:tSeq t u D σ H=t { D with nx:=u D } σ H:=rfl
theorem ami:aql D σ H=D.bk σ H:=rfl
theorem aog:tCont D σ H=D.ct σ H:=rfl
theorem aoh:tDrop te D σ H=te σ H fun _ H1=>D.nx σ H1:=rfl
theorem aq4:tRet te D σ H=te σ H D.rt:=rfl
theorem aoi:tRetN D σ H=D.rt .non H:=rfl
theorem aq5:tIfS tt t u D σ H=tt σ H fun b H1=>if b=true then t D σ H1 else u D σ H1:=rfl
theorem amj:uG D σ H=False:=rfl
theorem aoj{Z:St->Hp->Prop} : gName i v σ H Z=Z (σ.set i (some v)) H:=rfl
theorem aok{Z:St->Hp->Prop} : gNil vs σ H Z=(vs=[]/\Z σ H):=rfl
theorem amk{us:l7}{Z:St->Hp->Prop} : gCons g us vs σ H Z=∃ v r,vs=v::r/\g v σ H fun σ' H'=>us r σ' H' Z:=rfl
theorem aol{us:l7}{Z:St->Hp->Prop} : gTup K n us v σ H Z=∃ a xs,v=.ref a/\C7 K H a xs/\xs.length=n/\us xs σ H Z:=rfl
theorem aom{ts:TSet}{Z:St->Hp->Prop} : gSub ta tb ts v σ H Z=ta σ H fun o H1=>tb σ H1 fun i H2=>ts o i v H2 fun H3=>Z σ H3:=rfl
theorem aq6:tAsg te g D σ H=te σ H fun x H1=>g x σ H1 D.nx:=rfl
theorem aq7{ti:fK} : tAug i te ti D σ H=∃ x,(σ[i]?).join=some x/\te σ H fun y H1=>ti x y H1 fun z H2=>D.nx (σ.set i (some z)) H2:=anb (Q:=fun x H=>te σ H fun y H1=>ti x y H1 fun z H2=>D.nx (σ.set i (some z)) H2)
theorem aq8{f:Int->Int->Int} : uI f x y H Q=∃ i j,x=.int i/\y=.int j/\Q (.int (f i j)) H:=rfl
theorem aon:tCons te taa σ H R=te σ H fun x H1=>taa σ H1 fun xs H2=>R (x::xs) H2:=rfl
theorem aq9:tNil σ H R=R [] H:=rfl
theorem aoo{E:XK} : tCall sp dvs E taa σ H Q=taa σ H fun vs H1=>sp (vs++dvs) H1 Q E:=rfl
theorem ap_cb{rc:List V->Hp->VK->Prop} : fM rc taa σ H Q=taa σ H fun vs H1=>rc vs H1 Q:=rfl
theorem ara:tTup taa σ H Q=taa σ H fun xs H1=>xs.length<=sizeLine/\∀ p,H1 p=none->Q (.ref p) (A0 H1 p (.tup xs)):=rfl
theorem arb:tLst taa σ H Q=taa σ H fun xs H1=>xs.length<=sizeLine/\∀ p,H1 p=none->Q (.ref p) (A0 H1 p (.lst xs)):=rfl
theorem ap_sl{rs:V->Option Int->Option Int->Hp->VK->Prop}{tl th:TO} : uS rs te tl th σ H Q=te σ H fun x H1=>tl σ H1 fun l H2=>th σ H2 fun u H3=>rs x l u H3 Q:=rfl
theorem akz{O:Option Int->Hp->Prop} : uR σ H O=O none H:=rfl
theorem aop{O:Option Int->Hp->Prop} : tPart te σ H O=te σ H fun x H1=>∃ i,x=.int i/\O (some i) H1:=rfl
theorem ap_bm{T:String}{rm:V->List V->Hp->VK->Prop} : jB K T rm te taa σ H Q=te σ H fun x H1=>bB K T x H1/\taa σ H1 fun xs H2=>rm x xs H2 Q:=rfl
theorem arc{T:String}{rm:V->List V->Hp->VK->Prop} : tBM0 K T rm te σ H Q=te σ H fun x H1=>bB K T x H1/\rm x [] H1 Q:=rfl
theorem ard:tYes σ H B=B true H:=rfl
theorem aoq:vB σ H Q=∀ p,H p=none->Q (.ref p) (A0 H p (.dK [])):=rfl
theorem aor:tDGet ta tb σ H Q=ta σ H fun x H1=>tb σ H1 fun y H2=>∃ a v,x=.ref a/\DGet H2 a y (some v)/\Q v H2:=rfl
theorem aos:sDPut ta tb tc D σ H=tc σ H fun v H1=>ta σ H1 fun x H2=>tb σ H2 fun y H3=>∃ a H4,x=.ref a/\DPut H3 a y v H4/\D.nx σ H4:=rfl
theorem aot{rd:V->V->Hp->VK->Prop} : sDAug ta tb tc rd D σ H=ta σ H fun x H1=>tb σ H1 fun y H2=>∃ a v,x=.ref a/\DGet H2 a y (some v)/\tc σ H2 fun y2 H3=>rd v y2 H3 fun z H4=>∃ H5,DPut H4 a y z H5/\D.nx σ H5:=rfl
theorem aou : aB (fun i j=>V.int (i-j)) x y H Q=∃ i j,x=.int i/\y=.int j/\Q (.int (i-j)) H:=rfl
theorem aml : rI CDiv (fun i j=>V.int (i / j)) x y H Q=∃ i j,x=.int i/\y=.int j/\(0<j/\j<1073741824)/\Q (.int (i / j)) H:=rfl
theorem aov : rI (fun _ j=>0<j) (fun i j=>V.int (i % j)) x y H Q=∃ i j,x=.int i/\y=.int j/\0<j/\Q (.int (i % j)) H:=rfl
theorem aow : bB K "str" (.str z) H=True:=by simp [bB]
noncomputable def ForIt (J:It) (g:TG) (tb:TS) (D:Ends) (σ:St) (H1:Hp):Prop:=∃ W:Nat->Nat->St->Hp->Prop,(∃ m,W 0 m σ H1)/\∀ i m σ H,W i m σ H->
 (J.stop i H/\D.nx σ H)\/(J.go i H/\∃ N:St->Hp->Prop,(∀ σ' H',N σ' H'->∃ m',m'<m/\W (i+1) m' σ' H')/\∀ x H',J.yld i H x H'->g x σ H' fun σ2 H2=>tb { D with nx:=N,ct:=N,bk:=D.nx } σ2 H2)
theorem are{wi:TI}{tbs:TS} : tFor wi g tbs D σ H=wi σ H fun J H1=>ForIt J g tbs D σ H1:=rfl
theorem amm{Z:It->Hp->Prop} : iList K te σ H Z=te σ H fun x H1=>∃ a,x=.ref a/\(∃ xs,E2 K H1 a xs)/\Z (z9 K a) H1:=rfl
theorem aox{Z:It->Hp->Prop} : iTup K te σ H Z=te σ H fun x H1=>∃ a,x=.ref a/\(∃ xs,C7 K H1 a xs)/\Z (cZ K a) H1:=rfl
theorem aoy{Z:It->Hp->Prop} : iStr te σ H Z=te σ H fun x H1=>∃ z,x=.str z/\Z (jG z) H1:=rfl
theorem amn{Z:It->Hp->Prop} : iRng1 taa σ H Z=taa σ H fun vs H1=>∃ j:Int,vs=[.int j]/\-(2 ^ 62)<=j/\j<2 ^ 62/\Z (t5 0 j.toNat) H1:=rfl
theorem amo{Z:It->Hp->Prop} : iRng2 taa σ H Z=taa σ H fun vs H1=>∃ i j:Int,vs=[.int i,.int j]/\(-(2 ^ 62)<=i/\i<2 ^ 62/\-(2 ^ 62)<=j/\j<2 ^ 62)/\Z (t5 i (j-i).toNat) H1:=rfl
noncomputable def bF (J:It) (k:Nat) (ixs:List Nat) (g:TG) (c:TT) (te:TE) (σ:St) (Q:VK) (H1:Hp):Prop:=∀ D,H1 D=none->
 ∃ (n:Nat) (W:Nat->List V->St->Hp->Prop),W 0 [] (compStart k ixs σ) (A0 H1 D (.lst []))/\∀ i ys σ2 H2,W i ys σ2 H2->H2 D=some (.lst ys)->
  (J.stop i H2/\Q (.ref D) H2)\/
  (i<n/\J.go i H2/\∀ x H',J.yld i H2 x H'->g x σ2 H' fun σ3 H3=>c σ3 H3 fun b H4=>
   if b=true then te σ3 H4 fun y H5=>H5 D=some (.lst ys)/\ys.length<sizeLine/\W (i+1) (ys++[y]) σ3 (A0 H5 D (.lst (ys++[y])))
   else H4 D=some (.lst ys)/\W (i+1) ys σ3 H4)
theorem aoz{wi:TI} : tComp wi k ixs g tt te σ H Q=wi σ H fun J H1=>bF J k ixs g tt te σ Q H1:=rfl
end
theorem aoA{b k:Bool} : TruV K (.bl b) H k=(k=b):=rfl
theorem amp{i:Int}{k:Bool} : TruV K (.int i) H k=(k=(i != 0)):=rfl
theorem amq{k:Bool} : TruV K (.str z) H k=(z.length<=sizeLine/\k=((z.length:Int) != 0)):=rfl
theorem amr{k:Bool} : TruV K .non H k=(k=false):=rfl
theorem ams : start N vs=vs.map some++X6 (N.length-vs.length) none:=rfl
theorem agL : compStart k ixs σ=X6 k none++ixs.map fun i=>(σ[i]?).join:=rfl
theorem aoB{i:Int} : fN K (.str z) (.int i) H Q=∃ c,z.length<=sizeLine/\J8 z.cps.toList i=some c/\Q (.str ⟨#[c]⟩) H:=by
 simp only [fN,rIxL,rIxT,rIxS];refine propext ⟨fun h=>?_,fun ⟨c,h⟩=>.inr (.inr ⟨z,i,c,rfl,rfl,h⟩)⟩
 rcases h with ⟨p,xs,j,v,e,_⟩ | ⟨p,xs,j,v,e,_⟩ | ⟨z',i',c,e1,e2,h⟩
 ·cases e
 ·cases e
 ·cases e1;cases e2;exact ⟨c,h⟩
theorem aoC{p:Addr}{i:Int} : fN K (.ref p) (.int i) H Q=∃ xs v,(E2 K H p xs\/C7 K H p xs)/\J8 xs i=some v/\Q v H:=by
 simp only [fN,rIxL,rIxT,rIxS];refine propext ⟨fun h=>?_,fun ⟨xs,v,h,r⟩=>?_⟩
 ·rcases h with ⟨p',xs,j,v,e1,e2,h1,h2⟩ | ⟨p',xs,j,v,e1,e2,h1,h2⟩ | ⟨z',i',c,e1,e2,h⟩
  ·cases e1;cases e2;exact ⟨xs,v,.inl h1,h2⟩
  ·cases e1;cases e2;exact ⟨xs,v,.inr h1,h2⟩
  ·cases e1
 ·rcases h with h | h
  ·exact .inl ⟨p,xs,i,v,rfl,rfl,h,r⟩
  ·exact .inr (.inl ⟨p,xs,i,v,rfl,rfl,h,r⟩)
theorem jH{α:Type}{xs:List α}{i:Int}(h0:0<=i)(h1:i<xs.length):∃ v,J8 xs i=some v/\v∈xs:=by
 have C9:i.toNat<xs.length:=by walk_at "o"
 refine ⟨xs[i.toNat],?_,lV C9⟩;unfold J8 i7;rw [if_pos h0,if_pos h1];simp [C9]
theorem O8:bootBuiltins "len"=some (.builtin "len"):=by decide +kernel
theorem anc:bootBuiltins "any"=some (.builtin "any"):=by decide +kernel
theorem arf:bootBuiltins "ord"=some (.builtin "ord"):=by decide +kernel
theorem ane:bootBuiltins "min"=some (.builtin "min"):=by decide +kernel
theorem t8:bootBuiltins "list"=some (.type "list"):=by decide +kernel
theorem mI:bootBuiltins "tuple"=some (.type "tuple"):=by decide +kernel
theorem akA:bootBuiltins "dict"=some (.type "dict"):=by decide +kernel
theorem arh:bootBuiltins "str"=some (.type "str"):=by decide +kernel
theorem mJ:bootBuiltins "int"=some (.type "int"):=by decide +kernel
section
variable {K:PySem.W.Frag} {H:Hp} {Q:VK} {i j:Int} {x y:Str} {u v:V} {b c:Bool} {p q:Addr} {lo hi:Option Int} {cm:Bool}
theorem ad_ii:rAddU K (.int i) (.int j) H Q=Q (.int (i+j)) H:=rfl
theorem ad_ss:rAddU K (.str x) (.str y) H Q=(x.length+y.length<=sizeLine/\Q (.str (x++y)) H):=rfl
theorem ad_rr:rAddU K (.ref p) (.ref q) H Q=rAddR K p q H Q:=rfl
theorem mu_ii:rMulU (.int i) (.int j) H Q=(CMul i j/\Q (.int (i*j)) H):=rfl
theorem mu_ri:rMulU (.ref p) (.int j) H Q=rRep (.ref p) (.int j) H Q:=rfl
theorem eq_ii:rEqU K (.int i) (.int j) H Q=Q (.bl (decide (i=j))) H:=rfl
theorem eq_ss:rEqU K (.str x) (.str y) H Q=Q (.bl (decide (x=y))) H:=rfl
theorem eq_bb:rEqU K (.bl b) (.bl c) H Q=Q (.bl (decide (b=c))) H:=rfl
theorem eq_rx:rEqU K (.ref p) v H Q=∃ d e,Dn K H (.ref p) d/\Dn K H v e/\min d.depth e.depth<=60/\Q (.bl (Q9 d e)) H:=by cases v <;> rfl
theorem eq_xr:rEqU K v (.ref p) H Q=∃ d e,Dn K H v d/\Dn K H (.ref p) e/\min d.depth e.depth<=60/\Q (.bl (Q9 d e)) H:=by cases v <;> rfl
theorem ne_ii:rNeU K (.int i) (.int j) H Q=Q (.bl (!decide (i=j))) H:=rfl
theorem ne_ss:rNeU K (.str x) (.str y) H Q=Q (.bl (!decide (x=y))) H:=rfl
theorem ne_bb:rNeU K (.bl b) (.bl c) H Q=Q (.bl (!decide (b=c))) H:=rfl
theorem ne_rx:rNeU K (.ref p) v H Q=∃ d e,Dn K H (.ref p) d/\Dn K H v e/\min d.depth e.depth<=60/\Q (.bl (!PyData.eqv d e)) H:=by cases v <;> rfl
theorem ne_xr:rNeU K v (.ref p) H Q=∃ d e,Dn K H v d/\Dn K H (.ref p) e/\min d.depth e.depth<=60/\Q (.bl (!PyData.eqv d e)) H:=by cases v <;> rfl
theorem lt_ii:rLtU (.int i) (.int j) H Q=Q (.bl (decide (i<j))) H:=rfl
theorem lt_ss:rLtU (.str x) (.str y) H Q=Q (.bl (decide (x.cps.toList<y.cps.toList))) H:=rfl
theorem le_ii:rLeU (.int i) (.int j) H Q=Q (.bl (decide (i<=j))) H:=rfl
theorem le_ss:rLeU (.str x) (.str y) H Q=Q (.bl (!decide (y.cps.toList<x.cps.toList))) H:=rfl
theorem gt_ii:rGtU (.int i) (.int j) H Q=Q (.bl (decide (j<i))) H:=rfl
theorem gt_ss:rGtU (.str x) (.str y) H Q=Q (.bl (decide (y.cps.toList<x.cps.toList))) H:=rfl
theorem ge_ii:rGeU (.int i) (.int j) H Q=Q (.bl (decide (j<=i))) H:=rfl
theorem ge_ss:rGeU (.str x) (.str y) H Q=Q (.bl (!decide (x.cps.toList<y.cps.toList))) H:=rfl
theorem in_xs:rInU K b u (.str x) H Q=∃ i,u=.str i/\Q (.bl (b.xor (!(Builtin.Str.occurrences x i 0 x.length 1).isEmpty))) H:=rfl
theorem in_xr:rInU K b u (.ref p) H Q=rInR K b u p H Q:=rfl
theorem sl_s:rSlU K (.str x) lo hi H Q=(x.length<=sizeLine/\Q (.str (cutS x lo hi)) H):=rfl
theorem sl_r:rSlU K (.ref p) lo hi H Q=rSlR K p lo hi H Q:=rfl
theorem len_s:rLenU K [.str x] H Q=(x.length<=sizeLine/\Q (.int x.length) H):=rfl
theorem len_r:rLenU K [.ref p] H Q=∃ n:Nat,LenR K H p n/\Q (.int n) H:=rfl
theorem ari:vI K cm [.ref p] H Q=rListR K cm p H Q:=rfl
theorem all_r:rAllB cm [.ref p] H Q=∃ bs:List Bool,cm=true/\H p=some (.lst (bs.map V.bl))/\Q (.bl (bs.all id)) H:=rfl
theorem isi_t{n:String} : rIsi [u,.ty n] H Q=∃ T,tyS H u=some T/\isTys.contains n=true/\Q (.bl (isB T n)) H:=rfl
theorem ord_s:rOrd [.str x] H Q=(x.length=1/\Q (.int (x.cps.getD 0 0:Nat)) H):=rfl
end
theorem forL(Pv:Nat->St->Hp->Prop)(h0:Pv 0 σ H)(hl:∀ i σ H,i<=xs.length->Pv i σ H->E2 K H a xs)(hs:∀ i x σ H,xs[i]?=some x->Pv i σ H->g x σ H fun σ2 H2=>tb { D with nx:=Pv (i+1),ct:=Pv (i+1),bk:=D.nx } σ2 H2)(hd:∀ σ H,Pv xs.length σ H->D.nx σ H):ForIt (z9 K a) g tb D σ H:=alS Pv h0 hl hs hd
theorem forT(Pv:Nat->St->Hp->Prop)(h0:Pv 0 σ H)(hl:∀ i σ H,i<=xs.length->Pv i σ H->C7 K H a xs)(hs:∀ i x σ H,xs[i]?=some x->Pv i σ H->g x σ H fun σ2 H2=>tb { D with nx:=Pv (i+1),ct:=Pv (i+1),bk:=D.nx } σ2 H2)(hd:∀ σ H,Pv xs.length σ H->D.nx σ H):ForIt (cZ K a) g tb D σ H:=anM Pv h0 hl hs hd
theorem forR(Pv:Nat->St->Hp->Prop)(h0:Pv 0 σ H)(hs:∀ i σ H,i<n->Pv i σ H->g (.int (lo+i)) σ H fun σ2 H2=>tb { D with nx:=Pv (i+1),ct:=Pv (i+1),bk:=D.nx } σ2 H2)(hd:∀ σ H,Pv n σ H->D.nx σ H):ForIt (t5 lo n) g tb D σ H:=aj7 Pv h0 hs hd
noncomputable def CW (n:Nat) (fr:St) (Pv:Nat->List V->Hp->Prop) (i:Nat) (ys:List V) (σ2:St) (H2:Hp):Prop:=i<=n/\ys.length<=i/\(∃ v,σ2=v::fr)/\Pv i ys H2
theorem CW.put{fr:St}{Pv:Nat->List V->Hp->Prop}{o:Option V}(hi:i<n)(hy:ys.length<=i)(p:Pv (i+1) (ys++[y]) H):CW n fr Pv (i+1) (ys++[y]) (o::fr) H:=
 ⟨hi,by rw [C5,N5];walk_at "o",⟨_,rfl⟩,p⟩
theorem mK{fr:St}{Pv:Nat->List V->Hp->Prop}{o:Option V}(hi:i<n)(hy:ys.length<=i)(p:Pv (i+1) ys H):CW n fr Pv (i+1) ys (o::fr) H:=⟨hi,Nat.le_succ_of_le hy,⟨_,rfl⟩,p⟩
theorem compL(fr:St)(W9:compStart 1 ixs σ=none::fr)(Pv:Addr->Nat->List V->Hp->Prop)(h0:∀ D,H1 D=none->Pv D 0 [] (A0 H1 D (.lst [])))(hl:∀ D i ys H,H1 D=none->i<=xs.length->Pv D i ys H->E2 K H a xs)(hs:∀ D i x ys H,H1 D=none->i<xs.length->xs[i]?=some x->Pv D i ys H->H D=some (.lst ys)->ys.length<=i->c (some x::fr) H fun b H4=>
   if b=true then te (some x::fr) H4 fun y H5=>H5 D=some (.lst ys)/\ys.length<sizeLine/\CW xs.length fr (Pv D) (i+1) (ys++[y]) (some x::fr) (A0 H5 D (.lst (ys++[y])))
   else H4 D=some (.lst ys)/\CW xs.length fr (Pv D) (i+1) ys (some x::fr) H4)(hd:∀ D ys H,H1 D=none->Pv D xs.length ys H->H D=some (.lst ys)->ys.length<=xs.length->Q (.ref D) H):bF (z9 K a) 1 ixs (gName 0) c te σ Q H1:=by
 intro D hD;refine ⟨xs.length,CW xs.length fr (Pv D),⟨G2 _,G2 _,⟨none,W9⟩,h0 D hD⟩,?_⟩;rintro i ys σ2 H2 ⟨hi,hy,⟨v,rfl⟩,p⟩ hDy;have q:=hl D i ys H2 hD hi p
 by_cases C9:i<xs.length
 ·refine .inr ⟨C9,⟨xs,xs[i],q,by simp [C9]⟩,fun x H' y=>?_⟩;obtain ⟨e,y⟩:=y;subst e;exact hs D i x ys _ hD C9 (y xs q) p hDy hy
 ·have e:i=xs.length:=by walk_at "o"
  subst e;exact .inl ⟨⟨xs,q,C2 _⟩,hd D ys H2 hD p hDy hy⟩
theorem compT(fr:St)(W9:compStart 1 ixs σ=none::fr)(Pv:Addr->Nat->List V->Hp->Prop)(h0:∀ D,H1 D=none->Pv D 0 [] (A0 H1 D (.lst [])))(hl:∀ D i ys H,H1 D=none->i<=xs.length->Pv D i ys H->C7 K H a xs)(hs:∀ D i x ys H,H1 D=none->i<xs.length->xs[i]?=some x->Pv D i ys H->H D=some (.lst ys)->ys.length<=i->c (some x::fr) H fun b H4=>
   if b=true then te (some x::fr) H4 fun y H5=>H5 D=some (.lst ys)/\ys.length<sizeLine/\CW xs.length fr (Pv D) (i+1) (ys++[y]) (some x::fr) (A0 H5 D (.lst (ys++[y])))
   else H4 D=some (.lst ys)/\CW xs.length fr (Pv D) (i+1) ys (some x::fr) H4)(hd:∀ D ys H,H1 D=none->Pv D xs.length ys H->H D=some (.lst ys)->ys.length<=xs.length->Q (.ref D) H):bF (cZ K a) 1 ixs (gName 0) c te σ Q H1:=by
 intro D hD;refine ⟨xs.length,CW xs.length fr (Pv D),⟨G2 _,G2 _,⟨none,W9⟩,h0 D hD⟩,?_⟩;rintro i ys σ2 H2 ⟨hi,hy,⟨v,rfl⟩,p⟩ hDy;have q:=hl D i ys H2 hD hi p
 by_cases C9:i<xs.length
 ·refine .inr ⟨C9,⟨xs,xs[i],q,by simp [C9]⟩,fun x H' y=>?_⟩;obtain ⟨e,y⟩:=y;subst e;exact hs D i x ys _ hD C9 (y xs q) p hDy hy
 ·have e:i=xs.length:=by walk_at "o"
  subst e;exact .inl ⟨⟨xs,q,C2 _⟩,hd D ys H2 hD p hDy hy⟩
theorem compS(fr:St)(W9:compStart 1 ixs σ=none::fr)(Pv:Addr->Nat->List V->Hp->Prop)(h0:∀ D,H1 D=none->Pv D 0 [] (A0 H1 D (.lst [])))(hs:∀ D i x ys H,H1 D=none->i<z.cps.size->z.cps.toList[i]?=some x->Pv D i ys H->H D=some (.lst ys)->ys.length<=i->c (some (.str ⟨#[x]⟩)::fr) H fun b H4=>
   if b=true then te (some (.str ⟨#[x]⟩)::fr) H4 fun y H5=>H5 D=some (.lst ys)/\ys.length<sizeLine/\CW z.cps.size fr (Pv D) (i+1) (ys++[y]) (some (.str ⟨#[x]⟩)::fr) (A0 H5 D (.lst (ys++[y])))
   else H4 D=some (.lst ys)/\CW z.cps.size fr (Pv D) (i+1) ys (some (.str ⟨#[x]⟩)::fr) H4)(hd:∀ D ys H,H1 D=none->Pv D z.cps.size ys H->H D=some (.lst ys)->ys.length<=z.cps.size->Q (.ref D) H):bF (jG z) 1 ixs (gName 0) c te σ Q H1:=by
 intro D hD;refine ⟨z.cps.size,CW z.cps.size fr (Pv D),⟨G2 _,G2 _,⟨none,W9⟩,h0 D hD⟩,?_⟩;rintro i ys σ2 H2 ⟨hi,hy,⟨v,rfl⟩,p⟩ hDy
 by_cases C9:i<z.cps.size
 ·refine .inr ⟨C9,C9,fun x H' y=>?_⟩;obtain ⟨e,c,hc,rfl⟩:=y;subst e;exact hs D i c ys _ hD C9 hc p hDy hy
 ·have e:i=z.cps.size:=by walk_at "o"
  subst e;exact .inl ⟨C2 _,hd D ys H2 hD p hDy hy⟩
theorem compR(fr:St)(W9:compStart 1 ixs σ=none::fr)(Pv:Addr->Nat->List V->Hp->Prop)(h0:∀ D,H1 D=none->Pv D 0 [] (A0 H1 D (.lst [])))(hs:∀ D i ys H,H1 D=none->i<n->Pv D i ys H->H D=some (.lst ys)->ys.length<=i->c (some (.int (lo+i))::fr) H fun b H4=>
   if b=true then te (some (.int (lo+i))::fr) H4 fun y H5=>H5 D=some (.lst ys)/\ys.length<sizeLine/\CW n fr (Pv D) (i+1) (ys++[y]) (some (.int (lo+i))::fr) (A0 H5 D (.lst (ys++[y])))
   else H4 D=some (.lst ys)/\CW n fr (Pv D) (i+1) ys (some (.int (lo+i))::fr) H4)(hd:∀ D ys H,H1 D=none->Pv D n ys H->H D=some (.lst ys)->ys.length<=n->Q (.ref D) H):bF (t5 lo n) 1 ixs (gName 0) c te σ Q H1:=by
 intro D hD;refine ⟨n,CW n fr (Pv D),⟨G2 _,G2 _,⟨none,W9⟩,h0 D hD⟩,?_⟩;rintro i ys σ2 H2 ⟨hi,hy,⟨v,rfl⟩,p⟩ hDy
 by_cases C9:i<n
 ·refine .inr ⟨C9,C9,fun x H' y=>?_⟩;obtain ⟨e,y⟩:=y;subst e y;exact hs D i ys _ hD C9 p hDy hy
 ·have e:i=n:=by walk_at "o"
  subst e;exact .inl ⟨C2 _,hd D ys H2 hD p hDy hy⟩
theorem D9{p q:Addr}{o u:HO}(h:H p=some o)(n:H q=none):A0 H q u p=some o:=by rw [B1 (aZ h n)];exact h
theorem Same.new{q:Addr}{u:HO}(n:H q=none):Same H (A0 H q u):=fun _ _ h=>D9 h n
theorem Same.put{q:Addr}{u:HO}(s:Same H0 H)(n:H0 q=none):Same H0 (A0 H q u):=fun b o h=>by rw [B1 (aZ h n)];exact s b o h
end L2
set_option maxRecDepth 100000
namespace L2
open PySem PySem.Spec PyProof.Rows
theorem cxK{CX:i6}{P:Program}{w:World}{base:Heap}{sc:Scope}{o:List Env}{E:XK} : (cxOf CX P w K mg base N q sc f cd A o s H E).K=K:=rfl
theorem cxKn : X.nox.K=X.K:=rfl
theorem cxKb{sc:Scope} : (N4 X sc N' C s₃ H₃ fp pins).K=X.K:=rfl
theorem cxC{CX:i6}{P:Program}{w:World}{base:Heap}{sc:Scope}{o:List Env}{E:XK} : (cxOf CX P w K mg base N q sc f cd A o s H E).calm=true:=rfl
theorem cxCn : X.nox.calm=X.calm:=rfl
theorem cxCb{sc:Scope} : (N4 X sc N' C s₃ H₃ fp pins).calm=X.calm:=rfl
theorem iteD{c A B:Prop}[Decidable c](h1:c->A)(h2:¬ c->B):if decide c=true then A else B:=by
 by_cases h:c
 ·rw [decide_eq_true h,if_pos rfl];exact h1 h
 ·rw [decide_eq_false h,if_neg N2];exact h2 h
theorem iteN{c A B:Prop}[Decidable c](h1:¬ c->A)(h2:c->B):if (!decide c)=true then A else B:=by
 by_cases h:c
 ·rw [decide_eq_true h];exact iteF (h2 h)
 ·rw [decide_eq_false h];exact iteT (h1 h)
theorem Q2{p:Addr}(h:H p=some (.lst xs)):bB K "list" (.ref p) H:=.inl ⟨rfl,_,E2.of h⟩
theorem appOk{l:Addr}(h:H l=some (.lst xs))(hz:xs.length<sizeLine)(q:Q .non (A0 H l (.lst (xs++[y])))):jC (.ref l) [y] H Q:=⟨l,xs,y,rfl,rfl,h,hz,q⟩
theorem G7(h:n<=1000000):n<sizeLine:=iS h (by decide)
theorem P5(h:n<=1000000):n<=sizeLine:=Nat.le_of_lt (G7 h)
noncomputable def signB (c:Nat):Bool:=decide (33<=c)&&decide (c<=126)&&decide (c≠37)
noncomputable def jI (z:Str):Bool:=decide (1<=z.length)&&decide (z.length<=2)&&z.cps.toList.all signB
theorem fR(h:jI z=true):V1 z=true/\1<=z.length/\z.length<=2:=by
 unfold jI at h;simp only [T4,decide_eq_true_eq] at h;refine ⟨?_,h.1.1,h.1.2⟩;unfold V1;rw [Array.all_eq_true_iff_forall_mem];intro c hc
 have:=List.all_eq_true.mp h.2 c (Array.mem_toList_iff.mpr hc)
 unfold signB at this;simp only [T4,decide_eq_true_eq] at this;simp only [decide_eq_true_eq];walk_at "o"
noncomputable def SG:List Nat:=[33,34,35,36]++(List.range 89).map (· + 38)
structure IsRows(H:Hp)(a:Addr)(rs:List Addr)(zss:List (List Str)):Prop where
 top:H a=some (.lst (rs.map V.ref))
 row:Paired (fun r (zs:List Str)=>H r=some (.lst (zs.map V.str))) rs zss
theorem IsRows.same{zss:List (List Str)}(R:IsRows H a rs zss)(s:Same H H'):IsRows H' a rs zss:=⟨s _ _ R.top,N0 R.row fun _ _ h=>s _ _ h⟩
theorem Paired.at{α β:Type}{F:α->β->Prop} : ∀ {l₁:List α} {l₂:List β} {i:Nat} {a:α},Paired F l₁ l₂->l₁[i]?=some a->∃ b,l₂[i]?=some b/\F a b
 | _,_,_,_,.nil,h=>by simp at h
 | _,_,0,_,.cons h t,e=>by simp at e;subst e;exact ⟨_,rfl,h⟩
 | _,_,i+1,_,.cons h t,e=>by
  obtain ⟨b,h1,h2⟩:=Paired.at (i:=i) t (by simpa using e);exact ⟨b,by simpa using h1,h2⟩
theorem mL:∀ zs:List Str,z8 (zs.map PyData.str)=0
 | []=>rfl
 | z::zs=>by rw [K4,z8,mL zs,k8];rfl
theorem jJ:∀ zs:List Int,z8 (zs.map aY)=0
 | []=>rfl
 | z::zs=>by rw [K4,z8,jJ zs,k8];rfl
theorem aiD(xs ys:List Str):Q9 (.list (xs.map .str)) (.list (ys.map .str))=decide (xs=ys):=by rw [Q9,vH]
noncomputable def dd (acc:List Str) (z:Str):List Str:=if z∈acc then acc else acc++[z]
noncomputable def G3 (acc zs:List Str):List Str:=zs.foldl dd acc
noncomputable def toldL (zss:List (List Str)):List Str:=zss.foldl G3 []
theorem dC(zs:List Str):∀ acc:List Str,(G3 acc zs).length<=acc.length+zs.length:=by
 induction zs with
 | nil=>intro acc;exact C2 _
 | cons z zs ih=>
  intro acc;have h1:=ih (dd acc z);have h2:(dd acc z).length<=acc.length+1:=by
   unfold dd
   split
   ·walk_at "o"
   ·simp
  show (G3 (dd acc z) zs).length<=_;rw [K3];walk_at "o"
theorem amt(h:zs[j]?=some z):G3 acc (zs.take (j+1))=dd (G3 acc (zs.take j)) z:=by
 rw [q0,h];simp [G3,aU]
theorem akB{zss:List (List Str)}(h:zss[i]?=some zs):toldL (zss.take (i+1))=G3 (toldL (zss.take i)) zs:=by
 rw [q0,h];simp [toldL,aU]
theorem rB(zss:List (List Str)):∀ acc,zss.foldl G3 acc=G3 acc zss.flatten:=by
 induction zss with
 | nil=>intro acc;rfl
 | cons zs zss ih=>
  intro acc;rw [List.foldl_cons,ih,fC];unfold G3;rw [aU]
theorem mM(zss:List (List Str)):(toldL zss).length<=zss.flatten.length:=by
 unfold toldL;rw [rB]
 have:=dC zss.flatten []
 simpa using this
noncomputable def kvOf (zs:List Str):List (C6×V):=zs.map fun z=>(Sum.inr z,V.bl true)
theorem vJ(z:Str):∀ acc:List Str,((kvOf acc).any fun kv=>decide (kv.1=(Sum.inr z:C6)))=decide (z∈acc)
 | []=>by simp [kvOf]
 | y::acc=>by
  have ih:=vJ z acc;unfold kvOf at ih ⊢
  rw [K4,aV,ih]
  by_cases e:y=z
  ·subst e
   simp
  ·have e1:decide ((Sum.inr y:C6)=Sum.inr z)=false:=decide_eq_false fun q=>e (Sum.inr.inj q)
   have e2:decide (z∈y::acc)=decide (z∈acc):=by
    by_cases h:z∈acc
    ·rw [decide_eq_true h,decide_eq_true (M3 _ h)]
    ·rw [decide_eq_false h,decide_eq_false];intro q
     rcases F9.mp q with q | q
     ·exact e q.symm
     ·exact h q
   rw [e2];simp only [e1,Bool.false_or]
theorem agN(acc:List Str)(z:Str):putK (kvOf acc) (Sum.inr z:C6) (.bl true)=kvOf (dd acc z):=by
 unfold putK dd;rw [vJ]
 by_cases h:z∈acc
 ·rw [decide_eq_true h,if_pos rfl,if_pos h];unfold kvOf;rw [X7];refine iO fun y _=>?_
  show (if (Sum.inr y:C6)=Sum.inr z then ((Sum.inr y:C6),V.bl true) else (Sum.inr y,V.bl true))=_
  split <;> rfl
 ·rw [decide_eq_false h,if_neg N2,if_neg h];unfold kvOf;rw [D8];rfl
theorem akC(acc:List Str):((kvOf acc).map fun kv=>kV kv.1)=acc.map V.str:=by
 unfold kvOf;rw [X7];rfl
theorem vK(z:Str):∀ acc:List Str,dB (.str z) (acc.map V.str)=decide (z∈acc)
 | []=>by simp [dB]
 | y::acc=>by
  have ih:=vK z acc;unfold dB at ih ⊢
  rw [K4,aV,ih];show ((y==z) || decide (z∈acc))=_
  by_cases e:y=z
  ·subst e
   simp
  ·have e1:(y==z)=false:=by simpa using e
   rw [e1,Bool.false_or]
   by_cases h:z∈acc
   ·rw [decide_eq_true h,decide_eq_true (M3 _ h)]
   ·rw [decide_eq_false h,decide_eq_false];intro q
    rcases F9.mp q with q | q
    ·exact e q.symm
    ·exact h q
theorem agO:∀ acc:List Str,(acc.map V.str).all flatV=true
 | []=>rfl
 | _::acc=>by rw [K4,List.all_cons,agO acc];rfl
theorem G5{α β:Type}{f:α->β}{l:List α}{y:β}(h:(l.map f)[i]?=some y):∃ x,l[i]?=some x/\y=f x:=by
 rw [V7] at h;cases e:l[i]? with
 | none=>rw [e] at h;cases h
 | some x=>rw [e] at h;exact ⟨x,rfl,(Option.some.inj h).symm⟩
noncomputable def SS:Str:=Str.ofString "!\"#$&'()*+,-./0123456789:;<=>?@ABCDEFGHIJKLMNOPQRSTUVWXYZ[\\]^_`"++Str.ofString "abcdefghijklmnopqrstuvwxyz{|}~"
theorem drawn{i:Int}(hx:∀ x∈xs,∃ n,x=V.int n)(h0:0<=i)(h1:i<xs.length):∃ n,J8 xs i=some (V.int n):=by
 obtain ⟨v,h2,h3⟩:=jH h0 h1;obtain ⟨n,rfl⟩:=hx v h3;exact ⟨n,h2⟩
theorem vL{α β:Type}{F:α->β->Prop}{a:α}{b:β} : ∀ {l₁:List α} {l₂:List β},Paired F (l₁++[a]) (l₂++[b])->Paired F l₁ l₂/\F a b
 | [],[],.cons h _=>⟨.nil,h⟩
 | [],y::l₂,h=>by
  have:=Paired.length h
  simp at this
 | x::l₁,[],h=>by
  have:=Paired.length h
  simp at this
 | x::l₁,y::l₂,.cons h t=>by
  obtain ⟨h1,h2⟩:=vL (l₁:=l₁) (l₂:=l₂) t;exact ⟨.cons h h1,h2⟩
theorem mN{α β:Type}{F G:α->β->Prop} : ∀ {l₁:List α} {l₂:List β},Paired F l₁ l₂->(∀ a∈l₁,∀ b,F a b->G a b)->Paired G l₁ l₂
 | _,_,.nil,_=>.nil
 | _,_,.cons h t,k=>.cons (k _ M4 _ h) (mN t fun a ha b hb=>k a (M3 _ ha) b hb)
structure RowsAt(H0 H:Hp)(a:Addr)(rs:List Addr)(zss:List (List Str)):Prop where
 rows:IsRows H a rs zss
 nd:(a::rs).Nodup
 new:∀ r∈a::rs,H0 r=none
 same:Same H0 H
theorem RowsAt.live{zss:List (List Str)}(R:RowsAt H0 H a rs zss)(h:r∈a::rs):∃ o,H r=some o:=by
 rcases F9.mp h with h | h
 ·subst h;exact ⟨_,R.rows.top⟩
 ·obtain ⟨i,hi,rfl⟩:=Y9.mp h;obtain ⟨zs,_,h2⟩:=Paired.at R.rows.row (i:=i) (a:=rs[i]) (by simp [hi]);exact ⟨_,h2⟩
theorem agP(x:Str)(lo hi:Option Int):(cutS x lo hi).cps.toList=(x.cps.toList.drop (HT.sIx x.length 0 lo)).take (HT.sIx x.length x.length hi-HT.sIx x.length 0 lo):=by
 unfold cutS
 simp
end L2
set_option maxRecDepth 100000
namespace L2
open PySem PySem.Spec PyProof.Rows
structure QE(X:Cx)(e:Expr)(t:TE):Prop where
 out:PE X e t
structure QT(X:Cx)(e:Expr)(t:TT):Prop where
 out:PT X e t
structure QW(X:Cx)(e:Expr)(t:TT):Prop where
 out:PW X e t
structure QA(X:Cx)(es:List Expr)(t:TA):Prop where
 out:PA X es t
structure QS(X:Cx)(st:Stmt)(t:TS):Prop where
 out:PS X st t
structure QSs(X:Cx)(st:List Stmt)(t:TS):Prop where
 out:Z0 X st t
structure QG(X:Cx)(tg:Expr)(t:TG):Prop where
 out:PG X tg t
structure QGs(X:Cx)(tg:List Expr)(t:l7):Prop where
 out:mE X tg t
structure QI(X:Cx)(tg iter:Expr)(wi:TI):Prop where
 out:PI X tg iter wi
structure QO(X:Cx)(e:Option Expr)(t:TO):Prop where
 out:PO X e t
structure QIfs(X:Cx)(ifs:List Expr)(t:TT):Prop where
 out:PIfs X ifs t
structure QOp(X:Cx)(f:Value->Value->Sem Value)(r:R2):Prop where
 out:K9 X f r
structure QUn(X:Cx)(f:Value->Sem Value)(r:V->Hp->VK->Prop):Prop where
 out:qQ X f r
structure QCall(X:Cx)(f:Value)(r:List V->Hp->VK->Prop):Prop where
 out:CallR X f r
structure QMt(X:Cx)(id:String)(r:V->List V->Hp->VK->Prop):Prop where
 out:qU X id r
structure QIp(X:Cx)(op:Operator)(t:fK):Prop where
 out:uH X op t
structure QIn(X:Cx)(op:Operator)(t:V->V->Hp->VK->Prop):Prop where
 out:InOp X op t
section
variable {X:Cx} {a b c e o i value:Expr} {es:List Expr} {ta tb tc te to ti tv:TE} {tA tB':TT} {t u:TS} {tl:TA} {pos p pos' tpos:Pos} {rest:List Expr} {r r':R2} {x:Str}
theorem A4{i j} : QE X (.Constant (.int i) j pos) (tC (.int i)):=⟨am6⟩
theorem qe_bl{b j} : QE X (.Constant (.bool b) j pos) (tC (.bl b)):=⟨pe_bl⟩
theorem K0{x j} : QE X (.Constant (.str x) j pos) (tC (.str x)):=⟨aqf⟩
theorem qe_v(hN:X.N[n]?=some x)(hv:mD X.env.scope x)(hd:(x==("__debug__" : Str))=false)(T6:(x==("__classdict__" : Str))=false):QE X (.Name x pos) (tVar n):=⟨am5 hN hv hd T6⟩
theorem qv(n:Nat)(hN:X.N[n]?=some x:=by rfl)(hv:mD X.env.scope x:=by first | exact Or.inl rfl | exact Or.inr (Or.inl rfl) | exact Or.inr (Or.inr rfl))(hd:(x==("__debug__" : Str))=false:=by decide)(T6:(x==("__classdict__" : Str))=false:=by decide):QE X (.Name x pos) (tVar n):=⟨am5 hN hv hd T6⟩
theorem dD{i:Int}(h:∃ t,X.mg x=some (.int i t))(hg:Gl X x:=by rfl)(hd:(x==("__debug__" : Str))=false:=by decide):QE X (.Name x p) (tC (.int i)):=⟨amf h hg hd⟩
theorem rC{a:Addr}(h:X.mg x=some (.ref a))(hg:Gl X x:=by rfl)(hd:(x==("__debug__" : Str))=false:=by decide):QE X (.Name x p) (tC (.ref a)):=⟨amg h hg hd⟩
theorem qe_op{op:Operator}(ho:QOp X (binaryOp op) r)(ha:QE X a ta)(hb:QE X b tb):QE X (.BinOp a op b pos) (t6 r ta tb):=⟨pe_op ho.out ha.out hb.out⟩
theorem qe_un{op:UnaryOp}{r:V->Hp->VK->Prop}(ho:QUn X (unaryOp op) r)(ha:QE X a ta):QE X (.UnaryOp op a pos) (uK r ta):=⟨pe_un ho.out ha.out⟩
theorem arj{op}(ha:QE X a ta):QE X (.BoolOp op [a] pos) ta:=⟨aqj ha.out⟩
theorem ark(ha:QE X a ta)(hb:QE X (.BoolOp .And (b::rest) pos) tb):QE X (.BoolOp .And (a::b::rest) pos) (tAndV ta tb):=⟨aqk ha.out hb.out⟩
theorem fS{op:CmpOp}(ho:QOp X (compareOp op) r)(ha:QE X a ta)(hb:QE X b tb)(hm:behindInMarks op b=false:=by first | exact am8 _ | rfl):QE X (.Compare a [op] [b] pos) (t6 r ta tb):=⟨anO ho.out ha.out hb.out hm⟩
theorem amu{op op':CmpOp}(ho:QOp X (compareOp op) r)(v7:QOp X (compareOp op') r')(ha:QE X a ta)(hb:QE X b tb)(hc:QE X c tc)(hm:lastMarks [op,op'] [b,c]=false:=by with_unfolding_all rfl):QE X (.Compare a [op,op'] [b,c] pos) (uL r r' ta tb tc):=⟨alT ho.out v7.out ha.out hb.out hc.out hm⟩
theorem vM(hc:QT X c tA)(ha:QE X a ta)(hb:QE X b tb):QE X (.IfExp c a b pos) (uF tA ta tb):=⟨alN hc.out ha.out hb.out⟩
theorem A3:QA X [] tNil:=⟨aqG⟩
theorem qa_c(ha:QE X e te)(hr:QA X es tl)(h:M5 e=false:=by rfl):QA X (e::es) (tCons te tl):=⟨pa_c ha.out hr.out h⟩
theorem L4(h:QA X es tl):QE X (.List es pos) (tLst tl):=⟨aqI h.out⟩
theorem N9{x1}(h:QA X es tl):QE X (.Tuple es x1 pos) (tTup tl):=⟨aqH h.out⟩
theorem fT:QE X (.Dict [] [] pos) vB:=⟨al8⟩
theorem P6:QO X none uR:=⟨anY⟩
theorem L6(h:QE X e te):QO X (some e) (tPart te):=⟨anZ h.out⟩
theorem N7{lo hi:Option Expr}{tlo thi:TO}(he:QE X e te)(hl:QO X lo tlo)(hu:QO X hi thi)(hK:X.K=K:=by rfl):QE X (.Subscript e (.Slice lo hi none p2) pos) (uS (rSlU K) te tlo thi):=by subst hK;exact ⟨al2 p_sl he.out hl.out hu.out⟩
theorem c9(hu:X.A.units+1<cLine)(ho:QE X o to)(hi:QE X i ti)(hs:NoSl i:=by exact fun _ _=>rfl):QE X (.Subscript o i pos) (tDGet to ti):=⟨an4 hu ho.out hi.out hs⟩
theorem qe_ix(ha:QE X a ta)(hb:QE X b tb)(hs:akl b:=by exact fun _ _=>rfl)(hK:X.K=K:=by rfl):QE X (.Subscript a b pos) (t6 (fN K) ta tb):=by subst hK;exact ⟨pe_ix aqM ha.out hb.out hs⟩
theorem qe_cB{id:String}{rc:List V->Hp->VK->Prop}(hc:QCall X (.builtin id) rc)(hm:X.mg x=none)(hv:bootBuiltins x=some (.builtin id))(ha:QA X (e::es) tl)(hg:Gl X x:=by rfl)(h1:M5 e=false:=by rfl)(h2:Y2 es=true:=by rfl)(hn:x≠"__name__":=by decide)(T8:(x==("__debug__" : Str))=false:=by decide) :
  QE X (.Call (.Name x p) (e::es) [] pos) (fM rc tl):=⟨pe_cB hc.out hg hm hv ha.out h1 h2 hn T8⟩
theorem qe_cT{T:String}{rc:List V->Hp->VK->Prop}(hc:QCall X (.type T) rc)(hm:X.mg x=none)(hv:bootBuiltins x=some (.type T))(ha:QA X (e::es) tl)(hg:Gl X x:=by rfl)(h1:M5 e=false:=by rfl)(h2:Y2 es=true:=by rfl)(hn:x≠"__name__":=by decide)(T8:(x==("__debug__" : Str))=false:=by decide) :
  QE X (.Call (.Name x p) (e::es) [] pos) (fM rc tl):=⟨pe_cT hc.out hg hm hv ha.out h1 h2 hn T8⟩
theorem qe_mB{T id:String}{rm:V->List V->Hp->VK->Prop}(pa:PlainAttrs T)(slot:Slot T name id)(W6:typeOf (.builtin id)=pure (.type "method_descriptor"))(hm:QMt X id rm)(ho:QE X o to)(ha:QA X (e::es) tl)(h1:M5 e=false:=by rfl)(h2:Y2 es=true:=by rfl)(h3:decide ((e::es).length<30)=true:=by rfl)(G9:attributeBase o name X.env (eval o X.env)=eval o X.env:=by rfl)(I0:(apos.endLine==cpos.line)=true:=by rfl)(hK:X.K=K:=by rfl):QE X (.Call (.Attribute o name apos) (e::es) [] cpos) (jB K T rm to tl):=by subst hK;exact ⟨pe_mB pa slot W6 hm.out ho.out ha.out h1 h2 h3 G9 I0⟩
theorem qe_m0{T id:String}{rm:V->List V->Hp->VK->Prop}(pa:PlainAttrs T)(slot:Slot T name id)(W6:typeOf (.builtin id)=pure (.type "method_descriptor"))(hm:QMt X id rm)(ho:QE X o to)(G9:attributeBase o name X.env (eval o X.env)=eval o X.env:=by rfl)(I0:(apos.endLine==cpos.line)=true:=by rfl)(hK:X.K=K:=by rfl):QE X (.Call (.Attribute o name apos) [] [] cpos) (tBM0 K T rm to):=by subst hK;exact ⟨aqO pa slot W6 hm.out ho.out G9 I0⟩
theorem D0(G:FO X.prog X.w X.K X.mg X.base k x ps dvs sp)(hr:Room k X.A)(ha:QA X (e::es) tl)(hg:Gl X x:=by rfl)(h1:M5 e=false:=by rfl)(h2:Y2 es=true:=by rfl)(T8:(x==("__debug__" : Str))=false:=by decide) :
  QE X (.Call (.Name x p) (e::es) [] pos) (tCall sp dvs E0 tl):=⟨ame G hr ha.out hg h1 h2 T8⟩
theorem F6{op:CmpOp}(ho:QOp X (compareOp op) r)(ha:QE X a ta)(hb:QE X b tb)(hm:behindInMarks op b=false:=by first | exact am8 _ | rfl):QT X (.Compare a [op] [b] pos) (tTest (t6 r ta tb)):=⟨anP ho.out ha.out hb.out hm⟩
theorem arl(ha:QT X a tA):QT X (.UnaryOp .Not a pos) (tNot tA):=⟨aqi ha.out⟩
theorem jK(ha:QT X a tA):QW X (.BoolOp .And [a] pos) tA:=⟨anF ha.out⟩
theorem vN(ha:QT X a tA):QW X (.BoolOp .Or [a] pos) tA:=⟨aqg ha.out⟩
theorem fU(ha:QT X a tA)(hb:QW X (.BoolOp .And (b::rest) pos) tB'):QW X (.BoolOp .And (a::b::rest) pos) (tAnd tA tB'):=⟨aqh ha.out hb.out⟩
theorem qw_or(ha:QT X a tA)(hb:QW X (.BoolOp .Or (b::rest) pos) tB'):QW X (.BoolOp .Or (a::b::rest) pos) (uE tA tB'):=⟨pw_or ha.out hb.out⟩
theorem QW.pt(h:QW X a tA):QT X a tA:=⟨h.out.pt⟩
theorem e8(ha:QE X a ta)(he:∀ whole,isTrue a X.env whole=(do let v <- whole;standAt a.pos;holding [v] (truthy v)):=by intro _;rfl)(hK:X.K=K:=by rfl):QT X a (tTru K ta):=by subst hK;exact ⟨aqU ha.out he⟩
variable {st:Stmt} {sts:List Stmt}
theorem G8:QSs X [] tNext:=⟨anG⟩
theorem A7(h:QS X st t):QSs X [st] t:=⟨anH h.out⟩
theorem A8(h:QS X st t)(h2:QSs X sts u):QSs X (st::sts) (tSeq t u):=⟨alO h.out h2.out⟩
theorem E3(he:QE X e te):QS X (.Return (some e) pos) (tRet te):=⟨aqm he.out⟩
theorem rD:QS X st uG:=⟨alP⟩
theorem D6(hN:X.N.Nodup)(hi:X.N[n]?=some x)(hx:l6 X.env.scope x)(he:QE X e te)(hs:swapsWith e (some (.Name x pos')) pos.line X.env=pure false:=by rfl)(hf:X.fn x=true:=by rfl):QS X (.Assign [.Name x pos'] e pos) (tAsg te (gName n)):=⟨aqq hN hi hx he.out hs (.inl hf)⟩
theorem jL{f:Str}(ho:QE X o to)(hv:QE X value tv)(hs:swapsWith value (some (.Attribute o f pos')) pos.line X.env=pure false:=by rfl)(hK:X.K=K:=by rfl):QS X (.Assign [.Attribute o f pos'] value pos) (sFld K to tv f):=by subst hK;exact ⟨aqD ho.out hv.out hs⟩
theorem l9{f:Str}(ho:QE X o to)(hb:attributeBase o f X.env (eval o X.env)=eval o X.env:=by rfl)(hK:X.K=K:=by rfl):QE X (.Attribute o f pos) (tFld K to f):=by subst hK;exact ⟨aqC ho.out hb⟩
theorem Z2(hu:X.A.units+1<cLine)(ho:QE X o to)(hi:QE X i ti)(hv:QE X value tv)(hs:swapsWith value (some (.Subscript o i pos')) pos.line X.env=pure false:=by rfl):QS X (.Assign [.Subscript o i pos'] value pos) (sDPut to ti tv):=⟨an5 hu ho.out hi.out hv.out hs⟩
theorem akE{op:Operator}{rd:V->V->Hp->VK->Prop}(hu:X.A.units+1<cLine)(ho:QE X o to)(hi:QE X i ti)(hv:QE X value tv)(zX:QIn X op rd)(ha:∀ ov iv new,augStore i ov iv new=(do holding [new,ov,iv] (setItem ov iv new);release [new,ov,iv] [];pure .next):=by exact fun _ _ _=>rfl) :
  QS X (.AugAssign (.Subscript o i tpos) op value pos) (sDAug to ti tv rd):=⟨an6 hu ho.out hi.out hv.out zX.out ha⟩
theorem anf(he:QE X e te)(hg:QG X tg g)(hs:swapsWithSole [tg] e pos.line X.env=pure false:=by rfl)(hw:swappedStores [tg] e X.env=pure none:=by rfl)(h1:(assignEach [tg] X.env).map (·.2)=[assign tg X.env]:=by rfl):QS X (.Assign [tg] e pos) (tAsg te g):=⟨aqp he.out hg.out hs hw h1⟩
theorem ang{op:Operator}{tip:fK}(hN:X.N.Nodup)(hi:X.N[n]?=some x)(hx:l6 X.env.scope x)(he:QE X e te)(ho:QIp X op tip)(hf:X.fn x=true:=by rfl):QS X (.AugAssign (.Name x pos') op e pos) (tAug n te tip):=⟨aqr hN hi hx he.out ho.out (.inl hf)⟩
theorem O4(he:QE X e te)(hs:swapsWith e none pos.line X.env=pure false:=by rfl):QS X (.Expr e pos) (tDrop te):=⟨anI he.out hs⟩
theorem qs_if{sa sb:List Stmt}(hc:QT X c tA)(ha:QSs X sa t)(hb:QSs X sb u):QS X (.If c sa sb pos) (tIfS tA t u):=⟨ps_if hc.out ha.out hb.out⟩
theorem vO{body:List Stmt}(hp:PassesOwn (model X.prog X.w) X.A X.env X.xe)(hc:QT X c tA)(hb:QSs X body t):QS X (.While c body [] pos) (qP tA t):=⟨alR hp hc.out hb.out⟩
theorem L7{body:List Stmt}{wi:TI}(hp:PassesOwn (model X.prog X.w) X.A X.env X.xe)(hi:QI X tg iter wi)(hg:QG X tg g)(hb:QSs X body t)(hc:X.calm=true:=by rfl)(hs:∀ x,foldedSetIterable iter X.env x=pure x:=by intro _;rfl):QS X (.For tg iter body [] pos) (tFor wi g t):=⟨aqu hp hc hi.out hg.out hb.out hs⟩
theorem D1(hN:X.N.Nodup)(hi:X.N[n]?=some x)(hx:l6 X.env.scope x)(hf:X.fn x=true\/X.env.scope.names.lookup x=some .local:=by first | exact .inl rfl | exact .inr rfl | assumption):QG X (.Name x pos) (gName n):=⟨anJ hN hi hx hf⟩
theorem bG:QGs X [] gNil:=⟨anK⟩
theorem T5{gs:l7}(h1:QG X e g)(h2:QGs X es gs)(hs:(assignEach (e::es) X.env).map (·.2)=assign e X.env::(assignEach es X.env).map (·.2):=by rfl):QGs X (e::es) (gCons g gs):=⟨alQ h1.out h2.out hs⟩
theorem bH{gs:l7}(h:QGs X es gs)(hc:X.calm=true:=by rfl)(hn:(assignEach es X.env).length=n:=by rfl)(T7:(assignEach es X.env).findIdx? (·.1)=none:=by rfl)(hK:X.K=K:=by rfl):QG X (.Tuple es k pos) (gTup K n gs):=by subst hK;exact ⟨aqn hc h.out hn T7⟩
variable {tg:Expr}
theorem O2(h:QE X e te)(hK:X.K=K:=by rfl):QI X tg e (iList K te):=by subst hK;exact ⟨anL h.out⟩
theorem dE(h:QE X e te)(hK:X.K=K:=by rfl):QI X tg e (iTup K te):=by subst hK;exact ⟨aqt h.out⟩
theorem anh(h:QE X e te):QI X tg e (iStr te):=⟨aqZ h.out⟩
theorem qi_r1(hm:X.mg "range"=none)(ha:QA X [a] tl)(hg:Gl X "range":=by rfl)(h1:M5 a=false:=by rfl):QI X tg (.Call (.Name "range" p) [a] [] pos) (iRng1 tl):=⟨pi_r1 hg hm ha.out h1⟩
theorem qi_r2(hm:X.mg "range"=none)(ha:QA X [a,b] tl)(hg:Gl X "range":=by rfl)(h1:M5 a=false:=by rfl)(h2:M5 b=false:=by rfl):QI X tg (.Call (.Name "range" p) [a,b] [] pos) (iRng2 tl):=⟨pi_r2 hg hm ha.out h1 h2⟩
theorem W3:QIfs X [] tYes:=⟨amb⟩
theorem dF(h:QT X c tA):QIfs X [c] tA:=⟨amc h.out⟩
variable {sc:Scope} {N':List Str} {k:Nat} {ixs:List Nat} {ifs:List Expr} {wi:TI} {g:TG} {elt:Expr}
theorem Y3(C:CompOk X.N X.env.scope.names sc N' k ixs)(hi:QI X tg e wi)(hg:∀ C s₃ H₃ fp pins,QG (N4 X sc N' C s₃ H₃ fp pins) tg g)(hc:∀ C s₃ H₃ fp pins,QIfs (N4 X sc N' C s₃ H₃ fp pins) ifs tA)(he:∀ C s₃ H₃ fp pins,QE (N4 X sc N' C s₃ H₃ fp pins) elt te)(L8:X.calm=true:=by rfl)(hs:∀ x,foldedSetIterable e X.env x=pure x:=by intro _;rfl):QE X (.ListComp elt [⟨tg,e,ifs,0⟩] sc pos) (tComp wi k ixs g tA te):=
 ⟨an8 C L8 hi.out (fun _ _ _ _ _=>(hg _ _ _ _ _).out) (fun _ _ _ _ _=>(hc _ _ _ _ _).out) (fun _ _ _ _ _=>(he _ _ _ _ _).out) hs⟩
theorem dG(hN:X.N.Nodup)(hiN:X.N[n]?=some x)(hx:l6 X.env.scope x)(C:CompOk X.N X.env.scope.names sc N' k ixs)(hi:QI X tg e wi)(hg:∀ C s₃ H₃ fp pins,QG (N4 X sc N' C s₃ H₃ fp pins) tg g)(hc:∀ C s₃ H₃ fp pins,QIfs (N4 X sc N' C s₃ H₃ fp pins) ifs tA)(he:∀ C s₃ H₃ fp pins,QE (N4 X sc N' C s₃ H₃ fp pins) elt te)(oP:swapsWith (.ListComp elt [⟨tg,e,ifs,0⟩] sc pos) (some (.Name x pos')) spos.line X.env=pure true:=by rfl)(L8:X.calm=true:=by rfl)(hf:X.fn x=true:=by rfl)(hs:∀ x,foldedSetIterable e X.env x=pure x:=by intro _;rfl) :
  QS X (.Assign [.Name x pos'] (.ListComp elt [⟨tg,e,ifs,0⟩] sc pos) spos) (tAsg (tComp wi k ixs g tA te) (gName n)):=
 ⟨ajq hN hiN hx C L8 hi.out (fun _ _ _ _ _=>(hg _ _ _ _ _).out) (fun _ _ _ _ _=>(hc _ _ _ _ _).out) (fun _ _ _ _ _=>(he _ _ _ _ _).out) oP (.inl hf) hs⟩
theorem q_add(hK:X.K=K:=by rfl):QOp X (binaryOp .Add) (rAddU K):=by subst hK;exact ⟨p_add⟩
theorem q_sub:QOp X (binaryOp .Sub) (aB fun i j=>.int (i-j)):=⟨p_sub⟩
theorem q_mul:QOp X (binaryOp .Mult) rMulU:=⟨p_mul⟩
theorem L9:QOp X (binaryOp .FloorDiv) (rI CDiv fun i j=>.int (i / j)):=⟨aqV⟩
theorem q_mod:QOp X (binaryOp .Mod) (rI (fun _ j=>0<j) fun i j=>.int (i % j)):=⟨p_mod⟩
theorem q_eq(hu:X.A.units+64<cLine)(hK:X.K=K:=by rfl):QOp X (compareOp .Eq) (rEqU K):=by subst hK;exact ⟨p_eq hu⟩
theorem q_ne(hu:X.A.units+64<cLine)(hK:X.K=K:=by rfl):QOp X (compareOp .NotEq) (rNeU K):=by subst hK;exact ⟨p_ne hu⟩
theorem q_lt:QOp X (compareOp .Lt) rLtU:=⟨p_lt⟩
theorem q_le:QOp X (compareOp .LtE) rLeU:=⟨p_le⟩
theorem q_gt:QOp X (compareOp .Gt) rGtU:=⟨p_gt⟩
theorem q_in(hu:X.A.units+64<cLine)(hK:X.K=K:=by rfl):QOp X (compareOp .In) (rInU K false):=by subst hK;exact ⟨p_in hu⟩
theorem vP(hu:X.A.units+64<cLine)(hK:X.K=K:=by rfl):QOp X (compareOp .NotIn) (rInU K true):=by subst hK;exact ⟨an9 hu⟩
theorem q_neg:QUn X (unaryOp .USub) (rU fun i=>.int (-i)):=⟨aqA⟩
theorem q_len(hK:X.K=K:=by rfl):QCall X (.builtin "len") (rLenU K):=by subst hK;exact ⟨p_len⟩
theorem q_ord:QCall X (.builtin "ord") rOrd:=⟨p_ord⟩
theorem t9(hK:X.K=K:=by rfl)(oQ:X.calm=calm:=by rfl):QCall X (.type "list") (vI K calm):=by subst hK;subst oQ;exact ⟨aqY⟩
theorem V3:QMt X "list.append" jC:=⟨fun pins s σ H x xs v us Q I rx rv h=>agF pins s σ H x xs v us Q I rx rv h⟩
theorem akF:QMt X "list.reverse" aiz:=⟨fun pins s σ H x xs v us Q I rx rv h=>ajp pins s σ H x xs v us Q I rx rv h⟩
theorem vQ:QMt X "list.extend" uW:=⟨fun pins s σ H x xs v us Q I rx rv h=>akn pins s σ H x xs v us Q I rx rv h⟩
theorem ani:QIp X .Add (uI fun i j=>i+j):=⟨aqs⟩
theorem arm:QIn X .Add rAdd:=⟨aqE⟩
theorem arn:QIn X .Sub rSub:=⟨aqF⟩
end
end L2
set_option maxRecDepth 100000
namespace L2
open PySem PySem.Spec PyProof.Rows
noncomputable def ModD (P:Program) (w:World) (K:PySem.W.Frag) (a:Addr) (kvs:List (C6×V)):Prop:=(a==sysModules)=false/\∀ h:Heap,K.In h->∃ vs,KV kvs vs/\h.DictOf (P3 P w) a vs
noncomputable abbrev ModE (w:World):List DictEntry->List (C6×V)->Prop:=Paired fun e kv=>keyIs kv.1 e.key=true/\e.hash=keyH w kv.1/\RelV kv.2 e.val
theorem ModE.pairs{P:Program}{w:World} : ∀ {es:List DictEntry} {kvs:List (C6×V)},ModE w es kvs->∃ vs:List (C6×Value),KV kvs vs/\Pairs (P3 P w) es vs/\(∀ e∈es,∃ k,(P3 P w).is k e.key=true/\e.hash=(P3 P w).hash k)/\vs.map (·.1)=kvs.map (·.1)
 | _,_,.nil=>⟨[],.nil,.nil,fun e h=>(nomatch h),rfl⟩
 | e::es,kv::kvs,.cons ⟨h1,h2,h3⟩ t=>by
  obtain ⟨vs,a1,a2,a3,a4⟩:=ModE.pairs (P:=P) t;refine ⟨(kv.1,e.val)::vs,.cons ⟨rfl,h3⟩ a1,.cons h1 rfl a2,fun e' he=>?_,by rw [K4,K4,a4]⟩
  rcases F9.mp he with z | z
  ·rw [z];exact ⟨kv.1,h1,h2⟩
  ·exact a3 e' z
theorem aoD{P:Program}{w:World}{es:Array DictEntry}{ep:Nat}(l:K.lookup a=some { cls:=.type "dict",dict:=none,data:=.dict es ep,slots:=#[] })(hs:(a==sysModules)=false)(he:ModE w es.toList kvs)(hn:(kvs.map (·.1)).Nodup):ModD P w K a kvs:=by
 refine ⟨hs,fun h X=>?_⟩;obtain ⟨vs,a1,a2,a3,a4⟩:=he.pairs (P:=P);exact ⟨vs,a1,_,es,ep,X a _ l,⟨rfl,rfl,rfl⟩,rfl,fun e h=>a3 e (Array.mem_toList_iff.mpr h),a2,by rw [a4];exact hn⟩
noncomputable def rInM (neg:Bool) (a:Addr) (kvs:List (C6×V)):R2:=fun x y H Q=>y=.ref a/\∃ k,x=kV k/\Q (.bl (neg.xor (valV kvs k).isSome)) H
noncomputable def anj (a:Addr) (kvs:List (C6×V)) (to ti:TE):TE:=fun σ H Q=>to σ H fun x H1=>ti σ H1 fun y H2=>x=.ref a/\∃ k v,y=kV k/\valV kvs k=some v/\Q v H2
section
variable {X:Cx} {a:Addr} {kvs:List (C6×V)} {o i:Expr} {to ti:TE} {pos:Pos}
theorem q_inM(M:ModD X.prog X.w X.K a kvs):QOp X (compareOp .In) (rInM false a kvs):=⟨by
 intro pins s σ H x y v u Q I rx ry h;obtain ⟨rfl,k,rfl,q⟩:=h;obtain rfl:u=Value.ref a:=ry;obtain ⟨hd,M⟩:=M;obtain ⟨vs,rel,dd⟩:=M s.heap I.kIn;refine wpAny_in_of (kV_is rx) hd dd.mapOf ?_;rw [<- (rel.val k).isSome_eq];exact ⟨.bl _,H,I.tok _,rfl,by simpa using q⟩⟩
theorem aiE(M:ModD X.prog X.w X.K a kvs)(ho:QE X o to)(hi:QE X i ti)(hs:NoSl i:=by exact fun _ _=>rfl):QE X (.Subscript o i pos) (anj a kvs to ti):=⟨by
 intro pins s σ H Q I h;refine akr PySem.F.slot_dict_getitem.lookup hs (B5 (ho.out pins s σ H _ I h) fun u s1 ⟨x,H1,I1,rx,q1⟩=>B5 (hi.out pins s1 σ H1 _ I1 q1) fun iv s2 ⟨y,H2,I2,ry,ex,k,v,ey,l,q2⟩=>?_);subst ex ey;obtain rfl:u=Value.ref a:=rx;obtain ⟨hd,M⟩:=M;obtain ⟨vs,rel,dd⟩:=M s2.heap I2.kIn;obtain ⟨w',hw,rw'⟩:=qS (v:=v) (o:=valueAt vs k) (by rw [<- l];exact rel.val k);exact ⟨dd.typeIs,wpAny_getItem_of (kV_is ry) dd.mapOf hw ⟨v,H2,I2.tok _,rw',q2⟩⟩⟩
end
theorem ank{k:C6} : (V.str z=kV k)=(k=Sum.inr z):=by
 cases k with
 | inl i=>exact propext ⟨fun h=>(by cases h),fun h=>(by cases h)⟩
 | inr x=>exact propext ⟨fun h=>(by cases h;rfl),fun h=>(by cases h;rfl)⟩
theorem aro : rInM neg a kvs (.str z) (.ref b) H Q=(V.ref b=V.ref a/\Q (.bl (neg.xor (valV kvs (Sum.inr z)).isSome)) H):=by
 unfold rInM;simp only [ank,exists_eq_left]
theorem amv : anj a kvs to ti σ H Q=to σ H fun x H1=>ti σ H1 fun y H2=>x=.ref a/\∃ k v,y=kV k/\valV kvs k=some v/\Q v H2:=rfl
noncomputable def akG (c:TT) (tb:TS) (D:Ends) (σ:St) (H:Hp):Prop:=qP c tb D σ H
theorem amw : qP c tb D σ H=akG c tb D σ H:=rfl
theorem vR(Pv:Nat->St->Hp->Prop)(m:Nat)(h0:Pv m σ H)(hs:∀ m σ H,Pv m σ H->c σ H fun b H1=>if b=true then ∃ N:St->Hp->Prop,(∀ σ' H',N σ' H'->∃ m',m'<m/\Pv m' σ' H')/\tb { D with nx:=N,ct:=N,bk:=D.nx } σ H1 else D.nx σ H1):akG c tb D σ H:=⟨Pv,⟨m,h0⟩,hs⟩
noncomputable def rTupR (K:PySem.W.Frag) (p:Addr) (H:Hp) (Q:VK):Prop:=∃ ys,(E2 K H p ys/\∀ l,H l=none->Q (.ref l) (A0 H l (.tup ys)))\/(C7 K H p ys/\Q (.ref p) H)
theorem rTupR.l{p:Addr}(h1:E2 K H p ys)(h:∀ l,H l=none->Q (.ref l) (A0 H l (.tup ys))):rTupR K p H Q:=⟨ys,.inl ⟨h1,h⟩⟩
noncomputable def rTupU (K:PySem.W.Frag):List V->Hp->VK->Prop
 | [.ref p],H,Q=>rTupR K p H Q
 | _,_,_=>False
theorem tup_r{p:Addr} : rTupU K [.ref p] H Q=rTupR K p H Q:=rfl
theorem mO(hK:X.K=K:=by rfl):QCall X (.type "tuple") (rTupU K):=by
 subst hK;refine ⟨fun pins s σ H xs us Q I r h=>?_⟩
 match xs,h with
 | [.ref p],⟨ys,h⟩=>exact af2 pins s σ H _ us Q I r ⟨p,ys,rfl,h⟩
noncomputable def rMin:List V->Hp->VK->Prop:=fun xs H Q=>∃ i j,xs=[.int i,.int j]/\Q (.int (if j<i then j else i)) H
noncomputable def rMax:List V->Hp->VK->Prop:=fun xs H Q=>∃ i j,xs=[.int i,.int j]/\Q (.int (if j > i then j else i)) H
theorem arp{i j:Int} : rMin [.int i,.int j] H Q=Q (.int (if j<i then j else i)) H:=propext ⟨fun ⟨_,_,e,q⟩=>(by cases e;exact q),fun q=>⟨_,_,rfl,q⟩⟩
theorem arq{i j:Int} : rMax [.int i,.int j] H Q=Q (.int (if j > i then j else i)) H:=propext ⟨fun ⟨_,_,e,q⟩=>(by cases e;exact q),fun q=>⟨_,_,rfl,q⟩⟩
noncomputable def rCalm (calm:Bool) (r:List V->Hp->VK->Prop):List V->Hp->VK->Prop:=fun xs H Q=>calm=true/\r xs H Q
theorem q_min(hc:X.calm=calm:=by rfl):QCall X (.builtin "min") (rCalm calm rMin):=⟨fun pins s σ H xs us Q I r h=>akd (hc.trans h.1) pins s σ H xs us Q I r h.2⟩
theorem aoE{r:List V->Hp->VK->Prop} : rCalm true r xs H Q=r xs H Q:=propext ⟨fun h=>h.2,fun h=>⟨rfl,h⟩⟩
end L2
set_option maxRecDepth 100000
namespace L2
open PySem PySem.Spec PyProof.Rows
open PySem.Builtin PySem.Builtin.Str PySem.StrLaws
noncomputable def tSeqM (t u:TS):TS:=fun D σ H=>∃ M:St->Hp->Prop,t { D with nx:=M } σ H/\∀ σ' H',M σ' H'->u D σ' H'
theorem m3{rest:List Stmt}{t u:TS}(h1:QS X st t)(h2:QSs X rest u):QSs X (st::rest) (tSeqM t u):=⟨by
 intro pins s σ H D I h;obtain ⟨M,h,hm⟩:=h;refine wpAny_execs_cons (B5 (h1.out pins s σ H { D with nx:=M } I h) fun f s1 q=>?_)
 cases f with
 | next=>
  obtain ⟨σ',H',I',q⟩:=q;exact h2.out pins s1 σ' H' D I' (hm _ _ q)
 | ret v=>exact q
 | brk=>exact q
 | cont=>exact q⟩
theorem m4{t u:TS}(M:St->Hp->Prop)(h:t { D with nx:=M } σ H)(h2:∀ σ' H',M σ' H'->u D σ' H'):tSeqM t u D σ H:=⟨M,h,h2⟩
theorem vS{p:Addr}(h:H p=some (.lst xs)):TruV K (.ref p) H (!xs.isEmpty):=.inl ⟨xs,.of h,rfl⟩
theorem m5(xs:List V)(k:Nat):cutV xs (some (k:Int)) none=xs.drop k:=by
 unfold cutV;have e1:HT.sIx xs.length 0 (some (k:Int))=min k xs.length:=by unfold HT.sIx;simp;walk_at "o"
 have e2:HT.sIx xs.length xs.length none=xs.length:=rfl;rw [e1,e2,y8 (by rw [W2];exact C2 _)]
 by_cases h:k<=xs.length
 ·rw [cV h]
 ·rw [Nat.min_eq_right (by walk_at "o"),lM (C2 _),lM (by walk_at "o")]
theorem bI(xs:List V)(k:Nat):cutV xs none (some (k:Int))=xs.take k:=by
 unfold cutV;have e1:HT.sIx xs.length xs.length (some (k:Int))=min k xs.length:=by unfold HT.sIx;simp;walk_at "o"
 have e2:HT.sIx xs.length 0 none=0:=rfl;rw [e1,e2,List.drop_zero,Nat.sub_zero]
 by_cases h:k<=xs.length
 ·rw [cV h]
 ·rw [Nat.min_eq_right (by walk_at "o"),y8 (C2 _),y8 (by walk_at "o")]
theorem vT(x:V)(xs:List V):cutV (x::xs) (some 1) none=xs:=m5 (x::xs) 1
theorem U4{α:Type}(x:α)(xs:List α):J8 (x::xs) 0=some x:=by
 have e:i7 (x::xs).length 0=some 0:=by unfold i7;rw [if_pos (cY 0),if_pos (by rw [K3];walk_at "o")];rfl
 unfold J8;rw [e];rfl
theorem amx{o f:Expr}(hu:X.A.units+1<cLine)(ho:QE X o td)(he:QE X e ty)(hf:QE X f tx)(h1:M5 e=false:=by rfl)(h2:M5 f=false:=by rfl)(G9:attributeBase o "get" X.env (eval o X.env)=eval o X.env:=by rfl)(I0:(apos.endLine==cpos.line)=true:=by rfl):QE X (.Call (.Attribute o "get" apos) [e,f] [] cpos) (vE td ty tx):=
 ⟨ama hu ho.out he.out hf.out ⟨G9,by rw [O7 h1,O7 h2];rfl,I0,by rw [O7 h1,O7 h2];rfl⟩⟩
theorem aoF{trs:List (TE×TE)} : tDisp trs σ H Q=∀ p,H p=none->jE trs σ (A0 H p (.dK [])) fun ps H2=>H2 p=some (.dK [])/\∃ kvs:List (C6×V),ps=kvs.map (fun kv=>(kV kv.1,kv.2))/\kvs.length<=15/\Q (.ref p) (A0 H2 p (.dK (Y1 [] kvs))):=rfl
theorem aoG{Q:List (V×V)->Hp->Prop} : jE [] σ H Q=Q [] H:=rfl
theorem amy{tk tv:TE}{r:List (TE×TE)}{Q:List (V×V)->Hp->Prop} : jE ((tk,tv)::r) σ H Q=tk σ H fun x H1=>tv σ H1 fun y H2=>jE r σ H2 fun ps H3=>Q ((x,y)::ps) H3:=rfl
theorem amz : vE td ty tx σ H Q=td σ H fun x H1=>∃ a,x=.ref a/\fP H1 a/\ty σ H1 fun y H2=>tx σ H2 fun z H3=>∃ o,DGet H3 a y o/\Q (o.getD z) H3:=rfl
theorem vU:∀ {zs:List Str} {us:List Value},Vals (zs.map V.str) us->StrsAre us zs
 | [],_,.nil=>.nil
 | z::zs,_::_,.cons ⟨t,h⟩ r=>by subst h;exact .cons _ _ (vU r)
noncomputable def rJoin (K:PySem.W.Frag):V->List V->Hp->VK->Prop:=fun x vs H Q=>∃ (z:Str) (b:Addr) (zs:List Str),x=.str z/\vs=[.ref b]/\(E2 K H b (zs.map V.str)\/C7 K H b (zs.map V.str))/\z.length<=16/\(zs.map (·.length)).sum+zs.length<=1048576/\Q (.str (Str.join z zs)) H
theorem rE(hK:X.K=K:=by rfl):QMt X "str.join" (rJoin K):=⟨by
 subst hK;intro pins s σ H x vs v us Q I rx rv h;obtain ⟨z,b,zs,rfl,rfl,hb,h1,h2,q⟩:=h;obtain ⟨t,rfl⟩:=rx;obtain ⟨u,rfl,ru⟩:=vals1 rv
 cases ru
 have e:Txt.join z zs=Str.join z zs:=glued_eq_join z zs
 rcases hb with hb | hb
 ·obtain ⟨its,r',pl,hz⟩:=I.list hb;exact join_listW pl.isList (by simpa using vU r') h1 h2 fun t' k=>⟨.str (Str.join z zs),H,I.tok k,⟨t',by rw [e]⟩,q⟩
 ·obtain ⟨its,r',pl,hz⟩:=I.tuple hb;exact join_tupleW pl (by simpa using vU r') h1 h2 fun t' k=>⟨.str (Str.join z zs),H,I.tok k,⟨t',by rw [e]⟩,q⟩⟩
end L2
set_option maxRecDepth 100000
namespace L2
open PySem PySem.Spec PyProof.Rows
theorem ada:entryFor table "dict.update.loop"=some Builtin.«dict.update.loop»:=entryFor_of_tree (by kernel_rfl)
theorem rF:plainId "dict.update.loop"=true:=by decide +kernel
section
variable {prog:Program} {w:World} {A:Around} {R:Result->Shared->Prop} {I:Addr} {fp wr:List Addr} {G:Array GenState->Array GenState->Prop} {n:Nat} {P:Nat->Value->Prop} {St:Nat->Shared->Prop}
variable {K:Type} [DecidableEq K] {knd:KeyKind prog w K}
noncomputable def u5 (ks:Nat->K) (vl:Nat->Value):Nat->List (K×Value)
 | 0=>[]
 | i+1=>stored (u5 ks vl i) (ks i) (vl i)
theorem aeR(ks:Nat->K)(vl:Nat->Value):∀ i,(u5 ks vl i).length<=i
 | 0=>C2 _
 | i+1=>by
  have h1:=aeR ks vl i;have h2:(stored (u5 ks vl i) (ks i) (vl i)).length<=(u5 ks vl i).length+1:=by
   unfold stored
   split
   ·rw [A6];walk_at "o"
   ·rw [C5];exact C2 _
  show (stored (u5 ks vl i) (ks i) (vl i)).length<=i+1;walk_at "o"
theorem akI(W:WalksS prog w A.in1 I fp wr G n P St)(d:Addr)(aO:d∉fp)(tp:Nat->Addr)(ky vl:Nat->Value)(ks:Nat->K)(hP:∀ i v,P i v->v=.ref (tp i))(hk:∀ i,i<n->knd.is (ks i) (ky i)=true)(ht:∀ i,i<n->tp i≠d/\tp i∉wr)(hn:n<=sizeLine) :
  ∀ (k i:Nat) (s:Shared) (j:Int) (t:Tok),n-i=k->i<=n->St i s->(∀ i,i<n->IsTup s.heap (tp i) #[ky i,vl i])->s.heap.DictOf knd d (u5 ks vl i)->
   (∀ s',Moved (d::wr) G s s'->s'.heap.DictOf knd d (u5 ks vl n)->R (.ok (.ret .none)) s')->
   codeAny (model prog w) A (.builtin "dict.update.loop" ⟨[.ref d,.ref I,.int j t,.none],[]⟩) R s:=by
 have hdw:d∉wr:=fun h=>aO (W.sub _ h)
 have bY:∀ b∈wr,b∈d::wr:=fun b hb=>M3 _ hb
 intro k
 induction k with
 | zero=>
  intro i s j t hk' hi T7 hT hD hR;have K2:i=n:=by walk_at "o"
  subst K2;refine codeAny_builtin ada ?_;rw [Around.under_plainId rF _];show wpAny _ A.in1 (pyNext (.ref I) >>= _) _ _ s;refine wpAny_bind (W.done s _ _ T7 fun s' hm=>?_);have e0:Builtin.Dict.addKeywords d []=pure ():=rfl;show wpAny _ A.in1 (Builtin.Dict.addKeywords d [] >>= fun _=>ret Value.none) _ _ s';rw [e0];refine wpAny_bind (wpAny_pure (wpAny_pure (hR s' (hm.mono bY) ?_)));obtain ⟨o,es,ep,ho,rest⟩:=hD;exact ⟨o,es,ep,hm.heap d _ hdw ho,rest⟩
 | succ k ih=>
  intro i s j t hk' hi T7 hT hD hR;have C9:i<n:=by walk_at "o"
  refine codeAny_builtin ada ?_;rw [Around.under_plainId rF _];show wpAny _ A.in1 (pyNext (.ref I) >>= _) _ _ s;refine wpAny_bind (W.item i s _ _ C9 T7 fun v s' hv hst' hm=>?_);obtain rfl:=hP i v hv;have hD':s'.heap.DictOf knd d (u5 ks vl i):=by
   obtain ⟨o,es,ep,ho,rest⟩:=hD;exact ⟨o,es,ep,hm.heap d _ hdw ho,rest⟩
  have hT':∀ i,i<n->IsTup s'.heap (tp i) #[ky i,vl i]:=fun i hi=>by
   obtain ⟨o,ho,rest⟩:=hT i hi;exact ⟨o,hm.heap _ _ (ht i hi).2 ho,rest⟩
  have hTi:=hT' i C9;obtain ⟨o,ho,zL,n0,tJ⟩:=id hTi;refine wpAny_bind (wpAny_holding (wpAny_bind (wpAny_tryCatch ?_)));unfold Builtin.Dict.pairItems;refine wpAny_bind (wpAny_typeOf hTi.typeIs ?_);rw [if_pos (by decide)];refine wpAny_bind (wpAny_seqItems ho tJ ?_);refine wpAny_pure ?_;show wpAny _ _ (holding [ky i,vl i] (dictSet d (ky i) (vl i))) _ _ s';have hl:=aeR ks vl i;refine wpAny_holding (wpAny_dictSet_pairs (hk i C9) hD' (fun h' hD2 hsb=>?_) (by walk_at "o"));refine wpAny_pure ⟨plainId_quiet rF _,ih (i+1) _ (j+1) 0 (by walk_at "o") C9 (W.frame _ s' _ _ hst' (Nat.le_succ _) fun b hb o e=>?_) (fun i hi=>?_) hD2 fun s'' hm'' hD''=>?_⟩
  ·rw [hsb.2 b (fun h:b=d=>aO (by rw [<- h];exact hb))];exact e
  ·obtain ⟨o,ho,rest⟩:=hT' i hi;exact ⟨o,(hsb.2 _ (ht i hi).1).trans ho,rest⟩
  ·refine hR s'' (Moved.trans W.gtrans ((hm.mono bY).then_heap (Nat.le_succ _) fun b o hb e=>?_) hm'') hD'';rw [hsb.2 b (fun h:b=d=>hb (by rw [h];exact M4))];exact e
end
theorem ajr:typeLookup (.type "list") "__getattribute__"=pure (some (.builtin "list.__getattribute__")):=by rw [typeLookup_type,builtinLookup_eq_fast];kernel_rfl
theorem agQ:typeLookup (.type "list") "keys"=pure none:=by rw [typeLookup_type,builtinLookup_eq_fast];kernel_rfl
theorem agR:typeLookup (.type "list") "__getattr__"=pure none:=by rw [typeLookup_type,builtinLookup_eq_fast];kernel_rfl
theorem agS{w:World}{l:Addr}{xs:Array Value}{Q:Option Value->Shared->Prop}(hx:s.heap.get? l=some o)(hc:o.cls=.type "list")(oR:o.data=.seq xs k)(hd:o.dict=none)(hA:A.handled=none)(h:∀ h' tk,(∀ b o,s.heap.get? b=some o->h'.get? b=some o)->Q none { s with heap:=h',toks:=tk }):wpAny (model prog w) A (getAttr? (.ref l) "keys") Q E s:=by
 obtain ⟨c,dct,dat,sl⟩:=o;simp only at hc oR hd;subst hc oR hd;obtain ⟨hp,g,d,tk,os⟩:=s;have hT:∀ tk',(⟨hp,g,d,tk',os⟩:Shared).TypeIs (.ref l) "list":=fun _=>⟨_,hx,rfl⟩
 have f4:=F.slot_list_getattribute.bind (.ref l);unfold getAttr? getAttrBy? getAttrBy;refine wpAny_bind (wpAny_mkText (wpAny_bind (wpAny_attempt (wpAny_holding (wpAny_bind (wpAny_typeOf (hT _) ?_))))));rw [ajr];refine wpAny_bind (wpAny_pure ?_);show wpAny _ _ (getAttrByItsOwn _ _ _ _ _ _) _ _ _;unfold getAttrByItsOwn;refine wpAny_bind (wpAny_pure ?_);refine wpAny_bind (wpAny_attempt (wpAny_holding ?_));show wpAny _ _ (boundAndCalled _ _ _) _ _ _;unfold boundAndCalled;rw [f4];refine wpAny_bind (wpAny_pure ?_);refine call_meets F.slot_list_getattribute (hT _) am_entry_list_getattribute (F.args_list_getattribute_2 _ _) (meets_getattribute_miss_list l xs k sl "keys" _ agQ (by decide +kernel) (by decide +kernel)) ⟨hx,hA,fun h' tk' e new=>?_⟩;obtain ⟨t',u',he⟩:=new.there;have hTe:∀ tk',(⟨h',g,d,tk',os⟩:Shared).TypeIs (.ref e) "AttributeError":=fun _=>⟨_,he,rfl⟩
 show wpAny _ _ (getattributeRaised _ _ _ _ _ _ _) _ _ _;unfold getattributeRaised;refine wpAny_bind (wpAny_isInstance (hTe _) sub_AttributeError ?_);rw [if_pos rfl];show wpAny _ _ (hookBehind _ _ >>= _) _ _ _;unfold hookBehind;rw [if_neg (by decide),agR];refine wpAny_bind (wpAny_pure ?_);unfold hookOrError attributeErrorLeaves;show wpAny _ _ (if (!false)=true then _ else _) _ _ _;rw [if_pos (by decide)];refine wpAny_bind (wpAny_throw ?_);show wpAny _ _ (isInstance _ _ >>= _) _ _ _;refine wpAny_bind (wpAny_isInstance (hTe _) sub_AttributeError ?_);rw [if_pos rfl];exact wpAny_pure (h h' tk' new.keeps)
section
variable {prog:Program} {w:World} {A:Around} {E:Value->Shared->Prop} {s:Shared} {K:Type} [DecidableEq K] {knd:KeyKind prog w K}
theorem aeS{l:Addr}{Q:Value->Shared->Prop}(hl:PlainL s.heap l items)(hA:A.handled=none)(tp:Nat->Addr)(ky vl:Nat->Value)(ks:Nat->K)(hP:∀ (i:Nat) (v:Value),items[i]?=some v->v=Value.ref (tp i))(hk:∀ i,i<items.size->knd.is (ks i) (ky i)=true)(hT:∀ i,i<items.size->IsTup s.heap (tp i) #[ky i,vl i])(hn:items.size<=sizeLine)(h:∀ h' tk,(∀ b o,s.heap.get? b=some o->h'.get? b=some o)->h'.DictOf knd s.heap.objs.size (u5 ks vl items.size)->Q (.ref s.heap.objs.size) { s with heap:=h',toks:=tk }) :
  wpAny (model prog w) A (call (.type "dict") [.ref l]) Q E s:=by
 refine callType_codes (Q₁:=fun obj s₁=>obj=.ref s.heap.objs.size/\s₁={ s with heap:=s.heap.push { cls:=.type "dict",data:=.dict #[] } }) F.kt_called_dict (F.kt_typeCall_dict_1 _) F.entry_dict_init (kt_code_dict_new _ ⟨rfl,rfl⟩) ?_;rintro obj s₁ ⟨rfl,rfl⟩;have Q6:(s.heap.push { cls:=.type "dict",data:=.dict #[] }).DictOf knd s.heap.objs.size []:=Heap.DictOf.new s.heap;obtain ⟨ol,nl,hol,hlc,hld,eF⟩:=hl;have gW:(s.heap.push { cls:=.type "dict",data:=.dict #[] }).get? l=some ol:=Heap.get?_push_of_some _ hol;have C9:l<s.heap.objs.size:=Heap.lt_size hol;refine ⟨Q6.typeIs,F.args_dict_init_2 _ _,?_⟩;unfold Builtin.«dict.__init__»;refine wpAny_bind ?_;unfold Builtin.Dict.selfAndRest;refine wpAny_bind (wpAny_notOrdered_dict Q6.typeIs ?_);show wpAny _ _ (pure (s.heap.objs.size,[Value.ref l])) _ _ _;refine wpAny_pure ?_;show wpAny _ _ (Builtin.Dict.updateFrom "dict.__init__" s.heap.objs.size (.ref l) [] .none) _ _ _;unfold Builtin.Dict.updateFrom;refine wpAny_bind (wpAny_typeOf (T:="list") ⟨_,gW,hlc⟩ ?_);rw [if_pos (by decide)];refine wpAny_bind (agS gW hlc eF hld (by simp [hA]) fun h2 tk2 keep2=>?_);rw [if_pos (show (none:Option Value).isNone=true from rfl)];refine wpAny_bind (wpAny_rule ?_);have T3:h2.IsList l items:=⟨ol,keep2 _ _ gW,hlc,nl,eF⟩
 refine wpAny_bind (wpAny_pyIter_list T3 ?_);obtain ⟨od,es,ep,tJ,restd⟩:=Q6;have bZ:s.heap.objs.size<h2.objs.size:=Heap.lt_size (keep2 _ _ tJ);have L0:l≠h2.objs.size:=O6 (Nat.lt_trans C9 bZ);have hh:A.in1.in1.handled=none:=by simp [hA]
 have aO:s.heap.objs.size∉[h2.objs.size,l]:=by
  simp only [F9,lU,or_false,not_or];exact ⟨O6 bZ,Nat.ne_of_gt C9⟩
 have kY:∀ i,i<items.size->tp i<s.heap.objs.size:=fun i hi=>by
  obtain ⟨o,ho,_⟩:=hT i hi;exact Heap.lt_size ho
 refine wpAny_pure ⟨plainId_quiet rF _,akI ((Walks.list hh _ l L0 items).toS) s.heap.objs.size aO tp ky vl ks hP hk (fun i hi=>⟨O6 (kY i hi),?_⟩) hn (items.size-0) 0 _ 0 0 (by walk_at "o") (G2 _) ⟨⟨_,Heap.get?_push_size _ rfl,rfl,rfl⟩,T3.push _⟩ (fun i hi=>?_) ?_ fun s' hm hD'=>?_⟩
 ·simp only [F9,lU,or_false];exact O6 (Nat.lt_trans (kY i hi) bZ)
 ·obtain ⟨o,ho,rest⟩:=hT i hi;exact ⟨o,Heap.get?_push_of_some _ (keep2 _ _ (Heap.get?_push_of_some _ ho)),rest⟩
 ·exact ⟨od,es,ep,Heap.get?_push_of_some _ (keep2 _ _ tJ),restd⟩
 ·obtain ⟨h',g',d',tk',os'⟩:=s';have eg:g'=s.gens:=hm.gens;have ed:d'=s.drawn:=hm.drawn;have eo:os'=s.os:=hm.os;subst eg ed eo;refine ⟨rfl,h h' tk' (fun b o hb=>hm.heap b o ?_ (Heap.get?_push_of_some _ (keep2 _ _ (Heap.get?_push_of_some _ hb)))) hD'⟩;have oS:b<s.heap.objs.size:=Heap.lt_size hb;simp only [F9,lU,or_false,not_or];exact ⟨O6 oS,O6 (Nat.lt_trans oS bZ)⟩
end
noncomputable def arr (K:PySem.W.Frag) (calm:Bool):List V->Hp->VK->Prop:=fun xs H Q=>calm=true/\∃ (p:Addr) (ts:List Addr) (kxs:List (C6×V)),xs=[.ref p]/\E2 K H p (ts.map V.ref)/\Paired (fun t kx=>C7 K H t [kV kx.1,kx.2]) ts kxs/\∀ d,H d=none->Q (.ref d) (A0 H d (.dK (Y1 [] kxs)))
theorem aiG(I:Inv X pins σ H s):∀ {ts:List Addr} {kxs:List (C6×V)},Paired (fun t kx=>C7 X.K H t [kV kx.1,kx.2]) ts kxs->
  ∃ ws:List (Value×Value),Paired (fun t w=>IsTup s.heap t #[w.1,w.2]) ts ws/\Paired (fun (kx:C6×V) (w:Value×Value)=>keyIs kx.1 w.1=true/\RelV kx.2 w.2) kxs ws
 | _,_,.nil=>⟨[],.nil,.nil⟩
 | _,_,.cons h t=>by
  obtain ⟨ws,h1,h2⟩:=aiG I t;obtain ⟨its,r,ht,_⟩:=I.tuple h;obtain ⟨u1,u2,rfl,r1,r2⟩:=vals2 r;exact ⟨(u1,u2)::ws,.cons ht h1,.cons ⟨kV_is (P:=X.prog) (w:=X.w) r1,r2⟩ h2⟩
theorem akJ:∀ {ts:List Addr} {us:List Value},Vals (ts.map V.ref) us->us=ts.map Value.ref
 | [],_,.nil=>rfl
 | t::ts,_::_,.cons h r=>by
  rw [K4,<- akJ r];cases h;rfl
theorem akK(hK:X.K=K:=by rfl)(hc:X.calm=calm:=by rfl):QCall X (.type "dict") (arr K calm):=⟨by
 subst hK;intro pins s σ H xs us Q I r h;obtain ⟨oQ,p,ts,kxs,rfl,hp,hP,q⟩:=h;obtain ⟨u,rfl,rx⟩:=vals1 r
 cases rx
 obtain ⟨its,r',pl,hz⟩:=I.list hp;have oT:=akJ r';obtain ⟨ws,h1,h2⟩:=aiG I hP;have oU:ts.length=ws.length:=Paired.length h1;have T3:kxs.length=ws.length:=Paired.length h2;rw [A6] at hz;have hsz:its.toArray.size=ts.length:=by rw [L5,oT,A6]
 have hrel:∀ i,i<=ts.length->KV (Y1 [] (kxs.take i)) (u5 (fun i=>(kxs.getD i (Sum.inl 0,.non)).1) (fun i=>(ws.getD i (.none,.none)).2) i):=by
  intro i
  induction i with
  | zero=>intro _;exact .nil
  | succ i ih=>
   intro hi;have cA:i<kxs.length:=by walk_at "o"
   obtain ⟨w',hw,hr⟩:=Paired.at h2 (K8 cA);have e1:Y1 [] (kxs.take (i+1))=putK (Y1 [] (kxs.take i)) kxs[i].1 kxs[i].2:=by
    unfold Y1;rw [q0,K8 cA,Option.toList_some,aU];rfl
   rw [e1];show KV _ (stored _ (kxs.getD i (Sum.inl 0,.non)).1 (ws.getD i (.none,.none)).2);have e2:(kxs.getD i (Sum.inl 0,.non))=kxs[i]:=by rw [cR,K8 cA];rfl
   have e3:(ws.getD i (.none,.none))=w':=by rw [cR,hw];rfl
   rw [e2,e3];exact (ih (by walk_at "o")).put _ hr.2
 refine aeS (knd:=P3 X.prog X.w) pl (I.ok.hd (hc.trans oQ)) (fun i=>ts.getD i 0) (fun i=>(ws.getD i (.none,.none)).1) (fun i=>(ws.getD i (.none,.none)).2) (fun i=>(kxs.getD i (Sum.inl 0,.non)).1) (fun i v hv=>?_) (fun i hi=>?_) (fun i hi=>?_) (by walk_at "o") fun h' tk keep hD=>?_
 ·rw [<- Array.getElem?_toList,oT,V7] at hv;rw [cR];cases e:ts[i]? with
  | none=>rw [e] at hv;cases hv
  | some t=>rw [e] at hv;cases hv;rfl
 ·obtain ⟨w',hw,hr⟩:=Paired.at h2 (K8 (show i<kxs.length by walk_at "o"));have e2:(kxs.getD i (Sum.inl 0,.non))=kxs[i]'(by walk_at "o"):=by rw [cR,K8 (show i<kxs.length by walk_at "o")];rfl
  have e3:(ws.getD i (.none,.none))=w':=by rw [cR,hw];rfl
  rw [e2,e3];exact hr.1
 ·have hi':i<ts.length:=by walk_at "o"
  obtain ⟨w',hw,hr⟩:=Paired.at h1 (K8 hi');have e3:(ws.getD i (.none,.none))=w':=by rw [cR,hw];rfl
  have e4:ts.getD i 0=ts[i]:=by rw [cR,K8 hi'];rfl
  rw [e3,e4];exact hr
 ·have hD2:KV (Y1 [] kxs) (u5 (fun i=>(kxs.getD i (Sum.inl 0,.non)).1) (fun i=>(ws.getD i (.none,.none)).2) its.toArray.size):=by
   have:=hrel ts.length (C2 _)
   rw [y8 (by walk_at "o")] at this;rw [hsz];exact this
  have A9:=adR kxs [];rw [b0] at A9;exact ⟨.ref s.heap.objs.size,_,I.laid (t':=tk) keep (C2 _) (vA (by walk_at "o") (beq_eq_false_iff_ne.mpr (Ne.symm (O6 I.big))) hD2 hD),rfl,q _ (I.hok.fresh (C2 _))⟩⟩
end L2
set_option maxRecDepth 100000
namespace L2
open PySem PySem.Spec PyProof.Rows
section
variable {X:Cx} {pins:List (Addr×Obj)} {σ:St} {H:Hp} {s:Shared} {h':Heap}
theorem Inv.turnNew{ch:List Addr}{T:Addr}{o:HO}(I:Inv X pins σ H s)(hf:∀ b∈ch,FpOk X pins H b)(k:∀ b u,b∉ch->s.heap.get? b=some u->h'.get? b=some u)(hT:s.heap.objs.size<=T)(new:ObjOk X.prog X.w (A0 H T o) h' T o):Inv X pins σ (A0 H T o) { s with heap:=h',toks:=t' }:=by
 have hn:H T=none:=I.hok.fresh hT;have nch:∀ b u,H b=some u->b∉ch:=fun b u e z=>by rw [(hf b z).1] at e;cases e
 have neT:∀ b u,s.heap.get? b=some u->b≠T:=fun b u e=>O6 (R8 (Heap.lt_size e) hT)
 refine I.step (g':=s.gens) (d':=s.drawn) (ch:=ch) (fun b hb=>?_) (fun b u _ _ hc e _=>k b u hc e) (fun b u _ _ hc e _=>⟨u.slots,k b u hc e⟩) (fun b u _ e n=>by rw [B1 (neT b u e)];exact n)
  (fun b u hc e=>⟨u,k b u hc e⟩) (fun b xs e=>D9 e hn) (fun b ob u e=>D9 e hn) (fun b ps e=>⟨#[],by rw [D9 e hn];simp⟩) (fun m hm=>?_) (fun b u e=>?_) I.bare
 ·obtain ⟨f0,f1,f2,f3,f4,f5⟩:=hf b hb;exact ⟨f3,f1,f4,f5⟩
 ·obtain ⟨ob,es,ep,ho,r⟩:=hm;exact ⟨ob,es,ep,k _ ob (fun z=>(hf _ z).2.1 rfl) ho,r⟩
 ·by_cases hb:b=T
  ·subst hb;rw [A5] at e;cases e;exact new
  ·rw [B1 hb] at e;refine (I.hok b u e).stay (fun c v hc q=>k c v ?_ q) (fun c q=>D9 q hn) fun c xs q=>D9 q hn
   rcases hc with z | z
   ·rw [z];exact nch b u e
   ·exact nch c _ z
end
theorem m6{a b:Nat}(h:a<b\/b<a):(show Addr from a)≠(show Addr from b):=fun e=>by
 have e:a=b:=e;walk_at "o"
noncomputable def rG (l1 l2 : Addr) : It :=
  ⟨fun i H => ∃ xs ys x y, H l1 = some (.lst xs) /\ H l2 = some (.lst ys) /\ xs[i]? = some x /\ ys[i]? = some y,
   fun i H v H' => ∃ t xs ys x y, H l1 = some (.lst xs) /\ H l2 = some (.lst ys) /\ xs[i]? = some x /\ ys[i]? = some y /\ H t = none /\ v = .ref t /\ H' = A0 H t (.tup [x, y]),
   fun i H => ∃ xs ys, H l1 = some (.lst xs) /\ H l2 = some (.lst ys) /\ (xs.length <= i \/ ys.length <= i)⟩
theorem amA{P:Program}{w:World}{pos:Pos}(z TI TO i1 i2 l1 l2:Addr)(a1:TI≠z)(a2:TO≠z)(a3:i1≠z)(a4:i2≠z)(a5:TI≠TO)(a6:TI≠i1)(a7:TI≠i2)(a8:TO≠i1)(a9:TO≠i2)(a10:i1≠i2) :
  Turn P w K (.Tuple elts x1 pos) (rG l1 l2) [z,TO,i1,i2,TI] z (fun i h=>IsZip h z TI TO .none/\IsPair h TI (.ref i1) (.ref i2)/\(∃ a b,IsPair h TO a b)/\h.IsListIter i1 l1 i/\h.IsListIter i2 l2 i) where
 mem:=by simp
 obj:=fun i h ⟨hz,hTI,⟨a,b,hTO⟩,h1,h2⟩ c hc=>by
  have e:c=z\/c=TO\/c=i1\/c=i2\/c=TI:=by simpa using hc
  rcases e with rfl | rfl | rfl | rfl | rfl
  ·exact ⟨_,hz,fun v q=>by cases q⟩
  ·exact ⟨_,hTO,fun v q=>by cases q⟩
  ·obtain ⟨o,e,c,d⟩:=h1;exact ⟨o,e,fun v z=>by rw [d] at z;cases z⟩
  ·obtain ⟨o,e,c,d⟩:=h2;exact ⟨o,e,fun v z=>by rw [d] at z;cases z⟩
  ·exact ⟨_,hTI,fun v q=>by cases q⟩
 keep:=fun i h h' ⟨hz,hTI,⟨a,b,hTO⟩,h1,h2⟩ k=>⟨k z (by simp) _ hz,k TI (by simp) _ hTI,⟨a,b,k TO (by simp) _ hTO⟩,h1.at fun o e=>k i1 (by simp) o e,h2.at fun o e=>k i2 (by simp) o e⟩
 item:=by
  intro X hP hw hK hc i pins s σ H E I hf ⟨hz,hTI,⟨a,b,hTO⟩,h1,h2⟩ hg;subst hP hw hK;obtain ⟨xs,ys,x,y,e1,e2,hx,hy⟩:=hg;obtain ⟨its1,g3,p1,_⟩:=I.list (E2.of (K:=X.K) e1);obtain ⟨its2,tK,p2,_⟩:=I.list (E2.of (K:=X.K) e2);obtain ⟨u1,C4,r1⟩:=g3.get hx;obtain ⟨u2,w6,r2⟩:=tK.get hy;have nl:∀ c∈[z,TO,i1,i2,TI],l1≠c/\l2≠c:=fun c hc=>⟨fun q=>(by rw [q,(hf c hc).1] at e1;cases e1),fun q=>(by rw [q,(hf c hc).1] at e2;cases e2)⟩
  have D:ZipApart z TI TO i1 i2 l1 l2:=⟨a1,a2,a3,a4,a5,a6,a7,a8,a9,a10,(nl z (by simp)).1,(nl TO (by simp)).1,(nl i1 (by simp)).1,(nl i2 (by simp)).1,(nl z (by simp)).2,(nl TO (by simp)).2,(nl i1 (by simp)).2,(nl i2 (by simp)).2⟩
  refine wpAny_pyNext_zip_item D hz hTI hTO h1 h2 p1.isList p2.isList (x:=u1) (y:=u2) (by simpa using C4) (by simpa using w6) fun h' b1 b2 b3 b4 b5 b6 b7=>⟨_,rfl,wpAny_letOwnedTupleGo_zip b1 fun h2' c1 c2=>?_⟩
  have P1:z<s.heap.objs.size:=Heap.lt_size hz;have up:∀ c o,c≠z->h'.get? c=some o->h2'.get? c=some o:=fun c o hc e=>(c2.2 c hc).trans e
  have nT:∀ c∈[z,TO,i1,i2,TI],c≠s.heap.objs.size:=fun c hc=>by
   have e:c=z\/c=TO\/c=i1\/c=i2\/c=TI:=by simpa using hc
   refine O6 ?_
   rcases e with rfl | rfl | rfl | rfl | rfl
   ·exact Heap.lt_size hz
   ·exact Heap.lt_size hTO
   ·obtain ⟨o,e,_⟩:=h1;exact Heap.lt_size e
   ·obtain ⟨o,e,_⟩:=h2;exact Heap.lt_size e
   ·exact Heap.lt_size hTI
  have hT:=up _ _ (Nat.ne_of_gt P1) b5;refine ⟨.ref s.heap.objs.size,A0 H s.heap.objs.size (.tup [x,y]),I.turnNew (t':=s.toks) (ch:=[z,TO,i1,i2,TI]) hf (fun c u hc e=>?_) (C2 _) ⟨by show 2<=sizeLine;decide,[u1,u2],.cons r1 (.cons r2 .nil),?_⟩,rfl,⟨_,xs,ys,x,y,e1,e2,hx,hy,I.fresh,rfl,rfl⟩,
   ⟨c1,up _ _ a1 (b7 _ _ a1 a5 a6 a7 hTI),⟨_,_,up _ _ a2 b2⟩,b3.at fun o e=>up _ o a3 e,b4.at fun o e=>up _ o a4 e⟩,fun c hc=>by rw [B1 (nT c hc)];exact (hf c hc).1⟩
  ·have q:c≠z/\c≠TO/\c≠i1/\c≠i2:=by
    refine ⟨fun q=>hc (by simp [q]),fun q=>hc (by simp [q]),fun q=>hc (by simp [q]),fun q=>hc (by simp [q])⟩
   exact up c u q.1 (b7 c u q.1 q.2.1 q.2.2.1 q.2.2.2 e)
  ·exact ⟨_,hT,rfl,_,rfl⟩
 done:=by
  intro X hP hw hK hc i pins s σ H E I hf ⟨hz,hTI,⟨a,b,hTO⟩,h1,h2⟩ hg;subst hP hw hK;obtain ⟨xs,ys,e1,e2,Z4⟩:=hg;obtain ⟨its1,g3,p1,_⟩:=I.list (E2.of (K:=X.K) e1);obtain ⟨its2,tK,p2,_⟩:=I.list (E2.of (K:=X.K) e2);have q1:=g3.length;have q2:=tK.length;have nl:∀ c∈[z,TO,i1,i2,TI],l1≠c/\l2≠c:=fun c hc=>⟨fun q=>(by rw [q,(hf c hc).1] at e1;cases e1),fun q=>(by rw [q,(hf c hc).1] at e2;cases e2)⟩
  have D:ZipApart z TI TO i1 i2 l1 l2:=⟨a1,a2,a3,a4,a5,a6,a7,a8,a9,a10,(nl z (by simp)).1,(nl TO (by simp)).1,(nl i1 (by simp)).1,(nl i2 (by simp)).1,(nl z (by simp)).2,(nl TO (by simp)).2,(nl i1 (by simp)).2,(nl i2 (by simp)).2⟩
  refine wpAny_pyNext_zip_end (I.ok.hd hc) D hz hTI hTO h1 h2 p1.isList p2.isList (by rcases Z4 with q | q <;> simp <;> walk_at "o") fun h' k=>⟨rfl,?_⟩
  refine I.step (h':=h') (t':=s.toks) (g':=s.gens) (d':=s.drawn) (ch:=[z,TO,i1,i2,TI]) (fun b hb=>?_) (fun b u _ _ hc e _=>?_) (fun b u _ _ hc e _=>⟨u.slots,?_⟩) (fun b u _ e n=>n)
   (fun b u hc e=>⟨u,?_⟩) (fun b xs e=>e) (fun b ob u e=>e) (fun b ps e=>⟨#[],by rw [e];simp⟩) (fun m hm=>?_) (fun b u e=>?_) I.bare
  ·obtain ⟨f0,f1,f2,f3,f4,f5⟩:=hf b hb;exact ⟨f3,f1,f4,f5⟩
  ·exact k b u (fun q=>hc (by simp [q])) (fun q=>hc (by simp [q])) (fun q=>hc (by simp [q])) (fun q=>hc (by simp [q])) e
  ·exact k b u (fun q=>hc (by simp [q])) (fun q=>hc (by simp [q])) (fun q=>hc (by simp [q])) (fun q=>hc (by simp [q])) e
  ·exact k b u (fun q=>hc (by simp [q])) (fun q=>hc (by simp [q])) (fun q=>hc (by simp [q])) (fun q=>hc (by simp [q])) e
  ·obtain ⟨ob,es,ep,ho,r⟩:=hm;have nL:∀ c∈[z,TO,i1,i2,TI],X.env.locals≠c:=fun c hc q=>(hf c hc).2.1 q.symm
   exact ⟨ob,es,ep,k _ ob (nL z (by simp)) (nL TO (by simp)) (nL i1 (by simp)) (nL i2 (by simp)) ho,r⟩
  ·have nch:∀ b u,H b=some u->∀ c∈[z,TO,i1,i2,TI],b≠c:=fun b u e c hc q=>by rw [q,(hf c hc).1] at e;cases e
   refine (I.hok b u e).stay (fun c v hc q=>?_) (fun c q=>q) fun c xs q=>q
   have:∀ d∈[z,TO,i1,i2,TI],c≠d:=by
    rcases hc with z | z
    ·rw [z];exact nch b u e
    ·exact nch c _ z
   exact k c v (this z (by simp)) (this TO (by simp)) (this i1 (by simp)) (this i2 (by simp)) q
 self:=fun _ _ _ _ _ st h=>wpAny_pyIter_zip st.1 h
section
variable {X:Cx}
noncomputable def iZip (ta:TA):TI:=fun σ H R=>ta σ H fun vs H1=>∃ (l1 l2:Addr) (xs ys:List V),vs=[.ref l1,.ref l2]/\H1 l1=some (.lst xs)/\H1 l2=some (.lst ys)/\R (rG l1 l2) H1
theorem ars{a b:Expr}{p pos:Pos}(hg:Gl X "zip")(hm:X.mg "zip"=none)(ha:PA X [a,b] ta)(h1:M5 a=false:=by rfl)(h2:M5 b=false:=by rfl) :
  PI X (.Tuple elts x1 tpos) (.Call (.Name "zip" p) [a,b] [] pos) (iZip ta):=by
 intro pins s σ H R I h;refine Call_ (fJ I hg hm boot_zip (PyProof.Rows.callWith_type1 (B5 (ha pos pins s σ H _ I h) fun us s1 ⟨vs,H1,I1,r1,q1⟩=>?_) (O7 h1) (by rw [O7 h2];rfl)));obtain ⟨l1,l2,xs,ys,rfl,e1,e2,q⟩:=q1;obtain ⟨u1,u2,rfl,oV,ru2⟩:=vals2 r1
 cases oV
 cases ru2
 obtain ⟨its1,g3,p1,_⟩:=I1.list (E2.of (K:=X.K) e1);obtain ⟨its2,tK,p2,_⟩:=I1.list (E2.of (K:=X.K) e2);refine call_zip_2 p1.isList p2.isList fun h' z1 z2 z3 z4 z5 z6 z7=>wpAny_pyIter_zip z1 ?_
 refine ⟨s1.heap.objs.size+4,[s1.heap.objs.size+4,s1.heap.objs.size+3,s1.heap.objs.size,s1.heap.objs.size+1,s1.heap.objs.size+2],_,_,H1,rfl,I1.kept (t':=s1.toks) z7,
  amA _ (s1.heap.objs.size+2) (s1.heap.objs.size+3) s1.heap.objs.size (s1.heap.objs.size+1) l1 l2 (m6 (by walk_at "o")) (m6 (by walk_at "o")) (m6 (by walk_at "o")) (m6 (by walk_at "o")) (m6 (by walk_at "o")) (m6 (by walk_at "o")) (m6 (by walk_at "o")) (m6 (by walk_at "o")) (m6 (by walk_at "o")) (m6 (by walk_at "o")),⟨z1,z2,⟨_,_,z3⟩,z4,z5⟩,fun b hb=>?_,q⟩
 have Z5:s1.heap.objs.size<=b:=by
  have e:b=s1.heap.objs.size+4\/b=s1.heap.objs.size+3\/b=s1.heap.objs.size\/b=s1.heap.objs.size+1\/b=s1.heap.objs.size+2:=by simpa using hb
  rcases e with rfl | rfl | rfl | rfl | rfl
  ·exact z0 _ _
  ·exact z0 _ _
  ·exact C2 _
  ·exact z0 _ _
  ·exact z0 _ _
 exact I1.fpOk Z5 (I1.hok.fresh Z5)
theorem art{a b:Expr}{p pos:Pos}(hm:X.mg "zip"=none)(ha:QA X [a,b] ta)(hg:Gl X "zip":=by rfl)(h1:M5 a=false:=by rfl)(h2:M5 b=false:=by rfl) :
  QI X (.Tuple elts x1 tpos) (.Call (.Name "zip" p) [a,b] [] pos) (iZip ta):=⟨ars hg hm ha.out h1 h2⟩
end
theorem aoH{R:It->Hp->Prop} : iZip ta σ H R=ta σ H fun vs H1=>∃ (l1 l2:Addr) (xs ys:List V),vs=[.ref l1,.ref l2]/\H1 l1=some (.lst xs)/\H1 l2=some (.lst ys)/\R (rG l1 l2) H1:=rfl
theorem forZ{l1 l2:Addr}(Pv:Nat->St->Hp->Prop)(h0:Pv 0 σ H)(hl:∀ i σ H,Pv i σ H->H l1=some (.lst xs)/\H l2=some (.lst ys))(hs:∀ i x y t σ H,xs[i]?=some x->ys[i]?=some y->Pv i σ H->H t=none->g (.ref t) σ (A0 H t (.tup [x,y])) fun σ2 H2=>tb { D with nx:=Pv (i+1),ct:=Pv (i+1),bk:=D.nx } σ2 H2)(hd:∀ σ H,Pv (min xs.length ys.length) σ H->D.nx σ H):ForIt (rG l1 l2) g tb D σ H:=by
 refine ⟨fun i m σ H=>m=min xs.length ys.length-i/\i<=min xs.length ys.length/\Pv i σ H,⟨min xs.length ys.length,by simp,G2 _,h0⟩,?_⟩;rintro i m σ H ⟨rfl,hi,p⟩;obtain ⟨e1,e2⟩:=hl i σ H p
 by_cases C9:i<min xs.length ys.length
 ·refine .inr ⟨⟨xs,ys,xs[i]'(by walk_at "o"),ys[i]'(by walk_at "o"),e1,e2,by simp,by simp⟩,Pv (i+1),fun σ' H' p'=>⟨_,by walk_at "o",rfl,C9,p'⟩,fun v H' y=>?_⟩;obtain ⟨t,xs',ys',x,y',f1,f2,hx,hy,ht,rfl,rfl⟩:=y;rw [e1] at f1;cases f1;rw [e2] at f2;cases f2;exact hs i x y' t σ H hx hy p ht
 ·have e:i=min xs.length ys.length:=by walk_at "o"
  subst e;exact .inl ⟨⟨xs,ys,e1,e2,by walk_at "o"⟩,hd σ H p⟩
noncomputable def Itr3 (lo st:Int) (n:Nat):It:=⟨fun i _=>i<n,fun i H x H'=>H'=H/\x=.int (lo+i*st),fun i _=>n<=i⟩
theorem agT{α β:Type}(f:α->β):∀ (l:List α) (i:Nat),(l.eraseIdx i).map f=(l.map f).eraseIdx i
 | [],_=>rfl
 | _::_,0=>rfl
 | x::l,i+1=>by
  show f x::(l.eraseIdx i).map f=f x::(l.map f).eraseIdx i;rw [agT f l i]
noncomputable def vV (td ty tx:TE):TE:=fun σ H Q=>td σ H fun x H1=>∃ a,x=.ref a/\fP H1 a/\ty σ H1 fun y H2=>tx σ H2 fun z H3=>∃ kvs k,H3 a=some (.dK kvs)/\kvs.length<sizeLine/\y=kV k/\
 (∀ v,valV kvs k=some v->Q v H3)/\(valV kvs k=none->Q z (A0 H3 a (.dK (putK kvs k z))))
section
variable {X:Cx} {o e f:Expr} {apos cpos:Pos} {td ty tx:TE} {pins:List (Addr×Obj)} {σ:St} {H:Hp} {s:Shared} {a:Addr} {A:Around} {E:Value->Shared->Prop}
theorem aru{k:C6}{z:V}{r:Value}{Q:Value->Shared->Prop}(I:Inv X pins σ H s)(e:H a=some (.dK kvs))(hl:kvs.length<sizeLine)(ry:RelV (kV k) u)(rz:RelV z r)(h1:∀ v w' s',valV kvs k=some v->Inv X pins σ H s'->RelV v w'->Q w' s')(h2:∀ s',valV kvs k=none->Inv X pins σ (A0 H a (.dK (putK kvs k z))) s'->Q r s') :
  wpAny (model X.prog X.w) A (call (.builtin "dict.setdefault") [.ref a,u,r]) Q E s:=by
 obtain ⟨hz,hd,vs,rel,dd⟩:=dk_of I.hok e;have A9:=rel.length;refine call_meetsIn PySem.F.slot_dict_setdefault dd.typeIs PySem.F.entry_dict_setdefault (PySem.F.args_dict_setdefault_3 _ _ _) (kt_meets_setdefault (P3 X.prog X.w) a (kV_is ry) hd r) ⟨vs,dd,by walk_at "o",fun v hv=>?_,fun hn h' hm hs=>?_⟩
 ·have:=rel.val k
  rw [hv] at this;cases gX:valV kvs k with
  | none=>rw [gX] at this;exact this.elim
  | some x=>rw [gX] at this;exact h1 x v _ gX (I.tok _) this
 ·have:=rel.val k
  rw [hn] at this;cases gX:valV kvs k with
  | some x=>rw [gX] at this;exact this.elim
  | none=>
   have M8:(putK kvs k z).length<=sizeLine:=by rw [al6 z gX,C5,N5];walk_at "o"
   obtain ⟨ob,_,_,ho,_⟩:=id hm;exact h2 _ gX (uZ (t':=s.toks+1) I (by rw [e];exact trivial) hs ⟨ob,ho⟩ (vA M8 hd (rel.put k rz) hm))
theorem amB(ho:PE X o td)(he:PE X e ty)(hf:PE X f tx)(m:M2 X o "setdefault" apos e f cpos):PE X (.Call (.Attribute o "setdefault" apos) [e,f] [] cpos) (vV td ty tx):=by
 intro pins s σ H Q I h;refine wpAny_Call_method m.base m.few m.line PySem.F.plainAttrs_dict PySem.F.slot_dict_setdefault PySem.F.type_dict_setdefault (B5 (ho pins s σ H _ I h) fun u s1 ⟨x,H1,I1,rx,a,ex,d,q1⟩=>?_);subst ex;obtain rfl:u=Value.ref a:=rx;obtain ⟨t1,t2,_⟩:=vC I1 d;refine ⟨t1,t2,?_⟩;rw [m.trees];refine Calls.callWith_builtin rfl (Calls.evalArgs_plain (Calls.spliced_cons (B5 (he pins s1 σ H1 _ I1 q1) fun iv s2 ⟨y,H2,I2,ry,q2⟩=>
  Calls.spliced_cons (B5 (hf pins s2 σ H2 _ I2 q2) fun fv s3 ⟨z,H3,I3,rz,kvs,k,e3,hl,ey,q3,q4⟩=>Calls.spliced_nil ?_))))
 subst ey;exact aru I3 e3 hl ry rz (fun v w' s4 hv I4 rw'=>⟨v,H3,I4,rw',q3 v hv⟩) fun s4 hn I4=>⟨z,_,I4,rz,q4 hn⟩
theorem amC(ho:QE X o td)(he:QE X e ty)(hf:QE X f tx)(h1:M5 e=false:=by rfl)(h2:M5 f=false:=by rfl)(G9:attributeBase o "setdefault" X.env (eval o X.env)=eval o X.env:=by rfl)(I0:(apos.endLine==cpos.line)=true:=by rfl):QE X (.Call (.Attribute o "setdefault" apos) [e,f] [] cpos) (vV td ty tx):=
 ⟨amB ho.out he.out hf.out ⟨G9,by rw [O7 h1,O7 h2];rfl,I0,by rw [O7 h1,O7 h2];rfl⟩⟩
theorem amD:vV td ty tx σ H Q=td σ H fun x H1=>∃ a,x=.ref a/\fP H1 a/\ty σ H1 fun y H2=>tx σ H2 fun z H3=>∃ kvs k,H3 a=some (.dK kvs)/\kvs.length<sizeLine/\y=kV k/\
 (∀ v,valV kvs k=some v->Q v H3)/\(valV kvs k=none->Q z (A0 H3 a (.dK (putK kvs k z)))):=rfl
end
section
variable {X:Cx} {tg:Expr}
noncomputable def rsz (i j k:Int):Nat:=(if i<j then (j-i-1) / k+1 else 0).toNat
noncomputable def iRng3 (ta:TA):TI:=fun σ H R=>ta σ H fun vs H1=>∃ i j k:Int,vs=[.int i,.int j,.int k]/\(-(2 ^ 60)<=i/\i<2 ^ 60/\-(2 ^ 60)<=j/\j<2 ^ 60/\0<k/\k<1000000)/\R (Itr3 i k (rsz i j k)) H1
end
theorem amE{R:It->Hp->Prop} : iRng3 ta σ H R=ta σ H fun vs H1=>∃ i j k:Int,vs=[.int i,.int j,.int k]/\(-(2 ^ 60)<=i/\i<2 ^ 60/\-(2 ^ 60)<=j/\j<2 ^ 60/\0<k/\k<1000000)/\R (Itr3 i k (rsz i j k)) H1:=rfl
section
variable {X:Cx} {pins:List (Addr×Obj)} {σ:St} {H:Hp} {s:Shared} {a:Addr}
theorem Inv.swap{u u':HO}(I:Inv X pins σ H s)(e:H a=some u)(n1:∀ xs,u≠.tup xs)(n2:∀ x,u≠.own x)(n3:∀ ps,u≠.tbl ps)(n4:∀ o v,X.H₀ a≠some (.frz o v))(new:ObjOk X.prog X.w H s.heap a u'):Inv X pins σ (A0 H a u') s:=by
 have ne:∀ b,H b=none->b≠a:=fun b h q=>by rw [q,e] at h;cases h
 have own:∀ c x,H c=some (.own x)->A0 H a u' c=some (.own x):=fun c x q=>by
  rw [B1 (fun z=>by rw [z,e] at q;exact n2 x (Option.some.inj q))];exact q
 have tup:∀ c xs,H c=some (.tup xs)->A0 H a u' c=some (.tup xs):=fun c x q=>by
  rw [B1 (fun z=>by rw [z,e] at q;exact n1 x (Option.some.inj q))];exact q
 refine ⟨I.ok,I.os,I.bare,⟨I.base.keep,I.base.slot,fun b o h1 h2 h3=>?_,I.base.there,fun b xs h=>tup b xs (I.base.tups b xs h),fun b o v h=>?_,fun b ps h=>?_⟩,I.loc,I.cell,?_,fun x c h=>?_,fun p hp=>?_,fun b v h=>?_,I.len⟩
 ·have:=I.base.free b o h1 h2 h3
  rw [B1 (ne b this)];exact this
 ·rw [B1 (fun z=>n4 o v (by rw [<- z];exact h))];exact I.base.frzs b o v h
 ·obtain ⟨m,q⟩:=I.base.tbls b ps h;exact ⟨m,by rw [B1 (fun z=>by rw [z,e] at q;exact n3 _ (Option.some.inj q))];exact q⟩
 ·rw [B1 (ne _ I.free)];exact I.free
 ·rw [B1 (ne _ (I.freeC x c h))];exact I.freeC x c h
 ·obtain ⟨h1,h2,h3⟩:=I.pin p hp;exact ⟨h1,by rw [B1 (ne _ h2)];exact h2,h3⟩
 ·by_cases hb:b=a
  ·subst hb;rw [A5] at h;cases h;exact new.stay (fun _ _ _ q=>q) (fun c q=>own c _ q) fun c xs q=>tup c xs q
  ·rw [B1 hb] at h;exact (I.hok b v h).stay (fun _ _ _ q=>q) (fun c q=>own c _ q) fun c xs q=>tup c xs q
end
noncomputable def bJ (a:Addr) (o:Obj) (kvs:List (C6×V)):It:=
 ⟨fun i H=>H a=some (.frz o (.dK kvs))/\i<kvs.length,fun i H x H'=>H'=H/\∃ k v,kvs[i]?=some (k,v)/\x=kV k,fun i H=>H a=some (.frz o (.dK kvs))/\kvs.length<=i⟩
theorem agU{P:Program}{w:World}(a it:Addr)(o:Obj)(kvs:List (C6×V))(vs:List (C6×Value))(ep:Nat)(K6:∀ h:Heap,h.get? a=some o->h.DictAt (P3 P w) a vs ep)(rel:KV kvs vs):Turn P w K tg (bJ a o kvs) [it] it (fun i h=>h.IsKeyIter it a i vs.length ep) where
 mem:=by simp
 obj:=fun i h st b hb=>by
  have e:b=it:=by simpa using hb
  subst e;obtain ⟨o,e,c,d⟩:=st;exact ⟨o,e,fun v z=>by rw [d] at z;cases z⟩
 keep:=fun i h h' st k=>st.at fun o e=>k it (by simp) o e
 item:=by
  intro X hP hw hK hc i pins s σ H E I hf st hg;subst hP hw hK;obtain ⟨f0,f1,f2,f3,f4,f5⟩:=hf it (by simp);obtain ⟨hga,oW⟩:=hg;have hd:=K6 s.heap (I.hok a _ hga).1;have oX:i<vs.length:=by rw [<- rel.length];exact oW
  refine wpAny_pyNext_dict_item st hd (k:=vs[i].1) (v:=vs[i].2) (by rw [K8 oX]) fun key h' j7 oY tL=>?_
  have I1:Inv X pins σ H { s with heap:=h' }:=I.turned (t':=s.toks) (fun b o hb e=>(tL.2 b hb).trans e) f0 f1 f3 f4 f5;obtain ⟨oi,e,c,d⟩:=id oY;have hk:kvs[i].1=vs[i].1:=by
   have:=congrArg (·[i]?) rel.keys
   simpa [oW,oX] using this
  have rk:RelV (kV kvs[i].1) key:=by
   rw [hk];have j7:keyIs vs[i].1 key=true:=j7;generalize vs[i].1=kk at j7
   rcases r8 j7 with ⟨j,t,rfl,rfl⟩ | ⟨x,t,rfl,rfl⟩
   ·exact ⟨t,rfl⟩
   ·exact ⟨t,rfl⟩
  exact ⟨key,rfl,go_of (s:={ s with heap:=h' }) e c d (by decide) ⟨kV kvs[i].1,H,I1,rk,⟨rfl,kvs[i].1,kvs[i].2,by rw [K8 oW],rfl⟩,oY,fun b hb=>(hf b hb).1⟩⟩
 done:=by
  intro X hP hw hK hc i pins s σ H E I hf st hg;subst hP hw hK;obtain ⟨f0,f1,f2,f3,f4,f5⟩:=hf it (by simp);obtain ⟨hga,oW⟩:=hg;have hd:=K6 s.heap (I.hok a _ hga).1;exact wpAny_pyNext_dict_end (I.ok.hd hc) st hd (by rw [List.getElem?_eq_none_iff,<- rel.length];exact oW) fun h' eb=>⟨rfl,I.turned (t':=s.toks) (fun b o hb e=>eb b o hb e) f0 f1 f3 f4 f5⟩
 self:=fun _ _ _ _ _ st h=>wpAny_pyIter_keyiter st h
noncomputable def Ends.thaw (D:Ends) (a:Addr) (kvs:List (C6×V)):Ends where
 nx:=fun σ H=>(∃ o,H a=some (.frz o (.dK kvs)))/\D.nx σ (A0 H a (.dK kvs))
 rt:=fun v H=>(∃ o,H a=some (.frz o (.dK kvs)))/\D.rt v (A0 H a (.dK kvs))
noncomputable def tForD (tl:TE) (g:TG) (tb:TS):TS:=fun D σ H=>tl σ H fun x H1=>∃ a kvs,x=.ref a/\H1 a=some (.dK kvs)/\∀ o,ForIt (bJ a o kvs) g tb (D.thaw a kvs) σ (A0 H1 a (.frz o (.dK kvs)))
theorem aoI{l:Expr}{body:List Stmt}{pos:Pos}(hp:PassesOwn (model X.prog X.w) X.A X.env X.xe)(hc:X.calm=true)(hl:PE X l tl)(hg:PG X tg g)(hb:Z0 X body tb)(hs:∀ x,foldedSetIterable l X.env x=pure x):PS X (.For tg l body [] pos) (tForD tl g tb):=by
 intro pins s σ H D I h;refine wpAny_For (B5 (hl pins s σ H _ I h) fun v s1 ⟨x,H1,I1,r1,q1⟩=>?_) hs;obtain ⟨a,kvs,rfl,e,q⟩:=q1
 cases r1
 obtain ⟨z,hd,vs,rel,dd⟩:=dk_of I1.hok e;obtain ⟨ep,K6⟩:=dd.dictAt;obtain ⟨o,es,ho,U7⟩:=id K6;refine wpAny_pyIter_dict hd K6 ?_;have NF:∀ o' v',X.H₀ a≠some (.frz o' v'):=fun o' v' z=>by
  have:=I1.base.frzs _ _ _ z
  rw [e] at this;cases this
 have I1':Inv X pins σ H1 { s1 with heap:=s1.heap.push { cls:=.type "dict_keyiterator",data:=.fields #[.ref a,.int 0 0,.int vs.length 0,.int ep 0] } }:=I1.kept (t':=s1.toks) fun b u e=>Heap.get?_push_of_some _ e
 have I2:=I1'.swap (u':=.frz o (.dK kvs)) e (fun _ q=>by cases q) (fun _ q=>by cases q) (fun _ q=>by cases q) NF ⟨Heap.get?_push_of_some _ ho,I1'.hok a _ e⟩;have thaw:∀ {σ':St} {H':Hp} {s':Shared},Inv X pins σ' H' s'->(∃ o,H' a=some (.frz o (.dK kvs)))->Inv X pins σ' (A0 H' a (.dK kvs)) s':=fun {σ' H' s'} I' ⟨o',e'⟩=>
  I'.swap e' (fun _ q=>by cases q) (fun _ q=>by cases q) (fun _ q=>by cases q) NF (I'.hok a _ e').2
 have T:Turn X.prog X.w X.K tg (bJ a o kvs) [s1.heap.objs.size] s1.heap.objs.size (fun i h=>h.IsKeyIter s1.heap.objs.size a i vs.length ep):=agU a _ o kvs vs ep (fun h e=>⟨o,es,e,U7⟩) rel;have W9:A0 H1 a (.frz o (.dK kvs)) s1.heap.objs.size=none:=by rw [B1 (fun q=>by rw [<- q,I1.fresh] at e;cases e)];exact I1.fresh
 have f2:∀ b∈[s1.heap.objs.size],FpOk X pins (A0 H1 a (.frz o (.dK kvs))) b:=fun b hb=>by
  have e:b=s1.heap.objs.size:=by simpa using hb
  subst e;exact I1.fpOk (C2 _) W9
 obtain ⟨W,⟨m0,w0⟩,turn⟩:=q o;have stat:∀ {H':Hp},(∀ b∈[s1.heap.objs.size],H' b=none)->∀ b∈[s1.heap.objs.size],FpOk X pins H' b:=fun hn b hb=>⟨hn b hb,(f2 b hb).2⟩
 refine codeAny_forLoop_any (fun n s'=>∃ i σ' H',Inv X pins σ' H' s'/\s'.heap.IsKeyIter s1.heap.objs.size a i vs.length ep/\(∀ b∈[s1.heap.objs.size],H' b=none)/\W i n σ' H') ?_ m0 ⟨0,σ,_,I2,⟨_,Heap.get?_push_size _ rfl,rfl,rfl⟩,fun b hb=>(f2 b hb).1,w0⟩;rintro n s3 ⟨i,σ3,H3,I3,eB,oG,w3⟩
 rcases turn i n σ3 H3 w3 with ⟨stop,qn⟩ | ⟨go,N,hN,step⟩
 ·refine wpAny_passesOwn hp (B5 (T.done X rfl rfl rfl hc i pins s3 σ3 H3 X.xe I3 (stat oG) eB stop) fun r s4 ⟨hr,I4⟩=>?_);subst hr;exact wpAny_execs_nil ⟨σ3,_,thaw I4 qn.1,qn.2⟩
 ·refine wpAny_passesOwn hp (B5 (T.item X rfl rfl rfl hc i pins s3 σ3 H3 X.xe I3 (stat oG) eB go) fun r s4 ⟨u,hr,h4⟩=>?_);subst hr;refine wpAny_passesOwn hp (B5 h4 fun _ s5 ⟨x,H5,I5,r5,y5,gS,zN⟩=>?_);have I5':=I5.pinned (stat zN) (T.obj _ _ gS);refine wpAny_passesOwn hp (B5 (hg _ s5 σ3 H5 x u _ I5' r5 (step x H5 y5)) fun _ s6 ⟨σ6,H6,I6,q6⟩=>?_);refine wpAny_passesOwn hp (B5 (hb _ s6 σ6 H6 _ I6 q6) fun f s7 q7=>?_);have again:∀ {σ7:St} {H7:Hp},Inv X (pins++iX [s1.heap.objs.size] s5.heap) σ7 H7 s7->N σ7 H7->∃ m,m<n/\∃ i σ' H',Inv X pins σ' H' s7/\s7.heap.IsKeyIter s1.heap.objs.size a i vs.length ep/\(∀ b∈[s1.heap.objs.size],H' b=none)/\W i m σ' H':=fun {σ7 H7} I7 n7=>by
   obtain ⟨m',hm,w7⟩:=hN σ7 H7 n7;refine ⟨m',hm,i+1,σ7,H7,I7.unpinned,T.keep _ _ _ gS fun b hb o e=>(I7.pin (b,o) (U0 _ (U0 _ (iY hb e)))).1,fun b hb=>?_,w7⟩;obtain ⟨o,e,d⟩:=T.obj _ _ gS b hb;exact (I7.pin (b,o) (U0 _ (U0 _ (iY hb e)))).2.1
  cases f with
  | next=>obtain ⟨σ7,H7,I7,n7⟩:=q7;exact again I7 n7
  | cont=>obtain ⟨σ7,H7,I7,n7⟩:=q7;exact again I7 n7
  | brk=>obtain ⟨σ7,H7,I7,q7⟩:=q7;exact ⟨σ7,_,thaw I7.unpinned q7.1,q7.2⟩
  | ret v=>obtain ⟨x7,σ7,H7,I7,r7,q7⟩:=q7;exact ⟨x7,σ7,_,thaw I7.unpinned q7.1,r7,q7.2⟩
theorem vW{l:Expr}{body:List Stmt}{pos:Pos}(hp:PassesOwn (model X.prog X.w) X.A X.env X.xe)(hl:QE X l tl)(hg:QG X tg g)(hb:QSs X body tb)(hc:X.calm=true:=by rfl)(hs:∀ x,foldedSetIterable l X.env x=pure x:=by intro _;rfl):QS X (.For tg l body [] pos) (tForD tl g tb):=⟨aoI hp hc hl.out hg.out hb.out hs⟩
theorem aoJ : tForD tl g tb D σ H=tl σ H fun x H1=>∃ a kvs,x=.ref a/\H1 a=some (.dK kvs)/\∀ o,ForIt (bJ a o kvs) g tb (D.thaw a kvs) σ (A0 H1 a (.frz o (.dK kvs))):=rfl
theorem forD(Pv:Nat->St->Hp->Prop)(h0:Pv 0 σ H)(hl:∀ i σ H,Pv i σ H->H a=some (.frz o (.dK kvs)))(hs:∀ i k v σ H,kvs[i]?=some (k,v)->Pv i σ H->g (kV k) σ H fun σ2 H2=>tb { D.thaw a kvs with nx:=Pv (i+1),ct:=Pv (i+1),bk:=(D.thaw a kvs).nx } σ2 H2)(hd:∀ σ H,Pv kvs.length σ H->D.nx σ (A0 H a (.dK kvs))):ForIt (bJ a o kvs) g tb (D.thaw a kvs) σ H:=by
 refine ⟨fun i m σ H=>m=kvs.length-i/\i<=kvs.length/\Pv i σ H,⟨kvs.length,by simp,G2 _,h0⟩,?_⟩;rintro i m σ H ⟨rfl,hi,p⟩;have e:=hl i σ H p
 by_cases C9:i<kvs.length
 ·refine .inr ⟨⟨e,C9⟩,Pv (i+1),fun σ' H' p'=>⟨_,by walk_at "o",rfl,C9,p'⟩,fun v H' y=>?_⟩;obtain ⟨rfl,k,v',hk,rfl⟩:=y;exact hs i k v' σ _ hk p
 ·have e2:i=kvs.length:=by walk_at "o"
  subst e2;exact .inl ⟨⟨e,C2 _⟩,⟨o,e⟩,hd σ H p⟩
end L2
set_option maxRecDepth 100000
namespace L2
open PySem PySem.Spec PyProof.Rows
noncomputable def U5 (row:List Str):List (Str×Str):=row.zip row.tail
noncomputable def edges (rows:List (List Str)):List (Str×Str):=rows.flatMap U5
noncomputable def G6 (E:List (Str×Str)) (p:Str):List Str:=(E.filter fun e=>decide (e.1=p)).map (·.2)
noncomputable def K1 (E:List (Str×Str)) (line:List Str) (q:Str):Nat:=E.countP fun e=>decide (e.2=q) && !decide (e.1∈line)
noncomputable def cntIn (E:List (Str×Str)) (S:List Str) (q:Str):Nat:=E.countP fun e=>decide (e.2=q)&&decide (e.1∈S)
theorem amF(E:List (Str×Str))(a b p:Str):G6 (E++[(a,b)]) p=if a=p then G6 E p++[b] else G6 E p:=by
 unfold G6;rw [cS,D8]
 by_cases h:a=p
 ·rw [if_pos h,lJ (by simpa using h)];rfl
 ·rw [if_neg h,lK (by simpa using h)];simp
theorem agV(E:List (Str×Str))(p q:Str):(G6 E p).count q=E.countP fun e=>decide (e.2=q)&&decide (e.1=p):=by
 induction E with
 | nil=>rfl
 | cons e E ih=>
  unfold G6 at ih ⊢
  by_cases h:e.1=p
  ·rw [lJ (by simpa using h),K4,List.count_cons,ih,cT]
   by_cases h2:e.2=q
   ·simp [h,h2]
   ·simp [h,h2]
  ·rw [lK (by simpa using h),ih,cT];simp [h]
theorem ajs{E:List (Str×Str)}{S:List Str}(h:p∉S):cntIn E (S++[p]) q=cntIn E S q+(G6 E p).count q:=by
 rw [agV];unfold cntIn
 induction E with
 | nil=>rfl
 | cons e E ih=>
  rw [cT,cT,cT,ih]
  by_cases h2:e.2=q
  ·by_cases h1:e.1=p
   ·have:e.1∉S:=by rw [h1];exact h
    simp [h2,h1,h];walk_at "o"
   ·by_cases h3:e.1∈S
    ·simp [h2,h1,h3];walk_at "o"
    ·simp [h2,h1,h3]
  ·simp [h2]
theorem aiH{E:List (Str×Str)}(h:p∉line):K1 E line q=K1 E (line++[p]) q+(G6 E p).count q:=by
 rw [agV];unfold K1
 induction E with
 | nil=>rfl
 | cons e E ih=>
  rw [cT,cT,cT,ih]
  by_cases h2:e.2=q
  ·by_cases h1:e.1=p
   ·simp [h2,h1,h];walk_at "o"
   ·by_cases h3:e.1∈line
    ·simp [h2,h1,h3]
    ·simp [h2,h1,h3];walk_at "o"
  ·simp [h2]
theorem akM{E:List (Str×Str)}{S:List Str}(h:∀ e∈E,e.1∈S)(q:Str):cntIn E S q=K1 E [] q:=by
 unfold cntIn K1;refine List.countP_congr fun e he=>?_
 simp [h e he]
theorem akN(E:List (Str×Str))(q:Str):cntIn E [] q=0:=by
 unfold cntIn
 simp
theorem cnt_zero{E:List (Str×Str)} : K1 E line q=0↔∀ e∈E,e.2=q->e.1∈line:=by
 unfold K1;rw [List.countP_eq_zero]
 constructor
 ·intro h e he h2
  have:=h e he
  simpa [h2] using this
 ·intro h e he
  by_cases h2:e.2=q
  ·simp [h2,h e he h2]
  ·simp [h2]
noncomputable def nextP (E:List (Str×Str)) (ts pre:List Str):Option Str:=(ts.filter fun p=>!decide (p∈pre)).find? fun p=>decide (K1 E pre p=0)
noncomputable def R0 (E:List (Str×Str)) (ts line:List Str):Prop:=∀ pre q post,line=pre++q::post->nextP E ts pre=some q
theorem R0.nil(E:List (Str×Str))(ts:List Str):R0 E ts []:=fun pre q post h=>by
 have:=congrArg i3 h
 simp at this
theorem R0.snoc{E:List (Str×Str)}(r:R0 E ts line)(h:nextP E ts line=some p):R0 E ts (line++[p]):=fun pre q post e=>by
 rcases List.append_eq_append_iff.mp e with ⟨m,h1,h2⟩ | ⟨m,h1,h2⟩
 ·cases m with
  | nil=>
   rw [L1] at h1;rw [List.nil_append] at h2
   cases (b9.inj h2).1
   rw [h1];exact h
  | cons a m=>
   have:=congrArg i3 h2
   simp at this
 ·cases m with
  | nil=>
   rw [L1] at h1;rw [List.nil_append] at h2
   cases (b9.inj h2).1
   rw [<- h1];exact h
  | cons a m=>
   rw [fD] at h2;have h3:=(b9.inj h2).1;exact r pre q m (by rw [h1,h3])
theorem fV{E:List (Str×Str)}{pre:List Str}(h:nextP E ts pre=some q):q∈ts/\q∉pre/\K1 E pre q=0:=by
 have h1:=List.mem_of_find?_eq_some h;have h2:=List.find?_some h;rw [Q0] at h1;exact ⟨h1.1,by simpa using h1.2,by simpa using h2⟩
theorem R0.nodup{E:List (Str×Str)} : ∀ {line:List Str},R0 E ts line->line.Nodup:=by
 intro line r;rw [cQ,eX];intro i j hi hj hij e;have e1:line=line.take j++line[j]::line.drop (j+1):=by rw [<- y7 hj,T9]
 have:=(fV (r _ _ _ e1)).2.1
 exact this (Y9.mpr ⟨i,by rw [E7];walk_at "o",by rw [List.getElem_take];exact e⟩)
theorem R0.sub{E:List (Str×Str)}(r:R0 E ts line)(h:q∈line):q∈ts:=by
 obtain ⟨pre,post,e⟩:=List.append_of_mem h;exact (fV (r pre q post e)).1
theorem aiI{E:List (Str×Str)}{rank:Str->Nat}(hr:∀ e∈E,rank e.1<rank e.2)(hE:∀ e∈E,e.1∈ts)(hw:∃ p∈ts,p∉line):∃ q,nextP E ts line=some q:=by
 have key:∀ n p,rank p<=n->p∈ts->p∉line->∃ q∈ts,q∉line/\K1 E line q=0:=by
  intro n
  induction n with
  | zero=>
   intro p hp ht hl;refine ⟨p,ht,hl,cnt_zero.mpr fun e he h2=>?_⟩
   have:=hr e he
   rw [h2] at this;walk_at "o"
  | succ n ih=>
   intro p hp ht hl
   by_cases hc:K1 E line p=0
   ·exact ⟨p,ht,hl,hc⟩
   ·have:∃ e∈E,e.2=p/\e.1∉line:=by
     refine Classical.byContradiction fun hn=>hc (cnt_zero.mpr fun e he h2=>Classical.byContradiction fun h3=>hn ⟨e,he,h2,h3⟩)
    obtain ⟨e,he,h2,h3⟩:=this;have h4:=hr e he;rw [h2] at h4;exact ih e.1 (by walk_at "o") (hE e he) h3
 obtain ⟨p,hp,hl⟩:=hw;obtain ⟨q,h1,h2,h3⟩:=key (rank p) p (C2 _) hp hl;cases h:nextP E ts line with
 | some q=>exact ⟨q,rfl⟩
 | none=>
  have:=List.find?_eq_none.mp h q (Q0.mpr ⟨h1,by simpa using h2⟩)
  simp [h3] at this
theorem rH{E:List (Str×Str)}(nd:ts.Nodup)(r:R0 E ts line)(h:∀ p∈ts,p∈line):line.length=ts.length:=
 ((List.perm_ext_iff_of_nodup r.nodup nd).mpr fun a=>⟨r.sub,h a⟩).length_eq
theorem afI(E:List (Str×Str))(pre:List Str):∀ ts:List Str,nextP E ts pre=ts.find? fun p=>!decide (p∈pre)&&decide (∀ e∈E,e.2=p->e.1∈pre)
 | []=>rfl
 | t::ts=>by
  have ih:=afI E pre ts;unfold nextP at ih ⊢
  by_cases h:t∈pre
  ·rw [lK (by simpa using h),q9,ih];simp [h]
  ·rw [lJ (by simpa using h),q9,q9,ih]
   by_cases h2:K1 E pre t=0
   ·have:=cnt_zero.mp h2
    rw [decide_eq_true h2,decide_eq_true this];simp [h]
   ·have:¬ ∀ e∈E,e.2=t->e.1∈pre:=fun z=>h2 (cnt_zero.mpr z)
    rw [decide_eq_false h2,decide_eq_false this];simp [h]
theorem ajt{row:List Str}{e:Str×Str}(h:e∈U5 row):e.1∈row/\e.2∈row:=by
 unfold U5 at h;exact ⟨(List.of_mem_zip h).1,List.mem_of_mem_tail (List.of_mem_zip h).2⟩
theorem agW{rows:List (List Str)}{e:Str×Str}(h:e∈edges rows):e.1∈rows.flatten/\e.2∈rows.flatten:=by
 unfold edges at h;obtain ⟨row,h1,h2⟩:=X5.mp h
 have:=ajt h2
 exact ⟨List.mem_flatten.mpr ⟨row,h1,this.1⟩,List.mem_flatten.mpr ⟨row,h1,this.2⟩⟩
noncomputable def C1 (ts:List Str) (f:Str->V):List (C6×V):=ts.map fun t=>(Sum.inr t,f t)
theorem vX(f:Str->V)(z:Str):∀ ts:List Str,((C1 ts f).any fun kv=>decide (kv.1=(Sum.inr z:C6)))=decide (z∈ts)
 | []=>by simp [C1]
 | y::ts=>by
  have ih:=vX f z ts;unfold C1 at ih ⊢
  rw [K4,aV,ih]
  by_cases e:y=z
  ·subst e
   simp
  ·have e1:decide ((Sum.inr y:C6)=Sum.inr z)=false:=decide_eq_false fun q=>e (Sum.inr.inj q)
   rw [e1,Bool.false_or]
   by_cases h:z∈ts
   ·rw [decide_eq_true h,decide_eq_true (M3 _ h)]
   ·rw [decide_eq_false h,decide_eq_false];intro q
    rcases F9.mp q with q | q
    ·exact e q.symm
    ·exact h q
theorem P7(f:Str->V)(z:Str):∀ ts:List Str,valV (C1 ts f) (Sum.inr z)=if z∈ts then some (f z) else none
 | []=>rfl
 | y::ts=>by
  have ih:=P7 f z ts;unfold C1 at ih ⊢
  rw [K4]
  by_cases e:y=z
  ·subst e;rw [qV rfl,if_pos M4]
  ·rw [bC (fun q=>e (Sum.inr.inj q)),ih]
   by_cases h:z∈ts
   ·rw [if_pos h,if_pos (M3 _ h)]
   ·rw [if_neg h,if_neg];intro q
    rcases F9.mp q with q | q
    ·exact e q.symm
    ·exact h q
theorem mP{f:Str->V}(v:V)(h:z∈ts):putK (C1 ts f) (Sum.inr z:C6) v=C1 ts fun t=>if t=z then v else f t:=by
 unfold putK;rw [vX,decide_eq_true h,if_pos rfl];unfold C1;rw [X7];refine iO fun y _=>?_
 show (if (Sum.inr y:C6)=Sum.inr z then ((Sum.inr y:C6),v) else (Sum.inr y,f y))=((Sum.inr y:C6),if y=z then v else f y)
 by_cases e:y=z
 ·rw [if_pos (by rw [e]),if_pos e]
 ·rw [if_neg (fun q=>e (Sum.inr.inj q)),if_neg e]
theorem dH{f:Str->V}(v:V)(h:z∉ts):putK (C1 ts f) (Sum.inr z:C6) v=C1 (ts++[z]) fun t=>if t=z then v else f t:=by
 unfold putK;rw [vX,decide_eq_false h,if_neg N2];unfold C1;rw [D8]
 congr 1
 ·refine iO fun y hy=>?_
  show _=((Sum.inr y:C6),if y=z then v else f y);rw [if_neg (fun e:y=z=>h (by rw [<- e];exact hy))]
 ·simp
theorem V4{f g:Str->V}(h:∀ t∈ts,f t=g t):C1 ts f=C1 ts g:=by
 unfold C1;exact iO fun t ht=>by rw [h t ht]
theorem i9(f:Str->V)(ts:List Str):(C1 ts f).length=ts.length:=by unfold C1;rw [A6]
theorem rJ{f:Str->V}{k:C6}{v:V}(h:(C1 ts f)[i]?=some (k,v)):∃ t,ts[i]?=some t/\k=Sum.inr t/\v=f t:=by
 unfold C1 at h;obtain ⟨t,h1,h2⟩:=G5 h;cases h2;exact ⟨t,h1,rfl,rfl⟩
theorem amG(f:Str->V)(ts:List Str):((C1 ts f).map fun kv=>kV kv.1)=ts.map V.str:=by
 unfold C1;rw [X7];rfl
structure DL(H0 H:Hp)(ts:List Str)(ad:Str->Addr)(F:Str->List Str):Prop where
 row:∀ t∈ts,H (ad t)=some (.lst ((F t).map V.str))
 inj:∀ t∈ts,∀ u∈ts,ad t=ad u->t=u
 new:∀ t∈ts,H0 (ad t)=none
theorem DL.same{ad:Str->Addr}{F:Str->List Str}(x:DL H0 H ts ad F)(s:Same H H'):DL H0 H' ts ad F:=⟨fun t h=>s _ _ (x.row t h),x.inj,x.new⟩
theorem DL.app{ad:Str->Addr}{F:Str->List Str}(x:DL H0 H ts ad F)(hz:z∈ts)(ys:List Str):DL H0 (A0 H (ad z) (.lst (ys.map V.str))) ts ad fun t=>if t=z then ys else F t:=by
 refine ⟨fun t ht=>?_,x.inj,x.new⟩;show _=some (HO.lst ((if t=z then ys else F t).map V.str))
 by_cases e:t=z
 ·subst e;rw [A5,if_pos rfl]
 ·rw [B1 (fun q=>e (x.inj t ht z hz q)),if_neg e];exact x.row t ht
theorem DL.more{ad:Str->Addr}{F:Str->List Str}(x:DL H0 H ts ad F)(hz:z∉ts){p:Addr}(np:H p=none)(n0:H0 p=none):DL H0 (A0 H p (.lst [])) (ts++[z]) (fun t=>if t=z then p else ad t) fun t=>if t=z then [] else F t:=by
 have ne:∀ t∈ts,t≠z:=fun t ht e=>hz (by rw [<- e];exact ht)
 have nad:∀ t∈ts,ad t≠p:=fun t ht e=>by have:=x.row t ht;rw [e,np] at this;cases this
 have cases':∀ t,t∈ts++[z]->(t∈ts/\t≠z)\/t=z:=fun t ht=>by
  rcases E1.mp ht with h | h
  ·exact .inl ⟨h,ne t h⟩
  ·exact .inr (E6.mp h)
 refine ⟨fun t ht=>?_,fun t ht u hu e=>?_,fun t ht=>?_⟩
 ·show A0 H p (.lst []) (if t=z then p else ad t)=some (.lst ((if t=z then [] else F t).map V.str))
  rcases cases' t ht with ⟨h1,h2⟩ | rfl
  ·rw [if_neg h2,if_neg h2,B1 (nad t h1)];exact x.row t h1
  ·rw [if_pos rfl,if_pos rfl,A5];rfl
 ·have e:(if t=z then p else ad t)=(if u=z then p else ad u):=e
  rcases cases' t ht with ⟨h1,h2⟩ | rfl <;> rcases cases' u hu with ⟨h3,h4⟩ | rfl
  ·rw [if_neg h2,if_neg h4] at e;exact x.inj t h1 u h3 e
  ·rw [if_neg h2,if_pos rfl] at e;exact absurd e (nad t h1)
  ·rw [if_pos rfl,if_neg h4] at e;exact absurd e.symm (nad u h3)
  ·rfl
 ·show H0 (if t=z then p else ad t)=none
  rcases cases' t ht with ⟨h1,h2⟩ | rfl
  ·rw [if_neg h2];exact x.new t h1
  ·rw [if_pos rfl];exact n0
theorem amH(h:acc.Nodup)(z:Str):(dd acc z).Nodup:=by
 unfold dd
 split
 ·exact h
 ·rename_i hz
  rw [aT];refine ⟨h,by simp,fun a ha b hb e=>hz ?_⟩;rw [<- E6.mp hb,<- e];exact ha
theorem vY:∀ {zs acc:List Str},acc.Nodup->(G3 acc zs).Nodup
 | [],_,h=>h
 | z::zs,acc,h=>vY (zs:=zs) (amH h z)
theorem jM(zss:List (List Str)):(toldL zss).Nodup:=by
 unfold toldL;rw [rB];exact vY (by simp)
theorem j0(x:Str):∀ (zs acc:List Str),x∈G3 acc zs↔x∈acc\/x∈zs
 | [],acc=>by simp [G3]
 | z::zs,acc=>by
  show x∈G3 (dd acc z) zs↔_;rw [j0 x zs];unfold dd
  by_cases h:z∈acc
  ·rw [if_pos h,F9]
   constructor
   ·rintro (h1 | h1)
    ·exact .inl h1
    ·exact .inr (.inr h1)
   ·rintro (h1 | rfl | h1)
    ·exact .inl h1
    ·exact .inl h
    ·exact .inr h1
  ·rw [if_neg h,E1,E6,F9,or_assoc]
theorem vZ(x:Str)(zss:List (List Str)):x∈toldL zss↔x∈zss.flatten:=by
 unfold toldL;rw [rB,j0]
 simp
theorem wA{zss:List (List Str)}{e:Str×Str}(h:e∈edges zss):e.1∈toldL zss/\e.2∈toldL zss:=⟨(vZ _ _).mpr (agW h).1,(vZ _ _).mpr (agW h).2⟩
theorem aju{zss:List (List Str)}(h:zss[i]?=some zs):edges (zss.take (i+1))=edges (zss.take i)++U5 zs:=by
 rw [q0,h];unfold edges;rw [X4]
 simp
theorem wB(zs:List Str):(U5 zs).length=min zs.length zs.tail.length:=by unfold U5;rw [List.length_zip]
theorem agX{x y:Str}(h1:zs[j]?=some x)(h2:zs.tail[j]?=some y):(U5 zs)[j]?=some (x,y):=by
 unfold U5;rw [List.getElem?_zip_eq_some];exact ⟨h1,h2⟩
theorem agY(zss:List (List Str)):(edges zss).length<=zss.flatten.length:=by
 induction zss with
 | nil=>exact C2 _
 | cons zs zss ih=>
  unfold edges at ih ⊢
  rw [U1,C5,fC,C5,wB];walk_at "o"
theorem DL.put{ad:Str->Addr}{F:Str->List Str}(x:DL H0 H ts ad F){o u:HO}(hb:H0 b=some u):DL H0 (A0 H b o) ts ad F:=
 ⟨fun t ht=>by rw [B1 (fun e=>by have:=x.new t ht;rw [e,hb] at this;cases this)];exact x.row t ht,x.inj,x.new⟩
theorem DL.congr{ad:Str->Addr}{F G:Str->List Str}(x:DL H0 H ts ad F)(h:∀ t∈ts,F t=G t):DL H0 H ts ad G:=⟨fun t ht=>by rw [<- h t ht];exact x.row t ht,x.inj,x.new⟩
theorem DL.old{H00:Hp}{ad:Str->Addr}{F:Str->List Str}(x:DL H0 H ts ad F)(s:Same H00 H0):DL H00 H ts ad F:=⟨x.row,x.inj,fun t ht=>s.free (x.new t ht)⟩
theorem wC(nd:ts.Nodup)(h:ts[i]?=some z):z∉ts.take i:=fun hm=>by
 obtain ⟨hi,e⟩:=G1.mp h;obtain ⟨j,hj,e2⟩:=Y9.mp hm;rw [E7] at hj;rw [List.getElem_take] at e2
 have:=(cQ.mp nd)
 rw [eX] at this;exact this j i (by walk_at "o") hi (by walk_at "o") (e2.trans e.symm)
theorem K7{α:Type}{ts:List α}{z:α}(h:ts[i]?=some z):ts.take (i+1)=ts.take i++[z]:=by rw [q0,h];rfl
noncomputable def SameBut (d:Addr) (H H':Hp):Prop:=∀ b o,b≠d->H b=some o->H' b=some o
theorem SameBut.put{d q:Addr}{u:HO}(s:SameBut d H0 H)(n:H0 q=none):SameBut d H0 (A0 H q u):=fun b o hb h=>by rw [B1 (aZ h n)];exact s b o hb h
theorem SameBut.thaw{d:Addr}{u:HO}(s:SameBut d H0 H)(h:H0 d=some u):Same H0 (A0 H d u):=fun b o hb=>by
 by_cases e:b=d
 ·subst e;rw [A5,<- hb,h]
 ·rw [B1 e];exact s b o e hb
theorem RowsAt.grow{q:Addr}{zss:List (List Str)}(R:RowsAt H0 H a rs zss)(S:Same H H')(hq:H q=none)(bU:H' q=some (.lst (zs.map V.str))):RowsAt H0 (A0 H' a (.lst (rs.map V.ref++[V.ref q]))) a (rs++[q]) (zss++[zs]):=by
 have nq:∀ r∈a::rs,r≠q:=fun r hr z=>by
  obtain ⟨o,e⟩:=R.live hr;rw [z,hq] at e;cases e
 obtain ⟨na,_⟩:=U8.mp R.nd;refine ⟨⟨by rw [A5,D8];rfl,?_⟩,?_,?_,?_⟩
 ·refine Paired.snoc (mN R.rows.row fun r hr zs h=>?_) ?_
  ·rw [B1 (fun z:r=a=>na (by rw [<- z];exact hr))];exact S _ _ h
  ·rw [B1 (nq a M4).symm];exact bU
 ·show (a::(rs++[q])).Nodup;exact qW R.nd fun h=>nq q h rfl
 ·intro r hr
  rcases F9.mp hr with h | h
  ·exact R.new r (by rw [h];exact M4)
  ·rcases E1.mp h with h | h
   ·exact R.new r (M3 _ h)
   ·rw [E6.mp h];exact R.same.free hq
 ·exact (R.same.trans S).put (R.new a M4)
noncomputable def spFol:Sp:=fun vs H Q _=>∃ (a:Addr) (rs:List Addr) (zss:List (List Str)),vs=[.ref a]/\IsRows H a rs zss/\zss.flatten.length<=100000/\
 ∀ (d:Addr) (ad:Str->Addr) (H':Hp),H d=none->Same H H'->H' d=some (.dK (C1 (toldL zss) fun t=>.ref (ad t)))->DL H H' (toldL zss) ad (G6 (edges zss))->Q (.ref d) H'
noncomputable def akO:Sp:=fun vs H Q _=>∃ (d:Addr) (ts:List Str) (ad:Str->Addr) (E:List (Str×Str)),vs=[.ref d]/\H d=some (.dK (C1 ts fun t=>.ref (ad t)))/\ts.Nodup/\ts.length<=100000/\E.length<=100000/\
 (∀ t∈ts,H (ad t)=some (.lst ((G6 E t).map V.str)))/\(∀ e∈E,e.1∈ts/\e.2∈ts)/\∀ c H',H c=none->Same H H'->H' c=some (.dK (C1 ts fun t=>.int (K1 E [] t:Nat)))->Q (.ref c) H'
theorem agZ:∀ {l m:List Str},l.Nodup->(∀ x∈l,x∈m)->l.length<=m.length
 | [],_,_,_=>G2 _
 | x::l,m,nd,h=>by
  obtain ⟨n1,n2⟩:=U8.mp nd;have hx:=h x M4
  have:=agZ (l:=l) (m:=m.erase x) n2 fun y hy=>(List.mem_erase_of_ne (fun e=>n1 (by rw [<- e];exact hy))).mpr (h y (M3 _ hy))
  rw [List.length_erase_of_mem hx] at this;have gY:=List.length_pos_of_mem hx;rw [K3];walk_at "o"
noncomputable def akP:Sp:=fun vs H Q _=>∃ (a:Addr) (rs:List Addr) (zss:List (List Str)) (rank:Str->Nat),vs=[.ref a]/\IsRows H a rs zss/\zss.flatten.length<=100000/\(∀ e∈edges zss,rank e.1<rank e.2)/\
 ∀ (l:Addr) (line:List Str) (H':Hp),H l=none->Same H H'->H' l=some (.lst (line.map V.str))->R0 (edges zss) (toldL zss) line->(∀ p∈toldL zss,p∈line)->Q (.ref l) H'
theorem SameBut.free{d p:Addr}(s:SameBut d H0 H)(n:H p=none)(h:p≠d):H0 p=none:=by
 cases e:H0 p with
 | none=>rfl
 | some o=>
  have:=s p o h e
  rw [n] at this;cases this
theorem SameBut.same{d:Addr}(s:SameBut d H1 H2)(S:Same H H1)(n:H d=none):Same H H2:=fun b o h=>s b o (aZ h n) (S b o h)
theorem ual(d:Addr)(H:Hp):SameBut d H H:=fun _ _ _ h=>h
theorem SameBut.at{d:Addr}{o:HO}(s:SameBut d H H'):SameBut d H (A0 H' d o):=fun b u hb h=>by rw [B1 hb];exact s b u hb h
noncomputable def one (c:Nat):Str:=⟨#[c]⟩
noncomputable def M6 (c d:Nat):Str:=⟨#[c,d]⟩
end L2
set_option maxRecDepth 100000
namespace L2
open PySem PySem.Spec PyProof.Rows
section
variable {X:Cx}
noncomputable def rAnyB (calm:Bool):List V->Hp->VK->Prop
 | [.ref p],H,Q=>∃ bs:List Bool,calm=true/\H p=some (.lst (bs.map V.bl))/\Q (.bl (bs.any id)) H
 | _,_,_=>False
theorem p_any:CallR X (.builtin "any") (rAnyB X.calm):=by
 intro pins s σ H xs us Q I r h
 match xs,h with
 | [.ref p],⟨bs,hc,hp,q⟩=>
  obtain ⟨u,rfl,rx⟩:=vals1 r
  cases rx
  obtain ⟨z,its,n,rv,hl,e⟩:=I.lstM hp;have pl:s.heap.IsList p its.toArray:=⟨_,e,rfl,n,rfl⟩
  refine call_any_walk (wpAny_pyIter_list pl ?_);have L0:p≠s.heap.objs.size:=O6 (Heap.lt_size e);have hk:∀ b o,s.heap.get? b=some o->(s.heap.push { cls:=.type "list_iterator",data:=.fields #[.ref p,.int 0 0] }).get? b=some o:=fun b o q=>Heap.get?_push_of_some _ q
  refine ⟨_,_,_,_,_,_,fun i=>(bs[i]?).getD false,rfl,Walks.list (show X.A.in1.handled=none from I.ok.hd hc) s.heap.objs.size p L0 its.toArray,⟨⟨_,Heap.get?_push_size _ rfl,rfl,rfl⟩,pl.at fun o q=>hk p o q⟩,?_,?_⟩
  ·intro i v s' Q' E' hv hq;have tE:its[i]?=some v:=by simpa using hv
   have hb:∃ b,bs[i]?=some b/\v=.bool b:=by
    cases eb:(bs.map V.bl)[i]? with
    | none=>
     have:=rv.none_of eb
     rw [tE] at this
     cases this
    | some y=>
     obtain ⟨u,h1,h2⟩:=rv.get eb;rw [tE] at h1;cases h1;rw [V7] at eb;cases e3:bs[i]? with
     | none=>rw [e3] at eb;cases eb
     | some b=>
      rw [e3] at eb;cases eb;exact ⟨b,rfl,h2⟩
   obtain ⟨b,e1,rfl⟩:=hb;have hq:Q' ((bs[i]?).getD false) s':=hq;rw [e1] at hq;exact wpAny_truthy_bool hq
  ·intro h' tk oZ;have e1:(List.range its.toArray.size).any (fun i=>(bs[i]?).getD false)=bs.any id:=by
    have A9:its.toArray.size=bs.length:=by
     rw [L5,<- hl,A6]
    rw [A9,fF,lW,lW]
    constructor
    ·rintro ⟨i,hi,hb⟩;rw [iR] at hi;rw [K8 hi,Option.getD_some] at hb;exact ⟨bs[i],lV hi,hb⟩
    ·rintro ⟨b,hb,ht⟩;obtain ⟨i,hi,rfl⟩:=Y9.mp hb;exact ⟨i,iR.mpr hi,by rw [K8 hi];exact ht⟩
   rw [e1];have I1:Inv X pins σ H { s with heap:=h',toks:=tk }:=I.kept fun b o q=>oZ b o (by
    intro hm
    have:b=s.heap.objs.size:=by simpa using hm
    rw [this] at q;exact absurd (Heap.lt_size q) (r0 _)) (hk b o q)
   exact ⟨.bl _,H,I1,rfl,q⟩
theorem q_any(oQ:X.calm=calm:=by rfl):QCall X (.builtin "any") (rAnyB calm):=by subst oQ;exact ⟨p_any⟩
theorem any_r{cm:Bool}{p:Addr} : rAnyB cm [.ref p] H Q=∃ bs:List Bool,cm=true/\H p=some (.lst (bs.map V.bl))/\Q (.bl (bs.any id)) H:=rfl
end
noncomputable def mQ (l : Addr) : It :=
  ⟨fun i H => ∃ xs x, H l = some (.lst xs) /\ xs[i]? = some x,
   fun i H v H' => ∃ t xs x, H l = some (.lst xs) /\ xs[i]? = some x /\ H t = none /\ v = .ref t /\ H' = A0 H t (.tup [.int i, x]),
   fun i H => ∃ xs, H l = some (.lst xs) /\ xs.length <= i⟩
theorem akQ{P:Program}{w:World}{pos:Pos}(e it l:Addr)(L0:e≠it) :
  Turn P w K (.Tuple elts x1 pos) (mQ l) [e,it] e (fun i h=>(∃ old,IsEnum h e it ((i:Nat):Int) old)/\h.IsListIter it l i) where
 mem:=by simp
 obj:=fun i h ⟨⟨old,he⟩,hi⟩ c hc=>by
  have q:c=e\/c=it:=by simpa using hc
  rcases q with rfl | rfl
  ·exact ⟨_,he,fun v q=>by cases q⟩
  ·obtain ⟨o,e,c,d⟩:=hi;exact ⟨o,e,fun v z=>by rw [d] at z;cases z⟩
 keep:=fun i h h' ⟨⟨old,he⟩,hi⟩ k=>⟨⟨old,k e (by simp) _ he⟩,hi.at fun o q=>k it (by simp) o q⟩
 item:=by
  intro X hP hw hK hc i pins s σ H E I hf ⟨⟨old,he⟩,hi⟩ hg;subst hP hw hK;obtain ⟨xs,x,e1,hx⟩:=hg;obtain ⟨its1,g3,p1,_⟩:=I.list (E2.of (K:=X.K) e1);obtain ⟨u1,C4,r1⟩:=g3.get hx;refine wpAny_pyNext_enum_item he hi p1.isList (x:=u1) (by simpa using C4) L0 fun h' b1 b2 b3 b4 b5=>⟨_,rfl,wpAny_letOwnedTupleGo_enum b1 fun h2' c1 c2=>?_⟩
  have w8:e<s.heap.objs.size:=Heap.lt_size he;have up:∀ c o,c≠e->h'.get? c=some o->h2'.get? c=some o:=fun c o hc q=>(c2.2 c hc).trans q
  have hT:=up _ _ (Nat.ne_of_gt w8) b3;have nT:∀ c∈[e,it],c≠s.heap.objs.size:=fun c hc=>by
   have q:c=e\/c=it:=by simpa using hc
   refine O6 ?_
   rcases q with rfl | rfl
   ·exact w8
   ·obtain ⟨o,q,_⟩:=hi;exact Heap.lt_size q
  refine ⟨.ref s.heap.objs.size,A0 H s.heap.objs.size (.tup [.int i,x]),I.turnNew (t':=s.toks+1) (ch:=[e,it]) hf (fun c u hc q=>?_) (C2 _) ⟨by show 2<=sizeLine;decide,[.int i s.toks,u1],.cons ⟨_,rfl⟩ (.cons r1 .nil),?_⟩,rfl,⟨_,xs,x,e1,hx,I.fresh,rfl,rfl⟩,
   ⟨⟨_,c1⟩,b2.at fun o q=>up _ o L0.symm q⟩,fun c hc=>by rw [B1 (nT c hc)];exact (hf c hc).1⟩
  ·have q1:c≠e/\c≠it:=⟨fun q=>hc (by simp [q]),fun q=>hc (by simp [q])⟩
   exact up c u q1.1 (b5 c u q1.1 q1.2 q)
  ·exact ⟨_,hT,rfl,_,rfl⟩
 done:=by
  intro X hP hw hK hc i pins s σ H E I hf ⟨⟨old,he⟩,hi⟩ hg;subst hP hw hK;obtain ⟨xs,e1,Z4⟩:=hg;obtain ⟨its1,g3,p1,_⟩:=I.list (E2.of (K:=X.K) e1);have q1:=g3.length;obtain ⟨f0,f1,f2,f3,f4,f5⟩:=hf it (by simp);exact wpAny_pyNext_enum_end (I.ok.hd hc) he hi p1.isList (by simp;walk_at "o") fun h' eb=>⟨rfl,I.turned (t':=s.toks) (fun b o hb q=>eb b o hb q) f0 f1 f3 f4 f5⟩
 self:=fun _ _ _ _ _ st h=>by
  obtain ⟨⟨old,he⟩,_⟩:=st;exact wpAny_pyIter_enum he h
section
variable {X:Cx}
noncomputable def iEnum (ta:TA):TI:=fun σ H R=>ta σ H fun vs H1=>∃ (l:Addr) (xs:List V),vs=[.ref l]/\H1 l=some (.lst xs)/\R (mQ l) H1
theorem aoK{a:Expr}{p pos:Pos}(hg:Gl X "enumerate")(hm:X.mg "enumerate"=none)(ha:PA X [a] ta)(h1:M5 a=false:=by rfl) :
  PI X (.Tuple elts x1 tpos) (.Call (.Name "enumerate" p) [a] [] pos) (iEnum ta):=by
 intro pins s σ H R I h;refine Call_ (fJ I hg hm boot_enumerate (PyProof.Rows.callWith_type1 (B5 (ha pos pins s σ H _ I h) fun us s1 ⟨vs,H1,I1,r1,q1⟩=>?_) (O7 h1) rfl));obtain ⟨l,xs,rfl,e1,q⟩:=q1;obtain ⟨u1,rfl,oV⟩:=vals1 r1
 cases oV
 obtain ⟨its1,g3,p1,_⟩:=I1.list (E2.of (K:=X.K) e1);refine call_enumerate_list p1.isList fun h' z1 z2 z3 z4=>wpAny_pyIter_enum z1 ?_
 refine ⟨s1.heap.objs.size+1,[s1.heap.objs.size+1,s1.heap.objs.size],_,_,H1,rfl,I1.kept (t':=s1.toks) z4,akQ _ s1.heap.objs.size l (m6 (by walk_at "o")),⟨⟨_,z1⟩,z2⟩,fun b hb=>?_,q⟩;have Z5:s1.heap.objs.size<=b:=by
  have e:b=s1.heap.objs.size+1\/b=s1.heap.objs.size:=by simpa using hb
  rcases e with rfl | rfl
  ·exact z0 _ _
  ·exact C2 _
 exact I1.fpOk Z5 (I1.hok.fresh Z5)
theorem mR{a:Expr}{p pos:Pos}(hm:X.mg "enumerate"=none)(ha:QA X [a] ta)(hg:Gl X "enumerate":=by rfl)(h1:M5 a=false:=by rfl) :
  QI X (.Tuple elts x1 tpos) (.Call (.Name "enumerate" p) [a] [] pos) (iEnum ta):=⟨aoK hg hm ha.out h1⟩
end
theorem amI{R:It->Hp->Prop} : iEnum ta σ H R=ta σ H fun vs H1=>∃ (l:Addr) (xs:List V),vs=[.ref l]/\H1 l=some (.lst xs)/\R (mQ l) H1:=rfl
theorem forE{l:Addr}(Pv:Nat->St->Hp->Prop)(h0:Pv 0 σ H)(hl:∀ i σ H,Pv i σ H->H l=some (.lst xs))(hs:∀ i x t σ H,xs[i]?=some x->Pv i σ H->H t=none->g (.ref t) σ (A0 H t (.tup [.int i,x])) fun σ2 H2=>tb { D with nx:=Pv (i+1),ct:=Pv (i+1),bk:=D.nx } σ2 H2)(hd:∀ σ H,Pv xs.length σ H->D.nx σ H):ForIt (mQ l) g tb D σ H:=by
 refine ⟨fun i m σ H=>m=xs.length-i/\i<=xs.length/\Pv i σ H,⟨xs.length,by simp,G2 _,h0⟩,?_⟩;rintro i m σ H ⟨rfl,hi,p⟩;have e1:=hl i σ H p
 by_cases C9:i<xs.length
 ·refine .inr ⟨⟨xs,xs[i],e1,by simp⟩,Pv (i+1),fun σ' H' p'=>⟨_,by walk_at "o",rfl,C9,p'⟩,fun v H' y=>?_⟩;obtain ⟨t,xs',x,f1,hx,ht,rfl,rfl⟩:=y;rw [e1] at f1;cases f1;exact hs i x t σ H hx p ht
 ·have e:i=xs.length:=by walk_at "o"
  subst e;exact .inl ⟨⟨xs,e1,by walk_at "o"⟩,hd σ H p⟩
noncomputable def MO (P:Program) (w:World) (K:PySem.W.Frag) (mg:Str->Option Value) (base:Heap) (k:Nat) (C:Addr) (m:Str) (ps:List Str) (sp:Sp):Prop:=
 ∃ f fd,FnOk P w K mg base E8 k f fd ps sp/\Cls K C/\Meth K C m f/\Binds K fd ps []
noncomputable def KO (P:Program) (w:World) (K:PySem.W.Frag) (mg:Str->Option Value) (base:Heap) (k:Nat) (C:Addr) (x:Str) (ps:List Str) (sp:Sp):Prop:=
 ∃ f fd,FnOk P w K mg base E8 k f fd ps sp/\Mk K C f/\mg x=some (.ref C)/\Binds K fd ps []
section
variable {X:Cx} {k:Nat} {C:Addr} {ps:List Str} {sp:Sp} {x m:Str} {p pos apos:Pos} {e o:Expr} {es:List Expr} {ta:TE} {t:TA}
theorem aoL(G:KO X.prog X.w X.K X.mg X.base k C x ps sp)(hr:Room (k+1) X.A)(ha:QA X (e::es) t)(hg:Gl X x:=by rfl)(h1:M5 e=false:=by rfl)(h2:Y2 es=true:=by rfl)(T8:(x==("__debug__" : Str))=false:=by decide) :
  QE X (.Call (.Name x p) (e::es) [] pos) (tMake C sp [] E0 t):=by
 obtain ⟨f,fd,F,M,hm,hb⟩:=G;exact ⟨anW M F hr hg hm hb .nil pass0 ha.out T8 (O7 h1) (fQ h2)⟩
theorem aoM(ho:QE X o ta)(G:MO X.prog X.w X.K X.mg X.base k C m ps sp)(hr:Room k X.A)(ha:QA X (e::es) t)(h1:M5 e=false:=by rfl)(h2:Y2 es=true:=by rfl){pl:Sem Bool}(ht:eval (.Call (.Attribute o m apos) (e::es) [] pos) X.env=(do
   let ov <- eval o X.env
   standAt apos.atName
   let (f,first) <- holding [ov] (getMethod ov m pl)
   callWith pos f first (backTo pos (starEach (e::es) X.env)) (backToKw pos (keywordEach [] X.env))):=by rfl) :
  QE X (.Call (.Attribute o m apos) (e::es) [] pos) (tMeth C m sp [] E0 ta t):=by
 obtain ⟨f,fd,F,c,hm,hb⟩:=G;exact ⟨anV ho.out c hm F hr hb .nil pass0 ha.out (O7 h1) (fQ h2) ht⟩
theorem amJ(ho:QE X o ta)(G:MO X.prog X.w X.K X.mg X.base k C m ps sp)(hr:Room k X.A){pl:Sem Bool}(ht:eval (.Call (.Attribute o m apos) [] [] pos) X.env=(do
   let ov <- eval o X.env
   standAt apos.atName
   let (f,first) <- holding [ov] (getMethod ov m pl)
   callWith pos f first (backTo pos (starEach [] X.env)) (backToKw pos (keywordEach [] X.env))):=by rfl) :
  QE X (.Call (.Attribute o m apos) [] [] pos) (tMeth C m sp [] E0 ta tNil):=by
 obtain ⟨f,fd,F,c,hm,hb⟩:=G;exact ⟨alY ho.out c hm F hr hb .nil pass0 ht⟩
end
section
variable {C:Addr} {m f:Str} {sp:Sp} {K:PySem.W.Frag} {ta tv:TE} {t:TA} {σ:St} {H:Hp} {Q:VK} {D:Ends}
theorem aoN:tMake C sp [] E0 t σ H Q=t σ H fun vs H1=>∀ x dx,H1 x=none->H1 dx=none->dx≠x->sp (.ref x::(vs++[])) (A0 (A0 H1 dx (.own x)) x (.ins C dx [])) (fun v H2=>v=.non/\Q (.ref x) H2) E0:=rfl
theorem aoO:tMeth C m sp [] E0 ta t σ H Q=ta σ H fun x H1=>∃ a dx fs,x=.ref a/\H1 a=some (.ins C dx fs)/\fs.lookup m=none/\t σ H1 fun vs H2=>sp (x::(vs++[])) H2 Q E0:=rfl
theorem arv:tFld K ta f σ H Q=ta σ H fun x H1=>∃ a C dx fs v,x=.ref a/\H1 a=some (.ins C dx fs)/\Cls K C/\NoAttr K C f/\fs.lookup f=some v/\Q v H1:=rfl
theorem aoP:sFld K ta tv f D σ H=tv σ H fun y H1=>ta σ H1 fun x H2=>∃ a C dx fs,x=.ref a/\H2 a=some (.ins C dx fs)/\Cls K C/\NoAttr K C f/\fs.length<1000/\D.nx σ (A0 H2 a (.ins C dx (putF f y fs))):=rfl
end
section
variable {X:Cx} {o e:Expr} {apos cpos:Pos} {td ty:TE}
theorem rK(hu:X.A.units+1<cLine)(ho:QE X o td)(he:QE X e ty)(h1:M5 e=false:=by rfl)(G9:attributeBase o "get" X.env (eval o X.env)=eval o X.env:=by rfl)(I0:(apos.endLine==cpos.line)=true:=by rfl):QE X (.Call (.Attribute o "get" apos) [e] [] cpos) (vD td ty):=
 ⟨al9 hu ho.out he.out ⟨G9,by rw [O7 h1];rfl,I0,by rw [O7 h1];rfl⟩⟩
theorem amK : vD td ty σ H Q=td σ H fun x H1=>∃ a,x=.ref a/\fP H1 a/\ty σ H1 fun y H2=>∃ o,DGet H2 a y o/\Q (o.getD .non) H2:=rfl
end
end L2
set_option maxRecDepth 100000
namespace L2
open PySem PySem.Spec PyProof.Rows
noncomputable abbrev Rl:=Str×List Str
noncomputable def tupR (z:Rl):HO:=.tup ((z.1::z.2).map V.str)
structure IsRules(H:Hp)(a:Addr)(rs:List Addr)(R:List Rl):Prop where
 top:H a=some (.lst (rs.map V.ref))
 row:Paired (fun r z=>H r=some (tupR z)) rs R
theorem IsRules.same{R:List Rl}(h:IsRules H a rs R)(s:Same H H'):IsRules H' a rs R:=⟨s _ _ h.top,N0 h.row fun _ _ e=>s _ _ e⟩
theorem IsRules.cat{l:Addr}{ts us:List Addr}{A B:List Rl}(x:IsRules H a ts A)(y:IsRules H b us B)(n:H l=none):IsRules (A0 H l (.lst (ts.map V.ref++us.map V.ref))) l (ts++us) (A++B):=by
 refine ⟨by rw [A5,D8],?_⟩;have ap:∀ {l₁ l₃:List Addr} {l₂ l₄:List Rl},Paired (fun r z=>A0 H l (.lst (ts.map V.ref++us.map V.ref)) r=some (tupR z)) l₁ l₂->Paired (fun r z=>A0 H l (.lst (ts.map V.ref++us.map V.ref)) r=some (tupR z)) l₃ l₄->Paired (fun r z=>A0 H l (.lst (ts.map V.ref++us.map V.ref)) r=some (tupR z)) (l₁++l₃) (l₂++l₄):=by
  intro l₁ l₃ l₂ l₄ h
  induction h with
  | nil=>intro h';exact h'
  | cons h t ih=>intro h';exact .cons h (ih h')
 exact ap (N0 x.row fun r z h=>D9 h n) (N0 y.row fun r z h=>D9 h n)
theorem IsRules.len{R:List Rl}(h:IsRules H a rs R):rs.length=R.length:=Paired.length h.row
noncomputable def M7 (z:Rl):List Str:=if z.1=("great" : Str) then z.2.drop 1 else if z.1=("as" : Str) then z.2.take 1 else if z.1=("row" : Str)\/z.1=("marks" : Str)\/z.1=("over" : Str) then z.2 else []
noncomputable def jobD (w:Str):Str:=if w=("row" : Str) then "letter" else if w=("marks" : Str) then "mark" else w
noncomputable def C8 (R:List Rl):List (Str×Str):=R.flatMap fun z=>(M7 z).map fun p=>(p,jobD z.1)
noncomputable def hasW (R:List Rl) (w:Str):Bool:=R.any fun z=>decide (z.1=w)
noncomputable def figO (c:Nat):Bool:=decide (48<=c)&&decide (c<=57)
noncomputable def mS:List Str:=["letter", "mark", "over"]
noncomputable def NC (figs:Bool) (g:Str->Str) (PL:List (Str×Str)):Prop:=∀ i p j,PL[i]?=some (p,j)->j=g p/\(p∈(PL.take i).map (·.1)->j∈mS)/\(figs=true->∀ c∈p.cps.toList,figO c=false)/\p.length<=1000
noncomputable def keysP (PL:List (Str×Str)):List Str:=G3 [] (PL.map (·.1))
theorem afJ{R:List Rl}{z:Rl}(h:R[i]?=some z):C8 (R.take (i+1))=C8 (R.take i)++(M7 z).map fun p=>(p,jobD z.1):=by
 rw [q0,h];unfold C8;rw [X4]
 simp
theorem wD(R:List Rl)(i:Nat):∃ more,C8 R=C8 (R.take i)++more:=⟨C8 (R.drop i),by
 unfold C8;rw [<- X4,T9]⟩
theorem ajv(PL:List (Str×Str))(p j:Str):keysP (PL++[(p,j)])=dd (keysP PL) p:=by
 unfold keysP G3;rw [D8,aU];rfl
theorem jN(x:Str)(PL:List (Str×Str)):x∈keysP PL↔x∈PL.map (·.1):=by
 unfold keysP;rw [j0]
 simp
theorem wE(PL:List (Str×Str)):(keysP PL).length<=PL.length:=by
 have:=dC (PL.map (·.1)) []
 rw [A6] at this
 simpa [keysP] using this
noncomputable def rowsW (R:List Rl) (w:Str):List (List Str):=(R.filter fun z=>decide (z.1=w)).map (·.2)
theorem wF{R:List Rl}{z:Rl}{w:Str}(h:R[i]?=some z):rowsW (R.take (i+1)) w=if z.1=w then rowsW (R.take i) w++[z.2] else rowsW (R.take i) w:=by
 rw [q0,h];unfold rowsW;rw [cS,D8]
 by_cases e:z.1=w
 ·rw [if_pos e,Option.toList_some,lJ (by simpa using e)];rfl
 ·rw [if_neg e,Option.toList_some,lK (by simpa using e)];simp
theorem m7{hi:Option Int}(hk:1<=k)(hn:1<=n):¬ (HT.sIx n 0 (some (k:Int))=0/\HT.sIx n n hi=n):=fun h=>by
 have:=h.1
 rw [HT.sIx_nat] at this;walk_at "o"
noncomputable abbrev jobsL:List (C6×V):=[((Sum.inr ("row" : Str):C6),V.str "letter"),(Sum.inr ("marks" : Str),V.str "mark"),(Sum.inr ("great" : Str),V.str "great"),(Sum.inr ("as" : Str),V.str "as"),(Sum.inr ("over" : Str),V.str "over")]
noncomputable def fW (w:Str):Prop:=w=("row" : Str)\/w=("marks" : Str)\/w=("great" : Str)\/w=("as" : Str)\/w=("over" : Str)
theorem wG{w:Str}(h:fW w):valV jobsL (Sum.inr w)=some (.str (jobD w)):=by
 rcases h with rfl | rfl | rfl | rfl | rfl <;> decide +kernel
theorem amL{w:Str}(h:¬ fW w):valV jobsL (Sum.inr w)=none:=by
 unfold fW at h;have n:∀ u:Str,w≠u->¬ ((Sum.inr u:C6)=Sum.inr w):=fun u hu e=>hu (Sum.inr.inj e).symm
 rw [bC (n _ (fun e=>h (.inl e))),bC (n _ (fun e=>h (.inr (.inl e)))),bC (n _ (fun e=>h (.inr (.inr (.inl e))))),bC (n _ (fun e=>h (.inr (.inr (.inr (.inl e)))))),bC (n _ (fun e=>h (.inr (.inr (.inr (.inr e))))))];rfl
theorem fX{z:Rl}(h:p∈M7 z):fW z.1:=by
 unfold M7 at h;unfold fW
 split at h
 ·rename_i e;exact .inr (.inr (.inl e))
 ·split at h
  ·rename_i e;exact .inr (.inr (.inr (.inl e)))
  ·split at h
   ·rename_i e
    rcases e with e | e | e
    ·exact .inl e
    ·exact .inr (.inl e)
    ·exact .inr (.inr (.inr (.inr e)))
   ·cases h
theorem arw{R:List Rl}{z:Rl}(hz:R[i]?=some z)(hp:(M7 z)[j]?=some p) :
  (C8 R)[(C8 (R.take i)).length+j]?=some (p,jobD z.1)/\(C8 R).take ((C8 (R.take i)).length+j)=C8 (R.take i)++((M7 z).take j).map fun p=>(p,jobD z.1):=by
 obtain ⟨more,e⟩:=wD R (i+1);rw [afJ hz,O3] at e;have hj:j<(M7 z).length:=(G1.mp hp).1;rw [e]
 constructor
 ·rw [eW (z0 _ _),Nat.add_sub_cancel_left,iL (by rw [A6];exact hj),V7,hp];rfl
 ·rw [List.take_append,y8 (z0 _ _),Nat.add_sub_cancel_left,List.take_append_of_le_length (by rw [A6];walk_at "o"),k5]
theorem arx{c d:Nat} : (([c]:List Nat)<[d])↔c<d:=by
 constructor
 ·intro h;cases h with
  | rel h=>exact h
  | cons h=>cases h
 ·intro h;exact List.Lex.rel h
theorem C7.same(e:Same H H')(h:C7 K H a xs):C7 K H' a xs:=by
 rcases h with (h | ⟨o,h⟩) | h
 ·exact .inl (.inl (e _ _ h))
 ·exact .inl (.inr ⟨o,e _ _ h⟩)
 ·exact .inr h
theorem C7.dput{d:Addr}{o:HO}(hd:H d=some (.dK kvs))(h:C7 K H a xs):C7 K (A0 H d o) a xs:=by
 rcases h with (h | ⟨o,h⟩) | h
 ·exact .inl (.inl (by rw [B1 (fun e=>by rw [e,hd] at h;cases h)];exact h))
 ·exact .inl (.inr ⟨o,by rw [B1 (fun e=>by rw [e,hd] at h;cases h)];exact h⟩)
 ·exact .inr h
noncomputable def spHas (K:PySem.W.Frag):Sp:=fun vs H Q _=>∃ (a:Addr) (ts:List Addr) (R:List Rl) (w:Str),vs=[.ref a,.str w]/\IsRules H a ts R/\R.length<=1000/\∀ H',Same H H'->Q (.bl (hasW R w)) H'
noncomputable def akR (K:PySem.W.Frag):Sp:=fun vs H Q _=>∃ (t:Addr) (z:Rl),vs=[.ref t]/\H t=some (tupR z)/\∀ p H',Same H H'->C7 K H' p ((M7 z).map V.str)->Q (.ref p) H'
noncomputable def akS:Sp:=fun vs H Q _=>∃ (d:Addr) (p j:Str) (fg:Bool) (ks:List Str) (g:Str->Str),vs=[.ref d,.str p,.str j,.bl fg]/\H d=some (.dK (C1 ks fun t=>.str (g t)))/\p.length<=1000/\(p∈ks->g p=j/\j∈mS)/\(fg=true->∀ c∈p.cps.toList,figO c=false)/\
 ∀ H',Same H H'->Q (.bl false) H'
noncomputable def W4 (R:List Rl):List Str:=if hasW R "blanks"=true then [" "] else []
noncomputable def jobG (g:Str->Str):Str->V:=fun t=>if t=(" " : Str) then .str "over" else .str (g t)
noncomputable def anl (K:PySem.W.Frag):Sp:=fun vs H Q _=>∃ (a:Addr) (ts:List Addr) (R:List Rl) (g:Str->Str),vs=[.ref a]/\IsRules H a ts R/\R.length<=1000/\(C8 R).length<=10000/\NC (hasW R "figures") g (C8 R)/\(" " : Str)∉(C8 R).map (·.1)/\
 ∀ d H',H d=none->Same H H'->H' d=some (.dK (C1 (keysP (C8 R)++W4 R) (jobG g)))->Q (.ref d) H'
noncomputable def ordF (f b:Bool) (j ll ml md:Addr):List (Str×V):=putF "made" (.ref md) (putF "mark_line" (.ref ml) (putF "letter_line" (.ref ll) (putF "jobs" (.ref j) (putF "behind" (.bl b) (putF "figures" (.bl f) [])))))
theorem aem(f b:Bool)(j ll ml md:Addr):(ordF f b j ll ml md).lookup ("figures" : Str)=some (V.bl f):=by
 unfold ordF;rw [N3,if_neg (by decide +kernel),N3,if_neg (by decide +kernel),N3,if_neg (by decide +kernel),N3,if_neg (by decide +kernel),N3,if_neg (by decide +kernel),N3,if_pos rfl]
theorem aeY(f b:Bool)(j ll ml md:Addr):(ordF f b j ll ml md).lookup ("behind" : Str)=some (V.bl b):=by
 unfold ordF;rw [N3,if_neg (by decide +kernel),N3,if_neg (by decide +kernel),N3,if_neg (by decide +kernel),N3,if_neg (by decide +kernel),N3,if_pos rfl]
theorem ag1(f b:Bool)(j ll ml md:Addr):(ordF f b j ll ml md).lookup ("jobs" : Str)=some (V.ref j):=by
 unfold ordF;rw [N3,if_neg (by decide +kernel),N3,if_neg (by decide +kernel),N3,if_neg (by decide +kernel),N3,if_pos rfl]
theorem ag2(f b:Bool)(j ll ml md:Addr):(ordF f b j ll ml md).lookup ("letter_line" : Str)=some (V.ref ll):=by
 unfold ordF;rw [N3,if_neg (by decide +kernel),N3,if_neg (by decide +kernel),N3,if_pos rfl]
theorem ajw(f b:Bool)(j ll ml md:Addr):(ordF f b j ll ml md).lookup ("mark_line" : Str)=some (V.ref ml):=by
 unfold ordF;rw [N3,if_neg (by decide +kernel),N3,if_pos rfl]
theorem akT(f b:Bool)(j ll ml md:Addr){m:Str}(h:m∉(["made", "mark_line", "letter_line", "jobs", "behind", "figures"]:List Str)):(ordF f b j ll ml md).lookup m=none:=by
 unfold ordF;have n:∀ u∈(["made", "mark_line", "letter_line", "jobs", "behind", "figures"]:List Str),¬ m=u:=fun u hu e=>h (by rw [e];exact hu)
 rw [N3,if_neg (n _ (by simp)),N3,if_neg (n _ (by simp)),N3,if_neg (n _ (by simp)),N3,if_neg (n _ (by simp)),N3,if_neg (n _ (by simp)),N3,if_neg (n _ (by simp))];rfl
theorem IsRules.but{x:Addr}{R:List Rl}(h:IsRules H a rs R)(s:SameBut x H H'){dx:Addr}{fs:List (Str×V)}(hx:H x=some (.ins C dx fs)):IsRules H' a rs R:=
 ⟨s _ _ (fun e=>by have:=h.top;rw [e,hx] at this;cases this) h.top,N0 h.row fun t z e=>s _ _ (fun q=>by rw [q,hx] at e;cases e) e⟩
theorem SameBut.trans{x:Addr}(a:SameBut x H H1)(b:SameBut x H1 H2):SameBut x H H2:=fun c o hc h=>b c o hc (a c o hc h)
theorem Same.but{x:Addr}(a:Same H H1):SameBut x H H1:=fun c o _ h=>a c o h
noncomputable def R1 (R:List Rl) (w:Str) (L:List Str):Prop:=R0 (edges (rowsW R w)) (toldL (rowsW R w)) L/\∀ p∈toldL (rowsW R w),p∈L
structure IsOrder(C:Addr)(H:Hp)(x:Addr)(g:Str->Str)(R:List Rl)(L M:List Str):Prop where
 ob:∃ dx j ll ml md,H x=some (.ins C dx (ordF (hasW R "figures") (hasW R "behind") j ll ml md))/\H j=some (.dK (C1 (keysP (C8 R)++W4 R) (jobG g)))/\H ll=some (.lst (L.map V.str))/\H ml=some (.lst (M.map V.str))
 l1:R1 R "row" L
 l2:R1 R "marks" M
noncomputable def anm (K:PySem.W.Frag):Sp:=fun vs H Q _=>∃ (a:Addr) (ts:List Addr) (R:List Rl) (w:Str) (rank:Str->Nat),vs=[.ref a,.str w]/\IsRules H a ts R/\R.length<=1000/\(rowsW R w).flatten.length<=100000/\(∀ e∈edges (rowsW R w),rank e.1<rank e.2)/\
 ∀ (l:Addr) (line:List Str) (H':Hp),H l=none->Same H H'->H' l=some (.lst (line.map V.str))->R0 (edges (rowsW R w)) (toldL (rowsW R w)) line->(∀ p∈toldL (rowsW R w),p∈line)->Q (.ref l) H'
noncomputable def cellF (ns:List Int) (k:Int):Int:=if k<(ns.length:Int) then ns.getD k.toNat 0 else 0
noncomputable def jO (K:PySem.W.Frag):Sp:=fun vs H Q _=>∃ (a:Addr) (ns:List Int) (k:Int),vs=[.ref a,.int k]/\E2 K H a (ns.map V.int)/\0<=k/\Q (.int (cellF ns k)) H
noncomputable def SA:Str:=Str.ofString "!\"#$&'()*+,-./:;<=>?@ABCDEFGHIJKLMNOPQRSTUVWXYZ[\\]^_`abcdefghijklmnopqrstuvwxyz{|}~"
noncomputable def LA:List Nat:=SG.filter fun c=>!figO c
noncomputable def LB:List Nat:=LA++[48,49,50,51,52,53,54,55,56,57]
theorem SA_eq:SA.cps.toList=LA:=by decide +kernel
theorem SB_eq:(SA++Str.ofString "0123456789").cps.toList=LB:=by decide +kernel
theorem ary:LA.length=83:=by decide +kernel
theorem arz:LB.length=93:=by decide +kernel
theorem LA_nd:LA.Nodup:=by decide +kernel
theorem LB_nd:LB.Nodup:=by decide +kernel
theorem LA_ok:∀ c∈LA,signB c=true/\figO c=false:=by decide +kernel
theorem LB_ok:∀ c∈LB,signB c=true:=by decide +kernel
noncomputable def listF (d:Bool):List Nat:=if d=true then LB else LA
noncomputable def lenF (d:Bool):Int:=if d=true then 93 else 83
theorem rL(d:Bool):((listF d).length:Int)=lenF d:=by
 cases d
 ·show ((LA.length:Nat):Int)=83;rw [ary];rfl
 ·show ((LB.length:Nat):Int)=93;rw [arz];rfl
noncomputable def P9 (ns:List Int):Bool:=decide (cellF ns 1 / 12 % 2=0)
noncomputable def stepO:List Int:=[1,2,4,5,7,8,10,11,13,23,44,80]
noncomputable def u6 (ns:List Int):Int:=(J8 stepO (cellF ns 1 % 12)).getD 0
noncomputable def K5 (ns:List Int) (k:Int):Nat:=(J8 (listF (P9 ns)) ((cellF ns 0+k*u6 ns) % lenF (P9 ns))).getD 33
theorem wH(d:Bool):0<lenF d/\lenF d<=93:=by cases d <;> decide
theorem wI(ns:List Int):J8 (stepO.map V.int) (cellF ns 1 % 12)=some (.int (u6 ns))/\u6 ns∈stepO:=by
 obtain ⟨v,h1,h2⟩:=jH (xs:=stepO) (i:=cellF ns 1 % 12) (by walk_at "o") (by show _<((12:Nat):Int);walk_at "o");have e:u6 ns=v:=by unfold u6;rw [h1];rfl
 rw [e];refine ⟨?_,h2⟩;obtain ⟨u,h3,h4⟩:=jH (xs:=stepO.map V.int) (i:=cellF ns 1 % 12) (by walk_at "o") (by show _<((12:Nat):Int);walk_at "o");have ei:(((cellF ns 1 % 12).toNat:Nat):Int)=cellF ns 1 % 12:=by walk_at "o"
 have hi:(cellF ns 1 % 12).toNat<stepO.length:=by show _<12;walk_at "o"
 have a1:=O1 (xs:=stepO) (j:=(cellF ns 1 % 12).toNat) (v:=stepO[(cellF ns 1 % 12).toNat]) (K8 hi);rw [ei,h1] at a1;have a2:=O1 (xs:=stepO.map V.int) (j:=(cellF ns 1 % 12).toNat) (v:=V.int stepO[(cellF ns 1 % 12).toNat]) (by rw [V7,K8 hi];rfl);rw [ei] at a2;rw [a2,<- Option.some.inj a1]
theorem aoQ(ns:List Int):0<u6 ns/\u6 ns<=80:=by
 have:=(wI ns).2
 simp only [stepO,F9,lU,or_false] at this;walk_at "o"
theorem arA{l:List Nat}(nd:l.Nodup){i j:Int}(h0:0<=i)(h1:i<l.length)(h2:0<=j)(h3:j<l.length)(h:(J8 l i).getD 33=(J8 l j).getD 33):i=j:=by
 have li:i.toNat<l.length:=by walk_at "o"
 have lj:j.toNat<l.length:=by walk_at "o"
 have a1:J8 l i=some l[i.toNat]:=by
  have:=O1 (xs:=l) (j:=i.toNat) (v:=l[i.toNat]) (K8 li)
  rw [show ((i.toNat:Nat):Int)=i by walk_at "o"] at this;exact this
 have a2:J8 l j=some l[j.toNat]:=by
  have:=O1 (xs:=l) (j:=j.toNat) (v:=l[j.toNat]) (K8 lj)
  rw [show ((j.toNat:Nat):Int)=j by walk_at "o"] at this;exact this
 rw [a1,a2] at h
 have:=(cQ.mp nd)
 rw [eX] at this
 rcases lX i.toNat j.toNat with z | z | z
 ·exact absurd h (this _ _ li lj z)
 ·walk_at "o"
 ·exact absurd h.symm (this _ _ lj li z)
theorem ann(ns:List Int)(k:Int):J8 (listF (P9 ns)) ((cellF ns 0+k*u6 ns) % lenF (P9 ns))=some (K5 ns k)/\K5 ns k∈listF (P9 ns):=by
 have hp:=wH (P9 ns);obtain ⟨v,h1,h2⟩:=jH (xs:=listF (P9 ns)) (i:=(cellF ns 0+k*u6 ns) % lenF (P9 ns)) (i4 _ (by walk_at "o")) (by rw [rL];exact k9 _ hp.1);have e:K5 ns k=v:=by unfold K5;rw [h1];rfl
 rw [e];exact ⟨h1,h2⟩
theorem aiK(ns:List Int)(k:Int):signB (K5 ns k)=true/\(P9 ns=false->figO (K5 ns k)=false):=by
 have h:=(ann ns k).2;cases hd:P9 ns with
 | false=>
  rw [hd] at h
  have:=LA_ok _ h
  exact ⟨this.1,fun _=>this.2⟩
 | true=>
  rw [hd] at h;exact ⟨LB_ok _ h,fun z=>by cases z⟩
theorem ajx{m s t b k l:Int}(ht:s*t % m=1)(e:(b+k*s) % m=(b+l*s) % m)(h0:0<=k)(h1:k<m)(h2:0<=l)(h3:l<m):k=l:=by
 have d1:m ∣ (k-l)*s:=by
  have:=Int.dvd_of_emod_eq_zero (Int.emod_eq_emod_iff_emod_sub_eq_zero.mp e)
  rwa [show (b+k*s)-(b+l*s)=(k-l)*s by rw [Int.sub_mul];walk_at "o"] at this
 have d3:m ∣ (k-l)*(s*t):=by rw [<- Int.mul_assoc];exact Int.dvd_mul_of_dvd_left d1
 have d4:m ∣ s*t-1:=⟨s*t / m,by have:=Int.emod_add_mul_ediv (s*t) m;walk_at "o"⟩
 have d5:m ∣ (k-l)*(s*t-1):=Int.dvd_mul_of_dvd_right d4;have d6:=Int.dvd_sub d3 d5;rw [show (k-l)*(s*t)-(k-l)*(s*t-1)=k-l by rw [Int.mul_sub,Int.mul_one];walk_at "o"] at d6;have d7:=Int.emod_eq_emod_iff_emod_sub_eq_zero.mpr (Int.emod_eq_zero_of_dvd d6)
 rwa [Int.emod_eq_of_lt h0 h1,Int.emod_eq_of_lt h2 h3] at d7
theorem amM(d:Bool):∀ s∈stepO,∃ t∈(List.range 93).map Int.ofNat,s*t % lenF d=1:=by cases d <;> decide +kernel
theorem aoR{k l:Int}(h0:0<=k)(h1:k<83)(h2:0<=l)(h3:l<83)(h:K5 ns k=K5 ns l):k=l:=by
 have hp:=wH (P9 ns);have hq:83<=lenF (P9 ns):=by cases P9 ns <;> decide
 have nd:(listF (P9 ns)).Nodup:=by
  cases P9 ns
  ·exact LA_nd
  ·exact LB_nd
 have e:=arA nd (i4 _ (by walk_at "o")) (by rw [rL];exact k9 _ hp.1) (i4 _ (by walk_at "o")) (by rw [rL];exact k9 _ hp.1) h;obtain ⟨t,_,ht⟩:=amM (P9 ns) _ (wI ns).2;exact ajx ht e h0 (by walk_at "o") h2 (by walk_at "o")
noncomputable def spSgn (K:PySem.W.Frag):Sp:=fun vs H Q _=>∃ (a:Addr) (ns:List Int) (k:Int),vs=[.ref a,.int k]/\E2 K H a (ns.map V.int)/\0<=k/\∀ H',Same H H'->Q (.str (one (K5 ns k))) H'
end L2
set_option maxRecDepth 100000
namespace L2
open PySem PySem.Spec PyProof.Rows
open AutoSeq1 (wpAny_loadPart' idx_int)
noncomputable abbrev bareL (ys:Array Value) (k:Nat):Obj:=⟨.type "list",none,.seq ys k,#[]⟩
noncomputable abbrev anyT (dd:Option Addr) (ys:Array Value) (k:Nat) (ss:Array (Option Value)):Obj:=⟨.type "tuple",dd,.seq ys k,ss⟩
theorem aeZ{l:Addr}{ys zs:Array Value}{k2:Nat}{dd:Option Addr}(short:¬ (!ys.isEmpty&&Builtin.List.listTooLong (ys.size+zs.size))=true)(h1:ys.size<=sizeLine)(h2:ys.size+zs.size<=sizeLine+1) :
  Meets (Builtin.«list.extend» ⟨[.ref l,.ref b],[]⟩) (fun _ R s=>s.heap.get? l=some (bareL ys k)/\s.heap.get? b=some (anyT dd zs k2 ss)/\R (.ok (.ret .none)) { s with heap:=s.heap.update l (Obj.mapSeq (·++zs)),toks:=s.toks }):=by
 refine .of_wp fun _ _ _ R s ⟨gl,gb,fin⟩=>?_
 rcases s with ⟨hp,gens,dr,tk,sys⟩
 have c1:=idx_int;have c2:=AutoSeq1.sub_tuple_tuple;have c3:=AutoSeq1.sub_list_list;have c4:=AutoSeq1.sub_tuple_list;have c5:=AutoSeq1.sub_list_tuple;have room:(ys++zs).size<=sizeLine+1:=Array.size_append ▸ h2
 wp_walk using (wpAny_updateSeq gl rfl (hz:=h1) (_hz':=room)),wpAny_loadPart' gl,wpAny_loadPart' gb
 exact ⟨_,rfl,fin⟩
section
variable {X:Cx}
noncomputable def aiL (K:PySem.W.Frag):V->List V->Hp->VK->Prop:=fun x vs H Q=>∃ l b xs zs,x=.ref l/\vs=[.ref b]/\H l=some (.lst xs)/\C7 K H b zs/\xs.length+zs.length<=sizeLine/\Q .non (A0 H l (.lst (xs++zs)))
theorem ajy:mH X "list.extend" (aiL X.K):=by
 intro pins s σ H x vs v us Q I rx rv h;obtain ⟨l,b,xs,zs,rfl,rfl,hH,hB,hz,q⟩:=h
 cases rx
 obtain ⟨u,rfl,ru⟩:=rv.one
 cases ru
 obtain ⟨z,its,n,r,hl,e⟩:=I.lstM hH;obtain ⟨its2,r2,⟨⟨c,dct,dt,sl⟩,e2,hc,n2,hd⟩,T3⟩:=I.tuple hB
 replace hc:c=.type "tuple":=hc
 replace hd:dt=.seq its2.toArray n2:=hd
 subst hc hd;have q1:=r2.length;have hsz:its.toArray.size+its2.toArray.size<=sizeLine:=by rw [L5,L5];walk_at "o"
 have W7:¬ (!its.toArray.isEmpty&&Builtin.List.listTooLong (its.toArray.size+its2.toArray.size))=true:=by
  rw [uV hsz,Bool.and_false];exact N2
 refine call_meets F.slot_list_extend ⟨_,e,rfl⟩ F.entry_list_extend (F.args_list_extend_2 _ _)
  (aeZ (k:=n) (k2:=n2) (dd:=dct) (ss:=sl) W7 (by rw [L5];walk_at "o") (by walk_at "o")) ⟨e,e2,?_⟩
 refine ⟨.non,_,I.lset (its':=its++its2) hH e (by simp) (r.append r2) ?_,rfl,q⟩;rw [C5];walk_at "o"
theorem akV(hK:X.K=K:=by rfl):QMt X "list.extend" (aiL K):=by subst hK;exact ⟨fun pins s σ H x xs v us Q I rx rv h=>ajy pins s σ H x xs v us Q I rx rv h⟩
end
noncomputable def Itv (l : Addr) (n : Nat) : It :=
  ⟨fun i H => ∃ xs x, H l = some (.lst xs) /\ i<n /\ xs[n-1-i]? = some x,
   fun i H v H' => H' = H /\ ∀ xs, H l = some (.lst xs) -> xs[n-1-i]? = some v,
   fun i H => ∃ xs, H l = some (.lst xs) /\ n <= i⟩
section
variable {X:Cx}
noncomputable def iRev (ta:TA):TI:=fun σ H R=>ta σ H fun vs H1=>∃ (l:Addr) (xs:List V),vs=[.ref l]/\H1 l=some (.lst xs)/\R (Itv l xs.length) H1
end
theorem aoS{R:It->Hp->Prop} : iRev ta σ H R=ta σ H fun vs H1=>∃ (l:Addr) (xs:List V),vs=[.ref l]/\H1 l=some (.lst xs)/\R (Itv l xs.length) H1:=rfl
noncomputable abbrev dI (l:Addr):Obj:={ cls:=.type "list_iterator",data:=.fields #[.ref l,.int 0 0] }
noncomputable abbrev jP (it:Addr) (i:Int):Obj:={ cls:=.type "enumerate",data:=.fields #[.none,.bool false,.ref it,rawInt i,.none,.none] }
noncomputable abbrev anyL (dd:Option Addr) (ys:Array Value) (k:Nat) (ss:Array (Option Value)):Obj:=⟨.type "list",dd,.seq ys k,ss⟩
set_option maxHeartbeats 4000000 in
theorem afk{l:Addr}{ys:Array Value}{dd:Option Addr}{i:Int}{t:Tok}(fits:Builtin.SmallTypes.fitsIndex i=true) :
  Meets (Builtin.«enumerate.__new__» ⟨[.type "enumerate",.ref l],[("start",.int i t)]⟩) (fun _ R s=>s.heap.get? l=some (anyL dd ys k ss)/\
   R (.ok (.ret (.ref (s.heap.push (dI l)).objs.size))) { s with heap:=(s.heap.push (dI l)).push (jP s.heap.objs.size i) }):=by
 refine .of_wp fun _ _ _ R s ⟨gl,fin⟩=>?_
 rcases s with ⟨hp,gens,dr,tk,sys⟩
 have c1:=sub_enumerate;have isl:Heap.IsList (Shared.heap ⟨hp,gens,dr,tk,sys⟩) l ys:=⟨_,gl,rfl,k,rfl⟩
 wp_walk using wpAny_loadPart' gl
 refine wpAny_stack_any fun _=>wpAny_pure ?_
 split
 case h_1 c _ _ _ _ _=>
  generalize (c==Value.type "enumerate")=truth
  cases truth <;> (wp_walk using wpAny_loadPart' gl,wpAny_pyIter_list isl;exact ⟨_,rfl,fin⟩)
 case h_2=>(wp_walk using wpAny_loadPart' gl,wpAny_pyIter_list isl;exact ⟨_,rfl,fin⟩)
theorem ajz(a b:Value):checkTypeCall "enumerate" ⟨[a],[("start",b)]⟩=pure ():=by kernel_rfl
theorem akW(a b:Value):checkBuiltinCall "enumerate.__new__" ⟨[.type "enumerate",a],[("start",b)]⟩=pure ():=by kernel_rfl
theorem ajA(a b c:Value):argsOk "object.__init__" ⟨[a,b],[("start",c)]⟩:=by
 unfold argsOk;rw [signature?_of (id:="object.__init__") (n:="__init__".toList.reverse) (o:="object".toList.reverse) (by kernel_rfl) F.owner_object]
 kernel_rfl
theorem akX{self b c:Value} : Meets (Builtin.«object.__init__» ⟨[self,b],[("start",c)]⟩) (fun _ R s=>s.TypeIs self "enumerate"/\R (.ok (.ret .none)) s):=by
 have c1:=F.called_enumerate.init.lookup;have c2:=F.called_enumerate.made;refine .of_wp fun _ _ _ R s ⟨isT,fin⟩=>?_
 repeat (any_goals (first | assumption | wp_step))
 exact ⟨_,rfl,fin⟩
section
variable {prog:Program} {w:World} {A:Around} {E:Value->Shared->Prop} {s:Shared}
theorem ae0{l:Addr}{ys:Array Value}{i:Int}{t:Tok}{Q:Value->Shared->Prop}(isl:s.heap.IsList l ys)(fits:Builtin.SmallTypes.fitsIndex i=true)(fin:∀ h',IsEnum h' (s.heap.objs.size+1) s.heap.objs.size i .none->h'.IsListIter s.heap.objs.size l 0->(∀ b o,s.heap.get? b=some o->h'.get? b=some o)->Q (.ref (s.heap.objs.size+1)) { s with heap:=h' }) :
  wpAny (model prog w) A (call (.type "enumerate") [.ref l] [("start",.int i t)]) Q E s:=by
 obtain ⟨⟨c,dd,dt,ss⟩,gl,hc,k,hd⟩:=isl;obtain rfl:c=.type "list":=hc;obtain rfl:dt=.seq ys k:=hd;obtain ⟨hd0,tl,c1⟩:=F.called_enumerate.mro;have c2:=F.called_enumerate.made;have c3:=F.called_enumerate.sub;have c4:=F.called_enumerate.notType;have c5:=F.called_enumerate.canCreate;have c6:=F.called_enumerate.init.lookup;have c7:=ajz (.ref l) (.int i t);refine wpAny_call (codeAny_of_tree (show wpAny _ _ (callAny (.type "enumerate") _) _ _ _ from wpAny_pure ⟨Code.quiet_builtin _ (by decide +kernel),codeAny_builtin F.entry_type_call ?_⟩));rw [Around.under_plain (weight_type_call_type "enumerate" [.ref l] [("start",.int i t)]) (units_type_call_type "enumerate" [.ref l] [("start",.int i t)])]
 repeat (any_goals (first | assumption | wp_step))
 have z:(s.heap.push (dI l)).objs.size=s.heap.objs.size+1:=Heap.size_push ..;have made:IsEnum ((s.heap.push (dI l)).push (jP s.heap.objs.size i)) (s.heap.objs.size+1) s.heap.objs.size i .none:=by
  have g:=Heap.get?_push_size (s.heap.push (dI l)) (o:=jP s.heap.objs.size i) rfl;rw [z] at g;exact g
 have done:=fin _ made ⟨_,Heap.get?_push_of_some _ (Heap.get?_push_size _ rfl),rfl,rfl⟩ fun b o g=>Heap.get?_push_of_some _ (Heap.get?_push_of_some _ g)
 refine codeAny_mono (codeAny_call_builtin F.called_enumerate.plain F.entry_enumerate_new (wpAny_of_eq (akW _ _) (afk (dd:=dd) (k:=k) (ss:=ss) fits prog w A.in1 (wants (fun v s2=>v=.ref (s.heap.objs.size+1)/\s2={ s with heap:=(s.heap.push (dI l)).push (jP s.heap.objs.size i) }) E) s ⟨gl,?_,?_⟩))) ?_
 ·rw [z]
 ·rfl
 ·intro r s1 hr
  rcases r with e | fl
  ·exact hr
  ·cases fl with
   | ret v=>
    obtain ⟨rfl,rfl⟩:=hr;have isT:Shared.TypeIs { s with heap:=(s.heap.push (dI l)).push (jP s.heap.objs.size i) } (.ref (s.heap.objs.size+1)) "enumerate":=⟨_,made,rfl⟩
    have c8:=F.called_enumerate.init.bind (.ref (s.heap.objs.size+1))
    repeat (any_goals (first | assumption | wp_step))
    have ran:=akX (self:=.ref (s.heap.objs.size+1)) (b:=.ref l) (c:=.int i t) prog w A.in1 (wants (fun v s2=>v=.none/\s2={ s with heap:=(s.heap.push (dI l)).push (jP s.heap.objs.size i) }) E) _ ⟨isT,rfl,rfl⟩;refine codeAny_mono (codeAny_call_builtin F.called_enumerate.init.plain F.entry_object_init (F.called_enumerate.init.check _ _ _ _ _ _ _ _ isT (ajA _ _ _) ran)) fun r s2 hr=>?_
    rcases r with e | fl
    ·exact hr
    ·cases fl with
     | ret v=>
      obtain ⟨rfl,rfl⟩:=hr
      repeat (any_goals (first | assumption | wp_step))
     | next=>exact hr.elim
     | brk=>exact hr.elim
     | cont=>exact hr.elim
   | next=>exact hr.elim
   | brk=>exact hr.elim
   | cont=>exact hr.elim
end
theorem arB{w:World}(calm:A.handled=none){l:Addr}(apart:l≠it)(ys:Array Value) :
  Draws prog w A it [it,l] (ys.size+1) (fun i v=>1<=i/\ys[i-1]?=some v) (fun i h=>1<=i/\h.IsListIter it l (i-1)/\h.IsList l ys):=by
 have D:=Draws.list (prog:=prog) (w:=w) calm it l apart ys;refine ⟨fun i h st=>D.live (i-1) h st.2,fun i h h' st same=>⟨st.1,D.frame (i-1) h h' st.2 same⟩,fun i s Q E hi st fin=>?_,fun s Q E st fin=>D.done s Q E st.2 fin⟩;refine D.item (i-1) s Q E (by have:=st.1;walk_at "o") st.2 fun x h' tk px st' sb=>fin x h' tk ⟨st.1,px⟩ ⟨by walk_at "o",?_⟩ sb
 rw [show i+1-1=i-1+1 by have:=st.1;walk_at "o"];exact st'
theorem arC{w : World}(calm : A.handled = none){l: Addr}{ys : Array Value}(none : ys[i]? = none) :
    Draws prog w A it [it, l] (i+1) (fun _ _ => True) (fun k h => k = i+1 /\ h.IsListIter it l i /\ h.IsList l ys) :=
  ⟨fun _ _ st => let ⟨o, ho, _⟩ := st.2.1; ⟨o, ho⟩, fun _ _ _ st same => ⟨st.1, st.2.1.at fun o g => same it (by simp) o g, st.2.2.at fun o g => same l (by simp) o g⟩,
   fun k s Q E hk st => absurd st.1 (by walk_at "o"), fun s Q E st fin => wpAny_nextOf_list_end calm st.2.1 st.2.2 none fin⟩
noncomputable def Ite1 (l : Addr) : It :=
  ⟨fun i H => ∃ xs x, H l = some (.lst xs) /\ xs[i]? = some x,
   fun i H v H' => ∃ t xs x, H l = some (.lst xs) /\ xs[i]? = some x /\ H t = none /\ v = .ref t /\ H' = A0 H t (.tup [.int (i+1 : Nat), x]),
   fun i H => ∃ xs, H l = some (.lst xs) /\ xs.length <= i⟩
theorem ajB{P:Program}{w:World}{pos:Pos}(e it l:Addr)(L0:e≠it) :
  Turn P w K (.Tuple elts x1 pos) (Ite1 l) [e,it] e (fun i h=>(∃ old,IsEnum h e it ((i+1:Nat):Int) old)/\h.IsListIter it l i) where
 mem:=by simp
 obj:=fun i h ⟨⟨old,he⟩,hi⟩ c hc=>by
  have q:c=e\/c=it:=by simpa using hc
  rcases q with rfl | rfl
  ·exact ⟨_,he,fun v q=>by cases q⟩
  ·obtain ⟨o,e,c,d⟩:=hi;exact ⟨o,e,fun v z=>by rw [d] at z;cases z⟩
 keep:=fun i h h' ⟨⟨old,he⟩,hi⟩ k=>⟨⟨old,k e (by simp) _ he⟩,hi.at fun o q=>k it (by simp) o q⟩
 item:=by
  intro X hP hw hK hc i pins s σ H E I hf ⟨⟨old,he⟩,hi⟩ hg;subst hP hw hK;obtain ⟨xs,x,e1,hx⟩:=hg;obtain ⟨its1,g3,p1,_⟩:=I.list (E2.of (K:=X.K) e1);obtain ⟨u1,C4,r1⟩:=g3.get hx;have C9:i<its1.length:=(G1.mp C4).1;obtain ⟨ol,gl,cl,_⟩:=p1.isList;have nli:l≠it:=fun q=>by
   obtain ⟨oi,gi,ci,_⟩:=hi;rw [q,gi] at gl
   cases gl
   rw [ci] at cl;exact absurd cl (by decide)
  have nle:e≠l:=fun q=>by
   rw [<- q,he] at gl
   cases gl
   exact absurd (show Value.type "enumerate"=Value.type "list" from cl) (by decide)
  refine wpAny_pyNext_enum_itemD (i:=i+1) (arB (A:=X.A.in1) (show X.A.in1.handled=none from I.ok.hd hc) nli its1.toArray) he ⟨by walk_at "o",by simpa using hi,p1.isList⟩ (by simp;walk_at "o") L0 (by simp [L0,nle]) fun y h' tk py b1 b2 b3 b4 b5=>?_
  obtain rfl:u1=y:=by
   have:=py.2
   simp [C4] at this;exact this
  refine ⟨_,rfl,wpAny_letOwnedTupleGo_enum b1 fun h2' c1 c2=>?_⟩;have w8:e<s.heap.objs.size:=Heap.lt_size he;have up:∀ c o,c≠e->h'.get? c=some o->h2'.get? c=some o:=fun c o hc q=>(c2.2 c hc).trans q
  have hT:=up _ _ (Nat.ne_of_gt w8) b3;have nT:∀ c∈[e,it],c≠s.heap.objs.size:=fun c hc=>by
   have q:c=e\/c=it:=by simpa using hc
   refine O6 ?_
   rcases q with rfl | rfl
   ·exact w8
   ·obtain ⟨o,q,_⟩:=hi;exact Heap.lt_size q
  refine ⟨.ref s.heap.objs.size,A0 H s.heap.objs.size (.tup [.int (i+1:Nat),x]),I.turnNew (t':=tk+1) (ch:=[e,it]) hf (fun c u hc q=>?_) (C2 _) ⟨by show 2<=sizeLine;decide,[.int (i+1:Nat) tk,u1],.cons ⟨_,rfl⟩ (.cons r1 .nil),?_⟩,rfl,⟨_,xs,x,e1,hx,I.fresh,rfl,rfl⟩,
   ⟨⟨_,c1⟩,(show h'.IsListIter it l (i+1) by simpa using b2.2.1).at fun o q=>up _ o L0.symm q⟩,fun c hc=>by rw [B1 (nT c hc)];exact (hf c hc).1⟩
  ·have q1:c≠e/\c≠it:=⟨fun q=>hc (by simp [q]),fun q=>hc (by simp [q])⟩
   exact up c u q1.1 (b5 c u q1.1 q1.2 q)
  ·exact ⟨_,hT,rfl,_,rfl⟩
 done:=by
  intro X hP hw hK hc i pins s σ H E I hf ⟨⟨old,he⟩,hi⟩ hg;subst hP hw hK;obtain ⟨xs,e1,Z4⟩:=hg;obtain ⟨its1,g3,p1,_⟩:=I.list (E2.of (K:=X.K) e1);have q1:=g3.length;obtain ⟨f0,f1,f2,f3,f4,f5⟩:=hf it (by simp);exact wpAny_pyNext_enum_endD (arC (A:=X.A.in1) (show X.A.in1.handled=none from I.ok.hd hc) (ys:=its1.toArray) (i:=i) (by simp;walk_at "o")) he ⟨rfl,hi,p1.isList⟩ fun h' eb=>⟨rfl,I.turned (t':=s.toks) (fun b o hb q=>eb b o hb q) f0 f1 f3 f4 f5⟩
 self:=fun _ _ _ _ _ st h=>by
  obtain ⟨⟨old,he⟩,_⟩:=st;exact wpAny_pyIter_enum he h
theorem akY:bootBuiltins "enumerate"=some (.type "enumerate"):=by decide +kernel
section
variable {X:Cx}
noncomputable def wJ (ta:TA):TI:=fun σ H R=>ta σ H fun vs H1=>∃ (l:Addr) (xs:List V),vs=[.ref l]/\H1 l=some (.lst xs)/\R (Ite1 l) H1
theorem amN{a:Expr}{p pos:Pos}(hg:Gl X "enumerate")(hm:X.mg "enumerate"=none)(ha:PA X [a] ta)(h1:M5 a=false:=by rfl) :
  PI X (.Tuple elts x1 tpos) (.Call (.Name "enumerate" p) [a] [⟨some "start",.Constant (.int 1) ck cpos,kpos⟩] pos) (wJ ta):=by
 intro pins s σ H R I h;refine wpAny_Call_Name_kw (fJ I hg hm akY (PySem.W.callWith_of (P:=fun _=>True) ?_ (fun _ _=>⟨_,.inr (.inl rfl),PySem.W.Looks.of_pure rfl⟩) (PyProof.Rows.evalArgs_kw2 rfl (B5 (ha pos pins s σ H _ I h) fun us s1 ⟨vs,H1,I1,r1,q1⟩=>?_) (O7 h1))))
 ·rw [O7 h1];rfl
 have kw:PK X [⟨some "start",.Constant (.int 1) ck cpos,kpos⟩] (tCons (tC (.int 1)) tNil):=anX am6 aqJ;refine B5 (kw pos pins s1 σ H1 (fun zs H2=>zs=[.int 1]/\H2=H1) I1 ⟨rfl,rfl⟩) fun ws s2 ⟨zs,H2,I2,rz,e1,e2⟩=>⟨trivial,?_⟩
 subst e1 e2;obtain ⟨l,xs,rfl,e1,q⟩:=q1;obtain ⟨u1,rfl,oV⟩:=vals1 r1
 cases oV
 obtain ⟨u2,rfl,ru2⟩:=vals1 rz;obtain ⟨t,rfl⟩:=ru2;obtain ⟨its1,g3,p1,_⟩:=I2.list (E2.of (K:=X.K) e1);refine ae0 p1.isList (by decide) fun h' z1 z2 z4=>wpAny_pyIter_enum z1 ?_
 refine ⟨s2.heap.objs.size+1,[s2.heap.objs.size+1,s2.heap.objs.size],_,_,H2,rfl,I2.kept (t':=s2.toks) z4,ajB _ s2.heap.objs.size l (m6 (by walk_at "o")),⟨⟨_,z1⟩,z2⟩,fun b hb=>?_,q⟩;have Z5:s2.heap.objs.size<=b:=by
  have e:b=s2.heap.objs.size+1\/b=s2.heap.objs.size:=by simpa using hb
  rcases e with rfl | rfl
  ·exact z0 _ _
  ·exact C2 _
 exact I2.fpOk Z5 (I2.hok.fresh Z5)
theorem amO{a:Expr}{p pos:Pos}(hm:X.mg "enumerate"=none)(ha:QA X [a] ta)(hg:Gl X "enumerate":=by rfl)(h1:M5 a=false:=by rfl) :
  QI X (.Tuple elts x1 tpos) (.Call (.Name "enumerate" p) [a] [⟨some "start",.Constant (.int 1) ck cpos,kpos⟩] pos) (wJ ta):=⟨amN hg hm ha.out h1⟩
end
theorem ak0{R:It->Hp->Prop} : wJ ta σ H R=ta σ H fun vs H1=>∃ (l:Addr) (xs:List V),vs=[.ref l]/\H1 l=some (.lst xs)/\R (Ite1 l) H1:=rfl
theorem forE1{l:Addr}(Pv:Nat->St->Hp->Prop)(h0:Pv 0 σ H)(hl:∀ i σ H,Pv i σ H->H l=some (.lst xs))(hs:∀ i x t σ H,xs[i]?=some x->Pv i σ H->H t=none->g (.ref t) σ (A0 H t (.tup [.int (i+1:Nat),x])) fun σ2 H2=>tb { D with nx:=Pv (i+1),ct:=Pv (i+1),bk:=D.nx } σ2 H2)(hd:∀ σ H,Pv xs.length σ H->D.nx σ H):ForIt (Ite1 l) g tb D σ H:=by
 refine ⟨fun i m σ H=>m=xs.length-i/\i<=xs.length/\Pv i σ H,⟨xs.length,by simp,G2 _,h0⟩,?_⟩;rintro i m σ H ⟨rfl,hi,p⟩;have e1:=hl i σ H p
 by_cases C9:i<xs.length
 ·refine .inr ⟨⟨xs,xs[i],e1,by simp⟩,Pv (i+1),fun σ' H' p'=>⟨_,by walk_at "o",rfl,C9,p'⟩,fun v H' y=>?_⟩;obtain ⟨t,xs',x,f1,hx,ht,rfl,rfl⟩:=y;rw [e1] at f1;cases f1;exact hs i x t σ H hx p ht
 ·have e:i=xs.length:=by walk_at "o"
  subst e;exact .inl ⟨⟨xs,e1,by walk_at "o"⟩,hd σ H p⟩
end L2
set_option maxRecDepth 100000
namespace L2
open PySem PySem.Spec PyProof.Rows
noncomputable def wK:V->List V->Hp->VK->Prop:=fun x vs H Q=>∃ (l:Addr) (zs:List Int) (z:Int),x=.ref l/\vs=[.int z]/\H l=some (.lst (zs.map V.int))/\z∈zs/\Q .non (A0 H l (.lst ((zs.erase z).map V.int)))
theorem rM:∀ {vs:List Value} {zs:List Int},IntsAre vs zs->∀ {j:Nat} {z:Int},zs[j]?=some z->∃ t,vs[j]?=some (.int z t)
 | _,_,.nil,_,_,h=>by simp at h
 | _,_,.cons _ _ _,0,_,h=>by simp at h;subst h;exact ⟨_,rfl⟩
 | _,_,.cons _ _ r,j+1,z,h=>by
  obtain ⟨t,q⟩:=rM r (j:=j) (z:=z) (by simpa using h);exact ⟨t,by simpa using q⟩
theorem ajC : mH X "list.remove" wK:=by
 intro pins s σ H x vs v us Q I rx rv h;obtain ⟨l,zs,zz,rfl,rfl,hH,hm,q⟩:=h
 cases rx
 obtain ⟨u,rfl,ru⟩:=rv.one;obtain ⟨t,rfl⟩:=ru;obtain ⟨z,its,n,r,hl,e⟩:=I.lstM hH;have sa:=qT r;have hj:zs.idxOf zz<zs.length:=iM.mpr hm;rw [A6] at hl;have K6:∀ (j:Nat) (hj:j<its.toArray.size),∃ y t',zs[j]?=some y/\its.toArray[j]=.int y t':=fun j hj'=>by
  have hj2:j<zs.length:=by rw [hl];simpa using hj'
  obtain ⟨t',ht⟩:=rM sa (j:=j) (z:=zs[j]) (by simp);refine ⟨zs[j],t',by simp,?_⟩
  have:=(G1.mp ht).2
  simpa using this
 have hsz:zs.idxOf zz<its.toArray.size:=by rw [L5,<- hl];exact hj
 refine call_meets F.slot_list_remove ⟨_,e,rfl⟩ F.entry_list_remove (F.args_list_remove_2 _ _)
  (MeetsSeq.list_remove l its.toArray n (.int zz t) (isInt zz) (fun y hy=>eq_isInt zz t sa y (by simpa using hy)) (zs.idxOf zz) hsz ?_ (fun m o8 C9=>?_) (by rw [L5,<- hl];rw [A6] at z;exact z)) ⟨e,?_⟩
 ·obtain ⟨y,t',h1,h2⟩:=K6 _ hsz;rw [h2]
  have:y=zz:=by
   have:=lT hj
   rw [K8 hj,this] at h1;exact (Option.some.inj h1).symm
  subst this;simp [isInt]
 ·obtain ⟨y,t',h1,h2⟩:=K6 _ o8;rw [h2]
  have:y≠zz:=fun q=>by
   obtain ⟨h3,h4⟩:=G1.mp h1
   have:=List.not_of_lt_findIdx (show m<zs.findIdx (· == zz) from C9)
   rw [h4] at this;simp [q] at this
  simp [isInt,this]
 ·refine ⟨.non,_,I.lset (its':=its.eraseIdx (zs.idxOf zz)) hH e ?_ ?_ ?_,rfl,q⟩
  ·show its.toArray.eraseIdxIfInBounds (zs.idxOf zz)=_;rw [List.eraseIdxIfInBounds_toArray]
  ·rw [List.erase_eq_eraseIdx_of_idxOf (l:=zs) (a:=zz) (w:=rfl),agT];exact r.eraseIdx _
  ·rw [A6,List.length_erase_of_mem hm];rw [A6] at z;walk_at "o"
theorem ak1 : QMt X "list.remove" wK:=⟨fun pins s σ H x xs v us Q I rx rv h=>ajC pins s σ H x xs v us Q I rx rv h⟩
theorem arD{l:Addr}{zs:List Int}{z:Int}(h:H l=some (.lst (zs.map V.int)))(hm:z∈zs)(q:Q .non (A0 H l (.lst ((zs.erase z).map V.int)))):wK (.ref l) [.int z] H Q:=⟨l,zs,z,rfl,rfl,h,hm,q⟩
noncomputable def rMinL:List V->Hp->VK->Prop:=fun xs H Q=>∃ (p:Addr) (ns:List Int),xs=[.ref p]/\H p=some (.lst (ns.map V.int))/\ns≠[]/\∀ M:Int,M∈ns->(∀ a∈ns,M<=a)->Q (.int M) H
theorem ak2(hc:X.calm=true):CallR X (.builtin "min") rMinL:=by
 intro pins s σ H xs us Q I r h;obtain ⟨p,ns,rfl,hH,L0,q⟩:=h;obtain ⟨u,rfl,ru⟩:=vals1 r
 cases ru
 obtain ⟨z,its,n,rr,hl,e⟩:=I.lstM hH;have hi:=qT rr;have hL:s.heap.IsList p its.toArray:=⟨_,e,rfl,n,rfl⟩
 obtain ⟨ys,e2⟩:=hi.allInts.items;have eD:ns=ys.toList.map (·.1):=by rw [<- hi.numsOf,<- nums_intItems,<- e2]
 have hsz:0<ys.size:=by
  have h3:=lQ.mpr L0;rw [eD,A6,fI] at h3;exact h3
 rw [e2] at hL;refine min_intList (I.ok.hd hc) hL hsz fun v h' tk hv hk=>?_
 obtain ⟨t,rfl⟩:=intItems_at hv;obtain ⟨h1,h2⟩:=argBest_lt (numAt ys) (ys.size-1);refine ⟨.int _,H,I.kept hk,⟨t,rfl⟩,q _ ?_ fun a ha=>?_⟩
 ·rw [eD,numAt_eq];exact getD_mem (by rw [A6,fI];walk_at "o")
 ·rw [eD] at ha;obtain ⟨j,hj,rfl⟩:=mem_getD ha;rw [A6,fI] at hj;rw [<- numAt_eq];exact h2 j (by walk_at "o")
theorem arE(hc:X.calm=calm:=by rfl):QCall X (.builtin "min") (rCalm calm rMinL):=⟨fun pins s σ H xs us Q I r h=>ak2 (hc.trans h.1) pins s σ H xs us Q I r h.2⟩
theorem arF{p:Addr} : rMinL [.ref p] H Q=∃ ns:List Int,H p=some (.lst (ns.map V.int))/\ns≠[]/\∀ M:Int,M∈ns->(∀ a∈ns,M<=a)->Q (.int M) H:=
 propext ⟨fun ⟨_,ns,e,h⟩=>(by cases e;exact ⟨ns,h⟩),fun ⟨ns,h⟩=>⟨p,ns,rfl,h⟩⟩
noncomputable def jQ (n:Nat) (fr:St) (Pv:Nat->List V->Hp->Prop) (i:Nat) (ys:List V) (σ2:St) (H2:Hp):Prop:=i<=n/\ys.length<=i/\(∃ v w,σ2=v::w::fr)/\Pv i ys H2
theorem jQ.put{fr:St}{Pv:Nat->List V->Hp->Prop}{o o2:Option V}(hi:i<n)(hy:ys.length<=i)(p:Pv (i+1) (ys++[y]) H):jQ n fr Pv (i+1) (ys++[y]) (o::o2::fr) H:=
 ⟨hi,by rw [C5,N5];walk_at "o",⟨_,_,rfl⟩,p⟩
theorem compE{l:Addr}(fr:St)(W9:compStart 2 ixs σ=none::none::fr)(Pv:Addr->Nat->List V->Hp->Prop)(h0:∀ D,H1 D=none->Pv D 0 [] (A0 H1 D (.lst [])))(hl:∀ D i ys H,H1 D=none->i<=xs.length->Pv D i ys H->H l=some (.lst xs))(hs:∀ D i x t ys H,H1 D=none->i<xs.length->xs[i]?=some x->Pv D i ys H->H D=some (.lst ys)->ys.length<=i->H t=none->c (some (.int i)::some x::fr) (A0 H t (.tup [.int i,x])) fun b H4=>
   if b=true then te (some (.int i)::some x::fr) H4 fun y H5=>H5 D=some (.lst ys)/\ys.length<sizeLine/\jQ xs.length fr (Pv D) (i+1) (ys++[y]) (some (.int i)::some x::fr) (A0 H5 D (.lst (ys++[y])))
   else H4 D=some (.lst ys)/\jQ xs.length fr (Pv D) (i+1) ys (some (.int i)::some x::fr) H4)(hd:∀ D ys H,H1 D=none->Pv D xs.length ys H->H D=some (.lst ys)->ys.length<=xs.length->Q (.ref D) H):bF (mQ l) 2 ixs (gTup K 2 (gCons (gName 0) (gCons (gName 1) gNil))) c te σ Q H1:=by
 intro D hD;refine ⟨xs.length,jQ xs.length fr (Pv D),⟨G2 _,G2 _,⟨none,none,W9⟩,h0 D hD⟩,?_⟩;rintro i ys σ2 H2 ⟨hi,hy,⟨v,w,rfl⟩,p⟩ hDy;have q:=hl D i ys H2 hD hi p
 by_cases C9:i<xs.length
 ·refine .inr ⟨C9,⟨xs,xs[i],q,by simp [C9]⟩,fun x H' y=>?_⟩;obtain ⟨t,xs',x',f1,hx,ht,rfl,rfl⟩:=y;rw [q] at f1;cases f1;exact ⟨t,_,rfl,C7.of A5,rfl,_,_,rfl,_,_,rfl,rfl,hs D i x' t ys H2 hD C9 hx p hDy hy ht⟩
 ·have e:i=xs.length:=by walk_at "o"
  subst e;exact .inl ⟨⟨xs,q,C2 _⟩,hd D ys H2 hD p hDy hy⟩
end L2
set_option maxRecDepth 100000
namespace L2
open PySem PySem.Spec PyProof.Rows
section
variable {X:Cx} {o value:Expr} {to tv:TE} {pos tpos:Pos} {st:Stmt} {t:TS} {h₀:ExceptHandler} {hs:List ExceptHandler}
end
end L2
set_option maxRecDepth 100000
namespace L2
open PySem PySem.Spec PyProof.Rows
theorem ak3{o i:Expr}{pos:Pos}(ho:QE X o to)(hi:QE X i ti)(ha:∀ v,assign (.Subscript o i pos) X.env v=(do
   let ov <- holding [v] (eval o X.env)
   let iv <- holding [v,ov] (eval i X.env)
   standAt pos
   holding [v,ov,iv] (setItem ov iv v)
   release [v,ov,iv] []):=by intro _;rfl):QG X (.Subscript o i pos) (gSub to ti rSetL):=⟨aqo ho.out hi.out al4 ha⟩
theorem arG{p:Addr}{k:Int}{v:V}{Q:Hp->Prop} : rSetL (.ref p) (.int k) v H Q=∃ xs j,H p=some (.lst xs)/\i7 xs.length k=some j/\Q (A0 H p (.lst (xs.set j v))):=
 propext ⟨fun ⟨_,xs,_,j,e1,e2,h⟩=>(by cases e1;cases e2;exact ⟨xs,j,h⟩),fun ⟨xs,j,h⟩=>⟨p,xs,k,j,rfl,rfl,h⟩⟩
end L2
set_option maxRecDepth 100000
namespace L2
open PySem PySem.Spec PyProof.Rows
noncomputable def FS (ts bad:List Str) (z:Str->Prop) (fr:List Int):Prop:=fr.Nodup/\∀ n:Int,n∈fr↔∃ (m:Nat) (q:Str),n=(m:Int)/\ts[m]?=some q/\q∉bad/\z q
theorem FS.nil(z:Str->Prop):FS [] [] z []:=⟨by simp,fun n=>by simp⟩
theorem FS.snoc{z:Str->Prop}(h:FS ts bad z fr)(hi:i=ts.length)(hb:q∉bad):(z q->FS (ts++[q]) bad z (fr++[(i:Int)]))/\(¬ z q->FS (ts++[q]) bad z fr):=by
 have K2:∀ (m:Nat) (x:Str),(ts++[q])[m]?=some x↔(ts[m]?=some x\/(m=i/\x=q)):=fun m x=>by
  rcases lX m ts.length with hm | hm | hm
  ·rw [iL hm]
   constructor
   ·exact .inl
   ·rintro (h | ⟨h,_⟩)
    ·exact h
    ·walk_at "o"
  ·subst hm;rw [eW (C2 _),Nat.sub_self]
   have:ts[ts.length]?=none:=by simp
   rw [this];simp [hi,eq_comm]
  ·have h1:ts[m]?=none:=by simp;walk_at "o"
   have h2:(ts++[q])[m]?=none:=by simp;walk_at "o"
   rw [h1,h2]
   simp
   walk_at "o"
 have oJ:(i:Int)∉fr:=fun hm=>by
  obtain ⟨m,x,e,h1,_⟩:=(h.2 _).mp hm
  have:=(G1.mp h1).1
  walk_at "o"
 refine ⟨fun hz=>⟨?_,fun n=>?_⟩,fun hz=>⟨h.1,fun n=>?_⟩⟩
 ·rw [aT];refine ⟨h.1,by simp,fun x hx y hy e=>oJ ?_⟩;rw [<- E6.mp hy,<- e];exact hx
 ·rw [E1,h.2,E6]
  constructor
  ·rintro (⟨m,x,e,h1,h2,h3⟩ | rfl)
   ·exact ⟨m,x,e,(K2 m x).mpr (.inl h1),h2,h3⟩
   ·exact ⟨i,q,rfl,(K2 i q).mpr (.inr ⟨rfl,rfl⟩),hb,hz⟩
  ·rintro ⟨m,x,e,h1,h2,h3⟩
   rcases (K2 m x).mp h1 with h1 | ⟨rfl,rfl⟩
   ·exact .inl ⟨m,x,e,h1,h2,h3⟩
   ·exact .inr e
 ·rw [h.2]
  constructor
  ·rintro ⟨m,x,e,h1,h2,h3⟩;exact ⟨m,x,e,(K2 m x).mpr (.inl h1),h2,h3⟩
  ·rintro ⟨m,x,e,h1,h2,h3⟩
   rcases (K2 m x).mp h1 with h1 | ⟨rfl,rfl⟩
   ·exact ⟨m,x,e,h1,h2,h3⟩
   ·exact absurd h3 hz
theorem aiM(nd:ts.Nodup)(h1:ts[i]?=some q)(h2:ts[j]?=some q):i=j:=by
 obtain ⟨a1,b1⟩:=G1.mp h1;obtain ⟨a2,b2⟩:=G1.mp h2
 have:=cQ.mp nd
 rw [eX] at this
 rcases lX i j with hl | hl | hl
 ·exact absurd (b1.trans b2.symm) (this i j a1 a2 hl)
 ·exact hl
 ·exact absurd (b2.trans b1.symm) (this j i a2 a1 hl)
theorem FS.take{z:Str->Prop}(nd:ts.Nodup)(h:FS ts bad z fr){M:Nat}(hp:ts[M]?=some p):FS ts (bad++[p]) z (fr.erase (M:Int)):=by
 refine ⟨h.1.erase _,fun n=>?_⟩;rw [h.1.mem_erase_iff,h.2]
 constructor
 ·rintro ⟨L0,m,x,e,h1,h2,h3⟩;refine ⟨m,x,e,h1,fun hm=>?_,h3⟩
  rcases E1.mp hm with hm | hm
  ·exact h2 hm
  ·rw [E6.mp hm] at h1;exact L0 (by rw [e,aiM nd h1 hp])
 ·rintro ⟨m,x,e,h1,h2,h3⟩;refine ⟨fun e2=>h2 ?_,m,x,e,h1,fun hm=>h2 (R7 _ hm),h3⟩
  have:m=M:=by walk_at "o"
  subst this;rw [hp] at h1;cases h1
  simp
theorem FS.turn{z z':Str->Prop}(nd:ts.Nodup)(h:FS ts bad z fr){y:Str}(L0:∀ q,q≠y->(z' q↔z q))(hy:¬ z y)(hm:ts[m]?=some y)(hb:y∉bad):(z' y->FS ts bad z' (fr++[(m:Int)]))/\(¬ z' y->FS ts bad z' fr):=by
 have oJ:(m:Int)∉fr:=fun h1=>by
  obtain ⟨k,x,e,h2,_,h3⟩:=(h.2 _).mp h1
  have:k=m:=by walk_at "o"
  subst this;rw [hm] at h2;cases h2;exact hy h3
 have g4:∀ (k:Nat) (x:Str),ts[k]?=some x->x≠y\/(k=m/\x=y):=fun k x hk=>by
  by_cases e:x=y
  ·subst e;exact .inr ⟨aiM nd hk hm,rfl⟩
  ·exact .inl e
 refine ⟨fun hz=>⟨?_,fun n=>?_⟩,fun hz=>⟨h.1,fun n=>?_⟩⟩
 ·rw [aT];refine ⟨h.1,by simp,fun x hx w hw e=>oJ ?_⟩;rw [<- E6.mp hw,<- e];exact hx
 ·rw [E1,h.2,E6]
  constructor
  ·rintro (⟨k,x,e,h1,h2,h3⟩ | rfl)
   ·rcases g4 k x h1 with c | ⟨_,rfl⟩
    ·exact ⟨k,x,e,h1,h2,(L0 x c).mpr h3⟩
    ·exact absurd h3 hy
   ·exact ⟨m,y,rfl,hm,hb,hz⟩
  ·rintro ⟨k,x,e,h1,h2,h3⟩
   rcases g4 k x h1 with c | ⟨rfl,rfl⟩
   ·exact .inl ⟨k,x,e,h1,h2,(L0 x c).mp h3⟩
   ·exact .inr e
 ·rw [h.2]
  constructor
  ·rintro ⟨k,x,e,h1,h2,h3⟩
   rcases g4 k x h1 with c | ⟨_,rfl⟩
   ·exact ⟨k,x,e,h1,h2,(L0 x c).mpr h3⟩
   ·exact absurd h3 hy
  ·rintro ⟨k,x,e,h1,h2,h3⟩
   rcases g4 k x h1 with c | ⟨_,rfl⟩
   ·exact ⟨k,x,e,h1,h2,(L0 x c).mp h3⟩
   ·exact absurd h3 hz
theorem FS.congr{z z':Str->Prop}(h:FS ts bad z fr)(e:∀ q,z' q↔z q):FS ts bad z' fr:=⟨h.1,fun n=>by rw [h.2];exact ⟨fun ⟨m,x,a,b,c,d⟩=>⟨m,x,a,b,c,(e x).mpr d⟩,fun ⟨m,x,a,b,c,d⟩=>⟨m,x,a,b,c,(e x).mp d⟩⟩⟩
theorem ahP{E:List (Str×Str)}(h:FS ts line (fun q=>K1 E line q=0) fr){M:Int}(hM:M∈fr)(gZ:∀ a∈fr,M<=a):∃ (m:Nat) (p:Str),M=(m:Int)/\ts[m]?=some p/\nextP E ts line=some p:=by
 obtain ⟨m,p,e,h1,h2,h3⟩:=(h.2 M).mp hM;refine ⟨m,p,e,h1,?_⟩;rw [afI];obtain ⟨hm,rfl⟩:=G1.mp h1;have e1:ts=ts.take m++ts[m]::ts.drop (m+1):=by rw [<- y7 hm,T9]
 generalize hP:(fun p=>!decide (p∈line)&&decide (∀ e∈E,e.2=p->e.1∈line))=P;have hp:P ts[m]=true:=by
  rw [<- hP];simp only [T4,Bool.not_eq_true',decide_eq_false_iff_not,decide_eq_true_eq];exact ⟨h2,cnt_zero.mp h3⟩
 have pA:(ts.take m).find? P=none:=by
  rw [List.find?_eq_none];intro x hx hxP;obtain ⟨k,hk,rfl⟩:=Y9.mp hx;rw [E7] at hk;rw [List.getElem_take,<- hP] at hxP;simp only [T4,Bool.not_eq_true',decide_eq_false_iff_not,decide_eq_true_eq] at hxP
  have:=gZ (k:Int) ((h.2 _).mpr ⟨k,ts[k],rfl,by simp,hxP.1,cnt_zero.mpr hxP.2⟩)
  walk_at "o"
 conv=>lhs;rw [e1]
 rw [List.find?_append,pA,q9,hp];rfl
theorem amP{E:List (Str×Str)}(r:R0 E ts line)(h:q∈line):K1 E line q=0:=by
 obtain ⟨pre,post,rfl⟩:=List.append_of_mem h
 have:=(fV (r pre q post rfl)).2.2
 rw [cnt_zero] at this ⊢
 intro e he h2;exact R7 _ (this e he h2)
theorem ag3{f:Str->V} : ∀ {ts pre:List Str},(pre++ts).Nodup->Y1 (C1 pre f) (C1 ts f)=C1 (pre++ts) f
 | [],pre,_=>by rw [L1];rfl
 | t::ts,pre,h=>by
  have ht:t∉pre:=fun hm=>(aT.mp h).2.2 t hm t M4 rfl
  show Y1 (putK (C1 pre f) (Sum.inr t) (f t)) (C1 ts f)=_;rw [dH _ ht,show C1 (pre++[t]) (fun x=>if x=t then f t else f x)=C1 (pre++[t]) f from V4 fun x _=>by
   by_cases e:x=t
   ·rw [if_pos e,e]
   ·rw [if_neg e]]
  rw [ag3 (pre:=pre++[t]) (by simpa using h)]
  simp
theorem afK:∀ {l m:List Int},l.Nodup->(∀ x∈l,x∈m)->l.length<=m.length
 | [],_,_,_=>G2 _
 | x::l,m,nd,h=>by
  obtain ⟨n1,n2⟩:=U8.mp nd;have hx:=h x M4
  have:=afK (l:=l) (m:=m.erase x) n2 fun y hy=>(List.mem_erase_of_ne (fun e=>n1 (by rw [<- e];exact hy))).mpr (h y (M3 _ hy))
  rw [List.length_erase_of_mem hx] at this;have gY:=List.length_pos_of_mem hx;rw [K3];walk_at "o"
theorem aiN{f:Str->V} : ∀ {qs:List Addr} {ts:List Str},Paired (fun q t=>H q=some (.tup [.str t,f t])) qs ts->Paired (fun q (kx:C6×V)=>C7 K H q [kV kx.1,kx.2]) qs (C1 ts f)
 | _,_,.nil=>.nil
 | _,_,.cons h t=>.cons (.of h) (aiN t)
noncomputable def ano:Sp:=fun vs H Q _=>∃ (a:Addr) (rs:List Addr) (zss:List (List Str)),vs=[.ref a]/\IsRows H a rs zss/\zss.flatten.length<=100000/\
 ∀ l H',H l=none->Same H H'->H' l=some (.lst ((toldL zss).map V.str))->Q (.ref l) H'
noncomputable def jR:Sp:=fun vs H Q _=>∃ c,vs=[.str ⟨#[c]⟩]/\Q (.bl (figO c)) H
noncomputable def M0 (R:List Rl):List (Str×List Str):=R.filterMap fun z=>if z.1=("great" : Str) then z.2.head?.map fun y=>(y,z.2.drop 1) else none
noncomputable def F8 (R:List Rl):List Str:=G3 [] ((M0 R).map (·.1))
noncomputable def E4 (R:List Rl) (y:Str):List Str:=((M0 R).filter fun e=>decide (e.1=y)).flatMap (·.2)
theorem fY(A B:List Rl):M0 (A++B)=M0 A++M0 B:=by
 unfold M0;rw [List.filterMap_append]
theorem rN{R:List Rl}{z:Rl}(h:R[i]?=some z):M0 (R.take (i+1))=M0 (R.take i)++M0 [z]:=by
 rw [K7 h,fY]
theorem jS{z:Rl}(h:z.1≠("great" : Str)):M0 [z]=[]:=by
 unfold M0;rw [fA,if_neg h];rfl
theorem rO{y:Str}{fs:List Str} : M0 [(("great" : Str),y::fs)]=[(y,fs)]:=by
 unfold M0;rw [fA,if_pos rfl];rfl
theorem jT{A:List Rl}{y:Str}{fs:List Str}(x:Str):E4 (A++[(("great" : Str),y::fs)]) x=if x=y then E4 A x++fs else E4 A x:=by
 unfold E4;rw [fY,rO,cS,X4]
 by_cases h:x=y
 ·subst h;simp
 ·have:¬ (y=x):=fun e=>h e.symm
  simp [this,h]
theorem rP{A:List Rl}{y:Str}{fs:List Str} : F8 (A++[(("great" : Str),y::fs)])=dd (F8 A) y:=by
 unfold F8 G3;rw [fY,rO,D8,aU];rfl
noncomputable def aiO (K:PySem.W.Frag):Sp:=fun vs H Q _=>∃ (a:Addr) (ts:List Addr) (R:List Rl),vs=[.ref a]/\IsRules H a ts R/\(∀ z∈R,z.1=("great" : Str)->z.2≠[])/\R.length<=1000/\(∀ i y,(E4 (R.take i) y).length<=10000)/\
 ∀ d ad H',H d=none->Same H H'->H' d=some (.dK (C1 (F8 R) fun y=>.ref (ad y)))->DL H H' (F8 R) ad (E4 R)->Q (.ref d) H'
theorem wL(xs:List V)(h:i<=j):cutV xs (some (i:Int)) (some (j:Int))=(xs.drop i).take (j-i):=by
 unfold cutV;rw [HT.sIx_nat,HT.sIx_nat]
 by_cases hi:i<=xs.length
 ·rw [cV hi]
  by_cases hj:j<=xs.length
  ·rw [cV hj]
  ·rw [Nat.min_eq_right (by walk_at "o"),y8 (by rw [W2];exact C2 _),y8 (by rw [W2];walk_at "o")]
 ·rw [Nat.min_eq_right (by walk_at "o":xs.length<=i),lM (C2 _),lM (by walk_at "o"),List.take_nil,List.take_nil]
structure Used(ks:List Str)(g:Str->V)(z:Rl):Prop where
 gr:z.1=("great" : Str)->∀ p∈z.2.take 1,p∈ks/\g p=.str "letter"
 a1:z.1=("as" : Str)->∀ p∈(z.2.drop 1).take 1,p∈ks/\g p=.str "letter"
 a2:z.1=("as" : Str)->∀ p∈z.2.drop 2,p∈ks/\(g p=.str "letter"\/g p=.str "mark")
noncomputable def anp (K:PySem.W.Frag):Sp:=fun vs H Q _=>∃ (t d:Addr) (z:Rl) (ks:List Str) (g:Str->V),vs=[.ref t,.ref d]/\H t=some (tupR z)/\H d=some (.dK (C1 ks g))/\Used ks g z/\z.2.length<=1000/\∀ p H',H p=none->Same H H'->H' p=some (.lst [])->Q (.ref p) H'
noncomputable def aiP (K:PySem.W.Frag):Sp:=fun vs H Q _=>∃ (a d:Addr) (ts:List Addr) (R:List Rl) (ks:List Str) (g:Str->V),vs=[.ref a,.ref d]/\IsRules H a ts R/\H d=some (.dK (C1 ks g))/\(∀ z∈R,Used ks g z/\z.2.length<=1000)/\∀ H',Same H H'->Q .non H'
noncomputable abbrev Tr:=Int×Int×Int
noncomputable def tupT (s:Tr):HO:=.tup [.int s.1,.int s.2.1,.int s.2.2]
structure StepAt(H:Hp)(r:Addr)(ss:List Tr):Prop where
 ex:∃ ts:List Addr,H r=some (.tup (ts.map V.ref))/\Paired (fun t s=>H t=some (tupT s)) ts ss
theorem StepAt.same{ss:List Tr}(h:StepAt H r ss)(S:Same H H'):StepAt H' r ss:=
 let ⟨ts,h1,h2⟩:=h.ex
 ⟨ts,S _ _ h1,N0 h2 fun _ _ e=>S _ _ e⟩
theorem StepAt.put{d:Addr}{ss:List Tr}{o o':HO}(h:StepAt H r ss)(hd:H d=some o')(hn:∀ xs,o'≠.tup xs):StepAt (A0 H d o) r ss:=by
 obtain ⟨ts,h1,h2⟩:=h.ex;refine ⟨ts,?_,N0 h2 fun t s e=>?_⟩
 ·rw [B1 (fun e=>by rw [e,hd] at h1;exact hn _ (Option.some.inj h1))];exact h1
 ·rw [B1 (fun q=>by rw [q,hd] at e;exact hn _ (Option.some.inj e))];exact e
theorem StepAt.one{t:Addr}{s:Tr}(h1:H r=some (.tup [.ref t]))(h2:H t=some (tupT s)):StepAt H r [s]:=⟨[t],h1,.cons h2 .nil⟩
noncomputable def IsMade (H:Hp) (d:Addr) (ks:List Str) (F:Str->List Tr):Prop:=∃ ad:Str->Addr,H d=some (.dK (C1 ks fun y=>.ref (ad y)))/\∀ y∈ks,StepAt H (ad y) (F y)
theorem IsMade.same{d:Addr}{F:Str->List Tr}(h:IsMade H d ks F)(S:Same H H'):IsMade H' d ks F:=
 let ⟨ad,h1,h2⟩:=h
 ⟨ad,S _ _ h1,fun y hy=>(h2 y hy).same S⟩
theorem IsMade.put{d:Addr}{F:Str->List Tr}{ad:Str->Addr}(h1:H d=some (.dK (C1 ks fun y=>.ref (ad y))))(h2:∀ y∈ks,StepAt H (ad y) (F y)){l:Str}{p:Addr}(hp:StepAt H p (F l)) :
  IsMade (A0 H d (.dK (putK (C1 ks fun y=>.ref (ad y)) (Sum.inr l) (.ref p)))) d (dd ks l) F:=by
 refine ⟨fun y=>if y=l then p else ad y,?_,fun y hy=>?_⟩
 ·rw [A5];have e:∀ t,(if t=l then V.ref p else V.ref (ad t))=V.ref (if t=l then p else ad t):=fun t=>by
   by_cases h:t=l
   ·rw [if_pos h,if_pos h]
   ·rw [if_neg h,if_neg h]
  unfold dd
  by_cases hl:l∈ks
  ·rw [if_pos hl,mP _ hl];exact congrArg (fun x=>some (HO.dK x)) (V4 fun t _=>e t)
  ·rw [if_neg hl,dH _ hl];exact congrArg (fun x=>some (HO.dK x)) (V4 fun t _=>e t)
 ·by_cases h:y=l
  ·subst h;show StepAt _ (if y=y then p else ad y) _;rw [if_pos rfl];exact hp.put h1 (by intro xs e;cases e)
  ·show StepAt _ (if y=l then p else ad y) _;rw [if_neg h];refine (h2 y ?_).put h1 (by intro xs e;cases e);unfold dd at hy
   by_cases hl:l∈ks
   ·rw [if_pos hl] at hy;exact hy
   ·rw [if_neg hl] at hy
    rcases E1.mp hy with q | q
    ·exact q
    ·exact absurd (E6.mp q) h
structure StI(H H2:Hp)(d:Addr)(P:List Str)(F:Str->List Tr):Prop where
 same:Same H H2
 made:IsMade H2 d (G3 [] P) F
theorem wM(P:List Str)(x:Str):G3 [] (P++[x])=dd (G3 [] P) x:=by
 unfold G3;rw [aU];rfl
theorem StI.putX{d:Addr}{P:List Str}{F:Str->List Tr}(nd:H d=none)(h:StI H H2 d P F)(hP:P.length<100000){l:Str}{p:Addr}(hp:StepAt H2 p (F l)) :
  ∃ kvs o,H2 d=some (.dK kvs)/\DPut H2 d (V.str l) (V.ref p) (A0 H2 d o)/\StI H (A0 H2 d o) d (P++[l]) F:=by
 obtain ⟨ad,h1,h2⟩:=h.made;have hl:=dC P [];rw [b0,Nat.zero_add] at hl;refine ⟨_,_,h1,bD (k:=Sum.inr l) h1 (by rw [i9];exact G7 (by walk_at "o")),h.same.put nd,?_⟩;rw [wM];exact IsMade.put h1 h2 hp
theorem StI.put{d:Addr}{P:List Str}{F:Str->List Tr}(nd:H d=none)(h:StI H H2 d P F)(hP:P.length<100000){l:Str}{p:Addr}(hp:StepAt H2 p (F l)) :
  ∃ x,DPut H2 d (V.str l) (V.ref p) x/\StI H x d (P++[l]) F:=
 let ⟨_,_,_,h1,h2⟩:=h.putX nd hP hp
 ⟨_,h1,h2⟩
theorem StI.more{d:Addr}{P:List Str}{F:Str->List Tr}(h:StI H H2 d P F)(S:Same H2 H3):StI H H3 d P F:=⟨h.same.trans S,h.made.same S⟩
theorem StI.frz{d:Addr}{P:List Str}{F:Str->List Tr}{o:HO}(h:StI H H2 d P F)(hf:H2 f=some (.dK kvs))(n:H f=none)(nf:f≠d):StI H (A0 H2 f o) d P F:=
 let ⟨ad,h1,h2⟩:=h.made
 ⟨h.same.put n,ad,by rw [B1 nf.symm];exact h1,fun y hy=>(h2 y hy).put hf (by intro xs e;cases e)⟩
theorem StI.thaw{d:Addr}{P:List Str}{F:Str->List Tr}{q:Obj}{o o':HO}(h:StI H H2 d P F)(hf:H2 f=some (.frz q o'))(n:H f=none)(nf:f≠d):StI H (A0 H2 f o) d P F:=
 let ⟨ad,h1,h2⟩:=h.made
 ⟨h.same.put n,ad,by rw [B1 nf.symm];exact h1,fun y hy=>(h2 y hy).put hf (by intro xs e;cases e)⟩
structure FoI(H H2:Hp)(d f:Addr)(o:Obj)(ts:List Str)(af:Str->Addr)(G:Str->List Str)(P:List Str)(F:Str->List Tr):Prop where
 frz:H2 f=some (.frz o (.dK (C1 ts fun y=>.ref (af y))))
 rows:∀ y∈ts,H2 (af y)=some (.lst ((G y).map V.str))
 st:StI H H2 d P F
theorem FoI.more{d:Addr}{af:Str->Addr}{G:Str->List Str}{P:List Str}{F:Str->List Tr}(h:FoI H H2 d f o ts af G P F)(S:Same H2 H3):FoI H H3 d f o ts af G P F:=⟨S _ _ h.frz,fun y hy=>S _ _ (h.rows y hy),h.st.more S⟩
theorem FoI.put{d:Addr}{af:Str->Addr}{G:Str->List Str}{P:List Str}{F:Str->List Tr}(nd:H d=none)(h:FoI H H2 d f o ts af G P F)(hP:P.length<100000){l:Str}{p:Addr}(hp:StepAt H2 p (F l)) :
  ∃ x,DPut H2 d (V.str l) (V.ref p) x/\FoI H x d f o ts af G (P++[l]) F:=by
 obtain ⟨kvs,o',h0,h1,h2⟩:=h.st.putX nd hP hp;refine ⟨_,h1,?_,fun y hy=>?_,h2⟩
 ·rw [B1 (fun e=>by have:=h.frz;rw [e,h0] at this;cases this)];exact h.frz
 ·rw [B1 (fun e=>by have:=h.rows y hy;rw [e,h0] at this;cases this)];exact h.rows y hy
theorem StI.putL{d:Addr}{P:List Str}{F:Str->List Tr}{o:HO}(h:StI H H2 d P F)(hf:H2 f=some (.lst xs))(n:H f=none):StI H (A0 H2 f o) d P F:=
 let ⟨ad,h1,h2⟩:=h.made
 ⟨h.same.put n,ad,by rw [B1 (fun e=>by rw [e,hf] at h1;cases h1)];exact h1,fun y hy=>(h2 y hy).put hf (by intro xs e;cases e)⟩
structure AsI(H H7 H2:Hp)(d:Addr)(P:List Str)(F:Str->List Tr)(ts:List Addr)(ss:List Tr):Prop where
 st:StI H H2 d P F
 pr:Paired (fun t s=>H2 t=some (tupT s)) ts ss
 sm:Same H7 H2
theorem AsI.putL{H7:Hp}{d:Addr}{P:List Str}{F:Str->List Tr}{ts:List Addr}{ss:List Tr}{o:HO}(h:AsI H H7 H2 d P F ts ss)(hf:H2 f=some (.lst xs))(n:H f=none)(n7:H7 f=none):AsI H H7 (A0 H2 f o) d P F ts ss:=
 ⟨h.st.putL hf n,N0 h.pr fun t s e=>by rw [B1 (fun q=>by rw [q,hf] at e;cases e)];exact e,h.sm.put n7⟩
noncomputable def asKs (R:List Rl):List Str:=R.filterMap fun z=>if z.1=("as" : Str) then z.2.head? else none
theorem rQ{R:List Rl}{z:Rl}(h:R[i]?=some z):asKs (R.take (i+1))=asKs (R.take i)++asKs [z]:=by
 rw [K7 h];unfold asKs;rw [List.filterMap_append]
theorem wN{z:Rl}(h:z.1≠("as" : Str)):asKs [z]=[]:=by
 unfold asKs;rw [fA,if_neg h];rfl
theorem wO{y:Str}{fs:List Str} : asKs [(("as" : Str),y::fs)]=[y]:=by
 unfold asKs;rw [fA,if_pos rfl];rfl
theorem wP(R:List Rl):(asKs R).length<=R.length:=List.length_filterMap_le _ _
structure Made(R:List Rl)(L M:List Str)(F:Str->List Tr):Prop where
 lt:∀ (i:Nat) y,L[i]?=some y->F y=[(2,(i:Int),0)]
 mr:∀ (i:Nat) y,M[i]?=some y->F y=[(0,(i:Int),0)]
 gl:∀ y∈F8 R,y∈L
 gr:∀ y∈F8 R,∀ (c:Nat) f,(E4 R y)[c]?=some f->F f=[(2,(L.idxOf y:Int),((c+1:Nat):Int))]
 ne:∀ z∈R,z.1=("as" : Str)\/z.1=("great" : Str)->z.2≠[]
 pt:∀ z∈R,z.1=("as" : Str)->∀ q∈z.2.drop 1,q∈L\/q∈M
 as:∀ z∈R,z.1=("as" : Str)->∀ p qs,z.2=p::qs->F p=qs.map fun q=>(F q).headD (0,0,0)
noncomputable def allKs (R:List Rl) (L M:List Str):List Str:=L++M++(F8 R).flatMap (E4 R)++asKs R
theorem Made.base{R:List Rl}{F:Str->List Tr}(m:Made R L M F)(h:q∈L\/q∈M):∃ s,F q=[s]:=by
 rcases h with h | h
 ·obtain ⟨i,hi,e⟩:=Y9.mp h;exact ⟨_,m.lt i q (by rw [K8 hi,e])⟩
 ·obtain ⟨i,hi,e⟩:=Y9.mp h;exact ⟨_,m.mr i q (by rw [K8 hi,e])⟩
theorem Made.letter{R:List Rl}{F:Str->List Tr}(m:Made R L M F)(h:q∈L):F q=[(2,(L.idxOf q:Int),0)]:=by
 have hi:=iM.mpr h;exact m.lt (L.idxOf q) q (by rw [K8 hi,lT])
noncomputable def aiQ (K:PySem.W.Frag):Sp:=fun vs H Q _=>∃ (a b c:Addr) (ts:List Addr) (R:List Rl) (L M:List Str) (F:Str->List Tr),vs=[.ref a,.ref b,.ref c]/\IsRules H a ts R/\Made R L M F/\H b=some (.lst (L.map V.str))/\H c=some (.lst (M.map V.str))/\(∀ z∈R,z.2.length<=1000)/\R.length<=1000/\(∀ i y,(E4 (R.take i) y).length<=10000)/\(allKs R L M).length<=50000/\
 ∀ d H',H d=none->Same H H'->IsMade H' d (G3 [] (allKs R L M)) F->Q (.ref d) H'
noncomputable def baseT (L M:List Str) (q:Str):Tr:=if q∈L then (2,(L.idxOf q:Int),0) else (0,(M.idxOf q:Int),0)
noncomputable def mT (L M:List Str) (R:List Rl):List (Str×List Tr):=R.filterMap fun z=>if z.1=("as" : Str) then z.2.head?.map fun p=>(p,(z.2.drop 1).map (baseT L M)) else none
noncomputable def putsL (R:List Rl) (L M:List Str):List (Str×List Tr):=
 (L.zipIdx.map fun e=>(e.1,[((2:Int),(e.2:Int),(0:Int))]))++(M.zipIdx.map fun e=>(e.1,[((0:Int),(e.2:Int),(0:Int))]))++((F8 R).flatMap fun y=>(E4 R y).zipIdx.map fun e=>(e.1,[((2:Int),(L.idxOf y:Int),((e.2+1:Nat):Int))]))++mT L M R
noncomputable def stepF (R:List Rl) (L M:List Str) (p:Str):List Tr:=((putsL R L M).lookup p).getD []
theorem ak4{s:List Tr} : ∀ {l:List (Str×List Tr)},(l.map (·.1)).Nodup->(p,s)∈l->l.lookup p=some s
 | [],_,h=>by cases h
 | (y,t)::l,nd,h=>by
  rw [K4,U8] at nd;rw [List.lookup_cons]
  rcases F9.mp h with h | h
  ·obtain ⟨rfl,rfl⟩:=Prod.mk.inj h
   simp
  ·have:p≠y:=fun e=>nd.1 (D3.mpr ⟨_,h,e⟩)
   have e:(p==y)=false:=by simpa using this
   rw [e];exact ak4 nd.2 h
theorem ag5(R:List Rl)(L M:List Str):(putsL R L M).map (·.1)=allKs R L M:=by
 have z:∀ (l:List Str) (f:Nat->List Tr),(l.zipIdx.map fun e=>(e.1,f e.2)).map (·.1)=l:=fun l f=>by
  rw [X7];exact List.zipIdx_map_fst 0 l
 have a:(mT L M R).map (·.1)=asKs R:=by
  unfold mT asKs;rw [List.map_filterMap]
  congr 1
  funext z
  by_cases h:z.1=("as" : Str)
  ·rw [if_pos h,if_pos h]
   cases z.2 <;> rfl
  ·rw [if_neg h,if_neg h];rfl
 unfold putsL allKs;rw [D8,D8,D8,z L fun i=>[(2,(i:Int),0)],z M fun i=>[(0,(i:Int),0)],a,List.map_flatMap]
 congr 2
 congr 1
 funext y
 exact z (E4 R y) fun i=>[(2,(L.idxOf y:Int),((i+1:Nat):Int))]
theorem jU{R:List Rl}(nd:(allKs R L M).Nodup){s:List Tr}(h:(p,s)∈putsL R L M):stepF R L M p=s:=by
 unfold stepF;rw [ak4 (by rw [ag5];exact nd) h];rfl
theorem aoT{R:List Rl}(nd:(allKs R L M).Nodup)(gl:∀ y∈F8 R,y∈L)(ne:∀ z∈R,z.1=("as" : Str)\/z.1=("great" : Str)->z.2≠[])(pt:∀ z∈R,z.1=("as" : Str)->∀ q∈z.2.drop 1,q∈L\/q∈M):Made R L M (stepF R L M):=by
 have m1:∀ (i:Nat) y,L[i]?=some y->(y,[((2:Int),(i:Int),(0:Int))])∈putsL R L M:=fun i y h=>by
  refine R7 _ (R7 _ (R7 _ (D3.mpr ⟨(y,i),?_,rfl⟩)));rw [List.mem_zipIdx_iff_getElem?];exact h
 have m2:∀ (i:Nat) y,M[i]?=some y->(y,[((0:Int),(i:Int),(0:Int))])∈putsL R L M:=fun i y h=>by
  refine R7 _ (R7 _ (U0 _ (D3.mpr ⟨(y,i),?_,rfl⟩)));rw [List.mem_zipIdx_iff_getElem?];exact h
 have hb:∀ q,q∈L\/q∈M->stepF R L M q=[baseT L M q]:=fun q hq=>by
  unfold baseT
  by_cases h:q∈L
  ·rw [if_pos h];have hi:=iM.mpr h;exact jU nd (m1 (L.idxOf q) q (by rw [K8 hi,lT]))
  ·rw [if_neg h];have hm:=hq.resolve_left h;have hi:=iM.mpr hm;exact jU nd (m2 (M.idxOf q) q (by rw [K8 hi,lT]))
 refine ⟨fun i y h=>jU nd (m1 i y h),fun i y h=>jU nd (m2 i y h),gl,fun y hy c f h=>jU nd ?_,ne,pt,fun z hz e p qs ez=>?_⟩
 ·refine R7 _ (U0 _ (X5.mpr ⟨y,hy,D3.mpr ⟨(f,c),?_,rfl⟩⟩));rw [List.mem_zipIdx_iff_getElem?];exact h
 ·have:(p,qs.map (baseT L M))∈putsL R L M:=U0 _ (fB.mpr ⟨z,hz,by rw [if_pos e,ez];rfl⟩)
  rw [jU nd this];refine iO fun q hq=>?_
  rw [hb q (pt z hz e q (by rw [ez];exact hq))];rfl
theorem aoU{g:Str->Str}{PL:List (Str×Str)}(nc:NC fg g PL):PL.Pairwise fun a b=>a.1=b.1->b.2∈mS:=by
 rw [eX];intro i j hi hj hij e;refine (nc j PL[j].1 PL[j].2 (by rw [K8 hj])).2.1 ?_;rw [<- e];refine D3.mpr ⟨PL[i],?_,rfl⟩;rw [qF];exact ⟨i,by walk_at "o",rfl⟩
theorem fZ{g:Str->Str}{PL:List (Str×Str)}(nc:NC fg g PL){j:Str}(h:(p,j)∈PL):g p=j:=by
 obtain ⟨i,hi,e⟩:=Y9.mp h;exact (nc i p j (by rw [K8 hi,e])).1.symm
theorem ak5{g:Str->Str}{PL:List (Str×Str)}(nc:NC fg g PL){j:Str}(hj:j∉mS):((PL.filter fun e=>decide (e.2=j)).map (·.1)).Nodup:=by
 rw [cQ,List.pairwise_map];refine List.Pairwise.imp_of_mem ?_ ((aoU nc).filter _);intro a b _ hb h e
 have:=h e
 have tM:b.2=j:=by simpa using (Q0.mp hb).2
 rw [tM] at this;exact hj this
theorem mU{w:Str}(h:fW w):(jobD w=("great" : Str)↔w="great")/\(jobD w=("as" : Str)↔w="as")/\(jobD w=("letter" : Str)↔w="row")/\(jobD w=("mark" : Str)↔w="marks")/\(jobD w=("over" : Str)↔w="over"):=by
 rcases h with rfl | rfl | rfl | rfl | rfl <;> decide +kernel
theorem mem_pairs{R:List Rl}{j:Str} : (p,j)∈C8 R↔∃ z∈R,p∈M7 z/\jobD z.1=j:=by
 unfold C8;rw [X5]
 constructor
 ·rintro ⟨z,hz,h⟩;obtain ⟨q,hq,e⟩:=D3.mp h;obtain ⟨rfl,rfl⟩:=Prod.mk.inj e;exact ⟨z,hz,hq,rfl⟩
 ·rintro ⟨z,hz,hp,rfl⟩;exact ⟨z,hz,D3.mpr ⟨p,hp,rfl⟩⟩
theorem rR(z:Rl)(R:List Rl):C8 (z::R)=((M7 z).map fun p=>(p,jobD z.1))++C8 R:=by
 unfold C8;rw [U1]
theorem V5{z:Rl} : (z.1=("great" : Str)->M7 z=z.2.drop 1)/\(z.1=("as" : Str)->M7 z=z.2.take 1)/\(z.1=("row" : Str)\/z.1=("marks" : Str)\/z.1=("over" : Str)->M7 z=z.2):=by
 unfold M7;refine ⟨fun h=>by rw [if_pos h],fun h=>?_,fun h=>?_⟩
 ·rw [if_neg (by rw [h];decide +kernel),if_pos h]
 ·rw [if_neg,if_neg,if_pos h]
  ·rcases h with h | h | h <;> rw [h] <;> decide +kernel
  ·rcases h with h | h | h <;> rw [h] <;> decide +kernel
theorem aE:∀ R:List Rl,((C8 R).filter fun e=>decide (e.2=("great" : Str))).map (·.1)=(M0 R).flatMap (·.2)
 | []=>rfl
 | z::R=>by
  rw [rR,cS,D8,aE R];have e:M0 (z::R)=M0 [z]++M0 R:=fY [z] R;rw [e,X4]
  congr 1
  by_cases h:z.1=("great" : Str)
  ·obtain ⟨w,ps⟩:=z;obtain rfl:w=("great" : Str):=h;rw [V5.1 rfl,lS.mpr,X7]
   ·cases ps with
    | nil=>simp [M0]
    | cons y fs=>
     rw [rO];show List.map _ fs=_;simp [Function.comp_def]
   ·intro a ha;obtain ⟨q,_,rfl⟩:=D3.mp ha;exact decide_eq_true (show jobD "great"=("great" : Str) by decide +kernel)
  ·rw [jS h,lL.mpr]
   ·rfl
   ·intro a ha;obtain ⟨q,hq,rfl⟩:=D3.mp ha
    have:=(mU (fX hq)).1
    simp only [decide_eq_true_eq];exact fun e=>h (this.mp e)
theorem gB:∀ R:List Rl,((C8 R).filter fun e=>decide (e.2=("as" : Str))).map (·.1)=asKs R
 | []=>rfl
 | z::R=>by
  rw [rR,cS,D8,gB R];have e:asKs (z::R)=asKs [z]++asKs R:=by unfold asKs;rw [<- List.filterMap_append];rfl
  rw [e]
  congr 1
  by_cases h:z.1=("as" : Str)
  ·obtain ⟨w,ps⟩:=z;obtain rfl:w=("as" : Str):=h;rw [V5.2.1 rfl,lS.mpr,X7]
   ·cases ps with
    | nil=>simp [asKs]
    | cons y fs=>
     rw [wO];rfl
   ·intro a ha;obtain ⟨q,_,rfl⟩:=D3.mp ha;exact decide_eq_true (show jobD "as"=("as" : Str) by decide +kernel)
  ·rw [wN h,lL.mpr]
   ·rfl
   ·intro a ha;obtain ⟨q,hq,rfl⟩:=D3.mp ha
    have:=(mU (fX hq)).2.1
    simp only [decide_eq_true_eq];exact fun e=>h (this.mp e)
theorem mem_rowsW{R:List Rl}{w:Str} : p∈(rowsW R w).flatten↔∃ z∈R,z.1=w/\p∈z.2:=by
 unfold rowsW;rw [List.mem_flatten]
 constructor
 ·rintro ⟨l,hl,hp⟩;obtain ⟨z,hz,rfl⟩:=D3.mp hl;obtain ⟨h1,h2⟩:=Q0.mp hz;exact ⟨z,h1,by simpa using h2,hp⟩
 ·rintro ⟨z,hz,e,hp⟩;exact ⟨z.2,D3.mpr ⟨z,Q0.mpr ⟨hz,by simpa using e⟩,rfl⟩,hp⟩
theorem mem_letter{R:List Rl} : (p,("letter" : Str))∈C8 R↔p∈(rowsW R "row").flatten:=by
 rw [mem_pairs,mem_rowsW]
 constructor
 ·rintro ⟨z,hz,hp,e⟩
  have:=(mU (fX hp)).2.2.1.mp e
  exact ⟨z,hz,this,by rw [V5.2.2 (.inl this)] at hp;exact hp⟩
 ·rintro ⟨z,hz,e,hp⟩;exact ⟨z,hz,by rw [V5.2.2 (.inl e)];exact hp,by rw [e];decide +kernel⟩
theorem mem_mark{R:List Rl} : (p,("mark" : Str))∈C8 R↔p∈(rowsW R "marks").flatten:=by
 rw [mem_pairs,mem_rowsW]
 constructor
 ·rintro ⟨z,hz,hp,e⟩
  have:=(mU (fX hp)).2.2.2.1.mp e
  exact ⟨z,hz,this,by rw [V5.2.2 (.inr (.inl this))] at hp;exact hp⟩
 ·rintro ⟨z,hz,e,hp⟩;exact ⟨z,hz,by rw [V5.2.2 (.inr (.inl e))];exact hp,by rw [e];decide +kernel⟩
theorem wQ{zss:List (List Str)} : p∈toldL zss↔p∈zss.flatten:=by
 unfold toldL;rw [rB,j0]
 simp
theorem m8{R:List Rl}{w:Str}(h:R1 R w L) : p∈L↔p∈(rowsW R w).flatten:=by
 rw [<- wQ];exact ⟨h.1.sub,h.2 p⟩
structure GoodR(g:Str->Str)(r1 r2:Str->Nat)(R:List Rl):Prop where
 len:R.length<=1000
 plen:(C8 R).length<=10000
 nc:NC (hasW R "figures") g (C8 R)
 nb:(" " : Str)∉(C8 R).map (·.1)
 zl:∀ z∈R,z.2.length<=1000
 ne:∀ z∈R,z.1=("as" : Str)\/z.1=("great" : Str)->z.2≠[]
 gl:∀ z∈R,z.1=("great" : Str)->∀ p∈z.2.take 1,(p,("letter" : Str))∈C8 R
 al:∀ z∈R,z.1=("as" : Str)->∀ p∈(z.2.drop 1).take 1,(p,("letter" : Str))∈C8 R
 am:∀ z∈R,z.1=("as" : Str)->∀ p∈z.2.drop 2,(p,("letter" : Str))∈C8 R\/(p,("mark" : Str))∈C8 R
 f1:(rowsW R "row").flatten.length<=10000
 f2:(rowsW R "marks").flatten.length<=10000
 a1:∀ e∈edges (rowsW R "row"),r1 e.1<r1 e.2
 a2:∀ e∈edges (rowsW R "marks"),r2 e.1<r2 e.2
theorem GoodR.job{g:Str->Str}{r1 r2:Str->Nat}{R:List Rl}(h:GoodR g r1 r2 R){j:Str}(hp:(p,j)∈C8 R):p∈keysP (C8 R)++W4 R/\jobG g p=.str j:=by
 have hm:p∈(C8 R).map (·.1):=D3.mpr ⟨_,hp,rfl⟩;refine ⟨R7 _ ((jN _ _).mpr hm),?_⟩;unfold jobG;rw [if_neg (fun e=>h.nb (by rw [<- e];exact hm)),fZ h.nc hp]
theorem GoodR.used{g:Str->Str}{r1 r2:Str->Nat}{R:List Rl}(h:GoodR g r1 r2 R){z:Rl}(hz:z∈R):Used (keysP (C8 R)++W4 R) (jobG g) z:=
 ⟨fun e p hp=>h.job (h.gl z hz e p hp),fun e p hp=>h.job (h.al z hz e p hp),fun e p hp=>(h.am z hz e p hp).elim (fun q=>⟨(h.job q).1,.inl (h.job q).2⟩) fun q=>⟨(h.job q).1,.inr (h.job q).2⟩⟩
theorem forms_mem{R:List Rl}{y f:Str} : f∈E4 R y↔∃ e∈M0 R,e.1=y/\f∈e.2:=by
 unfold E4;rw [X5]
 constructor
 ·rintro ⟨e,he,hf⟩;obtain ⟨h1,h2⟩:=Q0.mp he;exact ⟨e,h1,by simpa using h2,hf⟩
 ·rintro ⟨e,he,h,hf⟩;exact ⟨e,Q0.mpr ⟨he,by simpa using h⟩,hf⟩
theorem mem_formKs{R:List Rl}{y:Str} : y∈F8 R↔∃ e∈M0 R,e.1=y:=by
 unfold F8;rw [j0,D3]
 simp
theorem anq{g:Str->Str}{r1 r2:Str->Nat}{R:List Rl}(h:GoodR g r1 r2 R)(hL:R1 R "row" L)(hM:R1 R "marks" M):(allKs R L M).Nodup:=by
 have Z:((M0 R).flatMap (·.2)).Nodup:=by rw [<- aE];exact ak5 h.nc (by decide +kernel)
 have jl:∀ p∈L,g p="letter":=fun p hp=>fZ h.nc (mem_letter.mpr ((m8 hL).mp hp))
 have jm:∀ p∈M,g p="mark":=fun p hp=>fZ h.nc (mem_mark.mpr ((m8 hM).mp hp))
 have jf:∀ p∈(F8 R).flatMap (E4 R),g p="great":=fun p hp=>by
  obtain ⟨y,_,hp⟩:=X5.mp hp;obtain ⟨e,he,_,hf⟩:=forms_mem.mp hp
  have:p∈(M0 R).flatMap (·.2):=X5.mpr ⟨e,he,hf⟩
  rw [<- aE] at this;obtain ⟨⟨q,j⟩,hq,rfl⟩:=D3.mp this;obtain ⟨h1,h2⟩:=Q0.mp hq;have h2:j=("great" : Str):=by simpa using h2
  subst h2;exact fZ h.nc h1
 have ja:∀ p∈asKs R,g p="as":=fun p hp=>by
  rw [<- gB] at hp;obtain ⟨⟨q,j⟩,hq,rfl⟩:=D3.mp hp;obtain ⟨h1,h2⟩:=Q0.mp hq;have h2:j=("as" : Str):=by simpa using h2
  subst h2;exact fZ h.nc h1
 have nf:((F8 R).flatMap (E4 R)).Nodup:=by
  rw [cQ,List.pairwise_flatMap] at Z ⊢
  obtain ⟨z1,z2⟩:=Z;refine ⟨fun y _=>?_,?_⟩
  ·unfold E4;rw [List.pairwise_flatMap];exact ⟨fun e he=>z1 e (Q0.mp he).1,z2.filter _⟩
  ·have nk:(F8 R).Nodup:=by unfold F8;exact vY (by simp)
   refine List.Pairwise.imp ?_ (cQ.mp nk);intro y y' hyy f hf f' hf' e;subst e;obtain ⟨e1,h1,r1,f1⟩:=forms_mem.mp hf;obtain ⟨e2,h2,r2,f2⟩:=forms_mem.mp hf';obtain ⟨i,hi,q1⟩:=Y9.mp h1;obtain ⟨j,hj,q2⟩:=Y9.mp h2;rw [eX] at z2
   rcases lX i j with c | c | c
   ·exact z2 i j hi hj c f (by rw [q1];exact f1) f (by rw [q2];exact f2) rfl
   ·subst c;exact hyy (by rw [<- r1,<- r2,<- q1,<- q2])
   ·exact z2 j i hj hi c f (by rw [q2];exact f2) f (by rw [q1];exact f1) rfl
 have na:(asKs R).Nodup:=by rw [<- gB];exact ak5 h.nc (by decide +kernel)
 have n1:("letter" : Str)≠"mark"/\("letter" : Str)≠"great"/\("letter" : Str)≠"as"/\("mark" : Str)≠"great"/\("mark" : Str)≠"as"/\("great" : Str)≠"as":=by decide +kernel
 unfold allKs;rw [aT,aT,aT];refine ⟨⟨⟨hL.1.nodup,hM.1.nodup,fun a ha b hb e=>?_⟩,nf,fun a ha b hb e=>?_⟩,na,fun a ha b hb e=>?_⟩
 ·subst e;exact n1.1 ((jl a ha).symm.trans (jm a hb))
 ·subst e
  rcases E1.mp ha with ha | ha
  ·exact n1.2.1 ((jl a ha).symm.trans (jf a hb))
  ·exact n1.2.2.2.1 ((jm a ha).symm.trans (jf a hb))
 ·subst e
  rcases E1.mp ha with ha | ha
  ·rcases E1.mp ha with ha | ha
   ·exact n1.2.2.1 ((jl a ha).symm.trans (ja a hb))
   ·exact n1.2.2.2.2.1 ((jm a ha).symm.trans (ja a hb))
  ·exact n1.2.2.2.2.2 ((jf a ha).symm.trans (ja a hb))
theorem wR{g:Str->Str}{r1 r2:Str->Nat}{R:List Rl}(h:GoodR g r1 r2 R)(hL:R1 R "row" L)(hM:R1 R "marks" M):Made R L M (stepF R L M):=by
 refine aoT (anq h hL hM) (fun y hy=>?_) h.ne fun z hz e q hq=>?_
 ·obtain ⟨e,he,rfl⟩:=mem_formKs.mp hy;unfold M0 at he;obtain ⟨z,hz,hh⟩:=fB.mp he
  by_cases hg:z.1=("great" : Str)
  ·rw [if_pos hg] at hh;obtain ⟨w,ps⟩:=z
   cases ps with
   | nil=>cases hh
   | cons y fs=>
    have hh:=Option.some.inj hh;rw [<- hh];exact (m8 hL).mpr (mem_letter.mp (h.gl _ hz hg y (by simp)))
  ·rw [if_neg hg] at hh;cases hh
 ·rw [<- T9 1 (z.2.drop 1)] at hq
  rcases E1.mp hq with hq | hq
  ·exact .inl ((m8 hL).mpr (mem_letter.mp (h.al z hz e q hq)))
  ·rw [List.drop_drop] at hq
   rcases h.am z hz e q hq with h1 | h1
   ·exact .inl ((m8 hL).mpr (mem_letter.mp h1))
   ·exact .inr ((m8 hM).mpr (mem_mark.mp h1))
theorem aoV{g:Str->Str}{r1 r2:Str->Nat}{R:List Rl}(h:GoodR g r1 r2 R)(hL:R1 R "row" L)(hM:R1 R "marks" M):(allKs R L M).length<=10000:=by
 refine L3 ?_ h.plen
 have:=List.Nodup.length_le_of_subset (l₂:=(C8 R).map (·.1)) (anq h hL hM) fun p hp=>by
  unfold allKs at hp
  rcases E1.mp hp with hp | hp
  ·rcases E1.mp hp with hp | hp
   ·rcases E1.mp hp with hp | hp
    ·exact D3.mpr ⟨_,mem_letter.mpr ((m8 hL).mp hp),rfl⟩
    ·exact D3.mpr ⟨_,mem_mark.mpr ((m8 hM).mp hp),rfl⟩
   ·obtain ⟨y,_,hp⟩:=X5.mp hp;obtain ⟨e,he,_,hf⟩:=forms_mem.mp hp
    have:p∈(M0 R).flatMap (·.2):=X5.mpr ⟨e,he,hf⟩
    rw [<- aE] at this;obtain ⟨q,hq,rfl⟩:=D3.mp this;exact D3.mpr ⟨q,(Q0.mp hq).1,rfl⟩
  ·rw [<- gB] at hp;obtain ⟨q,hq,rfl⟩:=D3.mp hp;exact D3.mpr ⟨q,(Q0.mp hq).1,rfl⟩
 rw [A6] at this;exact this
theorem ak6{g:Str->Str}{r1 r2:Str->Nat}{R:List Rl}(h:GoodR g r1 r2 R)(i:Nat)(y:Str):(E4 (R.take i) y).length<=10000:=by
 refine L3 ?_ h.plen;have h1:(E4 (R.take i) y).length<=((M0 (R.take i)).flatMap (·.2)).length:=by
  unfold E4;generalize M0 (R.take i)=E
  induction E with
  | nil=>exact C2 _
  | cons e E ih=>
   rw [List.filter_cons]
   split
   ·rw [U1,U1,C5,C5];walk_at "o"
   ·rw [U1,C5];walk_at "o"
 have h2:((M0 (R.take i)).flatMap (·.2)).length<=(C8 (R.take i)).length:=by
  rw [<- aE,A6];exact lO _ _
 obtain ⟨more,e⟩:=wD R i;rw [e,C5];walk_at "o"
theorem IsMade.mod{d:Addr}{F:Str->List Tr}{o o':HO}(h:IsMade H d ks F)(ha:H a=some o')(hn:∀ xs,o'≠.tup xs)(nd:d≠a):IsMade (A0 H a o) d ks F:=
 let ⟨ad,h1,h2⟩:=h
 ⟨ad,by rw [B1 nd];exact h1,fun y hy=>(h2 y hy).put ha hn⟩
structure IsOrd(C:Addr)(H:Hp)(x j ll ml md:Addr)(g:Str->Str)(R:List Rl)(L M:List Str):Prop where
 ob:∃ dx,H x=some (.ins C dx (ordF (hasW R "figures") (hasW R "behind") j ll ml md))
 jobs:H j=some (.dK (C1 (keysP (C8 R)++W4 R) (jobG g)))
 lets:H ll=some (.lst (L.map V.str))
 mrks:H ml=some (.lst (M.map V.str))
 made:IsMade H md (G3 [] (allKs R L M)) (stepF R L M)
 l1:R1 R "row" L
 l2:R1 R "marks" M
theorem IsOrd.same{x j ll ml md:Addr}{g:Str->Str}{R:List Rl}(h:IsOrd C H x j ll ml md g R L M)(s:Same H H'):IsOrd C H' x j ll ml md g R L M:=
 ⟨let ⟨dx,e⟩:=h.ob;⟨dx,s _ _ e⟩,s _ _ h.jobs,s _ _ h.lets,s _ _ h.mrks,h.made.same s,h.l1,h.l2⟩
noncomputable def wS (C:Addr):Sp:=fun vs H Q _=>∃ (x dx a:Addr) (ts:List Addr) (R:List Rl) (g:Str->Str) (r1 r2:Str->Nat),vs=[.ref x,.ref a]/\H x=some (.ins C dx [])/\IsRules H a ts R/\GoodR g r1 r2 R/\
 ∀ j ll ml md L M H',H j=none->H ll=none->H ml=none->H md=none->SameBut x H H'->IsOrd C H' x j ll ml md g R L M->Q .non H'
noncomputable def ak7 (C:Addr):Sp:=fun vs H Q _=>∃ (x j ll ml md:Addr) (g:Str->Str) (R:List Rl) (L M:List Str),vs=[.ref x]/\IsOrd C H x j ll ml md g R L M/\∀ l,H l=none->Q (.ref l) (A0 H l (.lst (L.map V.str)))
noncomputable def aiR (C:Addr):Sp:=fun vs H Q _=>∃ (x j ll ml md:Addr) (g:Str->Str) (R:List Rl) (L M:List Str),vs=[.ref x]/\IsOrd C H x j ll ml md g R L M/\∀ l,H l=none->Q (.ref l) (A0 H l (.lst (M.map V.str)))
noncomputable def anr (C:Addr):Sp:=fun vs H Q _=>∃ (x j ll ml md:Addr) (p:Str) (g:Str->Str) (R:List Rl) (L M:List Str),vs=[.ref x,.str p]/\IsOrd C H x j ll ml md g R L M/\Q (if p∈keysP (C8 R)++W4 R then jobG g p else .non) H
end L2
set_option maxRecDepth 100000
namespace L2
open PySem PySem.Spec PyProof.Rows
structure RulesAt(H0 H:Hp)(a:Addr)(ts:List Addr)(R:List Rl):Prop where
 rows:IsRules H a ts R
 nd:(a::ts).Nodup
 new:∀ r∈a::ts,H0 r=none
 same:Same H0 H
theorem RulesAt.live{R:List Rl}(h:RulesAt H0 H a rs R)(hr:r∈a::rs):∃ o,H r=some o:=by
 rcases F9.mp hr with h' | h'
 ·subst h';exact ⟨_,h.rows.top⟩
 ·obtain ⟨i,hi,rfl⟩:=Y9.mp h';obtain ⟨zs,_,h2⟩:=Paired.at h.rows.row (i:=i) (a:=rs[i]) (by simp [hi]);exact ⟨_,h2⟩
theorem RulesAt.grow{q:Addr}{R:List Rl}(h:RulesAt H0 H a rs R)(S:Same H H')(hq:H q=none){z:Rl}(bU:H' q=some (tupR z)):RulesAt H0 (A0 H' a (.lst (rs.map V.ref++[V.ref q]))) a (rs++[q]) (R++[z]):=by
 have nq:∀ r∈a::rs,r≠q:=fun r hr e=>by
  obtain ⟨o,e'⟩:=h.live hr;rw [e,hq] at e';cases e'
 obtain ⟨na,_⟩:=U8.mp h.nd;refine ⟨⟨by rw [A5,D8];rfl,?_⟩,?_,?_,?_⟩
 ·refine Paired.snoc (mN h.rows.row fun r hr zs h=>?_) ?_
  ·rw [B1 (fun e:r=a=>na (by rw [<- e];exact hr))];exact S _ _ h
  ·rw [B1 (nq a M4).symm];exact bU
 ·show (a::(rs++[q])).Nodup;exact qW h.nd fun e=>nq q e rfl
 ·intro r hr
  rcases F9.mp hr with e | e
  ·exact h.new r (by rw [e];exact M4)
  ·rcases E1.mp e with e | e
   ·exact h.new r (M3 _ e)
   ·rw [E6.mp e];exact h.same.free hq
 ·exact (h.same.trans S).put (h.new a M4)
theorem ag6{R:List Rl}{w:Str}(h:∀ z∈R,z.1=w):rowsW R w=R.map (·.2):=by
 unfold rowsW;rw [lS.mpr fun z hz=>by simpa using h z hz]
theorem jV{R:List Rl}{w:Str}(h:∀ z∈R,z.1≠w):rowsW R w=[]:=by
 unfold rowsW;rw [lL.mpr fun z hz=>by simpa using h z hz];rfl
theorem u7(A B:List Rl)(w:Str):rowsW (A++B) w=rowsW A w++rowsW B w:=by
 unfold rowsW;rw [cS,D8]
theorem mV(A B:List Rl):C8 (A++B)=C8 A++C8 B:=by
 unfold C8;rw [X4]
theorem rS(A B:List Rl)(w:Str):hasW (A++B) w=(hasW A w || hasW B w):=by
 unfold hasW;rw [List.any_append]
theorem ahT{F:Addr->Rl->Prop}{l₂:List Rl}(h:Paired F l₁ l₂):∀ k,Paired F (l₁.take k) (l₂.take k):=by
 induction h with
 | nil=>intro k;rw [List.take_nil,List.take_nil];exact .nil
 | cons h t ih=>intro k;cases k with
  | zero=>exact .nil
  | succ k=>exact .cons h (ih k)
theorem ahU{F:Addr->Rl->Prop}{l₂:List Rl}(h:Paired F l₁ l₂):∀ k,Paired F (l₁.drop k) (l₂.drop k):=by
 induction h with
 | nil=>intro k;rw [List.drop_nil,List.drop_nil];exact .nil
 | cons h t ih=>intro k;cases k with
  | zero=>exact .cons h t
  | succ k=>exact ih k
theorem aoW{l:Addr}{ts:List Addr}{R:List Rl}(h:IsRules H b ts R)(k:Nat)(n:H l=none):IsRules (A0 H l (.lst ((ts.take k).map V.ref))) l (ts.take k) (R.take k):=⟨A5,ahT (N0 h.row fun _ _ e=>D9 e n) k⟩
theorem ak8{l:Addr}{ts:List Addr}{R:List Rl}(h:IsRules H b ts R)(k:Nat)(n:H l=none):IsRules (A0 H l (.lst ((ts.drop k).map V.ref))) l (ts.drop k) (R.drop k):=⟨A5,ahU (N0 h.row fun _ _ e=>D9 e n) k⟩
theorem ajD{E:List (Str×Str)}(r:R0 E ts line){e:Str×Str}(he:e∈E)(h2:e.2∈line):line.idxOf e.1<line.idxOf e.2:=by
 obtain ⟨pre,post,el⟩:=List.append_of_mem h2;obtain ⟨h3,h4,h5⟩:=fV (r pre e.2 post el);have h6:=cnt_zero.mp h5 e he rfl;rw [el,List.idxOf_append,if_pos h6,List.idxOf_append,if_neg h4]
 have:=iM.mpr h6
 walk_at "o"
theorem ak9{E:List (Str×Str)}(nd:ps.Nodup)(tnd:ts.Nodup)(r:R0 E ts line)(cov:∀ p∈ts,p∈line)(hm:∀ p,p∈ts↔p∈ps)(hE:∀ e∈U5 ps,e∈E):line=ps:=by
 have hl:line.length=ps.length:=by
  rw [rH tnd r cov];exact ((List.perm_ext_iff_of_nodup tnd nd).mpr fun a=>hm a).length_eq
 have K2:∀ p∈ps,p∈line:=fun p hp=>cov p ((hm p).mpr hp)
 have C9:∀ i (h:i<ps.length),line.idxOf ps[i]<ps.length:=fun i h=>by
  rw [<- hl];exact iM.mpr (K2 _ (lV h))
 have step:∀ i (h:i+1<ps.length),line.idxOf ps[i]<line.idxOf ps[i+1]:=fun i h=>by
  have he:(ps[i],ps[i+1])∈U5 ps:=by
   have:=agX (zs:=ps) (j:=i) (x:=ps[i]) (y:=ps[i+1]) (K8 (by walk_at "o")) (by rw [List.getElem?_tail];exact K8 h)
   exact M9 this
  exact ajD r (hE _ he) (K2 _ (lV h))
 have up:∀ i (h:i<ps.length),i<=line.idxOf ps[i]:=by
  intro i
  induction i with
  | zero=>intro h;exact G2 _
  | succ i ih=>
   intro h
   have:=ih (by walk_at "o")
   have:=step i h
   walk_at "o"
 have down:∀ d i (h:i<ps.length),ps.length-1-i=d->line.idxOf ps[i]<=i:=by
  intro d
  induction d with
  | zero=>
   intro i h e
   have:=C9 i h
   walk_at "o"
  | succ d ih=>
   intro i h e;have h1:=ih (i+1) (by walk_at "o") (by walk_at "o");have h2:=step i (by walk_at "o");walk_at "o"
 refine List.ext_getElem hl fun i h1 h2=>?_
 have e:line.idxOf ps[i]=i:=Nat.le_antisymm (down _ i h2 rfl) (up i h2)
 have:=lT (x:=ps[i]) (xs:=line) (by rw [e];exact h1)
 simp only [e] at this;exact this
noncomputable def ruleD (z:Rl):PyData:=.tuple ((z.1::z.2).map .str)
theorem ajE(z:Rl):(ruleD z).depth<=1:=by
 unfold ruleD;rw [k8,mL];decide
theorem wT:∀ R:List Rl,z8 (R.map ruleD)<=1
 | []=>G2 _
 | z::R=>by
  rw [K4,z8];have h1:=ajE z;have h2:=wT R;walk_at "o"
theorem ae3 : ∀ {rs:List Addr} {R:List Rl},Paired (fun r z=>H r=some (tupR z)) rs R->(∀ z∈R,∀ y∈z.1::z.2,V1 y=true)->DnAll K H (rs.map V.ref) (R.map ruleD)
 | _,_,.nil,_=>.nil
 | _,_,.cons h t,hz=>.cons (.tup (.of h) (l8 (hz _ M4))) (ae3 t fun z eG=>hz z (M3 _ eG))
theorem aiS{R:List Rl}(h:IsRules H a rs R)(hz:∀ z∈R,∀ y∈z.1::z.2,V1 y=true):Dn K H (.ref a) (.list (R.map ruleD)):=.lst (.of h.top) (ae3 h.row hz)
noncomputable def Q3 (ns:List Int) (k:Int) (p:Str):Prop:=∃ rest:List Nat,p.cps.toList=K5 ns k::rest/\rest.length<=1/\∀ c∈rest,∃ m:Int,c=K5 ns m
noncomputable def mW (ns:List Int) (S:Int->Prop) (p:Str):Prop:=∃ k,S k/\Q3 ns k p
theorem Q3.inj{k l:Int}(h:Q3 ns k p)(h':Q3 ns l p)(k0:0<=k)(k1:k<83)(l0:0<=l)(l1:l<83):k=l:=by
 obtain ⟨r,e,_⟩:=h;obtain ⟨r',e',_⟩:=h';rw [e] at e';exact aoR k0 k1 l0 l1 (b9.inj e').1
theorem rT(ns:List Int)(k:Int):Q3 ns k (one (K5 ns k)):=⟨[],rfl,by simp,by simp⟩
theorem wU(ns:List Int)(k m:Int):Q3 ns k (one (K5 ns k)++one (K5 ns m)):=⟨[K5 ns m],rfl,by simp,fun c hc=>⟨m,E6.mp hc⟩⟩
theorem Q3.ok{k:Int}(h:Q3 ns k p):jI p=true/\(P9 ns=false->∀ c∈p.cps.toList,figO c=false):=by
 obtain ⟨r,e,hl,hr⟩:=h;have hc:∀ c∈p.cps.toList,∃ m:Int,c=K5 ns m:=fun c hc=>by
  rw [e] at hc
  rcases F9.mp hc with q | q
  ·exact ⟨k,q⟩
  ·exact hr c q
 have el:p.length=r.length+1:=by
  have:p.length=p.cps.toList.length:=by simp [Str.length]
  rw [this,e];rfl
 refine ⟨?_,fun hd c h=>?_⟩
 ·unfold jI;rw [el,T4,T4];refine ⟨⟨decide_eq_true (by walk_at "o"),decide_eq_true (by walk_at "o")⟩,List.all_eq_true.mpr fun c h=>?_⟩;obtain ⟨m,rfl⟩:=hc c h;exact (aiK ns m).1
 ·obtain ⟨m,rfl⟩:=hc c h;exact (aiK ns m).2 hd
structure Dis(ns:List Int)(S:Int->Prop)(ps:List Str):Prop where
 nd:ps.Nodup
 pc:∀ p∈ps,mW ns S p
 uq:∀ p∈ps,∀ q∈ps,∀ k:Int,20<=k->k<83->Q3 ns k p->Q3 ns k q->p=q
theorem Dis.cat{S T:Int->Prop}(h:Dis ns S ps)(h':Dis ns T qs)(hS:∀ k,S k->0<=k/\k<83)(hT:∀ k,T k->0<=k/\k<83)(n:∀ k,S k->¬ T k):Dis ns (fun k=>S k\/T k) (ps++qs):=by
 have ap:∀ p∈ps,∀ q∈qs,∀ k:Int,0<=k->k<83->Q3 ns k p->Q3 ns k q->False:=fun p hp q hq k k0 k1 pk qk=>by
  obtain ⟨i,hi,pi⟩:=h.pc p hp;obtain ⟨l,hl,pl⟩:=h'.pc q hq;have e1:=pk.inj pi k0 k1 (hS i hi).1 (hS i hi).2;have e2:=qk.inj pl k0 k1 (hT l hl).1 (hT l hl).2;subst e1 e2;exact n _ hi hl
 refine ⟨aT.mpr ⟨h.nd,h'.nd,fun a ha b hb e=>?_⟩,fun p hp=>?_,fun p hp q hq k k0 k1 pk qk=>?_⟩
 ·subst e;obtain ⟨k,hk,pk⟩:=h.pc a ha;exact ap a ha a hb k (hS k hk).1 (hS k hk).2 pk pk
 ·rcases E1.mp hp with hp | hp
  ·obtain ⟨k,hk,pk⟩:=h.pc p hp;exact ⟨k,.inl hk,pk⟩
  ·obtain ⟨k,hk,pk⟩:=h'.pc p hp;exact ⟨k,.inr hk,pk⟩
 ·rcases E1.mp hp with hp | hp <;> rcases E1.mp hq with hq | hq
  ·exact h.uq p hp q hq k k0 k1 pk qk
  ·exact (ap p hp q hq k (by walk_at "o") k1 pk qk).elim
  ·exact (ap q hq p hp k (by walk_at "o") k1 qk pk).elim
  ·exact h'.uq p hp q hq k k0 k1 pk qk
theorem Dis.wide{S T:Int->Prop}(h:Dis ns S ps)(w:∀ k,S k->T k):Dis ns T ps:=⟨h.nd,fun p hp=>let ⟨k,hk,pk⟩:=h.pc p hp;⟨k,w k hk,pk⟩,h.uq⟩
theorem gC{k:Int}(h:Q3 ns k p):Dis ns (fun l=>l=k) [p]:=⟨by simp,fun q hq=>by rw [E6.mp hq];exact ⟨k,rfl,h⟩,fun a ha b hb _ _ _ _ _=>by rw [E6.mp ha,E6.mp hb]⟩
theorem Dis.nil{S:Int->Prop} : Dis ns S []:=⟨List.nodup_nil,by simp,by simp⟩
theorem mul3(h:i<3):∃ m:Int,J8 [V.int 48271,V.int 69621,V.int 16807] (0+(i:Int))=some (V.int m)/\0<m/\m<100000:=by
 obtain rfl | rfl | rfl:i=0\/i=1\/i=2:=by walk_at "o"
 ·exact ⟨_,rfl,by decide,by decide⟩
 ·exact ⟨_,rfl,by decide,by decide⟩
 ·exact ⟨_,rfl,by decide,by decide⟩
noncomputable def LetS (k:Int):Prop:=0<=k/\k<16
noncomputable def dJ (ns:List Int) (n:Nat):List Str:=(List.range n).map fun (k:Nat)=>one (K5 ns (k:Int))
theorem aiT(ns:List Int)(i:Nat):dJ ns (i+1)=dJ ns i++[one (K5 ns (i:Int))]:=by
 unfold dJ;rw [List.range_succ,D8];rfl
theorem ala(ns:List Int)(n:Nat):(dJ ns n).length=n:=by unfold dJ;rw [A6,List.length_range]
theorem alb(ns:List Int):∀ n:Nat,n<=83->Dis ns (fun k=>0<=k/\k<(n:Int)) (dJ ns n)
 | 0,_=>Dis.nil
 | n+1,h=>by
  rw [aiT];refine ((alb ns n (by walk_at "o")).cat (gC (rT ns (n:Int))) (fun k hk=>by walk_at "o") (fun k hk=>by walk_at "o") (fun k hk e=>by walk_at "o")).wide fun k hk=>by
   rcases hk with hk | hk <;> walk_at "o"
structure LetW(ns:List Int)(n:Int)(ps:List Str):Prop where
 n0:2<=n
 n1:n<=16
 all:∀ k:Int,0<=k->k<n->one (K5 ns k)∈ps
 each:∀ p∈ps,∃ k:Int,0<=k/\k<n/\(p=one (K5 ns k)\/∃ m:Int,0<=m/\m<n/\p=one (K5 ns k)++one (K5 ns m))
structure LetI(ns:List Int)(H H2:Hp)(l:Addr)(ps:List Str)(n:Nat):Prop where
 new:H l=none
 same:Same H H2
 lst:H2 l=some (.lst (ps.map V.str))
 dis:Dis ns LetS ps
 wd:∃ n,LetW ns n ps
 lo:2<=ps.length
 hi:ps.length<=16+n
theorem ans{n:Int}(h0:2<=n)(h1:n<=16):LetW ns n (dJ ns n.toNat):=by
 refine ⟨h0,h1,fun k k0 k1=>?_,fun p hp=>?_⟩
 ·refine D3.mpr ⟨k.toNat,iR.mpr (by walk_at "o"),?_⟩;rw [show ((k.toNat:Nat):Int)=k by walk_at "o"]
 ·obtain ⟨k,hk,rfl⟩:=D3.mp hp
  have:=iR.mp hk
  exact ⟨k,by walk_at "o",by walk_at "o",.inl rfl⟩
theorem LetW.ins{n:Int}{t:Nat}(h:LetW ns n ps)(hp:∃ k:Int,0<=k/\k<n/\(p=one (K5 ns k)\/∃ m:Int,0<=m/\m<n/\p=one (K5 ns k)++one (K5 ns m))):LetW ns n (ps.take t++[p]++ps.drop t):=by
 have hm:∀ x,x∈ps.take t++[p]++ps.drop t↔x=p\/x∈ps:=fun x=>by
  have:x∈ps↔x∈ps.take t\/x∈ps.drop t:=by rw [<- E1,T9]
  rw [O3,E1,E1,E6,this]
  constructor
  ·rintro (h | h | h)
   ·exact .inr (.inl h)
   ·exact .inl h
   ·exact .inr (.inr h)
  ·rintro (h | h | h)
   ·exact .inr (.inl h)
   ·exact .inl h
   ·exact .inr (.inr h)
 refine ⟨h.n0,h.n1,fun k k0 k1=>(hm _).mpr (.inr (h.all k k0 k1)),fun x hx=>?_⟩
 rcases (hm x).mp hx with e | e
 ·rw [e];exact hp
 ·exact h.each x e
noncomputable def afM (K:PySem.W.Frag):Sp:=fun vs H Q _=>∃ (a:Addr) (ns:List Int),vs=[.ref a]/\E2 K H a (ns.map V.int)/\∀ l ps H',LetI ns H H' l ps 3->Q (.ref l) H'
noncomputable def ant (K:PySem.W.Frag):Sp:=fun vs H Q _=>∃ (l m:Addr) (n:Int) (b:Bool) (ls ms:List Str),vs=[.ref l,.ref m,.int n,.bl b]/\H l=some (.lst (ls.map V.str))/\H m=some (.lst (ms.map V.str))/\1<=ls.length/\ls.length<=1000/\ms.length<=1000/\(∀ p∈ms,V1 p=true)/\
 ∀ p H',Same H H'->(p∈ls\/(b=false/\p∈ms))->Q (.str p) H'
theorem pickA(n:Int)(h1:1<=zs.length):∃ p∈zs,J8 (zs.map V.str) (n % (zs.length:Int))=some (V.str p):=by
 obtain ⟨v,e,hm⟩:=jH (xs:=zs.map V.str) (i:=n % (zs.length:Int)) (i4 _ (by walk_at "o")) (by rw [A6];exact k9 _ (by walk_at "o"));obtain ⟨p,hp,rfl⟩:=D3.mp hm;exact ⟨p,hp,e⟩
theorem pickL{u:Addr}{n:Int}(h:H u=some (.lst (zs.map V.str)))(h1:1<=zs.length)(q:∀ p∈zs,Q (.str p) H) :
  ∃ m:Nat,LenR K H u m/\0<(m:Int)/\∃ xs,(E2 K H u xs\/C7 K H u xs)/\∃ x,J8 xs (n % (m:Int))=some x/\Q x H:=by
 obtain ⟨v,e,hm⟩:=jH (xs:=zs.map V.str) (i:=n % (zs.length:Int)) (i4 _ (by walk_at "o")) (by rw [A6];exact k9 _ (by walk_at "o"));obtain ⟨p,hp,rfl⟩:=D3.mp hm;exact ⟨zs.length,.inl ⟨_,.of h,by rw [A6]⟩,by walk_at "o",_,.inl (.of h),_,e,q p hp⟩
noncomputable def spTwo (K:PySem.W.Frag):Sp:=fun vs H Q _=>∃ (a:Addr) (ns:List Int) (k c:Int),vs=[.ref a,.int k,.int c]/\E2 K H a (ns.map V.int)/\0<=k/\∀ p H',Same H H'->Q3 ns k p->Q (.str p) H'
noncomputable def OthZ (ls ms:List Str) (z:Rl):Prop:=(z.1=("great" : Str)/\∃ l fs,z.2=l::fs/\l∈ls/\1<=fs.length/\fs.length<=2)\/(z.1=("as" : Str)/\∃ p q qs,z.2=p::q::qs/\q∈ls/\(∀ r∈qs,r∈ls\/r∈ms)/\qs.length<=2)\/(z.1=("over" : Str)/\z.2.length<=2)
structure OthI(ns:List Int)(ls ms:List Str)(S:Int->Prop)(n:Nat)(R:List Rl):Prop where
 dis:Dis ns S ((C8 R).map (·.1))
 each:∀ z∈R,OthZ ls ms z
 len:R.length<=n
noncomputable def GS (i:Nat) (k:Int):Prop:=(30<=k/\k<30+(i:Int))\/(34<=k/\k<34+(i:Int))
noncomputable def AS (i:Nat) (k:Int):Prop:=GS 3 k\/(40<=k/\k<40+(i:Int))
noncomputable def OS (k:Int):Prop:=AS 3 k\/(50<=k/\k<52)
theorem wV(z:Rl):(C8 [z]).map (·.1)=M7 z:=by
 unfold C8;rw [U1,iQ,L1,X7];exact List.map_id' _
theorem OthI.add{S T U:Int->Prop}{R:List Rl}(h:OthI ns ls ms S n R){z:Rl}(hz:OthZ ls ms z)(hd:Dis ns T (M7 z))(hS:∀ k,S k->0<=k/\k<83)(hT:∀ k,T k->0<=k/\k<83)(no:∀ k,S k->¬ T k)(w:∀ k,S k\/T k->U k):OthI ns ls ms U (n+1) (R++[z]):=by
 refine ⟨?_,fun y hy=>?_,by rw [C5,N5];have:=h.len;walk_at "o"⟩
 ·rw [mV,D8,wV];exact (h.dis.cat hd hS hT no).wide w
 ·rcases E1.mp hy with hy | hy
  ·exact h.each y hy
  ·rw [E6.mp hy];exact hz
structure AsR(ls ms:List Str)(H0 H:Hp)(t:Addr)(p:Str)(qs:List Str)(j:Nat):Prop where
 same:Same H0 H
 tup:H t=some (tupR ("as",p::qs))
 new:H0 t=none
 len:qs.length=j
 ok:∀ i q,qs[i]?=some q->q∈ls\/(0<i/\q∈ms)
theorem AsR.oth{t:Addr}(h:AsR ls ms H0 H t p qs j)(h1:1<=j)(h3:j<=3):OthZ ls ms ("as",p::qs):=by
 refine .inr (.inl ⟨rfl,?_⟩);have hl:=h.len;have ok:=h.ok
 cases qs with
 | nil=>simp at hl;walk_at "o"
 | cons q qs=>
  refine ⟨p,q,qs,rfl,(ok 0 q rfl).elim id fun e=>absurd e.1 (by decide),fun r hr=>?_,by simp at hl;walk_at "o"⟩;obtain ⟨i,hi,e⟩:=Y9.mp hr;exact (ok (i+1) r (by rw [List.getElem?_cons_succ,K8 hi,e])).imp id (·.2)
theorem alc{l f:Str}{fs:List Str}(hl:l∈ls)(hf:fs=[f]\/∃ f2,fs=[f,f2]):OthZ ls ms ("great",l::fs):=by
 refine .inl ⟨rfl,l,fs,rfl,hl,?_⟩
 rcases hf with rfl | ⟨f2,rfl⟩ <;> simp
theorem ald{i:Int}{l f:Str}{fs:List Str}(h0:0<=i)(h1:i<3)(hp:Q3 ns (30+i) f)(hf:fs=[f]\/∃ f2,fs=[f,f2]/\Q3 ns (34+i) f2):Dis ns (fun k=>k=30+i\/k=34+i) (M7 ("great",l::fs)):=by
 rw [V5.1 rfl];show Dis ns _ fs
 rcases hf with rfl | ⟨f2,rfl,h2⟩
 ·exact (gC hp).wide fun k hk=>.inl hk
 ·exact (gC hp).cat (gC h2) (fun k hk=>by walk_at "o") (fun k hk=>by walk_at "o") (fun k hk e=>by walk_at "o")
noncomputable def aiU (K:PySem.W.Frag):Sp:=fun vs H Q _=>∃ (a b c:Addr) (ns:List Int) (ls ms:List Str),vs=[.ref a,.ref b,.ref c]/\E2 K H a (ns.map V.int)/\H b=some (.lst (ls.map V.str))/\H c=some (.lst (ms.map V.str))/\1<=ls.length/\ls.length<=1000/\ms.length<=1000/\(∀ p∈ms,V1 p=true)/\
 ∀ l ts R H',RulesAt H H' l ts R->OthI ns ls ms OS 7 R->Q (.ref l) H'
theorem Dis.ins{S:Int->Prop}(hS:∀ k,S k->0<=k/\k<20)(h:Dis ns S ps)(hp:mW ns S p)(hn:p∉ps):Dis ns S (ps.take n++[p]++ps.drop n):=by
 have hm:∀ x,x∈ps.take n++[p]++ps.drop n↔x=p\/x∈ps:=fun x=>by
  rw [O3,E1,E1,E6]
  have:x∈ps↔x∈ps.take n\/x∈ps.drop n:=by rw [<- E1,T9]
  rw [this]
  constructor
  ·rintro (h | h | h)
   ·exact .inr (.inl h)
   ·exact .inl h
   ·exact .inr (.inr h)
  ·rintro (h | h | h)
   ·exact .inr (.inl h)
   ·exact .inl h
   ·exact .inr (.inr h)
 have pcs:∀ x∈ps.take n++[p]++ps.drop n,mW ns S x:=fun x hx=>by
  rcases (hm x).mp hx with e | e
  ·rw [e];exact hp
  ·exact h.pc x e
 refine ⟨?_,pcs,fun x hx y hy k k0 k1 pk _=>?_⟩
 ·have e:(ps.take n++[p]++ps.drop n).Perm (p::ps):=by
   rw [O3];refine List.perm_middle.trans ?_;exact List.Perm.of_eq (congrArg (b9 p) (T9 n ps))
  rw [e.nodup_iff,U8];exact ⟨hn,h.nd⟩
 ·obtain ⟨i,hi,q⟩:=pcs x hx
  have:=hS i hi
  have:=pk.inj q (by walk_at "o") k1 (by walk_at "o") (by walk_at "o")
  walk_at "o"
noncomputable def MarkS (k:Int):Prop:=20<=k/\k<25
noncomputable def flagW (w:Str):Prop:=w=("figures" : Str)\/w=("behind" : Str)\/w=("blanks" : Str)
theorem flagW.no{w:Str}(h:flagW w):w≠"row"/\w≠"marks"/\w≠"great"/\w≠"as"/\w≠"over":=by
 rcases h with rfl | rfl | rfl <;> decide +kernel
theorem wW{w:Str}(h:flagW w):M7 (w,[])=[]:=by
 obtain ⟨n1,n2,n3,n4,n5⟩:=h.no;unfold M7;rw [if_neg n3,if_neg n4]
 split <;> rfl
structure RulP(ns:List Int)(ls ms:List Str)(b:Bool)(n:Nat)(R:List Rl):Prop where
 dis:Dis ns (fun k=>LetS k\/OS k\/(b=true/\MarkS k)) ((C8 R).map (·.1))
 row:rowsW R "row"=[ls]
 mrk:rowsW R "marks"=if b=true then [ms] else []
 each:∀ z∈R,z=(("row" : Str),ls)\/(z=(("marks" : Str),ms)/\b=true)\/OthZ ls ms z\/(z.2=[]/\flagW z.1)
 len:R.length<=n
 fig:hasW R "figures"=true->P9 ns=false
 oi:∀ z∈R,OthZ ls ms z->∀ p∈M7 z,mW ns OS p
theorem OthZ.word{z:Rl}(h:OthZ ls ms z):z.1≠"row"/\z.1≠"marks"/\z.1≠"figures"/\z.1≠"blanks":=by
 rcases h with h | h | h <;> rw [h.1] <;> decide +kernel
theorem OS_lt{k:Int}(h:OS k):30<=k/\k<52:=by
 unfold OS AS GS at h;walk_at "o"
theorem aoX{R:List Rl}(hl:Dis ns LetS ls)(h:OthI ns ls ms OS 7 R):RulP ns ls ms false 8 ((("row" : Str),ls)::R):=by
 have t1:M7 (("row" : Str),ls)=ls:=V5.2.2 (.inl rfl);refine ⟨?_,?_,?_,fun z hz=>?_,by rw [K3];have:=h.len;walk_at "o",fun e=>?_,fun z hz ho p hp=>?_⟩
 ·rw [rR,D8,X7,t1];have e:(ls.map ((fun x:Str×Str=>x.1)∘fun p=>(p,jobD "row")))=ls:=List.map_id' _;rw [e];exact (hl.cat h.dis (fun k hk=>by unfold LetS at hk;walk_at "o") (fun k hk=>by have:=OS_lt hk;walk_at "o") (fun k hk e=>by have:=OS_lt e;unfold LetS at hk;walk_at "o")).wide fun k hk=>hk.elim .inl fun q=>.inr (.inl q)
 ·have:rowsW R "row"=[]:=jV fun z hz=>(h.each z hz).word.1
  show rowsW ([(("row" : Str),ls)]++R) "row"=_;rw [u7,this,ag6 (w:="row") (by simp)];rfl
 ·have:rowsW R "marks"=[]:=jV fun z hz=>(h.each z hz).word.2.1
  show rowsW ([(("row" : Str),ls)]++R) "marks"=_;rw [u7,this,jV (R:=[(("row" : Str),ls)]) (by simp;decide +kernel)];rfl
 ·rcases F9.mp hz with e | e
  ·exact .inl e
  ·exact .inr (.inr (.inl (h.each z e)))
 ·exfalso
  unfold hasW at e;rw [lW] at e;obtain ⟨z,hz,q⟩:=e;have q:z.1=("figures" : Str):=by simpa using q
  rcases F9.mp hz with e | e
  ·rw [e] at q;exact absurd (show Str.ofString "row"=_ from q) (by decide +kernel)
  ·exact (h.each z e).word.2.2.1 q
 ·rcases F9.mp hz with e | e
  ·rw [e] at ho;exact absurd rfl ho.word.1
  ·exact h.dis.pc p (D3.mpr ⟨_,mem_pairs.mpr ⟨z,e,hp,rfl⟩,rfl⟩)
theorem RulP.marks{R:List Rl}(h:RulP ns ls ms false n R)(hm:Dis ns MarkS ms):RulP ns ls ms true (n+1) (R++[(("marks" : Str),ms)]):=by
 have t1:M7 (("marks" : Str),ms)=ms:=V5.2.2 (.inr (.inl rfl));refine ⟨?_,?_,?_,fun z hz=>?_,by rw [C5,N5];have:=h.len;walk_at "o",fun e=>?_,fun z hz ho=>?_⟩
 ·rw [mV,D8,wV,t1];refine (h.dis.cat hm (fun k hk=>?_) (fun k hk=>by unfold MarkS at hk;walk_at "o") (fun k hk e=>?_)).wide fun k hk=>?_
  ·rcases hk with hk | hk | hk
   ·unfold LetS at hk;walk_at "o"
   ·have:=OS_lt hk;walk_at "o"
   ·exact absurd hk.1 (by decide)
  ·unfold MarkS at e
   rcases hk with hk | hk | hk
   ·unfold LetS at hk;walk_at "o"
   ·have:=OS_lt hk;walk_at "o"
   ·exact absurd hk.1 (by decide)
  ·rcases hk with (hk | hk | hk) | hk
   ·exact .inl hk
   ·exact .inr (.inl hk)
   ·exact absurd hk.1 (by decide)
   ·exact .inr (.inr ⟨rfl,hk⟩)
 ·rw [u7,h.row,jV (R:=[(("marks" : Str),ms)]) (by simp;decide +kernel)];rfl
 ·rw [u7,h.mrk,ag6 (R:=[(("marks" : Str),ms)]) (w:="marks") (by simp)];rfl
 ·rcases E1.mp hz with e | e
  ·rcases h.each z e with q | q | q | q
   ·exact .inl q
   ·exact absurd q.2 (by decide)
   ·exact .inr (.inr (.inl q))
   ·exact .inr (.inr (.inr q))
  ·exact .inr (.inl ⟨E6.mp e,rfl⟩)
 ·rw [rS,Bool.or_eq_true] at e
  rcases e with e | e
  ·exact h.fig e
  ·exact absurd e (by simp [hasW];decide +kernel)
 ·rcases E1.mp hz with e | e
  ·exact h.oi z e ho
  ·rw [E6.mp e] at ho;exact absurd rfl ho.word.2.1
theorem RulP.flag{b:Bool}{R:List Rl}(h:RulP ns ls ms b n R){w:Str}(hw:flagW w)(hf:w=("figures" : Str)->P9 ns=false):RulP ns ls ms b (n+1) (R++[(w,[])]):=by
 obtain ⟨n1,n2,n3,n4,n5⟩:=hw.no;refine ⟨?_,?_,?_,fun z hz=>?_,by rw [C5,N5];have:=h.len;walk_at "o",fun e=>?_,fun z hz ho p hp=>?_⟩
 ·rw [mV,D8,wV,wW hw,L1];exact h.dis
 ·rw [u7,h.row,jV (R:=[(w,[])]) (by simpa using n1)];rfl
 ·rw [u7,h.mrk,jV (R:=[(w,[])]) (by simpa using n2),L1]
 ·rcases E1.mp hz with e | e
  ·exact h.each z e
  ·rw [E6.mp e];exact .inr (.inr (.inr ⟨rfl,hw⟩))
 ·rw [rS,Bool.or_eq_true] at e
  rcases e with e | e
  ·exact h.fig e
  ·exact hf (by simpa [hasW] using e)
 ·rcases E1.mp hz with e | e
  ·exact h.oi z e ho p hp
  ·rw [E6.mp e,wW hw] at hp;cases hp
theorem RulP.wide{b:Bool}{R:List Rl}(h:RulP ns ls ms b n R)(l:n<=m):RulP ns ls ms b m R:=⟨h.dis,h.row,h.mrk,h.each,L3 h.len l,h.fig,h.oi⟩
theorem aiV{α:Type}{a b:List α}{x:α}(h:a++b=[x]):b++a=[x]:=by
 cases a with
 | nil=>simpa using h
 | cons y a=>
  simp only [fD,b9.injEq,List.append_eq_nil_iff] at h;obtain ⟨rfl,rfl,rfl⟩:=h;rfl
theorem RulP.turn{b:Bool}{R:List Rl}(h:RulP ns ls ms b n R)(k:Nat):RulP ns ls ms b n (R.drop k++R.take k):=by
 have e:R.take k++R.drop k=R:=T9 k R;have hm:∀ z,z∈R.drop k++R.take k↔z∈R:=fun z=>by
  conv=>rhs;rw [<- e]
  rw [E1,E1,or_comm]
 refine ⟨?_,?_,?_,fun z hz=>h.each z ((hm z).mp hz),?_,fun q=>h.fig ?_,fun z hz=>h.oi z ((hm z).mp hz)⟩
 ·have p:((C8 (R.drop k++R.take k)).map (·.1)).Perm ((C8 R).map (·.1)):=by
   conv=>rhs;rw [<- e]
   rw [mV,mV];exact List.Perm.map _ List.perm_append_comm
  exact ⟨p.nodup_iff.mpr h.dis.nd,fun x hx=>h.dis.pc x (p.mem_iff.mp hx),fun x hx y hy=>h.dis.uq x (p.mem_iff.mp hx) y (p.mem_iff.mp hy)⟩
 ·have:=h.row
  rw [<- e,u7] at this;rw [u7];exact aiV this
 ·have:=h.mrk
  rw [<- e,u7] at this;rw [u7]
  by_cases hb:b=true
  ·rw [if_pos hb] at this ⊢;exact aiV this
  ·rw [if_neg hb] at this ⊢
   obtain ⟨h1,h2⟩:=List.append_eq_nil_iff.mp this;rw [h1,h2];rfl
 ·have:=h.len
  have e2:=congrArg i3 e;rw [C5] at e2 ⊢
  walk_at "o"
 ·rw [<- e,rS];rw [rS] at q;rw [Bool.or_comm];exact q
theorem lookN{s:Str} : ∀ {l:List (Str×Str)},(l.map (·.1)).Nodup->(p,s)∈l->l.lookup p=some s
 | [],_,h=>by cases h
 | (y,t)::l,nd,h=>by
  rw [K4,U8] at nd;rw [List.lookup_cons]
  rcases F9.mp h with h | h
  ·obtain ⟨rfl,rfl⟩:=Prod.mk.inj h
   simp
  ·have:p≠y:=fun e=>nd.1 (D3.mpr ⟨_,h,e⟩)
   have e:(p==y)=false:=by simpa using this
   rw [e];exact lookN nd.2 h
noncomputable def jW (R:List Rl) (p:Str):Str:=((C8 R).lookup p).getD ""
theorem ale(z:Rl):(M7 z).length<=z.2.length:=by
 unfold M7
 split
 ·rw [W2];walk_at "o"
 ·split
  ·rw [E7];walk_at "o"
  ·split
   ·exact C2 _
   ·exact G2 _
theorem wX : ∀ {R:List Rl},(∀ z∈R,z.2.length<=n)->(C8 R).length<=n*R.length
 | [],_=>G2 _
 | z::R,h=>by
  rw [rR,C5,A6,K3,Nat.mul_add,Nat.mul_one];have h1:=ale z;have h2:=h z M4;have h3:=wX fun y hy=>h y (M3 _ hy)
  walk_at "o"
theorem ag7(nd:ps.Nodup){e:Str×Str}(he:e∈U5 ps):ps.idxOf e.1<ps.idxOf e.2:=by
 unfold U5 at he;obtain ⟨i,hi,e1⟩:=Y9.mp he;rw [List.getElem_zip] at e1;have o9:i+1<ps.length:=by rw [List.length_zip,List.length_tail] at hi;walk_at "o"
 have hG:i<ps.tail.length:=by rw [List.length_tail];walk_at "o"
 have e3:ps.tail[i]'hG=ps[i+1]:=List.getElem_tail hG;have f1:ps[i]=e.1:=congrArg Prod.fst e1;have f2:ps[i+1]=e.2:=e3.symm.trans (congrArg Prod.snd e1);have a1:ps.idxOf ps[i]=i:=List.Nodup.idxOf_getElem nd i (by walk_at "o");have a2:ps.idxOf ps[i+1]=i+1:=List.Nodup.idxOf_getElem nd (i+1) o9;rw [<- f1,<- f2,a1,a2];walk_at "o"
theorem Q3.blank{k:Int}(h:Q3 ns k " "):False:=by
 have:=h.ok.1
 exact absurd this (by decide +kernel)
structure RulG(ns:List Int)(ls ms:List Str)(R:List Rl):Prop where
 p:∃ b,RulP ns ls ms b 12 R/\(b=false->ms=[])
 l0:2<=ls.length
 l1:ls.length<=19
 ld:Dis ns LetS ls
 lw:∃ n,LetW ns n ls
 m1:ms.length<=4
 md:Dis ns MarkS ms
theorem RulG.pc{R:List Rl}(h:RulG ns ls ms R)(hp:p∈(C8 R).map (·.1)):∃ k,Q3 ns k p:=by
 obtain ⟨b,h,_⟩:=h.p;obtain ⟨k,_,q⟩:=h.dis.pc p hp;exact ⟨k,q⟩
theorem RulG.nd{R:List Rl}(h:RulG ns ls ms R):((C8 R).map (·.1)).Nodup:=by
 obtain ⟨b,h,_⟩:=h.p;exact h.dis.nd
theorem RulG.row{R:List Rl}(h:RulG ns ls ms R):rowsW R "row"=[ls]:=by
 obtain ⟨b,h,_⟩:=h.p;exact h.row
theorem RulG.mrk{R:List Rl}(h:RulG ns ls ms R):(rowsW R "marks").flatten=ms/\(edges (rowsW R "marks")=U5 ms):=by
 obtain ⟨b,h,hb⟩:=h.p;rw [h.mrk]
 cases b with
 | true=>simp [edges]
 | false=>rw [hb rfl];exact ⟨rfl,rfl⟩
theorem RulG.len{R:List Rl}(h:RulG ns ls ms R):R.length<=12:=by
 obtain ⟨b,h,_⟩:=h.p;exact h.len
theorem RulG.each{R:List Rl}(h:RulG ns ls ms R){z:Rl}(hz:z∈R):z=(("row" : Str),ls)\/z=(("marks" : Str),ms)\/OthZ ls ms z\/(z.2=[]/\flagW z.1):=by
 obtain ⟨b,h,_⟩:=h.p
 rcases h.each z hz with q | q | q | q
 ·exact .inl q
 ·exact .inr (.inl q.1)
 ·exact .inr (.inr (.inl q))
 ·exact .inr (.inr (.inr q))
theorem RulG.zl{R:List Rl}(h:RulG ns ls ms R){z:Rl}(hz:z∈R):z.2.length<=19:=by
 have h1:=h.l1;have h2:=h.m1
 rcases h.each hz with rfl | rfl | q | q
 ·exact h1
 ·show ms.length<=19;walk_at "o"
 ·rcases q with ⟨_,l,fs,e,_,_,q⟩ | ⟨_,p,q,qs,e,_,_,l⟩ | ⟨_,l⟩
  ·rw [e,K3];walk_at "o"
  ·rw [e,K3,K3];walk_at "o"
  ·walk_at "o"
 ·rw [q.1];exact G2 _
theorem RulG.job{R:List Rl}(h:RulG ns ls ms R){j:Str}(hp:(p,j)∈C8 R):jW R p=j:=by
 unfold jW;rw [lookN h.nd hp];rfl
theorem RulG.letter{R:List Rl}(h:RulG ns ls ms R) : (p,("letter" : Str))∈C8 R↔p∈ls:=by
 rw [mem_letter,h.row];simp
theorem RulG.mark{R:List Rl}(h:RulG ns ls ms R) : (p,("mark" : Str))∈C8 R↔p∈ms:=by
 rw [mem_mark,h.mrk.1]
theorem RulG.good{R:List Rl}(h:RulG ns ls ms R):GoodR (jW R) (ls.idxOf ·) (ms.idxOf ·) R:=by
 have hl:=h.len;have M8:=wX (n:=19) fun z hz=>h.zl hz
 refine ⟨by walk_at "o",by walk_at "o",fun i p j hi=>⟨?_,fun hm=>?_,fun hf=>?_,?_⟩,fun hb=>?_,fun z hz=>by have:=h.zl hz;walk_at "o",fun z hz hw=>?_,fun z hz hw p hp=>?_,fun z hz hw p hp=>?_,fun z hz hw p hp=>?_,?_,?_,fun e he=>?_,fun e he=>?_⟩
 ·exact (h.job (M9 hi)).symm
 ·exfalso
  obtain ⟨⟨p',j'⟩,hm',rfl⟩:=D3.mp hm;obtain ⟨k,hk,e⟩:=qF.mp hm';have o9:=(G1.mp hi)
  obtain ⟨o9,e2⟩:=o9;have nd:=h.nd;rw [cQ,List.pairwise_map,eX] at nd;refine nd k i (by walk_at "o") o9 (by walk_at "o") ?_;rw [e,e2]
 ·obtain ⟨b,hP,_⟩:=h.p;obtain ⟨k,hk⟩:=h.pc (D3.mpr ⟨_,M9 hi,rfl⟩);exact hk.ok.2 (hP.fig hf)
 ·obtain ⟨k,hk⟩:=h.pc (D3.mpr ⟨_,M9 hi,rfl⟩)
  have:p.length<=2:=(fR hk.ok.1).2.2
  walk_at "o"
 ·obtain ⟨k,hk⟩:=h.pc hb;exact hk.blank
 ·rcases h.each hz with rfl | rfl | q | q
  ·rcases hw with hw | hw <;> exact absurd (show Str.ofString "row"=_ from hw) (by decide +kernel)
  ·rcases hw with hw | hw <;> exact absurd (show Str.ofString "marks"=_ from hw) (by decide +kernel)
  ·rcases q with ⟨_,l,fs,e,_⟩ | ⟨_,p,q,qs,e,_⟩ | ⟨e,_⟩
   ·rw [e];simp
   ·rw [e];simp
   ·rw [e] at hw;rcases hw with hw | hw <;> exact absurd hw (by decide +kernel)
  ·have:=q.2.no
   rcases hw with hw | hw
   ·exact absurd hw this.2.2.2.1
   ·exact absurd hw this.2.2.1
 ·rcases h.each hz with rfl | rfl | q | q
  ·exact absurd (show Str.ofString "row"=_ from hw) (by decide +kernel)
  ·exact absurd (show Str.ofString "marks"=_ from hw) (by decide +kernel)
  ·rcases q with ⟨_,l,fs,e,hl,_⟩ | ⟨e,_⟩ | ⟨e,_⟩
   ·rw [e] at hp
    have:p=l:=by simpa using hp
    rw [this];exact h.letter.mpr hl
   ·rw [e] at hw;exact absurd hw (by decide +kernel)
   ·rw [e] at hw;exact absurd hw (by decide +kernel)
  ·exact absurd hw q.2.no.2.2.1
 ·rcases h.each hz with rfl | rfl | q | q
  ·exact absurd (show Str.ofString "row"=_ from hw) (by decide +kernel)
  ·exact absurd (show Str.ofString "marks"=_ from hw) (by decide +kernel)
  ·rcases q with ⟨e,_⟩ | ⟨_,x,q,qs,e,hq,_⟩ | ⟨e,_⟩
   ·rw [e] at hw;exact absurd hw (by decide +kernel)
   ·rw [e] at hp
    have:p=q:=by simpa using hp
    rw [this];exact h.letter.mpr hq
   ·rw [e] at hw;exact absurd hw (by decide +kernel)
  ·exact absurd hw q.2.no.2.2.2.1
 ·rcases h.each hz with rfl | rfl | q | q
  ·exact absurd (show Str.ofString "row"=_ from hw) (by decide +kernel)
  ·exact absurd (show Str.ofString "marks"=_ from hw) (by decide +kernel)
  ·rcases q with ⟨e,_⟩ | ⟨_,x,q,qs,e,_,hq,_⟩ | ⟨e,_⟩
   ·rw [e] at hw;exact absurd hw (by decide +kernel)
   ·rw [e] at hp;have hp:p∈qs:=by simpa using hp
    exact (hq p hp).imp h.letter.mpr h.mark.mpr
   ·rw [e] at hw;exact absurd hw (by decide +kernel)
  ·exact absurd hw q.2.no.2.2.2.1
 ·rw [h.row];have:=h.l1;simp;walk_at "o"
 ·rw [h.mrk.1];have:=h.m1;walk_at "o"
 ·rw [h.row] at he;have he:e∈U5 ls:=by simpa [edges] using he
  exact ag7 h.ld.nd he
 ·rw [h.mrk.2] at he;exact ag7 h.md.nd he
theorem RulG.lets{R:List Rl}(h:RulG ns ls ms R)(hL:R1 R "row" L):L=ls:=by
 refine ak9 h.ld.nd (jM _) hL.1 hL.2 (fun p=>?_) fun e he=>?_
 ·rw [wQ,h.row];simp
 ·rw [h.row];simpa [edges] using he
theorem RulG.mrks{R:List Rl}(h:RulG ns ls ms R)(hM:R1 R "marks" M):M=ms:=by
 refine ak9 h.md.nd (jM _) hM.1 hM.2 (fun p=>?_) fun e he=>?_
 ·rw [wQ,h.mrk.1]
 ·rw [h.mrk.2];exact he
theorem RulesAt.more{ts:List Addr}{R:List Rl}(h:RulesAt H0 H a ts R)(S:Same H H'):RulesAt H0 H' a ts R:=⟨h.rows.same S,h.nd,h.new,h.same.trans S⟩
theorem wY{b:Bool}{R:List Rl}{H8:Hp}{ts:List Addr}{w:Str}(RA:RulesAt H H8 r ts R)(P:RulP ns ls ms b n R)(hn:n<=100)(hw:flagW w)(hf:w=("figures" : Str)->P9 ns=false) :
  bB K "list" (V.ref r) H8/\1<=sizeLine/\∀ p:Addr,H8 p=none->jC (V.ref r) [V.ref p] (A0 H8 p (HO.tup [V.str w])) fun x H1=>∃ ts R,RulesAt H H1 r ts R/\RulP ns ls ms b (n+1) R:=by
 refine ⟨Q2 RA.rows.top,by decide,fun p np=>?_⟩;have S:Same H8 (A0 H8 p (HO.tup [V.str w])):=Same.new np;have hl:=P.len;exact appOk (S _ _ RA.rows.top) (by rw [A6,RA.rows.len];exact G7 (by walk_at "o")) ⟨_,_,RA.grow S np (z:=(w,[])) A5,P.flag hw hf⟩
theorem RulG.name_letter{R:List Rl}(h:RulG ns ls ms R)(hp:p∈(C8 R).map (·.1)){k:Int}(k0:0<=k)(k1:k<16)(hk:Q3 ns k p):p∈ls:=by
 obtain ⟨b,P,hb⟩:=h.p;obtain ⟨⟨q,j⟩,hq,rfl⟩:=D3.mp hp;obtain ⟨z,hz,ht,_⟩:=mem_pairs.mp hq
 rcases P.each z hz with rfl | ⟨rfl,_⟩ | ho | ⟨e,hw⟩
 ·rw [V5.2.2 (.inl rfl)] at ht;exact ht
 ·rw [V5.2.2 (.inr (.inl rfl))] at ht;obtain ⟨i,hi,pi⟩:=h.md.pc _ ht;unfold MarkS at hi
  have:=hk.inj pi k0 (by walk_at "o") (by walk_at "o") (by walk_at "o")
  walk_at "o"
 ·obtain ⟨i,hi,pi⟩:=P.oi z hz ho _ ht;have hi:=OS_lt hi
  have:=hk.inj pi k0 (by walk_at "o") (by walk_at "o") (by walk_at "o")
  walk_at "o"
 ·obtain ⟨w,ps⟩:=z;obtain rfl:ps=[]:=e;rw [wW hw] at ht;cases ht
theorem m9(c d:Nat):(M6 c d).cps.toList=[c,d]:=rfl
theorem dL(c:Nat):(one c).cps.toList=[c]:=rfl
theorem RulG.closed{R:List Rl}(h:RulG ns ls ms R){c d e:Nat}(h1:one c∈(C8 R).map (·.1))(h2:M6 c d∈(C8 R).map (·.1))(h3:M6 d e∈(C8 R).map (·.1)):one e∈(C8 R).map (·.1):=by
 obtain ⟨b,P,hb⟩:=h.p;obtain ⟨n,W⟩:=h.lw;have pair:∀ {x y:Nat},M6 x y∈ls->∃ m:Int,0<=m/\m<n/\y=K5 ns m:=fun {x y} hm=>by
  obtain ⟨k,_,_,q | ⟨m,m0,m1,q⟩⟩:=W.each _ hm
  ·have:=congrArg (fun z:Str=>z.cps.toList.length) q
   simp [m9,dL] at this
  ·refine ⟨m,m0,m1,?_⟩
   have:=congrArg (fun z:Str=>z.cps.toList) q
   rw [m9] at this;have e2:(one (K5 ns k)++one (K5 ns m)).cps.toList=[K5 ns k,K5 ns m]:=rfl;rw [e2] at this
   simpa using (b9.inj this).2
 obtain ⟨k,hk,pk⟩:=P.dis.pc _ h2;have hkk:0<=k/\k<83:=by
  rcases hk with q | q | q
  ·unfold LetS at q;walk_at "o"
  ·have:=OS_lt q;walk_at "o"
  ·have:=q.2;unfold MarkS at this;walk_at "o"
 have ek:c=K5 ns k:=by
  obtain ⟨r,e1,_⟩:=pk;rw [m9] at e1;exact (b9.inj e1).1
 have pc1:Q3 ns k (one c):=⟨[],by rw [<- ek];rfl,by simp,by simp⟩
 have k16:k<16:=by
  rcases hk with q | q | q
  ·exact q.2
  ·exfalso
   have:=P.dis.uq _ h1 _ h2 k (by have:=OS_lt q;walk_at "o") hkk.2 pc1 pk
   have:=congrArg (fun z:Str=>z.cps.toList.length) this
   simp [m9,dL] at this
  ·exfalso
   have q2:=q.2;unfold MarkS at q2
   have:=P.dis.uq _ h1 _ h2 k (by walk_at "o") hkk.2 pc1 pk
   have:=congrArg (fun z:Str=>z.cps.toList.length) this
   simp [m9,dL] at this
 obtain ⟨m,m0,m1,ed⟩:=pair (h.name_letter h2 hkk.1 k16 pk);have n1:=W.n1;obtain ⟨k3,pB,pk3⟩:=P.dis.pc _ h3;have pm:Q3 ns m (M6 d e):=by
  obtain ⟨r,e1,hr,hr2⟩:=pk3;rw [m9] at e1;refine ⟨[e],by rw [<- ed];rfl,by simp,fun x hx=>hr2 x ?_⟩;rw [<- (b9.inj e1).2];exact hx
 obtain ⟨m',m0',m1',ee⟩:=pair (h.name_letter h3 m0 (by walk_at "o") pm);rw [ee]
 have:=h.letter.mpr (W.all m' m0' m1')
 exact D3.mpr ⟨_,this,rfl⟩
theorem RulG.str{R:List Rl}(h:RulG ns ls ms R):∀ z∈R,∀ y∈z.1::z.2,V1 y=true:=fun z hz y hy=>by
 have pl:∀ p∈ls,V1 p=true:=fun p hp=>by obtain ⟨k,_,q⟩:=h.ld.pc p hp;exact (fR q.ok.1).1
 have pm:∀ p∈ms,V1 p=true:=fun p hp=>by obtain ⟨k,_,q⟩:=h.md.pc p hp;exact (fR q.ok.1).1
 have pt:∀ p∈M7 z,V1 p=true:=fun p hp=>by
  obtain ⟨k,q⟩:=h.pc (D3.mpr ⟨_,mem_pairs.mpr ⟨z,hz,hp,rfl⟩,rfl⟩);exact (fR q.ok.1).1
 have pw:∀ w:Str,(w="row"\/w="marks"\/w="great"\/w="as"\/w="over"\/w="figures"\/w="behind"\/w="blanks")->V1 w=true:=fun w hw=>by
  rcases hw with rfl | rfl | rfl | rfl | rfl | rfl | rfl | rfl <;> decide +kernel
 rcases h.each hz with rfl | rfl | q | q
 ·rcases F9.mp hy with rfl | hy
  ·exact pw _ (.inl rfl)
  ·exact pl y hy
 ·rcases F9.mp hy with rfl | hy
  ·exact pw _ (.inr (.inl rfl))
  ·exact pm y hy
 ·rcases q with ⟨w,l,fs,e,hl,_⟩ | ⟨w,p,q,qs,e,hq,cC,_⟩ | ⟨w,_⟩
  ·rw [V5.1 w,e] at pt;rw [w,e] at hy
   rcases F9.mp hy with rfl | hy
   ·exact pw _ (.inr (.inr (.inl rfl)))
   ·rcases F9.mp hy with rfl | hy
    ·exact pl _ hl
    ·exact pt y hy
  ·rw [V5.2.1 w,e] at pt;rw [w,e] at hy
   rcases F9.mp hy with rfl | hy
   ·exact pw _ (.inr (.inr (.inr (.inl rfl))))
   ·rcases F9.mp hy with rfl | hy
    ·exact pt _ (by simp)
    ·rcases F9.mp hy with rfl | hy
     ·exact pl _ hq
     ·exact (cC y hy).elim (pl y) (pm y)
  ·rw [V5.2.2 (.inr (.inr w))] at pt;rw [w] at hy
   rcases F9.mp hy with rfl | hy
   ·exact pw _ (.inr (.inr (.inr (.inr (.inl rfl)))))
   ·exact pt y hy
 ·rw [q.1] at hy;have hy:y=z.1:=by simpa using hy
  rw [hy]
  rcases q.2 with e | e | e <;> rw [e] <;> decide +kernel
noncomputable def spLaw (K:PySem.W.Frag):Sp:=fun vs H Q _=>∃ (a:Addr) (ns:List Int),vs=[.ref a]/\E2 K H a (ns.map V.int)/\ns.length<=63/\∀ H',Q (.bl true) H'
noncomputable def aiW (K:PySem.W.Frag):Sp:=fun vs H Q _=>∃ (a:Addr) (ns:List Int),vs=[.ref a]/\E2 K H a (ns.map V.int)/\∀ l ts R ls ms H',Same H H'->H l=none->IsRules H' l ts R->RulG ns ls ms R->Q (.ref l) H'
end L2
set_option maxRecDepth 100000
namespace L2
open PySem PySem.Spec PyProof.Rows
noncomputable def rIntU:List V->Hp->VK->Prop
 | [.bl b],H,Q=>Q (.int (if b then 1 else 0)) H
 | [.str x],H,Q=>PySem.NumText.AllDigits x.cps.toList/\1<=x.length/\x.length<=640/\Q (.int ((mB x.cps.toList:Nat):Int)) H
 | _,_,_=>False
theorem mX : QCall X (.type "int") rIntU:=⟨by
 intro pins s σ H xs us Q I r h
 match xs,h with
 | [.bl b],h=>exact ake pins s σ H _ us Q I r (.inr ⟨b,rfl,h⟩)
 | [.str x],h=>
  obtain ⟨h1,h2,h3,q⟩:=h;obtain ⟨u,rfl,r1⟩:=vals1 r;obtain ⟨t,rfl⟩:=r1;have L0:x.cps.toList≠[]:=fun e=>by
   have:x.cps.toList.length=x.length:=by simp [Str.length]
   rw [e] at this;simp at this;walk_at "o"
  exact PySem.W.KIN.call_text (PySem.intText_digits h1 L0 (by walk_at "o")) h3 ⟨V.int ((mB x.cps.toList:Nat):Int),H,I.tok _,⟨_,rfl⟩,q⟩⟩
theorem arH{b:Bool} : rIntU [.bl b] H Q=Q (.int (if b then 1 else 0)) H:=rfl
theorem arI{x:Str} : rIntU [.str x] H Q=(PySem.NumText.AllDigits x.cps.toList/\1<=x.length/\x.length<=640/\Q (.int ((mB x.cps.toList:Nat):Int)) H):=rfl
noncomputable def rInD (K:PySem.W.Frag) (x y:V) (H:Hp) (Q:VK):Prop:=∃ (d:PyData) (ds:List PyData),Dn K H x d/\Dn K H y (.list ds)/\min (z8 ds) d.depth<=60/\Q (.bl (ds.any fun e=>Q9 e d)) H
theorem q_inD(hu:X.A.units+64<cLine)(hK:X.K=K:=by rfl):QOp X (compareOp .In) (rInD K):=by
 subst hK;refine ⟨?_⟩;intro pins s σ H x y v u Q I rx ry h;obtain ⟨d,ds,h1,h2,h3,q⟩:=h;obtain ⟨c1,as1,r1⟩:=h1.reads I rfl rx;obtain ⟨c2,pC,r2⟩:=h2.reads I rfl ry;exact SeqAt.in_list_reads r2 r1 c2 c1 (by walk_at "o") ⟨.bl _,H,I,rfl,q⟩
theorem arJ : rInD K x y H Q=∃ (d:PyData) (ds:List PyData),Dn K H x d/\Dn K H y (.list ds)/\min (z8 ds) d.depth<=60/\Q (.bl (ds.any fun e=>Q9 e d)) H:=rfl
end L2
set_option maxRecDepth 100000
namespace L2
open PySem PySem.Spec PyProof.Rows
open PySem.Builtin PySem.Builtin.Str PySem.StrLaws
noncomputable def arK:List V->Hp->VK->Prop:=fun xs H Q=>∃ n,xs=[.int n]/\n.natAbs.log2<1920/\Q (.str (Str.ofString (toString n))) H
theorem aoY : QCall X (.type "str") arK:=⟨by
 intro pins s σ H xs us Q I r h;obtain ⟨n,rfl,hn,q⟩:=h
 cases r with
 | cons r1 r2=>
  cases r2
  obtain ⟨t,rfl⟩:=r1;exact PySem.P.str_of_int hn ⟨.str _,H,I.tok _,⟨_,rfl⟩,q⟩⟩
theorem ae6:∀ (k fuel n:Nat) (ds:List Char),n<10 ^ (k+1)->(Nat.toDigitsCore 10 fuel n ds).length<=k+1+ds.length
 | k,0,n,ds,_=>by simp [Nat.toDigitsCore]
 | 0,fuel+1,n,ds,h=>by
  unfold Nat.toDigitsCore
  have:n / 10=0:=by walk_at "o"
  simp only [this,if_true,K3];walk_at "o"
 | k+1,fuel+1,n,ds,h=>by
  unfold Nat.toDigitsCore;simp only
  split
  ·simp;walk_at "o"
  ·have:=ae6 k fuel (n / 10) (Nat.digitChar (n % 10)::ds) (by rw [Nat.div_lt_iff_lt_mul (by decide)];rw [Nat.pow_succ] at h;exact h)
   simp at this ⊢
   walk_at "o"
noncomputable def rTupA (K:PySem.W.Frag):R2:=fun x y H Q=>∃ a b xs ys,x=.ref a/\y=.ref b/\C7 K H a xs/\C7 K H b ys/\ys≠[]/\xs.length+ys.length<=sizeLine/\∀ p H',Same H H'->C7 K H' p (xs++ys)->(H' p=some (.tup (xs++ys))\/xs=[]/\p=b)->Q (.ref p) H'
theorem arL : rTupA K (.ref a) (.ref b) H Q=∃ xs ys,C7 K H a xs/\C7 K H b ys/\ys≠[]/\xs.length+ys.length<=sizeLine/\∀ p H',Same H H'->C7 K H' p (xs++ys)->(H' p=some (.tup (xs++ys))\/xs=[]/\p=b)->Q (.ref p) H':=
 propext ⟨fun ⟨_,_,xs,ys,e1,e2,h⟩=>(by cases e1;cases e2;exact ⟨xs,ys,h⟩),fun ⟨xs,ys,h⟩=>⟨a,b,xs,ys,rfl,rfl,h⟩⟩
end L2
set_option maxRecDepth 100000
namespace L2
open PySem PySem.Spec PyProof.Rows
theorem anu{d:Value}(h:(us++[d]).length=3):∃ u1 u2,us=[u1,u2]:=by
 match us,h with
 | [a,b],_=>exact ⟨a,b,rfl⟩
 | [],h=>simp at h
 | [_],h=>simp at h
 | _::_::_::r,h=>simp at h
theorem jX(g:List Str)(z:Str):(valV (kvOf g) (Sum.inr z)).isSome=decide (z∈g):=by
 rw [<- vJ];unfold valV;rw [Option.isSome_map,List.isSome_find?]
theorem wZ{y rest:List Nat}(h:z.cps.toList=pre++(y++rest)):cutS z (some (pre.length:Int)) (some ((pre.length:Int)+(y.length:Int)))=⟨y.toArray⟩:=by
 have hl:z.length=pre.length+(y.length+rest.length):=by
  have:=congrArg i3 h
  simp [Str.length] at this ⊢
  walk_at "o"
 apply Str.ext'
 apply Array.toList_inj.mp
 rw [agP,h];have e1:HT.sIx z.length 0 (some (pre.length:Int))=pre.length:=by rw [HT.sIx_nat];walk_at "o"
 have e2:HT.sIx z.length z.length (some ((pre.length:Int)+(y.length:Int)))=pre.length+y.length:=by
  rw [show (pre.length:Int)+(y.length:Int)=((pre.length+y.length:Nat):Int) by walk_at "o",HT.sIx_nat];walk_at "o"
 rw [e1,e2,List.drop_left,show pre.length+y.length-pre.length=y.length by walk_at "o",List.take_left]
theorem ag9{c:Nat}(h:z.cps.toList=pre++[c]):cutS z (some (pre.length:Int)) (some ((pre.length:Int)+2))=one c:=by
 have hl:z.length=pre.length+1:=by
  have:=congrArg i3 h
  simp [Str.length] at this ⊢
  walk_at "o"
 apply Str.ext'
 apply Array.toList_inj.mp
 rw [agP,h];have e1:HT.sIx z.length 0 (some (pre.length:Int))=pre.length:=by rw [HT.sIx_nat];walk_at "o"
 have e2:HT.sIx z.length z.length (some ((pre.length:Int)+2))=pre.length+1:=by
  rw [show (pre.length:Int)+2=((pre.length+2:Nat):Int) by walk_at "o",HT.sIx_nat];walk_at "o"
 rw [e1,e2,List.drop_left,show pre.length+1-pre.length=1 by walk_at "o"];rfl
theorem alf{r:List Nat}{c:Nat} : J8 (pre++c::r) (pre.length:Int)=some c:=O1 (by rw [eW (C2 _),Nat.sub_self];rfl)
theorem afN:∀ (zs acc:List Str),Y1 (kvOf acc) (kvOf zs)=kvOf (G3 acc zs)
 | [],acc=>rfl
 | z::zs,acc=>by
  show Y1 (putK (kvOf acc) (Sum.inr z) (.bl true)) (kvOf zs)=kvOf (G3 (dd acc z) zs);rw [agN,afN zs]
noncomputable def alg:Sp:=fun vs H Q _=>∃ (z:Str) (pre rest:List Nat),vs=[.str z,.int pre.length]/\z.length<=1000/\z.cps.toList=pre++rest/\Q (.str ⟨(rest.takeWhile figO).toArray⟩) H
theorem aiX(h:(us++[]).length=3):∃ u1 u2 u3,us=[u1,u2,u3]:=by
 match us,h with
 | [a,b,c],_=>exact ⟨a,b,c,rfl⟩
 | [],h=>simp at h
 | [_],h=>simp at h
 | [_,_],h=>simp at h
 | _::_::_::_::r,h=>simp at h
theorem lenL(z:Str):z.cps.toList.length=z.length:=by simp [Str.length]
noncomputable def partG (g:List Str):List Nat->Option Str
 | []=>none
 | [c]=>if one c∈g then some (one c) else none
 | c::d::_=>if M6 c d∈g then some (M6 c d) else if one c∈g then some (one c) else none
theorem jY(g:List Str)(c:Nat):partG g [c]=if one c∈g then some (one c) else none:=rfl
theorem u8(g:List Str)(c d:Nat)(r:List Nat):partG g (c::d::r)=if M6 c d∈g then some (M6 c d) else if one c∈g then some (one c) else none:=rfl
noncomputable def partF (w:Bool) (g:List Str):List Nat->Option Str
 | []=>none
 | c::r=>if (w&&figO c)=true then some ⟨((c::r).takeWhile figO).toArray⟩ else partG g (c::r)
theorem gD(w:Bool)(g:List Str)(c:Nat)(r:List Nat):partF w g (c::r)=if (w&&figO c)=true then some ⟨((c::r).takeWhile figO).toArray⟩ else partG g (c::r):=rfl
theorem afO{g:List Str}{y:Str} : ∀ {l:List Nat},partG g l=some y->∃ rest,l=y.cps.toList++rest/\1<=y.length
 | [],h=>by cases h
 | [c],h=>by
  rw [jY] at h
  by_cases hc:one c∈g
  ·rw [if_pos hc] at h;cases h;exact ⟨[],rfl,by show 1<=1;decide⟩
  ·rw [if_neg hc] at h;cases h
 | c::d::r,h=>by
  rw [u8] at h
  by_cases h2:M6 c d∈g
  ·rw [if_pos h2] at h;cases h;exact ⟨r,rfl,by show 1<=2;decide⟩
  ·rw [if_neg h2] at h
   by_cases hc:one c∈g
   ·rw [if_pos hc] at h;cases h;exact ⟨d::r,rfl,by show 1<=1;decide⟩
   ·rw [if_neg hc] at h;cases h
theorem ahX{g:List Str}(h:∀ x,x∈g↔x∈g'):∀ l,partG g l=partG g' l
 | []=>rfl
 | [c]=>by
  rw [jY,jY]
  by_cases hc:one c∈g
  ·rw [if_pos hc,if_pos ((h _).mp hc)]
  ·rw [if_neg hc,if_neg (fun z=>hc ((h _).mpr z))]
 | c::d::r=>by
  rw [u8,u8]
  by_cases h2:M6 c d∈g
  ·rw [if_pos h2,if_pos ((h _).mp h2)]
  ·rw [if_neg h2,if_neg (fun z=>h2 ((h _).mpr z))]
   by_cases hc:one c∈g
   ·rw [if_pos hc,if_pos ((h _).mp hc)]
   ·rw [if_neg hc,if_neg (fun z=>hc ((h _).mpr z))]
theorem ahY{w:Bool}{g:List Str}(h:∀ x,x∈g↔x∈g')(l:List Nat):partF w g l=partF w g' l:=by
 cases l with
 | nil=>rfl
 | cons c r=>rw [gD,gD,ahX h]
theorem afP{w:Bool}{g:List Str}{y:Str}{l:List Nat}(h:partF w g l=some y):∃ rest,l=y.cps.toList++rest/\1<=y.length:=by
 cases l with
 | nil=>cases h
 | cons c r=>
  rw [gD] at h
  by_cases hw:(w&&figO c)=true
  ·rw [if_pos hw] at h;cases h;rw [T4] at hw;refine ⟨(c::r).dropWhile figO,(List.takeWhile_append_dropWhile).symm,?_⟩;show 1<=((c::r).takeWhile figO).length;rw [List.takeWhile_cons_of_pos hw.2]
   simp
  ·rw [if_neg hw] at h;exact afO h
noncomputable def cutFn (w:Bool) (g:List Str):Nat->List Nat->Nat×List Str
 | 0,_=>(0,[])
 | n+1,l=>match partF w g l with
  | none=>(0,[])
  | some y=>((cutFn w g n (l.drop y.length)).1+y.length,y::(cutFn w g n (l.drop y.length)).2)
noncomputable def cutF (w:Bool) (g:List Str) (l:List Nat):Nat×List Str:=cutFn w g l.length l
theorem afQ(w:Bool)(g:List Str):∀ (n m:Nat) (l:List Nat),l.length<=n->l.length<=m->cutFn w g n l=cutFn w g m l
 | 0,0,_,_,_=>rfl
 | 0,m+1,l,h,_=>by
  have:l=[]:=aS.mp (by walk_at "o")
  subst this;rfl
 | n+1,0,l,_,h=>by
  have:l=[]:=aS.mp (by walk_at "o")
  subst this;rfl
 | n+1,m+1,l,h1,h2=>by
  cases e:partF w g l with
  | none=>show (match partF w g l with | none=>_ | some y=>_)=(match partF w g l with | none=>_ | some y=>_);rw [e]
  | some y=>
   obtain ⟨rest,e1,e2⟩:=afP e;have hd:(l.drop y.length).length=l.length-y.length:=W2
   have:=afQ w g n m (l.drop y.length) (by walk_at "o") (by walk_at "o")
   show (match partF w g l with | none=>_ | some y=>_)=(match partF w g l with | none=>_ | some y=>_);rw [e]
   dsimp only
   rw [this]
theorem mY{w:Bool}{g:List Str}{l:List Nat}(h:partF w g l=none):cutF w g l=(0,[]):=by
 unfold cutF;cases hl:l.length with
 | zero=>rfl
 | succ n=>
  show (match partF w g l with | none=>_ | some y=>_)=_;rw [h]
theorem mZ(w:Bool)(g:List Str):cutF w g []=(0,[]):=rfl
theorem jZ{w:Bool}{g:List Str}{y:Str}{l:List Nat}(h:partF w g l=some y):∃ rest,l=y.cps.toList++rest/\cutF w g l=((cutF w g rest).1+y.length,y::(cutF w g rest).2)/\1<=y.length:=by
 obtain ⟨rest,e1,e2⟩:=afP h;refine ⟨rest,e1,?_,e2⟩;have el:l.length=y.length+rest.length:=by rw [e1,C5,lenL]
 have ed:l.drop y.length=rest:=by rw [e1,<- lenL,List.drop_left]
 unfold cutF;cases hl:l.length with
 | zero=>walk_at "o"
 | succ k=>
  show (match partF w g l with | none=>_ | some y=>_)=_;rw [h]
  dsimp only
  rw [ed,afQ w g k rest.length rest (by walk_at "o") (C2 _)]
theorem ajF{w:Bool}{g:List Str}(h:∀ x,x∈g↔x∈g')(l:List Nat):cutF w g l=cutF w g' l:=by
 have:∀ n l,cutFn w g n l=cutFn w g' n l:=by
  intro n
  induction n with
  | zero=>intro l;rfl
  | succ n ih=>
   intro l;show (match partF w g l with | none=>_ | some y=>_)=(match partF w g' l with | none=>_ | some y=>_);rw [ahY h]
   cases partF w g' l with
   | none=>rfl
   | some y=>dsimp only;rw [ih]
 exact this _ _
theorem rV{w:Bool}{g:List Str} : ∀ (n:Nat) (l:List Nat),l.length<=n->(cutF w g l).1<=l.length/\(cutF w g l).2.length<=l.length/\∀ y∈(cutF w g l).2,∀ c∈y.cps.toList,c∈l
 | 0,l,h=>by
  have:l=[]:=aS.mp (by walk_at "o")
  subst this;rw [mZ];exact ⟨C2 _,C2 _,by simp⟩
 | n+1,l,h=>by
  cases e:partF w g l with
  | none=>rw [mY e];exact ⟨G2 _,G2 _,by simp⟩
  | some y=>
   obtain ⟨rest,e1,e2,e3⟩:=jZ e;have hl:l.length=y.length+rest.length:=by rw [e1,C5,lenL]
   obtain ⟨a,b,c⟩:=rV (w:=w) (g:=g) n rest (by walk_at "o");rw [e2];refine ⟨by dsimp only;walk_at "o",by dsimp only;rw [K3];walk_at "o",fun z hz x hx=>?_⟩;rw [e1]
   rcases F9.mp hz with r | r
   ·rw [r] at hx;exact E1.mpr (.inl hx)
   ·exact E1.mpr (.inr (c z r x hx))
noncomputable def n6 (w:Bool) (g:List Str) (z:Str):Prop:=(cutF w g z.cps.toList).1=z.length
noncomputable def alh:Sp:=fun vs H Q _=>∃ (d:Addr) (z:Str) (g:List Str) (pre:List Nat) (c:Nat) (r:List Nat) (w:Bool) (y:Str),vs=[.ref d,.str z,.int pre.length,.bl w]/\H d=some (.dK (kvOf g))/\z.length<=1000/\z.cps.toList=pre++c::r/\partF w g (c::r)=some y/\Q (.str y) H
noncomputable def rW (K:PySem.W.Frag):Sp:=fun vs H Q _=>∃ (a:Addr) (z:Str) (ks:List Str) (w:Bool),vs=[.ref a,.str z,.bl w]/\E2 K H a (ks.map V.str)/\ks.length<=1000/\z.length<=1000/\n6 w ks z/\
 ∀ l H',H l=none->Same H H'->H' l=some (.lst ((cutF w ks z.cps.toList).2.map V.str))->Q (.ref l) H'
noncomputable abbrev E9:=Int×Int×List Int×Int
noncomputable def addM (U:List E9) (p:Int):List E9:=match U.getLast? with
 | none=>[(0,0,[p],0)]
 | some u=>U.dropLast++[(u.1,u.2.1,u.2.2.1++[p],u.2.2.2)]
noncomputable def addS (U:List E9) (s:Tr):List E9:=if s.1=0 then addM U s.2.1 else U++[(s.1,s.2.1,[],s.2.2)]
noncomputable def UnAt (H:Hp) (e:Addr×Addr) (u:E9):Prop:=H e.1=some (.tup [.int u.1,.int u.2.1,.ref e.2,.int u.2.2.2])/\H e.2=some (.lst (u.2.2.1.map V.int))
structure UnI(H0 H:Hp)(l:Addr)(es:List (Addr×Addr))(U:List E9):Prop where
 top:H l=some (.lst (es.map fun e=>V.ref e.1))
 row:Paired (UnAt H) es U
 nd:(l::es.map (·.2)).Nodup
 new:∀ a∈l::es.map (·.2),H0 a=none
 same:Same H0 H
theorem UnI.more{l:Addr}{es:List (Addr×Addr)}{U:List E9}(h:UnI H0 H l es U)(S:Same H H'):UnI H0 H' l es U:=⟨S _ _ h.top,N0 h.row fun _ _ e=>⟨S _ _ e.1,S _ _ e.2⟩,h.nd,h.new,h.same.trans S⟩
theorem UnI.live{l:Addr}{es:List (Addr×Addr)}{U:List E9}(h:UnI H0 H l es U)(ha:a∈es.map (·.2)):∃ xs,H a=some (.lst xs):=by
 obtain ⟨e,he,rfl⟩:=D3.mp ha;obtain ⟨i,hi,q⟩:=Y9.mp he;obtain ⟨u,_,hu⟩:=Paired.at h.row (i:=i) (a:=e) (by rw [K8 hi,q]);exact ⟨_,hu.2⟩
theorem UnI.push{l m t:Addr}{es:List (Addr×Addr)}{U:List E9}(h:UnI H0 H l es U)(nm:H m=none){k w c:Int}(nt:A0 H m (.lst []) t=none) :
  UnI H0 (A0 (A0 (A0 H m (.lst [])) t (.tup [.int k,.int w,.ref m,.int c])) l (.lst ((es.map fun e=>V.ref e.1)++[V.ref t]))) l (es++[(t,m)]) (U++[(k,w,[],c)]):=by
 have nlm:l≠m:=fun e=>by have:=h.top;rw [e,nm] at this;cases this
 have nmt:m≠t:=fun e=>by rw [<- e,A5] at nt;cases nt
 have S:Same H (A0 (A0 H m (.lst [])) t (.tup [.int k,.int w,.ref m,.int c])):=(Same.new nm).trans (Same.new nt);have hl:=S _ _ h.top;have nlt:l≠t:=fun e=>by rw [<- e,(Same.new nm) _ _ h.top] at nt;cases nt
 have tN:=U8.mp h.nd;refine ⟨by rw [A5,D8];rfl,Paired.snoc (mN h.row fun e he u hu=>⟨?_,?_⟩) ⟨?_,?_⟩,?_,fun a ha=>?_,(h.same.trans S).put (h.new l M4)⟩
 ·rw [B1 (fun q=>by have:=S _ _ hu.1;rw [q,hl] at this;cases this)];exact S _ _ hu.1
 ·rw [B1 (fun q=>tN.1 (by rw [<- q];exact D3.mpr ⟨e,he,rfl⟩))];exact S _ _ hu.2
 ·rw [B1 nlt.symm,A5]
 ·rw [B1 nlm.symm,B1 nmt,A5];rfl
 ·rw [D8];exact qW h.nd fun q=>by
   rcases F9.mp q with q | q
   ·exact nlm q.symm
   ·obtain ⟨xs,hx⟩:=h.live q;rw [nm] at hx;cases hx
 ·rw [D8] at ha
  rcases F9.mp ha with q | q
  ·rw [q];exact h.new l M4
  ·rcases E1.mp q with q | q
   ·exact h.new a (M3 _ q)
   ·rw [E6.mp q];exact h.same.free nm
theorem UnI.mark{l:Addr}{es:List (Addr×Addr)}{e:Addr×Addr}{U:List E9}{u:E9}(h:UnI H0 H l (es++[e]) (U++[u]))(p:Int) :
  UnI H0 (A0 H e.2 (.lst (u.2.2.1.map V.int++[V.int p]))) l (es++[e]) (U++[(u.1,u.2.1,u.2.2.1++[p],u.2.2.2)]):=by
 obtain ⟨hr,he⟩:=vL h.row;have tN:=h.nd;have nl:l≠e.2:=fun q=>(U8.mp tN).1 (by rw [q];simp)
 have nn:∀ x∈es,x.2≠e.2:=fun x hx q=>by
  have:=(U8.mp tN).2
  rw [D8,aT] at this;exact this.2.2 x.2 (D3.mpr ⟨x,hx,rfl⟩) e.2 (by simp) q
 have nt:∀ {x:Addr×Addr} {v:E9},UnAt H x v->x.1≠e.2:=fun {x v} hx q=>by
  have:=hx.1;rw [q,he.2] at this;cases this
 refine ⟨by rw [B1 nl];exact h.top,Paired.snoc (mN hr fun x hx v hv=>⟨?_,?_⟩) ⟨?_,?_⟩,h.nd,h.new,h.same.put (h.new _ (M3 _ (by simp)))⟩
 ·rw [B1 (nt hv)];exact hv.1
 ·rw [B1 (nn x hx)];exact hv.2
 ·rw [B1 (nt he)];exact he.1
 ·rw [A5,D8];rfl
noncomputable def IsUn (H:Hp) (l:Addr) (U:List E9):Prop:=∃ es:List (Addr×Addr),H l=some (.lst (es.map fun e=>V.ref e.1))/\Paired (fun e (u:E9)=>H e.1=some (.tup [.int u.1,.int u.2.1,.ref e.2,.int u.2.2.2])/\H e.2=some (.tup (u.2.2.1.map V.int))) es U
theorem IsUn.same{l:Addr}{U:List E9}(h:IsUn H l U)(S:Same H H'):IsUn H' l U:=
 let ⟨es,h1,h2⟩:=h
 ⟨es,S _ _ h1,N0 h2 fun _ _ e=>⟨S _ _ e.1,S _ _ e.2⟩⟩
noncomputable def E5 (R:List Rl):List Str:=keysP (C8 R)++W4 R
noncomputable def O5 (S:Str->List Tr) (ps:List Str):List E9:=(ps.flatMap S).foldl addS []
noncomputable def xA (C:Addr):Sp:=fun vs H Q _=>∃ (x j ll ml md:Addr) (g:Str->Str) (R:List Rl) (L M:List Str),vs=[.ref x]/\IsOrd C H x j ll ml md g R L M/\∀ l,H l=none->Q (.ref l) (A0 H l (.lst ((E5 R).map V.str)))
noncomputable def rX (C:Addr):Sp:=fun vs H Q _=>∃ (x j ll ml md:Addr) (p:Str) (g:Str->Str) (R:List Rl) (L M:List Str),vs=[.ref x,.str p]/\IsOrd C H x j ll ml md g R L M/\∀ r H',Same H H'->StepAt H' r (stepF R L M p)->Q (.ref r) H'
noncomputable def aiZ (C:Addr):Sp:=fun vs H Q _=>∃ (x j ll ml md:Addr) (z:Str) (g:Str->Str) (R:List Rl) (L M:List Str),vs=[.ref x,.str z]/\IsOrd C H x j ll ml md g R L M/\(E5 R).length<=1000/\z.length<=1000/\n6 (hasW R "figures") (E5 R) z/\
 ∀ l H',H l=none->Same H H'->H' l=some (.lst ((cutF (hasW R "figures") (E5 R) z.cps.toList).2.map V.str))->Q (.ref l) H'
theorem xB{R:List Rl}(h:p∉allKs R L M):stepF R L M p=[]:=by
 unfold stepF
 have:(putsL R L M).lookup p=none:=by
  rw [List.lookup_eq_none_iff];intro e he
  have:e.1∈allKs R L M:=by rw [<- ag5];exact D3.mpr ⟨e,he,rfl⟩
  have ne:p≠e.1:=fun q=>h (by rw [q];exact this)
  simpa using ne
 rw [this];rfl
noncomputable def stepY (R:List Rl) (L M:List Str) (y:Str):List Tr:=if (hasW R "figures" && figO (y.cps.toList.headD 0))=true then [(1,((mB y.cps.toList:Nat):Int),0)] else stepF R L M y
theorem amQ{R:List Rl}(h:hasW R "figures"=false)(L M:List Str):stepY R L M=stepF R L M:=by
 funext y
 unfold stepY;rw [h,Bool.false_and,if_neg N2]
noncomputable def FigR (y:Str):Prop:=figO (y.cps.toList.headD 0)=true->PySem.NumText.AllDigits y.cps.toList
noncomputable def aha (C:Addr):Sp:=fun vs H Q _=>∃ (x j ll ml md:Addr) (c:Nat) (r:List Nat) (y:Str) (g:Str->Str) (R:List Rl) (L M:List Str),vs=[.ref x,.str y]/\y.cps.toList=c::r/\y.length<=640/\IsOrd C H x j ll ml md g R L M/\(hasW R "figures"=true->FigR y)/\∀ r H',Same H H'->StepAt H' r (stepY R L M y)->Q (.ref r) H'
noncomputable def ahb (K:PySem.W.Frag):Sp:=fun vs H Q _=>∃ (l:Addr) (p:Int) (H0:Hp) (es:List (Addr×Addr)) (U:List E9),vs=[.ref l,.int p]/\UnI H0 H l es U/\U.length<=10000/\(∀ u∈U,u.2.2.1.length<=10000)/\∀ es' H',UnI H0 H' l es' (addM U p)->Q .non H'
noncomputable def ahc (C:Addr):Sp:=fun vs H Q _=>∃ (x l j ll ml md:Addr) (c:Nat) (r:List Nat) (y:Str) (g:Str->Str) (R:List Rl) (L M:List Str) (H0:Hp) (es:List (Addr×Addr)) (U:List E9),vs=[.ref x,.ref l,.str y]/\y.cps.toList=c::r/\y.length<=640/\IsOrd C H0 x j ll ml md g R L M/\(hasW R "figures"=true->FigR y)/\UnI H0 H l es U/\(stepY R L M y).length<=1000/\U.length<=9000/\(∀ u∈U,u.2.2.1.length<=9000)/\
 ∀ es' H',UnI H0 H' l es' ((stepY R L M y).foldl addS U)->Q .non H'
theorem amR{U:List E9}{p:Int} : (addM U p).length<=U.length+1:=by
 unfold addM;cases e:U.getLast? with
 | none=>simp
 | some u=>simp only [C5,List.length_dropLast,N5];walk_at "o"
theorem ajG{U:List E9}{p:Int}(h:∀ u∈U,u.2.2.1.length<=n):∀ u∈addM U p,u.2.2.1.length<=n+1:=by
 unfold addM;cases e:U.getLast? with
 | none=>intro u hu;rw [E6.mp hu];simp
 | some v=>
  intro u hu
  rcases E1.mp hu with q | q
  ·have:=h u ((List.dropLast_sublist U).subset q);walk_at "o"
  ·rw [E6.mp q]
   have:=h v (List.mem_of_getLast? e)
   simp only [C5,N5];walk_at "o"
theorem amS{U:List E9}{s:Tr} : (addS U s).length<=U.length+1:=by
 unfold addS
 split
 ·exact amR
 ·simp
theorem ajH{U:List E9}{s:Tr}(h:∀ u∈U,u.2.2.1.length<=n):∀ u∈addS U s,u.2.2.1.length<=n+1:=by
 unfold addS
 split
 ·exact ajG h
 ·intro u hu
  rcases E1.mp hu with q | q
  ·have:=h u q;walk_at "o"
  ·rw [E6.mp q];exact G2 _
theorem xC:∀ (ss:List Tr) (U:List E9),(ss.foldl addS U).length<=U.length+ss.length
 | [],U=>C2 _
 | s::ss,U=>by
  rw [List.foldl_cons,K3];have h1:=xC ss (addS U s);have h2:=amS (U:=U) (s:=s);walk_at "o"
theorem xD:∀ (ss:List Tr) (U:List E9) (n:Nat),(∀ u∈U,u.2.2.1.length<=n)->∀ u∈ss.foldl addS U,u.2.2.1.length<=n+ss.length
 | [],U,n,h=>h
 | s::ss,U,n,h=>by
  intro u hu
  have:=xD ss (addS U s) (n+1) (ajH h) u hu
  rw [K3];walk_at "o"
theorem ali(f b:Bool)(j ll ml md:Addr):(ordF f b j ll ml md).lookup ("made" : Str)=some (V.ref md):=by
 unfold ordF;rw [N3,if_pos rfl]
noncomputable def cutH (H:Hp) (as:List Addr):Hp:=fun a=>if a∈as then none else H a
theorem kA(H:Hp)(as:List Addr):Same (cutH H as) H:=fun a o h=>by
 unfold cutH at h
 by_cases q:a∈as
 ·rw [if_pos q] at h;cases h
 ·rw [if_neg q] at h;exact h
theorem UnI.base{l:Addr}{es:List (Addr×Addr)}{U:List E9}(S:Same H0 H1)(h:UnI H1 H l es U):UnI H0 H l es U:=⟨h.top,h.row,h.nd,fun a ha=>S.free (h.new a ha),S.trans h.same⟩
theorem UnI.cut{l:Addr}{es:List (Addr×Addr)}{U:List E9}(h:UnI H0 H l es U):∃ H1,Same H0 H1/\UnI H1 H l es U/\∀ a xs,H a=some (.tup xs)->H1 a=some (.tup xs):=by
 refine ⟨cutH H (l::es.map (fun e=>e.2)),fun a o ha=>?_,⟨h.top,h.row,h.nd,fun a ha=>by unfold cutH;exact if_pos ha,kA _ _⟩,fun a xs ha=>?_⟩
 ·unfold cutH;rw [if_neg (fun q=>by rw [h.new a q] at ha;cases ha)];exact h.same _ _ ha
 ·unfold cutH;rw [if_neg fun q=>?_]
  ·exact ha
  ·rcases F9.mp q with q | q
   ·rw [q,h.top] at ha;cases ha
   ·obtain ⟨ys,hy⟩:=h.live q;rw [hy] at ha;cases ha
theorem ajI{α β:Type}{F:α->β->Prop}{m:List β}(h:Paired F [] m):m=[]:=by cases h;rfl
theorem xE{α:Type}{l:List α}(h:l≠[]):∃ l' x,l=l'++[x]:=⟨l.dropLast,l.getLast h,(List.dropLast_concat_getLast h).symm⟩
noncomputable def xF (C:Addr):Sp:=fun vs H Q _=>∃ (x j ll ml md:Addr) (z:Str) (g:Str->Str) (R:List Rl) (L M:List Str),vs=[.ref x,.str z]/\IsOrd C H x j ll ml md g R L M/\(E5 R).length<=1000/\z.length<=500/\n6 (hasW R "figures") (E5 R) z/\(∀ y,(stepY R L M y).length<=15)/\
 ∀ l H',H l=none->Same H H'->IsUn H' l (O5 (stepY R L M) (cutF (hasW R "figures") (E5 R) z.cps.toList).2)->Q (.ref l) H'
noncomputable def xG (n:Nat) (fr:St) (Pv:Nat->List V->Hp->Prop) (i:Nat) (ys:List V) (σ2:St) (H2:Hp):Prop:=i<=n/\ys.length<=i/\(∃ v0 v1 v2 v3,σ2=v0::v1::v2::v3::fr)/\Pv i ys H2
theorem arM(fr:St)(W9:compStart 4 ixs σ=none::none::none::none::fr)(Pv:Addr->Nat->List V->Hp->Prop)(h0:∀ D,H1 D=none->Pv D 0 [] (A0 H1 D (.lst [])))(hl:∀ D i ys H,H1 D=none->i<=xs.length->Pv D i ys H->E2 K H a xs)(hs:∀ D i x ys H,H1 D=none->i<xs.length->xs[i]?=some x->Pv D i ys H->H D=some (.lst ys)->ys.length<=i->∃ t v0 v1 v2 v3,x=.ref t/\C7 K H t [v0,v1,v2,v3]/\c (some v0::some v1::some v2::some v3::fr) H fun b H4=>
   if b=true then te (some v0::some v1::some v2::some v3::fr) H4 fun y H5=>H5 D=some (.lst ys)/\ys.length<sizeLine/\xG xs.length fr (Pv D) (i+1) (ys++[y]) (some v0::some v1::some v2::some v3::fr) (A0 H5 D (.lst (ys++[y])))
   else H4 D=some (.lst ys)/\xG xs.length fr (Pv D) (i+1) ys (some v0::some v1::some v2::some v3::fr) H4)(hd:∀ D ys H,H1 D=none->Pv D xs.length ys H->H D=some (.lst ys)->ys.length<=xs.length->Q (.ref D) H):bF (z9 K a) 4 ixs (gTup K 4 (gCons (gName 0) (gCons (gName 1) (gCons (gName 2) (gCons (gName 3) gNil))))) c te σ Q H1:=by
 intro D hD;refine ⟨xs.length,xG xs.length fr (Pv D),⟨G2 _,G2 _,⟨none,none,none,none,W9⟩,h0 D hD⟩,?_⟩;rintro i ys σ2 H2 ⟨hi,hy,⟨w0,w1,w2,w3,rfl⟩,p⟩ hDy;have q:=hl D i ys H2 hD hi p
 by_cases C9:i<xs.length
 ·refine .inr ⟨C9,⟨xs,xs[i],q,by simp [C9]⟩,fun x H' y=>?_⟩;obtain ⟨e,y⟩:=y;subst e;obtain ⟨t,v0,v1,v2,v3,rfl,ht,z⟩:=hs D i x ys _ hD C9 (y xs q) p hDy hy;exact ⟨t,_,rfl,ht,rfl,_,_,rfl,_,_,rfl,_,_,rfl,_,_,rfl,rfl,z⟩
 ·have e:i=xs.length:=by walk_at "o"
  subst e;exact .inl ⟨⟨xs,q,C2 _⟩,hd D ys H2 hD p hDy hy⟩
theorem alj{w:Bool}{g:List Str} : ∀ (n:Nat) (l:List Nat),l.length<=n->∀ y∈(cutF w g l).2,1<=y.length
 | 0,l,h,y,hy=>by
  have:l=[]:=aS.mp (by walk_at "o")
  subst this;rw [mZ] at hy;cases hy
 | n+1,l,h,y,hy=>by
  cases e:partF w g l with
  | none=>rw [mY e] at hy;cases hy
  | some x=>
   obtain ⟨rest,e1,e2,e3⟩:=jZ e;rw [e2] at hy
   rcases F9.mp hy with q | q
   ·rw [q];exact e3
   ·refine alj n rest ?_ y q
    have:=congrArg i3 e1
    rw [C5,lenL] at this;walk_at "o"
theorem ah1{S:Str->List Tr}{y:Str}(h:ps[i]?=some y):O5 S (ps.take (i+1))=(S y).foldl addS (O5 S (ps.take i)):=by
 unfold O5;rw [K7 h,X4,aU,U1,iQ,L1]
theorem rY{S:Str->List Tr}(hs:∀ y,(S y).length<=15):∀ (ps:List Str),(O5 S ps).length<=15*ps.length/\∀ u∈O5 S ps,u.2.2.1.length<=15*ps.length:=fun ps=>by
 have h0:(ps.flatMap S).length<=15*ps.length:=by
  induction ps with
  | nil=>exact C2 _
  | cons p ps ih=>
   rw [U1,C5,K3]
   have:=hs p
   walk_at "o"
 have h1:=xC (ps.flatMap S) [];have h2:=xD (ps.flatMap S) [] 0 (by simp);unfold O5;rw [b0] at h1;exact ⟨by walk_at "o",fun u hu=>by have:=h2 u hu;walk_at "o"⟩
theorem ahd{w:Bool}{g:List Str} : ∀ (n:Nat) (l:List Nat),l.length<=n->∀ y∈(cutF w g l).2,y.length<=l.length
 | 0,l,h,y,hy=>by
  have:l=[]:=aS.mp (by walk_at "o")
  subst this;rw [mZ] at hy;cases hy
 | n+1,l,h,y,hy=>by
  cases e:partF w g l with
  | none=>rw [mY e] at hy;cases hy
  | some x=>
   obtain ⟨rest,e1,e2,e3⟩:=jZ e;rw [e2] at hy;have hl:=congrArg i3 e1;rw [C5,lenL] at hl
   rcases F9.mp hy with q | q
   ·rw [q];walk_at "o"
   ·have:=ahd n rest (by walk_at "o") y q
    walk_at "o"
theorem ahe:∀ zs:List Str,(Str.join ⟨#[]⟩ zs).cps.toList=zs.flatMap fun p=>p.cps.toList
 | []=>by simp [Str.join,Str.empty]
 | [z]=>by simp [Str.join]
 | z::y::r=>by
  have e:(Str.join ⟨#[]⟩ (z::y::r)).cps.toList=z.cps.toList++(Str.join ⟨#[]⟩ (y::r)).cps.toList:=by
   show (z++⟨#[]⟩++Str.join ⟨#[]⟩ (y::r)).cps.toList=_;simp only [Str.cps_append,Array.toList_append]
   simp
  rw [e,ahe (y::r)];rfl
theorem ajJ{k:Int}(h:Q3 ns k p):(∃ c,p=one c)\/∃ c d,p=M6 c d:=by
 obtain ⟨r,e,hl,_⟩:=h;have ext:∀ q:Str,p.cps.toList=q.cps.toList->p=q:=fun q h=>Str.ext' (Array.toList_inj.mp h)
 match r,hl with
 | [],_=>exact .inl ⟨_,ext (one _) e⟩
 | [d],_=>exact .inr ⟨_,d,ext (M6 _ d) e⟩
theorem ahf{R:List Rl}(h:RulG ns ls ms R)(L M:List Str)(y:Str):(stepF R L M y).length<=15:=by
 unfold stepF;cases e:(putsL R L M).lookup y with
 | none=>exact G2 _
 | some s=>
  obtain ⟨l1,l2,el,_⟩:=List.lookup_eq_some_iff.mp e;have hm:(y,s)∈putsL R L M:=by rw [el];simp
  show s.length<=15;unfold putsL at hm
  rcases E1.mp hm with hm | hm
  ·rcases E1.mp hm with hm | hm
   ·rcases E1.mp hm with hm | hm
    ·obtain ⟨a,_,q⟩:=D3.mp hm;rw [<- (Prod.mk.inj q).2];simp
    ·obtain ⟨a,_,q⟩:=D3.mp hm;rw [<- (Prod.mk.inj q).2];simp
   ·obtain ⟨_,_,hm⟩:=X5.mp hm;obtain ⟨a,_,q⟩:=D3.mp hm;rw [<- (Prod.mk.inj q).2];simp
  ·unfold mT at hm;obtain ⟨z,hz,q⟩:=fB.mp hm
   by_cases hw:z.1=("as" : Str)
   ·rw [if_pos hw] at q
    rcases h.each hz with rfl | rfl | o | o
    ·exact absurd (show Str.ofString "row"=_ from hw) (by decide +kernel)
    ·exact absurd (show Str.ofString "marks"=_ from hw) (by decide +kernel)
    ·rcases o with ⟨e2,_⟩ | ⟨_,p,q1,qs,e2,_,_,hl⟩ | ⟨e2,_⟩
     ·rw [e2] at hw;exact absurd hw (by decide +kernel)
     ·rw [e2] at q;have q:=Option.some.inj q;rw [<- (Prod.mk.inj q).2]
      simp;walk_at "o"
     ·rw [e2] at hw;exact absurd hw (by decide +kernel)
    ·exact absurd hw o.2.no.2.2.2.1
   ·rw [if_neg hw] at q;cases q
theorem alk{R:List Rl}(h:RulG ns ls ms R)(L M:List Str)(y:Str):(stepY R L M y).length<=15:=by
 unfold stepY
 split
 ·simp
 ·exact ahf h L M y
theorem anv{p:Nat->Bool}{d:Nat} : ∀ {l:List Nat},d∈l.takeWhile p->p d=true
 | [],h=>by cases h
 | c::r,h=>by
  rw [List.takeWhile_cons] at h
  by_cases hc:p c=true
  ·rw [if_pos hc] at h
   rcases F9.mp h with q | q
   ·rw [q];exact hc
   ·exact anv q
  ·rw [if_neg hc] at h;cases h
theorem alm{w:Bool}{g:List Str}{l:List Nat}{y:Str}(h:partF w g l=some y):w=true->FigR y:=by
 intro hw hf
 cases l with
 | nil=>cases h
 | cons c r=>
  rw [gD,hw,Bool.true_and] at h
  by_cases hc:figO c=true
  ·rw [if_pos hc] at h;obtain rfl:=Option.some.inj h;intro d hd;have hd:d∈(c::r).takeWhile figO:=by simpa using hd
   have:=anv hd
   unfold figO at this;rw [T4,decide_eq_true_eq,decide_eq_true_eq] at this;exact this
  ·exfalso
   rw [if_neg hc] at h;obtain ⟨rest,e,hl⟩:=afO h
   have:y.cps.toList.headD 0=c:=by
    cases hy:y.cps.toList with
    | nil=>rw [<- lenL,hy] at hl;simp at hl
    | cons d t=>rw [hy] at e;exact (b9.inj e).1.symm
   rw [this] at hf;exact hc hf
theorem ai0{w:Bool}{g:List Str} : ∀ (n:Nat) (l:List Nat),l.length<=n->∀ y∈(cutF w g l).2,w=true->FigR y
 | 0,l,h,y,hy=>by
  have:l=[]:=aS.mp (by walk_at "o")
  subst this;rw [mZ] at hy;cases hy
 | n+1,l,h,y,hy=>by
  cases e:partF w g l with
  | none=>rw [mY e] at hy;cases hy
  | some x=>
   obtain ⟨rest,e1,e2,e3⟩:=jZ e;rw [e2] at hy;have hl:=congrArg i3 e1;rw [C5,lenL] at hl
   rcases F9.mp hy with q | q
   ·rw [q];exact alm e
   ·exact ai0 n rest (by walk_at "o") y q
end L2
variable {F S:PySem.Str->List L2.Tr}{R:List L2.Rl}{U:List L2.E9}
set_option maxRecDepth 100000
namespace L2
open PySem PySem.Spec PyProof.Rows
structure StepL(H:Hp)(r:Addr)(ss:List Tr):Prop where
 ex:∃ ts:List Addr,H r=some (.lst (ts.map V.ref))/\Paired (fun t s=>H t=some (tupT s)) ts ss
theorem StepL.same{ss:List Tr}(h:StepL H r ss)(S:Same H H'):StepL H' r ss:=
 let ⟨ts,h1,h2⟩:=h.ex
 ⟨ts,S _ _ h1,N0 h2 fun _ _ e=>S _ _ e⟩
theorem StepL.dput{d:Addr}{ss:List Tr}{o:HO}(h:StepL H r ss)(hd:H d=some (.dK kvs)):StepL (A0 H d o) r ss:=by
 obtain ⟨ts,h1,h2⟩:=h.ex;refine ⟨ts,?_,N0 h2 fun t s e=>?_⟩
 ·rw [B1 (fun e=>by rw [e,hd] at h1;cases h1)];exact h1
 ·rw [B1 (fun q=>by rw [q,hd] at e;cases e)];exact e
theorem StepL.one{t:Addr}{s:Tr}(h1:H r=some (.lst [.ref t]))(h2:H t=some (tupT s)):StepL H r [s]:=⟨[t],h1,.cons h2 .nil⟩
noncomputable def IsMk (H:Hp) (d:Addr) (ks:List Str) (F:Str->List Tr):Prop:=∃ ad:Str->Addr,H d=some (.dK (C1 ks fun y=>.ref (ad y)))/\∀ y∈ks,StepL H (ad y) (F y)
theorem IsMk.same{d:Addr}(h:IsMk H d ks F)(S:Same H H'):IsMk H' d ks F:=
 let ⟨ad,h1,h2⟩:=h
 ⟨ad,S _ _ h1,fun y hy=>(h2 y hy).same S⟩
structure MkI(H H2:Hp)(d:Addr)(P:List Str)(F:Str->List Tr):Prop where
 same:Same H H2
 made:IsMk H2 d (G3 [] P) F
theorem MkI.more{d:Addr}{P:List Str}(h:MkI H H2 d P F)(S:Same H2 H3):MkI H H3 d P F:=⟨h.same.trans S,h.made.same S⟩
theorem MkI.put{d:Addr}{P:List Str}(nd:H d=none)(h:MkI H H2 d P F)(hP:P.length<100000){l:Str}{p:Addr}(hp:StepL H2 p (F l)) :
  ∃ x,DPut H2 d (V.str l) (V.ref p) x/\MkI H x d (P++[l]) F:=by
 obtain ⟨ad,h1,h2⟩:=h.made;have hl:=dC P [];rw [b0,Nat.zero_add] at hl;refine ⟨_,bD (k:=Sum.inr l) h1 (by rw [i9];exact G7 (by walk_at "o")),h.same.put nd,?_⟩;rw [wM];refine ⟨fun y=>if y=l then p else ad y,?_,fun y hy=>?_⟩
 ·rw [A5];have e:∀ t,(if t=l then V.ref p else V.ref (ad t))=V.ref (if t=l then p else ad t):=fun t=>by
   by_cases h:t=l
   ·rw [if_pos h,if_pos h]
   ·rw [if_neg h,if_neg h]
  unfold dd
  by_cases hl:l∈G3 [] P
  ·rw [if_pos hl,mP _ hl];exact congrArg (fun x=>some (HO.dK x)) (V4 fun t _=>e t)
  ·rw [if_neg hl,dH _ hl];exact congrArg (fun x=>some (HO.dK x)) (V4 fun t _=>e t)
 ·by_cases h:y=l
  ·subst h;show StepL _ (if y=y then p else ad y) _;rw [if_pos rfl];exact hp.dput h1
  ·show StepL _ (if y=l then p else ad y) _;rw [if_neg h];refine (h2 y ?_).dput h1;unfold dd at hy
   by_cases hl:l∈G3 [] P
   ·rw [if_pos hl] at hy;exact hy
   ·rw [if_neg hl] at hy
    rcases E1.mp hy with q | q
    ·exact q
    ·exact absurd (E6.mp q) h
noncomputable def xH (K:PySem.W.Frag):Sp:=fun vs H Q _=>∃ (a:Addr) (ts:List Addr) (R:List Rl) (w:Str),vs=[.ref a,.str w]/\IsRules H a ts R/\R.length<=100/\(∀ z∈R,z.2.length<=100)/\∀ l H',H l=none->Same H H'->H' l=some (.lst ((rowsW R w).flatten.map V.str))->Q (.ref l) H'
theorem afR{w:Str}{z:Rl}(h:R[i]?=some z):(rowsW (R.take (i+1)) w).flatten=if z.1=w then (rowsW (R.take i) w).flatten++z.2 else (rowsW (R.take i) w).flatten:=by
 rw [wF h]
 by_cases e:z.1=w
 ·rw [if_pos e,if_pos e,lR];simp
 ·rw [if_neg e,if_neg e]
noncomputable def O9 (R:List Rl):List Str:=(M0 R).flatMap (·.2)
theorem ae7{z:Rl}(h:R[i]?=some z):O9 (R.take (i+1))=O9 (R.take i)++O9 [z]:=by
 unfold O9;rw [rN h,X4]
theorem Y0{t:Addr}(hT:C7 K H t xs)(q:∀ p H',Same H H'->C7 K H' p (xs.take 2)->Q (.ref p) H'):rSlR K t none (some 2) H Q:=by
 by_cases h:xs.length<=2
 ·refine rSlR.w hT ⟨rfl,?_⟩ (q t H (aD H) (by rw [y8 h];exact hT));rw [show ((2:Int))=((2:Nat):Int) from rfl,HT.sIx_nat];walk_at "o"
 ·refine rSlR.t hT (fun e=>?_) fun p np=>q p _ (Same.new np) (.of ?_)
  ·have:=e.2
   rw [show ((2:Int))=((2:Nat):Int) from rfl,HT.sIx_nat] at this;walk_at "o"
  ·rw [A5,show cutV xs none (some 2)=_ from bI xs 2]
theorem ai1(xs ys:List Str):Q9 (.tuple (xs.map .str)) (.tuple (ys.map .str))=decide (xs=ys):=by rw [Q9,vH]
theorem ajK{l:Str}{fs:List Str} : O9 [(("great" : Str),l::fs)]=fs:=by
 unfold O9;rw [rO]
 simp
theorem aln{z:Rl}(h:z.1≠("great" : Str)):O9 [z]=[]:=by
 unfold O9;rw [jS h];rfl
theorem ah3{z:Rl}{l:Str}(h:(z.1::z.2).take 2=[("great" : Str),l]):∃ fs,z=(("great" : Str),l::fs):=by
 obtain ⟨w,ps⟩:=z
 cases ps with
 | nil=>simp at h
 | cons y fs=>
  simp at h;obtain ⟨rfl,rfl⟩:=h;exact ⟨fs,rfl⟩
theorem agm{A:List Rl}{z:Rl}{l:Str}(h:(z.1::z.2).take 2≠[("great" : Str),l]):E4 (A++[z]) l=E4 A l:=by
 by_cases hg:z.1=("great" : Str)
 ·obtain ⟨w,ps⟩:=z;obtain rfl:w=("great" : Str):=hg
  cases ps with
  | nil=>
   unfold E4;rw [fY,show M0 [(("great" : Str),[])]=[] by simp [M0],L1]
  | cons y fs=>
   rw [jT,if_neg (fun e=>h (by rw [e];rfl))]
 ·unfold E4;rw [fY,jS hg,L1]
theorem MkI.base{d:Addr}{P:List Str}(S:Same H H1)(h:MkI H1 H2 d P F):MkI H H2 d P F:=⟨S.trans h.same,h.made⟩
theorem MkI.cut{d:Addr}{P:List Str}(nd:H d=none)(h:MkI H H2 d P F):∃ B,Same H B/\B d=none/\MkI B H2 d P F/\∀ a o,a≠d->H2 a=some o->B a=some o:=by
 refine ⟨cutH H2 [d],fun a o ha=>?_,by unfold cutH;exact if_pos (by simp),⟨kA _ _,h.made⟩,fun a o ne ha=>?_⟩
 ·unfold cutH;rw [if_neg (fun e=>by rw [E6.mp e,nd] at ha;cases ha)];exact h.same _ _ ha
 ·unfold cutH;rw [if_neg (fun e=>ne (E6.mp e))];exact ha
theorem RulG.over(G:RulG ns ls ms R)(hL:R1 R "row" ls)(hM:R1 R "marks" ms)(hp:p∈(rowsW R "over").flatten):stepF R ls ms p=[]:=by
 refine xB fun h=>?_
 obtain ⟨z,hz,e,hpz⟩:=mem_rowsW.mp hp;have ho:(p,("over" : Str))∈C8 R:=mem_pairs.mpr ⟨z,hz,by rw [V5.2.2 (.inr (.inr e))];exact hpz,by rw [e];decide +kernel⟩;have jo:=fZ G.good.nc ho;have n1:("letter" : Str)≠"over"/\("mark" : Str)≠"over"/\("great" : Str)≠"over"/\("as" : Str)≠"over":=by decide +kernel
 have fin:∀ {j:Str},(p,j)∈C8 R->j≠"over"->False:=fun {j} hj hn=>hn ((fZ G.good.nc hj).symm.trans jo)
 unfold allKs at h
 rcases E1.mp h with h | h
 ·rcases E1.mp h with h | h
  ·rcases E1.mp h with h | h
   ·exact fin (mem_letter.mpr ((m8 hL).mp h)) n1.1
   ·exact fin (mem_mark.mpr ((m8 hM).mp h)) n1.2.1
  ·obtain ⟨y,_,hq⟩:=X5.mp h;obtain ⟨e2,he,_,hf⟩:=forms_mem.mp hq
   have:p∈(M0 R).flatMap (·.2):=X5.mpr ⟨e2,he,hf⟩
   rw [<- aE] at this;obtain ⟨⟨q,j⟩,hq2,rfl⟩:=D3.mp this;obtain ⟨h1,h2⟩:=Q0.mp hq2;exact fin h1 (by rw [show j=("great" : Str) by simpa using h2];exact n1.2.2.1)
 ·rw [<- gB] at h;obtain ⟨⟨q,j⟩,hq,rfl⟩:=D3.mp h;obtain ⟨h1,h2⟩:=Q0.mp hq;exact fin h1 (by rw [show j=("as" : Str) by simpa using h2];exact n1.2.2.2)
theorem RulG.blank(G:RulG ns ls ms R)(hL:R1 R "row" ls)(hM:R1 R "marks" ms):stepF R ls ms " "=[]:=by
 refine xB fun h=>?_
 have bY:∀ p∈allKs R ls ms,p∈(C8 R).map (·.1):=fun p hp=>by
  unfold allKs at hp
  rcases E1.mp hp with hp | hp
  ·rcases E1.mp hp with hp | hp
   ·rcases E1.mp hp with hp | hp
    ·exact D3.mpr ⟨_,mem_letter.mpr ((m8 hL).mp hp),rfl⟩
    ·exact D3.mpr ⟨_,mem_mark.mpr ((m8 hM).mp hp),rfl⟩
   ·obtain ⟨y,_,hp⟩:=X5.mp hp;obtain ⟨e,he,_,hf⟩:=forms_mem.mp hp
    have:p∈(M0 R).flatMap (·.2):=X5.mpr ⟨e,he,hf⟩
    rw [<- aE] at this;obtain ⟨q,hq,rfl⟩:=D3.mp this;exact D3.mpr ⟨q,(Q0.mp hq).1,rfl⟩
  ·rw [<- gB] at hp;obtain ⟨q,hq,rfl⟩:=D3.mp hp;exact D3.mpr ⟨q,(Q0.mp hq).1,rfl⟩
 exact G.good.nb (bY _ h)
theorem alo(R:List Rl)(w:Str)(hf:∀ z∈R,z.1=w->z.2=[]):((R.map ruleD).any fun e=>Q9 e (ruleD (w,[])))=hasW R w:=by
 unfold hasW;rw [List.any_map,fF,lW,lW];have key:∀ z:Rl,Q9 (ruleD z) (ruleD (w,[]))=decide (z.1::z.2=[w]):=fun z=>by
  unfold ruleD;exact ai1 _ _
 constructor
 ·rintro ⟨z,hz,h⟩;refine ⟨z,hz,?_⟩;have h:Q9 (ruleD z) (ruleD (w,[]))=true:=h;rw [key,decide_eq_true_eq] at h;exact decide_eq_true (b9.inj h).1
 ·rintro ⟨z,hz,h⟩;have h:z.1=w:=by simpa using h
  refine ⟨z,hz,?_⟩;show Q9 (ruleD z) (ruleD (w,[]))=true;rw [key,decide_eq_true_eq,h,hf z hz h]
theorem RulG.flag(G:RulG ns ls ms R){w:Str}(hw:flagW w):∀ z∈R,z.1=w->z.2=[]:=fun z hz e=>by
 have n:=hw.no
 rcases G.each hz with rfl | rfl | o | o
 ·exact absurd e.symm n.1
 ·exact absurd e.symm n.2.1
 ·rcases o with ⟨e2,_⟩ | ⟨e2,_⟩ | ⟨e2,_⟩
  ·exact absurd (e.symm.trans e2) n.2.2.1
  ·exact absurd (e.symm.trans e2) n.2.2.2.1
  ·exact absurd (e.symm.trans e2) n.2.2.2.2
 ·exact o.1
theorem RulG.names(G:RulG ns ls ms R)(p:Str):p∈(C8 R).map (·.1)↔p∈ls++ms++asKs R++O9 R++(rowsW R "over").flatten:=by
 have app:p∈ls++ms++asKs R++O9 R++(rowsW R "over").flatten↔p∈ls\/p∈ms\/p∈asKs R\/p∈O9 R\/p∈(rowsW R "over").flatten:=by
  simp only [E1,or_assoc]
 rw [app];have gA:∀ q,q∈O9 R↔(q,("great" : Str))∈C8 R:=fun q=>by
  unfold O9;rw [<- aE,D3]
  constructor
  ·rintro ⟨⟨x,j⟩,hx,rfl⟩;obtain ⟨h1,h2⟩:=Q0.mp hx;rw [show j=("great" : Str) by simpa using h2] at h1;exact h1
  ·exact fun h=>⟨_,Q0.mpr ⟨h,by simp⟩,rfl⟩
 have aA:∀ q,q∈asKs R↔(q,("as" : Str))∈C8 R:=fun q=>by
  rw [<- gB,D3]
  constructor
  ·rintro ⟨⟨x,j⟩,hx,rfl⟩;obtain ⟨h1,h2⟩:=Q0.mp hx;rw [show j=("as" : Str) by simpa using h2] at h1;exact h1
  ·exact fun h=>⟨_,Q0.mpr ⟨h,by simp⟩,rfl⟩
 constructor
 ·intro h;obtain ⟨⟨q,j⟩,hq,rfl⟩:=D3.mp h;obtain ⟨z,hz,ht,rfl⟩:=mem_pairs.mp hq;have jw:=mU (fX ht)
  rcases fX ht with e | e | e | e | e
  ·rw [jw.2.2.1.mpr e] at hq;exact .inl (G.letter.mp hq)
  ·rw [jw.2.2.2.1.mpr e] at hq;exact .inr (.inl (G.mark.mp hq))
  ·rw [jw.1.mpr e] at hq;exact .inr (.inr (.inr (.inl ((gA _).mpr hq))))
  ·rw [jw.2.1.mpr e] at hq;exact .inr (.inr (.inl ((aA _).mpr hq)))
  ·exact .inr (.inr (.inr (.inr (mem_rowsW.mpr ⟨z,hz,e,by rw [V5.2.2 (.inr (.inr e))] at ht;exact ht⟩))))
 ·rintro (h | h | h | h | h)
  ·exact D3.mpr ⟨_,G.letter.mpr h,rfl⟩
  ·exact D3.mpr ⟨_,G.mark.mpr h,rfl⟩
  ·exact D3.mpr ⟨_,(aA p).mp h,rfl⟩
  ·exact D3.mpr ⟨_,(gA p).mp h,rfl⟩
  ·obtain ⟨z,hz,e,hp⟩:=mem_rowsW.mp h;exact D3.mpr ⟨(p,jobD z.1),mem_pairs.mpr ⟨z,hz,by rw [V5.2.2 (.inr (.inr e))];exact hp,rfl⟩,rfl⟩
theorem amT{w:Str} : (∀ z∈R,z.2.length<=n)->(rowsW R w).flatten.length<=n*R.length:=by
 intro h
 induction R with
 | nil=>exact G2 _
 | cons z R ih=>
  have i1:=ih fun y hy=>h y (M3 _ hy)
  have i2:=h z M4;have e:rowsW (z::R) w=rowsW [z] w++rowsW R w:=u7 [z] R w;rw [e,lR,C5,K3,Nat.mul_add,Nat.mul_one]
  have:(rowsW [z] w).flatten.length<=n:=by
   unfold rowsW
   by_cases hz:z.1=w
   ·rw [lJ (by simpa using hz)];simpa using i2
   ·rw [lK (by simpa using hz)];simp
  walk_at "o"
noncomputable def UnT (H:Hp) (e:Addr×Addr) (u:E9):Prop:=H e.1=some (.tup [.int u.1,.int u.2.1,.ref e.2,.int u.2.2.2])/\H e.2=some (.tup (u.2.2.1.map V.int))
structure UnJ(H0 H:Hp)(l:Addr)(es:List (Addr×Addr))(U:List E9):Prop where
 same:Same H0 H
 new:H0 l=none
 top:H l=some (.lst (es.map fun e=>V.ref e.1))
 row:Paired (UnT H) es U
noncomputable def alp (K:PySem.W.Frag):Sp:=fun vs H Q _=>∃ (a:Addr) (ts:List Addr) (R:List Rl) (ns:List Int) (ls ms:List Str),vs=[.ref a]/\IsRules H a ts R/\RulG ns ls ms R/\R1 R "row" ls/\R1 R "marks" ms/\
 ∀ d ks H',H d=none->Same H H'->IsMk H' d ks (stepF R ls ms)->(∀ p,p∈ks↔p∈E5 R)->ks.length<=100000->Q (.ref d) H'
noncomputable def ahg (K:PySem.W.Frag):Sp:=fun vs H Q _=>∃ (a d:Addr) (ts:List Addr) (R:List Rl) (ns:List Int) (ls ms P:List Str) (H0:Hp),vs=[.ref a,.ref d]/\H0 d=none/\IsRules H a ts R/\IsRules H0 a ts R/\RulG ns ls ms R/\R1 R "row" ls/\R1 R "marks" ms/\MkI H0 H d P (stepF R ls ms)/\(∀ p∈ls,p∈P)/\P.length<=10000/\
 ∀ H',MkI H0 H' d (P++O9 R) (stepF R ls ms)->Q .non H'
noncomputable def RunP (p:Str):Prop:=p.cps.toList≠[]/\∀ c∈p.cps.toList,figO c=true
noncomputable def dM (w:Bool) (ks:List Str) (p:Str):Prop:=p∈ks\/w=true/\RunP p
noncomputable def e9 (w:Bool) (ks:List Str) (p:Str):Prop:=p∈ks\/(w=true/\RunP p)/\p.length<=14
noncomputable abbrev flatP (ps:List Str):List Nat:=ps.flatMap fun p=>p.cps.toList
theorem nA(p:Str)(ps:List Str):flatP (p::ps)=p.cps.toList++flatP ps:=rfl
theorem ahh{w:Bool}(eI:w=true->∀ p∈ks,∀ c∈p.cps.toList,figO c=false)(h2:∀ p∈ks,(∃ c,p=one c)\/∃ c d,p=M6 c d)(hw:w=true):∀ ps:List Str,(∀ p∈ps,dM w ks p)->∃ qs:List Str,(∀ p∈qs,dM w ks p)/\(flatP ps).dropWhile figO=flatP qs
 | [],_=>⟨[],by simp,rfl⟩
 | p::ps,h=>by
  rcases h p M4 with hp | ⟨_,hr⟩
  ·refine ⟨p::ps,h,?_⟩
   have:=eI hw p hp
   rcases h2 p hp with ⟨c,rfl⟩ | ⟨c,d,rfl⟩
   ·show (c::flatP ps).dropWhile figO=_;rw [List.dropWhile_cons_of_neg (by rw [this c (by show c∈[c];simp)];simp)];rfl
   ·show (c::d::flatP ps).dropWhile figO=_;rw [List.dropWhile_cons_of_neg (by rw [this c (by rw [m9];simp)];simp)];rfl
  ·obtain ⟨qs,h3,h4⟩:=ahh eI h2 hw ps fun q hq=>h q (M3 _ hq)
   refine ⟨qs,h3,?_⟩;rw [nA,List.dropWhile_append_of_pos hr.2];exact h4
theorem afS{w:Bool}(eI:w=true->∀ p∈ks,∀ c∈p.cps.toList,figO c=false)(P:∀ c d e,one c∈ks->M6 c d∈ks->M6 d e∈ks->one e∈ks)(h2:∀ p∈ks,(∃ c,p=one c)\/∃ c d,p=M6 c d):∀ (n:Nat) (ps:List Str),(∀ p∈ps,dM w ks p)->(flatP ps).length<=n->(cutF w ks (flatP ps)).1=(flatP ps).length
 | n,[],_,_=>by rw [show flatP []=[] from rfl,mZ];rfl
 | 0,p::ps,hp,hn=>by
  exfalso
  rw [nA,C5] at hn
  rcases hp p M4 with h | ⟨_,h,_⟩
  ·rcases h2 p h with ⟨c,rfl⟩ | ⟨c,d,rfl⟩
   ·rw [dL] at hn;simp at hn
   ·rw [m9] at hn;simp at hn
  ·have:=lQ.mpr h
   walk_at "o"
 | n+1,p::ps,hp,hn=>by
  have go:∀ (y:Str) (qs:List Str),(∀ q∈qs,dM w ks q)->1<=y.length->flatP (p::ps)=y.cps.toList++flatP qs->partF w ks (flatP (p::ps))=some y->(cutF w ks (flatP (p::ps))).1=(flatP (p::ps)).length:=fun y qs hq F7 el hpf=>by
   obtain ⟨rest,e1,e2,e3⟩:=jZ hpf;have er:rest=flatP qs:=List.append_cancel_left (e1.symm.trans el);have ln:=congrArg i3 el;rw [C5,lenL] at ln;have i1:=afS eI P h2 n qs hq (by walk_at "o");rw [e2,er];show (cutF w ks _).1+y.length=_;rw [i1];walk_at "o"
  have pF:∀ c l,one c∈ks\/(∃ d,M6 c d∈ks)->partF w ks (c::l)=partG ks (c::l):=fun c l h=>by
   rw [gD,if_neg];intro q;rw [T4] at q
   rcases h with h | ⟨d,h⟩
   ·rw [eI q.1 _ h c (by show c∈[c];simp)] at q;exact absurd q.2 (by simp)
   ·rw [eI q.1 _ h c (by rw [m9];simp)] at q;exact absurd q.2 (by simp)
  have Y6:∀ q∈ps,dM w ks q:=fun q hq=>hp q (M3 _ hq)
  rcases hp p M4 with X0 | ⟨tO,hr⟩
  ·rcases h2 p X0 with ⟨c,rfl⟩ | ⟨c,d,rfl⟩
   ·have ef:flatP (one c::ps)=c::flatP ps:=rfl
    cases ps with
    | nil=>exact go (one c) [] (by simp) (C2 1) rfl (by rw [ef,show flatP []=[] from rfl,pF c [] (.inl X0),jY,if_pos X0])
    | cons p2 qs=>
     have cC:∀ q∈qs,dM w ks q:=fun q hq=>Y6 q (M3 _ hq)
     rcases Y6 p2 M4 with R6 | ⟨tO,hr⟩
     ·rcases h2 p2 R6 with ⟨d,rfl⟩ | ⟨d,e,rfl⟩
      ·have hJ:flatP (one c::one d::qs)=c::d::flatP qs:=rfl
       by_cases T6:M6 c d∈ks
       ·exact go (M6 c d) qs cC (by show 1<=2;decide) rfl (by rw [hJ,pF _ _ (.inl X0),u8,if_pos T6])
       ·exact go (one c) (one d::qs) Y6 (C2 1) rfl (by rw [hJ,pF _ _ (.inl X0),u8,if_neg T6,if_pos X0])
      ·have hJ:flatP (one c::M6 d e::qs)=c::d::e::flatP qs:=rfl
       by_cases T6:M6 c d∈ks
       ·have he:=P c d e X0 T6 R6;exact go (M6 c d) (one e::qs) (fun q hq=>by rcases F9.mp hq with h | h;rw [h];exact .inl he;exact cC q h) (by show 1<=2;decide) rfl (by rw [hJ,pF _ _ (.inl X0),u8,if_pos T6])
       ·exact go (one c) (M6 d e::qs) Y6 (C2 1) rfl (by rw [hJ,pF _ _ (.inl X0),u8,if_neg T6,if_pos X0])
     ·obtain ⟨f,rr,hf⟩:∃ f rr,p2.cps.toList=f::rr:=by
       cases e:p2.cps.toList with
       | nil=>exact absurd e hr.1
       | cons f rr=>exact ⟨f,rr,rfl⟩
      have tP:figO f=true:=hr.2 f (by rw [hf];simp);have hJ:flatP (one c::p2::qs)=c::f::(rr++flatP qs):=by rw [nA,nA,hf];rfl
      have T6:M6 c f∉ks:=fun h=>by
       have:=eI tO _ h f (by rw [m9];simp)
       rw [tP] at this;cases this
      exact go (one c) (p2::qs) Y6 (C2 1) rfl (by rw [hJ,pF _ _ (.inl X0),u8,if_neg T6,if_pos X0])
   ·have ef:flatP (M6 c d::ps)=c::d::flatP ps:=rfl;exact go (M6 c d) ps Y6 (by show 1<=2;decide) rfl (by rw [ef,pF _ _ (.inr ⟨d,X0⟩),u8,if_pos X0])
  ·obtain ⟨qs,h3,h4⟩:=ahh eI h2 tO (p::ps) hp;obtain ⟨f,rr,hf⟩:∃ f rr,p.cps.toList=f::rr:=by
    cases e:p.cps.toList with
    | nil=>exact absurd e hr.1
    | cons f rr=>exact ⟨f,rr,rfl⟩
   have tP:figO f=true:=hr.2 f (by rw [hf];simp);have ef:flatP (p::ps)=f::(rr++flatP ps):=by rw [nA,hf];rfl
   refine go ⟨((flatP (p::ps)).takeWhile figO).toArray⟩ qs h3 ?_ ?_ ?_
   ·rw [<- lenL];show 1<=((flatP (p::ps)).takeWhile figO).length;rw [ef,List.takeWhile_cons_of_pos tP]
    simp
   ·show flatP (p::ps)=(flatP (p::ps)).takeWhile figO++flatP qs;rw [<- h4,List.takeWhile_append_dropWhile]
   ·rw [ef,gD,tO,tP,Bool.and_self,if_pos rfl]
theorem kC(hp:p∈E5 R):p=" "\/p∈(C8 R).map (·.1):=by
 unfold E5 W4 at hp
 rcases E1.mp hp with h | h
 ·exact .inr ((jN _ _).mp h)
 ·by_cases hb:hasW R "blanks"=true
  ·rw [if_pos hb] at h;exact .inl (E6.mp h)
  ·rw [if_neg hb] at h;cases h
theorem xI(hp:p∈(C8 R).map (·.1)):p∈E5 R:=R7 _ ((jN _ _).mpr hp)
theorem nC:(" " : Str)=one 32:=by decide +kernel
theorem ahi(G:RulG ns ls ms R):∀ p∈E5 R,(∃ c,p=one c)\/∃ c d,p=M6 c d:=fun p hp=>by
 rcases kC hp with rfl | h
 ·exact .inl ⟨32,nC⟩
 ·obtain ⟨k,hk⟩:=G.pc h;exact ajJ hk
theorem ai2{c d:Nat}(h:M6 c d∈E5 R):M6 c d∈(C8 R).map (·.1):=by
 rcases kC h with e | h
 ·rw [nC] at e
  have:=congrArg (fun q:Str=>q.cps.toList.length) e
  simp [m9,dL] at this
 ·exact h
theorem ahj(G:RulG ns ls ms R):∀ c d e,one c∈E5 R->M6 c d∈E5 R->M6 d e∈E5 R->one e∈E5 R:=fun c d e h1 h2 h3=>by
 have h2:=ai2 h2;have h3:=ai2 h3
 rcases kC h1 with q | h1
 ·exfalso
  rw [nC] at q
  have:c=32:=by
   have:=congrArg (fun q:Str=>q.cps.toList) q
   simpa [dL] using this
  subst this;obtain ⟨k,hk⟩:=G.pc h2;have ok:=hk.ok.1;unfold jI at ok;rw [T4,List.all_eq_true] at ok
  have:=ok.2 32 (by rw [m9];simp)
  exact absurd this (by decide)
 ·exact xI (G.closed h1 h2 h3)
theorem alq(G:RulG ns ls ms R):hasW R "figures"=true->∀ p∈E5 R,∀ c∈p.cps.toList,figO c=false:=fun hw p hp c hc=>by
 rcases kC hp with rfl | h
 ·rw [nC,dL] at hc;rw [E6.mp hc];decide
 ·obtain ⟨⟨q,j⟩,hq,rfl⟩:=D3.mp h;obtain ⟨i,hi,e⟩:=Y9.mp hq;exact (G.good.nc i q j (by rw [K8 hi,e])).2.2.1 hw c hc
theorem ajL(G:RulG ns ls ms R)(hz:z.cps.toList=flatP ps)(hp:∀ p∈ps,dM (hasW R "figures") (E5 R) p):n6 (hasW R "figures") (E5 R) z:=by
 unfold n6;rw [hz,afS (alq G) (ahj G) (ahi G) _ ps hp (C2 _),<- hz,lenL]
theorem aoZ(h:n<10 ^ 12){y:Str}(hy:y.length<=2)(hyf:∀ c∈y.cps.toList,figO c=true):RunP (y++Str.ofString (toString (n:Int)))/\(y++Str.ofString (toString (n:Int))).length<=14:=by
 have e:(y++Str.ofString (toString (n:Int))).cps.toList=y.cps.toList++(Nat.toDigits 10 n).map Char.toNat:=by
  have e1:(Str.ofString (toString (n:Int))).cps.toList=(Nat.toDigits 10 n).map Char.toNat:=by
   rw [Str.ofString_eq_toList];show (toString (n:Int)).toList.map Char.toNat=_
   have:toString (n:Int)=Nat.repr n:=rfl
   rw [this];simp [Nat.repr]
  rw [Str.cps_append,Array.toList_append,e1]
 have hl:=ae6 11 (n+1) n [] h;refine ⟨⟨?_,fun c hc=>?_⟩,?_⟩
 ·rw [e];intro q
  have:=(List.append_eq_nil_iff.mp q).2
  exact absurd (List.map_eq_nil_iff.mp this) Nat.toDigits_ne_nil
 ·rw [e] at hc
  rcases E1.mp hc with hc | hc
  ·exact hyf c hc
  ·obtain ⟨x,hx,rfl⟩:=D3.mp hc;have hd:=Nat.isDigit_of_mem_toDigits (by decide) (by decide) hx;unfold Char.isDigit at hd;unfold figO;simp only [T4,decide_eq_true_eq,ge_iff_le] at hd ⊢
   exact ⟨hd.1,hd.2⟩
 ·rw [<- lenL,e,C5,A6,lenL]
  have:(Nat.toDigits 10 n).length<=12:=by simpa [Nat.toDigits] using hl
  walk_at "o"
theorem q_pow : QOp X (binaryOp .Pow) (rI CPow fun i j=>.int (i ^ j.toNat)):=⟨aqz⟩
noncomputable def ai3 (K:PySem.W.Frag):Sp:=fun vs H Q _=>∃ (d c:Addr) (w:Bool) (ks:List Str) (f:Str->V) (cs:List Int),vs=[.ref d,.bl w,.ref c]/\H d=some (.dK (C1 ks f))/\1<=ks.length/\ks.length<=100000/\E2 K H c (cs.map V.int)/\cs.length<=30/\
 ∀ l H' (ps:List Str),H l=none->Same H H'->H' l=some (.lst (ps.map V.str))->(∀ p∈ps,e9 w ks p)->ps.length<=cs.length->Q (.ref l) H'
theorem alr{E:List (Str×Str)}{rank:Str->Nat}(hr:∀ e∈E,rank e.1<rank e.2)(hE:∀ e∈E,e.1∈ts):∀ (n:Nat) (line:List Str),(ts.filter fun p=>!decide (p∈line)).length<=n->R0 E ts line->∃ L,R0 E ts L/\∀ p∈ts,p∈L:=by
 intro n
 induction n with
 | zero=>
  intro line h r;refine ⟨line,r,fun p hp=>?_⟩;have h0:=aS.mp (Nat.le_zero.mp h)
  have:=lL.mp h0 p hp
  simpa using this
 | succ n ih=>
  intro line h r
  by_cases hw:∃ p∈ts,p∉line
  ·obtain ⟨q,hq⟩:=aiI hr hE hw;obtain ⟨h1,h2,_⟩:=fV hq;refine ih (line++[q]) ?_ (r.snoc hq);have e:(ts.filter fun p=>!decide (p∈line++[q]))=(ts.filter fun p=>!decide (p∈line)).filter fun p=>!decide (p=q):=by
    rw [List.filter_filter];refine List.filter_congr fun p _=>?_
    by_cases a:p∈line <;> by_cases b:p=q <;> simp [a,b]
   have K2:q∈ts.filter fun p=>!decide (p∈line):=Q0.mpr ⟨h1,by simp [h2]⟩
   have:((ts.filter fun p=>!decide (p∈line)).filter fun p=>!decide (p=q)).length<(ts.filter fun p=>!decide (p∈line)).length:=by
    refine Nat.lt_of_le_of_ne (lO _ _) fun e2=>?_
    have:=lS.mp ((List.length_filter_eq_length_iff (p:=fun p=>!decide (p=q))).mp e2 |> fun h=>lS.mpr h) q K2
    simp at this
   rw [e];walk_at "o"
  ·exact ⟨line,r,fun p hp=>Classical.byContradiction fun h=>hw ⟨p,hp,h⟩⟩
theorem RulG.lines(G:RulG ns ls ms R):R1 R "row" ls/\R1 R "marks" ms:=by
 have g:=G.good;obtain ⟨L,h1,h2⟩:=alr (rank:=fun x=>ls.idxOf x) g.a1 (fun e he=>(wA he).1) _ [] (C2 _) (R0.nil _ (toldL (rowsW R "row")));obtain ⟨M,h3,h4⟩:=alr (rank:=fun x=>ms.idxOf x) g.a2 (fun e he=>(wA he).1) _ [] (C2 _) (R0.nil _ (toldL (rowsW R "marks")));have e1:=G.lets ⟨h1,h2⟩;have e2:=G.mrks ⟨h3,h4⟩;rw [<- e1,<- e2];exact ⟨⟨h1,h2⟩,h3,h4⟩
end L2
set_option maxRecDepth 100000
namespace L2
open PySem PySem.Spec PyProof.Rows
noncomputable def tRev (K:PySem.W.Frag) (te:TE) (tk:TO):TE:=fun σ H Q=>te σ H fun x H1=>tk σ H1 fun k H2=>k=some (-1)/\∃ a xs,x=.ref a/\E2 K H2 a xs/\∀ p,H2 p=none->Q (.ref p) (A0 H2 p (.lst xs.reverse))
theorem uao(r:Vals xs us):Vals xs.reverse us.reverse:=by
 induction r with
 | nil=>exact .nil
 | cons h t ih=>
  rw [iP,iP];exact ih.append (.cons h .nil)
theorem arN{k:Expr}{tk:TO}{pos:Pos}(he:PE X e te)(hk:PO X (some k) tk):PE X (.Subscript e (.Slice none none (some k) p2) pos) (tRev X.K te tk):=by
 intro pins s σ H Q I h;refine Subscript_ (B5 (he pins s σ H _ I h) fun v s1 ⟨x,H1,I1,r1,q1⟩=>?_);refine wpAny_Slice ?_;rw [evalPart_none];refine wpAny_pure ?_;refine wpAny_pure ?_;refine B5 (hk pins s1 σ H1 _ I1 q1) fun vk s3 ⟨kk,H3,I3,pk,q3⟩=>?_
 obtain ⟨rfl,a,xs,rfl,hx,q⟩:=q3;have I4:Inv X pins σ H3 { s3 with heap:=s3.heap.push { cls:=.type "slice",data:=.fields #[.none,.none,vk] } }:=I3.kept (t':=s3.toks) fun b ob q=>Heap.get?_push_of_some _ q
 cases r1
 obtain ⟨its,r,ht,hz⟩:=I4.list hx;have A9:=r.length;show wpAny (model X.prog X.w) X.A (subscriptTail e (.Slice none none (some k) p2) (.ref a) (.ref s3.heap.objs.size)) (EP X pins σ Q) X.xe { s3 with heap:=s3.heap.push { cls:=.type "slice",data:=.fields #[.none,.none,vk] } };refine tail_any (ops:=[.ref a,.ref s3.heap.objs.size]) ht.isList.typeIs slot_list_getitem.lookup ?_ (by with_unfolding_all rfl);refine wpAny_getItem_list_slice ht.isList (Heap.IsSliceOf.new ..) .none .none pk (by simp) ?_ (by rw [L5] <;> walk_at "o");rw [PySem.W.krv_pick];refine ⟨.ref _,_,I4.laid (o:=.lst xs.reverse) (fun b ob q=>Heap.get?_push_of_some _ q) (C2 _) ?_,rfl,q _ (I4.hok.fresh (C2 _))⟩;exact ⟨by rw [lP];exact hz,_,0,uao r,Heap.get?_push_size _ rfl⟩
theorem arO{k:Expr}{tk:TO}{pos:Pos}(he:QE X e te)(hk:QO X (some k) tk)(hK:X.K=K:=by rfl):QE X (.Subscript e (.Slice none none (some k) p2) pos) (tRev K te tk):=by subst hK;exact ⟨arN he.out hk.out⟩
theorem ao0{tk:TO} : tRev K te tk σ H Q=te σ H fun x H1=>tk σ H1 fun k H2=>k=some (-1)/\∃ a xs,x=.ref a/\E2 K H2 a xs/\∀ p,H2 p=none->Q (.ref p) (A0 H2 p (.lst xs.reverse)):=rfl
end L2
set_option maxRecDepth 100000
namespace PySem
section
variable {prog:Program} {w:World} {A:Around} {E:Value->Shared->Prop} {s:Shared}
end
end PySem
namespace L2
open PySem PySem.Spec PyProof.Rows
noncomputable def tLRev (ta:TA):TE:=fun σ H Q=>ta σ H fun vs H1=>∃ (l:Addr) (xs:List V),vs=[.ref l]/\H1 l=some (.lst xs)/\∀ p,H1 p=none->Q (.ref p) (A0 H1 p (.lst xs.reverse))
theorem ao1 : tLRev ta σ H Q=ta σ H fun vs H1=>∃ (l:Addr) (xs:List V),vs=[.ref l]/\H1 l=some (.lst xs)/\∀ p,H1 p=none->Q (.ref p) (A0 H1 p (.lst xs.reverse)):=rfl
end L2
set_option maxRecDepth 100000
namespace L2
open PySem PySem.Spec PyProof.Rows
noncomputable def U6 (k w:Int):List Int:=if k=0 then [1] else if k=1 then [2,w+1] else [w+3]
noncomputable def f6 (U:List E9):List Int:=U.flatMap fun u=>U6 u.1 u.2.1
theorem afT(k w:Int):(U6 k w).length<=2:=by
 unfold U6
 split
 ·simp
 ·split <;> simp
theorem rZ:∀ U:List E9,(f6 U).length<=2*U.length
 | []=>C2 _
 | u::U=>by
  have h1:=rZ U;have h2:=afT u.1 u.2.1;show (U6 u.1 u.2.1++f6 U).length<=_;rw [C5,K3];walk_at "o"
theorem ah4{u:E9}(h:U[i]?=some u):f6 (U.take (i+1))=f6 (U.take i)++U6 u.1 u.2.1:=by
 unfold f6;rw [K7 h,X4]
 simp
noncomputable def ai4:Sp:=fun vs H Q _=>∃ (k w:Int),vs=[.int k,.int w]/\∀ l,H l=none->Q (.ref l) (A0 H l (.lst ((U6 k w).map V.int)))
noncomputable def ai5:Sp:=fun vs H Q _=>∃ (a:Addr) (U:List E9),vs=[.ref a]/\IsUn H a U/\U.length<=10000/\∀ l H',H l=none->Same H H'->H' l=some (.lst ((f6 U).map V.int))->Q (.ref l) H'
noncomputable def W5 (U:List E9):List Int:=U.flatMap fun u=>(u.2.2.1.map fun p=>p+2)++[1]
noncomputable def ahk:Sp:=fun vs H Q _=>∃ (z:Str),vs=[.str z]/\z.length<=1000/\∀ l H',H l=none->Same H H'->H' l=some (.lst ((z.cps.toList.map fun c:Nat=>(c:Int)).map V.int))->Q (.ref l) H'
noncomputable def Q4 (U:List E9):Nat:=(U.map fun u=>u.2.2.1.length).sum
theorem ah5(U:List E9)(s:Tr):Q4 (addS U s)<=Q4 U+1:=by
 unfold addS
 by_cases h:s.1=0
 ·rw [if_pos h]
  by_cases hU:U=[]
  ·subst hU;unfold addM Q4
   simp
  ·obtain ⟨U',u,rfl⟩:=xE hU;unfold addM;rw [List.getLast?_append,List.getLast?_singleton];simp [Q4];walk_at "o"
 ·rw [if_neg h];simp [Q4]
theorem ae8:∀ (ss:List Tr) (U:List E9),Q4 (ss.foldl addS U)<=Q4 U+ss.length
 | [],U=>C2 _
 | s::ss,U=>by
  rw [List.foldl_cons,K3];have h1:=ae8 ss (addS U s);have h2:=ah5 U s;walk_at "o"
theorem aen(hs:∀ y,(S y).length<=15)(ps:List Str):Q4 (O5 S ps)<=15*ps.length:=by
 have h0:(ps.flatMap S).length<=15*ps.length:=by
  induction ps with
  | nil=>exact C2 _
  | cons p ps ih=>
   rw [U1,C5,K3]
   have:=hs p
   walk_at "o"
 have h1:=ae8 (ps.flatMap S) [];unfold O5;have h2:Q4 []=0:=rfl;walk_at "o"
theorem xJ(U:List E9):(W5 U).length=Q4 U+U.length:=by
 unfold W5 Q4
 induction U with
 | nil=>rfl
 | cons u U ih=>
  rw [U1,C5,ih,K4,List.sum_cons,K3]
  simp
  walk_at "o"
theorem xK(U:List E9):Q4 U.reverse=Q4 U:=by
 unfold Q4;rw [List.map_reverse,List.sum_reverse]
noncomputable def ahl:Sp:=fun vs H Q _=>∃ (a:Addr) (b:Bool) (U:List E9),vs=[.ref a,.bl b]/\IsUn H a U/\U.length<=10000/\(∀ u∈U,u.2.2.1.length<=10000)/\Q4 U<=100000/\∀ l H',H l=none->Same H H'->H' l=some (.lst ((W5 (if b=true then U.reverse else U)).map V.int))->Q (.ref l) H'
theorem xL{α β:Type}{F:α->β->Prop} : ∀ {as:List α} {bs:List β},Paired F as bs->Paired F as.reverse bs.reverse
 | _,_,.nil=>.nil
 | _,_,.cons h t=>by
  rw [iP,iP];exact Paired.snoc (xL t) h
theorem xM{α β:Type}{F:α->β->Prop} : ∀ {as:List α} {bs:List β} (h:Paired F as bs) (n:Nat),Paired F (as.take n) (bs.take n)
 | _,_,.nil,n=>by rw [List.take_nil,List.take_nil];exact .nil
 | _,_,.cons h t,0=>.nil
 | _,_,.cons h t,n+1=>.cons h (xM t n)
noncomputable def bK (b:Bool) (U:List E9) (z:Str):List (List Int):=[f6 U,W5 (if b=true then U.reverse else U),U.map fun u=>u.2.2.2+1,z.cps.toList.map fun c:Nat=>(c:Int)]
noncomputable def keyF (n:Nat) (b:Bool) (U:List E9) (z:Str):List Int:=((bK b U z).take n).flatMap fun l=>l++[0]
noncomputable def spKey (C:Addr):Sp:=fun vs H Q _=>∃ (x j ll ml md:Addr) (z:Str) (n:Nat) (g:Str->Str) (R:List Rl) (L M:List Str),vs=[.ref x,.str z,.int n]/\n<=4/\IsOrd C H x j ll ml md g R L M/\(E5 R).length<=1000/\z.length<=500/\n6 (hasW R "figures") (E5 R) z/\(∀ y,(stepY R L M y).length<=15)/\
 ∀ l H',H l=none->Same H H'->H' l=some (.lst ((keyF n (hasW R "behind") (O5 (stepY R L M) (cutF (hasW R "figures") (E5 R) z.cps.toList).2) z).map V.int))->Q (.ref l) H'
noncomputable def ai6:Sp:=fun vs H Q _=>∃ (a:Addr) (U:List E9),vs=[.ref a]/\IsUn H a U/\U.length<=10000/\∀ l H',H l=none->Same H H'->H' l=some (.lst ((U.map fun u=>u.2.2.2+1).map V.int))->Q (.ref l) H'
theorem als(G:RulG ns ls ms R)(p0:∀ x,x∈ks↔x∈E5 R)(Y6:∀ p∈ps,e9 (hasW R "figures") ks p) :
  (ps.map (·.length)).sum<=14*ps.length/\(Str.join (Str.ofString "") ps).length<=14*ps.length/\(Str.join (Str.ofString "") ps).cps.toList=flatP ps/\n6 (hasW R "figures") (E5 R) (Str.join (Str.ofString "") ps):=by
 have hW:∀ p∈ps,e9 (hasW R "figures") (E5 R) p:=fun p hp=>(Y6 p hp).imp (p0 p).mp id
 have X0:∀ p∈ps,dM (hasW R "figures") (E5 R) p:=fun p hp=>(hW p hp).imp id And.left
 have hp14:∀ p,e9 (hasW R "figures") (E5 R) p->p.length<=14:=fun p hp=>by
  rcases hp with h | ⟨_,h⟩
  ·rcases ahi G p h with ⟨c,rfl⟩ | ⟨c,d,rfl⟩
   ·show 1<=14;decide
   ·show 2<=14;decide
  ·exact h
 have pD:(ps.map (·.length)).sum<=14*ps.length:=by
  clear Y6 X0
  induction ps with
  | nil=>exact C2 _
  | cons p ps ih=>
   have:=ih fun q hq=>hW q (M3 _ hq)
   have:=hp14 p (hW p M4)
   simp only [K4,List.sum_cons,K3];walk_at "o"
 have hzj:(Str.join (Str.ofString "") ps).cps.toList=flatP ps:=ahe ps;have Z6:(flatP ps).length=(ps.map (·.length)).sum:=by
  rw [List.length_flatMap];exact congrArg List.sum (iO fun p _=>lenL p)
 exact ⟨pD,by rw [<- lenL,hzj,Z6];exact pD,hzj,ajL G hzj X0⟩
theorem RulG.known_len(G:RulG ns ls ms R):(E5 R).length<=1000:=by
 unfold E5;rw [C5];have h1:=wE (C8 R);have h2:=wX (n:=19) fun z hz=>G.zl hz
 have h3:(W4 R).length<=1:=by unfold W4;split <;> simp
 have h4:=G.len;walk_at "o"
theorem RulG.known_pos(G:RulG ns ls ms R)(p0:∀ x,x∈ks↔x∈E5 R):1<=ks.length:=by
 have h0:=G.l0;obtain ⟨l,hl⟩:∃ l,l∈ls:=by
  cases ls with
  | nil=>simp at h0
  | cons l r=>exact ⟨l,M4⟩
 have:=(p0 l).mpr (xI (D3.mpr ⟨_,G.letter.mpr hl,rfl⟩))
 exact List.length_pos_of_mem this
theorem ae9(hs:∀ y,(S y).length<=15){w:Bool}{y:Str}(hy:y.length<=500) :
  (O5 S (cutF w ks y.cps.toList).2).length<=10000/\(∀ u∈O5 S (cutF w ks y.cps.toList).2,u.2.2.1.length<=10000)/\Q4 (O5 S (cutF w ks y.cps.toList).2)<=100000:=by
 have h1:=rY hs (cutF w ks y.cps.toList).2;have h2:=(rV (w:=w) (g:=ks) _ y.cps.toList (C2 _)).2.1;have h3:=aen hs (cutF w ks y.cps.toList).2;rw [lenL] at h2;exact ⟨by walk_at "o",fun u hu=>by have:=h1.2 u hu;walk_at "o",by walk_at "o"⟩
noncomputable def StOk (s:Tr):Prop:=(s.1=0\/s.1=1\/s.1=2)/\0<=s.2.1/\0<=s.2.2
noncomputable def EltOk (u:E9):Prop:=(u.1=0\/u.1=1\/u.1=2)/\0<=u.2.1/\(∀ p∈u.2.2.1,0<=p)/\0<=u.2.2.2
theorem amU{y:Str} : ∀ s∈stepF R L M y,StOk s:=by
 unfold stepF;cases e:(putsL R L M).lookup y with
 | none=>intro s hs;cases hs
 | some t=>
  obtain ⟨l1,l2,el,_⟩:=List.lookup_eq_some_iff.mp e;have hm:(y,t)∈putsL R L M:=by rw [el];simp
  show ∀ s∈t,StOk s;have one:∀ {a:Tr},[a]=t->StOk a->∀ s∈t,StOk s:=fun {a} e h s hs=>by
   rw [<- e] at hs;rw [E6.mp hs];exact h
  unfold putsL at hm
  rcases E1.mp hm with hm | hm
  ·rcases E1.mp hm with hm | hm
   ·rcases E1.mp hm with hm | hm
    ·obtain ⟨a,_,q⟩:=D3.mp hm;exact one (Prod.mk.inj q).2 ⟨.inr (.inr rfl),fH _,cY _⟩
    ·obtain ⟨a,_,q⟩:=D3.mp hm;exact one (Prod.mk.inj q).2 ⟨.inl rfl,fH _,cY _⟩
   ·obtain ⟨_,_,hm⟩:=X5.mp hm;obtain ⟨a,_,q⟩:=D3.mp hm;exact one (Prod.mk.inj q).2 ⟨.inr (.inr rfl),fH _,fH _⟩
  ·unfold mT at hm;obtain ⟨z,hz,q⟩:=fB.mp hm
   by_cases hw:z.1=("as" : Str)
   ·rw [if_pos hw,Option.map_eq_some_iff] at q;obtain ⟨p,_,q⟩:=q;rw [<- (Prod.mk.inj q).2];intro s hs;obtain ⟨b,_,rfl⟩:=D3.mp hs;unfold baseT
    by_cases hb:b∈L
    ·rw [if_pos hb];exact ⟨.inr (.inr rfl),fH _,cY _⟩
    ·rw [if_neg hb];exact ⟨.inl rfl,fH _,cY _⟩
   ·rw [if_neg hw] at q;cases q
theorem ai7(y:Str):∀ s∈stepY R L M y,StOk s:=by
 unfold stepY
 split
 ·intro s hs;rw [E6.mp hs];exact ⟨.inr (.inl rfl),fH _,cY _⟩
 ·exact amU
theorem ao2{s:Tr}(hU:∀ u∈U,EltOk u)(hs:StOk s):∀ u∈addS U s,EltOk u:=by
 unfold addS
 split
 ·unfold addM
  split
  ·intro u hu;rw [E6.mp hu];exact ⟨.inl rfl,cY _,fun p hp=>by rw [E6.mp hp];exact hs.2.1,cY _⟩
  ·rename_i v hv
   have ov:=hU v (List.mem_of_getLast? hv);intro u hu
   rcases E1.mp hu with h | h
   ·exact hU u ((List.dropLast_sublist _).subset h)
   ·rw [E6.mp h];refine ⟨ov.1,ov.2.1,fun p hp=>?_,ov.2.2.2⟩
    rcases E1.mp hp with h | h
    ·exact ov.2.2.1 p h
    ·rw [E6.mp h];exact hs.2.1
 ·intro u hu
  rcases E1.mp hu with h | h
  ·exact hU u h
  ·rw [E6.mp h];exact ⟨hs.1,hs.2.1,by simp,hs.2.2⟩
theorem ai8(hS:∀ y,∀ s∈S y,StOk s)(ps:List Str):∀ u∈O5 S ps,EltOk u:=by
 have gen:∀ (ss:List Tr) (U:List E9),(∀ u∈U,EltOk u)->(∀ s∈ss,StOk s)->∀ u∈ss.foldl addS U,EltOk u:=by
  intro ss
  induction ss with
  | nil=>intro U hU _;exact hU
  | cons s ss ih=>intro U hU hs;exact ih _ (ao2 hU (hs s M4)) fun t ht=>hs t (M3 _ ht)
 refine gen _ [] (by simp) fun s hs=>?_
 obtain ⟨y,_,h⟩:=X5.mp hs;exact hS y s h
theorem amV(b:Bool)(U:List E9)(z:Str)(n:Nat):(keyF n b U z).length<=4*U.length+Q4 U+z.length+4:=by
 have h1:=rZ U;have h2:(W5 (if b=true then U.reverse else U)).length=Q4 U+U.length:=by
  rw [xJ]
  split
  ·rw [xK,lP]
  ·rfl
 have h3:z.cps.toList.length=z.length:=lenL z;have h4:(keyF n b U z).length<=(keyF 4 b U z).length:=by
  unfold keyF;have e:(bK b U z).take 4=bK b U z:=rfl;rw [e]
  conv=>rhs;rw [<- T9 n (bK b U z),X4,C5]
  exact z0 _ _
 have h5:(keyF 4 b U z).length=(f6 U).length+(W5 (if b=true then U.reverse else U)).length+U.length+z.cps.toList.length+4:=by
  unfold keyF bK;simp only [List.take_succ_cons,b8,U1,iQ,L1,C5,A6,N5];walk_at "o"
 walk_at "o"
end L2
set_option maxRecDepth 100000
namespace PySem.SeqAt
open AutoSeq1 (wpAny_loadPart')
open MeetsSeq MeetsSeq2 MeetsSeq3 SeqRoads2
noncomputable def RcLt (A:Around) (s:Shared) (y x:Value) (b:Bool):Prop:=
 ∀ (prog:Program) (w:World) (E:Value->Shared->Prop) (Q:Value->Shared->Prop),Q (.bool b) s->wpAny (model prog w) A (richCompare .Lt y x) Q E s
theorem alt{α:Type}[DecidableEq α][LT α][DecidableLT α](x0:∀ a:α,¬ a<a){xs ys:List α}(h1:i<xs.length)(h2:i<ys.length) :
  decide (xs.drop i<ys.drop i)=if decide (xs[i]=ys[i])=true then decide (xs.drop (i+1)<ys.drop (i+1)) else decide (xs[i]<ys[i]):=by
 rw [y7 h1,y7 h2]
 by_cases e:xs[i]=ys[i]
 ·rw [if_pos (decide_eq_true e)];refine decide_eq_decide.mpr ?_;rw [p9,e];exact ⟨fun h=>h.elim (fun h=>absurd h (x0 _)) (fun h=>h.2),fun h=>.inr ⟨rfl,h⟩⟩
 ·rw [if_neg (by simpa using e)];refine decide_eq_decide.mpr ?_;rw [p9];exact ⟨fun h=>h.elim id fun h=>absurd h.1 e,.inl⟩
theorem anw{α:Type}[LT α][DecidableEq α][DecidableLT α]{ys:List α}{m':Nat}(hx:m=m')(hy:n=ys.length)(hi:i=m):decide ([]<ys.drop i)=decide (m<n):=by
 refine decide_eq_decide.mpr ?_;cases e:ys.drop i with
 | nil=>
  have:=List.drop_eq_nil_iff.mp e
  exact ⟨fun h=>absurd h (fE _),fun h=>by walk_at "o"⟩
 | cons a r=>
  have:i<ys.length:=by
   rcases Nat.lt_or_ge i ys.length with h | h
   ·exact h
   ·rw [lN h] at e;cases e
  exact ⟨fun _=>by walk_at "o",fun _=>List.nil_lt_cons _ _⟩
theorem alu{α:Type}[DecidableEq α][LT α][DecidableLT α](x0:∀ a:α,¬ a<a)(l b:Addr)(items items2:Array Value)(n n2:Nat)(dd j8:Option Addr)(sl Y0:Array (Option Value))(xs ys:List α)(hx:items.size=xs.length)(hy:items2.size=ys.length)(k:Nat) :
  ∀ i:Nat,items.size-i=k->i<=items.size->i<=items2.size->Meets (Builtin.«list.__eq__.loop» ⟨[.ref l,.ref b,rawInt i,rawInt 0],[]⟩)
   (fun A R s=>s.heap.get? l=some { cls:=.type "list",dict:=dd,data:=.seq items n,slots:=sl }/\s.heap.get? b=some { cls:=.type "list",dict:=j8,data:=.seq items2 n2,slots:=Y0 }/\
    (∀ j (h1:j<items.size) (h2:j<items2.size) (g1:j<xs.length) (g2:j<ys.length),EqAt A.in1 s items[j] items2[j] (decide (xs[j]=ys[j]))/\RcLt A.in1 s items[j] items2[j] (decide (xs[j]<ys[j])))/\
    R (.ok (.ret (.bool (decide (xs.drop i<ys.drop i))))) s):=by
 induction k with
 | zero=>
  intro i hk l1 l2 prog w A R s h;obtain ⟨hp,g,d,tk,os⟩:=s;obtain ⟨hl,hb,he,h⟩:=h
  wp_walk using wpAny_loadPart' hl,wpAny_loadPart' hb
  have cA:items[((i:Nat):Int).toNat]?=none:=by simp;walk_at "o"
  rw [cA]
  wp_walk using wpAny_loadPart' hl,wpAny_loadPart' hb
  show R (.ok (.ret (.bool (decide (items.size<items2.size))))) _;have e:decide (xs.drop i<ys.drop i)=decide (items.size<items2.size):=by
   rw [lN (as:=xs) (by walk_at "o")];exact anw hx hy (by walk_at "o")
  rw [e] at h;exact h
 | succ k ih=>
  intro i hk l1 l2 prog w A R s h;obtain ⟨hp,g,d,tk,os⟩:=s;obtain ⟨hl,hb,he,h⟩:=h
  wp_walk using wpAny_loadPart' hl,wpAny_loadPart' hb
  have C9:i<items.size:=by walk_at "o"
  have cA:items[((i:Nat):Int).toNat]?=some items[i]:=by simp [C9]
  by_cases pE:i<items2.size
  ·have o9:items2[((i:Nat):Int).toNat]?=some items2[i]:=by simp [pE]
   have hc:((i:Int)+1)=((i+1:Nat):Int):=by push_cast;rfl
   rw [cA,o9];obtain ⟨h1,h2⟩:=he i C9 pE (by walk_at "o") (by walk_at "o");rw [alt x0 (by walk_at "o") (by walk_at "o")] at h;refine wpAny_bind (h1 prog w _ _ ?_);cases Z5:decide (xs[i]'(by walk_at "o")=ys[i]'(by walk_at "o")) with
   | true=>
    rw [Z5,if_pos rfl] at h
    wp_walk
    rw [hc];exact ⟨plainId_quiet plain_eq_loop _,codeAny_builtin entry_eq_loop (by
     rw [Around.under_plainId plain_eq_loop _];exact ih (i+1) (by walk_at "o") (by walk_at "o") (by walk_at "o") prog w A R _ ⟨hl,hb,he,h⟩)⟩
   | false=>
    rw [Z5,if_neg (by decide)] at h
    wp_walk using wpAny_loadPart' hl,wpAny_loadPart' hb
    rw [cA,o9];refine wpAny_bind (h2 prog w _ _ ?_)
    wp_walk
    exact h
  ·have o9:items2[((i:Nat):Int).toNat]?=none:=by simp;walk_at "o"
   rw [cA,o9]
   wp_walk using wpAny_loadPart' hl,wpAny_loadPart' hb
   show R (.ok (.ret (.bool (decide (items.size<items2.size))))) _;have e:decide (xs.drop i<ys.drop i)=decide (items.size<items2.size):=by
    rw [lN (as:=ys) (by walk_at "o")];refine decide_eq_decide.mpr ?_;exact ⟨fun h=>absurd h (fE _),fun h=>by walk_at "o"⟩
   rw [e] at h;exact h
theorem alv{α:Type}[DecidableEq α][LT α][DecidableLT α](x0:∀ a:α,¬ a<a)(l b:Addr)(items items2:Array Value)(n n2:Nat)(dd j8:Option Addr)(sl Y0:Array (Option Value))(xs ys:List α)(hx:items.size=xs.length)(hy:items2.size=ys.length) :
  Meets (Builtin.«list.__lt__» ⟨[.ref l,.ref b],[]⟩)
   (fun A R s=>s.heap.get? l=some { cls:=.type "list",dict:=dd,data:=.seq items n,slots:=sl }/\s.heap.get? b=some { cls:=.type "list",dict:=j8,data:=.seq items2 n2,slots:=Y0 }/\
    (∀ j (h1:j<items.size) (h2:j<items2.size) (g1:j<xs.length) (g2:j<ys.length),EqAt A.in1 s items[j] items2[j] (decide (xs[j]=ys[j]))/\RcLt A.in1 s items[j] items2[j] (decide (xs[j]<ys[j])))/\
    R (.ok (.ret (.bool (decide (xs<ys))))) s):=by
 intro prog w A R s h;obtain ⟨hp,g,d,tk,os⟩:=s;obtain ⟨hl,hb,he,h⟩:=h;have f3:=AutoSeq1.sub_list_list
 wp_walk using wpAny_loadPart' hl,wpAny_loadPart' hb
 exact ⟨plainId_quiet plain_eq_loop _,codeAny_builtin entry_eq_loop (by
  rw [Around.under_plainId plain_eq_loop _];exact alu x0 l b items items2 n n2 dd j8 sl Y0 xs ys hx hy _ 0 rfl (G2 _) (G2 _) prog w A R _ ⟨hl,hb,he,h⟩)⟩
theorem ajM{α:Type}[DecidableEq α][LT α][DecidableLT α](x0:∀ a:α,¬ a<a)(l b:Addr)(items items2:Array Value)(n n2:Nat)(dd j8:Option Addr)(sl Y0:Array (Option Value))(xs ys:List α)(hx:items.size=xs.length)(hy:items2.size=ys.length) :
  Meets (Builtin.«tuple.__lt__» ⟨[.ref l,.ref b],[]⟩)
   (fun A R s=>s.heap.get? l=some { cls:=.type "tuple",dict:=dd,data:=.seq items n,slots:=sl }/\s.heap.get? b=some { cls:=.type "tuple",dict:=j8,data:=.seq items2 n2,slots:=Y0 }/\
    (∀ j (h1:j<items.size) (h2:j<items2.size) (g1:j<xs.length) (g2:j<ys.length),EqAt A.in1 s items[j] items2[j] (decide (xs[j]=ys[j]))/\RcLt A.in1 s items[j] items2[j] (decide (xs[j]<ys[j])))/\
    R (.ok (.ret (.bool (decide (xs<ys))))) s):=
 .of_wp fun prog w A R s h=>by
  obtain ⟨hp,g,d,tk,os⟩:=s;obtain ⟨hl,hb,he,h⟩:=h;have f2:=AutoSeq1.sub_tuple_tuple;have hZ:(items.toList.zip items2.toList).length=min items.size items2.size:=by simp
  wp_walk using wpAny_loadPart' hl,wpAny_loadPart' hb,wpAny_forIn_list _ (fun rest b s'=>b.1=none/\s'=⟨hp,g,d,tk,os⟩/\∃ i,rest=(items.toList.zip items2.toList).drop i/\i<=min items.size items2.size/\
   R (.ok (.ret (.bool (decide (xs.drop i<ys.drop i))))) ⟨hp,g,d,tk,os⟩) _
  case turn=>
   rintro ⟨y,x⟩ rest b s' ⟨Z5,rfl,i,hz,hi,hR⟩;have C9:i<(items.toList.zip items2.toList).length:=by
    rcases Nat.lt_or_ge i (items.toList.zip items2.toList).length with h' | h'
    ·exact h'
    ·rw [lM h'] at hz;cases hz
   have hm:i<min items.size items2.size:=hZ ▸ C9;have h1:i<items.size:=R8 hm (iT _ _);have h2:i<items2.size:=R8 hm (Nat.min_le_right _ _);rw [y7 C9] at hz
   injection hz with hyx U7
   have tQ:y=items[i]:=by have:=congrArg Prod.fst hyx;simpa using this
   have hx':x=items2[i]:=by have:=congrArg Prod.snd hyx;simpa using this
   subst tQ hx';rw [alt x0 (by walk_at "o") (by walk_at "o")] at hR;obtain ⟨q1,q2⟩:=he i h1 h2 (by walk_at "o") (by walk_at "o");refine wpAny_bind (q1 prog w _ _ ?_);cases tQ:decide (xs[i]'(by walk_at "o")=ys[i]'(by walk_at "o")) with
   | true=>
    rw [tQ,if_pos rfl] at hR
    wp_walk
    exact ⟨rfl,rfl,i+1,U7,hm,hR⟩
   | false=>
    rw [tQ,if_neg (by decide)] at hR;refine wpAny_ite_split (fun _=>?_) (fun eE=>absurd rfl eE);refine wpAny_bind (wpAny_rule ?_);refine wpAny_bind (q2 prog w _ _ ?_)
    wp_walk
    exact ⟨_,rfl,hR⟩
  case fin=>
   rintro ⟨b1,b2⟩ s' ⟨Z5,rfl,i,hz,hi,hR⟩;simp only at Z5;subst Z5;have tR:min items.size items2.size<=i:=by
    rcases Nat.lt_or_ge i (items.toList.zip items2.toList).length with h' | h'
    ·rw [y7 h'] at hz;cases hz
    ·exact hZ ▸ h'
   have e:decide (xs.drop i<ys.drop i)=decide (items.size<items2.size):=by
    by_cases hc:items.size<=i
    ·rw [lN (as:=xs) (by walk_at "o")];exact anw hx hy (by walk_at "o")
    ·rw [lN (as:=ys) (by walk_at "o")];refine decide_eq_decide.mpr ?_;exact ⟨fun h=>absurd h (fE _),fun h=>by walk_at "o"⟩
   rw [e] at hR
   wp_walk
   exact ⟨_,rfl,by simpa [Builtin.Tuple.tupleCompareSizes] using hR⟩
  case h=>
   exact ⟨rfl,rfl,0,rfl,G2 _,h⟩
section
variable {A:Around} {s:Shared}
theorem RcLt.lists{α:Type}[DecidableEq α][LT α][DecidableLT α](x0:∀ a:α,¬ a<a){l:Addr}{xs ys:List α}(hl:s.heap.IsList l items)(hb:s.heap.IsList b items2)(hx:items.size=xs.length)(hy:items2.size=ys.length)(hu:A.units<cLine)(he:∀ j (h1:j<items.size) (h2:j<items2.size) (g1:j<xs.length) (g2:j<ys.length),EqAt A.in1 s items[j] items2[j] (decide (xs[j]=ys[j]))/\RcLt A.in1 s items[j] items2[j] (decide (xs[j]<ys[j]))):RcLt A s (.ref l) (.ref b) (decide (xs<ys)):=fun prog w E Q h=>by
 obtain ⟨⟨cls,dd,data,sl⟩,ho,hc,n,hd⟩:=id hl;obtain ⟨⟨cls2,j8,data2,Y0⟩,aM,Y5,n2,R5⟩:=id hb;simp only at hc hd Y5 R5;subst hc hd Y5 R5;exact richCompare_meets_room (op:=.Lt) ⟨_,ho,rfl⟩ ⟨_,aM,rfl⟩ F.slot_list_lt F.entry_list_lt (F.args_list_lt_2 _ _) (alv x0 l b items items2 n n2 dd j8 sl Y0 xs ys hx hy)
  ⟨ho,aM,he,show Value.bool (decide (xs<ys))≠Value.notImplemented/\Q (.bool (decide (xs<ys))) s from ⟨(fun x=>nomatch x),h⟩⟩ hu
theorem RcLt.tuples{α:Type}[DecidableEq α][LT α][DecidableLT α](x0:∀ a:α,¬ a<a){l:Addr}{xs ys:List α}(hl:s.heap.IsTuple l items)(hb:s.heap.IsTuple b items2)(hx:items.size=xs.length)(hy:items2.size=ys.length)(hu:A.units<cLine)(he:∀ j (h1:j<items.size) (h2:j<items2.size) (g1:j<xs.length) (g2:j<ys.length),EqAt A.in1 s items[j] items2[j] (decide (xs[j]=ys[j]))/\RcLt A.in1 s items[j] items2[j] (decide (xs[j]<ys[j]))):RcLt A s (.ref l) (.ref b) (decide (xs<ys)):=fun prog w E Q h=>by
 obtain ⟨⟨cls,dd,data,sl⟩,ho,hc,n,hd⟩:=id hl;obtain ⟨⟨cls2,j8,data2,Y0⟩,aM,Y5,n2,R5⟩:=id hb;simp only at hc hd Y5 R5;subst hc hd Y5 R5;exact richCompare_meets_room (op:=.Lt) ⟨_,ho,rfl⟩ ⟨_,aM,rfl⟩ F.slot_tuple_lt F.entry_tuple_lt (F.args_tuple_lt_2 _ _) (ajM x0 l b items items2 n n2 dd j8 sl Y0 xs ys hx hy)
  ⟨ho,aM,he,show Value.bool (decide (xs<ys))≠Value.notImplemented/\Q (.bool (decide (xs<ys))) s from ⟨(fun x=>nomatch x),h⟩⟩ hu
theorem RcLt.int_int(a:Int)(t:Tok)(b:Int)(u:Tok):RcLt A s (.int a t) (.int b u) (decide (a<b)):=fun prog w E Q h=>PySem.P.lt_int h
end
end PySem.SeqAt
namespace L2
open PySem PySem.Spec PyProof.Rows
theorem xN{its2:List Value}{xs ys:List Int}(r1:Vals (xs.map V.int) its)(r2:Vals (ys.map V.int) its2) :
  ∀ j (h1:j<its.toArray.size) (h2:j<its2.toArray.size) (g1:j<xs.length) (g2:j<ys.length),SeqAt.EqAt A s its.toArray[j] its2.toArray[j] (decide (xs[j]=ys[j]))/\SeqAt.RcLt A s its.toArray[j] its2.toArray[j] (decide (xs[j]<ys[j])):=by
 intro j h1 h2 g1 g2;obtain ⟨t,e1⟩:=rM (qT r1) (j:=j) (z:=xs[j]) (by simp);obtain ⟨u,e2⟩:=rM (qT r2) (j:=j) (z:=ys[j]) (by simp);have q1:its.toArray[j]=.int xs[j] t:=by have:=(G1.mp e1).2;simpa using this
 have q2:its2.toArray[j]=.int ys[j] u:=by have:=(G1.mp e2).2;simpa using this
 rw [q1,q2];refine ⟨?_,SeqAt.RcLt.int_int _ _ _ _⟩
 have:=SeqAt.EqAt.int_int (A:=A) (s:=s) xs[j] t ys[j] u
 rwa [show (xs[j]==ys[j])=decide (xs[j]=ys[j]) by rw [Bool.beq_eq_decide_eq]] at this
noncomputable def rLtR (K:PySem.W.Frag) (a b:Addr) (H:Hp) (Q:VK):Prop:=
 (∃ xs ys:List Int,E2 K H a (xs.map V.int)/\E2 K H b (ys.map V.int)/\Q (.bl (decide (xs<ys))) H)\/
 (∃ xs ys:List Int,C7 K H a (xs.map V.int)/\C7 K H b (ys.map V.int)/\Q (.bl (decide (xs<ys))) H)\/
 ∃ (as bs:List Addr) (xs ys:List (List Int)),E2 K H a (as.map V.ref)/\E2 K H b (bs.map V.ref)/\Paired (fun c x=>C7 K H c (x.map V.int)) as xs/\Paired (fun c x=>C7 K H c (x.map V.int)) bs ys/\Q (.bl (decide (xs<ys))) H
noncomputable def rLtK (K:PySem.W.Frag):V->V->Hp->VK->Prop
 | .int i,.int j,H,Q=>Q (.bl (decide (i<j))) H
 | .str i,.str j,H,Q=>Q (.bl (decide (i.cps.toList<j.cps.toList))) H
 | .ref a,.ref b,H,Q=>rLtR K a b H Q
 | _,_,_,_=>False
theorem q_ltK(hu:X.A.units+64<cLine)(hK:X.K=K:=by rfl):QOp X (compareOp .Lt) (rLtK K):=⟨by
 subst hK;intro pins s σ H x y v u Q I rx ry h;have u0:X.A.units<cLine:=by walk_at "o"
 have u1:X.A.in1.units<cLine:=by rw [show X.A.in1.units=X.A.units+1 from rfl];walk_at "o"
 have u2:X.A.in1.in1.units<cLine:=by rw [show X.A.in1.in1.units=X.A.units+2 from rfl];walk_at "o"
 cases x <;> cases y <;> try exact h.elim
 ·exact op_lt pins s σ H _ _ v u Q I rx ry ⟨_,_,rfl,rfl,h⟩
 ·exact agv pins s σ H _ _ v u Q I rx ry ⟨_,_,rfl,rfl,h⟩
 cases rx
 cases ry
 rcases h with ⟨xs,ys,h1,h2,q⟩ | ⟨xs,ys,h1,h2,q⟩ | ⟨as,bs,xs,ys,h1,h2,p1,p2,q⟩
 ·obtain ⟨its,r1,l1,_⟩:=I.list h1;obtain ⟨its2,r2,l2,_⟩:=I.list h2;have e1:=r1.length;have e2:=r2.length;rw [A6] at e1 e2;exact SeqAt.RcLt.lists cX l1.isList l2.isList (by simpa using e1.symm) (by simpa using e2.symm) u0 (xN r1 r2) _ _ _ _ ⟨.bl _,H,I,rfl,q⟩
 ·obtain ⟨its,r1,l1,_⟩:=I.tuple h1;obtain ⟨its2,r2,l2,_⟩:=I.tuple h2;have e1:=r1.length;have e2:=r2.length;rw [A6] at e1 e2;exact SeqAt.RcLt.tuples cX l1 l2 (by simpa using e1.symm) (by simpa using e2.symm) u0 (xN r1 r2) _ _ _ _ ⟨.bl _,H,I,rfl,q⟩
 ·obtain ⟨its,r1,l1,_⟩:=I.list h1;obtain ⟨its2,r2,l2,_⟩:=I.list h2;have e1:=r1.length;have e2:=r2.length;rw [A6] at e1 e2;have f1:=Paired.length p1;have f2:=Paired.length p2;refine SeqAt.RcLt.lists (xs:=xs) (ys:=ys) (fun a=>List.lt_irrefl a) l1.isList l2.isList (by simp;walk_at "o") (by simp;walk_at "o") u0 (fun j h1 h2 g1 g2=>?_) _ _ _ _ ⟨.bl _,H,I,rfl,q⟩;have j1:j<as.length:=by walk_at "o"
  have j2:j<bs.length:=by walk_at "o"
  obtain ⟨v1,w1,z1⟩:=Vals.get (i:=j) (x:=.ref as[j]) r1 (by simp [j1]);obtain ⟨v2,w2,z2⟩:=Vals.get (i:=j) (x:=.ref bs[j]) r2 (by simp [j2]);have q1:its.toArray[j]=v1:=by have:=(G1.mp w1).2;simpa using this
  have q2:its2.toArray[j]=v2:=by have:=(G1.mp w2).2;simpa using this
  rw [q1,q2];obtain ⟨x1,y1,t1⟩:=Paired.at p1 (i:=j) (a:=as[j]) (by simp [j1]);obtain ⟨x2,y2,t2⟩:=Paired.at p2 (i:=j) (a:=bs[j]) (by simp [j2]);have o1:xs[j]=x1:=(G1.mp y1).2;have o2:ys[j]=x2:=(G1.mp y2).2;rw [o1,o2]
  constructor
  ·obtain ⟨c1,us1,d1⟩:=(Dn.tup t1 bE).reads I rfl z1;obtain ⟨c2,us2,d2⟩:=(Dn.tup t2 bE).reads I rfl z2
   have:=SeqAt.eqAt_reads _ _ X.A.in1 s v1 v2 _ _ d1 d2 c1 c2 (by
    have hd:∀ zs:List Int,(PyData.tuple (zs.map aY)).depth=1:=fun zs=>by rw [k8,jJ]
    have ui:X.A.in1.units=X.A.units+1:=rfl;rw [hd,hd];walk_at "o")
   rwa [Q9,qY] at this
  ·cases z1
   cases z2
   obtain ⟨i1,s1,m1,_⟩:=I.tuple t1;obtain ⟨i2,s2,m2,_⟩:=I.tuple t2;have k1:=s1.length;have k2:=s2.length;rw [A6] at k1 k2;exact SeqAt.RcLt.tuples cX m1 m2 (by simpa using k1.symm) (by simpa using k2.symm) u1 (xN s1 s2)⟩
section
variable {K:PySem.W.Frag} {H:Hp} {Q:VK}
theorem arP{i j:Int} : rLtK K (.int i) (.int j) H Q=Q (.bl (decide (i<j))) H:=rfl
theorem arQ{i j:Str} : rLtK K (.str i) (.str j) H Q=Q (.bl (decide (i.cps.toList<j.cps.toList))) H:=rfl
theorem arR : rLtK K (.ref a) (.ref b) H Q=rLtR K a b H Q:=rfl
end
end L2
set_option maxRecDepth 100000
namespace L2
open PySem PySem.Spec PyProof.Rows
noncomputable def iDict (tl:TE):TI:=fun σ H R=>tl σ H fun x H1=>∃ a kvs,x=.ref a/\H1 a=some (.dK kvs)/\∀ o,R (bJ a o kvs) (A0 H1 a (.frz o (.dK kvs)))
theorem ao3{l:Expr}(hl:PE X l tl):PI X tg l (iDict tl):=by
 intro pins s σ H R I h;refine B5 (hl pins s σ H _ I h) fun v s1 ⟨x,H1,I1,r1,q1⟩=>?_
 obtain ⟨a,kvs,rfl,e,q⟩:=q1
 cases r1
 obtain ⟨z,hd,vs,rel,dd⟩:=dk_of I1.hok e;obtain ⟨ep,K6⟩:=dd.dictAt;obtain ⟨o,es,ho,U7⟩:=id K6;refine wpAny_pyIter_dict hd K6 ?_;have NF:∀ o' v',X.H₀ a≠some (.frz o' v'):=fun o' v' z=>by
  have:=I1.base.frzs _ _ _ z
  rw [e] at this;cases this
 have I1':Inv X pins σ H1 { s1 with heap:=s1.heap.push { cls:=.type "dict_keyiterator",data:=.fields #[.ref a,.int 0 0,.int vs.length 0,.int ep 0] } }:=I1.kept (t':=s1.toks) fun b u e=>Heap.get?_push_of_some _ e
 have I2:=I1'.swap (u':=.frz o (.dK kvs)) e (fun _ q=>by cases q) (fun _ q=>by cases q) (fun _ q=>by cases q) NF ⟨Heap.get?_push_of_some _ ho,I1'.hok a _ e⟩;have T:Turn X.prog X.w X.K tg (bJ a o kvs) [s1.heap.objs.size] s1.heap.objs.size (fun i h=>h.IsKeyIter s1.heap.objs.size a i vs.length ep):=agU a _ o kvs vs ep (fun h e=>⟨o,es,e,U7⟩) rel;have W9:A0 H1 a (.frz o (.dK kvs)) s1.heap.objs.size=none:=by rw [B1 (fun q=>by rw [<- q,I1.fresh] at e;cases e)];exact I1.fresh
 refine ⟨s1.heap.objs.size,[s1.heap.objs.size],_,_,_,rfl,I2,T,⟨_,Heap.get?_push_size _ rfl,rfl,rfl⟩,fun b hb=>?_,q o⟩;have e:b=s1.heap.objs.size:=by simpa using hb
 subst e;exact I1.fpOk (C2 _) W9
theorem alw{K:PySem.W.Frag}{l:Expr}(hl:QE X l tl):QI X tg l (iDict tl):=⟨ao3 hl.out⟩
theorem amW{R:It->Hp->Prop} : iDict tl σ H R=tl σ H fun x H1=>∃ a kvs,x=.ref a/\H1 a=some (.dK kvs)/\∀ o,R (bJ a o kvs) (A0 H1 a (.frz o (.dK kvs))):=rfl
noncomputable def tThaw (te:TE):TE:=fun σ H Q=>∃ a kvs,H a=some (.dK kvs)/\te σ H fun v H'=>(∃ o,H' a=some (.frz o (.dK kvs)))/\Q v (A0 H' a (.dK kvs))
theorem ao4 : tThaw te σ H Q=∃ a kvs,H a=some (.dK kvs)/\te σ H fun v H'=>(∃ o,H' a=some (.frz o (.dK kvs)))/\Q v (A0 H' a (.dK kvs)):=rfl
section
variable {X:Cx} {pos pos':Pos} {tg e elt:Expr} {ifs:List Expr} {wi:TI} {k:Nat} {ixs:List Nat} {sc:Scope} {N':List Str} {g:TG} {tA:TT} {te:TE} {x:Str}
noncomputable def anx (ts:TS):TS:=fun D σ H=>∃ a kvs,H a=some (.dK kvs)/\ts (D.thaw a kvs) σ H
theorem afa(hN:X.N.Nodup)(hiN:X.N[n]?=some x)(hx:l6 X.env.scope x)(C:CompOk X.N X.env.scope.names sc N' k ixs)(hi:QI X tg e wi)(hg:∀ C s₃ H₃ fp pins,QG (N4 X sc N' C s₃ H₃ fp pins) tg g)(hc:∀ C s₃ H₃ fp pins,QIfs (N4 X sc N' C s₃ H₃ fp pins) ifs tA)(he:∀ C s₃ H₃ fp pins,QE (N4 X sc N' C s₃ H₃ fp pins) elt te)(oP:swapsWith (.ListComp elt [⟨tg,e,ifs,0⟩] sc pos) (some (.Name x pos')) spos.line X.env=pure true:=by rfl)(L8:X.calm=true:=by rfl)(hf:X.fn x=true:=by rfl)(hs:∀ x,foldedSetIterable e X.env x=pure x:=by intro _;rfl) :
  QS X (.Assign [.Name x pos'] (.ListComp elt [⟨tg,e,ifs,0⟩] sc pos) spos) (anx (tAsg (tComp wi k ixs g tA te) (gName n))):=⟨by
 intro pins s σ H D I q;obtain ⟨a,kvs,e1,q⟩:=q;have NF:∀ o' v',X.H₀ a≠some (.frz o' v'):=fun o' v' z=>by
  have:=I.base.frzs _ _ _ z
  rw [e1] at this;cases this
 have thaw:∀ {σ':St} {H':Hp} {s':Shared},Inv X pins σ' H' s'->(∃ o,H' a=some (.frz o (.dK kvs)))->Inv X pins σ' (A0 H' a (.dK kvs)) s':=fun {σ' H' s'} I' ⟨o',e'⟩=>
  I'.swap e' (fun _ q=>by cases q) (fun _ q=>by cases q) (fun _ q=>by cases q) NF (I'.hok a _ e').2
 refine B5 ((dG hN hiN hx C hi hg hc he oP L8 hf hs).out pins s σ H _ I q) fun f s7 q7=>?_
 cases f with
 | next=>obtain ⟨σ7,H7,I7,q7⟩:=q7;exact ⟨σ7,_,thaw I7 q7.1,q7.2⟩
 | cont=>obtain ⟨σ7,H7,I7,q7⟩:=q7;exact q7.elim
 | brk=>obtain ⟨σ7,H7,I7,q7⟩:=q7;exact q7.elim
 | ret v=>obtain ⟨x7,σ7,H7,I7,r7,q7⟩:=q7;exact ⟨x7,σ7,_,thaw I7 q7.1,r7,q7.2⟩⟩
theorem amX{ts:TS} : anx ts D σ H=∃ a kvs,H a=some (.dK kvs)/\ts (D.thaw a kvs) σ H:=rfl
end
theorem compD(fr:St)(W9:compStart 1 ixs σ=none::fr)(Pv:Addr->Nat->List V->Hp->Prop)(h0:∀ D,H1 D=none->Pv D 0 [] (A0 H1 D (.lst [])))(hl:∀ D i ys H,H1 D=none->i<=kvs.length->Pv D i ys H->H a=some (.frz o (.dK kvs)))(hs:∀ D i k v ys H,H1 D=none->i<kvs.length->kvs[i]?=some (k,v)->Pv D i ys H->H D=some (.lst ys)->ys.length<=i->c (some (kV k)::fr) H fun b H4=>
   if b=true then te (some (kV k)::fr) H4 fun y H5=>H5 D=some (.lst ys)/\ys.length<sizeLine/\CW kvs.length fr (Pv D) (i+1) (ys++[y]) (some (kV k)::fr) (A0 H5 D (.lst (ys++[y])))
   else H4 D=some (.lst ys)/\CW kvs.length fr (Pv D) (i+1) ys (some (kV k)::fr) H4)(hd:∀ D ys H,H1 D=none->Pv D kvs.length ys H->H D=some (.lst ys)->ys.length<=kvs.length->Q (.ref D) H):bF (bJ a o kvs) 1 ixs (gName 0) c te σ Q H1:=by
 intro D hD;refine ⟨kvs.length,CW kvs.length fr (Pv D),⟨G2 _,G2 _,⟨none,W9⟩,h0 D hD⟩,?_⟩;rintro i ys σ2 H2 ⟨hi,hy,⟨v,rfl⟩,p⟩ hDy;have q:=hl D i ys H2 hD hi p
 by_cases C9:i<kvs.length
 ·refine .inr ⟨C9,⟨q,C9⟩,fun x H' y=>?_⟩;obtain ⟨rfl,k,w,e,rfl⟩:=y;exact hs D i k w ys _ hD C9 e p hDy hy
 ·have e:i=kvs.length:=by walk_at "o"
  subst e;exact .inl ⟨⟨q,C2 _⟩,hd D ys H2 hD p hDy hy⟩
end L2
open L2 in
local macro_rules | `(tactic| walk_at "rd")=>`(tactic| simp only [↓anb,↓ap_c,↓aof,↓aq3,↓ami,↓aog,↓aoh,↓aq4,↓aoi,↓aq5,↓aq6,↓aoj,↓ap_op,↓aoa,↓ap_tB,↓aq1,↓aq0,↓ap_or,↓aod,↓aq2,↓aoe,↓aoc,↓ap_if,↓amh,↓ap_cb,↓aon,↓aq9,↓aoo,↓ara,↓arb,↓ap_sl,↓akz,↓aop,↓are,↓aoz,↓amm,↓aox,↓aoy,↓amn,↓amo,↓ap_bm,↓arc,↓aq7,↓aol,↓aok,↓amk,↓aom,↓ap_un,↓ap_rU,↓aq8,↓ard,↓aoq,↓aor,↓aos,↓aot,↓amj,↓aou,↓aml,↓aov,↓aob,aow,aoA,amp,amq,amr,↓ad_ii,↓ad_ss,↓ad_rr,↓mu_ii,↓mu_ri,↓eq_ii,↓eq_ss,↓eq_bb,↓eq_rx,↓eq_xr,↓ne_ii,↓ne_ss,↓ne_bb,↓ne_rx,↓ne_xr,↓L2.lt_ii,↓L2.lt_ss,↓le_ii,↓le_ss,↓gt_ii,↓gt_ss,↓ge_ii,↓ge_ss,↓in_xs,↓in_xr,↓sl_s,↓sl_r,↓len_s,↓len_r,↓ari,↓all_r,↓isi_t,↓ord_s,↓aro,↓amv,ank,↓amw,↓tup_r,↓aoE,↓arp,↓arq,↓aoF,↓aoG,↓amy,↓amz,↓aoB,↓aoC,↓ao0,↓ao1,↓ao4,↓amX,↓amW,↓arP,↓arQ,↓arR,↓arL,↓arG,↓arF,↓aoS,↓ak0,↓arH,↓arI,↓arJ,↓any_r,↓amI,↓aoN,↓aoO,↓arv,↓aoP,↓amK,↓aoH,↓amE,↓aoJ,↓amD,ams,agL,cxK,cxKn,cxKb,cxC,cxCn,cxCb,K4,List.map_nil,K3,b0,Nat.sub_self,Nat.reduceAdd,Nat.reduceSub,Nat.zero_add,Nat.add_one_sub_one,List.replicate_zero,iN,L1,List.nil_append,fD,List.getElem?_cons_zero,List.getElem?_cons_succ,List.set_cons_zero,List.set_cons_succ,Option.some.injEq,Option.join_some,Option.join_none,exists_eq_left',exists_eq_left,exists_eq',exists_eq,reduceCtorEq,false_and,and_false,exists_false,exists_const,false_or,or_false,true_and,and_true,V.str.injEq,V.int.injEq,V.bl.injEq,V.ref.injEq,V.ty.injEq,b9.injEq,exists_and_left,exists_and_right,and_assoc,if_true,if_false,Bool.false_eq_true,Bool.not_true,Bool.not_false,ite_true,ite_false,Int.reduceLT,Int.reduceLE,G2])
namespace K42
open PySem PySem.Spec PyProof.Rows L2
set_option maxRecDepth 100000
set_option maxHeartbeats 4000000
noncomputable def top (i:Nat):Stmt:=PySem.Challenge.pw_sortlore_k42_whole_keys_put_texts.main.body.getD i (.Pass ⟨0,0,0,0⟩)
noncomputable abbrev aF:Stmt:=top 7
noncomputable abbrev f7:Stmt:=top 8
noncomputable abbrev aG:Stmt:=top 11
noncomputable abbrev T0:Stmt:=top 14
noncomputable abbrev sA:Stmt:=top 16
noncomputable abbrev nE:Stmt:=top 26
noncomputable abbrev sB:Stmt:=top 27
noncomputable abbrev dN:Stmt:=top 28
noncomputable abbrev n8:Stmt:=top 29
noncomputable abbrev bL:Stmt:=top 30
noncomputable abbrev bM:Stmt:=top 31
noncomputable abbrev nF:Stmt:=top 32
noncomputable abbrev dO:Stmt:=top 33
noncomputable abbrev R3:Stmt:=top 34
noncomputable abbrev dP:Stmt:=jD (top 35) 0
noncomputable abbrev gE:Stmt:=jD (top 35) 1
noncomputable abbrev gF:Stmt:=jD (top 35) 2
noncomputable abbrev dQ:Stmt:=jD (top 35) 3
noncomputable abbrev gG:Stmt:=top 17
noncomputable abbrev bN:Stmt:=top 18
noncomputable abbrev s_cut:Stmt:=top 19
noncomputable abbrev gH:Stmt:=jD (top 35) 4
noncomputable abbrev dR:Stmt:=jD (top 35) 5
noncomputable abbrev nG:Stmt:=top 37
noncomputable abbrev nH:Stmt:=top 38
noncomputable abbrev nI:Stmt:=top 39
noncomputable abbrev n9:Stmt:=top 40
noncomputable abbrev aH:Stmt:=top 41
noncomputable abbrev o0:Stmt:=top 43
noncomputable abbrev Y4:Stmt:=top 44
noncomputable abbrev nJ:Stmt:=top 46
noncomputable abbrev dS:Stmt:=top 47
noncomputable abbrev aI:Stmt:=top 48
noncomputable abbrev nK:Stmt:=top 49
noncomputable abbrev nM:Stmt:=top 50
noncomputable abbrev s_key:Stmt:=top 52
noncomputable abbrev nN:Stmt:=top 54
noncomputable abbrev bO:Stmt:=top 55
noncomputable abbrev V6:Stmt:=top 56
noncomputable abbrev gI:Stmt:=top 57
noncomputable abbrev kD:Stmt:=top 58
noncomputable abbrev R4:Stmt:=top 59
noncomputable abbrev Z3:Stmt:=top 60
noncomputable abbrev bP:Stmt:=top 61
noncomputable abbrev j3:Stmt:=top 62
noncomputable abbrev j4:Stmt:=top 63
noncomputable abbrev f8:Stmt:=top 64
noncomputable abbrev kE:Stmt:=top 65
noncomputable abbrev W0:Stmt:=top 66
noncomputable abbrev gJ:Stmt:=top 67
noncomputable abbrev aJ:Stmt:=top 68
noncomputable abbrev j5:Stmt:=top 69
noncomputable abbrev s_law:Stmt:=top 70
noncomputable def visB (S:Scope) (x:Str):Bool:=decide (S.names.lookup x=some .local) || decide (S.names.lookup x=some .cell) || decide (S.names.lookup x=some .free)
theorem qvd{pos:Pos}{S:Scope}{x:Str}(hN:X.N=N)(hs:X.env.scope=S)(h:(decide (N[n]?=some x)&&visB S x && !(x==("__debug__" : Str)) && !(x==("__classdict__" : Str)))=true):QE X (.Name x pos) (tVar n):=by
 subst hN hs;simp only [visB,T4,Bool.or_eq_true,decide_eq_true_eq,Bool.not_eq_true'] at h;exact qe_v h.1.1.1 (h.1.1.2.elim (fun z=>z.elim .inl fun z=>.inr (.inl z)) fun z=>.inr (.inr z)) h.1.2 h.2
theorem len1{α:Type}{F:List α->Prop}(h:∀ a,F [a]):∀ us:List α,us.length=1->F us
 | [a],_=>h a
theorem len2{α:Type}{F:List α->Prop}(h:∀ a b,F [a,b]):∀ us:List α,us.length=2->F us
 | [a,b],_=>h a b
theorem len3{α:Type}{F:List α->Prop}(h:∀ a b c,F [a,b,c]):∀ us:List α,us.length=3->F us
 | [a,b,c],_=>h a b c
theorem len4{α:Type}{F:List α->Prop}(h:∀ a b c d,F [a,b,c,d]):∀ us:List α,us.length=4->F us
 | [a,b,c,d],_=>h a b c d
theorem len5{α:Type}{F:List α->Prop}(h:∀ a b c d e,F [a,b,c,d,e]):∀ us:List α,us.length=5->F us
 | [a,b,c,d,e],_=>h a b c d e
theorem G0{Q:List Str}{sc:Scope}(h1:sc.kind=.function:=by rfl)(h2:sc.isCoroutine=false:=by rfl)(h3:sc.isGenerator=false:=by rfl)(h4:N.Nodup:=by decide +kernel)(h5:N.take Q.length=Q:=by rfl)(h6:∀ x∈Q,sc.names.lookup x=some .local\/sc.names.lookup x=some .cell:=by decide +kernel)(h7:∀ y∈sc.names,y.2≠.free:=by decide +kernel):FnScope N Q sc:=⟨h1,h2,h3,h4,h5,h6,h7⟩
theorem Q5{kn:List (Str×NameKind)}{sc:Scope}(h1:sc.kind=.function:=by rfl)(h2:∀ x∈sc.names,x.2≠.cell:=by decide +kernel)(h3:∀ x∈sc.names,x.2=.local->sc.names.lookup x.1=some .local:=by decide +kernel)(h4:∀ x∈sc.names,x.2=.free->kn.lookup x.1=some .cell\/kn.lookup x.1=some .free:=by decide +kernel)(h5:∀ x∈sc.names,x.2=.free->sc.names.lookup x.1=some .free:=by decide +kernel)(h6:N'.length=k+ixs.length:=by rfl)(h7:ixs.map (fun i=>N[i]?)=(N'.drop k).map some:=by decide +kernel)(h8:∀ x∈N'.drop k,(x,NameKind.free)∈sc.names:=by decide +kernel):CompOk N kn sc N' k ixs:=⟨h1,h2,h3,h4,h5,h6,h7,h8⟩
theorem hm(r:Room k A)(h:j<=k:=by decide):Room j A:=r.mono h
structure DF(K:PySem.W.Frag)(n:Str)(s:Stmt):Prop where
 ex:∃ (f:Addr) (oc:Value) (od:Option Addr) (kV dc pm:Value) (an:Option Addr) (cd ct:Value) (sl:Array (Option Value)),Q7 K mainGlobals n=some (some (.ref f))/\K.lookup f=some ⟨oc,od,.func (U3 n n (V9 s) (V2 s) (C3 s) .none kV dc pm an cd ct),sl⟩/\X8 K cd n=true/\V8 K (.ref f)=true
theorem df_mk{n:Str}{s:Stmt}{kV dc:Value}{sl:Array (Option Value)}(a:Q7 K mainGlobals n=some (some (.ref f)))(l:K.lookup f=some ⟨oc,od,.func (U3 n n (V9 s) (V2 s) (C3 s) .none kV dc pm an cd ct),sl⟩)(c:X8 K cd n=true)(k:V8 K (.ref f)=true):DF K n s:=⟨f,oc,od,kV,dc,pm,an,cd,ct,sl,a,l,c,k⟩
theorem DF.go{P:Program}{w:World}{base:Heap}{n:Str}{s:Stmt}(d:DF K n s)(X:K.In h)(G:h.Ns mainGlobals mg)(_:K.In base)(ok:∀ {f fd},FunD K n n s f fd->FnOk P w K mg base E8 k f fd ps sp)(hl:∀ (kV dc pm:Value) (an:Option Addr) (cd ct:Value) (us:List Value),us.length=ps.length->bindArgs (U3 n n (V9 s) (V2 s) (C3 s) .none kV dc pm an cd ct) ⟨us,[]⟩=pure (ps.zip us):=by first | exact fun _ _ _ _ _ _=>len1 fun _=>rfl | exact fun _ _ _ _ _ _=>len2 fun _ _=>rfl | exact fun _ _ _ _ _ _=>len3 fun _ _ _=>rfl | exact fun _ _ _ _ _ _=>len4 fun _ _ _ _=>rfl | exact fun _ _ _ _ _ _=>len5 fun _ _ _ _ _=>rfl):FO P w K mg base k n ps [] sp:=by
 obtain ⟨f,oc,od,kV,dc,pm,an,cd,ct,sl,a,l,c,kp⟩:=d.ex;exact ⟨_,_,ok (t7 (st:=s) l c),c0 X G a,kp,[],.all (hl kV dc pm an cd ct),.nil⟩
structure Txt(P:Program)(w:World)(K:PySem.W.Frag)(mg:Str->Option Value)(C:Addr):Prop where
 cl:Cls K C
 na_figures:NoAttr K C "figures"
 na_behind:NoAttr K C "behind"
 na_jobs:NoAttr K C "jobs"
 na_letter_line:NoAttr K C "letter_line"
 na_mark_line:NoAttr K C "mark_line"
 na_made:NoAttr K C "made"
 b_any:mg "any"=none
 b_dict:mg "dict"=none
 b_enumerate:mg "enumerate"=none
 b_int:mg "int"=none
 b_len:mg "len"=none
 b_list:mg "list"=none
 b_min:mg "min"=none
 b_ord:mg "ord"=none
 b_range:mg "range"=none
 b_str:mg "str"=none
 b_tuple:mg "tuple"=none
 b_zip:mg "zip"=none
 g_MARK:∃ t,mg "MARK"=some (.int 0 t)
 g_LETTER:∃ t,mg "LETTER"=some (.int 2 t)
 g_FIGURES:∃ t,mg "FIGURES"=some (.int 1 t)
 x_JOBS:∃ a,mg "JOBS"=some (.ref a)/\ModD P w K a [((Sum.inr ("row" : Str):C6),V.str "letter"),((Sum.inr ("marks" : Str):C6),V.str "mark"),((Sum.inr ("great" : Str):C6),V.str "great"),((Sum.inr ("as" : Str):C6),V.str "as"),((Sum.inr ("over" : Str):C6),V.str "over")]
 x_AGAIN:∃ a,mg "AGAIN"=some (.ref a)/\∀ H:Hp,C7 K H a [V.str "letter",V.str "mark",V.str "over"]
theorem alx{d:Value}(h:(us++[d]).length=4):∃ u1 u2 u3,us=[u1,u2,u3]:=by
 match us,h with
 | [a,b,c],_=>exact ⟨a,b,c,rfl⟩
 | [],h=>simp at h
 | [_],h=>simp at h
 | [_,_],h=>simp at h
 | _::_::_::_::r,h=>simp at h
theorem ao5(h:(us++[]).length=4):∃ u1 u2 u3 u4,us=[u1,u2,u3,u4]:=by
 match us,h with
 | [a,b,c,d],_=>exact ⟨a,b,c,d,rfl⟩
 | [],h=>simp at h
 | [_],h=>simp at h
 | [_,_],h=>simp at h
 | [_,_,_],h=>simp at h
 | _::_::_::_::_::r,h=>simp at h
inductive LvD where
 | tt (xs:List (List Int))
 | ii (xs:List Int)
 | ss (z:Str)
deriving DecidableEq
noncomputable def LvD.kind:LvD->Nat
 | .tt _=>0
 | .ii _=>1
 | .ss _=>2
noncomputable def LvD.lt:LvD->LvD->Bool
 | .tt xs,.tt ys=>decide (xs<ys)
 | .ii xs,.ii ys=>decide (xs<ys)
 | .ss x,.ss y=>decide (x.cps.toList<y.cps.toList)
 | _,_=>false
noncomputable def LvAt (H:Hp) (v:V):LvD->Prop
 | .tt xs=>∃ (a:Addr) (as:List Addr),v=.ref a/\H a=some (.lst (as.map V.ref))/\Paired (fun c (x:List Int)=>H c=some (.tup (x.map V.int))) as xs
 | .ii xs=>∃ a:Addr,v=.ref a/\H a=some (.lst (xs.map V.int))
 | .ss z=>v=.str z
theorem LvAt.same{v:V}{d:LvD}(h:LvAt H v d)(S:Same H H'):LvAt H' v d:=by
 cases d with
 | tt xs=>obtain ⟨a,as,e,h1,h2⟩:=h;exact ⟨a,as,e,S _ _ h1,N0 h2 fun _ _ e=>S _ _ e⟩
 | ii xs=>obtain ⟨a,e,h1⟩:=h;exact ⟨a,e,S _ _ h1⟩
 | ss z=>exact h
theorem xO : ∀ {as:List Addr} {xs:List (List Int)},Paired (fun c (x:List Int)=>H c=some (.tup (x.map V.int))) as xs->DnAll K H (as.map V.ref) (xs.map fun x=>PyData.tuple (x.map aY))
 | _,_,.nil=>.nil
 | _,_,.cons h t=>.cons (.tup (.of h) bE) (xO t)
theorem ai9:∀ xs ys:List (List Int),X9 (xs.map fun x=>PyData.tuple (x.map aY)) (ys.map fun x=>PyData.tuple (x.map aY))=decide (xs=ys)
 | [],[]=>by simp [X9]
 | [],_::_=>by simp [X9]
 | _::_,[]=>by simp [X9]
 | x::xs,y::ys=>by
  rw [K4,K4,X9,Q9,qY,ai9 xs ys,fF]
  simp
theorem aja:∀ xs:List (List Int),z8 (xs.map fun x=>PyData.tuple (x.map aY))<=1
 | []=>G2 _
 | x::xs=>by
  rw [K4,z8,k8,jJ]
  have:=aja xs
  lia
theorem LvAt.ne{v:V}{d d':LvD}(h:LvAt H v d)(h':LvAt H v' d')(hk:d.kind=d'.kind)(q:Q (.bl (!decide (d=d'))) H):rNeU K v v' H Q:=by
 cases d with
 | tt xs=>cases d' with
  | tt ys=>
   obtain ⟨a,as,rfl,h1,h2⟩:=h;obtain ⟨b,bs,rfl,h3,h4⟩:=h';refine ⟨_,_,.lst (.of h1) (xO h2),.lst (.of h3) (xO h4),?_,?_⟩
   ·have:=aja xs
    rw [k8];lia
   ·rw [Q9,ai9,show decide (xs=ys)=decide (LvD.tt xs=LvD.tt ys) by simp];exact q
  | _=>cases hk
 | ii xs=>cases d' with
  | ii ys=>
   obtain ⟨a,rfl,h1⟩:=h;obtain ⟨b,rfl,h3⟩:=h';refine ⟨_,_,.lst (.of h1) bE,.lst (.of h3) bE,by rw [k8,jJ];lia,?_⟩;rw [Q9,qY,show decide (xs=ys)=decide (LvD.ii xs=LvD.ii ys) by simp];exact q
  | _=>cases hk
 | ss x=>cases d' with
  | ss y=>
   cases h;cases h';show Q (.bl (!decide (x=y))) H;rw [show decide (x=y)=decide (LvD.ss x=LvD.ss y) by simp];exact q
  | _=>cases hk
theorem LvAt.lt{v:V}{d d':LvD}(h:LvAt H v d)(h':LvAt H v' d')(hk:d.kind=d'.kind)(q:Q (.bl (d.lt d')) H):rLtK K v v' H Q:=by
 cases d with
 | tt xs=>cases d' with
  | tt ys=>
   obtain ⟨a,as,rfl,h1,h2⟩:=h;obtain ⟨b,bs,rfl,h3,h4⟩:=h';exact .inr (.inr ⟨as,bs,xs,ys,.of h1,.of h3,N0 h2 fun _ _ e=>.of e,N0 h4 fun _ _ e=>.of e,q⟩)
  | _=>cases hk
 | ii xs=>cases d' with
  | ii ys=>
   obtain ⟨a,rfl,h1⟩:=h;obtain ⟨b,rfl,h3⟩:=h';exact .inl ⟨xs,ys,.of h1,.of h3,q⟩
  | _=>cases hk
 | ss x=>cases d' with
  | ss y=>cases h;cases h';exact q
  | _=>cases hk
theorem aeo : ∀ {es:List (Addr×Addr)} {U:List E9},Paired (fun e (u:E9)=>H1 e.1=some (.tup [.int u.1,.int u.2.1,.ref e.2,.int u.2.2.2])/\H1 e.2=some (.tup (u.2.2.1.map V.int))) es U->Paired (fun c (x:List Int)=>H1 c=some (.tup (x.map V.int))) (es.map (·.2)) (U.map fun u=>u.2.2.1)
 | _,_,.nil=>.nil
 | _,_,.cons h t=>.cons h.2 (aeo t)
noncomputable def bQ (b:Bool) (U:List E9) (z:Str):List LvD:=[.tt (U.map fun u=>[u.1,u.2.1]),.tt ((if b=true then U.reverse else U).map fun u=>u.2.2.1),.ii (U.map fun u=>u.2.2.2),.ss z]
noncomputable def IsLooks (H:Hp) (l:Addr) (ds:List LvD):Prop:=∃ vs:List V,H l=some (.lst vs)/\Paired (LvAt H) vs ds
theorem IsLooks.same{l:Addr}{ds:List LvD}(h:IsLooks H l ds)(S:Same H H'):IsLooks H' l ds:=
 let ⟨vs,h1,h2⟩:=h
 ⟨vs,S _ _ h1,N0 h2 fun _ _ e=>e.same S⟩
noncomputable def cmpD (d d':LvD):Int:=if d=d' then 0 else if d.lt d'=true then -1 else 1
noncomputable def cmpF (n:Nat) (ds ds':List LvD):Int:=(((k6 cmpD ds ds').take n).find? fun v=>v≠0).getD 0
noncomputable def aly (C:Addr):Sp:=fun vs H Q _=>∃ (x j ll ml md:Addr) (z:Str) (g:Str->Str) (R:List Rl) (L M:List Str),vs=[.ref x,.str z]/\IsOrd C H x j ll ml md g R L M/\(E5 R).length<=1000/\z.length<=500/\n6 (hasW R "figures") (E5 R) z/\(∀ y,(stepY R L M y).length<=15)/\
 ∀ l H',H l=none->Same H H'->IsLooks H' l (bQ (hasW R "behind") (O5 (stepY R L M) (cutF (hasW R "figures") (E5 R) z.cps.toList).2) z)->Q (.ref l) H'
noncomputable def bR (R:List Rl) (L M:List Str) (z:Str):List LvD:=bQ (hasW R "behind") (O5 (stepY R L M) (cutF (hasW R "figures") (E5 R) z.cps.toList).2) z
noncomputable def sC (C:Addr):Sp:=fun vs H Q _=>∃ (x j ll ml md:Addr) (z z':Str) (n:Nat) (g:Str->Str) (R:List Rl) (L M:List Str),vs=[.ref x,.str z,.str z',.int n]/\n<=4/\IsOrd C H x j ll ml md g R L M/\(E5 R).length<=1000/\z.length<=500/\z'.length<=500/\n6 (hasW R "figures") (E5 R) z/\n6 (hasW R "figures") (E5 R) z'/\(∀ y,(stepY R L M y).length<=15)/\
 ∀ H',Same H H'->Q (.int (cmpF n (bR R L M z) (bR R L M z'))) H'
theorem ah8(b b':Bool)(U U':List E9)(z z':Str)(i:Nat)(d d':LvD)(h:(bQ b U z)[i]?=some d)(h':(bQ b' U' z')[i]?=some d'):d.kind=d'.kind:=by
 match i with
 | 0=>cases h;cases h';rfl
 | 1=>cases h;cases h';rfl
 | 2=>cases h;cases h';rfl
 | 3=>cases h;cases h';rfl
 | i+4=>simp [bQ] at h
theorem amY{ds ds':List LvD}{d d':LvD}(hi:i<n)(h:ds[i]?=some d)(h':ds'[i]?=some d')(eJ:∀ k<i,ds[k]?=ds'[k]?)(L0:d≠d'):cmpF n ds ds'=cmpD d d':=by
 have hz:(k6 cmpD ds ds')[i]?=some (cmpD d d'):=by rw [List.getElem?_zipWith,h,h']
 have hc:cmpD d d'≠0:=by
  unfold cmpD;rw [if_neg L0]
  split <;> decide
 have h0:∀ v∈(k6 cmpD ds ds').take i,v=0:=by
  intro v hv;obtain ⟨k,hk,e⟩:=qF.mp hv;have kZ:k<i:=by lia
  have e2:(k6 cmpD ds ds')[k]?=some v:=by rw [K8 (by lia),e]
  rw [List.getElem?_zipWith,eJ k kZ] at e2
  cases q:ds'[k]? with
  | none=>rw [q] at e2;cases e2
  | some x=>
   rw [q] at e2
   have:cmpD x x=v:=by simpa using e2
   rw [<- this];exact if_pos rfl
 unfold cmpF;have e3:(k6 cmpD ds ds').take n=(k6 cmpD ds ds').take i++(cmpD d d'::((k6 cmpD ds ds').take n).drop (i+1)):=by
  have hl:i<((k6 cmpD ds ds').take n).length:=by
   have:=(G1.mp hz).1
   rw [E7];lia
  have e4:=T9 i ((k6 cmpD ds ds').take n);rw [List.take_take,cV (Nat.le_of_lt hi)] at e4
  conv=>lhs;rw [<- e4]
  rw [y7 hl]
  have:((k6 cmpD ds ds').take n)[i]=cmpD d d':=by
   rw [List.getElem_take];exact (G1.mp hz).2
  rw [this]
 rw [e3,List.find?_append,List.find?_eq_none.mpr (fun v hv=>by simp [h0 v hv])];simp [hc]
theorem alz{ds ds':List LvD}(eJ:∀ k<n,ds[k]?=ds'[k]?):cmpF n ds ds'=0:=by
 unfold cmpF
 have:((k6 cmpD ds ds').take n).find? (fun v=>v≠0)=none:=List.find?_eq_none.mpr fun v hv=>by
  obtain ⟨k,hk,e⟩:=qF.mp hv;have e2:(k6 cmpD ds ds')[k]?=some v:=by rw [K8 (by lia),e]
  rw [List.getElem?_zipWith,eJ k (by lia)] at e2
  cases q:ds'[k]? with
  | none=>rw [q] at e2;cases e2
  | some x=>
   rw [q] at e2
   have:cmpD x x=v:=by simpa using e2
   rw [<- this];simp [cmpD]
 rw [this];rfl
noncomputable def bareL (ss:List Tr):List Int:=(ss.filter fun s=>s.1=2).map (·.2.1)
theorem alA{ss:List Tr}(ha:H a=some (.dK kvs))(h:StepL H r ss):StepL (cutH H [a]) r ss:=by
 obtain ⟨ts,h1,h2⟩:=h.ex;have ne:∀ {c o},H c=some o->o≠.dK kvs->cutH H [a] c=some o:=fun {c o} e no=>by
  unfold cutH;rw [if_neg (fun q=>by rw [E6.mp q,ha] at e;exact no (Option.some.inj e).symm)];exact e
 exact ⟨ts,ne h1 (by simp),N0 h2 fun _ _ e=>ne e (by simp [tupT])⟩
noncomputable def anz (K:PySem.W.Frag):Sp:=fun vs H Q _=>∃ (d:Addr) (y:Str) (ks:List Str) (ad:Str->Addr) (ss:List Tr),vs=[.ref d,.str y]/\Rd H d (.dK (C1 ks fun y=>.ref (ad y)))/\y∈ks/\StepL H (ad y) ss/\ss.length<=15/\∀ l H',H l=none->Same H H'->H' l=some (.lst ((bareL ss).map V.int))->Q (.ref l) H'
theorem afb{p:Addr}{x:Str}(hp:H2 p=some (.lst (ps.map V.str)))(hl:ps.length<=1000)(eK:m<=k)(fin:∀ l H3 (qs:List Str),Same H2 H3->H2 l=none->H3 l=some (.lst (qs.map V.str))->(∀ y∈qs,y∈ps\/y=x)->qs.length<=ps.length+1->Q (.ref l) H3) :
  rSlR K p none (some (m:Int)) H2 fun x1 H1=>1<=sizeLine/\∀ p2,H1 p2=none->rAddU K x1 (.ref p2) (A0 H1 p2 (.lst [V.str x])) fun x2 H1=>rSlR K p (some (k:Int)) none H1 fun y H2=>rAddU K x2 y H2 Q:=by
 refine rSlR.l (.of hp) fun a1 n1=>⟨by decide,fun a2 n2=>?_⟩
 rw [bI,<- k5] at n2 ⊢
 have S1:Same H2 (A0 H2 a1 (.lst ((ps.take m).map V.str))):=Same.new n1;have h1:A0 H2 a1 (.lst ((ps.take m).map V.str)) a1=some (.lst ((ps.take m).map V.str)):=A5;generalize A0 H2 a1 (.lst ((ps.take m).map V.str))=H3 at S1 h1 n2;have S2:Same H3 (A0 H3 a2 (.lst ([x].map V.str))):=Same.new n2;have h2:A0 H3 a2 (.lst ([x].map V.str)) a2=some (.lst ([x].map V.str)):=A5;show rAddU K (.ref a1) (.ref a2) (A0 H3 a2 (.lst ([x].map V.str))) _;generalize A0 H3 a2 (.lst ([x].map V.str))=H4 at S2 h2;refine rAddR.l (S2 _ _ h1) h2 (by simp only [A6,E7,N5];exact P5 (by lia)) fun a3 n3=>?_
 rw [<- D8];have S3:Same H4 (A0 H4 a3 (.lst ((ps.take m++[x]).map V.str))):=Same.new n3;have h3:A0 H4 a3 (.lst ((ps.take m++[x]).map V.str)) a3=some (.lst ((ps.take m++[x]).map V.str)):=A5;generalize A0 H4 a3 (.lst ((ps.take m++[x]).map V.str))=H5 at S3 h3;have Z7:=S1.trans (S2.trans S3);refine rSlR.l (.of (Z7 _ _ hp)) fun a4 n4=>?_
 rw [m5,<- y9];refine rAddR.l (D9 h3 n4) A5 (by simp only [A6,C5,E7,W2,N5];exact P5 (by lia)) fun a5 n5=>?_
 rw [<- D8];refine fin a5 _ (ps.take m++[x]++ps.drop k) (Z7.trans ((Same.new n4).trans (Same.new n5))) ((Z7.trans (Same.new n4)).free n5) A5 (fun y hy=>?_) (by simp only [C5,E7,W2,N5];lia)
 rcases E1.mp hy with h | h
 ·rcases E1.mp h with h | h
  ·exact .inl (eZ h)
  ·exact .inr (E6.mp h)
 ·exact .inl (List.mem_of_mem_drop h)
theorem ah9{p:Addr}(hp:H2 p=some (.lst (ps.map V.str)))(hl:ps.length<=1000)(eK:m<=k)(fin:∀ l H3 (qs:List Str),Same H2 H3->H2 l=none->H3 l=some (.lst (qs.map V.str))->(∀ y∈qs,y∈ps)->qs.length<=ps.length+1->Q (.ref l) H3) :
  rSlR K p none (some (m:Int)) H2 fun x2 H1=>rSlR K p (some (k:Int)) none H1 fun y H2=>rAddU K x2 y H2 Q:=by
 refine rSlR.l (.of hp) fun a1 n1=>?_
 rw [bI,<- k5];have S1:Same H2 (A0 H2 a1 (.lst ((ps.take m).map V.str))):=Same.new n1;have h1:A0 H2 a1 (.lst ((ps.take m).map V.str)) a1=some (.lst ((ps.take m).map V.str)):=A5;generalize A0 H2 a1 (.lst ((ps.take m).map V.str))=H3 at S1 h1;refine rSlR.l (.of (S1 _ _ hp)) fun a4 n4=>?_
 rw [m5,<- y9];refine rAddR.l (D9 h1 n4) A5 (by simp only [A6,E7,W2];exact P5 (by lia)) fun a5 n5=>?_
 rw [<- D8];refine fin a5 _ (ps.take m++ps.drop k) (S1.trans ((Same.new n4).trans (Same.new n5))) ((S1.trans (Same.new n4)).free n5) A5 (fun y hy=>?_) (by simp only [C5,E7,W2];lia)
 rcases E1.mp hy with h | h
 ·exact eZ h
 ·exact List.mem_of_mem_drop h
noncomputable def ahm (K:PySem.W.Frag):Sp:=fun vs H Q _=>∃ (d p:Addr) (c:Int) (ks ps:List Str) (F:Str->List Tr),vs=[.ref d,.ref p,.int c]/\IsMk H d ks F/\(∀ y,(F y).length<=15)/\1<=ks.length/\ks.length<=100000/\(∀ x∈ks,V1 x=true)/\H p=some (.lst (ps.map V.str))/\ps.length<=1000/\
 ∀ l H' (qs:List Str),H l=none->Same H H'->H' l=some (.lst (qs.map V.str))->(∀ q∈qs,q∈ps\/q∈ks)->qs.length<=ps.length+1->Q (.ref l) H'
theorem xP{α:Type}[LT α](ir:∀ a:α,¬ a<a):∀ xs:List α,¬ xs<xs
 | []=>fE _
 | x::xs=>fun h=>(p9.mp h).elim (ir x) fun h=>xP ir xs h.2
noncomputable def cmpL:List LvD->List LvD->Int
 | d::ds,e::es=>if d=e then cmpL ds es else cmpD d e
 | _,_=>0
theorem ahn:∀ (n:Nat) (ds es:List LvD),cmpF n ds es=cmpL (ds.take n) (es.take n)
 | 0,_,_=>by simp [cmpF,cmpL]
 | n+1,[],es=>by simp [cmpF,cmpL]
 | n+1,d::ds,[]=>by simp [cmpF,cmpL]
 | n+1,d::ds,e::es=>by
  have ih:=ahn n ds es;rw [List.take_succ_cons,List.take_succ_cons,cmpL];unfold cmpF at ih ⊢
  rw [List.zipWith_cons_cons,List.take_succ_cons,q9]
  by_cases h:d=e
  ·rw [if_pos h,show cmpD d e=0 from if_pos h];exact ih
  ·rw [if_neg h]
   have:cmpD d e≠0:=by
    unfold cmpD;rw [if_neg h]
    split <;> decide
   simp [this]
theorem aho(n:Nat)(z z':Str):Paired (fun d e=>d.kind=e.kind) ((bR R L M z).take n) ((bR R L M z').take n):=by
 have h:Paired (fun d e=>d.kind=e.kind) (bR R L M z) (bR R L M z'):=.cons rfl (.cons rfl (.cons rfl (.cons rfl .nil)));exact xM h n
noncomputable def dU (P:Prop) (Lt:Prop) (l l':List Int):Prop:=(P->l=l')/\(¬ P->∀ s t:List Int,((l++s<l'++t)↔Lt)/\l++s≠l'++t)
theorem j6{a b:Int}{l l':List Int}(h:a≠b)(s t:List Int):((a::l++s<b::l'++t)↔a<b)/\a::l++s≠b::l'++t:=by
 refine ⟨?_,fun e=>h (b9.inj e).1⟩;rw [fD,fD,p9];exact ⟨fun q=>q.elim id fun q=>absurd q.1 h,.inl⟩
theorem app_lt{p s t:List Int} : (p++s<p++t)↔s<t:=by
 induction p with
 | nil=>exact Iff.rfl
 | cons a p ih=>
  rw [fD,fD,p9];exact ⟨fun q=>q.elim (fun q=>absurd q (cX _)) fun q=>ih.mp q.2,fun q=>.inr ⟨rfl,ih.mpr q⟩⟩
theorem kF{α:Type}[LT α](ir:∀ a:α,¬ a<a)(O:α->Prop)(c:α->List Int)(e:Int)(h0:∀ a,O a->∃ h r,c a=h::r/\e<h)(hc:∀ a b,O a->O b->dU (a=b) (a<b) (c a) (c b)) :
  ∀ xs ys:List α,(∀ x∈xs,O x)->(∀ y∈ys,O y)->dU (xs=ys) (xs<ys) (xs.flatMap c++[e]) (ys.flatMap c++[e])
 | [],[],_,_=>⟨fun _=>rfl,fun h=>absurd rfl h⟩
 | [],y::ys,_,oy=>by
  obtain ⟨h,r,e1,e2⟩:=h0 y (oy y M4);refine ⟨fun q=>(nomatch q),fun _ s t=>?_⟩;rw [U1,e1]
  have:=j6 (l:=[]) (l':=r++ys.flatMap c++[e]) (show e≠h by lia) s t
  refine ⟨⟨fun _=>List.nil_lt_cons _ _,fun _=>?_⟩,?_⟩
  ·have:=this.1.mpr e2
   simpa using this
  ·have:=this.2
   simpa using this
 | x::xs,[],ox,_=>by
  obtain ⟨h,r,e1,e2⟩:=h0 x (ox x M4);refine ⟨fun q=>(nomatch q),fun _ s t=>?_⟩;rw [U1,e1]
  have:=j6 (l:=r++xs.flatMap c++[e]) (l':=[]) (show h≠e by lia) s t
  refine ⟨⟨fun q=>?_,fun q=>absurd q (fE _)⟩,?_⟩
  ·have:=this.1.mp (by simpa using q)
   lia
  ·have:=this.2
   simpa using this
 | x::xs,y::ys,ox,oy=>by
  have X1:=hc x y (ox x M4) (oy y M4);have ih:=kF ir O c e h0 hc xs ys (fun z hz=>ox z (M3 _ hz)) fun z hz=>oy z (M3 _ hz)
  refine ⟨fun q=>by rw [q],fun L0 s t=>?_⟩;rw [U1,U1,p9]
  by_cases q:x=y
  ·subst q;have x3:xs≠ys:=fun z=>L0 (by rw [z])
   obtain ⟨i1,i2⟩:=ih.2 x3 s t;rw [O3,O3,O3,O3];rw [O3] at i1 i2;rw [O3] at i1 i2;refine ⟨⟨fun z=>.inr ⟨rfl,i1.mp (app_lt.mp z)⟩,fun z=>app_lt.mpr (i1.mpr (z.elim (fun z=>absurd z (ir _)) (·.2)))⟩,fun z=>i2 (List.append_cancel_left z)⟩
  ·obtain ⟨i1,i2⟩:=X1.2 q (xs.flatMap c++[e]++s) (ys.flatMap c++[e]++t);simp only [O3] at i1 i2 ⊢
   exact ⟨⟨fun z=>.inl (i1.mp z),fun z=>i1.mpr (z.elim id fun z=>absurd z.1 q)⟩,i2⟩
theorem alB{a b:Int}{f:Int->Int}(hf:f=(fun x=>x+1)\/f=(fun x=>x+2)):dU (a=b) (a<b) [f a] [f b]:=by
 refine ⟨fun e=>by rw [e],fun h s t=>?_⟩
 rcases hf with rfl | rfl
 ·have:=j6 (a:=a+1) (b:=b+1) (l:=[]) (l':=[]) (by lia) s t
  exact ⟨this.1.trans ⟨fun z=>by lia,fun z=>by lia⟩,this.2⟩
 ·have:=j6 (a:=a+2) (b:=b+2) (l:=[]) (l':=[]) (by lia) s t
  exact ⟨this.1.trans ⟨fun z=>by lia,fun z=>by lia⟩,this.2⟩
theorem sD{α β:Type}(f:α->β):∀ xs:List α,(xs.flatMap fun x=>[f x])=xs.map f
 | []=>rfl
 | x::xs=>by rw [U1,sD f xs];rfl
noncomputable def nO (p:List Int):Prop:=∃ k w:Int,p=[k,w]/\0<=w/\(k=0/\w=0\/k=1\/k=2)
noncomputable def pairC (p:List Int):List Int:=U6 (p.headD 0) (p.tail.headD 0)
theorem ao6{k w k' w':Int} : ([k,w]<[k',w'])↔(k<k'\/k=k'/\w<w'):=by
 rw [p9,p9];exact ⟨fun q=>q.imp id fun ⟨e,q⟩=>⟨e,q.elim id fun q=>absurd q.2 (fE _)⟩,fun q=>q.imp id fun ⟨e,q⟩=>⟨e,.inl q⟩⟩
theorem amZ{p q:List Int}(hp:nO p)(hq:nO q):dU (p=q) (p<q) (pairC p) (pairC q):=by
 obtain ⟨k,w,rfl,h0,h1⟩:=hp;obtain ⟨k',w',rfl,h0',h1'⟩:=hq;refine ⟨fun e=>by rw [e],fun L0 s t=>?_⟩;rw [ao6];have x3:k≠k'\/w≠w':=by
  by_cases e:k=k'
  ·exact .inr fun e2=>L0 (by rw [e,e2])
  ·exact .inl e
 show ((U6 k w++s<U6 k' w'++t)↔_)/\U6 k w++s≠U6 k' w'++t;unfold U6
 rcases h1 with ⟨rfl,rfl⟩ | rfl | rfl <;> rcases h1' with ⟨rfl,rfl⟩ | rfl | rfl
 ·exact (x3.elim (fun h=>h rfl) fun h=>h rfl).elim
 ·have:=j6 (a:=1) (b:=2) (l:=[]) (l':=[w'+1]) (by decide) s t
  exact ⟨⟨fun _=>.inl (by decide),fun _=>this.1.mpr (by decide)⟩,this.2⟩
 ·have:=j6 (a:=1) (b:=w'+3) (l:=[]) (l':=[]) (by lia) s t
  exact ⟨⟨fun _=>.inl (by decide),fun _=>this.1.mpr (by lia)⟩,this.2⟩
 ·have:=j6 (a:=2) (b:=1) (l:=[w+1]) (l':=[]) (by decide) s t
  exact ⟨⟨fun z=>absurd (this.1.mp z) (by decide),fun z=>absurd z (by lia)⟩,this.2⟩
 ·have hw:w≠w':=x3.elim (fun h=>absurd rfl h) id
  have:=j6 (a:=w+1) (b:=w'+1) (l:=[]) (l':=[]) (by lia) s t
  refine ⟨⟨fun z=>.inr ⟨rfl,?_⟩,fun z=>?_⟩,fun z=>this.2 (b9.inj z).2⟩
  ·have z2:(2:Int)::([w+1]++s)<2::([w'+1]++t):=z;rw [p9] at z2
   have:=this.1.mp (z2.elim (fun h=>absurd h (by decide)) (·.2))
   lia
  ·show (2:Int)::([w+1]++s)<2::([w'+1]++t);rw [p9];exact .inr ⟨rfl,this.1.mpr (by lia)⟩
 ·have:=j6 (a:=2) (b:=w'+3) (l:=[w+1]) (l':=[]) (by lia) s t
  exact ⟨⟨fun _=>.inl (by decide),fun _=>this.1.mpr (by lia)⟩,this.2⟩
 ·have:=j6 (a:=w+3) (b:=1) (l:=[]) (l':=[]) (by lia) s t
  exact ⟨⟨fun z=>absurd (this.1.mp z) (by lia),fun z=>absurd z (by lia)⟩,this.2⟩
 ·have:=j6 (a:=w+3) (b:=2) (l:=[]) (l':=[w'+1]) (by lia) s t
  exact ⟨⟨fun z=>absurd (this.1.mp z) (by lia),fun z=>absurd z (by lia)⟩,this.2⟩
 ·have hw:w≠w':=x3.elim (fun h=>absurd rfl h) id
  have:=j6 (a:=w+3) (b:=w'+3) (l:=[]) (l':=[]) (by lia) s t
  exact ⟨⟨fun z=>.inr ⟨rfl,by have:=this.1.mp z;lia⟩,fun z=>this.1.mpr (by lia)⟩,this.2⟩
theorem alC{p:List Int}(hp:nO p):∃ h r,pairC p=h::r/\0<h:=by
 obtain ⟨k,w,rfl,h0,h1⟩:=hp;show ∃ h r,U6 k w=h::r/\0<h;unfold U6
 rcases h1 with ⟨rfl,rfl⟩ | rfl | rfl
 ·exact ⟨1,[],rfl,by decide⟩
 ·exact ⟨2,_,rfl,by decide⟩
 ·exact ⟨w+3,[],rfl,by lia⟩
noncomputable def EltZ (u:E9):Prop:=u.1=0->u.2.1=0
theorem arS{s:Tr}(hU:∀ u∈U,EltZ u):∀ u∈addS U s,EltZ u:=by
 unfold addS
 split
 ·unfold addM
  split
  ·intro u hu;rw [E6.mp hu];exact fun _=>rfl
  ·rename_i v hv
   have ov:=hU v (List.mem_of_getLast? hv);intro u hu
   rcases E1.mp hu with h | h
   ·exact hU u ((List.dropLast_sublist _).subset h)
   ·rw [E6.mp h];exact ov
 ·rename_i hs
  intro u hu
  rcases E1.mp hu with h | h
  ·exact hU u h
  ·rw [E6.mp h];exact fun e=>absurd e hs
theorem alD(S:Str->List Tr)(ps:List Str):∀ u∈O5 S ps,EltZ u:=by
 have gen:∀ (ss:List Tr) (U:List E9),(∀ u∈U,EltZ u)->∀ u∈ss.foldl addS U,EltZ u:=by
  intro ss
  induction ss with
  | nil=>intro U hU;exact hU
  | cons s ss ih=>intro U hU;exact ih _ (arS hU)
 exact gen _ [] (by simp)
noncomputable def putI (xs ys:List Int):Int:=if xs=ys then 0 else if xs<ys then -1 else 1
theorem afU(U:List E9):f6 U=(U.map fun u=>[u.1,u.2.1]).flatMap pairC:=by
 unfold f6;rw [List.flatMap_map];rfl
noncomputable def markC (m:List Int):List Int:=(m.flatMap fun p=>[p+2])++[1]
theorem afc(U:List E9):W5 U=(U.map fun u=>u.2.2.1).flatMap markC:=by
 unfold W5;rw [List.flatMap_map];refine congrArg (fun f=>List.flatMap f U) (funext fun u=>?_);unfold markC;rw [sD]
theorem am0{m m':List Int}(h:∀ p∈m,0<=p)(h':∀ p∈m',0<=p):dU (m=m') (m<m') (markC m) (markC m'):=
 kF cX (fun p=>0<=p) (fun p=>[p+2]) 1 (fun a ha=>⟨a+2,[],rfl,by lia⟩) (fun a b _ _=>alB (f:=fun x=>x+2) (.inr rfl)) m m' h h'
theorem alE{m:List Int}(h:∀ p∈m,0<=p):∃ a r,markC m=a::r/\0<a:=by
 unfold markC
 cases m with
 | nil=>exact ⟨1,[],rfl,by decide⟩
 | cons p m=>exact ⟨p+2,_,rfl,by have:=h p M4;lia⟩
noncomputable def EncD (d d':LvD) (l l':List Int):Prop:=dU (d=d') (d.lt d'=true) l l'
theorem ajN{b:Bool}{V:List E9}(hU:∀ u∈U,EltOk u)(hV:∀ u∈V,EltOk u)(zU:∀ u∈U,EltZ u)(zV:∀ u∈V,EltZ u)(hc:∀ c∈z.cps.toList,0<c)(f9:∀ c∈z'.cps.toList,0<c) :
  EncD (.tt (U.map fun u=>[u.1,u.2.1])) (.tt (V.map fun u=>[u.1,u.2.1])) (f6 U++[0]) (f6 V++[0])/\
  EncD (.tt ((if b=true then U.reverse else U).map fun u=>u.2.2.1)) (.tt ((if b=true then V.reverse else V).map fun u=>u.2.2.1)) (W5 (if b=true then U.reverse else U)++[0]) (W5 (if b=true then V.reverse else V)++[0])/\
  EncD (.ii (U.map fun u=>u.2.2.2)) (.ii (V.map fun u=>u.2.2.2)) ((U.map fun u=>u.2.2.2+1)++[0]) ((V.map fun u=>u.2.2.2+1)++[0])/\
  EncD (.ss z) (.ss z') ((z.cps.toList.map fun c:Nat=>(c:Int))++[0]) ((z'.cps.toList.map fun c:Nat=>(c:Int))++[0]):=by
 have tr:∀ {P P' L L':Prop} {l l':List Int},dU P L l l'->(P'↔P)->(L'↔L)->dU P' L' l l':=fun h e1 e2=>⟨fun p=>h.1 (e1.mp p),fun n s t=>⟨((h.2 fun p=>n (e1.mpr p)) s t).1.trans e2.symm,((h.2 fun p=>n (e1.mpr p)) s t).2⟩⟩
 have pr:∀ {W:List E9},(∀ u∈W,EltOk u)->(∀ u∈W,EltZ u)->∀ p∈W.map (fun u=>[u.1,u.2.1]),nO p:=fun {W} h hz p hp=>by
  obtain ⟨u,hu,rfl⟩:=D3.mp hp;have o:=h u hu;have oz:=hz u hu;refine ⟨u.1,u.2.1,rfl,o.2.1,?_⟩
  rcases o.1 with e | e | e
  ·exact .inl ⟨e,oz e⟩
  ·exact .inr (.inl e)
  ·exact .inr (.inr e)
 have rv:∀ {W:List E9},(∀ u∈W,EltOk u)->∀ m∈(if b=true then W.reverse else W).map (fun u=>u.2.2.1),∀ p∈m,0<=p:=fun {W} h m hm=>by
  obtain ⟨u,hu,rfl⟩:=D3.mp hm;refine (h u ?_).2.2.1
  split at hu
  ·exact List.mem_reverse.mp hu
  ·exact hu
 refine ⟨?_,?_,?_,?_⟩
 ·rw [afU,afU];exact tr (kF (xP cX) nO pairC 0 (fun a h=>alC h) (fun a b h1 h2=>amZ h1 h2) _ _ (pr hU zU) (pr hV zV)) (by simp) (by simp [LvD.lt])
 ·rw [afc,afc];exact tr (kF (xP cX) (fun m=>∀ p∈m,0<=p) markC 0 (fun a h=>alE h) (fun a b h1 h2=>am0 h1 h2) _ _ (rv hU) (rv hV)) (by simp) (by simp [LvD.lt])
 ·have e:∀ W:List E9,(W.map fun u=>u.2.2.2+1)=(W.map fun u=>u.2.2.2).flatMap fun x=>[x+1]:=fun W=>by rw [sD,X7];rfl
  rw [e,e];refine tr (kF cX (fun p=>0<=p) (fun p=>[p+1]) 0 (fun a ha=>⟨a+1,[],rfl,by lia⟩) (fun a b _ _=>alB (f:=fun x=>x+1) (.inl rfl)) _ _ ?_ ?_) (by simp) (by simp [LvD.lt])
  ·intro x hx;obtain ⟨u,hu,rfl⟩:=D3.mp hx;exact (hU u hu).2.2.2
  ·intro x hx;obtain ⟨u,hu,rfl⟩:=D3.mp hx;exact (hV u hu).2.2.2
 ·have e:∀ w:Str,(w.cps.toList.map fun c:Nat=>(c:Int))=w.cps.toList.flatMap fun c:Nat=>[(c:Int)]:=fun w=>(sD _ _).symm
  rw [e,e];refine tr (kF r0 (fun c=>0<c) (fun c:Nat=>[(c:Int)]) 0 (fun a ha=>⟨(a:Int),[],rfl,by lia⟩) (fun a b _ _=>?_) _ _ hc f9) ?_ (by simp [LvD.lt])
  ·refine ⟨fun q=>by rw [q],fun h s t=>?_⟩
   have:=j6 (a:=(a:Int)) (b:=(b:Int)) (l:=[]) (l':=[]) (by lia) s t
   exact ⟨this.1.trans ⟨fun z=>by lia,fun z=>by lia⟩,this.2⟩
  ·exact ⟨fun h=>by rw [LvD.ss.inj h],fun h=>by rw [Str.ext' (Array.toList_inj.mp h)]⟩
theorem afV:∀ {ds es:List LvD} {ls ms:List (List Int)},Paired (fun d (e:LvD)=>d.kind=e.kind) ds es->ds.length=ls.length->es.length=ms.length->(∀ (i:Nat) (d e:LvD) (l m:List Int),ds[i]?=some d->es[i]?=some e->ls[i]?=some l->ms[i]?=some m->EncD d e (l++[0]) (m++[0]))->putI (ls.flatMap fun l=>l++[0]) (ms.flatMap fun l=>l++[0])=cmpL ds es
 | _,_,[],[],.nil,_,_,_=>rfl
 | _,_,[],_::_,.nil,_,h,_=>(nomatch h)
 | _,_,_::_,_,.nil,h,_,_=>(nomatch h)
 | _,_,[],_,.cons _ _,h,_,_=>(nomatch h)
 | _,_,_::_,[],.cons _ _,_,h,_=>(nomatch h)
 | _,_,l::ls,m::ms,.cons (a:=d) (b:=e) (l₁:=ds) (l₂:=es) hk t,h1,h2,hE=>by
  have ih:=afV (ls:=ls) (ms:=ms) t (by simpa using h1) (by simpa using h2) fun i d e l m a b c f=>hE (i+1) d e l m (by simpa using a) (by simpa using b) (by simpa using c) (by simpa using f)
  have h0:=hE 0 d e l m rfl rfl rfl rfl;rw [U1,U1,cmpL]
  by_cases q:d=e
  ·rw [if_pos q,<- ih,h0.1 q];unfold putI
   by_cases z:(ls.flatMap fun l=>l++[0])=ms.flatMap fun l=>l++[0]
   ·rw [if_pos z,if_pos (by rw [z])]
   ·rw [if_neg z,if_neg (fun y=>z (List.append_cancel_left y))]
    by_cases y:(ls.flatMap fun l=>l++[0])<ms.flatMap fun l=>l++[0]
    ·rw [if_pos y,if_pos (app_lt.mpr y)]
    ·rw [if_neg y,if_neg (fun x=>y (app_lt.mp x))]
  ·rw [if_neg q];obtain ⟨i1,i2⟩:=h0.2 q (ls.flatMap fun l=>l++[0]) (ms.flatMap fun l=>l++[0]);unfold putI cmpD;rw [if_neg i2,if_neg q]
   by_cases y:d.lt e=true
   ·rw [if_pos (i1.mpr y),if_pos y]
   ·rw [if_neg (fun x=>y (i1.mp x)),if_neg y]
noncomputable def nP (R:List Rl) (z:Str):Prop:=z.length<=400/\n6 (hasW R "figures") (E5 R) z/\∀ c∈z.cps.toList,0<c
theorem ao7{xs ys:List Int}{x y:Int}(hx:xs[i]?=some x)(hy:ys[i]?=some y)(he:∀ k<i,xs[k]?=ys[k]?)(L0:x≠y):putI xs ys=if x<y then -1 else 1:=by
 obtain ⟨i1,e1⟩:=G1.mp hx;obtain ⟨i2,e2⟩:=G1.mp hy;have ep:xs.take i=ys.take i:=List.ext_getElem? fun k=>by
  by_cases hk:k<i
  ·rw [eY hk,eY hk,he k hk]
  ·rw [qG (by rw [E7];lia),qG (by rw [E7];lia)]
 have f1:xs=ys.take i++x::xs.drop (i+1):=by rw [<- ep,<- e1,<- y7 i1,T9]
 have f2:ys=ys.take i++y::ys.drop (i+1):=by rw [<- e2,<- y7 i2,T9]
 have n1:xs≠ys:=fun e=>by
  rw [e,hy] at hx;exact L0 (Option.some.inj hx).symm
 have l1:xs<ys↔x<y:=by
  have l0:(ys.take i++x::xs.drop (i+1)<ys.take i++y::ys.drop (i+1))↔x<y:=by
   rw [app_lt,p9];exact ⟨fun q=>q.elim id fun q=>absurd q.1 L0,.inl⟩
  rw [<- f1,<- f2] at l0;exact l0
 unfold putI;rw [if_neg n1]
 by_cases h:x<y
 ·rw [if_pos h,if_pos (l1.mpr h)]
 ·rw [if_neg h,if_neg (fun q=>h (l1.mp q))]
theorem ao8{xs ys:List Int}(he:∀ k,k<xs.length->k<ys.length->xs[k]?=ys[k]?):putI xs ys=(if ys.length<xs.length then 1 else 0)-(if xs.length<ys.length then 1 else 0):=by
 have ep:∀ m,m<=xs.length->m<=ys.length->xs.take m=ys.take m:=fun m h1 h2=>List.ext_getElem? fun k=>by
  by_cases hk:k<m
  ·rw [eY hk,eY hk,he k (by lia) (by lia)]
  ·rw [qG (by rw [E7];lia),qG (by rw [E7];lia)]
 unfold putI
 rcases lX xs.length ys.length with h | h | h
 ·have e:=ep xs.length (C2 _) (by lia);rw [G4] at e;have C9:xs<ys:=by
   conv=>rhs;rw [<- T9 xs.length ys,<- e]
   conv=>lhs;rw [<- L1 xs]
   rw [app_lt,y7 h];exact List.nil_lt_cons _ _
  rw [if_neg (fun q=>by rw [q] at h;lia),if_pos C9,if_neg (by lia),if_pos h];rfl
 ·have e:=ep xs.length (C2 _) (by lia);rw [G4,h,G4] at e;rw [if_pos e,if_neg (by lia),if_neg (by lia)];rfl
 ·have e:=ep ys.length (by lia) (C2 _);rw [G4] at e;have C9:¬ xs<ys:=fun q=>by
   have q2:ys++xs.drop ys.length<ys++[]:=by
    rw [L1]
    conv=>lhs;arg 1;rw [<- e]
    rw [T9];exact q
   exact absurd (app_lt.mp q2) (fE _)
  rw [if_neg (fun q=>by rw [q] at h;lia),if_neg C9,if_pos h,if_neg (by lia)];rfl
theorem arT(G:RulG ns ls ms R)(p0:∀ x,x∈ks↔x∈E5 R){w:Bool}(h:e9 w ks p):∀ c∈p.cps.toList,0<c:=by
 intro c hc
 rcases h with h | ⟨⟨_,h⟩,_⟩
 ·rcases kC ((p0 p).mp h) with rfl | h
  ·rw [nC,dL] at hc;rw [E6.mp hc];decide
  ·obtain ⟨k,hk⟩:=G.pc h;have h1:=hk.ok.1;unfold jI at h1;simp only [T4,decide_eq_true_eq,List.all_eq_true] at h1
   have:=h1.2 c hc
   unfold signB at this;simp only [T4,decide_eq_true_eq] at this;lia
 ·have:=h.2 c hc
  unfold figO at this;simp only [T4,decide_eq_true_eq] at this;lia
noncomputable def keyZ (n:Nat) (R:List Rl) (L M:List Str) (z:Str):List Int:=keyF n (hasW R "behind") (O5 (stepY R L M) (cutF (hasW R "figures") (E5 R) z.cps.toList).2) z
theorem ao9(hn:n<=4)(hc:∀ c∈z.cps.toList,0<c)(f9:∀ c∈z'.cps.toList,0<c):putI (keyZ n R L M z) (keyZ n R L M z')=cmpF n (bR R L M z) (bR R L M z'):=by
 rw [ahn];unfold keyZ keyF;obtain ⟨e1,e2,e3,e4⟩:=ajN (b:=hasW R "behind") (ai8 (ai7 (R:=R) (L:=L) (M:=M)) (cutF (hasW R "figures") (E5 R) z.cps.toList).2) (ai8 (ai7 (R:=R) (L:=L) (M:=M)) (cutF (hasW R "figures") (E5 R) z'.cps.toList).2) (alD _ _) (alD _ _) hc f9;refine afV (aho n z z') (by rw [E7,E7];rfl) (by rw [E7,E7];rfl) fun i d e l m h1 h2 h3 h4=>?_
 have hi:i<n:=by
  have:=(G1.mp h1).1
  rw [E7] at this;lia
 rw [eY hi] at h1 h2 h3 h4
 match i,hi with
 | 0,_=>cases h1;cases h2;cases h3;cases h4;exact e1
 | 1,_=>cases h1;cases h2;cases h3;cases h4;exact e2
 | 2,_=>cases h1;cases h2;cases h3;cases h4;exact e3
 | 3,_=>cases h1;cases h2;cases h3;cases h4;exact e4
 | i+4,hi=>lia
noncomputable def anA:Sp:=fun vs H Q _=>∃ (a b:Addr) (xs ys:List Int),vs=[.ref a,.ref b]/\H a=some (.lst (xs.map V.int))/\H b=some (.lst (ys.map V.int))/\xs.length<=1000000/\ys.length<=1000000/\Q (.int (putI xs ys)) H
noncomputable def ajb (K:PySem.W.Frag):Sp:=fun vs H Q _=>∃ (r p:Addr) (c:Int) (ts:List Addr) (R:List Rl) (ns:List Int) (ls ms ps:List Str),vs=[.ref r,.ref p,.int c]/\IsRules H r ts R/\RulG ns ls ms R/\H p=some (.lst (ps.map V.str))/\ps.length<=1000/\
 ∀ l H' (qs:List Str),H l=none->Same H H'->H' l=some (.lst (qs.map V.str))->(∀ q∈qs,q∈ps\/q∈ms)->qs.length<=ps.length+1->Q (.ref l) H'
noncomputable def alF (K:PySem.W.Frag):Sp:=fun vs H Q _=>∃ (a r:Addr) (ns:List Int) (ts:List Addr) (R:List Rl) (ls ms:List Str),vs=[.ref a,.ref r]/\E2 K H a (ns.map V.int)/\IsRules H r ts R/\RulG ns ls ms R/\∀ l H' (zs:List Str),Same H H'->H' l=some (.lst (zs.map V.str))->zs.length=3->(∀ z∈zs,nP R z)->Q (.ref l) H'
section
variable {P:Program} {w:World} {K:PySem.W.Frag} {mg:Str->Option Value} {base:Heap} {C:Addr}
theorem sc_told:FnScope ["rows", "seen", "row", "piece"] ["rows"] (C3 aF):=G0
abbrev VS(N:List Str)(s:Stmt)(x:Str)(n:Nat):Prop:=∀ {X:Cx} {pos:Pos},X.N=N->X.env.scope=C3 s->QE X (.Name x pos) (tVar n)
theorem vq{s:Stmt}{x:Str}(h:(decide (N[n]?=some x)&&visB (C3 s) x && !(x==("__debug__" : Str)) && !(x==("__classdict__" : Str)))=true:=by decide +kernel):VS N s x n:=fun hN hs=>qvd hN hs h
theorem vi{s:Stmt}{x:Str}{pos:Pos}(h:VS N s x n)(h1:X.N=N:=by rfl)(h2:X.env.scope=C3 s:=by rfl):QE X (.Name x pos) (tVar n):=h h1 h2
abbrev LS(s:Stmt)(x:Str):Prop:=l6 (C3 s) x
theorem lq{s:Stmt}{x:Str}(h:(C3 s).names.lookup x=some .local\/(C3 s).names.lookup x=some .cell:=by decide +kernel):LS s x:=h
abbrev sE:List Str:=["rows", "seen", "row", "piece"]
theorem vaa:VS sE aF "rows" 0:=vq
theorem vab:VS sE aF "seen" 1:=vq
theorem vac:VS sE aF "row" 2:=vq
theorem vad:VS sE aF "piece" 3:=vq
theorem vae:LS aF "seen":=lq
theorem vaf:LS aF "row":=lq
theorem vag:LS aF "piece":=lq
theorem aqa(F:FunD K "told" "told" aF f fd)(T:Txt P w K mg C):FnOk P w K mg base E8 1 f fd ["rows"] ano:=by
 refine F.ok sc_told ?_ ?_
 ·rintro _ _ _ _ ⟨a,rs,zss,rfl,_⟩;rfl
 ·intro cdv A outer s H vs Q E hr h;have C4:=hu_of hr;have hu:=hr.units;refine ⟨_,QSs.out (A8 (D6 (n:=1) sc_told.nd rfl vae fT)
   (A8 (L7 PassesOwn.never (O2 (K:=K) (vi vaa)) (D1 (n:=2) sc_told.nd rfl vaf (.inl rfl)) (A7 (L7 PassesOwn.never (O2 (K:=K) (vi vac)) (D1 (n:=3) sc_told.nd rfl vag (.inl rfl)) (A7 (Z2 C4 (vi vab) (vi vad) qe_bl)))))
   (A7 (E3 (qe_cT (t9 (K:=K) (calm:=true)) T.b_list t8 (qa_c (vi vab) A3)))))),?_⟩
  obtain ⟨a,rs,zss,rfl,hR,hz,q⟩:=h;walk_at "rd";intro d nd;have hlz:∀ n:Nat,n<=100000->n<sizeLine:=fun n h=>G7 (by lia)
  refine ⟨⟨_,.of (D9 hR.top nd)⟩,forL (xs:=rs.map V.ref) (fun i σ H2=>∃ (u v:Option V),σ=[some (.ref a),some (.ref d),u,v]/\Same H H2/\H2 d=some (.dK (kvOf (toldL (zss.take i)))))
   ⟨none,none,rfl,Same.new nd,by rw [A5];rfl⟩ (by rintro i σ H2 _ ⟨_,_,_,S,_⟩;exact .of (S _ _ hR.top)) ?_ ?_⟩
  ·rintro i x σ H2 hx ⟨u,v,rfl,S,hd⟩;obtain ⟨r,hr,rfl⟩:=G5 hx;obtain ⟨zs,g6,D7⟩:=Paired.at hR.row hr;have hcount:(toldL (zss.take i)).length+zs.length<=100000:=by
    have h1:zss.take (i+1)=zss.take i++[zs]:=by rw [q0,g6];rfl
    have h2:=mM (zss.take i);have h3:(zss.take (i+1)).flatten.length<=zss.flatten.length:=by
     conv=>rhs;rw [<- T9 (i+1) zss]
     rw [lR,C5];lia
    rw [h1,lR,C5] at h3;simp at h3;simp at h2 hz h3 ⊢
    lia
   walk_at "rd";refine ⟨⟨_,.of (S _ _ D7)⟩,forL (xs:=zs.map V.str) (fun j σ H3=>∃ (v:Option V),σ=[some (.ref a),some (.ref d),some (.ref r),v]/\Same H H3/\H3 d=some (.dK (kvOf (G3 (toldL (zss.take i)) (zs.take j)))))
    ⟨v,rfl,S,hd⟩ (by rintro j σ H3 _ ⟨_,_,S3,_⟩;exact .of (S3 _ _ D7)) ?_ ?_⟩
   ·rintro j y σ H3 hy ⟨v,rfl,S3,Z8⟩;obtain ⟨z,eG,rfl⟩:=G5 hy;walk_at "rd";refine ⟨_,bD (k:=Sum.inr z) Z8 ?_,S3.put nd,?_⟩
    ·unfold kvOf;rw [A6];refine hlz _ ?_
     have:=dC (zs.take j) (toldL (zss.take i))
     rw [E7] at this;lia
    ·rw [A5,agN,amt eG]
   ·rintro σ H3 ⟨v,rfl,S3,Z8⟩;walk_at "rd";refine ⟨S3,?_⟩;rw [Z8,akB g6,A6,G4]
  ·rintro σ H2 ⟨u,v,rfl,S,hd⟩;walk_at "rd";refine rListR.d (.of hd) fun l nl=>?_
   refine q l _ (S.free nl) (fun b o h=>D9 (S b o h) nl) ?_;rw [A5,akC,A6];rw [show rs.length=zss.length from Paired.length hR.row,G4]
theorem sc_followers:FnScope ["rows", "after", "piece", "row", "one", "other"] ["rows"] (C3 f7):=G0
abbrev kG:List Str:=["rows", "after", "piece", "row", "one", "other"]
theorem vah:VS kG f7 "rows" 0:=vq
theorem xQ:VS kG f7 "after" 1:=vq
theorem vaj:VS kG f7 "piece" 2:=vq
theorem vak:VS kG f7 "row" 3:=vq
theorem vam:VS kG f7 "one" 4:=vq
theorem van:VS kG f7 "other" 5:=vq
theorem vao:LS f7 "after":=lq
theorem vap:LS f7 "piece":=lq
theorem vaq:LS f7 "row":=lq
theorem var:LS f7 "one":=lq
theorem vas:LS f7 "other":=lq
theorem ahr(F:FunD K "followers" "followers" f7 f fd)(T:Txt P w K mg C)(G_told:FO P w K mg base 1 "told" ["rows"] [] ano):FnOk P w K mg base E8 2 f fd ["rows"] spFol:=by
 refine F.ok sc_followers ?_ ?_
 ·rintro _ _ _ _ ⟨a,rs,zss,rfl,_⟩;rfl
 ·intro cdv A outer s H vs Q E hr h;have C4:=hu_of hr;have hu:=hr.units;refine ⟨_,QSs.out (A8 (D6 (n:=1) sc_followers.nd rfl vao fT)
   (A8 (L7 PassesOwn.never (O2 (K:=K) (D0 G_told (hm hr) (qa_c (vi vah) A3))) (D1 (n:=2) sc_followers.nd rfl vap (.inl rfl)) (A7 (Z2 C4 (vi xQ) (vi vaj) (L4 A3))))
   (A8 (L7 PassesOwn.never (O2 (K:=K) (vi vah)) (D1 (n:=3) sc_followers.nd rfl vaq (.inl rfl)) (A7 (L7 PassesOwn.never (art T.b_zip (qa_c (vi vak) (qa_c (N7 (K:=K) (vi vak) (L6 A4) P6) A3))) (bH (K:=K) (n:=2) (T5 ((D1 (n:=4) sc_followers.nd rfl var (.inl rfl))) (T5 ((D1 (n:=5) sc_followers.nd rfl vas (.inl rfl))) bG))) (A7 (O4 (qe_mB (K:=K) Q1 V0 U9 V3 (c9 C4 (vi xQ) (vi vam)) (qa_c (vi van) A3)))))))
   (A7 (E3 (vi xQ)))))),?_⟩
  obtain ⟨a,rs,zss,rfl,hR,hz,q⟩:=h;walk_at "rd";intro d nd;have S0:Same H (A0 H d (.dK [])):=Same.new nd;refine ⟨a,rs,zss,rfl,hR.same S0,hz,fun l H1 nl S1 hl=>?_⟩;have x4:H1 d=some (.dK []):=S1 _ _ A5;have S01:=S0.trans S1;have A9:(toldL zss).length<=100000:=L3 (mM zss) hz;have tnd:=jM zss;refine ⟨l,rfl,⟨_,.of hl⟩,forL (xs:=(toldL zss).map V.str) (fun i σ H2=>∃ (u v w x:Option V) (ad:Str->Addr),σ=[some (.ref a),some (.ref d),u,v,w,x]/\SameBut d H1 H2/\H2 d=some (.dK (C1 ((toldL zss).take i) fun t=>.ref (ad t)))/\DL H1 H2 ((toldL zss).take i) ad fun _=>[])
   ⟨none,none,none,none,fun _=>0,rfl,ual _ _,x4,⟨fun t h=>by simp at h,fun t h=>by simp at h,fun t h=>by simp at h⟩⟩ (fun i σ H2 _ ⟨_,_,_,_,_,_,S,_⟩=>.of (S _ _ (fun e=>by rw [e,x4] at hl;cases hl) hl)) ?_ ?_⟩
  ·rintro i x σ H2 hx ⟨u,v,w,y,ad,rfl,S,hd,dl⟩;obtain ⟨z,hk,rfl⟩:=G5 hx;have hi:i<(toldL zss).length:=(G1.mp hk).1;have Q6:=wC tnd hk;walk_at "rd";refine fun p np=>⟨_,bD (k:=Sum.inr z) (D9 hd np) (by rw [i9,E7];exact G7 (by lia)),?_⟩
   have n1:H1 p=none:=S.free np (fun e=>by rw [e,hd] at np;cases np);refine ⟨(S.put n1).at,fun t=>if t=z then p else ad t,?_,?_⟩
   ·rw [A5,dH _ Q6,K7 hk];have e:(fun t=>if t=z then V.ref p else V.ref (ad t))=fun t=>V.ref (if t=z then p else ad t):=by funext t;split <;> rfl
    rw [e]
   ·rw [K7 hk];exact ((dl.more Q6 np n1).congr fun t _=>by split <;> rfl).put x4
  ·rintro σ H2 ⟨u,v,w,y,ad,rfl,S,hd,dl⟩;rw [A6,G4] at hd dl;have S2:Same H H2:=S.same S01 nd;walk_at "rd";have dl0:DL H H2 (toldL zss) ad fun _=>[]:=dl.old S01
   refine ⟨⟨_,.of (S2 _ _ hR.top)⟩,forL (xs:=rs.map V.ref) (fun i σ H3=>∃ (v w x:Option V),σ=[some (.ref a),some (.ref d),u,v,w,x]/\Same H H3/\H3 d=some (.dK (C1 (toldL zss) fun t=>.ref (ad t)))/\DL H H3 (toldL zss) ad (G6 (edges (zss.take i))))
    ⟨v,w,y,rfl,S2,hd,dl0⟩ (by rintro i σ H3 _ ⟨_,_,_,_,S,_⟩;exact .of (S _ _ hR.top)) ?_ ?_⟩
   ·rintro i x σ H3 hx ⟨v,w,y,rfl,S3,Z8,aP⟩;obtain ⟨r,hr,rfl⟩:=G5 hx;obtain ⟨zs,g6,D7⟩:=Paired.at hR.row hr;have eL:=S3 _ _ D7;have K2:∀ x∈zs,x∈toldL zss:=fun x hx=>(vZ _ _).mpr (List.mem_flatten.mpr ⟨zs,M9 g6,hx⟩)
    walk_at "rd";refine rSlR.l (.of eL) fun p np=>?_
    have ecut:cutV (zs.map V.str) (some 1) none=zs.tail.map V.str:=by
     have:=m5 (zs.map V.str) 1
     rw [show ((1:Nat):Int)=1 from rfl] at this;rw [this,<- y9,List.drop_one]
    rw [ecut];have np0:H p=none:=S3.free np;have nad:∀ t∈toldL zss,ad t≠p:=fun t ht e=>by have:=aP.row t ht;rw [e,np] at this;cases this
    have nadr:∀ t∈toldL zss,ad t≠r:=fun t ht e=>by have:=aP.new t ht;rw [e,D7] at this;cases this
    have ndp:d≠p:=fun e=>by rw [<- e,Z8] at np;cases np
    have nadd:∀ t∈toldL zss,ad t≠d:=fun t ht e=>by have:=aP.row t ht;rw [e,Z8] at this;cases this
    refine ⟨p,rfl,⟨_,D9 eL np⟩,⟨_,A5⟩,forZ (xs:=zs.map V.str) (ys:=zs.tail.map V.str) (fun j σ H4=>∃ (w x:Option V),σ=[some (.ref a),some (.ref d),u,some (.ref r),w,x]/\Same H H4/\H4 p=some (.lst (zs.tail.map V.str))/\H4 d=some (.dK (C1 (toldL zss) fun t=>.ref (ad t)))/\DL H H4 (toldL zss) ad (G6 (edges (zss.take i)++(U5 zs).take j)))
     ⟨w,y,rfl,S3.put np0,A5,D9 Z8 np,?_⟩ (by rintro j σ H4 ⟨_,_,_,S,hp,_⟩;exact ⟨S _ _ D7,hp⟩) ?_ ?_⟩
    ·rw [b8,L1];exact aP.same (Same.new np)
    ·rintro j xv yv t σ H4 hxv hyv ⟨w,v,rfl,S4,eM,Y7,lA⟩ nt;obtain ⟨x,hx,rfl⟩:=G5 hxv;obtain ⟨y,hy,rfl⟩:=G5 hyv;have lB:=K2 x (M9 hx);have nt0:H t=none:=S4.free nt;have hlx:=lA.row x lB;have hE:(U5 zs)[j]?=some (x,y):=agX hx hy;walk_at "rd";refine ⟨_,.of A5,rfl,_,_,rfl,_,_,rfl,rfl,V.ref (ad x),.inl ⟨_,Sum.inr x,.inl (D9 Y7 nt),rfl,by rw [P7,if_pos lB]⟩,Q2 (D9 hlx nt),appOk (D9 hlx nt) ?_ ⟨(S4.put nt0).put (lA.new x lB),?_,?_,?_⟩⟩
     ·rw [A6];refine G7 ?_;have h1:(G6 (edges (zss.take i)++(U5 zs).take j) x).length<=(edges (zss.take i)++(U5 zs).take j).length:=by
       unfold G6;rw [A6];exact lO _ _
      have h2:=agY (zss.take i);have h3:(zss.take i).flatten.length<=zss.flatten.length:=by
       conv=>rhs;rw [<- T9 i zss]
       rw [lR,C5];lia
      have h4:zs.length<=zss.flatten.length:=List.Sublist.length_le (List.sublist_flatten_of_mem (M9 g6));rw [C5,E7,wB] at h1;lia
     ·rw [B1 (nad x lB).symm];exact D9 eM nt
     ·rw [B1 (nadd x lB).symm];exact D9 Y7 nt
     ·have h1:=(lA.same (Same.new (u:=.tup [V.str x,V.str y]) nt)).app lB (G6 (edges (zss.take i)++(U5 zs).take j) x++[y]);rw [D8] at h1;refine h1.congr fun t _=>?_
      rw [K7 hE,<- O3,amF]
      by_cases e:t=x
      ·rw [if_pos e,if_pos e.symm,e]
      ·rw [if_neg e,if_neg (fun z=>e z.symm)]
    ·rintro σ H4 ⟨w,x,rfl,S4,eM,Y7,lA⟩;walk_at "rd";refine ⟨S4,Y7,?_⟩;rw [aju g6];rw [y8 (l:=U5 zs) (by rw [wB,A6,A6];exact C2 _)] at lA;exact lA
   ·rintro σ H3 ⟨v,w,y,rfl,S3,Z8,aP⟩;rw [A6,show rs.length=zss.length from Paired.length hR.row,G4] at aP;walk_at "rd";exact q d ad H3 nd S3 Z8 aP
theorem sc_count_ahead:FnScope ["after", "ahead", "piece", "other"] ["after"] (C3 aG):=G0
abbrev sF:List Str:=["after", "ahead", "piece", "other"]
theorem xR:VS sF aG "after" 0:=vq
theorem xS:VS sF aG "ahead" 1:=vq
theorem vav:VS sF aG "piece" 2:=vq
theorem vaw:VS sF aG "other" 3:=vq
theorem vax:LS aG "ahead":=lq
theorem vay:LS aG "piece":=lq
theorem vaz:LS aG "other":=lq
theorem afl(F:FunD K "count_ahead" "count_ahead" aG f fd)(T:Txt P w K mg C):FnOk P w K mg base E8 1 f fd ["after"] akO:=by
 refine F.ok sc_count_ahead ?_ ?_
 ·rintro _ _ _ _ ⟨d,ts,ad,E,rfl,_⟩;rfl
 ·intro cdv A outer s H vs Q E hr h;have C4:=hu_of hr;have hu:=hr.units;refine ⟨_,QSs.out (A8 (D6 (n:=1) sc_count_ahead.nd rfl vax fT)
   (A8 (vW PassesOwn.never (vi xR) (D1 (n:=2) sc_count_ahead.nd rfl vay (.inl rfl)) (A7 (Z2 C4 (vi xS) (vi vav) A4)))
   (A8 (vW PassesOwn.never (vi xR) (D1 (n:=2) sc_count_ahead.nd rfl vay (.inl rfl)) (A7 (L7 PassesOwn.never (O2 (K:=K) (c9 C4 (vi xR) (vi vav))) (D1 (n:=3) sc_count_ahead.nd rfl vaz (.inl rfl)) (A7 (akE C4 (vi xS) (vi vaw) A4 arm)))))
   (A7 (E3 (vi xS)))))),?_⟩
  obtain ⟨d,ts,ad,E,rfl,hd,tnd,A9,hElen,D7,hE,q⟩:=h;walk_at "rd";intro c nc;have ndc:d≠c:=fun e=>by rw [e,nc] at hd;cases hd
  refine ⟨_,D9 hd nc,fun o=>forD (fun i σ H2=>∃ (u v:Option V),σ=[some (.ref d),some (.ref c),u,v]/\H2 d=some (.frz o (.dK (C1 ts fun t=>.ref (ad t))))/\SameBut d H H2/\H2 c=some (.dK (C1 (ts.take i) fun _=>.int 0)))
   ⟨none,none,rfl,A5,(SameBut.put (ual _ _) nc).at,by rw [B1 ndc.symm,A5];rfl⟩ (by rintro i σ H2 ⟨_,_,_,h,_⟩;exact h) ?_ ?_⟩
  ·rintro i k v σ H2 hk ⟨u,w,rfl,hf,S,hc⟩;obtain ⟨t,ht,rfl,rfl⟩:=rJ hk;have hi:i<ts.length:=(G1.mp ht).1;walk_at "rd";refine ⟨_,bD (k:=Sum.inr t) hc (by rw [i9,E7];exact G7 (by lia)),?_,S.put nc,?_⟩
   ·rw [B1 ndc];exact hf
   ·rw [A5,dH _ (wC tnd ht),K7 ht];exact congrArg (fun x=>some (HO.dK x)) (V4 fun t _=>by split <;> rfl)
  ·rintro σ H2 ⟨u,w,rfl,hf,S,hc⟩;rw [i9,G4] at hc;have S2:Same H (A0 H2 d (.dK (C1 ts fun t=>.ref (ad t)))):=S.thaw hd;have R5:A0 H2 d (.dK (C1 ts fun t=>.ref (ad t))) d=some (.dK (C1 ts fun t=>.ref (ad t))):=A5;have Y5:A0 H2 d (.dK (C1 ts fun t=>.ref (ad t))) c=some (.dK (C1 ts fun _=>.int 0)):=by rw [B1 ndc.symm];exact hc
   generalize A0 H2 d (.dK (C1 ts fun t=>.ref (ad t)))=H3 at S2 R5 Y5;walk_at "rd";refine ⟨_,R5,fun o=>forD (fun i σ H4=>∃ (u v:Option V),σ=[some (.ref d),some (.ref c),u,v]/\H4 d=some (.frz o (.dK (C1 ts fun t=>.ref (ad t))))/\SameBut d H H4/\H4 c=some (.dK (C1 ts fun t=>.int (cntIn E (ts.take i) t:Nat))))
    ⟨u,w,rfl,A5,fun b o hb h=>by rw [B1 hb];exact S2 b o h,?_⟩ (by rintro i σ H2 ⟨_,_,_,h,_⟩;exact h) ?_ ?_⟩
   ·rw [B1 ndc.symm,Y5];exact congrArg (fun x=>some (HO.dK x)) (V4 fun t _=>by rw [b8,akN];rfl)
   ·rintro i k v σ H4 hk ⟨u,w,rfl,hf,S4,aQ⟩;obtain ⟨t,ht,rfl,rfl⟩:=rJ hk;have pG:t∈ts:=M9 ht;have pH:H4 (ad t)=some (.lst ((G6 E t).map V.str)):=S4 _ _ (fun e=>by have:=D7 t pG;rw [e,hd] at this;cases this) (D7 t pG);walk_at "rd";refine ⟨V.ref (ad t),.inl ⟨_,Sum.inr t,.inr ⟨o,hf⟩,rfl,by rw [P7,if_pos pG]⟩,ad t,rfl,⟨_,.of pH⟩,forL (xs:=(G6 E t).map V.str) (fun j σ H5=>∃ (v:Option V),σ=[some (.ref d),some (.ref c),some (kV (Sum.inr t)),v]/\H5 d=some (.frz o (.dK (C1 ts fun t=>.ref (ad t))))/\SameBut d H H5/\
     H5 c=some (.dK (C1 ts fun q=>.int (cntIn E (ts.take i) q+((G6 E t).take j).count q:Nat)))) ⟨w,rfl,hf,S4,by rw [aQ];rfl⟩ (fun j σ H5 _ ⟨_,_,_,S5,_⟩=>.of (S5 _ _ (fun e=>by have:=D7 t pG;rw [e,hd] at this;cases this) (D7 t pG))) ?_ ?_⟩
    ·rintro j v5 σ H5 hv5 ⟨v,rfl,hf5,S5,g7⟩;obtain ⟨y,tS,rfl⟩:=G5 hv5;have eN:y∈ts:=by
      have:=M9 tS
      unfold G6 at this;obtain ⟨e,he,rfl⟩:=D3.mp this;exact (hE e (Q0.mp he).1).2
     walk_at "rd";refine ⟨V.int (cntIn E (ts.take i) y+((G6 E t).take j).count y:Nat),.inl ⟨_,Sum.inr y,.inl g7,rfl,by rw [P7,if_pos eN]⟩,_,_,rfl,rfl,_,bD (k:=Sum.inr y) g7 (by rw [i9];exact G7 (by lia)),?_,S5.put nc,?_⟩
     ·rw [B1 ndc];exact hf5
     ·rw [A5,mP _ eN];refine congrArg (fun x=>some (HO.dK x)) (V4 fun q _=>?_);rw [K7 tS,List.count_append,List.count_singleton]
      by_cases e:q=y
      ·rw [if_pos e,e,if_pos (by simp)];exact congrArg V.int (by lia)
      ·rw [if_neg e,if_neg (by simpa using fun z:y=q=>e z.symm)];rfl
    ·rintro σ H5 ⟨v,rfl,hf5,S5,g7⟩;walk_at "rd";refine ⟨hf5,S5,?_⟩;rw [A6,G4] at g7;rw [g7];refine congrArg (fun x=>some (HO.dK x)) (V4 fun q _=>?_);rw [K7 ht,ajs (wC tnd ht)]
   ·rintro σ H4 ⟨u,w,rfl,hf,S4,aQ⟩;rw [i9,G4] at aQ;walk_at "rd";refine q c _ nc (S4.thaw hd) ?_;rw [B1 ndc.symm,aQ];exact congrArg (fun x=>some (HO.dK x)) (V4 fun t _=>by rw [akM (fun e he=>(hE e he).1)])
theorem sc_lined_up:FnScope ["rows", "after", "ahead", "pieces", "numbers", "free", "line", "number", "other"] ["rows"] (C3 T0):=G0
abbrev bS:List Str:=["rows", "after", "ahead", "pieces", "numbers", "free", "line", "number", "other"]
theorem vaA:VS bS T0 "rows" 0:=vq
theorem xT:VS bS T0 "after" 1:=vq
theorem vaC:VS bS T0 "ahead" 2:=vq
theorem nQ:VS bS T0 "pieces" 3:=vq
theorem vaE:VS bS T0 "numbers" 4:=vq
theorem sG:VS bS T0 "free" 5:=vq
theorem xU:VS bS T0 "line" 6:=vq
theorem xV:VS bS T0 "number" 7:=vq
theorem xW:VS bS T0 "other" 8:=vq
theorem vaJ:LS T0 "after":=lq
theorem vaK:LS T0 "ahead":=lq
theorem vaL:LS T0 "pieces":=lq
theorem vaM:LS T0 "numbers":=lq
theorem vaN:LS T0 "free":=lq
theorem vaO:LS T0 "line":=lq
theorem vaP:LS T0 "number":=lq
theorem vaQ:LS T0 "other":=lq
theorem aib(F:FunD K "lined_up" "lined_up" T0 f fd)(T:Txt P w K mg C)(G_followers:FO P w K mg base 2 "followers" ["rows"] [] spFol)(G_count_ahead:FO P w K mg base 1 "count_ahead" ["after"] [] akO):FnOk P w K mg base E8 3 f fd ["rows"] akP:=by
 refine F.ok sc_lined_up ?_ ?_
 ·rintro _ _ _ _ ⟨a,rs,zss,rank,rfl,_⟩;rfl
 ·intro cdv A outer s H vs Q E hr h;have C4:=hu_of hr;have hu:=hr.units;refine ⟨_,QSs.out (A8 (D6 (n:=1) sc_lined_up.nd rfl vaJ (D0 G_followers (hm hr) (qa_c (vi vaA) A3)))
   (A8 (D6 (n:=2) sc_lined_up.nd rfl vaK (D0 G_count_ahead (hm hr) (qa_c (vi xT) A3)))
   (A8 (D6 (n:=3) sc_lined_up.nd rfl vaL (qe_cT (t9 (K:=K) (calm:=true)) T.b_list t8 (qa_c (vi xT) A3)))
   (A8 (D6 (n:=4) sc_lined_up.nd rfl vaM (qe_cT (akK (K:=K) (calm:=true)) T.b_dict akA (qa_c (Y3  (Q5:CompOk ["rows", "after", "ahead", "pieces", "numbers", "free", "line", "number", "other"] (C3 T0).names _ ["number", "piece"] 2 []) (mR T.b_enumerate (qa_c (vi nQ) A3)) (fun _ _ _ _ _=>(bH (K:=K) (n:=2) (T5 (D1 (n:=0) (show List.Nodup (["number", "piece"]:List Str) by decide +kernel) rfl (Or.inl rfl)) (T5 (D1 (n:=1) (show List.Nodup (["number", "piece"]:List Str) by decide +kernel) rfl (Or.inl rfl)) bG)))) (fun _ _ _ _ _=>W3) (fun _ _ _ _ _=>(N9 (qa_c (qv 1) (qa_c (qv 0) A3))))) A3)))
   (A8 (dG (n:=5) sc_lined_up.nd rfl vaN (Q5:CompOk ["rows", "after", "ahead", "pieces", "numbers", "free", "line", "number", "other"] (C3 T0).names _ ["piece", "numbers", "ahead"] 1 [4,2]) (O2 (K:=K) (vi nQ)) (fun _ _ _ _ _=>D1 (n:=0) (show List.Nodup (["piece", "numbers", "ahead"]:List Str) by decide +kernel) rfl (Or.inl rfl)) (fun _ _ _ _ _=>(dF (F6 (q_eq (K:=K) hu) (c9 C4 (qv 2) (qv 0)) A4))) (fun _ _ _ _ _=>(c9 C4 (qv 1) (qv 0))))
   (A8 (D6 (n:=6) sc_lined_up.nd rfl vaO (L4 A3))
   (A8 (vO PassesOwn.never (e8 (K:=K) (vi sG)) (A8 (D6 (n:=7) sc_lined_up.nd rfl vaP (qe_cB (arE (calm:=true)) T.b_min ane (qa_c (vi sG) A3)))
   (A8 (O4 (qe_mB (K:=K) Q1 PySem.F.slot_list_remove PySem.F.type_list_remove ak1 (vi sG) (qa_c (vi xV) A3)))
   (A8 (O4 (qe_mB (K:=K) Q1 V0 U9 V3 (vi xU) (qa_c (qe_ix (K:=K) (vi nQ) (vi xV)) A3)))
   (A7 (L7 PassesOwn.never (O2 (K:=K) (c9 C4 (vi xT) (qe_ix (K:=K) (vi nQ) (vi xV)))) (D1 (n:=8) sc_lined_up.nd rfl vaQ (.inl rfl)) (A8 (akE C4 (vi vaC) (vi xW) A4 arn)
   (A7 (qs_if (F6 (q_eq (K:=K) hu) (c9 C4 (vi vaC) (vi xW)) A4) (A7 (O4 (qe_mB (K:=K) Q1 V0 U9 V3 (vi sG) (qa_c (c9 C4 (vi vaE) (vi xW)) A3)))) G8)))))))))
   (A8 (qs_if (F6 q_lt (qe_cB (q_len (K:=K)) T.b_len O8 (qa_c (vi xU) A3)) (qe_cB (q_len (K:=K)) T.b_len O8 (qa_c (vi nQ) A3))) (A7 rD) G8)
   (A7 (E3 (vi xU))))))))))),?_⟩
  obtain ⟨a,rs,zss,rank,rfl,hR,hz,x5,q⟩:=h;walk_at "rd";have A9:(toldL zss).length<=100000:=L3 (mM zss) hz;have hElen:(edges zss).length<=100000:=L3 (agY zss) hz;have tnd:=jM zss;have etold:∀ e∈edges zss,e.1∈toldL zss/\e.2∈toldL zss:=fun e he=>wA he
  refine ⟨a,rs,zss,rfl,hR,hz,fun d ad H1 nd S1 hd dl=>?_⟩;generalize hts:toldL zss=ts at *;generalize hEE:edges zss=E at *;refine ⟨d,ts,ad,E,rfl,hd,tnd,A9,hElen,dl.row,etold,fun c H2 nc S2 hc=>?_⟩;walk_at "rd";refine rListR.d (.of (S2 _ _ hd)) fun w nw=>?_
  rw [amG];have p5:=S1.trans S2;have ncH:H c=none:=S1.free nc;have R5:=S2 _ _ hd;have ncd:c≠d:=fun e=>by rw [e,hd] at nc;cases nc
  have nac:∀ t∈ts,ad t≠c:=fun t ht e=>by have:=dl.row t ht;rw [e,nc] at this;cases this
  have tT:A0 H2 w (.lst (ts.map V.str)) w=some (.lst (ts.map V.str)):=A5;have Sw:Same H2 (A0 H2 w (.lst (ts.map V.str))):=Same.new nw;generalize A0 H2 w (.lst (ts.map V.str))=H3 at tT Sw ⊢
  have idx:∀ {i:Nat} {z:Str},ts[i]?=some z->ts.idxOf z=i:=fun {i z} h=>by
   obtain ⟨hi,rfl⟩:=G1.mp h;exact List.Nodup.idxOf_getElem tnd i hi
  refine ⟨w,rfl,⟨_,tT⟩,compE (xs:=ts.map V.str) [] rfl (fun D i ys H4=>∃ qs:List Addr,ys=qs.map V.ref/\Same H3 H4/\Paired (fun q t=>H4 q=some (.tup [.str t,.int (ts.idxOf t:Nat)])) qs (ts.take i)) (fun D nD=>⟨[],rfl,Same.new nD,.nil⟩) (by rintro D i ys H4 nD _ ⟨_,_,S,_⟩;exact S _ _ tT) ?_ ?_⟩
  ·rintro D i x t ys H4 nD hi hx ⟨qs,rfl,S,P4⟩ hD hy nt;obtain ⟨z,hz,rfl⟩:=G5 hx;rw [A6] at hi hy;walk_at "rd";refine ⟨by decide,fun p np=>⟨D9 (D9 hD nt) np,by rw [A6];exact G7 (by lia),jQ.put (by rw [A6];exact hi) (by rw [A6];exact hy) ⟨qs++[p],by rw [D8];rfl,((S.trans (Same.new nt)).trans (Same.new np)).put nD,?_⟩⟩⟩;rw [K7 hz];refine Paired.snoc (N0 P4 fun q t' h=>?_) ?_
   ·rw [B1 (fun e=>by rw [e,hD] at h;cases h)];exact D9 (D9 h nt) np
   ·rw [B1 (fun e=>by rw [e,D9 hD nt] at np;cases np),A5,idx hz]
  rintro D ys H4 nD ⟨qs,rfl,S34,P4⟩ hD hy;rw [A6,G4] at P4;refine ⟨rfl,D,qs,_,rfl,.of hD,aiN (f:=fun t=>.int (ts.idxOf t:Nat)) P4,fun nm nnm=>?_⟩;rw [show Y1 [] (C1 ts fun t=>V.int (ts.idxOf t:Nat))=C1 ts fun t=>V.int (ts.idxOf t:Nat) from ag3 (pre:=[]) (by simpa using tnd)];have S5:Same H2 (A0 H4 nm (.dK (C1 ts fun t=>V.int (ts.idxOf t:Nat)))):=(Sw.trans S34).trans (Same.new nnm);have cD:A0 H4 nm (.dK (C1 ts fun t=>V.int (ts.idxOf t:Nat))) w=some (.lst (ts.map V.str)):=D9 (S34 _ _ tT) nnm;have hnm:A0 H4 nm (.dK (C1 ts fun t=>V.int (ts.idxOf t:Nat))) nm=some (.dK (C1 ts fun t=>V.int (ts.idxOf t:Nat))):=A5;have aQ:H4 c=some (.dK (C1 ts fun t=>.int (K1 E [] t:Nat))):=S34 _ _ (Sw _ _ hc);have ncn:c≠nm:=fun e=>by rw [<- e,aQ] at nnm;cases nnm
  generalize A0 H4 nm (.dK (C1 ts fun t=>V.int (ts.idxOf t:Nat)))=H5 at S5 cD hnm ⊢
  have g7:=S5 _ _ hc;have hd5:=S5 _ _ R5;have o7:∀ t∈ts,H5 (ad t)=some (.lst ((G6 E t).map V.str)):=fun t ht=>S5 _ _ (S2 _ _ (dl.row t ht))
  have Z7:=p5.trans S5;have ncw:c≠w:=fun e=>by rw [e,cD] at g7;cases g7
  refine ⟨w,rfl,⟨_,.of cD⟩,compL (xs:=ts.map V.str) [some (.ref nm),some (.ref c)] rfl (fun D i ys H6=>∃ fr:List Int,ys=fr.map V.int/\Same H5 H6/\FS (ts.take i) [] (fun q=>K1 E [] q=0) fr) (fun D nD=>⟨[],rfl,Same.new nD,FS.nil _⟩) (by rintro D i ys H6 nD _ ⟨_,_,S,_⟩;exact .of (S _ _ cD)) ?_ ?_⟩
  ·rintro D i x ys H6 nD hi hx ⟨fr,rfl,S,F⟩ hD hy;obtain ⟨z,hz,rfl⟩:=G5 hx;have hzt:z∈ts:=M9 hz;have pI:i<ts.length:=(G1.mp hz).1;rw [A6] at hy;have hs:=F.snoc (i:=i) (q:=z) (by rw [E7];lia) (by simp);rw [<- K7 hz] at hs;walk_at "rd";refine ⟨V.int (K1 E [] z:Nat),.inl ⟨_,Sum.inr z,.inl (S _ _ g7),rfl,by rw [P7,if_pos hzt]⟩,?_⟩
   try walk_at "rd"
   refine iteD (fun h0=>⟨V.int (ts.idxOf z:Nat),.inl ⟨_,Sum.inr z,.inl (S _ _ hnm),rfl,by rw [P7,if_pos hzt]⟩,hD,by rw [A6];exact G7 (by lia),CW.put hi (by rw [A6];exact hy) ⟨fr++[(i:Int)],by rw [D8,idx hz];rfl,S.put nD,hs.1 (by lia)⟩⟩) fun h0=>⟨hD,mK hi (by rw [A6];exact hy) ⟨fr,rfl,S,hs.2 (by lia)⟩⟩
  rintro f ys H6 nf ⟨fr,rfl,S56,F0⟩ hf6 hy;rw [A6,G4] at F0;intro ln nln;have nln5:H5 ln=none:=S56.free nln;have Z6:f≠ln:=fun e=>by rw [e,nln] at hf6;cases hf6
  have frlen:∀ {line fr z},FS ts line z fr->fr.length<=ts.length:=fun {line fr z} F=>by
   have h1:∀ n∈fr,n∈(List.range ts.length).map fun (n:Nat)=>(n:Int):=fun n hn=>by
    obtain ⟨m,q,e,h2,_⟩:=(F.2 n).mp hn;exact D3.mpr ⟨m,iR.mpr (G1.mp h2).1,e.symm⟩
   have:=afK F.1 h1
   simpa using this
  refine vR (fun m σ H7=>∃ (u v:Option V) (line:List Str) (fr:List Int),σ=[some (.ref a),some (.ref d),some (.ref c),some (.ref w),some (.ref nm),some (.ref f),some (.ref ln),u,v]/\SameBut c H5 H7/\
    H7 c=some (.dK (C1 ts fun t=>.int (K1 E line t:Nat)))/\H7 f=some (.lst (fr.map V.int))/\FS ts line (fun q=>K1 E line q=0) fr/\H7 ln=some (.lst (line.map V.str))/\R0 E ts line/\m=ts.length-line.length) ts.length
   ⟨none,none,[],fr,rfl,fun b o _ h=>D9 (S56 _ _ h) nln,D9 (S56 _ _ g7) nln,D9 hf6 nln,F0,A5,R0.nil _ _,rfl⟩ ?_
  rintro m σ H7 ⟨u,v,line,fr,rfl,B7,pJ,tU,F,p6,run,rfl⟩;have S07:Same H H7:=B7.same Z7 ncH;walk_at "rd";refine ⟨_,vS tU,?_⟩
  by_cases cE:fr=[]
  ·have bW:∀ p∈ts,p∈line:=fun p hp=>Classical.byContradiction fun hn=>by
    obtain ⟨q',hq⟩:=aiI (line:=line) x5 (fun e he=>(etold e he).1) ⟨p,hp,hn⟩;obtain ⟨h1,h2,h3⟩:=fV hq;obtain ⟨k,hk⟩:=List.mem_iff_getElem?.mp h1
    have:=(F.2 (k:Int)).mpr ⟨k,q',rfl,hk,h2,h3⟩
    rw [cE] at this
    cases this
   have hsl:=rH tnd run bW;rw [cE];refine iteF ?_
   try walk_at "rd"
   refine ⟨line.length,.inl ⟨_,.of p6,by rw [A6]⟩,ts.length,.inl ⟨_,.of (B7 _ _ ncw.symm cD),by rw [A6]⟩,?_⟩
   try walk_at "rd"
   exact iteD (fun h=>absurd h (by lia)) fun _=>q ln line H7 (Z7.free nln5) S07 p6 run bW
  rw [show (!(fr.map V.int).isEmpty)=true by cases fr with | nil=>exact absurd rfl cE | cons=>rfl];refine iteT ⟨fun σ' H'=>∃ (u v:Option V) (line':List Str) (fr:List Int),σ'=[some (.ref a),some (.ref d),some (.ref c),some (.ref w),some (.ref nm),some (.ref f),some (.ref ln),u,v]/\SameBut c H5 H'/\
    H' c=some (.dK (C1 ts fun t=>.int (K1 E line' t:Nat)))/\H' f=some (.lst (fr.map V.int))/\FS ts line' (fun q=>K1 E line' q=0) fr/\H' ln=some (.lst (line'.map V.str))/\R0 E ts line'/\ts.length-line'.length<ts.length-line.length,?_,?_⟩
  ·rintro σ' H' ⟨u,v,line',fr',rfl,h1,h2,h3,h4,h5,h6,h7⟩;exact ⟨_,h7,⟨_,_,rfl⟩,h1,line',h2,fr',h3,h4,h5,h6,rfl⟩
  try walk_at "rd"
  refine ⟨fr,tU,cE,fun M hM gZ=>?_⟩;obtain ⟨mm,p,rfl,hpm,g8⟩:=ahP F hM gZ;obtain ⟨Z9,R6,Q8⟩:=fV g8;have hll:line.length<ts.length:=by
   have h1:(line++[p]).Nodup:=(run.snoc g8).nodup;have h3:=agZ h1 fun x hx=>(run.snoc g8).sub hx
   rw [C5,N5] at h3;lia
  have F1:=F.take tnd hpm
  try walk_at "rd"
  refine ⟨Q2 tU,arD tU hM ?_⟩;have hwf:w≠f:=fun e=>by rw [e,nf] at cD;cases cD
  have hcf:c≠f:=fun e=>by rw [e,nf] at g7;cases g7
  have pK:c≠ln:=fun e=>by rw [e,nln5] at g7;cases g7
  have B8:SameBut c H5 (A0 H7 f (.lst ((fr.erase (mm:Int)).map V.int))):=B7.put nf;have hX:A0 H7 f (.lst ((fr.erase (mm:Int)).map V.int)) ln=some (.lst (line.map V.str)):=by rw [B1 Z6.symm];exact p6
  have hf8:A0 H7 f (.lst ((fr.erase (mm:Int)).map V.int)) f=some (.lst ((fr.erase (mm:Int)).map V.int)):=A5;have hc8:A0 H7 f (.lst ((fr.erase (mm:Int)).map V.int)) c=some (.dK (C1 ts fun t=>.int (K1 E line t:Nat))):=by rw [B1 hcf];exact pJ
  generalize A0 H7 f (.lst ((fr.erase (mm:Int)).map V.int))=H8 at B8 hX hf8 hc8 ⊢
  have atp:J8 (ts.map V.str) (mm:Int)=some (V.str p):=O1 (by rw [V7,hpm];rfl);refine ⟨Q2 hX,_,.inl (.of (B8 _ _ ncw.symm cD)),V.str p,atp,appOk hX (by rw [A6];exact G7 (by lia)) ?_⟩;have B9:SameBut c H5 (A0 H8 ln (.lst (line.map V.str++[V.str p]))):=B8.put nln5;have iA:A0 H8 ln (.lst (line.map V.str++[V.str p])) ln=some (.lst ((line++[p]).map V.str)):=by rw [A5,D8];rfl
  have hf9:A0 H8 ln (.lst (line.map V.str++[V.str p])) f=some (.lst ((fr.erase (mm:Int)).map V.int)):=by rw [B1 Z6];exact hf8
  have hc9:A0 H8 ln (.lst (line.map V.str++[V.str p])) c=some (.dK (C1 ts fun t=>.int (K1 E line t:Nat))):=by rw [B1 pK];exact hc8
  generalize A0 H8 ln (.lst (line.map V.str++[V.str p]))=H9 at B9 iA hf9 hc9 ⊢
  refine ⟨_,.inl (.of (B9 _ _ ncw.symm cD)),V.str p,atp,V.ref (ad p),.inl ⟨_,Sum.inr p,.inl (B9 _ _ ncd.symm hd5),rfl,by rw [P7,if_pos Z9]⟩,ad p,rfl,⟨_,.of (B9 _ _ (nac p Z9) (o7 p Z9))⟩,
   forL (xs:=(G6 E p).map V.str) (fun j σ H7=>∃ (x:Option V) (fr:List Int),σ=[some (.ref a),some (.ref d),some (.ref c),some (.ref w),some (.ref nm),some (.ref f),some (.ref ln),some (.int (mm:Int)),x]/\SameBut c H5 H7/\
    H7 c=some (.dK (C1 ts fun t=>.int ((K1 E line t:Nat)-(((G6 E p).take j).count t:Nat))))/\H7 f=some (.lst (fr.map V.int))/\FS ts (line++[p]) (fun q=>K1 E line q=((G6 E p).take j).count q) fr/\H7 ln=some (.lst ((line++[p]).map V.str)))
   ⟨v,_,rfl,B9,?_,hf9,F1.congr fun q=>(by simp),iA⟩ (by rintro j σ H7 _ ⟨_,_,_,B,_⟩;exact .of (B _ _ (nac p Z9) (o7 p Z9))) ?_ ?_⟩
  ·rw [hc9];exact congrArg (fun x=>some (HO.dK x)) (V4 fun t _=>congrArg V.int (by simp))
  ·rintro j v5 σ W8 hv5 ⟨x,fr,rfl,B,x6,iB,F,iC⟩;obtain ⟨y,hy,rfl⟩:=G5 hv5;have eN:y∈ts:=by
    have:=M9 hy
    unfold G6 at this;obtain ⟨e,he,rfl⟩:=D3.mp this;exact (etold e (Q0.mp he).1).2
   have gY:((G6 E p).take j).count y<K1 E line y:=by
    have h1:=aiH (E:=E) (q:=y) R6;have h2:(G6 E p).count y=((G6 E p).take (j+1)).count y+((G6 E p).drop (j+1)).count y:=by rw [<- List.count_append,T9]
    rw [K7 hy,List.count_append,List.count_singleton,if_pos (by simp)] at h2;lia
   have hyb:y∉line++[p]:=fun hm=>by
    rcases E1.mp hm with hm | hm
    ·have:=amP run hm;lia
    ·rw [E6.mp hm] at gY;lia
   obtain ⟨my,hmy⟩:=List.mem_iff_getElem?.mp eN;have pL:∀ q,((G6 E p).take (j+1)).count q=((G6 E p).take j).count q+if y=q then 1 else 0:=fun q=>by
    rw [K7 hy,List.count_append,List.count_singleton]
    by_cases e:y=q
    ·rw [if_pos e,if_pos (by simpa using e)]
    ·rw [if_neg e,if_neg (by simpa using e)]
   have turn:=F.turn (z':=fun q=>K1 E line q=((G6 E p).take (j+1)).count q) tnd (y:=y) (fun q hq=>by rw [pL,if_neg (fun e=>hq e.symm),Nat.add_zero]) (by lia) hmy hyb;have Q6:C1 ts (fun t=>V.int (if t=y then (K1 E line y:Nat)-(((G6 E p).take j).count y:Nat)-1 else (K1 E line t:Nat)-(((G6 E p).take j).count t:Nat)))=C1 ts (fun t=>V.int ((K1 E line t:Nat)-(((G6 E p).take (j+1)).count t:Nat))):=V4 fun q _=>by
    rw [pL]
    by_cases e:q=y
    ·rw [if_pos e,e,if_pos rfl];exact congrArg V.int (by lia)
    ·rw [if_neg e,if_neg (fun z=>e z.symm)];exact congrArg V.int (by lia)
   walk_at "rd";refine ⟨_,.inl ⟨_,Sum.inr y,.inl x6,rfl,by rw [P7,if_pos eN]⟩,_,_,rfl,rfl,_,bD (k:=Sum.inr y) x6 (by rw [i9];exact G7 (by lia)),?_⟩;have cF:A0 W8 c (.dK (putK (C1 ts fun t=>V.int ((K1 E line t:Nat)-(((G6 E p).take j).count t:Nat))) (Sum.inr y) (V.int ((K1 E line y:Nat)-(((G6 E p).take j).count y:Nat)-1)))) c=some (.dK (C1 ts (fun t=>V.int ((K1 E line t:Nat)-(((G6 E p).take (j+1)).count t:Nat))))):=by
    rw [A5,mP _ eN,<- Q6];refine congrArg (fun x=>some (HO.dK x)) (V4 fun q _=>?_)
    by_cases e:q=y
    ·rw [if_pos e,if_pos e]
    ·rw [if_neg e,if_neg e]
   have B11:SameBut c H5 (A0 W8 c (.dK (putK (C1 ts fun t=>V.int ((K1 E line t:Nat)-(((G6 E p).take j).count t:Nat))) (Sum.inr y) (V.int ((K1 E line y:Nat)-(((G6 E p).take j).count y:Nat)-1))))):=B.at;have cG:A0 W8 c (.dK (putK (C1 ts fun t=>V.int ((K1 E line t:Nat)-(((G6 E p).take j).count t:Nat))) (Sum.inr y) (V.int ((K1 E line y:Nat)-(((G6 E p).take j).count y:Nat)-1)))) f=some (.lst (fr.map V.int)):=by rw [B1 hcf.symm];exact iB
   have iD:A0 W8 c (.dK (putK (C1 ts fun t=>V.int ((K1 E line t:Nat)-(((G6 E p).take j).count t:Nat))) (Sum.inr y) (V.int ((K1 E line y:Nat)-(((G6 E p).take j).count y:Nat)-1)))) ln=some (.lst ((line++[p]).map V.str)):=by rw [B1 pK.symm];exact iC
   generalize A0 W8 c (.dK (putK (C1 ts fun t=>V.int ((K1 E line t:Nat)-(((G6 E p).take j).count t:Nat))) (Sum.inr y) (V.int ((K1 E line y:Nat)-(((G6 E p).take j).count y:Nat)-1))))=pM at cF B11 cG iD ⊢
   refine ⟨V.int ((K1 E line y:Nat)-(((G6 E p).take (j+1)).count y:Nat)),.inl ⟨_,Sum.inr y,.inl cF,rfl,by rw [P7,if_pos eN]⟩,?_⟩
   try walk_at "rd"
   have hfl2:=frlen F;refine iteD (fun h0=>⟨Q2 cG,V.int (ts.idxOf y:Nat),.inl ⟨_,Sum.inr y,.inl (B11 _ _ ncn.symm hnm),rfl,by rw [P7,if_pos eN]⟩,appOk cG (by rw [A6];exact G7 (by lia)) ?_⟩) fun h0=>?_
   ·refine ⟨B11.put nf,?_,fr++[(my:Int)],?_,turn.1 (by lia),?_⟩
    ·rw [B1 hcf];exact cF
    ·rw [A5,D8,idx hmy];rfl
    ·rw [B1 Z6.symm];exact iD
   ·exact ⟨B11,cF,fr,cG,turn.2 (by lia),iD⟩
  ·rintro σ W8 ⟨x,fr,rfl,B,x6,iB,F,iC⟩;rw [A6,G4] at x6 F;have eO:∀ q,K1 E line q=K1 E (line++[p]) q+(G6 E p).count q:=fun q=>aiH (E:=E) (q:=q) R6
   refine ⟨⟨_,_,rfl⟩,B,line++[p],?_,fr,iB,F.congr fun q=>?_,iC,run.snoc g8,by rw [C5,N5];lia⟩
   ·rw [x6];exact congrArg (fun x=>some (HO.dK x)) (V4 fun q _=>congrArg V.int (by have:=eO q;lia))
   ·have:=eO q
    lia
theorem ahs:FnScope ["sign"] ["sign"] (C3 sA):=G0
abbrev aic:List Str:=["sign"]
theorem vaR:VS aic sA "sign" 0:=vq
theorem aht(F:FunD K "is_figure" "is_figure" sA f fd)(T:Txt P w K mg C):FnOk P w K mg base E8 1 f fd ["sign"] jR:=by
 refine F.ok ahs ?_ ?_
 ·rintro _ _ _ _ ⟨c,rfl,_⟩;rfl
 ·intro cdv A outer s H vs Q E hr h;have C4:=hu_of hr;have hu:=hr.units;refine ⟨_,QSs.out (A7 (E3 (amu q_le q_le K0 (vi vaR) K0))),?_⟩;obtain ⟨c,rfl,q⟩:=h;walk_at "rd";have e1:(Str.ofString "0").cps.toList=[48]:=by decide +kernel
  have e2:(Str.ofString "9").cps.toList=[57]:=by decide +kernel
  rw [e1,e2];simp only [arx];refine iteN (fun h1=>?_) fun h1=>?_
  ·have e:figO c=!decide (57<c):=by
    unfold figO;rw [decide_eq_true (by lia:48<=c)]
    by_cases h2:c<=57
    ·rw [decide_eq_true h2,decide_eq_false (by lia:¬ 57<c)];rfl
    ·rw [decide_eq_false h2,decide_eq_true (by lia:57<c)];rfl
   rw [e] at q;exact q
  ·have e:figO c=false:=by unfold figO;rw [decide_eq_false (by lia:¬ 48<=c)];rfl
   rw [e] at q;exact q
theorem aid:FnScope ["rules", "word"] ["rules", "word"] (C3 nE):=G0
abbrev ajO:List Str:=["rules", "word"]
theorem vaS:VS ajO nE "rules" 0:=vq
theorem aie(F:FunD K "has_rule" "has_rule" nE f fd)(T:Txt P w K mg C):FnOk P w K mg base E8 1 f fd ["rules", "word"] (spHas K):=by
 refine F.ok aid ?_ ?_
 ·rintro _ _ _ _ ⟨a,ts,R,w,rfl,_⟩;rfl
 ·intro cdv A outer s H vs Q E hr h;have C4:=hu_of hr;have hu:=hr.units;refine ⟨_,QSs.out (A7 (E3 (qe_cB (q_any (calm:=true)) T.b_any anc (qa_c (Y3  (Q5:CompOk ["rules", "word"] (C3 nE).names _ ["rule", "word"] 1 [1]) (O2 (K:=K) (vi vaS)) (fun _ _ _ _ _=>D1 (n:=0) (show List.Nodup (["rule", "word"]:List Str) by decide +kernel) rfl (Or.inl rfl)) (fun _ _ _ _ _=>W3) (fun _ _ _ _ _=>(fS (q_eq (K:=K) hu) (qe_ix (K:=K) (qv 0) A4) (qv 1)))) A3)))),?_⟩;obtain ⟨a,ts,R,w,rfl,hR,hl,q⟩:=h;walk_at "rd";refine ⟨⟨_,.of hR.top⟩,compL (xs:=ts.map V.ref) [some (.str w)] rfl (fun D i ys H4=>ys=((R.take i).map fun z=>decide (z.1=w)).map V.bl/\Same H H4) (fun D nD=>⟨rfl,Same.new nD⟩) (by rintro D i ys H4 nD _ ⟨_,S⟩;exact .of (S _ _ hR.top)) ?_ ?_⟩
  ·rintro D i x ys H4 nD hi hx ⟨rfl,S⟩ hD hy;obtain ⟨t,ht,rfl⟩:=G5 hx;obtain ⟨z,hz,D7⟩:=Paired.at hR.row ht;have o9:i<R.length:=(G1.mp hz).1;walk_at "rd";refine ⟨_,.inr (.of (S _ _ D7)),V.str z.1,U4 _ _,?_⟩;walk_at "rd";refine ⟨hD,by rw [A6,A6,E7];exact G7 (by lia),CW.put hi hy ⟨?_,S.put nD⟩⟩;rw [q0,hz]
   simp
  rintro D ys H4 nD ⟨rfl,S⟩ hD hy;rw [A6,hR.len,G4] at hD;refine ⟨_,rfl,hD,?_⟩;have e:((R.map fun z=>decide (z.1=w)).any id)=hasW R w:=by
   unfold hasW;rw [List.any_map];rfl
  rw [e];exact q H4 S
theorem afm:FnScope ["rule"] ["rule"] (C3 sB):=G0
abbrev ago:List Str:=["rule"]
theorem kH:VS ago sB "rule" 0:=vq
theorem afn(F:FunD K "pieces_told" "pieces_told" sB f fd)(T:Txt P w K mg C):FnOk P w K mg base E8 1 f fd ["rule"] (akR K):=by
 refine F.ok afm ?_ ?_
 ·rintro _ _ _ _ ⟨t,z,rfl,_⟩;rfl
 ·intro cdv A outer s H vs Q E hr h;have C4:=hu_of hr;have hu:=hr.units;obtain ⟨a_JOBS,m_JOBS,M_JOBS⟩:=T.x_JOBS;refine ⟨_,QSs.out (A8 (qs_if (F6 (q_eq (K:=K) hu) (qe_ix (K:=K) (vi kH) A4) K0) (A7 (E3 (N7 (K:=K) (vi kH) (L6 A4) P6))) G8)
   (A8 (qs_if (F6 (q_eq (K:=K) hu) (qe_ix (K:=K) (vi kH) A4) K0) (A7 (E3 (N7 (K:=K) (vi kH) (L6 A4) (L6 A4)))) G8)
   (A7 (E3 (vM (F6 (q_inM M_JOBS) (qe_ix (K:=K) (vi kH) A4) (rC m_JOBS)) (N7 (K:=K) (vi kH) (L6 A4) P6) (N9 A3)))))),?_⟩
  obtain ⟨t,z,rfl,ht,q⟩:=h;have hT:C7 K H t ((z.1::z.2).map V.str):=.of ht;have A9:1<=((z.1::z.2).map V.str).length:=by rw [A6,K3];lia
  walk_at "rd";refine ⟨_,.inr hT,V.str z.1,U4 _ _,?_⟩;walk_at "rd";refine iteD (fun e=>?_) fun n1=>⟨_,.inr hT,V.str z.1,U4 _ _,?_⟩
  ·refine rSlR.t hT (m7 (k:=2) (by decide) A9) fun p np=>q p _ (Same.new np) (.of ?_)
   rw [A5,show ((2:Int))=((2:Nat):Int) from rfl,m5,K4,List.drop_succ_cons,<- y9];unfold M7;rw [if_pos e]
  walk_at "rd";refine iteD (fun e=>?_) fun n2=>⟨_,.inr hT,V.str z.1,U4 _ _,?_⟩
  ·refine rSlR.t hT (m7 (k:=1) (by decide) A9) fun p np=>q p _ (Same.new np) (.of ?_)
   have ecut:cutV ((z.1::z.2).map V.str) (some 1) (some 2)=(z.2.take 1).map V.str:=by
    unfold cutV
    cases z.2 with
    | nil=>rfl
    | cons y r=>
     have e1:HT.sIx ((z.1::y::r).map V.str).length 0 (some 1)=1:=by
      rw [show ((1:Int))=((1:Nat):Int) from rfl,HT.sIx_nat,A6,K3,K3];lia
     have e2:HT.sIx ((z.1::y::r).map V.str).length ((z.1::y::r).map V.str).length (some 2)=2:=by
      rw [show ((2:Int))=((2:Nat):Int) from rfl,HT.sIx_nat,A6,K3,K3];lia
     rw [e1,e2];rfl
   rw [A5,ecut];unfold M7;rw [if_neg n1,if_pos e]
  walk_at "rd"
  by_cases hj:fW z.1
  ·rw [wG hj];refine iteT (rSlR.t hT (m7 (k:=1) (by decide) A9) fun p np=>q p _ (Same.new np) (.of ?_));rw [A5,K4,vT];unfold M7;have h3:z.1=("row" : Str)\/z.1=("marks" : Str)\/z.1=("over" : Str):=by
    rcases hj with h | h | h | h | h
    ·exact .inl h
    ·exact .inr (.inl h)
    ·exact absurd h n1
    ·exact absurd h n2
    ·exact .inr (.inr h)
   rw [if_neg n1,if_neg n2,if_pos h3]
  ·rw [amL hj];refine iteF fun p np=>q p _ (Same.new np) (.of ?_)
   rw [A5];unfold M7;rw [if_neg n1,if_neg n2,if_neg (fun h=>hj (by
    rcases h with h | h | h
    ·exact .inl h
    ·exact .inr (.inl h)
    ·exact .inr (.inr (.inr (.inr h)))))]
   rfl
theorem aif:FnScope ["jobs", "piece", "job", "figures"] ["jobs", "piece", "job", "figures"] (C3 dN):=G0
abbrev sH:List Str:=["jobs", "piece", "job", "figures"]
theorem vaU:VS sH dN "jobs" 0:=vq
theorem xX:VS sH dN "piece" 1:=vq
theorem vaW:VS sH dN "job" 2:=vq
theorem vaX:VS sH dN "figures" 3:=vq
theorem aig(F:FunD K "is_clash" "is_clash" dN f fd)(T:Txt P w K mg C)(G_is_figure:FO P w K mg base 1 "is_figure" ["sign"] [] jR):FnOk P w K mg base E8 2 f fd ["jobs", "piece", "job", "figures"] akS:=by
 refine F.ok aif ?_ ?_
 ·rintro _ _ _ _ ⟨d,p,j,fg,ks,g,rfl,_⟩;rfl
 ·intro cdv A outer s H vs Q E hr h;have C4:=hu_of hr;have hu:=hr.units;obtain ⟨a_AGAIN,m_AGAIN,M_AGAIN⟩:=T.x_AGAIN;refine ⟨_,QSs.out (A8 (qs_if (QW.pt (fU (F6 (q_in (K:=K) hu) (vi xX) (vi vaU)) (jK (QW.pt (qw_or (F6 (q_ne (K:=K) hu) (c9 C4 (vi vaU) (vi xX)) (vi vaW)) (vN (F6 (vP (K:=K) hu) (vi vaW) (rC m_AGAIN)))))))) (A7 (E3 qe_bl)) G8)
   (A7 (E3 (ark (vi vaX) (arj (qe_cB (q_any (calm:=true)) T.b_any anc (qa_c (Y3  (Q5:CompOk ["jobs", "piece", "job", "figures"] (C3 dN).names _ ["sign"] 1 []) (anh (vi xX)) (fun _ _ _ _ _=>D1 (n:=0) (show List.Nodup (["sign"]:List Str) by decide +kernel) rfl (Or.inl rfl)) (fun _ _ _ _ _=>W3) (fun _ _ _ _ _=>(D0 G_is_figure (hm hr) (qa_c (qv 0) A3)))) A3))))))),?_⟩
  obtain ⟨d,p,j,fg,ks,g,rfl,hd,hp,h1,h2,q⟩:=h;walk_at "rd";have tail:(if fg=true then bF (jG p) 1 [] (gName 0) tYes (tCall jR [] E0 (tCons (tVar 0) tNil)) [some (V.ref d),some (V.str p),some (V.str j),some (V.bl fg)] (fun x H1=>rAnyB true [x] H1 Q) H else Q (V.bl false) H):=by
   by_cases hf:fg=true
   ·rw [if_pos hf];refine compS [] rfl (fun D i ys H4=>ys=((p.cps.toList.take i).map figO).map V.bl/\Same H H4) (fun D nD=>⟨rfl,Same.new nD⟩) ?_ ?_
    ·rintro D i x ys H4 nD hi hx ⟨rfl,S⟩ hD hy;walk_at "rd";refine ⟨x,rfl,hD,?_,CW.put hi hy ⟨?_,S.put nD⟩⟩
     ·rw [A6,A6,E7];exact G7 (by have:p.cps.size=p.length:=rfl;lia)
     ·rw [q0,hx]
      simp
    ·rintro D ys H4 nD ⟨rfl,S⟩ hD hy;walk_at "rd";refine ⟨_,hD,?_⟩;have e:((p.cps.toList.take p.cps.size).map figO).any id=false:=by
      rw [List.any_eq_false];intro b hb;obtain ⟨c,hc,rfl⟩:=D3.mp hb;rw [h2 hf c (eZ hc)];decide
     rw [e];exact q H4 S
   ·rw [if_neg hf];exact q H (aD H)
  refine rInR.d (i8 (k:=Sum.inr p) hd) ⟨_,rfl,?_⟩;rw [P7,fG]
  by_cases hk:p∈ks
  ·obtain ⟨e1,e2⟩:=h1 hk;rw [if_pos hk];refine iteT ⟨V.str (g p),.inl ⟨_,Sum.inr p,.inl hd,rfl,by rw [P7,if_pos hk]⟩,?_⟩;walk_at "rd";rw [decide_eq_true e1];refine iteF (rInR.l (.inr (M_AGAIN _)) rfl rfl ⟨_,rfl,?_⟩);have e3:dB (.str j) [V.str "letter",V.str "mark",V.str "over"]=true:=by
    have:=vK j mS
    rw [decide_eq_true e2] at this;exact this
   rw [e3];exact iteF tail
  ·rw [if_neg hk];exact iteF tail
theorem sc_jobs_of:FnScope ["rules", "figures", "jobs", "rule", "piece"] ["rules"] (C3 n8):=G0
abbrev nR:List Str:=["rules", "figures", "jobs", "rule", "piece"]
theorem xY:VS nR n8 "rules" 0:=vq
theorem vaZ:VS nR n8 "figures" 1:=vq
theorem sI:VS nR n8 "jobs" 2:=vq
theorem xZ:VS nR n8 "rule" 3:=vq
theorem va2:VS nR n8 "piece" 4:=vq
theorem va3:LS n8 "figures":=lq
theorem va4:LS n8 "jobs":=lq
theorem va5:LS n8 "rule":=lq
theorem va6:LS n8 "piece":=lq
theorem ajP(F:FunD K "jobs_of" "jobs_of" n8 f fd)(T:Txt P w K mg C)(G_has_rule:FO P w K mg base 1 "has_rule" ["rules", "word"] [] (spHas K))(G_pieces_told:FO P w K mg base 1 "pieces_told" ["rule"] [] (akR K))(G_is_clash:FO P w K mg base 2 "is_clash" ["jobs", "piece", "job", "figures"] [] akS):FnOk P w K mg base E8 3 f fd ["rules"] (anl K):=by
 refine F.ok sc_jobs_of ?_ ?_
 ·rintro _ _ _ _ ⟨a,ts,R,g,rfl,_⟩;rfl
 ·intro cdv A outer s H vs Q E hr h;have C4:=hu_of hr;have hu:=hr.units;obtain ⟨a_JOBS,m_JOBS,M_JOBS⟩:=T.x_JOBS;refine ⟨_,QSs.out (A8 (D6 (n:=1) sc_jobs_of.nd rfl va3 (D0 G_has_rule (hm hr) (qa_c (vi xY) (qa_c K0 A3))))
   (A8 (D6 (n:=2) sc_jobs_of.nd rfl va4 fT)
   (A8 (L7 PassesOwn.never (O2 (K:=K) (vi xY)) (D1 (n:=3) sc_jobs_of.nd rfl va5 (.inl rfl)) (A7 (L7 PassesOwn.never (dE (K:=K) (D0 G_pieces_told (hm hr) (qa_c (vi xZ) A3))) (D1 (n:=4) sc_jobs_of.nd rfl va6 (.inl rfl)) (A8 (qs_if (e8 (K:=K) (D0 G_is_clash (hm hr) (qa_c (vi sI) (qa_c (vi va2) (qa_c (aiE M_JOBS (rC m_JOBS) (qe_ix (K:=K) (vi xZ) A4)) (qa_c (vi vaZ) A3)))))) (A7 rD) G8)
   (A7 (Z2 C4 (vi sI) (vi va2) (aiE M_JOBS (rC m_JOBS) (qe_ix (K:=K) (vi xZ) A4))))))))
   (A8 (qs_if (e8 (K:=K) (D0 G_has_rule (hm hr) (qa_c (vi xY) (qa_c K0 A3)))) (A7 (Z2 C4 (vi sI) K0 K0)) G8)
   (A7 (E3 (vi sI))))))),?_⟩
  obtain ⟨a,ts,R,g,rfl,hR,hl,M8,hnc,pN,q⟩:=h;walk_at "rd";refine ⟨a,ts,R, "figures",rfl,hR,hl,fun H1 S1=>?_⟩;generalize hasW R "figures"=fg at hnc;intro d nd;have tV:H d=none:=S1.free nd;have S2:Same H (A0 H1 d (.dK [])):=fun b o h=>D9 (S1 b o h) nd
  refine ⟨⟨_,.of (S2 _ _ hR.top)⟩,forL (xs:=ts.map V.ref) (fun i σ H2=>∃ (u v:Option V),σ=[some (.ref a),some (.bl fg),some (.ref d),u,v]/\Same H H2/\H2 d=some (.dK (C1 (keysP (C8 (R.take i))) fun t=>.str (g t))))
   ⟨none,none,rfl,S2,by rw [A5];rfl⟩ (by rintro i σ H2 _ ⟨_,_,_,S,_⟩;exact .of (S _ _ hR.top)) ?_ ?_⟩
  ·rintro i x σ H2 hx ⟨u,v,rfl,S,hd⟩;obtain ⟨t,ht,rfl⟩:=G5 hx;obtain ⟨z,hz,D7⟩:=Paired.at hR.row ht;walk_at "rd";refine ⟨t,z,rfl,S _ _ D7,fun p H3 S3 hp=>⟨p,rfl,⟨_,hp⟩,forT (xs:=(M7 z).map V.str) (fun j σ H4=>∃ (v:Option V),σ=[some (.ref a),some (.bl fg),some (.ref d),some (.ref t),v]/\C7 K H4 p ((M7 z).map V.str)/\Same H H4/\H4 d=some (.dK (C1 (keysP (C8 (R.take i)++((M7 z).take j).map fun p=>(p,jobD z.1))) fun t=>.str (g t))))
    ⟨v,rfl,hp,S.trans S3,by rw [b8,List.map_nil,L1];exact S3 _ _ hd⟩ (by rintro j σ H4 _ ⟨_,_,h,_⟩;exact h) ?_ ?_⟩⟩
   ·rintro j x σ H4 lC ⟨v,rfl,eM,S4,Y7⟩;obtain ⟨pc,lD,rfl⟩:=G5 lC;obtain ⟨e1,e2⟩:=arw hz lD;obtain ⟨n1,n2,n3,n4⟩:=hnc _ _ _ e1;rw [e2] at n2;have hw:=fX (M9 lD);have X2:C7 K H4 t ((z.1::z.2).map V.str):=.of (S4 _ _ D7);have W1:(keysP (C8 (R.take i)++((M7 z).take j).map fun p=>(p,jobD z.1))).length<=10000:=by
     have h1:=wE (C8 (R.take i)++((M7 z).take j).map fun p=>(p,jobD z.1));have h2:=congrArg i3 e2;rw [E7] at h2;lia
    walk_at "rd";refine ⟨_,.inr X2,V.str z.1,U4 _ _,Sum.inr z.1,rfl,V.str (jobD z.1),wG hw,d,pc,jobD z.1,fg,_,g,rfl,Y7,n4,fun hk=>⟨n1.symm,n2 ((jN _ _).mp hk)⟩,n3,fun H5 S5=>⟨false,rfl,iteF ⟨_,.inr (X2.same S5),V.str z.1,U4 _ _,Sum.inr z.1,rfl,V.str (jobD z.1),wG hw,_,bD (k:=Sum.inr pc) (S5 _ _ Y7) (by rw [i9];exact G7 (by lia)),(eM.same S5).dput (S5 _ _ Y7),(S4.trans S5).put tV,?_⟩⟩⟩;rw [A5,K7 lD,D8,<- O3];rw [show ([pc].map fun p=>(p,jobD z.1))=[(pc,jobD z.1)] from rfl,ajv];unfold dd
    by_cases K2:pc∈keysP (C8 (R.take i)++((M7 z).take j).map fun p=>(p,jobD z.1))
    ·rw [if_pos K2,mP _ K2];refine congrArg (fun x=>some (HO.dK x)) (V4 fun t _=>?_)
     by_cases e:t=pc
     ·rw [if_pos e,e,n1]
     ·rw [if_neg e]
    ·rw [if_neg K2,dH _ K2];refine congrArg (fun x=>some (HO.dK x)) (V4 fun t _=>?_)
     by_cases e:t=pc
     ·rw [if_pos e,e,n1]
     ·rw [if_neg e]
   ·rintro σ H4 ⟨v,rfl,eM,S4,Y7⟩;walk_at "rd";refine ⟨S4,?_⟩;rw [afJ hz];rw [A6,G4] at Y7;exact Y7
  ·rintro σ H2 ⟨u,v,rfl,S,hd⟩;rw [A6,hR.len,G4] at hd;walk_at "rd";refine ⟨a,ts,R, "blanks",rfl,hR.same S,hl,fun H3 S3=>⟨hasW R "blanks",rfl,?_⟩⟩;have Z8:=S3 _ _ hd;have hkn:(" " : Str)∉keysP (C8 R):=fun h=>pN ((jN _ _).mp h)
   have W1:=wE (C8 R);have hg:∀ t∈keysP (C8 R),V.str (g t)=jobG g t:=fun t ht=>by
    unfold jobG;rw [if_neg (fun e=>hkn (by rw [<- e];exact ht))]
   by_cases hb:hasW R "blanks"=true
   ·rw [hb];refine iteT ⟨_,bD (k:=Sum.inr (" " : Str)) Z8 (by rw [i9];exact G7 (by lia)),q d _ tV ((S.trans S3).put tV) ?_⟩;rw [A5,dH _ hkn];unfold W4;rw [if_pos hb];refine congrArg (fun x=>some (HO.dK x)) (V4 fun t ht=>?_);unfold jobG
    by_cases e:t=(" " : Str)
    ·simp only [if_pos e]
    ·simp only [if_neg e]
   ·rw [lY] at hb;rw [hb];refine iteF (q d _ tV (S.trans S3) ?_);unfold W4;rw [hb,if_neg N2,L1,Z8];exact congrArg (fun x=>some (HO.dK x)) (V4 hg)
theorem sc_misused:FnScope ["rule", "jobs", "first"] ["rule", "jobs"] (C3 bL):=G0
abbrev ahu:List Str:=["rule", "jobs", "first"]
theorem nS:VS ahu bL "rule" 0:=vq
theorem va8:VS ahu bL "first" 2:=vq
theorem va9:LS bL "first":=lq
theorem ajQ(F:FunD K "misused" "misused" bL f fd)(T:Txt P w K mg C):FnOk P w K mg base E8 1 f fd ["rule", "jobs"] (anp K):=by
 refine F.ok sc_misused ?_ ?_
 ·rintro _ _ _ _ ⟨t,d,z,ks,g,rfl,_⟩;rfl
 ·intro cdv A outer s H vs Q E hr h;have C4:=hu_of hr;have hu:=hr.units;refine ⟨_,QSs.out (A8 (qs_if (F6 (q_eq (K:=K) hu) (qe_ix (K:=K) (vi nS) A4) K0) (A7 (E3 (Y3  (Q5:CompOk ["rule", "jobs", "first"] (C3 bL).names _ ["piece", "jobs"] 1 [1]) (dE (K:=K) (N7 (K:=K) (vi nS) (L6 A4) (L6 A4))) (fun _ _ _ _ _=>D1 (n:=0) (show List.Nodup (["piece", "jobs"]:List Str) by decide +kernel) rfl (Or.inl rfl)) (fun _ _ _ _ _=>(dF (F6 (q_ne (K:=K) hu) (rK C4 (qv 1) (qv 0)) K0))) (fun _ _ _ _ _=>(qv 0))))) G8)
   (A8 (qs_if (F6 (q_eq (K:=K) hu) (qe_ix (K:=K) (vi nS) A4) K0) (A8 (dG (n:=2) sc_misused.nd rfl va9 (Q5:CompOk ["rule", "jobs", "first"] (C3 bL).names _ ["piece", "jobs"] 1 [1]) (dE (K:=K) (N7 (K:=K) (vi nS) (L6 A4) (L6 A4))) (fun _ _ _ _ _=>D1 (n:=0) (show List.Nodup (["piece", "jobs"]:List Str) by decide +kernel) rfl (Or.inl rfl)) (fun _ _ _ _ _=>(dF (F6 (q_ne (K:=K) hu) (rK C4 (qv 1) (qv 0)) K0))) (fun _ _ _ _ _=>(qv 0)))
   (A7 (E3 (qe_op (q_add (K:=K)) (vi va8) (Y3  (Q5:CompOk ["rule", "jobs", "first"] (C3 bL).names _ ["piece", "jobs"] 1 [1]) (dE (K:=K) (N7 (K:=K) (vi nS) (L6 A4) P6)) (fun _ _ _ _ _=>D1 (n:=0) (show List.Nodup (["piece", "jobs"]:List Str) by decide +kernel) rfl (Or.inl rfl)) (fun _ _ _ _ _=>(dF (F6 (vP (K:=K) hu) (rK C4 (qv 1) (qv 0)) (N9 (qa_c K0 (qa_c K0 A3)))))) (fun _ _ _ _ _=>(qv 0))))))) G8)
   (A7 (E3 (L4 A3))))),?_⟩
  obtain ⟨t,d,z,ks,g,rfl,ht,hd,us,hl,q⟩:=h;have hT:C7 K H t ((z.1::z.2).map V.str):=.of ht;walk_at "rd";refine ⟨_,.inr hT,V.str z.1,U4 _ _,?_⟩;walk_at "rd"
  by_cases h1:z.1=("great" : Str)
  ·rw [decide_eq_true h1];have A9:1<=((z.1::z.2).map V.str).length:=by rw [A6,K3];lia
   refine iteT (rSlR.t hT (m7 (k:=1) (by decide) A9) fun s ns=>?_);have ecut:cutV ((z.1::z.2).map V.str) (some 1) (some 2)=(z.2.take 1).map V.str:=by
    rw [show cutV ((z.1::z.2).map V.str) (some 1) (some 2)=_ from wL ((z.1::z.2).map V.str) (i:=1) (j:=2) (by decide),K4,List.drop_succ_cons,List.drop_zero,<- k5]
   rw [ecut];have S1:Same H (A0 H s (.tup ((z.2.take 1).map V.str))):=Same.new ns;have hs:A0 H s (.tup ((z.2.take 1).map V.str)) s=some (.tup ((z.2.take 1).map V.str)):=A5;generalize A0 H s (.tup ((z.2.take 1).map V.str))=H1 at S1 hs;refine ⟨s,rfl,⟨_,.of hs⟩,compT (xs:=(z.2.take 1).map V.str) [some (.ref d)] rfl (fun D i ys H2=>ys=[]/\Same H1 H2) (fun D nD=>⟨rfl,Same.new nD⟩) (by rintro D i ys H2 nD _ ⟨_,S⟩;exact .of (S _ _ hs)) ?_ ?_⟩
   ·rintro D i y ys H2 nD hi hy ⟨rfl,S⟩ hD F7;obtain ⟨p,hp,rfl⟩:=G5 hy;obtain ⟨m1,m2⟩:=us.gr h1 p (M9 hp);have R5:=S _ _ (S1 _ _ hd);walk_at "rd";refine ⟨.inl ⟨_,.inl R5⟩,_,i8 (k:=Sum.inr p) R5,?_⟩;rw [P7,if_pos m1,Option.getD_some,m2];refine ⟨_,rfl,?_⟩;rw [show ∀ v:Str,(!decide (v=v))=false by intro v;simp];exact iteF ⟨hD,hi,G2 _,⟨_,rfl⟩,rfl,S⟩
   ·rintro D ys H2 nD ⟨rfl,S⟩ hD F7;exact q D H2 (S1.free nD) (S1.trans S) hD
  rw [decide_eq_false h1];refine iteF ⟨_,.inr hT,V.str z.1,U4 _ _,?_⟩;walk_at "rd"
  by_cases h2:z.1=("as" : Str)
  ·rw [decide_eq_true h2];have A9:1<=((z.1::z.2).map V.str).length:=by rw [A6,K3];lia
   refine iteT (rSlR.t hT (m7 (k:=2) (by decide) A9) fun s ns=>?_);have ecut:cutV ((z.1::z.2).map V.str) (some 2) (some 3)=((z.2.drop 1).take 1).map V.str:=by
    rw [show cutV ((z.1::z.2).map V.str) (some 2) (some 3)=_ from wL ((z.1::z.2).map V.str) (i:=2) (j:=3) (by decide),K4,List.drop_succ_cons,<- y9,<- k5]
   rw [ecut];have S1:Same H (A0 H s (.tup (((z.2.drop 1).take 1).map V.str))):=Same.new ns;have hs:A0 H s (.tup (((z.2.drop 1).take 1).map V.str)) s=some (.tup (((z.2.drop 1).take 1).map V.str)):=A5;generalize A0 H s (.tup (((z.2.drop 1).take 1).map V.str))=H1 at S1 hs;refine ⟨s,rfl,⟨_,.of hs⟩,compT (xs:=((z.2.drop 1).take 1).map V.str) [some (.ref d)] rfl (fun D i ys H2=>ys=[]/\Same H1 H2) (fun D nD=>⟨rfl,Same.new nD⟩) (by rintro D i ys H2 nD _ ⟨_,S⟩;exact .of (S _ _ hs)) ?_ ?_⟩
   ·rintro D i y ys H2 nD hi hy ⟨rfl,S⟩ hD F7;obtain ⟨p,hp,rfl⟩:=G5 hy;obtain ⟨m1,m2⟩:=us.a1 h2 p (M9 hp);have R5:=S _ _ (S1 _ _ hd);walk_at "rd";refine ⟨.inl ⟨_,.inl R5⟩,_,i8 (k:=Sum.inr p) R5,?_⟩;rw [P7,if_pos m1,Option.getD_some,m2];refine ⟨_,rfl,?_⟩;rw [show ∀ v:Str,(!decide (v=v))=false by intro v;simp];exact iteF ⟨hD,hi,G2 _,⟨_,rfl⟩,rfl,S⟩
   rintro D ys H2 nD ⟨rfl,S⟩ hD F7;have S2:=S1.trans S;have hT2:C7 K H2 t ((z.1::z.2).map V.str):=.of (S2 _ _ ht);refine rSlR.t hT2 (m7 (k:=3) (by decide) A9) fun s2 eP=>?_
   have ecut2:cutV ((z.1::z.2).map V.str) (some 3) none=(z.2.drop 2).map V.str:=by
    rw [show cutV ((z.1::z.2).map V.str) (some 3) none=_ from m5 ((z.1::z.2).map V.str) 3,K4,List.drop_succ_cons,<- y9]
   rw [ecut2];have S3:Same H2 (A0 H2 s2 (.tup ((z.2.drop 2).map V.str))):=Same.new eP;have v8:A0 H2 s2 (.tup ((z.2.drop 2).map V.str)) s2=some (.tup ((z.2.drop 2).map V.str)):=A5;generalize A0 H2 s2 (.tup ((z.2.drop 2).map V.str))=H3 at S3 v8;refine ⟨s2,rfl,⟨_,.of v8⟩,compT (xs:=(z.2.drop 2).map V.str) [some (.ref d)] rfl (fun D i ys H4=>ys=[]/\Same H3 H4) (fun D nD=>⟨rfl,Same.new nD⟩) (by rintro D i ys H4 nD _ ⟨_,S⟩;exact .of (S _ _ v8)) ?_ ?_⟩
   ·rintro D2 i y ys H4 nD2 hi hy ⟨rfl,S4⟩ hD2 hyl2;obtain ⟨p,hp,rfl⟩:=G5 hy;obtain ⟨m1,m2⟩:=us.a2 h2 p (M9 hp);have Y7:=S4 _ _ (S3 _ _ (S2 _ _ hd));walk_at "rd";refine ⟨.inl ⟨_,.inl Y7⟩,_,i8 (k:=Sum.inr p) Y7,?_⟩;rw [P7,if_pos m1,Option.getD_some];refine ⟨by decide,fun v nv=>?_⟩;have fin:dB (g p) [V.str (Str.ofString "letter"),V.str (Str.ofString "mark")]=true/\flatV (g p)=true:=by
     rcases m2 with m2 | m2 <;> rw [m2] <;> exact ⟨by decide +kernel,rfl⟩
    refine rInR.l (.inr (.of A5)) fin.2 rfl ?_;rw [fin.1,Bool.true_xor];exact ⟨_,rfl,iteF ⟨D9 hD2 nv,hi,G2 _,⟨_,rfl⟩,rfl,S4.trans (Same.new nv)⟩⟩
   rintro D2 ys H4 nD2 ⟨rfl,S4⟩ hD2 hyl2;have hD4:=S4 _ _ (S3 _ _ hD);refine rAddR.l hD4 hD2 (by decide) fun l nl=>?_
   exact q l _ ((S2.trans (S3.trans S4)).free nl) ((S2.trans (S3.trans S4)).trans (Same.new nl)) A5
  rw [decide_eq_false h2];exact iteF fun p np=>q p _ np (Same.new np) A5
theorem sc_check_letters:FnScope ["rules", "jobs", "rule", "wrong"] ["rules", "jobs"] (C3 bM):=G0
abbrev sJ:List Str:=["rules", "jobs", "rule", "wrong"]
theorem vba:VS sJ bM "rules" 0:=vq
theorem vbb:VS sJ bM "jobs" 1:=vq
theorem vbc:VS sJ bM "rule" 2:=vq
theorem vbd:VS sJ bM "wrong" 3:=vq
theorem vbe:LS bM "rule":=lq
theorem vbf:LS bM "wrong":=lq
theorem aep(F:FunD K "check_letters" "check_letters" bM f fd)(T:Txt P w K mg C)(G_misused:FO P w K mg base 1 "misused" ["rule", "jobs"] [] (anp K)):FnOk P w K mg base E8 2 f fd ["rules", "jobs"] (aiP K):=by
 refine F.ok sc_check_letters ?_ ?_
 ·rintro _ _ _ _ ⟨a,d,ts,R,ks,g,rfl,_⟩;rfl
 ·intro cdv A outer s H vs Q E hr h;have C4:=hu_of hr;have hu:=hr.units;refine ⟨_,QSs.out (A7 (L7 PassesOwn.never (O2 (K:=K) (vi vba)) (D1 (n:=2) sc_check_letters.nd rfl vbe (.inl rfl)) (A8 (D6 (n:=3) sc_check_letters.nd rfl vbf (D0 G_misused (hm hr) (qa_c (vi vbc) (qa_c (vi vbb) A3))))
   (A7 (qs_if (e8 (K:=K) (vi vbd)) (A7 rD) G8))))),?_⟩
  obtain ⟨a,d,ts,R,ks,g,rfl,hR,hd,hw,q⟩:=h;walk_at "rd";refine ⟨⟨_,.of hR.top⟩,forL (xs:=ts.map V.ref) (fun i σ H2=>∃ (u v:Option V),σ=[some (.ref a),some (.ref d),u,v]/\Same H H2) ⟨none,none,rfl,aD H⟩ (by rintro i σ H2 _ ⟨_,_,_,S⟩;exact .of (S _ _ hR.top)) ?_ ?_⟩
  ·rintro i x σ H2 hx ⟨u,v,rfl,S⟩;obtain ⟨t,ht,rfl⟩:=G5 hx;obtain ⟨z,hz,D7⟩:=Paired.at hR.row ht;obtain ⟨n1,n2⟩:=hw z (M9 hz);walk_at "rd";refine ⟨t,d,z,ks,g,rfl,S _ _ D7,S _ _ hd,n1,n2,fun p H3 np S3 hp=>⟨_,vS hp,iteF (S.trans S3)⟩⟩
  ·rintro σ H2 ⟨u,v,rfl,S⟩;exact q H2 S
theorem ajR:FnScope ["rules", "word"] ["rules", "word"] (C3 nF):=G0
abbrev alG:List Str:=["rules", "word"]
theorem vbg:VS alG nF "rules" 0:=vq
theorem ajS(F:FunD K "line_of" "line_of" nF f fd)(T:Txt P w K mg C)(G_lined_up:FO P w K mg base 3 "lined_up" ["rows"] [] akP):FnOk P w K mg base E8 4 f fd ["rules", "word"] (anm K):=by
 refine F.ok ajR ?_ ?_
 ·rintro _ _ _ _ ⟨a,ts,R,w,rank,rfl,_⟩;rfl
 ·intro cdv A outer s H vs Q E hr h;have C4:=hu_of hr;have hu:=hr.units;refine ⟨_,QSs.out (A7 (E3 (D0 G_lined_up (hm hr) (qa_c (Y3  (Q5:CompOk ["rules", "word"] (C3 nF).names _ ["rule", "word"] 1 [1]) (O2 (K:=K) (vi vbg)) (fun _ _ _ _ _=>D1 (n:=0) (show List.Nodup (["rule", "word"]:List Str) by decide +kernel) rfl (Or.inl rfl)) (fun _ _ _ _ _=>(dF (F6 (q_eq (K:=K) hu) (qe_ix (K:=K) (qv 0) A4) (qv 1)))) (fun _ _ _ _ _=>(qe_cT (t9 (K:=K) (calm:=true)) T.b_list t8 (qa_c (N7 (K:=K) (qv 0) (L6 A4) P6) A3)))) A3)))),?_⟩;obtain ⟨a,ts,R,w,rank,rfl,hR,hl,Z6,x5,q⟩:=h;walk_at "rd";refine ⟨⟨_,.of hR.top⟩,compL (xs:=ts.map V.ref) [some (.str w)] rfl (fun D i ys H4=>∃ qs:List Addr,ys=qs.map V.ref/\RowsAt H H4 D qs (rowsW (R.take i) w)) (fun D nD=>⟨[],rfl,⟨⟨A5,.nil⟩,by simp,fun r hr=>by rw [E6.mp hr];exact nD,Same.new nD⟩⟩)
   (by rintro D i ys H4 nD _ ⟨qs,_,RA⟩;exact .of (RA.same _ _ hR.top)) ?_ ?_⟩
  ·rintro D i x ys H4 nD hi hx ⟨qs,rfl,RA⟩ hD hy;obtain ⟨t,ht,rfl⟩:=G5 hx;obtain ⟨z,hz,D7⟩:=Paired.at hR.row ht;have o9:i<R.length:=(G1.mp hz).1;have X2:C7 K H4 t ((z.1::z.2).map V.str):=.of (RA.same _ _ D7);have A9:1<=((z.1::z.2).map V.str).length:=by rw [A6,K3];lia
   walk_at "rd";refine ⟨_,.inr X2,V.str z.1,U4 _ _,?_⟩;walk_at "rd";refine iteD (fun e=>rSlR.t X2 (m7 (k:=1) (by decide) A9) fun p np=>?_) fun e=>⟨hD,mK hi hy ⟨qs,rfl,?_⟩⟩
   ·rw [K4,vT];walk_at "rd";refine rListR.l (.inr (.of A5)) fun p2 x8=>⟨D9 (D9 hD np) x8,?_,CW.put hi hy ⟨qs++[p2],by rw [D8];rfl,?_⟩⟩
    ·rw [A6] at hy;rw [A6];exact G7 (by lia)
    ·rw [wF hz,if_pos e];have n2:H4 p2=none:=(Same.new np).free x8;exact RA.grow (fun b o h=>D9 (D9 h np) x8) n2 A5
   ·rw [wF hz,if_neg e];exact RA
  rintro D ys H4 nD ⟨qs,rfl,RA⟩ hD hy;rw [A6,hR.len,G4] at RA;refine ⟨D,qs,rowsW R w,rank,rfl,RA.rows,Z6,x5,fun l line H5 nl S5 cH run cov=>?_⟩;exact q l line H5 (RA.same.free nl) (RA.same.trans S5) cH run cov
theorem sc_forms_of:FnScope ["rules", "forms", "rule"] ["rules"] (C3 dO):=G0
abbrev yA:List Str:=["rules", "forms", "rule"]
theorem vbh:VS yA dO "rules" 0:=vq
theorem vbi:VS yA dO "forms" 1:=vq
theorem yB:VS yA dO "rule" 2:=vq
theorem vbk:LS dO "forms":=lq
theorem vbl:LS dO "rule":=lq
theorem aih(F:FunD K "forms_of" "forms_of" dO f fd)(T:Txt P w K mg C):FnOk P w K mg base E8 1 f fd ["rules"] (aiO K):=by
 refine F.ok sc_forms_of ?_ ?_
 ·rintro _ _ _ _ ⟨a,ts,R,rfl,_⟩;rfl
 ·intro cdv A outer s H vs Q E hr h;have C4:=hu_of hr;have hu:=hr.units;refine ⟨_,QSs.out (A8 (D6 (n:=1) sc_forms_of.nd rfl vbk fT)
   (A8 (L7 PassesOwn.never (O2 (K:=K) (vi vbh)) (D1 (n:=2) sc_forms_of.nd rfl vbl (.inl rfl)) (A7 (qs_if (F6 (q_eq (K:=K) hu) (qe_ix (K:=K) (vi yB) A4) K0) (A7 (O4 (qe_mB (K:=K) Q1 qI qH (akV (K:=K)) (amC (vi vbi) (qe_ix (K:=K) (vi yB) A4) (L4 A3)) (qa_c (N7 (K:=K) (vi yB) (L6 A4) P6) A3)))) G8)))
   (A7 (E3 (vi vbi))))),?_⟩
  obtain ⟨a,ts,R,rfl,hR,hg,hl,hf,q⟩:=h;walk_at "rd";intro d nd;refine ⟨⟨_,.of (D9 hR.top nd)⟩,forL (xs:=ts.map V.ref) (fun i σ H2=>∃ (u:Option V) (ad:Str->Addr),σ=[some (.ref a),some (.ref d),u]/\Same H H2/\H2 d=some (.dK (C1 (F8 (R.take i)) fun y=>.ref (ad y)))/\DL (A0 H d (.dK [])) H2 (F8 (R.take i)) ad (E4 (R.take i))) ⟨none,fun _=>d,rfl,Same.new nd,A5,⟨by simp [F8,M0,G3],by simp [F8,M0,G3],by simp [F8,M0,G3]⟩⟩ (by rintro i σ H2 _ ⟨_,_,_,S,_⟩;exact .of (S _ _ hR.top)) ?_ ?_⟩
  ·rintro i x σ H2 hx ⟨u,ad,rfl,S,hd,dl⟩;obtain ⟨t,ht,rfl⟩:=G5 hx;obtain ⟨z,hz,D7⟩:=Paired.at hR.row ht;have hT:C7 K H2 t ((z.1::z.2).map V.str):=.of (S _ _ D7);walk_at "rd";refine ⟨_,.inr hT,V.str z.1,U4 _ _,?_⟩;walk_at "rd"
   by_cases lE:z.1=("great" : Str)
   ·rw [decide_eq_true lE];refine iteT ?_;obtain ⟨w,ps⟩:=z;obtain rfl:w=("great" : Str):=lE;obtain ⟨y,fs,rfl⟩:∃ y fs,ps=y::fs:=by
     cases ps with
     | nil=>exact absurd rfl (hg _ (M9 hz) rfl)
     | cons y fs=>exact ⟨y,fs,rfl⟩
    have etk:R.take (i+1)=R.take i++[(("great" : Str),y::fs)]:=K7 hz;have Z6:(E4 (R.take i) y).length+fs.length<=10000:=by
     have:=hf (i+1) y
     rw [etk,jT,if_pos rfl,C5] at this;exact this
    have W1:(C1 (F8 (R.take i)) fun y=>V.ref (ad y)).length<=1000:=by
     rw [i9];unfold F8;have h1:=dC ((M0 (R.take i)).map (·.1)) [];have h2:(M0 (R.take i)).length<=(R.take i).length:=List.length_filterMap_le _ _;rw [A6,b0] at h1;rw [E7] at h2;lia
    have K6:J8 (((("great" : Str),y::fs).1::(("great" : Str),y::fs).2).map V.str) 1=some (V.str y):=O1 (j:=1) rfl;have j9:cutV (((("great" : Str),y::fs).1::(("great" : Str),y::fs).2).map V.str) (some 2) none=fs.map V.str:=m5 _ 2;refine ⟨.inl ⟨_,.inl hd⟩,_,.inr hT,V.str y,K6,fun p np=>⟨_,D9 hd np,iS W1 (by decide),Sum.inr y,rfl,fun v hv=>?_,fun hn=>?_⟩⟩
    ·rw [P7] at hv
     by_cases hy:y∈F8 (R.take i)
     ·rw [if_pos hy] at hv;cases hv;have eQ:=dl.row y hy;have ndy:ad y≠d:=fun e=>by have:=dl.new y hy;rw [e,A5] at this;cases this
      have nHy:H (ad y)=none:=by have:=dl.new y hy;rw [B1 ndy] at this;exact this
      have T1:Same H2 (A0 H2 p (.lst [])):=Same.new np;generalize A0 H2 p (.lst [])=H3 at T1;refine ⟨Q2 (T1 _ _ eQ),rSlR.t (hT.same T1) (m7 (k:=2) (by decide) (by simp)) fun s ns=>?_⟩;rw [j9];have T2:Same H3 (A0 H3 s (.tup (fs.map V.str))):=Same.new ns;have hs:A0 H3 s (.tup (fs.map V.str)) s=some (.tup (fs.map V.str)):=A5;generalize A0 H3 s (.tup (fs.map V.str))=H4 at T2 hs;have T:=T1.trans T2;refine ⟨ad y,s,_,_,rfl,rfl,T _ _ eQ,.of hs,by rw [A6,A6];exact P5 (by lia),(S.trans T).put nHy,ad,?_,?_⟩
      ·rw [B1 ndy.symm,T _ _ hd,etk,rP];unfold dd;rw [if_pos hy]
      ·rw [etk,rP];unfold dd;rw [if_pos hy,<- D8];refine ((dl.same T).app hy (E4 (R.take i) y++fs)).congr fun x _=>?_
       rw [jT]
       by_cases X1:x=y
       ·subst X1;simp
       ·simp [X1]
     ·rw [if_neg hy] at hv;cases hv
    ·have hy:y∉F8 (R.take i):=fun hy=>by rw [P7,if_pos hy] at hn;cases hn
     have ndp:d≠p:=fun e=>by rw [<- e,hd] at np;cases np
     have n0:A0 H d (.dK []) p=none:=by rw [B1 ndp.symm];exact S.free np
     have dl2:=dl.more hy np n0;have aP:=dl2.put (b:=d) (o:=.dK (C1 (F8 (R.take i)++[y]) fun t=>if t=y then V.ref p else V.ref (ad t))) (u:=.dK []) A5;rw [dH (V.ref p) hy];have Q8:A0 (A0 H2 p (.lst [])) d (.dK (C1 (F8 (R.take i)++[y]) fun t=>if t=y then V.ref p else V.ref (ad t))) p=some (.lst []):=by rw [B1 ndp.symm,A5]
     have Z8:A0 (A0 H2 p (.lst [])) d (.dK (C1 (F8 (R.take i)++[y]) fun t=>if t=y then V.ref p else V.ref (ad t))) d=some (.dK (C1 (F8 (R.take i)++[y]) fun t=>if t=y then V.ref p else V.ref (ad t))):=A5;have S3:Same H (A0 (A0 H2 p (.lst [])) d (.dK (C1 (F8 (R.take i)++[y]) fun t=>if t=y then V.ref p else V.ref (ad t)))):=(S.trans (Same.new np)).put nd;generalize A0 (A0 H2 p (.lst [])) d (.dK (C1 (F8 (R.take i)++[y]) fun t=>if t=y then V.ref p else V.ref (ad t)))=H3 at aP Q8 Z8 S3;have hT3:C7 K H3 t (((("great" : Str),y::fs).1::(("great" : Str),y::fs).2).map V.str):=.of (S3 _ _ D7);refine ⟨Q2 Q8,rSlR.t hT3 (m7 (k:=2) (by decide) (by simp)) fun s ns=>?_⟩;rw [j9];have T2:Same H3 (A0 H3 s (.tup (fs.map V.str))):=Same.new ns;have hs:A0 H3 s (.tup (fs.map V.str)) s=some (.tup (fs.map V.str)):=A5;generalize A0 H3 s (.tup (fs.map V.str))=H4 at T2 hs;refine ⟨p,s,_,_,rfl,rfl,T2 _ _ Q8,.of hs,by rw [A6];exact P5 (by simp;lia),(S3.trans T2).put (S.free np),fun t=>if t=y then p else ad t,?_,?_⟩
     ·rw [B1 ndp,T2 _ _ Z8,etk,rP];unfold dd;rw [if_neg hy];refine congrArg (fun z=>some (HO.dK z)) (V4 fun x _=>?_);show (if x=y then V.ref p else V.ref (ad x))=V.ref (if x=y then p else ad x)
      by_cases X1:x=y
      ·rw [if_pos X1,if_pos X1]
      ·rw [if_neg X1,if_neg X1]
     ·rw [etk,rP];unfold dd;rw [if_neg hy,List.nil_append]
      have:=((aP.same T2).app (z:=y) (by simp) fs).congr (G:=E4 (R.take i++[(("great" : Str),y::fs)])) fun x _=>by
       rw [jT]
       by_cases X1:x=y
       ·subst X1;have e0:E4 (R.take i) x=[]:=by
         unfold E4;rw [lL.mpr fun e he=>?_]
         ·rfl
         ·intro h;have h:e.1=x:=by simpa using h
          refine hy ?_;unfold F8;rw [j0];exact .inr (D3.mpr ⟨e,he,h⟩)
        simp [e0]
       ·simp [X1]
      rw [if_pos rfl] at this;exact this
   ·rw [decide_eq_false lE];refine iteF ⟨S,ad,?_,?_⟩
    ·rw [show F8 (R.take (i+1))=F8 (R.take i) by unfold F8;rw [rN hz,jS lE,L1]];exact hd
    ·rw [show F8 (R.take (i+1))=F8 (R.take i) by unfold F8;rw [rN hz,jS lE,L1]];refine dl.congr fun x _=>?_
     unfold E4;rw [rN hz,jS lE,L1]
  ·rintro σ H2 ⟨u,ad,rfl,S,hd,dl⟩;walk_at "rd";rw [A6,hR.len,G4] at hd dl;exact q d ad H2 nd S hd (dl.old (Same.new nd))
theorem sc_steps_of:FnScope ["rules", "letters", "marks", "steps", "place", "letter", "mark", "forms", "case", "form", "rule"] ["rules", "letters", "marks"] (C3 R3):=G0
abbrev u9:List Str:=["rules", "letters", "marks", "steps", "place", "letter", "mark", "forms", "case", "form", "rule"]
theorem vbm:VS u9 R3 "rules" 0:=vq
theorem vbn:VS u9 R3 "letters" 1:=vq
theorem vbo:VS u9 R3 "marks" 2:=vq
theorem kI:VS u9 R3 "steps" 3:=vq
theorem vbq:VS u9 R3 "place" 4:=vq
theorem yC:VS u9 R3 "letter" 5:=vq
theorem vbs:VS u9 R3 "mark" 6:=vq
theorem vbt:VS u9 R3 "forms" 7:=vq
theorem vbu:VS u9 R3 "case" 8:=vq
theorem vbv:VS u9 R3 "form" 9:=vq
theorem yD:VS u9 R3 "rule" 10:=vq
theorem vbx:LS R3 "steps":=lq
theorem vby:LS R3 "place":=lq
theorem vbz:LS R3 "letter":=lq
theorem vbA:LS R3 "mark":=lq
theorem vbB:LS R3 "forms":=lq
theorem vbC:LS R3 "case":=lq
theorem vbD:LS R3 "form":=lq
theorem vbE:LS R3 "rule":=lq
theorem aii(F:FunD K "steps_of" "steps_of" R3 f fd)(T:Txt P w K mg C)(G_forms_of:FO P w K mg base 1 "forms_of" ["rules"] [] (aiO K)):FnOk P w K mg base E8 2 f fd ["rules", "letters", "marks"] (aiQ K):=by
 refine F.ok sc_steps_of ?_ ?_
 ·rintro _ _ _ _ ⟨a,b,c,ts,R,L,M,F,rfl,_⟩;rfl
 ·intro cdv A outer s H vs Q E hr h;have C4:=hu_of hr;have hu:=hr.units;refine ⟨_,QSs.out (A8 (D6 (n:=3) sc_steps_of.nd rfl vbx fT)
   (A8 (L7 PassesOwn.never (mR T.b_enumerate (qa_c (vi vbn) A3)) (bH (K:=K) (n:=2) (T5 ((D1 (n:=4) sc_steps_of.nd rfl vby (.inl rfl))) (T5 ((D1 (n:=5) sc_steps_of.nd rfl vbz (.inl rfl))) bG))) (A7 (Z2 C4 (vi kI) (vi yC) (N9 (qa_c (N9 (qa_c (dD T.g_LETTER) (qa_c (vi vbq) (qa_c A4 A3)))) A3)))))
   (A8 (L7 PassesOwn.never (mR T.b_enumerate (qa_c (vi vbo) A3)) (bH (K:=K) (n:=2) (T5 ((D1 (n:=4) sc_steps_of.nd rfl vby (.inl rfl))) (T5 ((D1 (n:=6) sc_steps_of.nd rfl vbA (.inl rfl))) bG))) (A7 (Z2 C4 (vi kI) (vi vbs) (N9 (qa_c (N9 (qa_c (dD T.g_MARK) (qa_c (vi vbq) (qa_c A4 A3)))) A3)))))
   (A8 (D6 (n:=7) sc_steps_of.nd rfl vbB (D0 G_forms_of (hm hr) (qa_c (vi vbm) A3)))
   (A8 (vW PassesOwn.never (vi vbt) (D1 (n:=5) sc_steps_of.nd rfl vbz (.inl rfl)) (A7 (L7 PassesOwn.never (amO T.b_enumerate (qa_c (c9 C4 (vi vbt) (vi yC)) A3)) (bH (K:=K) (n:=2) (T5 ((D1 (n:=8) sc_steps_of.nd rfl vbC (.inl rfl))) (T5 ((D1 (n:=9) sc_steps_of.nd rfl vbD (.inl rfl))) bG))) (A7 (Z2 C4 (vi kI) (vi vbv) (N9 (qa_c (N9 (qa_c (dD T.g_LETTER) (qa_c (qe_ix (K:=K) (qe_ix (K:=K) (c9 C4 (vi kI) (vi yC)) A4) A4) (qa_c (vi vbu) A3)))) A3)))))))
   (A8 (L7 PassesOwn.never (O2 (K:=K) (vi vbm)) (D1 (n:=10) sc_steps_of.nd rfl vbE (.inl rfl)) (A7 (qs_if (F6 (q_eq (K:=K) hu) (qe_ix (K:=K) (vi yD) A4) K0) (A7 (Z2 C4 (vi kI) (qe_ix (K:=K) (vi yD) A4) (qe_cT (mO (K:=K)) T.b_tuple mI (qa_c (Y3  (Q5:CompOk ["rules", "letters", "marks", "steps", "place", "letter", "mark", "forms", "case", "form", "rule"] (C3 R3).names _ ["part", "steps"] 1 [3]) (dE (K:=K) (N7 (K:=K) (vi yD) (L6 A4) P6)) (fun _ _ _ _ _=>D1 (n:=0) (show List.Nodup (["part", "steps"]:List Str) by decide +kernel) rfl (Or.inl rfl)) (fun _ _ _ _ _=>W3) (fun _ _ _ _ _=>(qe_ix (K:=K) (c9 C4 (qv 1) (qv 0)) A4))) A3)))) G8)))
   (A7 (E3 (vi kI))))))))),?_⟩
  obtain ⟨a,b,c,ts,R,L,M,F,rfl,hR,md,hb,hc,P1,hRl,Z6,eR,q⟩:=h;have A9:L.length+M.length+((F8 R).flatMap (E4 R)).length+(asKs R).length<=50000:=by
   unfold allKs at eR;simp only [C5] at eR;exact eR
  walk_at "rd";intro d nd;have ndR:∀ {x:Addr} {o:HO},H x=some o->x≠d:=fun h e=>by rw [e,nd] at h;cases h
  refine ⟨⟨_,D9 hb nd⟩,forE (xs:=L.map V.str) (fun i σ H2=>∃ (u v w x y z r:Option V),σ=[some (.ref a),some (.ref b),some (.ref c),some (.ref d),u,v,w,x,y,z,r]/\StI H H2 d (L.take i) F)
   ⟨none,none,none,none,none,none,none,rfl,Same.new nd,fun _=>d,A5,by simp [G3]⟩ (by rintro i σ H2 ⟨_,_,_,_,_,_,_,_,S⟩;exact S.same _ _ hb) ?_ ?_⟩
  ·rintro i x t σ H2 hx ⟨u,v,w,x',y,z,r,rfl,S⟩ nt;obtain ⟨l,hl,rfl⟩:=G5 hx;have hi:i<L.length:=(G1.mp hl).1;walk_at "rd";refine ⟨_,.of A5,rfl,_,_,rfl,_,_,rfl,rfl,by decide,fun p np=>⟨by decide,fun p1 N1=>?_⟩⟩;rw [K7 hl];exact StI.put nd (((S.more (Same.new nt)).more (Same.new np)).more (Same.new N1)) (by rw [E7];lia) (by
    rw [md.lt i l hl];exact StepAt.one A5 (D9 A5 N1))
  rintro σ H2 ⟨u,v,w,x',y,z,r,rfl,S⟩;rw [A6,G4] at S;walk_at "rd";refine ⟨⟨_,S.same _ _ hc⟩,forE (xs:=M.map V.str) (fun i σ H2=>∃ (u v w x y z r:Option V),σ=[some (.ref a),some (.ref b),some (.ref c),some (.ref d),u,v,w,x,y,z,r]/\StI H H2 d (L++M.take i) F)
   ⟨u,v,w,x',y,z,r,rfl,by rw [b8,L1];exact S⟩ (by rintro i σ H2 ⟨_,_,_,_,_,_,_,_,S⟩;exact S.same _ _ hc) ?_ ?_⟩
  ·clear S;rintro i x t σ H2 hx ⟨u,v,w,x',y,z,r,rfl,S⟩ nt;obtain ⟨l,hl,rfl⟩:=G5 hx;have hi:i<M.length:=(G1.mp hl).1;walk_at "rd";refine ⟨_,.of A5,rfl,_,_,rfl,_,_,rfl,rfl,by decide,fun p np=>⟨by decide,fun p1 N1=>?_⟩⟩;rw [K7 hl,<- O3];exact StI.put nd (((S.more (Same.new nt)).more (Same.new np)).more (Same.new N1)) (by rw [C5,E7];lia) (by
    rw [md.mr i l hl];exact StepAt.one A5 (D9 A5 N1))
  clear S H2 u v w x' y z r;rintro σ H2 ⟨u,v,w,x',y,z,r,rfl,S⟩;rw [A6,G4] at S;walk_at "rd";refine ⟨a,ts,R,rfl,hR.same S.same,fun z hz e=>md.ne z hz (.inr e),hRl,Z6,fun fd af H3 nfd S3 tW dl=>?_⟩;have nf0:H fd=none:=S.same.free nfd;have nf1:fd≠d:=fun e=>by
   obtain ⟨ad,h1,_⟩:=S.made;rw [<- e,nfd] at h1;cases h1
  have S':=S.more S3;have D7:=dl.row;clear S S3 dl nfd H2;refine ⟨fd,rfl,_,tW,fun o=>forD (fun i σ H4=>∃ (u v w y z r:Option V),σ=[some (.ref a),some (.ref b),some (.ref c),some (.ref d),u,v,w,some (.ref fd),y,z,r]/\FoI H H4 d fd o (F8 R) af (E4 R) (L++M++((F8 R).take i).flatMap (E4 R)) F)
   ⟨u,v,w,y,z,r,rfl,⟨A5,fun y hy=>by rw [B1 (fun e=>by have:=D7 y hy;rw [e,tW] at this;cases this)];exact D7 y hy,by rw [b8,iQ,L1];exact S'.frz tW nf0 nf1⟩⟩ (by rintro i σ H4 ⟨_,_,_,_,_,_,_,h⟩;exact h.frz) ?_ ?_⟩
  ·rintro i k v' σ H4 hk ⟨u,v,w,y,z,r,rfl,J⟩;obtain ⟨l,hl,e⟩:=G5 (f:=fun t=>((Sum.inr t:C6),V.ref (af t))) hk;obtain ⟨rfl,rfl⟩:=Prod.mk.inj e;have iE:l∈F8 R:=M9 hl;have hlL:=md.gl l iE;have hfl2:(((F8 R).take i).flatMap (E4 R)).length+(E4 R l).length<=((F8 R).flatMap (E4 R)).length:=by
    have e:(F8 R).flatMap (E4 R)=((F8 R).take i).flatMap (E4 R)++E4 R l++((F8 R).drop (i+1)).flatMap (E4 R):=by
     have:=T9 (i+1) (F8 R)
     rw [K7 hl] at this;rw [<- this,X4,X4,U1,iQ,L1];rw [this]
    rw [e,C5,C5];lia
   walk_at "rd";refine ⟨V.ref (af l),.inl ⟨_,Sum.inr l,.inr ⟨o,J.frz⟩,rfl,by rw [P7,if_pos iE]⟩,af l,rfl,⟨_,J.rows l iE⟩,forE1 (xs:=(E4 R l).map V.str) (fun j σ H5=>∃ (y z r:Option V),σ=[some (.ref a),some (.ref b),some (.ref c),some (.ref d),u,some (kV (Sum.inr l)),w,some (.ref fd),y,z,r]/\FoI H H5 d fd o (F8 R) af (E4 R) (L++M++((F8 R).take i).flatMap (E4 R)++(E4 R l).take j) F) ⟨y,z,r,rfl,by rw [b8,L1];exact J⟩ (by rintro j σ H5 ⟨_,_,_,_,h⟩;exact h.rows l iE) ?_ ?_⟩
   ·clear J y z r;rintro j x t σ H5 hx ⟨y,z,r,rfl,J⟩ nt;obtain ⟨f,hf,rfl⟩:=G5 hx;have hj:j<(E4 R l).length:=(G1.mp hf).1;have T1:Same H5 (A0 H5 t (.tup [.int ((j+1:Nat):Int),.str f])):=Same.new nt;have ht:A0 H5 t (.tup [.int ((j+1:Nat):Int),.str f]) t=some (.tup [.int ((j+1:Nat):Int),.str f]):=A5;generalize A0 H5 t (.tup [.int ((j+1:Nat):Int),.str f])=H6 at T1 ht ⊢
    have J6:=J.more T1;obtain ⟨ad,h1,h2⟩:=J6.st.made;have K2:l∈G3 [] (L++M++((F8 R).take i).flatMap (E4 R)++(E4 R l).take j):=by
     rw [j0];exact .inr (R7 _ (R7 _ (R7 _ hlL)))
    obtain ⟨tt,e1,e2⟩:=(h2 l K2).ex;rw [md.letter hlL] at e2;obtain ⟨t0,rfl,e3⟩:∃ t0,tt=[t0]/\H6 t0=some (tupT (2,(L.idxOf l:Int),0)):=by
     cases e2 with
     | cons h t=>cases t;exact ⟨_,rfl,h⟩
    walk_at "rd";refine ⟨_,.of ht,rfl,_,_,rfl,_,_,rfl,rfl,V.ref (ad l),.inl ⟨_,Sum.inr l,.inl h1,rfl,by rw [P7,if_pos K2]⟩,?_⟩;walk_at "rd";refine ⟨_,.inr (.of e1),V.ref t0,U4 _ _,?_⟩;walk_at "rd";refine ⟨_,.inr (.of e3),V.int (L.idxOf l:Int),O1 (j:=1) rfl,by decide,fun p np=>⟨by decide,fun p1 N1=>?_⟩⟩;rw [K7 hf,<- O3];exact FoI.put nd ((J6.more (Same.new np)).more (Same.new N1)) (by simp only [C5,E7];lia) (by
     rw [md.gr l iE j f hf];exact StepAt.one A5 (D9 A5 N1))
   ·rintro σ H5 ⟨y,z,r,rfl,J⟩;rw [A6,G4] at J;refine ⟨⟨_,_,_,_,_,_,rfl⟩,?_⟩;rw [K7 hl,X4,U1,iQ,L1,<- O3];exact J
  rintro σ H4 ⟨u,v,w,y,z,r,rfl,J⟩;rw [i9,G4] at J;have S5:=J.st.thaw (o:=.dK (C1 (F8 R) fun y=>V.ref (af y))) J.frz nf0 nf1;generalize A0 H4 fd (.dK (C1 (F8 R) fun y=>V.ref (af y)))=H5 at S5 ⊢
  clear J tW D7;walk_at "rd";refine ⟨⟨_,.of (S5.same _ _ hR.top)⟩,forL (xs:=ts.map V.ref) (fun i σ H6=>∃ (r:Option V),σ=[some (.ref a),some (.ref b),some (.ref c),some (.ref d),u,v,w,some (.ref fd),y,z,r]/\StI H H6 d (L++M++(F8 R).flatMap (E4 R)++asKs (R.take i)) F) ⟨r,rfl,by rw [b8];rw [show asKs []=[] from rfl,L1];exact S5⟩ (by rintro i σ H6 _ ⟨_,_,S⟩;exact .of (S.same _ _ hR.top)) ?_ ?_⟩
  ·clear S5 r;rintro i x σ H6 hx ⟨r,rfl,S⟩;obtain ⟨t,ht,rfl⟩:=G5 hx;obtain ⟨zz,hz,D7⟩:=Paired.at hR.row ht;have g9:=M9 hz;have hT:C7 K H6 t ((zz.1::zz.2).map V.str):=.of (S.same _ _ D7);walk_at "rd";refine ⟨_,.inr hT,V.str zz.1,U4 _ _,?_⟩;walk_at "rd"
   by_cases has:zz.1=("as" : Str)
   ·rw [decide_eq_true has];refine iteT ?_;obtain ⟨w1,ps⟩:=zz;obtain rfl:w1=("as" : Str):=has;obtain ⟨p,qs,rfl⟩:∃ p qs,ps=p::qs:=by
     cases ps with
     | nil=>exact absurd rfl (md.ne _ g9 (.inl rfl))
     | cons p qs=>exact ⟨p,qs,rfl⟩
    have j9:cutV (((("as" : Str),p::qs).1::(("as" : Str),p::qs).2).map V.str) (some 2) none=qs.map V.str:=m5 _ 2;have iF:qs.length<=1000:=by have:=P1 _ g9;simp only [K3] at this;lia
    have cI:=wP (R.take i);rw [E7] at cI;refine rSlR.t hT (m7 (k:=2) (by decide) (by simp)) fun s ns=>?_
    rw [j9];have T1:Same H6 (A0 H6 s (.tup (qs.map V.str))):=Same.new ns;have hs:A0 H6 s (.tup (qs.map V.str)) s=some (.tup (qs.map V.str)):=A5;generalize A0 H6 s (.tup (qs.map V.str))=H7 at T1 hs;have S7:=S.more T1;have hT7:C7 K H7 t (((("as" : Str),p::qs).1::(("as" : Str),p::qs).2).map V.str):=C7.same T1 hT;clear hT S;refine ⟨s,rfl,⟨_,.of hs⟩,compT (xs:=qs.map V.str) [some (.ref d)] rfl (fun D j ys H8=>∃ Y8:List Addr,ys=Y8.map V.ref/\AsI H H7 H8 d (L++M++(F8 R).flatMap (E4 R)++asKs (R.take i)) F Y8 ((qs.take j).map fun q=>(F q).headD (0,0,0))) (fun D nD=>⟨[],rfl,S7.more (Same.new nD),.nil,Same.new nD⟩) (by rintro D j ys H8 nD _ ⟨_,_,h⟩;exact .of (h.sm _ _ hs)) ?_ ?_⟩
    ·rintro D j yv ys H8 nD hi hy ⟨Y8,rfl,J⟩ hD F7;obtain ⟨qq,hq,rfl⟩:=G5 hy;have pO:=md.pt _ g9 rfl qq (M9 hq);obtain ⟨st,T7⟩:=md.base pO;obtain ⟨ad,h1,h2⟩:=J.st.made;have K2:qq∈G3 [] (L++M++(F8 R).flatMap (E4 R)++asKs (R.take i)):=by
      rw [j0];refine .inr (R7 _ (R7 _ (E1.mpr pO)))
     obtain ⟨tt,e1,e2⟩:=(h2 qq K2).ex;rw [T7] at e2;obtain ⟨t0,rfl,e3⟩:∃ t0,tt=[t0]/\H8 t0=some (tupT st):=by
      cases e2 with
      | cons h t=>cases t;exact ⟨_,rfl,h⟩
     walk_at "rd";refine ⟨V.ref (ad qq),.inl ⟨_,Sum.inr qq,.inl h1,rfl,by rw [P7,if_pos K2]⟩,?_⟩;walk_at "rd";have hX:Y8.length<=1000:=by
      have:=Paired.length J.pr
      rw [A6,E7] at this;lia
     refine ⟨_,.inr (.of e1),V.ref t0,U4 _ _,hD,by rw [A6];exact G7 (by lia),CW.put hi F7 ⟨Y8++[t0],by rw [D8];rfl,?_⟩⟩;refine AsI.putL (f:=D) ⟨J.st,?_,J.sm⟩ hD (S7.same.free nD) nD;rw [K7 hq,D8];refine Paired.snoc J.pr ?_;show H8 t0=some (tupT ((F qq).headD (0,0,0)));rw [T7];exact e3
    rintro D ys H8 nD ⟨Y8,rfl,J⟩ hD F7;rw [A6,G4] at J;rw [tup_r];refine rTupR.l (.of hD) fun p1 N1=>?_
    have K6:J8 (((("as" : Str),p::qs).1::(("as" : Str),p::qs).2).map V.str) 1=some (V.str p):=O1 (j:=1) rfl;have S8:Same H8 (A0 H8 p1 (.tup (Y8.map V.ref))):=Same.new N1;refine ⟨_,.inr (C7.same (J.sm.trans S8) hT7),V.str p,K6,?_⟩;rw [rQ hz,wO,<- O3];refine StI.put nd (J.st.more S8) (by simp only [C5];lia) ?_;rw [md.as _ g9 rfl p qs rfl];exact ⟨Y8,A5,N0 J.pr fun t s e=>S8 _ _ e⟩
   ·rw [decide_eq_false has];refine iteF ?_;rw [rQ hz,wN has,L1];exact S
  rintro σ H6 ⟨r,rfl,S⟩;rw [A6,hR.len,G4] at S;walk_at "rd";exact q d H6 nd S.same S.made
theorem aei:FnScope ["self", "rules"] ["self", "rules"] (C3 dP):=G0
abbrev ac6:List Str:=["self", "rules"]
theorem bT:VS ac6 dP "self" 0:=vq
theorem gK:VS ac6 dP "rules" 1:=vq
theorem aej(F:FunD K "__init__" "Order.__init__" dP f fd)(T:Txt P w K mg C)(G_has_rule:FO P w K mg base 1 "has_rule" ["rules", "word"] [] (spHas K))(G_jobs_of:FO P w K mg base 3 "jobs_of" ["rules"] [] (anl K))(G_check_letters:FO P w K mg base 2 "check_letters" ["rules", "jobs"] [] (aiP K))(G_line_of:FO P w K mg base 4 "line_of" ["rules", "word"] [] (anm K))(G_steps_of:FO P w K mg base 2 "steps_of" ["rules", "letters", "marks"] [] (aiQ K)):FnOk P w K mg base E8 5 f fd ["self", "rules"] (wS C):=by
 refine F.ok aei ?_ ?_
 ·rintro _ _ _ _ ⟨x,dx,a,ts,R,g,r1,r2,rfl,_⟩;rfl
 ·intro cdv A outer s H vs Q E hr h;have C4:=hu_of hr;have hu:=hr.units;refine ⟨_,QSs.out (A8 (jL (K:=K) (vi bT) (D0 G_has_rule (hm hr) (qa_c (vi gK) (qa_c K0 A3))))
   (A8 (jL (K:=K) (vi bT) (D0 G_has_rule (hm hr) (qa_c (vi gK) (qa_c K0 A3))))
   (A8 (jL (K:=K) (vi bT) (D0 G_jobs_of (hm hr) (qa_c (vi gK) A3)))
   (A8 (O4 (D0 G_check_letters (hm hr) (qa_c (vi gK) (qa_c (l9 (K:=K) (vi bT)) A3))))
   (A8 (jL (K:=K) (vi bT) (D0 G_line_of (hm hr) (qa_c (vi gK) (qa_c K0 A3))))
   (A8 (jL (K:=K) (vi bT) (D0 G_line_of (hm hr) (qa_c (vi gK) (qa_c K0 A3))))
   (A7 (jL (K:=K) (vi bT) (D0 G_steps_of (hm hr) (qa_c (vi gK) (qa_c (l9 (K:=K) (vi bT)) (qa_c (l9 (K:=K) (vi bT)) A3)))))))))))),?_⟩
  obtain ⟨x,dx,a,ts,R,g,r1,r2,rfl,hx,hR,pl,q⟩:=h;have lp:∀ (f:Str) (y:V) (fs:List (Str×V)),(putF f y fs).length<=fs.length+1:=uO;walk_at "rd";refine ⟨a,ts,R, "figures",rfl,hR,pl.len,fun H1 S1=>⟨C,dx,[],S1 _ _ hx,T.cl,T.na_figures,by decide,?_⟩⟩;generalize hF1:putF (Str.ofString "figures") (V.bl (hasW R (Str.ofString "figures"))) []=F1;have l1:F1.length<=1:=by rw [<- hF1];exact lp _ _ _
  have B2:SameBut x H (A0 H1 x (.ins C dx F1)):=(Same.but S1).at;have iG:A0 H1 x (.ins C dx F1) x=some (.ins C dx F1):=A5;generalize A0 H1 x (.ins C dx F1)=H2 at B2 iG;have hR2:=hR.but B2 hx;refine ⟨a,ts,R, "behind",rfl,hR2,pl.len,fun H3 S3=>⟨C,dx,F1,S3 _ _ iG,T.cl,T.na_behind,by lia,?_⟩⟩;generalize hF2:putF (Str.ofString "behind") (V.bl (hasW R (Str.ofString "behind"))) F1=F2;have l2:F2.length<=2:=by rw [<- hF2];exact L3 (lp _ _ _) (by lia)
  have B4:SameBut x H2 (A0 H3 x (.ins C dx F2)):=(Same.but S3).at;have lC:A0 H3 x (.ins C dx F2) x=some (.ins C dx F2):=A5;generalize A0 H3 x (.ins C dx F2)=H4 at B4 lC;have hR4:=hR2.but B4 iG;refine ⟨a,ts,R,g,rfl,hR4,pl.len,pl.plen,pl.nc,pl.nb,fun j H5 nj S5 hj=>?_⟩;have njx:j≠x:=fun e=>by rw [e,lC] at nj;cases nj
  generalize hF3:putF (Str.ofString "jobs") (V.ref j) F2=F3;have l3:F3.length<=3:=by rw [<- hF3];exact L3 (lp _ _ _) (by lia)
  have k3:F3.lookup (Str.ofString "jobs")=some (V.ref j):=by rw [<- hF3,N3,if_pos rfl]
  refine ⟨C,dx,F2,S5 _ _ lC,T.cl,T.na_jobs,by lia,?_⟩;rw [hF3];have B6:SameBut x H4 (A0 H5 x (.ins C dx F3)):=(Same.but S5).at;have pP:A0 H5 x (.ins C dx F3) x=some (.ins C dx F3):=A5;have hj6:A0 H5 x (.ins C dx F3) j=some (.dK (C1 (keysP (C8 R)++W4 R) (jobG g))):=by rw [B1 njx];exact hj
  generalize A0 H5 x (.ins C dx F3)=H6 at B6 pP hj6;have hR6:=hR4.but B6 lC;refine ⟨C,dx,F3,pP,T.cl,T.na_jobs,_,k3,a,j,ts,R,_,_,rfl,hR6,hj6,fun z hz=>⟨pl.used hz,pl.zl z hz⟩,fun H7 S7=>?_⟩;refine ⟨a,ts,R, "row",r1,rfl,hR6.same S7,pl.len,L3 pl.f1 (by decide),pl.a1,fun ll L H8 nll S8 hll run cov=>?_⟩;have hx8:=S8 _ _ (S7 _ _ pP);have nlx:ll≠x:=fun e=>by rw [e,S7 _ _ pP] at nll;cases nll
  have llen:L.length<=10000:=by
   rw [rH (jM _) run cov];exact L3 (mM _) pl.f1
  generalize hF4:putF (Str.ofString "letter_line") (V.ref ll) F3=F4;have l4:F4.length<=4:=by rw [<- hF4];exact L3 (lp _ _ _) (by lia)
  refine ⟨C,dx,F3,hx8,T.cl,T.na_letter_line,by lia,?_⟩;rw [hF4];have B9:SameBut x H6 (A0 H8 x (.ins C dx F4)):=(Same.but (S7.trans S8)).at;have tX:A0 H8 x (.ins C dx F4) x=some (.ins C dx F4):=A5;have pQ:A0 H8 x (.ins C dx F4) ll=some (.lst (L.map V.str)):=by rw [B1 nlx];exact hll
  generalize A0 H8 x (.ins C dx F4)=H9 at B9 tX pQ;have hR9:=hR6.but B9 pP;refine ⟨a,ts,R, "marks",r2,rfl,hR9,pl.len,L3 pl.f2 (by decide),pl.a2,fun ml M W8 nml p7 tY run2 cov2=>?_⟩;have nmx:ml≠x:=fun e=>by rw [e,tX] at nml;cases nml
  have mlen:M.length<=10000:=by
   rw [rH (jM _) run2 cov2];exact L3 (mM _) pl.f2
  generalize hF5:putF (Str.ofString "mark_line") (V.ref ml) F4=F5;have l5:F5.length<=5:=by rw [<- hF5];exact L3 (lp _ _ _) (by lia)
  refine ⟨C,dx,F4,p7 _ _ tX,T.cl,T.na_mark_line,by lia,?_⟩;rw [hF5];have B11:SameBut x H9 (A0 W8 x (.ins C dx F5)):=(Same.but p7).at;have k4:A0 W8 x (.ins C dx F5) x=some (.ins C dx F5):=A5;have x9:A0 W8 x (.ins C dx F5) ml=some (.lst (M.map V.str)):=by rw [B1 nmx];exact tY
  have y0:A0 W8 x (.ins C dx F5) ll=some (.lst (L.map V.str)):=by rw [B1 nlx];exact p7 _ _ pQ
  generalize A0 W8 x (.ins C dx F5)=pM at B11 k4 x9 y0;have hR11:=hR9.but B11 tX;have kl:F5.lookup (Str.ofString "letter_line")=some (V.ref ll):=by rw [<- hF5,N3,if_neg (by decide +kernel),<- hF4,N3,if_pos rfl]
  have km:F5.lookup (Str.ofString "mark_line")=some (V.ref ml):=by rw [<- hF5,N3,if_pos rfl]
  refine ⟨C,dx,F5,k4,T.cl,T.na_letter_line,_,kl,C,dx,F5,k4,T.cl,T.na_mark_line,_,km,a,ll,ml,ts,R,L,M,stepF R L M,rfl,hR11,wR pl ⟨run,cov⟩ ⟨run2,cov2⟩,y0,x9,pl.zl,pl.len,ak6 pl,L3 (aoV pl ⟨run,cov⟩ ⟨run2,cov2⟩) (by decide),fun md H12 nmd p5 pR=>⟨C,dx,F5,p5 _ _ k4,T.cl,T.na_made,by lia,?_⟩⟩;have nmdx:md≠x:=fun e=>by rw [e,k4] at nmd;cases nmd
  have B:SameBut x H (A0 H12 x (.ins C dx (putF (Str.ofString "made") (V.ref md) F5))):=((B2.trans B4).trans ((B6.trans B9).trans (B11.trans (Same.but p5)))).at;have fr:∀ {H':Hp} {y:Addr},SameBut x H H'->H' y=none->y≠x->H y=none:=fun {H' y} b n nx=>by
   cases e:H y with
   | none=>rfl
   | some o=>have:=b _ _ nx e;rw [n] at this;cases this
  have B44:=B2.trans B4;refine q j ll ml md L M _ (fr B44 nj njx) (fr ((B44.trans B6).trans (Same.but S7)) nll nlx) (fr ((B44.trans B6).trans B9) nml nmx) (fr (((B44.trans B6).trans B9).trans B11) nmd nmdx) B ⟨⟨dx,?_⟩,?_,?_,?_,pR.mod (p5 _ _ k4) (by intro xs e;cases e) nmdx,⟨run,cov⟩,⟨run2,cov2⟩⟩
  ·rw [A5,<- hF5,<- hF4,<- hF3,<- hF2,<- hF1];rfl
  ·rw [B1 njx];exact p5 _ _ (B11 _ _ njx (B9 _ _ njx hj6))
  ·rw [B1 nlx];exact p5 _ _ y0
  ·rw [B1 nmx];exact p5 _ _ x9
theorem aeq:FnScope ["self"] ["self"] (C3 gE):=G0
abbrev afd:List Str:=["self"]
theorem vbH:VS afd gE "self" 0:=vq
theorem aer(F:FunD K "letters" "Order.letters" gE f fd)(T:Txt P w K mg C):FnOk P w K mg base E8 1 f fd ["self"] (ak7 C):=by
 refine F.ok aeq ?_ ?_
 ·rintro _ _ _ _ ⟨x,j,ll,ml,md,g,R,L,M,rfl,_⟩;rfl
 ·intro cdv A outer s H vs Q E hr h;have C4:=hu_of hr;have hu:=hr.units;refine ⟨_,QSs.out (A7 (E3 (qe_cT (t9 (K:=K) (calm:=true)) T.b_list t8 (qa_c (l9 (K:=K) (vi vbH)) A3)))),?_⟩;obtain ⟨x,j,ll,ml,md,g,R,L,M,rfl,hO,q⟩:=h;obtain ⟨dx,h1⟩:=hO.ob;walk_at "rd";refine ⟨_,_,_,h1,T.cl,T.na_letter_line,_,ag2 _ _ _ _ _ _,?_⟩;walk_at "rd";exact rListR.l (.inl (.of hO.lets)) fun l nl=>q l nl
theorem afo:FnScope ["self"] ["self"] (C3 gF):=G0
abbrev agp:List Str:=["self"]
theorem vbI:VS agp gF "self" 0:=vq
theorem afp(F:FunD K "marks" "Order.marks" gF f fd)(T:Txt P w K mg C):FnOk P w K mg base E8 1 f fd ["self"] (aiR C):=by
 refine F.ok afo ?_ ?_
 ·rintro _ _ _ _ ⟨x,j,ll,ml,md,g,R,L,M,rfl,_⟩;rfl
 ·intro cdv A outer s H vs Q E hr h;have C4:=hu_of hr;have hu:=hr.units;refine ⟨_,QSs.out (A7 (E3 (qe_cT (t9 (K:=K) (calm:=true)) T.b_list t8 (qa_c (l9 (K:=K) (vi vbI)) A3)))),?_⟩;obtain ⟨x,j,ll,ml,md,g,R,L,M,rfl,hO,q⟩:=h;obtain ⟨dx,h1⟩:=hO.ob;walk_at "rd";refine ⟨_,_,_,h1,T.cl,T.na_mark_line,_,ajw _ _ _ _ _ _,?_⟩;walk_at "rd";exact rListR.l (.inl (.of hO.mrks)) fun l nl=>q l nl
theorem ahv:FnScope ["self", "piece"] ["self", "piece"] (C3 dQ):=G0
abbrev afe:List Str:=["self", "piece"]
theorem vbJ:VS afe dQ "self" 0:=vq
theorem vbK:VS afe dQ "piece" 1:=vq
theorem ahw(F:FunD K "job" "Order.job" dQ f fd)(T:Txt P w K mg C):FnOk P w K mg base E8 1 f fd ["self", "piece"] (anr C):=by
 refine F.ok ahv ?_ ?_
 ·rintro _ _ _ _ ⟨x,j,ll,ml,md,p,g,R,L,M,rfl,_⟩;rfl
 ·intro cdv A outer s H vs Q E hr h;have C4:=hu_of hr;have hu:=hr.units;refine ⟨_,QSs.out (A7 (E3 (rK C4 (l9 (K:=K) (vi vbJ)) (vi vbK)))),?_⟩;obtain ⟨x,j,ll,ml,md,p,g,R,L,M,rfl,hO,q⟩:=h;obtain ⟨dx,h1⟩:=hO.ob;walk_at "rd";refine ⟨_,_,_,h1,T.cl,T.na_jobs,_,ag1 _ _ _ _ _ _,j,rfl,.inl ⟨_,.inl hO.jobs⟩,_,i8 (k:=Sum.inr p) hO.jobs,?_⟩;rw [P7]
  by_cases hp:p∈keysP (C8 R)++W4 R
  ·rw [if_pos hp] at q ⊢
   exact q
  ·rw [if_neg hp] at q ⊢
   exact q
theorem sc_figures_at:FnScope ["text", "at", "end"] ["text", "at"] (C3 gG):=G0
abbrev yE:List Str:=["text", "at", "end"]
theorem yF:VS yE gG "text" 0:=vq
theorem vbM:VS yE gG "at" 1:=vq
theorem yG:VS yE gG "end" 2:=vq
theorem vbO:LS gG "end":=lq
theorem agq(F:FunD K "figures_at" "figures_at" gG f fd)(T:Txt P w K mg C)(G_is_figure:FO P w K mg base 1 "is_figure" ["sign"] [] jR):FnOk P w K mg base E8 2 f fd ["text", "at"] alg:=by
 refine F.ok sc_figures_at ?_ ?_
 ·rintro _ _ _ _ ⟨z,pre,rest,rfl,_⟩;rfl
 ·intro cdv A outer s H vs Q E hr h;have C4:=hu_of hr;have hu:=hr.units;refine ⟨_,QSs.out (A8 (D6 (n:=2) sc_figures_at.nd rfl vbO (vi vbM))
   (A8 (vO PassesOwn.never (QW.pt (fU (F6 q_lt (vi yG) (qe_cB (q_len (K:=K)) T.b_len O8 (qa_c (vi yF) A3))) (jK (e8 (K:=K) (D0 G_is_figure (hm hr) (qa_c (qe_ix (K:=K) (vi yF) (vi yG)) A3)))))) (A7 (ang (n:=2) sc_figures_at.nd rfl vbO A4 ani)))
   (A7 (E3 (N7 (K:=K) (vi yF) (L6 (vi vbM)) (L6 (vi yG))))))),?_⟩
  obtain ⟨z,pre,rest,rfl,hz,P1,q⟩:=h;walk_at "rd";have A9:z.length=pre.length+rest.length:=by
   have:=congrArg i3 P1
   simp [Str.length] at this ⊢
   lia
  have hsz:z.length<=sizeLine:=P5 (by lia);refine vR (fun m σ H2=>∃ (run left:List Nat),σ=[some (.str z),some (.int pre.length),some (.int ((pre++run).length:Nat))]/\H2=H/\rest=run++left/\rest.takeWhile figO=run++left.takeWhile figO/\m=left.length) rest.length ⟨[],rest,by simp,rfl,rfl,rfl,rfl⟩ ?_;rintro m σ H2 ⟨run,left,rfl,rfl,hr,htw,rfl⟩;have pS:z.cps.toList=pre++(run++left):=by rw [P1,hr]
  have cJ:rest.length=run.length+left.length:=by rw [hr,C5]
  have ecut:cutS z (some (pre.length:Int)) (some (((pre++run).length:Nat):Int))=⟨run.toArray⟩:=by
   have:=wZ (y:=run) (rest:=left) pS
   rw [show (((pre++run).length:Nat):Int)=(pre.length:Int)+(run.length:Int) by rw [C5];lia];exact this
  have hpr:(pre++run).length=pre.length+run.length:=C5;walk_at "rd";refine ⟨hsz,iteD (fun C9=>⟨hsz,?_⟩) fun tR=>⟨hsz,?_⟩⟩
  ·cases left with
   | nil=>simp at cJ;lia
   | cons c l2=>
    refine ⟨c,?_,c,rfl,figO c,rfl,?_⟩
    ·rw [pS,<- O3];exact alf
    by_cases hf:figO c=true
    ·rw [hf];refine iteT ⟨_,fun _ _ h=>h,l2.length,by simp,run++[c],by simp;lia,rfl,l2,by rw [hr];simp,?_,rfl⟩;rw [htw,List.takeWhile_cons_of_pos hf]
     simp
    ·rw [lY] at hf;rw [hf];refine iteF ⟨hsz,?_⟩;rw [ecut];rw [htw,List.takeWhile_cons_of_neg (by simp [hf]),L1] at q;exact q
  ·have oN:left=[]:=aS.mp (by lia);rw [htw,oN,List.takeWhile_nil,L1] at q;rw [ecut];exact q
theorem sc_part_at:FnScope ["known", "text", "at", "figures", "two"] ["known", "text", "at", "figures"] (C3 bN):=G0
abbrev nU:List Str:=["known", "text", "at", "figures", "two"]
theorem vbP:VS nU bN "known" 0:=vq
theorem nV:VS nU bN "text" 1:=vq
theorem kJ:VS nU bN "at" 2:=vq
theorem vbS:VS nU bN "figures" 3:=vq
theorem vbT:VS nU bN "two" 4:=vq
theorem vbU:LS bN "two":=lq
theorem ajT(F:FunD K "part_at" "part_at" bN f fd)(T:Txt P w K mg C)(G_is_figure:FO P w K mg base 1 "is_figure" ["sign"] [] jR)(G_figures_at:FO P w K mg base 2 "figures_at" ["text", "at"] [] alg):FnOk P w K mg base E8 3 f fd ["known", "text", "at", "figures"] alh:=by
 refine F.ok sc_part_at ?_ ?_
 ·rintro _ _ _ _ ⟨d,z,g,pre,c,r,w,y,rfl,_⟩;rfl
 ·intro cdv A outer s H vs Q E hr h;have C4:=hu_of hr;have hu:=hr.units;refine ⟨_,QSs.out (A8 (qs_if (QW.pt (fU (e8 (K:=K) (vi vbS)) (jK (e8 (K:=K) (D0 G_is_figure (hm hr) (qa_c (qe_ix (K:=K) (vi nV) (vi kJ)) A3)))))) (A7 (E3 (D0 G_figures_at (hm hr) (qa_c (vi nV) (qa_c (vi kJ) A3))))) G8)
   (A8 (D6 (n:=4) sc_part_at.nd rfl vbU (N7 (K:=K) (vi nV) (L6 (vi kJ)) (L6 (qe_op (q_add (K:=K)) (vi kJ) A4))))
   (A8 (qs_if (F6 (q_in (K:=K) hu) (vi vbT) (vi vbP)) (A7 (E3 (vi vbT))) G8)
   (A8 (qs_if (F6 (q_in (K:=K) hu) (qe_ix (K:=K) (vi nV) (vi kJ)) (vi vbP)) (A7 (E3 (qe_ix (K:=K) (vi nV) (vi kJ)))) G8)
   (A7 rD))))),?_⟩
  obtain ⟨d,z,g,pre,c,r,w,y,rfl,hd,hz,P1,hp,q⟩:=h;have hsz:z.length<=sizeLine:=P5 (by lia);have ha:J8 z.cps.toList (pre.length:Int)=some c:=by rw [P1];exact alf
  rw [gD] at hp
  cases w with
  | false=>
   rw [Bool.false_and,if_neg N2] at hp;walk_at "rd"
   cases r with
   | nil=>
    rw [jY] at hp
    by_cases h1:one c∈g
    ·rw [if_pos h1] at hp;obtain rfl:=Option.some.inj hp;rw [ag9 P1];refine ⟨hsz,rInR.d (i8 (k:=Sum.inr (one c)) hd) ⟨_,rfl,?_⟩⟩;rw [jX,fG,decide_eq_true h1];exact iteT q
    ·rw [if_neg h1] at hp;cases hp
   | cons e r=>
    rw [u8] at hp;have ec:cutS z (some (pre.length:Int)) (some ((pre.length:Int)+2))=M6 c e:=wZ (y:=[c,e]) (rest:=r) P1;rw [ec];refine ⟨hsz,rInR.d (i8 (k:=Sum.inr (M6 c e)) hd) ⟨_,rfl,?_⟩⟩;rw [jX,fG];refine iteD (fun h=>?_) fun h=>⟨hsz,c,ha,rInR.d (i8 (k:=Sum.inr (one c)) hd) ⟨_,rfl,?_⟩⟩
    ·rw [if_pos h] at hp;obtain rfl:=Option.some.inj hp;exact q
    ·rw [if_neg h] at hp
     by_cases h1:one c∈g
     ·rw [if_pos h1] at hp;obtain rfl:=Option.some.inj hp;rw [jX,fG,decide_eq_true h1];exact iteT ⟨hsz,c,ha,q⟩
     ·rw [if_neg h1] at hp;cases hp
  | true=>
   rw [Bool.true_and] at hp;walk_at "rd";refine ⟨hsz,c,ha,c,rfl,figO c,rfl,?_⟩
   by_cases hf:figO c=true
   ·rw [hf];rw [if_pos hf] at hp;obtain rfl:=Option.some.inj hp;exact iteT ⟨z,pre,c::r,rfl,hz,P1,q⟩
   rw [if_neg hf] at hp;rw [lY] at hf;rw [hf];refine iteF ?_
   cases r with
   | nil=>
    rw [jY] at hp
    by_cases h1:one c∈g
    ·rw [if_pos h1] at hp;obtain rfl:=Option.some.inj hp;rw [ag9 P1];refine ⟨hsz,rInR.d (i8 (k:=Sum.inr (one c)) hd) ⟨_,rfl,?_⟩⟩;rw [jX,fG,decide_eq_true h1];exact iteT q
    ·rw [if_neg h1] at hp;cases hp
   | cons e r=>
    rw [u8] at hp;have ec:cutS z (some (pre.length:Int)) (some ((pre.length:Int)+2))=M6 c e:=wZ (y:=[c,e]) (rest:=r) P1;rw [ec];refine ⟨hsz,rInR.d (i8 (k:=Sum.inr (M6 c e)) hd) ⟨_,rfl,?_⟩⟩;rw [jX,fG];refine iteD (fun h=>?_) fun h=>⟨hsz,c,ha,rInR.d (i8 (k:=Sum.inr (one c)) hd) ⟨_,rfl,?_⟩⟩
    ·rw [if_pos h] at hp;obtain rfl:=Option.some.inj hp;exact q
    ·rw [if_neg h] at hp
     by_cases h1:one c∈g
     ·rw [if_pos h1] at hp;obtain rfl:=Option.some.inj hp;rw [jX,fG,decide_eq_true h1];exact iteT ⟨hsz,c,ha,q⟩
     ·rw [if_neg h1] at hp;cases hp
theorem sc_cut:FnScope ["known", "text", "figures", "pieces", "parts", "at", "part"] ["known", "text", "figures"] (C3 s_cut):=G0
abbrev n_cut:List Str:=["known", "text", "figures", "pieces", "parts", "at", "part"]
theorem vbV:VS n_cut s_cut "known" 0:=vq
theorem vbW:VS n_cut s_cut "text" 1:=vq
theorem vbX:VS n_cut s_cut "figures" 2:=vq
theorem vbY:VS n_cut s_cut "pieces" 3:=vq
theorem vbZ:VS n_cut s_cut "parts" 4:=vq
theorem vb0:VS n_cut s_cut "at" 5:=vq
theorem vb1:VS n_cut s_cut "part" 6:=vq
theorem vb2:LS s_cut "pieces":=lq
theorem vb3:LS s_cut "parts":=lq
theorem vb4:LS s_cut "at":=lq
theorem vb5:LS s_cut "part":=lq
theorem anB(F:FunD K "cut" "cut" s_cut f fd)(T:Txt P w K mg C)(G_part_at:FO P w K mg base 3 "part_at" ["known", "text", "at", "figures"] [] alh):FnOk P w K mg base E8 4 f fd ["known", "text", "figures"] (rW K):=by
 refine F.ok sc_cut ?_ ?_
 ·rintro _ _ _ _ ⟨a,z,ks,w,rfl,_⟩;rfl
 ·intro cdv A outer s H vs Q E hr h;have C4:=hu_of hr;have hu:=hr.units;refine ⟨_,QSs.out (A8 (D6 (n:=3) sc_cut.nd rfl vb2 (qe_cT (akK (K:=K) (calm:=true)) T.b_dict akA (qa_c (Y3  (Q5:CompOk ["known", "text", "figures", "pieces", "parts", "at", "part"] (C3 s_cut).names _ ["piece"] 1 []) (O2 (K:=K) (vi vbV)) (fun _ _ _ _ _=>D1 (n:=0) (show List.Nodup (["piece"]:List Str) by decide +kernel) rfl (Or.inl rfl)) (fun _ _ _ _ _=>W3) (fun _ _ _ _ _=>(N9 (qa_c (qv 0) (qa_c qe_bl A3))))) A3)))
   (A8 (D6 (n:=4) sc_cut.nd rfl vb3 (L4 A3))
   (A8 (D6 (n:=5) sc_cut.nd rfl vb4 A4)
   (A8 (vO PassesOwn.never (F6 q_lt (vi vb0) (qe_cB (q_len (K:=K)) T.b_len O8 (qa_c (vi vbW) A3))) (A8 (D6 (n:=6) sc_cut.nd rfl vb5 (D0 G_part_at (hm hr) (qa_c (vi vbY) (qa_c (vi vbW) (qa_c (vi vb0) (qa_c (vi vbX) A3))))))
   (A8 (O4 (qe_mB (K:=K) Q1 V0 U9 V3 (vi vbZ) (qa_c (vi vb1) A3)))
   (A7 (ang (n:=5) sc_cut.nd rfl vb4 (qe_cB (q_len (K:=K)) T.b_len O8 (qa_c (vi vb1) A3)) ani)))))
   (A7 (E3 (vi vbZ))))))),?_⟩
  obtain ⟨a,z,ks,w,rfl,hS,W1,hz,hw,q⟩:=h;walk_at "rd";refine ⟨⟨_,hS⟩,compL (xs:=ks.map V.str) [] rfl (fun D i ys H4=>∃ ts:List Addr,ys=ts.map V.ref/\Paired (fun t k=>H4 t=some (.tup [V.str k,V.bl true])) ts (ks.take i)/\Same H H4) (fun D nD=>⟨[],rfl,.nil,Same.new nD⟩) (by rintro D i ys H4 nD _ ⟨_,_,_,S⟩;exact S.seq hS) ?_ ?_⟩
  ·rintro D i x ys H4 nD hi hx ⟨ts,rfl,P,S⟩ hD hy;obtain ⟨k,hk,rfl⟩:=G5 hx;rw [A6] at hi;walk_at "rd";refine ⟨by decide,fun t nt=>⟨D9 hD nt,G7 (by lia),CW.put (by rw [A6];exact hi) hy ⟨ts++[t],by rw [D8];rfl,?_,Same.put (fun b o h=>D9 (S b o h) nt) nD⟩⟩⟩;have hDt:D≠t:=fun e=>by rw [e,nt] at hD;cases hD
   rw [q0,hk,Option.toList_some];refine Paired.snoc (N0 P fun r k h=>?_) (by rw [B1 hDt.symm,A5]);rw [B1 (fun e=>by rw [e,hD] at h;cases h)];exact D9 h nt
  rintro D ys H4 nD ⟨ts,rfl,P,S⟩ hD hy;rw [A6,G4] at P;have P2:Paired (fun t (kx:C6×V)=>C7 K H4 t [kV kx.1,kx.2]) ts (kvOf ks):=by
   clear hD hy nD S W1 hS q hw
   induction P with
   | nil=>exact .nil
   | cons h t ih=>exact .cons (.of h) ih
  refine ⟨rfl,D,ts,kvOf ks,rfl,.of hD,P2,fun d nd=>?_⟩;rw [show Y1 [] (kvOf ks)=kvOf (G3 [] ks) from afN ks []];have S1:Same H (A0 H4 d (.dK (kvOf (G3 [] ks)))):=fun b o h=>D9 (S b o h) nd
  have hd:A0 H4 d (.dK (kvOf (G3 [] ks))) d=some (.dK (kvOf (G3 [] ks))):=A5;generalize A0 H4 d (.dK (kvOf (G3 [] ks)))=H5 at S1 hd;have hcg:∀ l,cutF w (G3 [] ks) l=cutF w ks l:=ajF fun x=>by rw [j0];simp
  generalize G3 [] ks=g at hd hcg;refine fun p np=>vR (fun m σ H6=>∃ (pre rest:List Nat) (ps:List Str) (u:Option V),σ=[some (.ref a),some (.str z),some (.bl w),some (.ref d),some (.ref p),some (.int pre.length),u]/\Same H5 H6/\H6 p=some (.lst (ps.map V.str))/\z.cps.toList=pre++rest/\(cutF w g z.cps.toList).1=pre.length+(cutF w g rest).1/\(cutF w g z.cps.toList).2=ps++(cutF w g rest).2/\ps.length<=pre.length/\m=rest.length) z.cps.toList.length
   ⟨[],z.cps.toList,[],none,rfl,Same.new np,A5,rfl,by simp,rfl,G2 _,rfl⟩ ?_
  rintro m σ H6 ⟨pre,rest,ps,u,rfl,S6,h6,P1,pT,Y5,M8,rfl⟩;have A9:z.length=pre.length+rest.length:=by
   have:=congrArg i3 P1
   simp [Str.length] at this ⊢
   lia
  walk_at "rd";refine ⟨P5 (by lia),iteD (fun C9=>?_) fun tR=>?_⟩
  ·cases rest with
   | nil=>simp at A9;lia
   | cons c r=>
    cases hy:partF w g (c::r) with
    | none=>
     exfalso
     rw [mY hy] at pT;have pU:=hw;unfold n6 at pU;rw [<- hcg,pT] at pU;simp at A9 pU;lia
    | some y=>
     refine ⟨_,fun _ _ h=>h,d,z,g,pre,c,r,w,y,rfl,S6 _ _ hd,hz,P1,hy,?_⟩;obtain ⟨rest',e1,e2,e3⟩:=jZ hy;rw [e2] at pT Y5;have el:y.cps.toList.length=y.length:=by simp [Str.length]
     have erl:(c::r).length=y.length+rest'.length:=by rw [e1,C5,el]
     refine ⟨Q2 h6,appOk h6 (by rw [A6];exact G7 (by lia)) ?_⟩;walk_at "rd";refine ⟨P5 (by lia),rest'.length,by rw [K3] at erl;lia,pre++y.cps.toList,by rw [C5,el];lia,S6.put np,rest',ps++[y],by rw [A5,D8];rfl,P1.trans (by rw [O3];exact congrArg (pre++·) e1),by rw [C5,el,pT];dsimp only;lia,by rw [Y5,O3];rfl,by rw [C5,C5,el,N5];lia,rfl⟩
  ·have hr:rest=[]:=aS.mp (by lia);rw [hr] at pT Y5;refine q p H6 (S1.free np) (S1.trans S6) ?_;rw [h6,<- hcg,Y5];show some (HO.lst (ps.map V.str))=some (HO.lst ((ps++[]).map V.str));rw [L1]
theorem afq:FnScope ["self"] ["self"] (C3 gH):=G0
abbrev agr:List Str:=["self"]
theorem vb6:VS agr gH "self" 0:=vq
theorem afr(F:FunD K "known" "Order.known" gH f fd)(T:Txt P w K mg C):FnOk P w K mg base E8 1 f fd ["self"] (xA C):=by
 refine F.ok afq ?_ ?_
 ·rintro _ _ _ _ ⟨x,j,ll,ml,md,g,R,L,M,rfl,_⟩;rfl
 ·intro cdv A outer s H vs Q E hr h;have C4:=hu_of hr;have hu:=hr.units;refine ⟨_,QSs.out (A7 (E3 (qe_cT (t9 (K:=K) (calm:=true)) T.b_list t8 (qa_c (l9 (K:=K) (vi vb6)) A3)))),?_⟩;obtain ⟨x,j,ll,ml,md,g,R,L,M,rfl,hO,q⟩:=h;obtain ⟨dx,h1⟩:=hO.ob;walk_at "rd";refine ⟨_,_,_,h1,T.cl,T.na_jobs,_,ag1 _ _ _ _ _ _,?_⟩;walk_at "rd";refine rListR.d (.of hO.jobs) fun l nl=>?_
  rw [show (C1 (keysP (C8 R)++W4 R) (jobG g)).map (fun kv=>kV kv.1)=(E5 R).map V.str by unfold C1 E5;rw [X7];rfl];exact q l nl
theorem afs:FnScope ["self", "piece"] ["self", "piece"] (C3 dR):=G0
abbrev ad2:List Str:=["self", "piece"]
theorem vb7:VS ad2 dR "self" 0:=vq
theorem vb8:VS ad2 dR "piece" 1:=vq
theorem aft(F:FunD K "steps" "Order.steps" dR f fd)(T:Txt P w K mg C):FnOk P w K mg base E8 1 f fd ["self", "piece"] (rX C):=by
 refine F.ok afs ?_ ?_
 ·rintro _ _ _ _ ⟨x,j,ll,ml,md,p,g,R,L,M,rfl,_⟩;rfl
 ·intro cdv A outer s H vs Q E hr h;have C4:=hu_of hr;have hu:=hr.units;refine ⟨_,QSs.out (A7 (E3 (amx C4 (l9 (K:=K) (vi vb7)) (vi vb8) (N9 A3)))),?_⟩;obtain ⟨x,j,ll,ml,md,p,g,R,L,M,rfl,hO,q⟩:=h;obtain ⟨dx,h1⟩:=hO.ob;obtain ⟨ad,a1,a2⟩:=hO.made;walk_at "rd";refine ⟨_,_,_,h1,T.cl,T.na_made,_,ali _ _ _ _ _ _,md,rfl,.inl ⟨_,.inl a1⟩,fun e ne=>⟨_,i8 (k:=Sum.inr p) (D9 a1 ne),?_⟩⟩;rw [P7];have S:Same H (A0 H e (.tup [])):=Same.new ne
  by_cases hp:p∈G3 [] (allKs R L M)
  ·rw [if_pos hp];exact q _ _ S ((a2 p hp).same S)
  ·rw [if_neg hp];refine q _ _ S ⟨[],A5,?_⟩;rw [xB fun h=>hp ((j0 _ _ _).mpr (.inr h))];exact .nil
theorem aij:FnScope ["order", "text"] ["order", "text"] (C3 nG):=G0
abbrev afW:List Str:=["order", "text"]
theorem vb9:VS afW nG "order" 0:=vq
theorem vca:VS afW nG "text" 1:=vq
theorem aik(F:FunD K "parts_of" "parts_of" nG f fd)(T:Txt P w K mg C)(G3_cut:FO P w K mg base 4 "cut" ["known", "text", "figures"] [] (rW K))(G_Order_known:MO P w K mg base 1 C "known" ["self"] (xA C)):FnOk P w K mg base E8 5 f fd ["order", "text"] (aiZ C):=by
 refine F.ok aij ?_ ?_
 ·rintro _ _ _ _ ⟨x,j,ll,ml,md,z,g,R,L,M,rfl,_⟩;rfl
 ·intro cdv A outer s H vs Q E hr h;have C4:=hu_of hr;have hu:=hr.units;refine ⟨_,QSs.out (A7 (E3 (D0 G3_cut (hm hr) (qa_c (amJ (vi vb9) G_Order_known (hm hr)) (qa_c (vi vca) (qa_c (l9 (K:=K) (vi vb9)) A3)))))),?_⟩;obtain ⟨x,j,ll,ml,md,z,g,R,L,M,rfl,hO,hk,hz,hw,q⟩:=h;obtain ⟨dx,h1⟩:=hO.ob;walk_at "rd";refine ⟨_,_,h1,akT _ _ _ _ _ _ (by decide +kernel),x,j,ll,ml,md,g,R,L,M,rfl,hO,fun l nl=>?_⟩;have S:Same H (A0 H l (.lst ((E5 R).map V.str))):=Same.new nl;exact ⟨_,_,_,S _ _ h1,T.cl,T.na_figures,_,aem _ _ _ _ _ _,l,z,E5 R,_,rfl,.of A5,hk,hz,hw,fun l2 H2 n2 S2 h2=>q l2 H2 (S.free n2) (S.trans S2) h2⟩
theorem ail:FnScope ["order", "part"] ["order", "part"] (C3 nH):=G0
abbrev afX:List Str:=["order", "part"]
theorem vcb:VS afX nH "order" 0:=vq
theorem yH:VS afX nH "part" 1:=vq
theorem aim(F:FunD K "steps_by" "steps_by" nH f fd)(T:Txt P w K mg C)(G_is_figure:FO P w K mg base 1 "is_figure" ["sign"] [] jR)(G_Order_steps:MO P w K mg base 1 C "steps" ["self", "piece"] (rX C)):FnOk P w K mg base E8 2 f fd ["order", "part"] (aha C):=by
 refine F.ok ail ?_ ?_
 ·rintro _ _ _ _ ⟨x,j,ll,ml,md,c,r,y,g,R,L,M,rfl,_⟩;rfl
 ·intro cdv A outer s H vs Q E hr h;have C4:=hu_of hr;have hu:=hr.units;refine ⟨_,QSs.out (A8 (qs_if (QW.pt (fU (e8 (K:=K) (l9 (K:=K) (vi vcb))) (jK (e8 (K:=K) (D0 G_is_figure (hm hr) (qa_c (qe_ix (K:=K) (vi yH) A4) A3)))))) (A7 (E3 (N9 (qa_c (N9 (qa_c (dD T.g_FIGURES) (qa_c (qe_cT mX T.b_int mJ (qa_c (vi yH) A3)) (qa_c A4 A3)))) A3)))) G8)
   (A7 (E3 (aoM (vi vcb) G_Order_steps (hm hr) (qa_c (vi yH) A3))))),?_⟩
  obtain ⟨x,j,ll,ml,md,c,r,y,g,R,L,M,rfl,hy,F7,hO,hf,q⟩:=h;obtain ⟨dx,h1⟩:=hO.ob;have hhd:y.cps.toList.headD 0=c:=by rw [hy];rfl
  walk_at "rd";refine ⟨_,_,_,h1,T.cl,T.na_figures,_,aem _ _ _ _ _ _,?_⟩;walk_at "rd";have fin:stepY R L M y=stepF R L M y->∃ x_5 x_6,H x=some (HO.ins C x_5 x_6)/\cU (Str.ofString "steps") x_6=none/\rX C [V.ref x,V.str y] H Q E0:=fun e=>⟨_,_,h1,akT _ _ _ _ _ _ (by decide +kernel),x,j,ll,ml,md,y,g,R,L,M,rfl,hO,by rw [<- e];exact q⟩
  by_cases hw:hasW R "figures"=true
  ·rw [if_pos hw];refine ⟨P5 (by lia),c,by rw [hy];exact U4 _ _,c,rfl,?_⟩
   by_cases hc:figO c=true
   ·have hsy:stepY R L M y=[(1,((mB y.cps.toList:Nat):Int),0)]:=by unfold stepY;rw [hw,hhd,hc];rfl
    have hAD:=hf hw (by rw [hhd];exact hc);rw [hc];walk_at "rd";refine ⟨hAD,by rw [<- lenL,hy];simp,F7,by decide,fun p np=>⟨by decide,fun p1 N1=>?_⟩⟩;refine q p1 _ ((Same.new np).trans (Same.new N1)) ?_;rw [hsy];exact StepAt.one A5 (D9 A5 N1)
   ·rw [lY] at hc;rw [hc];walk_at "rd";exact fin (by unfold stepY;rw [hhd,hc,Bool.and_false,if_neg N2])
  ·rw [if_neg hw];rw [lY] at hw;exact fin (by rw [amQ hw])
theorem ain:FnScope ["made", "place"] ["made", "place"] (C3 nI):=G0
abbrev afY:List Str:=["made", "place"]
theorem yI:VS afY nI "made" 0:=vq
theorem vce:VS afY nI "place" 1:=vq
theorem aio(F:FunD K "add_mark" "add_mark" nI f fd)(T:Txt P w K mg C):FnOk P w K mg base E8 1 f fd ["made", "place"] (ahb K):=by
 refine F.ok ain ?_ ?_
 ·rintro _ _ _ _ ⟨l,p,H0,es,U,rfl,_⟩;rfl
 ·intro cdv A outer s H vs Q E hr h;have C4:=hu_of hr;have hu:=hr.units;refine ⟨_,QSs.out (m3 (qs_if (arl (e8 (K:=K) (vi yI))) (A7 (O4 (qe_mB (K:=K) Q1 V0 U9 V3 (vi yI) (qa_c (N9 (qa_c (dD T.g_MARK) (qa_c A4 (qa_c (L4 A3) (qa_c A4 A3))))) A3)))) G8)
   (A7 (O4 (qe_mB (K:=K) Q1 V0 U9 V3 (qe_ix (K:=K) (qe_ix (K:=K) (vi yI) (qe_un q_neg A4)) A4) (qa_c (vi vce) A3))))),?_⟩
  obtain ⟨l,p,H0,es,U,rfl,J,hU,hM,q⟩:=h;walk_at "rd";refine m4 (fun σ H1=>∃ (es':List (Addr×Addr)) (e:Addr×Addr) (U':List E9) (u:E9),σ=[some (.ref l),some (.int p)]/\UnI H0 H1 l (es'++[e]) (U'++[u])/\addM U p=U'++[(u.1,u.2.1,u.2.2.1++[p],u.2.2.2)]/\u.2.2.1.length<=10000) ?_ ?_
  ·walk_at "rd";refine ⟨_,vS J.top,?_⟩
   by_cases he:es=[]
   ·subst he;have hU0:=ajI J.row;subst hU0;simp only [List.map_nil,List.isEmpty_nil,Bool.not_true,Bool.not_false,if_true];refine ⟨Q2 J.top,fun m nm=>⟨by decide,fun t nt=>appOk ((Same.new nm).trans (Same.new nt) _ _ J.top) (by decide) ⟨[],(t,m),[],(0,0,[],0),?_,rfl,by decide⟩⟩⟩;exact J.push nm nt
   ·obtain ⟨es',e,rfl⟩:=xE he;have hUn:U≠[]:=fun h=>by subst h;have:=Paired.length J.row;simp at this
    obtain ⟨U',u,rfl⟩:=xE hUn;have L0:((es'++[e]).map fun e=>V.ref e.1).isEmpty=false:=by simp
    rw [L0];simp only [Bool.not_false,Bool.not_true,Bool.false_eq_true,if_false];refine ⟨es',e,U',u,J,?_,hM u (by simp)⟩;unfold addM;rw [List.getLast?_append,List.getLast?_singleton]
    simp
  rintro σ H1 ⟨es',e,U',u,rfl,J1,ea,hul⟩;obtain ⟨hr,hu⟩:=vL J1.row;have K6:J8 ((es'++[e]).map fun e=>V.ref e.1) (-1)=some (V.ref e.1):=by rw [D8];exact al3 _ _
  walk_at "rd";refine ⟨_,.inl (.of J1.top),_,K6,?_⟩;walk_at "rd";refine ⟨_,.inr (.of hu.1),V.ref e.2,O1 (j:=2) rfl,Q2 hu.2,appOk hu.2 (by rw [A6];exact G7 (by lia)) ?_⟩;refine q (es'++[e]) _ ?_;rw [ea];exact J1.mark p
theorem sc_add_part:FnScope ["order", "made", "part", "kind", "worth", "case"] ["order", "made", "part"] (C3 n9):=G0
abbrev kK:List Str:=["order", "made", "part", "kind", "worth", "case"]
theorem vcf:VS kK n9 "order" 0:=vq
theorem vcg:VS kK n9 "made" 1:=vq
theorem vch:VS kK n9 "part" 2:=vq
theorem vci:VS kK n9 "kind" 3:=vq
theorem vcj:VS kK n9 "worth" 4:=vq
theorem vck:VS kK n9 "case" 5:=vq
theorem vcl:LS n9 "kind":=lq
theorem vcm:LS n9 "worth":=lq
theorem vcn:LS n9 "case":=lq
theorem aip(F:FunD K "add_part" "add_part" n9 f fd)(T:Txt P w K mg C)(G_steps_by:FO P w K mg base 2 "steps_by" ["order", "part"] [] (aha C))(G_add_mark:FO P w K mg base 1 "add_mark" ["made", "place"] [] (ahb K)):FnOk P w K mg base E8 3 f fd ["order", "made", "part"] (ahc C):=by
 refine F.ok sc_add_part ?_ ?_
 ·rintro _ _ _ _ ⟨x,l,j,ll,ml,md,c,r,y,g,R,L,M,H0,es,U,rfl,_⟩;rfl
 ·intro cdv A outer s H vs Q E hr h;have C4:=hu_of hr;have hu:=hr.units;refine ⟨_,QSs.out (A7 (L7 PassesOwn.never (dE (K:=K) (D0 G_steps_by (hm hr) (qa_c (vi vcf) (qa_c (vi vch) A3)))) (bH (K:=K) (n:=3) (T5 ((D1 (n:=3) sc_add_part.nd rfl vcl (.inl rfl))) (T5 ((D1 (n:=4) sc_add_part.nd rfl vcm (.inl rfl))) (T5 ((D1 (n:=5) sc_add_part.nd rfl vcn (.inl rfl))) bG)))) (A7 (qs_if (F6 (q_eq (K:=K) hu) (vi vci) (dD T.g_MARK)) (A7 (O4 (D0 G_add_mark (hm hr) (qa_c (vi vcg) (qa_c (vi vcj) A3))))) (A7 (O4 (qe_mB (K:=K) Q1 V0 U9 V3 (vi vcg) (qa_c (N9 (qa_c (vi vci) (qa_c (vi vcj) (qa_c (L4 A3) (qa_c (vi vck) A3))))) A3)))))))),?_⟩;obtain ⟨x,l,j,ll,ml,md,c,r,y,g,R,L,M,H0,es,U,rfl,hy,F7,hO,hf,J,hs,hU,hM,q⟩:=h;walk_at "rd";refine ⟨x,j,ll,ml,md,c,r,y,g,R,L,M,rfl,hy,F7,hO.same J.same,hf,fun a H1 S1 T7=>?_⟩;obtain ⟨ts,e1,e2⟩:=T7.ex;obtain ⟨H0',B0,J0,tp⟩:=(J.more S1).cut;have e1':=tp _ _ e1;have e2':=N0 e2 fun t s (e:H1 t=some (tupT s))=>(show H0' t=some (tupT s) from tp _ _ e)
  generalize stepY R L M y=ss at hs e2 e2' q;refine ⟨a,rfl,⟨_,.of e1⟩,forT (xs:=ts.map V.ref) (fun i σ H2=>∃ (u v w:Option V) (es:List (Addr×Addr)),σ=[some (.ref x),some (.ref l),some (.str y),u,v,w]/\UnI H0' H2 l es ((ss.take i).foldl addS U)) ⟨none,none,none,es,rfl,J0⟩ (by rintro i σ H2 _ ⟨_,_,_,_,_,h⟩;exact .of (h.same _ _ e1')) ?_ ?_⟩
  ·rintro i v σ H2 hv ⟨u1,u2,u3,es,rfl,J2⟩;obtain ⟨t,ht,rfl⟩:=G5 hv;obtain ⟨s',tL,hts⟩:=Paired.at e2' ht;have hi:i<ss.length:=(G1.mp tL).1;have T3:=xC (ss.take i) U;have o8:=xD (ss.take i) U 9000 hM;rw [E7] at T3 o8;have et:(ss.take (i+1)).foldl addS U=addS ((ss.take i).foldl addS U) s':=by rw [K7 tL,aU];rfl
   have pV:C7 K H2 t [V.int s'.1,V.int s'.2.1,V.int s'.2.2]:=.of (J2.same _ _ hts);walk_at "rd";refine ⟨_,pV,rfl,_,_,rfl,_,_,rfl,_,_,rfl,rfl,?_⟩;walk_at "rd";rw [et];generalize (ss.take i).foldl addS U=U2 at J2 T3 o8;refine iteD (fun e=>⟨l,s'.2.1,H0',es,U2,rfl,J2,by lia,fun u hu=>by have:=o8 u hu;lia,fun es' H3 J3=>?_⟩) fun e=>⟨Q2 J2.top,fun m nm=>⟨by decide,fun t2 i0=>appOk ((Same.new nm).trans (Same.new i0) _ _ J2.top) (by rw [A6,Paired.length J2.row];exact G7 (by lia)) ?_⟩⟩
   ·unfold addS;rw [if_pos e];exact ⟨es',J3⟩
   ·unfold addS;rw [if_neg e];exact ⟨_,J2.push nm i0⟩
  rintro σ H2 ⟨u1,u2,u3,es,rfl,J2⟩;rw [A6,Paired.length e2,G4] at J2;exact q es H2 (J2.base B0)
theorem sc_units:FnScope ["order", "text", "made", "part"] ["order", "text"] (C3 aH):=G0
abbrev sK:List Str:=["order", "text", "made", "part"]
theorem vco:VS sK aH "order" 0:=vq
theorem vcp:VS sK aH "text" 1:=vq
theorem vcq:VS sK aH "made" 2:=vq
theorem vcr:VS sK aH "part" 3:=vq
theorem vcs:LS aH "made":=lq
theorem vct:LS aH "part":=lq
theorem am1(F:FunD K "units" "units" aH f fd)(T:Txt P w K mg C)(G_parts_of:FO P w K mg base 5 "parts_of" ["order", "text"] [] (aiZ C))(G_add_part:FO P w K mg base 3 "add_part" ["order", "made", "part"] [] (ahc C)):FnOk P w K mg base E8 6 f fd ["order", "text"] (xF C):=by
 refine F.ok sc_units ?_ ?_
 ·rintro _ _ _ _ ⟨x,j,ll,ml,md,z,g,R,L,M,rfl,_⟩;rfl
 ·intro cdv A outer s H vs Q E hr h;have C4:=hu_of hr;have hu:=hr.units;refine ⟨_,QSs.out (A8 (D6 (n:=2) sc_units.nd rfl vcs (L4 A3))
   (A8 (L7 PassesOwn.never (O2 (K:=K) (D0 G_parts_of (hm hr) (qa_c (vi vco) (qa_c (vi vcp) A3)))) (D1 (n:=3) sc_units.nd rfl vct (.inl rfl)) (A7 (O4 (D0 G_add_part (hm hr) (qa_c (vi vco) (qa_c (vi vcq) (qa_c (vi vcr) A3)))))))
   (A7 (E3 (Y3  (Q5:CompOk ["order", "text", "made", "part"] (C3 aH).names _ ["kind", "worth", "marks", "case"] 4 []) (O2 (K:=K) (vi vcq)) (fun _ _ _ _ _=>(bH (K:=K) (n:=4) (T5 (D1 (n:=0) (show List.Nodup (["kind", "worth", "marks", "case"]:List Str) by decide +kernel) rfl (Or.inl rfl)) (T5 (D1 (n:=1) (show List.Nodup (["kind", "worth", "marks", "case"]:List Str) by decide +kernel) rfl (Or.inl rfl)) (T5 (D1 (n:=2) (show List.Nodup (["kind", "worth", "marks", "case"]:List Str) by decide +kernel) rfl (Or.inl rfl)) (T5 (D1 (n:=3) (show List.Nodup (["kind", "worth", "marks", "case"]:List Str) by decide +kernel) rfl (Or.inl rfl)) bG)))))) (fun _ _ _ _ _=>W3) (fun _ _ _ _ _=>(N9 (qa_c (qv 0) (qa_c (qv 1) (qa_c (qe_cT (mO (K:=K)) T.b_tuple mI (qa_c (qv 2) A3)) (qa_c (qv 3) A3))))))))))),?_⟩
  obtain ⟨x,j,ll,ml,md,z,g,R,L,M,rfl,hO,hk,hz,hw,hs,q⟩:=h;have hf:=ai0 (w:=hasW R "figures") (g:=E5 R) _ z.cps.toList (C2 _);have L0:=alj (w:=hasW R "figures") (g:=E5 R) _ z.cps.toList (C2 _);have lF:=(rV (w:=hasW R "figures") (g:=E5 R) _ z.cps.toList (C2 _)).2.1;rw [lenL] at lF;have y3:=ahd (w:=hasW R "figures") (g:=E5 R) _ z.cps.toList (C2 _);rw [lenL] at y3;walk_at "rd";intro l nl;have S1:Same H (A0 H l (.lst [])):=Same.new nl;have oU:A0 H l (.lst []) l=some (.lst []):=A5;generalize A0 H l (.lst [])=H1 at S1 oU;refine ⟨x,j,ll,ml,md,z,g,R,L,M,rfl,hO.same S1,hk,by lia,hw,fun a H2 na S2 ha=>?_⟩;generalize (cutF (hasW R "figures") (E5 R) z.cps.toList).2=ps at ha hf L0 lF y3 q;have nal:a≠l:=fun e=>by rw [e,oU] at na;cases na
  have C0:UnI (cutH H2 [l]) H2 l [] []:=⟨S2 _ _ oU,.nil,by simp,fun b hb=>by unfold cutH;exact if_pos (by simpa using hb),kA _ _⟩
  have S0:Same H (cutH H2 [l]):=fun b o hb=>by
   unfold cutH;rw [if_neg (fun e=>by rw [E6.mp e,nl] at hb;cases hb)];exact S2 _ _ (S1 _ _ hb)
  have ha0:cutH H2 [l] a=some (.lst (ps.map V.str)):=by
   unfold cutH;rw [if_neg (fun e=>nal (E6.mp e))];exact ha
  have hO0:=hO.same S0;generalize cutH H2 [l]=H0 at C0 S0 ha0 hO0;refine ⟨a,rfl,⟨_,.of ha⟩,forL (xs:=ps.map V.str) (fun i σ H3=>∃ (u:Option V) (es:List (Addr×Addr)),σ=[some (.ref x),some (.str z),some (.ref l),u]/\UnI H0 H3 l es (O5 (stepY R L M) (ps.take i))) ⟨none,[],rfl,C0⟩ (by rintro i σ H3 _ ⟨_,_,_,h⟩;exact .of (h.same _ _ ha0)) ?_ ?_⟩
  ·rintro i v σ H3 hv ⟨u,es,rfl,J⟩;obtain ⟨y,hy,rfl⟩:=G5 hv;have hi:i<ps.length:=(G1.mp hy).1;have y4:=M9 hy;obtain ⟨C4,w6⟩:=rY (S:=stepY R L M) hs (ps.take i);rw [E7] at C4 w6;obtain ⟨c,r,hcr⟩:∃ c r,y.cps.toList=c::r:=by
    have:=L0 y y4
    rw [<- lenL] at this;cases e:y.cps.toList with
    | nil=>rw [e] at this;simp at this
    | cons c r=>exact ⟨c,r,rfl⟩
   have F7:y.length<=640:=by have:=y3 y y4;lia
   walk_at "rd";refine ⟨x,l,j,ll,ml,md,c,r,y,g,R,L,M,H0,es,_,rfl,hcr,F7,hO0,hf y y4,J,by have:=hs y;lia,by lia,fun v hv=>by have:=w6 v hv;lia,fun es' H4 J4=>?_⟩;rw [<- ah1 hy] at J4;exact ⟨es',J4⟩
  rintro σ H3 ⟨u,es,rfl,J⟩;rw [A6,G4] at J;obtain ⟨C4,w6⟩:=rY (S:=stepY R L M) hs ps;have w8:=Paired.length J.row;generalize O5 (stepY R L M) ps=U at J C4 w6 w8 q;walk_at "rd";refine ⟨⟨_,.of J.top⟩,arM (xs:=es.map fun e=>V.ref e.1) [] rfl (fun D i ys H4=>∃ fs:List (Addr×Addr),ys=fs.map (fun e=>V.ref e.1)/\Same H3 H4/\Paired (fun e (u:E9)=>H4 e.1=some (.tup [.int u.1,.int u.2.1,.ref e.2,.int u.2.2.2])/\H4 e.2=some (.tup (u.2.2.1.map V.int))) fs (U.take i)) (fun D nD=>⟨[],rfl,Same.new nD,.nil⟩) (by rintro D i ys H4 nD _ ⟨_,_,S,_⟩;exact .of (S _ _ J.top)) ?_ ?_⟩
  ·rintro D i v ys H4 nD hi hv ⟨fs,rfl,S4,P⟩ hD F7;obtain ⟨e,he,rfl⟩:=G5 hv;obtain ⟨w,hw,a0⟩:=Paired.at J.row he;have Z6:fs.length<=7500:=by
    have:=Paired.length P
    rw [E7] at this;lia
   refine ⟨e.1,_,_,_,_,rfl,.of (S4 _ _ a0.1),?_⟩;walk_at "rd";refine rTupR.l (.of (S4 _ _ a0.2)) fun m nm=>⟨by decide,fun t nt=>?_⟩
   have S5:Same H4 (A0 (A0 H4 m (.tup (w.2.2.1.map V.int))) t (.tup [V.int w.1,V.int w.2.1,V.ref m,V.int w.2.2.2])):=(Same.new nm).trans (Same.new nt);have hm5:A0 (A0 H4 m (.tup (w.2.2.1.map V.int))) t (.tup [V.int w.1,V.int w.2.1,V.ref m,V.int w.2.2.2]) m=some (.tup (w.2.2.1.map V.int)):=D9 A5 nt;have eS:A0 (A0 H4 m (.tup (w.2.2.1.map V.int))) t (.tup [V.int w.1,V.int w.2.1,V.ref m,V.int w.2.2.2]) t=some (.tup [V.int w.1,V.int w.2.1,V.ref m,V.int w.2.2.2]):=A5;generalize A0 (A0 H4 m (.tup (w.2.2.1.map V.int))) t (.tup [V.int w.1,V.int w.2.1,V.ref m,V.int w.2.2.2])=H5 at S5 hm5 eS;have hD5:=S5 _ _ hD;have dn:∀ {b:Addr} {xs:List V},H5 b=some (.tup xs)->b≠D:=fun h q=>by rw [q,hD5] at h;cases h
   refine ⟨hD5,by rw [A6];exact G7 (by lia),hi,by rw [C5,N5];lia,⟨_,_,_,_,rfl⟩,fs++[(t,m)],by rw [D8];rfl,(S4.trans S5).put nD,?_⟩;rw [K7 hw];refine Paired.snoc (N0 P fun f w h=>⟨?_,?_⟩) ⟨?_,?_⟩
   ·rw [B1 (dn (S5 _ _ h.1))];exact S5 _ _ h.1
   ·rw [B1 (dn (S5 _ _ h.2))];exact S5 _ _ h.2
   ·rw [B1 (dn eS)];exact eS
   ·rw [B1 (dn hm5)];exact hm5
  rintro D ys H4 nD ⟨fs,rfl,S4,P⟩ hD F7;rw [A6,w8,G4] at P;have SS:Same H H3:=S0.trans J.same;exact q D H4 (SS.free nD) (SS.trans S4) ⟨fs,hD,P⟩
theorem sc_looks:FnScope ["order", "text", "made", "marks"] ["order", "text"] (C3 o0):=G0
abbrev sL:List Str:=["order", "text", "made", "marks"]
theorem vcu:VS sL o0 "order" 0:=vq
theorem vcv:VS sL o0 "text" 1:=vq
theorem yJ:VS sL o0 "made" 2:=vq
theorem vcx:VS sL o0 "marks" 3:=vq
theorem vcy:LS o0 "made":=lq
theorem vcz:LS o0 "marks":=lq
theorem am2(F:FunD K "looks" "looks" o0 f fd)(T:Txt P w K mg C)(G_units:FO P w K mg base 6 "units" ["order", "text"] [] (xF C)):FnOk P w K mg base E8 7 f fd ["order", "text"] (aly C):=by
 refine F.ok sc_looks ?_ ?_
 ·rintro _ _ _ _ ⟨x,j,ll,ml,md,z,g,R,L,M,rfl,_⟩;rfl
 ·intro cdv A outer s H vs Q E hr h;have C4:=hu_of hr;have hu:=hr.units;refine ⟨_,QSs.out (A8 (D6 (n:=2) sc_looks.nd rfl vcy (D0 G_units (hm hr) (qa_c (vi vcu) (qa_c (vi vcv) A3))))
   (A8 (dG (n:=3) sc_looks.nd rfl vcz (Q5:CompOk ["order", "text", "made", "marks"] (C3 o0).names _ ["unit"] 1 []) (O2 (K:=K) (vi yJ)) (fun _ _ _ _ _=>D1 (n:=0) (show List.Nodup (["unit"]:List Str) by decide +kernel) rfl (Or.inl rfl)) (fun _ _ _ _ _=>W3) (fun _ _ _ _ _=>(qe_ix (K:=K) (qv 0) A4)))
   (m3 (qs_if (e8 (K:=K) (l9 (K:=K) (vi vcu))) (A7 (O4 (qe_m0 (K:=K) Q1 PySem.F.slot_list_reverse PySem.F.type_list_reverse akF (vi vcx)))) G8)
   (A7 (E3 (L4 (qa_c (Y3  (Q5:CompOk ["order", "text", "made", "marks"] (C3 o0).names _ ["unit"] 1 []) (O2 (K:=K) (vi yJ)) (fun _ _ _ _ _=>D1 (n:=0) (show List.Nodup (["unit"]:List Str) by decide +kernel) rfl (Or.inl rfl)) (fun _ _ _ _ _=>W3) (fun _ _ _ _ _=>(N7 (K:=K) (qv 0) P6 (L6 A4)))) (qa_c (vi vcx) (qa_c (Y3  (Q5:CompOk ["order", "text", "made", "marks"] (C3 o0).names _ ["unit"] 1 []) (O2 (K:=K) (vi yJ)) (fun _ _ _ _ _=>D1 (n:=0) (show List.Nodup (["unit"]:List Str) by decide +kernel) rfl (Or.inl rfl)) (fun _ _ _ _ _=>W3) (fun _ _ _ _ _=>(qe_ix (K:=K) (qv 0) A4))) (qa_c (vi vcv) A3)))))))))),?_⟩
  obtain ⟨x,j,ll,ml,md,z,g,R,L,M,rfl,hO,hk,hz,hw,hs,q⟩:=h;obtain ⟨b1,b2,b3⟩:=ae9 hs (w:=hasW R "figures") (ks:=E5 R) (y:=z) hz;walk_at "rd";refine ⟨x,j,ll,ml,md,z,g,R,L,M,rfl,hO,hk,hz,hw,hs,fun u H1 nu S1 hU=>?_⟩;generalize O5 (stepY R L M) (cutF (hasW R "figures") (E5 R) z.cps.toList).2=U at *;obtain ⟨es,e1,e2⟩:=hU;have w8:=Paired.length e2;walk_at "rd";refine ⟨⟨_,.of e1⟩,compL (xs:=es.map fun e=>V.ref e.1) [] rfl (fun D i ys H2=>Same H1 H2/\ys=(es.take i).map fun e=>V.ref e.2) (fun D nD=>⟨Same.new nD,rfl⟩) (by rintro D i ys H2 nD _ ⟨S,_⟩;exact .of (S _ _ e1)) ?_ ?_⟩
  ·rintro D i y ys H2 nD hi hy ⟨S2,rfl⟩ hD F7;obtain ⟨e,he,rfl⟩:=G5 (f:=fun e:Addr×Addr=>V.ref e.1) hy;obtain ⟨w,tZ,a0⟩:=Paired.at e2 he;have pI:i<es.length:=(G1.mp he).1;walk_at "rd";refine ⟨_,.inr (.of (S2 _ _ a0.1)),V.ref e.2,O1 (j:=2) rfl,hD,by simp only [A6,E7];exact G7 (by lia),CW.put hi F7 ⟨S2.put nD,?_⟩⟩;rw [K7 he,D8];rfl
  rintro D ys H2 nD ⟨S2,rfl⟩ hD _;rw [A6,G4] at hD;have eK:=aeo e2;refine m4 (fun σ H'=>σ=[some (.ref x),some (.str z),some (.ref u),some (.ref D)]/\Same H1 H'/\∃ pC:List Addr,H' D=some (.lst (pC.map V.ref))/\Paired (fun c (x:List Int)=>H1 c=some (.tup (x.map V.int))) pC ((if hasW R "behind"=true then U.reverse else U).map fun u=>u.2.2.1)) ?_ ?_
  ·obtain ⟨dx,ho⟩:=hO.ob;walk_at "rd";refine ⟨_,_,_,S2 _ _ (S1 _ _ ho),T.cl,T.na_behind,_,aeY _ _ _ _ _ _,_,rfl,?_⟩
   by_cases hb:hasW R "behind"=true
   ·rw [if_pos hb,if_pos hb];refine ⟨Q2 hD,D,_,rfl,rfl,hD,S2.put nD,(es.map (·.2)).reverse,?_,?_⟩
    ·rw [A5,List.map_reverse,X7];rfl
    ·rw [List.map_reverse];exact xL eK
   ·rw [if_neg hb,if_neg hb];refine ⟨S2,es.map (·.2),?_,eK⟩;rw [hD,X7];rfl
  rintro σ H3 ⟨rfl,S3,pC,hD3,hP3⟩;clear hD S2 eK;have hG:=S3 _ _ e1;walk_at "rd";refine ⟨⟨_,.of hG⟩,compL (xs:=es.map fun e=>V.ref e.1) [] rfl (fun D i ys H2=>Same H3 H2/\∃ as:List Addr,ys=as.map V.ref/\Paired (fun c (x:List Int)=>H2 c=some (.tup (x.map V.int))/\H3 c=none/\c≠D) as ((U.take i).map fun u=>[u.1,u.2.1])) (fun D nD=>⟨Same.new nD,[],rfl,.nil⟩) (by rintro D i ys H2 nD _ ⟨S,_⟩;exact .of (S _ _ hG)) ?_ ?_⟩
  ·rintro D i y ys H2 nD2 hi hy ⟨S2,as,rfl,hP⟩ hD F7;obtain ⟨e,he,rfl⟩:=G5 (f:=fun e:Addr×Addr=>V.ref e.1) hy;obtain ⟨w,tZ,a0⟩:=Paired.at e2 he;have pI:i<es.length:=(G1.mp he).1;have eR:=Paired.length hP;rw [A6,E7] at eR;walk_at "rd";refine rSlR.t (.of (S2 _ _ (S3 _ _ a0.1))) (by simp [HT.sIx]) fun p np=>?_
   rw [show cutV [V.int w.1,V.int w.2.1,V.ref e.2,V.int w.2.2.2] none (some 2)=[w.1,w.2.1].map V.int from bI _ 2];have S4:Same H2 (A0 H2 p (.tup ([w.1,w.2.1].map V.int))):=Same.new np;have eM:A0 H2 p (.tup ([w.1,w.2.1].map V.int)) p=some (.tup ([w.1,w.2.1].map V.int)):=A5;have hpD:p≠D:=fun e=>by rw [e,hD] at np;cases np
   generalize A0 H2 p (.tup ([w.1,w.2.1].map V.int))=H4 at S4 eM;refine ⟨S4 _ _ hD,by rw [A6];exact G7 (by lia),CW.put hi F7 ⟨(S2.trans S4).put nD2,as++[p],by rw [D8];rfl,?_⟩⟩;rw [K7 tZ,D8];exact Paired.snoc (N0 hP fun c x ⟨h1,h2,h3⟩=>⟨by rw [B1 h3];exact S4 _ _ h1,h2,h3⟩) ⟨by rw [B1 hpD];exact eM,S2.free np,hpD⟩
  rintro D4 ys H4 nD4 ⟨S4,as1,rfl,hP4⟩ hD4 _;rw [A6,w8,G4] at hP4;have hi4:=S4 _ _ hG;refine ⟨⟨_,.of hi4⟩,compL (xs:=es.map fun e=>V.ref e.1) [] rfl (fun D i ys H2=>Same H4 H2/\ys=((U.take i).map fun u=>u.2.2.2).map V.int) (fun D nD=>⟨Same.new nD,rfl⟩) (by rintro D i ys H2 nD _ ⟨S,_⟩;exact .of (S _ _ hi4)) ?_ ?_⟩
  ·rintro D i y ys H2 nD2 hi hy ⟨S2,rfl⟩ hD F7;obtain ⟨e,he,rfl⟩:=G5 (f:=fun e:Addr×Addr=>V.ref e.1) hy;obtain ⟨w,tZ,a0⟩:=Paired.at e2 he;have pI:i<es.length:=(G1.mp he).1;walk_at "rd";refine ⟨_,.inr (.of (S2 _ _ (S4 _ _ (S3 _ _ a0.1)))),V.int w.2.2.2,O1 (j:=3) rfl,hD,by simp only [A6,E7];exact G7 (by lia),CW.put hi F7 ⟨S2.put nD2,?_⟩⟩;rw [K7 tZ,D8,D8];rfl
  rintro D5 ys H5 nD5 ⟨S5,rfl⟩ hD5 _;rw [A6,w8,G4] at hD5;refine ⟨by decide,fun p np=>?_⟩;have S6:Same H5 (A0 H5 p (.lst [V.ref D4,V.ref D,V.ref D5,V.str z])):=Same.new np;have lG:=S4.trans (S5.trans S6);refine q p _ ((S1.trans (S3.trans (S4.trans S5))).free np) (S1.trans (S3.trans lG)) ⟨_,A5,.cons ?_ (.cons ?_ (.cons ?_ (.cons rfl .nil)))⟩
  ·exact ⟨D4,as1,rfl,(S5.trans S6) _ _ hD4,N0 hP4 fun c x h=>(S5.trans S6) _ _ h.1⟩
  ·exact ⟨D,pC,rfl,lG _ _ hD3,N0 hP3 fun c x h=>lG _ _ (S3 _ _ h)⟩
  ·exact ⟨D5,rfl,S6 _ _ hD5⟩
theorem sc_compare:FnScope ["order", "one", "other", "strength", "ours", "theirs", "level"] ["order", "one", "other", "strength"] (C3 Y4):=G0
abbrev gL:List Str:=["order", "one", "other", "strength", "ours", "theirs", "level"]
theorem vcA:VS gL Y4 "order" 0:=vq
theorem vcB:VS gL Y4 "one" 1:=vq
theorem vcC:VS gL Y4 "other" 2:=vq
theorem vcD:VS gL Y4 "strength" 3:=vq
theorem vcE:VS gL Y4 "ours" 4:=vq
theorem vcF:VS gL Y4 "theirs" 5:=vq
theorem sM:VS gL Y4 "level" 6:=vq
theorem vcH:LS Y4 "ours":=lq
theorem vcI:LS Y4 "theirs":=lq
theorem vcJ:LS Y4 "level":=lq
theorem afZ(F:FunD K "compare" "compare" Y4 f fd)(T:Txt P w K mg C)(G_looks:FO P w K mg base 7 "looks" ["order", "text"] [] (aly C)):FnOk P w K mg base E8 8 f fd ["order", "one", "other", "strength"] (sC C):=by
 refine F.ok sc_compare ?_ ?_
 ·rintro _ _ _ _ ⟨x,j,ll,ml,md,z,z',n,g,R,L,M,rfl,_⟩;rfl
 ·intro cdv A outer s H vs Q E hr h;have C4:=hu_of hr;have hu:=hr.units;refine ⟨_,QSs.out (A8 (D6 (n:=4) sc_compare.nd rfl vcH (D0 G_looks (hm hr) (qa_c (vi vcA) (qa_c (vi vcB) A3))))
   (A8 (D6 (n:=5) sc_compare.nd rfl vcI (D0 G_looks (hm hr) (qa_c (vi vcA) (qa_c (vi vcC) A3))))
   (A8 (L7 PassesOwn.never (qi_r1 T.b_range (qa_c (vi vcD) A3)) (D1 (n:=6) sc_compare.nd rfl vcJ (.inl rfl)) (A7 (qs_if (F6 (q_ne (K:=K) hu) (qe_ix (K:=K) (vi vcE) (vi sM)) (qe_ix (K:=K) (vi vcF) (vi sM))) (A7 (E3 (vM (F6 (q_ltK hu (K:=K)) (qe_ix (K:=K) (vi vcE) (vi sM)) (qe_ix (K:=K) (vi vcF) (vi sM))) (qe_un q_neg A4) A4))) G8)))
   (A7 (E3 A4))))),?_⟩
  obtain ⟨x,j,ll,ml,md,z,z',n,g,R,L,M,rfl,hn,hO,hk,hz,eG,hw,hw',hs,q⟩:=h;walk_at "rd";refine ⟨x,j,ll,ml,md,z,g,R,L,M,rfl,hO,hk,hz,hw,hs,fun l H1 nl S1 hl=>?_⟩;refine ⟨x,j,ll,ml,md,z',g,R,L,M,rfl,hO.same S1,hk,eG,hw',hs,fun l' H2 nl' S2 iH=>?_⟩;have hkd:=ah8 (hasW R "behind") (hasW R "behind") (O5 (stepY R L M) (cutF (hasW R "figures") (E5 R) z.cps.toList).2) (O5 (stepY R L M) (cutF (hasW R "figures") (E5 R) z'.cps.toList).2) z z';have T3:=hl.same S2;have A9:(bQ (hasW R "behind") (O5 (stepY R L M) (cutF (hasW R "figures") (E5 R) z.cps.toList).2) z).length=4:=rfl;have hlen':(bQ (hasW R "behind") (O5 (stepY R L M) (cutF (hasW R "figures") (E5 R) z'.cps.toList).2) z').length=4:=rfl;unfold bR at q;generalize bQ (hasW R "behind") (O5 (stepY R L M) (cutF (hasW R "figures") (E5 R) z.cps.toList).2) z=ds at *;generalize bQ (hasW R "behind") (O5 (stepY R L M) (cutF (hasW R "figures") (E5 R) z'.cps.toList).2) z'=ds' at *;obtain ⟨vs,v1,v2⟩:=T3;obtain ⟨vs',w1,w2⟩:=iH;have z1:=Paired.length v2;have z2:=Paired.length w2;refine ⟨by lia,by lia,forR (fun i σ H'=>(∃ u:Option V,σ=[some (.ref x),some (.str z),some (.str z'),some (.int n),some (.ref l),some (.ref l'),u])/\H'=H2/\∀ k<i,ds[k]?=ds'[k]?) ⟨⟨none,rfl⟩,rfl,by simp⟩ ?_ ?_⟩
  ·rintro i σ H' hi ⟨⟨u,rfl⟩,rfl,eJ⟩;have K2:i<n:=by simpa using hi
   have a1:vs[i]?=some vs[i]:=K8 (by lia);have a2:vs'[i]?=some vs'[i]:=K8 (by lia);obtain ⟨d,hd,ld⟩:=Paired.at v2 a1;obtain ⟨d',gR,ld'⟩:=Paired.at w2 a2;have kd:=hkd i d d' hd gR;generalize vs[i]=v at *;generalize vs'[i]=v' at *;have i1:J8 vs (0+(i:Int))=some v:=by rw [i5];exact O1 a1
   have i2:J8 vs' (0+(i:Int))=some v':=by rw [i5];exact O1 a2
   walk_at "rd";refine ⟨_,.inl (.of v1),_,i1,_,.inl (.of w1),_,i2,LvAt.ne ld ld' kd ⟨_,rfl,?_⟩⟩
   by_cases pW:d=d'
   ·rw [if_neg (by simp [pW])];refine ⟨rfl,fun k hk=>?_⟩
    by_cases hki:k=i
    ·rw [hki,hd,gR,pW]
    ·exact eJ k (by lia)
   ·rw [if_pos (by simp [pW])];have hq:=q H' (S1.trans S2);rw [amY K2 hd gR eJ pW] at hq;unfold cmpD at hq;rw [if_neg pW] at hq;refine ⟨_,.inl (.of v1),_,i1,_,.inl (.of w1),_,i2,LvAt.lt ld ld' kd ⟨_,rfl,?_⟩⟩
    by_cases C9:d.lt d'=true
    ·rw [if_pos C9] at hq ⊢
     exact hq
    ·rw [if_neg C9] at hq ⊢
     exact hq
  rintro σ H' ⟨⟨u,rfl⟩,rfl,eJ⟩;walk_at "rd"
  have:=q H' (S1.trans S2)
  rw [alz (by simpa using eJ)] at this;exact this
theorem aes:FnScope ["kind", "worth"] ["kind", "worth"] (C3 nJ):=G0
abbrev adn:List Str:=["kind", "worth"]
theorem vcK:VS adn nJ "kind" 0:=vq
theorem vcL:VS adn nJ "worth" 1:=vq
theorem aet(F:FunD K "first_numbers" "first_numbers" nJ f fd)(T:Txt P w K mg C):FnOk P w K mg base E8 1 f fd ["kind", "worth"] ai4:=by
 refine F.ok aes ?_ ?_
 ·rintro _ _ _ _ ⟨k,w,rfl,_⟩;rfl
 ·intro cdv A outer s H vs Q E hr h;have C4:=hu_of hr;have hu:=hr.units;refine ⟨_,QSs.out (A8 (qs_if (F6 (q_eq (K:=K) hu) (vi vcK) (dD T.g_MARK)) (A7 (E3 (L4 (qa_c A4 A3)))) G8)
   (A8 (qs_if (F6 (q_eq (K:=K) hu) (vi vcK) (dD T.g_FIGURES)) (A7 (E3 (L4 (qa_c A4 (qa_c (qe_op (q_add (K:=K)) (vi vcL) A4) A3))))) G8)
   (A7 (E3 (L4 (qa_c (qe_op (q_add (K:=K)) (vi vcL) A4) A3)))))),?_⟩
  obtain ⟨k,w,rfl,q⟩:=h;unfold U6 at q;walk_at "rd";refine iteD (fun h0=>?_) fun h0=>iteD (fun h1=>?_) fun h1=>?_
  ·rw [if_pos h0] at q;exact ⟨by decide,q⟩
  ·rw [if_neg h0,if_pos h1] at q;exact ⟨by decide,q⟩
  ·rw [if_neg h0,if_neg h1] at q;exact ⟨by decide,q⟩
theorem sc_first_level:FnScope ["made", "level", "unit"] ["made"] (C3 dS):=G0
abbrev yK:List Str:=["made", "level", "unit"]
theorem vcM:VS yK dS "made" 0:=vq
theorem vcN:VS yK dS "level" 1:=vq
theorem vcO:VS yK dS "unit" 2:=vq
theorem vcP:LS dS "level":=lq
theorem vcQ:LS dS "unit":=lq
theorem afu(F:FunD K "first_level" "first_level" dS f fd)(T:Txt P w K mg C)(G_first_numbers:FO P w K mg base 1 "first_numbers" ["kind", "worth"] [] ai4):FnOk P w K mg base E8 2 f fd ["made"] ai5:=by
 refine F.ok sc_first_level ?_ ?_
 ·rintro _ _ _ _ ⟨a,U,rfl,_⟩;rfl
 ·intro cdv A outer s H vs Q E hr h;have C4:=hu_of hr;have hu:=hr.units;refine ⟨_,QSs.out (A8 (D6 (n:=1) sc_first_level.nd rfl vcP (L4 A3))
   (A8 (L7 PassesOwn.never (O2 (K:=K) (vi vcM)) (D1 (n:=2) sc_first_level.nd rfl vcQ (.inl rfl)) (A7 (O4 (qe_mB (K:=K) Q1 qI qH vQ (vi vcN) (qa_c (D0 G_first_numbers (hm hr) (qa_c (qe_ix (K:=K) (vi vcO) A4) (qa_c (qe_ix (K:=K) (vi vcO) A4) A3))) A3)))))
   (A7 (E3 (vi vcN))))),?_⟩
  obtain ⟨a,U,rfl,⟨es,e1,e2⟩,hl,q⟩:=h;walk_at "rd";intro p np;have S1:Same H (A0 H p (.lst [])):=Same.new np;refine ⟨⟨_,.of (S1 _ _ e1)⟩,forL (xs:=es.map fun e=>V.ref e.1) (fun i σ H2=>∃ (u:Option V),σ=[some (.ref a),some (.ref p),u]/\Same H H2/\H2 p=some (.lst ((f6 (U.take i)).map V.int))) ⟨none,rfl,S1,A5⟩ (by rintro i σ H2 _ ⟨_,_,S,_⟩;exact .of (S _ _ e1)) ?_ ?_⟩
  ·rintro i x σ H2 hx ⟨u,rfl,S2,h2⟩;obtain ⟨e,he,rfl⟩:=G5 (f:=fun e:Addr×Addr=>V.ref e.1) hx;obtain ⟨w,hw,a0⟩:=Paired.at e2 he;have t1:=S2 _ _ a0.1;have hi:i<U.length:=(G1.mp hw).1;have Z6:=rZ (U.take i);have W1:=afT w.1 w.2.1;rw [E7] at Z6;walk_at "rd";refine ⟨Q2 h2,_,.inr (.of t1),_,O1 (j:=0) rfl,_,.inr (.of t1),_,O1 (j:=1) rfl,_,_,rfl,fun l nl=>?_⟩;have S3:Same H2 (A0 H2 l (.lst ((U6 w.1 w.2.1).map V.int))):=Same.new nl;have eT:A0 H2 l (.lst ((U6 w.1 w.2.1).map V.int)) l=some (.lst ((U6 w.1 w.2.1).map V.int)):=A5;generalize A0 H2 l (.lst ((U6 w.1 w.2.1).map V.int))=H3 at S3 eT;refine ⟨p,l,_,_,rfl,rfl,S3 _ _ h2,eT,by rw [A6,A6];have:=G7 (n:=(f6 (U.take i)).length+(U6 w.1 w.2.1).length) (by lia);lia,(S2.trans S3).put np,?_⟩;rw [A5,ah4 hw,D8]
  rintro σ H2 ⟨u,rfl,S2,h2⟩;rw [A6,Paired.length e2,G4] at h2;walk_at "rd";exact q p H2 np S2 h2
theorem sc_second_level:FnScope ["made", "behind", "level", "unit"] ["made", "behind"] (C3 aI):=G0
abbrev sN:List Str:=["made", "behind", "level", "unit"]
theorem vcR:VS sN aI "made" 0:=vq
theorem vcS:VS sN aI "behind" 1:=vq
theorem yL:VS sN aI "level" 2:=vq
theorem vcU:VS sN aI "unit" 3:=vq
theorem vcV:LS aI "level":=lq
theorem vcW:LS aI "unit":=lq
theorem aff(F:FunD K "second_level" "second_level" aI f fd)(T:Txt P w K mg C):FnOk P w K mg base E8 1 f fd ["made", "behind"] ahl:=by
 refine F.ok sc_second_level ?_ ?_
 ·rintro _ _ _ _ ⟨a,b,U,rfl,_⟩;rfl
 ·intro cdv A outer s H vs Q E hr h;have C4:=hu_of hr;have hu:=hr.units;refine ⟨_,QSs.out (A8 (D6 (n:=2) sc_second_level.nd rfl vcV (L4 A3))
   (A8 (L7 PassesOwn.never (O2 (K:=K) (vM (e8 (K:=K) (vi vcS)) (arO (K:=K) (vi vcR) (L6 (qe_un q_neg A4))) (vi vcR))) (D1 (n:=3) sc_second_level.nd rfl vcW (.inl rfl)) (A8 (O4 (qe_mB (K:=K) Q1 qI qH vQ (vi yL) (qa_c (Y3  (Q5:CompOk ["made", "behind", "level", "unit"] (C3 aI).names _ ["place"] 1 []) (dE (K:=K) (qe_ix (K:=K) (vi vcU) A4)) (fun _ _ _ _ _=>D1 (n:=0) (show List.Nodup (["place"]:List Str) by decide +kernel) rfl (Or.inl rfl)) (fun _ _ _ _ _=>W3) (fun _ _ _ _ _=>(qe_op (q_add (K:=K)) (qv 0) A4))) A3)))
   (A7 (O4 (qe_mB (K:=K) Q1 V0 U9 V3 (vi yL) (qa_c A4 A3))))))
   (A7 (E3 (vi yL))))),?_⟩
  obtain ⟨a,b,U,rfl,⟨es,e1,e2⟩,hl,hm,hs,q⟩:=h;walk_at "rd";intro p np;have S1:Same H (A0 H p (.lst [])):=Same.new np;have Z9:A0 H p (.lst []) p=some (.lst []):=A5;generalize A0 H p (.lst [])=H1 at S1 Z9;have go:∀ (l0:Addr) (fs:List (Addr×Addr)) (V':List E9) (H2:Hp),Same H1 H2->H2 l0=some (.lst (fs.map fun e=>V.ref e.1))->l0≠p->Paired (fun e (u:E9)=>H e.1=some (.tup [.int u.1,.int u.2.1,.ref e.2,.int u.2.2.2])/\H e.2=some (.tup (u.2.2.1.map V.int))) fs V'->V'.length<=10000->(∀ u∈V',u.2.2.1.length<=10000)->Q4 V'<=100000->(∀ H',Same H H'->H' p=some (.lst ((W5 V').map V.int))->Q (.ref p) H')->
    ForIt (z9 K l0) (gName 3) (tSeq (tDrop (jB K "list" uW (tVar 2) (tCons (tComp (iTup K (t6 (fN K) (tVar 3) (tC (V.int 2)))) 1 [] (gName 0) tYes (t6 (rAddU K) (tVar 0) (tC (V.int 2)))) tNil))) (tDrop (jB K "list" jC (tVar 2) (tCons (tC (V.int 1)) tNil)))) { nx:=tRet (tVar 2) { nx:=fun x H'=>Q V.non H',rt:=Q },rt:=Q } [some (V.ref a),some (V.bl b),some (V.ref p),none] H2:=by
   intro l0 fs V' H2 S2 oN nl0 hP hV hVm hVn q;have R6:=S2 _ _ Z9;have SB:Same H (cutH H2 [p]):=fun c o hc=>by
    unfold cutH;rw [if_neg (fun e=>by rw [E6.mp e,np] at hc;cases hc)];exact S2 _ _ (S1 _ _ hc)
   have hlB:cutH H2 [p] l0=some (.lst (fs.map fun e=>V.ref e.1)):=by
    unfold cutH;rw [if_neg (fun e=>nl0 (E6.mp e))];exact oN
   have nB:cutH H2 [p] p=none:=by unfold cutH;exact if_pos (by simp)
   have hB2:=kA H2 [p];generalize cutH H2 [p]=B at SB hlB nB hB2;refine forL (xs:=fs.map fun e=>V.ref e.1) (fun i σ H3=>∃ (v:Option V),σ=[some (.ref a),some (.bl b),some (.ref p),v]/\Same B H3/\H3 p=some (.lst ((W5 (V'.take i)).map V.int))) ⟨none,rfl,hB2,R6⟩ (by rintro i σ H3 _ ⟨_,_,S,_⟩;exact .of (S _ _ hlB)) ?_ ?_
   ·rintro i x σ H3 hx ⟨v,rfl,S3,h3⟩;obtain ⟨e,he,rfl⟩:=G5 (f:=fun e:Addr×Addr=>V.ref e.1) hx;obtain ⟨u,hu,a0⟩:=Paired.at hP he;have hum:=hVm u (M9 hu);have t1:=S3 _ _ (SB _ _ a0.1);have t2:=S3 _ _ (SB _ _ a0.2);have ea:W5 (V'.take (i+1))=W5 (V'.take i)++(u.2.2.1.map fun p=>p+2)++[1]:=by
     unfold W5;rw [K7 hu,X4,O3]
     simp
    have bX:(W5 (V'.take i)).length<=110000:=by
     rw [xJ,E7]
     have:Q4 (V'.take i)<=Q4 V':=by
      have e2:Q4 V'=Q4 (V'.take i)+Q4 (V'.drop i):=by
       unfold Q4;rw [<- List.sum_append,<- D8,T9]
      lia
     lia
    generalize W5 (V'.take i)=acc at h3 ea bX;walk_at "rd";refine ⟨Q2 h3,_,.inr (.of t1),_,O1 (j:=2) rfl,e.2,rfl,⟨_,.of t2⟩,compT (xs:=u.2.2.1.map V.int) [] rfl (fun D k ys H4=>Same H3 H4/\ys=((u.2.2.1.take k).map fun p=>p+2).map V.int) (fun D nD=>⟨Same.new nD,rfl⟩) (by rintro D k ys H4 nD _ ⟨S,_⟩;exact .of (S _ _ t2)) ?_ ?_⟩
    ·rintro D k y ys H4 nD hk hy ⟨S4,rfl⟩ hD F7;obtain ⟨m,o8,rfl⟩:=G5 hy;walk_at "rd";refine ⟨hD,by simp only [A6,E7];exact G7 (by lia),CW.put hk F7 ⟨S4.put nD,?_⟩⟩;rw [K7 o8,D8,D8];rfl
    rintro D ys H4 nD ⟨S4,rfl⟩ hD _;rw [A6,G4] at hD;refine ⟨p,D,_,_,rfl,rfl,S4 _ _ h3,hD,by simp only [A6];have:=G7 (n:=acc.length+u.2.2.1.length) (by lia);lia,?_⟩;have h5:A0 H4 p (.lst (acc.map V.int++(u.2.2.1.map fun p=>p+2).map V.int)) p=some (.lst (acc.map V.int++(u.2.2.1.map fun p=>p+2).map V.int)):=A5;have S5:Same B (A0 H4 p (.lst (acc.map V.int++(u.2.2.1.map fun p=>p+2).map V.int))):=(S3.trans S4).put nB;generalize A0 H4 p (.lst (acc.map V.int++(u.2.2.1.map fun p=>p+2).map V.int))=H5 at h5 S5;walk_at "rd";refine ⟨Q2 h5,appOk h5 (by simp only [C5,A6];exact G7 (by lia)) ⟨S5.put nB,?_⟩⟩;rw [A5,ea,D8,D8];rfl
   rintro σ H3 ⟨v,rfl,S3,h3⟩;rw [A6,Paired.length hP,G4] at h3;walk_at "rd";exact q H3 (SB.trans S3) h3
  by_cases hb:b=true
  ·rw [if_pos hb] at q ⊢
   refine ⟨_,.of (S1 _ _ e1),fun p1 N1=>?_⟩;refine ⟨⟨_,.of A5⟩,go p1 es.reverse U.reverse _ (Same.new N1) (by rw [A5,List.map_reverse]) (fun e=>by rw [e,Z9] at N1;cases N1) (xL e2) (by rw [lP];exact hl) (fun u hu=>hm u (List.mem_reverse.mp hu)) (by rw [xK];exact hs) fun H' S h=>q p H' np S h⟩
  ·rw [if_neg hb] at q ⊢
   exact ⟨⟨_,.of (S1 _ _ e1)⟩,go a es U _ (aD _) (S1 _ _ e1) (fun e=>by rw [e,np] at e1;cases e1) e2 hl hm hs fun H' S h=>q p H' np S h⟩
theorem afv:FnScope ["made"] ["made"] (C3 nK):=G0
abbrev agu:List Str:=["made"]
theorem vcX:VS agu nK "made" 0:=vq
theorem afw(F:FunD K "third_level" "third_level" nK f fd)(T:Txt P w K mg C):FnOk P w K mg base E8 1 f fd ["made"] ai6:=by
 refine F.ok afv ?_ ?_
 ·rintro _ _ _ _ ⟨a,U,rfl,_⟩;rfl
 ·intro cdv A outer s H vs Q E hr h;have C4:=hu_of hr;have hu:=hr.units;refine ⟨_,QSs.out (A7 (E3 (Y3  (Q5:CompOk ["made"] (C3 nK).names _ ["unit"] 1 []) (O2 (K:=K) (vi vcX)) (fun _ _ _ _ _=>D1 (n:=0) (show List.Nodup (["unit"]:List Str) by decide +kernel) rfl (Or.inl rfl)) (fun _ _ _ _ _=>W3) (fun _ _ _ _ _=>(qe_op (q_add (K:=K)) (qe_ix (K:=K) (qv 0) A4) A4))))),?_⟩;obtain ⟨a,U,rfl,⟨es,e1,e2⟩,hl,q⟩:=h;walk_at "rd";refine ⟨⟨_,.of e1⟩,compL (xs:=es.map fun e=>V.ref e.1) [] rfl (fun D i ys H2=>Same H H2/\ys=((U.take i).map fun u=>u.2.2.2+1).map V.int) (fun D nD=>⟨Same.new nD,rfl⟩) (by rintro D i ys H2 nD _ ⟨S,_⟩;exact .of (S _ _ e1)) ?_ ?_⟩
  ·rintro D i x ys H2 nD hi hx ⟨S2,rfl⟩ hD F7;obtain ⟨e,he,rfl⟩:=G5 (f:=fun e:Addr×Addr=>V.ref e.1) hx;obtain ⟨w,hw,a0⟩:=Paired.at e2 he;have pI:i<U.length:=(G1.mp hw).1;walk_at "rd";refine ⟨_,.inr (.of (S2 _ _ a0.1)),V.int w.2.2.2,O1 (j:=3) rfl,?_⟩;walk_at "rd";refine ⟨hD,by simp only [A6,E7];exact G7 (by lia),CW.put hi F7 ⟨S2.put nD,?_⟩⟩;rw [K7 hw,D8,D8];rfl
  rintro D ys H2 nD ⟨S2,rfl⟩ hD _;rw [A6,Paired.length e2,G4] at hD;exact q D H2 nD S2 hD
theorem afg:FnScope ["text"] ["text"] (C3 nM):=G0
abbrev afx:List Str:=["text"]
theorem vcY:VS afx nM "text" 0:=vq
theorem afh(F:FunD K "fourth_level" "fourth_level" nM f fd)(T:Txt P w K mg C):FnOk P w K mg base E8 1 f fd ["text"] ahk:=by
 refine F.ok afg ?_ ?_
 ·rintro _ _ _ _ ⟨z,rfl,_⟩;rfl
 ·intro cdv A outer s H vs Q E hr h;have C4:=hu_of hr;have hu:=hr.units;refine ⟨_,QSs.out (A7 (E3 (Y3  (Q5:CompOk ["text"] (C3 nM).names _ ["sign"] 1 []) (anh (vi vcY)) (fun _ _ _ _ _=>D1 (n:=0) (show List.Nodup (["sign"]:List Str) by decide +kernel) rfl (Or.inl rfl)) (fun _ _ _ _ _=>W3) (fun _ _ _ _ _=>(qe_cB q_ord T.b_ord arf (qa_c (qv 0) A3)))))),?_⟩;obtain ⟨z,rfl,hz,q⟩:=h;walk_at "rd";refine compS [] rfl (fun D i ys H2=>Same H H2/\ys=((z.cps.toList.take i).map fun c:Nat=>(c:Int)).map V.int) (fun D nD=>⟨Same.new nD,rfl⟩) ?_ ?_
  ·rintro D i x ys H2 nD hi hx ⟨S2,rfl⟩ hD F7;have hsz:z.cps.size=z.length:=rfl;walk_at "rd";refine ⟨rfl,hD,by simp only [A6,E7];exact G7 (by lia),CW.put hi F7 ⟨S2.put nD,?_⟩⟩;rw [K7 hx,D8,D8];rfl
  ·rintro D ys H2 nD ⟨S2,rfl⟩ hD _;rw [show z.cps.size=z.cps.toList.length by simp,G4] at hD;exact q D H2 nD S2 hD
theorem sc_key:FnScope ["order", "text", "strength", "made", "levels", "numbers", "level"] ["order", "text", "strength"] (C3 s_key):=G0
abbrev n_key:List Str:=["order", "text", "strength", "made", "levels", "numbers", "level"]
theorem vcZ:VS n_key s_key "order" 0:=vq
theorem vc0:VS n_key s_key "text" 1:=vq
theorem vc1:VS n_key s_key "strength" 2:=vq
theorem yM:VS n_key s_key "made" 3:=vq
theorem vc3:VS n_key s_key "levels" 4:=vq
theorem yN:VS n_key s_key "numbers" 5:=vq
theorem vc5:VS n_key s_key "level" 6:=vq
theorem vc6:LS s_key "made":=lq
theorem vc7:LS s_key "levels":=lq
theorem vc8:LS s_key "numbers":=lq
theorem vc9:LS s_key "level":=lq
theorem anC(F:FunD K "key" "key" s_key f fd)(T:Txt P w K mg C)(G_units:FO P w K mg base 6 "units" ["order", "text"] [] (xF C))(G_first_level:FO P w K mg base 2 "first_level" ["made"] [] ai5)(G_second_level:FO P w K mg base 1 "second_level" ["made", "behind"] [] ahl)(G_third_level:FO P w K mg base 1 "third_level" ["made"] [] ai6)(G_fourth_level:FO P w K mg base 1 "fourth_level" ["text"] [] ahk):FnOk P w K mg base E8 7 f fd ["order", "text", "strength"] (spKey C):=by
 refine F.ok sc_key ?_ ?_
 ·rintro _ _ _ _ ⟨x,j,ll,ml,md,z,n,g,R,L,M,rfl,_⟩;rfl
 ·intro cdv A outer s H vs Q E hr h;have C4:=hu_of hr;have hu:=hr.units;refine ⟨_,QSs.out (A8 (D6 (n:=3) sc_key.nd rfl vc6 (D0 G_units (hm hr) (qa_c (vi vcZ) (qa_c (vi vc0) A3))))
   (A8 (D6 (n:=4) sc_key.nd rfl vc7 (L4 (qa_c (D0 G_first_level (hm hr) (qa_c (vi yM) A3)) (qa_c (D0 G_second_level (hm hr) (qa_c (vi yM) (qa_c (l9 (K:=K) (vi vcZ)) A3))) (qa_c (D0 G_third_level (hm hr) (qa_c (vi yM) A3)) (qa_c (D0 G_fourth_level (hm hr) (qa_c (vi vc0) A3)) A3))))))
   (A8 (D6 (n:=5) sc_key.nd rfl vc8 (L4 A3))
   (A8 (L7 PassesOwn.never (O2 (K:=K) (N7 (K:=K) (vi vc3) P6 (L6 (vi vc1)))) (D1 (n:=6) sc_key.nd rfl vc9 (.inl rfl)) (A8 (O4 (qe_mB (K:=K) Q1 qI qH vQ (vi yN) (qa_c (vi vc5) A3)))
   (A7 (O4 (qe_mB (K:=K) Q1 V0 U9 V3 (vi yN) (qa_c A4 A3))))))
   (A7 (E3 (vi yN))))))),?_⟩
  obtain ⟨x,j,ll,ml,md,z,n,g,R,L,M,rfl,hn,hO,hk,hz,hw,hs,q⟩:=h;have hp:=(rV (w:=hasW R "figures") (g:=E5 R) _ z.cps.toList (C2 _)).2.1;rw [lenL] at hp;obtain ⟨C4,w6⟩:=rY hs (cutF (hasW R "figures") (E5 R) z.cps.toList).2;have hu3:=aen hs (cutF (hasW R "figures") (E5 R) z.cps.toList).2;walk_at "rd";refine ⟨x,j,ll,ml,md,z,g,R,L,M,rfl,hO,hk,hz,hw,hs,fun u H1 nu S1 hU=>?_⟩;generalize O5 (stepY R L M) (cutF (hasW R "figures") (E5 R) z.cps.toList).2=U at C4 w6 hu3 hU q;refine ⟨u,U,rfl,hU,by lia,fun a1 H2 n1 S2 h1=>?_⟩;obtain ⟨dx,ho⟩:=hO.ob;refine ⟨_,_,_,S2 _ _ (S1 _ _ ho),T.cl,T.na_behind,_,aeY _ _ _ _ _ _,?_⟩;refine ⟨u,_,U,rfl,hU.same S2,by lia,fun v hv=>by have:=w6 v hv;lia,by lia,fun a2 H3 n2 S3 h2=>?_⟩;refine ⟨u,U,rfl,hU.same (S2.trans S3),by lia,fun a3 H4 n3 S4 h3=>?_⟩;refine ⟨z,rfl,by lia,fun a4 H5 n4 S5 h4=>?_⟩;refine ⟨by decide,fun p np p1 N1=>?_⟩;have hLS:∀ l∈bK (hasW R "behind") U z,l.length<=20000:=fun l hl=>by
   unfold bK at hl;simp only [F9,lU,or_false] at hl
   rcases hl with rfl | rfl | rfl | rfl
   ·have:=rZ U;lia
   ·rw [xJ]
    by_cases hb:hasW R "behind"=true
    ·rw [if_pos hb,xK,lP];lia
    ·rw [if_neg hb];lia
   ·rw [A6];lia
   ·rw [A6,lenL];lia
  have hP:Paired (fun a (l:List Int)=>H5 a=some (.lst (l.map V.int))) [a1,a2,a3,a4] (bK (hasW R "behind") U z):=.cons ((S3.trans (S4.trans S5)) _ _ h1) (.cons ((S4.trans S5) _ _ h2) (.cons (S5 _ _ h3) (.cons h4 .nil)));unfold keyF at q;have S15:=S1.trans (S2.trans (S3.trans (S4.trans S5)));generalize bK (hasW R "behind") U z=LS at hLS hP q;have S6:Same H5 (A0 H5 p (.lst [V.ref a1,V.ref a2,V.ref a3,V.ref a4])):=Same.new np;have lH:A0 H5 p (.lst [V.ref a1,V.ref a2,V.ref a3,V.ref a4]) p=some (.lst (([a1,a2,a3,a4]:List Addr).map V.ref)):=A5;generalize A0 H5 p (.lst [V.ref a1,V.ref a2,V.ref a3,V.ref a4])=H6 at S6 lH N1;have S7:Same H6 (A0 H6 p1 (.lst [])):=Same.new N1;have cK:A0 H6 p1 (.lst []) p1=some (.lst []):=A5;generalize A0 H6 p1 (.lst [])=H7 at S7 cK;generalize [a1,a2,a3,a4]=as at hP lH;refine rSlR.l (.of (S7 _ _ lH)) fun s ns=>?_
  rw [bI,<- k5];have hP2:Paired (fun a (l:List Int)=>H5 a=some (.lst (l.map V.int))) (as.take n) (LS.take n):=xM hP n;have hL2:(LS.take n).length<=4:=by rw [E7];lia
  have hLS2:∀ l∈LS.take n,l.length<=20000:=fun l hl=>hLS l (eZ hl)
  generalize as.take n=bs at hP2 ns;generalize LS.take n=MS at hP2 hL2 hLS2 q;have nsp:s≠p1:=fun e=>by rw [e,cK] at ns;cases ns
  have S8:Same H7 (A0 H7 s (.lst (bs.map V.ref))):=Same.new ns;have hs8:A0 H7 s (.lst (bs.map V.ref)) s=some (.lst (bs.map V.ref)):=A5;generalize A0 H7 s (.lst (bs.map V.ref))=H8 at S8 hs8;have hp8:=S8 _ _ cK;have SB:Same H6 (cutH H8 [p1]):=fun a o ha=>by
   unfold cutH;rw [if_neg (fun e=>by rw [E6.mp e,N1] at ha;cases ha)];exact S8 _ _ (S7 _ _ ha)
  have hsB:cutH H8 [p1] s=some (.lst (bs.map V.ref)):=by
   unfold cutH;rw [if_neg (fun e=>nsp (E6.mp e))];exact hs8
  have nB:cutH H8 [p1] p1=none:=by unfold cutH;exact if_pos (by simp)
  have hB8:=kA H8 [p1];generalize cutH H8 [p1]=B at SB hsB nB hB8;have hPB:=N0 hP2 fun a l (e:H5 a=some (.lst (l.map V.int)))=>(show B a=some (.lst (l.map V.int)) from SB _ _ (S6 _ _ e))
  have A9:=Paired.length hPB;refine ⟨s,rfl,⟨_,.of hs8⟩,forL (xs:=bs.map V.ref) (fun i σ H9=>∃ (v:Option V),σ=[some (.ref x),some (.str z),some (.int n),some (.ref u),some (.ref p),some (.ref p1),v]/\Same B H9/\H9 p1=some (.lst (((MS.take i).flatMap fun l=>l++[0]).map V.int))/\((MS.take i).flatMap fun l=>l++[0]).length<=20001*i) ⟨none,rfl,hB8,hp8,G2 _⟩ (by rintro i σ H9 _ ⟨_,_,S,_⟩;exact .of (S _ _ hsB)) ?_ ?_⟩
  ·rintro i v σ H9 hv ⟨w,rfl,S9,h9,iA⟩;obtain ⟨a,ha,rfl⟩:=G5 hv;obtain ⟨l,hl,eR⟩:=Paired.at hPB ha;have hi:i<MS.length:=(G1.mp hl).1;have hll:=hLS2 l (M9 hl);have ea:(MS.take (i+1)).flatMap (fun l=>l++[0])=(MS.take i).flatMap (fun l=>l++[0])++l++[0]:=by
    rw [K7 hl,X4,O3]
    simp
   generalize (MS.take i).flatMap (fun l=>l++[0])=acc at h9 iA ea;walk_at "rd";refine ⟨Q2 h9,⟨p1,a,_,_,rfl,rfl,h9,S9 _ _ eR,by rw [A6,A6];have:=G7 (n:=acc.length+l.length) (by lia);lia,?_⟩⟩;have h10:A0 H9 p1 (.lst (acc.map V.int++l.map V.int)) p1=some (.lst (acc.map V.int++l.map V.int)):=A5;have p7:Same B (A0 H9 p1 (.lst (acc.map V.int++l.map V.int))):=S9.put nB;generalize A0 H9 p1 (.lst (acc.map V.int++l.map V.int))=W8 at h10 p7;walk_at "rd";refine ⟨Q2 h10,appOk h10 (by rw [C5,A6,A6];exact G7 (by lia)) ⟨p7.put nB,?_,?_⟩⟩
   ·rw [A5,ea,D8,D8];rfl
   ·rw [ea,C5,C5,N5];lia
  rintro σ H9 ⟨w,rfl,S9,h9,_⟩;rw [A6,A9,G4] at h9;walk_at "rd";exact q p1 H9 ((S15.trans S6).free N1) (S15.trans (S6.trans (SB.trans S9))) h9
theorem ahx:FnScope ["_law_script", "_law_k"] ["_law_script", "_law_k"] (C3 nN):=G0
abbrev afi:List Str:=["_law_script", "_law_k"]
theorem vda:VS afi nN "_law_script" 0:=vq
theorem vdb:VS afi nN "_law_k" 1:=vq
theorem ahy(F:FunD K "_law_cell_at" "_law_cell_at" nN f fd)(T:Txt P w K mg C):FnOk P w K mg base E8 1 f fd ["_law_script", "_law_k"] (jO K):=by
 refine F.ok ahx ?_ ?_
 ·rintro _ _ _ _ ⟨a,ns,k,rfl,_⟩;rfl
 ·intro cdv A outer s H vs Q E hr h;have C4:=hu_of hr;have hu:=hr.units;refine ⟨_,QSs.out (A8 (qs_if (F6 q_lt (vi vdb) (qe_cB (q_len (K:=K)) T.b_len O8 (qa_c (vi vda) A3))) (A7 (E3 (qe_ix (K:=K) (vi vda) (vi vdb)))) G8)
   (A7 (E3 A4))),?_⟩
  obtain ⟨a,ns,k,rfl,hS,hk,q⟩:=h;walk_at "rd";unfold cellF at q;refine ⟨ns.length,.inl ⟨_,hS,by rw [A6]⟩,iteD (fun C9=>?_) fun tR=>?_⟩
  ·rw [if_pos C9] at q;have hi:k.toNat<ns.length:=by lia
   refine ⟨_,.inl hS,V.int (ns.getD k.toNat 0),?_,q⟩;have e:((k.toNat:Nat):Int)=k:=by lia
   have h1:J8 (ns.map V.int) ((k.toNat:Nat):Int)=some (V.int (ns.getD k.toNat 0)):=O1 (by rw [V7,cR,K8 hi];rfl);rw [e] at h1;exact h1
  ·rw [if_neg tR] at q;exact q
theorem sc_l_sign:FnScope ["_law_script", "_law_k", "_law_some", "_law_step"] ["_law_script", "_law_k"] (C3 bO):=G0
abbrev sO:List Str:=["_law_script", "_law_k", "_law_some", "_law_step"]
theorem yO:VS sO bO "_law_script" 0:=vq
theorem vdd:VS sO bO "_law_k" 1:=vq
theorem yP:VS sO bO "_law_some" 2:=vq
theorem vdf:VS sO bO "_law_step" 3:=vq
theorem vdg:LS bO "_law_some":=lq
theorem vdh:LS bO "_law_step":=lq
theorem alH(F:FunD K "_law_sign" "_law_sign" bO f fd)(T:Txt P w K mg C)(G_l_cell_at:FO P w K mg base 1 "_law_cell_at" ["_law_script", "_law_k"] [] (jO K)):FnOk P w K mg base E8 2 f fd ["_law_script", "_law_k"] (spSgn K):=by
 refine F.ok sc_l_sign ?_ ?_
 ·rintro _ _ _ _ ⟨a,ns,k,rfl,_⟩;rfl
 ·intro cdv A outer s H vs Q E hr h;have C4:=hu_of hr;have hu:=hr.units;refine ⟨_,QSs.out (A8 (D6 (n:=2) sc_l_sign.nd rfl vdg K0)
   (A8 (D6 (n:=3) sc_l_sign.nd rfl vdh (qe_ix (K:=K) (L4 (qa_c A4 (qa_c A4 (qa_c A4 (qa_c A4 (qa_c A4 (qa_c A4 (qa_c A4 (qa_c A4 (qa_c A4 (qa_c A4 (qa_c A4 (qa_c A4 A3))))))))))))) (qe_op q_mod (D0 G_l_cell_at (hm hr) (qa_c (vi yO) (qa_c A4 A3))) A4)))
   (m3 (qs_if (F6 (q_eq (K:=K) hu) (qe_op q_mod (qe_op L9 (D0 G_l_cell_at (hm hr) (qa_c (vi yO) (qa_c A4 A3))) A4) A4) A4) (A7 (D6 (n:=2) sc_l_sign.nd rfl vdg (qe_op (q_add (K:=K)) (vi yP) K0))) G8)
   (A7 (E3 (qe_ix (K:=K) (vi yP) (qe_op q_mod (qe_op (q_add (K:=K)) (D0 G_l_cell_at (hm hr) (qa_c (vi yO) (qa_c A4 A3))) (qe_op q_mul (vi vdd) (vi vdf))) (qe_cB (q_len (K:=K)) T.b_len O8 (qa_c (vi yP) A3))))))))),?_⟩
  obtain ⟨a,ns,k,rfl,hS,hk,q⟩:=h;walk_at "rd";refine ⟨by decide,fun p np=>⟨a,ns,1,rfl,(Same.new np).seq hS,by decide,_,rfl,_,.inl (.of A5),V.int (u6 ns),(wI ns).1,m4 (fun σ H2=>∃ z:Str,σ=[some (.ref a),some (.int k),some (.str z),some (.int (u6 ns))]/\Same H H2/\z.cps.toList=listF (P9 ns)) ?_ ?_⟩⟩
  ·walk_at "rd";refine ⟨a,ns,1,rfl,(Same.new np).seq hS,by decide,_,rfl,iteD (fun e=>⟨by decide,Same.new np,?_⟩) fun e=>⟨Same.new np,?_⟩⟩
   ·unfold P9;rw [decide_eq_true e];exact SB_eq
   ·unfold P9;rw [decide_eq_false e];exact SA_eq
  rintro σ H2 ⟨z,rfl,S,hz⟩;have T7:=aoQ ns;have P1:(z.length:Int)=lenF (P9 ns):=by rw [<- rL,<- hz];simp [Str.length]
  have hp:=wH (P9 ns);have K6:=(ann ns k).1;rw [<- hz,<- P1] at K6;have hsz:z.length<=sizeLine:=P5 (by lia);walk_at "rd";refine ⟨a,ns,0,rfl,S.seq hS,by decide,.inr ⟨by lia,by lia⟩,?_⟩;walk_at "rd";exact ⟨hsz,by lia,hsz,_,K6,q _ S⟩
theorem sc_l_letters:FnScope ["_law_script", "_law_cell", "_law_many", "_law_found", "_law_k", "_law_number", "_law_piece", "_law_at"] ["_law_script"] (C3 V6):=G0
abbrev dW:List Str:=["_law_script", "_law_cell", "_law_many", "_law_found", "_law_k", "_law_number", "_law_piece", "_law_at"]
theorem yQ:VS dW V6 "_law_script" 0:=vq
theorem sP:VS dW V6 "_law_cell" 1:=vq
theorem sQ:VS dW V6 "_law_many" 2:=vq
theorem nW:VS dW V6 "_law_found" 3:=vq
theorem vdm:VS dW V6 "_law_k" 4:=vq
theorem yR:VS dW V6 "_law_number" 5:=vq
theorem vdo:VS dW V6 "_law_piece" 6:=vq
theorem vdp:VS dW V6 "_law_at" 7:=vq
theorem vdq:LS V6 "_law_cell":=lq
theorem vdr:LS V6 "_law_many":=lq
theorem vds:LS V6 "_law_found":=lq
theorem vdt:LS V6 "_law_k":=lq
theorem vdu:LS V6 "_law_number":=lq
theorem vdv:LS V6 "_law_piece":=lq
theorem vdw:LS V6 "_law_at":=lq
theorem ahz(F:FunD K "_law_letters" "_law_letters" V6 f fd)(T:Txt P w K mg C)(G_l_cell_at:FO P w K mg base 1 "_law_cell_at" ["_law_script", "_law_k"] [] (jO K))(G_l_sign:FO P w K mg base 2 "_law_sign" ["_law_script", "_law_k"] [] (spSgn K)):FnOk P w K mg base E8 3 f fd ["_law_script"] (afM K):=by
 refine F.ok sc_l_letters ?_ ?_
 ·rintro _ _ _ _ ⟨a,ns,rfl,_⟩;rfl
 ·intro cdv A outer s H vs Q E hr h;have C4:=hu_of hr;have hu:=hr.units;refine ⟨_,QSs.out (A8 (D6 (n:=1) sc_l_letters.nd rfl vdq (D0 G_l_cell_at (hm hr) (qa_c (vi yQ) (qa_c A4 A3))))
   (A8 (D6 (n:=2) sc_l_letters.nd rfl vdr (qe_op (q_add (K:=K)) A4 (qe_op q_mod (vi sP) A4)))
   (m3 (qs_if (F6 (q_eq (K:=K) hu) (qe_op q_mod (qe_op L9 (vi sP) A4) A4) A4) (A7 (D6 (n:=2) sc_l_letters.nd rfl vdr (qe_op (q_add (K:=K)) (vi sQ) A4))) G8)
   (A8 (dG (n:=3) sc_l_letters.nd rfl vds (Q5:CompOk ["_law_script", "_law_cell", "_law_many", "_law_found", "_law_k", "_law_number", "_law_piece", "_law_at"] (C3 V6).names _ ["_law_k", "_law_script"] 1 [0]) (qi_r1 T.b_range (qa_c (vi sQ) A3)) (fun _ _ _ _ _=>D1 (n:=0) (show List.Nodup (["_law_k", "_law_script"]:List Str) by decide +kernel) rfl (Or.inl rfl)) (fun _ _ _ _ _=>W3) (fun _ _ _ _ _=>(D0 G_l_sign (hm hr) (qa_c (qv 1) (qa_c (qv 0) A3)))))
   (A8 (L7 PassesOwn.never (qi_r1 T.b_range (qa_c (qe_op q_mod (qe_op L9 (vi sP) A4) A4) A3)) (D1 (n:=4) sc_l_letters.nd rfl vdt (.inl rfl)) (A8 (D6 (n:=5) sc_l_letters.nd rfl vdu (qe_op q_mod (qe_op q_mul (qe_op L9 (vi sP) A4) (qe_ix (K:=K) (L4 (qa_c A4 (qa_c A4 (qa_c A4 A3)))) (vi vdm))) A4))
   (A8 (D6 (n:=6) sc_l_letters.nd rfl vdv (qe_op (q_add (K:=K)) (D0 G_l_sign (hm hr) (qa_c (vi yQ) (qa_c (qe_op q_mod (vi yR) (vi sQ)) A3))) (D0 G_l_sign (hm hr) (qa_c (vi yQ) (qa_c (qe_op q_mod (qe_op L9 (vi yR) A4) (vi sQ)) A3)))))
   (A8 (D6 (n:=7) sc_l_letters.nd rfl vdw (qe_op q_mod (qe_op L9 (vi yR) A4) (qe_op (q_add (K:=K)) (qe_cB (q_len (K:=K)) T.b_len O8 (qa_c (vi nW) A3)) A4)))
   (A7 (qs_if (F6 (vP (K:=K) hu) (vi vdo) (vi nW)) (A7 (D6 (n:=3) sc_l_letters.nd rfl vds (qe_op (q_add (K:=K)) (qe_op (q_add (K:=K)) (N7 (K:=K) (vi nW) P6 (L6 (vi vdp))) (L4 (qa_c (vi vdo) A3))) (N7 (K:=K) (vi nW) (L6 (vi vdp)) P6)))) G8))))))
   (A7 (E3 (vi nW)))))))),?_⟩
  obtain ⟨a,ns,rfl,hS,q⟩:=h;walk_at "rd";refine ⟨a,ns,2,rfl,hS,by decide,?_⟩;generalize cellF ns 2=c;walk_at "rd";refine m4 (fun σ H2=>∃ n:Int,σ=[some (.ref a),some (.int c),some (.int n),none,none,none,none,none]/\H2=H/\2<=n/\n<=16) ?_ ?_
  ·walk_at "rd";exact iteD (fun _=>by lia) fun _=>by lia
  rintro σ H2 ⟨n,rfl,rfl,zY,hn1⟩;walk_at "rd";refine ⟨by lia,by lia,compR [some (.ref a)] rfl (fun D j ys H4=>ys=(dJ ns j).map V.str/\Same H2 H4) (fun D nD=>⟨rfl,Same.new nD⟩) ?_ ?_⟩
  ·rintro D i ys H4 nD hi ⟨rfl,S4⟩ hD F7;walk_at "rd";refine ⟨a,ns,_,rfl,S4.seq hS,by lia,fun H5 S5=>⟨S5 _ _ hD,iS F7 (R8 hi (P5 (by lia))),⟨hi,by rw [C5,N5];lia,⟨_,rfl⟩,by rw [aiT,D8,i5];rfl,(S4.trans S5).put nD⟩⟩⟩
  rintro D ys H4 nD ⟨rfl,S4⟩ hD F7;refine ⟨by lia,by lia,forR (fun i σ H5=>∃ (l:Addr) (ps:List Str) (u v w x:Option V),σ=[some (.ref a),some (.int c),some (.int n),some (.ref l),u,v,w,x]/\LetI ns H2 H5 l ps i/\LetW ns n ps) ⟨D,_,none,none,none,none,rfl,⟨nD,S4,hD,(alb ns n.toNat (by lia)).wide fun k hk=>⟨hk.1,by lia⟩,⟨n,ans zY hn1⟩,by rw [ala];lia,by rw [ala];lia⟩,ans zY hn1⟩ ?_ ?_⟩
  ·rintro i σ H5 hi ⟨l,ps,u,v,w,x,rfl,J,JW⟩;walk_at "rd";obtain ⟨m,hm,uA⟩:=mul3 (i:=i) (by lia);refine ⟨by decide,fun p np=>⟨_,.inl (.of A5),V.int m,hm,?_⟩⟩;have S6:Same H5 (A0 H5 p (HO.lst [V.int 48271,V.int 69621,V.int 16807])):=Same.new np;generalize A0 H5 p (HO.lst [V.int 48271,V.int 69621,V.int 16807])=H6 at S6 ⊢
   walk_at "rd";refine ⟨.inr ⟨by lia,by lia⟩,?_⟩;generalize c / 20*m % 2147483647=N;have a1:=i4 N (show n≠0 by lia);have a2:=k9 N (show 0<n by lia);have b1:=i4 (N / 7) (show n≠0 by lia);have b2:=k9 (N / 7) (show 0<n by lia);have S6':=J.same.trans S6;refine ⟨by lia,a,ns,_,rfl,S6'.seq hS,a1,fun H7 S7=>⟨by lia,a,ns,_,rfl,(S6'.trans S7).seq hS,b1,fun H8 S8=>?_⟩⟩;have h8:=S8 _ _ (S7 _ _ (S6 _ _ J.lst));have S8':=S6'.trans (S7.trans S8);have lD:mW ns LetS (one (K5 ns (N % n))++one (K5 ns (N / 7 % n))):=⟨N % n,⟨a1,by lia⟩,wU ns _ _⟩
   have hjl:=J.hi;obtain ⟨t,ht,kY⟩:∃ t:Nat,N / 49 % ((ps.length:Int)+1)=(t:Int)/\t<=ps.length:=⟨(N / 49 % ((ps.length:Int)+1)).toNat,by
    have:=i4 (N / 49) (show (ps.length:Int)+1≠0 by lia)
    lia,by
    have:=k9 (N / 49) (show 0<(ps.length:Int)+1 by lia)
    lia⟩
   walk_at "rd";refine ⟨by show 1+1<=sizeLine;decide,ps.length,.inl ⟨_,.of h8,by rw [A6]⟩,by lia,rInR.l (.inl (.of h8)) rfl (agO _) ⟨_,rfl,?_⟩⟩;rw [vK,Bool.true_xor,ht];have hpw:∃ k:Int,0<=k/\k<n/\(one (K5 ns (N % n))++one (K5 ns (N / 7 % n))=one (K5 ns k)\/∃ m:Int,0<=m/\m<n/\one (K5 ns (N % n))++one (K5 ns (N / 7 % n))=one (K5 ns k)++one (K5 ns m)):=⟨N % n,a1,a2,.inr ⟨N / 7 % n,b1,b2,rfl⟩⟩
   generalize one (K5 ns (N % n))++one (K5 ns (N / 7 % n))=pc at lD hpw ⊢
   refine iteN (fun Q6=>rSlR.l (.of h8) fun q2 nq2=>?_) fun hold=>⟨ps,⟨J.new,S8',h8,J.dis,J.wd,J.lo,by lia⟩,JW⟩
   rw [bI,<- k5];refine ⟨by decide,fun q3 nq3=>?_⟩;walk_at "rd";refine rAddR.l (D9 A5 nq3) A5 (by rw [A6,E7,N5];exact P5 (by lia)) fun q4 nq4=>?_
   refine rSlR.l (.of (D9 (D9 (D9 h8 nq2) nq3) nq4)) fun q5 nq5=>?_
   rw [m5,<- y9];walk_at "rd";refine rAddR.l (D9 A5 nq5) A5 (by rw [C5,A6,A6,E7,W2,N5];exact P5 (by lia)) fun q6 nq6=>?_
   have S9:=S8'.trans ((Same.new nq2).trans ((Same.new nq3).trans ((Same.new nq4).trans (Same.new (u:=HO.lst ((ps.drop t).map V.str)) nq5))));refine ⟨q6,rfl,ps.take t++[pc]++ps.drop t,⟨S9.free nq6,S9.trans (Same.new nq6),?_,Dis.ins (fun k hk=>by unfold LetS at hk;lia) J.dis lD Q6,⟨n,JW.ins hpw⟩,?_,?_⟩,JW.ins hpw⟩
   ·rw [A5,D8,D8];rfl
   ·have:=J.lo
    simp only [C5,E7,W2,N5];lia
   ·simp only [C5,E7,W2,N5];lia
  rintro σ H5 ⟨l,ps,u,v,w,x,rfl,J,_⟩;walk_at "rd";exact q l ps H5 ⟨J.new,J.same,J.lst,J.dis,J.wd,J.lo,by have:=J.hi;lia⟩
theorem alI:FnScope ["_law_letters_here", "_law_marks", "_law_number", "_law_first"] ["_law_letters_here", "_law_marks", "_law_number", "_law_first"] (C3 gI):=G0
abbrev sR:List Str:=["_law_letters_here", "_law_marks", "_law_number", "_law_first"]
theorem vdx:VS sR gI "_law_letters_here" 0:=vq
theorem yS:VS sR gI "_law_marks" 1:=vq
theorem yT:VS sR gI "_law_number" 2:=vq
theorem vdA:VS sR gI "_law_first" 3:=vq
theorem alJ(F:FunD K "_law_part" "_law_part" gI f fd)(T:Txt P w K mg C):FnOk P w K mg base E8 1 f fd ["_law_letters_here", "_law_marks", "_law_number", "_law_first"] (ant K):=by
 refine F.ok alI ?_ ?_
 ·rintro _ _ _ _ ⟨l,m,n,b,ls,ms,rfl,_⟩;rfl
 ·intro cdv A outer s H vs Q E hr h;have C4:=hu_of hr;have hu:=hr.units;refine ⟨_,QSs.out (A8 (qs_if (QW.pt (qw_or (e8 (K:=K) (vi vdA)) (qw_or (F6 (q_eq (K:=K) hu) (vi yS) (L4 A3)) (vN (F6 (q_eq (K:=K) hu) (qe_op q_mod (vi yT) A4) A4))))) (A7 (E3 (qe_ix (K:=K) (vi vdx) (qe_op q_mod (qe_op L9 (vi yT) A4) (qe_cB (q_len (K:=K)) T.b_len O8 (qa_c (vi vdx) A3)))))) G8)
   (A7 (E3 (qe_ix (K:=K) (vi yS) (qe_op q_mod (qe_op L9 (vi yT) A4) (qe_cB (q_len (K:=K)) T.b_len O8 (qa_c (vi yS) A3))))))),?_⟩
  obtain ⟨l,m,n,b,ls,ms,rfl,hl,hm,h1,h2,h3,hok,q⟩:=h;walk_at "rd"
  cases b with
  | true=>exact pickL hl h1 fun p hp=>q p H (aD H) (.inl hp)
  | false=>
   intro p np;have S:Same H (A0 H p (.lst [])):=Same.new np;have hp:A0 H p (.lst []) p=some (.lst (([]:List Str).map V.str)):=A5;generalize A0 H p (.lst [])=H1 at S hp ⊢
   refine ⟨_,.lst (.of (S _ _ hm)) (l8 hok),_,.lst (.of hp) (l8 (by simp)),by rw [k8,mL];exact L3 (iT _ _) (by decide),?_⟩;rw [aiD];refine iteD (fun e=>pickL (S _ _ hl) h1 fun p hp=>q p H1 S (.inl hp)) fun e=>iteD (fun _=>pickL (S _ _ hl) h1 fun p hp=>q p H1 S (.inl hp)) fun _=>pickL (S _ _ hm) ?_ fun p hp=>q p H1 S (.inr ⟨rfl,hp⟩)
   cases ms with
   | nil=>exact absurd rfl e
   | cons x xs=>simp
theorem am3:FnScope ["_law_script", "_law_k", "_law_cell"] ["_law_script", "_law_k", "_law_cell"] (C3 kD):=G0
abbrev yU:List Str:=["_law_script", "_law_k", "_law_cell"]
theorem yV:VS yU kD "_law_script" 0:=vq
theorem yW:VS yU kD "_law_k" 1:=vq
theorem vdD:VS yU kD "_law_cell" 2:=vq
theorem am4(F:FunD K "_law_two" "_law_two" kD f fd)(T:Txt P w K mg C)(G_l_sign:FO P w K mg base 2 "_law_sign" ["_law_script", "_law_k"] [] (spSgn K)):FnOk P w K mg base E8 3 f fd ["_law_script", "_law_k", "_law_cell"] (spTwo K):=by
 refine F.ok am3 ?_ ?_
 ·rintro _ _ _ _ ⟨a,ns,k,c,rfl,_⟩;rfl
 ·intro cdv A outer s H vs Q E hr h;have C4:=hu_of hr;have hu:=hr.units;refine ⟨_,QSs.out (A8 (qs_if (F6 (q_eq (K:=K) hu) (qe_op q_mod (qe_op L9 (vi vdD) (qe_op (q_add (K:=K)) (qe_op q_mod (vi yW) A4) A4)) A4) A4) (A7 (E3 (qe_op (q_add (K:=K)) (D0 G_l_sign (hm hr) (qa_c (vi yV) (qa_c (vi yW) A3))) (D0 G_l_sign (hm hr) (qa_c (vi yV) (qa_c (qe_op q_mod (qe_op L9 (vi vdD) A4) A4) A3)))))) G8)
   (A7 (E3 (D0 G_l_sign (hm hr) (qa_c (vi yV) (qa_c (vi yW) A3)))))),?_⟩
  obtain ⟨a,ns,k,c,rfl,hS,hk,q⟩:=h;walk_at "rd";refine ⟨by lia,by lia,iteD (fun _=>⟨a,ns,_,rfl,hS,hk,fun H1 S1=>⟨a,ns,_,rfl,S1.seq hS,by lia,fun H2 S2=>?_⟩⟩) fun _=>⟨a,ns,_,rfl,hS,hk,fun H1 S1=>q _ H1 S1 (rT ns k)⟩⟩;walk_at "rd";exact ⟨by show 1+1<=sizeLine;decide,q _ H2 (S1.trans S2) (wU ns k _)⟩
theorem sc_l_others:FnScope ["_law_script", "_law_letters_here", "_law_marks", "_law_cell", "_law_rules_here", "_law_k", "_law_form", "_law_rule", "_law_j", "_law_number", "_law_pieces_here"] ["_law_script", "_law_letters_here", "_law_marks"] (C3 R4):=G0
abbrev v4:List Str:=["_law_script", "_law_letters_here", "_law_marks", "_law_cell", "_law_rules_here", "_law_k", "_law_form", "_law_rule", "_law_j", "_law_number", "_law_pieces_here"]
theorem kL:VS v4 R4 "_law_script" 0:=vq
theorem yX:VS v4 R4 "_law_letters_here" 1:=vq
theorem vdG:VS v4 R4 "_law_marks" 2:=vq
theorem v6:VS v4 R4 "_law_cell" 3:=vq
theorem sS:VS v4 R4 "_law_rules_here" 4:=vq
theorem dX:VS v4 R4 "_law_k" 5:=vq
theorem vdK:VS v4 R4 "_law_form" 6:=vq
theorem sT:VS v4 R4 "_law_rule" 7:=vq
theorem vdM:VS v4 R4 "_law_j" 8:=vq
theorem vdN:VS v4 R4 "_law_number" 9:=vq
theorem vdO:VS v4 R4 "_law_pieces_here" 10:=vq
theorem vdP:LS R4 "_law_cell":=lq
theorem vdQ:LS R4 "_law_rules_here":=lq
theorem vdR:LS R4 "_law_k":=lq
theorem vdS:LS R4 "_law_form":=lq
theorem sU:LS R4 "_law_rule":=lq
theorem vdU:LS R4 "_law_j":=lq
theorem vdV:LS R4 "_law_number":=lq
theorem vdW:LS R4 "_law_pieces_here":=lq
theorem air(F:FunD K "_law_others" "_law_others" R4 f fd)(T:Txt P w K mg C)(G_l_cell_at:FO P w K mg base 1 "_law_cell_at" ["_law_script", "_law_k"] [] (jO K))(G_l_sign:FO P w K mg base 2 "_law_sign" ["_law_script", "_law_k"] [] (spSgn K))(G_l_part:FO P w K mg base 1 "_law_part" ["_law_letters_here", "_law_marks", "_law_number", "_law_first"] [] (ant K))(G_l_two:FO P w K mg base 3 "_law_two" ["_law_script", "_law_k", "_law_cell"] [] (spTwo K)):FnOk P w K mg base E8 4 f fd ["_law_script", "_law_letters_here", "_law_marks"] (aiU K):=by
 refine F.ok sc_l_others ?_ ?_
 ·rintro _ _ _ _ ⟨a,b,c,ns,ls,ms,rfl,_⟩;rfl
 ·intro cdv A outer s H vs Q E hr h;have C4:=hu_of hr;have hu:=hr.units;refine ⟨_,QSs.out (A8 (D6 (n:=3) sc_l_others.nd rfl vdP (qe_op L9 (D0 G_l_cell_at (hm hr) (qa_c (vi kL) (qa_c A4 A3))) A4))
   (A8 (D6 (n:=4) sc_l_others.nd rfl vdQ (L4 A3))
   (A8 (L7 PassesOwn.never (qi_r1 T.b_range (qa_c (qe_op q_mod (vi v6) A4) A3)) (D1 (n:=5) sc_l_others.nd rfl vdR (.inl rfl)) (A8 (D6 (n:=6) sc_l_others.nd rfl vdS (D0 G_l_sign (hm hr) (qa_c (vi kL) (qa_c (qe_op (q_add (K:=K)) A4 (vi dX)) A3))))
   (m3 (qs_if (F6 (q_eq (K:=K) hu) (qe_op q_mod (qe_op L9 (qe_op L9 (vi v6) A4) (qe_op (q_add (K:=K)) (vi dX) A4)) A4) A4) (A7 (D6 (n:=6) sc_l_others.nd rfl vdS (qe_op (q_add (K:=K)) (vi vdK) (D0 G_l_sign (hm hr) (qa_c (vi kL) (qa_c (qe_op q_mod (qe_op L9 (vi v6) A4) A4) A3)))))) G8)
   (A8 (D6 (n:=7) sc_l_others.nd rfl sU (N9 (qa_c K0 (qa_c (qe_ix (K:=K) (vi yX) (qe_op q_mod (qe_op L9 (qe_op L9 (vi v6) A4) (qe_op (q_add (K:=K)) (vi dX) A4)) (qe_cB (q_len (K:=K)) T.b_len O8 (qa_c (vi yX) A3)))) (qa_c (vi vdK) A3)))))
   (m3 (qs_if (F6 (q_eq (K:=K) hu) (qe_op q_mod (qe_op L9 (qe_op L9 (vi v6) A4) (qe_op (q_add (K:=K)) (vi dX) A4)) A4) A4) (A7 (D6 (n:=7) sc_l_others.nd rfl sU (qe_op (q_add (K:=K)) (vi sT) (N9 (qa_c (D0 G_l_sign (hm hr) (qa_c (vi kL) (qa_c (qe_op (q_add (K:=K)) A4 (vi dX)) A3))) A3))))) G8)
   (A7 (O4 (qe_mB (K:=K) Q1 V0 U9 V3 (vi sS) (qa_c (vi sT) A3)))))))))
   (A8 (D6 (n:=3) sc_l_others.nd rfl vdP (D0 G_l_cell_at (hm hr) (qa_c (vi kL) (qa_c A4 A3))))
   (A8 (L7 PassesOwn.never (qi_r1 T.b_range (qa_c (qe_op q_mod (vi v6) A4) A3)) (D1 (n:=5) sc_l_others.nd rfl vdR (.inl rfl)) (A8 (D6 (n:=7) sc_l_others.nd rfl sU (N9 (qa_c K0 (qa_c (D0 G_l_two (hm hr) (qa_c (vi kL) (qa_c (qe_op (q_add (K:=K)) A4 (vi dX)) (qa_c (qe_op L9 (vi v6) A4) A3)))) A3))))
   (A8 (L7 PassesOwn.never (qi_r1 T.b_range (qa_c (qe_op (q_add (K:=K)) A4 (qe_op q_mod (qe_op L9 (qe_op L9 (vi v6) A4) (qe_op (q_add (K:=K)) (vi dX) A4)) A4)) A3)) (D1 (n:=8) sc_l_others.nd rfl vdU (.inl rfl)) (A8 (D6 (n:=9) sc_l_others.nd rfl vdV (qe_op q_mod (qe_op q_mul (qe_op L9 (vi v6) A4) (qe_ix (K:=K) (L4 (qa_c A4 (qa_c A4 (qa_c A4 A3)))) (vi vdM))) (qe_op q_sub A4 (vi dX))))
   (A7 (D6 (n:=7) sc_l_others.nd rfl sU (qe_op (q_add (K:=K)) (vi sT) (N9 (qa_c (D0 G_l_part (hm hr) (qa_c (vi yX) (qa_c (vi vdG) (qa_c (vi vdN) (qa_c (fS (q_eq (K:=K) hu) (vi vdM) A4) A3))))) A3)))))))
   (A7 (O4 (qe_mB (K:=K) Q1 V0 U9 V3 (vi sS) (qa_c (vi sT) A3)))))))
   (m3 (qs_if (F6 q_gt (qe_op q_mod (qe_op L9 (vi v6) A4) A4) A4) (A8 (dG (n:=10) sc_l_others.nd rfl vdW (Q5:CompOk ["_law_script", "_law_letters_here", "_law_marks", "_law_cell", "_law_rules_here", "_law_k", "_law_form", "_law_rule", "_law_j", "_law_number", "_law_pieces_here"] (C3 R4).names _ ["_law_k", "_law_script", "_law_cell"] 1 [0,3]) (qi_r1 T.b_range (qa_c (qe_op q_mod (qe_op L9 (vi v6) A4) A4) A3)) (fun _ _ _ _ _=>D1 (n:=0) (show List.Nodup (["_law_k", "_law_script", "_law_cell"]:List Str) by decide +kernel) rfl (Or.inl rfl)) (fun _ _ _ _ _=>W3) (fun _ _ _ _ _=>(D0 G_l_two (hm hr) (qa_c (qv 1) (qa_c (qe_op (q_add (K:=K)) A4 (qv 0)) (qa_c (qe_op L9 (qv 2) A4) A3))))))
   (A7 (O4 (qe_mB (K:=K) Q1 V0 U9 V3 (vi sS) (qa_c (qe_op (q_add (K:=K)) (N9 (qa_c K0 A3)) (qe_cT (mO (K:=K)) T.b_tuple mI (qa_c (vi vdO) A3))) A3))))) G8)
   (A7 (E3 (vi sS))))))))),?_⟩
  obtain ⟨a,b,c,ns,ls,ms,rfl,hS,hb,hc,h1,h2,h3,hok,q⟩:=h;walk_at "rd";refine ⟨a,ns,3,rfl,hS,by decide,_,rfl,fun r nr=>?_⟩;generalize cellF ns 3 / 5=c3;refine ⟨by lia,by lia,forR (fun i σ H2=>∃ (v w x y z z2:Option V) (ts:List Addr) (R:List Rl),σ=[some (.ref a),some (.ref b),some (.ref c),some (.int c3),some (.ref r),v,w,x,y,z,z2]/\RulesAt H H2 r ts R/\OthI ns ls ms (GS i) i R)
   ⟨none,none,none,none,none,none,[],[],rfl,⟨⟨A5,.nil⟩,by simp,fun t ht=>by rw [E6.mp ht];exact nr,Same.new nr⟩,⟨Dis.nil,by simp,by simp⟩⟩ ?_ ?_⟩
  ·rintro i σ H2 hi ⟨v,w,x,y,z,z2,ts,R,rfl,RA,J⟩;walk_at "rd";refine ⟨a,ns,_,rfl,RA.same.seq hS,by lia,fun H3 S3=>m4 (fun σ H4=>∃ f:Str,σ=[some (.ref a),some (.ref b),some (.ref c),some (.int c3),some (.ref r),some (.int (0+(i:Int))),some (.str f),x,y,z,z2]/\Same H3 H4/\Q3 ns (30+(0+(i:Int))) f) ?_ ?_⟩
   ·walk_at "rd";refine ⟨by lia,by lia,iteD (fun _=>⟨a,ns,_,rfl,(RA.same.trans S3).seq hS,by lia,fun H4 S4=>?_⟩) fun _=>⟨aD _,rT ns _⟩⟩;walk_at "rd";exact ⟨by show 1+1<=sizeLine;decide,S4,wU ns _ _⟩
   rintro σ H4 ⟨f,rfl,S4,hf⟩;have pX:=S3.trans S4;walk_at "rd";obtain ⟨l,hl,K6⟩:=pickA (c3 / 4 / (0+(i:Int)+2)) h1;have hb4:=RA.same.trans pX _ _ hb;refine ⟨by lia,by lia,ls.length,.inl ⟨_,.of hb4,by rw [A6]⟩,by lia,_,.inl (.of hb4),_,K6,by decide,fun t nt=>m4 (fun σ H5=>∃ (t:Addr) (fs:List Str),σ=[some (.ref a),some (.ref b),some (.ref c),some (.int c3),some (.ref r),some (.int (0+(i:Int))),some (.str f),some (.ref t),y,z,z2]/\Same H4 H5/\H5 t=some (tupR ("great",l::fs))/\H4 t=none/\(fs=[f]\/∃ f2,fs=[f,f2]/\Q3 ns (34+(0+(i:Int))) f2)) ?_ ?_⟩
   ·have S5:Same H4 (A0 H4 t (HO.tup [V.str (Str.ofString "great"),V.str l,V.str f])):=Same.new nt;have ht:A0 H4 t (HO.tup [V.str (Str.ofString "great"),V.str l,V.str f]) t=some (HO.tup [V.str (Str.ofString "great"),V.str l,V.str f]):=A5;generalize A0 H4 t (HO.tup [V.str (Str.ofString "great"),V.str l,V.str f])=H5 at S5 ht ⊢
    walk_at "rd";refine ⟨by lia,by lia,iteD (fun _=>⟨a,ns,_,rfl,(RA.same.trans (pX.trans S5)).seq hS,by lia,fun H6 S6=>⟨by decide,fun p np=>rAddR.t (.of (D9 (S6 _ _ ht) np)) (.of A5) (by simp) (by show 3+1<=sizeLine;decide) (by simp) fun _ t2 i0=>?_⟩⟩) fun _=>⟨S5,[f],ht,nt,.inl rfl⟩⟩;have S7:=S5.trans (S6.trans (Same.new (u:=HO.tup [V.str (one (K5 ns (34+(0+(i:Int)))))]) np));exact ⟨t2,rfl,S7.trans (Same.new i0),[f,one (K5 ns (34+(0+(i:Int))))],A5,S7.free i0,.inr ⟨_,rfl,rT ns _⟩⟩
   rintro σ H5 ⟨t,fs,rfl,S5,ht,nt,hfs⟩;have o7:=S5 _ _ (pX _ _ RA.rows.top);have hjl:=J.len;walk_at "rd";refine ⟨Q2 o7,appOk o7 (by rw [A6,RA.rows.len];exact G7 (by lia)) ⟨_,_,RA.grow (pX.trans S5) (pX.free nt) ht,?_⟩⟩;rw [i5] at hf hfs;refine J.add (alc hl (hfs.imp id fun ⟨f2,e,_⟩=>⟨f2,e⟩)) (ald (by lia) (by lia) hf hfs) (fun k hk=>?_) (fun k hk=>by lia) (fun k hk e=>?_) fun k hk=>?_
   ·unfold GS at hk;lia
   ·unfold GS at hk;lia
   ·unfold GS at hk ⊢;lia
  rintro σ H2 ⟨v,w,x,y,z,z2,ts,R,rfl,RA,J⟩;have J:OthI ns ls ms (AS 0) 3 R:=⟨J.dis.wide fun k hk=>by unfold AS;unfold GS at hk ⊢;lia,J.each,by have:=J.len;lia⟩
  walk_at "rd";refine ⟨a,ns,4,rfl,RA.same.seq hS,by decide,?_⟩;generalize cellF ns 4=c4;walk_at "rd";refine ⟨by lia,by lia,forR (fun i σ H3=>∃ (v w x y z z2:Option V) (ts:List Addr) (R:List Rl),σ=[some (.ref a),some (.ref b),some (.ref c),some (.int c4),some (.ref r),v,w,x,y,z,z2]/\RulesAt H H3 r ts R/\OthI ns ls ms (AS i) (3+i) R) ⟨v,w,x,y,z,z2,ts,R,rfl,RA,J⟩ ?_ ?_⟩
  ·clear RA J v w x y z z2;rintro i σ H3 hi ⟨v,w,x,y,z,z2,ts,R,rfl,RA,J⟩;walk_at "rd";refine ⟨a,ns,_,_,rfl,RA.same.seq hS,by lia,fun p H4 S4 hp=>⟨by decide,fun t nt=>?_⟩⟩;refine ⟨by lia,by lia,by lia,by lia,forR (fun j σ H5=>∃ (t:Addr) (qs:List Str) (y z:Option V),σ=[some (.ref a),some (.ref b),some (.ref c),some (.int c4),some (.ref r),some (.int (0+(i:Int))),w,some (.ref t),y,z,z2]/\AsR ls ms H4 H5 t p qs j) ⟨t,[],y,z,rfl,Same.new nt,A5,nt,rfl,by simp⟩ ?_ ?_⟩
   ·rintro j σ H5 hj ⟨t,qs,y,z,rfl,A⟩;walk_at "rd";obtain ⟨m,hm,uA⟩:=mul3 (i:=j) (by lia);refine ⟨by decide,fun p1 np=>⟨_,.inl (.of A5),V.int m,hm,?_⟩⟩;have S6:Same H5 (A0 H5 p1 (HO.lst [V.int 48271,V.int 69621,V.int 16807])):=Same.new np;generalize A0 H5 p1 (HO.lst [V.int 48271,V.int 69621,V.int 16807])=H6 at S6 ⊢
    walk_at "rd";have SS:=RA.same.trans (S4.trans (A.same.trans S6));have iF:=A.len;refine ⟨.inr ⟨by lia,by lia⟩,by lia,b,c,_,_,ls,ms,rfl,SS _ _ hb,SS _ _ hc,h1,h2,h3,hok,fun q H7 S7 hq=>⟨by decide,fun p2 x8=>?_⟩⟩;have ht7:A0 H7 p2 (HO.tup [V.str q]) t=some (tupR ("as",p::qs)):=D9 (S7 _ _ (S6 _ _ A.tup)) x8;have S8:Same H5 (A0 H7 p2 (HO.tup [V.str q])):=S6.trans (S7.trans (Same.new x8));have R6:A0 H7 p2 (HO.tup [V.str q]) p2=some (HO.tup [V.str q]):=A5;generalize A0 H7 p2 (HO.tup [V.str q])=H8 at ht7 S8 R6 ⊢
    refine rAddR.t (.of ht7) (.of R6) (by simp) (by simp only [A6,K3,b0];exact P5 (by lia)) (by simp) fun _ t2 i0=>⟨t2,rfl,qs++[q],A.same.trans (S8.trans (Same.new i0)),?_,(A.same.trans S8).free i0,by rw [C5,iF];rfl,fun k x hk=>?_⟩
    ·rw [A5];show some (HO.tup _)=some (HO.tup _)
     simp
    ·by_cases W1:k<qs.length
     ·rw [iL W1] at hk;exact A.ok k x hk
     ·rw [eW (by lia)] at hk;have kZ:k-qs.length=0:=by
       have:=(G1.mp hk).1
       rw [N5] at this;lia
      rw [kZ] at hk;have hx:q=x:=by simpa using hk
      subst hx;refine hq.imp id fun ⟨e,hm⟩=>⟨?_,hm⟩
      have:¬ (0+(j:Int)=0):=by simpa using e
      lia
   rintro σ H5 ⟨t,qs,y,z,rfl,A⟩;have o7:=A.same _ _ (S4 _ _ RA.rows.top);have hjl:=J.len;walk_at "rd";refine ⟨Q2 o7,appOk o7 (by rw [A6,RA.rows.len];exact G7 (by lia)) ⟨_,_,RA.grow (S4.trans A.same) (S4.free A.new) A.tup,?_⟩⟩;rw [i5] at hp;refine J.add (A.oth (by lia) (by lia)) (T:=fun k=>k=40+(i:Int)) (by rw [V5.2.1 rfl];exact gC hp) (fun k hk=>?_) (fun k hk=>by lia) (fun k hk e=>?_) fun k hk=>?_
   ·unfold AS GS at hk;lia
   ·unfold AS GS at hk;lia
   ·rcases hk with (hk | hk) | hk
    ·exact .inl hk
    ·exact .inr ⟨by lia,by lia⟩
    ·exact .inr ⟨by lia,by lia⟩
  rintro σ H3 ⟨v,w,x,y,z,z2,ts,R,rfl,RA,J⟩;walk_at "rd";refine m4 (fun σ H4=>∃ (v w x y z z2:Option V) (ts:List Addr) (R:List Rl),σ=[some (.ref a),some (.ref b),some (.ref c),some (.int c4),some (.ref r),v,w,x,y,z,z2]/\RulesAt H H4 r ts R/\OthI ns ls ms OS 7 R) ?_ ?_
  ·walk_at "rd";have hjl:=J.len;have J3:OthI ns ls ms (AS 3) 6 R:=⟨J.dis.wide fun k hk=>hk.imp id fun h=>⟨h.1,by lia⟩,J.each,by lia⟩
   refine iteD (fun _=>⟨by lia,by lia,compR [some (.ref a),some (.int c4)] rfl (fun D j ys H4=>∃ ps:List Str,ys=ps.map V.str/\Same H3 H4/\Dis ns (fun k=>50<=k/\k<50+(j:Int)) ps/\ps.length=j) (fun D nD=>⟨[],rfl,Same.new nD,Dis.nil,rfl⟩) ?_ ?_⟩) fun _=>⟨ts,R,RA,⟨J3.dis.wide fun k hk=>.inl hk,J3.each,by lia⟩⟩
   ·rintro D i ys H4 nD hi ⟨ps,rfl,S4,ds,M8⟩ hD F7;walk_at "rd";refine ⟨a,ns,_,_,rfl,(RA.same.trans S4).seq hS,by lia,fun p H5 S5 hp=>⟨S5 _ _ hD,iS F7 (R8 hi (P5 (by lia))),⟨hi,by rw [C5,N5];lia,⟨_,rfl⟩,ps++[p],by rw [D8];rfl,(S4.trans S5).put nD,?_,by rw [C5,M8];rfl⟩⟩⟩;rw [i5] at hp;exact (ds.cat (gC hp) (fun k hk=>by lia) (fun k hk=>by lia) (fun k hk e=>by lia)).wide fun k hk=>by
     rcases hk with hk | hk <;> lia
   rintro D ys H4 nD ⟨ps,rfl,S4,ds,M8⟩ hD F7;have hr4:=S4 _ _ RA.rows.top;refine ⟨Q2 hr4,by decide,fun p np=>?_⟩;have S5:Same H4 (A0 H4 p (HO.tup [V.str (Str.ofString "over")])):=Same.new np;have pY:A0 H4 p (HO.tup [V.str (Str.ofString "over")]) p=some (HO.tup [V.str (Str.ofString "over")]):=A5;generalize A0 H4 p (HO.tup [V.str (Str.ofString "over")])=H5 at S5 pY ⊢
   walk_at "rd";refine rTupR.l (.of (S5 _ _ hD)) fun t2 i0=>?_
   walk_at "rd";have hpn:ps≠[]:=fun e=>by rw [e] at M8;simp at M8;lia
   refine rAddR.t (.of (D9 pY i0)) (.of A5) (by simp) (by simp only [A6,K3,b0];exact P5 (by lia)) (fun e=>absurd (List.map_eq_nil_iff.mp e) hpn) fun _ t3 pZ=>?_
   have S6:=S4.trans (S5.trans (Same.new (u:=HO.tup (ps.map V.str)) i0));have S7:=S6.trans (Same.new (u:=HO.tup ([V.str (Str.ofString "over")]++ps.map V.str)) pZ);refine appOk (S7 _ _ RA.rows.top) (by rw [A6,RA.rows.len];exact G7 (by lia)) ⟨_,_,RA.grow S7 (S6.free pZ) (z:=("over",ps)) A5,?_⟩;refine J3.add (.inr (.inr ⟨rfl,by show ps.length<=2;lia⟩)) (T:=fun k=>50<=k/\k<52) (by rw [V5.2.2 (.inr (.inr rfl))];exact ds.wide fun k hk=>⟨hk.1,by lia⟩) (fun k hk=>?_) (fun k hk=>by lia) (fun k hk e=>?_) fun k hk=>hk
   ·unfold AS GS at hk;lia
   ·unfold AS GS at hk;lia
  rintro σ H4 ⟨v,w,x,y,z,z2,ts,R,rfl,RA,J⟩;walk_at "rd";exact q r ts R H4 RA J
theorem sc_l_rules:FnScope ["_law_script", "_law_letters_here", "_law_cell", "_law_marks", "_law_rules_here", "_law_at"] ["_law_script"] (C3 Z3):=G0
abbrev kM:List Str:=["_law_script", "_law_letters_here", "_law_cell", "_law_marks", "_law_rules_here", "_law_at"]
theorem nX:VS kM Z3 "_law_script" 0:=vq
theorem vdY:VS kM Z3 "_law_letters_here" 1:=vq
theorem sV:VS kM Z3 "_law_cell" 2:=vq
theorem yY:VS kM Z3 "_law_marks" 3:=vq
theorem gM:VS kM Z3 "_law_rules_here" 4:=vq
theorem vd2:VS kM Z3 "_law_at" 5:=vq
theorem vd3:LS Z3 "_law_letters_here":=lq
theorem vd4:LS Z3 "_law_cell":=lq
theorem vd5:LS Z3 "_law_marks":=lq
theorem vd6:LS Z3 "_law_rules_here":=lq
theorem vd7:LS Z3 "_law_at":=lq
theorem ajU(F:FunD K "_law_rules" "_law_rules" Z3 f fd)(T:Txt P w K mg C)(G_l_cell_at:FO P w K mg base 1 "_law_cell_at" ["_law_script", "_law_k"] [] (jO K))(G_l_letters:FO P w K mg base 3 "_law_letters" ["_law_script"] [] (afM K))(G_l_two:FO P w K mg base 3 "_law_two" ["_law_script", "_law_k", "_law_cell"] [] (spTwo K))(G_l_others:FO P w K mg base 4 "_law_others" ["_law_script", "_law_letters_here", "_law_marks"] [] (aiU K)):FnOk P w K mg base E8 5 f fd ["_law_script"] (aiW K):=by
 refine F.ok sc_l_rules ?_ ?_
 ·rintro _ _ _ _ ⟨a,ns,rfl,_⟩;rfl
 ·intro cdv A outer s H vs Q E hr h;have C4:=hu_of hr;have hu:=hr.units;refine ⟨_,QSs.out (A8 (D6 (n:=1) sc_l_rules.nd rfl vd3 (D0 G_l_letters (hm hr) (qa_c (vi nX) A3)))
   (A8 (D6 (n:=2) sc_l_rules.nd rfl vd4 (D0 G_l_cell_at (hm hr) (qa_c (vi nX) (qa_c A4 A3))))
   (A8 (dG (n:=3) sc_l_rules.nd rfl vd5 (Q5:CompOk ["_law_script", "_law_letters_here", "_law_cell", "_law_marks", "_law_rules_here", "_law_at"] (C3 Z3).names _ ["_law_k", "_law_script", "_law_cell"] 1 [0,2]) (qi_r1 T.b_range (qa_c (qe_op q_mod (vi sV) A4) A3)) (fun _ _ _ _ _=>D1 (n:=0) (show List.Nodup (["_law_k", "_law_script", "_law_cell"]:List Str) by decide +kernel) rfl (Or.inl rfl)) (fun _ _ _ _ _=>W3) (fun _ _ _ _ _=>(D0 G_l_two (hm hr) (qa_c (qv 1) (qa_c (qe_op (q_add (K:=K)) A4 (qv 0)) (qa_c (qe_op L9 (qv 2) A4) A3))))))
   (A8 (D6 (n:=4) sc_l_rules.nd rfl vd6 (qe_op (q_add (K:=K)) (L4 (qa_c (qe_op (q_add (K:=K)) (N9 (qa_c K0 A3)) (qe_cT (mO (K:=K)) T.b_tuple mI (qa_c (vi vdY) A3))) A3)) (D0 G_l_others (hm hr) (qa_c (vi nX) (qa_c (vi vdY) (qa_c (vi yY) A3))))))
   (m3 (qs_if (F6 (q_ne (K:=K) hu) (vi yY) (L4 A3)) (A7 (O4 (qe_mB (K:=K) Q1 V0 U9 V3 (vi gM) (qa_c (qe_op (q_add (K:=K)) (N9 (qa_c K0 A3)) (qe_cT (mO (K:=K)) T.b_tuple mI (qa_c (vi yY) A3))) A3)))) G8)
   (A8 (D6 (n:=2) sc_l_rules.nd rfl vd4 (D0 G_l_cell_at (hm hr) (qa_c (vi nX) (qa_c A4 A3))))
   (m3 (qs_if (F6 (q_eq (K:=K) hu) (qe_op q_mod (qe_op L9 (D0 G_l_cell_at (hm hr) (qa_c (vi nX) (qa_c A4 A3))) A4) A4) A4) (A7 (O4 (qe_mB (K:=K) Q1 V0 U9 V3 (vi gM) (qa_c (N9 (qa_c K0 A3)) A3)))) G8)
   (m3 (qs_if (F6 (q_eq (K:=K) hu) (qe_op q_mod (vi sV) A4) A4) (A7 (O4 (qe_mB (K:=K) Q1 V0 U9 V3 (vi gM) (qa_c (N9 (qa_c K0 A3)) A3)))) G8)
   (m3 (qs_if (F6 (q_eq (K:=K) hu) (qe_op q_mod (qe_op L9 (vi sV) A4) A4) A4) (A7 (O4 (qe_mB (K:=K) Q1 V0 U9 V3 (vi gM) (qa_c (N9 (qa_c K0 A3)) A3)))) G8)
   (A8 (D6 (n:=5) sc_l_rules.nd rfl vd7 (qe_op q_mod (qe_op L9 (vi sV) A4) (qe_cB (q_len (K:=K)) T.b_len O8 (qa_c (vi gM) A3))))
   (A7 (E3 (qe_op (q_add (K:=K)) (N7 (K:=K) (vi gM) (L6 (vi vd2)) P6) (N7 (K:=K) (vi gM) P6 (L6 (vi vd2)))))))))))))))),?_⟩
  obtain ⟨a,ns,rfl,hS,q⟩:=h;walk_at "rd";refine ⟨a,ns,rfl,hS,fun b ls H1 JL=>⟨a,ns,3,rfl,JL.same.seq hS,by decide,?_⟩⟩;generalize cellF ns 3=c3;walk_at "rd";refine ⟨by lia,by lia,compR [some (.ref a),some (.int c3)] rfl (fun D j ys H4=>∃ ps:List Str,ys=ps.map V.str/\Same H1 H4/\Dis ns (fun k=>20<=k/\k<20+(j:Int)) ps/\ps.length=j) (fun D nD=>⟨[],rfl,Same.new nD,Dis.nil,rfl⟩) ?_ ?_⟩
  ·rintro D i ys H4 nD hi ⟨ps,rfl,S4,ds,M8⟩ hD F7;walk_at "rd";refine ⟨a,ns,_,_,rfl,(JL.same.trans S4).seq hS,by lia,fun p H5 S5 hp=>⟨S5 _ _ hD,iS F7 (R8 hi (P5 (by lia))),⟨hi,by rw [C5,N5];lia,⟨_,rfl⟩,ps++[p],by rw [D8];rfl,(S4.trans S5).put nD,?_,by rw [C5,M8];rfl⟩⟩⟩;rw [i5] at hp;exact (ds.cat (gC hp) (fun k hk=>by lia) (fun k hk=>by lia) (fun k hk e=>by lia)).wide fun k hk=>by
    rcases hk with hk | hk <;> lia
  rintro c ys H2 nc ⟨ms,rfl,S2,ds,M8⟩ hc F7;have pR:Dis ns MarkS ms:=ds.wide fun k hk=>⟨hk.1,by lia⟩
  have tY:ms.length<=4:=by lia
  clear ds M8 F7;have tM:=S2 _ _ JL.lst;have eU:=JL.same.trans S2;have h0:=JL.lo;have h1:=JL.hi;have cL:∀ p∈ms,V1 p=true:=fun p hp=>by
   obtain ⟨k,_,hk⟩:=pR.pc p hp;exact (fR hk.ok.1).1
  have hln:ls≠[]:=fun e=>by rw [e] at h0;simp at h0
  refine ⟨by decide,fun p np=>?_⟩;have S3:Same H2 (A0 H2 p (HO.tup [V.str (Str.ofString "row")])):=Same.new np;have Q8:A0 H2 p (HO.tup [V.str (Str.ofString "row")]) p=some (HO.tup [V.str (Str.ofString "row")]):=A5;generalize A0 H2 p (HO.tup [V.str (Str.ofString "row")])=H3 at S3 Q8 ⊢
  refine rTupR.l (.of (S3 _ _ tM)) fun t nt=>?_
  walk_at "rd";refine rAddR.t (.of (D9 Q8 nt)) (.of A5) (by simp) (by simp only [A6,K3,b0];exact P5 (by lia)) (fun e=>absurd (List.map_eq_nil_iff.mp e) hln) fun _ t2 i0=>⟨by decide,fun l1 aR=>?_⟩
  have S4:=S3.trans (Same.new (u:=HO.tup (ls.map V.str)) nt);have nt20:H t2=none:=(eU.trans S4).free i0;have S5:=(S4.trans (Same.new (u:=HO.tup ([V.str (Str.ofString "row")]++ls.map V.str)) i0)).trans (Same.new (u:=HO.lst [V.ref t2]) aR);have eS:=D9 (u:=HO.lst [V.ref t2]) (A5 (H:=A0 H3 t (HO.tup (ls.map V.str))) (a:=t2) (o:=HO.tup ([V.str (Str.ofString "row")]++ls.map V.str))) aR;have cH:=A5 (H:=A0 (A0 H3 t (HO.tup (ls.map V.str))) t2 (HO.tup ([V.str (Str.ofString "row")]++ls.map V.str))) (a:=l1) (o:=HO.lst [V.ref t2]);generalize A0 (A0 (A0 H3 t (HO.tup (ls.map V.str))) t2 (HO.tup ([V.str (Str.ofString "row")]++ls.map V.str))) l1 (HO.lst [V.ref t2])=H5 at S5 eS cH ⊢
  have Z7:=eU.trans S5;refine ⟨a,b,c,ns,ls,ms,rfl,Z7.seq hS,S5 _ _ tM,S5 _ _ hc,by lia,by lia,by lia,cL,fun l2 ts R H6 RA OI=>?_⟩;walk_at "rd";have hol:=OI.len;refine rAddR.l (RA.same _ _ cH) RA.rows.top (by rw [A6,RA.rows.len,N5];exact P5 (by lia)) fun r nr=>?_
  have RB:RulesAt H (A0 H6 r (HO.lst ([V.ref t2]++ts.map V.ref))) r (t2::ts) ((("row" : Str),ls)::R):=by
   have n2:t2∉ts:=fun e=>by have:=RA.new t2 (M3 _ e);rw [eS] at this;cases this
   have n3:∀ x∈t2::ts,r≠x:=fun x hx e=>by
    rcases F9.mp hx with q | q
    ·rw [e,q,RA.same _ _ eS] at nr;cases nr
    ·obtain ⟨o,ho⟩:=RA.live (M3 _ q);rw [e,ho] at nr;cases nr
   refine ⟨⟨A5,.cons (D9 (RA.same _ _ eS) nr) (N0 RA.rows.row fun x z e=>D9 e nr)⟩,U8.mpr ⟨fun e=>n3 r e rfl,U8.mpr ⟨n2,(U8.mp RA.nd).2⟩⟩,fun x hx=>?_,(Z7.trans RA.same).trans (Same.new nr)⟩
   rcases F9.mp hx with q | q
   ·rw [q];exact (Z7.trans RA.same).free nr
   ·rcases F9.mp q with q | q
    ·rw [q];exact nt20
    ·exact Z7.free (RA.new x (M3 _ q))
  have pJ:A0 H6 r (HO.lst ([V.ref t2]++ts.map V.ref)) c=some (HO.lst (ms.map V.str)):=D9 (RA.same _ _ (S5 _ _ hc)) nr;have P0:=aoX JL.dis OI;generalize A0 H6 r (HO.lst ([V.ref t2]++ts.map V.ref))=H7 at RB pJ ⊢
  generalize (("row" : Str),ls)::R=R at RB P0;generalize t2::ts=ts at RB;refine m4 (fun σ H8=>∃ (bb:Bool) (ts:List Addr) (R:List Rl),σ=[some (.ref a),some (.ref b),some (.int c3),some (.ref c),some (.ref r),none]/\RulesAt H H8 r ts R/\RulP ns ls ms bb 9 R/\(bb=false->ms=[])) ?_ ?_
  ·walk_at "rd";intro e ne;have S8:Same H7 (A0 H7 e (.lst [])):=Same.new ne;have he8:A0 H7 e (.lst []) e=some (.lst (([]:List Str).map V.str)):=A5;generalize A0 H7 e (.lst [])=H8 at S8 he8 ⊢
   refine ⟨_,.lst (.of (S8 _ _ pJ)) (l8 cL),_,.lst (.of he8) (l8 (by simp)),by rw [k8,mL];exact L3 (iT _ _) (by decide),?_⟩;rw [aiD];have RC:=RB.more S8;have M8:=P0.len;refine iteN (fun L0=>⟨Q2 RC.rows.top,by decide,fun p np=>?_⟩) fun he=>⟨false,ts,R,RC,P0.wide (by lia),fun _=>he⟩
   have S9:Same H8 (A0 H8 p (HO.tup [V.str (Str.ofString "marks")])):=Same.new np;have qA:A0 H8 p (HO.tup [V.str (Str.ofString "marks")]) p=some (HO.tup [V.str (Str.ofString "marks")]):=A5;generalize A0 H8 p (HO.tup [V.str (Str.ofString "marks")])=H9 at S9 qA ⊢
   refine rTupR.l (.of (S9 _ _ (S8 _ _ pJ))) fun t nt=>?_
   walk_at "rd";refine rAddR.t (.of (D9 qA nt)) (.of A5) (by simp) (by simp only [A6,K3,b0];exact P5 (by lia)) (fun e=>absurd (List.map_eq_nil_iff.mp e) L0) fun _ t3 pZ=>?_
   have p7:=S9.trans (Same.new (u:=HO.tup (ms.map V.str)) nt);have S11:=p7.trans (Same.new (u:=HO.tup ([V.str (Str.ofString "marks")]++ms.map V.str)) pZ);exact appOk (S11 _ _ RC.rows.top) (by rw [A6,RC.rows.len];exact G7 (by lia)) ⟨true,_,_,RC.grow S11 (p7.free pZ) (z:=("marks",ms)) A5,P0.marks pR,by simp⟩
  rintro σ H8 ⟨bb,ts,R,rfl,RA,P,zS⟩;walk_at "rd";refine ⟨a,ns,5,rfl,RA.same.seq hS,by decide,?_⟩;generalize cellF ns 5=c5;refine m4 (fun σ H8=>∃ (ts:List Addr) (R:List Rl),σ=[some (.ref a),some (.ref b),some (.int c5),some (.ref c),some (.ref r),none]/\RulesAt H H8 r ts R/\RulP ns ls ms bb 10 R) ?_ ?_
  ·walk_at "rd";refine ⟨a,ns,1,rfl,RA.same.seq hS,by decide,_,rfl,iteD (fun e=>wY RA P (by decide) (.inl rfl) fun _=>?_) fun _=>⟨ts,R,RA,P.wide (by decide)⟩⟩;unfold P9;exact decide_eq_false (by lia)
  clear RA P ts R;rintro σ H9 ⟨ts,R,rfl,RA,P⟩;refine m4 (fun σ H8=>∃ (ts:List Addr) (R:List Rl),σ=[some (.ref a),some (.ref b),some (.int c5),some (.ref c),some (.ref r),none]/\RulesAt H H8 r ts R/\RulP ns ls ms bb 11 R) ?_ ?_
  ·walk_at "rd";exact iteD (fun e=>wY RA P (by decide) (.inr (.inl rfl)) fun e=>absurd e (by decide +kernel)) fun _=>⟨ts,R,RA,P.wide (by decide)⟩
  clear RA P ts R;rintro σ W8 ⟨ts,R,rfl,RA,P⟩;refine m4 (fun σ H8=>∃ (ts:List Addr) (R:List Rl),σ=[some (.ref a),some (.ref b),some (.int c5),some (.ref c),some (.ref r),none]/\RulesAt H H8 r ts R/\RulP ns ls ms bb 12 R) ?_ ?_
  ·walk_at "rd";exact iteD (fun e=>wY RA P (by decide) (.inr (.inr rfl)) fun e=>absurd e (by decide +kernel)) fun _=>⟨ts,R,RA,P.wide (by decide)⟩
  clear RA P ts R;rintro σ pM ⟨ts,R,rfl,RA,P⟩;have hl:=P.len;have cJ:=RA.rows.len;have hR1:1<=R.length:=by
   have:=P.row
   cases R with
   | nil=>exact absurd this (by simp [rowsW])
   | cons z R=>simp
  walk_at "rd";obtain ⟨t,ht,kY⟩:∃ t:Nat,c5 / 6 % (R.length:Int)=(t:Int)/\t<R.length:=⟨(c5 / 6 % (R.length:Int)).toNat,by
   have:=i4 (c5 / 6) (show (R.length:Int)≠0 by lia)
   lia,by
   have:=k9 (c5 / 6) (show 0<(R.length:Int) by lia)
   lia⟩
  refine ⟨R.length,.inl ⟨_,.of RA.rows.top,by rw [A6,cJ]⟩,by lia,?_⟩;rw [ht];refine rSlR.l (.of RA.rows.top) fun l1 aR=>rSlR.l (.of (D9 RA.rows.top aR)) fun l2 iI=>?_
  rw [m5,<- y9] at iI ⊢
  rw [bI,<- k5];walk_at "rd";have A1:=ak8 RA.rows t aR;have A2:=aoW (RA.rows.same (Same.new (u:=HO.lst ((ts.drop t).map V.ref)) aR)) t iI;have A1':=A1.same (Same.new (u:=HO.lst ((ts.take t).map V.ref)) iI);have p5:Same pM (A0 (A0 pM l1 (HO.lst ((ts.drop t).map V.ref))) l2 (HO.lst ((ts.take t).map V.ref))):=(Same.new aR).trans (Same.new iI);generalize A0 (A0 pM l1 (HO.lst ((ts.drop t).map V.ref))) l2 (HO.lst ((ts.take t).map V.ref))=H12 at A2 A1' p5 ⊢
  refine rAddR.l A1'.top A2.top (by simp only [A6,W2,E7];exact P5 (by lia)) fun l3 p8=>?_
  refine q l3 _ _ ls ms _ ((RA.same.trans p5).trans (Same.new p8)) ((RA.same.trans p5).free p8) (A1'.cat A2 p8) ⟨⟨bb,P.turn t,zS⟩,h0,by lia,JL.dis,JL.wd,tY,pR⟩
theorem sc_l_row_of:FnScope ["_law_rules_here", "_law_word", "_law_found", "_law_rule"] ["_law_rules_here", "_law_word"] (C3 bP):=G0
abbrev sW:List Str:=["_law_rules_here", "_law_word", "_law_found", "_law_rule"]
theorem vd8:VS sW bP "_law_rules_here" 0:=vq
theorem vd9:VS sW bP "_law_word" 1:=vq
theorem vea:VS sW bP "_law_found" 2:=vq
theorem veb:VS sW bP "_law_rule" 3:=vq
theorem vec:LS bP "_law_found":=lq
theorem ved:LS bP "_law_rule":=lq
theorem ais(F:FunD K "_law_row_of" "_law_row_of" bP f fd)(T:Txt P w K mg C):FnOk P w K mg base E8 1 f fd ["_law_rules_here", "_law_word"] (xH K):=by
 refine F.ok sc_l_row_of ?_ ?_
 ·rintro _ _ _ _ ⟨a,ts,R,w,rfl,_⟩;rfl
 ·intro cdv A outer s H vs Q E hr h;have C4:=hu_of hr;have hu:=hr.units;refine ⟨_,QSs.out (A8 (D6 (n:=2) sc_l_row_of.nd rfl vec (L4 A3))
   (A8 (L7 PassesOwn.never (O2 (K:=K) (vi vd8)) (D1 (n:=3) sc_l_row_of.nd rfl ved (.inl rfl)) (A7 (qs_if (F6 (q_eq (K:=K) hu) (qe_ix (K:=K) (vi veb) A4) (vi vd9)) (A7 (D6 (n:=2) sc_l_row_of.nd rfl vec (qe_op (q_add (K:=K)) (vi vea) (qe_cT (t9 (K:=K) (calm:=true)) T.b_list t8 (qa_c (N7 (K:=K) (vi veb) (L6 A4) P6) A3))))) G8)))
   (A7 (E3 (vi vea))))),?_⟩
  obtain ⟨a,ts,R,w,rfl,hR,hl,hz,q⟩:=h;walk_at "rd";intro f nf;refine ⟨⟨_,.of (D9 hR.top nf)⟩,forL (xs:=ts.map V.ref) (fun i σ H2=>∃ (l:Addr) (u:Option V),σ=[some (.ref a),some (.str w),some (.ref l),u]/\Same H H2/\H l=none/\H2 l=some (.lst ((rowsW (R.take i) w).flatten.map V.str))/\(rowsW (R.take i) w).flatten.length<=100*i) ⟨f,none,rfl,Same.new nf,nf,A5,G2 _⟩ (by rintro i σ H2 _ ⟨_,_,_,S,_⟩;exact .of (S _ _ hR.top)) ?_ ?_⟩
  ·rintro i x σ H2 hx ⟨l,u,rfl,S,nl,T3,hle⟩;obtain ⟨t,ht,rfl⟩:=G5 hx;obtain ⟨z,qB,D7⟩:=Paired.at hR.row ht;have P1:=hz z (M9 qB);have hi:i<R.length:=(G1.mp qB).1;have hT:C7 K H2 t ((z.1::z.2).map V.str):=.of (S _ _ D7);walk_at "rd";refine ⟨_,.inr hT,V.str z.1,U4 _ _,?_⟩;walk_at "rd";refine iteD (fun e=>rSlR.t hT (m7 (k:=1) (by decide) (by simp)) fun s ns=>?_) fun e=>?_
   ·rw [K4,vT];walk_at "rd";refine rListR.l (.inr (.of A5)) fun s2 eP=>?_
    walk_at "rd";refine rAddR.l (D9 (D9 T3 ns) eP) A5 (by rw [A6,A6];exact P5 (by lia)) fun s3 ns3=>?_
    have S2:=S.trans ((Same.new (u:=HO.tup (z.2.map V.str)) ns).trans (Same.new (u:=HO.lst (z.2.map V.str)) eP));rw [afR qB,if_pos e];exact ⟨s3,rfl,S2.trans (Same.new ns3),S2.free ns3,by rw [A5,D8],by rw [C5];lia⟩
   ·rw [afR qB,if_neg e];exact ⟨S,nl,T3,by lia⟩
  rintro σ H2 ⟨l,u,rfl,S,nl,T3,hle⟩;rw [A6,hR.len,G4] at T3;walk_at "rd";exact q l H2 nl S T3
theorem sc_l_forms:FnScope ["_law_rules_here", "_law_makes_here", "_law_k", "_law_case", "_law_other", "_law_j"] ["_law_rules_here", "_law_makes_here"] (C3 j3):=G0
abbrev kN:List Str:=["_law_rules_here", "_law_makes_here", "_law_k", "_law_case", "_law_other", "_law_j"]
theorem gN:VS kN j3 "_law_rules_here" 0:=vq
theorem vef:VS kN j3 "_law_makes_here" 1:=vq
theorem kO:VS kN j3 "_law_k" 2:=vq
theorem veh:VS kN j3 "_law_case" 3:=vq
theorem vei:VS kN j3 "_law_other" 4:=vq
theorem vej:VS kN j3 "_law_j" 5:=vq
theorem vek:LS j3 "_law_k":=lq
theorem vel:LS j3 "_law_case":=lq
theorem vem:LS j3 "_law_other":=lq
theorem ven:LS j3 "_law_j":=lq
theorem ajV(F:FunD K "_law_forms" "_law_forms" j3 f fd)(T:Txt P w K mg C):FnOk P w K mg base E8 1 f fd ["_law_rules_here", "_law_makes_here"] (ahg K):=by
 refine F.ok sc_l_forms ?_ ?_
 ·rintro _ _ _ _ ⟨a,d,ts,R,ns,ls,ms,P,H0,rfl,_⟩;rfl
 ·intro cdv A outer s H vs Q E hr h;have C4:=hu_of hr;have hu:=hr.units;refine ⟨_,QSs.out (A7 (L7 PassesOwn.never (qi_r1 T.b_range (qa_c (qe_cB (q_len (K:=K)) T.b_len O8 (qa_c (vi gN) A3)) A3)) (D1 (n:=2) sc_l_forms.nd rfl vek (.inl rfl)) (A7 (qs_if (F6 (q_eq (K:=K) hu) (qe_ix (K:=K) (qe_ix (K:=K) (vi gN) (vi kO)) A4) K0) (A8 (D6 (n:=3) sc_l_forms.nd rfl vel A4)
   (A8 (L7 PassesOwn.never (O2 (K:=K) (N7 (K:=K) (vi gN) P6 (L6 (vi kO)))) (D1 (n:=4) sc_l_forms.nd rfl vem (.inl rfl)) (A7 (qs_if (F6 (q_eq (K:=K) hu) (N7 (K:=K) (vi vei) P6 (L6 A4)) (N7 (K:=K) (qe_ix (K:=K) (vi gN) (vi kO)) P6 (L6 A4))) (A7 (D6 (n:=3) sc_l_forms.nd rfl vel (qe_op q_sub (qe_op (q_add (K:=K)) (vi veh) (qe_cB (q_len (K:=K)) T.b_len O8 (qa_c (vi vei) A3))) A4))) G8)))
   (A7 (L7 PassesOwn.never (qi_r2 T.b_range (qa_c A4 (qa_c (qe_cB (q_len (K:=K)) T.b_len O8 (qa_c (qe_ix (K:=K) (vi gN) (vi kO)) A3)) A3))) (D1 (n:=5) sc_l_forms.nd rfl ven (.inl rfl)) (A7 (Z2 C4 (vi vef) (qe_ix (K:=K) (qe_ix (K:=K) (vi gN) (vi kO)) (vi vej)) (L4 (qa_c (N9 (qa_c A4 (qa_c (qe_ix (K:=K) (qe_ix (K:=K) (c9 C4 (vi vef) (qe_ix (K:=K) (qe_ix (K:=K) (vi gN) (vi kO)) A4)) A4) A4) (qa_c (qe_op q_sub (qe_op (q_add (K:=K)) (vi veh) (vi vej)) A4) A3)))) A3)))))))) G8)))),?_⟩
  obtain ⟨a,d,ts,R,ns,ls,ms,P,H0,rfl,nd,hR,hR0,G,hL,hM,J,hlP,hPl,q⟩:=h;have md:=wR G.good hL hM;have hRl:=G.len;have hfA:∀ n,(O9 (R.take n)).length<=10000:=fun n=>by
   have h1:(O9 (R.take n)).length<=(C8 (R.take n)).length:=by
    unfold O9;rw [<- aE,A6];exact lO _ _
   obtain ⟨more,e⟩:=wD R n;have h2:=G.good.plen;rw [e,C5] at h2;lia
  have hgr:∀ z∈R,z.1=("great" : Str)->∃ l fs,z=(("great" : Str),l::fs)/\l∈ls:=fun z hz e=>by
   rcases G.each hz with rfl | rfl | o | o
   ·exact absurd (show Str.ofString "row"=_ from e) (by decide +kernel)
   ·exact absurd (show Str.ofString "marks"=_ from e) (by decide +kernel)
   ·rcases o with ⟨_,l,fs,e2,hl,_⟩ | ⟨e2,_⟩ | ⟨e2,_⟩
    ·exact ⟨l,fs,Prod.ext e e2,hl⟩
    ·rw [e2] at e;exact absurd e (by decide +kernel)
    ·rw [e2] at e;exact absurd e (by decide +kernel)
   ·exact absurd e o.2.no.2.2.1
  walk_at "rd";refine ⟨R.length,.inl ⟨_,.of hR.top,by rw [A6,hR.len]⟩,by lia,by lia,forR (fun i σ H2=>∃ (u v w x:Option V),σ=[some (.ref a),some (.ref d),u,v,w,x]/\MkI H0 H2 d (P++O9 (R.take i)) (stepF R ls ms)) ⟨none,none,none,none,rfl,by rw [b8,show O9 []=[] from rfl,L1];exact J⟩ ?_ ?_⟩
  ·clear J;rintro i σ H2 hi ⟨u,v,w,x,rfl,J⟩;have hi:i<R.length:=by lia
   have hit:i<ts.length:=by rw [hR.len];exact hi
   have hz:R[i]?=some R[i]:=K8 hi;have pV:ts[i]?=some ts[i]:=K8 hit;generalize qB:R[i]=z at hz;generalize ts[i]=t at pV;obtain ⟨z',eG,D7⟩:=Paired.at hR0.row pV;rw [hz] at eG;cases eG;have g9:=M9 hz;have K6:J8 (ts.map V.ref) (0+(i:Int))=some (V.ref t):=by rw [i5];exact O1 (by rw [V7,pV];rfl)
   have hT:C7 K H2 t ((z.1::z.2).map V.str):=.of (J.same _ _ D7);walk_at "rd";refine ⟨_,.inl (.of (J.same _ _ hR0.top)),_,K6,?_⟩;walk_at "rd";refine ⟨_,.inr hT,V.str z.1,U4 _ _,?_⟩;walk_at "rd";refine iteD (fun e=>?_) fun e=>by rw [ae7 hz,aln e,L1];exact J
   obtain ⟨l,fs,rfl,hl⟩:=hgr z g9 e;have iE:l∈F8 R:=mem_formKs.mpr ⟨(l,fs),fB.mpr ⟨_,g9,by rw [if_pos rfl];rfl⟩,rfl⟩;refine rSlR.l (.of (J.same _ _ hR0.top)) fun s eP=>?_
   rw [show cutV (ts.map V.ref) none (some (0+(i:Int)))=(ts.take i).map V.ref by rw [i5,bI,k5]];have S3:Same H2 (A0 H2 s (.lst ((ts.take i).map V.ref))):=Same.new eP;have iJ:A0 H2 s (.lst ((ts.take i).map V.ref)) s=some (.lst ((ts.take i).map V.ref)):=A5;generalize A0 H2 s (.lst ((ts.take i).map V.ref))=H3 at S3 iJ;have J3:=J.more S3;clear hT J;refine ⟨s,rfl,⟨_,.of iJ⟩,forL (xs:=(ts.take i).map V.ref) (fun m σ H4=>∃ (w:Option V),σ=[some (.ref a),some (.ref d),some (.int (0+(i:Int))),some (.int (1+((E4 (R.take m) l).length:Int))),w,x]/\Same H3 H4) ⟨w,by rfl,aD _⟩ (by rintro m σ H4 _ ⟨_,_,S⟩;exact .of (S _ _ iJ)) ?_ ?_⟩
   ·rintro m y σ H4 hy ⟨w,rfl,S4⟩;obtain ⟨t2,ht2,rfl⟩:=G5 hy;have hmi:m<i:=by
     have:=(G1.mp ht2).1
     rw [E7] at this;lia
    rw [eY hmi] at ht2;obtain ⟨z2,hz2,qC⟩:=Paired.at hR0.row ht2;have hz2m:=M9 hz2;have J4:=J3.more S4;have hT2:C7 K H4 t2 ((z2.1::z2.2).map V.str):=.of (J4.same _ _ qC);walk_at "rd";refine Y0 hT2 fun p1 H5 S5 Z9=>?_
    have J5:=J4.more S5;have hT5:C7 K H5 t (((("great" : Str),l::fs).1::(("great" : Str),l::fs).2).map V.str):=.of (J5.same _ _ D7);refine ⟨_,.inl (.of (J5.same _ _ hR0.top)),_,K6,?_⟩
    try walk_at "rd"
    refine Y0 hT5 fun p2 H6 S6 R6=>?_
    rw [<- k5] at Z9 R6;have ok1:∀ y∈(z2.1::z2.2).take 2,V1 y=true:=fun y hy=>G.str z2 hz2m y (eZ hy)
    have ok2:∀ y∈(("great" : Str)::l::fs).take 2,V1 y=true:=fun y hy=>G.str _ g9 y (eZ hy)
    try walk_at "rd"
    refine ⟨_,.tup (C7.same S6 Z9) (l8 ok1),_,.tup R6 (l8 ok2),by rw [k8,mL];exact L3 (iT _ _) (by decide),?_⟩;rw [ai1];have lG:=S4.trans (S5.trans S6);refine iteD (fun ee=>?_) fun ee=>?_
    ·obtain ⟨fs2,rfl⟩:=ah3 (show (z2.1::z2.2).take 2=[("great" : Str),l] from ee);have hT6:C7 K H6 t2 (((("great" : Str),l::fs2).1::(("great" : Str),l::fs2).2).map V.str):=C7.same (S5.trans S6) hT2;refine ⟨fs2.length+2,.inr (.inl ⟨_,hT6,by simp⟩),?_⟩;rw [K7 hz2,jT,if_pos rfl,C5];exact ⟨by lia,lG⟩
    ·have e0:E4 (R.take (m+1)) l=E4 (R.take m) l:=by rw [K7 hz2];exact agm ee
     rw [e0];exact ⟨rfl,lG⟩
   rintro σ H4 ⟨w,rfl,S4⟩;rw [A6,E7,cV (by lia:i<=ts.length)];have J4:=J3.more S4;have hT4:C7 K H4 t (((("great" : Str),l::fs).1::(("great" : Str),l::fs).2).map V.str):=.of (J4.same _ _ D7);walk_at "rd";refine ⟨_,.inl (.of (J4.same _ _ hR0.top)),_,K6,?_⟩;walk_at "rd";refine ⟨fs.length+2,.inr (.inl ⟨_,hT4,by simp⟩),?_⟩;have Z6:fs.length<=100:=by have:=G.zl g9;simp only [K3] at this;lia
   have hfAi:=hfA i;have est:E4 (R.take (i+1)) l=E4 (R.take i) l++fs:=by rw [K7 hz,jT,if_pos rfl]
   have lF:∀ j,j<fs.length->(E4 R l)[(E4 (R.take i) l).length+j]?=fs[j]?:=fun j hj=>by
    have e1:E4 R l=E4 (R.take (i+1)) l++E4 (R.drop (i+1)) l:=by
     unfold E4;rw [<- X4,<- cS,<- fY,T9]
    rw [e1,est,O3,eW (z0 _ _),Nat.add_sub_cancel_left,iL hj]
   refine ⟨by decide,by decide,by lia,by lia,forR (fun jj σ H5=>∃ (x:Option V),σ=[some (.ref a),some (.ref d),some (.int (0+(i:Int))),some (.int (1+((E4 (R.take i) l).length:Int))),w,x]/\MkI H0 H5 d (P++O9 (R.take i)++fs.take jj) (stepF R ls ms)) ⟨x,rfl,by rw [b8,L1];exact J4⟩ ?_ ?_⟩
   ·clear J4 hT4;rintro jj σ H5 hjj ⟨x,rfl,J5⟩;have hjj:jj<fs.length:=by lia
    have hf:fs[jj]?=some fs[jj]:=K8 hjj;generalize fs[jj]=f at hf;have hT5:C7 K H5 t (((("great" : Str),l::fs).1::(("great" : Str),l::fs).2).map V.str):=.of (J5.same _ _ D7);obtain ⟨ad,h1,h2⟩:=J5.made;have K2:l∈G3 [] (P++O9 (R.take i)++fs.take jj):=(j0 _ _ _).mpr (.inr (R7 _ (R7 _ (hlP l hl))));obtain ⟨tt,e1,e2⟩:=(h2 l K2).ex;rw [md.letter hl] at e2;obtain ⟨t0,rfl,e3⟩:∃ t0,tt=[t0]/\H5 t0=some (tupT (2,(ls.idxOf l:Int),0)):=by
     cases e2 with
     | cons h t=>cases t;exact ⟨_,rfl,h⟩
    have hat2:J8 (((("great" : Str),l::fs).1::(("great" : Str),l::fs).2).map V.str) (2+(jj:Int))=some (V.str f):=by
     rw [show (2+(jj:Int))=((jj+2:Nat):Int) by lia];exact O1 (by rw [V7];show (fs[jj]?).map V.str=_;rw [hf];rfl)
    walk_at "rd";refine ⟨_,.inl (.of (J5.same _ _ hR0.top)),_,K6,?_⟩;walk_at "rd";refine ⟨_,.inr hT5,V.str l,O1 (j:=1) rfl,V.ref (ad l),.inl ⟨_,Sum.inr l,.inl h1,rfl,by rw [P7,if_pos K2]⟩,?_⟩;walk_at "rd";refine ⟨_,.inl (.of e1),V.ref t0,U4 _ _,?_⟩;walk_at "rd";refine ⟨_,.inr (.of e3),V.int (ls.idxOf l:Int),O1 (j:=1) rfl,by decide,fun p1 N1=>⟨by decide,fun p2 x8=>?_⟩⟩;have S6:Same H5 (A0 (A0 H5 p1 (.tup [V.int 2,V.int (ls.idxOf l:Int),V.int (1+((E4 (R.take i) l).length:Int)+(2+(jj:Int))-2)])) p2 (.lst [V.ref p1])):=(Same.new N1).trans (Same.new x8);have T7:StepL (A0 (A0 H5 p1 (.tup [V.int 2,V.int (ls.idxOf l:Int),V.int (1+((E4 (R.take i) l).length:Int)+(2+(jj:Int))-2)])) p2 (.lst [V.ref p1])) p2 (stepF R ls ms f):=by
     rw [md.gr l iE ((E4 (R.take i) l).length+jj) f (by rw [lF jj hjj];exact hf)];refine StepL.one A5 ?_;rw [show ((((E4 (R.take i) l).length+jj+1:Nat)):Int)=1+((E4 (R.take i) l).length:Int)+(2+(jj:Int))-2 by lia];exact D9 A5 x8
    generalize A0 (A0 H5 p1 (.tup [V.int 2,V.int (ls.idxOf l:Int),V.int (1+((E4 (R.take i) l).length:Int)+(2+(jj:Int))-2)])) p2 (.lst [V.ref p1])=H6 at S6 T7;have J6:=J5.more S6;refine ⟨_,.inl (.of (J6.same _ _ hR0.top)),_,K6,?_⟩;walk_at "rd";refine ⟨_,.inr (C7.same S6 hT5),V.str f,hat2,?_⟩;rw [K7 hf,<- O3];exact J6.put nd (by simp only [C5,E7];lia) T7
   ·rintro σ H5 ⟨x,rfl,J5⟩;rw [show (((fs.length+2:Nat):Int)-2).toNat=fs.length by lia,G4] at J5;refine ⟨⟨_,_,_,_,rfl⟩,?_⟩;rw [ae7 hz,ajK,<- O3];exact J5
  rintro σ H2 ⟨u,v,w,x,rfl,J⟩;rw [show ((R.length:Int)).toNat=R.length by lia,G4] at J;exact q H2 J
theorem sc_l_makes:FnScope ["_law_rules_here", "_law_makes_here", "_law_place", "_law_piece", "_law_rule"] ["_law_rules_here"] (C3 j4):=G0
abbrev nY:List Str:=["_law_rules_here", "_law_makes_here", "_law_place", "_law_piece", "_law_rule"]
theorem kP:VS nY j4 "_law_rules_here" 0:=vq
theorem gO:VS nY j4 "_law_makes_here" 1:=vq
theorem veq:VS nY j4 "_law_place" 2:=vq
theorem yZ:VS nY j4 "_law_piece" 3:=vq
theorem zA:VS nY j4 "_law_rule" 4:=vq
theorem vet:LS j4 "_law_makes_here":=lq
theorem veu:LS j4 "_law_place":=lq
theorem zB:LS j4 "_law_piece":=lq
theorem vew:LS j4 "_law_rule":=lq
theorem ajW(F:FunD K "_law_makes" "_law_makes" j4 f fd)(T:Txt P w K mg C)(G_l_row_of:FO P w K mg base 1 "_law_row_of" ["_law_rules_here", "_law_word"] [] (xH K))(G_l_forms:FO P w K mg base 1 "_law_forms" ["_law_rules_here", "_law_makes_here"] [] (ahg K)):FnOk P w K mg base E8 2 f fd ["_law_rules_here"] (alp K):=by
 refine F.ok sc_l_makes ?_ ?_
 ·rintro _ _ _ _ ⟨a,ts,R,ns,ls,ms,rfl,_⟩;rfl
 ·intro cdv A outer s H vs Q E hr h;have C4:=hu_of hr;have hu:=hr.units;refine ⟨_,QSs.out (A8 (D6 (n:=1) sc_l_makes.nd rfl vet fT)
   (A8 (L7 PassesOwn.never (mR T.b_enumerate (qa_c (D0 G_l_row_of (hm hr) (qa_c (vi kP) (qa_c K0 A3))) A3)) (bH (K:=K) (n:=2) (T5 ((D1 (n:=2) sc_l_makes.nd rfl veu (.inl rfl))) (T5 ((D1 (n:=3) sc_l_makes.nd rfl zB (.inl rfl))) bG))) (A7 (Z2 C4 (vi gO) (vi yZ) (L4 (qa_c (N9 (qa_c A4 (qa_c (vi veq) (qa_c A4 A3)))) A3)))))
   (A8 (L7 PassesOwn.never (mR T.b_enumerate (qa_c (D0 G_l_row_of (hm hr) (qa_c (vi kP) (qa_c K0 A3))) A3)) (bH (K:=K) (n:=2) (T5 ((D1 (n:=2) sc_l_makes.nd rfl veu (.inl rfl))) (T5 ((D1 (n:=3) sc_l_makes.nd rfl zB (.inl rfl))) bG))) (A7 (Z2 C4 (vi gO) (vi yZ) (L4 (qa_c (N9 (qa_c A4 (qa_c (vi veq) (qa_c A4 A3)))) A3)))))
   (A8 (L7 PassesOwn.never (O2 (K:=K) (vi kP)) (D1 (n:=4) sc_l_makes.nd rfl vew (.inl rfl)) (A7 (qs_if (F6 (q_eq (K:=K) hu) (qe_ix (K:=K) (vi zA) A4) K0) (A7 (Z2 C4 (vi gO) (qe_ix (K:=K) (vi zA) A4) (Y3  (Q5:CompOk ["_law_rules_here", "_law_makes_here", "_law_place", "_law_piece", "_law_rule"] (C3 j4).names _ ["_law_part_here", "_law_makes_here"] 1 [1]) (dE (K:=K) (N7 (K:=K) (vi zA) (L6 A4) P6)) (fun _ _ _ _ _=>D1 (n:=0) (show List.Nodup (["_law_part_here", "_law_makes_here"]:List Str) by decide +kernel) rfl (Or.inl rfl)) (fun _ _ _ _ _=>W3) (fun _ _ _ _ _=>(qe_ix (K:=K) (c9 C4 (qv 1) (qv 0)) A4))))) G8)))
   (A8 (O4 (D0 G_l_forms (hm hr) (qa_c (vi kP) (qa_c (vi gO) A3))))
   (A8 (L7 PassesOwn.never (O2 (K:=K) (D0 G_l_row_of (hm hr) (qa_c (vi kP) (qa_c K0 A3)))) (D1 (n:=3) sc_l_makes.nd rfl zB (.inl rfl)) (A7 (Z2 C4 (vi gO) (vi yZ) (L4 A3))))
   (A8 (qs_if (F6 (q_inD (K:=K) hu) (N9 (qa_c K0 A3)) (vi kP)) (A7 (Z2 C4 (vi gO) K0 (L4 A3))) G8)
   (A7 (E3 (vi gO)))))))))),?_⟩
  obtain ⟨a,ts,R,ns,ls,ms,rfl,hR,G,hL,hM,q⟩:=h;have md:=wR G.good hL hM;have hRl:=G.len;have P1:=fun z hz=>L3 (G.zl (z:=z) hz) (by decide:19<=100)
  have oU:=G.l1;have hm1:=G.m1;walk_at "rd";intro d nd;have J0:MkI H (A0 H d (.dK [])) d [] (stepF R ls ms):=⟨Same.new nd,fun _=>d,A5,by simp [G3]⟩
  generalize A0 H d (.dK [])=H1 at J0;refine ⟨a,ts,R, "row",rfl,hR.same J0.same,by lia,P1,fun l1 H2 aR S2 cM=>?_⟩;rw [G.row,fC,List.flatten_nil,L1] at cM;have nl1d:l1≠d:=fun e=>by obtain ⟨_,h1,_⟩:=J0.made;rw [<- e,aR] at h1;cases h1
  obtain ⟨B,SB,nB,JB,kB⟩:=(J0.more S2).cut nd;have hB1:=kB _ _ nl1d cM;refine ⟨l1,rfl,⟨_,cM⟩,forE (xs:=ls.map V.str) (fun i σ H3=>∃ (u v w:Option V),σ=[some (.ref a),some (.ref d),u,v,w]/\MkI B H3 d (ls.take i) (stepF R ls ms)) ⟨none,none,none,rfl,JB⟩ (by rintro i σ H3 ⟨_,_,_,_,h⟩;exact h.same _ _ hB1) ?_ ?_⟩
  ·rintro i x t σ H3 hx ⟨u,v,w,rfl,J⟩ nt;obtain ⟨l,hl,rfl⟩:=G5 hx;walk_at "rd";refine ⟨_,.of A5,rfl,_,_,rfl,_,_,rfl,rfl,by decide,fun p np=>⟨by decide,fun p1 N1=>?_⟩⟩;rw [K7 hl];exact MkI.put nB (((J.more (Same.new nt)).more (Same.new np)).more (Same.new N1)) (by rw [E7];lia) (by
    rw [md.lt i l hl];exact StepL.one A5 (D9 A5 N1))
  rintro σ H3 ⟨u,v,w,rfl,J⟩;rw [A6,G4] at J;have J3:=J.base SB;clear J JB hB1 kB nB SB B J0 aR S2 cM nl1d l1 H2 H1;walk_at "rd";refine ⟨a,ts,R, "marks",rfl,hR.same J3.same,by lia,P1,fun l2 H4 iI S4 T3=>?_⟩;rw [G.mrk.1] at T3;have nl2d:l2≠d:=fun e=>by obtain ⟨_,h1,_⟩:=J3.made;rw [<- e,iI] at h1;cases h1
  obtain ⟨B,SB,nB,JB,kB⟩:=(J3.more S4).cut nd;have hB1:=kB _ _ nl2d T3;refine ⟨l2,rfl,⟨_,T3⟩,forE (xs:=ms.map V.str) (fun i σ H3=>∃ (u v w:Option V),σ=[some (.ref a),some (.ref d),u,v,w]/\MkI B H3 d (ls++ms.take i) (stepF R ls ms)) ⟨u,v,w,rfl,by rw [b8,L1];exact JB⟩ (by rintro i σ H3 ⟨_,_,_,_,h⟩;exact h.same _ _ hB1) ?_ ?_⟩
  ·rintro i x t σ H3 hx ⟨u,v,w,rfl,J⟩ nt;obtain ⟨l,hl,rfl⟩:=G5 hx;walk_at "rd";refine ⟨_,.of A5,rfl,_,_,rfl,_,_,rfl,rfl,by decide,fun p np=>⟨by decide,fun p1 N1=>?_⟩⟩;rw [K7 hl,<- O3];exact MkI.put nB (((J.more (Same.new nt)).more (Same.new np)).more (Same.new N1)) (by rw [C5,E7];lia) (by
    rw [md.mr i l hl];exact StepL.one A5 (D9 A5 N1))
  clear J3;rintro σ H5 ⟨u,v,w,rfl,J⟩;rw [A6,G4] at J;have J5:=J.base SB;clear J JB hB1 kB nB SB B iI S4 T3 nl2d l2 H4 H3;walk_at "rd";refine ⟨⟨_,.of (J5.same _ _ hR.top)⟩,forL (xs:=ts.map V.ref) (fun i σ H6=>∃ (w:Option V),σ=[some (.ref a),some (.ref d),u,v,w]/\MkI H H6 d (ls++ms++asKs (R.take i)) (stepF R ls ms)) ⟨w,rfl,by rw [b8,show asKs []=[] from rfl,L1];exact J5⟩ (by rintro i σ H6 _ ⟨_,_,h⟩;exact .of (h.same _ _ hR.top)) ?_ ?_⟩
  ·clear J5;rintro i x σ H6 hx ⟨w,rfl,J⟩;obtain ⟨t,ht,rfl⟩:=G5 hx;obtain ⟨zz,hz,D7⟩:=Paired.at hR.row ht;have g9:=M9 hz;have cI:=wP (R.take i);rw [E7] at cI;have hT:C7 K H6 t ((zz.1::zz.2).map V.str):=.of (J.same _ _ D7);walk_at "rd";refine ⟨_,.inr hT,V.str zz.1,U4 _ _,?_⟩;walk_at "rd";refine iteD (fun has=>?_) fun has=>by rw [rQ hz,wN has,L1];exact J
   have L0:=md.ne _ g9 (.inl has);have iF:=P1 _ g9;have hpt:=md.pt _ g9 has;have hasF:=md.as _ g9 has;obtain ⟨w1,ps⟩:=zz;obtain rfl:w1=("as" : Str):=has;obtain ⟨p,qs,rfl⟩:∃ p qs,ps=p::qs:=by
    cases ps with
    | nil=>exact absurd rfl L0
    | cons p qs=>exact ⟨p,qs,rfl⟩
   have j9:cutV (((("as" : Str),p::qs).1::(("as" : Str),p::qs).2).map V.str) (some 2) none=qs.map V.str:=m5 _ 2;simp only [K3] at iF;refine rSlR.t hT (m7 (k:=2) (by decide) (by simp)) fun s eP=>?_
   rw [j9];have S7:Same H6 (A0 H6 s (.tup (qs.map V.str))):=Same.new eP;have hs:A0 H6 s (.tup (qs.map V.str)) s=some (.tup (qs.map V.str)):=A5;generalize A0 H6 s (.tup (qs.map V.str))=H7 at S7 hs;have J7:=J.more S7;obtain ⟨ad,h1,h2⟩:=J7.made;refine ⟨s,rfl,⟨_,.of hs⟩,compT (xs:=qs.map V.str) [some (.ref d)] rfl (fun D j ys H8=>∃ Y8:List Addr,ys=Y8.map V.ref/\Same H7 H8/\Paired (fun t s=>H7 t=some (tupT s)) Y8 ((qs.take j).map fun q=>(stepF R ls ms q).headD (0,0,0))) (fun D nD=>⟨[],rfl,Same.new nD,.nil⟩) (by rintro D j ys H8 nD _ ⟨_,_,S,_⟩;exact .of (S _ _ hs)) ?_ ?_⟩
   ·rintro D j yv ys H8 nD hi hy ⟨Y8,rfl,S8,P8⟩ hD F7;obtain ⟨qq,hq,rfl⟩:=G5 hy;have pO:=hpt qq (M9 hq);obtain ⟨st,T7⟩:=md.base pO;have K2:qq∈G3 [] (ls++ms++asKs (R.take i)):=(j0 _ _ _).mpr (.inr (R7 _ (E1.mpr pO)));obtain ⟨tt,e1,e2⟩:=(h2 qq K2).ex;rw [T7] at e2;obtain ⟨t0,rfl,e3⟩:∃ t0,tt=[t0]/\H7 t0=some (tupT st):=by
     cases e2 with
     | cons h t=>cases t;exact ⟨_,rfl,h⟩
    walk_at "rd";refine ⟨V.ref (ad qq),.inl ⟨_,Sum.inr qq,.inl (S8 _ _ h1),rfl,by rw [P7,if_pos K2]⟩,?_⟩;walk_at "rd";have hX:Y8.length<=1000:=by
     have:=Paired.length P8
     rw [A6,E7] at this;lia
    refine ⟨_,.inl (.of (S8 _ _ e1)),V.ref t0,U4 _ _,hD,by rw [A6];exact G7 (by lia),CW.put hi F7 ⟨Y8++[t0],by rw [D8];rfl,S8.put nD,?_⟩⟩;rw [K7 hq,D8];refine Paired.snoc P8 ?_;show H7 t0=some (tupT ((stepF R ls ms qq).headD (0,0,0)));rw [T7];exact e3
   rintro D ys H8 nD ⟨Y8,rfl,S8,P8⟩ hD F7;rw [A6,G4] at P8;have K6:J8 (((("as" : Str),p::qs).1::(("as" : Str),p::qs).2).map V.str) 1=some (V.str p):=O1 (j:=1) rfl;refine ⟨_,.inr (C7.same (S7.trans S8) hT),V.str p,K6,?_⟩;rw [rQ hz,wO,<- O3];refine MkI.put nd (J7.more S8) (by simp only [C5];lia) ?_;rw [hasF p qs rfl];exact ⟨Y8,hD,N0 P8 fun t s e=>S8 _ _ e⟩
  clear J5;rintro σ H6 ⟨w,rfl,J⟩;rw [A6,hR.len,G4] at J;have cI:=wP R;walk_at "rd";refine ⟨a,d,ts,R,ns,ls,ms,_,H,rfl,nd,hR.same J.same,hR,G,hL,hM,J,fun p hp=>R7 _ (R7 _ hp),by simp only [C5];lia,fun H7 J7=>?_⟩;clear J;refine ⟨a,ts,R, "over",rfl,hR.same J7.same,by lia,P1,fun l3 H8 p8 S8 eT=>?_⟩;have nl3d:l3≠d:=fun e=>by obtain ⟨_,h1,_⟩:=J7.made;rw [<- e,p8] at h1;cases h1
  obtain ⟨B,SB,nB,JB,kB⟩:=(J7.more S8).cut nd;have hB1:=kB _ _ nl3d eT;have Z6:(O9 R).length<=10000:=by
   have h1:(O9 R).length<=(C8 R).length:=by
    unfold O9;rw [<- aE,A6];exact lO _ _
   have:=G.good.plen
   lia
  have hov:=amT (w:="over") P1;generalize aN:(rowsW R "over").flatten=os at eT hB1 hov;have hov2:os.length<=2000:=by lia
  refine ⟨l3,rfl,⟨_,.of eT⟩,forL (xs:=os.map V.str) (fun i σ H3=>∃ (v:Option V),σ=[some (.ref a),some (.ref d),u,v,w]/\MkI B H3 d (ls++ms++asKs R++O9 R++os.take i) (stepF R ls ms)) ⟨v,rfl,by rw [b8,L1];exact JB⟩ (by rintro i σ H3 _ ⟨_,_,h⟩;exact .of (h.same _ _ hB1)) ?_ ?_⟩
  ·rintro i x σ H3 hx ⟨v,rfl,J⟩;obtain ⟨l,hl,rfl⟩:=G5 hx;have hlo:stepF R ls ms l=[]:=G.over hL hM (by rw [aN];exact M9 hl);walk_at "rd";intro p np;rw [K7 hl,<- O3];exact MkI.put nB (J.more (Same.new np)) (by simp only [C5,E7];lia) (by
    rw [hlo];exact ⟨[],A5,.nil⟩)
  rintro σ H9 ⟨v,rfl,J⟩;rw [A6,G4] at J;have J9:=J.base SB;clear J JB hB1 kB nB SB B J7;walk_at "rd";have kin:∀ p,p∈G3 [] (ls++ms++asKs R++O9 R++os)↔p∈keysP (C8 R):=fun p=>by
   rw [j0,jN,G.names p,aN]
   simp
  refine ⟨by decide,fun p np=>?_⟩;have p7:Same H9 (A0 H9 p (.tup [V.str (Str.ofString "blanks")])):=Same.new np;have qD:A0 H9 p (.tup [V.str (Str.ofString "blanks")]) p=some (.tup ((("blanks" : Str)::[]).map V.str)):=A5;generalize A0 H9 p (.tup [V.str (Str.ofString "blanks")])=W8 at p7 qD;have J10:=J9.more p7;refine ⟨ruleD ("blanks",[]),.tup (.of qD) (l8 (by intro y hy;rw [E6.mp hy];decide +kernel)),R.map ruleD,aiS (hR.same J10.same) G.str,L3 (iT _ _) (L3 (wT R) (by decide)),?_⟩;rw [alo R "blanks" (G.flag (.inr (.inr rfl)))]
  by_cases hb:hasW R "blanks"=true
  ·rw [if_pos hb];intro p1 N1;obtain ⟨x,hx,J11⟩:=MkI.put (l:=" ") (p:=p1) nd (J10.more (Same.new (u:=.lst []) N1)) (by simp only [C5];lia) (by rw [G.blank hL hM];exact ⟨[],A5,.nil⟩);refine ⟨x,hx,q d _ x nd J11.same J11.made (fun p=>?_) (L3 (dC _ []) (by simp only [C5,b0,N5];lia))⟩;rw [wM];unfold E5 W4;rw [if_pos hb,E1,<- kin p];unfold dd
   by_cases pN:(" " : Str)∈G3 [] (ls++ms++asKs R++O9 R++os)
   ·rw [if_pos pN];exact ⟨.inl,fun h=>h.elim id fun e=>by rw [E6.mp e];exact pN⟩
   ·rw [if_neg pN,E1]
  ·rw [if_neg hb];refine q d _ W8 nd J10.same J10.made (fun p=>?_) (L3 (dC _ []) (by simp only [C5,b0];lia));unfold E5 W4;rw [if_neg hb,L1];exact kin p
theorem sc_l_pieces:FnScope ["_law_makes_here", "_law_worth", "_law_cells", "_law_known", "_law_parts", "_law_cell", "_law_run"] ["_law_makes_here", "_law_worth", "_law_cells"] (C3 f8):=G0
abbrev gP:List Str:=["_law_makes_here", "_law_worth", "_law_cells", "_law_known", "_law_parts", "_law_cell", "_law_run"]
theorem vex:VS gP f8 "_law_makes_here" 0:=vq
theorem vey:VS gP f8 "_law_worth" 1:=vq
theorem vez:VS gP f8 "_law_cells" 2:=vq
theorem veA:VS gP f8 "_law_known" 3:=vq
theorem zC:VS gP f8 "_law_parts" 4:=vq
theorem nZ:VS gP f8 "_law_cell" 5:=vq
theorem veD:VS gP f8 "_law_run" 6:=vq
theorem veE:LS f8 "_law_known":=lq
theorem veF:LS f8 "_law_parts":=lq
theorem veG:LS f8 "_law_cell":=lq
theorem veH:LS f8 "_law_run":=lq
theorem ait(F:FunD K "_law_pieces" "_law_pieces" f8 f fd)(T:Txt P w K mg C):FnOk P w K mg base E8 1 f fd ["_law_makes_here", "_law_worth", "_law_cells"] (ai3 K):=by
 refine F.ok sc_l_pieces ?_ ?_
 ·rintro _ _ _ _ ⟨d,c,w,ks,f,cs,rfl,_⟩;rfl
 ·intro cdv A outer s H vs Q E hr h;have C4:=hu_of hr;have hu:=hr.units;refine ⟨_,QSs.out (A8 (D6 (n:=3) sc_l_pieces.nd rfl veE (qe_cT (t9 (K:=K) (calm:=true)) T.b_list t8 (qa_c (vi vex) A3)))
   (A8 (D6 (n:=4) sc_l_pieces.nd rfl veF (L4 A3))
   (A8 (L7 PassesOwn.never (O2 (K:=K) (vi vez)) (D1 (n:=5) sc_l_pieces.nd rfl veG (.inl rfl)) (A7 (qs_if (QW.pt (fU (e8 (K:=K) (vi vey)) (jK (F6 (q_eq (K:=K) hu) (qe_op q_mod (vi nZ) A4) A4)))) (A8 (D6 (n:=6) sc_l_pieces.nd rfl veH (qe_cT aoY T.b_str arh (qa_c (qe_op q_mod (qe_op L9 (vi nZ) A4) (qe_ix (K:=K) (L4 (qa_c A4 (qa_c (qe_op q_pow A4 A4) A3))) (qe_op q_mod (qe_op L9 (vi nZ) A4) A4))) A3)))
   (A7 (O4 (qe_mB (K:=K) Q1 V0 U9 V3 (vi zC) (qa_c (qe_op (q_add (K:=K)) (qe_ix (K:=K) (L4 (qa_c K0 (qa_c K0 (qa_c K0 A3)))) (qe_op q_mod (qe_op L9 (vi nZ) A4) A4)) (vi veD)) A3))))) (A7 (O4 (qe_mB (K:=K) Q1 V0 U9 V3 (vi zC) (qa_c (qe_ix (K:=K) (vi veA) (qe_op q_mod (qe_op L9 (vi nZ) A4) (qe_cB (q_len (K:=K)) T.b_len O8 (qa_c (vi veA) A3)))) A3)))))))
   (A7 (E3 (vi zC)))))),?_⟩
  obtain ⟨d,c,w,ks,f,cs,rfl,hd,kZ,hk2,hc,pK,q⟩:=h;walk_at "rd";refine rListR.d (.of hd) fun k nk=>?_
  rw [show (C1 ks f).map (fun kv=>kV kv.1)=ks.map V.str by unfold C1;rw [X7];rfl];have S1:Same H (A0 H k (.lst (ks.map V.str))):=Same.new nk;have hk:A0 H k (.lst (ks.map V.str)) k=some (.lst (ks.map V.str)):=A5;generalize A0 H k (.lst (ks.map V.str))=H1 at S1 hk;intro p np;have np0:=S1.free np;have R6:A0 H1 p (.lst []) p=some (.lst []):=A5;have S2:Same H1 (A0 H1 p (.lst [])):=Same.new np;generalize A0 H1 p (.lst [])=H2 at R6 S2;refine ⟨⟨_,S2.seq (S1.seq hc)⟩,forL (xs:=cs.map V.int) (fun i σ H3=>∃ (u v:Option V) (ps:List Str),σ=[some (.ref d),some (.bl w),some (.ref c),some (.ref k),some (.ref p),u,v]/\Same H1 H3/\H3 p=some (.lst (ps.map V.str))/\(∀ x∈ps,e9 w ks x)/\ps.length=i) ⟨none,none,[],rfl,S2,R6,by simp,rfl⟩ (by rintro i σ H3 _ ⟨_,_,_,_,S,_⟩;exact S.seq (S1.seq hc)) ?_ ?_⟩
  ·rintro i v σ H3 hv ⟨u1,u2,ps,rfl,S3,Q8,Y6,M8⟩;obtain ⟨n,hn,rfl⟩:=G5 hv;have hi:i<cs.length:=(G1.mp hn).1;have pB:=S3 _ _ hk;have A9:(ps.map V.str).length<sizeLine:=by rw [A6];exact G7 (by lia)
   have put:∀ {H4:Hp} {x:Str},Same H3 H4->e9 w ks x->Same H1 (A0 H4 p (.lst (ps.map V.str++[V.str x])))/\A0 H4 p (.lst (ps.map V.str++[V.str x])) p=some (.lst ((ps++[x]).map V.str))/\(∀ y∈ps++[x],e9 w ks y)/\(ps++[x]).length=i+1:=fun {H4 x} S4 hx=>⟨(S3.trans S4).put np,by rw [A5,D8];rfl,fun y hy=>by
    rcases E1.mp hy with h | h
    ·exact Y6 y h
    ·rw [E6.mp h];exact hx,by rw [C5,M8];rfl⟩
   have els:∃ m:Nat,LenR K H3 k m/\0<(m:Int)/\∃ xs,(E2 K H3 k xs\/C7 K H3 k xs)/\∃ x,J8 xs (n / 5 % (m:Int))=some x/\jC (V.ref p) [x] H3 fun x H4=>Same H1 H4/\∃ x:List Str,H4 p=some (HO.lst (x.map V.str))/\(∀ y∈x,e9 w ks y)/\x.length=i+1:=by
    obtain ⟨x,hx,K6⟩:=pickA (zs:=ks) (n / 5) kZ;obtain ⟨p1,p2,p3,p4⟩:=put (aD H3) (.inl hx);exact ⟨ks.length,.inl ⟨_,.of pB,by rw [A6]⟩,by lia,_,.inl (.of pB),_,K6,appOk Q8 A9 ⟨p1,_,p2,p3,p4⟩⟩
   walk_at "rd"
   cases w with
   | false=>exact iteF ⟨Q2 Q8,els⟩
   | true=>
    refine iteT (iteD (fun _=>?_) fun _=>⟨Q2 Q8,els⟩);refine ⟨10,12,rfl,rfl,⟨by decide,by decide,by decide⟩,by decide,fun p1 N1=>?_⟩;have S4:Same H3 (A0 H3 p1 (.lst [V.int 10,V.int ((10:Int) ^ (12:Int).toNat)])):=Same.new N1;have Z9:A0 H3 p1 (.lst [V.int 10,V.int ((10:Int) ^ (12:Int).toNat)]) p1=some (.lst [V.int 10,V.int ((10:Int) ^ (12:Int).toNat)]):=A5;generalize A0 H3 p1 (.lst [V.int 10,V.int ((10:Int) ^ (12:Int).toNat)])=H4 at S4 Z9;obtain ⟨m,hm,uA,hm1⟩:∃ m:Int,J8 [V.int 10,V.int ((10:Int) ^ (12:Int).toNat)] (n / 150 % 2)=some (V.int m)/\0<m/\m<=10 ^ 12:=by
     have h0:n / 150 % 2=0\/n / 150 % 2=1:=by lia
     rcases h0 with e | e
     ·rw [e];exact ⟨10,rfl,by decide,by decide⟩
     ·rw [e];exact ⟨_,rfl,by decide,by decide⟩
    obtain ⟨v,hv,oX⟩:∃ v:Nat,n / 15 % m=(v:Int)/\v<10 ^ 12:=⟨(n / 15 % m).toNat,by
     have:=i4 (n / 15) (show m≠0 by lia)
     lia,by
     have h1:=i4 (n / 15) (show m≠0 by lia);have h2:=k9 (n / 15) uA;have h3:((10 ^ 12:Nat):Int)=10 ^ 12:=by decide
     lia⟩
    refine ⟨_,.inl (.of Z9),_,hm,m,rfl,uA,_,rfl,?_,Q2 (S4 _ _ Q8),by decide,fun p2 x8=>?_⟩
    ·rw [hv];show v.log2<1920
     by_cases h0:v=0
     ·rw [h0];decide
     ·rw [Nat.log2_lt h0];exact R8 oX (by decide +kernel)
    rw [hv];have S5:Same H4 (A0 H4 p2 (.lst [V.str (Str.ofString ""),V.str (Str.ofString "0"),V.str (Str.ofString "00")])):=Same.new x8;have pY:A0 H4 p2 (.lst [V.str (Str.ofString ""),V.str (Str.ofString "0"),V.str (Str.ofString "00")]) p2=some (.lst (([Str.ofString "",Str.ofString "0",Str.ofString "00"]:List Str).map V.str)):=A5;generalize A0 H4 p2 (.lst [V.str (Str.ofString ""),V.str (Str.ofString "0"),V.str (Str.ofString "00")])=H5 at S5 pY;obtain ⟨y,hy,K6⟩:=pickA (zs:=[Str.ofString "",Str.ofString "0",Str.ofString "00"]) (n / 5) (by decide);have tS:∀ y∈([Str.ofString "",Str.ofString "0",Str.ofString "00"]:List Str),y.length<=2/\∀ c∈y.cps.toList,figO c=true:=by decide +kernel
    obtain ⟨F7,hyf⟩:=tS y hy;have hr:=aoZ oX F7 hyf;have cJ:=hr.2;refine ⟨_,.inl (.of pY),_,K6,?_⟩;obtain ⟨p1',p2',p3',p4'⟩:=put (S4.trans S5) (.inr ⟨⟨rfl,hr.1⟩,hr.2⟩);walk_at "rd";refine ⟨?_,appOk ((S4.trans S5) _ _ Q8) A9 ⟨p1',_,p2',p3',p4'⟩⟩;have e:(y++Str.ofString (toString (v:Int))).length=y.length+(Str.ofString (toString (v:Int))).length:=by
     rw [<- lenL,<- lenL,<- lenL,Str.cps_append,Array.toList_append,C5]
    exact P5 (by lia)
  rintro σ H3 ⟨u1,u2,ps,rfl,S3,Q8,Y6,M8⟩;rw [A6] at M8;walk_at "rd";exact q p H3 ps np0 (S1.trans S3) Q8 Y6 (by lia)
theorem alK:FnScope ["_law_makes_here", "_law_piece"] ["_law_makes_here", "_law_piece"] (C3 kE):=G0
abbrev ajd:List Str:=["_law_makes_here", "_law_piece"]
theorem veI:VS ajd kE "_law_makes_here" 0:=vq
theorem veJ:VS ajd kE "_law_piece" 1:=vq
theorem alL(F:FunD K "_law_bare" "_law_bare" kE f fd)(T:Txt P w K mg C):FnOk P w K mg base E8 1 f fd ["_law_makes_here", "_law_piece"] (anz K):=by
 refine F.ok alK ?_ ?_
 ·rintro _ _ _ _ ⟨d,y,ks,ad,ss,rfl,_⟩;rfl
 ·intro cdv A outer s H vs Q E hr h;have C4:=hu_of hr;have hu:=hr.units;refine ⟨_,QSs.out (A7 (E3 (Y3  (Q5:CompOk ["_law_makes_here", "_law_piece"] (C3 kE).names _ ["_law_step"] 1 []) (O2 (K:=K) (c9 C4 (vi veI) (vi veJ))) (fun _ _ _ _ _=>D1 (n:=0) (show List.Nodup (["_law_step"]:List Str) by decide +kernel) rfl (Or.inl rfl)) (fun _ _ _ _ _=>(dF (F6 (q_eq (K:=K) hu) (qe_ix (K:=K) (qv 0) A4) A4))) (fun _ _ _ _ _=>(qe_ix (K:=K) (qv 0) A4))))),?_⟩;obtain ⟨d,y,ks,ad,ss,rfl,hd,hy,hs,hl,q⟩:=h;obtain ⟨ts,t1,t2⟩:=hs.ex;have kY:=Paired.length t2;walk_at "rd";refine ⟨V.ref (ad y),?_,ad y,rfl,⟨_,.of t1⟩,compL (xs:=ts.map V.ref) [] rfl (fun D i ys H2=>Same H H2/\ys=(bareL (ss.take i)).map V.int) (fun D nD=>⟨Same.new nD,rfl⟩) (by rintro D i ys H2 nD _ ⟨S,_⟩;exact .of (S _ _ t1)) ?_ ?_⟩
  ·have:DGet H d (kV (Sum.inr y)) (valV (C1 ks fun y=>V.ref (ad y)) (Sum.inr y)):=.inl ⟨_,Sum.inr y,hd,rfl,rfl⟩
   rw [P7,if_pos hy] at this;exact this
  ·rintro D i x ys H2 nD hi hx ⟨S2,rfl⟩ hD F7;obtain ⟨t,ht,rfl⟩:=G5 hx;obtain ⟨u,w6,hut⟩:=Paired.at t2 ht;have pI:i<ts.length:=(G1.mp ht).1;have est:bareL (ss.take (i+1))=bareL (ss.take i)++(if u.1=2 then [u.2.1] else []):=by
    unfold bareL;rw [K7 w6,cS,D8]
    by_cases h2:u.1=2
    ·rw [if_pos h2];simp [h2]
    ·rw [if_neg h2];simp [h2]
   have t3:H2 t=some (.tup [.int u.1,.int u.2.1,.int u.2.2]):=S2 _ _ hut;walk_at "rd";refine ⟨_,.inr (.of t3),V.int u.1,U4 _ _,?_⟩;walk_at "rd";refine iteD (fun h2=>⟨_,.inr (.of t3),V.int u.2.1,O1 (j:=1) rfl,hD,?_,CW.put hi F7 ⟨S2.put nD,?_⟩⟩) fun h2=>⟨hD,mK hi F7 ⟨S2,?_⟩⟩
   ·rw [A6] at F7 ⊢
    exact G7 (by lia)
   ·rw [est,if_pos h2,D8];rfl
   ·rw [est,if_neg h2,L1]
  rintro D ys H2 nD ⟨S2,rfl⟩ hD _;rw [A6,kY,G4] at hD;exact q D H2 nD S2 hD
theorem sc_l_changed:FnScope ["_law_makes_here", "_law_parts", "_law_cell", "_law_way", "_law_at", "_law_number", "_law_some", "_law_piece"] ["_law_makes_here", "_law_parts", "_law_cell"] (C3 W0):=G0
abbrev dY:List Str:=["_law_makes_here", "_law_parts", "_law_cell", "_law_way", "_law_at", "_law_number", "_law_some", "_law_piece"]
theorem sX:VS dY W0 "_law_makes_here" 0:=vq
theorem aK:VS dY W0 "_law_parts" 1:=vq
theorem zD:VS dY W0 "_law_cell" 2:=vq
theorem oA:VS dY W0 "_law_way" 3:=vq
theorem dZ:VS dY W0 "_law_at" 4:=vq
theorem veP:VS dY W0 "_law_number" 5:=vq
theorem zE:VS dY W0 "_law_some" 6:=vq
theorem veR:VS dY W0 "_law_piece" 7:=vq
theorem veS:LS W0 "_law_way":=lq
theorem veT:LS W0 "_law_at":=lq
theorem veU:LS W0 "_law_number":=lq
theorem zF:LS W0 "_law_some":=lq
theorem veW:LS W0 "_law_piece":=lq
theorem ahA(F:FunD K "_law_changed" "_law_changed" W0 f fd)(T:Txt P w K mg C)(G_l_bare:FO P w K mg base 1 "_law_bare" ["_law_makes_here", "_law_piece"] [] (anz K)):FnOk P w K mg base E8 2 f fd ["_law_makes_here", "_law_parts", "_law_cell"] (ahm K):=by
 refine F.ok sc_l_changed ?_ ?_
 ·rintro _ _ _ _ ⟨d,p,c,ks,ps,F,rfl,_⟩;rfl
 ·intro cdv A outer s H vs Q E hr h;have C4:=hu_of hr;have hu:=hr.units;refine ⟨_,QSs.out (A8 (D6 (n:=3) sc_l_changed.nd rfl veS (qe_op q_mod (vi zD) A4))
   (A8 (D6 (n:=4) sc_l_changed.nd rfl veT (qe_op q_mod (qe_op L9 (vi zD) A4) (qe_op (q_add (K:=K)) (qe_cB (q_len (K:=K)) T.b_len O8 (qa_c (vi aK) A3)) A4)))
   (A8 (D6 (n:=5) sc_l_changed.nd rfl veU (qe_op L9 (qe_op q_mod (qe_op q_mul (qe_op L9 (vi zD) A4) A4) A4) A4))
   (A8 (D6 (n:=6) sc_l_changed.nd rfl zF (qe_cT (t9 (K:=K) (calm:=true)) T.b_list t8 (qa_c (vi sX) A3)))
   (m3 (qs_if (F6 q_lt (vi oA) A4) (A7 (afa (n:=6) sc_l_changed.nd rfl zF (Q5:CompOk ["_law_makes_here", "_law_parts", "_law_cell", "_law_way", "_law_at", "_law_number", "_law_some", "_law_piece"] (C3 W0).names _ ["_law_piece", "_law_makes_here"] 1 [0]) (alw (K:=K) (vi sX)) (fun _ _ _ _ _=>D1 (n:=0) (show List.Nodup (["_law_piece", "_law_makes_here"]:List Str) by decide +kernel) rfl (Or.inl rfl)) (fun _ _ _ _ _=>(dF (F6 (q_eq (K:=K) hu) (D0 G_l_bare (hm hr) (qa_c (qv 1) (qa_c (qv 0) A3))) (L4 A3)))) (fun _ _ _ _ _=>(qv 0)))) (A7 (qs_if (QW.pt (fU (F6 q_lt (vi oA) A4) (fU (F6 q_lt (vi dZ) (qe_cB (q_len (K:=K)) T.b_len O8 (qa_c (vi aK) A3))) (jK (F6 (q_in (K:=K) hu) (qe_ix (K:=K) (vi aK) (vi dZ)) (vi sX)))))) (A7 (afa (n:=6) sc_l_changed.nd rfl zF (Q5:CompOk ["_law_makes_here", "_law_parts", "_law_cell", "_law_way", "_law_at", "_law_number", "_law_some", "_law_piece"] (C3 W0).names _ ["_law_piece", "_law_makes_here", "_law_parts", "_law_at"] 1 [0,1,4]) (alw (K:=K) (vi sX)) (fun _ _ _ _ _=>D1 (n:=0) (show List.Nodup (["_law_piece", "_law_makes_here", "_law_parts", "_law_at"]:List Str) by decide +kernel) rfl (Or.inl rfl)) (fun _ _ _ _ _=>(dF (F6 (q_eq (K:=K) hu) (D0 G_l_bare (hm hr) (qa_c (qv 1) (qa_c (qv 0) A3))) (D0 G_l_bare (hm hr) (qa_c (qv 1) (qa_c (qe_ix (K:=K) (qv 2) (qv 3)) A3)))))) (fun _ _ _ _ _=>(qv 0)))) G8)))
   (A8 (qs_if (QW.pt (qw_or (F6 (q_eq (K:=K) hu) (vi zE) (L4 A3)) (vN (F6 (q_eq (K:=K) hu) (vi oA) A4)))) (A7 (E3 (qe_cT (t9 (K:=K) (calm:=true)) T.b_list t8 (qa_c (vi aK) A3)))) G8)
   (A8 (D6 (n:=7) sc_l_changed.nd rfl veW (qe_ix (K:=K) (vi zE) (qe_op q_mod (vi veP) (qe_cB (q_len (K:=K)) T.b_len O8 (qa_c (vi zE) A3)))))
   (A8 (qs_if (F6 q_lt (vi oA) A4) (A7 (E3 (qe_op (q_add (K:=K)) (qe_op (q_add (K:=K)) (N7 (K:=K) (vi aK) P6 (L6 (vi dZ))) (L4 (qa_c (vi veR) A3))) (N7 (K:=K) (vi aK) (L6 (vi dZ)) P6)))) G8)
   (A8 (qs_if (F6 (q_eq (K:=K) hu) (vi oA) A4) (A7 (E3 (qe_op (q_add (K:=K)) (N7 (K:=K) (vi aK) P6 (L6 (vi dZ))) (N7 (K:=K) (vi aK) (L6 (qe_op (q_add (K:=K)) (vi dZ) A4)) P6)))) G8)
   (A7 (E3 (qe_op (q_add (K:=K)) (qe_op (q_add (K:=K)) (N7 (K:=K) (vi aK) P6 (L6 (vi dZ))) (L4 (qa_c (vi veR) A3))) (N7 (K:=K) (vi aK) (L6 (qe_op (q_add (K:=K)) (vi dZ) A4)) P6))))))))))))),?_⟩
  obtain ⟨d,p,c,ks,ps,F,rfl,hd,hF,kZ,W1,hko,hp,M8,q⟩:=h;obtain ⟨ad,x4,R5⟩:=hd;have qE:=i4 (c / 9) (show ((ps.length:Int)+1)≠0 by lia);have C9:=k9 (c / 9) (show 0<(ps.length:Int)+1 by lia);walk_at "rd";refine ⟨ps.length,.inl ⟨_,.of hp,by rw [A6]⟩,by lia,.inr ⟨by decide,by decide⟩,rListR.d (.of x4) fun s ns=>?_⟩;rw [show (C1 ks fun y=>V.ref (ad y)).map (fun kv=>kV kv.1)=ks.map V.str by unfold C1;rw [X7];rfl];obtain ⟨at_,K6⟩:∃ m:Nat,c / 9 % ((ps.length:Int)+1)=(m:Int):=⟨(c / 9 % ((ps.length:Int)+1)).toNat,by lia⟩
  rw [K6] at C9 ⊢
  clear qE K6;have eR:at_<=ps.length:=by lia
  have S1:Same H (A0 H s (.lst (ks.map V.str))):=Same.new ns;have hs1:A0 H s (.lst (ks.map V.str)) s=some (.lst (ks.map V.str)):=A5;have nsd:s≠d:=fun e=>by rw [e,x4] at ns;cases ns
  generalize A0 H s (.lst (ks.map V.str))=H1 at S1 hs1;have X3:=S1 _ _ x4;have cN:=S1 _ _ hp;have npd:p≠d:=fun e=>by rw [e,x4] at hp;cases hp
  have SB:=kA H1 [d];have hB:∀ y∈ks,StepL (cutH H1 [d]) (ad y) (F y):=fun y hy=>alA X3 ((R5 y hy).same S1)
  have hpB:cutH H1 [d] p=some (.lst (ps.map V.str)):=by
   unfold cutH;rw [if_neg (fun e=>npd (E6.mp e))];exact cN
  have nB:∀ b,b≠d->H1 b=none->cutH H1 [d] b=none:=fun b hb e=>by
   unfold cutH;rw [if_neg (fun q=>hb (E6.mp q))];exact e
  have cB:∀ b o,b≠d->H1 b=some o->cutH H1 [d] b=some o:=fun b o hb e=>by
   unfold cutH;rw [if_neg (fun q=>hb (E6.mp q))];exact e
  have nBd:cutH H1 [d] d=none:=by unfold cutH;exact if_pos (by simp)
  generalize cutH H1 [d]=B at SB hB hpB nB cB nBd;have SF:∀ o,Same B (A0 H1 d (.frz o (.dK (C1 ks fun y=>V.ref (ad y))))):=fun o b v hb=>by
   rw [B1 (fun e=>by rw [e,nBd] at hb;cases hb)];exact SB _ _ hb
  have hkn:(C1 ks fun y=>V.ref (ad y)).length=ks.length:=i9 _ _;have hw:∀ {H2:Hp},Same B H2->(∃ o,H2 d=some (.frz o (.dK (C1 ks fun y=>V.ref (ad y)))))->Same H1 (A0 H2 d (.dK (C1 ks fun y=>V.ref (ad y)))):=fun {H2} S ⟨o,e⟩ b v hb=>by
   by_cases hbd:b=d
   ·subst hbd;rw [A5];rw [X3] at hb;exact hb
   ·rw [B1 hbd];exact S _ _ (cB b v hbd hb)
  refine m4 (fun σ H'=>∃ (s:Addr) (ss:List Str),σ=[some (.ref d),some (.ref p),some (.int c),some (.int (c % 9)),some (.int at_),some (.int (c / 9*48271 % 2147483647 / 97)),some (.ref s),none]/\Same H H'/\H' s=some (.lst (ss.map V.str))/\(∀ x∈ss,x∈ks)/\ss.length<=100000) ?_ ?_
  ·walk_at "rd";have keep:Same H H1/\∃ x,H1 s=some (HO.lst (List.map V.str x))/\(∀ x_1∈x,x_1∈ks)/\x.length<=100000:=⟨S1,ks,hs1,fun _ h=>h,W1⟩
   refine iteD (fun _=>⟨d,_,X3,_,X3,fun o=>compD [some (.ref d)] rfl (fun D i ys H2=>Same B H2/\H2 d=some (.frz o (.dK (C1 ks fun y=>V.ref (ad y))))/\∃ xs:List Str,ys=xs.map V.str/\∀ x∈xs,x∈ks) (fun D nD=>⟨(SF o).trans (Same.new nD),D9 A5 nD,[],rfl,by simp⟩) (fun D i ys H2 _ _ h=>h.2.1) ?_ ?_⟩) fun _=>?_
   ·rintro D i k v ys H2 nD hi hk ⟨S2,e2,xs,rfl,cO⟩ hD F7;obtain ⟨y,hy,rfl,rfl⟩:=rJ hk;have y4:=M9 hy;have nDd:D≠d:=fun e=>by rw [e,A5] at nD;cases nD
    have nDB:B D=none:=by rw [B1 nDd] at nD;exact nB D nDd nD
    walk_at "rd";refine ⟨d,y,ks,ad,F y,rfl,.inr ⟨o,e2⟩,y4,(hB y y4).same S2,hF y,fun l H3 nl S3 hl=>fun p3 lI=>?_⟩;refine ⟨_,.lst (.of (D9 hl lI)) bE,_,.lst (.of A5) .nil,by rw [k8,jJ];lia,?_⟩;have S4:=S3.trans (show Same H3 (A0 H3 p3 (.lst [])) from Same.new lI)
    split
    ·refine ⟨S4 _ _ hD,by rw [A6] at F7 ⊢;exact G7 (by lia),CW.put hi F7 ⟨(S2.trans S4).put nDB,by rw [B1 nDd.symm];exact S4 _ _ e2,xs++[y],by rw [D8];rfl,fun x hx=>?_⟩⟩
     rcases E1.mp hx with h | h
     ·exact cO x h
     ·rw [E6.mp h];exact y4
    ·exact ⟨S4 _ _ hD,mK hi F7 ⟨S2.trans S4,S4 _ _ e2,xs,rfl,cO⟩⟩
   ·rintro D ys H2 nD ⟨S2,e2,xs,rfl,cO⟩ hD F7;have nDd:D≠d:=fun e=>by rw [e,A5] at nD;cases nD
    rw [A6] at F7;exact ⟨⟨o,e2⟩,D,rfl,S1.trans (hw S2 ⟨o,e2⟩),xs,by rw [B1 nDd];exact hD,cO,by lia⟩
   refine iteD (fun _=>⟨ps.length,.inl ⟨_,.of cN,by rw [A6]⟩,iteD (fun hal2=>?_) fun _=>keep⟩) fun _=>keep
   have hal3:at_<ps.length:=by lia
   obtain ⟨w,pU⟩:∃ w,ps[at_]?=some w:=⟨_,K8 hal3⟩
   have iw:J8 (ps.map V.str) (at_:Int)=some (V.str w):=O1 (by rw [V7,pU];rfl);refine ⟨_,.inl (.of cN),_,iw,rInR.d (i8 (k:=Sum.inr w) X3) ⟨_,rfl,?_⟩⟩;rw [P7]
   by_cases uB:w∈ks
   ·rw [if_pos uB,if_pos (by rfl)];refine ⟨d,_,X3,_,X3,fun o=>compD [some (.ref d),some (.ref p),some (.int at_)] rfl (fun D i ys H2=>Same B H2/\H2 d=some (.frz o (.dK (C1 ks fun y=>V.ref (ad y))))/\∃ xs:List Str,ys=xs.map V.str/\∀ x∈xs,x∈ks) (fun D nD=>⟨(SF o).trans (Same.new nD),D9 A5 nD,[],rfl,by simp⟩) (fun D i ys H2 _ _ h=>h.2.1) ?_ ?_⟩
    ·rintro D i k v ys H2 nD hi hk ⟨S2,e2,xs,rfl,cO⟩ hD F7;obtain ⟨y,hy,rfl,rfl⟩:=rJ hk;have y4:=M9 hy;have nDd:D≠d:=fun e=>by rw [e,A5] at nD;cases nD
     have nDB:B D=none:=by rw [B1 nDd] at nD;exact nB D nDd nD
     walk_at "rd";refine ⟨d,y,ks,ad,F y,rfl,.inr ⟨o,e2⟩,y4,(hB y y4).same S2,hF y,fun l H3 nl S3 hl=>?_⟩;refine ⟨_,.inl (.of (S3 _ _ (S2 _ _ hpB))),_,iw,d,w,ks,ad,F w,rfl,.inr ⟨o,S3 _ _ e2⟩,uB,(hB w uB).same (S2.trans S3),hF w,fun l4 H4 nl4 S4' pH=>?_⟩;walk_at "rd";refine ⟨_,.lst (.of (S4' _ _ hl)) bE,_,.lst (.of pH) bE,by rw [k8,jJ];lia,?_⟩;have S4:=S3.trans S4'
     split
     ·refine ⟨S4 _ _ hD,by rw [A6] at F7 ⊢;exact G7 (by lia),CW.put hi F7 ⟨(S2.trans S4).put nDB,by rw [B1 nDd.symm];exact S4 _ _ e2,xs++[y],by rw [D8];rfl,fun x hx=>?_⟩⟩
      rcases E1.mp hx with h | h
      ·exact cO x h
      ·rw [E6.mp h];exact y4
     ·exact ⟨S4 _ _ hD,mK hi F7 ⟨S2.trans S4,S4 _ _ e2,xs,rfl,cO⟩⟩
    ·rintro D ys H2 nD ⟨S2,e2,xs,rfl,cO⟩ hD F7;have nDd:D≠d:=fun e=>by rw [e,A5] at nD;cases nD
     rw [A6] at F7;exact ⟨⟨o,e2⟩,D,rfl,S1.trans (hw S2 ⟨o,e2⟩),xs,by rw [B1 nDd];exact hD,cO,by lia⟩
   ·rw [if_neg uB,if_neg (by decide)];exact keep
  rintro σ H2 ⟨s2,ss,rfl,S2,v8,hss,hsl⟩;have R6:=S2 _ _ hp;clear S1 hs1 nsd X3 cN SB hB hpB nB cB hw npd ns SF nBd H1 B s;have Z4:∀ {H3:Hp} (l:Addr) (qs:List Str),Same H H3->H3 l=some (.lst (qs.map V.str))->H l=none->(∀ x∈qs,x∈ps\/x∈ks)->qs.length<=ps.length+1->Q (.ref l) H3:=fun l qs S h n h1 h2=>q l _ qs n S h h1 h2
  walk_at "rd";intro p3 lI;have S3:Same H2 (A0 H2 p3 (.lst [])):=Same.new lI;have h3:A0 H2 p3 (.lst []) p3=some (.lst []):=A5;generalize A0 H2 p3 (.lst [])=H3 at S3 h3;have iK:=S2.trans S3;have Q8:=iK _ _ hp;have iJ:=S3 _ _ v8;refine ⟨_,.lst (.of iJ) (l8 fun x hx=>hko x (hss x hx)),_,.lst (.of h3) .nil,L3 (Nat.min_le_right _ _) (by decide),?_⟩;have hcp:rListR K true p H3 Q:=rListR.l (.inl (.of Q8)) fun l nl=>Z4 l ps (iK.trans (Same.new nl)) A5 (iK.free nl) (fun x hx=>.inl hx) (by lia)
  by_cases hse:ss=[]
  ·subst hse;rw [if_pos (by rfl)];exact hcp
  split
  ·exact hcp
  refine iteD (fun _=>hcp) fun _=>?_
  have hs0:0<ss.length:=lQ.mpr hse;obtain ⟨x,hx,K6⟩:=pickA (zs:=ss) (c / 9*48271 % 2147483647 / 97) hs0;have fin1:∀ l H4 (qs:List Str),Same H3 H4->H3 l=none->H4 l=some (.lst (qs.map V.str))->(∀ y∈qs,y∈ps\/y=x)->qs.length<=ps.length+1->Q (.ref l) H4:=fun l H4 qs S n h h1 h2=>Z4 l qs (iK.trans S) h (iK.free n) (fun y hy=>(h1 y hy).imp id fun (e:y=x)=>by rw [e];exact hss x hx) h2
  refine ⟨ss.length,.inl ⟨_,.of iJ,by rw [A6]⟩,by lia,_,.inl (.of iJ),_,K6,?_⟩;rw [show (at_:Int)+1=((at_+1:Nat):Int) by lia];refine iteD (fun _=>afb Q8 M8 (C2 _) fin1) fun _=>iteD (fun _=>ah9 Q8 M8 (Nat.le_succ _) fun l H4 qs S n h h1 h2=>Z4 l qs (iK.trans S) h (iK.free n) (fun y hy=>.inl (h1 y hy)) h2) fun _=>afb Q8 M8 (Nat.le_succ _) fin1
theorem sc_l_numbers_put:FnScope ["_law_one", "_law_other", "_law_k"] ["_law_one", "_law_other"] (C3 gJ):=G0
abbrev zG:List Str:=["_law_one", "_law_other", "_law_k"]
theorem kQ:VS zG gJ "_law_one" 0:=vq
theorem kR:VS zG gJ "_law_other" 1:=vq
theorem kS:VS zG gJ "_law_k" 2:=vq
theorem ve0:LS gJ "_law_k":=lq
theorem aeu(F:FunD K "_law_numbers_put" "_law_numbers_put" gJ f fd)(T:Txt P w K mg C):FnOk P w K mg base E8 1 f fd ["_law_one", "_law_other"] anA:=by
 refine F.ok sc_l_numbers_put ?_ ?_
 ·rintro _ _ _ _ ⟨a,b,xs,ys,rfl,_⟩;rfl
 ·intro cdv A outer s H vs Q E hr h;have C4:=hu_of hr;have hu:=hr.units;refine ⟨_,QSs.out (A8 (L7 PassesOwn.never (qi_r1 T.b_range (qa_c (qe_cB (q_min (calm:=true)) T.b_min ane (qa_c (qe_cB (q_len (K:=K)) T.b_len O8 (qa_c (vi kQ) A3)) (qa_c (qe_cB (q_len (K:=K)) T.b_len O8 (qa_c (vi kR) A3)) A3))) A3)) (D1 (n:=2) sc_l_numbers_put.nd rfl ve0 (.inl rfl)) (A7 (qs_if (F6 (q_ne (K:=K) hu) (qe_ix (K:=K) (vi kQ) (vi kS)) (qe_ix (K:=K) (vi kR) (vi kS))) (A7 (E3 (qe_op q_sub (qe_cT mX T.b_int mJ (qa_c (fS q_lt (qe_ix (K:=K) (vi kR) (vi kS)) (qe_ix (K:=K) (vi kQ) (vi kS))) A3)) (qe_cT mX T.b_int mJ (qa_c (fS q_lt (qe_ix (K:=K) (vi kQ) (vi kS)) (qe_ix (K:=K) (vi kR) (vi kS))) A3))))) G8)))
   (A7 (E3 (qe_op q_sub (qe_cT mX T.b_int mJ (qa_c (fS q_lt (qe_cB (q_len (K:=K)) T.b_len O8 (qa_c (vi kR) A3)) (qe_cB (q_len (K:=K)) T.b_len O8 (qa_c (vi kQ) A3))) A3)) (qe_cT mX T.b_int mJ (qa_c (fS q_lt (qe_cB (q_len (K:=K)) T.b_len O8 (qa_c (vi kQ) A3)) (qe_cB (q_len (K:=K)) T.b_len O8 (qa_c (vi kR) A3))) A3)))))),?_⟩
  obtain ⟨a,b,xs,ys,rfl,ha,hb,hxl,F7,q⟩:=h;walk_at "rd";refine ⟨xs.length,.inl ⟨_,.of ha,by rw [A6]⟩,ys.length,.inl ⟨_,.of hb,by rw [A6]⟩,?_⟩;obtain ⟨m,hm,hm1,o8⟩:∃ m:Nat,(if (ys.length:Int)<(xs.length:Int) then (ys.length:Int) else (xs.length:Int))=(m:Int)/\m<=xs.length/\(m=xs.length\/m=ys.length)/\m<=ys.length:=by
   by_cases h:(ys.length:Int)<(xs.length:Int)
   ·rw [if_pos h];exact ⟨ys.length,rfl,by lia,.inr rfl,C2 _⟩
   ·rw [if_neg h];exact ⟨xs.length,rfl,C2 _,.inl rfl,by lia⟩
  rw [hm];refine ⟨by lia,by lia,forR (fun i σ H'=>(∃ u:Option V,σ=[some (.ref a),some (.ref b),u])/\H'=H/\∀ k<i,xs[k]?=ys[k]?) ⟨⟨none,rfl⟩,rfl,by simp⟩ ?_ ?_⟩
  ·rintro i σ H' hi ⟨⟨u,rfl⟩,rfl,he⟩;have him:i<m:=by simpa using hi
   obtain ⟨x,hx⟩:∃ x,xs[i]?=some x:=⟨_,K8 (by lia)⟩
   obtain ⟨y,hy⟩:∃ y,ys[i]?=some y:=⟨_,K8 (by lia)⟩
   have ax:J8 (xs.map V.int) (0+(i:Int))=some (V.int x):=by rw [i5];exact O1 (by rw [V7,hx];rfl)
   have ay:J8 (ys.map V.int) (0+(i:Int))=some (V.int y):=by rw [i5];exact O1 (by rw [V7,hy];rfl)
   walk_at "rd";refine ⟨_,.inl (.of ha),_,ax,_,.inl (.of hb),_,ay,?_⟩;walk_at "rd"
   by_cases X1:x=y
   ·rw [if_neg (by simp [X1])];intro k hk
    by_cases hki:k=i
    ·rw [hki,hx,hy,X1]
    ·exact he k (by lia)
   ·rw [if_pos (by simp [X1])];rw [ao7 hx hy he X1] at q;refine ⟨_,.inl (.of hb),_,ay,_,.inl (.of ha),_,ax,?_⟩;walk_at "rd";refine ⟨_,.inl (.of ha),_,ax,_,.inl (.of hb),_,ay,?_⟩;walk_at "rd";rw [show (if decide (y<x)=true then (1:Int) else 0)-(if decide (x<y)=true then 1 else 0)=if x<y then -1 else 1 by
     by_cases h:x<y
     ·rw [if_neg (by simp;lia),if_pos (by simp [h]),if_pos h];rfl
     ·rw [if_pos (by simp;lia),if_neg (by simp [h]),if_neg h];rfl]
    exact q
  rintro σ H' ⟨⟨u,rfl⟩,rfl,he⟩;rw [ao8 fun k h1 h2=>he k (by simp;lia)] at q;walk_at "rd";refine ⟨ys.length,.inl ⟨_,.of hb,by rw [A6]⟩,xs.length,.inl ⟨_,.of ha,by rw [A6]⟩,xs.length,.inl ⟨_,.of ha,by rw [A6]⟩,ys.length,.inl ⟨_,.of hb,by rw [A6]⟩,?_⟩;simp only [decide_eq_true_eq,Int.ofNat_lt];exact q
theorem sc_l_marked:FnScope ["_law_rules_here", "_law_parts", "_law_cell", "_law_marks", "_law_at"] ["_law_rules_here", "_law_parts", "_law_cell"] (C3 aJ):=G0
abbrev oB:List Str:=["_law_rules_here", "_law_parts", "_law_cell", "_law_marks", "_law_at"]
theorem ve1:VS oB aJ "_law_rules_here" 0:=vq
theorem sY:VS oB aJ "_law_parts" 1:=vq
theorem ve3:VS oB aJ "_law_cell" 2:=vq
theorem zH:VS oB aJ "_law_marks" 3:=vq
theorem ve5:VS oB aJ "_law_at" 4:=vq
theorem ve6:LS aJ "_law_marks":=lq
theorem ve7:LS aJ "_law_at":=lq
theorem aiu(F:FunD K "_law_marked" "_law_marked" aJ f fd)(T:Txt P w K mg C)(G_l_row_of:FO P w K mg base 1 "_law_row_of" ["_law_rules_here", "_law_word"] [] (xH K)):FnOk P w K mg base E8 2 f fd ["_law_rules_here", "_law_parts", "_law_cell"] (ajb K):=by
 refine F.ok sc_l_marked ?_ ?_
 ·rintro _ _ _ _ ⟨r,p,c,ts,R,ns,ls,ms,ps,rfl,_⟩;rfl
 ·intro cdv A outer s H vs Q E hr h;have C4:=hu_of hr;have hu:=hr.units;refine ⟨_,QSs.out (A8 (D6 (n:=3) sc_l_marked.nd rfl ve6 (D0 G_l_row_of (hm hr) (qa_c (vi ve1) (qa_c K0 A3))))
   (A8 (D6 (n:=4) sc_l_marked.nd rfl ve7 (qe_op q_mod (vi ve3) (qe_op (q_add (K:=K)) (qe_cB (q_len (K:=K)) T.b_len O8 (qa_c (vi sY) A3)) A4)))
   (A8 (qs_if (F6 (q_eq (K:=K) hu) (vi zH) (L4 A3)) (A7 (E3 (qe_cT (t9 (K:=K) (calm:=true)) T.b_list t8 (qa_c (vi sY) A3)))) G8)
   (A7 (E3 (qe_op (q_add (K:=K)) (qe_op (q_add (K:=K)) (N7 (K:=K) (vi sY) P6 (L6 (vi ve5))) (L4 (qa_c (qe_ix (K:=K) (vi zH) (qe_op q_mod (qe_op L9 (vi ve3) A4) (qe_cB (q_len (K:=K)) T.b_len O8 (qa_c (vi zH) A3)))) A3))) (N7 (K:=K) (vi sY) (L6 (vi ve5)) P6))))))),?_⟩
  obtain ⟨r,p,c,ts,R,ns,ls,ms,ps,rfl,hR,G,hp,M8,q⟩:=h;have hRl:=G.len;have qE:=i4 c (show ((ps.length:Int)+1)≠0 by lia);have C9:=k9 c (show 0<(ps.length:Int)+1 by lia);have cL:∀ x∈ms,V1 x=true:=fun x hx=>by
   obtain ⟨k,hk⟩:=G.pc (D3.mpr ⟨_,G.mark.mpr hx,rfl⟩);exact (fR hk.ok.1).1
  walk_at "rd";refine ⟨r,ts,R, "marks",rfl,hR,by lia,fun z hz=>L3 (G.zl hz) (by decide),fun m H1 nm S1 hm=>?_⟩;rw [G.mrk.1] at hm;refine ⟨ps.length,.inl ⟨_,.of (S1 _ _ hp),by rw [A6]⟩,by lia,fun p3 lI=>?_⟩;have S2:Same H1 (A0 H1 p3 (.lst [])):=Same.new lI;have h3:A0 H1 p3 (.lst []) p3=some (.lst []):=A5;generalize A0 H1 p3 (.lst [])=H2 at S2 h3;have eU:=S1.trans S2;have o8:=S2 _ _ hm;have R6:=eU _ _ hp;obtain ⟨k,hk⟩:∃ m:Nat,c % ((ps.length:Int)+1)=(m:Int):=⟨(c % ((ps.length:Int)+1)).toNat,by lia⟩
  rw [hk];refine ⟨_,.lst (.of o8) (l8 cL),_,.lst (.of h3) .nil,L3 (Nat.min_le_right _ _) (by decide),?_⟩
  by_cases uC:ms=[]
  ·subst uC;rw [if_pos (by rfl)];exact rListR.l (.inl (.of R6)) fun l nl=>q l _ ps (eU.free nl) (eU.trans (Same.new nl)) A5 (fun x hx=>.inl hx) (by lia)
  rw [if_neg (by
   cases ms with
   | nil=>exact absurd rfl uC
   | cons x r=>simp [Q9,X9])]
  obtain ⟨x,hx,K6⟩:=pickA (zs:=ms) (c / 13) (lQ.mpr uC);have tY:=lQ.mpr uC;refine rSlR.l (.of R6) fun a1 n1=>?_
  rw [bI,<- k5];have S3:Same H2 (A0 H2 a1 (.lst ((ps.take k).map V.str))):=Same.new n1;have h1:A0 H2 a1 (.lst ((ps.take k).map V.str)) a1=some (.lst ((ps.take k).map V.str)):=A5;generalize A0 H2 a1 (.lst ((ps.take k).map V.str))=H3 at S3 h1;refine ⟨ms.length,.inl ⟨_,.of (S3 _ _ o8),by rw [A6]⟩,_,rfl,by lia,?_⟩;walk_at "rd";refine ⟨_,.inl (.of (S3 _ _ o8)),_,K6,by decide,fun a2 n2=>?_⟩;have S4:Same H3 (A0 H3 a2 (.lst ([x].map V.str))):=Same.new n2;have h2:A0 H3 a2 (.lst ([x].map V.str)) a2=some (.lst ([x].map V.str)):=A5;show rAddU K (.ref a1) (.ref a2) (A0 H3 a2 (.lst ([x].map V.str))) _;generalize A0 H3 a2 (.lst ([x].map V.str))=H4 at S4 h2;refine rAddR.l (S4 _ _ h1) h2 (by simp only [A6,E7,N5];exact P5 (by lia)) fun a3 n3=>?_
  rw [<- D8];have S5:Same H4 (A0 H4 a3 (.lst ((ps.take k++[x]).map V.str))):=Same.new n3;have h5:A0 H4 a3 (.lst ((ps.take k++[x]).map V.str)) a3=some (.lst ((ps.take k++[x]).map V.str)):=A5;generalize A0 H4 a3 (.lst ((ps.take k++[x]).map V.str))=H5 at S5 h5;have eV:=S3.trans (S4.trans S5);refine rSlR.l (.of (eV _ _ R6)) fun a4 n4=>?_
  rw [m5,<- y9];refine rAddR.l (D9 h5 n4) A5 (by simp only [A6,C5,E7,W2,N5];exact P5 (by lia)) fun a5 n5=>?_
  rw [<- D8];refine q a5 _ (ps.take k++[x]++ps.drop k) ((eU.trans (eV.trans (Same.new n4))).free n5) (eU.trans (eV.trans ((Same.new n4).trans (Same.new n5)))) A5 (fun y hy=>?_) (by simp only [C5,E7,W2,N5];lia)
  rcases E1.mp hy with h | h
  ·rcases E1.mp h with h | h
   ·exact .inl (eZ h)
   ·rw [E6.mp h];exact .inr hx
  ·exact .inl (List.mem_of_mem_drop h)
theorem sc_l_texts:FnScope ["_law_script", "_law_rules_here", "_law_makes_here", "_law_parts", "_law_texts_here", "_law_k"] ["_law_script", "_law_rules_here"] (C3 j5):=G0
abbrev kT:List Str:=["_law_script", "_law_rules_here", "_law_makes_here", "_law_parts", "_law_texts_here", "_law_k"]
theorem oC:VS kT j5 "_law_script" 0:=vq
theorem sZ:VS kT j5 "_law_rules_here" 1:=vq
theorem vfa:VS kT j5 "_law_makes_here" 2:=vq
theorem oE:VS kT j5 "_law_parts" 3:=vq
theorem tD:VS kT j5 "_law_texts_here" 4:=vq
theorem vfd:VS kT j5 "_law_k" 5:=vq
theorem vfe:LS j5 "_law_makes_here":=lq
theorem vff:LS j5 "_law_parts":=lq
theorem vfg:LS j5 "_law_texts_here":=lq
theorem vfh:LS j5 "_law_k":=lq
theorem ajX(F:FunD K "_law_texts" "_law_texts" j5 f fd)(T:Txt P w K mg C)(G_l_cell_at:FO P w K mg base 1 "_law_cell_at" ["_law_script", "_law_k"] [] (jO K))(G_l_makes:FO P w K mg base 2 "_law_makes" ["_law_rules_here"] [] (alp K))(G_l_pieces:FO P w K mg base 1 "_law_pieces" ["_law_makes_here", "_law_worth", "_law_cells"] [] (ai3 K))(G_l_changed:FO P w K mg base 2 "_law_changed" ["_law_makes_here", "_law_parts", "_law_cell"] [] (ahm K))(G_l_marked:FO P w K mg base 2 "_law_marked" ["_law_rules_here", "_law_parts", "_law_cell"] [] (ajb K)):FnOk P w K mg base E8 3 f fd ["_law_script", "_law_rules_here"] (alF K):=by
 refine F.ok sc_l_texts ?_ ?_
 ·rintro _ _ _ _ ⟨a,r,ns,ts,R,ls,ms,rfl,_⟩;rfl
 ·intro cdv A outer s H vs Q E hr h;have C4:=hu_of hr;have hu:=hr.units;refine ⟨_,QSs.out (A8 (D6 (n:=2) sc_l_texts.nd rfl vfe (D0 G_l_makes (hm hr) (qa_c (vi sZ) A3)))
   (A8 (D6 (n:=3) sc_l_texts.nd rfl vff (D0 G_l_pieces (hm hr) (qa_c (vi vfa) (qa_c (fS (q_inD (K:=K) hu) (N9 (qa_c K0 A3)) (vi sZ)) (qa_c (N7 (K:=K) (vi oC) (L6 A4) (L6 A4)) A3)))))
   (A8 (D6 (n:=4) sc_l_texts.nd rfl vfg (L4 (qa_c (qe_mB (K:=K) qJ qM qL (rE (K:=K)) K0 (qa_c (vi oE) A3)) A3)))
   (A8 (L7 PassesOwn.never (qi_r1 T.b_range (qa_c A4 A3)) (D1 (n:=5) sc_l_texts.nd rfl vfh (.inl rfl)) (A8 (D6 (n:=3) sc_l_texts.nd rfl vff (D0 G_l_changed (hm hr) (qa_c (vi vfa) (qa_c (vi oE) (qa_c (D0 G_l_cell_at (hm hr) (qa_c (vi oC) (qa_c (qe_op (q_add (K:=K)) A4 (vi vfd)) A3))) A3)))))
   (A7 (O4 (qe_mB (K:=K) Q1 V0 U9 V3 (vi tD) (qa_c (qe_mB (K:=K) qJ qM qL (rE (K:=K)) K0 (qa_c (vi oE) A3)) A3))))))
   (A8 (qs_if (F6 (q_eq (K:=K) hu) (qe_op q_mod (D0 G_l_cell_at (hm hr) (qa_c (vi oC) (qa_c A4 A3))) A4) A4) (A8 (anf (qe_mB (K:=K) qJ qM qL (rE (K:=K)) K0 (qa_c (D0 G_l_marked (hm hr) (qa_c (vi sZ) (qa_c (vi oE) (qa_c (D0 G_l_cell_at (hm hr) (qa_c (vi oC) (qa_c A4 A3))) A3)))) A3)) (ak3 (vi tD) A4))
   (A7 (anf (qe_mB (K:=K) qJ qM qL (rE (K:=K)) K0 (qa_c (D0 G_l_marked (hm hr) (qa_c (vi sZ) (qa_c (vi oE) (qa_c (D0 G_l_cell_at (hm hr) (qa_c (vi oC) (qa_c A4 A3))) A3)))) A3)) (ak3 (vi tD) A4)))) G8)
   (A7 (E3 (vi tD)))))))),?_⟩
  obtain ⟨a,r,ns,ts,R,ls,ms,rfl,hS,hR,G,q⟩:=h;obtain ⟨hL,hM⟩:=G.lines;walk_at "rd";refine ⟨r,ts,R,ns,ls,ms,rfl,hR,G,hL,hM,fun d ks H2 nd S2 hd p0 W1=>?_⟩;have hR2:=hR.same S2;have hS2:=S2.seq hS;refine ⟨by decide,fun p np=>?_⟩;have S3:Same H2 (A0 H2 p (.tup [V.str (Str.ofString "figures")])):=Same.new np;have Q8:A0 H2 p (.tup [V.str (Str.ofString "figures")]) p=some (.tup ((("figures" : Str)::[]).map V.str)):=A5;generalize A0 H2 p (.tup [V.str (Str.ofString "figures")])=H3 at S3 Q8;refine ⟨ruleD ("figures",[]),.tup (.of Q8) (l8 (by intro y hy;rw [E6.mp hy];decide +kernel)),R.map ruleD,aiS (hR2.same S3) G.str,L3 (iT _ _) (L3 (wT R) (by decide)),?_⟩;rw [alo R "figures" (G.flag (.inl rfl))];refine rSlR.l (S3.seq hS2) fun c nc=>?_
  rw [show cutV (ns.map V.int) (some 10) (some 28)=((ns.drop 10).take 18).map V.int by rw [show cutV (ns.map V.int) (some 10) (some 28)=_ from wL _ (i:=10) (j:=28) (by decide),<- y9,<- k5]];have pK:((ns.drop 10).take 18).length<=18:=by rw [E7];lia
  generalize (ns.drop 10).take 18=cs at pK;have S4:Same H3 (A0 H3 c (.lst (cs.map V.int))):=Same.new nc;have aQ:A0 H3 c (.lst (cs.map V.int)) c=some (.lst (cs.map V.int)):=A5;generalize A0 H3 c (.lst (cs.map V.int))=H4 at S4 aQ;have Y7:=hd.same (S3.trans S4);obtain ⟨ad,x4,R5⟩:=Y7;refine ⟨d,c,_,ks,_,cs,rfl,x4,G.known_pos p0,W1,.of aQ,by lia,fun l H5 ps nl S5 cH Y6 M8=>?_⟩;have eV:=S3.trans (S4.trans S5);have hd5:=hd.same eV;have hS5:=eV.seq hS2;have Z7:=S2.trans eV;clear hd x4 R5 hR2 hS2 S3 S4 S5 nl aQ nc Q8 np eV S2;have hko:∀ x∈ks,V1 x=true:=fun x hx=>by
   rcases kC ((p0 x).mp hx) with rfl | h
   ·decide +kernel
   ·obtain ⟨k,hk⟩:=G.pc h;exact (fR hk.ok.1).1
  have ok:∀ {qs:List Str},(∀ p∈qs,e9 (hasW R "figures") ks p)->qs.length<=24->(qs.map (·.length)).sum<=1000/\nP R (Str.join (Str.ofString "") qs):=fun {qs} h hl=>by
   obtain ⟨t1,t2,t3,t4⟩:=als G p0 h;refine ⟨by lia,by lia,t4,fun c hc=>?_⟩;rw [t3] at hc;obtain ⟨p,hp,hc⟩:=X5.mp hc;exact arT G p0 (h p hp) c hc
  obtain ⟨o1,o2⟩:=ok Y6 (by lia);refine ⟨_,l,ps,rfl,rfl,.inl (.of cH),by decide,by lia,?_⟩;have hR5:=hR.same Z7;have eK:∀ x∈ms,x∈ks:=fun x hx=>(p0 x).mpr (xI (D3.mpr ⟨_,G.mark.mpr hx,rfl⟩))
  refine ⟨by decide,fun p np=>⟨by decide,by decide,?_⟩⟩;have S6:Same H5 (A0 H5 p (.lst [V.str (Str.join (Str.ofString "") ps)])):=Same.new np;have lH:A0 H5 p (.lst [V.str (Str.join (Str.ofString "") ps)]) p=some (.lst ([Str.join (Str.ofString "") ps].map V.str)):=A5;generalize A0 H5 p (.lst [V.str (Str.join (Str.ofString "") ps)])=H6 at S6 lH;have nlp:l≠p:=fun e=>by rw [e,np] at cH;cases cH
  refine forR (fun i σ H'=>∃ (u:Option V) (l:Addr) (qs zs:List Str),σ=[some (.ref a),some (.ref r),some (.ref d),some (.ref l),some (.ref p),u]/\Same H5 H'/\H' p=some (.lst (zs.map V.str))/\H' l=some (.lst (qs.map V.str))/\l≠p/\(∀ p∈qs,e9 (hasW R "figures") ks p)/\qs.length<=18+i/\zs.length=i+1/\∀ z∈zs,nP R z)
   ⟨none,l,ps,[Str.join (Str.ofString "") ps],rfl,S6,lH,S6 _ _ cH,nlp,Y6,by lia,rfl,fun z hz=>by rw [E6.mp hz];exact o2⟩ ?_ ?_
  ·rintro i σ H' hi ⟨u,l,qs,zs,rfl,S',tH,iH,nlp,cC,iF,z1,g6⟩;have hG:i<2:=hi;walk_at "rd";refine ⟨a,ns,_,rfl,S'.seq hS5,by lia,?_⟩;refine ⟨d,l,_,ks,qs,stepF R ls ms,rfl,hd5.same S',ahf G ls ms,G.known_pos p0,W1,hko,iH,by lia,fun l3 H7 rs p8 S7 p6 hrs cJ=>?_⟩;have cP:∀ p∈rs,e9 (hasW R "figures") ks p:=fun p hp=>(hrs p hp).elim (cC p) .inl
   obtain ⟨o3,o4⟩:=ok cP (by lia);have cK:=S7 _ _ tH;have nl3p:l3≠p:=fun e=>by rw [e,tH] at p8;cases p8
   refine ⟨Q2 cK,_,l3,rs,rfl,rfl,.inl (.of p6),by decide,by lia,appOk cK (by rw [A6];exact G7 (by lia)) ⟨_,l3,rfl,rfl,(S'.trans S7).put np,rs,zs++[Str.join (Str.ofString "") rs],by rw [A5,D8];rfl,by rw [B1 nl3p];exact p6,nl3p,cP,by lia,by rw [C5,N5];lia,fun z hz=>?_⟩⟩
   rcases E1.mp hz with h | h
   ·exact g6 z h
   ·rw [E6.mp h];exact o4
  rintro σ H7 ⟨u,l,qs,zs,rfl,S7,cK,p6,nlp,cC,iF,z1,g6⟩;have z3:zs.length=3:=z1;have hql2:qs.length<=20:=iF;walk_at "rd";refine ⟨a,ns,6,rfl,S7.seq hS5,by decide,_,rfl,iteD (fun _=>⟨a,ns,7,rfl,S7.seq hS5,by decide,?_⟩) fun _=>q p H7 zs (Z7.trans S7) cK z3 g6⟩;refine ⟨r,l,_,ts,R,ns,ls,ms,qs,rfl,hR5.same S7,G,p6,by lia,fun l3 H8 rs p8 S8 hX hrs cJ=>?_⟩;have cP:∀ p∈rs,e9 (hasW R "figures") ks p:=fun p hp=>(hrs p hp).elim (cC p) fun h=>.inl (eK p h)
  obtain ⟨o3,o4⟩:=ok cP (by lia);have hp8:=S8 _ _ cK;refine ⟨_,l3,rs,rfl,rfl,.inl (.of hX),by decide,by lia,_,hp8,0,by rw [A6,z3];rfl,?_⟩;generalize Str.join (Str.ofString "") rs=w at o4;rw [<- List.map_set];have S9:Same H5 (A0 H8 p (.lst ((zs.set 0 w).map V.str))):=(S7.trans S8).put np;have qA:A0 H8 p (.lst ((zs.set 0 w).map V.str)) p=some (.lst ((zs.set 0 w).map V.str)):=A5;have iA:A0 H8 p (.lst ((zs.set 0 w).map V.str)) l=some (.lst (qs.map V.str)):=by rw [B1 nlp];exact S8 _ _ p6
  generalize A0 H8 p (.lst ((zs.set 0 w).map V.str))=H9 at S9 qA iA;refine ⟨a,ns,8,rfl,S9.seq hS5,by decide,?_⟩;refine ⟨r,l,_,ts,R,ns,ls,ms,qs,rfl,hR5.same S9,G,iA,by lia,fun l4 HA rs4 nl4 SA hlA hrs4 hrl4=>?_⟩;have hrs5:∀ p∈rs4,e9 (hasW R "figures") ks p:=fun p hp=>(hrs4 p hp).elim (cC p) fun h=>.inl (eK p h)
  obtain ⟨o5,o6⟩:=ok hrs5 (by lia);have hpA:=SA _ _ qA;refine ⟨_,l4,rs4,rfl,rfl,.inl (.of hlA),by decide,by lia,_,hpA,1,by rw [A6,List.length_set,z3];rfl,?_⟩;generalize Str.join (Str.ofString "") rs4=w4 at o6;rw [<- List.map_set];refine q p _ ((zs.set 0 w).set 1 w4) (Z7.trans ((S9.trans SA).put np)) A5 (by rw [List.length_set,List.length_set,z3]) fun z hz=>?_
  rcases List.mem_or_eq_of_mem_set hz with h | h
  ·rcases List.mem_or_eq_of_mem_set h with h | h
   ·exact g6 z h
   ·rw [h];exact o4
  ·rw [h];exact o6
theorem sc_law:FnScope ["_law_script", "_law_rules_here", "_law_order", "_law_texts_here", "_law_strength", "_law_made", "_law_k", "_law_j", "_law_due"] ["_law_script"] (C3 s_law):=G0
abbrev n_law:List Str:=["_law_script", "_law_rules_here", "_law_order", "_law_texts_here", "_law_strength", "_law_made", "_law_k", "_law_j", "_law_due"]
theorem vfi:VS n_law s_law "_law_script" 0:=vq
theorem vfj:VS n_law s_law "_law_rules_here" 1:=vq
theorem vfk:VS n_law s_law "_law_order" 2:=vq
theorem zI:VS n_law s_law "_law_texts_here" 3:=vq
theorem vfm:VS n_law s_law "_law_strength" 4:=vq
theorem vfn:VS n_law s_law "_law_made" 5:=vq
theorem vfo:VS n_law s_law "_law_k" 6:=vq
theorem vfp:VS n_law s_law "_law_j" 7:=vq
theorem vfq:VS n_law s_law "_law_due" 8:=vq
theorem vfr:LS s_law "_law_rules_here":=lq
theorem vfs:LS s_law "_law_order":=lq
theorem vft:LS s_law "_law_texts_here":=lq
theorem vfu:LS s_law "_law_strength":=lq
theorem vfv:LS s_law "_law_made":=lq
theorem vfw:LS s_law "_law_k":=lq
theorem vfx:LS s_law "_law_j":=lq
theorem vfy:LS s_law "_law_due":=lq
theorem arU(F:FunD K "law" "law" s_law f fd)(T:Txt P w K mg C)(G_Order___init__:KO P w K mg base 5 C "Order" ["self", "rules"] (wS C))(G3_compare:FO P w K mg base 8 "compare" ["order", "one", "other", "strength"] [] (sC C))(G3_key:FO P w K mg base 7 "key" ["order", "text", "strength"] [] (spKey C))(G_l_rules:FO P w K mg base 5 "_law_rules" ["_law_script"] [] (aiW K))(G_l_numbers_put:FO P w K mg base 1 "_law_numbers_put" ["_law_one", "_law_other"] [] anA)(G_l_texts:FO P w K mg base 3 "_law_texts" ["_law_script", "_law_rules_here"] [] (alF K)):FnOk P w K mg base E8 9 f fd ["_law_script"] (spLaw K):=by
 refine F.ok sc_law ?_ ?_
 ·rintro _ _ _ _ ⟨a,ns,rfl,_⟩;rfl
 ·intro cdv A outer s H vs Q E hr h;have C4:=hu_of hr;have hu:=hr.units;refine ⟨_,QSs.out (A8 (D6 (n:=1) sc_law.nd rfl vfr (D0 G_l_rules (hm hr) (qa_c (vi vfi) A3)))
   (A8 (D6 (n:=2) sc_law.nd rfl vfs (aoL G_Order___init__ (hm hr) (qa_c (vi vfj) A3)))
   (A8 (D6 (n:=3) sc_law.nd rfl vft (D0 G_l_texts (hm hr) (qa_c (vi vfi) (qa_c (vi vfj) A3))))
   (A8 (L7 PassesOwn.never (qi_r2 T.b_range (qa_c A4 (qa_c A4 A3))) (D1 (n:=4) sc_law.nd rfl vfu (.inl rfl)) (A8 (dG (n:=5) sc_law.nd rfl vfv (Q5:CompOk ["_law_script", "_law_rules_here", "_law_order", "_law_texts_here", "_law_strength", "_law_made", "_law_k", "_law_j", "_law_due"] (C3 s_law).names _ ["_law_text", "_law_order", "_law_strength"] 1 [2,4]) (O2 (K:=K) (vi zI)) (fun _ _ _ _ _=>D1 (n:=0) (show List.Nodup (["_law_text", "_law_order", "_law_strength"]:List Str) by decide +kernel) rfl (Or.inl rfl)) (fun _ _ _ _ _=>W3) (fun _ _ _ _ _=>(D0 G3_key (hm hr) (qa_c (qv 1) (qa_c (qv 0) (qa_c (qv 2) A3))))))
   (A7 (L7 PassesOwn.never (qi_r1 T.b_range (qa_c A4 A3)) (D1 (n:=6) sc_law.nd rfl vfw (.inl rfl)) (A7 (L7 PassesOwn.never (qi_r1 T.b_range (qa_c A4 A3)) (D1 (n:=7) sc_law.nd rfl vfx (.inl rfl)) (A8 (D6 (n:=8) sc_law.nd rfl vfy (D0 G_l_numbers_put (hm hr) (qa_c (qe_ix (K:=K) (vi vfn) (vi vfo)) (qa_c (qe_ix (K:=K) (vi vfn) (vi vfp)) A3))))
   (A7 (qs_if (F6 (q_ne (K:=K) hu) (D0 G3_compare (hm hr) (qa_c (vi vfk) (qa_c (qe_ix (K:=K) (vi zI) (vi vfo)) (qa_c (qe_ix (K:=K) (vi zI) (vi vfp)) (qa_c (vi vfm) A3))))) (vi vfq)) (A7 (E3 qe_bl)) G8)))))))))
   (A7 (E3 qe_bl)))))),?_⟩
  obtain ⟨a,ns,rfl,hS,A9,q⟩:=h;walk_at "rd";refine ⟨a,ns,rfl,hS,fun r ts R ls ms H1 S1 nr hR G=>?_⟩;intro x dx nx ndx ndxx;have S2:Same H1 (A0 (A0 H1 dx (.own x)) x (.ins C dx [])):=(Same.new ndx).trans (Same.new (by rw [B1 ndxx.symm];exact nx));have iG:A0 (A0 H1 dx (.own x)) x (.ins C dx []) x=some (.ins C dx []):=A5;generalize A0 (A0 H1 dx (.own x)) x (.ins C dx [])=H2 at S2 iG;refine ⟨x,dx,r,ts,R,jW R,_,_,rfl,iG,hR.same S2,G.good,fun j ll ml md L M H3 nj nll nml nmd B3 hO=>?_⟩;obtain rfl:=G.lets hO.l1;obtain rfl:=G.mrks hO.l2;have S13:Same H1 H3:=fun b o hb=>B3 _ _ (fun e=>by rw [e,nx] at hb;cases hb) (S2 _ _ hb)
  refine ⟨rfl,a,r,ns,ts,R,L,M,rfl,(S1.trans S13).seq hS,hR.same S13,G,fun l H4 zs S4 pH P1 g6=>?_⟩;have hO4:=hO.same S4;have hsY:=alk G L M;have W1:=G.known_len;clear S2 iG B3 nj nll nml nmd hO S13 S1 hR nx ndx ndxx nr S4 hS;have klen:∀ n z,nP R z->(keyZ n R L M z).length<=1000000:=fun n z hz=>by
   obtain ⟨b1,b2,b3⟩:=ae9 hsY (w:=hasW R "figures") (ks:=E5 R) (y:=z) (by have:=hz.1;lia)
   have:=amV (hasW R "behind") (O5 (stepY R L M) (cutF (hasW R "figures") (E5 R) z.cps.toList).2) z n
   have:=hz.1
   unfold keyZ;lia
  have za:∀ {k:Nat},k<3->∃ z,zs[k]?=some z/\nP R z/\J8 (zs.map V.str) (0+(k:Int))=some (V.str z):=fun {k} hk=>by
   have e:zs[k]?=some zs[k]:=K8 (by lia);exact ⟨zs[k],e,g6 _ (lV _),by rw [i5];exact O1 (by rw [V7,e];rfl)⟩
  refine ⟨by decide,by decide,by decide,by decide,forR (fun i σ H'=>(∃ u v w y o:Option V,σ=[some (.ref a),some (.ref r),some (.ref x),some (.ref l),u,v,w,y,o])/\Same H4 H') ⟨⟨none,none,none,none,none,rfl⟩,aD _⟩ ?_ ?_⟩
  ·rintro i σ H' hi ⟨⟨u,v,w,y,o,rfl⟩,S'⟩;have hi4:i<4:=hi;have iH:=S' _ _ pH;walk_at "rd";rw [show (1:Int)+(i:Int)=((i+1:Nat):Int) by lia];refine ⟨⟨_,.of iH⟩,compL (xs:=zs.map V.str) [some (.ref x),some (.int ((i+1:Nat):Int))] rfl (fun D k ys H2=>∃ rs:List Addr,Same H' H2/\ys=rs.map V.ref/\Paired (fun r z=>H2 r=some (.lst ((keyZ (i+1) R L M z).map V.int))/\r≠D) rs (zs.take k)) (fun D nD=>⟨[],Same.new nD,rfl,.nil⟩) (by rintro D k ys H2 nD _ ⟨_,S,_⟩;exact .of (S _ _ iH)) ?_ ?_⟩
   ·rintro D k y ys H2 nD hk hy ⟨rs,S2,rfl,hP⟩ hD F7;obtain ⟨z,hz,rfl⟩:=G5 hy;have hzo:=g6 z (M9 hz);have hkz:k<zs.length:=(G1.mp hz).1;have cJ:=Paired.length hP;rw [E7] at cJ;walk_at "rd";refine ⟨x,j,ll,ml,md,z,i+1,jW R,R,L,M,rfl,by lia,hO4.same (S'.trans S2),W1,by have:=hzo.1;lia,hzo.2.1,hsY,fun l3 H3 p8 S3 eT=>?_⟩;have nlD:l3≠D:=fun e=>by rw [e,hD] at p8;cases p8
    refine ⟨S3 _ _ hD,by rw [A6];exact G7 (by lia),CW.put hk F7 ⟨(S2.trans S3).put nD,rs++[l3],by rw [D8];rfl,?_⟩⟩;rw [K7 hz];exact Paired.snoc (N0 hP fun r z ⟨h1,h2⟩=>⟨by rw [B1 h2];exact S3 _ _ h1,h2⟩) ⟨by rw [B1 nlD];exact eT,nlD⟩
   rintro D ys H5 nD ⟨rs,S5,rfl,hP⟩ hD _;rw [A6,G4] at hP;have cJ:=Paired.length hP;have ra:∀ {k:Nat} {z:Str},zs[k]?=some z->∃ r,J8 (rs.map V.ref) (0+(k:Int))=some (V.ref r)/\H5 r=some (.lst ((keyZ (i+1) R L M z).map V.int)):=fun {k z} hz=>by
    have hk:k<zs.length:=(G1.mp hz).1;have e:rs[k]?=some rs[k]:=K8 (by lia);obtain ⟨z2,h1,h2⟩:=Paired.at hP e;rw [hz] at h1;obtain rfl:=Option.some.inj h1;exact ⟨rs[k],by rw [i5];exact O1 (by rw [V7,e];rfl),h2.1⟩
   refine ⟨by decide,by decide,forR (fun k σ H2=>(∃ w y o:Option V,σ=[some (.ref a),some (.ref r),some (.ref x),some (.ref l),some (.int ((i+1:Nat):Int)),some (.ref D),w,y,o])/\Same H5 H2) ⟨⟨_,_,_,rfl⟩,aD _⟩ ?_ ?_⟩
   ·rintro k σ H6 hk ⟨⟨w,y,o,rfl⟩,S6⟩;have pB:k<3:=hk;obtain ⟨z,z1,z2,z3⟩:=za pB;obtain ⟨rk,k1,k2⟩:=ra z1;walk_at "rd";refine ⟨by decide,by decide,forR (fun m σ H2=>(∃ y o:Option V,σ=[some (.ref a),some (.ref r),some (.ref x),some (.ref l),some (.int ((i+1:Nat):Int)),some (.ref D),some (.int (0+(k:Int))),y,o])/\Same H5 H2) ⟨⟨_,_,rfl⟩,S6⟩ ?_ ?_⟩
    ·rintro m σ H7 hm ⟨⟨y,o,rfl⟩,S7⟩;have hm3:m<3:=hm;obtain ⟨z',w1,w2,w3⟩:=za hm3;obtain ⟨rm,m1,m2⟩:=ra w1;have hD7:=S7 _ _ hD;have p6:=S7 _ _ (S5 _ _ iH);walk_at "rd";refine ⟨_,.inl (.of hD7),_,k1,_,.inl (.of hD7),_,m1,rk,rm,_,_,rfl,S7 _ _ k2,S7 _ _ m2,klen _ _ z2,klen _ _ w2,?_⟩;refine ⟨_,.inl (.of p6),_,z3,_,.inl (.of p6),_,w3,x,j,ll,ml,md,z,z',i+1,jW R,R,L,M,rfl,by lia,hO4.same (S'.trans (S5.trans S7)),W1,by have:=z2.1;lia,by have:=w2.1;lia,z2.2.1,w2.2.1,hsY,fun H8 S8=>?_⟩;walk_at "rd";rw [ao9 (by lia) z2.2.2 w2.2.2,if_neg (by simp)];exact S7.trans S8
    rintro σ H7 ⟨⟨y,o,rfl⟩,S7⟩;exact ⟨⟨_,_,_,rfl⟩,S7⟩
   rintro σ H6 ⟨⟨w,y,o,rfl⟩,S6⟩;exact ⟨⟨_,_,_,_,_,rfl⟩,S'.trans (S5.trans S6)⟩
  rintro σ H5 ⟨⟨u,v,w,y,o,rfl⟩,S5⟩;walk_at "rd";exact q _
end
theorem all_mk{l:PySem.W.OpenLaw}{w:World}(X:K.In h)(G:h.Ns mainGlobals mg)(lF:mg "law"=some (.ref fa))(d0:DF K "told" aF)(d1:DF K "followers" f7)(d2:DF K "count_ahead" aG)(d3:DF K "lined_up" T0)(d4:DF K "is_figure" sA)(d5:DF K "has_rule" nE)(d6:DF K "pieces_told" sB)(d7:DF K "is_clash" dN)(d8:DF K "jobs_of" n8)(d9:DF K "misused" bL)(d10:DF K "check_letters" bM)(d11:DF K "line_of" nF)(d12:DF K "forms_of" dO)(d13:DF K "steps_of" R3){f14:Addr}{od14 an14:Option Addr}{sl14:Array (Option Value)}{oc14 kV14 dc14 pm14 cd14 ct14:Value}(a14:R9 K (.ref C) "__init__"=some (some (.ref f14)))(i14:aX K (.ref f14)=true)(l14:K.lookup f14=some ⟨oc14,od14,.func (U3 "__init__" "Order.__init__" (V9 dP) (V2 dP) (C3 dP) .none kV14 dc14 pm14 an14 cd14 ct14),sl14⟩)(c14:X8 K cd14 "Order.__init__"=true)(k14:V8 K (.ref f14)=true){f15:Addr}{od15 an15:Option Addr}{sl15:Array (Option Value)}{oc15 kV15 dc15 pm15 cd15 ct15:Value}(a15:R9 K (.ref C) "letters"=some (some (.ref f15)))(i15:aX K (.ref f15)=true)(l15:K.lookup f15=some ⟨oc15,od15,.func (U3 "letters" "Order.letters" (V9 gE) (V2 gE) (C3 gE) .none kV15 dc15 pm15 an15 cd15 ct15),sl15⟩)(c15:X8 K cd15 "Order.letters"=true)(k15:V8 K (.ref f15)=true){f16:Addr}{od16 an16:Option Addr}{sl16:Array (Option Value)}{oc16 kV16 dc16 pm16 cd16 ct16:Value}(a16:R9 K (.ref C) "marks"=some (some (.ref f16)))(i16:aX K (.ref f16)=true)(l16:K.lookup f16=some ⟨oc16,od16,.func (U3 "marks" "Order.marks" (V9 gF) (V2 gF) (C3 gF) .none kV16 dc16 pm16 an16 cd16 ct16),sl16⟩)(c16:X8 K cd16 "Order.marks"=true)(k16:V8 K (.ref f16)=true){f17:Addr}{od17 an17:Option Addr}{sl17:Array (Option Value)}{oc17 kV17 dc17 pm17 cd17 ct17:Value}(a17:R9 K (.ref C) "job"=some (some (.ref f17)))(i17:aX K (.ref f17)=true)(l17:K.lookup f17=some ⟨oc17,od17,.func (U3 "job" "Order.job" (V9 dQ) (V2 dQ) (C3 dQ) .none kV17 dc17 pm17 an17 cd17 ct17),sl17⟩)(c17:X8 K cd17 "Order.job"=true)(k17:V8 K (.ref f17)=true)(d18:DF K "figures_at" gG)(d19:DF K "part_at" bN){f20:Addr}{od20 an20:Option Addr}{sl20:Array (Option Value)}{oc20 kV20 dc20 pm20 cd20 ct20:Value}{tD20:Addr}{nD20:Nat}{cD20:Value}{oD20:Option Addr}{sD20:Array (Option Value)}(dl20:K.lookup tD20=some ⟨cD20,oD20,.seq #[.bool false] nD20,sD20⟩)(a20:Q7 K mainGlobals "cut"=some (some (.ref f20)))(l20:K.lookup f20=some ⟨oc20,od20,.func (U3 "cut" "cut" (V9 s_cut) (V2 s_cut) (C3 s_cut) (.ref tD20) kV20 dc20 pm20 an20 cd20 ct20),sl20⟩)(c20:X8 K cd20 "cut"=true)(k20:V8 K (.ref f20)=true){f21:Addr}{od21 an21:Option Addr}{sl21:Array (Option Value)}{oc21 kV21 dc21 pm21 cd21 ct21:Value}(a21:R9 K (.ref C) "known"=some (some (.ref f21)))(i21:aX K (.ref f21)=true)(l21:K.lookup f21=some ⟨oc21,od21,.func (U3 "known" "Order.known" (V9 gH) (V2 gH) (C3 gH) .none kV21 dc21 pm21 an21 cd21 ct21),sl21⟩)(c21:X8 K cd21 "Order.known"=true)(k21:V8 K (.ref f21)=true){f22:Addr}{od22 an22:Option Addr}{sl22:Array (Option Value)}{oc22 kV22 dc22 pm22 cd22 ct22:Value}(a22:R9 K (.ref C) "steps"=some (some (.ref f22)))(i22:aX K (.ref f22)=true)(l22:K.lookup f22=some ⟨oc22,od22,.func (U3 "steps" "Order.steps" (V9 dR) (V2 dR) (C3 dR) .none kV22 dc22 pm22 an22 cd22 ct22),sl22⟩)(c22:X8 K cd22 "Order.steps"=true)(k22:V8 K (.ref f22)=true)(d23:DF K "parts_of" nG)(d24:DF K "steps_by" nH)(d25:DF K "add_mark" nI)(d26:DF K "add_part" n9)(d27:DF K "units" aH)(d28:DF K "looks" o0){f29:Addr}{od29 an29:Option Addr}{sl29:Array (Option Value)}{oc29 kV29 dc29 pm29 cd29 ct29:Value}{kD29:Tok}{tD29:Addr}{nD29:Nat}{cD29:Value}{oD29:Option Addr}{sD29:Array (Option Value)}(dl29:K.lookup tD29=some ⟨cD29,oD29,.seq #[.int 4 kD29] nD29,sD29⟩)(a29:Q7 K mainGlobals "compare"=some (some (.ref f29)))(l29:K.lookup f29=some ⟨oc29,od29,.func (U3 "compare" "compare" (V9 Y4) (V2 Y4) (C3 Y4) (.ref tD29) kV29 dc29 pm29 an29 cd29 ct29),sl29⟩)(c29:X8 K cd29 "compare"=true)(k29:V8 K (.ref f29)=true)(d30:DF K "first_numbers" nJ)(d31:DF K "first_level" dS)(d32:DF K "second_level" aI)(d33:DF K "third_level" nK)(d34:DF K "fourth_level" nM){f35:Addr}{od35 an35:Option Addr}{sl35:Array (Option Value)}{oc35 kV35 dc35 pm35 cd35 ct35:Value}{kD35:Tok}{tD35:Addr}{nD35:Nat}{cD35:Value}{oD35:Option Addr}{sD35:Array (Option Value)}(dl35:K.lookup tD35=some ⟨cD35,oD35,.seq #[.int 4 kD35] nD35,sD35⟩)(a35:Q7 K mainGlobals "key"=some (some (.ref f35)))(l35:K.lookup f35=some ⟨oc35,od35,.func (U3 "key" "key" (V9 s_key) (V2 s_key) (C3 s_key) (.ref tD35) kV35 dc35 pm35 an35 cd35 ct35),sl35⟩)(c35:X8 K cd35 "key"=true)(k35:V8 K (.ref f35)=true)(d36:DF K "_law_cell_at" nN)(d37:DF K "_law_sign" bO)(d38:DF K "_law_letters" V6)(d39:DF K "_law_part" gI)(d40:DF K "_law_two" kD)(d41:DF K "_law_others" R4)(d42:DF K "_law_rules" Z3)(d43:DF K "_law_row_of" bP)(d44:DF K "_law_forms" j3)(d45:DF K "_law_makes" j4)(d46:DF K "_law_pieces" f8)(d47:DF K "_law_bare" kE)(d48:DF K "_law_changed" W0)(d49:DF K "_law_numbers_put" gJ)(d50:DF K "_law_marked" aJ)(d51:DF K "_law_texts" j5){f52:Addr}{od52 an52:Option Addr}{sl52:Array (Option Value)}{oc52 kV52 dc52 pm52 cd52 ct52:Value}(a52:Q7 K mainGlobals "law"=some (some (.ref f52)))(l52:K.lookup f52=some ⟨oc52,od52,.func (U3 "law" "law" (V9 s_law) (V2 s_law) (C3 s_law) .none kV52 dc52 pm52 an52 cd52 ct52),sl52⟩)(c52:X8 K cd52 "law"=true)(k52:V8 K (.ref f52)=true)(aC:Q7 K mainGlobals "Order"=some (some (.ref C)))(pgC:lZ K C Str.empty=true)(hdC:PySem.W.hasDictIn K C=true)(poC:PySem.W.plainOver K C=true)(saC:R9 K (.ref C) "__setattr__"=some (some (.builtin "object.__setattr__")))(mkC:PySem.W.makesIn K C=true)(kcC:V8 K (.ref C)=true)(nC_figures:R9 K (.ref C) "figures"=some none)(nC_behind:R9 K (.ref C) "behind"=some none)(nC_jobs:R9 K (.ref C) "jobs"=some none)(nC_letter_line:R9 K (.ref C) "letter_line"=some none)(nC_mark_line:R9 K (.ref C) "mark_line"=some none)(nC_made:R9 K (.ref C) "made"=some none)(z_any:Q7 K mainGlobals "any"=some none)(z_dict:Q7 K mainGlobals "dict"=some none)(z_enumerate:Q7 K mainGlobals "enumerate"=some none)(z_int:Q7 K mainGlobals "int"=some none)(z_len:Q7 K mainGlobals "len"=some none)(z_list:Q7 K mainGlobals "list"=some none)(z_min:Q7 K mainGlobals "min"=some none)(z_ord:Q7 K mainGlobals "ord"=some none)(z_range:Q7 K mainGlobals "range"=some none)(z_str:Q7 K mainGlobals "str"=some none)(z_tuple:Q7 K mainGlobals "tuple"=some none)(z_zip:Q7 K mainGlobals "zip"=some none){a_JOBS:Addr}{ep_JOBS:Nat}{h_JOBS_0:Int}{t_JOBS_0 u_JOBS_0:Tok}{h_JOBS_1:Int}{t_JOBS_1 u_JOBS_1:Tok}{h_JOBS_2:Int}{t_JOBS_2 u_JOBS_2:Tok}{h_JOBS_3:Int}{t_JOBS_3 u_JOBS_3:Tok}{h_JOBS_4:Int}{t_JOBS_4 u_JOBS_4:Tok}(y_JOBS:Q7 K mainGlobals "JOBS"=some (some (.ref a_JOBS)))(d_JOBS:K.lookup a_JOBS=some { cls:=.type "dict",dict:=none,data:=.dict #[⟨h_JOBS_0,.str "row" t_JOBS_0,.str "letter" u_JOBS_0⟩,⟨h_JOBS_1,.str "marks" t_JOBS_1,.str "mark" u_JOBS_1⟩,⟨h_JOBS_2,.str "great" t_JOBS_2,.str "great" u_JOBS_2⟩,⟨h_JOBS_3,.str "as" t_JOBS_3,.str "as" u_JOBS_3⟩,⟨h_JOBS_4,.str "over" t_JOBS_4,.str "over" u_JOBS_4⟩] ep_JOBS,slots:=#[] })(s_JOBS:(a_JOBS==sysModules)=false)(e_JOBS_0:h_JOBS_0=keyH w (Sum.inr ("row" : Str)))(e_JOBS_1:h_JOBS_1=keyH w (Sum.inr ("marks" : Str)))(e_JOBS_2:h_JOBS_2=keyH w (Sum.inr ("great" : Str)))(e_JOBS_3:h_JOBS_3=keyH w (Sum.inr ("as" : Str)))(e_JOBS_4:h_JOBS_4=keyH w (Sum.inr ("over" : Str))){a_AGAIN:Addr}{n_AGAIN:Nat}{od_AGAIN:Option Addr}{sl_AGAIN:Array (Option Value)}{t_AGAIN_0:Tok}{t_AGAIN_1:Tok}{t_AGAIN_2:Tok}(y_AGAIN:Q7 K mainGlobals "AGAIN"=some (some (.ref a_AGAIN)))(d_AGAIN:K.lookup a_AGAIN=some ⟨.type "tuple",od_AGAIN,.seq #[.str "letter" t_AGAIN_0,.str "mark" t_AGAIN_1,.str "over" t_AGAIN_2] n_AGAIN,sl_AGAIN⟩){tMARK tLETTER tFIGURES:Tok}(y_MARK:Q7 K mainGlobals "MARK"=some (some (.int 0 tMARK)))(y_LETTER:Q7 K mainGlobals "LETTER"=some (some (.int 2 tLETTER)))(y_FIGURES:Q7 K mainGlobals "FIGURES"=some (some (.int 1 tFIGURES)))
  : ∃ fd:FuncData,(∀ (s:Shared) (v:Value),BindsTo s fd ⟨[v],[]⟩ [("_law_script",v)])/\∀ base:Heap,K.In base->base.Ns mainGlobals mg->FnOk l.prog w K mg base E8 9 fa fd ["_law_script"] (spLaw K):=by
 have e:=lF.symm.trans (c0 X G a52);cases e;have T:Txt l.prog w K mg C:=⟨⟨pgC,hdC,poC,saC⟩,nC_figures,nC_behind,nC_jobs,nC_letter_line,nC_mark_line,nC_made,k7 X G z_any,k7 X G z_dict,k7 X G z_enumerate,k7 X G z_int,k7 X G z_len,k7 X G z_list,k7 X G z_min,k7 X G z_ord,k7 X G z_range,k7 X G z_str,k7 X G z_tuple,k7 X G z_zip,⟨_,c0 X G y_MARK⟩,⟨_,c0 X G y_LETTER⟩,⟨_,c0 X G y_FIGURES⟩,⟨_,c0 X G y_JOBS,aoD d_JOBS s_JOBS (.cons ⟨iW _ _,e_JOBS_0,⟨_,rfl⟩⟩ ( .cons ⟨iW _ _,e_JOBS_1,⟨_,rfl⟩⟩ ( .cons ⟨iW _ _,e_JOBS_2,⟨_,rfl⟩⟩ ( .cons ⟨iW _ _,e_JOBS_3,⟨_,rfl⟩⟩ ( .cons ⟨iW _ _,e_JOBS_4,⟨_,rfl⟩⟩ ( .nil)))))) (by decide +kernel)⟩,⟨_,c0 X G y_AGAIN,fun H=>.inr ⟨_,_,_,d_AGAIN,rfl,rfl,(by show 3<=sizeLine;decide),.cons ⟨_,rfl⟩ ( .cons ⟨_,rfl⟩ ( .cons ⟨_,rfl⟩ ( .nil)))⟩⟩⟩
 have F14:=t7 (st:=dP) l14 c14;have F15:=t7 (st:=gE) l15 c15;have F16:=t7 (st:=gF) l16 c16;have F17:=t7 (st:=dQ) l17 c17;have F20:=t7 (st:=s_cut) l20 c20;have F21:=t7 (st:=gH) l21 c21;have F22:=t7 (st:=dR) l22 c22;have F29:=t7 (st:=Y4) l29 c29;have F35:=t7 (st:=s_key) l35 c35;have F52:=t7 (st:=s_law) l52 c52;refine ⟨U3 "law" "law" (V9 s_law) (V2 s_law) (C3 s_law) .none kV52 dc52 pm52 an52 cd52 ct52,fun s v=>.of_eq rfl,fun base hb hn=>?_⟩;have G_told:=d0.go X G hb fun F=>aqa F T
 have G_followers:=d1.go X G hb fun F=>ahr F T G_told
 have G_count_ahead:=d2.go X G hb fun F=>afl F T
 have G_lined_up:=d3.go X G hb fun F=>aib F T G_followers G_count_ahead
 have G_is_figure:=d4.go X G hb fun F=>aht F T
 have G_has_rule:=d5.go X G hb fun F=>aie F T
 have G_pieces_told:=d6.go X G hb fun F=>afn F T
 have G_is_clash:=d7.go X G hb fun F=>aig F T G_is_figure
 have G_jobs_of:=d8.go X G hb fun F=>ajP F T G_has_rule G_pieces_told G_is_clash
 have G_misused:=d9.go X G hb fun F=>ajQ F T
 have G_check_letters:=d10.go X G hb fun F=>aep F T G_misused
 have G_line_of:=d11.go X G hb fun F=>ajS F T G_lined_up
 have G_forms_of:=d12.go X G hb fun F=>aih F T
 have G_steps_of:=d13.go X G hb fun F=>aii F T G_forms_of
 have G_Order___init__:KO l.prog w K mg base 5 C "Order" ["self", "rules"] (wS C):=⟨_,_,aej F14 T G_has_rule G_jobs_of G_check_letters G_line_of G_steps_of,⟨mkC,a14,i14,kcC⟩,c0 X G aC,.all (len2 fun _ _=>rfl)⟩
 have G_Order_letters:MO l.prog w K mg base 1 C "letters" ["self"] (ak7 C):=⟨_,_,aer F15 T,T.cl,⟨a15,i15,k15⟩,.all (len1 fun _=>rfl)⟩
 have G_Order_marks:MO l.prog w K mg base 1 C "marks" ["self"] (aiR C):=⟨_,_,afp F16 T,T.cl,⟨a16,i16,k16⟩,.all (len1 fun _=>rfl)⟩
 have G_Order_job:MO l.prog w K mg base 1 C "job" ["self", "piece"] (anr C):=⟨_,_,ahw F17 T,T.cl,⟨a17,i17,k17⟩,.all (len2 fun _ _=>rfl)⟩
 have G_figures_at:=d18.go X G hb fun F=>agq F T G_is_figure
 have G_part_at:=d19.go X G hb fun F=>ajT F T G_is_figure G_figures_at
 have G_cut:FO l.prog w K mg base 4 "cut" ["known", "text", "figures"] [.bl false] (rW K):=⟨_,_,anB F20 T G_part_at,c0 X G a20,k20,[.bool false],(fun s us K2 hl=>by obtain ⟨u1,u2,rfl⟩:=anu hl;exact iV K2 rfl dl20 rfl rfl rfl),.cons rfl .nil⟩
 have G3_cut:FO l.prog w K mg base 4 "cut" ["known", "text", "figures"] [] (rW K):=⟨_,_,anB F20 T G_part_at,c0 X G a20,k20,[],(fun s us K2 hl=>by obtain ⟨u1,u2,u3,rfl⟩:=aiX hl;exact iV K2 rfl dl20 rfl rfl rfl),.nil⟩
 have G_Order_known:MO l.prog w K mg base 1 C "known" ["self"] (xA C):=⟨_,_,afr F21 T,T.cl,⟨a21,i21,k21⟩,.all (len1 fun _=>rfl)⟩
 have G_Order_steps:MO l.prog w K mg base 1 C "steps" ["self", "piece"] (rX C):=⟨_,_,aft F22 T,T.cl,⟨a22,i22,k22⟩,.all (len2 fun _ _=>rfl)⟩
 have G_parts_of:=d23.go X G hb fun F=>aik F T G3_cut G_Order_known
 have G_steps_by:=d24.go X G hb fun F=>aim F T G_is_figure G_Order_steps
 have G_add_mark:=d25.go X G hb fun F=>aio F T
 have G_add_part:=d26.go X G hb fun F=>aip F T G_steps_by G_add_mark
 have G_units:=d27.go X G hb fun F=>am1 F T G_parts_of G_add_part
 have G_looks:=d28.go X G hb fun F=>am2 F T G_units
 have G_compare:FO l.prog w K mg base 8 "compare" ["order", "one", "other", "strength"] [.int 4] (sC C):=⟨_,_,afZ F29 T G_looks,c0 X G a29,k29,[.int 4 _],(fun s us K2 hl=>by obtain ⟨u1,u2,u3,rfl⟩:=alx hl;exact iV K2 rfl dl29 rfl rfl rfl),.cons ⟨_,rfl⟩ .nil⟩
 have G3_compare:FO l.prog w K mg base 8 "compare" ["order", "one", "other", "strength"] [] (sC C):=⟨_,_,afZ F29 T G_looks,c0 X G a29,k29,[],(fun s us K2 hl=>by obtain ⟨u1,u2,u3,u4,rfl⟩:=ao5 hl;exact iV K2 rfl dl29 rfl rfl rfl),.nil⟩
 have G_first_numbers:=d30.go X G hb fun F=>aet F T
 have G_first_level:=d31.go X G hb fun F=>afu F T G_first_numbers
 have G_second_level:=d32.go X G hb fun F=>aff F T
 have G_third_level:=d33.go X G hb fun F=>afw F T
 have G_fourth_level:=d34.go X G hb fun F=>afh F T
 have G_key:FO l.prog w K mg base 7 "key" ["order", "text", "strength"] [.int 4] (spKey C):=⟨_,_,anC F35 T G_units G_first_level G_second_level G_third_level G_fourth_level,c0 X G a35,k35,[.int 4 _],(fun s us K2 hl=>by obtain ⟨u1,u2,rfl⟩:=anu hl;exact iV K2 rfl dl35 rfl rfl rfl),.cons ⟨_,rfl⟩ .nil⟩
 have G3_key:FO l.prog w K mg base 7 "key" ["order", "text", "strength"] [] (spKey C):=⟨_,_,anC F35 T G_units G_first_level G_second_level G_third_level G_fourth_level,c0 X G a35,k35,[],(fun s us K2 hl=>by obtain ⟨u1,u2,u3,rfl⟩:=aiX hl;exact iV K2 rfl dl35 rfl rfl rfl),.nil⟩
 have G_l_cell_at:=d36.go X G hb fun F=>ahy F T
 have G_l_sign:=d37.go X G hb fun F=>alH F T G_l_cell_at
 have G_l_letters:=d38.go X G hb fun F=>ahz F T G_l_cell_at G_l_sign
 have G_l_part:=d39.go X G hb fun F=>alJ F T
 have G_l_two:=d40.go X G hb fun F=>am4 F T G_l_sign
 have G_l_others:=d41.go X G hb fun F=>air F T G_l_cell_at G_l_sign G_l_part G_l_two
 have G_l_rules:=d42.go X G hb fun F=>ajU F T G_l_cell_at G_l_letters G_l_two G_l_others
 have G_l_row_of:=d43.go X G hb fun F=>ais F T
 have G_l_forms:=d44.go X G hb fun F=>ajV F T
 have G_l_makes:=d45.go X G hb fun F=>ajW F T G_l_row_of G_l_forms
 have G_l_pieces:=d46.go X G hb fun F=>ait F T
 have G_l_bare:=d47.go X G hb fun F=>alL F T
 have G_l_changed:=d48.go X G hb fun F=>ahA F T G_l_bare
 have G_l_numbers_put:=d49.go X G hb fun F=>aeu F T
 have G_l_marked:=d50.go X G hb fun F=>aiu F T G_l_row_of
 have G_l_texts:=d51.go X G hb fun F=>ajX F T G_l_cell_at G_l_makes G_l_pieces G_l_changed G_l_marked
 exact arU F52 T G_Order___init__ G3_compare G3_key G_l_rules G_l_numbers_put G_l_texts
theorem walk{l:PySem.W.OpenLaw}{q:Program}{XP:(Str->Option Value)->Heap->Prop}{YP:World->Heap->Prop}{d:DefRec}{K:Params->PySem.W.Frag}(hn:l.most=some 63)(aO:d.params.defaults=[])(hY:∀ (w:World) (h:Heap),YP w h->(K w.params).In h)(F:∀ (w:World) (mg:Str->Option Value) (fa:Addr) (h:Heap),(K w.params).In h->h.Ns mainGlobals mg->mg d.name=some (.ref fa)->
   ∃ fd:FuncData,(∀ (s:Shared) (u:Value),BindsTo s fd ⟨[u],[]⟩ [("_law_script",u)])/\∀ base:Heap,(K w.params).In base->base.Ns mainGlobals mg->FnOk l.prog w (K w.params) mg base E8 9 fa fd ["_law_script"] (spLaw (K w.params))) :
  PySem.W.WalkO q loose XP YP l.row.toRowW d [] (fun f vs=>PySem.call f vs):=
 L2.walk_of (n:=63) (k:=9) (x:="_law_script") (CX:=fun _=>E8) (sp:=fun w=>spLaw (K w.params)) hn (by decide) aO ⟨rfl,by decide,by decide,rfl⟩ hY F (fun _ _ a ns hl _ hS=>⟨a,ns,rfl,hS,hl,fun _=>rfl⟩) fun _ _ _ _ _ z=>z
end K42
open PySem PySem.W PyProof.Rows
set_option maxRecDepth 100000 in
set_option maxHeartbeats 0 in
theorem PySem.Challenge.cw_sortlore_k42_whole_keys_put_texts_holds : PySem.Challenge.rw_sortlore_k42_whole_keys_put_texts.Holds := by
 w_on;o_law;k_head;(case hw=>w_witness2)
 k_fill
 refine K42.walk (l:=PySem.Challenge.rw_sortlore_k42_whole_keys_put_texts) rfl rfl (fun w h Y=>PySem.W.kIn_of Y) ?F
 case F=>
  intro w mg fa h KX G oK
  refine' K42.all_mk KX G oK ?d0 ?d1 ?d2 ?d3 ?d4 ?d5 ?d6 ?d7 ?d8 ?d9 ?d10 ?d11 ?d12 ?d13 ?a14 ?i14 ?l14 ?c14 ?k14 ?a15 ?i15 ?l15 ?c15 ?k15 ?a16 ?i16 ?l16 ?c16 ?k16 ?a17 ?i17 ?l17 ?c17 ?k17 ?d18 ?d19 ?dl20 ?a20 ?l20 ?c20 ?k20 ?a21 ?i21 ?l21 ?c21 ?k21 ?a22 ?i22 ?l22 ?c22 ?k22 ?d23 ?d24 ?d25 ?d26 ?d27 ?d28 ?dl29 ?a29 ?l29 ?c29 ?k29 ?d30 ?d31 ?d32 ?d33 ?d34 ?dl35 ?a35 ?l35 ?c35 ?k35 ?d36 ?d37 ?d38 ?d39 ?d40 ?d41 ?d42 ?d43 ?d44 ?d45 ?d46 ?d47 ?d48 ?d49 ?d50 ?d51 ?a52 ?l52 ?c52 ?k52 ?aC ?pgC ?hdC ?poC ?saC ?mkC ?kcC ?nC_figures ?nC_behind ?nC_jobs ?nC_letter_line ?nC_mark_line ?nC_made ?z_any ?z_dict ?z_enumerate ?z_int ?z_len ?z_list ?z_min ?z_ord ?z_range ?z_str ?z_tuple ?z_zip ?y_JOBS ?d_JOBS ?s_JOBS ?e_JOBS_0 ?e_JOBS_1 ?e_JOBS_2 ?e_JOBS_3 ?e_JOBS_4 ?y_AGAIN ?d_AGAIN ?y_MARK ?y_LETTER ?y_FIGURES
  any_goals (refine' K42.df_mk ?da ?dl ?dc ?dk;(case da=>k_is);(case dl=>k_is);(case dc=>k_is);(case dk=>k_is))
  (case aC=>k_is)
  (case a14=>k_is)
  (case i14=>k_is)
  (case l14=>k_is)
  (case c14=>k_is)
  (case k14=>k_is)
  (case a15=>k_is)
  (case i15=>k_is)
  (case l15=>k_is)
  (case c15=>k_is)
  (case k15=>k_is)
  (case a16=>k_is)
  (case i16=>k_is)
  (case l16=>k_is)
  (case c16=>k_is)
  (case k16=>k_is)
  (case a17=>k_is)
  (case i17=>k_is)
  (case l17=>k_is)
  (case c17=>k_is)
  (case k17=>k_is)
  (case a20=>k_is)
  (case l20=>k_is)
  (case c20=>k_is)
  (case k20=>k_is)
  (case a21=>k_is)
  (case i21=>k_is)
  (case l21=>k_is)
  (case c21=>k_is)
  (case k21=>k_is)
  (case a22=>k_is)
  (case i22=>k_is)
  (case l22=>k_is)
  (case c22=>k_is)
  (case k22=>k_is)
  (case a29=>k_is)
  (case l29=>k_is)
  (case c29=>k_is)
  (case k29=>k_is)
  (case a35=>k_is)
  (case l35=>k_is)
  (case c35=>k_is)
  (case k35=>k_is)
  (case a52=>k_is)
  (case l52=>k_is)
  (case c52=>k_is)
  (case k52=>k_is)
  (case pgC=>k_is)
  (case hdC=>k_is)
  (case poC=>k_is)
  (case saC=>k_is)
  (case mkC=>k_is)
  (case kcC=>k_is)
  (case nC_figures=>k_is)
  (case nC_behind=>k_is)
  (case nC_jobs=>k_is)
  (case nC_letter_line=>k_is)
  (case nC_mark_line=>k_is)
  (case nC_made=>k_is)
  (case z_any=>k_is)
  (case z_dict=>k_is)
  (case z_enumerate=>k_is)
  (case z_int=>k_is)
  (case z_len=>k_is)
  (case z_list=>k_is)
  (case z_min=>k_is)
  (case z_ord=>k_is)
  (case z_range=>k_is)
  (case z_str=>k_is)
  (case z_tuple=>k_is)
  (case z_zip=>k_is)
  (case y_JOBS=>k_is)
  (case d_JOBS=>k_is)
  (case s_JOBS=>rfl)
  (case e_JOBS_0=>rfl)
  (case e_JOBS_1=>rfl)
  (case e_JOBS_2=>rfl)
  (case e_JOBS_3=>rfl)
  (case e_JOBS_4=>rfl)
  (case y_AGAIN=>k_is)
  (case d_AGAIN=>k_is)
  (case y_MARK=>k_is)
  (case y_LETTER=>k_is)
  (case y_FIGURES=>k_is)
  (case dl20=>k_is)
  (case dl29=>k_is)
  (case dl35=>k_is)
